import PyProof.Rows.All
import Wide.All
import OpenK.AllK
import Wide.FinOn
import Lean
import PyProof.EqAt
import PyProof.EqKinds
import PyProof.TupleCall
import KE.KRevIter
import KE.KStateDown
import PyProof.Rows.Range3
import PyProof.Draws
import PyProof.EnumMake
import PyProof.EnumStmt
import PyProof.StrWalks
import PyProof.Rows.LoopPairPat
import PyProof.Rows.EnumRows
import PyProof.SliceStr2
import PyProof.ListStr
import PySem.Challenge.RW_letterform_k07_read_or_refused
set_option Elab.async false
set_option linter.all false
set_option maxRecDepth 100000
set_option maxHeartbeats 4000000
local macro_rules | `(tactic| omega)=>`(tactic| lia)
namespace L2
open PySem PySem.Spec PyProof.Rows
abbrev Key:=Sum Int Str
def jdt:Key->Value->Bool
 | .inl k,v=>Value.isInt k v
 | .inr x,v=>Value.isStrOf x v
def keyH (w:World):Key->Int
 | .inl k=>hashInt k
 | .inr x=>hashStr w x
theorem jaO:∀ {k:Key} {v:Value},jdt k v=true->(∃ i t,k=Sum.inl i/\v=Value.int i t)\/(∃ x t,k=Sum.inr x/\v=Value.str x t)
 | .inl i,v,h=>by
  obtain ⟨t,e⟩:=Value.isInt_shape (k:=i) (v:=v) h
  exact .inl ⟨i,t,rfl,e⟩
 | .inr x,v,h=>by
  obtain ⟨t,e⟩:=Value.isStrOf_shape (x:=x) (v:=v) h
  exact .inr ⟨x,t,rfl,e⟩
theorem jin (i:Int) (t:Tok):jdt (.inl i) (.int i t)=true:=by simp [jdt,Value.isInt]
theorem jio (x:Str) (t:Tok):jdt (.inr x) (.str x t)=true:=by simp [jdt,Value.isStrOf]
theorem joj (a b:Int):decide ((Sum.inl a:Key)=Sum.inl b)=(a==b):=by
 by_cases e:a=b
 ·subst e; simp
 ·have h:¬ (Sum.inl a:Key)=Sum.inl b:=fun q=>e (Sum.inl.inj q)
  rw [decide_eq_false h]
  exact (beq_eq_false_iff_ne.mpr e).symm
theorem jok (a b:Str):decide ((Sum.inr a:Key)=Sum.inr b)=decide (a=b):=by
 by_cases e:a=b
 ·subst e; simp
 ·have h:¬ (Sum.inr a:Key)=Sum.inr b:=fun q=>e (Sum.inr.inj q)
  rw [decide_eq_false h,decide_eq_false e]
theorem jol (a:Int) (b:Str):decide ((Sum.inl a:Key)=Sum.inr b)=false:=decide_eq_false (fun q=>nomatch q)
theorem jom (a:Str) (b:Int):decide ((Sum.inr a:Key)=Sum.inl b)=false:=decide_eq_false (fun q=>nomatch q)
def jaC (prog:Program) (w:World):PySem.KeyKind prog w Key where
 is:=jdt
 hash:=keyH w
 inj:=fun v a b ha hb=>by
  rcases jaO ha with ⟨i,t,rfl,rfl⟩ | ⟨x,t,rfl,rfl⟩
  ·rcases jaO hb with ⟨j,u,rfl,e⟩ | ⟨y,u,rfl,e⟩
   ·injection e with e1 _; rw [e1]
   ·exact nomatch e
  ·rcases jaO hb with ⟨j,u,rfl,e⟩ | ⟨y,u,rfl,e⟩
   ·exact nomatch e
   ·injection e with e1 _; rw [e1]
 byValue:=fun k v h=>by
  rcases jaO h with ⟨i,t,rfl,rfl⟩ | ⟨x,t,rfl,rfl⟩ <;> rfl
 pyHash:=fun hv h=>by
  rcases jaO hv with ⟨i,t,rfl,rfl⟩ | ⟨x,t,rfl,rfl⟩
  ·exact wpAny_pyHash_int h
  ·exact wpAny_pyHash_str h
 eqBool:=fun hu hv h=>by
  rcases jaO hu with ⟨i,t,rfl,rfl⟩ | ⟨x,t,rfl,rfl⟩
  ·rcases jaO hv with ⟨j,u,rfl,rfl⟩ | ⟨y,u,rfl,rfl⟩
   ·rw [joj] at h; exact wpAny_eqBool_int h
   ·rw [jol] at h; exact SeqAt.EqAt.int_str i t y u _ _ _ _ h
  ·rcases jaO hv with ⟨j,u,rfl,rfl⟩ | ⟨y,u,rfl,rfl⟩
   ·rw [jom] at h; exact SeqAt.EqAt.str_int x t j u _ _ _ _ h
   ·rw [jok] at h; exact wpAny_eqBool_str h
 «strs»:=fun k x t v h=>by
  rcases jaO h with ⟨i,u,rfl,e⟩ | ⟨y,u,rfl,e⟩
  ·exact nomatch e
  ·injection e with e1 _
   subst e1
   cases v <;> rfl
theorem jgd (prog:Program) (w:World) (i:Int) (t:Tok):(jaC prog w).is (.inl i) (.int i t)=true:=jin i t
theorem jge (prog:Program) (w:World) (x:Str) (t:Tok):(jaC prog w).is (.inr x) (.str x t)=true:=jio x t
inductive V where
 | non | bl (b:Bool) | int (i:Int) | str (x:Str) | byt (b:Array UInt8) | flt (b:UInt64) | ref (a:Addr) | ty (n:String)
 deriving DecidableEq
def RelV:V->Value->Prop
 | .non,u=>u=Value.none
 | .bl b,u=>u=Value.bool b
 | .int i,u=>∃ t,u=Value.int i t
 | .str x,u=>∃ t,u=Value.str x t
 | .byt b,u=>∃ t,u=Value.bytes b t
 | .flt b,u=>∃ t,u=Value.float b t
 | .ref a,u=>u=Value.ref a
 | .ty n,u=>u=Value.type n
abbrev Vals:List V->List Value->Prop:=Paired RelV
theorem Vals.length {xs:List V} {us:List Value} (r:Vals xs us):xs.length=us.length:=Paired.length r
theorem Vals.get:∀ {xs:List V} {us:List Value} {i:Nat} {x:V},Vals xs us->xs[i]?=some x->∃ u,us[i]?=some u/\RelV x u
 | _,_,_,_,.nil,e=>by simp at e
 | _,_,0,_,.cons r _,e=>by simp at e; subst e; exact ⟨_,rfl,r⟩
 | _,_,i+1,x,.cons _ t,e=>by
  obtain ⟨u,h1,h2⟩:=Vals.get (i:=i) (x:=x) t (by simpa using e)
  exact ⟨u,by simpa using h1,h2⟩
theorem Vals.append:∀ {xs ys:List V} {us ws:List Value},Vals xs us->Vals ys ws->Vals (xs++ys) (us++ws)
 | _,_,_,_,.nil,s=>s
 | _,_,_,_,.cons r t,s=>.cons r (Vals.append t s)
theorem Vals.take:∀ {xs:List V} {us:List Value} (n:Nat),Vals xs us->Vals (xs.take n) (us.take n)
 | _,_,0,_=>.nil
 | _,_,_+1,.nil=>.nil
 | _,_,n+1,.cons r t=>.cons r (Vals.take n t)
theorem Vals.drop:∀ {xs:List V} {us:List Value} (n:Nat),Vals xs us->Vals (xs.drop n) (us.drop n)
 | _,_,0,r=>r
 | _,_,_+1,.nil=>.nil
 | _,_,n+1,.cons _ t=>Vals.drop n t
def RelO:Option V->Option Value->Prop
 | some v,some u=>RelV v u
 | none,none=>True
 | _,_=>False
def KV {κ:Type}:List (κ×V)->List (κ×Value)->Prop:=Paired fun (p:κ×V) (q:κ×Value)=>p.1=q.1/\RelV p.2 q.2
def kV:Key->V
 | .inl i=>.int i
 | .inr x=>.str x
inductive HO where
  | lst (xs:List V)
  | tup (xs:List V)
  | dK (kvs:List (Key×V)) | dT (kvs:List (List Key×V))
  | set (S:Int->Bool) (n:Nat)
  | ins (C dx:Addr) (fs:List (Str×V))
  | own (x:Addr)
  | xd (fs:List (Str×V))
  | met (f x:Addr)
  | rng (lo hi:Int)
  | frz (o:Obj) (u:HO)
  | tbl (ps:Array Value)
  | ext (φ:Heap->Prop)
abbrev Hp:=Addr->Option HO
def upd (H:Hp) (a:Addr) (o:HO):Hp:=fun b=>if b=a then some o else H b
theorem jab {H:Hp} {a:Addr} {o:HO}:upd H a o a=some o:=by unfold upd; rw [if_pos rfl]
theorem upd_ne {H:Hp} {a b:Addr} {o:HO} (h:b≠a):upd H a o b=H b:=by unfold upd; rw [if_neg h]
theorem jbj {H:Hp} {a b:Addr} {o u:HO} (h:H a=some o) (h':H b=some u) (d:o≠u):a≠b:=by
 intro e; subst e; rw [h] at h'; exact d (Option.some.inj h')
theorem ne_of_none {H:Hp} {a b:Addr} {o:HO} (h:H a=some o) (h':H b=none):a≠b:=by
 intro e; subst e; rw [h] at h'; cases h'
section
variable (P:Program) (w:World)
def ObjOk (H:Hp) (h:Heap) (a:Addr):HO->Prop
 | .lst xs=>xs.length<=sizeLine/\∃ (its:List Value) (n:Nat),Vals xs its/\h.get? a=some {cls:=.type "list",data:=.seq its.toArray n}
 | .tup xs=>xs.length<=sizeLine/\∃ its:List Value,Vals xs its/\IsTup h a its.toArray
 | .dK kvs=>kvs.length<=sizeLine/\(a==sysModules)=false/\∃ vs,KV kvs vs/\h.DictOf (jaC P w) a vs
 | .dT kvs=>kvs.length<=sizeLine/\(a==sysModules)=false/\∃ xs:List (List Key×Addr×Value),
   Paired (fun (p:List Key×V) (q:List Key×Addr×Value)=>p.1=q.1/\H q.2.1=some (.tup (p.1.map kV))/\RelV p.2 q.2.2) kvs xs /\
   ∃ o es ep,h.get? a=some o/\o.ExactDict/\o.data=.dict es ep/\es.toList=xs.map (entryOfKey (tupleKind (jaC P w)))/\(xs.map (·.1)).Nodup
 | .set S n=>h.SetOf (intKind P w) a S n
 | .ins C dx fs=>H dx=some (.own a)/\fs.length<=1000/\dx≠a/\h.get? a=some (PySem.W.instObj C dx) /\
   ∃ mA,h.Ns1 dx mA/\(∀ f,RelO (fs.lookup f) (mA f))/\PySem.Within mA (fs.map (·.1))
 | .own _=>∃ o,h.get? a=some o
 | .xd fs=>∃ mA,h.Ns1 a mA/\∀ f,RelO (fs.lookup f) (mA f)
 | .rng lo hi=>∃ t u v,h.get? a=some {cls:=.type "range",data:=.fields #[.int lo t,.int hi u,.int 1 v]}
 | .frz o u=>h.get? a=some o/\ObjOk H h a u
 | .tbl ps=>h.get? a=some {cls:=.none,data:=.fields ps}
 | .met f x=>h.get? a=some (PySem.W.methodObj (.ref f) (.ref x))
 | .ext φ=>φ h/\(∃ o,h.get? a=some o)/\∀ h1 h2:Heap,φ h1->(∀ o,h1.get? a=some o->h2.get? a=some o)->φ h2
def HOk (H:Hp) (h:Heap):Prop:=∀ a o,H a=some o->ObjOk P w H h a o
end
section
variable {P:Program} {w:World} {H H':Hp} {h h':Heap} {a:Addr} {o:HO}
theorem ObjOk.lt (x:ObjOk P w H h a o):a < h.objs.size:=by
 cases o with
 | lst xs=>obtain ⟨_,_,_,_,e⟩:=x; exact Heap.lt_size e
 | tup xs=>obtain ⟨_,_,_,p⟩:=x; exact p.lt
 | dK kvs=>obtain ⟨_,_,_,_,o,_,_,e,_⟩:=x; exact Heap.lt_size e
 | dT kvs=>obtain ⟨_,_,_,_,o,_,_,e,_⟩:=x; exact Heap.lt_size e
 | set S n=>obtain ⟨o,_,_,_,e,_⟩:=x; exact Heap.lt_size e
 | ins C dx fs=>obtain ⟨_,_,_,e,_⟩:=x; exact Heap.lt_size e
 | own y=>obtain ⟨_,e⟩:=x; exact Heap.lt_size e
 | xd fs=>obtain ⟨_,⟨_,_,_,e,_⟩,_⟩:=x; exact Heap.lt_size e
 | rng lo hi=>obtain ⟨_,_,_,e⟩:=x; exact Heap.lt_size e
 | frz ob u=>obtain ⟨e,_⟩:=x; exact Heap.lt_size e
 | tbl ps=>exact Heap.lt_size (show h.get? a=some _ from x)
 | met f y=>exact Heap.lt_size (show h.get? a=some _ from x)
 | ext φ=>obtain ⟨_,⟨_,e⟩,_⟩:=x; exact Heap.lt_size e
theorem Paired.mapP {α β:Type} {F G:α->β->Prop}:∀ {l₁:List α} {l₂:List β},Paired F l₁ l₂->(∀ a b,F a b->G a b)->Paired G l₁ l₂
 | _,_,.nil,_=>.nil
 | _,_,.cons r t,f=>.cons (f _ _ r) (Paired.mapP t f)
theorem ObjOk.stay (x:ObjOk P w H h a o) (k:∀ b u,(b=a\/H b=some (.own a))->h.get? b=some u->h'.get? b=some u)
  (ho:∀ b,H b=some (.own a)->H' b=some (.own a)) (ht:∀ b xs,H b=some (.tup xs)->H' b=some (.tup xs)):ObjOk P w H' h' a o:=by
 induction o with
 | lst xs=>obtain ⟨z,its,n,r,e⟩:=x; exact ⟨z,its,n,r,k _ _ (.inl rfl) e⟩
 | tup xs=>obtain ⟨z,its,r,ob,e,c⟩:=x; exact ⟨z,its,r,ob,k _ _ (.inl rfl) e,c⟩
 | dK kvs=>obtain ⟨z,y,vs,r,ob,es,ep,e,c⟩:=x; exact ⟨z,y,vs,r,ob,es,ep,k _ _ (.inl rfl) e,c⟩
 | dT kvs =>
  obtain ⟨z,y,xs,r,ob,es,ep,e,c⟩:=x
  exact ⟨z,y,xs,Paired.mapP r fun p q z=>⟨z.1,ht _ _ z.2.1,z.2.2⟩,ob,es,ep,k _ _ (.inl rfl) e,c⟩
 | set S n=>obtain ⟨ob,es,ep,t,e,c⟩:=x; exact ⟨ob,es,ep,t,k _ _ (.inl rfl) e,c⟩
 | ins C dx fs =>
  obtain ⟨d,z,ne,e,mA,⟨od,es,ep,e2,c⟩,r⟩:=x
  exact ⟨ho _ d,z,ne,k _ _ (.inl rfl) e,mA,⟨od,es,ep,k _ _ (.inr d) e2,c⟩,r⟩
 | own y=>obtain ⟨ob,e⟩:=x; exact ⟨ob,k _ _ (.inl rfl) e⟩
 | xd fs=>obtain ⟨mA,⟨od,es,ep,e,c⟩,r⟩:=x; exact ⟨mA,⟨od,es,ep,k _ _ (.inl rfl) e,c⟩,r⟩
 | rng lo hi=>obtain ⟨t,u,v,e⟩:=x; exact ⟨t,u,v,k _ _ (.inl rfl) e⟩
 | frz ob u ih=>obtain ⟨e,q⟩:=x; exact ⟨k _ _ (.inl rfl) e,ih q⟩
 | tbl ps =>
  have e:h.get? a=some {cls:=.none,data:=.fields ps}:=x
  show h'.get? a=some {cls:=.none,data:=.fields ps}
  exact k a _ (.inl rfl) e
 | met f y =>
  have e:h.get? a=some (PySem.W.methodObj (.ref f) (.ref y)):=x
  show h'.get? a=some (PySem.W.methodObj (.ref f) (.ref y))
  exact k a _ (.inl rfl) e
 | ext φ=>obtain ⟨p,⟨o,e⟩,st⟩:=x; exact ⟨st _ _ p fun o q=>k _ _ (.inl rfl) q,⟨o,k _ _ (.inl rfl) e⟩,st⟩
theorem HOk.lt (x:HOk P w H h) (e:H a=some o):a < h.objs.size:=(x a o e).lt
theorem HOk.fresh (x:HOk P w H h) (e:h.objs.size<=a):H a=none:=by
 cases q:H a with
 | none=>rfl
 | some u=>exact absurd (Nat.lt_of_lt_of_le (x.lt q) e) (Nat.lt_irrefl _)
theorem HOk.kept (x:HOk P w H h) (k:∀ b u,h.get? b=some u->h'.get? b=some u):HOk P w H h':=fun a o e =>
 (x a o e).stay (fun b u _ q=>k b u q) (fun _ q=>q) fun _ _ q=>q
theorem HOk.laid (x:HOk P w H h) (k:∀ b u,h.get? b=some u->h'.get? b=some u) (hp:h.objs.size<=a) (new:ObjOk P w (upd H a o) h' a o):HOk P w (upd H a o) h':=fun b u e=>by
 have hn:=x.fresh hp
 by_cases hb:b=a
 ·subst hb; rw [jab] at e; cases e; exact new
 ·rw [upd_ne hb] at e
  exact (x b u e).stay (fun c v _ q=>k c v q) (fun c q=>by rw [upd_ne (ne_of_none q hn)]; exact q) fun c xs q=>by rw [upd_ne (ne_of_none q hn)]; exact q
end
def Rd (H:Hp) (a:Addr) (u:HO):Prop:=H a=some u\/∃ o,H a=some (.frz o u)
theorem Rd.ok {P:Program} {w:World} {H:Hp} {h:Heap} {a:Addr} {u:HO} (r:Rd H a u) (x:HOk P w H h):ObjOk P w H h a u:=by
 rcases r with r | ⟨o,r⟩
 ·exact x a u r
 ·obtain ⟨_,q⟩:=x a _ r
  exact q
def Mut:Option HO->Prop
 | some (.lst _)=>True
 | some (.dK _)=>True
 | some (.dT _)=>True
 | some (.set _ _)=>True
 | some (.ins _ _ _)=>True
 | some (.ext _)=>True
 | _=>False
section
variable {P:Program} {w:World} {H:Hp} {h h':Heap} {x e:Addr} {o':HO}
theorem HOk.write (ok:HOk P w H h) (mu:Mut (H x)) (he:e=x\/H e=some (.own x)) (k:∀ b u,b≠e->h.get? b=some u->h'.get? b=some u) (heo:∃ u,h'.get? e=some u)
  (new:ObjOk P w (upd H x o') h' x o'):HOk P w (upd H x o') h':=fun b u q=>by
 have nown:∀ c y,H c=some (.own y)->c≠x:=fun c y r z=>by subst z; rw [r] at mu; exact mu
 have ntup:∀ c xs,H c=some (.tup xs)->c≠x:=fun c xs r z=>by subst z; rw [r] at mu; exact mu
 by_cases hb:b=x
 ·subst hb; rw [jab] at q; cases q; exact new
 ·rw [upd_ne hb] at q
  by_cases hbe:b=e
  ·have q':H b=some (.own x):=by
    rcases he with z | z
    ·exact absurd (hbe.trans z) hb
    ·rw [hbe]; exact z
   rw [q] at q'; cases q'
   obtain ⟨v,hv⟩:=heo
   exact ⟨v,by rw [hbe]; exact hv⟩
  ·refine (ok b u q).stay (fun c v hc r=>k c v ?_ r) (fun c r=>by rw [upd_ne (nown c b r)]; exact r) fun c xs r=>by rw [upd_ne (ntup c xs r)]; exact r
   rcases hc with rfl | hc
   ·exact hbe
   ·rintro rfl
    rcases he with z | z
    ·exact nown c b hc z
    ·rw [hc] at z; cases z; exact hb rfl
end
structure Un (fs ex:List Addr) (H H':Hp) (h h':Heap):Prop where
 keep:∀ b o,h.get? b=some o->H b=none->b∉fs->b∉ex->h'.get? b=some o
 slot:∀ b o,h.get? b=some o->H b=none->b∈fs->b∉ex->∃ sl,h'.get? b=some {o with slots:=sl}
 free:∀ b o,h.get? b=some o->H b=none->b∉ex->H' b=none
 there:∀ b o,h.get? b=some o->b∉ex->∃ o',h'.get? b=some o'
 tups:∀ b xs,H b=some (.tup xs)->H' b=some (.tup xs)
 frzs:∀ b o u,H b=some (.frz o u)->H' b=some (.frz o u)
 tbls:∀ b ps,H b=some (.tbl ps)->∃ more,H' b=some (.tbl (ps++more))
section
variable {fs fs' ex ex':List Addr} {H H1 H2:Hp} {h h1 h2 h':Heap} {a x e:Addr} {o:HO}
theorem Un.any (u:Un fs ex H H1 h h1) {b:Addr} {ob:Obj} (q:h.get? b=some ob) (n:H b=none) (hx:b∉ex):∃ sl,h1.get? b=some {ob with slots:=sl}:=by
 by_cases hb:b∈fs
 ·exact u.slot b ob q n hb hx
 ·exact ⟨ob.slots,u.keep b ob q n hb hx⟩
theorem Un.kept (k:∀ b u,h.get? b=some u->h'.get? b=some u):Un fs ex H H h h' :=
 ⟨fun b ob q _ _ _=>k b ob q,fun b ob q _ _ _=>⟨ob.slots,k b ob q⟩,fun _ _ _ n _=>n,fun b ob q _=>⟨ob,k b ob q⟩,fun _ _ q=>q,fun _ _ _ q=>q,fun _ ps q=>⟨#[],by rw [q]; simp⟩⟩
theorem Un.refl:Un fs ex H H h h:=Un.kept fun _ _ q=>q
theorem Un.laid (k:∀ b u,h.get? b=some u->h'.get? b=some u) (hp:h.objs.size<=a) (hn:H a=none):Un fs ex H (upd H a o) h h' where
 keep:=fun b u q _ _ _=>k b u q
 slot:=fun b u q _ _ _=>⟨u.slots,k b u q⟩
 free:=fun b u q n _=>by rw [upd_ne (Nat.ne_of_lt (Nat.lt_of_lt_of_le (Heap.lt_size q) hp))]; exact n
 there:=fun b u q _=>⟨u,k b u q⟩
 tups:=fun b xs q=>by rw [upd_ne (ne_of_none q hn)]; exact q
 frzs:=fun b u xs q=>by rw [upd_ne (ne_of_none q hn)]; exact q
 tbls:=fun b ps q=>⟨#[],by rw [upd_ne (ne_of_none q hn),q]; simp⟩
theorem Un.write (mu:Mut (H x)) (he:e=x\/H e=some (.own x)) (k:∀ b u,b≠e->h.get? b=some u->h'.get? b=some u) (heo:∃ u,h'.get? e=some u):Un fs ex H (upd H x o) h h':=by
 have hx:∀ b,H b=none->b≠x:=fun b n z=>by subst z; rw [n] at mu; exact mu
 have hb:∀ b,H b=none->b≠e:=fun b n z=>by
  subst z
  rcases he with r | r
  ·exact hx b n r
  ·rw [n] at r; cases r
 have hm:∀ b u,H b=some u->¬ Mut (some u)->b≠x:=fun b u q nm z=>by subst z; rw [q] at mu; exact nm mu
 refine ⟨fun b u q n _ _=>k b u (hb b n) q,fun b u q n _ _=>⟨u.slots,k b u (hb b n) q⟩,fun b u q n _=>by rw [upd_ne (hx b n)]; exact n,fun b u q _=>?_,
  fun b xs q=>by rw [upd_ne (hm b _ q fun z=>z)]; exact q,fun b u xs q=>by rw [upd_ne (hm b _ q fun z=>z)]; exact q,fun b ps q=>⟨#[],by rw [upd_ne (hm b _ q fun z=>z),q]; simp⟩⟩
 by_cases hbe:b=e
 ·subst hbe; exact heo
 ·exact ⟨u,k b u hbe q⟩
end
def trk (h:Heap) (H:Hp):List Addr:=(List.range h.objs.size).filter fun a=>(H a).isSome
def jkE (h:Heap) (H:Hp):Heap:=PySem.W.hideAll h (trk h H)
theorem jip (h:Heap) (H:Hp):(jkE h H).objs.size=h.objs.size:=PySem.W.hideAll_size _ _
theorem jkF {h:Heap} {H:Hp} {b:Addr} {o:Obj} (e:h.get? b=some o) (n:H b=none):(jkE h H).get? b=some o :=
 PySem.W.hideAll_get _ e fun hm=>by
  have q:(H b).isSome=true:=(List.mem_filter.mp hm).2
  rw [n] at q; simp at q
theorem jmP {h:Heap} {H:Hp} {b:Addr} {o:Obj} (e:(jkE h H).get? b=some o):h.get? b=some o/\H b=none:=by
 have e':h.get? b=some o:=PySem.W.of_hideAll (trk h H) e
 refine ⟨e',?_⟩
 cases q:H b with
 | none=>rfl
 | some x =>
  have hm:b∈trk h H:=List.mem_filter.mpr ⟨List.mem_range.mpr (Heap.lt_size e'),by simp [q]⟩
  have z:(jkE h H).get? b=none:=PySem.W.hideAll_none (trk h H) hm
  rw [z] at e; cases e
structure Mod (K:PySem.W.Frag) (mg:Str->Option Value) (base:Heap):Prop where
 kin:K.In base
 glob:base.Ns mainGlobals mg
 blt:∃ mb,base.Ns builtinsNs mb/\∀ x:Str,x≠"__name__"->mb x=bootBuiltins x
 nolimit:base.NoLimit
structure Cx where
 prog:Program
 w:World
 K:PySem.W.Frag
 mg:Str->Option Value
 base:Heap
 A:Around
 N:List Str
 s₀:Shared
 H₀:Hp
 env:Env
 outer:List Env
 stack:List Env
 ex:List Addr
 fn:Str->Bool
 calm:Bool
 pn:List (Addr×Obj)
 xe:Value->Shared->Prop
def frs (l:List Env):List Addr:=l.filterMap (·.frame)
abbrev Cx.fs (X:Cx):List Addr:=frs X.outer
def Vis (sc:Scope) (x:Str):Prop:=sc.names.lookup x=some .local\/sc.names.lookup x=some .cell\/sc.names.lookup x=some .free
def Loc (sc:Scope) (x:Str):Prop:=sc.names.lookup x=some .local\/sc.names.lookup x=some .cell
def Look (env:Env) (h:Heap) (m:Str->Option Value) (x:Str) (u:Value):Prop :=
 (env.kindOf x=some .local/\m x=some u)\/((env.kindOf x=some .cell\/env.kindOf x=some .free)/\∃ c,env.cells.lookup x=some c/\h.IsCell c (some u))
structure Cx.Ok (X:Cx):Prop where
 mod:Mod X.K X.mg X.base
 kind:X.env.scope.kind=.function
 glob:X.env.globals=mainGlobals
 blt:X.env.builtins=builtinsNs
 above:X.s₀.heap.objs.size<=X.env.locals
 inj:∀ x y c,X.env.cells.lookup x=some c->X.env.cells.lookup y=some c->x=y
 has:∀ x,(X.env.kindOf x=some .cell\/X.env.kindOf x=some .free)->∃ c,X.env.cells.lookup x=some c
 cab:∀ x c,X.fn x=true->X.env.cells.lookup x=some c->X.s₀.heap.objs.size<=c
 hd:X.calm=true->X.A.handled=none
 frames:X.A.frames=some X.stack
 stk:X.stack=X.outer\/(X.stack=X.env::X.outer/\X.env.frame=some X.env.locals)
 exf:∀ b∈X.ex,b≠X.env.locals/\∀ x c,X.env.cells.lookup x=some c->c≠b
 bs:∀ b o,X.base.get? b=some o->X.s₀.heap.get? b=some o/\X.H₀ b=none
 bsz:X.base.objs.size<=X.s₀.heap.objs.size
 noex:∀ b o,X.base.get? b=some o->b∉X.ex
 exfs:∀ b∈X.ex,b∉X.fs
 funs:X.s₀.heap.FunFrames X.base X.outer
 frf:∀ b∈X.fs,X.H₀ b=none
structure Inv (X:Cx) (pins:List (Addr×Obj)) (σ:List (Option V)) (H:Hp) (s:Shared):Prop where
 ok:X.Ok
 os:s.os=X.s₀.os
 bare:AllBare s.gens
 base:Un X.fs X.ex X.H₀ H X.s₀.heap s.heap
 loc:∃ m,s.heap.Ns X.env.locals m/\∀ (i:Nat) (x:Str) (v:V),X.N[i]?=some x->σ[i]?=some (some v)->Vis X.env.scope x->∃ u,RelV v u/\Look X.env s.heap m x u
 cell:∀ x c,X.env.cells.lookup x=some c->∃ v,s.heap.IsCell c v
 free:H X.env.locals=none
 freeC:∀ x c,X.env.cells.lookup x=some c->H c=none
 pin:∀ p∈X.pn++pins,s.heap.get? p.1=some p.2/\H p.1=none/\p.1≠X.env.locals/\p.1∉X.fs/\∀ v,p.2.data≠.cell v
 hok:HOk X.prog X.w H s.heap
 len:σ.length=X.N.length
section
variable {X:Cx} {pins:List (Addr×Obj)} {σ:List (Option V)} {H H':Hp} {s:Shared} {h':Heap}
theorem Cx.Ok.nofr (ok:X.Ok) {b:Addr} {o:Obj} (e:X.base.get? b=some o):b∉X.fs:=fun hb=>by
 have:=(ok.funs.mem hb).1
 rw [e] at this; cases this
theorem Inv.bs (I:Inv X pins σ H s):∀ b o,X.base.get? b=some o->s.heap.get? b=some o/\H b=none:=fun b o e =>
 ⟨I.base.keep b o (I.ok.bs b o e).1 (I.ok.bs b o e).2 (I.ok.nofr e) (I.ok.noex b o e),I.base.free b o (I.ok.bs b o e).1 (I.ok.bs b o e).2 (I.ok.noex b o e)⟩
theorem Inv.bk (I:Inv X pins σ H s):∀ b o,X.base.get? b=some o->s.heap.get? b=some o:=fun b o e=>(I.bs b o e).1
theorem Inv.mod (I:Inv X pins σ H s):Mod X.K X.mg X.base:=I.ok.mod
theorem Inv.kIn (I:Inv X pins σ H s):X.K.In s.heap:=I.ok.mod.kin.keeps I.bk
theorem Inv.lt (I:Inv X pins σ H s):X.env.locals < s.heap.objs.size:=let ⟨_,hn,_⟩:=I.loc; hn.lt
theorem Inv.sz (I:Inv X pins σ H s):X.s₀.heap.objs.size<=s.heap.objs.size:=Nat.le_trans I.ok.above (Nat.le_of_lt I.lt)
theorem Inv.nofs (I:Inv X pins σ H s) {a:Addr} (h:s.heap.objs.size<=a):a∉X.fs:=fun hb=>by
 obtain ⟨_,o,ho,_⟩:=I.ok.funs.mem hb
 exact absurd (Nat.lt_of_lt_of_le (Heap.lt_size ho) (Nat.le_trans I.sz h)) (Nat.lt_irrefl _)
theorem Inv.cne (I:Inv X pins σ H s):∀ x c,X.env.cells.lookup x=some c->c≠X.env.locals:=fun x c e z=>by
 obtain ⟨v,o,ho,hd⟩:=I.cell x c e
 obtain ⟨m,⟨o',es,ep,ho',hd',_⟩,_⟩:=I.loc
 rw [z,ho'] at ho; cases ho; rw [hd'] at hd; cases hd
theorem Inv.funs (I:Inv X pins σ H s):s.heap.FunFrames X.base X.outer:=by
 have all:∀ (l:List Env),(∀ b∈frs l,b∈X.fs)->X.s₀.heap.FunFrames X.base l->s.heap.FunFrames X.base l:=by
  intro l
  induction l with
  | nil=>intro _ _; trivial
  | cons env r ih =>
   intro hs hl
   obtain ⟨hk,⟨L,o,hf,hn,ho,hd⟩,hr⟩:=hl
   have hL:L∈X.fs:=hs L (by unfold frs; rw [List.filterMap_cons,hf]; exact List.mem_cons_self)
   obtain ⟨sl,e⟩:=I.base.slot L o ho (I.ok.frf L hL) hL fun z=>I.ok.exfs L z hL
   exact ⟨hk,⟨L,_,hf,hn,e,hd⟩,ih (fun b hb=>hs b (by unfold frs; rw [List.filterMap_cons,hf]; exact List.mem_cons_of_mem _ hb)) hr⟩
 exact all X.outer (fun _ hb=>hb) I.ok.funs
theorem Inv.stack (I:Inv X pins σ H s):s.heap.FunFrames X.base X.stack:=by
 rcases I.ok.stk with e | ⟨e,hf⟩
 ·rw [e]; exact I.funs
 ·rw [e]
  obtain ⟨m,hn,_⟩:=I.loc
  refine .cons (by rw [I.ok.kind]; decide) hf hn ?_ I.funs
  exact Heap.get?_none_of_le (Nat.le_trans I.ok.bsz I.ok.above)
theorem Inv.stkSub (I:Inv X pins σ H s):∀ b∈frs X.stack,b∈X.env.locals::X.fs:=fun b hb=>by
 rcases I.ok.stk with e | ⟨e,hf⟩
 ·rw [e] at hb; exact List.mem_cons_of_mem _ hb
 ·rw [e] at hb
  unfold frs at hb
  rw [List.filterMap_cons,hf] at hb
  exact hb
theorem Inv.stkFree (I:Inv X pins σ H s):∀ b∈frs X.stack,H b=none:=fun b hb=>by
 rcases List.mem_cons.mp (I.stkSub b hb) with e | hb
 ·rw [e]; exact I.free
 ·obtain ⟨_,o,ho,_⟩:=I.ok.funs.mem hb
  exact I.base.free b o ho (I.ok.frf b hb) fun z=>I.ok.exfs b z hb
theorem Inv.step {g':Array GenState} {t':Nat} {d':Drawn} {ch:List Addr} (I:Inv X pins σ H s)
  (hch:∀ b∈ch,(b∈X.ex\/X.s₀.heap.objs.size<=b)/\b≠X.env.locals/\(∀ x c,X.env.cells.lookup x=some c->c≠b)/\∀ p∈X.pn++pins,p.1≠b)
  (keep:∀ b o,b≠X.env.locals->b∉X.fs->b∉ch->s.heap.get? b=some o->H b=none->h'.get? b=some o)
  (slot:∀ b o,b≠X.env.locals->b∈X.fs->b∉ch->s.heap.get? b=some o->H b=none->∃ sl,h'.get? b=some {o with slots:=sl}) (free:∀ b o,b∉ch->s.heap.get? b=some o->H b=none->H' b=none)
  (there:∀ b o,b∉ch->s.heap.get? b=some o->∃ o',h'.get? b=some o')
  (tups:∀ b xs,H b=some (.tup xs)->H' b=some (.tup xs)) (frzs:∀ b o u,H b=some (.frz o u)->H' b=some (.frz o u)) (tbls:∀ b ps,H b=some (.tbl ps)->∃ more,H' b=some (.tbl (ps++more)))
  (ns:∀ m,s.heap.Ns X.env.locals m->h'.Ns X.env.locals m) (hok:HOk X.prog X.w H' h') (hg:AllBare g') :
  Inv X pins σ H' {s with heap:=h',gens:=g',drawn:=d',toks:=t'}:=by
 have neL:∀ b o,X.s₀.heap.get? b=some o->b≠X.env.locals:=fun b o e=>Nat.ne_of_lt (Nat.lt_of_lt_of_le (Heap.lt_size e) I.ok.above)
 have neC:∀ b o,X.s₀.heap.get? b=some o->b∉X.ex->b∉ch:=fun b o e hx hb=>by
  rcases (hch b hb).1 with z | z
  ·exact hx z
  ·exact absurd (Nat.lt_of_lt_of_le (Heap.lt_size e) z) (Nat.lt_irrefl _)
 have cellK:∀ x c,X.env.cells.lookup x=some c->∀ v,s.heap.IsCell c v->h'.IsCell c v:=fun x c e v ⟨o,ho,hd⟩=>by
  have nch:c∉ch:=fun z=>(hch c z).2.2.1 x c e rfl
  by_cases hc:c∈X.fs
  ·obtain ⟨sl,q⟩:=slot c o (I.cne x c e) hc nch ho (I.freeC x c e)
   exact ⟨_,q,hd⟩
  ·exact ⟨o,keep c o (I.cne x c e) hc nch ho (I.freeC x c e),hd⟩
 refine ⟨I.ok,I.os,hg,⟨fun b o e n hb hx=>?_,fun b o e n hb hx=>?_,fun b o e n hx=>?_,fun b o e hx=>?_,fun b xs e=>tups b xs (I.base.tups b xs e),fun b o xs e=>frzs b o xs (I.base.frzs b o xs e),fun b ps e=>?_⟩,?_,fun x c e=>?_,?_,fun x c e=>?_,fun p hp=>?_,hok,I.len⟩
 ·exact keep b o (neL b o e) hb (neC b o e hx) (I.base.keep b o e n hb hx) (I.base.free b o e n hx)
 ·obtain ⟨sl,e1⟩:=I.base.slot b o e n hb hx
  obtain ⟨sl',e2⟩:=slot b _ (neL b o e) hb (neC b o e hx) e1 (I.base.free b o e n hx)
  exact ⟨sl',e2⟩
 ·obtain ⟨o',e1⟩:=I.base.there b o e hx
  exact free b o' (neC b o e hx) e1 (I.base.free b o e n hx)
 ·obtain ⟨o',e1⟩:=I.base.there b o e hx
  exact there b o' (neC b o e hx) e1
 ·obtain ⟨m1,e1⟩:=I.base.tbls b ps e
  obtain ⟨m2,e2⟩:=tbls b _ e1
  exact ⟨m1++m2,by rw [e2,Array.append_assoc]⟩
 ·obtain ⟨m,hn,hl⟩:=I.loc
  refine ⟨m,ns m hn,fun i x v e1 e2 e3=>?_⟩
  obtain ⟨u,r,l⟩:=hl i x v e1 e2 e3
  refine ⟨u,r,?_⟩
  rcases l with l | ⟨k,c,e,z⟩
  ·exact .inl l
  ·exact .inr ⟨k,c,e,cellK x c e _ z⟩
 ·obtain ⟨v,z⟩:=I.cell x c e
  exact ⟨v,cellK x c e v z⟩
 ·obtain ⟨m,⟨o,_,_,ho,_⟩,_⟩:=I.loc
  exact free _ o (fun z=>(hch _ z).2.1 rfl) ho I.free
 ·obtain ⟨v,o,ho,hd⟩:=I.cell x c e
  exact free c o (fun z=>(hch c z).2.2.1 x c e rfl) ho (I.freeC x c e)
 ·obtain ⟨e,n,ne,nf,d⟩:=I.pin p hp
  have nch:p.1∉ch:=fun z=>(hch p.1 z).2.2.2 p hp rfl
  exact ⟨keep p.1 p.2 ne nf nch e n,free p.1 p.2 nch e n,ne,nf,d⟩
theorem Inv.un {t':Nat} (I:Inv X pins σ H s) (u:Un X.fs [] H H' s.heap h') (hok:HOk X.prog X.w H' h'):Inv X pins σ H' {s with heap:=h',toks:=t'}:=by
 obtain ⟨m,⟨o,es,ep,ho,r⟩,_⟩:=id I.loc
 obtain ⟨sl,hL⟩:=u.any ho I.free (by simp)
 exact I.step (g':=s.gens) (d':=s.drawn) (ch:=[]) (fun _ z=>nomatch z) (fun b o _ hb _ e n=>u.keep b o e n hb (by simp)) (fun b o _ hb _ e n=>u.slot b o e n hb (by simp)) (fun b o _ e n=>u.free b o e n (by simp)) (fun b o _ e=>u.there b o e (by simp)) u.tups u.frzs u.tbls (fun m' hm=>by
  obtain ⟨o',es',ep',ho',r'⟩:=hm
  rw [ho] at ho'; cases ho'
  exact ⟨_,es',ep',hL,r'⟩) hok I.bare
theorem Inv.call {g':Array GenState} {t':Nat} {d':Drawn} {ch:List Addr} (I:Inv X pins σ H s) (u:Un (frs X.stack) ch H H' s.heap h') (hok:HOk X.prog X.w H' h') (hg:AllBare g')
  (hch:∀ b∈ch,(b∈X.ex\/X.s₀.heap.objs.size<=b)/\b≠X.env.locals/\(∀ x c,X.env.cells.lookup x=some c->c≠b)/\∀ p∈X.pn++pins,p.1≠b) :
  Inv X pins σ H' {s with heap:=h',gens:=g',drawn:=d',toks:=t'}:=by
 obtain ⟨m,⟨o,es,ep,ho,r⟩,_⟩:=id I.loc
 obtain ⟨sl,hL⟩:=u.any ho I.free fun z=>(hch _ z).2.1 rfl
 exact I.step (ch:=ch) hch (fun b o hL hb hc e n=>u.keep b o e n (fun z=>(List.mem_cons.mp (I.stkSub b z)).elim hL hb) hc) (fun b o _ _ hc e n=>u.any e n hc) (fun b o hc e n=>u.free b o e n hc) (fun b o hc e=>u.there b o e hc) u.tups u.frzs u.tbls (fun m' hm=>by
  obtain ⟨o',es',ep',ho',r'⟩:=hm
  rw [ho] at ho'; cases ho'
  exact ⟨_,es',ep',hL,r'⟩) hok hg
theorem Inv.turned {t':Nat} {it:Addr} (I:Inv X pins σ H s) (k:∀ b o,b≠it->s.heap.get? b=some o->h'.get? b=some o) (hn:H it=none) (hL:it≠X.env.locals)
  (h1:it∈X.ex\/X.s₀.heap.objs.size<=it) (h2:∀ x c,X.env.cells.lookup x=some c->c≠it) (h3:∀ p∈X.pn++pins,p.1≠it):Inv X pins σ H {s with heap:=h',toks:=t'}:=by
 have nit:∀ b u,H b=some u->b≠it:=fun b u e z=>by rw [z,hn] at e; cases e
 refine I.step (g':=s.gens) (d':=s.drawn) (ch:=[it]) (fun b hb=>?_) (fun b o _ _ hc e _=>k b o (fun z=>hc (by simp [z])) e) (fun b o _ _ hc e _=>⟨o.slots,k b o (fun z=>hc (by simp [z])) e⟩) (fun _ _ _ _ n=>n)
  (fun b o hc e=>⟨o,k b o (fun z=>hc (by simp [z])) e⟩) (fun _ _ e=>e) (fun _ _ _ e=>e) (fun b ps e=>⟨#[],by rw [e]; simp⟩) (fun m hm=>?_) (fun b u e=>?_) I.bare
 ·have e:b=it:=by simpa using hb
  subst e
  exact ⟨h1,hL,h2,h3⟩
 ·obtain ⟨o,es,ep,ho,r⟩:=hm
  exact ⟨o,es,ep,k _ o (Ne.symm hL) ho,r⟩
 ·refine (I.hok b u e).stay (fun c v hc q=>k c v ?_ q) (fun _ q=>q) fun _ _ q=>q
  rcases hc with z | z
  ·rw [z]; exact nit b u e
  ·exact nit c _ z
theorem Inv.tok (I:Inv X pins σ H s) (t:Nat):Inv X pins σ H {s with toks:=t}:=I.un (h':=s.heap) (t':=t) Un.refl I.hok
theorem Inv.kept {t':Nat} (I:Inv X pins σ H s) (k:∀ b u,s.heap.get? b=some u->h'.get? b=some u):Inv X pins σ H {s with heap:=h',toks:=t'}:=I.un (Un.kept k) (I.hok.kept k)
theorem Inv.laid {a:Addr} {o:HO} {t':Nat} (I:Inv X pins σ H s) (k:∀ b u,s.heap.get? b=some u->h'.get? b=some u) (hp:s.heap.objs.size<=a) (new:ObjOk X.prog X.w (upd H a o) h' a o) :
  Inv X pins σ (upd H a o) {s with heap:=h',toks:=t'}:=I.un (Un.laid k hp (I.hok.fresh hp)) (I.hok.laid k hp new)
theorem Inv.write {x e:Addr} {o:HO} {t':Nat} (I:Inv X pins σ H s) (mu:Mut (H x)) (he:e=x\/H e=some (.own x)) (k:∀ b u,b≠e->s.heap.get? b=some u->h'.get? b=some u) (heo:∃ u,h'.get? e=some u)
  (new:ObjOk X.prog X.w (upd H x o) h' x o):Inv X pins σ (upd H x o) {s with heap:=h',toks:=t'}:=I.un (Un.write mu he k heo) (I.hok.write mu he k heo new)
theorem Inv.weak {σ':List (Option V)} (I:Inv X pins σ H s) (hl:σ'.length=σ.length) (w:∀ (i:Nat) v,σ'[i]?=some (some v)->σ[i]?=some (some v)):Inv X pins σ' H s :=
 ⟨I.ok,I.os,I.bare,I.base,let ⟨m,hn,hl'⟩:=I.loc; ⟨m,hn,fun i x v e1 e2 e3=>hl' i x v e1 (w i v e2) e3⟩,I.cell,I.free,I.freeC,I.pin,I.hok,hl.trans I.len⟩
theorem Inv.pins_of {pins':List (Addr×Obj)} (I:Inv X pins σ H s) (h:∀ p∈pins',s.heap.get? p.1=some p.2/\H p.1=none/\p.1≠X.env.locals/\p.1∉X.fs/\∀ v,p.2.data≠.cell v):Inv X pins' σ H s :=
 ⟨I.ok,I.os,I.bare,I.base,I.loc,I.cell,I.free,I.freeC,fun p hp=>(List.mem_append.mp hp).elim (fun z=>I.pin p (List.mem_append_left _ z)) (h p),I.hok,I.len⟩
theorem nodup_ix {N:List Str} (hN:N.Nodup) {i j:Nat} {x:Str} (a:N[i]?=some x) (b:N[j]?=some x):i=j:=by
 obtain ⟨h1,e1⟩:=List.getElem?_eq_some_iff.mp a
 obtain ⟨h2,e2⟩:=List.getElem?_eq_some_iff.mp b
 exact (List.getElem_inj hN).mp (e1.trans e2.symm)
theorem jiq {M:Model} {A:Around} {E:Value->Shared->Prop} {i:Nat} {x:Str} {v:V} {u:Value} {Q:Unit->Shared->Prop} (I:Inv X pins σ H s) (hN:X.N.Nodup) (hi:X.N[i]?=some x) (hx:Loc X.env.scope x) (r:RelV v u)
  (h:∀ s',Inv X pins (σ.set i (some v)) H s'->(∃ a,Heap.SameBut a s.heap s'.heap/\(a=X.env.locals\/X.env.cells.lookup x=some a))->Q () s') (hf:X.fn x=true\/X.env.scope.names.lookup x=some .local:=by first | exact .inl rfl | exact .inr rfl | assumption):wpAny M A (storeName X.env x u) Q E s:=by
 obtain ⟨m,hn,hl⟩:=id I.loc
 have hcls:(X.env.scope.kind==.class || (X.env.scope.kind==.module&&X.env.locals != X.env.globals))=false:=by rw [I.ok.kind]; rfl
 have hiσ:i < σ.length:=by rw [I.len]; exact (List.getElem?_eq_some_iff.mp hi).1
 have cne:=I.cne
 have tracked:∀ {a:Addr} {h':Heap},(∃ o,s.heap.get? a=some o/\H a=none)->Heap.SameBut a s.heap h'->HOk X.prog X.w H h':=fun {a h'} ha hs b ob e=>by
  obtain ⟨_,_,hfree⟩:=ha
  refine (I.hok b ob e).stay (fun c w' hc q=>(hs.2 c ?_).trans q) (fun _ q=>q) fun _ _ q=>q
  rintro rfl
  rcases hc with rfl | hc
  ·rw [hfree] at e; cases e
  ·rw [hfree] at hc; cases hc
 rcases hx with hk | hk
 ·refine wpAny_storeName_local hk hn (fun h' hn' hs=>?_) hcls
  obtain ⟨oL,_,_,hoL,_⟩:=id hn
  refine h _ ⟨I.ok,I.os,I.bare,⟨fun b o e n hb hx=>?_,fun b o e n hb hx=>?_,I.base.free,fun b o e hx=>?_,I.base.tups,I.base.frzs,I.base.tbls⟩,⟨_,hn',fun j y v' e1 e2 e3=>?_⟩,fun y c e=>?_,I.free,I.freeC,fun p hp=>?_,tracked ⟨oL,hoL,I.free⟩ hs,by simpa using I.len⟩ ⟨_,hs,.inl rfl⟩
  ·exact (hs.2 b (Nat.ne_of_lt (Nat.lt_of_lt_of_le (Heap.lt_size e) I.ok.above))).trans (I.base.keep b o e n hb hx)
  ·obtain ⟨sl,e1⟩:=I.base.slot b o e n hb hx
   exact ⟨sl,(hs.2 b (Nat.ne_of_lt (Nat.lt_of_lt_of_le (Heap.lt_size e) I.ok.above))).trans e1⟩
  ·obtain ⟨o',e1⟩:=I.base.there b o e hx
   exact ⟨o',(hs.2 b (Nat.ne_of_lt (Nat.lt_of_lt_of_le (Heap.lt_size e) I.ok.above))).trans e1⟩
  ·by_cases hj:j=i
   ·subst hj
    rw [hi] at e1; cases e1
    rw [List.getElem?_set_self hiσ] at e2
    cases e2
    exact ⟨u,r,.inl ⟨hk,by simp⟩⟩
   ·rw [List.getElem?_set_ne (Ne.symm hj)] at e2
    obtain ⟨u',r',q⟩:=hl j y v' e1 e2 e3
    refine ⟨u',r',?_⟩
    rcases q with ⟨k,e⟩ | ⟨k,c,e,z⟩
    ·refine .inl ⟨k,?_⟩
     have:y≠x:=fun e=>hj (nodup_ix hN e1 (e▸hi))
     simp [this,e]
    ·exact .inr ⟨k,c,e,z.sameBut hs (cne y c e)⟩
  ·obtain ⟨w',z⟩:=I.cell y c e
   exact ⟨w',z.sameBut hs (cne y c e)⟩
  ·obtain ⟨e,n,ne,nf,d⟩:=I.pin p hp
   exact ⟨(hs.2 p.1 ne).trans e,n,ne,nf,d⟩
 ·have hfn:X.fn x=true:=by
   rcases hf with z | z
   ·exact z
   ·rw [z] at hk; cases hk
  obtain ⟨c,hc⟩:=I.ok.has x (.inl hk)
  obtain ⟨w',z⟩:=I.cell x c hc
  refine wpAny_storeName_cell I.ok.kind hk hc z (fun h' hc' hs=>?_)
  obtain ⟨oc,hoc,hocd⟩:=id z
  refine h {s with heap:=h'} ⟨I.ok,I.os,I.bare,⟨fun b o e n hb hx=>?_,fun b o e n hb hx=>?_,I.base.free,fun b o e hx=>?_,I.base.tups,I.base.frzs,I.base.tbls⟩,⟨m,hn.sameBut hs (Ne.symm (cne x c hc)),fun j y v' e1 e2 e3=>?_⟩,fun y c' e=>?_,I.free,I.freeC,fun p hp=>?_,tracked ⟨oc,hoc,I.freeC x c hc⟩ hs,by simpa using I.len⟩ ⟨c,hs,.inr hc⟩
  ·exact (hs.2 b (Nat.ne_of_lt (Nat.lt_of_lt_of_le (Heap.lt_size e) (I.ok.cab x c hfn hc)))).trans (I.base.keep b o e n hb hx)
  ·obtain ⟨sl,e1⟩:=I.base.slot b o e n hb hx
   exact ⟨sl,(hs.2 b (Nat.ne_of_lt (Nat.lt_of_lt_of_le (Heap.lt_size e) (I.ok.cab x c hfn hc)))).trans e1⟩
  ·obtain ⟨o',e1⟩:=I.base.there b o e hx
   exact ⟨o',(hs.2 b (Nat.ne_of_lt (Nat.lt_of_lt_of_le (Heap.lt_size e) (I.ok.cab x c hfn hc)))).trans e1⟩
  ·by_cases hj:j=i
   ·subst hj
    rw [hi] at e1; cases e1
    rw [List.getElem?_set_self hiσ] at e2
    cases e2
    exact ⟨u,r,.inr ⟨.inl hk,c,hc,hc'⟩⟩
   ·rw [List.getElem?_set_ne (Ne.symm hj)] at e2
    obtain ⟨u',r',q⟩:=hl j y v' e1 e2 e3
    refine ⟨u',r',?_⟩
    rcases q with q | ⟨k,c',e,z'⟩
    ·exact .inl q
    ·refine .inr ⟨k,c',e,z'.sameBut hs ?_⟩
     rintro rfl
     exact hj (nodup_ix hN e1 (I.ok.inj _ _ _ e hc▸hi))
  ·by_cases hcc:c'=c
   ·subst hcc; exact ⟨_,hc'⟩
   ·obtain ⟨w2,z2⟩:=I.cell y c' e
    exact ⟨w2,z2.sameBut hs hcc⟩
  ·obtain ⟨e,n,ne,nf,d⟩:=I.pin p hp
   refine ⟨(hs.2 p.1 ?_).trans e,n,ne,nf,d⟩
   intro q
   rw [q,hoc] at e
   have q':oc=p.2:=Option.some.inj e
   exact d w' (by rw [<- q']; exact hocd)
theorem store_ok {M:Model} {A:Around} {E:Value->Shared->Prop} {i:Nat} {x:Str} {v:V} {u:Value} {Q:Unit->Shared->Prop} (I:Inv X pins σ H s) (hN:X.N.Nodup) (hi:X.N[i]?=some x) (hx:Loc X.env.scope x) (r:RelV v u)
  (h:∀ s',Inv X pins (σ.set i (some v)) H s'->Q () s') (hf:X.fn x=true\/X.env.scope.names.lookup x=some .local:=by first | exact .inl rfl | exact .inr rfl | assumption):wpAny M A (storeName X.env x u) Q E s :=
 jiq I hN hi hx r (fun s' I' _=>h s' I') hf
theorem Inv.call' {s':Shared} {ch:List Addr} (I:Inv X pins σ H s) (ho:s'.os=s.os) (u:Un (frs X.stack) ch H H' s.heap s'.heap) (hok:HOk X.prog X.w H' s'.heap) (hg:AllBare s'.gens)
  (hch:∀ b∈ch,(b∈X.ex\/X.s₀.heap.objs.size<=b)/\b≠X.env.locals/\(∀ x c,X.env.cells.lookup x=some c->c≠b)/\∀ p∈X.pn++pins,p.1≠b):Inv X pins σ H' s':=by
 obtain ⟨h',g',d',t',o'⟩:=s'
 have e:o'=s.os:=ho
 subst e
 exact I.call (g':=g') (t':=t') (d':=d') u hok hg hch
end
abbrev XK:=Value->Option Addr->Hp->Prop
abbrev St:=List (Option V)
abbrev VK:=V->Hp->Prop
abbrev TE:=St->Hp->VK->Prop
abbrev TT:=St->Hp->(Bool->Hp->Prop)->Prop
abbrev TA:=St->Hp->(List V->Hp->Prop)->Prop
structure Ends where
 nx:St->Hp->Prop
 rt:VK
 bk:St->Hp->Prop:=fun _ _=>False
 ct:St->Hp->Prop:=fun _ _=>False
abbrev TS:=Ends->St->Hp->Prop
def EP (X:Cx) (pins:List (Addr×Obj)) (σ:St) (Q:VK) (u:Value) (s':Shared):Prop:=∃ v H',Inv X pins σ H' s'/\RelV v u/\Q v H'
def TP (X:Cx) (pins:List (Addr×Obj)) (σ:St) (Q:Bool->Hp->Prop) (b:Bool) (s':Shared):Prop:=∃ H',Inv X pins σ H' s'/\Q b H'
def AP (X:Cx) (pins:List (Addr×Obj)) (σ:St) (Q:List V->Hp->Prop) (us:List Value) (s':Shared):Prop:=∃ vs H',Inv X pins σ H' s'/\Vals vs us/\Q vs H'
def SP (X:Cx) (pins:List (Addr×Obj)) (D:Ends) (f:Flow) (s':Shared):Prop :=
 match f with
 | .next=>∃ σ' H',Inv X pins σ' H' s'/\D.nx σ' H'
 | .brk=>∃ σ' H',Inv X pins σ' H' s'/\D.bk σ' H'
 | .cont=>∃ σ' H',Inv X pins σ' H' s'/\D.ct σ' H'
 | .ret u=>∃ v σ' H',Inv X pins σ' H' s'/\RelV v u/\D.rt v H'
def PE (X:Cx) (e:Expr) (t:TE):Prop :=
 ∀ (pins:List (Addr×Obj)) (s:Shared) (σ:St) (H:Hp) (Q:VK),Inv X pins σ H s->t σ H Q->wpAny (model X.prog X.w) X.A (eval e X.env) (EP X pins σ Q) X.xe s
def PT (X:Cx) (e:Expr) (t:TT):Prop :=
 ∀ (pins:List (Addr×Obj)) (s:Shared) (σ:St) (H:Hp) (Q:Bool->Hp->Prop),Inv X pins σ H s->t σ H Q->wpAny (model X.prog X.w) X.A (isTrue e X.env (eval e X.env)) (TP X pins σ Q) X.xe s
def PW (X:Cx) (e:Expr) (t:TT):Prop :=
 ∀ (whole:Sem Value) (pins:List (Addr×Obj)) (s:Shared) (σ:St) (H:Hp) (Q:Bool->Hp->Prop),Inv X pins σ H s->t σ H Q->wpAny (model X.prog X.w) X.A (isTrue e X.env whole) (TP X pins σ Q) X.xe s
theorem PW.pt {X:Cx} {e:Expr} {t:TT} (h:PW X e t):PT X e t:=h _
def PA (X:Cx) (es:List Expr) (t:TA):Prop :=
 ∀ (pos:Pos) (pins:List (Addr×Obj)) (s:Shared) (σ:St) (H:Hp) (Q:List V->Hp->Prop),Inv X pins σ H s->t σ H Q->wpAny (model X.prog X.w) X.A (spliced (backTo pos (starEach es X.env))) (AP X pins σ Q) X.xe s
def PS (X:Cx) (st:Stmt) (t:TS):Prop :=
 ∀ (pins:List (Addr×Obj)) (s:Shared) (σ:St) (H:Hp) (D:Ends),Inv X pins σ H s->t D σ H->wpAny (model X.prog X.w) X.A (exec st X.env) (SP X pins D) X.xe s
def PSs (X:Cx) (st:List Stmt) (t:TS):Prop :=
 ∀ (pins:List (Addr×Obj)) (s:Shared) (σ:St) (H:Hp) (D:Ends),Inv X pins σ H s->t D σ H->wpAny (model X.prog X.w) X.A (execs st X.env) (SP X pins D) X.xe s
theorem thn {α:Type} {t:Sem α} {Q Q':α->Shared->Prop} {M:Model} {A:Around} {E:Value->Shared->Prop} {s:Shared} (h:wpAny M A t Q E s) (hQ:∀ a s,Q a s->Q' a s):wpAny M A t Q' E s:=wpAny_mono h hQ fun _ _ x=>x
section
variable {X:Cx}
def jbh (i:Nat):TE:=fun σ H Q=>∃ v,σ[i]?=some (some v)/\Q v H
def tC (v:V):TE:=fun _ H Q=>Q v H
theorem jon {i:Nat} {x:Str} {pos:Pos} (hN:X.N[i]?=some x) (hv:Vis X.env.scope x) (hd:(x==("__debug__":Str))=false:=by decide) (hcd:(x==("__classdict__":Str))=false:=by decide):PE X (.Name x pos) (jbh i):=by
 intro pins s σ H Q I h
 obtain ⟨v,e,h⟩:=h
 obtain ⟨m,hn,hl⟩:=I.loc
 obtain ⟨u,r,l⟩:=hl i x v hN e hv
 have fin:EP X pins σ Q u s:=⟨v,H,I,r,h⟩
 rcases l with ⟨hk,hm⟩ | ⟨hk,c,hc,hcell⟩
 ·exact wpAny_Name (wpAny_loadName_local I.ok.kind hk hn hm fin) hd
 ·rcases hk with hk | hk
  ·exact wpAny_Name (wpAny_loadName_cell I.ok.kind hk hc hcell fin) hd
  ·exact wpAny_Name (wpAny_loadName_free I.ok.kind hk hc hcell fin hcd) hd
theorem jae {i j pos}:PE X (.Constant (.int i) j pos) (tC (.int i)):=fun _ _ _ H _ I h=>wpAny_Constant_int ⟨.int i,H,I.tok _,⟨_,rfl⟩,h⟩
theorem jdu {b j pos}:PE X (.Constant (.bool b) j pos) (tC (.bl b)):=fun _ _ _ H _ I h=>Constant_bool ⟨.bl b,H,I,rfl,h⟩
theorem jlN {j pos}:PE X (.Constant .none j pos) (tC .non):=fun _ _ _ H _ I h=>Constant_none ⟨.non,H,I,rfl,h⟩
theorem jax {x j pos}:PE X (.Constant (.str x) j pos) (tC (.str x)):=fun _ _ _ H _ I h=>Calls.Constant_str ⟨.str x,H,I.tok _,⟨_,rfl⟩,h⟩
def Gl (X:Cx) (x:Str):Prop:=X.env.kindOf x=some .globalImplicit
theorem ld_glob {E:Value->Shared->Prop} {pins:List (Addr×Obj)} {s:Shared} {σ:St} {H:Hp} {x:Str} {u:Value} {pos:Pos} {Q:Value->Shared->Prop} (I:Inv X pins σ H s) (hg:Gl X x) (hm:X.mg x=some u) (h:Q u s)
  (hd:(x==("__debug__":Str))=false:=by decide):wpAny (model X.prog X.w) X.A (eval (.Name x pos) X.env) Q E s :=
 Calls.Name_function_global I.ok.kind hg (Calls.loadGlobal_global (by rw [I.ok.glob]; exact I.mod.glob.keeps I.bk) hm h) hd
theorem ld_blt {E:Value->Shared->Prop} {pins:List (Addr×Obj)} {s:Shared} {σ:St} {H:Hp} {x:Str} {u:Value} {pos:Pos} {Q:Value->Shared->Prop} (I:Inv X pins σ H s) (hg:Gl X x) (hm:X.mg x=none) (hv:bootBuiltins x=some u) (h:Q u s)
  (hn:x≠"__name__":=by decide) (hd:(x==("__debug__":Str))=false:=by decide):wpAny (model X.prog X.w) X.A (eval (.Name x pos) X.env) Q E s:=by
 obtain ⟨mb,h1,h2⟩:=I.mod.blt
 exact Calls.Name_function_global I.ok.kind hg (Calls.loadGlobal_builtin (by rw [I.ok.glob]; exact I.mod.glob.keeps I.bk) hm (by rw [I.ok.blt]; exact h1.keeps I.bk) ((h2 x hn).trans hv) h) hd
theorem jaV {x:Str} {v:V} {u:Value} {pos:Pos} (hg:Gl X x) (hm:X.mg x=some u) (r:RelV v u) (hd:(x==("__debug__":Str))=false:=by decide):PE X (.Name x pos) (tC v) :=
 fun _ _ _ H _ I h=>ld_glob I hg hm ⟨v,H,I,r,h⟩ hd
theorem jmQ {x:Str} {v:V} {u:Value} {pos:Pos} (hg:Gl X x) (hm:X.mg x=none) (hv:bootBuiltins x=some u) (r:RelV v u) (hn:x≠"__name__":=by decide) (hd:(x==("__debug__":Str))=false:=by decide):PE X (.Name x pos) (tC v) :=
 fun _ _ _ H _ I h=>ld_blt I hg hm hv ⟨v,H,I,r,h⟩ hn hd
variable {a b:Expr} {ta tb:TE} {pos:Pos}
def PC (X:Cx) (op:CmpOp) (a b:Expr) (t:TE):Prop :=
 ∀ (pins:List (Addr×Obj)) (s:Shared) (σ:St) (H:Hp) (Q:VK),Inv X pins σ H s->t σ H Q ->
  wpAny (model X.prog X.w) X.A (eval a X.env) (fun v s₁=>wpAny (model X.prog X.w) X.A (eval b X.env) (fun u s₂=>wpAny (model X.prog X.w) X.A (compareOp op v u) (EP X pins σ Q) X.xe s₂) X.xe s₁) X.xe s
theorem jkG (b:Expr) {op:CmpOp} (h:op≠.In) (h2:op≠.NotIn):behindInMarks op b=false:=by
 have e1:(op==CmpOp.In)=false:=by cases op <;> first | rfl | exact absurd rfl h
 have e2:(op==CmpOp.NotIn)=false:=by cases op <;> first | rfl | exact absurd rfl h2
 cases b <;> simp [behindInMarks,e1,e2]
def tNotN (ta:TE):TE:=fun σ H Q=>ta σ H fun x H1=>Q (.bl (!decide (x=.non))) H1
theorem RelV.none_iff {x:V} {v:Value} (r:RelV x v):(v==Value.none)=decide (x=.non):=by
 cases x with
 | non=>cases r; rfl
 | bl _=>cases r; rfl
 | int _=>obtain ⟨t,rfl⟩:=r; rfl
 | str _=>obtain ⟨t,rfl⟩:=r; rfl
 | byt _=>obtain ⟨t,rfl⟩:=r; rfl
 | flt _=>obtain ⟨t,rfl⟩:=r; rfl
 | ref _=>cases r; rfl
 | ty _=>cases r; rfl
theorem jmR {j pos'} (ha:PE X a ta):PC X .IsNot a (.Constant .none j pos') (tNotN ta):=by
 intro pins s σ H Q I h
 refine thn (ha pins s σ H _ I h) fun v s1 ⟨x,H1,I1,r1,q1⟩=>?_
 exact Constant_none (isnot_none_gen ⟨.bl _,H1,I1,by rw [r1.none_iff]; rfl,q1⟩)
def tB (t:TE):TT:=fun σ H Q=>t σ H fun x H1=>∃ c,x=.bl c/\Q c H1
theorem joo {op:CmpOp} {t:TE} (h:PC X op a b t) (h1:behindInMarks op b=false:=by first | exact jkG _ (by decide) (by decide) | rfl):PT X (.Compare a [op] [b] pos) (tB t):=by
 intro pins s σ H Q I hw
 refine wpAny_isTrue_Compare1 (thn (h pins s σ H _ I hw) fun v s1 h1=>thn h1 fun u s2 h2=>thn h2 fun c s3 ⟨x,H1,I1,r1,q1⟩=>?_) h1
 obtain ⟨d,rfl,q⟩:=q1
 cases r1
 exact wpAny_truthy_bool ⟨H1,I1,q⟩
theorem jbu {e:Expr} {t:TE} (h:PE X e t) (he:∀ whole,isTrue e X.env whole=(do let v <- whole; standAt e.pos; holding [v] (truthy v)):=by intro _; rfl):PT X e (tB t):=by
 intro pins s σ H Q I hw
 refine isTrue_plain (thn (h pins s σ H _ I hw) fun v s1 ⟨x,H1,I1,r1,q1⟩=>?_) (he _)
 obtain ⟨d,rfl,q⟩:=q1
 cases r1
 exact wpAny_truthy_bool ⟨H1,I1,q⟩
variable {tA tB':TT} {rest:List Expr}
def tAnd (t u:TT):TT:=fun σ H Q=>t σ H fun c H1=>if c=true then u σ H1 Q else Q false H1
def tOr (t u:TT):TT:=fun σ H Q=>t σ H fun c H1=>if c=true then Q true H1 else u σ H1 Q
def tNot (t:TT):TT:=fun σ H Q=>t σ H fun c H1=>Q (!c) H1
theorem jbX (ha:PT X a tA):PW X (.BoolOp .And [a] pos) tA:=by
 intro wh pins s σ H Q I h
 refine isTrue_and (thn (ha pins s σ H Q I h) fun c s1 e=>?_)
 cases c with
 | true=>exact isTrue_and_nil e
 | false=>exact e
theorem jlO (ha:PT X a tA):PW X (.BoolOp .Or [a] pos) tA:=by
 intro wh pins s σ H Q I h
 refine isTrue_or (thn (ha pins s σ H Q I h) fun c s1 e=>?_)
 cases c with
 | false=>exact isTrue_or_nil e
 | true=>exact e
theorem jcH (ha:PT X a tA) (hb:PW X (.BoolOp .And (b::rest) pos) tB'):PW X (.BoolOp .And (a::b::rest) pos) (tAnd tA tB'):=by
 intro wh pins s σ H Q I h
 refine isTrue_and (thn (ha pins s σ H _ I h) fun c s1 ⟨H1,I1,q1⟩=>?_)
 cases c with
 | true=>exact hb wh pins s1 σ H1 Q I1 q1
 | false=>exact ⟨H1,I1,q1⟩
theorem jkH (ha:PT X a tA) (hb:PW X (.BoolOp .Or (b::rest) pos) tB'):PW X (.BoolOp .Or (a::b::rest) pos) (tOr tA tB'):=by
 intro wh pins s σ H Q I h
 refine isTrue_or (thn (ha pins s σ H _ I h) fun c s1 ⟨H1,I1,q1⟩=>?_)
 cases c with
 | true=>exact ⟨H1,I1,q1⟩
 | false=>exact hb wh pins s1 σ H1 Q I1 q1
theorem jgH (ha:PT X a tA):PT X (.UnaryOp .Not a pos) (tNot tA):=by
 intro pins s σ H Q I h
 exact isTrue_not (ha pins s σ H (fun c H1=>Q (!c) H1) I h)
def tAndV (ta tb:TE):TE:=fun σ H Q=>ta σ H fun x H1=>∃ c,x=.bl c/\if c=true then tb σ H1 Q else Q (.bl false) H1
theorem jlP {op} {t:TE} (h:PE X a t):PE X (.BoolOp op [a] pos) t:=fun pins s σ H Q I hw=>BoolOp_one (h pins s σ H Q I hw)
theorem jlQ (ha:PE X a ta) (hb:PE X (.BoolOp .And (b::rest) pos) tb):PE X (.BoolOp .And (a::b::rest) pos) (tAndV ta tb):=by
 intro pins s σ H Q I h
 refine BoolOp_and (thn (ha pins s σ H _ I h) fun v s1 ⟨x,H1,I1,r1,q1⟩=>?_)
 obtain ⟨c,rfl,q1⟩:=q1
 cases r1
 refine wpAny_truthy_bool ?_
 cases c with
 | true=>exact hb pins s1 σ H1 Q I1 q1
 | false=>exact ⟨.bl false,H1,I1,rfl,q1⟩
end
def SqL (K:PySem.W.Frag) (H:Hp) (a:Addr) (xs:List V):Prop :=
 Rd H a (.lst xs) \/
  ∃ (o:Obj) (its:Array Value) (n:Nat),K.lookup a=some o/\o.cls=.type "list"/\o.dict=none/\o.data=.seq its n/\its.size<=sizeLine/\Vals xs its.toList
def SqT (K:PySem.W.Frag) (H:Hp) (a:Addr) (xs:List V):Prop :=
 Rd H a (.tup xs) \/
  ∃ (o:Obj) (its:Array Value) (n:Nat),K.lookup a=some o/\o.cls=.type "tuple"/\o.data=.seq its n/\its.size<=sizeLine/\Vals xs its.toList
def absV:Value->Option V
 | .none=>some .non
 | .bool b=>some (.bl b)
 | .int i _=>some (.int i)
 | .str x _=>some (.str x)
 | .bytes b _=>some (.byt b)
 | .float b _=>some (.flt b)
 | .ref a=>some (.ref a)
 | .type n=>some (.ty n)
 | _=>none
theorem RelV.abs {x:V} {u:Value} (r:RelV x u):absV u=some x:=by
 cases x with
 | non=>cases r; rfl
 | bl _=>cases r; rfl
 | int _=>obtain ⟨t,rfl⟩:=r; rfl
 | str _=>obtain ⟨t,rfl⟩:=r; rfl
 | byt _=>obtain ⟨t,rfl⟩:=r; rfl
 | flt _=>obtain ⟨t,rfl⟩:=r; rfl
 | ref _=>cases r; rfl
 | ty _=>cases r; rfl
theorem RelV.inj {x y:V} {u:Value} (r:RelV x u) (q:RelV y u):x=y:=Option.some.inj (r.abs.symm.trans q.abs)
theorem Vals.inj:∀ {xs ys:List V} {us:List Value},Vals xs us->Vals ys us->xs=ys
 | _,_,_,.nil,.nil=>rfl
 | _,_,_,.cons r t,.cons r' t'=>by rw [r.inj r',Vals.inj t t']
section
variable {X:Cx} {pins:List (Addr×Obj)} {σ:St} {H:Hp} {s:Shared} {a:Addr} {xs ys:List V}
theorem SqL.of {K:PySem.W.Frag} (h:H a=some (.lst xs)):SqL K H a xs:=.inl (.inl h)
theorem SqT.of {K:PySem.W.Frag} (h:H a=some (.tup xs)):SqT K H a xs:=.inl (.inl h)
theorem Inv.list (I:Inv X pins σ H s) (h:SqL X.K H a xs):∃ its:List Value,Vals xs its/\PlainL s.heap a its.toArray/\xs.length<=sizeLine:=by
 rcases h with h | ⟨o,its,n,hk,hc,hd,hs,hz,r⟩
 ·obtain ⟨z,its,n,r,e⟩:=h.ok I.hok
  exact ⟨its,r,⟨_,n,e,rfl,rfl,rfl⟩,z⟩
 ·refine ⟨its.toList,r,⟨o,n,I.kIn a o hk,hc,hd,by simpa using hs⟩,?_⟩
  have e:=r.length
  simp only [Array.length_toList] at e
  omega
theorem Inv.tuple (I:Inv X pins σ H s) (h:SqT X.K H a xs):∃ its:List Value,Vals xs its/\IsTup s.heap a its.toArray/\xs.length<=sizeLine:=by
 rcases h with h | ⟨o,its,n,hk,hc,hs,hz,r⟩
 ·obtain ⟨z,its,r,p⟩:=h.ok I.hok
  exact ⟨its,r,p,z⟩
 ·refine ⟨its.toList,r,⟨o,I.kIn a o hk,hc,n,by simpa using hs⟩,?_⟩
  have e:=r.length
  simp only [Array.length_toList] at e
  omega
theorem Inv.list_inj (I:Inv X pins σ H s) (h:SqL X.K H a xs) (h':SqL X.K H a ys):xs=ys:=by
 obtain ⟨its,r,⟨o,n,e,_,_,d⟩,_⟩:=I.list h
 obtain ⟨its',r',⟨o',n',e',_,_,d'⟩,_⟩:=I.list h'
 rw [e] at e'; cases e'
 rw [d] at d'
 injection d' with d1 _
 have:its=its':=by simpa using congrArg Array.toList d1
 subst this
 exact r.inj r'
end
abbrev Cx.wish (X:Cx) (E:Value->Shared->Prop):Cx:={X with xe:=E}
abbrev Cx.nox (X:Cx):Cx:=X.wish fun _ _=>False
theorem Cx.Ok.wish {X:Cx} (ok:X.Ok) (E:Value->Shared->Prop):(X.wish E).Ok :=
 ⟨ok.mod,ok.kind,ok.glob,ok.blt,ok.above,ok.inj,ok.has,ok.cab,ok.hd,ok.frames,ok.stk,ok.exf,ok.bs,ok.bsz,ok.noex,ok.exfs,ok.funs,ok.frf⟩
theorem Cx.Ok.unwish {X:Cx} {E:Value->Shared->Prop} (ok:(X.wish E).Ok):X.Ok :=
 ⟨ok.mod,ok.kind,ok.glob,ok.blt,ok.above,ok.inj,ok.has,ok.cab,ok.hd,ok.frames,ok.stk,ok.exf,ok.bs,ok.bsz,ok.noex,ok.exfs,ok.funs,ok.frf⟩
section
variable {X:Cx} {pins:List (Addr×Obj)} {σ:St} {H:Hp} {s:Shared} {E:Value->Shared->Prop}
theorem Inv.wish (I:Inv X pins σ H s) (E:Value->Shared->Prop):Inv (X.wish E) pins σ H s:=⟨I.ok.wish E,I.os,I.bare,I.base,I.loc,I.cell,I.free,I.freeC,I.pin,I.hok,I.len⟩
theorem Inv.unwish (I:Inv (X.wish E) pins σ H s):Inv X pins σ H s:=⟨I.ok.unwish,I.os,I.bare,I.base,I.loc,I.cell,I.free,I.freeC,I.pin,I.hok,I.len⟩
theorem SP.unwish {D:Ends} {f:Flow} {s':Shared} (h:SP (X.wish E) pins D f s'):SP X pins D f s':=by
 cases f with
 | next=>obtain ⟨σ',H',I,q⟩:=h; exact ⟨σ',H',I.unwish,q⟩
 | brk=>obtain ⟨σ',H',I,q⟩:=h; exact ⟨σ',H',I.unwish,q⟩
 | cont=>obtain ⟨σ',H',I,q⟩:=h; exact ⟨σ',H',I.unwish,q⟩
 | ret u=>obtain ⟨v,σ',H',I,r,q⟩:=h; exact ⟨v,σ',H',I.unwish,r,q⟩
theorem PSs.nox {st:List Stmt} {t:TS} (h:PSs X.nox st t):PSs X st t:=fun pins s σ H D I hw =>
 wpAny_mono (h pins s σ H D (I.wish _) hw) (fun _ _ q=>q.unwish) fun _ _ z=>False.elim z
end
section
variable {X:Cx} {st:Stmt} {rest:List Stmt} {t u:TS} {e:Expr} {te:TE} {pos:Pos}
def jmS:TS:=fun D σ H=>D.nx σ H
def tSeq (t u:TS):TS:=fun D σ H=>t {D with nx:=u D} σ H
theorem jav:PSs X [] jmS:=fun _ _ σ H _ I h=>wpAny_execs_nil ⟨σ,H,I,h⟩
theorem jac (h1:PS X st t) (h2:PSs X rest u):PSs X (st::rest) (tSeq t u):=by
 intro pins s σ H D I h
 refine wpAny_execs_cons (thn (h1 pins s σ H {D with nx:=u D} I h) fun f s1 q=>?_)
 cases f with
 | next =>
  obtain ⟨σ',H',I',q⟩:=q
  exact h2 pins s1 σ' H' D I' q
 | ret v=>exact q
 | brk=>exact q
 | cont=>exact q
theorem jaf (h1:PS X st t):PSs X [st] t:=by
 intro pins s σ H D I h
 refine wpAny_execs_cons (thn (h1 pins s σ H D I h) fun f s1 q=>?_)
 cases f with
 | next=>exact wpAny_execs_nil q
 | ret v=>exact q
 | brk=>exact q
 | cont=>exact q
theorem Inv.quiet {pins:List (Addr×Obj)} {σ:St} {H:Hp} {s:Shared} (I:Inv X pins σ H s):interactive X.env=false:=by simp [interactive,I.ok.kind]
def jgf (te:TE):TS:=fun D σ H=>te σ H fun _ H1=>D.nx σ H1
theorem jap (he:PE X e te) (hs:swapsWith e none pos.line X.env=pure false:=by rfl):PS X (.Expr e pos) (jgf te):=by
 intro pins s σ H D I h
 exact wpAny_Expr_any (thn (he pins s σ H _ I h) fun v s1 ⟨x,H1,I1,r1,q1⟩=>⟨σ,H1,I1,q1⟩) I.quiet hs
def tRet (te:TE):TS:=fun D σ H=>te σ H D.rt
theorem jat (he:PE X e te):PS X (.Return (some e) pos) (tRet te):=by
 intro pins s σ H D I h
 exact wpAny_Return_some (thn (he pins s σ H _ I h) fun v s1 ⟨x,H1,I1,r1,q1⟩=>⟨x,σ,H1,I1,r1,q1⟩)
def tIfS (c:TT) (t u:TS):TS:=fun D σ H=>c σ H fun b H1=>if b=true then t D σ H1 else u D σ H1
theorem jaF {c:Expr} {a b:List Stmt} {tc:TT} (hc:PT X c tc) (ha:PSs X a t) (hb:PSs X b u):PS X (.If c a b pos) (tIfS tc t u):=by
 intro pins s σ H D I h
 refine wpAny_If (thn (hc pins s σ H _ I h) fun d s1 ⟨H1,I1,q1⟩=>?_)
 cases d with
 | true=>exact ha pins s1 σ H1 D I1 q1
 | false=>exact hb pins s1 σ H1 D I1 q1
def jlR:TS:=fun _ _ _=>False
theorem jkI:PS X st jlR:=fun _ _ _ _ _ _ h=>h.elim
theorem jfi {sts:List Stmt}:PSs X sts jlR:=fun _ _ _ _ _ _ h=>h.elim
end
abbrev TG:=V->St->Hp->(St->Hp->Prop)->Prop
abbrev TGs:=List V->St->Hp->(St->Hp->Prop)->Prop
def PG (X:Cx) (target:Expr) (t:TG):Prop :=
 ∀ (pins:List (Addr×Obj)) (s:Shared) (σ:St) (H:Hp) (v:V) (u:Value) (Q:St->Hp->Prop),Inv X pins σ H s->RelV v u->t v σ H Q ->
  wpAny (model X.prog X.w) X.A (assign target X.env u) (fun _ s'=>∃ σ' H',Inv X pins σ' H' s'/\Q σ' H') X.xe s
def PGs (X:Cx) (ts:List Expr) (t:TGs):Prop :=
 ∀ (pins:List (Addr×Obj)) (s:Shared) (σ:St) (H:Hp) (vs:List V) (us:List Value) (Q:St->Hp->Prop),Inv X pins σ H s->Vals vs us->t vs σ H Q ->
  wpAny (model X.prog X.w) X.A (assignInOrder ((assignEach ts X.env).map (·.2)) us) (fun _ s'=>∃ σ' H',Inv X pins σ' H' s'/\Q σ' H') X.xe s
abbrev TIp:=V->V->Hp->VK->Prop
def PIp (X:Cx) (op:Operator) (t:TIp):Prop :=
 ∀ (pins:List (Addr×Obj)) (s:Shared) (σ:St) (H:Hp) (x y:V) (v u:Value) (Q:VK),Inv X pins σ H s->RelV x v->RelV y u->t x y H Q ->
  wpAny (model X.prog X.w) X.A (inplaceOp op v u) (EP X pins σ Q) X.xe s
section
variable {X:Cx} {pos:Pos}
def jfj (i:Nat):TG:=fun v σ H Q=>Q (σ.set i (some v)) H
theorem jaB {i:Nat} {x:Str} (hN:X.N.Nodup) (hi:X.N[i]?=some x) (hx:Loc X.env.scope x) (hf:X.fn x=true\/X.env.scope.names.lookup x=some .local:=by first | exact .inl rfl | exact .inr rfl | assumption):PG X (.Name x pos) (jfj i):=by
 intro pins s σ H v u Q I r h
 exact wpAny_assign_Name (store_ok I hN hi hx r (fun s' I'=>⟨_,H,I',h⟩) hf)
def gNil:TGs:=fun vs σ H Q=>vs=[]/\Q σ H
def gCons (t:TG) (u:TGs):TGs:=fun vs σ H Q=>∃ v r,vs=v::r/\t v σ H fun σ' H'=>u r σ' H' Q
theorem jmT:PGs X [] gNil:=by
 intro pins s σ H vs us Q I r h
 obtain ⟨e,h⟩:=h
 subst e
 cases r
 exact assignInOrder_nil ⟨σ,H,I,h⟩
theorem jgI {e:Expr} {es:List Expr} {t:TG} {u:TGs} (h1:PG X e t) (h2:PGs X es u)
  (hs:(assignEach (e::es) X.env).map (·.2)=assign e X.env::(assignEach es X.env).map (·.2):=by rfl):PGs X (e::es) (gCons t u):=by
 intro pins s σ H vs us Q I r h
 obtain ⟨v,vr,e1,h⟩:=h
 subst e1
 cases r with
 | cons r rr =>
  rw [hs]
  refine assignInOrder_cons (thn (h1 pins s σ H _ _ _ I r h) fun _ s1 ⟨σ1,H1,I1,q1⟩=>?_)
  exact h2 pins s1 σ1 H1 _ _ Q I1 rr q1
def gTup (K:PySem.W.Frag) (n:Nat) (t:TGs):TG:=fun v σ H Q=>∃ a xs,v=.ref a/\SqT K H a xs/\xs.length=n/\t xs σ H Q
theorem jop {es:List Expr} {k:Nat} {t:TGs} {n:Nat} (hc:X.calm=true) (h:PGs X es t)
  (hn:(assignEach es X.env).length=n:=by rfl) (hst:(assignEach es X.env).findIdx? (·.1)=none:=by rfl):PG X (.Tuple es k pos) (gTup X.K n t):=by
 intro pins s σ H v u Q I r hw
 obtain ⟨a,xs,e1,hq,hl,hw⟩:=hw
 subst e1
 cases r
 obtain ⟨its,rv,ht,hz⟩:=I.tuple hq
 refine assign_Tuple_tuple (I.ok.hd hc) ht (by simp [hn,<- hl,rv.length]) hst fun h' hx=>?_
 have I1:Inv X pins σ H {s with heap:=h'}:=I.kept (t':=s.toks) fun b o e=>hx b o (Nat.ne_of_lt (Heap.lt_size e)) e
 exact h pins _ σ H xs _ Q I1 (by simpa using rv) hw
def joq (te:TE) (g:TG):TS:=fun D σ H=>te σ H fun x H1=>g x σ H1 D.nx
theorem jak {i:Nat} {x:Str} {e:Expr} {te:TE} {pos':Pos} (hN:X.N.Nodup) (hi:X.N[i]?=some x) (hx:Loc X.env.scope x) (he:PE X e te) (hs:swapsWith e (some (.Name x pos')) pos.line X.env=pure false:=by rfl) (hf:X.fn x=true\/X.env.scope.names.lookup x=some .local:=by first | exact .inl rfl | exact .inr rfl | assumption) :
  PS X (.Assign [.Name x pos'] e pos) (joq te (jfj i)):=by
 intro pins s σ H D I h
 refine wpAny_Assign_Name (thn (he pins s σ H _ I h) fun v s1 ⟨y,H1,I1,r1,q1⟩=>?_) hs
 exact store_ok I1 hN hi hx r1 (fun s2 I2=>⟨_,H1,I2,q1⟩) hf
def tAug (i:Nat) (te:TE) (ti:TIp):TS:=fun D σ H=>∃ x,σ[i]?=some (some x)/\te σ H fun y H1=>ti x y H1 fun z H2=>D.nx (σ.set i (some z)) H2
theorem jir {i:Nat} {x:Str} {e:Expr} {te:TE} {op:Operator} {ti:TIp} {pos':Pos} (hN:X.N.Nodup) (hi:X.N[i]?=some x) (hx:Loc X.env.scope x) (he:PE X e te) (ho:PIp X op ti) (hf:X.fn x=true\/X.env.scope.names.lookup x=some .local:=by first | exact .inl rfl | exact .inr rfl | assumption) :
  PS X (.AugAssign (.Name x pos') op e pos) (tAug i te ti):=by
 intro pins s σ H D I h
 obtain ⟨v,e1,h⟩:=h
 obtain ⟨m,hn,hl⟩:=I.loc
 have vis:Vis X.env.scope x:=by rcases hx with k | k; exact .inl k; exact .inr (.inl k)
 obtain ⟨u,r,l⟩:=hl i x v hi e1 vis
 refine wpAny_AugAssign_Name ?_
 have go:wpAny (model X.prog X.w) X.A (eval e X.env) (fun w s₂=>wpAny (model X.prog X.w) X.A (inplaceOp op u w) (fun r s₃=>wpAny (model X.prog X.w) X.A (storeName X.env x r) (fun _=>SP X pins D .next) X.xe s₃) X.xe s₂) X.xe s:=by
  refine thn (he pins s σ H _ I h) fun w s1 ⟨y,H1,I1,r1,q1⟩=>?_
  refine thn (ho pins s1 σ H1 v y u w _ I1 r r1 q1) fun z s2 ⟨zv,H2,I2,r2,q2⟩=>?_
  exact store_ok I2 hN hi hx r2 (fun s3 I3=>⟨_,H2,I3,q2⟩) hf
 rcases l with ⟨hk,hm⟩ | ⟨hk,c,hc,hcell⟩
 ·exact wpAny_loadName_local I.ok.kind hk hn hm go
 ·rcases hk with hk | hk
  ·exact wpAny_loadName_cell I.ok.kind hk hc hcell go
  ·rcases hx with k | k
   ·have:X.env.scope.names.lookup x=some .free:=hk
    rw [k] at this; cases this
   ·have:X.env.scope.names.lookup x=some .free:=hk
    rw [k] at this; cases this
def ipI (f:Int->Int->Int):TIp:=fun x y H Q=>∃ i j,x=.int i/\y=.int j/\Q (.int (f i j)) H
theorem jlS:PIp X .Add (ipI fun i j=>i+j):=by
 intro pins s σ H x y v u Q I r1 r2 h
 obtain ⟨i,j,e1,e2,q⟩:=h
 subst e1; subst e2
 obtain ⟨t,rfl⟩:=r1
 obtain ⟨t',rfl⟩:=r2
 exact iadd_int ⟨.int _,H,I.tok _,⟨_,rfl⟩,q⟩
theorem jor:PIp X .Sub (ipI fun i j=>i - j):=by
 intro pins s σ H x y v u Q I r1 r2 h
 obtain ⟨i,j,e1,e2,q⟩:=h
 subst e1; subst e2
 obtain ⟨t,rfl⟩:=r1
 obtain ⟨t',rfl⟩:=r2
 exact isub_int ⟨.int _,H,I.tok _,⟨_,rfl⟩,q⟩
def jis (c:TT) (tb:TS):TS:=fun D σ H=>∃ W:Nat->St->Hp->Prop,(∃ m,W m σ H)/\∀ m σ H,W m σ H ->
 c σ H fun b H1=>if b=true then ∃ N:St->Hp->Prop,(∀ σ' H',N σ' H'->∃ m',m' < m/\W m' σ' H')/\tb {D with nx:=N,ct:=N,bk:=D.nx} σ H1 else D.nx σ H1
theorem jcI {c:Expr} {body:List Stmt} {tc:TT} {tb:TS} (hp:PassesOwn (model X.prog X.w) X.A X.env X.xe) (hc:PT X c tc) (hb:PSs X body tb):PS X (.While c body [] pos) (jis tc tb):=by
 intro pins s σ H D I h
 obtain ⟨W,⟨m0,w0⟩,turn⟩:=h
 refine wpAny_While (codeAny_whileLoop (fun n s'=>∃ σ' H',Inv X pins σ' H' s'/\W n σ' H') ?_ m0 ⟨σ,H,I,w0⟩)
 rintro n s1 ⟨σ1,H1,I1,w1⟩
 refine wpAny_passesOwn hp (thn (hc pins s1 σ1 H1 _ I1 (turn n σ1 H1 w1)) fun b s2 ⟨H2,I2,q2⟩=>?_)
 cases b with
 | true =>
  obtain ⟨N,hN,q2⟩:=q2
  rw [if_pos rfl]
  refine wpAny_passesOwn hp (thn (hb pins s2 σ1 H2 _ I2 q2) fun f s3 q3=>?_)
  cases f with
  | next =>
   obtain ⟨σ3,H3,I3,n3⟩:=q3
   obtain ⟨m',hm,w3⟩:=hN σ3 H3 n3
   exact ⟨m',hm,σ3,H3,I3,w3⟩
  | cont =>
   obtain ⟨σ3,H3,I3,n3⟩:=q3
   obtain ⟨m',hm,w3⟩:=hN σ3 H3 n3
   exact ⟨m',hm,σ3,H3,I3,w3⟩
  | brk=>exact q3
  | ret v=>exact q3
 | false =>
  rw [if_neg Bool.false_ne_true]
  exact wpAny_execs_nil ⟨σ1,H2,I2,q2⟩
end
structure It where
 go:Nat->Hp->Prop
 yld:Nat->Hp->V->Hp->Prop
 stop:Nat->Hp->Prop
def jgg (X:Cx) (pins:List (Addr×Obj)) (H:Hp) (b:Addr):Prop :=
 H b=none/\b≠X.env.locals/\b∉X.fs/\(b∈X.ex\/X.s₀.heap.objs.size<=b)/\(∀ x c,X.env.cells.lookup x=some c->c≠b)/\∀ p∈X.pn++pins,p.1≠b
theorem Inv.fpOk {X:Cx} {pins:List (Addr×Obj)} {σ:St} {H H':Hp} {s:Shared} {b:Addr} (I:Inv X pins σ H s) (hb:s.heap.objs.size<=b) (hn:H' b=none):jgg X pins H' b:=by
 refine ⟨hn,Nat.ne_of_gt (Nat.lt_of_lt_of_le I.lt hb),I.nofs hb,.inr (Nat.le_trans I.sz hb),fun x c e z=>?_,fun p hp z=>?_⟩
 ·obtain ⟨v,q⟩:=I.cell x c e
  exact absurd (Nat.lt_of_lt_of_le q.lt (by rw [z]; exact hb)) (Nat.lt_irrefl _)
 ·exact absurd (Nat.lt_of_lt_of_le (Heap.lt_size (I.pin p hp).1) (by rw [z]; exact hb)) (Nat.lt_irrefl _)
structure Turn (P:Program) (w:World) (K:PySem.W.Frag) (tg:Expr) (J:It) (fp:List Addr) (it:Addr) (tn:Nat->Heap->Prop):Prop where
 mem:it∈fp
 obj:∀ i h,tn i h->∀ b∈fp,∃ o,h.get? b=some o/\∀ v,o.data≠.cell v
 keep:∀ i h h',tn i h->(∀ b∈fp,∀ o,h.get? b=some o->h'.get? b=some o)->tn i h'
 item:∀ (X:Cx),X.prog=P->X.w=w->X.K=K->X.calm=true->∀ (i:Nat) (pins:List (Addr×Obj)) (s:Shared) (σ:St) (H:Hp) (E:Value->Shared->Prop),Inv X pins σ H s->(∀ b∈fp,jgg X pins H b)->tn i s.heap->J.go i H ->
  wpAny (model P w) X.A (pyNext (.ref it)) (fun r s1=>∃ u,r=some u /\
   wpAny (model P w) X.A (letOwnedTupleGo tg (.ref it) u) (fun _ s2=>∃ x H',Inv X pins σ H' s2/\RelV x u/\J.yld i H x H'/\tn (i+1) s2.heap/\∀ b∈fp,H' b=none) E s1) E s
 done:∀ (X:Cx),X.prog=P->X.w=w->X.K=K->X.calm=true->∀ (i:Nat) (pins:List (Addr×Obj)) (s:Shared) (σ:St) (H:Hp) (E:Value->Shared->Prop),Inv X pins σ H s->(∀ b∈fp,jgg X pins H b)->tn i s.heap->J.stop i H ->
  wpAny (model P w) X.A (pyNext (.ref it)) (fun r s1=>r=none/\Inv X pins σ H s1) E s
 self:∀ (A:Around) (i:Nat) (s:Shared) (Q:Value->Shared->Prop) (E:Value->Shared->Prop),tn i s.heap->Q (.ref it) s->wpAny (model P w) A (pyIter (.ref it)) Q E s
abbrev TI:=St->Hp->(It->Hp->Prop)->Prop
def PIE (X:Cx) (pins:List (Addr×Obj)) (σ:St) (tg:Expr) (R:It->Hp->Prop) (itv:Value) (s2:Shared):Prop :=
 ∃ (it:Addr) (fp:List Addr) (tn:Nat->Heap->Prop) (J:It) (H':Hp),itv=.ref it/\Inv X pins σ H' s2/\Turn X.prog X.w X.K tg J fp it tn/\tn 0 s2.heap/\(∀ b∈fp,jgg X pins H' b)/\R J H'
def PI (X:Cx) (tg iter:Expr) (wi:TI):Prop :=
 ∀ (pins:List (Addr×Obj)) (s:Shared) (σ:St) (H:Hp) (R:It->Hp->Prop),Inv X pins σ H s->wi σ H R ->
  wpAny (model X.prog X.w) X.A (eval iter X.env) (fun v s1=>wpAny (model X.prog X.w) X.A (pyIter v) (PIE X pins σ tg R) X.xe s1) X.xe s
theorem jkJ {M:Model} {A:Around} {E:Value->Shared->Prop} {s:Shared} {tg:Expr} {it:Addr} {u:Value} {o:Obj} {n:String} {vs:Array Value} {Q:Unit->Shared->Prop} (ho:s.heap.get? it=some o) (hc:o.cls=.type n) (hd:o.data=.fields vs)
    (hn:["enumerate","zip","dict_itemiterator","dict_reverseitemiterator","odict_iterator","itertools.zip_longest","itertools.pairwise"].contains n=false) (hQ:Q () s):wpAny M A (letOwnedTupleGo tg (.ref it) u) Q E s:=by
  unfold letOwnedTupleGo
  cases tg <;> first
    | exact wpAny_pure hQ
    | (cases u <;> first
        | exact wpAny_pure hQ
        | (refine wpAny_bind (wpAny_load ho ?_)
           rw [hc,hd]
           show wpAny M A (if (["enumerate","zip","dict_itemiterator","dict_reverseitemiterator","odict_iterator","itertools.zip_longest","itertools.pairwise"].contains n&&vs[0]?==some (rawInt _))=true then _ else _) Q E s
           rw [if_neg (by intro h; rw [hn,Bool.false_and] at h; cases h)]
           exact wpAny_pure hQ))
def Itl (K:PySem.W.Frag) (a:Addr):It :=
 ⟨fun i H=>∃ xs x,SqL K H a xs/\xs[i]?=some x,fun i H x H'=>H'=H/\∀ xs,SqL K H a xs->xs[i]?=some x,fun i H=>∃ xs,SqL K H a xs/\xs.length<=i⟩
def Itr (lo:Int) (n:Nat):It:=⟨fun i _=>i < n,fun i H x H'=>H'=H/\x=.int (lo+i),fun i _=>n<=i⟩
theorem jit {P:Program} {w:World} {K:PySem.W.Frag} {tg:Expr} (a it:Addr):Turn P w K tg (Itl K a) [it] it (fun i h=>h.IsListIter it a i) where
 mem:=by simp
 obj:=fun i h st b hb=>by
  have e:b=it:=by simpa using hb
  subst e
  obtain ⟨o,e,c,d⟩:=st
  exact ⟨o,e,fun v z=>by rw [d] at z; cases z⟩
 keep:=fun i h h' st k=>st.at fun o e=>k it (by simp) o e
 item:=by
  intro X hP hw hK hc i pins s σ H E I hf st hg
  subst hP hw hK
  obtain ⟨xs,x,hq,hx⟩:=hg
  obtain ⟨its,rv,p,hz⟩:=I.list hq
  obtain ⟨u,hu,ru⟩:=rv.get hx
  obtain ⟨f0,f1,f2,f3,f4,f5⟩:=hf it (by simp)
  refine wpAny_pyNext_list_item st p.isList (x:=u) (by simpa using hu) fun h' st' sb=>?_
  have I1:Inv X pins σ H {s with heap:=h'}:=I.turned (t':=s.toks) (fun b o hb e=>(sb.2 b hb).trans e) f0 f1 f3 f4 f5
  obtain ⟨o,e,c,d⟩:=id st'
  exact ⟨u,rfl,jkJ (s:={s with heap:=h'}) e c d (by decide) ⟨x,H,I1,ru,⟨rfl,fun ys hy=>by rw [I.list_inj hy hq]; exact hx⟩,st',fun b hb=>(hf b hb).1⟩⟩
 done:=by
  intro X hP hw hK hc i pins s σ H E I hf st hg
  subst hP hw hK
  obtain ⟨xs,hq,hx⟩:=hg
  obtain ⟨its,rv,p,hz⟩:=I.list hq
  obtain ⟨f0,f1,f2,f3,f4,f5⟩:=hf it (by simp)
  have hl:=rv.length
  exact wpAny_pyNext_list_end (I.ok.hd hc) st p.isList (by simp; omega) fun h' eb=>⟨rfl,I.turned (t':=s.toks) (fun b o hb e=>eb b o hb e) f0 f1 f3 f4 f5⟩
 self:=fun _ _ _ _ _ st h=>wpAny_pyIter_listiter st h
theorem jhI {P:Program} {w:World} {K:PySem.W.Frag} {tg:Expr} (it:Addr) (lo:Int) (n:Nat):Turn P w K tg (Itr lo n) [it] it (fun i h=>IsRangeIter h it (lo+(i:Nat) * 1) ((n:Int) - (i:Nat)) 1) where
 mem:=by simp
 obj:=fun i h st b hb=>by
  have e:b=it:=by simpa using hb
  subst e
  exact ⟨_,st,fun v z=>by
   have z':Data.fields _=Data.cell v:=z
   cases z'⟩
 keep:=fun i h h' st k=>k it (by simp) _ st
 item:=by
  intro X hP hw hK hc i pins s σ H E I hf st hg
  subst hP hw hK
  obtain ⟨f0,f1,f2,f3,f4,f5⟩:=hf it (by simp)
  have W:=Walks.range (prog:=X.prog) (w:=X.w) (I.ok.hd hc) it lo 1 n
  refine W.item i s _ _ hg st fun v h' tk hv st' kk=>?_
  obtain ⟨t,rfl⟩:=hv
  have I1:Inv X pins σ H {s with heap:=h',toks:=tk}:=I.turned (fun b o hb e=>kk b o (by simpa using hb) e) f0 f1 f3 f4 f5
  refine ⟨_,rfl,jkJ (s:={s with heap:=h',toks:=tk}) (n:="range_iterator") st' rfl rfl (by decide) ⟨.int (lo+i),H,I1,⟨t,?_⟩,⟨rfl,rfl⟩,st',fun b hb=>(hf b hb).1⟩⟩
  rw [Int.mul_one]
 done:=by
  intro X hP hw hK hc i pins s σ H E I hf st hg
  subst hP hw hK
  obtain ⟨f0,f1,f2,f3,f4,f5⟩:=hf it (by simp)
  exact wpAny_pyNext_range_end (I.ok.hd hc) st (by have:n<=i:=hg; omega) fun h' eb=>⟨rfl,I.turned (t':=s.toks) (fun b o hb e=>eb b o hb e) f0 f1 f3 f4 f5⟩
 self:=fun _ _ _ _ _ st h=>wpAny_pyIter_rangeiter st h
section
variable {X:Cx} {tg:Expr}
def jos (K:PySem.W.Frag) (tl:TE):TI:=fun σ H R=>tl σ H fun x H1=>∃ a,x=.ref a/\(∃ xs,SqL K H1 a xs)/\R (Itl K a) H1
theorem jaL {l:Expr} {tl:TE} (hl:PE X l tl):PI X tg l (jos X.K tl):=by
 intro pins s σ H R I h
 refine thn (hl pins s σ H _ I h) fun v s1 ⟨x,H1,I1,r1,q1⟩=>?_
 obtain ⟨a,e,⟨xs,hq⟩,q⟩:=q1
 subst e
 cases r1
 obtain ⟨its,rv,p,hz⟩:=I1.list hq
 refine wpAny_pyIter_list p.isList ?_
 refine ⟨s1.heap.objs.size,[s1.heap.objs.size],_,_,H1,rfl,I1.kept (t':=s1.toks) fun b o e=>Heap.get?_push_of_some _ e,jit a _,⟨_,Heap.get?_push_size _ rfl,rfl,rfl⟩,fun b hb=>?_,q⟩
 have e:b=s1.heap.objs.size:=by simpa using hb
 subst e
 exact I1.fpOk (Nat.le_refl _) (I1.hok.fresh (Nat.le_refl _))
theorem jkK {pins:List (Addr×Obj)} {σ:St} {H:Hp} {s:Shared} {R:It->Hp->Prop} {E:Value->Shared->Prop} {lo hi:Int} {t u v:Tok} {tk:Nat} (I:Inv X pins σ H s) (h1:-(2 ^ 62)<=lo) (h2:lo < 2 ^ 62) (h3:-(2 ^ 62)<=hi) (h4:hi < 2 ^ 62)
  (q:R (Itr lo (hi - lo).toNat) H):wpAny (model X.prog X.w) X.A (pyIter (.ref s.heap.objs.size)) (PIE X pins σ tg R) E {s with heap:=s.heap.push {cls:=.type "range",data:=.fields #[.int lo t,.int hi u,.int 1 v]},toks:=tk}:=by
 refine wpAny_pyIter_range (IsRange.new ..) (small_one h1 h2 h3 h4) ?_
 have I1:Inv X pins σ H {s with heap:=s.heap.push {cls:=.type "range",data:=.fields #[.int lo t,.int hi u,.int 1 v]},toks:=tk}:=I.kept fun b o e=>Heap.get?_push_of_some _ e
 refine ⟨(s.heap.push {cls:=.type "range",data:=.fields #[.int lo t,.int hi u,.int 1 v]}).objs.size,[(s.heap.push {cls:=.type "range",data:=.fields #[.int lo t,.int hi u,.int 1 v]}).objs.size],_,_,H,rfl,
  I1.kept (t':=tk) fun b o e=>Heap.get?_push_of_some _ e,jhI _ lo (hi - lo).toNat,?_,fun b hb=>?_,q⟩
 ·have e1:lo+((0:Nat):Int) * 1=lo:=by simp
  have e2:(((hi - lo).toNat:Nat):Int) - ((0:Nat):Int)=Builtin.Range.rangeSize lo hi 1:=by rw [rangeSize_one]; split <;> omega
  show IsRangeIter _ _ (lo+((0:Nat):Int) * 1) ((((hi - lo).toNat:Nat):Int) - ((0:Nat):Int)) 1
  rw [e1,e2]
  exact Heap.get?_push_size _ rfl
 ·have e:b=(s.heap.push {cls:=.type "range",data:=.fields #[.int lo t,.int hi u,.int 1 v]}).objs.size:=by simpa using hb
  subst e
  exact I1.fpOk (Nat.le_refl _) (I1.hok.fresh (Nat.le_refl _))
def iRng1 (ta:TA):TI:=fun σ H R=>ta σ H fun vs H1=>∃ j:Int,vs=[.int j]/\-(2 ^ 62)<=j/\j < 2 ^ 62/\R (Itr 0 j.toNat) H1
theorem jbm {a:Expr} {ta:TA} {p pos:Pos} (hg:Gl X "range") (hm:X.mg "range"=none) (ha:PA X [a] ta) (hs:starEach [a] X.env=[(false,eval a X.env)]:=by rfl):PI X tg (.Call (.Name "range" p) [a] [] pos) (iRng1 ta):=by
 intro pins s σ H R I h
 refine Call_ (ld_blt I hg hm boot_range (PyProof.Rows.callWith_type1 (thn (ha pos pins s σ H _ I h) fun us s1 ⟨vs,H1,I1,r1,q1⟩=>?_) hs rfl))
 obtain ⟨j,e,q1,q2,q⟩:=q1
 subst e
 cases r1 with
 | cons r rr =>
  cases rr
  obtain ⟨t,rfl⟩:=r
  exact call_range_1 (jkK I1 (by omega) (by omega) q1 q2 (by simpa using q))
def tFor (wi:TI) (g:TG) (tb:TS):TS:=fun D σ H=>wi σ H fun J H1=>∃ W:Nat->Nat->St->Hp->Prop,(∃ m,W 0 m σ H1)/\∀ i m σ H,W i m σ H ->
 (J.stop i H/\D.nx σ H)\/(J.go i H/\∃ N:St->Hp->Prop,(∀ σ' H',N σ' H'->∃ m',m' < m/\W (i+1) m' σ' H')/\∀ x H',J.yld i H x H'->g x σ H' fun σ2 H2=>tb {D with nx:=N,ct:=N,bk:=D.nx} σ2 H2)
def jfk (fp:List Addr) (h:Heap):List (Addr×Obj):=fp.filterMap fun b=>(h.get? b).map fun o=>(b,o)
theorem jcn {fp:List Addr} {h:Heap} {b:Addr} {o:Obj} (hb:b∈fp) (e:h.get? b=some o):(b,o)∈jfk fp h:=List.mem_filterMap.mpr ⟨b,hb,by rw [e]; rfl⟩
theorem jiu {fp:List Addr} {h:Heap} {p:Addr×Obj} (hp:p∈jfk fp h):p.1∈fp/\h.get? p.1=some p.2:=by
 obtain ⟨b,hb,e⟩:=List.mem_filterMap.mp hp
 cases q:h.get? b with
 | none=>rw [q] at e; cases e
 | some o =>
  rw [q] at e
  have e':(b,o)=p:=Option.some.inj e
  subst e'
  exact ⟨hb,q⟩
theorem Inv.pinned {pins:List (Addr×Obj)} {σ:St} {H:Hp} {s:Shared} {fp:List Addr} (I:Inv X pins σ H s) (hf:∀ b∈fp,jgg X pins H b) (ho:∀ b∈fp,∃ o,s.heap.get? b=some o/\∀ v,o.data≠.cell v):Inv X (pins++jfk fp s.heap) σ H s :=
 I.pins_of fun p hp=>(List.mem_append.mp hp).elim (fun z=>I.pin p (List.mem_append_right _ z)) fun z=>by
  obtain ⟨hb,e⟩:=jiu z
  obtain ⟨f0,f1,f2,_⟩:=hf p.1 hb
  obtain ⟨o,e',d⟩:=ho p.1 hb
  rw [e] at e'; cases e'
  exact ⟨e,f0,f1,f2,d⟩
theorem Inv.unpinned {pins pl:List (Addr×Obj)} {σ:St} {H:Hp} {s:Shared} (I:Inv X (pins++pl) σ H s):Inv X pins σ H s:=I.pins_of fun p hp=>I.pin p (List.mem_append_right _ (List.mem_append_left _ hp))
theorem jaN {iter:Expr} {body:List Stmt} {wi:TI} {g:TG} {tb:TS} {pos:Pos} (hp:PassesOwn (model X.prog X.w) X.A X.env X.xe) (hc:X.calm=true) (hi:PI X tg iter wi) (hg:PG X tg g) (hb:PSs X body tb)
  (hs:∀ x,foldedSetIterable iter X.env x=pure x:=by intro _; rfl):PS X (.For tg iter body [] pos) (tFor wi g tb):=by
 intro pins s σ H D I h
 refine wpAny_For (thn (hi pins s σ H _ I h) fun v s1 h1=>thn h1 fun itv s2 h2=>?_) hs
 obtain ⟨it,fp,tn,J,H2,e,I2,T,st2,f2,W,⟨m0,w0⟩,turn⟩:=h2
 subst e
 have stat:∀ {H':Hp},(∀ b∈fp,H' b=none)->∀ b∈fp,jgg X pins H' b:=fun hn b hb=>⟨hn b hb,(f2 b hb).2⟩
 refine codeAny_forLoop_any (fun n s'=>∃ i σ' H',Inv X pins σ' H' s'/\tn i s'.heap/\(∀ b∈fp,H' b=none)/\W i n σ' H') ?_ m0 ⟨0,σ,H2,I2,st2,fun b hb=>(f2 b hb).1,w0⟩
 rintro n s3 ⟨i,σ3,H3,I3,st3,fr3,w3⟩
 rcases turn i n σ3 H3 w3 with ⟨stop,qn⟩ | ⟨go,N,hN,step⟩
 ·refine wpAny_passesOwn hp (thn (T.done X rfl rfl rfl hc i pins s3 σ3 H3 X.xe I3 (stat fr3) st3 stop) fun r s4 ⟨hr,I4⟩=>?_)
  subst hr
  exact wpAny_execs_nil ⟨σ3,H3,I4,qn⟩
 ·refine wpAny_passesOwn hp (thn (T.item X rfl rfl rfl hc i pins s3 σ3 H3 X.xe I3 (stat fr3) st3 go) fun r s4 ⟨u,hr,h4⟩=>?_)
  subst hr
  refine wpAny_passesOwn hp (thn h4 fun _ s5 ⟨x,H5,I5,r5,y5,st5,fr5⟩=>?_)
  have I5':=I5.pinned (stat fr5) (T.obj _ _ st5)
  refine wpAny_passesOwn hp (thn (hg _ s5 σ3 H5 x u _ I5' r5 (step x H5 y5)) fun _ s6 ⟨σ6,H6,I6,q6⟩=>?_)
  refine wpAny_passesOwn hp (thn (hb _ s6 σ6 H6 _ I6 q6) fun f s7 q7=>?_)
  have again:∀ {σ7:St} {H7:Hp},Inv X (pins++jfk fp s5.heap) σ7 H7 s7->N σ7 H7->∃ m,m < n/\∃ i σ' H',Inv X pins σ' H' s7/\tn i s7.heap/\(∀ b∈fp,H' b=none)/\W i m σ' H':=fun {σ7 H7} I7 n7=>by
   obtain ⟨m',hm,w7⟩:=hN σ7 H7 n7
   refine ⟨m',hm,i+1,σ7,H7,I7.unpinned,T.keep _ _ _ st5 fun b hb o e=>(I7.pin (b,o) (List.mem_append_right _ (List.mem_append_right _ (jcn hb e)))).1,fun b hb=>?_,w7⟩
   obtain ⟨o,e,d⟩:=T.obj _ _ st5 b hb
   exact (I7.pin (b,o) (List.mem_append_right _ (List.mem_append_right _ (jcn hb e)))).2.1
  cases f with
  | next=>obtain ⟨σ7,H7,I7,n7⟩:=q7; exact again I7 n7
  | cont=>obtain ⟨σ7,H7,I7,n7⟩:=q7; exact again I7 n7
  | brk=>obtain ⟨σ7,H7,I7,q7⟩:=q7; exact ⟨σ7,H7,I7.unpinned,q7⟩
  | ret v=>obtain ⟨x7,σ7,H7,I7,r7,q7⟩:=q7; exact ⟨x7,σ7,H7,I7.unpinned,r7,q7⟩
end
theorem jcJ {K:PySem.W.Frag} {a:Addr} {xs:List V} {g:TG} {tb:TS} {D:Ends} {σ:St} {H:Hp} (Pv:Nat->St->Hp->Prop) (h0:Pv 0 σ H) (hl:∀ i σ H,i<=xs.length->Pv i σ H->SqL K H a xs)
  (hs:∀ i x σ H,xs[i]?=some x->Pv i σ H->g x σ H fun σ2 H2=>tb {D with nx:=Pv (i+1),ct:=Pv (i+1),bk:=D.nx} σ2 H2) (hd:∀ σ H,Pv xs.length σ H->D.nx σ H) :
  ∃ W:Nat->Nat->St->Hp->Prop,(∃ m,W 0 m σ H)/\∀ i m σ H,W i m σ H ->
   ((Itl K a).stop i H/\D.nx σ H)\/((Itl K a).go i H/\∃ N:St->Hp->Prop,(∀ σ' H',N σ' H'->∃ m',m' < m/\W (i+1) m' σ' H')/\∀ x H',(Itl K a).yld i H x H'->g x σ H' fun σ2 H2=>tb {D with nx:=N,ct:=N,bk:=D.nx} σ2 H2):=by
 refine ⟨fun i m σ H=>m=xs.length - i/\i<=xs.length/\Pv i σ H,⟨xs.length,by simp,Nat.zero_le _,h0⟩,?_⟩
 rintro i m σ H ⟨rfl,hi,p⟩
 have q:=hl i σ H hi p
 by_cases hlt:i < xs.length
 ·refine .inr ⟨⟨xs,xs[i],q,by simp [hlt]⟩,Pv (i+1),fun σ' H' p'=>⟨xs.length - (i+1),by omega,rfl,hlt,p'⟩,fun x H' y=>?_⟩
  obtain ⟨e,y⟩:=y
  subst e
  exact hs i x σ _ (y xs q) p
 ·have e:i=xs.length:=by omega
  subst e
  exact .inl ⟨⟨xs,q,Nat.le_refl _⟩,hd σ H p⟩
theorem jbI {lo:Int} {n:Nat} {g:TG} {tb:TS} {D:Ends} {σ:St} {H:Hp} (Pv:Nat->St->Hp->Prop) (h0:Pv 0 σ H)
  (hs:∀ i σ H,i < n->Pv i σ H->g (.int (lo+i)) σ H fun σ2 H2=>tb {D with nx:=Pv (i+1),ct:=Pv (i+1),bk:=D.nx} σ2 H2) (hd:∀ σ H,Pv n σ H->D.nx σ H) :
  ∃ W:Nat->Nat->St->Hp->Prop,(∃ m,W 0 m σ H)/\∀ i m σ H,W i m σ H ->
   ((Itr lo n).stop i H/\D.nx σ H)\/((Itr lo n).go i H/\∃ N:St->Hp->Prop,(∀ σ' H',N σ' H'->∃ m',m' < m/\W (i+1) m' σ' H')/\∀ x H',(Itr lo n).yld i H x H'->g x σ H' fun σ2 H2=>tb {D with nx:=N,ct:=N,bk:=D.nx} σ2 H2):=by
 refine ⟨fun i m σ H=>m=n - i/\i<=n/\Pv i σ H,⟨n,by simp,Nat.zero_le _,h0⟩,?_⟩
 rintro i m σ H ⟨rfl,hi,p⟩
 by_cases hlt:i < n
 ·refine .inr ⟨hlt,Pv (i+1),fun σ' H' p'=>⟨n - (i+1),by omega,rfl,hlt,p'⟩,fun x H' y=>?_⟩
  obtain ⟨e,y⟩:=y
  subst e y
  exact hs i σ _ hlt p
 ·have e:i=n:=by omega
  subst e
  exact .inl ⟨Nat.le_refl _,hd σ H p⟩
abbrev R2:=V->V->Hp->VK->Prop
def OpR (X:Cx) (f:Value->Value->Sem Value) (r:R2):Prop :=
 ∀ (pins:List (Addr×Obj)) (s:Shared) (σ:St) (H:Hp) (x y:V) (v u:Value) (Q:VK),Inv X pins σ H s->RelV x v->RelV y u->r x y H Q ->
  wpAny (model X.prog X.w) X.A (f v u) (EP X pins σ Q) X.xe s
def UnR (X:Cx) (f:Value->Sem Value) (r:V->Hp->VK->Prop):Prop :=
 ∀ (pins:List (Addr×Obj)) (s:Shared) (σ:St) (H:Hp) (x:V) (v:Value) (Q:VK),Inv X pins σ H s->RelV x v->r x H Q ->
  wpAny (model X.prog X.w) X.A (f v) (EP X pins σ Q) X.xe s
def jcK (X:Cx) (f:Value) (r:List V->Hp->VK->Prop):Prop :=
 ∀ (pins:List (Addr×Obj)) (s:Shared) (σ:St) (H:Hp) (xs:List V) (us:List Value) (Q:VK),Inv X pins σ H s->Vals xs us->r xs H Q ->
  wpAny (model X.prog X.w) X.A (call f us) (EP X pins σ Q) X.xe s
def TruR (X:Cx) (r:V->Hp->(Bool->Hp->Prop)->Prop):Prop :=
 ∀ (pins:List (Addr×Obj)) (s:Shared) (σ:St) (H:Hp) (x:V) (v:Value) (Q:Bool->Hp->Prop),Inv X pins σ H s->RelV x v->r x H Q ->
  wpAny (model X.prog X.w) X.A (truthy v) (TP X pins σ Q) X.xe s
def tOp (r:R2) (ta tb:TE):TE:=fun σ H Q=>ta σ H fun x H1=>tb σ H1 fun y H2=>r x y H2 Q
def tUn (r:V->Hp->VK->Prop) (ta:TE):TE:=fun σ H Q=>ta σ H fun x H1=>r x H1 Q
def rI (C:Int->Int->Prop) (g:Int->Int->V):R2:=fun x y H Q=>∃ i j,x=.int i/\y=.int j/\C i j/\Q (g i j) H
def rI0 (g:Int->Int->V):R2:=fun x y H Q=>∃ i j,x=.int i/\y=.int j/\Q (g i j) H
def rU (g:Int->V):V->Hp->VK->Prop:=fun x H Q=>∃ i,x=.int i/\Q (g i) H
section
variable {X:Cx} {a b c:Expr} {ta tb tc:TE} {pos:Pos}
theorem binT (ha:PE X a ta) (hb:PE X b tb) {pins:List (Addr×Obj)} {s:Shared} {σ:St} {H:Hp} {R:V->V->Hp->Prop} (I:Inv X pins σ H s)
  (h:ta σ H fun x H1=>tb σ H1 fun y H2=>R x y H2) {Q:Value->Shared->Prop} {f:Value->Value->Sem Value}
  (hf:∀ v u s2 x y H2,Inv X pins σ H2 s2->RelV x v->RelV y u->R x y H2->wpAny (model X.prog X.w) X.A (f v u) Q X.xe s2) :
  wpAny (model X.prog X.w) X.A (eval a X.env) (fun v s₁=>wpAny (model X.prog X.w) X.A (eval b X.env) (fun u s₂=>wpAny (model X.prog X.w) X.A (f v u) Q X.xe s₂) X.xe s₁) X.xe s:=by
 refine thn (ha pins s σ H _ I h) fun v s1 ⟨x,H1,I1,r1,q1⟩=>?_
 refine thn (hb pins s1 σ H1 _ I1 q1) fun u s2 ⟨y,H2,I2,r2,q2⟩=>?_
 exact hf v u s2 x y H2 I2 r1 r2 q2
theorem jan {op:Operator} {r:R2} (ho:OpR X (binaryOp op) r) (ha:PE X a ta) (hb:PE X b tb):PE X (.BinOp a op b pos) (tOp r ta tb):=by
 intro pins s σ H Q I h
 exact wpAny_BinOp (binT ha hb I h fun v u s2 x y H2 I2 rx ry q=>ho pins s2 σ H2 x y v u Q I2 rx ry q)
theorem jgh {op:UnaryOp} {r:V->Hp->VK->Prop} (ho:UnR X (unaryOp op) r) (ha:PE X a ta):PE X (.UnaryOp op a pos) (tUn r ta):=by
 intro pins s σ H Q I h
 exact UnaryOp_ (thn (ha pins s σ H _ I h) fun v s1 ⟨x,H1,I1,r1,q1⟩=>ho pins s1 σ H1 x v Q I1 r1 q1)
theorem opI {f:Value->Value->Sem Value} {C:Int->Int->Prop} {g:Int->Int->Int}
  (rule:∀ (i j:Int) (t u:Tok) (s:Shared) (Q:Value->Shared->Prop) (E:Value->Shared->Prop),C i j->Q (.int (g i j) s.toks) {s with toks:=s.toks+1}->wpAny (model X.prog X.w) X.A (f (.int i t) (.int j u)) Q E s) :
  OpR X f (rI C fun i j=>.int (g i j)):=by
 intro pins s σ H x y v u Q I rx ry h
 obtain ⟨i,j,rfl,rfl,hc,q⟩:=h
 obtain ⟨t,rfl⟩:=rx
 obtain ⟨t',rfl⟩:=ry
 exact rule i j t t' s _ _ hc ⟨.int (g i j),H,I.tok _,⟨_,rfl⟩,q⟩
theorem opI0 {f:Value->Value->Sem Value} {g:Int->Int->Int}
  (rule:∀ (i j:Int) (t u:Tok) (s:Shared) (Q:Value->Shared->Prop) (E:Value->Shared->Prop),Q (.int (g i j) s.toks) {s with toks:=s.toks+1}->wpAny (model X.prog X.w) X.A (f (.int i t) (.int j u)) Q E s) :
  OpR X f (rI0 fun i j=>.int (g i j)):=by
 intro pins s σ H x y v u Q I rx ry h
 obtain ⟨i,j,rfl,rfl,q⟩:=h
 obtain ⟨t,rfl⟩:=rx
 obtain ⟨t',rfl⟩:=ry
 exact rule i j t t' s _ _ ⟨.int (g i j),H,I.tok _,⟨_,rfl⟩,q⟩
theorem opB0 {f:Value->Value->Sem Value} {g:Int->Int->Bool}
  (rule:∀ (i j:Int) (t u:Tok) (s:Shared) (Q:Value->Shared->Prop) (E:Value->Shared->Prop),Q (.bool (g i j)) s->wpAny (model X.prog X.w) X.A (f (.int i t) (.int j u)) Q E s) :
  OpR X f (rI0 fun i j=>.bl (g i j)):=by
 intro pins s σ H x y v u Q I rx ry h
 obtain ⟨i,j,rfl,rfl,q⟩:=h
 obtain ⟨t,rfl⟩:=rx
 obtain ⟨t',rfl⟩:=ry
 exact rule i j t t' s _ _ ⟨.bl (g i j),H,I,rfl,q⟩
def CDiv (i j:Int):Prop:=0 < j/\j < 1073741824
def CPow (i j:Int):Prop:=0<=j/\j<=1000000/\i.natAbs < 2 ^ 64
def CMul (i j:Int):Prop:=(-(2 ^ 64) < i/\i < 2 ^ 64)\/(-(2 ^ 64) < j/\j < 2 ^ 64)
theorem CMul.ok {i j:Int} (h:CMul i j):IntMulOk i j:=by
 rcases h with ⟨h1,h2⟩ | ⟨h1,h2⟩
 ·exact .of_left (intBits_le_64 h1 h2)
 ·exact .of_right (intBits_le_64 h1 h2)
theorem jhJ (k:Nat):(0:Int)<=2 ^ k:=by
 rw [two_pow_cast]
 exact Int.natCast_nonneg _
theorem jaz:OpR X (binaryOp .Add) (rI0 fun i j=>.int (i+j)):=opI0 fun _ _ _ _ _ _ _ q=>add_int q
theorem jbY:OpR X (binaryOp .Sub) (rI0 fun i j=>.int (i - j)):=opI0 fun _ _ _ _ _ _ _ q=>sub_int q
theorem jdl:OpR X (binaryOp .Mult) (rI CMul fun i j=>.int (i * j)):=opI fun _ _ _ _ _ _ _ hc q=>mul_int q hc.ok
theorem jcy:OpR X (binaryOp .FloorDiv) (rI CDiv fun i j=>.int (i / j)):=opI fun i j _ _ _ _ _ hc q=>by
 have h1:(0:Int) < j:=hc.1
 have h2:j < 1073741824:=hc.2
 exact floordiv_int (by omega) (by rw [Int.fdiv_eq_ediv_of_nonneg i (by omega)]; exact q) (.inl (PyProof.noPylong_small (by omega)))
theorem jaT:OpR X (binaryOp .Mod) (rI (fun _ j=>0 < j) fun i j=>.int (i % j)):=opI fun i j _ _ _ _ _ hc q=>by
 have h1:(0:Int) < j:=hc
 exact mod_int' (by omega) (by rw [Int.fmod_eq_emod_of_nonneg i (by omega)]; exact q)
theorem jlT:OpR X (binaryOp .LShift) (rI CPow fun i j=>.int (i * 2 ^ j.toNat)):=opI fun _ _ _ _ _ _ _ hc q=>lshift_int_small hc.1 hc.2.1 hc.2.2 q
theorem jlU:OpR X (binaryOp .RShift) (rI (fun _ j=>0<=j) fun i j=>.int (i / 2 ^ j.toNat)):=opI fun i j _ _ _ _ _ hc q =>
 rshift_int hc (by rw [Int.fdiv_eq_ediv_of_nonneg i (jhJ _)]; exact q)
theorem jlV:OpR X (binaryOp .BitAnd) (rI0 fun i j=>.int (Builtin.bitAnd i j)):=opI0 fun _ _ _ _ _ _ _ q=>and_int q
theorem jmU:OpR X (binaryOp .BitOr) (rI0 fun i j=>.int (Builtin.bitOr i j)):=opI0 fun _ _ _ _ _ _ _ q=>or_int q
theorem unI {f:Value->Sem Value} {g:Int->Int}
  (rule:∀ (i:Int) (t:Tok) (s:Shared) (Q:Value->Shared->Prop) (E:Value->Shared->Prop),Q (.int (g i) s.toks) {s with toks:=s.toks+1}->wpAny (model X.prog X.w) X.A (f (.int i t)) Q E s) :
  UnR X f (rU fun i=>.int (g i)):=by
 intro pins s σ H x v Q I rx h
 obtain ⟨i,rfl,q⟩:=h
 obtain ⟨t,rfl⟩:=rx
 exact rule i t s _ _ ⟨.int (g i),H,I.tok _,⟨_,rfl⟩,q⟩
theorem jdF:UnR X (unaryOp .USub) (rU fun i=>.int (-i)):=unI fun _ _ _ _ _ q=>neg_int q
end
def scal:V->V->Bool
 | .non,.non=>true | .non,.int _=>true | .int _,.non=>true | .non,.bl _=>true | .bl _,.non=>true | .non,.str _=>true | .str _,.non=>true
 | .int _,.int _=>true | .bl _,.bl _=>true | .str _,.str _=>true | .byt _,.byt _=>true
 | .int _,.str _=>true | .str _,.int _=>true | .bl _,.str _=>true | .str _,.bl _=>true
 | _,_=>false
def rEq:R2:=fun x y H Q=>scal x y=true/\Q (.bl (decide (x=y))) H
def rNe:R2:=fun x y H Q=>scal x y=true/\Q (.bl (!decide (x=y))) H
theorem jiv {i j:Int}:decide (V.int i=V.int j)=(i==j):=by
 rw [Bool.eq_iff_iff]
 simp
theorem jlW {i j:Bool}:decide (V.bl i=V.bl j)=(i==j):=by
 rw [Bool.eq_iff_iff]
 simp
theorem jiw {i j:Str}:decide (V.str i=V.str j)=(i==j):=by
 rw [Bool.eq_iff_iff]
 simp
theorem jix {i j:Array UInt8}:decide (V.byt i=V.byt j)=(i.toList==j.toList):=by
 rw [Bool.eq_iff_iff]
 cases i
 cases j
 simp
section
variable {X:Cx} {a b c:Expr} {ta tb tc:TE} {pos:Pos}
theorem jaH {pins:List (Addr×Obj)} {σ:St} {H:Hp} {s:Shared} {Q:VK} {k k':Bool} (I:Inv X pins σ H s) (q:Q (.bl k) H) (e:k=k'):EP X pins σ Q (.bool k') s:=by
 subst e
 exact ⟨.bl k,H,I,rfl,q⟩
theorem jaZ:OpR X (compareOp .Eq) rEq:=by
 intro pins s σ H x y v u Q I rx ry h
 obtain ⟨hs,q⟩:=h
 cases x with
 | non =>
  cases rx
  cases y with
  | non=>cases ry; exact PySem.EqNone.eq_none_none (jaH I q (by simp))
  | bl j=>cases ry; exact PySem.EqNone.eq_none_bool (jaH I q (by simp))
  | int j=>obtain ⟨t',rfl⟩:=ry; exact PySem.EqNone.eq_none_int (jaH I q (by simp))
  | str j=>obtain ⟨t',rfl⟩:=ry; exact PySem.EqNone.eq_none_str (jaH I q (by simp))
  | _=>exact absurd (show false=true from hs) Bool.false_ne_true
 | bl i =>
  cases rx
  cases y with
  | non=>cases ry; exact PySem.EqNone.eq_bool_none (jaH I q (by simp))
  | bl j=>cases ry; exact eq_bool (jaH I q jlW)
  | str j=>obtain ⟨t',rfl⟩:=ry; exact PySem.EqMixed.eq_bool_str (jaH I q (by simp))
  | _=>exact absurd (show false=true from hs) Bool.false_ne_true
 | int i =>
  obtain ⟨t,rfl⟩:=rx
  cases y with
  | non=>cases ry; exact PySem.EqNone.eq_int_none (jaH I q (by simp))
  | int j=>obtain ⟨t',rfl⟩:=ry; exact eq_int (jaH I q jiv)
  | str j=>obtain ⟨t',rfl⟩:=ry; exact PySem.EqMixed.eq_int_str (jaH I q (by simp))
  | _=>exact absurd (show false=true from hs) Bool.false_ne_true
 | str i =>
  obtain ⟨t,rfl⟩:=rx
  cases y with
  | non=>cases ry; exact PySem.EqNone.eq_str_none (jaH I q (by simp))
  | bl j=>cases ry; exact PySem.EqMixed.eq_str_bool (jaH I q (by simp))
  | int j=>obtain ⟨t',rfl⟩:=ry; exact PySem.EqMixed.eq_str_int (jaH I q (by simp))
  | str j=>obtain ⟨t',rfl⟩:=ry; exact eq_str (jaH I q jiw)
  | _=>exact absurd (show false=true from hs) Bool.false_ne_true
 | byt i =>
  obtain ⟨t,rfl⟩:=rx
  cases y with
  | byt j=>obtain ⟨t',rfl⟩:=ry; exact PySem.W.eq_bytes (jaH I q jix)
  | _=>exact absurd (show false=true from hs) Bool.false_ne_true
 | _=>cases y <;> exact absurd (show false=true from hs) Bool.false_ne_true
theorem jgi:OpR X (compareOp .NotEq) rNe:=by
 intro pins s σ H x y v u Q I rx ry h
 obtain ⟨hs,q⟩:=h
 cases x with
 | non =>
  cases rx
  cases y with
  | non=>cases ry; exact PySem.EqNone.ne_none_none (jaH I q (by simp))
  | bl j=>cases ry; exact PySem.EqNone.ne_none_bool (jaH I q (by simp))
  | int j=>obtain ⟨t',rfl⟩:=ry; exact PySem.EqNone.ne_none_int (jaH I q (by simp))
  | str j=>obtain ⟨t',rfl⟩:=ry; exact PySem.EqNone.ne_none_str (jaH I q (by simp))
  | _=>exact absurd (show false=true from hs) Bool.false_ne_true
 | bl i =>
  cases rx
  cases y with
  | non=>cases ry; exact PySem.EqNone.ne_bool_none (jaH I q (by simp))
  | bl j=>cases ry; exact ne_bool (jaH I q (congrArg not jlW))
  | str j=>obtain ⟨t',rfl⟩:=ry; exact PySem.EqMixed.ne_bool_str (jaH I q (by simp))
  | _=>exact absurd (show false=true from hs) Bool.false_ne_true
 | int i =>
  obtain ⟨t,rfl⟩:=rx
  cases y with
  | non=>cases ry; exact PySem.EqNone.ne_int_none (jaH I q (by simp))
  | int j=>obtain ⟨t',rfl⟩:=ry; exact ne_int (jaH I q (congrArg not jiv))
  | str j=>obtain ⟨t',rfl⟩:=ry; exact PySem.EqMixed.ne_int_str (jaH I q (by simp))
  | _=>exact absurd (show false=true from hs) Bool.false_ne_true
 | str i =>
  obtain ⟨t,rfl⟩:=rx
  cases y with
  | non=>cases ry; exact PySem.EqNone.ne_str_none (jaH I q (by simp))
  | bl j=>cases ry; exact PySem.EqMixed.ne_str_bool (jaH I q (by simp))
  | int j=>obtain ⟨t',rfl⟩:=ry; exact PySem.EqMixed.ne_str_int (jaH I q (by simp))
  | str j=>obtain ⟨t',rfl⟩:=ry; exact ne_str (jaH I q (congrArg not jiw))
  | _=>exact absurd (show false=true from hs) Bool.false_ne_true
 | byt i =>
  obtain ⟨t,rfl⟩:=rx
  cases y with
  | byt j=>obtain ⟨t',rfl⟩:=ry; exact PySem.W.ne_bytes (jaH I q (congrArg not jix))
  | _=>exact absurd (show false=true from hs) Bool.false_ne_true
 | _=>cases y <;> exact absurd (show false=true from hs) Bool.false_ne_true
theorem jhK:OpR X (compareOp .Lt) (rI0 fun i j=>.bl (decide (i < j))):=opB0 fun _ _ _ _ _ _ _ q=>lt_int q
theorem jgj:OpR X (compareOp .LtE) (rI0 fun i j=>.bl (decide (i<=j))):=opB0 fun _ _ _ _ _ _ _ q=>le_int q
theorem jfl:OpR X (compareOp .Gt) (rI0 fun i j=>.bl (decide (j < i))):=opB0 fun _ _ _ _ _ _ _ q=>gt_int q
theorem jkL:OpR X (compareOp .GtE) (rI0 fun i j=>.bl (decide (j<=i))):=opB0 fun _ _ _ _ _ _ _ q=>ge_int q
theorem jiy:OpR X (compareOp .In) (fun x y H Q=>∃ i j,x=.str i/\y=.str j/\Q (.bl (!(Builtin.Str.occurrences j i 0 j.length 1).isEmpty)) H):=by
 intro pins s σ H x y v u Q I rx ry h
 obtain ⟨i,j,rfl,rfl,q⟩:=h
 obtain ⟨t,rfl⟩:=rx
 obtain ⟨t',rfl⟩:=ry
 exact in_str (jaH I q rfl)
theorem jas (b:Expr) {op:CmpOp} (h:op≠.In:=by decide) (h2:op≠.NotIn:=by decide):behindInMarks op b=false:=by
 have e1:(op==CmpOp.In)=false:=by cases op <;> first | rfl | exact absurd rfl h
 have e2:(op==CmpOp.NotIn)=false:=by cases op <;> first | rfl | exact absurd rfl h2
 cases b <;> simp [behindInMarks,e1,e2]
theorem jbb {op:CmpOp} {r:R2} (ho:OpR X (compareOp op) r) (ha:PE X a ta) (hb:PE X b tb) (hm:behindInMarks op b=false):PE X (.Compare a [op] [b] pos) (tOp r ta tb):=by
 intro pins s σ H Q I h
 exact wpAny_Compare1 (binT ha hb I h fun v u s2 x y H2 I2 rx ry q=>ho pins s2 σ H2 x y v u Q I2 rx ry q) hm
def jkM (t:TE):TT:=fun σ H Q=>t σ H fun x H'=>∃ k,x=.bl k/\Q k H'
theorem jao {op:CmpOp} {r:R2} (ho:OpR X (compareOp op) r) (ha:PE X a ta) (hb:PE X b tb) (hm:behindInMarks op b=false):PT X (.Compare a [op] [b] pos) (jkM (tOp r ta tb)):=by
 intro pins s σ H Q I h
 refine wpAny_isTrue_Compare1 (thn (ha pins s σ H _ I h) fun v s1 ⟨x,H1,I1,r1,q1⟩=>thn (hb pins s1 σ H1 _ I1 q1) fun u s2 ⟨y,H2,I2,r2,q2⟩ =>
  thn (ho pins s2 σ H2 x y v u _ I2 r1 r2 q2) fun c s3 ⟨z,H3,I3,r3,k,e,q3⟩=>?_) hm
 subst e
 cases r3
 exact wpAny_truthy_bool ⟨H3,I3,q3⟩
def jot (r r':R2) (ta tb tc:TE):TE:=fun σ H Q=>ta σ H fun x H1=>tb σ H1 fun y H2=>r x y H2 fun z H3=>∃ k,z=.bl k /\
 (if k=true then tc σ H3 fun w' H4=>r' y w' H4 Q else Q (.bl false) H3)
theorem jgJ {op op':CmpOp} {r r':R2} (ho:OpR X (compareOp op) r) (ho':OpR X (compareOp op') r') (ha:PE X a ta) (hb:PE X b tb) (hc:PE X c tc)
  (hm:lastMarks [op,op'] [b,c]=false:=by with_unfolding_all rfl):PE X (.Compare a [op,op'] [b,c] pos) (jot r r' ta tb tc):=by
 intro pins s σ H Q I h
 refine Compare_chain (thn (ha pins s σ H _ I h) fun v s1 ⟨x,H1,I1,r1,q1⟩=>chain_link (thn (hb pins s1 σ H1 _ I1 q1) fun u s2 ⟨y,H2,I2,r2,q2⟩ =>
  thn (ho pins s2 σ H2 x y v u _ I2 r1 r2 q2) fun d s3 ⟨z,H3,I3,r3,k,e,q3⟩=>?_)) hm
 subst e
 cases r3
 refine wpAny_truthy_bool ?_
 cases k with
 | false=>exact ite_ff ⟨.bl false,H3,I3,rfl,q3⟩
 | true=>exact ite_tt (chain_last (thn (hc pins s3 σ H3 _ I3 q3) fun w' s4 ⟨z',H4,I4,r4,q4⟩=>ho' pins s4 σ H4 y z' u w' Q I4 r2 r4 q4))
def TruV (K:PySem.W.Frag) (x:V) (H:Hp) (k:Bool):Prop :=
 match x with
 | .non=>k=false
 | .bl b=>k=b
 | .int i=>k=(i != 0)
 | .str y=>y.length<=sizeLine/\k=((y.length:Int) != 0)
 | .byt y=>y.size<=sizeLine/\k=((y.size:Int) != 0)
 | .ref p=>(∃ xs,SqL K H p xs/\k=!xs.isEmpty)\/(∃ xs,SqT K H p xs/\k=!xs.isEmpty)\/∃ kvs,H p=some (.dK kvs)/\k=!kvs.isEmpty
 | _=>False
theorem jhL {κ:Type} {kvs:List (κ×V)} {vs:List (κ×Value)} (r:KV kvs vs):(!vs.isEmpty)=!kvs.isEmpty:=by
 cases r <;> rfl
theorem jel {xs:List V} {its:List Value} (r:Vals xs its):(!its.toArray.isEmpty)=!xs.isEmpty:=by
 cases r <;> simp
theorem jdm:(sizeLine:Nat) < 2 ^ 63:=by rw [sizeLine_eq]; decide
theorem jou:TruR X (fun x H Q=>∃ k,TruV X.K x H k/\Q k H):=by
 intro pins s σ H x v Q I rx h
 obtain ⟨k,e,q⟩:=h
 have hl:=jdm
 have hs:sizeLine=16777216:=sizeLine_eq
 cases x with
 | non =>
  cases rx
  have e':k=false:=e
  subst e'
  exact truthy_none ⟨H,I,q⟩
 | bl b =>
  cases rx
  have e':k=b:=e
  subst e'
  exact wpAny_truthy_bool ⟨H,I,q⟩
 | int i =>
  obtain ⟨t,rfl⟩:=rx
  have e':k=(i != 0):=e
  subst e'
  exact PySem.P.truthy_int ⟨H,I,q⟩
 | str y =>
  obtain ⟨t,rfl⟩:=rx
  obtain ⟨hy,e'⟩:y.length<=sizeLine/\k=((y.length:Int) != 0):=e
  subst e'
  exact PySem.P.truthy_str (by omega) ⟨H,I.tok _,q⟩
 | byt y =>
  obtain ⟨t,rfl⟩:=rx
  obtain ⟨hy,e'⟩:y.size<=sizeLine/\k=((y.size:Int) != 0):=e
  subst e'
  exact PySem.W.truthy_bytes (by omega) ⟨H,I.tok _,q⟩
 | ref p =>
  cases rx
  have e':(∃ xs,SqL X.K H p xs/\k=!xs.isEmpty)\/(∃ xs,SqT X.K H p xs/\k=!xs.isEmpty)\/∃ kvs,H p=some (.dK kvs)/\k=!kvs.isEmpty:=e
  rcases e' with ⟨xs,hx,e'⟩ | ⟨xs,hx,e'⟩ | ⟨kvs,hx,e'⟩
  ·subst e'
   obtain ⟨its,r,pl,hz⟩:=I.list hx
   have hlen:=r.length
   exact wpAny_truthy_list pl.isList (by simp only [List.size_toArray]; omega) ⟨H,I.tok _,by rw [jel r]; exact q⟩
  ·subst e'
   obtain ⟨its,r,pl,hz⟩:=I.tuple hx
   have hlen:=r.length
   exact truthy_tuple pl (by simp only [List.size_toArray]; omega) ⟨H,I.tok _,by rw [jel r]; exact q⟩
  ·subst e'
   obtain ⟨hz,hS,vs,r,m⟩:kvs.length<=sizeLine/\(p==sysModules)=false/\∃ vs,KV kvs vs/\s.heap.DictOf (jaC X.prog X.w) p vs:=I.hok p _ hx
   have hlen:kvs.length=vs.length:=Paired.length r
   exact wpAny_truthy_dict hS m (by omega) ⟨H,I.tok _,by rw [jhL r]; exact q⟩
 | _=>exact (show False from e).elim
theorem jgK (ha:PE X a ta) (he:∀ whole,isTrue a X.env whole=(do let v <- whole; standAt a.pos; holding [v] (truthy v))) :
  PT X a (fun σ H Q=>ta σ H fun x H'=>∃ k,TruV X.K x H' k/\Q k H'):=by
 intro pins s σ H Q I h
 exact isTrue_plain (thn (ha pins s σ H _ I h) fun v s1 ⟨x,H1,I1,r1,q1⟩=>jou pins s1 σ H1 x v Q I1 r1 q1) (he _)
theorem jbd:OpR X (binaryOp .Add) (fun x y H Q=>∃ i j,x=.str i/\y=.str j/\i.length+j.length<=sizeLine/\Q (.str (i++j)) H):=by
 intro pins s σ H x y v u Q I rx ry h
 obtain ⟨i,j,rfl,rfl,hz,q⟩:=h
 obtain ⟨t,rfl⟩:=rx
 obtain ⟨t',rfl⟩:=ry
 exact add_str (fun t' tk=>⟨.str (i++j),H,I.tok _,⟨_,rfl⟩,q⟩) hz
theorem jdG {x:V} {us:List Value} (r:Vals [x] us):∃ u,us=[u]/\RelV x u:=by
 cases r with
 | cons r1 r2=>cases r2; exact ⟨_,rfl,r1⟩
theorem jiz {x y:V} {us:List Value} (r:Vals [x,y] us):∃ u w',us=[u,w']/\RelV x u/\RelV y w':=by
 cases r with
 | cons r1 r2 =>
  cases r2 with
  | cons r3 r4=>cases r4; exact ⟨_,_,rfl,r1,r3⟩
theorem jfm (hc:X.calm=true):jcK X (.builtin "min") (fun xs H Q=>∃ i j,xs=[.int i,.int j]/\Q (.int (if j < i then j else i)) H):=by
 intro pins s σ H xs us Q I r h
 obtain ⟨i,j,rfl,q⟩:=h
 obtain ⟨u,w',rfl,⟨t,rfl⟩,⟨t',rfl⟩⟩:=jiz r
 refine min_two_ints (I.ok.hd hc) fun h' tk k=>⟨_,H,I.kept k,?_,q⟩
 by_cases hj:j < i
 ·rw [if_pos hj,if_pos hj]; exact ⟨_,rfl⟩
 ·rw [if_neg hj,if_neg hj]; exact ⟨_,rfl⟩
theorem jiA:jcK X (.type "int") (fun xs H Q=>(∃ i,xs=[.int i]/\Q (.int i) H)\/∃ k,xs=[.bl k]/\Q (.int (if k then 1 else 0)) H):=by
 intro pins s σ H xs us Q I r h
 rcases h with ⟨i,rfl,q⟩ | ⟨k,rfl,q⟩
 ·obtain ⟨u,rfl,t,rfl⟩:=jdG r
  exact call_int_int ⟨.int i,H,I,⟨_,rfl⟩,q⟩
 ·obtain ⟨u,rfl,r1⟩:=jdG r
  cases r1
  exact call_int_bool ⟨.int (if k then 1 else 0),H,I.tok _,⟨_,rfl⟩,q⟩
end
structure ObjM (h:Heap) (x dx C:Addr) (mA:Str->Option Value):Prop where
 obj:h.get? x=some (PySem.W.instObj C dx)
 ns:h.Ns1 dx mA
 ne:dx≠x
theorem jdH {h:Heap} {dx:Addr} {mA:Str->Option Value} (n:h.Ns1 dx mA):∃ od,h.get? dx=some od/\∀ name,PySem.W.lookIn name od=some (mA name):=by
 obtain ⟨o,es,ep,ho,hd,hk,_,hm⟩:=n
 refine ⟨o,ho,fun name=>?_⟩
 have e:=hm name
 unfold nsFind findBy at e
 rw [<- Array.find?_toList] at e
 unfold PySem.W.lookIn
 rw [hd]
 dsimp only
 split
 ·rename_i y q
  rw [q] at e
  exact congrArg some e
 ·rename_i q
  rw [q] at e
  have a:es.toList.any (·.refKey)=false:=by
   rw [List.any_eq_false]
   intro y hy
   obtain ⟨z,t,hkey⟩:=hk y (Array.mem_toList_iff.mp hy)
   simp [DictEntry.refKey,hkey]
  have a':¬ es.toList.any (·.refKey)=true:=by rw [a]; exact Bool.false_ne_true
  rw [if_neg a']
  exact congrArg some e
theorem ObjM.look {h:Heap} {x dx C:Addr} {mA:Str->Option Value} (I:ObjM h x dx C mA):∃ od,PySem.W.InstAt h x (PySem.W.instObj C dx) C (some od)/\∀ name,PySem.W.lookIn name od=some (mA name) :=
 let ⟨od,ho,hl⟩:=jdH I.ns
 ⟨od,⟨I.obj,rfl,rfl,ho⟩,hl⟩
section
variable {prog:Program} {w:World} {A:Around} {E:Value->Shared->Prop} {s:Shared} {K:PySem.W.Frag} {x dx C f:Addr} {mA:Str->Option Value} {name:Str} {v:Value}
theorem jmV {expr:Bool} {Q:Value->Shared->Prop} (X:K.In s.heap) (I:ObjM s.heap x dx C mA) (hg:PySem.W.plainGet K C name=true) (hh:PySem.W.hasDictIn K C=true)
  (ha:PySem.W.findIn K (.ref C) name=some none) (hv:mA name=some v) (hv':PySem.W.handedIn v=true) (h:Q v {s with toks:=s.toks+1}) :
  wpAny (model prog w) A (getAttr (.ref x) name expr) Q E s:=by
 obtain ⟨od,J,hl⟩:=I.look
 exact PySem.W.get_value X J (PySem.W.plainGet_of hg).1 (PySem.W.findObj_own hh ha rfl (by rw [hl,hv])) hv' h
theorem jkN {pl:Sem Bool} {Q:Value×List Value->Shared->Prop} (X:K.In s.heap) (I:ObjM s.heap x dx C mA) (hg:PySem.W.plainGet K C name=true)
  (hf:PySem.W.findIn K (.ref C) name=some (some (.ref f))) (ht:PySem.W.isFn K (.ref f)=true) (hv:mA name=none) (h:Q (.ref f,[.ref x]) s) :
  wpAny (model prog w) A (getMethod (.ref x) name pl) Q E s:=by
 obtain ⟨od,J,hl⟩:=I.look
 exact PySem.W.method_fn X J (PySem.W.plainGet_of hg).1 (PySem.W.plainGet_of hg).2 hf (beq_iff_eq.mp ht) (by show (PySem.W.lookIn name od).map (·.isSome)=some false; rw [hl,hv]; rfl) h
theorem jmW {ns:List Str} {Q:Unit->Shared->Prop} (X:K.In s.heap) (I:ObjM s.heap x dx C mA)
  (hs:PySem.W.findIn K (.ref C) "__setattr__"=some (some (.builtin "object.__setattr__"))) (hp:PySem.W.plainOver K C=true) (ht:PySem.W.takerIn K C name=some none) (hh:PySem.W.hasDictIn K C=true)
  (hw:PySem.Within mA ns) (hsz:ns.length<=sizeLine)
  (h:∀ h',ObjM h' x dx C (fun y=>if y=name then some v else mA y)->Heap.SameBut dx s.heap h'->Q () {s with heap:=h',toks:=s.toks+2}) :
  wpAny (model prog w) A (setAttr (.ref x) name v) Q E s:=by
 obtain ⟨od,J,hl⟩:=I.look
 refine PySem.W.set_plain X J hs (PySem.W.osa_open (s:={s with toks:=s.toks+1}) (r:=none) X J hp ht fun b=>?_)
 obtain ⟨cd,hc,hd'⟩:=PySem.W.any_some hh
 have hx:s.heap.get? x=some ⟨.ref C,some dx,.plain,#[]⟩:=I.obj
 refine wpAny_bind (wpAny_pure (wpAny_bind (wpAny_bind (wpAny_loadPart hx (wpAny_bind (PySem.W.Looks.here (s:={s with toks:=s.toks+1}) (PySem.W.looks_clsIn X hc) ?_))))))
 rw [hd']
 refine wpAny_pure (a:=some dx) (wpAny_bind (wpAny_pure (wpAny_bind ?_)))
 refine wpAny_nsSet1 (s:={s with toks:=s.toks+1}) I.ns fun h' hn2 hs2=>?_
 obtain ⟨oD,esD,epD,hoD,hdD,hcD⟩:=hn2.count (PySem.Within.cons name v hw)
 refine wpAny_bind (wpAny_lookBehind hoD (by rw [hdD]; exact pastItsLine_dict (Nat.le_trans hcD (by rw [List.length_cons]; omega))) ?_)
 exact wpAny_pure (h _ ⟨(hs2.2 _ (Ne.symm I.ne)).trans I.obj,hn2,I.ne⟩ hs2)
theorem jkO {R:Result->Shared->Prop} {vs:List Value} {kw:List (Str×Value)} (X:K.In s.heap) (hm:PySem.W.makesIn K C=true)
  (hi:PySem.W.findIn K (.ref C) "__init__"=some (some (.ref f))) (hf:PySem.W.typeIn K (.ref f)=some (.type "function"))
  (h:codeAny (model prog w) (A.under (.builtin "type.__call__" ⟨.ref C::vs,kw⟩)) (.call (.ref f) ⟨.ref (s.heap.objs.size+1)::vs,kw⟩) (PySem.W.InitBack (s.heap.objs.size+1) R)
   {s with heap:=(s.heap.push PySem.W.emptyDict).push (PySem.W.instObj C s.heap.objs.size)}) :
  codeAny (model prog w) A (.call (.ref C) ⟨vs,kw⟩) R s:=by
 obtain ⟨hh,g,d,t,os⟩:=s
 exact PySem.W.make_core (PySem.W.makes_of X hm) (PySem.W.looks_findIn X hi) (fun self=>PySem.W.bind_fn X self hf) (.inl rfl) h
end
def jaK (f:Str) (v:V):List (Str×V)->List (Str×V)
 | []=>[(f,v)]
 | (g,x)::r=>if g=f then (g,v)::r else (g,x)::jaK f v r
theorem jbk (f g:Str) (v:V):∀ fs:List (Str×V),(jaK f v fs).lookup g=if g=f then some v else fs.lookup g
 | []=>by
  show List.lookup g [(f,v)]=_
  by_cases h:g=f
  ·have hb:(g==f)=true:=beq_iff_eq.mpr h
   simp only [List.lookup,hb,if_pos h]
  ·have hb:(g==f)=false:=beq_eq_false_iff_ne.mpr h
   simp only [List.lookup,hb,if_neg h]
 | (k,x)::r=>by
  have ih:=jbk f g v r
  rw [show jaK f v ((k,x)::r)=(if k=f then (k,v)::r else (k,x)::jaK f v r) from rfl]
  by_cases hk:k=f
  ·rw [if_pos hk]
   by_cases h:g=k
   ·have hb:(g==k)=true:=beq_iff_eq.mpr h
    simp only [List.lookup,hb,if_pos (h.trans hk)]
   ·have hb:(g==k)=false:=beq_eq_false_iff_ne.mpr h
    simp only [List.lookup,hb,if_neg (fun e:g=f=>h (e.trans hk.symm))]
  ·rw [if_neg hk]
   by_cases h:g=k
   ·have hb:(g==k)=true:=beq_iff_eq.mpr h
    simp only [List.lookup,hb,if_neg (fun e:g=f=>hk (h.symm.trans e))]
   ·have hb:(g==k)=false:=beq_eq_false_iff_ne.mpr h
    simp only [List.lookup,hb]
    exact ih
theorem jdI (f:Str) (v:V):∀ fs:List (Str×V),f∈(jaK f v fs).map (·.1)/\∀ g,g∈fs.map (·.1)->g∈(jaK f v fs).map (·.1)
 | []=>⟨by simp [jaK],fun g h=>by simp at h⟩
 | (k,x)::r=>by
  obtain ⟨i1,i2⟩:=jdI f v r
  rw [show jaK f v ((k,x)::r)=(if k=f then (k,v)::r else (k,x)::jaK f v r) from rfl]
  by_cases hk:k=f
  ·rw [if_pos hk]
   subst hk
   exact ⟨by simp,fun g h=>by simpa using h⟩
  ·rw [if_neg hk]
   refine ⟨?_,fun g h=>?_⟩
   ·rw [List.map_cons]
    exact List.mem_cons_of_mem _ i1
   ·rw [List.map_cons] at h ⊢
    rcases List.mem_cons.mp h with e | e
    ·exact List.mem_cons.mpr (.inl e)
    ·exact List.mem_cons_of_mem _ (i2 g e)
theorem jcz (f:Str) (v:V):∀ fs:List (Str×V),(jaK f v fs).length<=fs.length+1
 | []=>by simp [jaK]
 | (k,x)::r=>by
  have ih:=jcz f v r
  rw [show jaK f v ((k,x)::r)=(if k=f then (k,v)::r else (k,x)::jaK f v r) from rfl]
  by_cases hk:k=f
  ·rw [if_pos hk,List.length_cons,List.length_cons]; omega
  ·rw [if_neg hk,List.length_cons,List.length_cons]; omega
theorem RelO.some_of {v:V} {o:Option Value} (r:RelO (some v) o):∃ u,o=some u/\RelV v u:=by
 cases o with
 | none=>exact (show False from r).elim
 | some u=>exact ⟨u,rfl,r⟩
theorem RelO.none_of {o:Option Value} (r:RelO none o):o=none:=by
 cases o with
 | none=>rfl
 | some u=>exact (show False from r).elim
theorem jfn {v:V} {u:Value} (r:RelV v u):PySem.W.handedIn u=true:=by
 cases v with
 | non=>cases (show u=Value.none from r); rfl
 | bl b=>cases (show u=Value.bool b from r); rfl
 | int i=>obtain ⟨t,e⟩:=(show ∃ t,u=Value.int i t from r); cases e; rfl
 | str x=>obtain ⟨t,e⟩:=(show ∃ t,u=Value.str x t from r); cases e; rfl
 | byt b=>obtain ⟨t,e⟩:=(show ∃ t,u=Value.bytes b t from r); cases e; rfl
 | flt b=>obtain ⟨t,e⟩:=(show ∃ t,u=Value.float b t from r); cases e; rfl
 | ref a=>cases (show u=Value.ref a from r); rfl
 | ty n=>cases (show u=Value.type n from r); rfl
section
variable {P:Program} {w:World} {H H':Hp} {h h':Heap} {a C dx:Addr} {fs fs':List (Str×V)}
theorem jez (hok:HOk P w H h) (e:H a=some (.ins C dx fs)):∃ mA,ObjM h a dx C mA/\(∀ f,RelO (fs.lookup f) (mA f))/\PySem.Within mA (fs.map (·.1))/\fs.length<=1000/\H dx=some (.own a):=by
 obtain ⟨d,z,ne,ob,mA,n,r,q⟩:=(show ObjOk P w H h a (.ins C dx fs) from hok a _ e)
 exact ⟨mA,⟨ob,n,ne⟩,r,q,z,d⟩
end
structure Cls (K:PySem.W.Frag) (C:Addr):Prop where
 pg:PySem.W.plainGet K C Str.empty=true
 hd:PySem.W.hasDictIn K C=true
 po:PySem.W.plainOver K C=true
 sa:PySem.W.findIn K (.ref C) "__setattr__"=some (some (.builtin "object.__setattr__"))
theorem Cls.get {K:PySem.W.Frag} {C:Addr} (c:Cls K C) (f:Str):PySem.W.plainGet K C f=true:=c.pg
def NoAttr (K:PySem.W.Frag) (C:Addr) (f:Str):Prop:=PySem.W.findIn K (.ref C) f=some none
theorem NoAttr.taker {K:PySem.W.Frag} {C:Addr} {f:Str} (n:NoAttr K C f):PySem.W.takerIn K C f=some none:=by
 unfold PySem.W.takerIn
 rw [show PySem.W.findIn K (.ref C) f=some none from n]
 rfl
structure Meth (K:PySem.W.Frag) (C:Addr) (m:Str) (f:Addr):Prop where
 at_:PySem.W.findIn K (.ref C) m=some (some (.ref f))
 fn:PySem.W.isFn K (.ref f)=true
 kp:PySem.W.keepIn K (.ref f)=true
section
variable {X:Cx} {pins:List (Addr×Obj)} {σ:St} {H:Hp} {s:Shared} {a C dx:Addr} {fs:List (Str×V)} {f:Str} {v:V} {A:Around} {E:Value->Shared->Prop}
theorem jem {b:Bool} {Q:Value->Shared->Prop} (I:Inv X pins σ H s) (e:H a=some (.ins C dx fs)) (c:Cls X.K C) (n:NoAttr X.K C f) (l:fs.lookup f=some v)
  (h:∀ u s',Inv X pins σ H s'->RelV v u->Q u s'):wpAny (model X.prog X.w) A (getAttr (.ref a) f b) Q E s:=by
 obtain ⟨mA,O,r,_,_,_⟩:=jez I.hok e
 obtain ⟨u,hu,ru⟩:=RelO.some_of (v:=v) (o:=mA f) (by rw [<- l]; exact r f)
 exact jmV I.kIn O (c.get f) c.hd n hu (jfn ru) (h u _ (I.tok _) ru)
theorem jhM {m:Str} {g:Addr} {pl:Sem Bool} {Q:Value×List Value->Shared->Prop} (I:Inv X pins σ H s) (e:H a=some (.ins C dx fs)) (c:Cls X.K C) (k:Meth X.K C m g) (l:fs.lookup m=none)
  (h:Q (.ref g,[.ref a]) s):wpAny (model X.prog X.w) A (getMethod (.ref a) m pl) Q E s:=by
 obtain ⟨mA,O,r,_,_,_⟩:=jez I.hok e
 have hn:mA m=none:=RelO.none_of (by rw [<- l]; exact r m)
 exact jkN I.kIn O (c.get m) k.at_ k.fn hn h
theorem jen {y:V} {u:Value} {Q:Unit->Shared->Prop} (I:Inv X pins σ H s) (e:H a=some (.ins C dx fs)) (c:Cls X.K C) (n:NoAttr X.K C f) (hl:fs.length < 1000) (ry:RelV y u)
  (h:∀ s',Inv X pins σ (upd H a (.ins C dx (jaK f y fs))) s'->Q () s'):wpAny (model X.prog X.w) A (setAttr (.ref a) f u) Q E s:=by
 obtain ⟨mA,O,r,wi,_,ho⟩:=jez I.hok e
 have hz:(fs.map (·.1)).length<=sizeLine:=by rw [List.length_map,sizeLine_eq]; omega
 refine jmW I.kIn O c.sa c.po n.taker c.hd wi hz fun h' O' sb=>h _ ?_
 have hd:∃ o,h'.get? dx=some o:=let ⟨o,_,_,e',_⟩:=O'.ns; ⟨o,e'⟩
 refine I.write (x:=a) (e:=dx) (by rw [e]; exact True.intro) (.inr ho) (fun b q hb z=>(sb.2 b hb).trans z) hd ?_
 refine ⟨by rw [upd_ne O.ne]; exact ho,?_,O.ne,O'.obj,_,O'.ns,fun g=>?_,fun g hg=>?_⟩
 ·have:=jcz f y fs; omega
 ·show RelO ((jaK f y fs).lookup g) (if g=f then some u else mA g)
  rw [jbk]
  by_cases q:g=f
  ·rw [if_pos q,if_pos q]; exact ry
  ·rw [if_neg q,if_neg q]; exact r g
 ·by_cases q:g=f
  ·rw [q]; exact (jdI f y fs).1
  ·refine (jdI f y fs).2 g (wi g fun z=>hg ?_)
   show (if g=f then some u else mA g)=none
   rw [if_neg q]; exact z
theorem Inv.made (I:Inv X pins σ H s):Inv X pins σ (upd (upd H s.heap.objs.size (.own (s.heap.objs.size+1))) (s.heap.objs.size+1) (.ins C s.heap.objs.size []))
  {s with heap:=(s.heap.push PySem.W.emptyDict).push (PySem.W.instObj C s.heap.objs.size)}:=by
 have e1:(s.heap.push PySem.W.emptyDict).get? s.heap.objs.size=some PySem.W.emptyDict:=Heap.get?_push_size s.heap rfl
 have e2:((s.heap.push PySem.W.emptyDict).push (PySem.W.instObj C s.heap.objs.size)).get? (s.heap.objs.size+1)=some (PySem.W.instObj C s.heap.objs.size):=by
  have:=Heap.get?_push_size (s.heap.push PySem.W.emptyDict) (o:=PySem.W.instObj C s.heap.objs.size) rfl
  rwa [Heap.size_push] at this
 have e3:(s.heap.push PySem.W.emptyDict).Ns s.heap.objs.size (fun _=>none):=⟨PySem.W.emptyDict,#[],_,e1,rfl,(fun e he=>absurd he (by simp)),fun _=>rfl⟩
 have I1:=I.laid (a:=s.heap.objs.size) (o:=.own (s.heap.objs.size+1)) (h':=s.heap.push PySem.W.emptyDict) (t':=s.toks) (fun b u q=>Heap.get?_push_of_some _ q) (Nat.le_refl _) ⟨_,e1⟩
 refine I1.laid (a:=s.heap.objs.size+1) (o:=.ins C s.heap.objs.size []) (t':=s.toks) (fun b u q=>Heap.get?_push_of_some _ q) (Nat.le_of_eq (Heap.size_push _ _)) ?_
 have ne:s.heap.objs.size≠s.heap.objs.size+1:=Nat.ne_of_lt (Nat.lt_succ_self _)
 refine ⟨by rw [upd_ne ne,jab],Nat.zero_le _,ne,e2,fun _=>none,(Heap.Ns1.of_empty e3).at fun o q=>Heap.get?_push_of_some _ q,fun _=>True.intro,fun y hy=>absurd rfl hy⟩
theorem attr_of {prog:Program} {w:World} {env:Env} {e:Expr} {f:Str} {pos:Pos} {s:Shared} {Q:Value->Shared->Prop} (hb:attributeBase e f env (eval e env)=eval e env)
  (h:wpAny (model prog w) A (eval e env) (fun o s₁=>wpAny (model prog w) A (getAttr o f true) Q E s₁) E s):wpAny (model prog w) A (eval (.Attribute e f pos) env) Q E s :=
 Attribute_any_ h (by rw [arm_eval_Attribute,hb])
end
def jog (K:PySem.W.Frag) (ta:TE) (f:Str):TE:=fun σ H Q=>ta σ H fun x H1=>∃ a C dx fs v,x=.ref a/\H1 a=some (.ins C dx fs)/\Cls K C/\NoAttr K C f/\fs.lookup f=some v/\Q v H1
def sFld (K:PySem.W.Frag) (ta tv:TE) (f:Str):TS:=fun D σ H=>tv σ H fun y H1=>ta σ H1 fun x H2=>∃ a C dx fs,x=.ref a/\H2 a=some (.ins C dx fs)/\Cls K C/\NoAttr K C f/\fs.length < 1000 /\
 D.nx σ (upd H2 a (.ins C dx (jaK f y fs)))
def InOp (X:Cx) (op:Operator) (rd:V->V->Hp->VK->Prop):Prop :=
 ∀ (pins:List (Addr×Obj)) (s:Shared) (σ:St) (H:Hp) (x y:V) (u v:Value) (Q:VK),Inv X pins σ H s->RelV x u->RelV y v->rd x y H Q->wpAny (model X.prog X.w) X.A (inplaceOp op u v) (EP X pins σ Q) X.xe s
def jiB (K:PySem.W.Frag) (ta tv:TE) (rd:V->V->Hp->VK->Prop) (f:Str):TS:=fun D σ H=>ta σ H fun x H1=>∃ a C dx fs v,x=.ref a/\H1 a=some (.ins C dx fs)/\Cls K C/\NoAttr K C f/\fs.lookup f=some v /\
 tv σ H1 fun y H2=>rd v y H2 fun z H3=>∃ dx' fs',H3 a=some (.ins C dx' fs')/\fs'.length < 1000/\D.nx σ (upd H3 a (.ins C dx' (jaK f z fs')))
section
variable {X:Cx} {o e value:Expr} {f:Str} {pos pos' tpos:Pos} {ta tv:TE}
theorem jaD (he:PE X e ta) (hb:attributeBase e f X.env (eval e X.env)=eval e X.env):PE X (.Attribute e f pos) (jog X.K ta f):=by
 intro pins s σ H Q I h
 refine attr_of hb (thn (he pins s σ H _ I h) fun u s1 ⟨x,H1,I1,rx,a,C,dx,fs,v,ex,ea,c,n,l,q⟩=>?_)
 subst ex
 obtain rfl:u=Value.ref a:=rx
 exact jem I1 ea c n l fun u' s2 I2 ru=>⟨v,H1,I2,ru,q⟩
theorem jbi (ha:PE X o ta) (hv:PE X value tv) (hs:swapsWith value (some (.Attribute o f pos')) pos.line X.env=pure false):PS X (.Assign [.Attribute o f pos'] value pos) (sFld X.K ta tv f):=by
 intro pins s σ H D I h
 refine plainObj_wpAny_Assign_Attribute (thn (hv pins s σ H _ I h) fun u s1 ⟨y,H1,I1,ry,q⟩=>thn (ha pins s1 σ H1 _ I1 q) fun ov s2 ⟨x,H2,I2,rx,a,C,dx,fs,ex,ea,c,n,l,q2⟩=>?_) hs
 subst ex
 obtain rfl:ov=Value.ref a:=rx
 exact jen I2 ea c n l ry fun s3 I3=>⟨σ,_,I3,q2⟩
theorem jcL {op:Operator} {rd:V->V->Hp->VK->Prop} (ha:PE X o ta) (hv:PE X value tv) (hop:InOp X op rd):PS X (.AugAssign (.Attribute o f tpos) op value pos) (jiB X.K ta tv rd f):=by
 intro pins s σ H D I h
 refine wpAny_AugAssign_AttributeAny (thn (ha pins s σ H _ I h) fun ov s1 ⟨x,H1,I1,rx,a,C,dx,fs,v,ex,ea,c,n,l,q⟩=>?_)
 subst ex
 obtain rfl:ov=Value.ref a:=rx
 refine jem I1 ea c n l fun u s2 I2 ru=>thn (hv pins s2 σ H1 _ I2 q) fun w3 s3 ⟨y,H2,I3,ry,q3⟩=>thn (hop pins s3 σ H2 v y u w3 _ I3 ru ry q3) fun w4 s4 ⟨z,H3,I4,rz,dx',fs',ea',l',q4⟩=>?_
 exact jen I4 ea' c n l' rz fun s5 I5=>⟨σ,_,I5,q4⟩
def rAdd:V->V->Hp->VK->Prop:=fun x y H Q=>∃ i j,x=.int i/\y=.int j/\Q (.int (i+j)) H
theorem jgL:InOp X .Add rAdd:=by
 rintro pins s σ H x y u v Q I rx ry ⟨i,j,rfl,rfl,q⟩
 obtain ⟨t,rfl⟩:=(show ∃ t,u=Value.int i t from rx)
 obtain ⟨t',rfl⟩:=(show ∃ t',v=Value.int j t' from ry)
 exact PyProof.Rows.iadd_int ⟨.int (i+j),H,I.tok _,⟨_,rfl⟩,q⟩
end
section
variable {X:Cx} {pins:List (Addr×Obj)} {σ:St} {H:Hp} {s:Shared} {A:Around} {E:Value->Shared->Prop} {Q:Value->Shared->Prop} {c:Value} {b:Bool}
inductive TyOf (K:PySem.W.Frag) (H:Hp):V->Value->Prop where
 | non:TyOf K H .non (.type "NoneType")
 | bl (x:Bool):TyOf K H (.bl x) (.type "bool")
 | int (i:Int):TyOf K H (.int i) (.type "int")
 | str (x:Str):TyOf K H (.str x) (.type "str")
 | flt (x:UInt64):TyOf K H (.flt x) (.type "float")
 | lst {a:Addr} {xs:List V} (e:H a=some (.lst xs)):TyOf K H (.ref a) (.type "list")
 | frz {a:Addr} {o:Obj} {xs:List V} (e:H a=some (.frz o (.lst xs))):TyOf K H (.ref a) (.type "list")
 | tup {a:Addr} {xs:List V} (e:H a=some (.tup xs)):TyOf K H (.ref a) (.type "tuple")
 | dK {a:Addr} {kvs:List (Key×V)} (e:H a=some (.dK kvs)):TyOf K H (.ref a) (.type "dict")
 | dT {a:Addr} {kvs:List (List Key×V)} (e:H a=some (.dT kvs)):TyOf K H (.ref a) (.type "dict")
 | ins {a C dx:Addr} {fs:List (Str×V)} (e:H a=some (.ins C dx fs)) (cl:Cls K C) (ha:PySem.W.findIn K (.ref C) "__class__"=some (some (.builtin "object.__class__")))
   (hn:PySem.W.specialIn K (.builtin "object.__class__") "__get__"=some (some (.builtin "getset_descriptor.__get__"))) (htk:PySem.W.takesIn K (.builtin "object.__class__")=some true)
   (hm:PySem.W.mroIn K C (.type "object")=some true):TyOf K H (.ref a) (.ref C)
theorem jfo {x:V} {u t:Value} (I:Inv X pins σ H s) (rx:RelV x u) (ty:TyOf X.K H x t) (e:PySem.W.kitOne X.K t c=some b) (h:∀ tk,Q (.bool b) {s with toks:=tk}) :
  wpAny (model X.prog X.w) A (call (.builtin "isinstance") [u,c]) Q E s:=by
 cases ty with
 | non=>cases (show u=Value.none from rx); exact PySem.W.kia_one PySem.W.kitx_none I.kIn True.intro e (fun z=>nomatch z) h
 | bl y=>cases (show u=Value.bool y from rx); exact PySem.W.kia_one PySem.W.kitx_bool I.kIn True.intro e (fun z=>nomatch z) h
 | int i=>obtain ⟨t,q⟩:=(show ∃ t,u=Value.int i t from rx); cases q; exact PySem.W.kia_one PySem.W.kitx_int I.kIn True.intro e (fun z=>nomatch z) h
 | str y=>obtain ⟨t,q⟩:=(show ∃ t,u=Value.str y t from rx); cases q; exact PySem.W.kia_one PySem.W.kitx_str I.kIn True.intro e (fun z=>nomatch z) h
 | flt y=>obtain ⟨t,q⟩:=(show ∃ t,u=Value.float y t from rx); cases q; exact PySem.W.kia_one PySem.W.kitx_float I.kIn True.intro e (fun z=>nomatch z) h
 | @lst a xs ea =>
  cases (show u=Value.ref a from rx)
  obtain ⟨_,_,n,_,h1⟩:=(show ObjOk X.prog X.w H s.heap a (.lst xs) from I.hok a _ ea)
  exact PySem.W.kia_one PySem.W.kitx_list I.kIn ⟨_,h1,rfl⟩ e (fun z=>nomatch z) h
 | @frz a ob xs ea =>
  cases (show u=Value.ref a from rx)
  obtain ⟨_,_,_,n,_,h1⟩:=(show ObjOk X.prog X.w H s.heap a (.frz ob (.lst xs)) from I.hok a _ ea)
  exact PySem.W.kia_one PySem.W.kitx_list I.kIn ⟨_,h1,rfl⟩ e (fun z=>nomatch z) h
 | @tup a xs ea =>
  cases (show u=Value.ref a from rx)
  obtain ⟨_,_,_,p⟩:=(show ObjOk X.prog X.w H s.heap a (.tup xs) from I.hok a _ ea)
  obtain ⟨o,h1,h2,_⟩:=p
  exact PySem.W.kia_one PySem.W.kitx_tuple I.kIn ⟨o,h1,h2⟩ e (fun z=>nomatch z) h
 | @dK a kvs ea =>
  cases (show u=Value.ref a from rx)
  obtain ⟨_,_,vs,_,p⟩:=(show ObjOk X.prog X.w H s.heap a (.dK kvs) from I.hok a _ ea)
  obtain ⟨o,es,ep,h1,h2,_⟩:=p
  exact PySem.W.kia_one PySem.W.kitx_dict I.kIn ⟨o,h1,h2.1⟩ e (fun z=>nomatch z) h
 | @dT a kvs ea =>
  cases (show u=Value.ref a from rx)
  obtain ⟨_,_,xs,_,o,es,ep,h1,h2,_⟩:=(show ObjOk X.prog X.w H s.heap a (.dT kvs) from I.hok a _ ea)
  exact PySem.W.kia_one PySem.W.kitx_dict I.kIn ⟨o,h1,h2.1⟩ e (fun z=>nomatch z) h
 | @ins a C dx fs ea cl ha hn htk hm =>
  cases (show u=Value.ref a from rx)
  obtain ⟨mA,O,_⟩:=jez I.hok ea
  obtain ⟨od,J,_⟩:=O.look
  exact PySem.W.kia_one (PySem.W.kitx_own (cl.get _) cl.hd ha hn htk hm) I.kIn J e (fun z=>nomatch z) h
end
structure Room (k:Nat) (A:Around):Prop where
 hd:A.handled=none
 dp:A.depth+3 * k+5 < recursionLimit
 un:A.units+16 * k+200 < cLine
theorem Room.mono {j k:Nat} {A:Around} (r:Room k A) (h:j<=k):Room j A:=⟨r.hd,by have:=r.dp; omega,by have:=r.un; omega⟩
theorem Room.deeper {k:Nat} {A:Around} (r:Room (k+1) A) (env:Env):Room k (A.deeper env) :=
 ⟨r.hd,by have:=r.dp; show A.depth+1+3 * k+5 < _; omega,by have:=r.un; show A.units+3+16 * k+200 < _; omega⟩
theorem jhN {A:Around} {C:Addr} {us:List Value} {kw:List (Str×Value)}:(A.under (.builtin "type.__call__" ⟨.ref C::us,kw⟩)).depth=A.depth+1:=by
 first | rfl | simp [Around.under,Code.weight,Code.isCreation,Code.isGuard,Code.isCaller,Code.frames,Code.isFrame,guardIds]
theorem jhO {A:Around} {C:Addr} {us:List Value} {kw:List (Str×Value)}:(A.under (.builtin "type.__call__" ⟨.ref C::us,kw⟩)).units=A.units+1:=by
 first | rfl | simp [Around.under,Code.cUnits,Code.frames,Code.isFrame]
theorem Room.make {k:Nat} {A:Around} (r:Room (k+1) A) (C:Addr) (us:List Value) (kw:List (Str×Value)):Room k (A.under (.builtin "type.__call__" ⟨.ref C::us,kw⟩)) :=
 ⟨r.hd,by have:=r.dp; rw [jhN]; omega,by have:=r.un; rw [jhO]; omega⟩
theorem Room.depth {k:Nat} {A:Around} (r:Room k A):A.depth < recursionLimit:=by have:=r.dp; omega
theorem Room.units {k:Nat} {A:Around} (r:Room k A):A.units+64 < cLine:=by have:=r.un; omega
def jdv:TA:=fun _ H Q=>Q [] H
def jaR (ta:TE) (tr:TA):TA:=fun σ H Q=>ta σ H fun x H1=>tr σ H1 fun xs H2=>Q (x::xs) H2
section
variable {X:Cx} {e:Expr} {es:List Expr} {te:TE} {t:TA} {pos:Pos}
theorem jad:PA X [] jdv:=fun _ _ _ _ H Q I h=>Calls.spliced_nil ⟨[],H,I,.nil,h⟩
theorem jaa (ha:PE X e te) (hr:PA X es t) (hs:starEach (e::es) X.env=(false,eval e X.env)::starEach es X.env:=by rfl):PA X (e::es) (jaR te t):=by
 intro pos pins s σ H Q I h
 rw [hs]
 show wpAny _ _ (spliced ((false,eval e X.env)::backTo pos (starEach es X.env))) _ _ s
 refine Calls.spliced_cons (thn (ha pins s σ H _ I h) fun u s1 ⟨x,H1,I1,r1,q1⟩=>?_)
 exact thn (hr pos pins s1 σ H1 _ I1 q1) fun us s2 ⟨xs,H2,I2,r2,q2⟩=>⟨x::xs,H2,I2,.cons r1 r2,q2⟩
def tTup (t:TA):TE:=fun σ H Q=>t σ H fun xs H1=>xs.length<=sizeLine/\∀ p,H1 p=none->Q (.ref p) (upd H1 p (.tup xs))
def tLst (t:TA):TE:=fun σ H Q=>t σ H fun xs H1=>xs.length<=sizeLine/\∀ p,H1 p=none->Q (.ref p) (upd H1 p (.lst xs))
theorem jbe {x1} (h:PA X es t):PE X (.Tuple es x1 pos) (tTup t):=by
 intro pins s σ H Q I hq
 refine wpAny_Tuple_spliced (thn (h pos pins s σ H _ I hq) fun us s1 ⟨xs,H1,I1,r,z,q⟩=>⟨by rw [<- r.length]; exact z,?_⟩)
 have hf:H1 s1.heap.objs.size=none:=I1.hok.fresh (Nat.le_refl _)
 refine ⟨.ref s1.heap.objs.size,upd H1 s1.heap.objs.size (.tup xs),I1.laid (t':=s1.toks) (fun b u e=>Heap.get?_push_of_some _ e) (Nat.le_refl _) ?_,rfl,q _ hf⟩
 exact ⟨z,us,r,⟨_,Heap.get?_push_size _ rfl,rfl,_,rfl⟩⟩
theorem jba (h:PA X es t):PE X (.List es pos) (tLst t):=by
 intro pins s σ H Q I hq
 refine wpAny_List_spliced (thn (h pos pins s σ H _ I hq) fun us s1 ⟨xs,H1,I1,r,z,q⟩=>⟨by rw [<- r.length]; exact z,?_⟩)
 have hf:H1 s1.heap.objs.size=none:=I1.hok.fresh (Nat.le_refl _)
 refine ⟨.ref s1.heap.objs.size,upd H1 s1.heap.objs.size (.lst xs),I1.laid (t':=s1.toks) (fun b u e=>Heap.get?_push_of_some _ e) (Nat.le_refl _) ?_,rfl,q _ hf⟩
 exact ⟨z,us,0,r,Heap.get?_push_size _ rfl⟩
end
abbrev Sp:=List V->Hp->VK->XK->Prop
abbrev CXT:=List Env->Hp->Shared->XK->Value->Shared->Prop
structure Env0 (P:Program) (w:World) (K:PySem.W.Frag) (mg:Str->Option Value) (base:Heap) (A:Around) (outer:List Env) (s:Shared) (H:Hp):Prop where
 frames:A.frames=some outer
 mod:Mod K mg base
 bs:∀ b o,base.get? b=some o->s.heap.get? b=some o/\H b=none
 bsz:base.objs.size<=s.heap.objs.size
 funs:s.heap.FunFrames base outer
 frf:∀ b∈frs outer,H b=none
 hok:HOk P w H s.heap
 bare:AllBare s.gens
def CE (outer:List Env) (P:Program) (w:World) (H:Hp) (s:Shared) (Q:VK) (u:Value) (s':Shared):Prop :=
 ∃ v H',s'.os=s.os/\AllBare s'.gens/\Un (frs outer) [] H H' s.heap s'.heap/\HOk P w H' s'.heap/\RelV v u/\Q v H'
def CR (CX:CXT) (outer:List Env) (P:Program) (w:World) (H:Hp) (s:Shared) (Q:VK) (E:XK) (r:Result) (s':Shared):Prop :=
 match r with
 | .ok (.ret u)=>CE outer P w H s Q u s'
 | .ok _=>False
 | .error e=>CX outer H s E e s'
structure FnOk (P:Program) (w:World) (K:PySem.W.Frag) (mg:Str->Option Value) (base:Heap) (CX:CXT) (k:Nat) (f:Addr) (fd:FuncData) (ps:List Str) (sp:Sp):Prop where
 len:∀ vs H Q E,sp vs H Q E->vs.length=ps.length
 run:∀ (A:Around) (outer:List Env) (s:Shared) (H:Hp) (args:Args) (us:List Value) (vs:List V) (Q:VK) (E:XK),Room k A->Env0 P w K mg base A outer s H->BindsTo s fd args (ps.zip us)->Vals vs us->sp vs H Q E ->
  codeAny (model P w) A (.call (.ref f) args) (CR CX outer P w H s Q E) s
theorem FnOk.mono {P:Program} {w:World} {K:PySem.W.Frag} {mg:Str->Option Value} {base:Heap} {CX:CXT} {j k:Nat} {f:Addr} {fd:FuncData} {ps:List Str} {sp:Sp} (F:FnOk P w K mg base CX j f fd ps sp) (h:j<=k) :
  FnOk P w K mg base CX k f fd ps sp:=⟨F.len,fun A outer s H args us vs Q E hr=>F.run A outer s H args us vs Q E (hr.mono h)⟩
theorem Env0.make {P:Program} {w:World} {K:PySem.W.Frag} {mg:Str->Option Value} {base:Heap} {A:Around} {outer:List Env} {s:Shared} {H:Hp} (e:Env0 P w K mg base A outer s H) (C:Addr) (us:List Value) (kw:List (Str×Value)) :
  Env0 P w K mg base (A.under (.builtin "type.__call__" ⟨.ref C::us,kw⟩)) outer s H:=⟨by first | exact e.frames | (simpa [Around.under,Code.envs,Code.isFrame,pushEnvs] using e.frames),e.mod,e.bs,e.bsz,e.funs,e.frf,e.hok,e.bare⟩
section
variable {X:Cx} {pins:List (Addr×Obj)} {σ:St} {H:Hp} {s s':Shared}
theorem Inv.env0 (I:Inv X pins σ H s):Env0 X.prog X.w X.K X.mg X.base X.A X.stack s H :=
 ⟨I.ok.frames,I.ok.mod,I.bs,Nat.le_trans I.ok.bsz I.sz,I.stack,I.stkFree,I.hok,I.bare⟩
theorem Inv.after {Q:VK} {u:Value} (I:Inv X pins σ H s) (h:CE X.stack X.prog X.w H s Q u s'):EP X pins σ Q u s':=by
 obtain ⟨v,H',os,bare,un,hok,r,q⟩:=h
 obtain ⟨hh,g,d,t,os'⟩:=s'
 obtain rfl:os'=s.os:=os
 exact ⟨v,H',I.call (h':=hh) (g':=g) (d':=d) (t':=t) (ch:=[]) un hok bare (fun b z=>absurd z (by simp)),r,q⟩
end
def jgk (sp:Sp) (dvs:List V) (E:XK) (t:TA):TE:=fun σ H Q=>t σ H fun vs H1=>sp (vs++dvs) H1 Q E
def jkP (C:Addr) (m:Str) (sp:Sp) (dvs:List V) (E:XK) (ta:TE) (t:TA):TE:=fun σ H Q=>ta σ H fun x H1=>∃ a dx fs,x=.ref a/\H1 a=some (.ins C dx fs)/\fs.lookup m=none /\
 t σ H1 fun vs H2=>sp (x::(vs++dvs)) H2 Q E
def jov (C:Addr) (sp:Sp) (dvs:List V) (E:XK) (t:TA):TE:=fun σ H Q=>t σ H fun vs H1=>∀ x dx,H1 x=none->H1 dx=none->dx≠x ->
 sp (.ref x::(vs++dvs)) (upd (upd H1 dx (.own x)) x (.ins C dx [])) (fun v H2=>v=.non/\Q (.ref x) H2) E
def Binds (K:PySem.W.Frag) (fd:FuncData) (ps:List Str) (ds:List Value):Prop :=
 ∀ (s:Shared) (us:List Value),K.In s.heap->(us++ds).length=ps.length->BindsTo s fd ⟨us,[]⟩ (ps.zip (us++ds))
theorem Binds.all {K:PySem.W.Frag} {fd:FuncData} {ps:List Str} (h:∀ us:List Value,us.length=ps.length->bindArgs fd ⟨us,[]⟩=pure (ps.zip us)):Binds K fd ps []:=fun s us _ hl=>by
 rw [List.append_nil] at hl ⊢
 exact .of_eq (h us hl)
def jcw (CX:CXT) (X:Cx) (E:XK):Prop:=∀ (pins:List (Addr×Obj)) (σ:St) (H:Hp) (s:Shared) (e:Value) (s':Shared),Inv X pins σ H s->CX X.stack H s E e s'->X.xe e s'
section
variable {X:Cx} {CX:CXT} {k:Nat} {f C:Addr} {fd:FuncData} {ps:List Str} {sp:Sp} {dvs:List V} {ds:List Value} {E:XK} {x m:Str} {p pos apos:Pos} {e o:Expr} {es:List Expr} {ta:TE} {t:TA}
theorem jlX {pins:List (Addr×Obj)} {σ:St} {H:Hp} {s:Shared} {Q:VK} {us:List Value} {vs:List V} (F:FnOk X.prog X.w X.K X.mg X.base CX k f fd ps sp) (hr:Room k X.A) (hb:Binds X.K fd ps ds) (hd:Vals dvs ds) (hx:jcw CX X E)
  (I:Inv X pins σ H s) (r:Vals vs us) (h:sp (vs++dvs) H Q E):wpAny (model X.prog X.w) X.A (call (.ref f) us) (EP X pins σ Q) X.xe s:=by
 have r2:Vals (vs++dvs) (us++ds):=r.append hd
 have hl:(us++ds).length=ps.length:=by rw [<- r2.length]; exact F.len _ _ _ _ h
 refine wpAny_call (codeAny_mono (F.run X.A X.stack s H ⟨us,[]⟩ (us++ds) (vs++dvs) Q E hr I.env0 (hb s us I.kIn hl) r2 h) fun r s' hq=>?_)
 cases r with
 | error e=>exact hx pins σ H s e s' I hq
 | ok fl =>
  cases fl with
  | ret u=>exact I.after hq
  | next=>exact False.elim hq
  | brk=>exact False.elim hq
  | cont=>exact False.elim hq
theorem jai (F:FnOk X.prog X.w X.K X.mg X.base CX k f fd ps sp) (hr:Room k X.A) (hg:Gl X x) (hm:X.mg x=some (.ref f)) (hk:PySem.W.keepIn X.K (.ref f)=true) (hb:Binds X.K fd ps ds) (hd:Vals dvs ds) (hx:jcw CX X E)
  (ha:PA X (e::es) t) (hdb:(x==("__debug__":Str))=false:=by decide) (he:starEach (e::es) X.env=(false,eval e X.env)::starEach es X.env:=by rfl) (hpl:(backTo pos (starEach es X.env)).any (·.1)=false:=by rfl) :
  PE X (.Call (.Name x p) (e::es) [] pos) (jgk sp dvs E t):=by
 intro pins s σ H Q I h
 refine wpAny_Call_Name_kw (ld_glob I hg hm ?_ hdb)
 refine PySem.W.callWith_K (h₀:=X.base) I.ok.mod.kin hk (thn (ha pos pins s σ H _ I h) fun us s1 ⟨vs,H1,I1,r,q⟩=>⟨I1.kIn,?_⟩) he hpl
 exact jlX F hr hb hd hx I1 r q
theorem jdb {pl:Sem Bool} (he:PE X o ta) (c:Cls X.K C) (hm:Meth X.K C m f) (F:FnOk X.prog X.w X.K X.mg X.base CX k f fd ps sp) (hr:Room k X.A) (hb:Binds X.K fd ps ds) (hd:Vals dvs ds) (hx:jcw CX X E) (ha:PA X (e::es) t)
  (hst:starEach (e::es) X.env=(false,eval e X.env)::starEach es X.env:=by rfl) (hpl:(backTo pos (starEach es X.env)).any (·.1)=false:=by rfl)
  (ht:eval (.Call (.Attribute o m apos) (e::es) [] pos) X.env=(do
   let ov <- eval o X.env
   standAt apos.atName
   let (f,first) <- holding [ov] (getMethod ov m pl)
   callWith pos f first (backTo pos (starEach (e::es) X.env)) (backToKw pos (keywordEach [] X.env))):=by rfl) :
  PE X (.Call (.Attribute o m apos) (e::es) [] pos) (jkP C m sp dvs E ta t):=by
 intro pins s σ H Q I h
 refine PySem.W.methodCall_KW (pl:=pl) (thn (he pins s σ H _ I h) fun u s1 ⟨x,H1,I1,rx,a,dx,fs,ex,ea,l,q⟩=>?_) ht
 subst ex
 obtain rfl:u=Value.ref a:=rx
 refine jhM I1 ea c hm l ?_
 refine PySem.W.callWith_K (first:=[.ref a]) (h₀:=X.base) I.ok.mod.kin hm.kp (thn (ha pos pins s1 σ H1 _ I1 q) fun us s2 ⟨vs,H2,I2,r,q2⟩=>⟨I2.kIn,?_⟩) hst hpl
 exact jlX (us:=.ref a::us) (vs:=.ref a::vs) F hr hb hd hx I2 (.cons rfl r) q2
structure Mk (K:PySem.W.Frag) (C f:Addr):Prop where
 makes:PySem.W.makesIn K C=true
 init:PySem.W.findIn K (.ref C) "__init__"=some (some (.ref f))
 fn:PySem.W.isFn K (.ref f)=true
 kp:PySem.W.keepIn K (.ref C)=true
theorem jkQ {pins:List (Addr×Obj)} {σ:St} {H:Hp} {s:Shared} {Q:VK} {us:List Value} {vs:List V} (M:Mk X.K C f) (F:FnOk X.prog X.w X.K X.mg X.base CX k f fd ps sp) (hr:Room (k+1) X.A) (hb:Binds X.K fd ps ds) (hd:Vals dvs ds)
  (hx:jcw CX X E) (I:Inv X pins σ H s) (r:Vals vs us)
  (h:∀ x dx,H x=none->H dx=none->dx≠x->sp (.ref x::(vs++dvs)) (upd (upd H dx (.own x)) x (.ins C dx [])) (fun v H2=>v=.non/\Q (.ref x) H2) E) :
  wpAny (model X.prog X.w) X.A (call (.ref C) us) (EP X pins σ Q) X.xe s:=by
 have hq:=h (s.heap.objs.size+1) s.heap.objs.size (I.hok.fresh (Nat.le_succ _)) (I.hok.fresh (Nat.le_refl _)) (Nat.ne_of_lt (Nat.lt_succ_self _))
 have I2:=Inv.made (C:=C) I
 have r2:Vals (V.ref (s.heap.objs.size+1)::(vs++dvs)) (Value.ref (s.heap.objs.size+1)::(us++ds)):=.cons rfl (r.append hd)
 have hl:(Value.ref (s.heap.objs.size+1)::us++ds).length=ps.length:=by
  have e:=r2.length
  rw [F.len _ _ _ _ hq] at e
  exact e.symm
 refine wpAny_call (jkO (f:=f) I.kIn M.makes M.init (beq_iff_eq.mp M.fn) (codeAny_mono (F.run _ X.stack _ _ ⟨Value.ref (s.heap.objs.size+1)::us,[]⟩ (Value.ref (s.heap.objs.size+1)::(us++ds)) _ _ E (hr.make C us [])
  (I2.env0.make C us []) (hb _ (Value.ref (s.heap.objs.size+1)::us) I2.kIn hl) r2 hq) fun r s' hq'=>?_))
 cases r with
 | error e=>exact hx pins σ _ _ e s' I2 hq'
 | ok fl =>
  cases fl with
  | ret u =>
   obtain ⟨v,H',I3,rv,ev,q3⟩:=I2.after hq'
   subst ev
   exact ⟨rv,⟨V.ref (s.heap.objs.size+1),H',I3,rfl,q3⟩⟩
  | next=>exact False.elim hq'
  | brk=>exact False.elim hq'
  | cont=>exact False.elim hq'
theorem jbp (M:Mk X.K C f) (F:FnOk X.prog X.w X.K X.mg X.base CX k f fd ps sp) (hr:Room (k+1) X.A) (hg:Gl X x) (hm:X.mg x=some (.ref C)) (hb:Binds X.K fd ps ds) (hd:Vals dvs ds) (hx:jcw CX X E)
  (ha:PA X (e::es) t) (hdb:(x==("__debug__":Str))=false:=by decide) (he:starEach (e::es) X.env=(false,eval e X.env)::starEach es X.env:=by rfl) (hpl:(backTo pos (starEach es X.env)).any (·.1)=false:=by rfl) :
  PE X (.Call (.Name x p) (e::es) [] pos) (jov C sp dvs E t):=by
 intro pins s σ H Q I h
 refine wpAny_Call_Name_kw (ld_glob I hg hm ?_ hdb)
 refine PySem.W.callWith_K (h₀:=X.base) I.ok.mod.kin M.kp (thn (ha pos pins s σ H _ I h) fun us s1 ⟨vs,H1,I1,r,q⟩=>⟨I1.kIn,?_⟩) he hpl
 exact jkQ M F hr hb hd hx I1 r q
end
section
variable {X:Cx} {CX:CXT} {k:Nat} {f C:Addr} {fd:FuncData} {ps ks:List Str} {sp:Sp} {E:XK} {x m:Str} {p pos apos kpos:Pos} {e o:Expr} {es:List Expr} {kws:List Keyword} {te ta:TE} {t tk:TA} {nm:Option Str}
variable {g:List Value->List Value->List Value} {gV:List V->List V->List V}
end
structure FnScope (N P:List Str) (sc:Scope):Prop where
 kind:sc.kind=.function
 co:sc.isCoroutine=false
 gen:sc.isGenerator=false
 nd:N.Nodup
 pre:N.take P.length=P
 par:∀ x∈P,sc.names.lookup x=some .local\/sc.names.lookup x=some .cell
 nofree:∀ y∈sc.names,y.2≠.free
theorem jfp {kindOf:Str->Option NameKind} {x:Str}:∀ {binds:List (Str×Value)} {m:Str->Option Value},(∀ v,(x,v)∉binds)->bindL kindOf binds m x=m x
 | [],_,_=>rfl
 | (n,v)::r,m,h=>by
  unfold bindL
  rw [jfp fun w hw=>h w (List.mem_cons_of_mem _ hw)]
  split
  ·have:x≠n:=by rintro rfl; exact h v List.mem_cons_self
   simp [this]
  ·rfl
theorem bindC_out {kindOf:Str->Option NameKind} {x:Str}:∀ {binds:List (Str×Value)} {m:Str->Option Value},(∀ v,(x,v)∉binds)->bindC kindOf binds m x=m x
 | [],_,_=>rfl
 | (n,v)::r,m,h=>by
  unfold bindC
  rw [bindC_out fun w hw=>h w (List.mem_cons_of_mem _ hw)]
  split
  ·rfl
  ·have:x≠n:=by rintro rfl; exact h v List.mem_cons_self
   simp [this]
theorem bindL_get {kindOf:Str->Option NameKind} {x:Str} {v:Value}:∀ {P:List Str} {vs:List Value} {i:Nat} {m:Str->Option Value},P.Nodup->P[i]?=some x->vs[i]?=some v->kindOf x=some .local ->
  bindL kindOf (P.zip vs) m x=some v
 | [],_,_,_,_,h,_,_=>by simp at h
 | _::_,[],_,_,_,_,h,_=>by simp at h
 | p::P,w::vs,0,m,nd,h1,h2,hk=>by
  simp at h1 h2; subst h1; subst h2
  show bindL kindOf ((p,w)::P.zip vs) m p=_
  unfold bindL
  rw [jfp fun v hv=>(List.nodup_cons.mp nd).1 (List.of_mem_zip hv).1,if_pos hk]
  simp
 | p::P,w::vs,i+1,m,nd,h1,h2,hk=>by
  show bindL kindOf ((p,w)::P.zip vs) m x=_
  unfold bindL
  exact bindL_get (i:=i) (List.nodup_cons.mp nd).2 (by simpa using h1) (by simpa using h2) hk
theorem jfq {kindOf:Str->Option NameKind} {x:Str} {v:Value}:∀ {P:List Str} {vs:List Value} {i:Nat} {m:Str->Option Value},P.Nodup->P[i]?=some x->vs[i]?=some v->kindOf x≠some .local ->
  bindC kindOf (P.zip vs) m x=some v
 | [],_,_,_,_,h,_,_=>by simp at h
 | _::_,[],_,_,_,_,h,_=>by simp at h
 | p::P,w::vs,0,m,nd,h1,h2,hk=>by
  simp at h1 h2; subst h1; subst h2
  show bindC kindOf ((p,w)::P.zip vs) m p=_
  unfold bindC
  rw [bindC_out fun v hv=>(List.nodup_cons.mp nd).1 (List.of_mem_zip hv).1,if_neg hk]
  simp
 | p::P,w::vs,i+1,m,nd,h1,h2,hk=>by
  show bindC kindOf ((p,w)::P.zip vs) m x=_
  unfold bindC
  exact jfq (i:=i) (List.nodup_cons.mp nd).2 (by simpa using h1) (by simpa using h2) hk
def jeh (N:List Str) (vs:List V):St:=vs.map some++List.replicate (N.length - vs.length) none
def jhP (CX:CXT) (P:Program) (w:World) (K:PySem.W.Frag) (mg:Str->Option Value) (base:Heap) (N:List Str) (qual:Str) (scope:Scope) (f:Addr) (cd:Value) (A:Around) (outer:List Env) (s:Shared) (H:Hp) (E:XK):Cx where
 prog:=P
 w:=w
 K:=K
 mg:=mg
 base:=base
 A:=A.deeper (envOfC qual scope s.heap.objs.size f cd)
 N:=N
 s₀:=s
 H₀:=H
 env:=envOfC qual scope s.heap.objs.size f cd
 outer:=outer
 stack:=envOfC qual scope s.heap.objs.size f cd::outer
 ex:=[]
 calm:=true
 fn:=fun _=>true
 pn:=[]
 xe:=fun e s'=>wpAny (model P w) (A.deeper (envOfC qual scope s.heap.objs.size f cd)) (leaving (envOfC qual scope s.heap.objs.size f cd) e) (fun _ s''=>CX outer H s E e s'') (fun e' s''=>CX outer H s E e' s'') s'
theorem jgM {sc:Scope} {n:Nat} {x:Str} (h:sc.names.lookup x=some .cell):∃ c,(cellsFrom n sc.names []).lookup x=some c:=by
 have q:=PySem.W.cellsFrom_some sc.names n [] (.inl h)
 exact Option.isSome_iff_exists.mp q
theorem jiC {CX:CXT} {P:Program} {w:World} {K:PySem.W.Frag} {mg:Str->Option Value} {base:Heap} {N ps:List Str} {qual:Str} {scope:Scope} {f:Addr} {cd:Value} {A:Around} {outer:List Env} {s s1:Shared} {H:Hp} {E:XK} {us:List Value} {vs:List V}
  (S:FnScope N ps scope) (hd:A.handled=none) (e0:Env0 P w K mg base A outer s H) (hl:vs.length=ps.length) (r:Vals vs us)
  (x:InCallC s s.heap.objs.size (bindL (envOfC qual scope s.heap.objs.size f cd).kindOf (ps.zip us) fun _=>none) (cellsFrom (s.heap.objs.size+1) scope.names []) (bindC (envOfC qual scope s.heap.objs.size f cd).kindOf (ps.zip us) fun _=>none) s1) :
  Inv (jhP CX P w K mg base N qual scope f cd A outer s H E) [] (jeh N vs) H s1:=by
 have hpl:ps.length<=N.length:=by have:=congrArg List.length S.pre; rw [List.length_take] at this; omega
 obtain ⟨h1,tk,rfl,hk⟩:=x.done
 have noA:∀ b:Addr,b∉(jhP CX P w K mg base N qual scope f cd A outer s H E).ex:=fun b z=>absurd (show b∈([]:List Addr) from z) (by simp)
 refine ⟨⟨e0.mod,S.kind,rfl,rfl,Nat.le_refl _,fun y z c h1 h2=>?_,fun y hy=>?_,fun y c _ h=>?_,fun _=>hd,Around.frames_deeper e0.frames,.inr ⟨rfl,rfl⟩,fun b z=>absurd z (noA b),e0.bs,e0.bsz,fun b _ _=>noA b,fun b z=>absurd z (noA b),e0.funs,e0.frf⟩,
  rfl,e0.bare,Un.kept hk,⟨_,x.toInCall.ns,fun i y v h1 h2 h3=>?_⟩,fun y c h=>⟨_,x.cell y c h⟩,e0.hok.fresh (Nat.le_refl _),fun y c h=>?_,fun p hp=>absurd (show p∈([]:List (Addr×Obj)) from hp) (by simp),e0.hok.kept hk,?_⟩
 ·exact name_of_addr x.apart (PySem.mem_of_lookup h1) (PySem.mem_of_lookup h2)
 ·have hy:scope.names.lookup y=some .cell\/scope.names.lookup y=some .free:=hy
  rcases hy with hy | hy
  ·exact jgM hy
  ·exact absurd rfl (S.nofree _ (PySem.mem_of_lookup hy))
 ·exact Nat.le_of_lt (x.above y c (PySem.mem_of_lookup h))
 ·have hi:i < vs.length:=by
   unfold jeh at h2
   by_cases hi:i < vs.length
   ·exact hi
   ·rw [List.getElem?_append_right (by simpa using hi)] at h2
    rw [List.getElem?_replicate] at h2
    split at h2 <;> cases h2
  have ha:vs[i]?=some v:=by
   unfold jeh at h2
   rw [List.getElem?_append_left (by simpa using hi),List.getElem?_map] at h2
   cases e:vs[i]? with
   | none=>rw [e] at h2; cases h2
   | some a=>rw [e] at h2; cases h2; rfl
  obtain ⟨u,hu,rv⟩:=r.get ha
  have hp:ps[i]?=some y:=by
   rw [<- S.pre,List.getElem?_take_of_lt (by omega)]; exact h1
  have ndP:ps.Nodup:=by rw [<- S.pre]; exact S.nd.sublist (List.take_sublist _ _)
  refine ⟨u,rv,?_⟩
  rcases S.par y (List.mem_of_getElem? hp) with k | k
  ·exact .inl ⟨k,bindL_get ndP hp hu k⟩
  ·obtain ⟨c,e⟩:=jgM (n:=s.heap.objs.size+1) k
   refine .inr ⟨.inl k,c,e,?_⟩
   have q:=x.cell y c e
   rw [jfq ndP hp hu (by show scope.names.lookup y≠_; rw [k]; decide)] at q
   exact q
 ·exact e0.hok.fresh (Nat.le_of_lt (x.above y c (PySem.mem_of_lookup h)))
 ·unfold jeh
  show _=N.length
  rw [List.length_append,List.length_map,List.length_replicate]
  omega
theorem jmX {CX:CXT} {P:Program} {w:World} {K:PySem.W.Frag} {mg:Str->Option Value} {base:Heap} {k:Nat} {f:Addr} {name qual:Str} {params:Arguments} {body:List Stmt} {scope:Scope} {dV kV doc pm cdv ct oc:Value} {an od:Option Addr}
  {osl:Array (Option Value)} {N ps:List Str} {sp:Sp} (lk:K.lookup f=some ⟨oc,od,.func (PySem.W.fnOf name qual params body scope dV kV doc pm an cdv ct),osl⟩) (hcd:PySem.W.codeIn K cdv qual=true) (S:FnScope N ps scope)
  (len:∀ vs H Q E,sp vs H Q E->vs.length=ps.length)
  (hbody:∀ (A:Around) (outer:List Env) (s:Shared) (H:Hp) (vs:List V) (Q:VK) (E:XK),Room k (A.deeper (envOfC qual scope s.heap.objs.size f cdv))->sp vs H Q E ->
   ∃ t,PSs (jhP CX P w K mg base N qual scope f cdv A outer s H E) body t/\t {nx:=fun _ H'=>Q .non H',rt:=Q} (jeh N vs) H) :
  FnOk P w K mg base CX (k+1) f (PySem.W.fnOf name qual params body scope dV kV doc pm an cdv ct) ps sp:=by
 refine ⟨len,fun A outer s H args us vs Q E hr e0 hb r hsp=>?_⟩
 have hl:=len _ _ _ _ hsp
 have KX:K.In s.heap:=e0.mod.kin.keeps fun b o e=>(e0.bs b o e).1
 have lim:s.heap.NoLimit:=e0.mod.nolimit.keeps fun b o e=>(e0.bs b o e).1
 have hkind:∀ y∈ps.zip us,scope.names.lookup y.1=some .local\/(scope.names.lookup y.1=some .cell/\((cellsFrom (s.heap.objs.size+1) scope.names []).lookup y.1).isSome=true):=fun ⟨n,v⟩ hy=>by
  rcases S.par n (List.of_mem_zip hy).1 with q | q
  ·exact .inl q
  ·exact .inr ⟨q,PySem.W.cellsFrom_some _ _ _ (.inl q)⟩
 refine codeAny_call_function hr.depth (KX _ _ lk) rfl S.co S.gen rfl (PySem.W.codeRec_of KX hcd) (hb _ _ _ _ ?_)
 refine wpAny_newFunctionEnv_cells S.kind hkind fun env he s1 x=>?_
 subst he
 refine ⟨lim.keeps x.toInCall.keep,codeAny_func ?_⟩
 obtain ⟨t,ht,hq⟩:=hbody A outer s H vs Q E (hr.deeper _) hsp
 have I:Inv (jhP CX P w K mg base N qual scope f cdv A outer s H E) [] (jeh N vs) H s1:=jiC S hr.hd e0 hl r x
 refine wpAny_mono (ht [] s1 (jeh N vs) H _ I hq) (fun fl s' hs=>?_) fun e s' hs=>hs
 have fin:∀ {σ':St} {H':Hp} {v:V} {u:Value},Inv (jhP CX P w K mg base N qual scope f cdv A outer s H E) [] σ' H' s'->RelV v u->Q v H'->CE outer P w H s Q u s' :=
  fun {σ' H' v u} J rv q=>⟨v,H',J.os,J.bare,J.base,J.hok,rv,q⟩
 cases fl with
 | ret u =>
  obtain ⟨v,σ',H',J,rv,q⟩:=hs
  exact fin J rv q
 | next =>
  obtain ⟨σ',H',J,q⟩:=hs
  exact fin (v:=V.non) (u:=Value.none) J rfl q
 | brk =>
  obtain ⟨_,_,_,q⟩:=hs
  exact False.elim q
 | cont =>
  obtain ⟨_,_,_,q⟩:=hs
  exact False.elim q
section
variable {X:Cx} {x:Str} {p pos:Pos} {e:Expr} {es:List Expr} {t:TA} {id T:String} {r:List V->Hp->VK->Prop}
def tCB (r:List V->Hp->VK->Prop) (t:TA):TE:=fun σ H Q=>t σ H fun vs H1=>r vs H1 Q
theorem jal (hc:jcK X (.builtin id) r) (hg:Gl X x) (hm:X.mg x=none) (hv:bootBuiltins x=some (.builtin id)) (ha:PA X (e::es) t) (hn:x≠"__name__":=by decide) (hdb:(x==("__debug__":Str))=false:=by decide)
  (he:starEach (e::es) X.env=(false,eval e X.env)::starEach es X.env:=by rfl) (hpl:(backTo pos (starEach es X.env)).any (·.1)=false:=by rfl):PE X (.Call (.Name x p) (e::es) [] pos) (tCB r t):=by
 intro pins s σ H Q I h
 refine wpAny_Call_Name_kw (ld_blt I hg hm hv ?_ hn hdb)
 exact PyProof.Rows.callWith_builtin1 (thn (ha pos pins s σ H _ I h) fun us s1 ⟨vs,H1,I1,r1,q1⟩=>hc pins s1 σ H1 vs us Q I1 r1 q1) he hpl
theorem jbx (hc:jcK X (.type T) r) (hg:Gl X x) (hm:X.mg x=none) (hv:bootBuiltins x=some (.type T)) (ha:PA X (e::es) t) (hn:x≠"__name__":=by decide) (hdb:(x==("__debug__":Str))=false:=by decide)
  (he:starEach (e::es) X.env=(false,eval e X.env)::starEach es X.env:=by rfl) (hpl:(backTo pos (starEach es X.env)).any (·.1)=false:=by rfl):PE X (.Call (.Name x p) (e::es) [] pos) (tCB r t):=by
 intro pins s σ H Q I h
 refine wpAny_Call_Name_kw (ld_blt I hg hm hv ?_ hn hdb)
 exact PyProof.Rows.callWith_type1 (thn (ha pos pins s σ H _ I h) fun us s1 ⟨vs,H1,I1,r1,q1⟩=>hc pins s1 σ H1 vs us Q I1 r1 q1) he hpl
end
end L2
namespace HT
open PySem PyProof.Rows
section
open PySem.SeqAt
open PySem.AutoSeq1 (wpAny_loadPart')
open PySem.MeetsSeq PySem.MeetsSeq2 PySem.MeetsSeq3
end
section
variable {prog:Program} {w:World} {A:Around} {E:Value->Shared->Prop} {s:Shared}
theorem cat_tup {t b:Addr} {vs ws:List Value} {Q:Value->Shared->Prop} (ht:IsTup s.heap t vs.toArray) (hb:IsTup s.heap b ws.toArray) (hv:vs≠[])
  (h1:ws=[]->Q (.ref t) s) (h2:ws≠[]->Q (.ref s.heap.objs.size) {s with heap:=s.heap.push {cls:=.type "tuple",data:=.seq (vs++ws).toArray}})
  (hsz:vs.length+ws.length<=sizeLine):wpAny (model prog w) A (binaryOp .Add (.ref t) (.ref b)) Q E s:=by
 obtain ⟨⟨cls,dd,data,sl⟩,ho,hc,n,hd⟩:=id ht
 obtain ⟨⟨cls2,dd2,data2,sl2⟩,ho2,hc2,n2,hd2⟩:=id hb
 simp only at hc hd hc2 hd2
 subst hc hd hc2 hd2
 have e:vs.toArray++ws.toArray=(vs++ws).toArray:=by simp
 by_cases hw:ws=[]
 ·exact concat_meets ⟨_,ho,rfl⟩ ⟨_,ho2,rfl⟩ noFill_tuple_add seq_tuple_add PySem.F.slot_tuple_add PySem.F.entry_tuple_add (PySem.F.args_tuple_add_2 _ _)
   (tuple_addW1 t b vs.toArray ws.toArray n n2 dd dd2 sl sl2 (by simpa using hv) (by simp [hw])) ⟨ho,ho2,h1 hw⟩
 ·refine concat_meets ⟨_,ho,rfl⟩ ⟨_,ho2,rfl⟩ noFill_tuple_add seq_tuple_add PySem.F.slot_tuple_add PySem.F.entry_tuple_add (PySem.F.args_tuple_add_2 _ _)
   (tuple_addW2 t b vs.toArray ws.toArray n n2 dd dd2 sl sl2 (by simpa using hv) (by simpa using hw) (by rw [List.size_toArray,List.size_toArray]; exact hsz)) ⟨ho,ho2,?_⟩
  rw [e]
  exact h2 hw
def sIx (n d:Nat):Option Int->Nat
 | none=>d
 | some v=>if v < 0 then (v+(n:Int)).toNat else min v.toNat n
theorem sIx_none (n d:Nat):sIx n d none=d:=rfl
theorem sIx_nat (n d k:Nat):sIx n d (some (k:Int))=min k n:=by
 show (if (k:Int) < 0 then ((k:Int)+(n:Int)).toNat else min (k:Int).toNat n)=min k n
 rw [if_neg (by omega),Int.toNat_natCast]
theorem jow (n d:Nat) (hd:d<=n) (o:Option Int):sIx n d o<=n:=by
 cases o with
 | none=>exact hd
 | some v =>
  show (if v < 0 then (v+(n:Int)).toNat else min v.toNat n)<=n
  by_cases hv:v < 0
  ·rw [if_pos hv]; omega
  ·rw [if_neg hv]; exact Nat.min_le_right _ _
theorem jiD (v:Int) (n d:Nat):(if v < 0 then max (v+(n:Int)) 0 else min v (n:Int))=((sIx n d (some v):Nat):Int):=by
 show (if v < 0 then max (v+(n:Int)) 0 else min v (n:Int))=(((if v < 0 then (v+(n:Int)).toNat else min v.toNat n):Nat):Int)
 by_cases hv:v < 0
 ·simp only [if_pos hv]; omega
 ·simp only [if_neg hv]; omega
theorem jhQ (lo hi:Option Int) (n:Nat):Builtin.Slice.sliceAdjust lo hi 1 (n:Int)=(((sIx n 0 lo:Nat):Int),((sIx n n hi:Nat):Int)):=by
 have h1:¬ ((1:Int) < 0):=by omega
 unfold Builtin.Slice.sliceAdjust
 simp only [h1,if_false]
 refine Prod.ext ?_ ?_
 ·cases lo with
  | none=>rfl
  | some v=>exact jiD v n 0
 ·cases hi with
  | none=>rfl
  | some v=>exact jiD v n n
theorem jhR (i j:Nat):Builtin.Slice.slicePlaces (i:Int) (j:Int) 1=j - i:=by
 unfold Builtin.Slice.slicePlaces
 have h1:(1:Int) > 0:=by omega
 simp only [h1,if_true,Int.ediv_one]
 split <;> omega
theorem jeo {v:Value} {o:Option Int} {Q:Option Int->Shared->Prop} (p:IsPart v o) (h:Q o s):wpAny (model prog w) A (Builtin.Slice.slicePartIndex v) Q E s:=by
 cases p with
 | none=>exact slicePart_none h
 | int i t=>exact slicePart_int h
theorem jdw {sl:Addr} {vl vu:Value} {lo hi:Option Int} {n:Nat} {Q:Int×Int×Nat->Shared->Prop} (hs:s.heap.IsSliceOf sl vl vu .none) (pl:IsPart vl lo) (pu:IsPart vu hi)
  (h:Q (((sIx n 0 lo:Nat):Int),1,sIx n n hi - sIx n 0 lo) s):wpAny (model prog w) A (Builtin.Slice.sliceApplied (.ref sl) (pure (n:Int))) Q E s:=by
 obtain ⟨os,hos,hcs,hds⟩:=id hs
 unfold Builtin.Slice.sliceApplied Builtin.Slice.sliceFields
 refine wpAny_bind (wpAny_bind (wpAny_field hos hds (x:=vl) rfl (wpAny_bind (wpAny_field hos hds (x:=vu) rfl (wpAny_bind (wpAny_field hos hds (x:=.none) rfl (wpAny_pure ?_)))))))
 refine wpAny_bind (slicePart_none ?_)
 show wpAny _ _ (if ((1:Int)==0)=true then _ else _) _ _ s
 rw [if_neg (by decide)]
 refine wpAny_bind (jeo pl (wpAny_bind (jeo pu (wpAny_bind (wpAny_pure ?_)))))
 show wpAny _ _ (match Builtin.Slice.sliceAdjust lo hi 1 (n:Int) with | (lo,hi)=>pure (lo,(1:Int),Builtin.Slice.slicePlaces lo hi 1)) _ _ s
 rw [jhQ lo hi n]
 show wpAny _ _ (pure (((sIx n 0 lo:Nat):Int),(1:Int),Builtin.Slice.slicePlaces ((sIx n 0 lo:Nat):Int) ((sIx n n hi:Nat):Int) 1)) _ _ s
 rw [jhR]
 exact wpAny_pure h
theorem jkR (xs:Array Value) (i k:Nat):((List.range k).filterMap fun (m:Nat)=>xs[((i:Int)+(m:Int) * 1).toNat]?).toArray=((xs.toList.drop i).take k).toArray:=by
 have e:(fun (m:Nat)=>xs[((i:Int)+(m:Int) * 1).toNat]?)=fun m=>xs[i+m]?:=by
  funext m
  have:((i:Int)+(m:Int) * 1).toNat=i+m:=by omega
  rw [this]
 rw [e]
 have:=pick_run xs i k
 rw [List.filterMap_map] at this
 have e2:((fun x=>xs[x]?) ∘ fun x=>i+x)=fun m=>xs[i+m]?:=rfl
 rw [e2] at this
 rw [this]
theorem getItem_tuple_cut {t sl:Addr} {items:Array Value} {vl vu:Value} {lo hi:Option Int} {Q:Value->Shared->Prop} (ht:IsTup s.heap t items) (hs:s.heap.IsSliceOf sl vl vu .none) (pl:IsPart vl lo) (pu:IsPart vu hi)
  (hw:¬ (sIx items.size 0 lo=0/\sIx items.size items.size hi=items.size))
  (h:Q (.ref s.heap.objs.size) {s with heap:=s.heap.push {cls:=.type "tuple",data:=.seq ((items.toList.drop (sIx items.size 0 lo)).take (sIx items.size items.size hi - sIx items.size 0 lo)).toArray}})
  (hsz:items.size<=sizeLine):wpAny (model prog w) A (getItem (.ref t) (.ref sl)) Q E s:=by
 have htake:sizeOk (.seq ((items.toList.drop (sIx items.size 0 lo)).take (sIx items.size items.size hi - sIx items.size 0 lo)).toArray):=by
  show ((items.toList.drop (sIx items.size 0 lo)).take (sIx items.size items.size hi - sIx items.size 0 lo)).toArray.size<=sizeLine
  rw [List.size_toArray,List.length_take,List.length_drop,Array.length_toList]
  omega
 have hj:sIx items.size items.size hi<=items.size:=jow _ _ (Nat.le_refl _) hi
 obtain ⟨os,hos,hcs,hds⟩:=id hs
 have hTs:s.TypeIs (.ref sl) "slice":=⟨os,hos,hcs⟩
 unfold getItem
 try with_reducible refine wpAny_holding ?_
 first | refine wpAny_bind (wpAny_pure ?_) | skip
 refine wpAny_bind (wpAny_sequenceKey ht.typeIs (by decide) ?_)
 refine wpAny_bind (wpAny_callSpecial?_slot (name:=Str.ofString "__getitem__") ht.typeIs PyProof.Rows.slot_tuple_getitem
  (wpAny_call_entry PyProof.Rows.slot_tuple_getitem ht.typeIs entry_tuple_getitem ?_ (args_tuple_getitem _ _)))
 show wpAny _ _ (Builtin.Tuple.tupleItemsOf (.ref t)>>=_) _ _ s
 refine wpAny_bind (tupleItemsOf_ ht ?_)
 refine wpAny_bind (wpAny_typeOf hTs ?_)
 rw [if_pos (by decide)]
 refine wpAny_bind (jdw hs pl pu ?_)
 have hno:¬ ((((sIx items.size 0 lo:Nat):Int)==0&&(1:Int)==1&&(sIx items.size items.size hi - sIx items.size 0 lo)==items.size)=true):=by
  intro q
  rw [Bool.and_eq_true,Bool.and_eq_true] at q
  have q1:((sIx items.size 0 lo:Nat):Int)=0:=eq_of_beq q.1.1
  have q2:sIx items.size items.size hi - sIx items.size 0 lo=items.size:=eq_of_beq q.2
  exact hw ⟨by omega,by omega⟩
 show wpAny _ _ (if (((sIx items.size 0 lo:Nat):Int)==0&&(1:Int)==1&&(sIx items.size items.size hi - sIx items.size 0 lo)==items.size)=true then _ else _) _ _ s
 rw [if_neg hno,jkR]
 first
  | exact wpAny_bind (m:=Builtin.Tuple.tupleExact _) (wpAny_newObj_type (wpAny_pure ⟨_,rfl,wpAny_pure h⟩) htake)
  | exact wpAny_bind (m:=Builtin.Tuple.tupleExact _) (wpAny_newObj_type (wpAny_bind (wpAny_pure (wpAny_pure ⟨_,rfl,wpAny_pure h⟩))) htake)
  | exact wpAny_bind (wpAny_bind (m:=Builtin.Tuple.tupleExact _) (wpAny_newObj_type (wpAny_pure (wpAny_pure ⟨_,rfl,wpAny_pure h⟩)) htake))
  | exact wpAny_bind (wpAny_bind (m:=Builtin.Tuple.tupleExact _) (wpAny_newObj_type (wpAny_pure ⟨_,rfl,wpAny_pure h⟩) htake))
end
end HT
namespace L2
open PySem PySem.Spec PyProof.Rows
abbrev TO:=St->Hp->(Option Int->Hp->Prop)->Prop
def PO (X:Cx) (e:Option Expr) (t:TO):Prop :=
 ∀ (pins:List (Addr×Obj)) (s:Shared) (σ:St) (H:Hp) (Q:Option Int->Hp->Prop),Inv X pins σ H s->t σ H Q ->
  wpAny (model X.prog X.w) X.A (evalPart e X.env) (fun u s'=>∃ o H',Inv X pins σ H' s'/\IsPart u o/\Q o H') X.xe s
def jmY:TO:=fun _ H Q=>Q none H
def tPart (t:TE):TO:=fun σ H Q=>t σ H fun x H1=>∃ i,x=.int i/\Q (some i) H1
section
variable {X:Cx} {e:Expr} {te:TE} {lo hi:Option Expr} {tl th:TO} {pos p2:Pos}
theorem jbZ:PO X none jmY:=by
 intro pins s σ H Q I h
 rw [evalPart_none]
 exact wpAny_pure ⟨none,H,I,.none,h⟩
theorem jaS (h:PE X e te):PO X (some e) (tPart te):=by
 intro pins s σ H Q I hw
 rw [evalPart_some]
 refine thn (h pins s σ H _ I hw) fun u s1 ⟨x,H1,I1,r1,q1⟩=>?_
 obtain ⟨i,rfl,q⟩:=q1
 obtain ⟨t,rfl⟩:=r1
 exact ⟨some i,H1,I1,.int i t,q⟩
def SlR (X:Cx) (r:V->Option Int->Option Int->Hp->VK->Prop):Prop :=
 ∀ (pins:List (Addr×Obj)) (s:Shared) (σ:St) (H:Hp) (x:V) (v vl vu:Value) (lo hi:Option Int) (sl:Addr) (Q:VK),Inv X pins σ H s->RelV x v->s.heap.IsSliceOf sl vl vu .none->IsPart vl lo->IsPart vu hi->r x lo hi H Q ->
  ∃ T id,typeLookup (.type T) "__getitem__"=pure (some (.builtin id))/\s.TypeIs v T/\wpAny (model X.prog X.w) X.A (getItem v (.ref sl)) (EP X pins σ Q) X.xe s
def tSl (r:V->Option Int->Option Int->Hp->VK->Prop) (te:TE) (tl th:TO):TE:=fun σ H Q=>te σ H fun x H1=>tl σ H1 fun l H2=>th σ H2 fun u H3=>r x l u H3 Q
theorem jaX {r:V->Option Int->Option Int->Hp->VK->Prop} (hr:SlR X r) (he:PE X e te) (hl:PO X lo tl) (hu:PO X hi th):PE X (.Subscript e (.Slice lo hi none p2) pos) (tSl r te tl th):=by
 intro pins s σ H Q I h
 refine Subscript_ (thn (he pins s σ H _ I h) fun v s1 ⟨x,H1,I1,r1,q1⟩=>?_)
 refine wpAny_Slice (thn (hl pins s1 σ H1 _ I1 q1) fun vl s2 ⟨l,H2,I2,pl,q2⟩=>thn (hu pins s2 σ H2 _ I2 q2) fun vu s3 ⟨u,H3,I3,pu,q3⟩=>?_)
 rw [evalPart_none]
 refine wpAny_pure ?_
 have I4:Inv X pins σ H3 {s3 with heap:=s3.heap.push {cls:=.type "slice",data:=.fields #[vl,vu,.none]}}:=I3.kept (t':=s3.toks) fun b ob q=>Heap.get?_push_of_some _ q
 obtain ⟨T,id,hT,ht,hg⟩:=hr pins {s3 with heap:=s3.heap.push {cls:=.type "slice",data:=.fields #[vl,vu,.none]}} σ H3 x v vl vu l u s3.heap.objs.size Q I4 r1 (Heap.IsSliceOf.new ..) pl pu q3
 show wpAny (model X.prog X.w) X.A (subscriptTail e (.Slice lo hi none p2) v (.ref s3.heap.objs.size)) (EP X pins σ Q) X.xe {s3 with heap:=s3.heap.push {cls:=.type "slice",data:=.fields #[vl,vu,.none]}}
 exact tail_any (ops:=[.ref s3.heap.objs.size,v]) ht hT hg (by with_unfolding_all rfl)
def jga (xs:List V) (lo hi:Option Int):List V:=(xs.drop (HT.sIx xs.length 0 lo)).take (HT.sIx xs.length xs.length hi - HT.sIx xs.length 0 lo)
theorem jdJ (xs:List V) (lo hi:Option Int):(jga xs lo hi).length<=xs.length:=by
 unfold jga
 rw [List.length_take,List.length_drop]
 omega
def rSlT (K:PySem.W.Frag):V->Option Int->Option Int->Hp->VK->Prop:=fun x lo hi H Q=>∃ a xs,x=.ref a/\SqT K H a xs /\
 ¬ (HT.sIx xs.length 0 lo=0/\HT.sIx xs.length xs.length hi=xs.length)/\∀ p,H p=none->Q (.ref p) (upd H p (.tup (jga xs lo hi)))
theorem jlY:SlR X (rSlT X.K):=by
 intro pins s σ H x v vl vu lo hi sl Q I rx hs pl pu h
 obtain ⟨a,xs,rfl,hx,hw,q⟩:=h
 cases rx
 obtain ⟨its,r,ht,hz⟩:=I.tuple hx
 have hlen:its.toArray.size=xs.length:=by rw [List.size_toArray]; exact r.length.symm
 refine ⟨"tuple",_,PyProof.Rows.slot_tuple_getitem.lookup,ht.typeIs,?_⟩
 refine HT.getItem_tuple_cut ht hs pl pu (by rw [hlen]; exact hw) ?_ (by rw [hlen]; exact hz)
 rw [hlen]
 refine ⟨.ref s.heap.objs.size,_,I.laid (t':=s.toks) (o:=.tup (jga xs lo hi)) (fun b ob q=>Heap.get?_push_of_some _ q) (Nat.le_refl _) ?_,rfl,q _ (I.hok.fresh (Nat.le_refl _))⟩
 exact ⟨Nat.le_trans (jdJ xs lo hi) hz,_,(r.drop (HT.sIx xs.length 0 lo)).take (HT.sIx xs.length xs.length hi - HT.sIx xs.length 0 lo),IsTup.new _ _⟩
def rCatT (K:PySem.W.Frag):R2:=fun x y H Q=>∃ a b xs ys,x=.ref a/\y=.ref b/\SqT K H a xs/\SqT K H b ys/\xs≠[]/\xs.length+ys.length<=sizeLine /\
 (ys=[]->Q (.ref a) H)/\(ys≠[]->∀ p,H p=none->Q (.ref p) (upd H p (.tup (xs++ys))))
theorem Vals.nil_iff {xs:List V} {us:List Value} (r:Vals xs us):us=[]↔xs=[]:=by
 cases r with
 | nil=>simp
 | cons _ _=>simp
theorem jiE:OpR X (binaryOp .Add) (rCatT X.K):=by
 intro pins s σ H x y v u Q I rx ry h
 obtain ⟨a,b,xs,ys,rfl,rfl,ha,hb,hx,hz,q1,q2⟩:=h
 cases rx
 cases ry
 obtain ⟨its,r1,p1,_⟩:=I.tuple ha
 obtain ⟨its2,r2,p2,_⟩:=I.tuple hb
 refine HT.cat_tup p1 p2 (fun z=>hx (r1.nil_iff.mp z)) (fun z=>⟨.ref a,H,I,rfl,q1 (r2.nil_iff.mp z)⟩) (fun z=>?_) (by rw [<- r1.length,<- r2.length]; exact hz)
 refine ⟨.ref s.heap.objs.size,_,I.laid (t':=s.toks) (o:=.tup (xs++ys)) (fun b ob q=>Heap.get?_push_of_some _ q) (Nat.le_refl _) ?_,rfl,q2 (fun w=>z (r2.nil_iff.mpr w)) _ (I.hok.fresh (Nat.le_refl _))⟩
 exact ⟨by rw [List.length_append]; exact hz,_,r1.append r2,IsTup.new _ _⟩
end
def ixN (n:Nat) (i:Int):Option Nat:=if 0<=i then (if i < n then some i.toNat else none) else if -(n:Int)<=i then some (i+n).toNat else none
def atI {α:Type} (xs:List α) (i:Int):Option α:=(ixN xs.length i).bind fun j=>xs[j]?
theorem jmZ {n:Nat} {i:Int} {j:Nat} (h:ixN n i=some j):seqIndex? i n=some j/\j < n/\-(n:Int)<=i/\i < n:=by
 unfold ixN at h
 by_cases h0:0<=i
 ·rw [if_pos h0] at h
  by_cases h1:i < n
  ·rw [if_pos h1] at h
   have e:i.toNat=j:=Option.some.inj h
   exact ⟨by rw [seqIndex_of h0 h1,e],by omega,by omega,h1⟩
  ·rw [if_neg h1] at h; cases h
 ·rw [if_neg h0] at h
  by_cases h1:-(n:Int)<=i
  ·rw [if_pos h1] at h
   have e:(i+n).toNat=j:=Option.some.inj h
   exact ⟨by rw [seqIndex_neg (by omega) h1,e],by omega,h1,by omega⟩
  ·rw [if_neg h1] at h; cases h
theorem jgl {α:Type} {xs:List α} {i:Int} {v:α} (h:atI xs i=some v):∃ j,seqIndex? i xs.length=some j/\xs[j]?=some v/\j < xs.length/\-(xs.length:Int)<=i/\i < xs.length:=by
 unfold atI at h
 cases e:ixN xs.length i with
 | none=>rw [e] at h; cases h
 | some j =>
  rw [e] at h
  obtain ⟨h1,h2,h3,h4⟩:=jmZ e
  exact ⟨j,h1,h,h2,h3,h4⟩
theorem jbD {α:Type} {xs:List α} {j:Nat} {v:α} (h:xs[j]?=some v):atI xs (j:Int)=some v:=by
 have hj:j < xs.length:=(List.getElem?_eq_some_iff.mp h).1
 have e:ixN xs.length (j:Int)=some j:=by
  unfold ixN
  rw [if_pos (by omega),if_pos (by omega)]; simp
 unfold atI; rw [e]; exact h
theorem jkS {α:Type} (xs:List α) (v:α):atI (xs++[v]) (-1)=some v:=by
 have hl:(xs++[v]).length=xs.length+1:=by simp
 have e:ixN (xs++[v]).length (-1)=some xs.length:=by
  unfold ixN
  rw [hl,if_neg (by decide),if_pos (by omega)]
  congr 1
  omega
 unfold atI
 rw [e]
 show (xs++[v])[xs.length]?=some v
 simp
def jna (b:Expr):Prop:=∀ o i,subscripted b false o i=operate [o,i] (getItem o i)
def IxR (X:Cx) (r:R2):Prop :=
 ∀ (value slice:Expr) (pins:List (Addr×Obj)) (s:Shared) (σ:St) (H:Hp) (x y:V) (v u:Value) (Q:VK),Inv X pins σ H s->RelV x v->RelV y u->r x y H Q ->
  subscripted slice false v u=operate [v,u] (getItem v u)->wpAny (model X.prog X.w) X.A (subscriptTail value slice v u) (EP X pins σ Q) X.xe s
def MtR (X:Cx) (id:String) (r:V->List V->Hp->VK->Prop):Prop :=
 ∀ (pins:List (Addr×Obj)) (s:Shared) (σ:St) (H:Hp) (x:V) (xs:List V) (v:Value) (us:List Value) (Q:VK),Inv X pins σ H s->RelV x v->Vals xs us->r x xs H Q ->
  wpAny (model X.prog X.w) X.A (call (.builtin id) (v::us)) (EP X pins σ Q) X.xe s
section
variable {X:Cx} {a b:Expr} {ta tb:TE} {pos:Pos}
theorem jam {r:R2} (hr:IxR X r) (ha:PE X a ta) (hb:PE X b tb) (hs:jna b):PE X (.Subscript a b pos) (tOp r ta tb):=by
 intro pins s σ H Q I h
 exact Subscript_ (binT ha hb I h fun v u s2 x y H2 I2 rx ry q=>hr a b pins s2 σ H2 x y v u Q I2 rx ry q (hs _ _))
def rIxL (K:PySem.W.Frag):R2:=fun x y H Q=>∃ p xs i v,x=.ref p/\y=.int i/\SqL K H p xs/\atI xs i=some v/\Q v H
def jgm (K:PySem.W.Frag):R2:=fun x y H Q=>∃ p xs i v,x=.ref p/\y=.int i/\SqT K H p xs/\atI xs i=some v/\Q v H
def rIxS:R2:=fun x y H Q=>∃ z i c,x=.str z/\y=.int i/\z.length<=sizeLine/\atI z.cps.toList i=some c/\Q (.str ⟨#[c]⟩) H
theorem jaG:IxR X (rIxL X.K):=by
 intro value slice pins s σ H x y v u Q I rx ry h hs
 obtain ⟨p,xs,i,z,rfl,rfl,hq,he,q⟩:=h
 cases rx
 obtain ⟨t,rfl⟩:=ry
 obtain ⟨its,r,pl,hz⟩:=I.list hq
 obtain ⟨j,h1,h2,h3,h4,h5⟩:=jgl he
 obtain ⟨w,ew,rw'⟩:=r.get h2
 have hl:=r.length
 have hn:=jdm
 have fin:EP X pins σ Q w s:=⟨z,H,I,rw',q⟩
 by_cases h0:0<=i
 ·have hj:i.toNat=j:=by
   rw [seqIndex_of h0 h5] at h1
   exact Option.some.inj h1
  exact item_listR pl.isList h0 (by omega) (by rw [hj]; simpa using ew) fin hs
 ·have hj:(i+(its.toArray.size:Int)).toNat=j:=by
   rw [seqIndex_neg (by omega) h4] at h1
   rw [List.size_toArray,<- hl]
   exact Option.some.inj h1
  exact subscriptTail_builtinR (x:=w) pl.isList.typeIs slot_list_getitem.lookup
   (wpAny_getItem_list_neg (Q:=fun r s'=>r=w/\EP X pins σ Q r s') pl.isList (by omega) (by rw [List.size_toArray] <;> omega) (by omega) (by rw [hj]; simpa using ew) ⟨rfl,fin⟩) hs
theorem jaj:IxR X (jgm X.K):=by
 intro value slice pins s σ H x y v u Q I rx ry h hs
 obtain ⟨p,xs,i,z,rfl,rfl,hq,he,q⟩:=h
 cases rx
 obtain ⟨t,rfl⟩:=ry
 obtain ⟨its,r,pl,hz⟩:=I.tuple hq
 obtain ⟨j,h1,h2,h3,h4,h5⟩:=jgl he
 obtain ⟨w,ew,rw'⟩:=r.get h2
 have hl:=r.length
 have hn:=jdm
 have fin:EP X pins σ Q w s:=⟨z,H,I,rw',q⟩
 exact subscriptTail_builtinR (x:=w) pl.typeIs slot_tuple_getitem.lookup
  (getItem_tuple (j:=j) (Q:=fun r s'=>r=w/\EP X pins σ Q r s') pl (by omega) (by omega) (by rw [List.size_toArray,<- hl]; exact h1) (by simpa using ew) ⟨rfl,fin⟩) hs
theorem jlZ:IxR X rIxS:=by
 intro value slice pins s σ H x y v u Q I rx ry h hs
 obtain ⟨z,i,c,rfl,rfl,hz,he,q⟩:=h
 obtain ⟨t,rfl⟩:=rx
 obtain ⟨t',rfl⟩:=ry
 obtain ⟨j,h1,h2,h3,h4,h5⟩:=jgl he
 have hl:z.cps.toList.length=z.length:=by simp [Str.length]
 rw [hl] at h1 h4 h5
 have hn:=jdm
 exact tail_any (typeIs_str s z t) slot_str_getitem.lookup (getItem_str (c:=c) (by
  have e1:decide (i < -(2 ^ 63:Int))=false:=decide_eq_false (by omega)
  have e2:decide (i ≥ 2 ^ 63)=false:=decide_eq_false (by omega)
  rw [e1,e2,Bool.or_false]) (by rw [h1]; simpa using h2) ⟨.str ⟨#[c]⟩,H,I.tok _,⟨_,rfl⟩,q⟩) hs
theorem jfr (lo hi:Option Int) (n:Nat):(sliceBounds lo hi none n).1=((HT.sIx n 0 lo:Nat):Int)/\(sliceBounds lo hi none n).2.1=((HT.sIx n n hi:Nat):Int)/\(sliceBounds lo hi none n).2.2=1:=by
 refine ⟨?_,?_,rfl⟩
 ·cases lo with
  | none=>simp [sliceBounds,HT.sIx]
  | some i =>
   simp only [sliceBounds,HT.sIx,Option.getD_none,show (1:Int) > 0 by decide,if_true]
   by_cases h:i < 0
   ·simp only [h,if_true] <;> omega
   ·simp only [h,if_false] <;> omega
 ·cases hi with
  | none=>simp [sliceBounds,HT.sIx]
  | some i =>
   simp only [sliceBounds,HT.sIx,Option.getD_none,show (1:Int) > 0 by decide,if_true]
   by_cases h:i < 0
   ·simp only [h,if_true] <;> omega
   ·simp only [h,if_false] <;> omega
theorem jeA (its:List Value) (lo hi:Option Int):slicePick its.toArray lo hi none=((its.drop (HT.sIx its.length 0 lo)).take (HT.sIx its.length its.length hi - HT.sIx its.length 0 lo)).toArray:=by
 obtain ⟨h1,h2,h3⟩:=jfr lo hi its.toArray.size
 unfold slicePick
 rw [h1,h2,h3]
 simp only [sliceRange_one,pick_run,List.size_toArray] <;> rfl
def rSlL (K:PySem.W.Frag):V->Option Int->Option Int->Hp->VK->Prop:=fun x lo hi H Q=>∃ a xs,x=.ref a/\SqL K H a xs/\∀ p,H p=none->Q (.ref p) (upd H p (.lst (jga xs lo hi)))
theorem jiF:SlR X (rSlL X.K):=by
 intro pins s σ H x v vl vu lo hi sl Q I rx hs pl pu h
 obtain ⟨a,xs,rfl,hx,q⟩:=h
 cases rx
 obtain ⟨its,r,ht,hz⟩:=I.list hx
 have hlen:=r.length
 refine ⟨"list",_,slot_list_getitem.lookup,ht.isList.typeIs,?_⟩
 refine wpAny_getItem_list_slice ht.isList hs pl pu .none (by simp) ?_ (by rw [List.size_toArray] <;> omega)
 rw [jeA,<- hlen]
 refine ⟨.ref s.heap.objs.size,_,I.laid (t':=s.toks) (o:=.lst (jga xs lo hi)) (fun b ob q=>Heap.get?_push_of_some _ q) (Nat.le_refl _) ?_,rfl,q _ (I.hok.fresh (Nat.le_refl _))⟩
 exact ⟨Nat.le_trans (jdJ xs lo hi) hz,_,0,(r.drop (HT.sIx xs.length 0 lo)).take (HT.sIx xs.length xs.length hi - HT.sIx xs.length 0 lo),Heap.get?_push_size _ rfl⟩
def jeB:V->Bool
 | .non=>true
 | .bl _=>true
 | .int _=>true
 | .str _=>true
 | _=>false
def eqV:V->V->Bool
 | .non,.non=>true
 | .bl a,.bl b=>a==b
 | .bl a,.int b=>(if a then 1 else 0)==b
 | .int a,.bl b=>a==(if b then 1 else 0)
 | .int a,.int b=>a==b
 | .str a,.str b=>a==b
 | _,_=>false
theorem jox {A:Around} {s:Shared} {y x:V} {u v:Value} (ry:RelV y u) (rx:RelV x v) (fy:jeB y=true) (fx:jeB x=true):SeqAt.EqAt A s u v (eqV y x):=by
 cases y with
 | non =>
  cases ry
  cases x with
  | non=>cases rx; exact SeqAt.EqAt.same _
  | bl b=>cases rx; exact SeqAt.EqAt.none_bool b
  | int b=>obtain ⟨t,rfl⟩:=rx; exact SeqAt.EqAt.none_int b t
  | str b=>obtain ⟨t,rfl⟩:=rx; exact SeqAt.EqAt.none_str b t
  | _=>exact absurd (show false=true from fx) Bool.false_ne_true
 | bl a =>
  cases ry
  cases x with
  | non=>cases rx; exact SeqAt.EqAt.bool_none a
  | bl b=>cases rx; exact SeqAt.EqAt.bool_bool a b
  | int b=>obtain ⟨t,rfl⟩:=rx; exact SeqAt.EqAt.bool_int a b t
  | str b=>obtain ⟨t,rfl⟩:=rx; exact SeqAt.EqAt.bool_str a b t
  | _=>exact absurd (show false=true from fx) Bool.false_ne_true
 | int a =>
  obtain ⟨t',rfl⟩:=ry
  cases x with
  | non=>cases rx; exact SeqAt.EqAt.int_none a t'
  | bl b=>cases rx; exact SeqAt.EqAt.int_bool a t' b
  | int b=>obtain ⟨t,rfl⟩:=rx; exact SeqAt.EqAt.int_int a t' b t
  | str b=>obtain ⟨t,rfl⟩:=rx; exact SeqAt.EqAt.int_str a t' b t
  | _=>exact absurd (show false=true from fx) Bool.false_ne_true
 | str a =>
  obtain ⟨t',rfl⟩:=ry
  cases x with
  | non=>cases rx; exact SeqAt.EqAt.str_none a t'
  | bl b=>cases rx; exact SeqAt.EqAt.str_bool a t' b
  | int b=>obtain ⟨t,rfl⟩:=rx; exact SeqAt.EqAt.str_int a t' b t
  | str b=>obtain ⟨t,rfl⟩:=rx; exact SeqAt.EqAt.str_str a t' b t
  | _=>exact absurd (show false=true from fx) Bool.false_ne_true
 | _=>exact absurd (show false=true from fy) Bool.false_ne_true
def eqU (x:V) (u:Value):Bool:=match u with
 | .none=>eqV .non x
 | .bool b=>eqV (.bl b) x
 | .int i _=>eqV (.int i) x
 | .str z _=>eqV (.str z) x
 | _=>false
theorem jma {x y:V} {u:Value} (r:RelV y u) (f:jeB y=true):eqU x u=eqV y x:=by
 cases y with
 | non=>cases r; rfl
 | bl b=>cases r; rfl
 | int i=>obtain ⟨t,rfl⟩:=r; rfl
 | str z=>obtain ⟨t,rfl⟩:=r; rfl
 | _=>exact absurd (show false=true from f) Bool.false_ne_true
theorem jdK {x:V}:∀ {xs:List V} {us:List Value},Vals xs us->xs.all jeB=true->us.any (eqU x)=xs.any fun y=>eqV y x
 | _,_,.nil,_=>rfl
 | y::xs,u::us,.cons r t,f=>by
  rw [List.all_cons,Bool.and_eq_true] at f
  rw [List.any_cons,List.any_cons,jma r f.1,jdK t f.2]
theorem jcM {A:Around} {s:Shared} {x:V} {v:Value} (rx:RelV x v) (fx:jeB x=true):∀ {xs:List V} {us:List Value},Vals xs us->xs.all jeB=true->∀ u∈us,SeqAt.EqAt A s u v (eqU x u)
 | _,_,.nil,_=>fun u hu=>by cases hu
 | y::xs,u::us,.cons r t,f=>fun u' hu=>by
  rw [List.all_cons,Bool.and_eq_true] at f
  rcases List.mem_cons.mp hu with rfl | hu
  ·rw [jma r f.1]; exact jox r rx f.1 fx
  ·exact jcM rx fx t f.2 u' hu
def inV (x:V) (xs:List V):Bool:=xs.any fun y=>eqV y x
def rIn (K:PySem.W.Frag) (neg:Bool):R2:=fun x y H Q=>∃ p xs,y=.ref p/\(SqL K H p xs\/SqT K H p xs)/\jeB x=true/\xs.all jeB=true/\Q (.bl (if neg then !inV x xs else inV x xs)) H
theorem jfs:OpR X (compareOp .In) (rIn X.K false):=by
 intro pins s σ H x y v u Q I rx ry h
 obtain ⟨p,xs,rfl,hq,fx,fs,q⟩:=h
 cases ry
 rcases hq with hq | hq
 ·obtain ⟨its,r,pl,hz⟩:=I.list hq
  refine SeqAt.in_listAt (eqU x) pl.isList (fun w hw=>jcM rx fx r fs w (by simpa using hw)) ⟨.bl _,H,I,rfl,?_⟩
  rw [show its.toArray.any (eqU x)=its.any (eqU x) by simp,jdK r fs]
  exact q
 ·obtain ⟨its,r,pl,hz⟩:=I.tuple hq
  refine SeqAt.in_tupleAt (eqU x) pl (fun w hw=>jcM rx fx r fs w (by simpa using hw)) ⟨.bl _,H,I,rfl,?_⟩
  rw [show its.toArray.any (eqU x)=its.any (eqU x) by simp,jdK r fs]
  exact q
theorem jft:OpR X (compareOp .NotIn) (rIn X.K true):=by
 intro pins s σ H x y v u Q I rx ry h
 obtain ⟨p,xs,rfl,hq,fx,fs,q⟩:=h
 cases ry
 rcases hq with hq | hq
 ·obtain ⟨its,r,pl,hz⟩:=I.list hq
  refine SeqAt.notIn_listAt (eqU x) pl.isList (fun w hw=>jcM rx fx r fs w (by simpa using hw)) ⟨.bl _,H,I,rfl,?_⟩
  rw [show its.toArray.any (eqU x)=its.any (eqU x) by simp,jdK r fs]
  exact q
 ·obtain ⟨its,r,pl,hz⟩:=I.tuple hq
  refine SeqAt.notIn_tupleAt (eqU x) pl (fun w hw=>jcM rx fx r fs w (by simpa using hw)) ⟨.bl _,H,I,rfl,?_⟩
  rw [show its.toArray.any (eqU x)=its.any (eqU x) by simp,jdK r fs]
  exact q
theorem jar:jcK X (.builtin "len") (fun xs H Q=>∃ p ys,xs=[.ref p]/\(SqL X.K H p ys\/SqT X.K H p ys)/\Q (.int ys.length) H):=by
 intro pins s σ H xs us Q I r h
 obtain ⟨p,ys,rfl,hq,q⟩:=h
 obtain ⟨u,rfl,rx⟩:=jdG r
 cases rx
 have hn:=jdm
 rcases hq with hq | hq
 ·obtain ⟨its,r',pl,hz⟩:=I.list hq
  have hlen:=r'.length
  exact Calls.call_len_list pl.isList (by simp only [List.size_toArray] <;> omega) ⟨.int ys.length,H,I.tok _,⟨s.toks+1,by rw [List.size_toArray,hlen]⟩,q⟩
 ·obtain ⟨its,r',pl,hz⟩:=I.tuple hq
  have hlen:=r'.length
  exact len_tuple pl (by simp only [List.size_toArray] <;> omega) ⟨.int ys.length,H,I.tok _,⟨s.toks+1,by rw [List.size_toArray,hlen]⟩,q⟩
theorem jaA:jcK X (.builtin "len") (fun xs H Q=>∃ z,xs=[.str z]/\z.length<=sizeLine/\Q (.int z.length) H):=by
 intro pins s σ H xs us Q I r h
 obtain ⟨z,rfl,hz,q⟩:=h
 obtain ⟨u,rfl,t,rfl⟩:=jdG r
 have hn:=jdm
 exact len_str (by omega) ⟨.int z.length,H,I.tok _,⟨_,rfl⟩,q⟩
theorem jdn:jcK X (.type "list") (fun xs H Q=>∃ p ys,xs=[.ref p]/\(SqL X.K H p ys\/SqT X.K H p ys)/\∀ l,H l=none->Q (.ref l) (upd H l (.lst ys))):=by
 intro pins s σ H xs us Q I r h
 obtain ⟨p,ys,rfl,hq,q⟩:=h
 obtain ⟨u,rfl,rx⟩:=jdG r
 cases rx
 have fin:∀ (its:List Value),Vals ys its->ys.length<=sizeLine->∀ (h':Heap) (c':Nat),(∀ b o',s.heap.get? b=some o'->h'.get? b=some o') ->
   h'.get? s.heap.objs.size=some {cls:=.type "list",dict:=none,data:=.seq its.toArray c',slots:=#[]}->EP X pins σ Q (.ref s.heap.objs.size) {s with heap:=h'}:=fun its r' hz h' c' kp e =>
  ⟨.ref s.heap.objs.size,_,I.laid (t':=s.toks) kp (Nat.le_refl _) (show ObjOk X.prog X.w _ h' _ (.lst ys) from ⟨hz,its,c',r',e⟩),rfl,q _ (I.hok.fresh (Nat.le_refl _))⟩
 rcases hq with hq | hq
 ·obtain ⟨its,r',pl,hz⟩:=I.list hq
  have hlen:=r'.length
  obtain ⟨o,ho,hc,n,hd⟩:=pl.isList
  exact call_list_seq p (.inl rfl) ho hc hd (fun h' c' kp e=>fin its r' hz h' c' kp e) (by simp only [List.size_toArray] <;> omega)
 ·obtain ⟨its,r',pl,hz⟩:=I.tuple hq
  have hlen:=r'.length
  obtain ⟨o,ho,hc,n,hd⟩:=pl
  exact call_list_seq p (.inr rfl) ho hc hd (fun h' c' kp e=>fin its r' hz h' c' kp e) (by simp only [List.size_toArray] <;> omega)
def tyV (K:PySem.W.Frag) (T:String) (x:V) (H:Hp):Prop:=match x with
 | .str _=>T="str"
 | .int _=>T="int"
 | .ref p=>(T="list"/\∃ xs,SqL K H p xs)\/(T="tuple"/\∃ o,K.lookup p=some o/\o.cls=.type "tuple"/\o.dict=none) \/
   (T="dict"/\((∃ kvs,H p=some (.dK kvs))\/∃ kvs,H p=some (.dT kvs)))\/(T="set"/\∃ S n,H p=some (.set S n))
 | _=>False
theorem jmb {pins:List (Addr×Obj)} {σ:St} {H:Hp} {s:Shared} {T:String} {x:V} {v:Value} (I:Inv X pins σ H s) (r:RelV x v) (ty:tyV X.K T x H) :
  s.TypeIs v T/\∀ a,v=.ref a->∃ ob,s.heap.get? a=some ob/\ob.dict=none:=by
 cases x with
 | str z =>
  obtain ⟨t,rfl⟩:=r
  cases (show T="str" from ty)
  exact ⟨typeIs_str s z t,fun _ e=>nomatch e⟩
 | int i =>
  obtain ⟨t,rfl⟩:=r
  cases (show T="int" from ty)
  exact ⟨typeIs_int s i t,fun _ e=>nomatch e⟩
 | ref p =>
  cases r
  rcases ty with ⟨rfl,xs,hq⟩ | ⟨rfl,o,hk,hc,hd⟩ | ⟨rfl,hk⟩ | ⟨rfl,S,n,hk⟩
  ·obtain ⟨its,_,pl,_⟩:=I.list hq
   refine ⟨pl.isList.typeIs,fun a e=>?_⟩
   cases e
   obtain ⟨o,n,e,c,hd,_⟩:=pl
   exact ⟨o,e,hd⟩
  ·refine ⟨⟨o,I.kIn p o hk,hc⟩,fun a e=>?_⟩
   cases e
   exact ⟨o,I.kIn _ o hk,hd⟩
  ·have z:∃ o,s.heap.get? p=some o/\o.ExactDict:=by
    rcases hk with ⟨kvs,hk⟩ | ⟨kvs,hk⟩
    ·obtain ⟨_,_,_,_,o,_,_,e,ex,_⟩:=I.hok p _ hk
     exact ⟨o,e,ex⟩
    ·obtain ⟨_,_,_,_,o,_,_,e,ex,_⟩:=I.hok p _ hk
     exact ⟨o,e,ex⟩
   obtain ⟨o,e,ex⟩:=z
   refine ⟨⟨o,e,ex.1⟩,fun a e2=>?_⟩
   cases e2
   exact ⟨o,e,ex.2.1⟩
  ·obtain ⟨o,_,_,_,e,ex,_⟩:=I.hok p _ hk
   refine ⟨⟨o,e,ex.1⟩,fun a e2=>?_⟩
   cases e2
   exact ⟨o,e,ex.2.1⟩
 | _=>exact False.elim ty
def tBM0 (K:PySem.W.Frag) (T:String) (r:V->List V->Hp->VK->Prop) (to:TE):TE:=fun σ H Q=>to σ H fun x H1=>tyV K T x H1/\r x [] H1 Q
def tBM (K:PySem.W.Frag) (T:String) (r:V->List V->Hp->VK->Prop) (to:TE) (t:TA):TE:=fun σ H Q=>to σ H fun x H1=>tyV K T x H1/\t σ H1 fun xs H2=>r x xs H2 Q
variable {o e:Expr} {es:List Expr} {to:TE} {t:TA} {name:Str} {apos cpos:Pos} {T id:String} {r:V->List V->Hp->VK->Prop}
theorem jfu (pa:PlainAttrs T) (slot:Slot T name id) (hty:typeOf (.builtin id)=pure (.type "method_descriptor")) (hm:MtR X id r) (ho:PE X o to)
  (hbase:attributeBase o name X.env (eval o X.env)=eval o X.env:=by rfl) (hline:(apos.endLine==cpos.line)=true:=by rfl):PE X (.Call (.Attribute o name apos) [] [] cpos) (tBM0 X.K T r to):=by
 intro pins s σ H Q I h
 refine wpAny_Call_method0_late hbase hline (thn (ho pins s σ H _ I h) fun v s1 ⟨x,H1,I1,r1,ty,q1⟩=>?_)
 obtain ⟨h1,h2⟩:=jmb I1 r1 ty
 exact ⟨T,id,pa,slot,hty,h1,h2,Calls.callWith_builtin rfl (PySem.evalArgs_none (hm pins s1 σ H1 x [] v [] Q I1 r1 .nil q1))⟩
theorem jbv (pa:PlainAttrs T) (slot:Slot T name id) (hty:typeOf (.builtin id)=pure (.type "method_descriptor")) (hm:MtR X id r) (ho:PE X o to) (ha:PA X (e::es) t)
  (hbase:attributeBase o name X.env (eval o X.env)=eval o X.env:=by rfl)
  (hfew:((backTo cpos (starEach (e::es) X.env)).all (fun x=>!x.1)&&(backToKw cpos (keywordEach [] X.env)).all (fun x=>x.1.isSome)
   && decide ((e::es).length+([]:List Keyword).length+(if ([]:List Keyword).isEmpty then 0 else 1) < 30))=true:=by rfl)
  (hline:(apos.endLine==cpos.line)=true:=by rfl) (hs:starEach (e::es) X.env=(false,eval e X.env)::starEach es X.env:=by rfl) (hplain:(backTo cpos (starEach es X.env)).any (·.1)=false:=by rfl) :
  PE X (.Call (.Attribute o name apos) (e::es) [] cpos) (tBM X.K T r to t):=by
 intro pins s σ H Q I h
 refine wpAny_Call_method_late hbase hfew hline rfl (thn (ho pins s σ H _ I h) fun v s1 ⟨x,H1,I1,r1,ty,q1⟩=>?_)
 obtain ⟨h1,h2⟩:=jmb I1 r1 ty
 refine ⟨T,id,pa,slot,hty,h1,h2,?_⟩
 have hA:=ha cpos pins s1 σ H1 _ I1 q1
 rw [hs] at hA ⊢
 refine Calls.callWith_builtin (by show (false || (backTo cpos (starEach es X.env)).any (·.1))=false; rw [hplain] <;> rfl) (Calls.evalArgs_plain ?_)
 exact thn hA fun us s2 ⟨vs,H2,I2,r2,q2⟩=>hm pins s2 σ H2 x vs v us Q I2 r1 r2 q2
/- xs.append(e),list.index on a module's tuple .. are MtR facts of 06m -/
end
def MtM (X:Cx) (id:String) (r:V->List V->Hp->VK->Prop):Prop :=
 ∀ (pins:List (Addr×Obj)) (s:Shared) (σ:St) (H:Hp) (x:V) (xs:List V) (v:Value) (us:List Value) (Q:VK),Inv X pins σ H s->RelV x v->Vals xs us->r x xs H Q ->
  wpAny (model X.prog X.w) X.A (call (.builtin id) (v::us)) (EP X pins σ Q) X.xe s
theorem Vals.one:∀ {x:V} {us:List Value},Vals [x] us->∃ u,us=[u]/\RelV x u
 | _,_,.cons r .nil=>⟨_,rfl,r⟩
theorem Vals.zero:∀ {us:List Value},Vals [] us->us=[]
 | _,.nil=>rfl
theorem Vals.dropLast {xs:List V} {us:List Value} (h:Vals xs us):Vals xs.dropLast us.dropLast:=by
 induction h with
 | nil=>exact .nil
 | cons r t ih =>
  cases t with
  | nil=>exact .nil
  | cons q t'=>exact .cons r ih
theorem Vals.reverse {xs:List V} {us:List Value} (h:Vals xs us):Vals xs.reverse us.reverse:=by
 induction h with
 | nil=>exact .nil
 | cons r t ih=>rw [List.reverse_cons,List.reverse_cons]; exact Vals.append ih (.cons r .nil)
theorem jhS {α:Type} (l:List α):l.eraseIdx (l.length - 1)=l.dropLast:=by
 induction l with
 | nil=>rfl
 | cons a r ih =>
  cases r with
  | nil=>rfl
  | cons b r =>
   have e:(a::b::r).length - 1=((b::r).length - 1)+1:=by
    have h1:(a::b::r).length=r.length+2:=rfl
    have h2:(b::r).length=r.length+1:=rfl
    omega
   rw [e,List.eraseIdx_cons_succ,ih]
   all_goals rfl
section
variable {X:Cx} {pins:List (Addr×Obj)} {σ:St} {H:Hp} {s:Shared} {l b:Addr} {xs ys zs:List V}
theorem Inv.lset {its its':List Value} {n:Nat} {f:Array Value->Array Value} {t':Nat} (I:Inv X pins σ H s) (hH:H l=some (.lst xs))
  (e:s.heap.get? l=some {cls:=.type "list",data:=.seq its.toArray n}) (hf:f its.toArray=its'.toArray) (hv:Vals ys its') (hz:ys.length<=sizeLine) :
  Inv X pins σ (upd H l (.lst ys)) {s with heap:=s.heap.update l (Obj.mapSeq f),toks:=t'}:=by
 have q:=PySem.IsL.update e f
 rw [hf] at q
 refine I.write (x:=l) (e:=l) (by rw [hH]; exact trivial) (.inl rfl) (fun b' u hb hu=>(Heap.get?_update_other s.heap (Obj.mapSeq f) (Ne.symm hb)).trans hu) ⟨_,q⟩ ?_
 exact ⟨hz,its',_,hv,q⟩
theorem Inv.lnew {its:List Value} {t':Nat} (I:Inv X pins σ H s) (hv:Vals ys its) (hz:ys.length<=sizeLine) :
  Inv X pins σ (upd H s.heap.objs.size (.lst ys)) {s with heap:=s.heap.push {cls:=.type "list",data:=.seq its.toArray},toks:=t'} :=
 I.laid (fun _ _ q=>Heap.get?_push_of_some _ q) (Nat.le_refl _) ⟨hz,its,0,hv,Heap.get?_push_size _ rfl⟩
theorem Inv.fresh (I:Inv X pins σ H s):H s.heap.objs.size=none:=I.hok.fresh (Nat.le_refl _)
theorem Inv.lstM (I:Inv X pins σ H s) (hH:H l=some (.lst xs)):xs.length<=sizeLine/\∃ (its:List Value) (n:Nat),Vals xs its/\xs.length=its.length/\s.heap.get? l=some {cls:=.type "list",data:=.seq its.toArray n}:=by
 obtain ⟨z,its,n,r,e⟩:=I.hok l _ hH
 exact ⟨z,its,n,r,r.length,e⟩
end
section
variable {X:Cx}
def jcA:V->List V->Hp->VK->Prop:=fun x vs H Q=>∃ l xs y,x=.ref l/\vs=[y]/\H l=some (.lst xs)/\xs.length < sizeLine/\Q .non (upd H l (.lst (xs++[y])))
theorem jay:MtM X "list.append" jcA:=by
 intro pins s σ H x vs v us Q I rx rv h
 obtain ⟨l,xs,y,rfl,rfl,hH,hz,q⟩:=h
 cases rx
 obtain ⟨u,rfl,ru⟩:=rv.one
 obtain ⟨z,its,n,r,hl,e⟩:=I.lstM hH
 refine call_meets F.slot_list_append ⟨_,e,rfl⟩ F.entry_list_append (F.args_list_append_2 _ _) (PySem.list_append l its.toArray n u (by rw [List.size_toArray]; omega)) ⟨e,?_⟩
 refine ⟨.non,_,I.lset (its':=its++[u]) hH e (by simp) (r.append (.cons ru .nil)) ?_,rfl,q⟩
 rw [List.length_append,List.length_singleton]
 omega
def rPop:V->List V->Hp->VK->Prop:=fun x vs H Q=>∃ l xs y,x=.ref l/\vs=[]/\H l=some (.lst xs)/\xs[xs.length - 1]?=some y/\Q y (upd H l (.lst xs.dropLast))
theorem joy:MtM X "list.pop" rPop:=by
 intro pins s σ H x vs v us Q I rx rv h
 obtain ⟨l,xs,y,rfl,rfl,hH,hy,q⟩:=h
 cases rx
 have hus:=rv.zero
 subst hus
 obtain ⟨z,its,n,r,hl,e⟩:=I.lstM hH
 obtain ⟨u,hu,ru⟩:=r.get hy
 have hy':its.toArray[its.toArray.size - 1]?=some u:=by
  show its.toArray[its.length - 1]?=some u
  rw [<- Array.getElem?_toList,<- hl]
  exact hu
 refine call_meets F.slot_list_pop ⟨_,e,rfl⟩ F.entry_list_pop (F.args_list_pop_1 _) (MeetsSeq.list_pop_last l its.toArray n u hy' (by rw [List.size_toArray]; omega)) ⟨e,?_⟩
 refine ⟨y,_,I.lset (its':=its.dropLast) hH e ?_ r.dropLast ?_,ru,q⟩
 ·show its.toArray.eraseIdxIfInBounds (its.toArray.size - 1)=its.dropLast.toArray
  rw [List.size_toArray,List.eraseIdxIfInBounds_toArray,jhS]
 ·rw [List.length_dropLast]
  omega
def jkT:V->List V->Hp->VK->Prop:=fun x vs H Q=>∃ l xs,x=.ref l/\vs=[]/\H l=some (.lst xs)/\Q .non (upd H l (.lst xs.reverse))
theorem jhT:MtM X "list.reverse" jkT:=by
 intro pins s σ H x vs v us Q I rx rv h
 obtain ⟨l,xs,rfl,rfl,hH,q⟩:=h
 cases rx
 have hus:=rv.zero
 subst hus
 obtain ⟨z,its,n,r,hl,e⟩:=I.lstM hH
 refine call_meets F.slot_list_reverse ⟨_,e,rfl⟩ F.entry_list_reverse (F.args_list_reverse_1 _) (AutoSeq1.list_reverse_list_0 l its.toArray n (by rw [List.size_toArray]; omega)) ⟨e,?_⟩
 refine ⟨.non,_,I.lset (its':=its.reverse) hH e (by simp) r.reverse ?_,rfl,q⟩
 rw [List.length_reverse]
 omega
def rCat:R2:=fun x y H Q=>∃ l b xs zs,x=.ref l/\y=.ref b/\H l=some (.lst xs)/\H b=some (.lst zs)/\xs.length+zs.length<=sizeLine/\∀ p,H p=none->Q (.ref p) (upd H p (.lst (xs++zs)))
theorem joz:OpR X (binaryOp .Add) rCat:=by
 intro pins s σ H x y v u Q I rx ry h
 obtain ⟨l,b,xs,zs,rfl,rfl,hH,hB,hz,q⟩:=h
 cases rx
 cases ry
 obtain ⟨z,its,n,r,hl,e⟩:=I.lstM hH
 obtain ⟨z2,its2,n2,r2,hl2,e2⟩:=I.lstM hB
 refine PySem.P.add_list e e2 ?_ (by rw [List.size_toArray,List.size_toArray]; omega)
 have ea:its.toArray++its2.toArray=(its++its2).toArray:=by simp
 rw [ea]
 exact ⟨.ref _,_,I.lnew (t':=s.toks) (r.append r2) (by rw [List.length_append]; omega),rfl,q _ I.fresh⟩
end
section
variable {prog:Program} {w:World} {A:Around} {E:Value->Shared->Prop} {s:Shared}
set_option maxRecDepth 100000 in
end
section
variable {X:Cx}
end
end L2
namespace Att
open PySem PySem.W PySem.Calls PyProof.Rows
theorem jdL {P:Params} {h:Heap}:∀ (ns:List Int) (vs:List Value),WellAll P h vs (ns.map WData.int)->IntsAre vs ns:=by
 intro ns
 induction ns with
 | nil =>
  intro vs w
  rw [List.map_nil] at w
  cases w
  exact .nil
 | cons n ns ih =>
  intro vs w
  rw [List.map_cons] at w
  cases w with
  | cons a b =>
   cases a
   exact .cons _ _ (ih _ b)
theorem jiG {l:OpenLaw} {n:Nat} (hn:l.most=some n) {P:Params} {h:Heap} {args:List WData} {vals:List Value}
  (hpre:l.row.toRowW.claim.pre args=true) (hwl:WellAll P h vals args) :
  ∃ a vs ns,vals=[Value.ref a]/\args=[WData.list (ns.map WData.int)]/\h.get? a=some {cls:=.type "list",data:=.seq vs.toArray}/\IntsAre vs ns/\ns.length<=n:=by
 have hsh:WShape.hasAll [] args [.list .int]=true:=(pre_splitW hpre).1
 have hc:l.pre.holds [] {args:=args}=true:=(pre_splitW hpre).2
 obtain ⟨d,r,rfl,h1,h2⟩:=hasAllW_cons hsh
 obtain rfl:=hasAllW_nil h2
 obtain ⟨xs,rfl,h3⟩:=hasW_list h1
 obtain ⟨ns,rfl⟩:=items_int h3
 have hlen:ns.length<=n:=by
  unfold OpenLaw.pre at hc
  have h4:(WTm.not (.lt (.lit (.int (n:Int))) (.len (.arg 0)))).holds [] {args:=[.list (ns.map .int)]}=true:=by
   have h4:=(holds_andW hc).1
   rw [hn] at h4
   exact h4
  have h5:=condW_of h4 (w_not (w_lt w_lit (w_len_list (w_arg rfl))))
  rw [List.length_map] at h5
  refine Nat.le_of_not_lt fun q=>?_
  have q':(n:Int) < ((ns.length:Nat):Int):=by omega
  first
   | (rw [decide_eq_true q'] at h5; exact absurd h5 (by decide))
   | (simp at h5; omega)
 cases hwl with
 | cons w1 w2 =>
  cases w2
  cases w1 with
  | list ho hall=>exact ⟨_,_,ns,rfl,rfl,ho,jdL ns _ hall,hlen⟩
theorem jiH (l:OpenLaw) (args:List WData):l.row.toRowW.claim.post args (.bool true) args=true :=
 postW_of (r:=l.row.toRowW) (X:=(true==true))
  (show WShape.has [] (.bool true) .bool=true by first | rfl | decide | simp [WShape.has,WShape.arms,WShape.armsAll])
  (show (WTm.eq .res (.lit (.bool true))).value [] {args:=args,res:=some (.bool true),after:=args}=some (.bool (true==true)) from w_eq_bool (w_res rfl) w_lit) rfl
theorem attach_call {l:OpenLaw} {n:Nat} {q:Program} {loose:List Str} {XP:(Str->Option Value)->Heap->Prop} {YP:World->Heap->Prop} {d:DefRec}
  (hn:l.most=some n) (hdf:d.params.defaults=[])
  (call:∀ (w:World) (s₀ s₁:Shared) (mg mb:Str->Option Value) (fa:Addr) (o:Obj) (pm cd doc:Value) (a:Addr) (vs:List Value) (ns:List Int),
   Ground q loose [] XP w s₀ mg mb s₁.heap->YP w s₁.heap ->
   s₁.heap.get? fa=some o->o.data=.func (docDef d.name d.params d.body d.scope pm cd doc)->s₁.heap.CodeRec cd d.name->mg d.name=some (.ref fa) ->
   s₁.heap.get? a=some {cls:=.type "list",data:=.seq vs.toArray}->IntsAre vs ns->ns.length<=n->s₁.gens=#[] ->
   codeAny (model l.prog w) callerA (.call (.ref fa) ⟨[.ref a],[]⟩) (fun r s'=>r=.ok (.ret (.bool true))/\OldK s₁.heap s'.heap/\s'.os=s₁.os/\AllBare s'.gens) s₁) :
  WalkO q loose XP YP l.row.toRowW d [] (fun f vs=>PySem.call f vs):=by
 intro w s₀ s₁ mg mb G Y fa o pm cd doc dV kV ho hd hcd hD hmg hg args vals as hpre hlay hrd hwl hlo
 obtain rfl:dV=.none:=Dflts.none hD hdf
 obtain rfl:kV=.none:=Dflts.noKw hD
 obtain ⟨a,vs,ns,rfl,rfl,hobj,hints,hlen⟩:=jiG hn hpre hwl
 refine enter_call (codeAny_mono (call w s₀ s₁ mg mb fa o pm cd doc a vs ns G Y ho (fd_plain hd) hcd hmg hobj hints hlen hg) fun r s' hq=>?_)
 obtain ⟨rfl,h2,h3,h4⟩:=hq
 exact ⟨.inl ⟨.bool true,.bool true,[],rfl,fun _=>rfl,.bool true,jiH l _,fun _=>⟨List.Pairwise.nil,fun _ hm=>(nomatch hm)⟩⟩,h2,h3,h4⟩
section
variable {prog:Program} {w:World} {A:Around} {E:Value->Shared->Prop} {s:Shared} {K:Frag}
end
end Att
namespace L2
open PySem PySem.Spec PyProof.Rows
theorem jfv:∀ {vs:List Value} {ns:List Int},IntsAre vs ns->Vals (ns.map V.int) vs
 | _,_,.nil=>.nil
 | _,_,.cons n t h=>.cons ⟨t,rfl⟩ (jfv h)
def Only (H:Hp):Prop:=∀ b,H b=none\/∃ o xs,H b=some (.frz o (.lst xs))
theorem jkU {P:Program} {w:World} {K:PySem.W.Frag} {mg mb:Str->Option Value} {CX:CXT} {k:Nat} {fa a:Addr} {fd:FuncData} {x:Str} {sp:Sp} {s₁:Shared} {vs:List Value} {ns:List Int}
  (KX:K.In s₁.heap) (hns:s₁.heap.Ns mainGlobals mg) (hb:s₁.heap.Ns builtinsNs mb) (hbb:∀ x:Str,x≠"__name__"->mb x=bootBuiltins x) (hlim:s₁.heap.NoLimit) (hg:s₁.gens=#[])
  (ha:s₁.heap.get? a=some {cls:=.type "list",data:=.seq vs.toArray}) (hi:IntsAre vs ns) (hl:ns.length<=sizeLine) (hr:Room k callerA)
  (F:∀ base:Heap,K.In base->base.Ns mainGlobals mg->FnOk P w K mg base CX k fa fd [x] sp) (hbind:∀ (s:Shared) (u:Value),BindsTo s fd ⟨[u],[]⟩ [(x,u)])
  (hsp:∀ H:Hp,Only H->SqL K H a (ns.map V.int)->sp [.ref a] H (fun v _=>v=.bl true) fun _ _ _=>False)
  (hCX:∀ H e s',CX [] H s₁ (fun _ _ _=>False) e s'->False) :
  codeAny (model P w) callerA (.call (.ref fa) ⟨[.ref a],[]⟩) (fun r s'=>r=.ok (.ret (.bool true))/\OldK s₁.heap s'.heap/\s'.os=s₁.os/\AllBare s'.gens) s₁:=by
 have rv:=jfv hi
 have lenV:=hi.length
 have core:∀ H:Hp,Only H->SqL K H a (ns.map V.int)->HOk P w H s₁.heap->(∀ b,H b≠none->b=a)->(H a≠none->K.lookup a=none) ->
   codeAny (model P w) callerA (.call (.ref fa) ⟨[.ref a],[]⟩) (fun r s'=>r=.ok (.ret (.bool true))/\OldK s₁.heap s'.heap/\s'.os=s₁.os/\AllBare s'.gens) s₁:=by
  intro H hO hS hok hA hK
  have base_of:∀ {b:Addr} {o:Obj},s₁.heap.get? b=some o->H b=none->(jkE s₁.heap H).get? b=some o:=fun e n=>jkF e n
  have noA:∀ {b:Addr} {o:Obj} {es:Array DictEntry} {ep:Nat},s₁.heap.get? b=some o->o.data=.dict es ep->H b=none:=fun {b o es ep} e d=>by
   cases q:H b with
   | none=>rfl
   | some u =>
    have e':b=a:=hA b (by rw [q]; simp)
    subst e'
    rw [ha] at e; cases e
    have d':Data.seq vs.toArray _=Data.dict es ep:=d
    cases d'
  have nsK:∀ {b:Addr} {m:Str->Option Value},s₁.heap.Ns b m->(jkE s₁.heap H).Ns b m:=fun {b m} ⟨o,es,ep,e,d,r⟩=>⟨o,es,ep,base_of e (noA e d),d,r⟩
  have hKb:K.In (jkE s₁.heap H):=fun b o e=>base_of (KX b o e) (by
   cases q:H b with
   | none=>rfl
   | some u =>
    have e':b=a:=hA b (by rw [q]; simp)
    subst e'
    rw [hK (by rw [q]; simp)] at e; cases e)
  have hM:Mod K mg (jkE s₁.heap H):=⟨hKb,nsK hns,⟨mb,nsK hb,hbb⟩,let ⟨mc,h1,h2⟩:=hlim; ⟨mc,nsK h1,h2⟩⟩
  have e0:Env0 P w K mg (jkE s₁.heap H) callerA [] s₁ H:=⟨rfl,hM,fun b o e=>jmP e,Nat.le_of_eq (jip _ _),trivial,fun b hb=>absurd (show b∈([]:List Addr) from hb) (by simp),hok,.of_eq hg⟩
  refine codeAny_mono ((F _ hKb (nsK hns)).run callerA [] s₁ H ⟨[.ref a],[]⟩ [.ref a] [.ref a] _ _ hr e0 (hbind s₁ (.ref a)) (.cons rfl .nil) (hsp H hO hS)) fun r s' h=>?_
  cases r with
  | error e=>exact (hCX H e s' h).elim
  | ok fl =>
   cases fl with
   | next=>exact False.elim h
   | brk=>exact False.elim h
   | cont=>exact False.elim h
   | ret u =>
    obtain ⟨v,H',os,bare,un,hok',r',q⟩:=h
    have q':v=.bl true:=q
    subst q'
    obtain rfl:u=Value.bool true:=r'
    refine ⟨rfl,OldK.of_keep fun b o e=>?_,os,bare⟩
    cases q:H b with
    | none=>exact un.keep b o e q (by intro z; exact absurd (show b∈([]:List Addr) from z) (by simp)) (by simp)
    | some u =>
     rcases hO b with z | ⟨ob,xs,z⟩
     ·rw [q] at z; cases z
     ·have z2:=un.frzs b ob _ z
      obtain ⟨e1,_⟩:=hok b _ z
      obtain ⟨e2,_⟩:=hok' b _ z2
      rw [e] at e1; cases e1
      exact e2
 cases hk:K.lookup a with
 | some o =>
  have e:=KX a o hk
  rw [ha] at e
  cases e
  refine core (fun _=>none) (fun _=>.inl rfl) (.inr ⟨_,vs.toArray,_,hk,rfl,rfl,rfl,by rw [List.size_toArray,lenV]; exact hl,by simpa using rv⟩) (fun b u z=>by have z':(none:Option HO)=some u:=z; cases z') (fun b z=>absurd rfl z) fun z=>absurd rfl z
 | none =>
  refine core (fun b=>if b=a then some (.frz {cls:=.type "list",data:=.seq vs.toArray} (.lst (ns.map V.int))) else none) (fun b=>?_) (.inl (.inr ⟨{cls:=.type "list",data:=.seq vs.toArray},if_pos rfl⟩)) (fun b u z=>?_) (fun b z=>?_) fun _=>hk
  ·by_cases hb:b=a
   ·exact .inr ⟨_,_,if_pos hb⟩
   ·exact .inl (if_neg hb)
  ·by_cases hb:b=a
   ·have z':=(if_pos hb).symm.trans z
    cases z'
    subst hb
    exact ⟨ha,by rw [List.length_map]; exact hl,vs,_,rv,ha⟩
   ·have z':=(if_neg hb).symm.trans z
    cases z'
  ·by_cases hb:b=a
   ·exact hb
   ·exact absurd (if_neg hb) z
theorem walk_of {l:PySem.W.OpenLaw} {n k:Nat} {q:Program} {loose:List Str} {XP:(Str->Option Value)->Heap->Prop} {YP:World->Heap->Prop} {d:DefRec} {K:Params->PySem.W.Frag} {CX:World->CXT} {sp:World->Sp} {x:Str}
  (hn:l.most=some n) (hn2:n<=sizeLine) (hdf:d.params.defaults=[]) (hr:Room k callerA)
  (hY:∀ (w:World) (h:Heap),YP w h->(K w.params).In h)
  (F:∀ (w:World) (mg:Str->Option Value) (fa:Addr) (h:Heap),(K w.params).In h->h.Ns mainGlobals mg->mg d.name=some (.ref fa) ->
   ∃ fd:FuncData,(∀ (s:Shared) (u:Value),BindsTo s fd ⟨[u],[]⟩ [(x,u)]) /\
    ∀ base:Heap,(K w.params).In base->base.Ns mainGlobals mg->FnOk l.prog w (K w.params) mg base (CX w) k fa fd [x] (sp w))
  (hsp:∀ (w:World) (H:Hp) (a:Addr) (ns:List Int),ns.length<=n->Only H->SqL (K w.params) H a (ns.map V.int)->sp w [.ref a] H (fun v _=>v=.bl true) fun _ _ _=>False)
  (hCX:∀ (w:World) (H:Hp) (s:Shared) (e:Value) (s':Shared),CX w [] H s (fun _ _ _=>False) e s'->False) :
  PySem.W.WalkO q loose XP YP l.row.toRowW d [] (fun f vs=>PySem.call f vs):=by
 refine Att.attach_call hn hdf fun w s₀ s₁ mg mb fa o pm cd doc a vs ns G Y ho hd hcd hmg hobj hints hlen hg=>?_
 have KX:=hY w _ Y
 obtain ⟨fd,hb,hF⟩:=F w mg fa _ KX G.T.g hmg
 exact jkU KX G.T.g G.T.b G.T.builtins G.T.nolimit hg hobj hints (Nat.le_trans hlen hn2) hr hF hb (fun H hO hS=>hsp w H a ns hlen hO hS) fun H e s'=>hCX w H s₁ e s'
def jbq (s:Stmt) (j:Nat):Stmt:=match s with
 | .ClassDef _ _ _ body _ _ _ _ _ _ _=>body.getD j (.Pass ⟨0,0,0,0⟩)
 | _=>.Pass ⟨0,0,0,0⟩
def jbr (s:Stmt):Arguments:=match s with
 | .FunctionDef _ a _ _ _ _ _ _ _ _=>a
 | _=>{posonlyargs:=[],args:=[],vararg:=none,kwonlyargs:=[],kw_defaults:=[],kwarg:=none,defaults:=[]}
def jaP (s:Stmt):List Stmt:=match s with
 | .FunctionDef _ _ b _ _ _ _ _ _ _=>b
 | _=>[]
def jag (s:Stmt):Scope:=match s with
 | .FunctionDef _ _ _ _ _ _ sc _ _ _=>sc
 | _=>{kind:=.function,names:=[],isGenerator:=false,isCoroutine:=false}
abbrev CX0:CXT:=fun _ _ _ _ _ _=>False
abbrev E0:XK:=fun _ _ _=>False
theorem jaq {X:Cx}:jcw CX0 X E0:=fun _ _ _ _ _ _ _ h=>h.elim
structure Fun (K:PySem.W.Frag) (x qual:Str) (st:Stmt) (f:Addr) (fd:FuncData):Prop where
 ex:∃ (oc:Value) (od:Option Addr) (kV doc pm:Value) (an:Option Addr) (cdv ct:Value) (osl:Array (Option Value)),
  fd=PySem.W.fnOf x qual (jbr st) (jaP st) (jag st) .none kV doc pm an cdv ct/\K.lookup f=some ⟨oc,od,.func fd,osl⟩/\PySem.W.codeIn K cdv qual=true
 kp:PySem.W.keepIn K (.ref f)=true
section
variable {P:Program} {w:World} {K:PySem.W.Frag} {mg:Str->Option Value} {base:Heap}
theorem Fun.ok {x qual:Str} {st:Stmt} {f:Addr} {fd:FuncData} {N ps:List Str} {k:Nat} {sp:Sp} (F:Fun K x qual st f fd) (S:FnScope N ps (jag st)) (len:∀ vs H Q E,sp vs H Q E->vs.length=ps.length)
  (hbody:∀ (cdv:Value) (A:Around) (outer:List Env) (s:Shared) (H:Hp) (vs:List V) (Q:VK) (E:XK),Room k (A.deeper (envOfC qual (jag st) s.heap.objs.size f cdv))->sp vs H Q E ->
   ∃ t,PSs (jhP CX0 P w K mg base N qual (jag st) f cdv A outer s H E).nox (jaP st) t/\t {nx:=fun _ H'=>Q .non H',rt:=Q} (jeh N vs) H):FnOk P w K mg base CX0 (k+1) f fd ps sp:=by
 obtain ⟨oc,od,kV,doc,pm,an,cdv,ct,osl,rfl,lk,hcd⟩:=F.ex
 refine jmX lk hcd S len fun A outer s H vs Q E hr hsp=>?_
 obtain ⟨t,h,q⟩:=hbody cdv A outer s H vs Q E hr hsp
 exact ⟨t,h.nox,q⟩
theorem Fun.binds {x qual:Str} {st:Stmt} {f:Addr} {fd:FuncData} {ps:List Str} (F:Fun K x qual st f fd)
  (h:∀ (kV doc pm:Value) (an:Option Addr) (cdv ct:Value) (us:List Value),us.length=ps.length->bindArgs (PySem.W.fnOf x qual (jbr st) (jaP st) (jag st) .none kV doc pm an cdv ct) ⟨us,[]⟩=pure (ps.zip us)):Binds K fd ps []:=by
 obtain ⟨oc,od,kV,doc,pm,an,cdv,ct,osl,rfl,lk,hcd⟩:=F.ex
 exact .all (h kV doc pm an cdv ct)
theorem fun_mk {x qual:Str} {st:Stmt} {f:Addr} {oc:Value} {od an:Option Addr} {osl:Array (Option Value)} {kV doc pm cdv ct:Value} (l:K.lookup f=some ⟨oc,od,.func (PySem.W.fnOf x qual (jbr st) (jaP st) (jag st) .none kV doc pm an cdv ct),osl⟩)
  (c:PySem.W.codeIn K cdv qual=true) (k:PySem.W.keepIn K (.ref f)=true):Fun K x qual st f (PySem.W.fnOf x qual (jbr st) (jaP st) (jag st) .none kV doc pm an cdv ct):=⟨⟨oc,od,kV,doc,pm,an,cdv,ct,osl,rfl,l,c⟩,k⟩
end
theorem jeC {A:Around} {k:Nat} (hr:Room k A):A.units+1 < cLine:=Nat.lt_of_le_of_lt (Nat.add_le_add_left (by decide:1<=64) _) hr.units
theorem jbf {n:Nat} (h:n<=1000):n < sizeLine:=Nat.lt_of_le_of_lt h (by decide)
section
variable {X:Cx}
theorem pv (i:Nat) {x:Str} {pos:Pos} (hN:X.N[i]?=some x:=by rfl) (hv:Vis X.env.scope x:=by first | exact Or.inl rfl | exact Or.inr (Or.inl rfl) | exact Or.inr (Or.inr rfl)) (hd:(x==("__debug__":Str))=false:=by decide)
  (hcd:(x==("__classdict__":Str))=false:=by decide):PE X (.Name x pos) (jbh i):=jon hN hv hd hcd
end
theorem jbA {A B:Prop} (h:B):if false=true then A else B:=by
 rw [if_neg Bool.false_ne_true]
 exact h
theorem jdx {A B:Prop} (h:A):if true=true then A else B:=by
 rw [if_pos rfl]
 exact h
theorem jiI {c A B:Prop} [Decidable c] (h1:c->A) (h2:¬ c->B):if c then A else B:=by
 by_cases h:c
 ·rw [if_pos h]
  exact h1 h
 ·rw [if_neg h]
  exact h2 h
theorem jnb {c A B:Prop} [Decidable c] (hc:c) (h:B):if (!decide c)=true then A else B:=by
 rw [decide_eq_true hc]
 exact jbA h
def Same (H H':Hp):Prop:=∀ b o,H b=some o->H' b=some o
theorem Same.refl (H:Hp):Same H H:=fun _ _ h=>h
theorem Same.trans {H H1 H2:Hp} (a:Same H H1) (b:Same H1 H2):Same H H2:=fun c o h=>b c o (a c o h)
theorem Same.free {H H':Hp} (e:Same H H') {l:Addr} (h:H' l=Option.none):H l=Option.none:=by
 cases q:H l with
 | none=>rfl
 | some o =>
  rw [e l o q] at h
  cases h
theorem Same.seq {K:PySem.W.Frag} {H H':Hp} {a:Addr} {xs:List V} (e:Same H H') (h:SqL K H a xs):SqL K H' a xs:=by
 rcases h with (h | ⟨o,h⟩) | h
 ·exact .inl (.inl (e _ _ h))
 ·exact .inl (.inr ⟨o,e _ _ h⟩)
 ·exact .inr h
section
variable {κ:Type} [DecidableEq κ]
def jaW (kvs:List (κ×V)) (k:κ):Option V:=(kvs.find? fun kv=>decide (kv.1=k)).map (·.2)
def jcx (kvs:List (κ×V)) (k:κ) (v:V):List (κ×V) :=
 if (kvs.any fun kv=>decide (kv.1=k))=true then kvs.map (fun kv=>if kv.1=k then (kv.1,v) else kv) else kvs++[(k,v)]
theorem jaU {p:κ×V} {r:List (κ×V)} {k:κ} (e:p.1=k):jaW (p::r) k=some p.2:=by simp [jaW,List.find?_cons,e]
theorem jaQ {p:κ×V} {r:List (κ×V)} {k:κ} (e:¬ p.1=k):jaW (p::r) k=jaW r k:=by simp [jaW,List.find?_cons,e]
theorem jco (k:κ):∀ kvs:List (κ×V),(kvs.any fun kv=>decide (kv.1=k))=(jaW kvs k).isSome
 | []=>rfl
 | p::r=>by
  rw [List.any_cons]
  by_cases e:p.1=k
  ·simp only [jaU e,decide_eq_true e,Bool.true_or,Option.isSome_some]
  ·rw [jaQ e,decide_eq_false e,Bool.false_or]; exact jco k r
theorem jgN (k j:κ) (y:V):∀ kvs:List (κ×V),jaW (kvs.map fun kv=>if kv.1=k then (kv.1,y) else kv) j=(jaW kvs j).map fun x=>if j=k then y else x
 | []=>rfl
 | p::r=>by
  have ih:=jgN k j y r
  rw [List.map_cons]
  by_cases h:p.1=k
  ·rw [if_pos h]
   by_cases e:p.1=j
   ·rw [jaU (p:=(p.1,y)) e,jaU e,Option.map_some,if_pos (e.symm.trans h)]
   ·rw [jaQ (p:=(p.1,y)) e,jaQ e,ih]
  ·rw [if_neg h]
   by_cases e:p.1=j
   ·rw [jaU (p:=p) e,jaU e,Option.map_some,if_neg (fun z=>h (e.trans z))]
   ·rw [jaQ (p:=p) e,jaQ e,ih]
theorem jfw (k j:κ) (y:V):∀ kvs:List (κ×V),jaW kvs k=none->jaW (kvs++[(k,y)]) j=if j=k then some y else jaW kvs j
 | [],_=>by
  by_cases e:k=j
  ·rw [if_pos e.symm]; exact jaU (p:=(k,y)) e
  ·rw [if_neg (fun z=>e z.symm)]; exact jaQ (p:=(k,y)) e
 | p::r,hn=>by
  rw [List.cons_append]
  have hk:¬ p.1=k:=fun z=>by rw [jaU z] at hn; cases hn
  rw [jaQ hk] at hn
  have ih:=jfw k j y r hn
  by_cases e:p.1=j
  ·rw [jaU e,jaU e,if_neg (fun z=>hk (e.trans z))]
  ·rw [jaQ e,jaQ e,ih]
theorem jcp (kvs:List (κ×V)) (k j:κ) (y:V):jaW (jcx kvs k y) j=if j=k then some y else jaW kvs j:=by
 unfold jcx
 by_cases a:(kvs.any fun kv=>decide (kv.1=k))=true
 ·rw [if_pos a,jgN]
  rw [jco] at a
  by_cases e:j=k
  ·obtain ⟨x,hx⟩:=Option.isSome_iff_exists.mp a
   rw [if_pos e,e,hx,Option.map_some,if_pos rfl]
  ·rw [if_neg e]
   cases jaW kvs j with
   | none=>rfl
   | some x=>rw [Option.map_some,if_neg e]
 ·rw [if_neg a]
  refine jfw k j y kvs ?_
  rw [jco] at a
  cases q:jaW kvs k with
  | none=>rfl
  | some x=>rw [q] at a; exact (a rfl).elim
theorem jbO (kvs:List (κ×V)) (k:κ) (v:V):(jcx kvs k v).length<=kvs.length+1:=by
 unfold jcx
 split
 ·rw [List.length_map]; omega
 ·rw [List.length_append,List.length_cons,List.length_nil]; omega
theorem jbw {kvs:List (κ×V)} {k:κ} (v:V) (h:jaW kvs k=none):jcx kvs k v=kvs++[(k,v)]:=by
 unfold jcx
 rw [jco,h]
 exact if_neg (by decide)
theorem RelO.isSome_eq {o:Option V} {u:Option Value} (r:RelO o u):o.isSome=u.isSome:=by
 cases o with
 | none=>cases u with
  | none=>rfl
  | some _=>exact (show False from r).elim
 | some _=>cases u with
  | none=>exact (show False from r).elim
  | some _=>rfl
theorem RelO.getD {o:Option V} {u:Option Value} {d:V} {d':Value} (r:RelO o u) (rd:RelV d d'):RelV (o.getD d) (u.getD d'):=by
 cases o with
 | none=>cases u with
  | none=>exact rd
  | some _=>exact (show False from r).elim
 | some _=>cases u with
  | none=>exact (show False from r).elim
  | some _=>exact r
theorem KV.val {kvs:List (κ×V)} {vs:List (κ×Value)} (r:KV kvs vs) (k:κ):RelO (jaW kvs k) (valueAt vs k):=by
 unfold KV at r
 induction r with
 | nil=>exact True.intro
 | @cons p q ps qs h t ih =>
  obtain ⟨h1,h2⟩:=h
  by_cases e:p.1=k
  ·have e':q.1=k:=h1.symm.trans e
   have b:valueAt (q::qs) k=some q.2:=by simp [valueAt,List.find?_cons,e']
   rw [jaU e,b]; exact h2
  ·have e':¬ q.1=k:=fun z=>e (h1.trans z)
   have b:valueAt (q::qs) k=valueAt qs k:=by simp [valueAt,List.find?_cons,e']
   rw [jaQ e,b]; exact ih
theorem KV.any {kvs:List (κ×V)} {vs:List (κ×Value)} (r:KV kvs vs) (k:κ):(kvs.any fun kv=>decide (kv.1=k))=vs.any fun kv=>decide (kv.1=k):=by
 unfold KV at r
 induction r with
 | nil=>rfl
 | cons h t ih=>rw [List.any_cons,List.any_cons,ih,h.1]
theorem KV.repl {kvs:List (κ×V)} {vs:List (κ×Value)} (r:KV kvs vs) (k:κ) {y:V} {u:Value} (ry:RelV y u) :
  KV (kvs.map fun kv=>if kv.1=k then (kv.1,y) else kv) (vs.map fun kv=>if kv.1=k then (kv.1,u) else kv):=by
 unfold KV at r ⊢
 induction r with
 | nil=>exact .nil
 | @cons p q ps qs h t ih =>
  rw [List.map_cons,List.map_cons]
  refine .cons ?_ ih
  obtain ⟨h1,h2⟩:=h
  by_cases e:p.1=k
  ·rw [if_pos e,if_pos (h1.symm.trans e)]; exact ⟨h1,ry⟩
  ·rw [if_neg e,if_neg (fun z=>e (h1.trans z))]; exact ⟨h1,h2⟩
theorem KV.put {kvs:List (κ×V)} {vs:List (κ×Value)} (r:KV kvs vs) (k:κ) {y:V} {u:Value} (ry:RelV y u):KV (jcx kvs k y) (stored vs k u):=by
 unfold jcx stored
 rw [r.any k]
 by_cases e:(vs.any fun kv=>decide (kv.1=k))=true
 ·rw [if_pos e,if_pos e]; exact r.repl k ry
 ·rw [if_neg e,if_neg e]; exact Paired.snoc r ⟨rfl,ry⟩
theorem KV.length {kvs:List (κ×V)} {vs:List (κ×Value)} (r:KV kvs vs):kvs.length=vs.length:=Paired.length r
end
theorem jhU {P:Program} {w:World} {k:Key} {u:Value} (r:RelV (kV k) u):(jaC P w).is k u=true:=by
 cases k with
 | inl i=>obtain ⟨t,e⟩:=(show ∃ t,u=Value.int i t from r); subst e; exact jgd P w i t
 | inr x=>obtain ⟨t,e⟩:=(show ∃ t,u=Value.str x t from r); subst e; exact jge P w x t
theorem jfx {P:Program} {w:World}:∀ {ks:List Key} {us:List Value},Vals (ks.map kV) us->ItemsAre (jaC P w) ks us
 | [],_,r=>by rw [List.map_nil] at r; cases r; exact .nil
 | k::ks,_,r=>by
  rw [List.map_cons] at r
  cases r with
  | cons h t=>exact .cons (jhU h) (jfx t)
abbrev KT (H:Hp):List (List Key×V)->List (List Key×Addr×Value)->Prop:=Paired fun p q=>p.1=q.1/\H q.2.1=some (.tup (p.1.map kV))/\RelV p.2 q.2.2
theorem KT.val {H:Hp} {kvs:List (List Key×V)} {xs:List (List Key×Addr×Value)} (r:KT H kvs xs) (k:List Key):RelO (jaW kvs k) ((atKey xs k).map (·.2)):=by
 induction r with
 | nil=>exact True.intro
 | @cons p q ps qs h t ih =>
  obtain ⟨h1,_,h2⟩:=h
  by_cases e:p.1=k
  ·have e':q.1=k:=h1.symm.trans e
   have b:atKey (q::qs) k=some q.2:=by simp [atKey,List.find?_cons,e']
   rw [jaU e,b]; exact h2
  ·have e':¬ q.1=k:=fun z=>e (h1.trans z)
   have b:atKey (q::qs) k=atKey qs k:=by simp [atKey,List.find?_cons,e']
   rw [jaQ e,b]; exact ih
theorem KT.repl {H:Hp} {kvs:List (List Key×V)} {xs:List (List Key×Addr×Value)} (r:KT H kvs xs) (k:List Key) {y:V} {u:Value} (ry:RelV y u) :
  KT H (kvs.map fun kv=>if kv.1=k then (kv.1,y) else kv) (xs.map (putAt k u)):=by
 induction r with
 | nil=>exact .nil
 | @cons p q ps qs h t ih =>
  rw [List.map_cons,List.map_cons]
  refine .cons ?_ ih
  obtain ⟨h1,h2,h3⟩:=h
  unfold putAt
  by_cases e:p.1=k
  ·rw [if_pos e,if_pos (h1.symm.trans e)]; exact ⟨h1,h2,ry⟩
  ·rw [if_neg e,if_neg (fun z=>e (h1.trans z))]; exact ⟨h1,h2,h3⟩
theorem KT.put {H:Hp} {kvs:List (List Key×V)} {xs:List (List Key×Addr×Value)} (r:KT H kvs xs) (k:List Key) {b:Addr} {y:V} {u:Value} (hb:H b=some (.tup (k.map kV))) (ry:RelV y u) :
  KT H (jcx kvs k y) (storedH xs k b u):=by
 have e:(kvs.any fun kv=>decide (kv.1=k))=(atKey xs k).isSome:=by
  rw [jco,(r.val k).isSome_eq,Option.isSome_map]
 unfold jcx storedH
 rw [e]
 by_cases q:(atKey xs k).isSome=true
 ·rw [if_pos q,if_pos q]; exact r.repl k ry
 ·rw [if_neg q,if_neg q]; exact Paired.snoc r ⟨rfl,hb,ry⟩
theorem KT.keeps {H H':Hp} {kvs:List (List Key×V)} {xs:List (List Key×Addr×Value)} (r:KT H kvs xs) (ht:∀ b ys,H b=some (.tup ys)->H' b=some (.tup ys)):KT H' kvs xs :=
 Paired.mapP r fun _ _ z=>⟨z.1,ht _ _ z.2.1,z.2.2⟩
section
variable {P:Program} {w:World} {H:Hp} {h:Heap} {a:Addr}
theorem joA {u:HO} (ok:HOk P w H h) (e:Rd H a u):ObjOk P w H h a u:=e.ok ok
theorem jeD {kvs:List (Key×V)} (ok:HOk P w H h) (e:Rd H a (.dK kvs)):kvs.length<=sizeLine/\(a==sysModules)=false/\∃ vs,KV kvs vs/\h.DictOf (jaC P w) a vs :=
 show ObjOk P w H h a (.dK kvs) from joA ok e
theorem joB {kvs:List (Key×V)} (ok:HOk P w H h) (e:H a=some (.dK kvs)):kvs.length<=sizeLine/\(a==sysModules)=false/\∃ vs,KV kvs vs/\h.DictOf (jaC P w) a vs:=jeD ok (.inl e)
theorem key_of {ks:List Key} (ok:HOk P w H h) (e:H a=some (.tup (ks.map kV))):(tupleKind (jaC P w)).is h ks a:=by
 obtain ⟨_,its,r,o,h1,h2,n,h3⟩:=(show ObjOk P w H h a (.tup (ks.map kV)) from ok a _ e)
 exact ⟨o,its.toArray,n,h1,h2,h3,by simpa using jfx r⟩
theorem jhV {kvs:List (List Key×V)} (ok:HOk P w H h) (e:Rd H a (.dT kvs)):kvs.length<=sizeLine/\(a==sysModules)=false /\
  ∃ xs,KT H kvs xs/\h.DictOfH (tupleKind (jaC P w)) a xs:=by
 obtain ⟨z,y,xs,r,o,es,ep,h1,h2,h3,h4,h5⟩:=(show ObjOk P w H h a (.dT kvs) from joA ok e)
 refine ⟨z,y,xs,r,o,es,ep,h1,h2,h3,h4,fun x hx=>?_,h5⟩
 have all:∀ {l:List (List Key×V)} {m:List (List Key×Addr×Value)},KT H l m->∀ x∈m,(tupleKind (jaC P w)).is h x.1 x.2.1:=by
  intro l m q
  induction q with
  | nil=>intro x hx; exact nomatch hx
  | @cons p q ps qs hq t ih =>
   intro x hx
   rcases List.mem_cons.mp hx with e | hx
   ·subst e
    exact key_of ok (by rw [<- hq.1]; exact hq.2.1)
   ·exact ih x hx
 exact all r x hx
theorem dt_of {kvs:List (List Key×V)} (ok:HOk P w H h) (e:H a=some (.dT kvs)):kvs.length<=sizeLine/\(a==sysModules)=false /\
  ∃ xs,KT H kvs xs/\h.DictOfH (tupleKind (jaC P w)) a xs:=jhV ok (.inl e)
end
def DGet (H:Hp) (a:Addr) (y:V) (r:Option V):Prop :=
 (∃ kvs k,Rd H a (.dK kvs)/\y=kV k/\r=jaW kvs k)\/∃ kvs k b,Rd H a (.dT kvs)/\y=.ref b/\H b=some (.tup (k.map kV))/\r=jaW kvs k
def DPut (H:Hp) (a:Addr) (y v:V) (H':Hp):Prop :=
 (∃ kvs k,H a=some (.dK kvs)/\y=kV k/\kvs.length < sizeLine/\H'=upd H a (.dK (jcx kvs k v))) \/
 ∃ kvs k b,H a=some (.dT kvs)/\y=.ref b/\H b=some (.tup (k.map kV))/\kvs.length < sizeLine/\H'=upd H a (.dT (jcx kvs k v))
theorem DGet.k {H:Hp} {a:Addr} {kvs:List (Key×V)} {k:Key} (e:H a=some (.dK kvs)):DGet H a (kV k) (jaW kvs k):=.inl ⟨kvs,k,.inl e,rfl,rfl⟩
theorem DPut.k {H:Hp} {a:Addr} {kvs:List (Key×V)} {k:Key} {v:V} (e:H a=some (.dK kvs)) (hl:kvs.length < sizeLine):DPut H a (kV k) v (upd H a (.dK (jcx kvs k v))):=.inl ⟨kvs,k,e,rfl,hl,rfl⟩
section
variable {X:Cx} {pins:List (Addr×Obj)} {σ:St} {H:Hp} {s:Shared} {a:Addr} {y v:V} {u r:Value} {o:Option V} {A:Around} {E:Value->Shared->Prop}
theorem Inv.big (I:Inv X pins σ H s):sysModules < s.heap.objs.size:=by
 have h:mainGlobals < s.heap.objs.size:=(I.mod.glob.keeps I.bk).lt
 exact Nat.lt_trans (by decide) h
theorem jiJ {Q:Value->Shared->Prop} (hu:A.units+1 < cLine) (I:Inv X pins σ H s) (g:DGet H a y (some v)) (ry:RelV y u) (h:∀ w' s',Inv X pins σ H s'->RelV v w'->Q w' s') :
  wpAny (model X.prog X.w) A (getItem (.ref a) u) Q E s:=by
 rcases g with ⟨kvs,k,e,ey,l⟩ | ⟨kvs,k,b,e,ey,eb,l⟩
 ·subst ey
  obtain ⟨z,hd,vs,rel,dd⟩:=jeD I.hok e
  obtain ⟨w',hw,rw'⟩:=RelO.some_of (v:=v) (o:=valueAt vs k) (by rw [l]; exact rel.val k)
  exact wpAny_getItem_of (jhU ry) dd.mapOf hw (h w' _ (I.tok _) rw')
 ·subst ey
  cases (show u=Value.ref b from ry)
  obtain ⟨z,hd,xs,rel,dd⟩:=jhV I.hok e
  obtain ⟨w',hw,rw'⟩:=RelO.some_of (v:=v) (o:=(atKey xs k).map (·.2)) (by rw [l]; exact rel.val k)
  obtain ⟨p,hp,hp2⟩:=Option.map_eq_some_iff.mp hw
  refine wpAny_getItem_heap (tupleKind_room_in1 hu) (key_of I.hok eb) dd hp ?_
  rw [hp2]
  exact h w' _ (I.tok _) rw'
theorem jgn {h':Heap} {t':Nat} {ob:HO} (I:Inv X pins σ H s) (mu:Mut (H a)) (hs:Heap.SameBut a s.heap h') (he:∃ q,h'.get? a=some q) (new:ObjOk X.prog X.w (upd H a ob) h' a ob) :
  Inv X pins σ (upd H a ob) {s with heap:=h',toks:=t'} :=
 I.write (x:=a) (e:=a) mu (.inl rfl) (fun b q hb z=>(hs.2 b hb).trans z) he new
theorem jiK {P:Program} {w:World} {H':Hp} {h':Heap} {kvs:List (Key×V)} {vs:List (Key×Value)} (z:kvs.length<=sizeLine) (hd:(a==sysModules)=false) (rel:KV kvs vs) (dd:h'.DictOf (jaC P w) a vs) :
  ObjOk P w H' h' a (.dK kvs):=⟨z,hd,vs,rel,dd⟩
theorem jiL {H':Hp} {Q:Unit->Shared->Prop} (hu:A.units+1 < cLine) (I:Inv X pins σ H s) (g:DPut H a y v H') (ry:RelV y u) (rv:RelV v r) (h:∀ s',Inv X pins σ H' s'->Q () s') :
  wpAny (model X.prog X.w) A (setItem (.ref a) u r) Q E s:=by
 rcases g with ⟨kvs,k,e,ey,l,eH⟩ | ⟨kvs,k,b,e,ey,eb,l,eH⟩
 ·subst ey eH
  obtain ⟨z,hd,vs,rel,dd⟩:=joB I.hok e
  have hz:vs.length<=sizeLine:=by rw [<- rel.length]; exact z
  have hl:(jcx kvs k v).length<=sizeLine:=by have:=jbO kvs k v; omega
  refine wpAny_setItem_pairs (hsz:=hz) (jhU ry) dd fun h' dd' hs=>h _ ?_
  have he:∃ q,h'.get? a=some q:=let ⟨q,_,_,hq,_⟩:=dd'; ⟨q,hq⟩
  exact jgn I (by rw [e]; exact True.intro) hs he (jiK hl hd (rel.put k rv) dd')
 ·subst ey eH
  cases (show u=Value.ref b from ry)
  obtain ⟨z,hd,xs,rel,dd⟩:=dt_of I.hok e
  have hz:xs.length<=sizeLine:=by rw [<- Paired.length rel]; exact z
  have hl:(jcx kvs k v).length<=sizeLine:=by have:=jbO kvs k v; omega
  refine wpAny_setItem_heap (hsz:=hz) (tupleKind_room_in1 hu) (key_of I.hok eb) dd fun h' dd' hs=>h _ ?_
  obtain ⟨q,es,ep,hq,h2,h3,h4,_,h5⟩:=dd'
  refine jgn I (by rw [e]; exact True.intro) hs ⟨q,hq⟩ ⟨hl,hd,_,(rel.put k eb rv).keeps fun c ys ec=>?_,q,es,ep,hq,h2,h3,h4,h5⟩
  rw [upd_ne (jbj ec e (fun z=>nomatch z))]
  exact ec
end
section
variable {X:Cx} {pins:List (Addr×Obj)} {σ:St} {H:Hp} {s:Shared} {a:Addr} {kvs:List (Key×V)} {k:Key} {u:Value} {A:Around} {E:Value->Shared->Prop}
theorem jnc {Q:Value->Shared->Prop} (I:Inv X pins σ H s) (e:H a=some (.dK kvs)) (h:∀ s',Inv X pins σ (upd H a (.dK [])) s'->Q .none s'):wpAny (model X.prog X.w) A (call (.builtin "dict.clear") [.ref a]) Q E s:=by
 obtain ⟨z,hd,vs,rel,dd⟩:=joB I.hok e
 refine call_meetsIn PySem.F.slot_dict_clear dd.typeIs PySem.F.entry_dict_clear (PySem.F.args_dict_clear_1 _) (meets_dict_clear (jaC X.prog X.w) a) ⟨vs,dd,by rw [<- rel.length]; exact z,fun h' dd' hs=>h _ ?_⟩
 have he:∃ q,h'.get? a=some q:=let ⟨q,_,_,hq,_⟩:=dd'; ⟨q,hq⟩
 exact jgn (t':=s.toks) I (by rw [e]; exact True.intro) hs he (jiK (Nat.zero_le _) hd .nil dd')
end
def NoSl (i:Expr):Prop:=∀ ov iv,subscripted i false ov iv=operate [ov,iv] (getItem ov iv)
theorem subD_of {prog:Program} {w:World} {A:Around} {E:Value->Shared->Prop} {s:Shared} {env:Env} {value slice:Expr} {pos:Pos} {T id:String} {Q:Value->Shared->Prop}
  (hl:typeLookup (.type T) "__getitem__"=pure (some (.builtin id))) (hs:NoSl slice)
  (h:wpAny (model prog w) A (eval value env) (fun o s₁=>wpAny (model prog w) A (eval slice env) (fun i s₂=>s₂.TypeIs o T/\wpAny (model prog w) A (getItem o i) Q E s₂) E s₁) E s) :
  wpAny (model prog w) A (eval (.Subscript value slice pos) env) Q E s:=by
 refine Subscript_ (wpAny_mono h (fun o s₁ h₁=>wpAny_mono h₁ (fun i s₂ h₂=>?_) fun _ _ x=>x) fun _ _ x=>x)
 obtain ⟨hT,h₂⟩:=h₂
 unfold subscriptTail
 refine wpAny_bind ?_
 rw [getitemInPython_of_ne hT.not_modules]
 refine wpAny_bind (wpAny_specialOf hT hl ?_)
 have fin:wpAny (model prog w) A (subscripted slice false o i) (fun r s₃=>wpAny (model prog w) A (letTemporaryGo value o r>>=fun _=>pure r) Q E s₃) E s₂:=by
  rw [hs o i]
  exact wpAny_operating (wpAny_mono h₂ (fun r s₃ h₃=>wpAny_bind (wpAny_letTemporaryGo (wpAny_pure h₃))) fun _ _ x=>x)
 first
  | exact wpAny_pure (wpAny_bind fin)
  | exact wpAny_bind (wpAny_pure (wpAny_bind fin))
  | exact wpAny_bind fin
theorem jgo {X:Cx} {pins:List (Addr×Obj)} {σ:St} {H:Hp} {s:Shared} {a:Addr} {y:V} {o:Option V} (I:Inv X pins σ H s) (g:DGet H a y o):s.TypeIs (.ref a) "dict":=by
 rcases g with ⟨kvs,k,e,_,_⟩ | ⟨kvs,k,b,e,_,_,_⟩
 ·obtain ⟨_,_,vs,_,dd⟩:=jeD I.hok e
  exact dd.typeIs
 ·obtain ⟨_,_,xs,_,dd⟩:=jhV I.hok e
  exact dd.typeIs
def tDGet (td ty:TE):TE:=fun σ H Q=>td σ H fun x H1=>ty σ H1 fun y H2=>∃ a v,x=.ref a/\DGet H2 a y (some v)/\Q v H2
def joC (td ty tv:TE):TS:=fun D σ H=>tv σ H fun v H1=>td σ H1 fun x H2=>ty σ H2 fun y H3=>∃ a H4,x=.ref a/\DPut H3 a y v H4/\D.nx σ H4
section
variable {X:Cx} {o i e value:Expr} {pos pos' tpos:Pos} {td ty tv:TE}
theorem jiM (hu:X.A.units+1 < cLine) (ho:PE X o td) (hi:PE X i ty) (hs:NoSl i):PE X (.Subscript o i pos) (tDGet td ty):=by
 intro pins s σ H Q I h
 refine subD_of PySem.F.slot_dict_getitem.lookup hs (thn (ho pins s σ H _ I h) fun u s1 ⟨x,H1,I1,rx,q1⟩=>thn (hi pins s1 σ H1 _ I1 q1) fun iv s2 ⟨y,H2,I2,ry,a,v,ex,g,q2⟩=>?_)
 subst ex
 obtain rfl:u=Value.ref a:=rx
 exact ⟨jgo I2 g,jiJ hu I2 g ry fun w' s3 I3 rw'=>⟨v,H2,I3,rw',q2⟩⟩
theorem jca (hu:X.A.units+1 < cLine) (ho:PE X o td) (hi:PE X i ty) (hv:PE X value tv) (hs:swapsWith value (some (.Subscript o i pos')) pos.line X.env=pure false) :
  PS X (.Assign [.Subscript o i pos'] value pos) (joC td ty tv):=by
 intro pins s σ H D I h
 refine wpAny_Assign_Subscript (thn (hv pins s σ H _ I h) fun r s1 ⟨v,H1,I1,rv,q1⟩=>thn (ho pins s1 σ H1 _ I1 q1) fun u s2 ⟨x,H2,I2,rx,q2⟩=>thn (hi pins s2 σ H2 _ I2 q2) fun iv s3 ⟨y,H3,I3,ry,a,H4,ex,g,q3⟩=>?_) hs
 subst ex
 obtain rfl:u=Value.ref a:=rx
 exact jiL hu I3 g ry rv fun s4 I4=>⟨σ,H4,I4,q3⟩
end
theorem jkV {P:Program} {w:World} {H:Hp} (h:Heap) (hb:sysModules < h.objs.size):ObjOk P w H (h.push {cls:=.type "dict",data:=.dict #[]}) h.objs.size (.dK []) :=
 ⟨Nat.zero_le _,beq_eq_false_iff_ne.mpr (Ne.symm (Nat.ne_of_lt hb)),[],.nil,Heap.DictOf.new h⟩
def joD:TE:=fun _ H Q=>∀ p,H p=none->Q (.ref p) (upd H p (.dK []))
section
variable {X:Cx} {pos:Pos}
theorem jcq:PE X (.Dict [] [] pos) joD:=fun pins s σ H Q I h =>
 wpAny_Dict_empty ⟨.ref s.heap.objs.size,_,I.laid (a:=s.heap.objs.size) (o:=.dK []) (t':=s.toks) (fun _ _ q=>Heap.get?_push_of_some _ q) (Nat.le_refl _) (jkV s.heap I.big),rfl,h _ (I.hok.fresh (Nat.le_refl _))⟩
end
structure M1 (X:Cx) (o:Expr) (m:Str) (apos:Pos) (e:Expr) (cpos:Pos):Prop where
 base:attributeBase o m X.env (eval o X.env)=eval o X.env
 few:((backTo cpos (starEach [e] X.env)).all (fun x=>!x.1)&&(backToKw cpos (keywordEach [] X.env)).all (fun x=>x.1.isSome)
  && decide (([e]:List Expr).length+([]:List Keyword).length+(if ([]:List Keyword).isEmpty then 0 else 1) < 30))=true
 line:(apos.endLine==cpos.line)=true
 trees:backTo cpos (starEach [e] X.env)=[(false,eval e X.env)]
structure M2 (X:Cx) (o:Expr) (m:Str) (apos:Pos) (e f:Expr) (cpos:Pos):Prop where
 base:attributeBase o m X.env (eval o X.env)=eval o X.env
 few:((backTo cpos (starEach [e,f] X.env)).all (fun x=>!x.1)&&(backToKw cpos (keywordEach [] X.env)).all (fun x=>x.1.isSome)
  && decide (([e,f]:List Expr).length+([]:List Keyword).length+(if ([]:List Keyword).isEmpty then 0 else 1) < 30))=true
 line:(apos.endLine==cpos.line)=true
 trees:backTo cpos (starEach [e,f] X.env)=[(false,eval e X.env),(false,eval f X.env)]
def IsD (H:Hp) (a:Addr):Prop:=(∃ kvs,Rd H a (.dK kvs))\/∃ kvs,Rd H a (.dT kvs)
theorem jmc {X:Cx} {pins:List (Addr×Obj)} {σ:St} {H:Hp} {s:Shared} {a:Addr} (I:Inv X pins σ H s) (d:IsD H a) :
  s.TypeIs (.ref a) "dict"/\(∀ b,Value.ref a=.ref b->∃ ob,s.heap.get? b=some ob/\ob.dict=none)/\(a==sysModules)=false:=by
 rcases d with ⟨kvs,e⟩ | ⟨kvs,e⟩
 ·obtain ⟨_,hd,vs,_,dd⟩:=jeD I.hok e
  refine ⟨dd.typeIs,fun b q=>?_,hd⟩
  cases q
  obtain ⟨ob,_,_,h1,h2,_⟩:=dd
  exact ⟨ob,h1,h2.2.1⟩
 ·obtain ⟨_,hd,xs,_,dd⟩:=jhV I.hok e
  refine ⟨dd.typeIs,fun b q=>?_,hd⟩
  cases q
  obtain ⟨ob,_,_,h1,h2,_⟩:=dd
  exact ⟨ob,h1,h2.2.1⟩
section
variable {X:Cx} {pins:List (Addr×Obj)} {σ:St} {H:Hp} {s:Shared} {a:Addr} {y d:V} {u r:Value} {o:Option V} {A:Around} {E:Value->Shared->Prop}
theorem joE {Q:Value->Shared->Prop} (hu:A.units+1 < cLine) (I:Inv X pins σ H s) (g:DGet H a y o) (ry:RelV y u) (h:∀ w' s',Inv X pins σ H s'->RelV (o.getD .non) w'->Q w' s') :
  wpAny (model X.prog X.w) A (call (.builtin "dict.get") [.ref a,u]) Q E s:=by
 rcases g with ⟨kvs,k,e,ey,l⟩ | ⟨kvs,k,b,e,ey,eb,l⟩
 ·subst ey
  obtain ⟨z,hd,vs,rel,dd⟩:=jeD I.hok e
  refine call_meetsIn PySem.F.slot_dict_get dd.typeIs PySem.F.entry_dict_get (PySem.F.args_dict_get_2 _ _) (meets_dict_get (jaC X.prog X.w) a (jhU ry) hd) ⟨_,dd.mapOf,h _ _ (I.tok _) ?_⟩
  rw [l]
  exact (rel.val k).getD rfl
 ·subst ey
  cases (show u=Value.ref b from ry)
  obtain ⟨z,hd,xs,rel,dd⟩:=jhV I.hok e
  refine call_meetsIn PySem.F.slot_dict_get dd.typeIs PySem.F.entry_dict_get (PySem.F.args_dict_get_2 _ _) (meetsH_dict_get (tupleKind (jaC X.prog X.w)) a b hd) ⟨tupleKind_room_in1 hu,k,xs,key_of I.hok eb,dd,h _ _ (I.tok _) ?_⟩
  rw [l]
  exact (rel.val k).getD rfl
theorem joF {Q:Value->Shared->Prop} (hu:A.units+1 < cLine) (I:Inv X pins σ H s) (g:DGet H a y o) (ry:RelV y u) (rd:RelV d r) (h:∀ w' s',Inv X pins σ H s'->RelV (o.getD d) w'->Q w' s') :
  wpAny (model X.prog X.w) A (call (.builtin "dict.get") [.ref a,u,r]) Q E s:=by
 rcases g with ⟨kvs,k,e,ey,l⟩ | ⟨kvs,k,b,e,ey,eb,l⟩
 ·subst ey
  obtain ⟨z,hd,vs,rel,dd⟩:=jeD I.hok e
  refine call_meetsIn PySem.F.slot_dict_get dd.typeIs PySem.F.entry_dict_get (PySem.F.args_dict_get_3 _ _ _) (meets_dict_get_default (jaC X.prog X.w) a (jhU ry) hd r) ⟨_,dd.mapOf,h _ _ (I.tok _) ?_⟩
  rw [l]
  exact (rel.val k).getD rd
 ·subst ey
  cases (show u=Value.ref b from ry)
  obtain ⟨z,hd,xs,rel,dd⟩:=jhV I.hok e
  refine call_meetsIn PySem.F.slot_dict_get dd.typeIs PySem.F.entry_dict_get (PySem.F.args_dict_get_3 _ _ _) (meetsH_dict_get_default (tupleKind (jaC X.prog X.w)) a b hd r) ⟨tupleKind_room_in1 hu,k,xs,key_of I.hok eb,dd,h _ _ (I.tok _) ?_⟩
  rw [l]
  exact (rel.val k).getD rd
end
def jmd (td ty:TE):TE:=fun σ H Q=>td σ H fun x H1=>∃ a,x=.ref a/\IsD H1 a/\ty σ H1 fun y H2=>∃ o,DGet H2 a y o/\Q (o.getD .non) H2
def joG (td ty tx:TE):TE:=fun σ H Q=>td σ H fun x H1=>∃ a,x=.ref a/\IsD H1 a/\ty σ H1 fun y H2=>tx σ H2 fun z H3=>∃ o,DGet H3 a y o/\Q (o.getD z) H3
section
variable {X:Cx} {o e f:Expr} {apos cpos:Pos} {td ty tx:TE}
theorem jkW (hu:X.A.units+1 < cLine) (ho:PE X o td) (he:PE X e ty) (m:M1 X o "get" apos e cpos):PE X (.Call (.Attribute o "get" apos) [e] [] cpos) (jmd td ty):=by
 intro pins s σ H Q I h
 refine wpAny_Call_method m.base m.few m.line PySem.F.plainAttrs_dict PySem.F.slot_dict_get PySem.F.type_dict_get (thn (ho pins s σ H _ I h) fun u s1 ⟨x,H1,I1,rx,a,ex,d,q1⟩=>?_)
 subst ex
 obtain rfl:u=Value.ref a:=rx
 obtain ⟨t1,t2,_⟩:=jmc I1 d
 refine ⟨t1,t2,?_⟩
 rw [m.trees]
 refine Calls.callWith_builtin rfl (Calls.evalArgs_plain (Calls.spliced_cons (thn (he pins s1 σ H1 _ I1 q1) fun iv s2 ⟨y,H2,I2,ry,ov,g,q2⟩=>Calls.spliced_nil ?_)))
 exact joE hu I2 g ry fun w' s3 I3 rw'=>⟨_,H2,I3,rw',q2⟩
theorem jgO (hu:X.A.units+1 < cLine) (ho:PE X o td) (he:PE X e ty) (hf:PE X f tx) (m:M2 X o "get" apos e f cpos):PE X (.Call (.Attribute o "get" apos) [e,f] [] cpos) (joG td ty tx):=by
 intro pins s σ H Q I h
 refine wpAny_Call_method m.base m.few m.line PySem.F.plainAttrs_dict PySem.F.slot_dict_get PySem.F.type_dict_get (thn (ho pins s σ H _ I h) fun u s1 ⟨x,H1,I1,rx,a,ex,d,q1⟩=>?_)
 subst ex
 obtain rfl:u=Value.ref a:=rx
 obtain ⟨t1,t2,_⟩:=jmc I1 d
 refine ⟨t1,t2,?_⟩
 rw [m.trees]
 refine Calls.callWith_builtin rfl (Calls.evalArgs_plain (Calls.spliced_cons (thn (he pins s1 σ H1 _ I1 q1) fun iv s2 ⟨y,H2,I2,ry,q2⟩ =>
  Calls.spliced_cons (thn (hf pins s2 σ H2 _ I2 q2) fun fv s3 ⟨z,H3,I3,rz,ov,g,q3⟩=>Calls.spliced_nil ?_))))
 exact joF hu I3 g ry rz fun w' s4 I4 rw'=>⟨_,H3,I4,rw',q3⟩
end
section
variable {X:Cx} {pins:List (Addr×Obj)} {σ:St} {H:Hp} {s:Shared} {a:Addr} {kvs:List (Key×V)} {A:Around} {E:Value->Shared->Prop}
theorem jkX {Q:Value->Shared->Prop} (I:Inv X pins σ H s) (e:Rd H a (.dK kvs)) (h:∀ p s',H p=none->Inv X pins σ (upd H p (.dK kvs)) s'->Q (.ref p) s'):wpAny (model X.prog X.w) A (call (.type "dict") [.ref a]) Q E s:=by
 obtain ⟨z,hd,vs,rel,dd⟩:=jeD I.hok e
 refine kt_call_dict hd dd (by rw [<- rel.length]; exact z) fun h' dd' hs=>?_
 refine h _ _ (I.hok.fresh (Nat.le_refl _)) (I.laid (a:=s.heap.objs.size) (o:=.dK kvs) (t':=s.toks) (fun b q hq=>?_) (Nat.le_refl _) (jiK z (beq_eq_false_iff_ne.mpr (Ne.symm (Nat.ne_of_lt I.big))) rel dd'))
 exact (hs.2 b (Nat.ne_of_lt (Heap.lt_size hq))).trans (Heap.get?_push_of_some _ hq)
end
section
variable {X:Cx} {pins:List (Addr×Obj)} {σ:St} {H:Hp} {s:Shared} {a:Addr} {y:V} {u:Value} {A:Around} {E:Value->Shared->Prop}
end
section
variable {X:Cx}
end
section
variable {κ:Type} [DecidableEq κ]
theorem jkY {kvs:List (κ×V)} {k:κ} (h:jaW kvs k=none):¬ k∈kvs.map (·.1):=by
 intro m
 obtain ⟨p,hp,e⟩:=List.mem_map.mp m
 have q:(kvs.any fun kv=>decide (kv.1=k))=true:=List.any_eq_true.mpr ⟨p,hp,decide_eq_true e⟩
 rw [jco,h] at q
 exact absurd q (by simp)
theorem jiN:∀ {l:List κ} {k:κ},l.Nodup->¬ k∈l->(l++[k]).Nodup
 | [],k,_,_=>by simp
 | a::r,k,h,hk=>by
  obtain ⟨h1,h2⟩:=List.nodup_cons.mp h
  show (a::(r++[k])).Nodup
  refine List.nodup_cons.mpr ⟨fun m=>?_,jiN h2 fun m=>hk (List.mem_cons.mpr (Or.inr m))⟩
  rcases List.mem_append.mp m with q | q
  ·exact h1 q
  ·exact hk (List.mem_cons.mpr (Or.inl (List.mem_singleton.mp q).symm))
theorem jiO {kvs:List (κ×V)} {k:κ} (v:V) (hn:(kvs.map (·.1)).Nodup) (h:jaW kvs k=none):((jcx kvs k v).map (·.1)).Nodup:=by
 rw [jbw v h,List.map_append]
 exact jiN hn (jkY h)
end
theorem jdc {env:Env}:∀ (names:List (Str×NameKind)) (acc:List (Str×Addr)),(∀ y∈names,y.2=.free->∃ c,env.cells.lookup y.1=some c)->(∀ n c,acc.lookup n=some c->env.cells.lookup n=some c) ->
  ∃ cl,(forIn names acc (fun (p:Str×NameKind) (cs:List (Str×Addr))=>(match p with | (name,kind)=>if (kind==NameKind.free)=true then do let c <- cellOf env name; pure (ForInStep.yield ((name,c)::cs)) else pure (ForInStep.yield cs):Sem (ForInStep (List (Str×Addr))))))=pure cl /\
   (∀ n c,cl.lookup n=some c->env.cells.lookup n=some c)/\(∀ n,(acc.lookup n).isSome=true->(cl.lookup n).isSome=true)/\(∀ y∈names,y.2=.free->(cl.lookup y.1).isSome=true)
 | [],acc,_,ha=>⟨acc,rfl,ha,fun _ h=>h,fun _ h=>nomatch h⟩
 | (n,k)::r,acc,hf,ha=>by
  by_cases hk:k=.free
  ·subst hk
   obtain ⟨c,hc⟩:=hf (n,.free) List.mem_cons_self rfl
   obtain ⟨cl,e,h1,h2,h3⟩:=jdc (env:=env) r ((n,c)::acc) (fun y hy=>hf y (List.mem_cons_of_mem _ hy)) (fun m d hd=>by
    rw [List.lookup_cons] at hd
    split at hd
    ·rename_i he
     rw [<- hd,<- hc,eq_of_beq he]
    ·exact ha m d hd)
   refine ⟨cl,?_,h1,fun m hm=>h2 m ?_,fun y hy hyk=>?_⟩
   ·rw [List.forIn_cons]
    show ((if (NameKind.free==NameKind.free)=true then do let c <- cellOf env n; pure (ForInStep.yield ((n,c)::acc)) else pure (ForInStep.yield acc))>>=_)=_
    rw [if_pos (show (NameKind.free==NameKind.free)=true from rfl)]
    have ec:cellOf env n=pure c:=by unfold cellOf; rw [hc]
    rw [ec,pure_bind,pure_bind]
    exact e
   ·rw [List.lookup_cons]; split
    ·rfl
    ·exact hm
   ·rcases List.mem_cons.mp hy with rfl | hy
    ·exact h2 n (by rw [List.lookup_cons]; simp)
    ·exact h3 y hy hyk
  ·obtain ⟨cl,e,h1,h2,h3⟩:=jdc (env:=env) r acc (fun y hy=>hf y (List.mem_cons_of_mem _ hy)) ha
   refine ⟨cl,?_,h1,h2,fun y hy hyk=>?_⟩
   ·rw [List.forIn_cons]
    show ((if (k==NameKind.free)=true then do let c <- cellOf env n; pure (ForInStep.yield ((n,c)::acc)) else pure (ForInStep.yield acc))>>=_)=_
    rw [if_neg (by simpa using hk),pure_bind]
    exact e
   ·rcases List.mem_cons.mp hy with rfl | hy
    ·exact absurd hyk hk
    ·exact h3 y hy hyk
theorem jep {env:Env} {scope:Scope} (h:∀ y∈scope.names,y.2=.free->∃ c,env.cells.lookup y.1=some c):∃ cl,closureFor scope env=pure cl /\
   (∀ n c,cl.lookup n=some c->env.cells.lookup n=some c)/\(∀ y∈scope.names,y.2=.free->∃ c,cl.lookup y.1=some c):=by
 obtain ⟨cl,e,h1,_,h3⟩:=jdc (env:=env) scope.names [] h (fun _ _ z=>by cases z)
 refine ⟨cl,?_,h1,fun y hy hk=>Option.isSome_iff_exists.mp (h3 y hy hk)⟩
 unfold closureFor
 show (forIn scope.names ([]:List (Str×Addr)) _>>=_)=_
 refine (congrArg (fun m=>m>>=fun (cs:List (Str×Addr))=>(pure cs:Sem _)) e).trans ?_
 exact pure_bind _ _
section
variable {prog:Program} {w:World} {A:Around} {R:Result->Shared->Prop} {s:Shared}
abbrev FF:Value->Shared->Prop:=fun _ _=>False
theorem toF {α:Type} {M:Model} {A:Around} {t:Sem α} {Q Q':α->Shared->Prop} {E:Value->Shared->Prop} {s:Shared} (h:wpAny M A t Q FF s) (hQ:∀ a s,Q a s->Q' a s):wpAny M A t Q' E s:=wpAny_mono h hQ fun _ _ x=>x.elim
theorem comp_loop {elt target iter:Expr} {ifs:List Expr} {scope:Scope} {pos:Pos} {it acc:Value} {env:Env} (I:Nat->Shared->Prop)
  (turn:∀ n s,I n s->wpAny (model prog w) A (pyNext it) (fun r s₁=>match r with
   | none=>R (.ok .next) s₁
   | some v=>wpAny (model prog w) A (letOwnedTupleGo target it v) (fun _ s₁'=>wpAny (model prog w) A (assign target env v) (fun _ s₂ =>
     wpAny (model prog w) A (forIn ifs true fun c r=>if r=true then do let ok <- isTrue c env (eval c env); pure (ForInStep.yield ok) else pure (ForInStep.yield r)) (fun ok s₃ =>
      if ok=true then wpAny (model prog w) A (eval elt env) (fun x s₄ =>
       wpAny (model prog w) A (call (.builtin "list.append") [acc,x]) (fun _ s₅=>∃ m,m < n/\I m s₅) FF s₄) FF s₃
      else ∃ m,m < n/\I m s₃) FF s₂) FF s₁') FF s₁) FF s)
  (n:Nat) (h:I n s):codeAny (model prog w) A (.compLoop (.ListComp elt [⟨target,iter,ifs,0⟩] scope pos) 0 it acc env) R s:=by
 refine codeAny_loop rfl I (fun n s hI=>?_) n h
 show wpAny _ A ((compTurn (.ListComp elt [⟨target,iter,ifs,0⟩] scope pos) 0 it acc env).onRaise (fun x=>do noteFrame x env; theTreesLotGoes x)) _ _ s
 refine wpAny_noted ?_
 rw [compTurn_list]
 refine wpAny_bind (wpAny_standAt (wpAny_bind (toF (turn n s hI) fun r s₁ h₁=>?_)))
 cases r with
 | none=>exact wpAny_pure h₁
 | some v =>
  refine wpAny_bind (toF h₁ fun _ s₁' h₁'=>?_)
  refine wpAny_bind (toF h₁' fun _ s₂ h₂=>wpAny_bind (toF h₂ fun ok s₃ h₃=>?_))
  cases ok with
  | false=>exact wpAny_pure ⟨rfl,h₃⟩
  | true =>
   exact wpAny_bind (wpAny_bind (toF h₃ fun x s₄ h₄=>wpAny_bind (toF h₄ fun _ s₅ h₅=>wpAny_pure (wpAny_pure ⟨rfl,h₅⟩))))
end
def CapOk (X:Cx) (scope:Scope):List (Nat×Str)->Prop
 | []=>True
 | p::r=>(X.N[p.1]?=some p.2/\X.env.scope.names.lookup p.2=some .cell/\scope.names.lookup p.2=some .free)/\CapOk X scope r
structure CompScope (X:Cx) (scope:Scope) (x:Str) (cp:List (Nat×Str)):Prop where
 kind:scope.kind=.function
 hx:scope.names.lookup x=some .local
 nd:(x::cp.map (·.2)).Nodup
 names:∀ y∈scope.names,y.2=.local->scope.names.lookup y.1=some .local
 nocell:∀ y∈scope.names,y.2≠.cell
 free:∀ y∈scope.names,y.2=.free->X.env.scope.names.lookup y.1=some .cell
 cap:CapOk X scope cp
def jdo (X:Cx) (scope:Scope) (cl:List (Str×Addr)) (C:Addr) (N:List Str) (s:Shared) (H:Hp) (fp:List Addr):Cx where
 prog:=X.prog
 w:=X.w
 K:=X.K
 mg:=X.mg
 base:=X.base
 A:=X.A
 N:=N
 s₀:=s
 H₀:=H
 env:=compEnvC scope cl C X.env
 outer:=X.stack
 stack:=X.stack
 ex:=fp
 fn:=fun _=>false
 calm:=X.calm
 pn:=[]
 xe:=FF
def jim (σ:St) (cp:List (Nat×Str)):St:=cp.map fun p=>(σ[p.1]?).join
theorem jkZ (σ:St) (cp:List (Nat×Str)):(jim σ cp).length=cp.length:=List.length_map _
theorem CapOk.get {X:Cx} {scope:Scope}:∀ {cp:List (Nat×Str)} {i:Nat} {p:Nat×Str},CapOk X scope cp->cp[i]?=some p->X.N[p.1]?=some p.2/\X.env.scope.names.lookup p.2=some .cell/\scope.names.lookup p.2=some .free
 | [],_,_,_,h=>by simp at h
 | _::_,0,_,hc,h=>by simp at h; subst h; exact hc.1
 | _::r,i+1,p,hc,h=>CapOk.get (cp:=r) (i:=i) hc.2 (by simpa using h)
theorem jcb {scope:Scope} {env:Env} {y:Str} {k:NameKind}:(relabel scope env).names.lookup y=some k->∃ k0,scope.names.lookup y=some k0/\(k=k0\/(k0=.free/\k=.cell)):=by
 unfold relabel
 show (scope.names.map _).lookup y=some k->_
 generalize scope.names=l
 induction l with
 | nil=>intro h; cases h
 | cons p r ih =>
  obtain ⟨n,q⟩:=p
  intro h
  by_cases hc:(q==NameKind.free&&env.scope.kind==.function&&env.kindOf n==some .cell)=true
  ·have e:(List.map (fun (x:Str×NameKind)=>if (x.2==NameKind.free&&env.scope.kind==.function&&env.kindOf x.1==some .cell)=true then (x.1,NameKind.cell) else (x.1,x.2)) ((n,q)::r))=(n,.cell)::List.map (fun (x:Str×NameKind)=>if (x.2==NameKind.free&&env.scope.kind==.function&&env.kindOf x.1==some .cell)=true then (x.1,NameKind.cell) else (x.1,x.2)) r:=by
    rw [List.map_cons]; dsimp only; rw [if_pos hc]
   have h':=e▸h
   rw [List.lookup_cons] at h' ⊢
   split at h'
   ·rename_i he
    simp only [Bool.and_eq_true,beq_iff_eq] at hc
    exact ⟨q,rfl,.inr ⟨hc.1.1,(Option.some.inj h').symm⟩⟩
   ·rename_i he
    exact ih h'
  ·have e:(List.map (fun (x:Str×NameKind)=>if (x.2==NameKind.free&&env.scope.kind==.function&&env.kindOf x.1==some .cell)=true then (x.1,NameKind.cell) else (x.1,x.2)) ((n,q)::r))=(n,q)::List.map (fun (x:Str×NameKind)=>if (x.2==NameKind.free&&env.scope.kind==.function&&env.kindOf x.1==some .cell)=true then (x.1,NameKind.cell) else (x.1,x.2)) r:=by
    rw [List.map_cons]; dsimp only; rw [if_neg hc]
   have h':=e▸h
   rw [List.lookup_cons] at h' ⊢
   split at h'
   ·rename_i he
    exact ⟨q,rfl,.inl (Option.some.inj h').symm⟩
   ·rename_i he
    exact ih h'
section
variable {X:Cx} {pins:List (Addr×Obj)} {σ:St} {H:Hp} {s:Shared}
theorem Inv.adopt {D:Addr} {o:HO} (I:Inv X pins σ H s) (hn:H D=none) (hL:D≠X.env.locals) (h1:X.s₀.heap.objs.size<=D) (h2:∀ x c,X.env.cells.lookup x=some c->c≠D) (h3:∀ p∈X.pn++pins,p.1≠D)
  (new:ObjOk X.prog X.w (upd H D o) s.heap D o):Inv X pins σ (upd H D o) s:=by
 have nit:∀ b u,H b=some u->b≠D:=fun b u e z=>by rw [z,hn] at e; cases e
 have:=I.step (h':=s.heap) (H':=upd H D o) (g':=s.gens) (d':=s.drawn) (t':=s.toks) (ch:=[D]) (fun b hb=>?_) (fun b o _ _ hc e _=>e) (fun b o _ _ hc e _=>⟨o.slots,e⟩)
  (fun b o hc e n=>by rw [upd_ne (fun z=>hc (by simp [z]))]; exact n) (fun b o hc e=>⟨o,e⟩) (fun b xs e=>by rw [upd_ne (nit b _ e)]; exact e) (fun b o u e=>by rw [upd_ne (nit b _ e)]; exact e)
  (fun b ps e=>⟨#[],by rw [upd_ne (nit b _ e),e]; simp⟩) (fun m hm=>hm) (fun b u e=>?_) I.bare
 ·exact this
 ·have e:b=D:=by simpa using hb
  subst e
  exact ⟨.inr h1,hL,h2,h3⟩
 ·by_cases hb:b=D
  ·subst hb; rw [jab] at e; cases e; exact new
  ·rw [upd_ne hb] at e
   exact (I.hok b u e).stay (fun _ _ _ q=>q) (fun c q=>by rw [upd_ne (nit c _ q)]; exact q) fun c xs q=>by rw [upd_ne (nit c _ q)]; exact q
theorem jhW {scope:Scope} {x:Str} {cp:List (Nat×Str)} {cl:List (Str×Addr)} {C:Addr} {h1:Heap} {fp:List Addr} {m:Str->Option Value} {tk:Nat}
  (S:CompScope X scope x cp) (I:Inv X pins σ H s) (hcl:∀ n c,cl.lookup n=some c->X.env.cells.lookup n=some c) (hfr:∀ y∈scope.names,y.2=.free->∃ c,cl.lookup y.1=some c)
  (hf:∀ b∈fp,jgg X pins H b) (hC:s.heap.objs.size<=C) (hfp:∀ b∈fp,b < s.heap.objs.size) (hns:h1.Ns C m) (hk:∀ b o,s.heap.get? b=some o->h1.get? b=some o) :
  Inv (jdo X scope cl C (x::cp.map (·.2)) s H fp) pins (none::jim σ cp) H {s with heap:=h1,toks:=tk}:=by
 have lt:∀ n c,cl.lookup n=some c->c < s.heap.objs.size:=fun n c e=>by
  obtain ⟨v,q⟩:=I.cell n c (hcl n c e)
  exact q.lt
 refine ⟨⟨I.ok.mod,S.kind,I.ok.glob,I.ok.blt,hC,fun y z c e1 e2=>I.ok.inj y z c (hcl y c e1) (hcl z c e2),fun y hy=>?_,(fun y c z=>by cases z),I.ok.hd,I.ok.frames,.inl rfl,fun b hb=>⟨?_,fun y c e=>?_⟩,I.bs,
   Nat.le_trans I.ok.bsz I.sz,fun b o e hb=>?_,fun b hb=>?_,I.stack,I.stkFree⟩,rfl,I.bare,Un.kept hk,⟨m,hns,fun i y v e1 e2 e3=>?_⟩,fun y c e=>?_,?_,fun y c e=>?_,fun p hp=>?_,I.hok.kept hk,?_⟩
 ·have hy':(relabel scope X.env).names.lookup y=some .cell\/(relabel scope X.env).names.lookup y=some .free:=hy
  rcases hy' with q | q
  ·obtain ⟨k0,e,z | ⟨z,_⟩⟩:=jcb q
   ·exact absurd z.symm (S.nocell (y,k0) (PySem.mem_of_lookup e))
   ·exact hfr (y,k0) (PySem.mem_of_lookup e) z
  ·obtain ⟨k0,e,z | ⟨_,z⟩⟩:=jcb q
   ·exact hfr (y,k0) (PySem.mem_of_lookup e) z.symm
   ·cases z
 ·exact Nat.ne_of_lt (Nat.lt_of_lt_of_le (hfp b hb) hC)
 ·obtain ⟨_,_,_,_,q,_⟩:=hf b hb
  exact q y c (hcl y c e)
 ·obtain ⟨_,_,_,q,_⟩:=hf b hb
  rcases q with q | q
  ·exact I.ok.noex b o e q
  ·exact absurd (Nat.lt_of_lt_of_le (Heap.lt_size (I.ok.bs b o e).1) q) (Nat.lt_irrefl _)
 ·obtain ⟨_,q1,q2,_⟩:=hf b hb
  intro z
  rcases List.mem_cons.mp (I.stkSub b z) with e | e
  ·exact q1 e
  ·exact q2 e
 ·cases i with
  | zero=>cases e2
  | succ i =>
   have e1':(cp.map (·.2))[i]?=some y:=e1
   have e2':(jim σ cp)[i]?=some (some v):=e2
   unfold jim at e2'
   rw [List.getElem?_map] at e1' e2'
   cases ep:cp[i]? with
   | none=>rw [ep] at e1'; cases e1'
   | some p =>
    rw [ep] at e1' e2'
    have ey:p.2=y:=Option.some.inj e1'
    have ev:(σ[p.1]?).join=some v:=Option.some.inj e2'
    obtain ⟨c1,c2,c3⟩:=S.cap.get ep
    subst ey
    have eσ:σ[p.1]?=some (some v):=by
     cases q:σ[p.1]? with
     | none=>rw [q] at ev; cases ev
     | some z=>rw [q] at ev; have:z=some v:=ev; rw [this]
    obtain ⟨mm,_,hl⟩:=I.loc
    obtain ⟨u,r,l⟩:=hl p.1 p.2 v c1 eσ (.inr (.inl c2))
    refine ⟨u,r,?_⟩
    rcases l with ⟨z,_⟩ | ⟨_,c,ec,hc⟩
    ·have z':X.env.scope.names.lookup p.2=some .local:=z
     rw [c2] at z'; cases z'
    ·obtain ⟨c',ec'⟩:=hfr (p.2,.free) (PySem.mem_of_lookup c3) rfl
     have:=hcl _ _ ec'
     rw [ec] at this; cases this
     have k:(compEnvC scope cl C X.env).kindOf p.2=some .cell\/(compEnvC scope cl C X.env).kindOf p.2=some .free:=by
      rcases e3 with z | z | z
      ·have z':(relabel scope X.env).names.lookup p.2=some .local:=z
       obtain ⟨k0,e,zz | ⟨_,zz⟩⟩:=jcb z'
       ·rw [c3] at e; cases e; cases zz
       ·cases zz
      ·exact .inl z
      ·exact .inr z
     obtain ⟨oc,hoc,hod⟩:=hc
     exact .inr ⟨k,c,ec',oc,hk c oc hoc,hod⟩
 ·obtain ⟨v,oc,hoc,hod⟩:=I.cell y c (hcl y c e)
  exact ⟨v,oc,hk c oc hoc,hod⟩
 ·exact I.hok.fresh hC
 ·exact I.freeC y c (hcl y c e)
 ·have hp':p∈pins:=hp
  obtain ⟨e,n,n1,n2,d⟩:=I.pin p (List.mem_append_right _ hp')
  refine ⟨hk _ _ e,n,Nat.ne_of_lt (Nat.lt_of_lt_of_le (Heap.lt_size e) hC),fun z=>?_,d⟩
  rcases List.mem_cons.mp (I.stkSub _ z) with q | q
  ·exact n1 q
  ·exact n2 q
 ·show (none::jim σ cp).length=(x::cp.map (·.2)).length
  rw [List.length_cons,List.length_cons,jkZ,List.length_map]
end
def PTs (X:Cx) (ifs:List Expr) (t:TT):Prop :=
 ∀ (pins:List (Addr×Obj)) (s:Shared) (σ:St) (H:Hp) (Q:Bool->Hp->Prop),Inv X pins σ H s->t σ H Q ->
  wpAny (model X.prog X.w) X.A (forIn ifs true fun c r=>if r=true then do let ok <- isTrue c X.env (eval c X.env); pure (ForInStep.yield ok) else pure (ForInStep.yield r)) (TP X pins σ Q) X.xe s
def tAlways:TT:=fun _ H Q=>Q true H
theorem jcc {X:Cx}:PTs X [] tAlways:=fun _ _ _ H _ I h=>wpAny_tests_nil ⟨H,I,h⟩
theorem jiP {X:Cx} {c:Expr} {t:TT} (h:PT X c t):PTs X [c] t:=fun pins s σ H Q I q=>wpAny_tests_one (h pins s σ H Q I q)
def jhX (J:It) (cv:St) (tt:TT) (te:TE) (END:List V->Hp->Prop) (H1:Hp):Prop :=
 ∃ W:Nat->Nat->List V->Hp->Prop,(∃ m,W 0 m [] H1)/\∀ i m ys H2,W i m ys H2 ->
  (J.stop i H2/\ys.length<=sizeLine/\END ys H2) \/
  (J.go i H2/\ys.length < sizeLine/\∀ v H3,J.yld i H2 v H3->∃ (N:V->Hp->Prop) (N':Hp->Prop),(∀ y H5,N y H5->∃ m',m' < m/\W (i+1) m' (ys++[y]) H5)/\(∀ H4,N' H4->∃ m',m' < m/\W (i+1) m' ys H4) /\
   tt (some v::cv) H3 fun b H4=>if b=true then te (some v::cv) H4 N else N' H4)
section
variable {X:Cx} {pins:List (Addr×Obj)} {σ:St} {H:Hp} {s:Shared} {scope:Scope} {x:Str} {cp:List (Nat×Str)} {px pos:Pos} {elt iter:Expr} {ifs:List Expr} {tt:TT} {te:TE}
theorem jeq {cl:List (Str×Addr)} {it:Addr} {fp:List Addr} {tn:Nat->Heap->Prop} {J:It} {END:List V->Hp->Prop} {E:Value->Shared->Prop} {RR:Value->Addr->Result->Shared->Prop}
  (S:CompScope X scope x cp) (hc:X.calm=true) (I:Inv X pins σ H s) (hcl:∀ n c,cl.lookup n=some c->X.env.cells.lookup n=some c) (hfr:∀ y∈scope.names,y.2=.free->∃ c,cl.lookup y.1=some c)
  (T:Turn X.prog X.w X.K (.Name x px) J fp it tn) (st:tn 0 s.heap) (hf:∀ b∈fp,jgg X pins H b)
  (ht:∀ cl C s H fp,PTs (jdo X scope cl C (x::cp.map (·.2)) s H fp) ifs tt) (he:∀ cl C s H fp,PE (jdo X scope cl C (x::cp.map (·.2)) s H fp) elt te)
  (hw:jhX J (jim σ cp) tt te END H)
  (hRR:∀ D C s' ys H2 o,Inv X (pins++[(C,o)]) σ (upd H2 D (.lst ys)) s'->(∃ m,∀ h:Heap,h.get? C=some o->h.Ns C m)->H2 D=none->END ys H2->(∀ H',H' C=none->jgg X pins H' C)->RR (.ref D) C (.ok .next) s') :
  wpAny (model X.prog X.w) X.A (newList []) (fun acc s₃=>wpAny (model X.prog X.w) X.A (newFunctionEnv scope X.env.globals cl [] X.env.qual none .none (some X.env)) (fun cenv s₄ =>
   codeAny (model X.prog X.w) X.A (.compStart (.ListComp elt [⟨.Name x px,iter,ifs,0⟩] scope pos) 0 (.ref it) acc {cenv with scope:=relabel scope X.env}) (RR acc cenv.locals) s₄) E s₃) E s:=by
 refine wpAny_newObj_type (wpAny_newFunctionEnv S.nocell (by intro y hy; simp at hy) (fun h₁ hns₁ hsb₁=>?_) S.kind)
 dsimp only at hns₁ hsb₁ ⊢
 generalize hH2:s.heap.push {cls:=.type "list",dict:=none,data:=.seq ([]:List Value).toArray}=G at hns₁ hsb₁ ⊢
 have hC:G.objs.size=s.heap.objs.size+1:=by rw [<- hH2,Heap.size_push]
 have hDC:s.heap.objs.size≠G.objs.size:=by rw [hC]; exact Nat.ne_of_lt (Nat.lt_succ_self _)
 have hCle:s.heap.objs.size<=G.objs.size:=by rw [hC]; exact Nat.le_succ _
 have below:∀ b,b < s.heap.objs.size->b≠G.objs.size:=fun b hb=>by rw [hC]; exact Nat.ne_of_lt (Nat.lt_succ_of_lt hb)
 have old:∀ b o,s.heap.get? b=some o->h₁.get? b=some o:=fun b o e=>hsb₁.extBut b o (below b (Heap.lt_size e)) (Heap.get?_push_of_some _ (hH2▸Heap.get?_push_of_some _ e))
 have hacc:h₁.PlainList s.heap.objs.size #[]:=⟨_,hsb₁.extBut _ _ hDC (Heap.get?_push_of_some _ (hH2▸Heap.get?_push_size _ rfl))⟩
 have hfp:∀ b∈fp,b < s.heap.objs.size:=fun b hb=>by
  obtain ⟨o,e,_⟩:=T.obj 0 s.heap st b hb
  exact Heap.lt_size e
 have st₁:tn 0 h₁:=T.keep _ _ _ st fun b _ o e=>old b o e
 generalize hDe:s.heap.objs.size=D at *
 generalize hCe:G.objs.size=C at *
 have I₁:=jhW (tk:=s.toks+([]:List (Str×Value)).length) (C:=C) S I hcl hfr hf (by rw [hDe]; exact hCle) (by rw [hDe]; exact hfp) hns₁ old
 generalize hX':jdo X scope cl C (x::cp.map (·.2)) s H fp=X' at I₁
 have eP:X'.prog=X.prog:=by rw [<- hX']; rfl
 have eW:X'.w=X.w:=by rw [<- hX']; rfl
 have eK:X'.K=X.K:=by rw [<- hX']; rfl
 have eA:X'.A=X.A:=by rw [<- hX']; rfl
 have eV:X'.env=compEnvC scope cl C X.env:=by rw [<- hX']; rfl
 have eX:X'.xe=FF:=by rw [<- hX']; rfl
 have eC:X'.calm=true:=by rw [<- hX']; exact hc
 have ht':=ht cl C s H fp
 have he':=he cl C s H fp
 rw [hX'] at ht' he'
 have hN:X'.N.Nodup:=by rw [<- hX']; exact S.nd
 have hg:PG X' (.Name x px) (jfj 0):=jaB hN (by rw [<- hX']; rfl) (by rw [<- hX']; exact .inl (lookup_relabel_local S.hx)) (.inr (by rw [<- hX']; exact lookup_relabel_local S.hx))
 have fL:X'.env.locals=C:=by rw [eV]; rfl
 have fpD:∀ H':Hp,H' D=none->jgg X' pins H' D:=fun H' hn=>by
  refine ⟨hn,by rw [fL]; exact hDC,fun z=>?_,.inr (by rw [<- hX',<- hDe]; exact Nat.le_refl _),fun y c e z=>?_,fun p hp z=>?_⟩
  ·rw [<- hX'] at z
   obtain ⟨_,o,ho,_⟩:=I.stack.mem z
   exact absurd (Heap.lt_size ho) (by rw [hDe]; exact Nat.lt_irrefl _)
  ·rw [eV] at e
   obtain ⟨v,q⟩:=I.cell y c (hcl y c e)
   exact absurd q.lt (by rw [z,hDe]; exact Nat.lt_irrefl _)
  ·have hp':p∈pins:=by rw [<- hX'] at hp; exact hp
   exact absurd (Heap.lt_size (I.pin p (List.mem_append_right _ hp')).1) (by rw [z,hDe]; exact Nat.lt_irrefl _)
 have fpF:∀ (pl:List (Addr×Obj)) (H':Hp),(∀ b∈fp,H' b=none)->(∀ p∈pl,p∈pins\/p.1=D)->∀ b∈fp,jgg X' pl H' b:=fun pl H' hn hpl b hb=>by
  obtain ⟨_,f1,f2,f3,f4,f5⟩:=hf b hb
  refine ⟨hn b hb,by rw [fL]; exact below b (hfp b hb),fun z=>?_,.inl (by rw [<- hX']; exact hb),fun y c e=>f4 y c (hcl y c (by rw [eV] at e; exact e)),fun p hp z=>?_⟩
  ·rw [<- hX'] at z
   rcases List.mem_cons.mp (I.stkSub b z) with q | q
   ·exact f1 q
   ·exact f2 q
  ·have hp':p∈pl:=by rw [<- hX'] at hp; exact hp
   rcases hpl p hp' with q | q
   ·exact f5 p (List.mem_append_right _ q) z
   ·have:=hfp b hb
    rw [<- z,q] at this
    exact absurd this (Nat.lt_irrefl _)
 obtain ⟨W,⟨m0,w0⟩,turn⟩:=hw
 have loop:∀ s₃:Shared,s₃={s with heap:=h₁,toks:=s.toks+([]:List (Str×Value)).length} ->
   codeAny (model X.prog X.w) X.A (.compLoop (.ListComp elt [⟨.Name x px,iter,ifs,0⟩] scope pos) 0 (.ref it) (.ref D) (compEnvC scope cl C X.env)) (RR (.ref D) C) s₃:=by
  rintro s₃ rfl
  refine comp_loop (fun n s'=>∃ i ys us ox H',Inv X' pins (ox::jim σ cp) H' s'/\tn i s'.heap/\(∀ b∈fp,H' b=none)/\s'.heap.PlainList D us.toArray/\Vals ys us/\H' D=none/\W i n ys H') ?_ m0
   ⟨0,[],[],none,H,I₁,st₁,fun b hb=>(hf b hb).1,hacc,.nil,I.hok.fresh (by rw [hDe]; exact Nat.le_refl _),w0⟩
  rintro n s3 ⟨i,ys,us,ox,H3,I3,st3,fr3,pl3,v3,n3,w3⟩
  obtain ⟨nD,oD⟩:=pl3
  have I3p:Inv X' (pins++[((D,{cls:=.type "list",data:=.seq us.toArray nD}):Addr×Obj)]) (ox::jim σ cp) H3 s3:=I3.pins_of fun p hp=>by
   rcases List.mem_append.mp hp with z | z
   ·exact I3.pin p (List.mem_append_right _ z)
   ·have e:p=((D,{cls:=.type "list",data:=.seq us.toArray nD}):Addr×Obj):=by simpa using z
    subst e
    obtain ⟨f0,f1,f2,_⟩:=fpD H3 n3
    exact ⟨oD,f0,f1,f2,fun v z=>by cases z⟩
  have plOk:∀ p∈pins++[((D,{cls:=.type "list",data:=.seq us.toArray nD}):Addr×Obj)],p∈pins\/p.1=D:=fun p hp=>by
   rcases List.mem_append.mp hp with z | z
   ·exact .inl z
   ·have e:p=((D,{cls:=.type "list",data:=.seq us.toArray nD}):Addr×Obj):=by simpa using z
    subst e
    exact .inr rfl
  have dPin:∀ {pl:List (Addr×Obj)} {σ':St} {H':Hp} {s':Shared},Inv X' ((pins++[((D,{cls:=.type "list",data:=.seq us.toArray nD}):Addr×Obj)])++pl) σ' H' s'->s'.heap.get? D=some {cls:=.type "list",data:=.seq us.toArray nD}/\H' D=none:=fun I'=>by
   obtain ⟨e,n,_⟩:=I'.pin (D,_) (List.mem_append_right _ (List.mem_append_left _ (List.mem_append_right _ (List.mem_singleton.mpr rfl))))
   exact ⟨e,n⟩
  rcases turn i n ys H3 w3 with ⟨stop,hl,hend⟩ | ⟨go,hl,step⟩
  ·refine thn (eA▸T.done X' eP eW eK eC i _ s3 _ H3 FF I3p (fpF _ H3 fr3 plOk) st3 stop) fun r s4 ⟨hr,I4⟩=>?_
   subst hr
   obtain ⟨e4,n4⟩:=dPin (pl:=[]) (by rw [List.append_nil]; exact I4)
   have I4':Inv X' pins (ox::jim σ cp) H3 s4:=I4.unpinned
   have un:Un (frs X.stack) fp H H3 s.heap s4.heap:=by
    have:=I4'.base
    rw [<- hX'] at this
    exact this
   have os4:s4.os=s.os:=by
    have:=I4'.os
    rw [<- hX'] at this
    exact this
   have J4:Inv X pins σ H3 s4:=I.call' (ch:=fp) os4 un (by have:=I4'.hok; rw [eP,eW] at this; exact this) I4'.bare fun b hb=>by
    obtain ⟨_,f1,f2,f3,f4,f5⟩:=hf b hb
    exact ⟨f3,f1,f4,f5⟩
   obtain ⟨mC,hnsC,_⟩:=I4'.loc
   rw [fL] at hnsC
   obtain ⟨oC,esC,epC,hoC,hdC,rC⟩:=hnsC
   have fpC:∀ H',H' C=none->jgg X pins H' C:=fun H' hn=>I.fpOk (by rw [hDe]; exact hCle) hn
   have nC:H3 C=none:=by have:=I4'.free; rw [fL] at this; exact this
   have J5:Inv X (pins++[(C,oC)]) σ H3 s4:=J4.pins_of fun p hp=>by
    rcases List.mem_append.mp hp with z | z
    ·exact J4.pin p (List.mem_append_right _ z)
    ·have e:p=(C,oC):=by simpa using z
     subst e
     obtain ⟨f0,f1,f2,_⟩:=fpC H3 nC
     exact ⟨hoC,f0,f1,f2,fun v z=>by rw [hdC] at z; cases z⟩
   have fD:jgg X pins H3 D:=I.fpOk (by rw [hDe]; exact Nat.le_refl _) n4
   refine hRR D C s4 ys H3 oC (J5.adopt n4 fD.2.1 (Nat.le_trans I.sz (by rw [hDe]; exact Nat.le_refl _)) fD.2.2.2.2.1 (fun p hp=>?_) ⟨hl,us,nD,v3,e4⟩) ⟨mC,fun h q=>⟨oC,esC,epC,q,hdC,rC⟩⟩ n4 hend fpC
   rcases List.mem_append.mp hp with z | z
   ·exact fD.2.2.2.2.2 p (List.mem_append_left _ z)
   ·rcases List.mem_append.mp z with z | z
    ·exact fD.2.2.2.2.2 p (List.mem_append_right _ z)
    ·have e:p=(C,oC):=by simpa using z
     subst e
     exact Ne.symm hDC
  ·refine thn (eA▸T.item X' eP eW eK eC i _ s3 _ H3 FF I3p (fpF _ H3 fr3 plOk) st3 go) fun r s4 ⟨u,hr,h4⟩=>?_
   subst hr
   refine thn h4 fun _ s5 ⟨v,H5,I5,r5,y5,st5,fr5⟩=>?_
   have I5':=I5.pinned (fpF _ H5 fr5 plOk) (T.obj _ _ st5)
   obtain ⟨N,N',hNn,hNn',q5⟩:=step v H5 y5
   have hgo:=hg _ s5 _ H5 v u (fun σ' H'=>σ'=some v::jim σ cp/\H'=H5) I5' r5 ⟨rfl,rfl⟩
   rw [eP,eW,eA,eX,eV] at hgo
   refine thn hgo fun _ s6 ⟨σ6,H6,I6,e6,e6'⟩=>?_
   subst e6 e6'
   have hto:=ht' _ s6 _ H6 _ I6 q5
   rw [eP,eW,eA,eX,eV] at hto
   refine thn hto fun b s7 ⟨H7,I7,q7⟩=>?_
   have keepTn:∀ {σ':St} {H':Hp} {s':Shared},Inv X' ((pins++[((D,{cls:=.type "list",data:=.seq us.toArray nD}):Addr×Obj)])++jfk fp s5.heap) σ' H' s'->tn (i+1) s'.heap/\∀ b∈fp,H' b=none:=fun I' =>
    ⟨T.keep _ _ _ st5 fun b hb o e=>(I'.pin (b,o) (List.mem_append_right _ (List.mem_append_right _ (jcn hb e)))).1,fun b hb=>by
     obtain ⟨o,e,d⟩:=T.obj _ _ st5 b hb
     exact (I'.pin (b,o) (List.mem_append_right _ (List.mem_append_right _ (jcn hb e)))).2.1⟩
   cases b with
   | false =>
    rw [if_neg (by decide)] at q7 ⊢
    obtain ⟨m',hm,w7⟩:=hNn' _ q7
    obtain ⟨e7,n7⟩:=dPin I7
    obtain ⟨t7,f7⟩:=keepTn I7
    exact ⟨m',hm,i+1,ys,us,some v,H7,I7.unpinned.unpinned,t7,f7,⟨nD,e7⟩,v3,n7,w7⟩
   | true =>
    rw [if_pos rfl] at q7 ⊢
    have heo:=he' _ s7 _ H7 _ I7 q7
    rw [eP,eW,eA,eX,eV] at heo
    refine thn heo fun y s8 ⟨y8,H8,I8,r8,q8⟩=>?_
    obtain ⟨e8,n8⟩:=dPin I8
    obtain ⟨t8,f8⟩:=keepTn I8
    obtain ⟨m',hm,w8⟩:=hNn _ _ q8
    refine wpAny_list_append_plain ⟨nD,e8⟩ (fun h9 p9 sb9=>?_) (by rw [List.size_toArray,<- v3.length]; exact Nat.le_of_lt hl)
    obtain ⟨g0,g1,g2,g3,g4,g5⟩:=fpD H8 n8
    have I9:Inv X' pins (some v::jim σ cp) H8 {s8 with heap:=h9}:=I8.unpinned.unpinned.turned (t':=s8.toks) (fun b o hb e=>(sb9.2 b hb).trans e) g0 g1 g3 g4 g5
    refine ⟨m',hm,i+1,ys++[y8],us++[y],some v,H8,I9,T.keep _ _ _ t8 fun b hb o e=>?_,f8,?_,v3.snoc r8,n8,w8⟩
    ·refine (sb9.2 b ?_).trans e
     have:=hfp b hb
     intro z
     rw [z] at this
     exact absurd this (Nat.lt_irrefl _)
    ·have:(us++[y]).toArray=us.toArray.push y:=by simp
     rw [this]
     exact p9
 exact codeAny_compStart_list (loop _ rfl) (T.self _ 0 _ _ _ st₁ (loop _ rfl))
end
section
variable {X:Cx} {scope:Scope} {x:Str} {cp:List (Nat×Str)} {px pos:Pos} {elt iter:Expr} {ifs:List Expr} {tt:TT} {te:TE} {wi:TI}
def joH (wi:TI) (cp:List (Nat×Str)) (tt:TT) (te:TE):TE:=fun σ H Q=>wi σ H fun J H1=>jhX J (jim σ cp) tt te (fun ys H2=>∀ p,H2 p=none->Q (.ref p) (upd H2 p (.lst ys))) H1
theorem jcB (S:CompScope X scope x cp) (hc:X.calm=true) (hi:PI X (.Name x px) iter wi)
  (ht:∀ cl C s H fp,PTs (jdo X scope cl C (x::cp.map (·.2)) s H fp) ifs tt) (he:∀ cl C s H fp,PE (jdo X scope cl C (x::cp.map (·.2)) s H fp) elt te)
  (hs:∀ v,foldedSetIterable iter X.env v=pure v:=by intro _; rfl):PE X (.ListComp elt [⟨.Name x px,iter,ifs,0⟩] scope pos) (joH wi cp tt te):=by
 intro pins s σ H Q I h
 rw [eval_ListComp]
 obtain ⟨cl,ec,hcl,hfr⟩:=jep (env:=X.env) (scope:=scope) fun y hy hk=>I.ok.has y.1 (.inl (S.free y hy hk))
 refine wpAny_comprehension_free (use:=none) rfl hs ec S.kind S.names (thn (hi pins s σ H _ I h) fun v s1 h1=>thn h1 fun itv s2 h2=>?_)
 obtain ⟨it,fp,tn,J,H2,e,I2,T,st2,f2,hw⟩:=h2
 subst e
 refine jeq (RR:=fun acc C=>compPost (model X.prog X.w) X.A X.xe none (EP X pins σ Q) acc C) S hc I2 hcl hfr T st2 f2 ht he hw ?_
 intro D C s' ys H3 o I3 hm nD hend fC
 obtain ⟨m,hm⟩:=hm
 obtain ⟨e3,n3,_⟩:=I3.pin (C,o) (List.mem_append_right _ (List.mem_append_right _ (List.mem_singleton.mpr rfl)))
 refine ⟨m,hm _ e3,fun h' sb=>?_⟩
 obtain ⟨f0,f1,f2',f3,f4,f5⟩:=fC _ n3
 exact ⟨.ref D,upd H3 D (.lst ys),I3.unpinned.turned (t':=s'.toks) (fun b o hb e=>(sb.2 b hb).trans e) f0 f1 f3 f4 f5,rfl,hend D nD⟩
theorem jdd {i:Nat} {y:Str} {py spos:Pos} (hN:X.N.Nodup) (hi':X.N[i]?=some y) (hy:X.env.scope.names.lookup y=some .local) (S:CompScope X scope x cp) (hc:X.calm=true) (hi:PI X (.Name x px) iter wi)
  (ht:∀ cl C s H fp,PTs (jdo X scope cl C (x::cp.map (·.2)) s H fp) ifs tt) (he:∀ cl C s H fp,PE (jdo X scope cl C (x::cp.map (·.2)) s H fp) elt te)
  (hsw:swapsWith (.ListComp elt [⟨.Name x px,iter,ifs,0⟩] scope pos) (some (.Name y py)) spos.line X.env=pure true:=by rfl)
  (hs:∀ v,foldedSetIterable iter X.env v=pure v:=by intro _; rfl):PS X (.Assign [.Name y py] (.ListComp elt [⟨.Name x px,iter,ifs,0⟩] scope pos) spos) (joq (joH wi cp tt te) (jfj i)):=by
 intro pins s σ H D I h
 rw [exec_Assign_Name_used _ _ _ _ hsw]
 refine wpAny_bind (wpAny_standAt (wpAny_bind ?_))
 show wpAny _ X.A (do let _ <- comprehension (.ListComp elt [⟨.Name x px,iter,ifs,0⟩] scope pos) scope X.env _ (newList []) false (eval iter X.env) (some (assign (.Name y py) X.env))) _ _ s
 obtain ⟨cl,ec,hcl,hfr⟩:=jep (env:=X.env) (scope:=scope) fun y hy hk=>I.ok.has y.1 (.inl (S.free y hy hk))
 refine wpAny_bind (wpAny_mono (wpAny_comprehension_free (use:=some (assign (.Name y py) X.env)) (Q:=fun _ s'=>SP X pins D .next s') rfl hs ec S.kind S.names
  (thn (hi pins s σ H _ I h) fun v s1 h1=>thn h1 fun itv s2 h2=>?_)) (fun _ s' hq=>wpAny_pure (wpAny_pure hq)) fun _ _ e=>e)
 obtain ⟨it,fp,tn,J,H2,e,I2,T,st2,f2,hw⟩:=h2
 subst e
 refine jeq (RR:=fun acc C=>compPost (model X.prog X.w) X.A X.xe (some (assign (.Name y py) X.env)) (fun _ s'=>SP X pins D .next s') acc C) S hc I2 hcl hfr T st2 f2 ht he hw ?_
 intro D' C s' ys H3 o I3 hm nD hend fC
 obtain ⟨m,hm⟩:=hm
 show wpAny _ X.A (assign (.Name y py) X.env (.ref D')) _ _ _
 refine wpAny_assign_Name (store_ok I3 hN hi' (.inl hy) (v:=.ref D') rfl (fun s4 I4=>?_) (.inr hy))
 obtain ⟨e3,n3,_⟩:=I4.pin (C,o) (List.mem_append_right _ (List.mem_append_right _ (List.mem_singleton.mpr rfl)))
 refine ⟨m,hm _ e3,fun h' sb=>?_⟩
 obtain ⟨f0,f1,f2',f3,f4,f5⟩:=fC _ n3
 exact ⟨_,upd H3 D' (.lst ys),I4.unpinned.turned (t':=s4.toks) (fun b o hb e=>(sb.2 b hb).trans e) f0 f1 f3 f4 f5,hend D' nD⟩
theorem jcd {K:PySem.W.Frag} {a:Addr} {xs:List V} {cv:St} {te:TE} {END:List V->Hp->Prop} {H:Hp} (Pv:Nat->List V->Hp->Prop) (h0:Pv 0 [] H) (hl:∀ i ys H,i<=xs.length->Pv i ys H->SqL K H a xs/\ys.length<=i) (hz:xs.length<=sizeLine)
  (hs:∀ i x ys H,xs[i]?=some x->Pv i ys H->te (some x::cv) H fun y H5=>Pv (i+1) (ys++[y]) H5) (hd:∀ ys H,Pv xs.length ys H->END ys H):jhX (Itl K a) cv tAlways te END H:=by
 refine ⟨fun i m ys H=>m=xs.length - i/\i<=xs.length/\Pv i ys H,⟨xs.length,by simp,Nat.zero_le _,h0⟩,?_⟩
 rintro i m ys H ⟨rfl,hi,p⟩
 obtain ⟨q,hy⟩:=hl i ys H hi p
 by_cases hlt:i < xs.length
 ·refine .inr ⟨⟨xs,xs[i],q,by simp [hlt]⟩,by omega,fun v H' y=>?_⟩
  obtain ⟨e,y⟩:=y
  subst e
  refine ⟨fun v' H1=>Pv (i+1) (ys++[v']) H1,fun _=>False,fun v' H1 p'=>⟨xs.length - (i+1),by omega,rfl,hlt,p'⟩,fun _ z=>z.elim,?_⟩
  exact jdx (B:=False) (hs i v ys _ (y xs q) p)
 ·have e:i=xs.length:=by omega
  subst e
  exact .inl ⟨⟨xs,q,Nat.le_refl _⟩,by omega,hd ys H p⟩
theorem jer {K:PySem.W.Frag} {a:Addr} {xs:List V} {cv:St} {tt:TT} {te:TE} {END:List V->Hp->Prop} {H:Hp} (Pv:Nat->List V->Hp->Prop) (h0:Pv 0 [] H) (hl:∀ i ys H,i<=xs.length->Pv i ys H->SqL K H a xs/\ys.length<=i) (hz:xs.length<=sizeLine)
  (hs:∀ i x ys H,xs[i]?=some x->Pv i ys H->tt (some x::cv) H fun b H4=>if b=true then te (some x::cv) H4 (fun y H5=>Pv (i+1) (ys++[y]) H5) else Pv (i+1) ys H4) (hd:∀ ys H,Pv xs.length ys H->END ys H):jhX (Itl K a) cv tt te END H:=by
 refine ⟨fun i m ys H=>m=xs.length - i/\i<=xs.length/\Pv i ys H,⟨xs.length,by simp,Nat.zero_le _,h0⟩,?_⟩
 rintro i m ys H ⟨rfl,hi,p⟩
 obtain ⟨q,hy⟩:=hl i ys H hi p
 by_cases hlt:i < xs.length
 ·refine .inr ⟨⟨xs,xs[i],q,by simp [hlt]⟩,by omega,fun v H' y=>?_⟩
  obtain ⟨e,y⟩:=y
  subst e
  exact ⟨fun v' H1=>Pv (i+1) (ys++[v']) H1,fun H1=>Pv (i+1) ys H1,fun v' H1 p'=>⟨xs.length - (i+1),by omega,rfl,hlt,p'⟩,fun H1 p'=>⟨xs.length - (i+1),by omega,rfl,hlt,p'⟩,hs i v ys _ (y xs q) p⟩
 ·have e:i=xs.length:=by omega
  subst e
  exact .inl ⟨⟨xs,q,Nat.le_refl _⟩,by omega,hd ys H p⟩
theorem jhY {lo:Int} {n:Nat} {cv:St} {te:TE} {END:List V->Hp->Prop} {H:Hp} (Pv:Nat->List V->Hp->Prop) (h0:Pv 0 [] H) (hl:∀ i ys H,i<=n->Pv i ys H->ys.length<=i) (hz:n<=sizeLine)
  (hs:∀ i ys H,i < n->Pv i ys H->te (some (.int (lo+i))::cv) H fun y H5=>Pv (i+1) (ys++[y]) H5) (hd:∀ ys H,Pv n ys H->END ys H):jhX (Itr lo n) cv tAlways te END H:=by
 refine ⟨fun i m ys H=>m=n - i/\i<=n/\Pv i ys H,⟨n,by simp,Nat.zero_le _,h0⟩,?_⟩
 rintro i m ys H ⟨rfl,hi,p⟩
 have hy:=hl i ys H hi p
 by_cases hlt:i < n
 ·refine .inr ⟨hlt,by omega,fun v H' y=>?_⟩
  obtain ⟨e,y⟩:=y
  subst e y
  refine ⟨fun v' H1=>Pv (i+1) (ys++[v']) H1,fun _=>False,fun v' H1 p'=>⟨n - (i+1),by omega,rfl,hlt,p'⟩,fun _ z=>z.elim,?_⟩
  exact jdx (B:=False) (hs i ys _ hlt p)
 ·have e:i=n:=by omega
  subst e
  exact .inl ⟨Nat.le_refl _,by omega,hd ys H p⟩
end
def Its (z:Str):It:=⟨fun i _=>i < z.cps.size,fun i H x H'=>H'=H/\∃ c,z.cps[i]?=some c/\x=.str ⟨#[c]⟩,fun i _=>z.cps.size<=i⟩
theorem jla {P:Program} {w:World} {K:PySem.W.Frag} {x:Str} {px:Pos} {ty:String} (z:Str) (t:Tok) (it:Addr)
  (W:∀ A:Around,A.handled=none->Walks P w A it [it] [it] z.cps.size (SignAt z) (fun i h=>h.IsStrIter it ty z t i))
  (hs:∀ (A:Around) (i:Nat) (s:Shared) (Q:Value->Shared->Prop) (E:Value->Shared->Prop),s.heap.IsStrIter it ty z t i->Q (.ref it) s->wpAny (model P w) A (pyIter (.ref it)) Q E s):Turn P w K (.Name x px) (Its z) [it] it (fun i h=>i<=z.cps.size/\h.IsStrIter it ty z t i) where
 mem:=by simp
 obj:=fun i h st b hb=>by
  have e:b=it:=by simpa using hb
  subst e
  obtain ⟨_,o,e,c,d⟩:=st
  exact ⟨o,e,fun v z=>by rw [d] at z; cases z⟩
 keep:=fun i h h' st k=>⟨st.1,let ⟨o,ho,r⟩:=st.2; ⟨o,k it (by simp) o ho,r⟩⟩
 item:=by
  intro X hP hw hK hc i pins s σ H E I hf st hg
  subst hP hw hK
  obtain ⟨f0,f1,f2,f3,f4,f5⟩:=hf it (by simp)
  have hi:i < z.cps.size:=hg
  refine (W X.A (I.ok.hd hc)).item i s _ _ hi st.2 fun v h' tk hv st' kk=>?_
  obtain ⟨c,u,hcu,rfl⟩:=hv
  have I1:Inv X pins σ H {s with heap:=h',toks:=tk}:=I.turned (fun b o hb e=>kk b o (by simpa using hb) e) f0 f1 f3 f4 f5
  exact ⟨_,rfl,wpAny_pure ⟨.str ⟨#[c]⟩,H,I1,⟨u,rfl⟩,⟨rfl,c,hcu,rfl⟩,⟨hi,st'⟩,fun b hb=>(hf b hb).1⟩⟩
 done:=by
  intro X hP hw hK hc i pins s σ H E I hf st hg
  subst hP hw hK
  obtain ⟨f0,f1,f2,f3,f4,f5⟩:=hf it (by simp)
  have hi:i=z.cps.size:=Nat.le_antisymm st.1 hg
  refine (W X.A (I.ok.hd hc)).done s _ _ (hi▸st.2) fun h' tk kk=>?_
  exact ⟨rfl,I.turned (fun b o hb e=>kk b o (by simpa using hb) e) f0 f1 f3 f4 f5⟩
 self:=fun A i s Q E st h=>hs A i s Q E st.2 h
section
variable {X:Cx} {x:Str} {px:Pos}
def iStr (tl:TE):TI:=fun σ H R=>tl σ H fun x H1=>∃ z,x=.str z/\R (Its z) H1
theorem jiQ {l:Expr} {tl:TE} (hl:PE X l tl):PI X (.Name x px) l (iStr tl):=by
 intro pins s σ H R I h
 refine thn (hl pins s σ H _ I h) fun v s1 ⟨xv,H1,I1,r1,q1⟩=>?_
 obtain ⟨z,e,q⟩:=q1
 subst e
 obtain ⟨t,rfl⟩:=r1
 have fin:∀ (o:Obj) (ty:String),o.cls=.type ty->o.data=.fields #[.str z t,.int 0 0]->o.isFreed=false->(∀ A:Around,A.handled=none->Walks X.prog X.w A s1.heap.objs.size [s1.heap.objs.size] [s1.heap.objs.size] z.cps.size (SignAt z) (fun i h=>h.IsStrIter s1.heap.objs.size ty z t i)) ->
   (∀ (A:Around) (i:Nat) (s:Shared) (Q:Value->Shared->Prop) (E:Value->Shared->Prop),s.heap.IsStrIter s1.heap.objs.size ty z t i->Q (.ref s1.heap.objs.size) s->wpAny (model X.prog X.w) A (pyIter (.ref s1.heap.objs.size)) Q E s) ->
   PIE X pins σ (.Name x px) R (.ref s1.heap.objs.size) {s1 with heap:=s1.heap.push o}:=fun o ty h1 h2 h3 W hs=>by
  refine ⟨s1.heap.objs.size,[s1.heap.objs.size],_,_,H1,rfl,I1.kept (t':=s1.toks) fun b o e=>Heap.get?_push_of_some _ e,jla z t _ W hs,⟨Nat.zero_le _,o,Heap.get?_push_size _ h3,h1,h2⟩,fun b hb=>?_,q⟩
  have e:b=s1.heap.objs.size:=by simpa using hb
  subst e
  exact I1.fpOk (Nat.le_refl _) (I1.hok.fresh (Nat.le_refl _))
 cases ha:z.cps.all (· < 128)
 ·exact wpAny_pyIter_wide ha (fin {cls:=.type "str_iterator",data:=.fields #[.str z t,.int 0 0]} "str_iterator" rfl rfl rfl (fun A' hA=>Walks.strWide hA _ z t) fun A i s Q E st h=>wpAny_pyIter_striter_wide st h)
 ·exact wpAny_pyIter_ascii ha (fin {cls:=.type "str_ascii_iterator",data:=.fields #[.str z t,.int 0 0]} "str_ascii_iterator" rfl rfl rfl (fun A' hA=>Walks.strAscii hA _ z t) fun A i s Q E st h=>wpAny_pyIter_striter_ascii st h)
end
theorem jnd {z:Str} {g:TG} {tb:TS} {D:Ends} {σ:St} {H:Hp} (Pv:Nat->St->Hp->Prop) (h0:Pv 0 σ H)
  (hs:∀ i c σ H,z.cps[i]?=some c->Pv i σ H->g (.str ⟨#[c]⟩) σ H fun σ2 H2=>tb {D with nx:=Pv (i+1),ct:=Pv (i+1),bk:=D.nx} σ2 H2) (hd:∀ σ H,Pv z.cps.size σ H->D.nx σ H) :
  ∃ W:Nat->Nat->St->Hp->Prop,(∃ m,W 0 m σ H)/\∀ i m σ H,W i m σ H ->
   ((Its z).stop i H/\D.nx σ H)\/((Its z).go i H/\∃ N:St->Hp->Prop,(∀ σ' H',N σ' H'->∃ m',m' < m/\W (i+1) m' σ' H')/\∀ x H',(Its z).yld i H x H'->g x σ H' fun σ2 H2=>tb {D with nx:=N,ct:=N,bk:=D.nx} σ2 H2):=by
 refine ⟨fun i m σ H=>m=z.cps.size - i/\i<=z.cps.size/\Pv i σ H,⟨z.cps.size,by simp,Nat.zero_le _,h0⟩,?_⟩
 rintro i m σ H ⟨rfl,hi,p⟩
 by_cases hlt:i < z.cps.size
 ·refine .inr ⟨hlt,Pv (i+1),fun σ' H' p'=>⟨z.cps.size - (i+1),by omega,rfl,hlt,p'⟩,fun x H' y=>?_⟩
  obtain ⟨e,c,hc,y⟩:=y
  subst e y
  exact hs i c σ _ hc p
 ·have e:i=z.cps.size:=by omega
  subst e
  exact .inl ⟨Nat.le_refl _,hd σ H p⟩
theorem jgP {z:Str} {cv:St} {te:TE} {END:List V->Hp->Prop} {H:Hp} (Pv:Nat->List V->Hp->Prop) (h0:Pv 0 [] H) (hl:∀ i ys H,i<=z.cps.size->Pv i ys H->ys.length<=i) (hz:z.cps.size<=sizeLine)
  (hs:∀ i c ys H,z.cps[i]?=some c->Pv i ys H->te (some (.str ⟨#[c]⟩)::cv) H fun y H5=>Pv (i+1) (ys++[y]) H5) (hd:∀ ys H,Pv z.cps.size ys H->END ys H):jhX (Its z) cv tAlways te END H:=by
 refine ⟨fun i m ys H=>m=z.cps.size - i/\i<=z.cps.size/\Pv i ys H,⟨z.cps.size,by simp,Nat.zero_le _,h0⟩,?_⟩
 rintro i m ys H ⟨rfl,hi,p⟩
 have hy:=hl i ys H hi p
 by_cases hlt:i < z.cps.size
 ·refine .inr ⟨hlt,by omega,fun v H' y=>?_⟩
  obtain ⟨e,c,hc,y⟩:=y
  subst e y
  refine ⟨fun v' H1=>Pv (i+1) (ys++[v']) H1,fun _=>False,fun v' H1 p'=>⟨z.cps.size - (i+1),by omega,rfl,hlt,p'⟩,fun _ z=>z.elim,?_⟩
  exact jdx (B:=False) (hs i c ys _ hc p)
 ·have e:i=z.cps.size:=by omega
  subst e
  exact .inl ⟨Nat.le_refl _,by omega,hd ys H p⟩
section
variable {X:Cx} {pins:List (Addr×Obj)} {σ:St} {H:Hp} {s:Shared} {d:Addr} {o:Obj}
end
section
variable {X:Cx} {x:Str} {px pos:Pos}
end
def jbC (l:List Str) (x:Str):List Str:=if x∈l then l else l++[x]
def dd (ts:List Str):List Str:=ts.foldl jbC []
theorem jne (ts:List Str) (x:Str):dd (ts++[x])=jbC (dd ts) x:=by unfold dd; rw [List.foldl_append]; rfl
theorem jhZ (l:List Str) (x:Str):(jbC l x).length<=l.length+1:=by
 unfold jbC; split
 ·omega
 ·rw [List.length_append]; exact Nat.le_refl _
theorem jlb (ts:List Str):∀ l:List Str,(ts.foldl jbC l).length<=l.length+ts.length:=by
 induction ts with
 | nil=>intro l; exact Nat.le_refl _
 | cons x r ih =>
  intro l
  have h1:=ih (jbC l x)
  have h2:=jhZ l x
  rw [List.foldl_cons,List.length_cons]; omega
theorem joI (ts:List Str):(dd ts).length<=ts.length:=by have:=jlb ts []; rw [List.length_nil] at this; unfold dd; omega
theorem jiR:∀ (ts l:List Str),(∀ x∈ts,x∉l)->ts.Nodup->ts.foldl jbC l=l++ts
 | [],l,_,_=>by simp
 | x::r,l,h,nd=>by
  have hx:x∉l:=h x List.mem_cons_self
  have e:jbC l x=l++[x]:=by unfold jbC; rw [if_neg hx]
  rw [List.foldl_cons,e,jiR r (l++[x]) (fun y hy hm=>?_) (List.nodup_cons.mp nd).2,List.append_assoc]
  ·rfl
  ·rcases List.mem_append.mp hm with z | z
   ·exact h y (List.mem_cons_of_mem _ hy) z
   ·have:y=x:=by simpa using z
    subst this
    exact (List.nodup_cons.mp nd).1 hy
theorem jgQ {ts:List Str} (h:ts.Nodup):dd ts=ts:=by
 unfold dd; rw [jiR ts [] (fun _ _ z=>by cases z) h]; rfl
section
variable {prog:Program} {w:World} {A:Around} {R:Result->Shared->Prop} {I:Addr} {fp wr:List Addr} {P:Nat->Value->Prop} {St:Nat->Heap->Prop}
abbrev SetS (prog:Program) (w:World) (h:Heap) (S:Addr) (l:List Str):Prop:=h.SetOf (strKind prog w) S (fun x=>decide (x∈l)) l.length
theorem SetS.add {h:Heap} {S:Addr} {l:List Str} {x:Str} (q:h.SetOf (strKind prog w) S (fun k=>decide (k∈l) || decide (k=x)) (if decide (x∈l)=true then l.length else l.length+1)):SetS prog w h S (jbC l x):=by
 have e1:(fun k=>decide (k∈l) || decide (k=x))=fun k=>decide (k∈jbC l x):=by
  funext k
  unfold jbC
  split
  ·rename_i hx
   by_cases e:k=x
   ·subst e; simp [hx]
   ·simp [e]
  ·simp
 have e2:(if decide (x∈l)=true then l.length else l.length+1)=(jbC l x).length:=by
  unfold jbC
  by_cases hx:x∈l
  ·simp [hx]
  ·simp [hx]
 rw [e1,e2] at q
 exact q
theorem SetS.at {h h':Heap} {S:Addr} {l:List Str} (q:SetS prog w h S l) (k:∀ o,h.get? S=some o->h'.get? S=some o):SetS prog w h' S l:=by
 obtain ⟨o,es,ep,t,ho,r⟩:=q
 exact ⟨o,es,ep,t,k o ho,r⟩
theorem jlc {vals:List Str} (W:Walks prog w A.in1 I fp wr vals.length P St) (S:Addr) (hSf:S∉fp) (hval:∀ i v,P i v->∃ x t,vals[i]?=some x/\v=.str x t) (hb:vals.length+1 < scanBound) :
  ∀ (k i:Nat) (s:Shared),vals.length - i=k->i<=vals.length->St i s.heap->SetS prog w s.heap S (dd (vals.take i)) ->
   (∀ h' tk,(∀ b o,b≠S->b∉wr->s.heap.get? b=some o->h'.get? b=some o)->SetS prog w h' S (dd vals)->R (.ok (.ret .none)) {s with heap:=h',toks:=tk}) ->
   codeAny (model prog w) A (.builtin "set.update.loop" ⟨[.ref S,.ref I],[]⟩) R s:=by
 have hSw:S∉wr:=fun z=>hSf (W.sub _ z)
 intro k
 induction k with
 | zero =>
  intro i s hk hi st hS hR
  have e:i=vals.length:=by omega
  subst e
  rw [List.take_length] at hS
  refine codeAny_builtin PyProof.Rows.F.entry_set_update_loop ?_
  rw [Around.under_plainId PyProof.Rows.F.plain_set_update_loop _]
  show wpAny _ A.in1 (pyNext (.ref I)>>=_) _ _ s
  exact wpAny_bind (W.done s _ _ st fun h' tk kk=>wpAny_pure (hR h' tk (fun b o _ hb e=>kk b o hb e) (hS.at fun o e=>kk S o hSw e)))
 | succ k ih =>
  intro i s hk hi st hS hR
  have hlt:i < vals.length:=by omega
  refine codeAny_builtin PyProof.Rows.F.entry_set_update_loop ?_
  rw [Around.under_plainId PyProof.Rows.F.plain_set_update_loop _]
  show wpAny _ A.in1 (pyNext (.ref I)>>=_) _ _ s
  refine wpAny_bind (W.item i s _ _ hlt st fun v h1 tk hP st' kk=>?_)
  obtain ⟨x,t,hx,rfl⟩:=hval i v hP
  have hS1:SetS prog w h1 S (dd (vals.take i)):=hS.at fun o e=>kk S o hSw e
  show wpAny _ A.in1 (holding [Value.str x t] (setAdd S (.str x t))>>=_) _ _ _
  refine wpAny_bind (wpAny_holding ?_)
  unfold setAdd
  refine wpAny_holding (wpAny_bind ((strKind prog w).pyHash (k:=x) (strKind_is _ _ _ _) ?_))
  have hlen:=joI (vals.take i)
  rw [List.length_take] at hlen
  refine wpAny_setAddHashed_of (knd:=strKind prog w) (s:={s with heap:=h1,toks:=tk+1}) (strKind_is _ _ _ _) rfl hS1 (by omega) fun h2 sb hS2=>?_
  have hS3:=SetS.add hS2
  rw [<- jne] at hS3
  have et:vals.take i++[x]=vals.take (i+1):=by
   rw [List.take_add_one,hx]
   rfl
  rw [et] at hS3
  refine wpAny_pure ⟨plainId_quiet PyProof.Rows.F.plain_set_update_loop _,ih (i+1) _ (by omega) hlt (W.frame _ _ _ st' fun b hb o e=>?_) hS3 fun h3 tk3 k3 q3=>?_⟩
  ·rw [sb.2 b (fun z:b=S=>hSf (by rw [<- z]; exact hb))]; exact e
  ·refine hR h3 tk3 (fun b o hb hw e=>k3 b o hb hw ?_) q3
   show h2.get? b=some o
   rw [sb.2 b hb]
   exact kk b o hw e
end
theorem jgp:isSubtype (.type "str") (.type "set")=pure false:=by rw [isSubtype_type]; kernel_rfl
theorem jde:isSubtype (.type "str") (.type "frozenset")=pure false:=by rw [isSubtype_type]; kernel_rfl
section
variable {prog:Program} {w:World} {A:Around} {E:Value->Shared->Prop} {s:Shared}
abbrev jaY (led:Bool):Obj:={cls:=.type "set",dict:=none,data:=.set #[] 0 (.fresh 0 0 led)}
theorem jgR {v:Value} {T:String} {vals:List Str} {Q:Value->Shared->Prop} (hh:A.handled=none) (hT:∀ led,Shared.TypeIs {s with heap:=s.heap.push (jaY led)} v T)
  (h1:isSubtype (.type T) (.type "set")=pure false) (h2:isSubtype (.type T) (.type "frozenset")=pure false) (h3:(Value.type T==Value.type "dict")=false) (hb:vals.length+1 < scanBound)
  (hit:∀ led (A':Around) (E':Value->Shared->Prop) (Q':Value->Shared->Prop),(∀ (I:Addr) (fp wr:List Addr) (P:Nat->Value->Prop) (St:Nat->Heap->Prop) (o:Obj),(∀ A'':Around,A''.handled=none->Walks prog w A'' I fp wr vals.length P St)->s.heap.objs.size∉fp ->
    (∀ b∈wr,s.heap.objs.size < b)->(∀ i v,P i v->∃ x t,vals[i]?=some x/\v=.str x t)->St 0 ((s.heap.push (jaY led)).push o)->Q' (.ref I) {s with heap:=(s.heap.push (jaY led)).push o}) ->
   wpAny (model prog w) A' (pyIter v) Q' E' {s with heap:=s.heap.push (jaY led)})
  (h:∀ (h':Heap) (tk:Nat),SetS prog w h' s.heap.objs.size (dd vals)->(∀ b o,s.heap.get? b=some o->h'.get? b=some o)->Q (.ref s.heap.objs.size) {s with heap:=h',toks:=tk}) :
  wpAny (model prog w) A (call (.type "set") [v]) Q E s:=by
 obtain ⟨c,tl,hmro⟩:=F.called_set.mro
 have hmade:=F.called_set.made
 have hsub:=F.called_set.sub
 refine wpAny_call (codeAny_of_tree ?_)
 show wpAny _ _ (callAny (.type "set") _) _ _ _
 refine wpAny_pure ⟨Code.quiet_builtin _ (by decide +kernel),codeAny_builtin F.entry_type_call ?_⟩
 rw [Around.under_plain (weight_type_call_type "set" [v] []) rfl]
 have g1:=F.called_set.notType
 have g2:=F.called_set.canCreate
 have g3:=F.typeCall_set_1 v
 repeat (any_goals (first | assumption | wp_step))
 refine codeAny_mono (code_set_new_1 v (E:=E) (Q₁:=fun obj s₁=>∃ led:Bool,obj=.ref s.heap.objs.size/\s₁={s with heap:=s.heap.push (jaY led)}) fun led=>⟨led,rfl,rfl⟩) fun r s₁ hr=>?_
 cases r with
 | error e=>exact hr
 | ok fl =>
  cases fl with
  | ret obj =>
   obtain ⟨led,rfl,rfl⟩:=hr
   have hS:(s.heap.push (jaY led)).get? s.heap.objs.size=some (jaY led):=Heap.get?_push_size _ rfl
   have hTs:Shared.TypeIs {s with heap:=s.heap.push (jaY led)} (.ref s.heap.objs.size) "set":=⟨_,hS,rfl⟩
   have hli:=F.called_set.init.lookup
   have hbi:=F.called_set.init.bind (.ref s.heap.objs.size)
   repeat (any_goals (first | assumption | wp_step))
   refine codeAny_mono (codeAny_call_builtin (R:=wants (fun r s₂=>r=.none/\∃ h' tk,s₂={s with heap:=h',toks:=tk}/\SetS prog w h' s.heap.objs.size (dd vals)/\(∀ b o,s.heap.get? b=some o->h'.get? b=some o)) E)
    F.called_set.init.plain F.entry_set_init (check_set_init_1 hTs ?_)) fun r₂ s₂ hr₂=>?_
   ·have hTv:=hT led
    unfold Builtin.«set.__init__» noKeywords Builtin.Frozenset.updateFrom
    generalize hPI:pyIter=PI
    wp_walk
    subst hPI
    refine hit led _ _ _ fun I fp wr P St o W hnf hwr hP st=>?_
    refine wpAny_bind (wpAny_runValue ?_)
    refine jlc (W _ (by simp [hh])) s.heap.objs.size hnf hP hb (vals.length - 0) 0 _ (by omega) (Nat.zero_le _) st ?_ fun h' tk kk q=>?_
    ·have hget:((s.heap.push (jaY led)).push o).get? s.heap.objs.size=some (jaY led):=Heap.get?_push_of_some _ hS
     have q:=(setObjOf_fresh (knd:=strKind prog w) led).setOf hget (by unfold scanBound; omega)
     exact SetOf_congr q (fun k=>by simp [dd]) rfl
    ·refine wpAny_pure (wpAny_pure ⟨rfl,h',tk,rfl,q,fun b o' e=>?_⟩)
     refine kk b o' (Nat.ne_of_lt (Heap.lt_size e)) (fun z=>?_) (Heap.get?_push_of_some _ (Heap.get?_push_of_some _ e))
     exact absurd (Nat.lt_trans (hwr b z) (Heap.lt_size e)) (Nat.lt_irrefl _)
   ·cases r₂ with
    | error e=>exact hr₂
    | ok fl₂ =>
     cases fl₂ with
     | ret r =>
      obtain ⟨rfl,h',tk,rfl,hS',hk'⟩:=hr₂
      repeat (any_goals (first | assumption | wp_step))
      exact h _ _ hS' hk'
     | _=>exact hr₂.elim
  | _=>exact hr.elim
theorem jia {l:Addr} {items:Array Value} {ts:List Str} {Q:Value->Shared->Prop} (hh:A.handled=none) (hl:s.heap.IsList l items) (hv:Vals (ts.map V.str) items.toList) (hb:ts.length+1 < scanBound)
  (h:∀ (h':Heap) (tk:Nat),SetS prog w h' s.heap.objs.size (dd ts)->(∀ b o,s.heap.get? b=some o->h'.get? b=some o)->Q (.ref s.heap.objs.size) {s with heap:=h',toks:=tk}) :
  wpAny (model prog w) A (call (.type "set") [.ref l]) Q E s:=by
 have hlt:l < s.heap.objs.size:=by obtain ⟨o,ho,_⟩:=hl; exact Heap.lt_size ho
 have hlen:items.size=ts.length:=by have:=hv.length; simpa using this.symm
 refine jgR (T:="list") hh (fun led=>(hl.push _).typeIs) F.sub_list_set F.sub_list_frozenset (by decide) hb (fun led A' E' Q' hQ=>?_) h
 refine wpAny_pyIter_list (hl.push (jaY led)) ?_
 have hne:l≠(s.heap.push (jaY led)).objs.size:=by rw [Heap.size_push]; exact Nat.ne_of_lt (Nat.lt_succ_of_lt hlt)
 refine hQ _ _ _ (fun i v=>items[i]?=some v) (fun i h=>h.IsListIter (s.heap.push (jaY led)).objs.size l i/\h.IsList l items) _ (fun A'' hA=>hlen▸Walks.list hA _ l hne items) ?_ ?_ ?_ ⟨⟨_,Heap.get?_push_size _ rfl,rfl,rfl⟩,(hl.push _).push _⟩
 ·rw [Heap.size_push]
  intro z
  rcases List.mem_cons.mp z with z | z
  ·exact absurd z (Nat.ne_of_lt (Nat.lt_succ_self _))
  ·have e:s.heap.objs.size=l:=by simpa using z
   rw [<- e] at hlt
   exact absurd hlt (Nat.lt_irrefl _)
 ·intro b hb
  rw [Heap.size_push] at hb
  have e:b=s.heap.objs.size+1:=by simpa using hb
  rw [e]
  exact Nat.lt_succ_self _
 ·intro i v hv'
  have hi:items.toList[i]?=some v:=by rw [Array.getElem?_toList]; exact hv'
  have hlt':i < ts.length:=by
   rw [<- hlen]
   exact (Array.getElem?_eq_some_iff.mp hv').1
  have e:(ts.map V.str)[i]?=some (V.str ts[i]):=by rw [List.getElem?_map,List.getElem?_eq_getElem hlt']; rfl
  obtain ⟨u,hu,r⟩:=hv.get e
  rw [hi] at hu; cases hu
  obtain ⟨t,rfl⟩:=r
  exact ⟨_,t,List.getElem?_eq_getElem hlt',rfl⟩
def sgn (z:Str):List Str:=z.cps.toList.map fun c=>⟨#[c]⟩
theorem jib {z:Str} {t:Tok} {Q:Value->Shared->Prop} (hh:A.handled=none) (hb:z.cps.size+1 < scanBound)
  (h:∀ (h':Heap) (tk:Nat),SetS prog w h' s.heap.objs.size (dd (sgn z))->(∀ b o,s.heap.get? b=some o->h'.get? b=some o)->Q (.ref s.heap.objs.size) {s with heap:=h',toks:=tk}) :
  wpAny (model prog w) A (call (.type "set") [.str z t]) Q E s:=by
 have hlen:(sgn z).length=z.cps.size:=by unfold sgn; simp
 refine jgR (T:="str") hh (fun led=>typeIs_str _ z t) jgp jde (by decide) (by rw [hlen]; exact hb) (fun led A' E' Q' hQ=>?_) h
 refine wpAny_pyIter_str fun o St W st=>?_
 refine hQ _ _ _ (SignAt z) St o (fun A'' hA=>hlen▸W A'' hA) ?_ ?_ ?_ st
 ·rw [Heap.size_push]; simp
 ·intro b hb
  rw [Heap.size_push] at hb
  have e:b=s.heap.objs.size+1:=by simpa using hb
  rw [e]
  exact Nat.lt_succ_self _
 ·rintro i v ⟨c,u,hc,rfl⟩
  refine ⟨⟨#[c]⟩,u,?_,rfl⟩
  unfold sgn
  rw [List.getElem?_map,Array.getElem?_toList,hc]
  rfl
end
def SetO (P:Program) (w:World) (a:Addr) (l:List Str):HO:=.ext fun h=>SetS P w h a l
section
variable {X:Cx}
theorem SetO.ok {H:Hp} {h:Heap} {a:Addr} {l:List Str} (q:SetS X.prog X.w h a l):ObjOk X.prog X.w H h a (SetO X.prog X.w a l):=by
 refine ⟨q,?_,fun h1 h2 p k=>p.at k⟩
 obtain ⟨o,_,_,_,ho,_⟩:=q
 exact ⟨o,ho⟩
theorem jei (hc:X.calm=true):jcK X (.type "set") (fun xs H Q=>∃ p ts,xs=[.ref p]/\SqL X.K H p (ts.map V.str)/\ts.length+1 < scanBound/\∀ l,H l=none->Q (.ref l) (upd H l (SetO X.prog X.w l (dd ts)))):=by
 intro pins s σ H xs us Q I r h
 obtain ⟨p,ts,rfl,hq,hb,q⟩:=h
 obtain ⟨u,rfl,ru⟩:=jdG r
 cases ru
 obtain ⟨its,rv,pl,_⟩:=I.list hq
 refine jia (I.ok.hd hc) pl.isList (by simpa using rv) hb fun h' tk qs kk=>?_
 exact ⟨.ref s.heap.objs.size,_,I.laid (a:=s.heap.objs.size) kk (Nat.le_refl _) (SetO.ok qs),rfl,q _ (I.hok.fresh (Nat.le_refl _))⟩
theorem jej (hc:X.calm=true):jcK X (.type "set") (fun xs H Q=>∃ z,xs=[.str z]/\z.cps.size+1 < scanBound/\∀ l,H l=none->Q (.ref l) (upd H l (SetO X.prog X.w l (dd (sgn z))))):=by
 intro pins s σ H xs us Q I r h
 obtain ⟨z,rfl,hb,q⟩:=h
 obtain ⟨u,rfl,ru⟩:=jdG r
 obtain ⟨t,rfl⟩:=ru
 refine jib (I.ok.hd hc) hb fun h' tk qs kk=>?_
 exact ⟨.ref s.heap.objs.size,_,I.laid (a:=s.heap.objs.size) kk (Nat.le_refl _) (SetO.ok qs),rfl,q _ (I.hok.fresh (Nat.le_refl _))⟩
theorem jcN:jcK X (.builtin "len") (fun xs H Q=>∃ p l,xs=[.ref p]/\H p=some (SetO X.prog X.w p l)/\Q (.int l.length) H):=by
 intro pins s σ H xs us Q I r h
 obtain ⟨p,l,rfl,hp,q⟩:=h
 obtain ⟨u,rfl,ru⟩:=jdG r
 cases ru
 obtain ⟨⟨o,es,ep,t,ho,hex,hd,hel,hm,hbd,hf,hn⟩,_⟩:=(show ObjOk X.prog X.w H s.heap p (SetO X.prog X.w p l) from I.hok p _ hp)
 refine call_len_set ho hex hd hf (by unfold scanBound at hbd; omega) ?_
 rw [hn]
 exact ⟨.int l.length,H,I.tok _,⟨_,rfl⟩,q⟩
end
section
variable {X:Cx} {a b c d:Expr} {ta tb tc td:TE} {pos:Pos}
def jiS (neg:Bool):R2:=fun x y H Q=>∃ k j,x=.str ⟨#[k]⟩/\y=.str j/\Q (.bl (if neg then !decide (k∈j.cps.toList) else decide (k∈j.cps.toList))) H
theorem jfy:OpR X (compareOp .In) (jiS false):=by
 intro pins s σ H x y v u Q I rx ry h
 obtain ⟨k,j,rfl,rfl,q⟩:=h
 refine jiy pins s σ H _ _ v u Q I rx ry ⟨_,_,rfl,rfl,?_⟩
 rw [StrLaws.found_one]
 exact q
theorem jgS:∀ {ts:List Str} {us:List Value},Vals (ts.map V.str) us->∃ l:List (Str×Tok),us=strValues l/\l.map (·.1)=ts
 | [],_,.nil=>⟨[],rfl,rfl⟩
 | x::r,_,.cons q t=>by
  obtain ⟨tk,rfl⟩:=q
  obtain ⟨l,e1,e2⟩:=jgS (ts:=r) t
  exact ⟨(x,tk)::l,by rw [e1]; rfl,by rw [List.map_cons,e2]⟩
def rJoin (K:PySem.W.Frag):V->List V->Hp->VK->Prop:=fun x xs H Q=>∃ sep p ts,x=.str sep/\xs=[.ref p]/\SqL K H p (ts.map V.str)/\JoinOk sep ts=true/\Q (.str (Str.join sep ts)) H
theorem jnf:MtR X "str.join" (rJoin X.K):=by
 intro pins s σ H x xs v us Q I rx rs h
 obtain ⟨sep,p,ts,rfl,rfl,hq,hok,q⟩:=h
 obtain ⟨t,rfl⟩:=rx
 obtain ⟨u,rfl,ru⟩:=jdG rs
 cases ru
 obtain ⟨its,rv,pl,_⟩:=I.list hq
 obtain ⟨l,e1,e2⟩:=jgS rv
 subst e1
 refine SC.join pl.isList e2 hok fun t' k=>?_
 rw [show Txt.join sep ts=Str.join sep ts from StrLaws.glued_eq_join sep ts]
 exact ⟨.str (Str.join sep ts),H,I.tok _,⟨t',rfl⟩,q⟩
theorem jiT {sep:Str}:∀ {ts:List Str} {n:Nat},(∀ t∈ts,t.length+sep.length<=n)->ts.length * n<=sizeLine->JoinOk sep ts=true:=by
 intro ts n h hz
 have e:∀ (l:List Str) (k:Nat),(∀ t∈l,t.length+sep.length<=n)->l.foldl (fun x1 x2=>x1+x2.length+sep.length) k<=k+l.length * n:=by
  intro l
  induction l with
  | nil=>intro k _; simp
  | cons t r ih =>
   intro k hk
   have h1:=ih (k+t.length+sep.length) fun u hu=>hk u (List.mem_cons_of_mem _ hu)
   have h2:=hk t List.mem_cons_self
   rw [List.foldl_cons,List.length_cons,Nat.succ_mul]
   omega
 unfold JoinOk Builtin.Str.tooLong
 have:=e ts 0 h
 rw [List.foldl_toArray]
 simp only [Bool.not_eq_true',decide_eq_false_iff_not]
 omega
def jiU (K:PySem.W.Frag):List V->Hp->VK->Prop:=fun xs H Q=>∃ x t k,((∃ C,xs=[x,.ref C]/\PySem.W.kitOne K t (.ref C)=some k)\/∃ T,xs=[x,.ty T]/\PySem.W.kitOne K t (.type T)=some k)/\TyOf K H x t/\Q (.bl k) H
theorem jbc:jcK X (.builtin "isinstance") (jiU X.K):=by
 intro pins s σ H xs us Q I r h
 obtain ⟨x,t,k,hx,ty,q⟩:=h
 rcases hx with ⟨C,rfl,e⟩ | ⟨T,rfl,e⟩
 ·obtain ⟨u,u',rfl,ru,ru'⟩:=jiz r
  cases ru'
  exact jfo I ru ty e fun tk=>⟨.bl k,H,I.tok _,rfl,q⟩
 ·obtain ⟨u,u',rfl,ru,ru'⟩:=jiz r
  cases ru'
  exact jfo I ru ty e fun tk=>⟨.bl k,H,I.tok _,rfl,q⟩
theorem joJ {bs:List Bool} {its:List Value} (r:Vals (bs.map V.bl) its):∀ (i:Nat) (v:Value),its[i]?=some v->∃ k,bs[i]?=some k/\v=Value.bool k:=by
 intro i v e
 have hl:i < bs.length:=by
  have:=r.length
  rw [List.length_map] at this
  rw [this]
  exact (List.getElem?_eq_some_iff.mp e).1
 obtain ⟨u,hu,ru⟩:=r.get (i:=i) (x:=V.bl bs[i]) (by rw [List.getElem?_map,List.getElem?_eq_getElem hl]; rfl)
 rw [e] at hu; cases hu
 exact ⟨bs[i],List.getElem?_eq_getElem hl,ru⟩
theorem jiV (bs:List Bool):(List.range bs.length).all (fun i=>bs[i]?.getD false)=bs.all id:=by
 rw [Bool.eq_iff_iff,List.all_eq_true,List.all_eq_true]
 constructor
 ·intro h x hx
  obtain ⟨i,hi,e⟩:=List.mem_iff_getElem.mp hx
  have:=h i (List.mem_range.mpr hi)
  rw [List.getElem?_eq_getElem hi,e] at this
  exact this
 ·intro h i hi
  have hi':=List.mem_range.mp hi
  rw [List.getElem?_eq_getElem hi']
  exact h _ (List.getElem_mem hi')
theorem jld (hc:X.calm=true):jcK X (.builtin "all") (fun xs H Q=>∃ (p:Addr) (bs:List Bool),xs=[.ref p]/\SqL X.K H p (bs.map V.bl)/\Q (.bl (bs.all id)) H):=by
 intro pins s σ H xs us Q I r h
 obtain ⟨p,bs,rfl,hq,q⟩:=h
 obtain ⟨u,rfl,ru⟩:=jdG r
 cases ru
 obtain ⟨its,rv,pl,_⟩:=I.list hq
 have hlen:its.toArray.size=bs.length:=by have:=rv.length; rw [List.length_map] at this; rw [List.size_toArray,this]
 have hlt:p < s.heap.objs.size:=by obtain ⟨o,_,ho,_⟩:=pl; exact Heap.lt_size ho
 refine call_function_tree F.kind_all F.plain_all F.entry_all (F.args_all1 _) ?_
 unfold Builtin.«all»
 refine wpAny_bind (wpAny_pure (wpAny_bind (wpAny_pyIter_list pl.isList ?_)))
 refine wpAny_pure ⟨plainId_quiet F.plain_all_loop _,?_⟩
 have W:=Walks.list (prog:=X.prog) (w:=X.w) (A:=X.A.in1) (by simp [I.ok.hd hc]) s.heap.objs.size p (Nat.ne_of_lt hlt) its.toArray
 refine codeAny_all_loop W (fun i=>bs[i]?.getD false) (fun i v s Q E hP hQ=>?_) (its.toArray.size - 0) 0 _ (by omega) (Nat.zero_le _) ⟨⟨_,Heap.get?_push_size _ rfl,rfl,rfl⟩,pl.isList.push _⟩ fun h' tk kk=>?_
 ·obtain ⟨k,e1,rfl⟩:=joJ rv i v (by simpa using hP)
  have hQ':Q k s:=by simpa [e1] using hQ
  exact wpAny_truthy_bool hQ'
 ·rw [List.drop_zero,hlen,jiV]
  refine ⟨.bl (bs.all id),H,?_,rfl,q⟩
  exact I.kept (h':=h') (t':=tk) fun b o e=>kk b o (by have:=Heap.lt_size e; simp; exact Nat.ne_of_lt this) (Heap.get?_push_of_some _ e)
theorem jiW {v:Expr} {tv:TE} {y:Str} {j:Nat} {p1 p2:Pos} (hv:PE X v tv):PE X (.JoinedStr [.FormattedValue v (-1) none p1,.Constant (.str y) j p2] pos)
  (fun σ H Q=>tv σ H fun x H1=>∃ z,x=.str z/\z.length+y.length<=sizeLine/\Q (.str (z++y)) H1):=by
 intro pins s σ H Q I h
 refine JoinedStr_many (joinParts_cons (FormattedValue_plain (thn (hv pins s σ H _ I h) fun u s1 ⟨x,H1,I1,r1,z,e,hz,q⟩=>?_)))
 subst e
 obtain ⟨t,rfl⟩:=r1
 refine formatField_str (fun t' tk=>?_) (by omega)
 have e0:Str.empty++z=z:=Str.empty_append z
 show (Str.empty++z).length<=sizeLine/\_
 rw [e0]
 refine ⟨by omega,joinParts_cons (Calls.Constant_str ?_)⟩
 show (z++y).length<=sizeLine/\_
 rw [strLen_append]
 exact ⟨hz,joinParts_nil ⟨.str (z++y),H1,(I1.tok _).tok _,⟨_,rfl⟩,q⟩ (by rw [strLen_append]; exact hz)⟩
def jng (r r' r'':R2) (ta tb tc td:TE):TE:=fun σ H Q=>ta σ H fun x H1=>tb σ H1 fun y H2=>r x y H2 fun z H3=>∃ k,z=.bl k /\
 (if k=true then tc σ H3 fun w' H4=>r' y w' H4 fun z2 H5=>∃ k2,z2=.bl k2/\(if k2=true then td σ H5 fun v' H6=>r'' w' v' H6 Q else Q (.bl false) H5) else Q (.bl false) H3)
theorem jiX {op op' op'':CmpOp} {r r' r'':R2} (ho:OpR X (compareOp op) r) (ho':OpR X (compareOp op') r') (ho'':OpR X (compareOp op'') r'') (ha:PE X a ta) (hb:PE X b tb) (hc:PE X c tc) (hd:PE X d td)
  (hm:lastMarks [op,op',op''] [b,c,d]=false:=by with_unfolding_all rfl):PE X (.Compare a [op,op',op''] [b,c,d] pos) (jng r r' r'' ta tb tc td):=by
 intro pins s σ H Q I h
 refine Compare_chain (thn (ha pins s σ H _ I h) fun v s1 ⟨x,H1,I1,r1,q1⟩=>chain_link (thn (hb pins s1 σ H1 _ I1 q1) fun u s2 ⟨y,H2,I2,r2,q2⟩ =>
  thn (ho pins s2 σ H2 x y v u _ I2 r1 r2 q2) fun d s3 ⟨z,H3,I3,r3,k,e,q3⟩=>?_)) hm
 subst e
 cases r3
 refine wpAny_truthy_bool ?_
 cases k with
 | false=>exact ite_ff ⟨.bl false,H3,I3,rfl,q3⟩
 | true =>
  refine ite_tt (chain_link (thn (hc pins s3 σ H3 _ I3 q3) fun u4 s4 ⟨z',H4,I4,r4,q4⟩=>thn (ho' pins s4 σ H4 y z' u u4 _ I4 r2 r4 q4) fun d5 s5 ⟨z5,H5,I5,r5,k5,e5,q5⟩=>?_))
  subst e5
  cases r5
  refine wpAny_truthy_bool ?_
  cases k5 with
  | false=>exact ite_ff ⟨.bl false,H5,I5,rfl,q5⟩
  | true=>exact ite_tt (chain_last (thn (hd pins s5 σ H5 _ I5 q5) fun w6 s6 ⟨z6,H6,I6,r6,q6⟩=>ho'' pins s6 σ H6 z' z6 u4 w6 Q I6 r4 r6 q6))
end
open AutoSeq1 (wpAny_loadPart')
open MeetsSeq MeetsSeq2 MeetsSeq3 SeqRoads2
def EqI (prog:Program) (w:World) (A:Around) (s:Shared) (y x:Value):Prop:=∀ (E:Value->Shared->Prop) (Q:Bool->Shared->Prop),Q true s->wpAny (model prog w) A (eqBool y x) Q E s
def RcI (prog:Program) (w:World) (op:CmpOp) (A:Around) (s:Shared) (y x:Value) (k:Bool):Prop:=∀ (E:Value->Shared->Prop) (Q:Value->Shared->Prop),Q (.bool k) s->wpAny (model prog w) A (richCompare op y x) Q E s
section
variable {prog:Program} {w:World} {A:Around} {s:Shared}
theorem EqI.of {y x:Value} (h:SeqAt.EqAt A s y x true):EqI prog w A s y x:=fun E Q q=>h prog w E Q q
theorem EqI.refs {l b:Addr} (h:l≠b->RcI prog w .Eq A s (.ref l) (.ref b) true):EqI prog w A s (.ref l) (.ref b):=fun E Q q=>by
 by_cases e:l=b
 ·subst e; exact SeqAt.EqAt.same _ prog w E Q q
 ·unfold eqBool
  refine wpAny_holding (wpAny_ite_split (fun hab=>absurd (by have:=eq_of_beq hab; injection this) e) (fun _=>?_))
  exact wpAny_bind (h e E _ (wpAny_truthy_bool q))
theorem jgT (l b:Addr) (xs ys:Array Value) (n n2:Nat) (dd dd2:Option Addr) (sl sl2:Array (Option Value)) (hsz:xs.size=ys.size) (c:Int) (k0:Bool) (hc0:(c=2/\k0=true)\/(c=3/\k0=false)) (k:Nat) :
  ∀ i:Nat,xs.size - i=k->MeetsIn prog w (Builtin.«list.__eq__.loop» ⟨[.ref l,.ref b,rawInt i,rawInt c],[]⟩)
   (fun A R s=>s.heap.get? l=some ⟨.type "list",dd,.seq xs n,sl⟩/\s.heap.get? b=some ⟨.type "list",dd2,.seq ys n2,sl2⟩/\(∀ j (h1:j < xs.size) (h2:j < ys.size),EqI prog w A.in1 s xs[j] ys[j])/\R (.ok (.ret (.bool k0))) s):=by
 induction k with
 | zero =>
  intro i hk A R s h
  obtain ⟨hp,g,d,tk,os⟩:=s
  obtain ⟨hl,hb,he,h⟩:=h
  have i1:xs[((i:Nat):Int).toNat]?=none:=by simp; omega
  have i2:ys[((i:Nat):Int).toNat]?=none:=by simp; omega
  rcases hc0 with ⟨rfl,rfl⟩ | ⟨rfl,rfl⟩
  ·wp_walk using wpAny_loadPart' hl,wpAny_loadPart' hb
   rw [i1,i2]
   wp_walk using wpAny_loadPart' hl,wpAny_loadPart' hb
   show R (.ok (.ret (.bool (xs.size==ys.size)))) _
   rw [hsz]
   simpa using h
  ·wp_walk using wpAny_loadPart' hl,wpAny_loadPart' hb
   rw [i1,i2]
   wp_walk using wpAny_loadPart' hl,wpAny_loadPart' hb
   show R (.ok (.ret (.bool (xs.size != ys.size)))) _
   rw [hsz]
   simpa using h
 | succ k ih =>
  intro i hk A R s h
  obtain ⟨hp,g,d,tk,os⟩:=s
  obtain ⟨hl,hb,he,h⟩:=h
  have hlt:i < xs.size:=by omega
  have hlt2:i < ys.size:=by omega
  have i1:xs[((i:Nat):Int).toNat]?=some xs[i]:=by simp [hlt]
  have i2:ys[((i:Nat):Int).toNat]?=some ys[i]:=by simp [hlt2]
  have hc:((i:Int)+1)=((i+1:Nat):Int):=by push_cast; rfl
  rcases hc0 with ⟨rfl,rfl⟩ | ⟨rfl,rfl⟩
  all_goals
   wp_walk using wpAny_loadPart' hl,wpAny_loadPart' hb
   rw [i1,i2]
   refine wpAny_bind (he i hlt hlt2 _ _ ?_)
   wp_walk
   rw [hc]
   refine ⟨plainId_quiet plain_eq_loop _,codeAny_builtin entry_eq_loop ?_⟩
   rw [Around.under_plainId plain_eq_loop _]
   exact ih (i+1) (by omega) A R _ ⟨hl,hb,he,h⟩
theorem jfz {l b:Addr} {xs ys:Array Value} (hl:s.heap.IsList l xs) (hb:s.heap.IsList b ys) (hsz:xs.size=ys.size) (hu:A.units < cLine) (he:∀ j (h1:j < xs.size) (h2:j < ys.size),EqI prog w A.in1 s xs[j] ys[j]) :
  RcI prog w .Eq A s (.ref l) (.ref b) true/\RcI prog w .NotEq A s (.ref l) (.ref b) false:=by
 obtain ⟨⟨cls,dd,data,sl⟩,ho,hc,n,hd⟩:=id hl
 obtain ⟨⟨cls2,dd2,data2,sl2⟩,ho2,hc2,n2,hd2⟩:=id hb
 simp only at hc hd hc2 hd2
 subst hc hd hc2 hd2
 have f3:=AutoSeq1.sub_list_list
 have hne:¬ (xs.size != ys.size)=true:=by simp [hsz]
 constructor
 ·intro E Q q
  refine wpAny_richCompare_same_room (op:=.Eq) ⟨_,ho,rfl⟩ ⟨_,ho2,rfl⟩ PySem.F.slot_list_eq (call_meetsIn PySem.F.slot_list_eq ⟨_,ho,rfl⟩ PySem.F.entry_list_eq (PySem.F.args_list_eq_2 _ _) (S:=fun A R s=>s.heap.get? l=some ⟨.type "list",dd,.seq xs n,sl⟩/\s.heap.get? b=some ⟨.type "list",dd2,.seq ys n2,sl2⟩/\(∀ j (h1:j < xs.size) (h2:j < ys.size),EqI prog w A.in1 s xs[j] ys[j])/\R (.ok (.ret (.bool true))) s) (fun A R s h=>?_) ⟨ho,ho2,he,(show Value.bool true≠Value.notImplemented/\Q (.bool true) s from ⟨(fun x=>nomatch x),q⟩)⟩) hu
  obtain ⟨hp,g,d,tk,os⟩:=s
  obtain ⟨hl,hb,he,h⟩:=h
  wp_walk using wpAny_loadPart' hl,wpAny_loadPart' hb
  refine ⟨plainId_quiet plain_eq_loop _,codeAny_builtin entry_eq_loop ?_⟩
  rw [Around.under_plainId plain_eq_loop _]
  exact jgT l b xs ys n n2 dd dd2 sl sl2 hsz 2 true (.inl ⟨rfl,rfl⟩) _ 0 rfl A R _ ⟨hl,hb,he,h⟩
 ·intro E Q q
  refine wpAny_richCompare_same_room (op:=.NotEq) ⟨_,ho,rfl⟩ ⟨_,ho2,rfl⟩ PySem.F.slot_list_ne (call_meetsIn PySem.F.slot_list_ne ⟨_,ho,rfl⟩ PySem.F.entry_list_ne (PySem.F.args_list_ne_2 _ _) (S:=fun A R s=>s.heap.get? l=some ⟨.type "list",dd,.seq xs n,sl⟩/\s.heap.get? b=some ⟨.type "list",dd2,.seq ys n2,sl2⟩/\(∀ j (h1:j < xs.size) (h2:j < ys.size),EqI prog w A.in1 s xs[j] ys[j])/\R (.ok (.ret (.bool false))) s) (fun A R s h=>?_) ⟨ho,ho2,he,(show Value.bool false≠Value.notImplemented/\Q (.bool false) s from ⟨(fun x=>nomatch x),q⟩)⟩) hu
  obtain ⟨hp,g,d,tk,os⟩:=s
  obtain ⟨hl,hb,he,h⟩:=h
  wp_walk using wpAny_loadPart' hl,wpAny_loadPart' hb
  refine ⟨plainId_quiet plain_eq_loop _,codeAny_builtin entry_eq_loop ?_⟩
  rw [Around.under_plainId plain_eq_loop _]
  exact jgT l b xs ys n n2 dd dd2 sl sl2 hsz 3 false (.inr ⟨rfl,rfl⟩) _ 0 rfl A R _ ⟨hl,hb,he,h⟩
theorem jfA {K:Type} [DecidableEq K] {knd:KeyKind prog w K} {E:Value->Shared->Prop} {nm:String} {a b:Addr} {ka kb:List (K×Value)} {Q:Bool->Shared->Prop} (ha:(a==sysModules)=false) (hb:(b==sysModules)=false) (da:s.heap.DictOf knd a ka) (db:s.heap.DictOf knd b kb)
  (hlen:ka.length=kb.length) (hits:∀ k v,(k,v)∈ka->∃ y,valueAt kb k=some y/\EqI prog w A s v y) (h:Q true s):wpAny (model prog w) A (Builtin.Dict.samePairs nm a b) Q E s:=by
 obtain ⟨oa,es,ep,hoa,_,hda,hka,hpa,_⟩:=da
 obtain ⟨ob,es',ep',hob,_,hdb,hkb,hpb,_⟩:=db
 have la:ka.length=es.size:=by rw [<- hpa.length]; exact Array.length_toList
 have lb:kb.length=es'.size:=by rw [<- hpb.length]; exact Array.length_toList
 have hsz:es.size=es'.size:=by rw [<- la,<- lb]; exact hlen
 have hfind:∀ k,findBy knd.is es' k=valueAt kb k:=fun k=>by
  rw [<- hpb.find k]
  clear lb hpb hkb hdb hob hsz
  obtain ⟨l⟩:=es'
  simp [findBy]
 unfold Builtin.Dict.samePairs Builtin.Dict.showsAll
 rw [if_neg (show ¬ (a==sysModules)=true by rw [ha]; exact Bool.false_ne_true),if_neg (show ¬ (b==sysModules)=true by rw [hb]; exact Bool.false_ne_true)]
 refine wpAny_bind (wpAny_pure (wpAny_bind (wpAny_pure (wpAny_bind (wpAny_dictEntries hoa hda ?_)))))
 dsimp only
 refine wpAny_bind (wpAny_dictEntries hob hdb ?_)
 rw [if_neg (by rw [hsz]; simp)]
 refine wpAny_bind (wpAny_dictEpoch hoa hda (wpAny_bind ?_))
 rw [Std.Legacy.Range.forIn_eq_forIn_range']
 simp only [Std.Legacy.Range.size,Nat.sub_zero,Nat.add_sub_cancel,Nat.div_one]
 refine wpAny_forIn_list _ (fun rest q s'=>s'=s/\q=(none,())/\∃ i,rest=List.range' i (es.size - i)/\i<=es.size) _ ?_ ?_ _ _ ⟨rfl,rfl,0,by simp,Nat.zero_le _⟩
 ·rintro x rest q s' ⟨rfl,rfl,i,hr,hi⟩
  have hlt:i < es.size:=by
   rcases Nat.lt_or_ge i es.size with z | z
   ·exact z
   ·rw [Nat.sub_eq_zero_of_le z] at hr; simp at hr
  obtain ⟨rfl,hrest⟩:x=i/\rest=List.range' (i+1) (es.size - (i+1)):=by
   rw [show es.size - i=(es.size - (i+1))+1 by omega,List.range'_succ] at hr
   injection hr with h1 h2
   exact ⟨h1,h2⟩
  refine wpAny_bind (wpAny_dictEntries hoa hda ?_)
  rw [Array.getElem?_eq_getElem hlt]
  have hlt':x < ka.length:=by rw [la]; exact hlt
  obtain ⟨k,v,hkv⟩:∃ k v,ka[x]=(k,v):=⟨_,_,rfl⟩
  obtain ⟨hkey,hval⟩:=hpa.get? (i:=x) (e:=es[x]) (k:=k) (v:=v) (by rw [Array.getElem?_toList]; exact Array.getElem?_eq_getElem hlt) (by rw [List.getElem?_eq_getElem hlt',hkv])
  obtain ⟨k',hk',hh⟩:=hka es[x] (Array.getElem_mem hlt)
  have ekk:k'=k:=knd.inj _ _ _ hk' hkey
  rw [ekk] at hh
  obtain ⟨y,hy,he⟩:=hits k v (by rw [<- hkv]; exact List.getElem_mem hlt')
  show wpAny _ _ (holding [es[x].key,es[x].val] _>>=_) _ _ _
  rw [hh]
  refine wpAny_bind (wpAny_holding (wpAny_bind (wpAny_dictFind_of hkey hob hdb hkb ?_)))
  cases hj:es'.findIdx? fun e=>knd.is k e.key with
  | none =>
   have hn:valueAt kb k=none:=by rw [<- hfind k,findBy_of_findIdx?,hj]
   rw [hn] at hy
   cases hy
  | some j =>
   obtain ⟨hjlt,_,_⟩:=Array.findIdx?_eq_some_iff_getElem.mp hj
   have hv':valueAt kb k=some es'[j].val:=by
    rw [<- hfind k,findBy_of_findIdx?,hj]
    simp [Array.getElem?_eq_getElem hjlt]
   refine wpAny_bind (wpAny_dictEntries hob hdb ?_)
   rw [Array.getElem?_eq_getElem hjlt]
   have ey:es'[j].val=y:=Option.some.inj (hv'.symm.trans hy)
   rw [<- ey,<- hval] at he
   refine wpAny_holding (he _ _ ?_)
   show wpAny _ _ (if (!true)=true then _ else _) _ _ _
   rw [if_neg (by decide)]
   refine wpAny_bind (wpAny_dictEpoch hoa hda ?_)
   rw [if_neg (by simp)]
   exact wpAny_pure ⟨rfl,rfl,x+1,hrest,hlt⟩
 ·rintro q s' ⟨rfl,rfl,i,hr,hi⟩
  exact wpAny_pure h
theorem jiY {K:Type} [DecidableEq K] {knd:KeyKind prog w K} {a b:Addr} {ka kb:List (K×Value)} (ha:(a==sysModules)=false) (hb:(b==sysModules)=false) (da:s.heap.DictOf knd a ka) (db:s.heap.DictOf knd b kb)
  (hlen:ka.length=kb.length) (hu:A.units < cLine) (hits:∀ k v,(k,v)∈ka->∃ y,valueAt kb k=some y/\EqI prog w A.in1 s v y):RcI prog w .Eq A s (.ref a) (.ref b) true/\RcI prog w .NotEq A s (.ref a) (.ref b) false:=by
 constructor
 ·intro E Q q
  refine wpAny_richCompare_same_room (op:=.Eq) da.typeIs db.typeIs PySem.F.slot_dict_eq (wpAny_call_entry PySem.F.slot_dict_eq da.typeIs PySem.F.entry_dict_eq ?_ (PySem.F.args_dict_eq_2 _ _)) hu
  show wpAny _ _ (Builtin.Dict.dictSlotArgs "__eq__" ⟨[.ref a,.ref b],[]⟩>>=_) _ _ s
  refine wpAny_bind ?_
  unfold Builtin.Dict.dictSlotArgs
  refine wpAny_bind (wpAny_notOrdered_dict da.typeIs ?_)
  show wpAny _ _ (pure (Value.ref a,Value.ref b)) _ _ s
  refine wpAny_pure (wpAny_bind (wpAny_isInstance (T:="dict") db.typeIs PySem.F.sub_dict_dict ?_))
  simp only [Bool.not_true,Bool.false_eq_true,if_false]
  refine wpAny_bind (wpAny_pure (wpAny_bind (wpAny_pure (wpAny_bind (jfA ha hb da db hlen hits ?_)))))
  exact wpAny_pure ⟨_,rfl,(fun x=>nomatch x),q⟩
 ·intro E Q q
  refine wpAny_richCompare_same_room (op:=.NotEq) da.typeIs db.typeIs PySem.F.slot_dict_ne (wpAny_call_entry PySem.F.slot_dict_ne da.typeIs PySem.F.entry_dict_ne ?_ (PySem.F.args_dict_ne_2 _ _)) hu
  show wpAny _ _ (Builtin.Dict.dictSlotArgs "__ne__" ⟨[.ref a,.ref b],[]⟩>>=_) _ _ s
  refine wpAny_bind ?_
  unfold Builtin.Dict.dictSlotArgs
  refine wpAny_bind (wpAny_notOrdered_dict da.typeIs ?_)
  show wpAny _ _ (pure (Value.ref a,Value.ref b)) _ _ s
  refine wpAny_pure (wpAny_bind (wpAny_isInstance (T:="dict") db.typeIs PySem.F.sub_dict_dict ?_))
  simp only [Bool.not_true,Bool.false_eq_true,if_false]
  refine wpAny_bind (wpAny_pure (wpAny_bind (wpAny_pure (wpAny_bind (jfA ha hb da db hlen hits ?_)))))
  exact wpAny_pure ⟨_,rfl,(fun x=>nomatch x),q⟩
end
def joK:V->Prop
 | .byt _=>False
 | .flt _=>False
 | .ty _=>False
 | _=>True
def EqT (K:PySem.W.Frag) (H:Hp):Nat->V->V->Prop
 | 0,x,y=>x=y/\joK x
 | n+1,x,y=>EqT K H n x y\/(∃ a b xs ys,x=.ref a/\y=.ref b/\SqL K H a xs/\SqL K H b ys/\Paired (EqT K H n) xs ys) \/
   (∃ a b xs ys,x=.ref a/\y=.ref b/\SqT K H a xs/\SqT K H b ys/\Paired (EqT K H n) xs ys)
def EqD (K:PySem.W.Frag) (H:Hp):Nat->V->V->Prop
 | 0,x,y=>EqT K H 0 x y
 | n+1,x,y=>EqT K H (n+1) x y\/(∃ a b xs ys,x=.ref a/\y=.ref b/\SqL K H a xs/\SqL K H b ys/\Paired (EqD K H n) xs ys) \/
   (∃ a b ka kb,x=.ref a/\y=.ref b/\Rd H a (.dK ka)/\Rd H b (.dK kb)/\ka.length=kb.length/\∀ k v,(k,v)∈ka->∃ v',jaW kb k=some v'/\EqD K H n v v')
theorem jbl {α β:Type} {F:α->β->Prop}:∀ {l₁:List α} {l₂:List β} {i:Nat} {x:α} {y:β},Paired F l₁ l₂->l₁[i]?=some x->l₂[i]?=some y->F x y
 | _,_,_,_,_,.nil,e,_=>by simp at e
 | _,_,0,_,_,.cons r _,e,e'=>by simp at e e'; subst e e'; exact r
 | _,_,i+1,_,_,.cons _ t,e,e'=>jbl (i:=i) t (by simpa using e) (by simpa using e')
section
variable {X:Cx} {pins:List (Addr×Obj)} {σ:St} {H:Hp} {s:Shared}
theorem jme (n:Nat):(List.range n).all (fun _=>true)=true:=by simp
theorem jfB (I:Inv X pins σ H s):∀ (n:Nat) {x y:V} {u v:Value} {A:Around},EqT X.K H n x y->RelV x u->RelV y v->A.units+n < cLine->SeqAt.EqAt A s u v true
 | 0,x,y,u,v,A,h,rx,ry,hu=>by
  obtain ⟨e,p⟩:=h
  subst e
  cases x with
  | non=>cases rx; cases ry; exact SeqAt.EqAt.same _
  | bl b=>cases rx; cases ry; exact SeqAt.EqAt.same _
  | int i =>
   obtain ⟨t,rfl⟩:=rx
   obtain ⟨t',rfl⟩:=ry
   have:=SeqAt.EqAt.int_int (A:=A) (s:=s) i t i t'
   rw [beq_self_eq_true] at this
   exact this
  | str z =>
   obtain ⟨t,rfl⟩:=rx
   obtain ⟨t',rfl⟩:=ry
   have:=SeqAt.EqAt.str_str (A:=A) (s:=s) z t z t'
   rw [beq_self_eq_true] at this
   exact this
  | ref a=>cases rx; cases ry; exact SeqAt.EqAt.same _
  | _=>exact False.elim p
 | n+1,x,y,u,v,A,h,rx,ry,hu=>by
  rcases h with h | ⟨a,b,xs,ys,rfl,rfl,ha,hb,hp⟩ | ⟨a,b,xs,ys,rfl,rfl,ha,hb,hp⟩
  ·exact jfB I n h rx ry (by omega)
  ·cases rx; cases ry
   obtain ⟨ia,ra,pa,_⟩:=I.list ha
   obtain ⟨ib,rb,pb,_⟩:=I.list hb
   by_cases e:a=b
   ·subst e; exact SeqAt.EqAt.same _
   ·have hsz:ia.toArray.size=ib.toArray.size:=by rw [List.size_toArray,List.size_toArray,<- ra.length,<- rb.length]; exact hp.length
    have q:=SeqAt.RcAt.lists (A:=A) (e:=fun _=>true) pa.isList pb.isList hsz (by omega) fun j j1 j2=>by
     have j1':j < ia.length:=by simpa using j1
     have j2':j < ib.length:=by simpa using j2
     have k1:j < xs.length:=by rw [ra.length]; exact j1'
     have k2:j < ys.length:=by rw [rb.length]; exact j2'
     obtain ⟨u1,e1,r1⟩:=ra.get (List.getElem?_eq_getElem k1)
     obtain ⟨u2,e2,r2⟩:=rb.get (List.getElem?_eq_getElem k2)
     have g1:ia.toArray[j]=u1:=by
      have:ia[j]?=some ia[j]:=List.getElem?_eq_getElem j1'
      rw [e1] at this
      simpa using (Option.some.inj this).symm
     have g2:ib.toArray[j]=u2:=by
      have:ib[j]?=some ib[j]:=List.getElem?_eq_getElem j2'
      rw [e2] at this
      simpa using (Option.some.inj this).symm
     rw [g1,g2]
     exact jfB I n (jbl hp (List.getElem?_eq_getElem k1) (List.getElem?_eq_getElem k2)) r1 r2 (by show A.units+1+n < cLine; omega)
    rw [jme] at q
    exact SeqAt.EqAt.of_refs e q
  ·cases rx; cases ry
   obtain ⟨ia,ra,pa,_⟩:=I.tuple ha
   obtain ⟨ib,rb,pb,_⟩:=I.tuple hb
   by_cases e:a=b
   ·subst e; exact SeqAt.EqAt.same _
   ·have hsz:ia.toArray.size=ib.toArray.size:=by rw [List.size_toArray,List.size_toArray,<- ra.length,<- rb.length]; exact hp.length
    have q:=SeqAt.RcAt.tuples (A:=A) (e:=fun _=>true) (show s.heap.IsTuple a ia.toArray from pa) (show s.heap.IsTuple b ib.toArray from pb) (by omega) fun j j1 j2=>by
     have j1':j < ia.length:=by simpa using j1
     have j2':j < ib.length:=by simpa using j2
     have k1:j < xs.length:=by rw [ra.length]; exact j1'
     have k2:j < ys.length:=by rw [rb.length]; exact j2'
     obtain ⟨u1,e1,r1⟩:=ra.get (List.getElem?_eq_getElem k1)
     obtain ⟨u2,e2,r2⟩:=rb.get (List.getElem?_eq_getElem k2)
     have g1:ia.toArray[j]=u1:=by
      have:ia[j]?=some ia[j]:=List.getElem?_eq_getElem j1'
      rw [e1] at this
      simpa using (Option.some.inj this).symm
     have g2:ib.toArray[j]=u2:=by
      have:ib[j]?=some ib[j]:=List.getElem?_eq_getElem j2'
      rw [e2] at this
      simpa using (Option.some.inj this).symm
     rw [g1,g2]
     exact jfB I n (jbl hp (List.getElem?_eq_getElem k1) (List.getElem?_eq_getElem k2)) r1 r2 (by show A.units+1+n < cLine; omega)
    rw [jme,hsz] at q
    exact SeqAt.EqAt.of_refs e (by simpa using q)
theorem jfC {n:Nat} {A:Around} {xs ys:List V} {ia ib:List Value} (ra:Vals xs ia) (rb:Vals ys ib) (hp:Paired (EqD X.K H n) xs ys)
  (ih:∀ {x y:V} {u v:Value},EqD X.K H n x y->RelV x u->RelV y v->EqI X.prog X.w A s u v) (j:Nat) (j1:j < ia.toArray.size) (j2:j < ib.toArray.size):EqI X.prog X.w A s ia.toArray[j] ib.toArray[j]:=by
 have j1':j < ia.length:=by simpa using j1
 have j2':j < ib.length:=by simpa using j2
 have k1:j < xs.length:=by rw [ra.length]; exact j1'
 have k2:j < ys.length:=by rw [rb.length]; exact j2'
 obtain ⟨u1,e1,r1⟩:=ra.get (List.getElem?_eq_getElem k1)
 obtain ⟨u2,e2,r2⟩:=rb.get (List.getElem?_eq_getElem k2)
 have g1:ia.toArray[j]=u1:=by
  have:ia[j]?=some ia[j]:=List.getElem?_eq_getElem j1'
  rw [e1] at this
  simpa using (Option.some.inj this).symm
 have g2:ib.toArray[j]=u2:=by
  have:ib[j]?=some ib[j]:=List.getElem?_eq_getElem j2'
  rw [e2] at this
  simpa using (Option.some.inj this).symm
 rw [g1,g2]
 exact ih (jbl hp (List.getElem?_eq_getElem k1) (List.getElem?_eq_getElem k2)) r1 r2
theorem jmf:∀ {kvs:List (Key×V)} {vs:List (Key×Value)} {k:Key} {u:Value},KV kvs vs->(k,u)∈vs->∃ v,(k,v)∈kvs/\RelV v u
 | _,_,_,_,.nil,h=>by cases h
 | _,_,k,u,.cons (a:=p) (b:=q) r t,h=>by
  rcases List.mem_cons.mp h with e | h
  ·subst e
   exact ⟨p.2,by rw [show (k,p.2)=p from by rw [<- show p.1=k from r.1]]; exact List.mem_cons_self,r.2⟩
  ·obtain ⟨v,h1,h2⟩:=jmf t h
   exact ⟨v,List.mem_cons_of_mem _ h1,h2⟩
theorem jgU {n:Nat} {A:Around} {a b:Addr} {ka kb:List (Key×V)} (I:Inv X pins σ H s) (ha:Rd H a (.dK ka)) (hb:Rd H b (.dK kb)) (hl:ka.length=kb.length) (hits:∀ k v,(k,v)∈ka->∃ v',jaW kb k=some v'/\EqD X.K H n v v') (hu:A.units < cLine)
  (ih:∀ {x y:V} {u v:Value},EqD X.K H n x y->RelV x u->RelV y v->EqI X.prog X.w A.in1 s u v):RcI X.prog X.w .Eq A s (.ref a) (.ref b) true/\RcI X.prog X.w .NotEq A s (.ref a) (.ref b) false:=by
 obtain ⟨za,ma,va,qa,da⟩:=jeD I.hok ha
 obtain ⟨zb,mb,vb,qb,db⟩:=jeD I.hok hb
 refine jiY ma mb da db (by rw [<- qa.length,<- qb.length]; exact hl) hu fun k u hm=>?_
 obtain ⟨v,hv,rv⟩:=jmf qa hm
 obtain ⟨v',e',q⟩:=hits k v hv
 obtain ⟨y,ey,ry⟩:=RelO.some_of (v:=v') (o:=valueAt vb k) (by rw [<- e']; exact qb.val k)
 exact ⟨y,ey,ih q rv ry⟩
theorem jmg (I:Inv X pins σ H s):∀ (n:Nat) {x y:V} {u v:Value} {A:Around},EqD X.K H n x y->RelV x u->RelV y v->A.units+n < cLine->EqI X.prog X.w A s u v
 | 0,x,y,u,v,A,h,rx,ry,hu=>EqI.of (jfB I 0 h rx ry hu)
 | n+1,x,y,u,v,A,h,rx,ry,hu=>by
  have ih:∀ {x y:V} {u v:Value},EqD X.K H n x y->RelV x u->RelV y v->EqI X.prog X.w A.in1 s u v:=fun {x y u v} h rx ry=>jmg I n h rx ry (by show A.units+1+n < cLine; omega)
  rcases h with h | ⟨a,b,xs,ys,rfl,rfl,ha,hb,hp⟩ | ⟨a,b,ka,kb,rfl,rfl,ha,hb,hl,hits⟩
  ·exact EqI.of (jfB I (n+1) h rx ry hu)
  ·cases rx; cases ry
   obtain ⟨ia,ra,pa,_⟩:=I.list ha
   obtain ⟨ib,rb,pb,_⟩:=I.list hb
   have hsz:ia.toArray.size=ib.toArray.size:=by rw [List.size_toArray,List.size_toArray,<- ra.length,<- rb.length]; exact hp.length
   exact EqI.refs fun _=>(jfz pa.isList pb.isList hsz (by omega) (jfC ra rb hp ih)).1
  ·cases rx; cases ry
   exact EqI.refs fun _=>(jgU I ha hb hl hits (by omega) ih).1
def joL (X:Cx) (k:Bool):R2:=fun x y H Q=>∃ n,X.A.units+n+1 < cLine/\((∃ a b xs ys,x=.ref a/\y=.ref b/\SqL X.K H a xs/\SqL X.K H b ys/\Paired (EqD X.K H n) xs ys) \/
 (∃ a b ka kb,x=.ref a/\y=.ref b/\Rd H a (.dK ka)/\Rd H b (.dK kb)/\ka.length=kb.length/\∀ k v,(k,v)∈ka->∃ v',jaW kb k=some v'/\EqD X.K H n v v'))/\Q (.bl k) H
theorem jiZ {x y:V} {u v:Value} {Q:VK} {k:Bool} (I:Inv X pins σ H s) (rx:RelV x u) (ry:RelV y v) (h:joL X k x y H Q):(RcI X.prog X.w .Eq X.A s u v true/\RcI X.prog X.w .NotEq X.A s u v false)/\Q (.bl k) H:=by
 obtain ⟨n,hu,h,q⟩:=h
 refine ⟨?_,q⟩
 have ih:∀ {x y:V} {u v:Value},EqD X.K H n x y->RelV x u->RelV y v->EqI X.prog X.w X.A.in1 s u v:=fun {x y u v} h rx ry=>jmg I n h rx ry (by show X.A.units+1+n < cLine; omega)
 rcases h with ⟨a,b,xs,ys,rfl,rfl,ha,hb,hp⟩ | ⟨a,b,ka,kb,rfl,rfl,ha,hb,hl,hits⟩
 ·cases rx; cases ry
  obtain ⟨ia,ra,pa,_⟩:=I.list ha
  obtain ⟨ib,rb,pb,_⟩:=I.list hb
  have hsz:ia.toArray.size=ib.toArray.size:=by rw [List.size_toArray,List.size_toArray,<- ra.length,<- rb.length]; exact hp.length
  exact jfz pa.isList pb.isList hsz (by omega) (jfC ra rb hp ih)
 ·cases rx; cases ry
  exact jgU I ha hb hl hits (by omega) ih
theorem jdM:OpR X (compareOp .NotEq) (joL X false):=by
 intro pins s σ H x y v u Q I rx ry h
 obtain ⟨⟨_,h1⟩,q⟩:=jiZ I rx ry h
 exact h1 _ _ ⟨.bl false,H,I,rfl,q⟩
end
def joM (sc:Scope) (N:List Str) (scope:Scope) (x:Str) (cp:List (Nat×Str)):Bool :=
 (scope.kind==.function)&&(scope.names.lookup x==some .local)&&decide ((x::cp.map (·.2)).Nodup)&&scope.names.all (fun y=>!(y.2==.local) || (scope.names.lookup y.1==some .local)) &&
 scope.names.all (fun y=>!(y.2==.cell))&&scope.names.all (fun y=>!(y.2==.free) || (sc.names.lookup y.1==some .cell)) &&
 cp.all (fun p=>(N[p.1]?==some p.2)&&(sc.names.lookup p.2==some .cell)&&(scope.names.lookup p.2==some .free))
theorem CompScope.of {X:Cx} {scope:Scope} {x:Str} {cp:List (Nat×Str)} (sc:Scope) (N:List Str) (e1:X.env.scope=sc) (e2:X.N=N) (h:joM sc N scope x cp=true):CompScope X scope x cp:=by
 subst e1 e2
 unfold joM at h
 simp only [Bool.and_eq_true,beq_iff_eq,decide_eq_true_eq,List.all_eq_true,Bool.or_eq_true,Bool.not_eq_true',beq_eq_false_iff_ne] at h
 obtain ⟨⟨⟨⟨⟨⟨h1,h2⟩,h3⟩,h4⟩,h5⟩,h6⟩,h7⟩:=h
 refine ⟨h1,h2,h3,fun y hy hk=>(h4 y hy).resolve_left fun z=>z hk,fun y hy=>h5 y hy,fun y hy hk=>(h6 y hy).resolve_left fun z=>z hk,?_⟩
 have go:∀ l:List (Nat×Str),(∀ p∈l,(X.N[p.1]?=some p.2/\X.env.scope.names.lookup p.2=some .cell)/\scope.names.lookup p.2=some .free)->CapOk X scope l:=by
  intro l
  induction l with
  | nil=>intro _; trivial
  | cons p r ih =>
   intro hp
   obtain ⟨⟨a,b⟩,c⟩:=hp p List.mem_cons_self
   exact ⟨⟨a,b,c⟩,ih fun q hq=>hp q (List.mem_cons_of_mem _ hq)⟩
 exact go cp h7
section
variable {X:Cx}
def tKGet (kvs:List (Key×V)) (ty:TE):TE:=fun σ H Q=>ty σ H fun y H1=>∃ k v,y=kV k/\jaW kvs k=some v/\Q v H1
theorem jja {x:Str} {a:Addr} {i:Expr} {ty:TE} {p pos:Pos} {kvs:List (Key×V)} (hg:Gl X x) (hm:X.mg x=some (.ref a)) (hd:∀ h:Heap,X.K.In h->∃ vs,KV kvs vs/\h.DictOf (jaC X.prog X.w) a vs) (hi:PE X i ty) (hs:NoSl i)
  (hdb:(x==("__debug__":Str))=false:=by decide):PE X (.Subscript (.Name x p) i pos) (tKGet kvs ty):=by
 intro pins s σ H Q I h
 have ho:PE X (.Name x p) (tC (.ref a)):=jaV hg hm rfl hdb
 refine subD_of PySem.F.slot_dict_getitem.lookup hs (thn (ho pins s σ H (fun v H'=>v=.ref a/\H'=H) I ⟨rfl,rfl⟩) fun u s1 ⟨xv,H1,I1,rx,e1,e2⟩=>?_)
 subst e1 e2
 obtain rfl:u=Value.ref a:=rx
 refine thn (hi pins s1 σ H1 _ I1 h) fun iv s2 ⟨y,H2,I2,ry,k,v,ey,ev,q2⟩=>?_
 subst ey
 obtain ⟨vs,rel,dd⟩:=hd s2.heap I2.kIn
 obtain ⟨w',hw,rw'⟩:=RelO.some_of (v:=v) (o:=valueAt vs k) (by rw [<- ev]; exact rel.val k)
 exact ⟨dd.typeIs,wpAny_getItem_of (jhU ry) dd.mapOf hw ⟨v,H2,I2.tok _,rw',q2⟩⟩
end
theorem jfD {H:Hp} {a:Addr} {o o':HO}:upd (upd H a o) a o'=upd H a o':=by
 funext b; unfold upd; split <;> rfl
theorem jah {H:Hp} {p:Addr} (h:H p=none) (o:HO):Same H (upd H p o):=fun b u q=>by rw [upd_ne (ne_of_none q h)]; exact q
theorem jce {n:Nat} (h:n<=1000):n<=sizeLine:=Nat.le_of_lt (jbf h)
theorem jbJ {c A B:Prop} [Decidable c] (hc:c) (h:A):if decide c=true then A else B:=by rw [decide_eq_true hc]; exact jdx h
theorem jaJ {c A B:Prop} [Decidable c] (hc:¬ c) (h:B):if decide c=true then A else B:=by rw [decide_eq_false hc]; exact jbA h
theorem iteN {c A B:Prop} [Decidable c] (hc:¬ c) (h:A):if (!decide c)=true then A else B:=by rw [decide_eq_false hc]; exact jdx h
theorem blT {c:Prop} [Decidable c] {Q:VK} {H:Hp} (hc:c) (h:Q (.bl true) H):Q (.bl (decide c)) H:=by rw [decide_eq_true hc]; exact h
theorem jnh {z:Array Nat} {i c:Nat} (h:z[i]?=some c):c∈z.toList:=by rw [<- Array.getElem?_toList] at h; exact List.mem_of_getElem? h
theorem jgV {a b:Nat} (ha:a<=500) (hb:b<=500):a+b<=sizeLine:=jce (by omega)
def jfE:List Expr->Option (List Str)
 | []=>some []
 | .Constant (.str x) _ _::r=>(jfE r).map (x::·)
 | _=>none
def jni (zs:List Str):TA:=fun _ H Q=>Q (zs.map V.str) H
theorem jjb {X:Cx}:∀ {es:List Expr} {zs:List Str},jfE es=some zs->PA X es (jni zs)
 | [],zs,h=>by
  have e:zs=[]:=(Option.some.inj h).symm
  subst e
  exact fun pos pins s σ H Q I q=>jad pos pins s σ H Q I q
 | e::r,zs,h=>by
  cases e with
  | Constant c j pos =>
   cases c with
   | str x =>
    have h':(jfE r).map (x::·)=some zs:=h
    cases hr:jfE r with
    | none=>rw [hr] at h'; cases h'
    | some ys =>
     rw [hr] at h'
     have e:zs=x::ys:=(Option.some.inj h').symm
     subst e
     exact fun pos pins s σ H Q I q=>jaa (jax (X:=X)) (jjb hr) rfl pos pins s σ H Q I q
   | _=>cases h
  | _=>cases h
theorem jeE {X:Cx} {es:List Expr} {pos:Pos} (zs:List Str) (h:jfE es=some zs):PE X (.List es pos) (tLst (jni zs)):=jba (jjb h)
def XAt (B:Heap) (a:Addr) (cls:Value) (dx:Option Addr) (fl:Value) (h:Heap):Prop :=
 ∃ (x:Obj) (xs:Array Value) (T:Addr) (y:Obj) (ys:Array Value),h.get? a=some x/\x.cls=cls/\x.dict=dx/\x.data=.fields xs/\xs[1]?=some (.ref T)/\B.get? T=none/\T≠a /\
  h.get? T=some y/\y.data=.fields ys/\ys[3]?=some fl
def XNew (a:Addr) (cls:Value) (dx:Option Addr) (h:Heap):Prop :=
 ∃ (x:Obj) (xs:Array Value),h.get? a=some x/\x.cls=cls/\x.dict=dx/\x.data=.fields xs/\xs[1]?=some .none
theorem jek (o:Obj) (f:Array Value->Array Value):(o.mapFields f).dict=o.dict:=by
 obtain ⟨c,d,dt,sl⟩:=o
 cases dt <;> rfl
section
variable {M:Model} {A:Around} {E:Value->Shared->Prop} {s:Shared} {B:Heap} {env:Env} {outer:List Env} {L a:Addr}
theorem jjc {x:Obj} {xs:Array Value} {head:Value} {nx:Bool} {Q:Unit->Shared->Prop} (fr:A.frames=some (env::outer)) (fl:s.heap.FunFrames B (env::outer)) (ef:env.frame=some L)
  (ha:s.heap.get? a=some x) (hB:B.StaysIn s.heap) (na:B.get? a=none) (hd:x.data=.fields xs) (hz:1 < xs.size)
  (q:∀ h',B.StaysIn h'->h'.FunFrames B (env::outer)->XAt B a x.cls x.dict (rawInt L) h'->s.heap.UpToSlots h'->Q () {s with heap:=h'}) :
  wpAny M A (do let f <- frameOf env; let pl <- entryPlaceOf L nx; let b <- EntryCells.newEntry head f .none (rawInt L) .none pl; setField (.ref a) 1 b) Q E s:=by
 have nf:a∉(env::outer).filterMap (·.frame):=fun hm=>by
  obtain ⟨_,o,ho,n⟩:=fl.mem hm
  rw [ha] at ho
  cases ho
  exact n xs hd
 refine wpAny_bind (wpAny_frameOf_fun fr fl ef fun h1 so=>wpAny_bind (wpAny_entryPlaceOf fun pl ip=>?_))
 obtain ⟨sz,oth,slo⟩:=so
 unfold EntryCells.newEntry newFields
 refine wpAny_bind (wpAny_newObj_type ?_ (ip.sizeOk5 _ _ _ _ _))
 generalize hT:([head,Value.ref L,Value.none,rawInt L,Value.none]++(if pl.isEmpty then List.replicate 6 Value.none else pl)).toArray=tv
 have t3:tv[3]?=some (rawInt L):=by
  subst hT
  rcases ip with rfl | ⟨_,_,_,_,_,_,_,rfl⟩ <;> simp
 have a1:h1.get? a=some x:=(oth a nf).trans ha
 have B1:B.StaysIn h1:=fun b o e=>(oth b fun hm=>by rw [(fl.mem hm).1] at e; cases e).trans (hB b o e)
 generalize hO:({cls:=.type "traceback",dict:=none,data:=.fields tv}:Obj)=O
 have a2:(h1.push O).get? a=some x:=Heap.get?_push_of_some O a1
 have nT:h1.objs.size≠a:=Nat.ne_of_gt (Heap.lt_size a1)
 have d3:=Obj.data_mapFields hd (·.setIfInBounds 1 (Value.ref h1.objs.size))
 have a3:=Heap.get?_update_self (Obj.mapFields (·.setIfInBounds 1 (Value.ref h1.objs.size))) a2 (Obj.isFreed_of_fields d3)
 have T3:((h1.push O).update a (Obj.mapFields (·.setIfInBounds 1 (Value.ref h1.objs.size)))).get? h1.objs.size=some O :=
  (Heap.get?_update_other _ _ (Ne.symm nT)).trans (Heap.get?_push_size h1 (by subst hO; rfl))
 have kp:∀ b o,b≠a->h1.get? b=some o->((h1.push O).update a (Obj.mapFields (·.setIfInBounds 1 (Value.ref h1.objs.size)))).get? b=some o:=fun b o n e =>
  (Heap.get?_update_other _ _ (Ne.symm n)).trans (Heap.get?_push_of_some O e)
 have nrec:∀ b o,s.heap.get? b=some o->(∀ vs,o.data≠.fields vs)->b≠a:=fun b o e n z=>by
  rw [z,ha] at e
  cases e
  exact n xs hd
 refine wpAny_setField a2 hd hz (q _ (fun b o e=>kp b o (fun z=>by rw [z,na] at e; cases e) (B1 b o e)) (fl.of_keeps fun b o e n=>?_) ?_ fun b o e n=>?_)
 ·obtain ⟨sl,e1⟩:=slo b o e
  exact ⟨_,kp b _ (nrec b o e n) e1,rfl⟩
 ·exact ⟨_,_,h1.objs.size,O,tv,a3,Obj.cls_mapFields _ _,jek _ _,d3,by simp [hz],B1.fresh,nT,T3,by subst hO; rfl,t3⟩
 ·obtain ⟨sl,e1⟩:=slo b o e
  exact ⟨sl,kp b _ (nrec b o e n) e1⟩
theorem jmh {cls:Value} {dx:Option Addr} {Q:Unit->Shared->Prop} (fr:A.frames=some (env::outer)) (fl:s.heap.FunFrames B (env::outer)) (ef:env.frame=some L) (hB:B.StaysIn s.heap) (na:B.get? a=none)
  (hx:XNew a cls dx s.heap\/∃ fl,XAt B a cls dx fl s.heap)
  (q:∀ h',B.StaysIn h'->h'.FunFrames B (env::outer)->XAt B a cls dx (rawInt L) h'->s.heap.UpToSlots h'->Q () {s with heap:=h'}):wpAny M A (noteFrame (.ref a) env) Q E s:=by
 rcases hx with ⟨x,xs,ha,hc,hdx,hd,h1⟩ | ⟨fv,hx⟩
 unfold noteFrame
 simp only [ef]
 ·subst hc hdx
  refine wpAny_bind (wpAny_field ha hd h1 ?_)
  rw [if_neg (by decide)]
  exact jjc fr fl ef ha hB na hd (Array.getElem?_eq_some_iff.mp h1).1 q
 ·obtain ⟨x,xs,T,y,ys,ha,hc,hdx,hd,h1,nT,Ta,hT,dT,h3⟩:=id hx
  by_cases ev:(fv==rawInt L)=true
  ·have ev':fv=rawInt L:=by simpa using ev
   subst ev'
   exact wpAny_noteFrame_inFlight ef ha hd h1 hT dT h3 (q s.heap hB fl hx (.refl _))
  unfold noteFrame
  simp only [ef]
  subst hc hdx
  refine wpAny_bind (wpAny_field ha hd h1 ?_)
  rw [if_pos (show (Value.ref T != Value.none)=true by simp)]
  refine wpAny_bind (wpAny_field hT dT h3 ?_)
  rw [if_neg ev]
  refine wpAny_bind (wpAny_setField hT dT (Array.getElem?_eq_some_iff.mp h3).1 ?_)
  have oth:∀ b,b≠T->(s.heap.update T (Obj.mapFields (·.setIfInBounds 3 Value.none))).get? b=s.heap.get? b:=fun b n=>Heap.get?_update_other _ _ (Ne.symm n)
  have nrec:∀ b o,s.heap.get? b=some o->(∀ vs,o.data≠.fields vs)->b≠T:=fun b o e n z=>by
   rw [z,hT] at e
   cases e
   exact n ys dT
  exact jjc fr (fl.of_keeps fun b o e n=>⟨o,(oth b (nrec b o e n)).trans e,rfl⟩) ef ((oth a (Ne.symm Ta)).trans ha) (fun b o e=>(oth b fun z=>by rw [z,nT] at e; cases e).trans (hB b o e)) na hd (Array.getElem?_eq_some_iff.mp h1).1
   fun h' k1 k2 k3 k4=>q h' k1 k2 k3 fun b o e n=>k4 b o ((oth b (nrec b o e n)).trans e) n
theorem jjd {l:List Env} {cls fl:Value} {dx:Option Addr} {to:Option Addr} {Q:Unit->Shared->Prop} (ff:s.heap.FunFrames B l) (hB:B.StaysIn s.heap) (hx:XAt B a cls dx fl s.heap)
  (q:∀ h',B.StaysIn h'->h'.FunFrames B l->XAt B a cls dx (to.elim .none fun f=>rawInt f) h'->s.heap.UpToSlots h'->Q () {s with heap:=h'}):wpAny M A (setFlight (.ref a) to) Q E s:=by
 obtain ⟨x,xs,T,y,ys,ha,hc,hdx,hd,h1,nT,Ta,hT,dT,h3⟩:=hx
 have z3:3 < ys.size:=(Array.getElem?_eq_some_iff.mp h3).1
 unfold setFlight
 refine wpAny_bind (wpAny_field ha hd h1 ?_)
 rw [if_pos (show (Value.ref T != Value.none)=true by simp)]
 have oth:∀ b,b≠T->(s.heap.update T (Obj.mapFields (·.setIfInBounds 3 (to.elim Value.none fun f=>rawInt f)))).get? b=s.heap.get? b:=fun b n=>Heap.get?_update_other _ _ (Ne.symm n)
 have nrec:∀ b o,s.heap.get? b=some o->(∀ vs,o.data≠.fields vs)->b≠T:=fun b o e n z=>by
  rw [z,hT] at e
  cases e
  exact n ys dT
 refine wpAny_setField hT dT z3 (q _ (fun b o e=>(oth b fun z=>by rw [z,nT] at e; cases e).trans (hB b o e)) (ff.of_keeps fun b o e n=>⟨o,(oth b (nrec b o e n)).trans e,rfl⟩) ?_ fun b o e n=>⟨o.slots,(oth b (nrec b o e n)).trans e⟩)
 exact ⟨x,xs,T,_,_,(oth a (Ne.symm Ta)).trans ha,hc,hdx,hd,h1,nT,Ta,Heap.get?_update_self _ hT (Obj.isFreed_of_fields (Obj.data_mapFields dT _)),Obj.data_mapFields dT _,by simp [z3]⟩
end
structure Fl (B:Heap) (l:List Env) (a:Addr) (cls:Value) (dx:Option Addr) (h:Heap):Prop where
 st:B.StaysIn h
 new:B.get? a=none
 fr:h.FunFrames B l
 tr:XAt B a cls dx .none h
structure Kp (B:Heap) (fs:List Addr) (H':Hp) (h h':Heap):Prop where
 old:∀ b o,h.get? b=some o->b∉fs->∃ o',h'.get? b=some o'/\B.get? b=some o'
 trk:∀ b u,H' b=some u->∃ o,h'.get? b=some o/\B.get? b=some o
def CXr (P:Program) (w:World):CXT:=fun outer H s E e s'=>∃ (a:Addr) (cls:Value) (dx:Option Addr) (H':Hp) (B:Heap),e=.ref a/\s'.os=s.os/\AllBare s'.gens/\Un (frs outer) [] H H' s.heap s'.heap/\HOk P w H' s'.heap /\
 Fl B outer a cls dx s'.heap/\Kp B (frs outer) H' s.heap s'.heap/\E cls dx H'
theorem ObjOk.is {P:Program} {w:World} {H:Hp} {h:Heap} {a:Addr} {o:HO} (x:ObjOk P w H h a o):∃ ob,h.get? a=some ob:=by
 cases o with
 | lst xs=>obtain ⟨_,_,_,_,e⟩:=x; exact ⟨_,e⟩
 | tup xs=>obtain ⟨_,_,_,_,e,_⟩:=x; exact ⟨_,e⟩
 | dK kvs=>obtain ⟨_,_,_,_,o,_,_,e,_⟩:=x; exact ⟨_,e⟩
 | dT kvs=>obtain ⟨_,_,_,_,o,_,_,e,_⟩:=x; exact ⟨_,e⟩
 | set S n=>obtain ⟨o,_,_,_,e,_⟩:=x; exact ⟨_,e⟩
 | ins C dx fs=>obtain ⟨_,_,_,e,_⟩:=x; exact ⟨_,e⟩
 | own y=>exact x
 | xd fs=>obtain ⟨_,⟨_,_,_,e,_⟩,_⟩:=x; exact ⟨_,e⟩
 | rng lo hi=>obtain ⟨_,_,_,e⟩:=x; exact ⟨_,e⟩
 | frz ob u=>obtain ⟨e,_⟩:=x; exact ⟨_,e⟩
 | tbl ps=>exact ⟨_,x⟩
 | met f y=>exact ⟨_,x⟩
 | ext φ=>obtain ⟨_,e,_⟩:=x; exact e
theorem HOk.inB {P:Program} {w:World} {H:Hp} {h h' B:Heap} (x:HOk P w H h) (t:∀ b u,H b=some u->∃ o,h.get? b=some o/\B.get? b=some o) (st:B.StaysIn h'):HOk P w H h':=fun b u e=>by
 have go:∀ c v,(∃ u',H c=some u')->h.get? c=some v->h'.get? c=some v:=fun c v ⟨u',e'⟩ q=>by
  obtain ⟨o,e1,e2⟩:=t c u' e'
  rw [q] at e1
  cases e1
  exact st c _ e2
 refine (x b u e).stay (fun c v hc q=>?_) (fun _ q=>q) fun _ _ q=>q
 rcases hc with z | z
 ·exact go c v ⟨u,by rw [z]; exact e⟩ q
 ·exact go c v ⟨_,z⟩ q
theorem jle {env:Env} {l:List Env} {L:Addr} (h:env.frame=some L):frs (env::l)=L::frs l:=by
 unfold frs
 rw [List.filterMap_cons,h]
theorem Un.away {fs:List Addr} {L:Addr} {H H2:Hp} {h h2 h3 B:Heap} (u:Un fs [] H H2 h h2) (hL:h.objs.size<=L)
  (old:∀ b o,h.get? b=some o->b∉L::fs->∃ o',h2.get? b=some o'/\B.get? b=some o') (st:B.StaysIn h3) (up:h2.UpToSlots h3) (nf:∀ b∈fs,∀ o,h2.get? b=some o->∀ vs,o.data≠.fields vs):Un fs [] H H2 h h3:=by
 have no:∀ b o,h.get? b=some o->b∉fs->b∉L::fs:=fun b o e hb z=>(List.mem_cons.mp z).elim (fun z=>absurd (Nat.lt_of_lt_of_le (Heap.lt_size e) (z▸hL)) (Nat.lt_irrefl _)) hb
 refine ⟨fun b o e n hb _=>?_,fun b o e n hb _=>?_,u.free,fun b o e _=>?_,u.tups,u.frzs,u.tbls⟩
 ·have e2:=u.keep b o e n hb (by simp)
  obtain ⟨o',e3,e4⟩:=old b o e (no b o e hb)
  rw [e2] at e3
  cases e3
  exact st b _ e4
 ·obtain ⟨s2,e2⟩:=u.slot b o e n hb (by simp)
  obtain ⟨s3,e3⟩:=up b _ e2 (nf b hb _ e2)
  exact ⟨s3,e3⟩
 ·obtain ⟨o2,e2⟩:=u.there b o e (by simp)
  by_cases hb:b∈fs
  ·obtain ⟨s3,e3⟩:=up b _ e2 (nf b hb _ e2)
   exact ⟨_,e3⟩
  ·obtain ⟨o',_,e4⟩:=old b o e (no b o e hb)
   exact ⟨o',st b _ e4⟩
def XHere (B:Heap) (a:Addr) (cls:Value) (dx:Option Addr) (h:Heap):Prop:=XNew a cls dx h\/∃ fl,XAt B a cls dx fl h
structure Raw (X:Cx) (E:XK) (a:Addr) (cls:Value) (dx:Option Addr) (H:Hp) (B:Heap) (s:Shared):Prop where
 ok:X.Ok
 os:s.os=X.s₀.os
 bare:AllBare s.gens
 base:Un X.fs X.ex X.H₀ H X.s₀.heap s.heap
 hok:HOk X.prog X.w H s.heap
 st:B.StaysIn s.heap
 new:B.get? a=none
 fr:s.heap.FunFrames B X.stack
 at_:XHere B a cls dx s.heap
 kp:Kp B (frs X.stack) H X.s₀.heap s.heap
 q:E cls dx H
def RawX (X:Cx) (E:XK) (e:Value) (s:Shared):Prop:=∃ a cls dx H B,e=.ref a/\Raw X E a cls dx H B s
def XOk (X:Cx) (E:XK):Prop:=∀ e s,RawX X E e s->X.xe e s
section
variable {P:Program} {w:World} {K:PySem.W.Frag} {mg:Str->Option Value} {base:Heap} {N:List Str} {qual:Str} {scope:Scope} {f:Addr} {cd:Value} {A:Around} {outer:List Env} {s:Shared} {H:Hp} {E:XK}
theorem joN {H2:Hp} {s2:Shared} {a:Addr} {cls:Value} {dx:Option Addr} {B:Heap} (R:Raw (jhP (CXr P w) P w K mg base N qual scope f cd A outer s H E) E a cls dx H2 B s2) :
  (jhP (CXr P w) P w K mg base N qual scope f cd A outer s H E).xe (.ref a) s2:=by
 obtain ⟨ok,ros,bare,rbase,rhok,st,na,fr,hx,kp,q⟩:=R
 have fr:s2.heap.FunFrames B (envOfC qual scope s.heap.objs.size f cd::outer):=fr
 have kp:Kp B (frs (envOfC qual scope s.heap.objs.size f cd::outer)) H2 s.heap s2.heap:=kp
 have ef:(envOfC qual scope s.heap.objs.size f cd).frame=some s.heap.objs.size:=rfl
 have eF:=jle (l:=outer) ef
 rw [eF] at kp
 show wpAny (model P w) (A.deeper (envOfC qual scope s.heap.objs.size f cd)) (leaving (envOfC qual scope s.heap.objs.size f cd) (.ref a)) (fun _ s''=>CXr P w outer H s E (.ref a) s'') (fun e' s''=>CXr P w outer H s E e' s'') s2
 unfold leaving
 have hfr:(A.deeper (envOfC qual scope s.heap.objs.size f cd)).frames=some (envOfC qual scope s.heap.objs.size f cd::outer):=ok.frames
 refine wpAny_bind (jmh hfr fr ef st na hx fun h3 st3 fr3 x3 up3=>?_)
 refine jjd fr3 st3 x3 fun h4 st4 fr4 x4 up4=>?_
 have up:s2.heap.UpToSlots h4:=up3.trans up4
 have base0:Un (frs outer) [] H H2 s.heap s2.heap:=rbase
 have u:=Un.away (L:=s.heap.objs.size) base0 (Nat.le_refl _) kp.old st4 up fun b hb o e=>by
  obtain ⟨_,o',e',n⟩:=fr.mem (show b∈(envOfC qual scope s.heap.objs.size f cd::outer).filterMap (·.frame) by
   have:b∈frs (envOfC qual scope s.heap.objs.size f cd::outer):=by rw [eF]; exact List.mem_cons_of_mem _ hb
   exact this)
  rw [e] at e'
  cases e'
  exact n
 refine ⟨a,cls,dx,H2,B,rfl,ros,bare,u,HOk.inB (P:=P) (w:=w) rhok kp.trk st4,⟨st4,na,fr4.2.2,x4⟩,⟨fun b o e hb=>?_,fun b v e=>?_⟩,q⟩
 ·obtain ⟨o2,_,e3⟩:=kp.old b o e fun z=>(List.mem_cons.mp z).elim (fun z=>absurd (Nat.lt_of_lt_of_le (Heap.lt_size e) (Nat.le_of_eq z.symm)) (Nat.lt_irrefl _)) hb
  exact ⟨o2,st4 b _ e3,e3⟩
 ·obtain ⟨o,_,e2⟩:=kp.trk b v e
  exact ⟨o,st4 b _ e2,e2⟩
theorem joO:XOk (jhP (CXr P w) P w K mg base N qual scope f cd A outer s H E) E:=by
 rintro e s2 ⟨a,cls,dx,H2,B,rfl,R⟩
 exact joN R
end
section
variable {X:Cx} {E E':XK}
theorem jje {pins:List (Addr×Obj)} {σ:St} {H1:Hp} {s1:Shared} {a:Addr} {cls:Value} {dx:Option Addr} (I:Inv X pins σ H1 s1) (hex:X.ex=[])
  (n1:H1 a=none) (n2:X.s₀.heap.get? a=none) (hx:XNew a cls dx s1.heap) (q:E cls dx H1):RawX X E (.ref a) s1:=by
 have hin:∀ env∈X.stack,∀ b,env.frame=some b->b∈a::frs X.stack:=fun env he b hb=>List.mem_cons_of_mem _ (List.mem_filterMap.mpr ⟨env,he,hb⟩)
 refine ⟨a,cls,dx,H1,PySem.W.hideAll s1.heap (a::frs X.stack),rfl,I.ok,I.os,I.bare,I.base,I.hok,fun b o e=>PySem.W.of_hideAll _ e,PySem.W.hideAll_none _ List.mem_cons_self,PySem.W.funFrames_hide I.stack hin,.inl hx,⟨fun b o e hb=>?_,fun b u e=>?_⟩,q⟩
 ·obtain ⟨o1,e1⟩:=I.base.there b o e (by rw [hex]; simp)
  refine ⟨o1,e1,PySem.W.hideAll_get _ e1 fun z=>?_⟩
  rcases List.mem_cons.mp z with z | z
  ·rw [z,n2] at e; cases e
  ·exact hb z
 ·obtain ⟨o,e1⟩:=(I.hok b u e).is
  refine ⟨o,e1,PySem.W.hideAll_get _ e1 fun z=>?_⟩
  rcases List.mem_cons.mp z with z | z
  ·rw [z,n1] at e; cases e
  ·have:=I.stkFree b z
   rw [this] at e; cases e
end
theorem Fun.okR {P:Program} {w:World} {K:PySem.W.Frag} {mg:Str->Option Value} {base:Heap} {x qual:Str} {st:Stmt} {f:Addr} {fd:FuncData} {N ps:List Str} {k:Nat} {sp:Sp} (F:Fun K x qual st f fd) (S:FnScope N ps (jag st)) (len:∀ vs H Q E,sp vs H Q E->vs.length=ps.length)
  (hbody:∀ (cdv:Value) (A:Around) (outer:List Env) (s:Shared) (H:Hp) (vs:List V) (Q:VK) (E:XK),Room k (A.deeper (envOfC qual (jag st) s.heap.objs.size f cdv))->sp vs H Q E ->
   XOk (jhP (CXr P w) P w K mg base N qual (jag st) f cdv A outer s H E) E ->
   ∃ t,PSs (jhP (CXr P w) P w K mg base N qual (jag st) f cdv A outer s H E) (jaP st) t/\t {nx:=fun _ H'=>Q .non H',rt:=Q} (jeh N vs) H):FnOk P w K mg base (CXr P w) (k+1) f fd ps sp:=by
 obtain ⟨oc,od,kV,doc,pm,an,cdv,ct,osl,rfl,lk,hcd⟩:=F.ex
 exact jmX lk hcd S len fun A outer s H vs Q E hr hsp=>hbody cdv A outer s H vs Q E hr hsp joO
abbrev jbP:List Value:=[.type "ValueError",.type "Exception",.type "BaseException",.type "object"]
theorem jnj {K:PySem.W.Frag} {h:Heap} {C:Addr} {bmB:List Value} {newId:String} (X:K.In h) (q:PySem.W.excIn K C bmB newId=true) :
  ∃ bm N nm qn bs hdct sn sub ab col dd k0 k1 k2 k3 k5 mN,h.get? C=some (excClassObj nm qn C N bs bm hdct sn sub ab col dd k0 k1 k2 k3 k5 newId)/\h.Ns N mN/\mN "__init__"=none/\OwnTail h bmB bm:=by
 unfold PySem.W.excIn at q
 split at q
 ·rename_i dd cd sl ho
  split at q
  ·rename_i C' bm k0 k1 k2 k3 n k5 hm hs
   simp only [Bool.and_eq_true,beq_iff_eq,Bool.not_eq_true'] at q
   obtain ⟨⟨⟨⟨⟨e1,e2⟩,e3⟩,e4⟩,e5⟩,e6⟩:=q
   subst e1 e2
   obtain ⟨nm,bs,mro,ns,qn,hd,sn,sub,ab,col,del⟩:=cd
   dsimp only at hm e3 e5 e6
   subst hm e3
   have z:sl=#[k0,k1,k2,k3,some (.builtin n),k5]:=by
    obtain ⟨l⟩:=sl
    exact congrArg Array.mk hs
   subst z
   exact ⟨bm,ns,nm,qn,bs,hd,sn,sub,ab,col,dd,k0,k1,k2,k3,k5,_,X _ _ ho,.of_isNs (PySem.W.isNs_of_in X e5),PySem.W.nsMap_none_of_in X e5 e6,PySem.W.tail_of_in X e4⟩
  ·cases q
 ·cases q
section
variable {X:Cx} {C:Addr} {x:Str} {np cpos pos:Pos} {e:Expr} {es:List Expr} {t:TA} {E:XK}
def joP (C:Addr) (E:XK) (t:TA):TS:=fun _ σ H=>t σ H fun vs H1=>vs.length<=1000/\E (.ref C) none H1
theorem jlf (q:PySem.W.excIn X.K C jbP "ValueError.__new__"=true) (hg:Gl X x) (hm:X.mg x=some (.ref C)) (ha:PA X (e::es) t) (hX:XOk X E) (hc:X.calm=true:=by rfl) (hex:X.ex=[]:=by rfl)
  (he:starEach (e::es) X.env=(false,eval e X.env)::starEach es X.env:=by rfl) (hpl:(backTo cpos (starEach es X.env)).any (·.1)=false:=by rfl) (hd:(x==("__debug__":Str))=false:=by decide) :
  PS X (.Raise (some (.Call (.Name x np) (e::es) [] cpos)) none pos) (joP C E t):=by
 intro pins s σ H D I h
 obtain ⟨bm,N,nm,qn,bs,hdct,sn,sub,ab,col,dd,k0,k1,k2,k3,k5,mN,hC,hN,hni,T⟩:=jnj I.mod.kin q
 refine wpAny_Raise_call_subT (C:=C) (N:=N) (nm:=nm) (q:=qn) (bs:=bs) (bm:=bm) (hdct:=hdct) (sn:=sn) (sub:=sub) (ab:=ab) (col:=col) (dd:=dd) (k0:=k0) (k1:=k1) (k2:=k2) (k3:=k3) (k5:=k5) PySem.F.excBase_ValueError
  (T.hasType PySem.F.excBase_ValueError.hasBase) (I.ok.hd hc) (by rw [he]; show (false || (backTo cpos (starEach es X.env)).any (·.1))=false; rw [hpl]; rfl) hni ?_
 refine ld_glob I hg hm ⟨rfl,?_⟩ hd
 have h2:=ha cpos pins s σ H _ I h
 rw [he] at h2 ⊢
 refine Calls.evalArgs_plain (thn h2 fun us s1 ⟨vs,H1,I1,r1,hl,q1⟩=>⟨rfl,?_,I1.bk _ _ hC,hN.keeps I1.bk,T.keeps I1.bk,fun h' a mk=>?_⟩)
 ·show us.length<=sizeLine
  rw [<- r1.length]
  exact Nat.le_of_lt (jbf hl)
 ·have I2:Inv X pins σ H1 {s1 with heap:=h'}:=I1.kept (t':=s1.toks) mk.keeps
  refine hX _ _ (jje I2 hex ?_ ?_ ?_ q1)
  ·cases z:H1 a with
   | none=>rfl
   | some u =>
    obtain ⟨o,e1⟩:=(I1.hok a u z).is
    rw [mk.new] at e1; cases e1
  ·cases z:X.s₀.heap.get? a with
   | none=>rfl
   | some o =>
    obtain ⟨o',e1⟩:=I1.base.there a o z (by rw [hex]; simp)
    rw [mk.new] at e1; cases e1
  ·obtain ⟨t',e1,_⟩:=mk.there
   exact ⟨_,_,e1,rfl,rfl,rfl,rfl⟩
end
section
variable {prog:Program} {w:World} {A:Around} {R:Result->Shared->Prop} {s:Shared}
end
section
variable {X:Cx} {E:XK} {pins:List (Addr×Obj)} {σ:St} {H0:Hp} {s0:Shared} {fp:List Addr} {C:Addr}
end
section
variable {X:Cx} {pins:List (Addr×Obj)} {σ:St} {H:Hp} {s:Shared} {scope:Scope} {x:Str} {cp:List (Nat×Str)} {px pos:Pos} {elt iter:Expr} {ifs:List Expr} {tt:TT} {te:TE}
end
section
variable {X:Cx} {scope:Scope} {x:Str} {cp:List (Nat×Str)} {px pos:Pos} {elt iter:Expr} {ifs:List Expr} {tt:TT} {te:TE} {wi:TI} {EX:XK}
end
theorem Un.later {fs:List Addr} {H H2:Hp} {h h2 h3 B:Heap} (u:Un fs [] H H2 h h2) (old:∀ b o,h.get? b=some o->b∉fs->∃ o',h2.get? b=some o'/\B.get? b=some o') (st:B.StaysIn h3) (up:h2.UpToSlots h3)
  (nf:∀ b∈fs,∀ o,h2.get? b=some o->∀ vs,o.data≠.fields vs):Un fs [] H H2 h h3 :=
 u.away (L:=h.objs.size) (Nat.le_refl _) (fun b o e n=>old b o e fun z=>n (List.mem_cons_of_mem _ z)) st up nf
section
variable {X:Cx} {pins:List (Addr×Obj)} {σ:St} {H:Hp} {s:Shared}
theorem jcO {M:Model} {A:Around} {E:Value->Shared->Prop} {n:Str} {i:Nat} {pos:Pos} {Q:Unit->Shared->Prop} (I:Inv X pins σ H s) (hN:X.N.Nodup) (hi:X.N[i]?=some n) (hk:X.env.kindOf n=some .local)
  (q:∀ s',Inv X pins (σ.set i none) H s'->Q () s'):wpAny M A (do bindName X.env n .none; unbindBehindTheSuite X.env n pos) Q E s:=by
 obtain ⟨m,hns,hloc⟩:=id I.loc
 have hcls:(X.env.scope.kind==.class || (X.env.scope.kind==.module&&X.env.locals != X.env.globals))=false:=by rw [I.ok.kind]; rfl
 refine wpAny_nameGoes_keeps hk hns hcls fun h' v hn' sb=>q _ ?_
 obtain ⟨oL,_,_,hoL,_⟩:=id hns
 have nl:∀ b o,X.s₀.heap.get? b=some o->b≠X.env.locals:=fun b o e=>Nat.ne_of_lt (Nat.lt_of_lt_of_le (Heap.lt_size e) I.ok.above)
 refine ⟨I.ok,I.os,I.bare,⟨fun b o e n hb hx=>?_,fun b o e n hb hx=>?_,I.base.free,fun b o e hx=>?_,I.base.tups,I.base.frzs,I.base.tbls⟩,⟨_,hn',fun j y u e1 e2 e3=>?_⟩,fun y c e=>?_,I.free,I.freeC,fun p hp=>?_,fun b ob e=>?_,by simpa using I.len⟩
 ·exact (sb.2 b (nl b o e)).trans (I.base.keep b o e n hb hx)
 ·obtain ⟨sl,e1⟩:=I.base.slot b o e n hb hx
  exact ⟨sl,(sb.2 b (nl b o e)).trans e1⟩
 ·obtain ⟨o',e1⟩:=I.base.there b o e hx
  exact ⟨o',(sb.2 b (nl b o e)).trans e1⟩
 ·by_cases hj:j=i
  ·subst hj
   have hlt:j < σ.length:=by rw [I.len]; exact (List.getElem?_eq_some_iff.mp hi).1
   rw [List.getElem?_set_self hlt] at e2
   cases e2
  ·rw [List.getElem?_set_ne (Ne.symm hj)] at e2
   obtain ⟨u',r',l⟩:=hloc j y u e1 e2 e3
   refine ⟨u',r',?_⟩
   rcases l with ⟨k,e⟩ | ⟨k,c,e,z⟩
   ·have ny:y≠n:=fun z=>hj (nodup_ix hN e1 (z▸hi))
    exact .inl ⟨k,by simp [ny,e]⟩
   ·exact .inr ⟨k,c,e,z.sameBut sb (I.cne y c e)⟩
 ·obtain ⟨u,z⟩:=I.cell y c e
  exact ⟨u,z.sameBut sb (I.cne y c e)⟩
 ·obtain ⟨e,n,ne,nf,d⟩:=I.pin p hp
  exact ⟨(sb.2 p.1 ne).trans e,n,ne,nf,d⟩
 ·refine (I.hok b ob e).stay (fun c u hc q=>(sb.2 c ?_).trans q) (fun _ q=>q) fun _ _ q=>q
  intro z
  rcases hc with hc | hc
  ·rw [<- hc,z,I.free] at e; cases e
  ·rw [z,I.free] at hc; cases hc
theorem Inv.adoptN {D:Addr} {o:HO} (I:Inv X pins σ H s) (hn:H D=none) (h0:X.s₀.heap.get? D=none) (hL:D≠X.env.locals) (h2:∀ x c,X.env.cells.lookup x=some c->c≠D) (h3:∀ p∈X.pn++pins,p.1≠D)
  (new:ObjOk X.prog X.w (upd H D o) s.heap D o):Inv X pins σ (upd H D o) s:=by
 have nit:∀ b u,H b=some u->b≠D:=fun b u e z=>by rw [z,hn] at e; cases e
 have lift:∀ b u,H b=some u->(upd H D o) b=some u:=fun b u e=>by rw [upd_ne (nit b u e)]; exact e
 refine ⟨I.ok,I.os,I.bare,⟨I.base.keep,I.base.slot,fun b u e n hx=>?_,I.base.there,fun b xs e=>lift _ _ (I.base.tups b xs e),fun b u v e=>lift _ _ (I.base.frzs b u v e),fun b ps e=>?_⟩,I.loc,I.cell,by rw [upd_ne (Ne.symm hL)]; exact I.free,fun y c e=>by rw [upd_ne (h2 y c e)]; exact I.freeC y c e,fun p hp=>?_,fun b u e=>?_,I.len⟩
 ·rw [upd_ne (fun z=>by rw [z,h0] at e; cases e)]
  exact I.base.free b u e n hx
 ·obtain ⟨more,e1⟩:=I.base.tbls b ps e
  exact ⟨more,lift _ _ e1⟩
 ·obtain ⟨e,n,r⟩:=I.pin p hp
  exact ⟨e,by rw [upd_ne (h3 p hp)]; exact n,r⟩
 ·by_cases hb:b=D
  ·subst hb
   rw [jab] at e
   cases e
   exact new
  ·rw [upd_ne hb] at e
   exact (I.hok b u e).stay (fun _ _ _ q=>q) (fun c q=>lift _ _ q) fun c xs q=>lift _ _ q
abbrev Cx.pinned (X:Cx) (pins:List (Addr×Obj)):Cx:={X with pn:=X.pn++pins}
theorem Inv.toPn (I:Inv X pins σ H s):Inv (X.pinned pins) [] σ H s :=
 ⟨⟨I.ok.mod,I.ok.kind,I.ok.glob,I.ok.blt,I.ok.above,I.ok.inj,I.ok.has,I.ok.cab,I.ok.hd,I.ok.frames,I.ok.stk,I.ok.exf,I.ok.bs,I.ok.bsz,I.ok.noex,I.ok.exfs,I.ok.funs,I.ok.frf⟩,I.os,I.bare,I.base,I.loc,I.cell,I.free,I.freeC,fun p hp=>I.pin p (by simpa using hp),I.hok,I.len⟩
theorem Inv.ofPn {ps:List (Addr×Obj)} (I:Inv (X.pinned pins) ps σ H s):Inv X pins σ H s :=
 ⟨⟨I.ok.mod,I.ok.kind,I.ok.glob,I.ok.blt,I.ok.above,I.ok.inj,I.ok.has,I.ok.cab,I.ok.hd,I.ok.frames,I.ok.stk,I.ok.exf,I.ok.bs,I.ok.bsz,I.ok.noex,I.ok.exfs,I.ok.funs,I.ok.frf⟩,I.os,I.bare,I.base,I.loc,I.cell,I.free,I.freeC,fun p hp=>I.pin p (List.mem_append_left _ hp),I.hok,I.len⟩
abbrev Cx.caught (X:Cx) (a:Addr):Cx:={X with A:=X.A.mark (some (.ref a)),calm:=false,xe:=fun _ _=>False}
theorem Inv.toCt {a:Addr} (I:Inv X pins σ H s):Inv (X.caught a) pins σ H s :=
 ⟨⟨I.ok.mod,I.ok.kind,I.ok.glob,I.ok.blt,I.ok.above,I.ok.inj,I.ok.has,I.ok.cab,fun z=>Bool.noConfusion z,I.ok.frames,I.ok.stk,I.ok.exf,I.ok.bs,I.ok.bsz,I.ok.noex,I.ok.exfs,I.ok.funs,I.ok.frf⟩,I.os,I.bare,I.base,I.loc,I.cell,I.free,I.freeC,I.pin,I.hok,I.len⟩
theorem Inv.ofCt {a:Addr} (hc:X.calm=true->X.A.handled=none) (I:Inv (X.caught a) pins σ H s):Inv X pins σ H s :=
 ⟨⟨I.ok.mod,I.ok.kind,I.ok.glob,I.ok.blt,I.ok.above,I.ok.inj,I.ok.has,I.ok.cab,hc,I.ok.frames,I.ok.stk,I.ok.exf,I.ok.bs,I.ok.bsz,I.ok.noex,I.ok.exfs,I.ok.funs,I.ok.frf⟩,I.os,I.bare,I.base,I.loc,I.cell,I.free,I.freeC,I.pin,I.hok,I.len⟩
theorem SP.ofPn {ps:List (Addr×Obj)} {D:Ends} {f:Flow} {s':Shared} {E:Value->Shared->Prop} (h:SP ((X.pinned pins).wish E) ps D f s'):SP X pins D f s':=by
 cases f with
 | next=>obtain ⟨σ',H',I,q⟩:=h; exact ⟨σ',H',I.unwish.ofPn,q⟩
 | brk=>obtain ⟨σ',H',I,q⟩:=h; exact ⟨σ',H',I.unwish.ofPn,q⟩
 | cont=>obtain ⟨σ',H',I,q⟩:=h; exact ⟨σ',H',I.unwish.ofPn,q⟩
 | ret u=>obtain ⟨v,σ',H',I,r,q⟩:=h; exact ⟨v,σ',H',I.unwish.ofPn,r,q⟩
end
def jic (a:Addr) (cls:Value) (dx:Option Addr):HO:=.ext fun h=>∃ o vs,h.get? a=some o/\o.cls=cls/\o.dict=dx/\o.data=.fields vs
theorem jnk {P:Program} {w:World} {H:Hp} {h B:Heap} {a:Addr} {cls fl:Value} {dx:Option Addr} (x:XAt B a cls dx fl h):ObjOk P w H h a (jic a cls dx):=by
 obtain ⟨o,vs,_,_,_,ha,hc,hdx,hd,_⟩:=x
 refine ⟨⟨o,vs,ha,hc,hdx,hd⟩,⟨o,ha⟩,fun h1 h2 p k=>?_⟩
 obtain ⟨o1,vs1,e1,r⟩:=p
 exact ⟨o1,vs1,k o1 e1,r⟩
section
variable {X:Cx} {x n:Str} {i:Nat} {CF:Addr} {body suite:List Stmt} {b₀:Stmt} {np hpos pos:Pos} {tb:XK->TS} {th:TS}
def eTry (K:PySem.W.Frag) (CF:Addr) (l i:Nat) (th:TS) (D:Ends):XK:=fun cls dx H=>PySem.W.exmOne K cls (.ref CF)=some true/\(∀ a,H a=none->th {D with nx:=fun σ' H'=>D.nx (σ'.set i none) H',rt:=fun v H'=>D.rt v H',bk:=fun σ' H'=>D.bk (σ'.set i none) H',ct:=fun σ' H'=>D.ct (σ'.set i none) H'}
 ((List.replicate l none).set i (some (.ref a))) (upd H a (jic a cls dx)))
def tTry (K:PySem.W.Frag) (CF:Addr) (l i:Nat) (tb:XK->TS) (th:TS):TS:=fun D σ H=>tb (eTry K CF l i th D) D σ H
theorem joQ (hN:X.N.Nodup) (hi:X.N[i]?=some n) (hk:X.env.kindOf n=some .local) (hg:Gl X x) (hm:X.mg x=some (.ref CF)) (hst:X.stack=X.env::X.outer) (hfm:X.env.frame=some X.env.locals) (hex:X.ex=[])
  (hb:∀ pn xe E,jcw (CXr X.prog X.w) (({X with pn:=pn}:Cx).wish xe) E->PSs (({X with pn:=pn}:Cx).wish xe) body (tb E)) (hs:∀ a,PSs (X.caught a) (b₀::suite) th)
  (hd:(x==("__debug__":Str))=false:=by decide):PS X (.Try body [.ExceptHandler (some (.Name x np)) (some n) (b₀::suite) hpos] [] [] pos) (tTry X.K CF X.N.length i tb th):=by
 intro pins s σ H D I h
 have hpass:jcw (CXr X.prog X.w) ((X.pinned pins).wish fun e s'=>∃ ps σ' H1 s1,Inv (X.pinned pins) ps σ' H1 s1/\CXr X.prog X.w X.stack H1 s1 (eTry X.K CF X.N.length i th D) e s') (eTry X.K CF X.N.length i th D) :=
  fun ps σ' H1 s1 e s' J hc=>⟨ps,σ',H1,s1,J.unwish,hc⟩
 refine wpAny_Try_except (wpAny_mono (hb (X.pn++pins) _ _ hpass [] s σ H D (I.toPn.wish _) h) (fun f s1 h1=>?_) fun e s1 h1=>?_)
 ·cases f with
  | next=>exact wpAny_execs_nil h1.ofPn
  | brk=>exact h1.ofPn
  | cont=>exact h1.ofPn
  | ret u=>exact h1.ofPn
 ·obtain ⟨ps,σ',H1,s0,J,a,cls,dx,H2,B,rfl,os,bare,un,hok,⟨st,na,fr,tr⟩,kp,hq1,hq2⟩:=h1
  have nfr:∀ b∈frs X.stack,∀ o,s1.heap.get? b=some o->∀ vs,o.data≠.fields vs:=fun b hb o e=>by
   obtain ⟨_,o',e',n⟩:=fr.mem hb
   rw [e] at e'
   cases e'
   exact n
  rw [hst] at fr
  refine jmh (by rw [J.ok.frames]; exact congrArg some hst) fr hfm st na (.inr ⟨_,tr⟩) fun h3 st3 fr3 x3 up3=>?_
  refine jjd (s:={s1 with heap:=h3}) fr3 st3 x3 fun h4 st4 fr4 x4 up4=>?_
  have up:s1.heap.UpToSlots h4:=up3.trans up4
  have nH:H2 a=none:=by
   cases z:H2 a with
   | none=>rfl
   | some u =>
    obtain ⟨o,_,e2⟩:=kp.trk a u z
    rw [na] at e2; cases e2
  have inv:∀ h5,B.StaysIn h5->s1.heap.UpToSlots h5->Inv X pins σ' H2 {s1 with heap:=h5}:=fun h5 st5 up5 =>
   (J.call' (s':={s1 with heap:=h5}) (ch:=[]) os (Un.later un kp.old st5 up5 nfr) (HOk.inB hok kp.trk st5) bare fun b z=>absurd z (by simp)).ofPn
  have J4:=inv h4 st4 up
  refine wpAny_handleBy_cons (codeAny_handlers_test (ld_glob (J4.toCt (a:=a)) hg hm ?_ hd)) (by intro z; cases z)
  have LT:PySem.W.Looks (model X.prog X.w) h4 (typeOf (.ref a)) cls:=by
   obtain ⟨o,_,_,_,_,ha,hc,_⟩:=x4
   exact hc▸(PySem.W.Looks.ld ha).andThen .now
  refine (PySem.W.exm_one (M:=model X.prog X.w) J4.kIn LT hq1).here (s:={s1 with heap:=h4}) ?_
  show codeAny _ _ _ _ _
  refine codeAny_handlers_suite_as (jjd (s:={s1 with heap:=h4}) fr4 st4 x4 fun h6 st6 fr6 x6 up6=>?_)
  have J6:=inv h6 st6 (up.trans up6)
  obtain ⟨xo,xvs,_,_,_,xa,_,_,xd,_⟩:=id x6
  have n0:s0.heap.get? a=none:=by
   cases z:s0.heap.get? a with
   | none=>rfl
   | some o =>
    by_cases hb:a∈frs X.stack
    ·obtain ⟨o1,vs1,_,_,_,e1,_,_,d1,_⟩:=tr
     exact absurd d1 (nfr a hb o1 e1 vs1)
    ·obtain ⟨o',_,e2⟩:=kp.old a o z hb
     rw [na] at e2; cases e2
  have J7:Inv X pins σ' (upd H2 a (jic a cls dx)) {s1 with heap:=h6}:=by
   refine J6.adoptN nH ?_ ?_ ?_ ?_ (jnk x6)
   ·cases z:X.s₀.heap.get? a with
    | none=>rfl
    | some o =>
     obtain ⟨o',e1⟩:=J.base.there a o z (by show a∉X.ex; rw [hex]; simp)
     rw [n0] at e1; cases e1
   ·intro z
    obtain ⟨m,⟨o,es,ep,e1,e2,_⟩,_⟩:=J6.loc
    rw [<- z] at e1
    have e1:h6.get? a=some o:=e1
    rw [xa] at e1
    cases e1
    rw [xd] at e2; cases e2
   ·intro y c e z
    obtain ⟨v,o,e1,e2⟩:=J6.cell y c e
    rw [z] at e1
    have e1:h6.get? a=some o:=e1
    rw [xa] at e1
    cases e1
    rw [xd] at e2; cases e2
   ·intro p hp z
    obtain ⟨e1,_⟩:=J.ofPn.pin p hp
    rw [z,n0] at e1; cases e1
  have J8:Inv X pins (List.replicate X.N.length none) (upd H2 a (jic a cls dx)) {s1 with heap:=h6}:=J7.weak (by rw [List.length_replicate]; exact J7.len.symm) fun j v e=>by
   rw [List.getElem?_replicate] at e
   split at e <;> cases e
  refine store_ok J8 hN hi (.inl hk) (v:=.ref a) rfl (fun s9 J9=>?_) (.inr hk)
  refine wpAny_mono (hs a pins s9 _ _ _ J9.toCt (hq2 a nH)) (fun f s10 h10=>?_) fun _ _ z=>z.elim
  cases f with
  | next =>
   obtain ⟨σ10,H10,J10,q10⟩:=h10
   exact jcO (J10.ofCt I.ok.hd) hN hi hk fun s11 J11=>⟨_,_,J11,q10⟩
  | brk =>
   obtain ⟨σ10,H10,J10,q10⟩:=h10
   exact jcO (J10.ofCt I.ok.hd) hN hi hk fun s11 J11=>⟨_,_,J11,q10⟩
  | cont =>
   obtain ⟨σ10,H10,J10,q10⟩:=h10
   exact jcO (J10.ofCt I.ok.hd) hN hi hk fun s11 J11=>⟨_,_,J11,q10⟩
  | ret u =>
   obtain ⟨v,σ10,H10,J10,r,q10⟩:=h10
   exact jcO (J10.ofCt I.ok.hd) hN hi hk fun s11 J11=>⟨v,_,_,J11,r,q10⟩
end
structure XCls (K:PySem.W.Frag) (C:Addr):Prop where
 ex:PySem.W.ktsIn K C "object"=true
 ga:PySem.W.findIn K (.ref C) "__getattribute__"=some (some (.builtin "BaseException.__getattribute__"))
 gt:PySem.W.findIn K (.ref C) "__getattr__"=some none
 cl:PySem.W.findIn K (.ref C) "__class__"=some (some (.builtin "object.__class__"))
section
variable {prog:Program} {w:World} {A:Around} {E:Value->Shared->Prop} {h:Heap} {g:Array GenState} {d:Drawn} {t:Nat} {os:OsState} {a:Addr} {o:Obj}
 {nm q:Str} {C N:Addr} {bs bm:List Value} {hdct:Bool} {sn:List Str} {sub:List Value} {ab:Bool} {col:Option Bool} {dd:Option Addr} {k0 k1 k2 k3 k5:Option Value} {newId:String} {K:PySem.W.Frag}
theorem joR {R:Result->Shared->Prop} (hC:h.get? C=some (excClassObj nm q C N bs bm hdct sn sub ab col dd k0 k1 k2 k3 k5 newId)) (hO:bm.contains (.type "object")=true) (ha:h.get? a=some o) (hc:o.cls=.ref C)
  (z:R (.ok (.ret (.ref C))) ⟨h,g,d,t,os⟩):codeAny (model prog w) A (.call (.builtin "getset_descriptor.__get__") ⟨[.builtin "object.__class__",.ref a,.ref C],[]⟩) R ⟨h,g,d,t,os⟩:=by
 have ty:(⟨h,g,d,t,os⟩:Shared).TypeIs (.builtin "object.__class__") "getset_descriptor":=F.typeOf_object_class
 have own:(Value.ref C::bm).contains (.type (".".intercalate ("object.__class__".cutAt '.').dropLast))=true:=by rw [F.owner_object_class,List.contains_cons,hO,Bool.or_true]
 refine codeAny_call_builtin F.slot_gs_get.plain F.entry_gs_get (F.slot_gs_get.check _ _ _ _ _ _ _ _ ty (F.args_gs_get _ _ _) ?_)
 repeat (any_goals (first | assumption | (with_reducible refine wpAny_loadPart_at ha ?_; rw [hc]) | (with_reducible refine wpAny_isSubtype_exc hC ?_; rw [own]) | wp_step))
 refine ⟨Code.quiet_builtin _ (by decide +kernel),codeAny_builtin F.entry_object_class ?_⟩
 repeat (any_goals (first | assumption | (with_reducible refine wpAny_loadPart_at ha ?_; rw [hc]) | wp_step))
theorem jlg {tk:Tok} {Q:Fin->Shared->Prop} (X:K.In h) (S:XCls K C) (hC:h.get? C=some (excClassObj nm q C N bs bm hdct sn sub ab col dd k0 k1 k2 k3 k5 newId)) (hO:bm.contains (.type "object")=true) (ha:h.get? a=some o) (hc:o.cls=.ref C)
  (z:Q (.done (.ret (.ref C))) ⟨h,g,d,t,os⟩):wpAny (model prog w) A (Builtin.«object.__getattribute__» ⟨[.ref a,.str "__class__" tk],[]⟩) Q E ⟨h,g,d,t,os⟩:=by
 have ty:(⟨h,g,d,t,os⟩:Shared).TypeIs (.builtin "object.__class__") "getset_descriptor":=F.typeOf_object_class
 have f5:=F.typeOf_object_class
 have f6:=F.slot_gs_get.lookup
 have f7:=F.slot_gs_set.lookup
 have L:=PySem.W.looks_findIn (M:=model prog w) X S.cl
 repeat (any_goals (first | assumption | (with_reducible refine wpAny_loadPart_at ha ?_; rw [hc]) | with_reducible refine L.at ?_ | wp_step))
 refine joR hC hO ha hc ?_
 repeat (any_goals (first | assumption | wp_step))
theorem jgW {M:Model} {v:Value} {Q:Unit->Shared->Prop} (hC:h.get? C=some (excClassObj nm q C N bs bm hdct sn sub ab col dd k0 k1 k2 k3 k5 newId)) (hB:bm.contains (.type "BaseException")=true) (ha:h.get? a=some o) (hc:o.cls=.ref C)
  (z:Q () ⟨h,g,d,t,os⟩):wpAny M A (checkBuiltinCall "BaseException.__getattribute__" ⟨[.ref a,v],[]⟩) Q E ⟨h,g,d,t,os⟩:=by
 have e1:builtinKind "BaseException.__getattribute__"=some .slot:=by decide +kernel
 have e2:splitId "BaseException.__getattribute__"=some ("BaseException","__getattribute__"):=by decide +kernel
 have own:(Value.ref C::bm).contains (.type "BaseException")=true:=by rw [List.contains_cons,hB,Bool.or_true]
 have ok:=F.args_bexc_ga (.ref a) v
 simp only [checkBuiltinCall,e1,e2]
 refine wpAny_bind ?_
 unfold isInstance
 repeat (first | (with_reducible refine wpAny_loadPart_at ha ?_; rw [hc]) | (with_reducible refine wpAny_isSubtype_exc hC ?_; rw [own]) | wp_step)
 exact z
theorem xc_by {tk:Tok} {Q:Value->Shared->Prop} (X:K.In h) (S:XCls K C) (hC:h.get? C=some (excClassObj nm q C N bs bm hdct sn sub ab col dd k0 k1 k2 k3 k5 newId)) (hO:bm.contains (.type "object")=true) (hB:bm.contains (.type "BaseException")=true) (ha:h.get? a=some o) (hc:o.cls=.ref C)
  (z:Q (.ref C) ⟨h,g,d,t,os⟩):wpAny (model prog w) A (getAttrBy (.ref a) (.str "__class__" tk) false) Q E ⟨h,g,d,t,os⟩:=by
 have f3:=F.attr_ValueError.ga.bind (.ref a)
 have n2:(Value.builtin "BaseException.__getattribute__"==Value.builtin "object.__getattribute__")=false:=by decide +kernel
 have n1:(onTheHeap (Value.ref C)&&Value.builtin "BaseException.__getattribute__"==Value.builtin "object.__getattribute__")=false:=by rw [n2]; rfl
 have L1:=PySem.W.looks_findIn (M:=model prog w) X S.ga
 have L2:=PySem.W.looks_findIn (M:=model prog w) X S.gt
 repeat (any_goals (first | assumption | (with_reducible refine wpAny_loadPart_at ha ?_; rw [hc]) | with_reducible refine L1.at ?_ | with_reducible refine L2.at ?_ | wp_step))
 refine codeAny_call_builtin F.attr_ValueError.ga.plain F.entry_bexc_ga (jgW hC hB ha hc (jlg X S hC hO ha hc ?_))
 repeat (any_goals (first | assumption | wp_step))
theorem jnl {Q:Option Value->Shared->Prop} (X:K.In h) (S:XCls K C) (hC:h.get? C=some (excClassObj nm q C N bs bm hdct sn sub ab col dd k0 k1 k2 k3 k5 newId)) (hO:bm.contains (.type "object")=true) (hB:bm.contains (.type "BaseException")=true) (ha:h.get? a=some o) (hc:o.cls=.ref C)
  (z:Q (some (.ref C)) ⟨h,g,d,t+1,os⟩):wpAny (model prog w) A (getAttr? (.ref a) "__class__") Q E ⟨h,g,d,t,os⟩:=by
 unfold getAttr? getAttrBy?
 repeat (any_goals (first | assumption | with_reducible apply xc_by X S hC hO hB ha hc | wp_step))
end
theorem jmi {K:PySem.W.Frag} {a C:Addr} (S:XCls K C):PySem.W.KitX K (.ref a) (.ref C) (fun h=>∃ o,h.get? a=some o/\o.cls=.ref C) where
 ty:=fun M h _ p=>by
  obtain ⟨o,h1,h2⟩:=p
  exact h2▸(PySem.W.Looks.ld h1).andThen .now
 it:=fun M h X _=>by
  obtain ⟨nm,qn,N,bs,bm,hdct,sn,sub,ab,col,dd,k0,k1,k2,k3,k5,newId,hC,_⟩:=PySem.W.kts_cls X S.ex
  intro A' Q' E' s' k z
  unfold isType loadHead
  exact wpAny_bind (wpAny_loadPart (k _ _ hC) (wpAny_pure z))
 ne:=fun h tp dd its n sl X htp=>by
  obtain ⟨nm,qn,N,bs,bm,hdct,sn,sub,ab,col,dd,k0,k1,k2,k3,k5,newId,hC,_⟩:=PySem.W.kts_cls X S.ex
  refine Bool.eq_false_iff.mpr fun z=>?_
  have e:C=tp:=Value.ref.inj (beq_iff_eq.mp z)
  subst e
  rw [hC] at htp
  injection htp with htp
  injection htp with _ _ e _
  cases e
 ca:=fun {prog w A E Q s} X p z=>by
  obtain ⟨o,h1,h2⟩:=p
  obtain ⟨nm,qn,N,bs,bm,hdct,sn,sub,ab,col,dd,k0,k1,k2,k3,k5,newId,hC,hB,hO⟩:=PySem.W.kts_cls X S.ex
  obtain ⟨h,g,d,t,os⟩:=s
  exact jnl X S hC hO hB h1 h2 z
section
variable {X:Cx}
def rIsX (K:PySem.W.Frag):List V->Hp->VK->Prop:=fun xs H Q=>∃ a C dx k,XCls K C/\H a=some (jic a (.ref C) dx)/\((∃ C',xs=[.ref a,.ref C']/\PySem.W.kitOne K (.ref C) (.ref C')=some k)\/∃ T,xs=[.ref a,.ty T]/\PySem.W.kitOne K (.ref C) (.type T)=some k)/\Q (.bl k) H
theorem jcr:jcK X (.builtin "isinstance") (rIsX X.K):=by
 rintro pins s σ H xs us Q I r ⟨a,C,dx,k,S,ha,hx,q⟩
 obtain ⟨⟨o,vs,e1,e2,_⟩,_⟩:=I.hok a _ ha
 rcases hx with ⟨C',rfl,hk⟩ | ⟨T,rfl,hk⟩
 ·obtain ⟨u,u',rfl,ru,ru'⟩:=jiz r
  cases ru
  cases ru'
  exact PySem.W.kia_one (jmi S) I.kIn ⟨o,e1,e2⟩ hk (fun z=>nomatch z) fun tk=>⟨.bl k,H,I.tok _,rfl,q⟩
 ·obtain ⟨u,u',rfl,ru,ru'⟩:=jiz r
  cases ru
  cases ru'
  exact PySem.W.kia_one (jmi S) I.kIn ⟨o,e1,e2⟩ hk (fun z=>nomatch z) fun tk=>⟨.bl k,H,I.tok _,rfl,q⟩
theorem jgX (a b:Bool):MeetsSeq.EqGives (.bool a) (.bool b) (a==b):=fun prog w A E s Q h=>SeqAt.EqAt.bool_bool a b prog w E Q h
def isT:Value->Bool
 | .bool b=>b
 | _=>false
theorem jmj {bs:List Bool} {its:List Value} (r:Vals (bs.map V.bl) its):its=bs.map Value.bool:=by
 induction bs generalizing its with
 | nil=>cases r; rfl
 | cons b bs ih =>
  cases r with
  | cons r1 r2 =>
   rw [ih r2,List.map_cons]
   congr 1
def jnm:V->List V->Hp->VK->Prop:=fun x vs H Q=>∃ (l:Addr) (bs:List Bool),x=.ref l/\vs=[.bl true]/\H l=some (.lst (bs.map V.bl))/\Q (.int ((bs.countP id:Nat):Int)) H
theorem jjf:MtM X "list.count" jnm:=by
 intro pins s σ H x vs v us Q I rx rv h
 obtain ⟨l,bs,rfl,rfl,hH,q⟩:=h
 cases rx
 obtain ⟨u,rfl,ru⟩:=rv.one
 cases ru
 obtain ⟨z,its,n,r,hl,e⟩:=I.lstM hH
 have ei:=jmj r
 subst ei
 refine call_meets F.slot_list_count ⟨_,e,rfl⟩ F.entry_list_count (F.args_list_count_2 _ _) (MeetsSeq.list_count l _ n (.bool true) isT fun y hy=>?_) ⟨e,?_⟩
 ·have hy':y∈bs.map Value.bool:=by simpa using hy
  obtain ⟨b,_,rfl⟩:=List.mem_map.mp hy'
  have:=jgX b true
  have eb:(b==true)=isT (.bool b):=by cases b <;> rfl
  rw [eb] at this
  exact this
 ·have ec:List.countP isT (bs.map Value.bool).toArray.toList=bs.countP id:=by
   rw [List.toList_toArray,List.countP_map]
   rfl
  refine ⟨.int _,H,I.tok _,⟨_,rfl⟩,?_⟩
  exact ec▸q
def jnn:V->List V->Hp->VK->Prop:=fun x vs H Q=>∃ (l:Addr) (bs:List Bool) (j:Nat),x=.ref l/\vs=[.bl true]/\H l=some (.lst (bs.map V.bl))/\bs[j]?=some true/\(∀ m,m < j->bs[m]?=some false)/\j<=1000/\Q (.int (j:Nat)) H
theorem jjg:MtM X "list.index" jnn:=by
 intro pins s σ H x vs v us Q I rx rv h
 obtain ⟨l,bs,j,rfl,rfl,hH,hj,hno,h1000,q⟩:=h
 cases rx
 obtain ⟨u,rfl,ru⟩:=rv.one
 cases ru
 obtain ⟨z,its,n,r,hl,e⟩:=I.lstM hH
 have ei:=jmj r
 subst ei
 have hjl:j < bs.length:=(List.getElem?_eq_some_iff.mp hj).1
 refine call_meets F.slot_list_index ⟨_,e,rfl⟩ F.entry_list_index (F.args_list_index_2 _ _) (MeetsSeq.list_index l _ n (.bool true) isT (fun y hy=>?_) j (by simpa using hjl) (by omega) ?_ fun m hm hmj=>?_) ⟨e,?_⟩
 ·have hy':y∈bs.map Value.bool:=by simpa using hy
  obtain ⟨b,_,rfl⟩:=List.mem_map.mp hy'
  have:=jgX b true
  have eb:(b==true)=isT (.bool b):=by cases b <;> rfl
  rw [eb] at this
  exact this
 ·have:=(List.getElem?_eq_some_iff.mp hj).2
  simp [isT,this]
 ·have hml:m < bs.length:=by omega
  have:=hno m hmj
  have:=(List.getElem?_eq_some_iff.mp this).2
  simp [isT,this]
 ·exact ⟨.int _,H,I.tok _,⟨_,rfl⟩,q⟩
variable {S:St->Prop} {e:Expr} {es:List Expr} {Pr Pr':HP} {Prs:List HP} {pos:Pos}
end
def xnIn (K:PySem.W.Frag) (C:Addr) (chain:List Value) (maker:String):Bool:=(K.lookup C).any fun o =>
 o.slots[4]?==some (some (.builtin maker))&&(match o.data with | .cls cd=>PySem.W.tailIn K chain (cd.mro.drop 1) | _=>false)
theorem joS {K:PySem.W.Frag} {h:Heap} {C:Addr} {T:String} {chain:List Value} {maker:String} (X:K.In h) (q:PySem.W.ktsIn K C T=true) (n:xnIn K C chain maker=true) :
  ∃ nm qn N bs bm hdct sn sub ab col dd k0 k1 k2 k3 k5,h.get? C=some (excClassObj nm qn C N bs bm hdct sn sub ab col dd k0 k1 k2 k3 k5 maker)/\bm.contains (.type "BaseException")=true/\bm.contains (.type T)=true/\OwnTail h chain bm:=by
 obtain ⟨nm,qn,N,bs,bm,hdct,sn,sub,ab,col,dd,k0,k1,k2,k3,k5,mk,hC,hB,hT⟩:=PySem.W.kts_cls X q
 unfold xnIn at n
 cases e:K.lookup C with
 | none=>rw [e] at n; cases n
 | some o =>
  rw [e] at n
  have e2:=X _ _ e
  rw [hC] at e2
  cases e2
  have n:((some (some (Value.builtin mk)):Option (Option Value))==some (some (.builtin maker))&&PySem.W.tailIn K chain bm)=true:=n
  rw [Bool.and_eq_true] at n
  have e3:mk=maker:=by
   have:=n.1
   simpa using this
  subst e3
  exact ⟨nm,qn,N,bs,bm,hdct,sn,sub,ab,col,dd,k0,k1,k2,k3,k5,hC,hB,hT,PySem.W.tail_of_in X n.2⟩
section
variable {prog:Program} {w:World} {A:Around} {E:Value->Shared->Prop} {h:Heap} {g:Array GenState} {d:Drawn} {t:Nat} {os:OsState} {K:PySem.W.Frag}
 {nm q:Str} {C N a:Addr} {bs bm:List Value} {hdct:Bool} {sn:List Str} {sub:List Value} {ab:Bool} {col:Option Bool} {dd:Option Addr} {k0 k1 k2 k3 k5:Option Value}
abbrev jgb (C:Addr) (dx:Option Addr) (t:Addr):Obj:={cls:=.ref C,dict:=dx,data:=.fields #[.ref t,.none,.none,.none,.bool false,.none]}
theorem joT {rest:List Value} {f:Addr} {Q:Value->Shared->Prop} (X:K.In h) (T:OwnTail h jbP bm) (hC:h.get? C=some (excClassObj nm q C N bs bm hdct sn sub ab col dd k0 k1 k2 k3 k5 "ValueError.__new__"))
  (hi:PySem.W.findIn K (.ref C) "__init__"=some (some (.ref f))) (hf:PySem.W.typeIn K (.ref f)=some (.type "function")) (hl:rest.length<=sizeLine)
  (z:∀ h' e t',(∀ b o,h.get? b=some o->h'.get? b=some o)->h.objs.size<=e->h'.get? e=some (jgb C none t') ->
   wpAny (model prog w) (A.under (.builtin "type.__call__" ⟨.ref C::rest,[]⟩)) (call (.ref f) (.ref e::rest)) (fun r s'=>r=.none/\Q (.ref e) s') E ⟨h',g,d,t,os⟩) :
  wpAny (model prog w) A (call (.ref C) rest) Q E ⟨h,g,d,t,os⟩:=by
 have V:=PySem.F.excBase_ValueError
 have l1:=tc_lookup
 have l2:=tc_bind (.ref C)
 have hT:(⟨h,g,d,t,os⟩:Shared).TypeIs (.ref C) "type":=⟨_,hC,rfl⟩
 refine wpAny_call (codeAny_of_tree (show wpAny _ _ (callAny (.ref C) _) _ _ _ from ?_))
 repeat (any_goals (first | with_reducible refine wpAny_loadPart_at hC ?_ | assumption | wp_step))
 refine And.intro rfl (codeAny_call_builtin_at (Code.quiet_builtin _ (by decide +kernel)) entry_typeCall (wpAny_check_type_call_sub hC ?_))
 repeat (first | with_reducible refine wpAny_madeBy_exc hC ?_ | with_reducible refine wpAny_loadPart_at hC ?_ | wp_step)
 refine codeAny_call_builtin_code (Code.quiet_builtin _ V.quiet) (wpAny_check_new_subT V T hC (codeAny_exc_new_subT V T hC ?_ hl))
 show wpAny _ _ _ _ _ _
 have k2:∀ b o,h.get? b=some o->((h.push {cls:=.type "tuple",data:=.seq rest.toArray}).push (jgb C none h.objs.size)).get? b=some o:=fun b o e=>Heap.get?_push_of_some _ (Heap.get?_push_of_some _ e)
 have he:((h.push {cls:=.type "tuple",data:=.seq rest.toArray}).push (jgb C none h.objs.size)).get? (h.objs.size+1)=some (jgb C none h.objs.size):=by heap_get
 have hC2:=k2 _ _ hC
 have X2:=X.keeps k2
 have own:(Value.ref C::bm).contains (.ref C)=true:=by simp
 unfold isInstance
 repeat (first | with_reducible refine wpAny_loadPart_at he ?_ | wp_step)
 refine wpAny_isSubtype_exc hC2 ?_
 rw [own]
 repeat (first | with_reducible refine wpAny_loadPart_at he ?_ | wp_step)
 show wpAny _ _ (typeLookup (.ref C) _) _ _ _
 refine (PySem.W.looks_findIn X2 hi).at ?_
 refine wpAny_holding (wpAny_bind ((PySem.W.bind_fn X2 _ hf).at ?_))
 refine wpAny_bind (wpAny_mono (z _ (h.objs.size+1) _ k2 (Nat.le_succ _) he) (fun r s' hr=>?_) fun _ _ x=>x)
 obtain ⟨rfl,hQ⟩:=hr
 wp_walk
 exact hQ
theorem joU {e t0:Addr} {dx:Option Addr} {rest:List Value} {Q:Value->Shared->Prop} (T:OwnTail h jbP bm) (hC:h.get? C=some (excClassObj nm q C N bs bm hdct sn sub ab col dd k0 k1 k2 k3 k5 "ValueError.__new__"))
  (he:h.get? e=some (jgb C dx t0)) (hl:rest.length<=sizeLine)
  (z:∀ h' t',(∀ b o,b≠e->h.get? b=some o->h'.get? b=some o)->h'.get? e=some (jgb C dx t')->Q .none ⟨h',g,d,t,os⟩) :
  wpAny (model prog w) A (call (.builtin "ValueError.__init__") (.ref e::rest)) Q E ⟨h,g,d,t,os⟩:=by
 have V:=PySem.F.excBase_ValueError
 refine wpAny_call (codeAny_call_builtin V.init.plain V.initEntry (wpAny_check_init_subT V T hC he rfl ?_))
 wp_walk
 have ne:e≠h.objs.size:=Nat.ne_of_lt (Heap.lt_size he)
 refine z _ h.objs.size (fun b o n e1=>?_) ?_
 ·rw [Heap.get?_update_other _ _ (Ne.symm n)]
  exact Heap.get?_push_of_some _ e1
 ·rw [Heap.get?_update_self _ (Heap.get?_push_of_some _ he) rfl]
  rfl
end
theorem jdN {h:Heap} {chain bm:List Value} {self:Value} {what:Str} (T:OwnTail h chain bm) (p:refuseLoop self what chain=pure ()):refuseLoop self what bm=pure ():=by
 induction T with
 | base=>exact p
 | own _ _ _ _ ih=>rw [refuseLoop_ref]; exact ih
section
variable {prog:Program} {w:World} {A:Around} {E:Value->Shared->Prop} {h:Heap} {g:Array GenState} {d:Drawn} {t:Nat} {os:OsState} {K:PySem.W.Frag}
 {nm q:Str} {C N a:Addr} {bs bm:List Value} {sn:List Str} {sub:List Value} {ab:Bool} {col:Option Bool} {dd:Option Addr} {k0 k1 k2 k3 k5:Option Value}
theorem jno {e t0:Addr} {name:Str} {v:Value} {Q:Unit->Shared->Prop} (X:K.In h) (T:OwnTail h jbP bm) (hC:h.get? C=some (excClassObj nm q C N bs bm true sn sub ab col dd k0 k1 k2 k3 k5 "ValueError.__new__"))
  (hs:PySem.W.findIn K (.ref C) "__setattr__"=some (some (.builtin "object.__setattr__"))) (hn:PySem.W.findIn K (.ref C) name=some none) (hm:PySem.W.mroIn K C (.type "object")=some true) (he:h.get? e=some (jgb C none t0))
  (z:∀ h' tk,(∀ b o,b≠e->h.get? b=some o->h'.get? b=some o)->h'.get? e=some (jgb C (some h.objs.size) t0)->h'.Ns1 h.objs.size (fun y=>if y=name then some v else none)->Q () ⟨h',g,d,tk,os⟩) :
  wpAny (model prog w) A (setAttr (.ref e) name v) Q E ⟨h,g,d,t,os⟩:=by
 have SF:=PySem.F.store_ValueError
 have J:PySem.W.InstAt h e (jgb C none t0) C none:=⟨he,rfl,rfl,True.intro⟩
 have Jt:=J.type (M:=model prog w)
 have L2:=PySem.W.looks_findIn (M:=model prog w) X hn
 have hp:=jdN (self:=.ref e) (what:="__setattr__") T (SF.passes (.ref e))
 refine PySem.W.set_plain (s:=⟨h,g,d,t,os⟩) X J hs ?_
 refine codeAny_call_builtin SF.slot.plain SF.entry (PySem.W.check_slot (i:="object.__setattr__") (self:=.ref e) SF.kind SF.split (Jt.andThen (PySem.W.looks_mroIn X hm)) (SF.args (.ref e) _ v) ?_)
 rw [PySem.W.osa_eq,refuse_eq]
 refine wpAny_bind (wpAny_bind (Jt.at (wpAny_bind (wpAny_mroOf_exc hC ?_))))
 rw [refuseLoop_ref,hp]
 refine wpAny_pure (wpAny_bind (Jt.at (wpAny_bind (L2.at (wpAny_bind (wpAny_pure ?_))))))
 have hx1:(h.push {cls:=.type "dict",data:=.dict #[]}).get? e=some (jgb C none t0):=Heap.get?_push_of_some _ he
 have ne:e≠h.objs.size:=Nat.ne_of_lt (Heap.lt_size he)
 refine wpAny_bind (wpAny_pure (wpAny_bind (wpAny_bind (wpAny_loadPart he ?_))))
 refine wpAny_bind (wpAny_bind (wpAny_load hC (wpAny_pure ?_)))
 refine wpAny_bind (wpAny_alloc' (wpAny_bind (wpAny_update' hx1 (wpAny_pure ?_))))
 have up:=Heap.get?_update_self (fun o:Obj=>{o with dict:=some h.objs.size}) hx1 rfl
 have gd:((h.push {cls:=.type "dict",data:=.dict #[]}).update e fun o=>{o with dict:=some h.objs.size}).get? h.objs.size=some {cls:=.type "dict",data:=.dict #[]} :=
  (Heap.get?_update_other _ _ ne).trans (Heap.get?_push_size h rfl)
 have nd:((h.push {cls:=.type "dict",data:=.dict #[]}).update e fun o=>{o with dict:=some h.objs.size}).Ns h.objs.size (fun _=>none):=⟨_,#[],_,gd,rfl,fun _ y=>absurd y (by simp),fun _=>rfl⟩
 refine wpAny_bind (wpAny_pure (wpAny_bind (wpAny_nsSet1 (Heap.Ns1.of_empty nd) fun h' n' sb=>?_)))
 obtain ⟨oD,eD,pD,aD,dD,cD⟩:=n'.count (PySem.Within.cons name v PySem.Within.nil)
 refine wpAny_bind (wpAny_lookBehind aD (by rw [dD]; exact pastItsLine_dict (Nat.le_trans cD (by rw [List.length_cons,List.length_nil,sizeLine_eq]; omega))) (wpAny_pure ?_))
 exact z h' _ (fun b o n e1=>(sb.2 b (Nat.ne_of_lt (Heap.lt_size e1))).trans ((Heap.get?_update_other _ _ (Ne.symm n)).trans (Heap.get?_push_of_some _ e1))) ((sb.2 e ne).trans up) n'
end
section
variable {prog:Program} {w:World} {A:Around} {E:Value->Shared->Prop} {h:Heap} {g:Array GenState} {d:Drawn} {t:Nat} {os:OsState} {K:PySem.W.Frag} {C a dx:Addr} {o:Obj} {mA:Str->Option Value} {name:Str} {v:Value}
theorem joV {b:Bool} {Q:Value->Shared->Prop} (X:K.In h) (S:XCls K C) (hd:PySem.W.hasDictIn K C=true) (hn:PySem.W.findIn K (.ref C) name=some none)
  (ha:h.get? a=some o) (hc:o.cls=.ref C) (hx:o.dict=some dx) (hf:PySem.W.notCls o=true) (n1:h.Ns1 dx mA) (hv:mA name=some v) (hh:PySem.W.handedIn v=true) (z:Q v ⟨h,g,d,t+1,os⟩) :
  wpAny (model prog w) A (getAttr (.ref a) name b) Q E ⟨h,g,d,t,os⟩:=by
 obtain ⟨od,ho,hl⟩:=jdH n1
 have J:PySem.W.InstAt h a o C (some od):=⟨ha,hc,hf,by rw [hx]; exact ho⟩
 obtain ⟨nm,qn,N,bs,bm,hdct,sn,sub,ab,col,dd,k0,k1,k2,k3,k5,newId,hC,hB,hO⟩:=PySem.W.kts_cls X S.ex
 have f3:=F.attr_ValueError.ga.bind (.ref a)
 have n2:(Value.builtin "BaseException.__getattribute__"==Value.builtin "object.__getattribute__")=false:=by decide +kernel
 have n3:(onTheHeap (Value.ref C)&&Value.builtin "BaseException.__getattribute__"==Value.builtin "object.__getattribute__")=false:=by rw [n2]; rfl
 have L0:=J.type (M:=model prog w)
 have L1:=PySem.W.looks_findIn (M:=model prog w) X S.ga
 have L2:=PySem.W.looks_findIn (M:=model prog w) X S.gt
 have L3:=PySem.W.looks_find (M:=model prog w) X J (PySem.W.findObj_own hd hn rfl (by rw [hl,hv]))
 unfold getAttr
 refine wpAny_bind (wpAny_mkText ?_)
 repeat (any_goals (first | assumption | with_reducible refine L0.at ?_ | with_reducible refine L1.at ?_ | with_reducible refine L2.at ?_ | wp_step))
 rw [show (b&&onTheHeap (Value.builtin "BaseException.__getattribute__"))=false from Bool.and_false _,if_neg (by decide)]
 repeat (any_goals (first | assumption | wp_step))
 refine codeAny_call_builtin F.attr_ValueError.ga.plain F.entry_bexc_ga (jgW hC hB ha hc ?_)
 repeat (any_goals (first | assumption | with_reducible refine L0.at ?_ | with_reducible refine L3.at ?_ | wp_step))
 show wpAny _ _ (handedOut v) _ _ _
 rw [PySem.W.handedOut_of hh]
 exact wpAny_pure z
end
def del (H:Hp) (a:Addr):Hp:=fun b=>if b=a then none else H b
theorem jgY {H:Hp} {a:Addr}:del H a a=none:=by unfold del; rw [if_pos rfl]
theorem jgZ {H:Hp} {a b:Addr} (n:b≠a):del H a b=H b:=by unfold del; rw [if_neg n]
theorem jdy {H:Hp} {a b:Addr} (e:H b=none):del H a b=none:=by
 unfold del
 split
 ·rfl
 ·exact e
theorem Inv.forget {X:Cx} {pins:List (Addr×Obj)} {σ:St} {H:Hp} {s:Shared} {a:Addr} {φ:Heap->Prop} (I:Inv X pins σ H s) (ha:H a=some (.ext φ)):Inv X pins σ (del H a) s:=by
 have go:∀ b o,H b=some o->(∀ ψ,o≠.ext ψ)->del H a b=some o:=fun b o e n=>by
  rw [jgZ]
  ·exact e
  ·intro z
   rw [z,ha] at e
   cases e
   exact n φ rfl
 refine ⟨I.ok,I.os,I.bare,⟨I.base.keep,I.base.slot,fun b o e n hx=>jdy (I.base.free b o e n hx),I.base.there,fun b xs e=>go _ _ (I.base.tups b xs e) (fun _ z=>nomatch z),fun b u v e=>go _ _ (I.base.frzs b u v e) (fun _ z=>nomatch z),fun b ps e=>?_⟩,
  I.loc,I.cell,jdy I.free,fun y c e=>jdy (I.freeC y c e),fun p hp=>?_,fun b u e=>?_,I.len⟩
 ·obtain ⟨more,e1⟩:=I.base.tbls b ps e
  exact ⟨more,go _ _ e1 (fun _ z=>nomatch z)⟩
 ·obtain ⟨e,n,r⟩:=I.pin p hp
  exact ⟨e,jdy n,r⟩
 ·have hb:b≠a:=fun z=>by rw [z,jgY] at e; cases e
  rw [jgZ hb] at e
  exact (I.hok b u e).stay (fun _ _ _ q=>q) (fun c q=>go _ _ q (fun _ z=>nomatch z)) fun c xs q=>go _ _ q (fun _ z=>nomatch z)
def jcf (a C:Addr) (dx:Option Addr):HO:=.ext fun h=>∃ t,h.get? a=some (jgb C dx t)
theorem jeF {P:Program} {w:World} {H:Hp} {h:Heap} {a C t:Addr} {dx:Option Addr} (e:h.get? a=some (jgb C dx t)):ObjOk P w H h a (jcf a C dx) :=
 ⟨⟨t,e⟩,⟨_,e⟩,fun _ _ p k=>by obtain ⟨t',e'⟩:=p; exact ⟨t',k _ e'⟩⟩
structure XFld (K:PySem.W.Frag) (C:Addr) (f:Str):Prop where
 cl:XCls K C
 hd:PySem.W.hasDictIn K C=true
 no:PySem.W.findIn K (.ref C) f=some none
section
variable {X:Cx} {o e value:Expr} {f:Str} {pos pos' tpos:Pos} {ta tv:TE}
end
structure XMk (K:PySem.W.Frag) (C:Addr):Prop where
 kts:PySem.W.ktsIn K C "object"=true
 xn:xnIn K C jbP "ValueError.__new__"=true
 sa:PySem.W.findIn K (.ref C) "__setattr__"=some (some (.builtin "object.__setattr__"))
 ob:PySem.W.mroIn K C (.type "object")=some true
 hd:PySem.W.hasDictIn K C=true
theorem XMk.cls {K:PySem.W.Frag} {h:Heap} {C:Addr} (m:XMk K C) (X:K.In h) :
  ∃ nm qn N bs bm sn sub ab col dd k0 k1 k2 k3 k5,h.get? C=some (excClassObj nm qn C N bs bm true sn sub ab col dd k0 k1 k2 k3 k5 "ValueError.__new__")/\bm.contains (.type "BaseException")=true/\OwnTail h jbP bm:=by
 obtain ⟨nm,qn,N,bs,bm,hdct,sn,sub,ab,col,dd,k0,k1,k2,k3,k5,hC,hB,_,T⟩:=joS X m.kts m.xn
 obtain ⟨cd,hc,hd⟩:=PySem.W.any_some m.hd
 have e:hdct=true:=by
  unfold PySem.W.clsIn at hc
  split at hc
  ·rename_i ho
   have e2:=X _ _ ho
   rw [hC] at e2
   cases hc
   injection e2 with e2
   injection e2 with _ _ e3 _
   injection e3 with e3
   rw [<- e3] at hd
   exact hd
  ·cases hc
 subst e
 exact ⟨nm,qn,N,bs,bm,sn,sub,ab,col,dd,k0,k1,k2,k3,k5,hC,hB,T⟩
section
variable {X:Cx} {o e value:Expr} {f:Str} {pos pos' tpos:Pos} {ta tv:TE}
end
structure XBase (K:PySem.W.Frag) (B:Addr):Prop where
 ga:PySem.W.specialIn K (.ref B) "__getattribute__"=some (some (.builtin "type.__getattribute__"))
 rd:PySem.W.readsIn K B (.type "type")=true
 fc:PySem.W.findCls K (.ref B) (.type "type") "__init__"=some (.val (.builtin "ValueError.__init__"))
 hh:PySem.W.handedIn (.builtin "ValueError.__init__")=true
section
variable {X:Cx} {o e:Expr} {es:List Expr} {B:Addr} {pos apos:Pos} {ta:TE} {t:TA}
def tInit (K:PySem.W.Frag) (B:Addr) (ta:TE) (t:TA):TE:=fun σ H Q=>ta σ H fun x H1=>x=.ref B/\t σ H1 fun vs H2=>∃ a C dx rest,vs=.ref a::rest/\rest.length<=1000/\H2 a=some (jcf a C dx)/\XMk K C/\Q .non (upd H2 a (jcf a C dx))
theorem jnp {pl:Sem Bool} (he:PE X o ta) (b:XBase X.K B) (ha:PA X (e::es) t)
  (hst:starEach (e::es) X.env=(false,eval e X.env)::starEach es X.env:=by rfl) (hpl:(backTo pos (starEach es X.env)).any (·.1)=false:=by rfl)
  (ht:eval (.Call (.Attribute o "__init__" apos) (e::es) [] pos) X.env=(do
   let ov <- eval o X.env
   standAt apos.atName
   let (f,first) <- holding [ov] (getMethod ov "__init__" pl)
   callWith pos f first (backTo pos (starEach (e::es) X.env)) (backToKw pos (keywordEach [] X.env))):=by rfl) :
  PE X (.Call (.Attribute o "__init__" apos) (e::es) [] pos) (tInit X.K B ta t):=by
 intro pins s σ H Q I h
 refine PySem.W.methodCall_KW (pl:=pl) (thn (he pins s σ H _ I h) fun u s1 ⟨x,H1,I1,rx,ex,q⟩=>?_) ht
 subst ex
 obtain rfl:u=Value.ref B:=rx
 refine PySem.W.method_cls I1.kIn b.ga (PySem.W.cls_value I1.kIn b.rd b.fc b.hh ?_)
 have I1':Inv X pins σ H1 {s1 with toks:=s1.toks+1}:=I1.tok _
 refine PyProof.Rows.callWith_method1 (first:=[]) (thn (ha pos pins _ σ H1 _ I1' q) fun us s2 ⟨vs,H2,I2,r,a,C,dx,rest,ev,hl,ea,m,q2⟩=>?_) hst hpl
 subst ev
 cases r with
 | cons r1 r2 =>
  have r1':=r1
  cases r1'
  obtain ⟨⟨t0,e1⟩,_⟩:=I2.hok a _ ea
  obtain ⟨nm,qn,N,bs,bm,sn,sub,ab,col,dd,k0,k1,k2,k3,k5,hC,hB,T⟩:=m.cls I2.kIn
  refine joU (h:=s2.heap) (g:=s2.gens) (d:=s2.drawn) (t:=s2.toks) (os:=s2.os) T hC e1 (by rw [<- Vals.length r2]; exact Nat.le_of_lt (jbf hl)) fun h' t' kp e2=>?_
  exact ⟨.non,_,I2.write (x:=a) (e:=a) (t':=s2.toks) (by rw [ea]; exact True.intro) (.inl rfl) kp ⟨_,e2⟩ (jeF e2),rfl,q2⟩
end
structure XIni (K:PySem.W.Frag) (C f:Addr):Prop where
 xm:XMk K C
 init:PySem.W.findIn K (.ref C) "__init__"=some (some (.ref f))
 fn:PySem.W.isFn K (.ref f)=true
 kp:PySem.W.keepIn K (.ref C)=true
section
variable {X:Cx} {CX:CXT} {k:Nat} {f C:Addr} {fd:FuncData} {ps:List Str} {sp:Sp} {E Er:XK} {ds:List Value} {dvs:List V} {x:Str} {p pos np cpos:Pos} {e:Expr} {es:List Expr} {t:TA}
theorem jjh {pins:List (Addr×Obj)} {σ:St} {H:Hp} {s:Shared} {Q:VK} {us:List Value} {vs:List V} (M:XIni X.K C f) (F:FnOk X.prog X.w X.K X.mg X.base CX k f fd ps sp) (hr:Room (k+1) X.A) (hb:Binds X.K fd ps ds) (hd:Vals dvs ds)
  (hx:jcw CX X E) (I:Inv X pins σ H s) (r:Vals vs us) (hl:vs.length<=1000) (hex:X.ex=[])
  (h:∀ a,H a=none->X.s₀.heap.get? a=none->sp (.ref a::(vs++dvs)) (upd H a (jcf a C none)) (fun v H2=>v=.non/\Q (.ref a) H2) E) :
  wpAny (model X.prog X.w) X.A (call (.ref C) us) (EP X pins σ Q) X.xe s:=by
 obtain ⟨nm,qn,N,bs,bm,sn,sub,ab,col,dd,k0,k1,k2,k3,k5,hC,hB,T⟩:=M.xm.cls I.kIn
 refine joT (h:=s.heap) (g:=s.gens) (d:=s.drawn) (t:=s.toks) (os:=s.os) I.kIn T hC M.init (beq_iff_eq.mp M.fn) (by rw [<- r.length]; exact Nat.le_of_lt (jbf hl)) fun h' a t' kp hz ea=>?_
 have I2:Inv X pins σ (upd H a (jcf a C none)) {s with heap:=h'}:=I.laid (t':=s.toks) kp hz (jeF ea)
 have n0:X.s₀.heap.get? a=none:=by
  cases z:X.s₀.heap.get? a with
  | none=>rfl
  | some ob =>
   obtain ⟨ob',e3⟩:=I.base.there _ ob z (by rw [hex]; simp)
   exact absurd (Nat.lt_of_lt_of_le (Heap.lt_size e3) hz) (Nat.lt_irrefl _)
 have hq:=h a (I.hok.fresh hz) n0
 have r2:Vals (V.ref a::(vs++dvs)) (Value.ref a::(us++ds)):=.cons rfl (r.append hd)
 have hl2:(Value.ref a::us++ds).length=ps.length:=by
  have e:=r2.length
  rw [F.len _ _ _ _ hq] at e
  exact e.symm
 refine wpAny_call (codeAny_mono (F.run _ X.stack _ _ ⟨Value.ref a::us,[]⟩ (Value.ref a::(us++ds)) _ _ E (hr.make C us []) (I2.env0.make C us []) (hb _ (Value.ref a::us) I2.kIn hl2) r2 hq) fun rr s' hq'=>?_)
 cases rr with
 | error e=>exact hx pins σ _ _ e s' I2 hq'
 | ok fl =>
  cases fl with
  | ret u =>
   obtain ⟨v,H',I3,rv,ev,q3⟩:=I2.after hq'
   subst ev
   exact ⟨rv,⟨V.ref a,H',I3,rfl,q3⟩⟩
  | next=>exact False.elim hq'
  | brk=>exact False.elim hq'
  | cont=>exact False.elim hq'
def joW (X:Cx) (C:Addr) (sp:Sp) (dvs:List V) (E:XK) (t:TA):TE:=fun σ H Q=>t σ H fun vs H1=>vs.length<=1000/\∀ a,H1 a=none->X.s₀.heap.get? a=none->sp (.ref a::(vs++dvs)) (upd H1 a (jcf a C none)) (fun v H2=>v=.non/\Q (.ref a) H2) E
theorem jlh (M:XIni X.K C f) (F:FnOk X.prog X.w X.K X.mg X.base CX k f fd ps sp) (hr:Room (k+1) X.A) (hg:Gl X x) (hm:X.mg x=some (.ref C)) (hb:Binds X.K fd ps ds) (hd:Vals dvs ds) (hx:jcw CX X E)
  (ha:PA X (e::es) t) (hex:X.ex=[]:=by rfl) (hdb:(x==("__debug__":Str))=false:=by decide) (he:starEach (e::es) X.env=(false,eval e X.env)::starEach es X.env:=by rfl) (hpl:(backTo pos (starEach es X.env)).any (·.1)=false:=by rfl) :
  PE X (.Call (.Name x p) (e::es) [] pos) (joW X C sp dvs E t):=by
 intro pins s σ H Q I h
 refine wpAny_Call_Name_kw (ld_glob I hg hm ?_ hdb)
 refine PySem.W.callWith_K (h₀:=X.base) I.ok.mod.kin M.kp (thn (ha pos pins s σ H _ I h) fun us s1 ⟨vs,H1,I1,r,hl,q⟩=>⟨I1.kIn,?_⟩) he hpl
 exact jjh M F hr hb hd hx I1 r hl hex q
end
section
variable {M:Model} {A:Around} {E:Value->Shared->Prop} {env:Env} {s:Shared} {C:Addr} {K:PySem.W.Frag}
theorem x_raise {v:Sem Value} {Q:Flow->Shared->Prop} (m:XMk K C) (hh:A.handled=none)
  (h:wpAny M A v (fun u s1=>∃ e t dx,u=.ref e/\K.In s1.heap/\s1.heap.get? e=some (jgb C dx t)/\E (.ref e) s1) E s):wpAny M A (raiseStmt env (some v) none) Q E s:=by
 unfold raiseStmt
 refine wpAny_bind (wpAny_mono h (fun u s1 h1=>?_) fun _ _ x=>x)
 obtain ⟨e,t,dx,rfl,X,he,hE⟩:=h1
 obtain ⟨nm,qn,N,bs,bm,sn,sub,ab,col,dd,k0,k1,k2,k3,k5,hC,hB,T⟩:=m.cls X
 have own:(Value.ref C::bm).contains (.type "BaseException")=true:=by rw [List.contains_cons,hB,Bool.or_true]
 obtain ⟨hp,g,d,tk,os⟩:=s1
 dsimp only [jgb] at he
 repeat (first | with_reducible refine wpAny_loadPart_at he ?_ | (with_reducible refine wpAny_isSubtype_exc hC ?_; rw [own]) | with_reducible refine wpAny_loadPart_at hC ?_ | wp_step)
 exact wpAny_raiseNew_none hh hE
end
section
variable {X:Cx} {C:Addr} {x:Str} {np cpos pos:Pos} {args:List Expr} {te:TE} {E:XK}
def jnq (X:Cx) (C:Addr) (Er:XK) (te:TE):TS:=fun _ σ H=>te σ H fun v H2=>∃ a dx,v=.ref a/\X.s₀.heap.get? a=none/\H2 a=some (jcf a C dx)/\Er (.ref C) dx (del H2 a)
theorem jji (m:XMk X.K C) (he:PE X (.Call (.Name x np) args [] cpos) te) (hX:XOk X E) (hc:X.calm=true:=by rfl) (hex:X.ex=[]:=by rfl) :
  PS X (.Raise (some (.Call (.Name x np) args [] cpos)) none pos) (jnq X C E te):=by
 intro pins s σ H D I h
 rw [arm_exec_Raise]
 refine wpAny_bind (wpAny_standAt (x_raise m (I.ok.hd hc) (wpAny_bind (thn (he pins s σ H _ I h) fun u s1 ⟨v,H2,I2,rv,a,dx,ev,n0,ea,q⟩=>wpAny_bind (wpAny_standAt (wpAny_pure ?_))))))
 subst ev
 obtain rfl:u=Value.ref a:=rv
 obtain ⟨⟨t0,e1⟩,_⟩:=I2.hok a _ ea
 exact ⟨a,t0,dx,rfl,I2.kIn,e1,hX _ _ (jje (I2.forget ea) hex jgY n0 ⟨_,_,e1,rfl,rfl,rfl,rfl⟩ q)⟩
end
structure FunD (K:PySem.W.Frag) (x qual:Str) (st:Stmt) (f:Addr) (fd:FuncData) (dfl:List Value):Prop where
 ex:∃ (oc:Value) (od:Option Addr) (T:Addr) (kV doc pm:Value) (an:Option Addr) (cdv ct:Value) (osl:Array (Option Value)) (tc:Value) (td:Option Addr) (tn:Nat) (tsl:Array (Option Value)),
  fd=PySem.W.fnOf x qual (jbr st) (jaP st) (jag st) (.ref T) kV doc pm an cdv ct/\K.lookup f=some ⟨oc,od,.func fd,osl⟩/\PySem.W.codeIn K cdv qual=true/\K.lookup T=some ⟨tc,td,.seq dfl.toArray tn,tsl⟩
 kp:PySem.W.keepIn K (.ref f)=true
section
variable {P:Program} {w:World} {K:PySem.W.Frag} {mg:Str->Option Value} {base:Heap} {x qual:Str} {st:Stmt} {f:Addr} {fd:FuncData} {N ps:List Str} {k:Nat} {sp:Sp} {dfl ds:List Value}
theorem FunD.ok (F:FunD K x qual st f fd dfl) (S:FnScope N ps (jag st)) (len:∀ vs H Q E,sp vs H Q E->vs.length=ps.length)
  (hbody:∀ (cdv:Value) (A:Around) (outer:List Env) (s:Shared) (H:Hp) (vs:List V) (Q:VK) (E:XK),Room k (A.deeper (envOfC qual (jag st) s.heap.objs.size f cdv))->sp vs H Q E ->
   ∃ t,PSs (jhP CX0 P w K mg base N qual (jag st) f cdv A outer s H E).nox (jaP st) t/\t {nx:=fun _ H'=>Q .non H',rt:=Q} (jeh N vs) H):FnOk P w K mg base CX0 (k+1) f fd ps sp:=by
 obtain ⟨oc,od,T,kV,doc,pm,an,cdv,ct,osl,_,_,_,_,rfl,lk,hcd,_⟩:=F.ex
 refine jmX lk hcd S len fun A outer s H vs Q E hr hsp=>?_
 obtain ⟨t,h,q⟩:=hbody cdv A outer s H vs Q E hr hsp
 exact ⟨t,h.nox,q⟩
theorem FunD.binds (F:FunD K x qual st f fd dfl)
  (h:∀ (T:Addr) (kV doc pm:Value) (an:Option Addr) (cdv ct:Value) (us:List Value),(us++ds).length=ps.length ->
   ∃ k,bindArgs (PySem.W.fnOf x qual (jbr st) (jaP st) (jag st) (.ref T) kV doc pm an cdv ct) ⟨us,[]⟩=seqItems? (.ref T)>>=k/\k (some dfl.toArray)=pure (ps.zip (us++ds))):Binds K fd ps ds:=by
 obtain ⟨oc,od,T,kV,doc,pm,an,cdv,ct,osl,_,_,_,_,rfl,lk,hcd,ht⟩:=F.ex
 intro s us X hl
 obtain ⟨k,h1,h2⟩:=h T kV doc pm an cdv ct us hl
 exact PySem.W.binds_K X rfl ht rfl h1 h2
theorem funD_mk {oc:Value} {od an:Option Addr} {osl:Array (Option Value)} {T:Addr} {kV doc pm cdv ct tc:Value} {td:Option Addr} {tn:Nat} {tsl:Array (Option Value)} (l:K.lookup f=some ⟨oc,od,.func (PySem.W.fnOf x qual (jbr st) (jaP st) (jag st) (.ref T) kV doc pm an cdv ct),osl⟩)
  (c:PySem.W.codeIn K cdv qual=true) (k:PySem.W.keepIn K (.ref f)=true) (t:K.lookup T=some ⟨tc,td,.seq dfl.toArray tn,tsl⟩):FunD K x qual st f (PySem.W.fnOf x qual (jbr st) (jaP st) (jag st) (.ref T) kV doc pm an cdv ct) dfl :=
 ⟨⟨oc,od,T,kV,doc,pm,an,cdv,ct,osl,tc,td,tn,tsl,rfl,l,c,t⟩,k⟩
end
section
variable {prog:Program} {w:World} {A:Around} {E:Value->Shared->Prop} {h:Heap} {g:Array GenState} {d:Drawn} {t:Nat} {os:OsState} {K:PySem.W.Frag}
 {nm q:Str} {C N a:Addr} {bs bm:List Value} {sn:List Str} {sub:List Value} {ab:Bool} {col:Option Bool} {dd:Option Addr} {k0 k1 k2 k3 k5:Option Value}
theorem jli {e t0 dx:Addr} {name:Str} {v:Value} {mA:Str->Option Value} {ns:List Str} {Q:Unit->Shared->Prop} (X:K.In h) (T:OwnTail h jbP bm) (hC:h.get? C=some (excClassObj nm q C N bs bm true sn sub ab col dd k0 k1 k2 k3 k5 "ValueError.__new__"))
  (hs:PySem.W.findIn K (.ref C) "__setattr__"=some (some (.builtin "object.__setattr__"))) (hn:PySem.W.findIn K (.ref C) name=some none) (hm:PySem.W.mroIn K C (.type "object")=some true) (he:h.get? e=some (jgb C (some dx) t0)) (ne:e≠dx)
  (n1:h.Ns1 dx mA) (hw:PySem.Within mA ns) (hl:ns.length<=100)
  (z:∀ h' tk,(∀ b o,b≠dx->h.get? b=some o->h'.get? b=some o)->h'.Ns1 dx (fun y=>if y=name then some v else mA y)->Q () ⟨h',g,d,tk,os⟩) :
  wpAny (model prog w) A (setAttr (.ref e) name v) Q E ⟨h,g,d,t,os⟩:=by
 have SF:=PySem.F.store_ValueError
 obtain ⟨od,ho,hlk⟩:=jdH n1
 have J:PySem.W.InstAt h e (jgb C (some dx) t0) C (some od):=⟨he,rfl,rfl,ho⟩
 have Jt:=J.type (M:=model prog w)
 have L2:=PySem.W.looks_findIn (M:=model prog w) X hn
 have hp:=jdN (self:=.ref e) (what:="__setattr__") T (SF.passes (.ref e))
 refine PySem.W.set_plain (s:=⟨h,g,d,t,os⟩) X J hs ?_
 refine codeAny_call_builtin SF.slot.plain SF.entry (PySem.W.check_slot (i:="object.__setattr__") (self:=.ref e) SF.kind SF.split (Jt.andThen (PySem.W.looks_mroIn X hm)) (SF.args (.ref e) _ v) ?_)
 rw [PySem.W.osa_eq,refuse_eq]
 refine wpAny_bind (wpAny_bind (Jt.at (wpAny_bind (wpAny_mroOf_exc hC ?_))))
 rw [refuseLoop_ref,hp]
 refine wpAny_pure (wpAny_bind (Jt.at (wpAny_bind (L2.at (wpAny_bind (wpAny_pure ?_))))))
 refine wpAny_bind (wpAny_pure (wpAny_bind (wpAny_bind (wpAny_loadPart he ?_))))
 refine wpAny_bind (wpAny_bind (wpAny_load hC (wpAny_pure ?_)))
 refine wpAny_pure ?_
 refine wpAny_bind (wpAny_pure (wpAny_bind (wpAny_nsSet1 n1 fun h' n' sb=>?_)))
 obtain ⟨oD,eD,pD,aD,dD,cD⟩:=n'.count (PySem.Within.cons name v hw)
 refine wpAny_bind (wpAny_lookBehind aD (by rw [dD]; exact pastItsLine_dict (Nat.le_trans cD (by rw [List.length_cons,sizeLine_eq]; omega))) (wpAny_pure ?_))
 exact z h' _ (fun b o n e1=>(sb.2 b n).trans e1) n'
end
theorem jfF {g:Str} {v:V}:∀ {fs:List (Str×V)},fs.lookup g=some v->g∈fs.map (·.1)
 | [],h=>by cases h
 | p::r,h=>by
  rw [List.lookup] at h
  split at h
  ·rename_i hb
   rw [List.map_cons,beq_iff_eq.mp hb]; exact List.mem_cons_self
  ·exact List.mem_cons_of_mem _ (jfF h)
def XDx (d:Addr) (fs:List (Str×V)):HO:=.ext fun h=>∃ mA,h.Ns1 d mA/\∀ f,RelO (fs.lookup f) (mA f)
theorem jmk {P:Program} {w:World} {H:Hp} {h:Heap} {d:Addr} {fs:List (Str×V)} {mA:Str->Option Value} (n:h.Ns1 d mA) (r:∀ f,RelO (fs.lookup f) (mA f)):ObjOk P w H h d (XDx d fs):=by
 obtain ⟨od,es,ep,e,c⟩:=n
 exact ⟨⟨mA,⟨od,es,ep,e,c⟩,r⟩,⟨_,e⟩,fun _ _ ⟨mA,⟨od,es,ep,e,c⟩,r⟩ k=>⟨mA,⟨od,es,ep,k _ e,c⟩,r⟩⟩
section
variable {X:Cx} {o e value:Expr} {f:Str} {pos pos' tpos:Pos} {ta tv:TE}
def tFldY (K:PySem.W.Frag) (ta:TE) (f:Str):TE:=fun σ H Q=>ta σ H fun x H1=>∃ a C d fs v,x=.ref a/\H1 a=some (jic a (.ref C) (some d))/\H1 d=some (XDx d fs)/\XFld K C f/\fs.lookup f=some v/\Q v H1
theorem jeG (he:PE X e ta) (hb:attributeBase e f X.env (eval e X.env)=eval e X.env):PE X (.Attribute e f pos) (tFldY X.K ta f):=by
 intro pins s σ H Q I h
 refine attr_of hb (thn (he pins s σ H _ I h) fun u s1 ⟨x,H1,I1,rx,a,C,d,fs,v,ex,ea,ed,c,l,q⟩=>?_)
 subst ex
 obtain rfl:u=Value.ref a:=rx
 obtain ⟨⟨ob,vs,e1,e2,e3,e4⟩,_⟩:=I1.hok a _ ea
 obtain ⟨⟨mA,n1,r⟩,_⟩:=(show ObjOk X.prog X.w H1 s1.heap d (XDx d fs) from I1.hok d _ ed)
 obtain ⟨u',hu,ru⟩:=RelO.some_of (v:=v) (o:=mA f) (by rw [<- l]; exact r f)
 have nc:PySem.W.notCls ob=true:=by unfold PySem.W.notCls; rw [e4]
 exact joV (h:=s1.heap) (g:=s1.gens) (d:=s1.drawn) (t:=s1.toks) (os:=s1.os) I1.kIn c.cl c.hd c.no e1 e2 e3 nc n1 hu (jfn ru) ⟨v,H1,I1.tok _,ru,q⟩
def sFldY (K:PySem.W.Frag) (ta tv:TE) (f:Str):TS:=fun D σ H=>tv σ H fun y H1=>ta σ H1 fun x H2=>∃ a C,x=.ref a/\H2 a=some (jcf a C none)/\XMk K C/\PySem.W.findIn K (.ref C) f=some none /\
 ∀ d,H2 d=none->d≠a->D.nx σ (upd (upd H2 a (jcf a C (some d))) d (XDx d [(f,y)]))
theorem jnr (ha:PE X o ta) (hv:PE X value tv) (hs:swapsWith value (some (.Attribute o f pos')) pos.line X.env=pure false) (hex:X.ex=[]:=by rfl):PS X (.Assign [.Attribute o f pos'] value pos) (sFldY X.K ta tv f):=by
 intro pins s σ H D I h
 refine plainObj_wpAny_Assign_Attribute (thn (hv pins s σ H _ I h) fun u s1 ⟨y,H1,I1,ry,q⟩=>thn (ha pins s1 σ H1 _ I1 q) fun ov s2 ⟨x,H2,I2,rx,a,C,ex,ea,m,n,q2⟩=>?_) hs
 subst ex
 obtain rfl:ov=Value.ref a:=rx
 obtain ⟨⟨t0,e1⟩,_⟩:=I2.hok a _ ea
 obtain ⟨nm,qn,N,bs,bm,sn,sub,ab,col,dd,k0,k1,k2,k3,k5,hC,hB,T⟩:=m.cls I2.kIn
 refine jno (h:=s2.heap) (g:=s2.gens) (d:=s2.drawn) (t:=s2.toks) (os:=s2.os) I2.kIn T hC m.sa n m.ob e1 fun h' tk kp e2 n1=>?_
 have nd:s2.heap.objs.size≠a:=Nat.ne_of_gt (Heap.lt_size e1)
 have fr:=I2.hok.fresh (Nat.le_refl s2.heap.objs.size)
 have J:=I2.write (x:=a) (e:=a) (t':=tk) (o:=jcf a C (some s2.heap.objs.size)) (by rw [ea]; exact True.intro) (.inl rfl) kp ⟨_,e2⟩ (jeF e2)
 have old:∀ b ob,s2.heap.get? b=some ob->b≠s2.heap.objs.size:=fun b ob z=>Nat.ne_of_lt (Heap.lt_size z)
 refine ⟨σ,_,J.adoptN (D:=s2.heap.objs.size) (o:=XDx s2.heap.objs.size [(f,y)]) (by rw [upd_ne nd]; exact fr) ?_ ?_ ?_ ?_ (jmk n1 fun g=>?_),q2 _ fr nd⟩
 ·cases z:X.s₀.heap.get? s2.heap.objs.size with
  | none=>rfl
  | some ob =>
   obtain ⟨ob',e3⟩:=I2.base.there _ ob z (by rw [hex]; simp)
   exact absurd rfl (old _ _ e3)
 ·intro z
  obtain ⟨mm,⟨ob,_,_,e3,_⟩,_⟩:=I2.loc
  exact old _ _ e3 z.symm
 ·intro yy c z z2
  obtain ⟨_,ob,e3,_⟩:=I2.cell yy c z
  exact old _ _ e3 z2
 ·intro p hp z
  obtain ⟨e3,_⟩:=I2.pin p hp
  exact old _ _ e3 z
 ·show RelO (List.lookup g [(f,y)]) (if g=f then some u else none)
  by_cases z:g=f
  ·subst z
   rw [if_pos rfl]
   simp only [List.lookup,beq_self_eq_true]
   exact ry
  ·rw [if_neg z]
   have hb:(g==f)=false:=beq_eq_false_iff_ne.mpr z
   simp only [List.lookup,hb]
   exact True.intro
def sFldZ (K:PySem.W.Frag) (ta tv:TE) (f:Str):TS:=fun D σ H=>tv σ H fun y H1=>ta σ H1 fun x H2=>∃ a C d fs,x=.ref a/\H2 a=some (jcf a C (some d))/\a≠d/\H2 d=some (XDx d fs)/\fs.length<=99/\XMk K C/\PySem.W.findIn K (.ref C) f=some none /\
 D.nx σ (upd H2 d (XDx d ((f,y)::fs)))
theorem jns (ha:PE X o ta) (hv:PE X value tv) (hs:swapsWith value (some (.Attribute o f pos')) pos.line X.env=pure false):PS X (.Assign [.Attribute o f pos'] value pos) (sFldZ X.K ta tv f):=by
 intro pins s σ H D I h
 refine plainObj_wpAny_Assign_Attribute (thn (hv pins s σ H _ I h) fun u s1 ⟨y,H1,I1,ry,q⟩=>thn (ha pins s1 σ H1 _ I1 q) fun ov s2 ⟨x,H2,I2,rx,a,C,d,fs,ex,ea,ne,ed,hl,m,n,q2⟩=>?_) hs
 subst ex
 obtain rfl:ov=Value.ref a:=rx
 obtain ⟨⟨t0,e1⟩,_⟩:=I2.hok a _ ea
 obtain ⟨⟨mA,n1,r⟩,_⟩:=(show ObjOk X.prog X.w H2 s2.heap d (XDx d fs) from I2.hok d _ ed)
 obtain ⟨nm,qn,N,bs,bm,sn,sub,ab,col,dd,k0,k1,k2,k3,k5,hC,hB,T⟩:=m.cls I2.kIn
 have hw:PySem.Within mA (fs.map (·.1)):=fun g hg=>by
  have hr:=r g
  cases hlk:fs.lookup g with
  | none =>
   rw [hlk] at hr
   cases hm:mA g with
   | none=>exact absurd hm hg
   | some u=>rw [hm] at hr; exact hr.elim
  | some v'=>exact jfF hlk
 refine jli (h:=s2.heap) (g:=s2.gens) (d:=s2.drawn) (t:=s2.toks) (os:=s2.os) I2.kIn T hC m.sa n m.ob e1 ne n1 hw (by rw [List.length_map]; omega) fun h' tk kp n2=>?_
 refine ⟨σ,_,I2.write (x:=d) (e:=d) (t':=tk) (o:=XDx d ((f,y)::fs)) (by rw [ed]; exact True.intro) (.inl rfl) kp ?_ (jmk n2 fun g=>?_),q2⟩
 ·obtain ⟨ob,_,_,e3,_⟩:=n2
  exact ⟨_,e3⟩
 ·show RelO (List.lookup g ((f,y)::fs)) (if g=f then some u else mA g)
  by_cases z:g=f
  ·subst z
   rw [if_pos rfl]
   simp only [List.lookup,beq_self_eq_true]
   exact ry
  ·rw [if_neg z]
   have hb:(g==f)=false:=beq_eq_false_iff_ne.mpr z
   simp only [List.lookup,hb]
   exact r g
end
end L2
namespace Lf
open PySem L2
def SIGNS:Str:="abcdefghijklmnopqrstuvwxyzABCDEFGHIJKLMNOPQRSTUVWXYZ0123456789 .,:;-/()\n"
inductive Pc where
 | say (t:Str)
 | ask (n sg:Str) (lo hi:Int)
inductive Pie where
 | one (p:Pc)
 | rows (n:Str) (inner:List Pc) (gap:Str) (lo hi:Int)
def Pc.tup:Pc->List V
 | .say t=>[.str "say",.str t]
 | .ask n sg lo hi=>[.str "ask",.str n,.str sg,.int lo,.int hi]
def Pc.At (H:Hp) (p:Pc) (v:V):Prop:=∃ a,v=.ref a/\H a=some (.tup p.tup)
def Pie.At (H:Hp):Pie->V->Prop
 | .one p,v=>p.At H v
 | .rows n inner gap lo hi,v=>∃ a l vs,v=.ref a/\H a=some (.tup [.str "rows",.str n,.ref l,.str gap,.int lo,.int hi])/\H l=some (.lst vs)/\Paired (Pc.At H) inner vs
theorem Pc.At.mono {H H':Hp} (e:Same H H') {p:Pc} {v:V} (h:p.At H v):p.At H' v:=by
 obtain ⟨a,rfl,q⟩:=h
 exact ⟨a,rfl,e _ _ q⟩
theorem Pie.At.mono {H H':Hp} (e:Same H H'):∀ {p:Pie} {v:V},p.At H v->p.At H' v
 | .one p,v,h=>Pc.At.mono (p:=p) e h
 | .rows ..,v,⟨a,l,vs,h1,h2,h3,h4⟩=>⟨a,l,vs,h1,e _ _ h2,e _ _ h3,Paired.mapP h4 fun _ _ q=>q.mono e⟩
structure SignsOk (z:Str) (lo hi:Nat):Prop where
 lo:lo<=z.length
 hi:z.length<=hi
 all:∀ c∈z.cps.toList,c∈SIGNS.cps.toList
def Pc.ok:Pc->Prop
 | .say t=>SignsOk t 1 12
 | .ask n sg lo hi=>n≠""/\SignsOk sg 1 20/\(sgn sg).Nodup/\0<=lo/\lo<=hi/\hi<=4
def Pc.nm:Pc->List Str
 | .say _=>[]
 | .ask n ..=>[n]
structure PartsOk (ps:List Pc):Prop where
 lo:1<=ps.length
 hi:ps.length<=3
 all:∀ p∈ps,p.ok
 nd:(ps.flatMap Pc.nm).Nodup
def Pie.ok:Pie->Prop
 | .one p=>p.ok
 | .rows n inner gap lo hi=>n≠""/\PartsOk inner/\SignsOk gap 0 5/\0<=lo/\lo<=hi/\hi<=3
def Pie.nm:Pie->List Str
 | .one p=>p.nm
 | .rows n ..=>[n]
structure FormOk (ps:List Pie):Prop where
 lo:1<=ps.length
 hi:ps.length<=6
 all:∀ p∈ps,p.ok
 nd:(ps.flatMap Pie.nm).Nodup
structure Cl where
 (say ask rows form:Addr)
def Fld (H:Hp) (a C:Addr) (fs:List (Str×V)):Prop:=∃ dx l,H a=some (.ins C dx l)/\∀ p∈fs,l.lookup p.1=some p.2
def Pc.Obj (c:Cl) (H:Hp):Pc->V->Prop
 | .say t,v=>∃ a,v=.ref a/\Fld H a c.say [("text",.str t)]
 | .ask n sg lo hi,v=>∃ a,v=.ref a/\Fld H a c.ask [("name",.str n),("signs",.str sg),("least",.int lo),("most",.int hi)]
def Pie.AtF (H0 H:Hp):Pie->V->Prop
 | .one p,v=>p.At H v
 | .rows n inner gap lo hi,v=>∃ a l vs,v=.ref a/\H a=some (.tup [.str "rows",.str n,.ref l,.str gap,.int lo,.int hi])/\H l=some (.lst vs)/\H0 l=none/\Paired (Pc.At H) inner vs
def Pie.Obj (c:Cl) (H0 H:Hp):Pie->V->Prop
 | .one p,v=>p.Obj c H v
 | .rows n inner gap lo hi,v=>∃ a l vs,v=.ref a/\Fld H a c.rows [("name",.str n),("parts",.ref l),("gap",.str gap),("least",.int lo),("most",.int hi)]/\H l=some (.lst vs)/\H0 l=none/\Paired (Pc.Obj c H) inner vs
def FormAt (c:Cl) (H0 H:Hp) (ps:List Pie) (v:V):Prop:=∃ a l vs m us,v=.ref a/\Fld H a c.form [("plan",.ref l),("pieces",.ref m)]/\H l=some (.lst vs)/\H0 l=none/\Paired (Pie.Obj c H0 H) ps vs/\H m=some (.lst us)/\H0 m=none/\Paired (Pie.AtF H0 H) ps us
def jnt (H0 H H':Hp):Prop:=∀ b o,H b=some o->((∃ xs,o=.lst xs)->H0 b=none)->H' b=some o
theorem jfG {H0 H H':Hp} (e:Same H H'):jnt H0 H H':=fun b o h _=>e b o h
theorem Pc.At.keep {H0 H H':Hp} (e:jnt H0 H H') {p:Pc} {v:V} (h:p.At H v):p.At H' v:=by
 obtain ⟨a,rfl,q⟩:=h
 exact ⟨a,rfl,e _ _ q fun ⟨_,z⟩=>by cases z⟩
theorem Fld.keep {H0 H H':Hp} (e:jnt H0 H H') {a C:Addr} {fs:List (Str×V)} (h:Fld H a C fs):Fld H' a C fs:=by
 obtain ⟨dx,l,h1,h2⟩:=h
 exact ⟨dx,l,e _ _ h1 (fun ⟨_,z⟩=>by cases z),h2⟩
theorem Fld.mono {H H':Hp} (e:Same H H') {a C:Addr} {fs:List (Str×V)} (h:Fld H a C fs):Fld H' a C fs:=h.keep (H0:=H) (jfG e)
theorem Pc.Obj.keep {c:Cl} {H0 H H':Hp} (e:jnt H0 H H'):∀ {p:Pc} {v:V},p.Obj c H v->p.Obj c H' v
 | .say _,_,⟨a,h1,h2⟩=>⟨a,h1,h2.keep e⟩
 | .ask ..,_,⟨a,h1,h2⟩=>⟨a,h1,h2.keep e⟩
theorem Pie.Obj.keep {c:Cl} {H0 H H':Hp} (e:jnt H0 H H'):∀ {p:Pie} {v:V},p.Obj c H0 H v->p.Obj c H0 H' v
 | .one p,_,h=>Pc.Obj.keep (p:=p) e h
 | .rows ..,_,⟨a,l,vs,h1,h2,h3,h5,h4⟩=>⟨a,l,vs,h1,h2.keep e,e _ _ h3 (fun _=>h5),h5,Paired.mapP h4 fun _ _ q=>q.keep e⟩
theorem Pie.AtF.keep {H0 H H':Hp} (e:jnt H0 H H'):∀ {p:Pie} {v:V},p.AtF H0 H v->p.AtF H0 H' v
 | .one p,_,h=>Pc.At.keep (p:=p) e h
 | .rows ..,_,⟨a,l,vs,h1,h2,h3,h5,h4⟩=>⟨a,l,vs,h1,e _ _ h2 (fun ⟨_,z⟩=>by cases z),e _ _ h3 (fun _=>h5),h5,Paired.mapP h4 fun _ _ q=>q.keep e⟩
theorem FormAt.keep {c:Cl} {H0 H H':Hp} (e:jnt H0 H H') {ps:List Pie} {v:V} (h:FormAt c H0 H ps v):FormAt c H0 H' ps v:=by
 obtain ⟨a,l,vs,m,us,h1,h2,h3,hl,h4,h5,hm,h6⟩:=h
 exact ⟨a,l,vs,m,us,h1,h2.keep e,e _ _ h3 (fun _=>hl),hl,Paired.mapP h4 fun _ _ q=>q.keep e,e _ _ h5 (fun _=>hm),hm,Paired.mapP h6 fun _ _ q=>q.keep e⟩
theorem Pc.Obj.mono {c:Cl} {H H':Hp} (e:Same H H') {p:Pc} {v:V} (h:p.Obj c H v):p.Obj c H' v:=h.keep (H0:=H) (jfG e)
theorem Pie.Obj.mono {c:Cl} {H0 H H':Hp} (e:Same H H') {p:Pie} {v:V} (h:p.Obj c H0 H v):p.Obj c H0 H' v:=h.keep (jfG e)
theorem Pie.AtF.mono {H0 H H':Hp} (e:Same H H') {p:Pie} {v:V} (h:p.AtF H0 H v):p.AtF H0 H' v:=h.keep (jfG e)
theorem FormAt.mono {c:Cl} {H0 H H':Hp} (e:Same H H') {ps:List Pie} {v:V} (h:FormAt c H0 H ps v):FormAt c H0 H' ps v:=h.keep (jfG e)
theorem jml {H H':Hp} (e:Same H H') {a:Addr} (h:H' a=none):H a=none:=e.free h
theorem Pie.Obj.older {c:Cl} {H0 H1 H:Hp} (e:Same H0 H1):∀ {p:Pie} {v:V},p.Obj c H1 H v->p.Obj c H0 H v
 | .one p,_,h=>h
 | .rows ..,_,⟨a,l,vs,h1,h2,h3,h5,h4⟩=>⟨a,l,vs,h1,h2,h3,jml e h5,h4⟩
theorem Pie.AtF.older {H0 H1 H:Hp} (e:Same H0 H1):∀ {p:Pie} {v:V},p.AtF H1 H v->p.AtF H0 H v
 | .one p,_,h=>h
 | .rows ..,_,⟨a,l,vs,h1,h2,h3,h5,h4⟩=>⟨a,l,vs,h1,h2,h3,jml e h5,h4⟩
abbrev Row:=Str->Option Str
inductive Val where
 | text (t:Str)
 | rows (rs:List Row)
abbrev Vs:=Str->Option Val
def RowAt (H:Hp) (f:Row) (v:V):Prop:=∃ a kvs,v=.ref a/\Rd H a (.dK kvs)/\∀ n t,f n=some t->jaW kvs (Sum.inr n)=some (.str t)
def joX (H:Hp):Val->V->Prop
 | .text t,v=>v=.str t
 | .rows rs,v=>∃ l vs,v=.ref l/\H l=some (.lst vs)/\Paired (RowAt H) rs vs
theorem Rd.mono {H H':Hp} (e:Same H H') {a:Addr} {u:HO} (h:Rd H a u):Rd H' a u:=by
 rcases h with h | ⟨o,h⟩
 ·exact .inl (e _ _ h)
 ·exact .inr ⟨o,e _ _ h⟩
theorem RowAt.mono {H H':Hp} (e:Same H H') {f:Row} {v:V} (h:RowAt H f v):RowAt H' f v:=by
 obtain ⟨a,kvs,h1,h2,h3⟩:=h
 exact ⟨a,kvs,h1,Rd.mono e h2,h3⟩
structure Fits (sg:Str) (lo hi:Int) (t:Str):Prop where
 lo:lo<=t.length
 hi:(t.length:Int)<=hi
 all:∀ c∈t.cps.toList,c∈sg.cps.toList
def FitPc (f:Row):Pc->Prop
 | .say _=>True
 | .ask n sg lo hi=>∃ t,f n=some t/\Fits sg lo hi t
def jha (ps:List Pc) (f:Row):Prop:=∀ p∈ps,FitPc f p
def jfH (F:Vs):Pie->Prop
 | .one (.say _)=>True
 | .one (.ask n sg lo hi)=>∃ t,F n=some (.text t)/\Fits sg lo hi t
 | .rows n inner _ lo hi=>∃ rs,F n=some (.rows rs)/\lo<=(rs.length:Int)/\(rs.length:Int)<=hi/\∀ f∈rs,jha inner f
def cat (l:List Str):Str:=Str.join Str.empty l
def wPc (f:Row):Pc->Str
 | .say t=>t
 | .ask n ..=>(f n).getD Str.empty
def jkD (ps:List Pc) (f:Row):Str:=cat (ps.map (wPc f))
def jjj (F:Vs):Pie->Str
 | .one (.say t)=>t
 | .one (.ask n ..)=>match F n with | some (.text t)=>t | _=>Str.empty
 | .rows n inner gap ..=>match F n with | some (.rows rs)=>Str.join gap (rs.map (jkD inner)) | _=>Str.empty
def jlj (ps:List Pie) (F:Vs):Str:=cat (ps.map (jjj F))
theorem cxK {CX:CXT} {P:Program} {w:World} {K:PySem.W.Frag} {mg:Str->Option Value} {base:Heap} {N:List Str} {q:Str} {sc:Scope} {f:Addr} {cdv:Value} {A:Around} {outer:List Env} {s:Shared} {H:Hp} {E:XK}:(jhP CX P w K mg base N q sc f cdv A outer s H E).nox.K=K:=rfl
theorem jbg {K:PySem.W.Frag} {a:Addr} {xs:List V} {g:TG} {tb:TS} {D:Ends} {σ:St} {H:Hp} (Pv:Nat->St->Hp->Prop) (h0:Pv 0 σ H) (hl:∀ i σ H,i<=xs.length->Pv i σ H->SqL K H a xs)
  (hs:∀ i x σ H,xs[i]?=some x->Pv i σ H->∀ Dd:Ends,(∀ σ' H',Pv (i+1) σ' H'->Dd.nx σ' H')->g x σ H fun σ2 H2=>tb Dd σ2 H2) (hd:∀ σ H,Pv xs.length σ H->D.nx σ H) :
  ∃ W:Nat->Nat->St->Hp->Prop,(∃ m,W 0 m σ H)/\∀ i m σ H,W i m σ H ->
   ((Itl K a).stop i H/\D.nx σ H)\/((Itl K a).go i H/\∃ N:St->Hp->Prop,(∀ σ' H',N σ' H'->∃ m',m' < m/\W (i+1) m' σ' H')/\∀ x H',(Itl K a).yld i H x H'->g x σ H' fun σ2 H2=>tb {D with nx:=N,ct:=N,bk:=D.nx} σ2 H2):=jcJ Pv h0 hl (fun i x σ H hx hp=>hs i x σ H hx hp _ (fun _ _ h=>h)) hd
theorem jes {lo:Int} {n:Nat} {g:TG} {tb:TS} {D:Ends} {σ:St} {H:Hp} (Pv:Nat->St->Hp->Prop) (h0:Pv 0 σ H)
  (hs:∀ i σ H,i < n->Pv i σ H->∀ Dd:Ends,(∀ σ' H',Pv (i+1) σ' H'->Dd.nx σ' H')->g (.int (lo+i)) σ H fun σ2 H2=>tb Dd σ2 H2) (hd:∀ σ H,Pv n σ H->D.nx σ H) :
  ∃ W:Nat->Nat->St->Hp->Prop,(∃ m,W 0 m σ H)/\∀ i m σ H,W i m σ H ->
   ((Itr lo n).stop i H/\D.nx σ H)\/((Itr lo n).go i H/\∃ N:St->Hp->Prop,(∀ σ' H',N σ' H'->∃ m',m' < m/\W (i+1) m' σ' H')/\∀ x H',(Itr lo n).yld i H x H'->g x σ H' fun σ2 H2=>tb {D with nx:=N,ct:=N,bk:=D.nx} σ2 H2):=jbI Pv h0 (fun i σ H hi hp=>hs i σ H hi hp _ (fun _ _ h=>h)) hd
end Lf
namespace Mth
inductive Stp where
 | sign (s:List Nat)
 | choice (b:Nat)
def paths (S:List Stp) (n:Nat) (t:List Nat):List (List Bool) :=
 match n with
 | 0=>if t=[] then [[]] else []
 | n+1=>match S[n+1]? with
  | some (.sign s)=>(match t with
   | []=>[]
   | c::t'=>if c∈s then paths S n t' else [])
  | some (.choice b)=>if h:b<=n then (paths S b t).map (false::·)++(paths S n t).map (true::·) else []
  | none=>[]
termination_by n
section
variable {S T:List Stp} {n:Nat} {t:List Nat}
theorem jbK:paths S 0 t=if t=[] then [[]] else []:=by rw [paths]
theorem jbL {s:List Nat} (h:S[n+1]?=some (.sign s)):paths S (n+1) t=match t with | []=>[] | c::t'=>if c∈s then paths S n t' else []:=by
 rw [paths,h]
theorem jbn {b:Nat} (h:S[n+1]?=some (.choice b)) (hb:b<=n):paths S (n+1) t=(paths S b t).map (false::·)++(paths S n t).map (true::·):=by
 rw [paths,h]
 simp only [hb,dite_true]
theorem jfI (h:n < S.length):paths (S++T) n t=paths S n t:=by
 induction n using Nat.strongRecOn generalizing t with
 | _ n ih =>
  cases n with
  | zero=>rw [jbK,jbK]
  | succ n =>
   have e:(S++T)[n+1]?=S[n+1]?:=List.getElem?_append_left h
   cases hs:S[n+1]? with
   | none=>rw [List.getElem?_eq_none_iff] at hs; omega
   | some st =>
    cases st with
    | sign s =>
     rw [jbL (e.trans hs),jbL hs]
     cases t with
     | nil=>rfl
     | cons c t' =>
      dsimp only
      rw [ih n (Nat.lt_succ_self n) (by omega)]
    | choice b =>
     by_cases hb:b<=n
     ·rw [jbn (e.trans hs) hb,jbn hs hb,ih b (by omega) (by omega),ih n (by omega) (by omega)]
     ·rw [paths,paths,e,hs]
      simp only [hb,dite_false]
end
inductive MP where
 | say (z:List Nat)
 | ask (sg:List Nat) (lo hi:Nat)
inductive MQ where
 | one (p:MP)
 | rows (inner:List MP) (gap:List Nat) (lo hi:Nat)
abbrev Res (α:Type):=List (α×List Bool×List Nat)
def strip (z t:List Nat):Option (List Nat):=if z.isPrefixOf t=true then some (t.drop z.length) else none
def jgq (sg:List Nat) (lo:Nat):Nat->Nat->List Nat->Res (List Nat)
 | 0,_,t=>[([],[],t)]
 | m+1,k,t=>(if lo<=k then [([],[false],t)] else [])++(match t with
  | []=>[]
  | c::t'=>if c∈sg then (jgq sg lo m (k+1) t').map fun x=>(c::x.1,(if lo<=k then true::x.2.1 else x.2.1),x.2.2) else [])
theorem jcP (sg:List Nat) (lo m k:Nat) (t:List Nat):jgq sg lo (m+1) k t=(if lo<=k then [([],[false],t)] else [])++(match t with
  | []=>[]
  | c::t'=>if c∈sg then (jgq sg lo m (k+1) t').map fun x=>(c::x.1,(if lo<=k then true::x.2.1 else x.2.1),x.2.2) else []):=by
 cases t <;> rfl
inductive R1 where
 | no
 | tx (w:List Nat)
def p1:MP->List Nat->Res R1
 | .say z,t=>match strip z t with | some r=>[(.no,[],r)] | none=>[]
 | .ask sg lo hi,t=>(jgq sg lo hi 0 t).map fun x=>(.tx x.1,x.2.1,x.2.2)
def pL:List MP->List Nat->Res (List R1)
 | [],t=>[([],[],t)]
 | p::ps,t=>(p1 p t).flatMap fun x=>(pL ps x.2.2).map fun y=>(x.1::y.1,x.2.1++y.2.1,y.2.2)
def pRows (inner:List MP) (gap:List Nat) (lo:Nat):Nat->Nat->List Nat->Res (List (List R1))
 | 0,_,t=>[([],[],t)]
 | m+1,k,t=>(if lo<=k then [([],[false],t)] else [])++(match (if k=0 then some t else strip gap t) with
  | none=>[]
  | some t1=>(pL inner t1).flatMap fun x=>(pRows inner gap lo m (k+1) x.2.2).map fun y=>(x.1::y.1,(if lo<=k then true::(x.2.1++y.2.1) else x.2.1++y.2.1),y.2.2))
inductive RQ where
 | one (r:R1)
 | rows (rs:List (List R1))
def pQ:MQ->List Nat->Res RQ
 | .one p,t=>(p1 p t).map fun x=>(.one x.1,x.2.1,x.2.2)
 | .rows inner gap lo hi,t=>(pRows inner gap lo hi 0 t).map fun x=>(.rows x.1,x.2.1,x.2.2)
def pF:List MQ->List Nat->Res (List RQ)
 | [],t=>[([],[],t)]
 | p::ps,t=>(pQ p t).flatMap fun x=>(pF ps x.2.2).map fun y=>(x.1::y.1,x.2.1++y.2.1,y.2.2)
def rds (ps:List MQ) (t:List Nat):List (List RQ×List Bool):=(pF ps t).filterMap fun x=>if x.2.2=[] then some (x.1,x.2.1) else none
def xText (z:List Nat):List Stp:=z.map fun c=>.sign [c]
def xAsk (m:Nat) (sg:List Nat) (lo:Nat):Nat->Nat->List Stp
 | 0,_=>[]
 | f+1,k=>(if lo<=k then [.choice m] else [])++.sign sg::xAsk m sg lo f (k+1)
def x1 (m:Nat):MP->List Stp
 | .say z=>xText z
 | .ask sg lo hi=>xAsk m sg lo hi 0
def xL (m:Nat):List MP->List Stp
 | []=>[]
 | p::ps=>x1 (m+(xL m ps).length) p++xL m ps
def xRows (m:Nat) (inner:List MP) (gap:List Nat) (lo:Nat):Nat->Nat->List Stp
 | 0,_=>[]
 | f+1,k=>(if lo<=k then [.choice m] else [])++((if k=0 then [] else xText gap)++(xL (m+(xRows m inner gap lo f (k+1)).length) inner++xRows m inner gap lo f (k+1)))
def xQ (m:Nat):MQ->List Stp
 | .one p=>x1 m p
 | .rows inner gap lo hi=>xRows m inner gap lo hi 0
def xF (m:Nat):List MQ->List Stp
 | []=>[]
 | p::ps=>xQ (m+(xF m ps).length) p++xF m ps
def Runs {α:Type} (m:Nat) (X:List Stp) (f:List Nat->Res α):Prop:=∀ (B:List Stp) (t:List Nat),B.length=m+1->paths (B++X.reverse) (m+X.length) t=(f t).flatMap fun x=>(paths B m x.2.2).map (x.2.1++·)
section
variable {m:Nat} {X Y:List Stp} {α β γ:Type} {f:List Nat->Res α} {g:List Nat->Res β}
theorem jmm {B:List Stp} {x:Stp} (hB:B.length=m+1):(B++(x::X).reverse)[m+X.length+1]?=some x:=by
 rw [List.reverse_cons,<- List.append_assoc,List.getElem?_append_right (by simp; omega)]
 simp
 have:m+X.length+1 - (B.length+X.length)=0:=by omega
 simp [this]
theorem below {B:List Stp} {x:Stp} {n:Nat} {t:List Nat} (hB:B.length=m+1) (hn:n<=m+X.length):paths (B++(x::X).reverse) n t=paths (B++X.reverse) n t:=by
 rw [List.reverse_cons,<- List.append_assoc]
 exact jfI (by simp; omega)
theorem jnu {B:List Stp} {t:List Nat} (hB:B.length=m+1):paths (B++X) m t=paths B m t:=jfI (by omega)
theorem Runs.nil {v:α}:Runs m [] (fun t=>[(v,[],t)]):=fun B t hB=>by simp
theorem Runs.sign {s:List Nat} (h:Runs m X f):Runs m (.sign s::X) (fun t=>match t with | []=>[] | c::t'=>if c∈s then f t' else []):=fun B t hB=>by
 have e:m+(Stp.sign s::X).length=m+X.length+1:=by simp; omega
 rw [e,jbL (jmm hB)]
 cases t with
 | nil=>rfl
 | cons c t' =>
  dsimp only
  by_cases hc:c∈s
  ·rw [if_pos hc,if_pos hc,below hB (Nat.le_refl _),h B t' hB]
  ·rw [if_neg hc,if_neg hc]; rfl
theorem Runs.choice {v:α} (h:Runs m X f):Runs m (.choice m::X) (fun t=>(v,[false],t)::(f t).map fun x=>(x.1,true::x.2.1,x.2.2)):=fun B t hB=>by
 have e:m+(Stp.choice m::X).length=m+X.length+1:=by simp; omega
 rw [e,jbn (jmm hB) (by omega),below hB (Nat.le_refl _),below hB (by omega),jnu hB,h B t hB]
 rw [List.flatMap_cons,List.map_flatMap,List.flatMap_map]
 simp [List.map_map,Function.comp_def]
theorem Runs.comp (hX:Runs (m+Y.length) X f) (hY:Runs m Y g) (k:α->β->γ):Runs m (X++Y) (fun t=>(f t).flatMap fun x=>(g x.2.2).map fun y=>(k x.1 y.1,x.2.1++y.2.1,y.2.2)):=fun B t hB=>by
 rw [List.reverse_append,<- List.append_assoc,show m+(X++Y).length=m+Y.length+X.length by simp; omega]
 rw [hX (B++Y.reverse) t (by simp; omega),List.flatMap_assoc]
 congr 1
 funext x
 rw [hY B x.2.2 hB,List.map_flatMap,List.flatMap_map]
 simp [List.map_map,Function.comp_def,List.append_assoc]
theorem Runs.map (h:Runs m X f) (k:α->β):Runs m X (fun t=>(f t).map fun x=>(k x.1,x.2.1,x.2.2)):=fun B t hB=>by
 rw [h B t hB,List.flatMap_map]
theorem Runs.eq {f':List Nat->Res α} (h:Runs m X f) (e:∀ t,f t=f' t):Runs m X f':=fun B t hB=>by rw [h B t hB,e t]
end
theorem jid {c d:Nat} {z t:List Nat}:(c::z).isPrefixOf (d::t)=(decide (c=d)&&z.isPrefixOf t):=by
 rw [List.isPrefixOf]
 by_cases h:c=d
 ·subst h; simp
 ·have:(c==d)=false:=beq_eq_false_iff_ne.mpr h
  rw [this,decide_eq_false h]
theorem strip_nil {t:List Nat}:strip [] t=some t:=by unfold strip; simp
theorem jdf {c:Nat} {z t:List Nat}:strip (c::z) t=match t with | []=>none | d::t'=>if d∈[c] then strip z t' else none:=by
 cases t with
 | nil=>rfl
 | cons d t' =>
  unfold strip
  rw [jid]
  dsimp only
  by_cases h:d∈[c]
  ·have h':c=d:=(List.mem_singleton.mp h).symm
   rw [if_pos h,decide_eq_true h',Bool.true_and]
   rfl
  ·have h':¬ c=d:=fun z=>h (List.mem_singleton.mpr z.symm)
   rw [if_neg h,decide_eq_false h',Bool.false_and]
   rfl
theorem jdO {m:Nat} {α:Type} {v:α}:∀ z:List Nat,Runs m (xText z) (fun t=>match strip z t with | some r=>[(v,[],r)] | none=>[])
 | []=>Runs.nil.eq fun t=>by rw [strip_nil]
 | c::z=>(Runs.sign (s:=[c]) (jdO (v:=v) z)).eq fun t=>by
  rw [jdf]
  cases t with
  | nil=>rfl
  | cons d t' =>
   dsimp only
   by_cases h:d∈[c]
   ·rw [if_pos h,if_pos h]
   ·rw [if_neg h,if_neg h]
theorem jhb {m:Nat} {sg:List Nat} {lo:Nat}:∀ (f k:Nat),Runs m (xAsk m sg lo f k) (jgq sg lo f k)
 | 0,k=>Runs.nil
 | f+1,k=>by
  have ih:=(Runs.sign (s:=sg) (jhb (m:=m) (sg:=sg) (lo:=lo) f (k+1)))
  unfold xAsk
  by_cases h:lo<=k
  ·rw [if_pos h]
   intro B t hB
   have e:=Runs.choice (v:=([]:List Nat)) ih B t hB
   rw [show [Stp.choice m]++Stp.sign sg::xAsk m sg lo f (k+1)=Stp.choice m::Stp.sign sg::xAsk m sg lo f (k+1) from rfl,e]
   rw [jcP,if_pos h,List.flatMap_cons]
   rw [show ∀ Z:Res (List Nat),([([],[false],t)]++Z)=([],[false],t)::Z from fun _=>rfl,List.flatMap_cons]
   congr 1
   cases t with
   | nil=>rfl
   | cons c t' =>
    dsimp only
    by_cases hc:c∈sg
    ·rw [if_pos hc,if_pos hc,List.flatMap_map,List.flatMap_map]
     simp [h]
    ·rw [if_neg hc,if_neg hc]; rfl
  ·rw [if_neg h,List.nil_append]
   intro B t hB
   rw [ih B t hB,jcP,if_neg h,List.nil_append]
   cases t with
   | nil=>rfl
   | cons c t' =>
    dsimp only
    by_cases hc:c∈sg
    ·rw [if_pos hc,if_pos hc,List.flatMap_map]
     simp [h]
    ·rw [if_neg hc,if_neg hc]
theorem jmn {m:Nat}:∀ p:MP,Runs m (x1 m p) (p1 p)
 | .say z=>jdO (v:=R1.no) z
 | .ask sg lo hi=>(jhb hi 0).map R1.tx
theorem jmo {m:Nat}:∀ ps:List MP,Runs m (xL m ps) (pL ps)
 | []=>Runs.nil
 | p::ps=>Runs.comp (jmn p) (jmo ps) (fun a b=>a::b)
theorem jfJ {m:Nat} {inner:List MP} {gap:List Nat} {lo:Nat}:∀ (f k:Nat),Runs m (xRows m inner gap lo f k) (pRows inner gap lo f k)
 | 0,k=>Runs.nil
 | f+1,k=>by
  have ih:=jfJ (m:=m) (inner:=inner) (gap:=gap) (lo:=lo) f (k+1)
  have h1:=Runs.comp (jmo (m:=m+(xRows m inner gap lo f (k+1)).length) inner) ih (fun a b=>a::b)
  have h2:Runs m ((if k=0 then [] else xText gap)++(xL (m+(xRows m inner gap lo f (k+1)).length) inner++xRows m inner gap lo f (k+1)))
    (fun t=>match (if k=0 then some t else strip gap t) with | none=>[] | some t1=>(pL inner t1).flatMap fun x=>(pRows inner gap lo f (k+1) x.2.2).map fun y=>(x.1::y.1,x.2.1++y.2.1,y.2.2)):=by
   by_cases hk:k=0
   ·rw [if_pos hk,List.nil_append]
    exact h1.eq fun t=>by rw [if_pos hk]
   ·rw [if_neg hk]
    refine (Runs.comp (jdO (v:=()) gap) h1 (fun _ b=>b)).eq fun t=>?_
    rw [if_neg hk]
    cases strip gap t with
    | none=>rfl
    | some r=>simp [List.map_flatMap,List.map_map,Function.comp_def]
  unfold xRows
  by_cases h:lo<=k
  ·rw [if_pos h]
   intro B t hB
   have e:=Runs.choice (v:=([]:List (List R1))) h2 B t hB
   rw [show ∀ Z:List Stp,[Stp.choice m]++Z=Stp.choice m::Z from fun _=>rfl,e]
   rw [pRows,if_pos h,List.flatMap_cons]
   rw [show ∀ Z:Res (List (List R1)),([([],[false],t)]++Z)=([],[false],t)::Z from fun _=>rfl,List.flatMap_cons]
   congr 1
   cases (if k=0 then some t else strip gap t) with
   | none=>rfl
   | some t1=>simp [h,List.map_flatMap,List.flatMap_assoc,List.flatMap_map]
  ·rw [if_neg h,List.nil_append]
   intro B t hB
   rw [h2 B t hB,pRows,if_neg h,List.nil_append]
   dsimp only
   cases (if k=0 then some t else strip gap t) with
   | none=>rfl
   | some t1=>simp [h,List.map_flatMap,List.flatMap_assoc,List.flatMap_map]
theorem joY {m:Nat}:∀ p:MQ,Runs m (xQ m p) (pQ p)
 | .one p=>(jmn p).map RQ.one
 | .rows inner gap lo hi=>(jfJ hi 0).map RQ.rows
theorem jmp {m:Nat}:∀ ps:List MQ,Runs m (xF m ps) (pF ps)
 | []=>Runs.nil
 | p::ps=>Runs.comp (joY p) (jmp ps) (fun a b=>a::b)
def stepsOf (ps:List MQ):List Stp:=.sign []::(xF 0 ps).reverse
theorem stepsOf_len (ps:List MQ):(stepsOf ps).length=(xF 0 ps).length+1:=by simp [stepsOf]
theorem paths_form (ps:List MQ) (t:List Nat):paths (stepsOf ps) ((stepsOf ps).length - 1) t=(rds ps t).map (·.2):=by
 have e:=jmp (m:=0) ps [.sign []] t rfl
 rw [stepsOf_len]
 rw [show (xF 0 ps).length+1 - 1=0+(xF 0 ps).length by omega]
 rw [show stepsOf ps=[Stp.sign []]++(xF 0 ps).reverse from rfl,e]
 unfold rds
 generalize pF ps t=L
 induction L with
 | nil=>rfl
 | cons x r ih =>
  rw [List.flatMap_cons,ih,List.filterMap_cons,jbK]
  by_cases h:x.2.2=[]
  ·rw [if_pos h,if_pos h]; simp
  ·rw [if_neg h,if_neg h]; simp
section
variable {S:List Stp} {t:List Nat} {k p b:Nat}
def okAt (S:List Stp) (t:List Nat) (k p:Nat):Prop:=p<=t.length/\paths S k (t.drop p)≠[]
theorem ok_zero:okAt S t 0 p↔p=t.length:=by
 unfold okAt
 rw [jbK]
 constructor
 ·rintro ⟨h1,h2⟩
  by_cases h:t.drop p=[]
  ·rw [List.drop_eq_nil_iff] at h; omega
  ·rw [if_neg h] at h2; exact absurd rfl h2
 ·rintro rfl
  refine ⟨Nat.le_refl _,?_⟩
  rw [if_pos (List.drop_length),]
  simp
theorem jjk {c:Nat} (h:t[p]?=some c):t.drop p=c::t.drop (p+1):=by
 obtain ⟨h1,h2⟩:=List.getElem?_eq_some_iff.mp h
 rw [List.drop_eq_getElem_cons h1,h2]
theorem ok_sign {s:List Nat} (h:S[k+1]?=some (.sign s)):okAt S t (k+1) p↔okAt S t k (p+1)/\∃ c,t[p]?=some c/\c∈s:=by
 unfold okAt
 rw [jbL h]
 constructor
 ·rintro ⟨h1,h2⟩
  by_cases hp:p < t.length
  ·rw [List.drop_eq_getElem_cons hp] at h2
   dsimp only at h2
   by_cases hc:t[p]∈s
   ·rw [if_pos hc] at h2
    exact ⟨⟨hp,h2⟩,t[p],List.getElem?_eq_getElem hp,hc⟩
   ·rw [if_neg hc] at h2; exact absurd rfl h2
  ·have:t.drop p=[]:=List.drop_eq_nil_iff.mpr (by omega)
   rw [this] at h2; exact absurd rfl h2
 ·rintro ⟨⟨h1,h2⟩,c,h3,h4⟩
  refine ⟨by omega,?_⟩
  rw [jjk h3]
  dsimp only
  rw [if_pos h4]
  exact h2
theorem ok_choice (h:S[k+1]?=some (.choice b)) (hb:b<=k):okAt S t (k+1) p↔okAt S t b p\/okAt S t k p:=by
 unfold okAt
 rw [jbn h hb]
 constructor
 ·rintro ⟨h1,h2⟩
  by_cases e:paths S b (t.drop p)=[]
  ·right
   refine ⟨h1,fun z=>h2 ?_⟩
   rw [e,z]; rfl
  ·exact .inl ⟨h1,e⟩
 ·rintro (⟨h1,h2⟩ | ⟨h1,h2⟩)
  ·exact ⟨h1,fun z=>h2 (by have:=(List.append_eq_nil_iff.mp z).1; exact List.map_eq_nil_iff.mp this)⟩
  ·exact ⟨h1,fun z=>h2 (by have:=(List.append_eq_nil_iff.mp z).2; exact List.map_eq_nil_iff.mp this)⟩
structure Way where
 (n p:Nat) (cs:List Bool)
def enumW (S:List Stp) (t:List Nat) (w:Way):List (List Bool):=(paths S w.n (t.drop w.p)).map (w.cs.reverse++·)
def enumA (S:List Stp) (t:List Nat) (ws:List Way):List (List Bool):=ws.reverse.flatMap (enumW S t)
theorem enumA_snoc {ws:List Way} {w:Way}:enumA S t (ws++[w])=enumW S t w++enumA S t ws:=by
 unfold enumA
 rw [List.reverse_append,List.reverse_singleton,List.singleton_append,List.flatMap_cons]
theorem enumA_nil:enumA S t []=[]:=rfl
variable {cs:List Bool}
theorem enum_end (h:okAt S t 0 p):enumW S t ⟨0,p,cs⟩=[cs.reverse]:=by
 have e:=ok_zero.mp h
 unfold enumW
 rw [jbK,if_pos (by rw [e]; exact List.drop_length)]
 simp
theorem enum_sign {s:List Nat} (h:S[k+1]?=some (.sign s)) (ho:okAt S t (k+1) p):enumW S t ⟨k+1,p,cs⟩=enumW S t ⟨k,p+1,cs⟩:=by
 obtain ⟨_,c,h3,h4⟩:=(ok_sign h).mp ho
 unfold enumW
 dsimp only
 rw [jbL h,jjk h3]
 dsimp only
 rw [if_pos h4]
theorem enum_choice (h:S[k+1]?=some (.choice b)) (hb:b<=k):enumW S t ⟨k+1,p,cs⟩=enumW S t ⟨b,p,false::cs⟩++enumW S t ⟨k,p,true::cs⟩:=by
 unfold enumW
 dsimp only
 rw [jbn h hb,List.map_append,List.map_map,List.map_map]
 simp [Function.comp_def]
theorem enum_no (hp:p<=t.length) (h:¬ okAt S t k p):enumW S t ⟨k,p,cs⟩=[]:=by
 unfold enumW
 have:paths S k (t.drop p)=[]:=Decidable.byContradiction fun z=>h ⟨hp,z⟩
 dsimp only
 rw [this]; rfl
end
section
variable {S:List Stp} {n k b:Nat}
def Down (S:List Stp):Prop:=∀ (k b:Nat),S[k+1]?=some (.choice b)->b<=k
end
section
def GoodX (m:Nat) (X:List Stp):Prop:=∀ (i:Nat) (x:Stp),X[i]?=some x->match x with | .choice b=>b+i+1<=m+X.length | .sign s=>s≠[]
theorem GoodX.nil {m:Nat}:GoodX m []:=fun i x h=>by simp at h
theorem GoodX.cons {m:Nat} {x:Stp} {X:List Stp} (h:GoodX m X) (hx:match x with | .choice b=>b<=m+X.length | .sign s=>s≠[]):GoodX m (x::X):=fun i y e=>by
 cases i with
 | zero =>
  have:x=y:=by simpa using e
  subst this
  cases x with
  | choice b=>have:b<=m+X.length:=hx; show b+0+1<=m+(X.length+1); omega
  | sign s=>exact hx
 | succ i =>
  have:=h i y (by simpa using e)
  cases y with
  | choice b=>have:b+i+1<=m+X.length:=this; show b+(i+1)+1<=m+(X.length+1); omega
  | sign s=>exact this
theorem GoodX.app {m:Nat} {X Y:List Stp} (hX:GoodX (m+Y.length) X) (hY:GoodX m Y):GoodX m (X++Y):=fun i x e=>by
 by_cases h:i < X.length
 ·rw [List.getElem?_append_left h] at e
  have:=hX i x e
  cases x with
  | choice b=>have:b+i+1<=m+Y.length+X.length:=this; show b+i+1<=m+(X++Y).length; rw [List.length_append]; omega
  | sign s=>exact this
 ·rw [List.getElem?_append_right (by omega)] at e
  have:=hY _ x e
  cases x with
  | choice b=>have:b+(i - X.length)+1<=m+Y.length:=this; show b+i+1<=m+(X++Y).length; rw [List.length_append]; omega
  | sign s=>exact this
theorem jdP {m:Nat}:∀ z:List Nat,GoodX m (xText z)
 | []=>GoodX.nil
 | c::z=>(jdP z).cons (show [c]≠[] by simp)
theorem jhc {m:Nat} {sg:List Nat} {lo:Nat} (hs:sg≠[]):∀ f k,GoodX m (xAsk m sg lo f k)
 | 0,_=>GoodX.nil
 | f+1,k=>by
  have ih:=(jhc (m:=m) (lo:=lo) hs f (k+1)).cons (x:=.sign sg) hs
  unfold xAsk
  by_cases h:lo<=k
  ·rw [if_pos h]
   exact ih.cons (x:=.choice m) (show m<=m+_ by omega)
  ·rw [if_neg h]; exact ih
def MP.good:MP->Prop
 | .say _=>True
 | .ask sg _ _=>sg≠[]
def MQ.good:MQ->Prop
 | .one p=>p.good
 | .rows inner _ _ _=>∀ p∈inner,p.good
theorem jmq {m:Nat}:∀ {p:MP},p.good->GoodX m (x1 m p)
 | .say z,_=>jdP z
 | .ask sg lo hi,h=>jhc h hi 0
theorem jmr {m:Nat}:∀ {ps:List MP},(∀ p∈ps,p.good)->GoodX m (xL m ps)
 | [],_=>GoodX.nil
 | p::ps,h=>GoodX.app (jmq (h p List.mem_cons_self)) (jmr fun q hq=>h q (List.mem_cons_of_mem _ hq))
theorem jfK {m:Nat} {inner:List MP} {gap:List Nat} {lo:Nat} (hi:∀ p∈inner,p.good):∀ f k,GoodX m (xRows m inner gap lo f k)
 | 0,_=>GoodX.nil
 | f+1,k=>by
  have ih:=jfK (m:=m) (gap:=gap) (lo:=lo) hi f (k+1)
  have h2:GoodX m ((if k=0 then [] else xText gap)++(xL (m+(xRows m inner gap lo f (k+1)).length) inner++xRows m inner gap lo f (k+1))):=by
   have h1:=GoodX.app (jmr (m:=m+(xRows m inner gap lo f (k+1)).length) hi) ih
   by_cases hk:k=0
   ·rw [if_pos hk]; exact h1
   ·rw [if_neg hk]; exact GoodX.app (jdP gap) h1
  unfold xRows
  by_cases h:lo<=k
  ·rw [if_pos h]
   exact h2.cons (x:=.choice m) (show m<=m+_ by omega)
  ·rw [if_neg h]; exact h2
theorem joZ {m:Nat}:∀ {p:MQ},p.good->GoodX m (xQ m p)
 | .one p,h=>jmq (p:=p) h
 | .rows inner gap lo hi,h=>jfK h hi 0
theorem jms {m:Nat}:∀ {ps:List MQ},(∀ p∈ps,p.good)->GoodX m (xF m ps)
 | [],_=>GoodX.nil
 | p::ps,h=>GoodX.app (joZ (h p List.mem_cons_self)) (jms fun q hq=>h q (List.mem_cons_of_mem _ hq))
theorem jlk {ps:List MQ} (h:∀ p∈ps,p.good) {k:Nat} {x:Stp} (e:(stepsOf ps)[k+1]?=some x):match x with | .choice b=>b<=k | .sign s=>s≠[]:=by
 unfold stepsOf at e
 rw [List.getElem?_cons_succ] at e
 obtain ⟨hl,he⟩:=List.getElem?_eq_some_iff.mp e
 rw [List.length_reverse] at hl
 have e2:(xF 0 ps)[(xF 0 ps).length - 1 - k]?=some x:=by
  rw [<- List.getElem?_reverse (by omega)]
  exact e
 have:=jms (m:=0) h _ x e2
 cases x with
 | choice b=>have:b+((xF 0 ps).length - 1 - k)+1<=0+(xF 0 ps).length:=this; show b<=k; omega
 | sign s=>exact this
theorem steps_down {ps:List MQ} (h:∀ p∈ps,p.good):Down (stepsOf ps):=fun k b e=>jlk h e
end
def w1:MP->R1->List Nat
 | .say z,_=>z
 | .ask ..,.tx w=>w
 | .ask ..,.no=>[]
def wL:List MP->List R1->List Nat
 | p::ps,v::vs=>w1 p v++wL ps vs
 | _,_=>[]
def wGap (inner:List MP) (gap:List Nat):Nat->List (List R1)->List Nat
 | _,[]=>[]
 | k,r::rs=>(if k=0 then [] else gap)++(wL inner r++wGap inner gap (k+1) rs)
def wQ:MQ->RQ->List Nat
 | .one p,.one v=>w1 p v
 | .rows inner gap _ _,.rows rs=>wGap inner gap 0 rs
 | _,_=>[]
def wF:List MQ->List RQ->List Nat
 | p::ps,v::vs=>wQ p v++wF ps vs
 | _,_=>[]
def cAsk (lo:Nat):Nat->Nat->Nat->List Bool
 | 0,_,_=>[]
 | m+1,k,0=>if lo<=k then [false] else []
 | m+1,k,l+1=>if lo<=k then true::cAsk lo m (k+1) l else cAsk lo m (k+1) l
def c1:MP->R1->List Bool
 | .ask _ lo hi,.tx w=>cAsk lo hi 0 w.length
 | _,_=>[]
def cL:List MP->List R1->List Bool
 | p::ps,v::vs=>c1 p v++cL ps vs
 | _,_=>[]
def cRows (inner:List MP) (lo:Nat):Nat->Nat->List (List R1)->List Bool
 | 0,_,_=>[]
 | m+1,k,[]=>if lo<=k then [false] else []
 | m+1,k,r::rs=>if lo<=k then true::(cL inner r++cRows inner lo m (k+1) rs) else cL inner r++cRows inner lo m (k+1) rs
def cQ:MQ->RQ->List Bool
 | .one p,.one v=>c1 p v
 | .rows inner _ lo hi,.rows rs=>cRows inner lo hi 0 rs
 | _,_=>[]
def cF:List MQ->List RQ->List Bool
 | p::ps,v::vs=>cQ p v++cF ps vs
 | _,_=>[]
inductive Fit1:MP->R1->Prop
 | say {z}:Fit1 (.say z) .no
 | ask {sg lo hi w}:lo<=w.length->w.length<=hi->(∀ c∈w,c∈sg)->Fit1 (.ask sg lo hi) (.tx w)
inductive FitL:List MP->List R1->Prop
 | nil:FitL [] []
 | cons {p ps v vs}:Fit1 p v->FitL ps vs->FitL (p::ps) (v::vs)
inductive FitQ:MQ->RQ->Prop
 | one {p v}:Fit1 p v->FitQ (.one p) (.one v)
 | rows {inner gap lo hi rs}:lo<=rs.length->rs.length<=hi->(∀ r∈rs,FitL inner r)->FitQ (.rows inner gap lo hi) (.rows rs)
inductive FitF:List MQ->List RQ->Prop
 | nil:FitF [] []
 | cons {p ps v vs}:FitQ p v->FitF ps vs->FitF (p::ps) (v::vs)
theorem strip_some {z t r:List Nat} (h:strip z t=some r):t=z++r:=by
 induction z generalizing t with
 | nil=>rw [strip_nil] at h; cases h; rfl
 | cons c z ih =>
  rw [jdf] at h
  cases t with
  | nil=>cases h
  | cons d t =>
   dsimp only at h
   by_cases hd:d∈[c]
   ·rw [if_pos hd] at h
    rw [ih h,List.mem_singleton.mp hd]; rfl
   ·rw [if_neg hd] at h; cases h
theorem strip_app (z r:List Nat):strip z (z++r)=some r:=by
 induction z with
 | nil=>exact strip_nil
 | cons c z ih =>
  rw [List.cons_append,jdf]
  dsimp only
  rw [if_pos (List.mem_singleton.mpr rfl),ih]
section
variable {sg:List Nat} {lo:Nat}
theorem ask_iff:∀ {m k:Nat} {t:List Nat} {x:List Nat×List Bool×List Nat},x∈jgq sg lo m k t↔(t=x.1++x.2.2/\x.2.1=cAsk lo m k x.1.length/\x.1.length<=m/\(∀ c∈x.1,c∈sg)/\(x.1.length < m->lo<=k+x.1.length))
 | 0,k,t,⟨w,cs,r⟩=>by
  unfold jgq
  rw [List.mem_singleton]
  constructor
  ·intro h; cases h; exact ⟨rfl,rfl,Nat.le_refl _,(fun _ h=>nomatch h),fun h=>absurd h (Nat.lt_irrefl _)⟩
  ·rintro ⟨h1,h2,h3,_⟩
   have:w=[]:=List.length_eq_zero_iff.mp (Nat.le_zero.mp h3)
   subst this
   dsimp only at h1 h2 ⊢
   rw [h1,h2]; rfl
 | m+1,k,t,⟨w,cs,r⟩=>by
  rw [jcP,List.mem_append]
  constructor
  ·rintro (h | h)
   ·by_cases hl:lo<=k
    ·rw [if_pos hl,List.mem_singleton] at h
     cases h
     refine ⟨rfl,?_,Nat.zero_le _,(fun _ h=>nomatch h),fun _=>hl⟩
     show [false]=if lo<=k then [false] else []
     rw [if_pos hl]
    ·rw [if_neg hl] at h; cases h
   ·cases t with
    | nil=>cases h
    | cons c t' =>
     dsimp only at h
     by_cases hc:c∈sg
     ·rw [if_pos hc] at h
      obtain ⟨y,hy,e⟩:=List.mem_map.mp h
      obtain ⟨h1,h2,h3,h4,h5⟩:=ask_iff.mp hy
      cases e
      refine ⟨by rw [h1]; rfl,?_,by simpa using h3,fun d hd=>?_,fun hlt=>?_⟩
      ·show (if lo<=k then true::y.2.1 else y.2.1)=if lo<=k then true::cAsk lo m (k+1) y.1.length else cAsk lo m (k+1) y.1.length
       rw [h2]
      ·rcases List.mem_cons.mp hd with rfl | hd
       ·exact hc
       ·exact h4 d hd
      ·have:=h5 (by simpa using hlt)
       show lo<=k+(y.1.length+1)
       omega
     ·rw [if_neg hc] at h; cases h
  ·rintro ⟨h1,h2,h3,h4,h5⟩
   cases w with
   | nil =>
    have hl:lo<=k:=h5 (Nat.succ_pos _)
    left
    rw [if_pos hl,List.mem_singleton]
    have h2:cs=if lo<=k then [false] else []:=h2
    rw [if_pos hl] at h2
    rw [h2,show t=r from h1]
   | cons c w =>
    right
    have h1:t=c::(w++r):=h1
    subst h1
    dsimp only
    rw [if_pos (h4 c List.mem_cons_self)]
    refine List.mem_map.mpr ⟨(w,cAsk lo m (k+1) w.length,r),ask_iff.mpr ⟨rfl,rfl,by simpa using h3,fun d hd=>h4 d (List.mem_cons_of_mem _ hd),fun hlt=>?_⟩,?_⟩
    ·have:=h5 (show w.length+1 < m+1 by have:w.length < m:=hlt; omega)
     have:lo<=k+(w.length+1):=this
     show lo<=k+1+w.length
     omega
    ·have h2:cs=if lo<=k then true::cAsk lo m (k+1) w.length else cAsk lo m (k+1) w.length:=h2
     rw [h2]
end
def MP.lh:MP->Prop
 | .say _=>True
 | .ask _ lo hi=>lo<=hi
def MQ.lh:MQ->Prop
 | .one p=>p.lh
 | .rows inner _ lo hi=>lo<=hi/\∀ p∈inner,p.lh
theorem jmt {z t:List Nat}:p1 (.say z) t=match strip z t with | some r=>[(.no,[],r)] | none=>[]:=rfl
theorem jmu {sg:List Nat} {lo hi:Nat} {t:List Nat}:p1 (.ask sg lo hi) t=(jgq sg lo hi 0 t).map fun x=>(.tx x.1,x.2.1,x.2.2):=rfl
theorem jhd:∀ {p:MP} {t:List Nat} {x:R1×List Bool×List Nat},p.lh->(x∈p1 p t↔(Fit1 p x.1/\t=w1 p x.1++x.2.2/\x.2.1=c1 p x.1))
 | .say z,t,⟨v,cs,r⟩,_=>by
  rw [jmt]
  constructor
  ·intro h
   cases e:strip z t with
   | none=>rw [e] at h; cases h
   | some r' =>
    rw [e] at h
    cases List.mem_singleton.mp h
    exact ⟨.say,strip_some e,rfl⟩
  ·rintro ⟨h1,h2,h3⟩
   have h1:Fit1 (.say z) v:=h1
   cases h1
   have h2:t=z++r:=h2
   rw [h2,strip_app]
   have h3:cs=[]:=h3
   rw [h3]
   exact List.mem_singleton.mpr rfl
 | .ask sg lo hi,t,⟨v,cs,r⟩,lh=>by
  have lh:lo<=hi:=lh
  rw [jmu,List.mem_map]
  constructor
  ·rintro ⟨y,hy,e⟩
   obtain ⟨h1,h2,h3,h4,h5⟩:=ask_iff.mp hy
   cases e
   refine ⟨.ask ?_ h3 h4,h1,h2⟩
   by_cases c:y.1.length < hi
   ·have:=h5 c; omega
   ·omega
  ·rintro ⟨h1,h2,h3⟩
   have h1:Fit1 (.ask sg lo hi) v:=h1
   cases h1 with
   | @ask _ _ _ w a1 a2 a3 =>
    have h2:t=w++r:=h2
    have h3:cs=cAsk lo hi 0 w.length:=h3
    exact ⟨(w,cs,r),ask_iff.mpr ⟨h2,h3,a2,a3,fun _=>by show lo<=0+w.length; omega⟩,rfl⟩
theorem jhe:∀ {ps:List MP} {t:List Nat} {x:List R1×List Bool×List Nat},(∀ p∈ps,p.lh)->(x∈pL ps t↔(FitL ps x.1/\t=wL ps x.1++x.2.2/\x.2.1=cL ps x.1))
 | [],t,⟨v,cs,r⟩,_=>by
  unfold pL
  rw [List.mem_singleton]
  constructor
  ·intro h; cases h; exact ⟨.nil,rfl,rfl⟩
  ·rintro ⟨h1,h2,h3⟩
   have h1:FitL [] v:=h1
   cases h1
   have h2:t=r:=h2
   have h3:cs=[]:=h3
   rw [h2,h3]
 | p::ps,t,⟨v,cs,r⟩,lh=>by
  have lp:=lh p List.mem_cons_self
  have ls:=fun q hq=>lh q (List.mem_cons_of_mem p hq)
  unfold pL
  rw [List.mem_flatMap]
  constructor
  ·rintro ⟨x,hx,h⟩
   obtain ⟨y,hy,e⟩:=List.mem_map.mp h
   obtain ⟨a1,a2,a3⟩:=(jhd lp).mp hx
   obtain ⟨b1,b2,b3⟩:=(jhe ls).mp hy
   cases e
   refine ⟨.cons a1 b1,?_,?_⟩
   ·rw [a2,b2]
    show _=(w1 p x.1++wL ps y.1)++y.2.2
    rw [List.append_assoc]
   ·show x.2.1++y.2.1=c1 p x.1++cL ps y.1
    rw [a3,b3]
  ·rintro ⟨h1,h2,h3⟩
   have h1:FitL (p::ps) v:=h1
   cases h1 with
   | @cons _ _ v vs f1 f2 =>
    have h2:t=(w1 p v++wL ps vs)++r:=h2
    have h3:cs=c1 p v++cL ps vs:=h3
    refine ⟨(v,c1 p v,wL ps vs++r),(jhd lp).mpr ⟨f1,by rw [h2,List.append_assoc],rfl⟩,List.mem_map.mpr ⟨(vs,cL ps vs,r),(jhe ls).mpr ⟨f2,rfl,rfl⟩,?_⟩⟩
    rw [h3]
theorem jdz {inner:List MP} {gap:List Nat} {lo:Nat} (li:∀ p∈inner,p.lh):∀ {m k:Nat} {t:List Nat} {x:List (List R1)×List Bool×List Nat},x∈pRows inner gap lo m k t ↔
  ((∀ r∈x.1,FitL inner r)/\t=wGap inner gap k x.1++x.2.2/\x.2.1=cRows inner lo m k x.1/\x.1.length<=m/\(x.1.length < m->lo<=k+x.1.length))
 | 0,k,t,⟨v,cs,r⟩=>by
  unfold pRows
  rw [List.mem_singleton]
  constructor
  ·intro h; cases h; exact ⟨(fun _ h=>nomatch h),rfl,rfl,Nat.le_refl _,fun h=>absurd h (Nat.lt_irrefl _)⟩
  ·rintro ⟨_,h1,h2,h3,_⟩
   have:v=[]:=List.length_eq_zero_iff.mp (Nat.le_zero.mp h3)
   subst this
   have h1:t=r:=h1
   have h2:cs=[]:=h2
   rw [h1,h2]
 | m+1,k,t,⟨v,cs,r⟩=>by
  rw [pRows,List.mem_append]
  constructor
  ·rintro (h | h)
   ·by_cases hl:lo<=k
    ·rw [if_pos hl,List.mem_singleton] at h
     cases h
     refine ⟨(fun _ h=>nomatch h),rfl,?_,Nat.zero_le _,fun _=>hl⟩
     show [false]=if lo<=k then [false] else []
     rw [if_pos hl]
    ·rw [if_neg hl] at h; cases h
   ·cases e:(if k=0 then some t else strip gap t) with
    | none=>rw [e] at h; cases h
    | some t1 =>
     rw [e] at h
     have et:t=(if k=0 then [] else gap)++t1:=by
      by_cases hk:k=0
      ·rw [if_pos hk] at e ⊢; cases e; rfl
      ·rw [if_neg hk] at e ⊢; exact strip_some e
     obtain ⟨x,hx,h⟩:=List.mem_flatMap.mp h
     obtain ⟨y,hy,e2⟩:=List.mem_map.mp h
     obtain ⟨a1,a2,a3⟩:=(jhe li).mp hx
     obtain ⟨b1,b2,b3,b4,b5⟩:=(jdz li).mp hy
     cases e2
     refine ⟨fun q hq=>?_,?_,?_,by simpa using b4,fun hlt=>?_⟩
     ·rcases List.mem_cons.mp hq with rfl | hq
      ·exact a1
      ·exact b1 q hq
     ·rw [et,a2,b2]
      show _=((if k=0 then [] else gap)++(wL inner x.1++wGap inner gap (k+1) y.1))++y.2.2
      simp [List.append_assoc]
     ·show (if lo<=k then true::(x.2.1++y.2.1) else x.2.1++y.2.1)=if lo<=k then true::(cL inner x.1++cRows inner lo m (k+1) y.1) else cL inner x.1++cRows inner lo m (k+1) y.1
      rw [a3,b3]
     ·have:=b5 (by simpa using hlt)
      show lo<=k+(y.1.length+1)
      omega
  ·rintro ⟨h0,h1,h2,h3,h5⟩
   cases v with
   | nil =>
    have hl:lo<=k:=h5 (Nat.succ_pos _)
    left
    rw [if_pos hl,List.mem_singleton]
    have h2:cs=if lo<=k then [false] else []:=h2
    rw [if_pos hl] at h2
    rw [h2,show t=r from h1]
   | cons v vs =>
    right
    have h1:t=((if k=0 then [] else gap)++(wL inner v++wGap inner gap (k+1) vs))++r:=h1
    have e:(if k=0 then some t else strip gap t)=some (wL inner v++(wGap inner gap (k+1) vs++r)):=by
     rw [h1]
     by_cases hk:k=0
     ·rw [if_pos hk,if_pos hk]; simp [List.append_assoc]
     ·rw [if_neg hk,if_neg hk,List.append_assoc,strip_app,List.append_assoc]
    rw [e]
    refine List.mem_flatMap.mpr ⟨(v,cL inner v,wGap inner gap (k+1) vs++r),(jhe li).mpr ⟨h0 v List.mem_cons_self,rfl,rfl⟩,List.mem_map.mpr ⟨(vs,cRows inner lo m (k+1) vs,r),(jdz li).mpr ⟨fun q hq=>h0 q (List.mem_cons_of_mem _ hq),rfl,rfl,by simpa using h3,fun hlt=>?_⟩,?_⟩⟩
    ·have:=h5 (show vs.length+1 < m+1 by have:vs.length < m:=hlt; omega)
     have:lo<=k+(vs.length+1):=this
     show lo<=k+1+vs.length
     omega
    ·have h2:cs=if lo<=k then true::(cL inner v++cRows inner lo m (k+1) vs) else cL inner v++cRows inner lo m (k+1) vs:=h2
     rw [h2]
theorem jmv:∀ {p:MQ} {t:List Nat} {x:RQ×List Bool×List Nat},p.lh->(x∈pQ p t↔(FitQ p x.1/\t=wQ p x.1++x.2.2/\x.2.1=cQ p x.1))
 | .one p,t,⟨v,cs,r⟩,lh=>by
  unfold pQ
  rw [List.mem_map]
  constructor
  ·rintro ⟨y,hy,e⟩
   obtain ⟨a1,a2,a3⟩:=(jhd lh).mp hy
   cases e
   exact ⟨.one a1,a2,a3⟩
  ·rintro ⟨h1,h2,h3⟩
   have h1:FitQ (.one p) v:=h1
   cases h1 with
   | @one _ v f=>exact ⟨(v,cs,r),(jhd lh).mpr ⟨f,h2,h3⟩,rfl⟩
 | .rows inner gap lo hi,t,⟨v,cs,r⟩,lh=>by
  unfold pQ
  rw [List.mem_map]
  constructor
  ·rintro ⟨y,hy,e⟩
   obtain ⟨b1,b2,b3,b4,b5⟩:=(jdz lh.2).mp hy
   cases e
   have:=lh.1
   refine ⟨.rows ?_ b4 b1,b2,b3⟩
   by_cases c:y.1.length < hi
   ·have:=b5 c; omega
   ·omega
  ·rintro ⟨h1,h2,h3⟩
   have h1:FitQ (.rows inner gap lo hi) v:=h1
   cases h1 with
   | @rows _ _ _ _ rs a1 a2 a3=>exact ⟨(rs,cs,r),(jdz lh.2).mpr ⟨a3,h2,h3,a2,fun _=>by show lo<=0+rs.length; omega⟩,rfl⟩
theorem jhf:∀ {ps:List MQ} {t:List Nat} {x:List RQ×List Bool×List Nat},(∀ p∈ps,p.lh)->(x∈pF ps t↔(FitF ps x.1/\t=wF ps x.1++x.2.2/\x.2.1=cF ps x.1))
 | [],t,⟨v,cs,r⟩,_=>by
  unfold pF
  rw [List.mem_singleton]
  constructor
  ·intro h; cases h; exact ⟨.nil,rfl,rfl⟩
  ·rintro ⟨h1,h2,h3⟩
   have h1:FitF [] v:=h1
   cases h1
   have h2:t=r:=h2
   have h3:cs=[]:=h3
   rw [h2,h3]
 | p::ps,t,⟨v,cs,r⟩,lh=>by
  have lp:=lh p List.mem_cons_self
  have ls:=fun q hq=>lh q (List.mem_cons_of_mem p hq)
  unfold pF
  rw [List.mem_flatMap]
  constructor
  ·rintro ⟨x,hx,h⟩
   obtain ⟨y,hy,e⟩:=List.mem_map.mp h
   obtain ⟨a1,a2,a3⟩:=(jmv lp).mp hx
   obtain ⟨b1,b2,b3⟩:=(jhf ls).mp hy
   cases e
   refine ⟨.cons a1 b1,?_,?_⟩
   ·rw [a2,b2]
    show _=(wQ p x.1++wF ps y.1)++y.2.2
    rw [List.append_assoc]
   ·show x.2.1++y.2.1=cQ p x.1++cF ps y.1
    rw [a3,b3]
  ·rintro ⟨h1,h2,h3⟩
   have h1:FitF (p::ps) v:=h1
   cases h1 with
   | @cons _ _ v vs f1 f2 =>
    have h2:t=(wQ p v++wF ps vs)++r:=h2
    have h3:cs=cQ p v++cF ps vs:=h3
    refine ⟨(v,cQ p v,wF ps vs++r),(jmv lp).mpr ⟨f1,by rw [h2,List.append_assoc],rfl⟩,List.mem_map.mpr ⟨(vs,cF ps vs,r),(jhf ls).mpr ⟨f2,rfl,rfl⟩,?_⟩⟩
    rw [h3]
theorem rds_iff {ps:List MQ} {t:List Nat} {x:List RQ×List Bool} (lh:∀ p∈ps,p.lh):x∈rds ps t↔(FitF ps x.1/\t=wF ps x.1/\x.2=cF ps x.1):=by
 unfold rds
 rw [List.mem_filterMap]
 constructor
 ·rintro ⟨y,hy,e⟩
  obtain ⟨a1,a2,a3⟩:=(jhf lh).mp hy
  by_cases h:y.2.2=[]
  ·rw [if_pos h] at e
   cases e
   rw [h,List.append_nil] at a2
   exact ⟨a1,a2,a3⟩
  ·rw [if_neg h] at e; cases e
 ·rintro ⟨h1,h2,h3⟩
  refine ⟨(x.1,x.2,[]),(jhf lh).mpr ⟨h1,by rw [List.append_nil]; exact h2,h3⟩,?_⟩
  rw [if_pos rfl]
theorem nd_map_on {α β:Type} {f:α->β}:∀ {l:List α},(∀ x∈l,∀ y∈l,f x=f y->x=y)->l.Nodup->(l.map f).Nodup
 | [],_,_=>List.nodup_nil
 | x::r,hi,h=>by
  obtain ⟨h1,h2⟩:=List.nodup_cons.mp h
  rw [List.map_cons]
  refine List.nodup_cons.mpr ⟨fun z=>?_,nd_map_on (fun a ha b hb=>hi a (List.mem_cons_of_mem _ ha) b (List.mem_cons_of_mem _ hb)) h2⟩
  obtain ⟨y,hy,e⟩:=List.mem_map.mp z
  have:=hi x List.mem_cons_self y (List.mem_cons_of_mem _ hy) e.symm
  rw [this] at h1
  exact h1 hy
abbrev Fd (α:Type):=List (α×List Nat)
def noC {α:Type} (f:Res α):Fd α:=f.map fun x=>(x.1,x.2.2)
def askS (sg:List Nat) (lo:Nat) (m k:Nat) (t:List Nat):List Nat:=(List.range (m+1)).filter fun s=>decide (s<=t.length)&&(decide (lo<=k+s)&&(t.take s).all fun c=>decide (c∈sg))
theorem jjl {sg:List Nat} {lo:Nat}:∀ {m k:Nat} {t:List Nat},lo<=k+m->noC (jgq sg lo m k t)=(askS sg lo m k t).map fun s=>(t.take s,t.drop s)
 | 0,k,t,h=>by
  unfold noC askS jgq
  have h':lo<=k:=by omega
  simp [List.range_succ,h']
 | m+1,k,t,h=>by
  have e:askS sg lo (m+1) k t=(if lo<=k then [0] else [])++(match t with | []=>[] | c::t'=>if c∈sg then (askS sg lo m (k+1) t').map (·+1) else []):=by
   unfold askS
   rw [List.range_succ_eq_map,List.filter_cons,List.filter_map]
   have h0:(decide (0<=t.length)&&(decide (lo<=k+0)&&(t.take 0).all fun c=>decide (c∈sg)))=decide (lo<=k):=by simp
   rw [h0]
   have hT:∀ L:List Nat,(if decide (lo<=k)=true then 0::L else L)=(if lo<=k then [0] else [])++L:=by
    intro L; by_cases hk:lo<=k <;> simp [hk]
   rw [hT]
   congr 1
   cases t with
   | nil =>
    dsimp only
    rw [List.map_eq_nil_iff,List.filter_eq_nil_iff]
    intro s _; simp
   | cons c t' =>
    dsimp only
    by_cases hc:c∈sg
    ·rw [if_pos hc]
     have:((fun s=>decide (s<=(c::t').length)&&(decide (lo<=k+s)&&((c::t').take s).all fun c=>decide (c∈sg))) ∘ Nat.succ)=fun s=>decide (s<=t'.length)&&(decide (lo<=k+1+s)&&(t'.take s).all fun c=>decide (c∈sg)):=by
      funext s
      simp only [Function.comp,List.length_cons,Nat.succ_eq_add_one,List.take_succ_cons,List.all_cons,decide_eq_true hc,Bool.true_and]
      rw [show k+(s+1)=k+1+s by omega]
      have e3:decide (s+1<=t'.length+1)=decide (s<=t'.length):=by
       by_cases hs:s<=t'.length
       ·rw [decide_eq_true hs,decide_eq_true (by omega)]
       ·rw [decide_eq_false hs,decide_eq_false (by omega)]
      rw [e3]
     rw [this]
    ·rw [if_neg hc]
     rw [List.map_eq_nil_iff,List.filter_eq_nil_iff]
     intro s _
     simp [hc]
  rw [e,jcP]
  unfold noC
  rw [List.map_append,List.map_append]
  congr 1
  ·by_cases hk:lo<=k <;> simp [hk]
  ·cases t with
   | nil=>rfl
   | cons c t' =>
    dsimp only
    by_cases hc:c∈sg
    ·rw [if_pos hc,if_pos hc,List.map_map,List.map_map]
     have ih:=jjl (sg:=sg) (lo:=lo) (m:=m) (k:=k+1) (t:=t') (by omega)
     have:((jgq sg lo m (k+1) t').map fun x=>(c::x.1,x.2.2))=(noC (jgq sg lo m (k+1) t')).map fun y=>(c::y.1,y.2):=by
      unfold noC; rw [List.map_map]; rfl
     show ((jgq sg lo m (k+1) t').map fun x=>(c::x.1,x.2.2))=_
     rw [this,ih,List.map_map]
     rfl
    ·rw [if_neg hc,if_neg hc]; rfl
theorem noC_say {z t:List Nat}:noC (p1 (.say z) t)=match strip z t with | some r=>[(.no,r)] | none=>[]:=by
 rw [jmt]; cases strip z t <;> rfl
theorem noC_p1a {sg:List Nat} {lo hi:Nat} {t:List Nat} (h:lo<=hi):noC (p1 (.ask sg lo hi) t)=(askS sg lo hi 0 t).map fun s=>(.tx (t.take s),t.drop s):=by
 rw [jmu]
 have:=jjl (sg:=sg) (lo:=lo) (m:=hi) (k:=0) (t:=t) (by omega)
 unfold noC at this ⊢
 rw [List.map_map]
 have e:((jgq sg lo hi 0 t).map ((fun x:R1×List Bool×List Nat=>(x.1,x.2.2)) ∘ fun x=>(R1.tx x.1,x.2.1,x.2.2)))=((jgq sg lo hi 0 t).map fun x=>(x.1,x.2.2)).map fun y=>(R1.tx y.1,y.2):=by rw [List.map_map]; rfl
 rw [e,this,List.map_map]
 rfl
theorem jjm {t:List Nat}:noC (pL [] t)=[([],t)]:=rfl
theorem jhg {t:List Nat}:noC (pF [] t)=[([],t)]:=rfl
theorem jeH {α β γ:Type} (f:Res α) (g:List Nat->Res β) (k:α->β->γ) (c:List Bool->List Bool->List Bool):noC (f.flatMap fun x=>(g x.2.2).map fun y=>(k x.1 y.1,c x.2.1 y.2.1,y.2.2))=(noC f).flatMap fun x=>(noC (g x.2)).map fun y=>(k x.1 y.1,y.2):=by
 unfold noC
 rw [List.map_flatMap,List.flatMap_map]
 simp only [List.map_map]
 rfl
theorem noC_consL {p:MP} {ps:List MP} {t:List Nat}:noC (pL (p::ps) t)=(noC (p1 p t)).flatMap fun x=>(noC (pL ps x.2)).map fun y=>(x.1::y.1,y.2):=jeH (p1 p t) (pL ps) (fun a b=>a::b) (fun a b=>a++b)
theorem jcQ {p:MQ} {ps:List MQ} {t:List Nat}:noC (pF (p::ps) t)=(noC (pQ p t)).flatMap fun x=>(noC (pF ps x.2)).map fun y=>(x.1::y.1,y.2):=jeH (pQ p t) (pF ps) (fun a b=>a::b) (fun a b=>a++b)
theorem noC_snocL {p:MP}:∀ {ps:List MP} {t:List Nat},noC (pL (ps++[p]) t)=(noC (pL ps t)).flatMap fun x=>(noC (p1 p x.2)).map fun y=>(x.1++[y.1],y.2)
 | [],t=>by
  rw [List.nil_append,noC_consL,jjm,List.flatMap_cons,List.flatMap_nil,List.append_nil]
  induction noC (p1 p t) with
  | nil=>rfl
  | cons x l ih=>rw [List.flatMap_cons,List.map_cons,ih]; rfl
 | q::ps,t=>by
  rw [List.cons_append,noC_consL,noC_consL,List.flatMap_assoc]
  congr 1
  funext x
  rw [noC_snocL,List.map_flatMap,List.flatMap_map]
  simp only [List.map_map]
  rfl
theorem noC_snocF {p:MQ}:∀ {ps:List MQ} {t:List Nat},noC (pF (ps++[p]) t)=(noC (pF ps t)).flatMap fun x=>(noC (pQ p x.2)).map fun y=>(x.1++[y.1],y.2)
 | [],t=>by
  rw [List.nil_append,jcQ,jhg,List.flatMap_cons,List.flatMap_nil,List.append_nil]
  induction noC (pQ p t) with
  | nil=>rfl
  | cons x l ih=>rw [List.flatMap_cons,List.map_cons,ih]; rfl
 | q::ps,t=>by
  rw [List.cons_append,jcQ,jcQ,List.flatMap_assoc]
  congr 1
  funext x
  rw [noC_snocF,List.map_flatMap,List.flatMap_map]
  simp only [List.map_map]
  rfl
def gapAt (gap:List Nat) (k:Nat) (t:List Nat):Option (List Nat):=if k=0 then some t else strip gap t
theorem noC_rows0 {inner:List MP} {gap:List Nat} {lo k:Nat} {t:List Nat}:noC (pRows inner gap lo 0 k t)=[([],t)]:=rfl
theorem noC_rows {inner:List MP} {gap:List Nat} {lo m k:Nat} {t:List Nat}:noC (pRows inner gap lo (m+1) k t)=(if lo<=k then [([],t)] else [])++(match gapAt gap k t with
  | none=>[]
  | some t1=>(noC (pL inner t1)).flatMap fun x=>(noC (pRows inner gap lo m (k+1) x.2)).map fun y=>(x.1::y.1,y.2)):=by
 have e:pRows inner gap lo (m+1) k t=(if lo<=k then [([],[false],t)] else [])++(match gapAt gap k t with
  | none=>[]
  | some t1=>(pL inner t1).flatMap fun x=>(pRows inner gap lo m (k+1) x.2.2).map fun y=>(x.1::y.1,(if lo<=k then true::(x.2.1++y.2.1) else x.2.1++y.2.1),y.2.2)):=rfl
 rw [e]
 have hA:∀ A B:Res (List (List R1)),noC (A++B)=noC A++noC B:=fun A B=>List.map_append
 rw [hA]
 congr 1
 ·by_cases hk:lo<=k <;> simp [hk,noC]
 ·cases gapAt gap k t with
  | none=>rfl
  | some t1=>exact jeH (pL inner t1) (pRows inner gap lo m (k+1)) (fun a b=>a::b) (fun a b=>if lo<=k then true::(a++b) else a++b)
theorem noC_one {p:MP} {t:List Nat}:noC (pQ (.one p) t)=(noC (p1 p t)).map fun x=>(.one x.1,x.2):=by
 unfold noC
 show ((p1 p t).map fun x=>(RQ.one x.1,x.2.1,x.2.2)).map _=_
 rw [List.map_map,List.map_map]; rfl
theorem noC_rowsQ {inner:List MP} {gap:List Nat} {lo hi:Nat} {t:List Nat}:noC (pQ (.rows inner gap lo hi) t)=(noC (pRows inner gap lo hi 0 t)).map fun x=>(.rows x.1,x.2):=by
 unfold noC
 show ((pRows inner gap lo hi 0 t).map fun x=>(RQ.rows x.1,x.2.1,x.2.2)).map _=_
 rw [List.map_map,List.map_map]; rfl
theorem rds_noC {ps:List MQ} {t:List Nat}:(rds ps t).map (·.1)=((noC (pF ps t)).filter fun x=>decide (x.2=[])).map (·.1):=by
 unfold rds noC
 induction pF ps t with
 | nil=>rfl
 | cons x l ih =>
  rw [List.filterMap_cons,List.map_cons,List.filter_cons]
  by_cases h:x.2.2=[]
  ·rw [if_pos h]
   dsimp only
   rw [decide_eq_true h,if_pos rfl,List.map_cons,List.map_cons,ih]
  ·rw [if_neg h]
   dsimp only
   rw [decide_eq_false h,if_neg (by decide),ih]
theorem jdA {α β:Type} {f:α->List β} {B:Nat}:∀ {l:List α},(∀ a∈l,(f a).length<=B)->(l.flatMap f).length<=l.length * B
 | [],_=>by simp
 | a::l,h=>by
  rw [List.flatMap_cons,List.length_append,List.length_cons,Nat.succ_mul]
  have h1:=h a List.mem_cons_self
  have h2:=jdA (f:=f) (B:=B) (l:=l) fun b hb=>h b (List.mem_cons_of_mem _ hb)
  omega
theorem jll {sg:List Nat} {lo m k:Nat} {t:List Nat}:(askS sg lo m k t).length<=m+1:=by
 unfold askS
 refine Nat.le_trans (List.length_filter_le _ _) ?_
 rw [List.length_range]; exact Nat.le_refl _
def MP.few:MP->Prop
 | .say _=>True
 | .ask _ lo hi=>lo<=hi/\hi<=2
def MQ.few:MQ->Prop
 | .one p=>p.few
 | .rows inner _ lo hi=>lo<=hi/\hi<=2/\inner.length<=2/\∀ p∈inner,p.few
theorem len_p1:∀ {p:MP} {t:List Nat},p.few->(noC (p1 p t)).length<=3
 | .say z,t,_=>by rw [noC_say]; cases strip z t <;> simp
 | .ask sg lo hi,t,h=>by
  rw [noC_p1a h.1,List.length_map]
  have:=jll (sg:=sg) (lo:=lo) (m:=hi) (k:=0) (t:=t)
  have:=h.2
  omega
theorem jmw:∀ {ps:List MP} {t:List Nat},(∀ p∈ps,p.few)->(noC (pL ps t)).length<=3 ^ ps.length
 | [],t,_=>by rw [jjm]; exact Nat.le_refl _
 | p::ps,t,h=>by
  rw [noC_consL,List.length_cons,Nat.pow_succ]
  refine Nat.le_trans (jdA (B:=3 ^ ps.length) fun x _=>?_) ?_
  ·rw [List.length_map]
   exact jmw fun q hq=>h q (List.mem_cons_of_mem _ hq)
  ·rw [Nat.mul_comm]
   exact Nat.mul_le_mul_left _ (len_p1 (h p List.mem_cons_self))
theorem len_pL9 {ps:List MP} {t:List Nat} (h:∀ p∈ps,p.few) (h2:ps.length<=2):(noC (pL ps t)).length<=9:=Nat.le_trans (jmw h) (Nat.le_trans (Nat.pow_le_pow_right (by decide) h2) (by decide))
def jjn:Nat->Nat
 | 0=>1
 | m+1=>1+9 * jjn m
theorem len_rows {inner:List MP} {gap:List Nat} {lo:Nat} (h:∀ p∈inner,p.few) (h2:inner.length<=2):∀ {m k:Nat} {t:List Nat},(noC (pRows inner gap lo m k t)).length<=jjn m
 | 0,k,t=>by rw [noC_rows0]; exact Nat.le_refl _
 | m+1,k,t=>by
  rw [noC_rows,List.length_append,jjn]
  have h3:(if lo<=k then [(([]:List (List R1)),t)] else []).length<=1:=by split <;> simp
  refine Nat.add_le_add h3 ?_
  cases gapAt gap k t with
  | none=>simp
  | some t1 =>
   dsimp only
   refine Nat.le_trans (jdA (B:=jjn m) fun x _=>?_) (Nat.mul_le_mul_right _ (len_pL9 h h2))
   rw [List.length_map]
   exact len_rows h h2
theorem rowsB_le:∀ {m:Nat},m<=2->jjn m<=91
 | 0,_=>by decide
 | 1,_=>by decide
 | 2,_=>by decide
 | m+3,h=>by omega
def MQ.wt:MQ->Nat
 | .one _=>3
 | .rows ..=>91
theorem jpa:∀ {p:MQ} {t:List Nat},p.few->(noC (pQ p t)).length<=p.wt
 | .one p,t,h=>by rw [noC_one,List.length_map]; exact len_p1 h
 | .rows inner gap lo hi,t,h=>by
  rw [noC_rowsQ,List.length_map]
  exact Nat.le_trans (len_rows h.2.2.2 h.2.2.1) (rowsB_le h.2.1)
def wtF:List MQ->Nat
 | []=>1
 | p::ps=>p.wt * wtF ps
theorem jpb (p:MQ):1<=p.wt:=by cases p <;> simp [MQ.wt]
theorem jjo:∀ ps:List MQ,1<=wtF ps
 | []=>Nat.le_refl _
 | p::ps=>Nat.mul_pos (jpb p) (jjo ps)
theorem len_pF:∀ {ps:List MQ} {t:List Nat},(∀ p∈ps,p.few)->(noC (pF ps t)).length<=wtF ps
 | [],t,_=>by rw [jhg]; exact Nat.le_refl _
 | p::ps,t,h=>by
  rw [jcQ,wtF]
  refine Nat.le_trans (jdA (B:=wtF ps) fun x _=>?_) (Nat.mul_le_mul_right _ (jpa (h p List.mem_cons_self)))
  rw [List.length_map]
  exact len_pF fun q hq=>h q (List.mem_cons_of_mem _ hq)
theorem wtF_take:∀ {ps:List MQ} {i:Nat},wtF (ps.take i)<=wtF ps
 | [],i=>by simp
 | p::ps,0=>by rw [List.take_zero]; exact jjo _
 | p::ps,i+1=>by rw [List.take_succ_cons,wtF,wtF]; exact Nat.mul_le_mul_left _ wtF_take
def MQ.rw:MQ->Nat
 | .one _=>0
 | .rows ..=>1
def rwF (ps:List MQ):Nat:=(ps.map MQ.rw).sum
theorem jmx:∀ {ps:List MQ},wtF ps<=3 ^ ps.length * 31 ^ rwF ps
 | []=>by decide
 | p::ps=>by
  have ih:=jmx (ps:=ps)
  rw [wtF]
  have e:rwF (p::ps)=p.rw+rwF ps:=by unfold rwF; simp
  rw [e,List.length_cons,Nat.pow_succ,Nat.pow_add]
  have h1:p.wt<=3 * 31 ^ p.rw:=by cases p <;> simp [MQ.wt,MQ.rw]
  calc p.wt * wtF ps<=(3 * 31 ^ p.rw) * (3 ^ ps.length * 31 ^ rwF ps):=Nat.mul_le_mul h1 ih
   _=3 ^ ps.length * 3 * (31 ^ p.rw * 31 ^ rwF ps):=by ac_rfl
theorem wtF_few {ps:List MQ} (h:ps.length<=4) (r:rwF ps<=1):wtF ps<=3000:=by
 refine Nat.le_trans jmx ?_
 have h1:3 ^ ps.length<=3 ^ 4:=Nat.pow_le_pow_right (by decide) h
 have h2:31 ^ rwF ps<=31 ^ 1:=Nat.pow_le_pow_right (by decide) r
 exact Nat.le_trans (Nat.mul_le_mul h1 h2) (by decide)
theorem len_take_flat {α β:Type} {f:α->List β} {l:List α} {j:Nat}:((l.take j).flatMap f).length<=(l.flatMap f).length:=by
 have e:l.flatMap f=(l.take j).flatMap f++(l.drop j).flatMap f:=by rw [<- List.flatMap_append,List.take_append_drop]
 rw [e,List.length_append]; omega
theorem flat_take_succ {α β:Type} {f:α->List β} {l:List α} {j:Nat} {x:α} (h:l[j]?=some x):(l.take (j+1)).flatMap f=(l.take j).flatMap f++f x:=by
 rw [List.take_add_one,h]
 simp
end Mth
namespace L2
open PySem PySem.Spec PyProof.Rows
def ItD (lo:Int) (n:Nat):It:=⟨fun i _=>i < n,fun i H x H'=>H'=H/\x=.int (lo - i),fun i _=>n<=i⟩
theorem jgr {P:Program} {w:World} {K:PySem.W.Frag} {tg:Expr} (it:Addr) (lo:Int) (n:Nat):Turn P w K tg (ItD lo n) [it] it (fun i h=>IsRangeIter h it (lo+(i:Nat) * (-1)) ((n:Int) - (i:Nat)) (-1)) where
 mem:=by simp
 obj:=fun i h st b hb=>by
  obtain rfl:b=it:=by simpa using hb
  exact ⟨_,st,fun v z=>by
   have y:Data.fields _=Data.cell v:=z
   cases y⟩
 keep:=fun i h h' st k=>k it (by simp) _ st
 item:=by
  intro X hP hw hK hc i pins s σ H E I hf st hg
  subst hP hw hK
  obtain ⟨f0,f1,f2,f3,f4,f5⟩:=hf it (by simp)
  refine (Walks.range (prog:=X.prog) (w:=X.w) (I.ok.hd hc) it lo (-1) n).item i s _ _ hg st fun v h' tk hv st' kk=>?_
  obtain ⟨t,rfl⟩:=hv
  have J:Inv X pins σ H {s with heap:=h',toks:=tk}:=I.turned (fun b o hb e=>kk b o (by simpa using hb) e) f0 f1 f3 f4 f5
  refine ⟨_,rfl,jkJ (s:={s with heap:=h',toks:=tk}) (n:="range_iterator") st' rfl rfl (by decide) ⟨.int (lo - i),H,J,⟨t,?_⟩,⟨rfl,rfl⟩,st',fun b hb=>(hf b hb).1⟩⟩
  rw [Int.mul_neg_one]; rfl
 done:=by
  intro X hP hw hK hc i pins s σ H E I hf st hg
  subst hP hw hK
  obtain ⟨f0,f1,f2,f3,f4,f5⟩:=hf it (by simp)
  exact wpAny_pyNext_range_end (I.ok.hd hc) st (by have:n<=i:=hg; omega) fun h' eb=>⟨rfl,I.turned (t':=s.toks) (fun b o hb e=>eb b o hb e) f0 f1 f3 f4 f5⟩
 self:=fun _ _ _ _ _ st h=>wpAny_pyIter_rangeiter st h
section
variable {X:Cx} {tg:Expr}
theorem jjp {pins:List (Addr×Obj)} {σ:St} {H:Hp} {s:Shared} {R:It->Hp->Prop} {E:Value->Shared->Prop} {lo hi:Int} {t u v:Tok} {tk:Nat} (I:Inv X pins σ H s) (h1:-(2 ^ 62)<=lo) (h2:lo < 2 ^ 62) (h3:-(2 ^ 62)<=hi) (h4:hi < 2 ^ 62)
  (q:R (ItD lo (lo - hi).toNat) H):wpAny (model X.prog X.w) X.A (pyIter (.ref s.heap.objs.size)) (PIE X pins σ tg R) E {s with heap:=s.heap.push {cls:=.type "range",data:=.fields #[.int lo t,.int hi u,.int (-1) v]},toks:=tk}:=by
 refine wpAny_pyIter_range (IsRange.new ..) (PySem.W.small_down h1 h2 h3 h4) ?_
 have J:Inv X pins σ H {s with heap:=s.heap.push {cls:=.type "range",data:=.fields #[.int lo t,.int hi u,.int (-1) v]},toks:=tk}:=I.kept fun b o e=>Heap.get?_push_of_some _ e
 generalize hG:s.heap.push {cls:=.type "range",data:=.fields #[.int lo t,.int hi u,.int (-1) v]}=G at J ⊢
 refine ⟨G.objs.size,[G.objs.size],_,_,H,rfl,J.kept (t':=tk) fun b o e=>Heap.get?_push_of_some _ e,jgr _ lo (lo - hi).toNat,?_,fun b hb=>?_,q⟩
 ·have e1:lo+((0:Nat):Int) * (-1)=lo:=by simp
  have e2:(((lo - hi).toNat:Nat):Int) - ((0:Nat):Int)=Builtin.Range.rangeSize lo hi (-1):=by rw [PySem.W.rangeSize_downNat]; simp
  show IsRangeIter _ _ (lo+((0:Nat):Int) * (-1)) ((((lo - hi).toNat:Nat):Int) - ((0:Nat):Int)) (-1)
  rw [e1,e2]
  exact Heap.get?_push_size _ rfl
 ·obtain rfl:b=G.objs.size:=by simpa using hb
  exact J.fpOk (Nat.le_refl _) (J.hok.fresh (Nat.le_refl _))
def iRngD (ta:TA):TI:=fun σ H R=>ta σ H fun vs H1=>∃ i j:Int,vs=[.int i,.int j,.int (-1)]/\(-(2 ^ 62)<=i/\i < 2 ^ 62/\-(2 ^ 62)<=j/\j < 2 ^ 62)/\R (ItD i (i - j).toNat) H1
theorem jfL {a b c:Expr} {ta:TA} {p pos:Pos} (hg:Gl X "range") (hm:X.mg "range"=none) (ha:PA X [a,b,c] ta) (hs:starEach [a,b,c] X.env=(false,eval a X.env)::starEach [b,c] X.env:=by rfl) (hpl:(backTo pos (starEach [b,c] X.env)).any (·.1)=false:=by rfl) :
  PI X tg (.Call (.Name "range" p) [a,b,c] [] pos) (iRngD ta):=by
 intro pins s σ H R I h
 refine Call_ (ld_blt I hg hm boot_range (PyProof.Rows.callWith_type1 (thn (ha pos pins s σ H _ I h) fun us s1 ⟨vs,H1,I1,r1,q1⟩=>?_) hs hpl))
 obtain ⟨i,j,e,⟨q1,q2,q3,q4⟩,q⟩:=q1
 subst e
 cases r1 with
 | cons r rr =>
  cases rr with
  | cons r' rr =>
   cases rr with
   | cons r'' rr =>
    cases rr
    obtain ⟨t,rfl⟩:=r
    obtain ⟨t',rfl⟩:=r'
    obtain ⟨t'',rfl⟩:=r''
    exact call_range_3 (by decide) (jjp I1 q1 q2 q3 q4 q)
end
theorem jet {lo:Int} {n:Nat} {g:TG} {tb:TS} {D:Ends} {σ:St} {H:Hp} (Pv:Nat->St->Hp->Prop) (h0:Pv 0 σ H)
  (hs:∀ i σ H,i < n->Pv i σ H->g (.int (lo - i)) σ H fun σ2 H2=>tb {D with nx:=Pv (i+1),ct:=Pv (i+1),bk:=D.nx} σ2 H2) (hd:∀ σ H,Pv n σ H->D.nx σ H) :
  ∃ W:Nat->Nat->St->Hp->Prop,(∃ m,W 0 m σ H)/\∀ i m σ H,W i m σ H ->
   ((ItD lo n).stop i H/\D.nx σ H)\/((ItD lo n).go i H/\∃ N:St->Hp->Prop,(∀ σ' H',N σ' H'->∃ m',m' < m/\W (i+1) m' σ' H')/\∀ x H',(ItD lo n).yld i H x H'->g x σ H' fun σ2 H2=>tb {D with nx:=N,ct:=N,bk:=D.nx} σ2 H2):=by
 refine ⟨fun i m σ H=>m=n - i/\i<=n/\Pv i σ H,⟨n,by simp,Nat.zero_le _,h0⟩,?_⟩
 rintro i m σ H ⟨rfl,hi,p⟩
 by_cases hlt:i < n
 ·refine .inr ⟨hlt,Pv (i+1),fun σ' H' p'=>⟨n - (i+1),by omega,rfl,hlt,p'⟩,fun x H' y=>?_⟩
  obtain ⟨e,y⟩:=y
  subst e y
  exact hs i σ _ hlt p
 ·obtain rfl:i=n:=by omega
  exact .inl ⟨Nat.le_refl _,hd σ H p⟩
def jpc (K:PySem.W.Frag) (a:Addr) (n:Nat):It :=
 ⟨fun i H=>i < n/\∃ xs,SqL K H a xs/\xs.length=n,fun i H x H'=>H'=H/\∀ xs,SqL K H a xs->xs[n - 1 - i]?=some x,fun i H=>n<=i⟩
theorem jfM {P:Program} {w:World} {K:PySem.W.Frag} {tg:Expr} (a it:Addr) (n:Nat):Turn P w K tg (jpc K a n) [it] it (fun i h=>i<=n/\h.IsRevIter it a ((n:Int) - 1 - (i:Int))) where
 mem:=by simp
 obj:=fun i h st b hb=>by
  obtain rfl:b=it:=by simpa using hb
  obtain ⟨_,o,e,c,d⟩:=st
  exact ⟨o,e,fun v z=>by rw [d] at z; cases z⟩
 keep:=fun i h h' st k=>⟨st.1,st.2.at fun o e=>k it (by simp) o e⟩
 item:=by
  intro X hP hw hK hc i pins s σ H E I hf st hg
  subst hP hw hK
  obtain ⟨hi,xs,hq,hx⟩:=hg
  obtain ⟨its,rv,p,hz⟩:=I.list hq
  obtain ⟨f0,f1,f2,f3,f4,f5⟩:=hf it (by simp)
  have hl:=rv.length
  have hk:n - 1 - i < xs.length:=by omega
  obtain ⟨u,hu,ru⟩:=rv.get (List.getElem?_eq_getElem hk)
  have e:(n:Int) - 1 - (i:Int)=((n - 1 - i:Nat):Int):=by omega
  have st':=st.2
  rw [e] at st'
  refine wpAny_pyNext_rev_item st' p.isList (x:=u) (by simpa using hu) fun h' hit' sb=>?_
  have e2:((n - 1 - i:Nat):Int) - 1=(n:Int) - 1 - ((i+1:Nat):Int):=by omega
  rw [e2] at hit'
  have J:Inv X pins σ H {s with heap:=h'}:=I.turned (t':=s.toks) (fun b o hb e=>(sb.2 b hb).trans e) f0 f1 f3 f4 f5
  obtain ⟨o,e,c,d⟩:=id hit'
  exact ⟨u,rfl,jkJ (s:={s with heap:=h'}) e c d (by decide) ⟨_,H,J,ru,⟨rfl,fun ys hy=>by rw [I.list_inj hy hq]; exact List.getElem?_eq_getElem hk⟩,⟨hi,hit'⟩,fun b hb=>(hf b hb).1⟩⟩
 done:=by
  intro X hP hw hK hc i pins s σ H E I hf st hg
  subst hP hw hK
  obtain ⟨f0,f1,f2,f3,f4,f5⟩:=hf it (by simp)
  have e:(n:Int) - 1 - (i:Int)=-1:=by have:=st.1; have:n<=i:=hg; omega
  have st':=st.2
  rw [e] at st'
  exact wpAny_pyNext_rev_end (I.ok.hd hc) st' fun h' eb=>⟨rfl,I.turned (t':=s.toks) (fun b o hb e=>eb b o hb e) f0 f1 f3 f4 f5⟩
 self:=fun _ _ _ _ _ st h=>wpAny_pyIter_revIter st.2 h
section
variable {X:Cx} {tg:Expr}
def iRevL (K:PySem.W.Frag) (ta:TA):TI:=fun σ H R=>ta σ H fun vs H1=>∃ a xs,vs=[.ref a]/\SqL K H1 a xs/\R (jpc K a xs.length) H1
theorem jie {e:Expr} {ta:TA} {p pos:Pos} (hg:Gl X "reversed") (hm:X.mg "reversed"=none) (ha:PA X [e] ta) (hs:starEach [e] X.env=[(false,eval e X.env)]:=by rfl):PI X tg (.Call (.Name "reversed" p) [e] [] pos) (iRevL X.K ta):=by
 intro pins s σ H R I h
 refine Call_ (ld_blt I hg hm boot_reversed (PyProof.Rows.callWith_type1 (thn (ha pos pins s σ H _ I h) fun us s1 ⟨vs,H1,I1,r1,q1⟩=>?_) hs rfl))
 obtain ⟨a,xs,ev,hq,q⟩:=q1
 subst ev
 cases r1 with
 | cons r rr =>
  cases rr
  cases r
  obtain ⟨its,rv,pl,hz⟩:=I1.list hq
  have hl:its.toArray.size=xs.length:=by rw [List.size_toArray]; exact rv.length.symm
  refine call_reversed_list pl.isList ?_
  have st:(s1.heap.push (revObj a ((its.toArray.size:Int) - 1))).IsRevIter s1.heap.objs.size a ((xs.length:Int) - 1 - ((0:Nat):Int)):=by
   rw [hl]
   refine ⟨_,Heap.get?_push_size _ rfl,rfl,?_⟩
   simp [revObj]
  refine wpAny_pyIter_revIter (s:={s1 with heap:=s1.heap.push (revObj a ((its.toArray.size:Int) - 1))}) st ?_
  refine ⟨s1.heap.objs.size,[s1.heap.objs.size],_,_,H1,rfl,I1.kept (t':=s1.toks) fun b o e=>Heap.get?_push_of_some _ e,jfM a _ xs.length,⟨Nat.zero_le _,st⟩,fun b hb=>?_,q⟩
  obtain rfl:b=s1.heap.objs.size:=by simpa using hb
  exact I1.fpOk (Nat.le_refl _) (I1.hok.fresh (Nat.le_refl _))
end
theorem jgs {K:PySem.W.Frag} {a:Addr} {xs:List V} {g:TG} {tb:TS} {D:Ends} {σ:St} {H:Hp} (Pv:Nat->St->Hp->Prop) (h0:Pv 0 σ H) (hl:∀ i σ H,i<=xs.length->Pv i σ H->SqL K H a xs)
  (hs:∀ i x σ H,i < xs.length->xs[xs.length - 1 - i]?=some x->Pv i σ H->g x σ H fun σ2 H2=>tb {D with nx:=Pv (i+1),ct:=Pv (i+1),bk:=D.nx} σ2 H2) (hd:∀ σ H,Pv xs.length σ H->D.nx σ H) :
  ∃ W:Nat->Nat->St->Hp->Prop,(∃ m,W 0 m σ H)/\∀ i m σ H,W i m σ H ->
   ((jpc K a xs.length).stop i H/\D.nx σ H)\/((jpc K a xs.length).go i H/\∃ N:St->Hp->Prop,(∀ σ' H',N σ' H'->∃ m',m' < m/\W (i+1) m' σ' H')/\∀ x H',(jpc K a xs.length).yld i H x H'->g x σ H' fun σ2 H2=>tb {D with nx:=N,ct:=N,bk:=D.nx} σ2 H2):=by
 refine ⟨fun i m σ H=>m=xs.length - i/\i<=xs.length/\Pv i σ H,⟨xs.length,by simp,Nat.zero_le _,h0⟩,?_⟩
 rintro i m σ H ⟨rfl,hi,p⟩
 have q:=hl i σ H hi p
 by_cases hlt:i < xs.length
 ·refine .inr ⟨⟨hlt,xs,q,rfl⟩,Pv (i+1),fun σ' H' p'=>⟨xs.length - (i+1),by omega,rfl,hlt,p'⟩,fun x H' y=>?_⟩
  obtain ⟨e,y⟩:=y
  subst e
  exact hs i x σ _ hlt (y xs q) p
 ·obtain rfl:i=xs.length:=by omega
  exact .inl ⟨Nat.le_refl _,hd σ H p⟩
theorem jmy:Manifest.owners.lookup (String.ofList ['d','e','s','r','e','v','e','r'].reverse)=some Manifest.sig_reversed:=by kernel_rfl
theorem rv_next:Slot "reversed" "__next__" "reversed.__next__":=.of (owner:="reversed") (n:="__next__") (by rw [typeLookup_type,builtinLookup_eq_fast]; kernel_rfl)
 (by decide +kernel) (by decide +kernel) (by decide +kernel) (by first | exact .inl (by decide +kernel) | exact .inr (by decide +kernel)) (by rw [isSubtype_type]; kernel_rfl)
theorem jjq:Slot "reversed" "__iter__" "reversed.__iter__":=.of (owner:="reversed") (n:="__iter__") (by rw [typeLookup_type,builtinLookup_eq_fast]; kernel_rfl)
 (by decide +kernel) (by decide +kernel) (by decide +kernel) (by first | exact .inl (by decide +kernel) | exact .inr (by decide +kernel)) (by rw [isSubtype_type]; kernel_rfl)
theorem jnv:Slot "reversed" "__init__" "object.__init__":=.of (owner:="object") (n:="__init__") (by rw [typeLookup_type,builtinLookup_eq_fast]; kernel_rfl)
 (by decide +kernel) (by decide +kernel) (by decide +kernel) (by first | exact .inl (by decide +kernel) | exact .inr (by decide +kernel)) (by rw [isSubtype_type]; kernel_rfl)
theorem jhh:entryFor table "reversed.__next__"=some Builtin.«reversed.__next__»:=entryFor_of_tree (by kernel_rfl)
theorem jlm:entryFor table "reversed.__iter__"=some Builtin.«dict_keyiterator.__iter__» :=
 entryFor_alias (id':="dict_keyiterator.__iter__") (by kernel_rfl) (by first | rfl | decide +kernel | (unfold String.splitOn; simp +decide [String.splitOnAux])) (by decide +kernel) (by kernel_rfl)
theorem jhi (a:Value):argsOk "reversed.__next__" ⟨[a],[]⟩:=by
 unfold argsOk
 rw [signature?_of (id:="reversed.__next__") (n:=['_','_','t','x','e','n','_','_']) (o:=['d','e','s','r','e','v','e','r']) (by kernel_rfl) jmy]
 kernel_rfl
theorem jln (a:Value):argsOk "reversed.__iter__" ⟨[a],[]⟩:=by
 unfold argsOk
 rw [signature?_of (id:="reversed.__iter__") (n:=['_','_','r','e','t','i','_','_']) (o:=['d','e','s','r','e','v','e','r']) (by kernel_rfl) jmy]
 kernel_rfl
theorem jjr:TypeCalled "reversed" "reversed.__new__" "object.__init__":=⟨by decide +kernel,F.create_reversed,⟨_,_,F.mro_reversed⟩,F.made_reversed,F.plain_reversed_new,F.sub_reversed_self,jnv⟩
theorem jpd:typeLookup (.type "str") "__reversed__"=pure none:=by rw [typeLookup_type,builtinLookup_eq_fast]; kernel_rfl
section
variable {prog:Program} {w:World} {A:Around} {E:Value->Shared->Prop} {s:Shared}
abbrev jjs (z:Str) (t:Tok) (i:Int):Obj:={cls:=.type "reversed",data:=.fields #[.str z t,rawInt i]}
theorem jpe (z:Str) (t:Tok) (hz:z.length<=sizeLine):MeetsIn prog w (Builtin.«reversed.__new__» ⟨[.type "reversed",.str z t],[]⟩)
  (fun A R s=>∀ tk,R (.ok (.ret (.ref s.heap.objs.size))) {s with heap:=s.heap.push (jjs z t ((z.length:Int) - 1)),toks:=tk}):=.of_wp fun A R s h=>by
 have hn:=jdm
 unfold Builtin.«reversed.__new__»
 refine wpAny_bind (wpAny_of_eq (newClass_reversed _) ?_)
 try dsimp only
 refine wpAny_bind (wpAny_of_eq (a:=()) (by first | rfl | kernel_rfl) ?_)
 refine wpAny_bind (wpAny_of_eq (a:=()) (by first | rfl | kernel_rfl) ?_)
 try dsimp only
 refine wpAny_bind (wpAny_specialOf (typeIs_str s z t) jpd ?_)
 try dsimp only
 refine wpAny_bind (wpAny_of_eq (a:=true) (by first | rfl | kernel_rfl) ?_)
 rw [if_neg (by decide)]
 refine wpAny_bind (len_str (by omega) ?_)
 refine wpAny_bind (wpAny_of_eq (a:=some (z.length:Int)) (by rfl) ?_)
 try dsimp only
 refine wpAny_bind ?_
 unfold Builtin.SmallTypes.newRecord
 refine wpAny_newObj_type ?_ (by size_fits)
 exact wpAny_pure ⟨_,rfl,h _⟩
def jnw (h:Heap) (a:Addr) (z:Str) (t:Tok) (i:Int):Prop:=h.get? a=some (jjs z t i)
theorem jcC {a:Addr} {z:Str} {t:Tok} {i:Int} (x:jnw s.heap a z t i):s.TypeIs (.ref a) "reversed":=⟨_,x,rfl⟩
theorem jnx {z:Str} {t:Tok} {Q:Value->Shared->Prop} (hz:z.length<=sizeLine) (h:∀ tk,Q (.ref s.heap.objs.size) {s with heap:=s.heap.push (jjs z t ((z.length:Int) - 1)),toks:=tk}):wpAny (model prog w) A (call (.type "reversed") [.str z t]) Q E s :=
 callType_newIn jjr (by decide) (F.typeCall_reversed_1 _) (F.newCall_reversed_1 _) (fun obj=>F.args_object_init_2 obj _) F.entry_reversed_new (jpe z t hz) fun tk=>⟨⟨_,Heap.get?_push_size _ rfl,rfl⟩,h tk⟩
theorem jjt {it:Addr} {z:Str} {t:Tok} {i:Int} {Q:Value->Shared->Prop} (x:jnw s.heap it z t i) (h:Q (.ref it) s):wpAny (model prog w) A (pyIter (.ref it)) Q E s:=by
 refine wpAny_pyIter_slot (jcC x) jjq (wpAny_call_entry jjq (jcC x) jlm ?_ (jln _))
 show wpAny _ _ (ret (.ref it)) _ _ s
 exact wpAny_pure ⟨_,rfl,"reversed",_,jcC x,rv_next.lookup,h⟩
theorem jny {it:Addr} {z:Str} {t:Tok} {i c:Nat} {Q:Option Value->Shared->Prop} (x:jnw s.heap it z t (i:Int)) (hc:z.cps[i]?=some c) (hz:z.length<=sizeLine)
  (hQ:∀ h' tk u,jnw h' it z t ((i:Int) - 1)->Heap.SameBut it s.heap h'->Q (some (.str ⟨#[c]⟩ u)) {s with heap:=h',toks:=tk}):wpAny (model prog w) A (pyNext (.ref it)) Q E s:=by
 have hn:=jdm
 have hi:i < z.cps.size:=(Array.getElem?_eq_some_iff.mp hc).1
 have hi2:i < z.length:=hi
 unfold pyNext
 refine wpAny_bind (wpAny_attempt (wpAny_callSpecial?_slot (name:=Str.ofString "__next__") (jcC x) rv_next (wpAny_call_entry rv_next (jcC x) jhh ?_ (jhi _))))
 unfold Builtin.«reversed.__next__»
 refine wpAny_bind (wpAny_of_eq (a:=(Value.ref it,[])) rfl ?_)
 try dsimp only
 refine wpAny_bind (wpAny_field x rfl (x:=.str z t) rfl ?_)
 refine wpAny_bind (wpAny_field x rfl (x:=rawInt (i:Int)) rfl ?_)
 show wpAny _ _ (if (i:Int) < 0 then _ else _) _ _ s
 rw [if_neg (by omega)]
 refine wpAny_bind (wpAny_specialOf (typeIs_str s z t) slot_str_getitem.lookup ?_)
 rw [if_neg (by decide)]
 refine wpAny_bind (wpAny_mkInt ?_)
 have e1:decide ((i:Int) < -(2 ^ 63:Int))=false:=decide_eq_false (by omega)
 have e2:decide ((i:Int) ≥ 2 ^ 63)=false:=decide_eq_false (by omega)
 refine wpAny_bind (wpAny_attempt (getItem_str (c:=c) (by rw [e1,e2]; rfl) (by rw [seqIndex_of (by omega) (by omega)]; simpa using hc) ?_))
 try dsimp only
 refine wpAny_bind (wpAny_field (s:={s with toks:=s.toks+1+1}) x rfl (x:=rawInt (i:Int)) rfl ?_)
 try dsimp only
 show wpAny _ _ (setField (.ref it) 1 (rawInt ((i:Int) - 1))>>=_) _ _ _
 refine wpAny_bind (wpAny_setField (s:={s with toks:=s.toks+1+1}) x rfl (by simp) ?_)
 refine wpAny_pure ⟨_,rfl,wpAny_pure (hQ _ _ _ ?_ (Heap.SameBut.update ..))⟩
 exact Heap.get?_update_self _ x rfl
theorem jpf {it:Addr} {z:Str} {t:Tok} {Q:Option Value->Shared->Prop} (hh:A.handled=none) (x:jnw s.heap it z t (-1)) (hQ:∀ h',Heap.ExtBut it s.heap h'->Q none {s with heap:=h'}):wpAny (model prog w) A (pyNext (.ref it)) Q E s:=by
 unfold pyNext
 refine wpAny_bind (wpAny_attempt (wpAny_callSpecial?_slot (name:=Str.ofString "__next__") (jcC x) rv_next (wpAny_call_entry rv_next (jcC x) jhh ?_ (jhi _))))
 unfold Builtin.«reversed.__next__»
 refine wpAny_bind (wpAny_of_eq (a:=(Value.ref it,[])) rfl ?_)
 try dsimp only
 refine wpAny_bind (wpAny_field x rfl (x:=.str z t) rfl ?_)
 refine wpAny_bind (wpAny_field x rfl (x:=rawInt (-1)) rfl ?_)
 show wpAny _ _ (if (-1:Int) < 0 then _ else _) _ _ s
 rw [if_pos (by decide)]
 refine wpAny_bind (wpAny_rule ?_)
 show wpAny _ _ ((do setField (.ref it) 1 (rawInt (-1)); setField (.ref it) 0 .none)>>=_) _ _ _
 have g1:=Heap.get?_update_self (Obj.mapFields (·.setIfInBounds 1 (rawInt (-1)))) x rfl
 refine wpAny_bind (wpAny_bind (wpAny_setField x rfl (by simp) (wpAny_setField (s:={s with heap:=s.heap.update it (Obj.mapFields (·.setIfInBounds 1 (rawInt (-1))))}) g1 rfl (by simp) ?_)))
 refine wpAny_bind ?_; show wpAny _ _ (newExc (.type "StopIteration") []>>=_) _ _ _; refine wpAny_bind ?_
 simp only [newExc,newTuple]; refine wpAny_bind (wpAny_newObj_type ?_ (by size_fits)); refine wpAny_bind (m:=firstArgMember _ _) (wpAny_of_eq (a:=Value.none) (by first | rfl | (simp only [firstArgMember]; rfl)) ?_)
 refine wpAny_newObj_type ?_ (by size_fits); simp only [raiseNew]; refine wpAny_bind (wpAny_handled ?_)
 rw [show A.in1.handled=none from hh]; refine wpAny_bind (wpAny_pure (wpAny_throw ?_))
 refine wpAny_bind (wpAny_isInstance (T:="StopIteration") (b:=true) ⟨_,Heap.get?_push_size _ rfl,rfl⟩ isSubtype_stop ?_)
 refine wpAny_pure (hQ _ ?_)
 intro b o hb e
 exact Heap.get?_push_of_some _ (Heap.get?_push_of_some _ ((Heap.get?_update_other _ _ (Ne.symm hb)).trans ((Heap.get?_update_other _ _ (Ne.symm hb)).trans e)))
end
def ItRS (z:Str):It:=⟨fun i _=>i < z.cps.size,fun i H x H'=>H'=H/\∃ c,z.cps[z.cps.size - 1 - i]?=some c/\x=.str ⟨#[c]⟩,fun i _=>z.cps.size<=i⟩
theorem jgt {P:Program} {w:World} {K:PySem.W.Frag} {x:Str} {px:Pos} (z:Str) (t:Tok) (it:Addr) (hz:z.length<=sizeLine):Turn P w K (.Name x px) (ItRS z) [it] it (fun i h=>i<=z.cps.size/\jnw h it z t ((z.cps.size:Int) - 1 - (i:Int))) where
 mem:=by simp
 obj:=fun i h st b hb=>by
  obtain rfl:b=it:=by simpa using hb
  exact ⟨_,st.2,fun v z=>by
   have y:Data.fields _=Data.cell v:=z
   cases y⟩
 keep:=fun i h h' st k=>⟨st.1,k it (by simp) _ st.2⟩
 item:=by
  intro X hP hw hK hc i pins s σ H E I hf st hg
  subst hP hw hK
  obtain ⟨f0,f1,f2,f3,f4,f5⟩:=hf it (by simp)
  have hi:i < z.cps.size:=hg
  have hk:z.cps.size - 1 - i < z.cps.size:=by omega
  have e:(z.cps.size:Int) - 1 - (i:Int)=((z.cps.size - 1 - i:Nat):Int):=by omega
  have st':=st.2
  rw [e] at st'
  refine jny st' (Array.getElem?_eq_getElem hk) hz fun h' tk u hit' sb=>?_
  have e2:((z.cps.size - 1 - i:Nat):Int) - 1=(z.cps.size:Int) - 1 - ((i+1:Nat):Int):=by omega
  rw [e2] at hit'
  have J:Inv X pins σ H {s with heap:=h',toks:=tk}:=I.turned (fun b o hb e=>(sb.2 b hb).trans e) f0 f1 f3 f4 f5
  exact ⟨_,rfl,wpAny_pure ⟨.str ⟨#[z.cps[z.cps.size - 1 - i]]⟩,H,J,⟨u,rfl⟩,⟨rfl,_,Array.getElem?_eq_getElem hk,rfl⟩,⟨hi,hit'⟩,fun b hb=>(hf b hb).1⟩⟩
 done:=by
  intro X hP hw hK hc i pins s σ H E I hf st hg
  subst hP hw hK
  obtain ⟨f0,f1,f2,f3,f4,f5⟩:=hf it (by simp)
  have e:(z.cps.size:Int) - 1 - (i:Int)=-1:=by have:=st.1; have:z.cps.size<=i:=hg; omega
  have st':=st.2
  rw [e] at st'
  exact jpf (I.ok.hd hc) st' fun h' eb=>⟨rfl,I.turned (t':=s.toks) (fun b o hb e=>eb b o hb e) f0 f1 f3 f4 f5⟩
 self:=fun _ _ _ _ _ st h=>jjt st.2 h
section
variable {X:Cx} {x:Str} {px:Pos}
def iRevS (ta:TA):TI:=fun σ H R=>ta σ H fun vs H1=>∃ z,vs=[.str z]/\z.length<=sizeLine/\R (ItRS z) H1
theorem jju {e:Expr} {ta:TA} {p pos:Pos} (hg:Gl X "reversed") (hm:X.mg "reversed"=none) (ha:PA X [e] ta) (hs:starEach [e] X.env=[(false,eval e X.env)]:=by rfl):PI X (.Name x px) (.Call (.Name "reversed" p) [e] [] pos) (iRevS ta):=by
 intro pins s σ H R I h
 refine Call_ (ld_blt I hg hm boot_reversed (PyProof.Rows.callWith_type1 (thn (ha pos pins s σ H _ I h) fun us s1 ⟨vs,H1,I1,r1,q1⟩=>?_) hs rfl))
 obtain ⟨z,ev,hz,q⟩:=q1
 subst ev
 cases r1 with
 | cons r rr =>
  cases rr
  obtain ⟨t,rfl⟩:=r
  refine jnx hz fun tk=>?_
  have st:jnw (s1.heap.push (jjs z t ((z.length:Int) - 1))) s1.heap.objs.size z t ((z.cps.size:Int) - 1 - ((0:Nat):Int)):=by
   have e0:(z.cps.size:Int) - 1 - ((0:Nat):Int)=(z.length:Int) - 1:=by show _ - 1 - 0=_; rw [Int.sub_zero]; rfl
   rw [e0]
   exact Heap.get?_push_size _ rfl
  refine jjt (s:={s1 with heap:=s1.heap.push (jjs z t ((z.length:Int) - 1)),toks:=tk}) st ?_
  refine ⟨s1.heap.objs.size,[s1.heap.objs.size],_,_,H1,rfl,I1.kept (t':=tk) fun b o e=>Heap.get?_push_of_some _ e,jgt z t _ hz,⟨Nat.zero_le _,st⟩,fun b hb=>?_,q⟩
  obtain rfl:b=s1.heap.objs.size:=by simpa using hb
  exact I1.fpOk (Nat.le_refl _) (I1.hok.fresh (Nat.le_refl _))
end
theorem jif {z:Str} {g:TG} {tb:TS} {D:Ends} {σ:St} {H:Hp} (Pv:Nat->St->Hp->Prop) (h0:Pv 0 σ H)
  (hs:∀ i c σ H,i < z.cps.size->z.cps[z.cps.size - 1 - i]?=some c->Pv i σ H->g (.str ⟨#[c]⟩) σ H fun σ2 H2=>tb {D with nx:=Pv (i+1),ct:=Pv (i+1),bk:=D.nx} σ2 H2) (hd:∀ σ H,Pv z.cps.size σ H->D.nx σ H) :
  ∃ W:Nat->Nat->St->Hp->Prop,(∃ m,W 0 m σ H)/\∀ i m σ H,W i m σ H ->
   ((ItRS z).stop i H/\D.nx σ H)\/((ItRS z).go i H/\∃ N:St->Hp->Prop,(∀ σ' H',N σ' H'->∃ m',m' < m/\W (i+1) m' σ' H')/\∀ x H',(ItRS z).yld i H x H'->g x σ H' fun σ2 H2=>tb {D with nx:=N,ct:=N,bk:=D.nx} σ2 H2):=by
 refine ⟨fun i m σ H=>m=z.cps.size - i/\i<=z.cps.size/\Pv i σ H,⟨z.cps.size,by simp,Nat.zero_le _,h0⟩,?_⟩
 rintro i m σ H ⟨rfl,hi,p⟩
 by_cases hlt:i < z.cps.size
 ·refine .inr ⟨hlt,Pv (i+1),fun σ' H' p'=>⟨z.cps.size - (i+1),by omega,rfl,hlt,p'⟩,fun x H' y=>?_⟩
  obtain ⟨e,c,hc,y⟩:=y
  subst e y
  exact hs i c σ _ hlt hc p
 ·obtain rfl:i=z.cps.size:=by omega
  exact .inl ⟨Nat.le_refl _,hd σ H p⟩
section
variable {X:Cx} {pins:List (Addr×Obj)} {σ:St} {H:Hp} {s:Shared} {h':Heap}
theorem Inv.turnLay {t':Nat} {fp:List Addr} {T:Addr} {o:HO} (I:Inv X pins σ H s) (hf:∀ b∈fp,jgg X pins H b) (k:∀ b u,b∉fp->s.heap.get? b=some u->h'.get? b=some u)
  (th:∀ b∈fp,∃ u,h'.get? b=some u) (hT:s.heap.objs.size<=T) (new:ObjOk X.prog X.w (upd H T o) h' T o):Inv X pins σ (upd H T o) {s with heap:=h',toks:=t'}:=by
 have ne:∀ b u,s.heap.get? b=some u->b≠T:=fun b u e z=>by
  have:=Heap.lt_size e; rw [z] at this; exact absurd (Nat.lt_of_lt_of_le this hT) (Nat.lt_irrefl _)
 have neH:∀ b u,H b=some u->b≠T:=fun b u e z=>by
  have:=(I.hok b u e).lt; rw [z] at this; exact absurd (Nat.lt_of_lt_of_le this hT) (Nat.lt_irrefl _)
 have nfp:∀ b u,H b=some u->b∉fp:=fun b u e z=>by rw [(hf b z).1] at e; cases e
 refine I.step (g':=s.gens) (d':=s.drawn) (ch:=fp) (fun b hb=>?_) (fun b o _ _ hc e _=>k b o hc e) (fun b o _ _ hc e _=>⟨o.slots,k b o hc e⟩) (fun b u _ e n=>by rw [upd_ne (ne b u e)]; exact n)
  (fun b o hc e=>⟨o,k b o hc e⟩) (fun b xs e=>by rw [upd_ne (neH b _ e)]; exact e) (fun b x y e=>by rw [upd_ne (neH b _ e)]; exact e) (fun b ps e=>⟨#[],by rw [upd_ne (neH b _ e),e]; simp⟩) (fun m hm=>?_) (fun b u e=>?_) I.bare
 ·obtain ⟨f0,f1,f2,f3,f4,f5⟩:=hf b hb
  exact ⟨f3,f1,f4,f5⟩
 ·obtain ⟨o,es,ep,ho,r⟩:=hm
  exact ⟨o,es,ep,k _ o (fun z=>(hf _ z).2.1 rfl) ho,r⟩
 ·by_cases hb:b=T
  ·subst hb
   rw [jab] at e; cases e
   exact new
  ·rw [upd_ne hb] at e
   refine (I.hok b u e).stay (fun c v hc q=>k c v ?_ q) (fun c q=>by rw [upd_ne (neH c _ q)]; exact q) fun c _ q=>by rw [upd_ne (neH c _ q)]; exact q
   rcases hc with z | z
   ·rw [z]; exact nfp b u e
   ·exact nfp c _ z
theorem Inv.turnedL {t':Nat} {fp:List Addr} (I:Inv X pins σ H s) (hf:∀ b∈fp,jgg X pins H b) (k:∀ b u,b∉fp->s.heap.get? b=some u->h'.get? b=some u):Inv X pins σ H {s with heap:=h',toks:=t'}:=by
 have nfp:∀ b u,H b=some u->b∉fp:=fun b u e z=>by rw [(hf b z).1] at e; cases e
 refine I.step (g':=s.gens) (d':=s.drawn) (ch:=fp) (fun b hb=>?_) (fun b o _ _ hc e _=>k b o hc e) (fun b o _ _ hc e _=>⟨o.slots,k b o hc e⟩) (fun _ _ _ _ n=>n)
  (fun b o hc e=>⟨o,k b o hc e⟩) (fun _ _ e=>e) (fun _ _ _ e=>e) (fun b ps e=>⟨#[],by rw [e]; simp⟩) (fun m hm=>?_) (fun b u e=>?_) I.bare
 ·obtain ⟨f0,f1,f2,f3,f4,f5⟩:=hf b hb
  exact ⟨f3,f1,f4,f5⟩
 ·obtain ⟨o,es,ep,ho,r⟩:=hm
  exact ⟨o,es,ep,k _ o (fun z=>(hf _ z).2.1 rfl) ho,r⟩
 ·refine (I.hok b u e).stay (fun c v hc q=>k c v ?_ q) (fun _ q=>q) fun _ _ q=>q
  rcases hc with z | z
  ·rw [z]; exact nfp b u e
  ·exact nfp c _ z
end
def jpg (z:Str):It:=⟨fun i _=>i < z.cps.size,fun i H x H'=>∃ T c,H T=none/\z.cps[i]?=some c/\x=.ref T/\H'=upd H T (.tup [.int i,.str ⟨#[c]⟩]),fun i _=>z.cps.size<=i⟩
theorem jjv {P:Program} {w:World} {K:PySem.W.Frag} {elts:List Expr} {k:Nat} {pt:Pos} {ty:String} (z:Str) (t:Tok) (e it:Addr) (hne:e≠it)
  (W:∀ A:Around,A.handled=none->Draws P w A it [it] z.cps.size (fun i v=>∃ c u,z.cps[i]?=some c/\v=.str ⟨#[c]⟩ u) (fun i h=>h.IsStrIter it ty z t i)) :
  Turn P w K (.Tuple elts k pt) (jpg z) [e,it] e (fun i h=>i<=z.cps.size/\(∃ old,IsEnum h e it (i:Int) old)/\h.IsStrIter it ty z t i) where
 mem:=by simp
 obj:=fun i h st b hb=>by
  obtain ⟨_,⟨old,se⟩,o,ho,hc,hd⟩:=st
  have hb':b=e\/b=it:=by simpa using hb
  rcases hb' with rfl | rfl
  ·exact ⟨_,se,fun v z=>by
    have y:Data.fields _=Data.cell v:=z
    cases y⟩
  ·exact ⟨o,ho,fun v z=>by rw [hd] at z; cases z⟩
 keep:=fun i h h' st k=>by
  obtain ⟨hi,⟨old,se⟩,o,ho,r⟩:=st
  exact ⟨hi,⟨old,k e (by simp) _ se⟩,o,k it (by simp) o ho,r⟩
 item:=by
  intro X hP hw hK hc i pins s σ H E I hf st hg
  subst hP hw hK
  have hi:i < z.cps.size:=hg
  have WT:=(WalksT.enumerateD (A:=X.A) (W X.A.in1 (I.ok.hd hc)) e hne (by simpa using hne) (by simp))
  refine WT.item i s _ _ hi st.2 fun T vals h1 tk hP hT hTup mid kk=>?_
  refine ⟨_,rfl,WT.go elts k pt i T _ _ _ mid fun h2 st2 kk2=>?_⟩
  obtain ⟨t1,x,⟨c,u,hcu,rfl⟩,rfl⟩:=hP
  have hTn:T∉[e,it]:=WT.apart i T h1 mid
  have hTup2:IsTup h2 T #[Value.int (i:Int) t1,.str ⟨#[c]⟩ u]:=by
   obtain ⟨o,ho,hcl,n,hd⟩:=hTup
   exact ⟨o,kk2 T o hTn ho,hcl,n,hd⟩
  have hfT:H T=none:=I.hok.fresh hT
  obtain ⟨⟨old,se⟩,so⟩:=id st2
  have J:Inv X pins σ (upd H T (.tup [.int i,.str ⟨#[c]⟩])) {s with heap:=h2,toks:=tk}:=by
   refine I.turnLay hf (fun b o hb eo=>kk2 b o hb (kk b o hb eo)) (fun b hb=>?_) hT ⟨show (2:Nat)<=_ by unfold sizeLine; decide,[Value.int (i:Int) t1,.str ⟨#[c]⟩ u],?_,hTup2⟩
   ·have hb':b=e\/b=it:=by simpa using hb
    rcases hb' with rfl | rfl
    ·exact ⟨_,se⟩
    ·obtain ⟨o,ho,_⟩:=so; exact ⟨o,ho⟩
   ·exact .cons ⟨_,rfl⟩ (.cons ⟨_,rfl⟩ .nil)
  refine ⟨.ref T,_,J,rfl,⟨T,c,hfT,hcu,rfl,rfl⟩,⟨hi,st2⟩,fun b hb=>?_⟩
  have nb:b≠T:=fun z=>hTn (by rw [<- z]; exact hb)
  rw [upd_ne nb]
  exact (hf b hb).1
 done:=by
  intro X hP hw hK hc i pins s σ H E I hf st hg
  subst hP hw hK
  have hi:i=z.cps.size:=Nat.le_antisymm st.1 hg
  have WT:=(WalksT.enumerateD (A:=X.A) (W X.A.in1 (I.ok.hd hc)) e hne (by simpa using hne) (by simp))
  refine WT.done s _ _ (hi▸st.2) fun h' tk kk=>?_
  exact ⟨rfl,I.turnedL hf fun b o hb eo=>kk b o hb eo⟩
 self:=fun A i s Q E st h=>by
  obtain ⟨_,⟨old,se⟩,_⟩:=st
  exact wpAny_pyIter_enum se h
section
variable {X:Cx}
def iEnS (ta:TA):TI:=fun σ H R=>ta σ H fun vs H1=>∃ z,vs=[.str z]/\R (jpg z) H1
theorem jig {x:Expr} {ta:TA} {p pos:Pos} {elts:List Expr} {k:Nat} {pt:Pos} (hg:Gl X "enumerate") (hm:X.mg "enumerate"=none) (ha:PA X [x] ta) (hs:starEach [x] X.env=[(false,eval x X.env)]:=by rfl) :
  PI X (.Tuple elts k pt) (.Call (.Name "enumerate" p) [x] [] pos) (iEnS ta):=by
 intro pins s σ H R I h
 refine Call_ (ld_blt I hg hm boot_enumerate (PyProof.Rows.callWith_type1 (thn (ha pos pins s σ H _ I h) fun us s1 ⟨vs,H1,I1,r1,q1⟩=>?_) hs rfl))
 obtain ⟨z,ev,q⟩:=q1
 subst ev
 cases r1 with
 | cons r rr =>
  cases rr
  obtain ⟨t,rfl⟩:=r
  refine call_enumerate_str fun h' he hi hsz kk=>?_
  refine wpAny_pyIter_enum (s:={s1 with heap:=h'}) he ?_
  have J:Inv X pins σ H1 {s1 with heap:=h'}:=I1.kept (t':=s1.toks) kk
  have fin:(∀ A:Around,A.handled=none->Draws X.prog X.w A s1.heap.objs.size [s1.heap.objs.size] z.cps.size (fun i v=>∃ c u,z.cps[i]?=some c/\v=.str ⟨#[c]⟩ u) (fun i h=>h.IsStrIter s1.heap.objs.size (strIterType z) z t i)):=by
   intro A hA
   unfold strIterType
   cases z.cps.all (· < 128)
   ·exact Draws.strWide hA _ z t
   ·exact Draws.strAscii hA _ z t
  refine ⟨s1.heap.objs.size+1,[s1.heap.objs.size+1,s1.heap.objs.size],_,_,H1,rfl,J,jjv (ty:=strIterType z) z t (s1.heap.objs.size+1) s1.heap.objs.size (Nat.succ_ne_self _) fin,⟨Nat.zero_le _,⟨_,he⟩,hi⟩,fun b hb=>?_,q⟩
  have hb':b=s1.heap.objs.size+1\/b=s1.heap.objs.size:=by simpa using hb
  rcases hb' with rfl | rfl
  ·exact I1.fpOk (Nat.le_succ _) (I1.hok.fresh (Nat.le_succ _))
  ·exact I1.fpOk (Nat.le_refl _) (I1.hok.fresh (Nat.le_refl _))
end
theorem jgu {z:Str} {g:TG} {tb:TS} {D:Ends} {σ:St} {H:Hp} (Pv:Nat->St->Hp->Prop) (h0:Pv 0 σ H)
  (hs:∀ i c T σ H,z.cps[i]?=some c->H T=none->Pv i σ H->g (.ref T) σ (upd H T (.tup [.int i,.str ⟨#[c]⟩])) fun σ2 H2=>tb {D with nx:=Pv (i+1),ct:=Pv (i+1),bk:=D.nx} σ2 H2) (hd:∀ σ H,Pv z.cps.size σ H->D.nx σ H) :
  ∃ W:Nat->Nat->St->Hp->Prop,(∃ m,W 0 m σ H)/\∀ i m σ H,W i m σ H ->
   ((jpg z).stop i H/\D.nx σ H)\/((jpg z).go i H/\∃ N:St->Hp->Prop,(∀ σ' H',N σ' H'->∃ m',m' < m/\W (i+1) m' σ' H')/\∀ x H',(jpg z).yld i H x H'->g x σ H' fun σ2 H2=>tb {D with nx:=N,ct:=N,bk:=D.nx} σ2 H2):=by
 refine ⟨fun i m σ H=>m=z.cps.size - i/\i<=z.cps.size/\Pv i σ H,⟨z.cps.size,by simp,Nat.zero_le _,h0⟩,?_⟩
 rintro i m σ H ⟨rfl,hi,p⟩
 by_cases hlt:i < z.cps.size
 ·refine .inr ⟨hlt,Pv (i+1),fun σ' H' p'=>⟨z.cps.size - (i+1),by omega,rfl,hlt,p'⟩,fun x H' y=>?_⟩
  obtain ⟨T,c,hT,hc,rfl,rfl⟩:=y
  exact hs i c T σ H hc hT p
 ·obtain rfl:i=z.cps.size:=by omega
  exact .inl ⟨Nat.le_refl _,hd σ H p⟩
def rSlS:V->Option Int->Option Int->Hp->VK->Prop:=fun x lo hi H Q=>∃ (z:Str) (a b:Nat),x=.str z/\lo=some (a:Int)/\hi=some (b:Int)/\a<=b/\b<=z.length/\z.length<=sizeLine/\Q (.str ⟨((z.cps.toList.drop a).take (b - a)).toArray⟩) H
theorem ssi {a b n:Nat} (h1:a<=b) (h2:b<=n):Builtin.Str.strSliceIndices (some (a:Int)) (some (b:Int)) 1 n=(List.range (b - a)).map (a+·):=by
 unfold Builtin.Str.strSliceIndices
 have e1:¬ (a:Int) < 0:=by omega
 have e2:¬ (b:Int) < 0:=by omega
 simp only [show (1:Int) > 0 by decide,if_true,e1,e2,if_false]
 rw [show max 0 (min (a:Int) (n:Int))=(a:Int) by omega,show max 0 (min (b:Int) (n:Int))=(b:Int) by omega]
 exact sliceRange_one a b
theorem jph {X:Cx}:SlR X rSlS:=by
 intro pins s σ H x v vl vu lo hi sl Q I rx hs pl pu h
 obtain ⟨z,a,b,rfl,rfl,rfl,h1,h2,hz,q⟩:=h
 obtain ⟨t,rfl⟩:=rx
 refine ⟨"str",_,slot_str_getitem.lookup,typeIs_str s z t,?_⟩
 cases pl with
 | int _ t1 =>
 cases pu with
 | int _ t2 =>
 refine wpAny_getItem_str_slice (l:=some ((a:Int),t1)) (u:=some ((b:Int),t2)) (st:=none) hs (by decide) ?_
 have e:slicePicked z (some ((a:Int),t1)) (some ((b:Int),t2)) none=(List.range (b - a)).map (a+·):=ssi h1 h2
 unfold sliceMade
 rw [e,pick_run]
 split
 ·rename_i hc
  have hl:b - a=z.length:=by simpa using hc
  have e0:a=0:=by omega
  have eb:b=z.cps.size:=by have:z.length=z.cps.size:=rfl; omega
  have ez:(⟨((z.cps.toList.drop a).take (b - a)).toArray⟩:Str)=z:=by
   subst e0 eb
   have:((z.cps.toList.drop 0).take (z.cps.size - 0)).toArray=z.cps:=by
    rw [List.drop_zero,Nat.sub_zero,<- Array.length_toList,List.take_length]
   rw [this]
  rw [ez] at q
  simp only [Made.post]
  exact ⟨.str z,H,I,⟨t,rfl⟩,q⟩
 ·simp only [Made.post]
  refine ⟨Nat.le_trans ?_ hz,.str _,H,I.tok _,⟨_,rfl⟩,q⟩
  show (((z.cps.toList.drop a).take (b - a)).toArray).size<=z.cps.size
  rw [List.size_toArray,List.length_take,List.length_drop,Array.length_toList]
  omega
theorem jdQ (x y:Nat):Builtin.bitOr (x:Int) (y:Int)=((x ||| y:Nat):Int):=by
 unfold Builtin.bitOr Builtin.bitAnd Builtin.bitNot
 have e1:decide (0<=-(x:Int) - 1)=false:=decide_eq_false (by omega)
 have e2:decide (0<=-(y:Int) - 1)=false:=decide_eq_false (by omega)
 simp only [e1,e2]
 have e3:(-(-(x:Int) - 1) - 1).toNat=x:=by omega
 have e4:(-(-(y:Int) - 1) - 1).toNat=y:=by omega
 rw [e3,e4]
 omega
theorem jeu (x y:Nat):Builtin.bitAnd (x:Int) (y:Int)=((x &&& y:Nat):Int):=by
 unfold Builtin.bitAnd
 have e1:decide (0<=(x:Int))=true:=decide_eq_true (by omega)
 have e2:decide (0<=(y:Int))=true:=decide_eq_true (by omega)
 simp only [e1,e2]
 rfl
theorem jjw (p:Nat):(1:Int) * 2 ^ ((p:Int)).toNat=((2 ^ p:Nat):Int):=by
 rw [Int.one_mul,Int.toNat_natCast,Int.natCast_pow]; rfl
theorem jjx (x p:Nat):(x:Int) / 2 ^ ((p:Int)).toNat=((x >>> p:Nat):Int):=by
 rw [Int.toNat_natCast,Nat.shiftRight_eq_div_pow,Int.natCast_ediv,Int.natCast_pow]; rfl
section
variable {X:Cx}
end
def jpi:R2:=fun x y H Q=>∃ (z:Str) (b:Bool),x=.str z/\y=.int (if b then 1 else 0)/\Q (.str (if b then z else Str.empty)) H
theorem jlo {X:Cx}:OpR X (binaryOp .Mult) jpi:=by
 intro pins s σ H x y v u Q I rx ry h
 obtain ⟨z,b,rfl,rfl,q⟩:=h
 obtain ⟨t,rfl⟩:=rx
 obtain ⟨t',rfl⟩:=ry
 cases b with
 | true =>
  refine PySem.P.mul_str (n:=1) (by decide) (fun _ h=>?_) (fun _ h=>?_) ?_
  ·exact absurd h (by rw [show ((1:Int)==1)=true from rfl,Bool.true_or]; decide)
  ·exact absurd h (by rw [show ((1:Int)==1)=true from rfl,Bool.true_or]; decide)
  ·rw [if_neg (by decide),if_pos (by rw [show ((1:Int)==1)=true from rfl,Bool.true_or])]
   simp only [Made.post]
   exact ⟨.str z,H,I,⟨t,rfl⟩,q⟩
 | false =>
  refine PySem.P.mul_str (n:=0) (by decide) (fun h _=>absurd (by decide) h) (fun h _=>absurd (by decide) h) ?_
  rw [if_pos (by decide)]
  simp only [Made.post]
  exact ⟨Nat.zero_le _,.str Str.empty,H,I.tok _,⟨_,rfl⟩,q⟩
def rSlG:V->Option Int->Option Int->Hp->VK->Prop:=fun x lo hi H Q=>∃ (z:Str) (a b:Option Nat),x=.str z/\lo=a.map Int.ofNat/\hi=b.map Int.ofNat/\z.length<=sizeLine/\Q (.str ⟨((z.cps.toList.drop (a.getD 0)).take (b.getD z.length - a.getD 0)).toArray⟩) H
theorem ssg (a b:Option Nat) (n:Nat):Builtin.Str.strSliceIndices (a.map Int.ofNat) (b.map Int.ofNat) 1 n=(List.range (min (b.getD n) n - min (a.getD 0) n)).map (min (a.getD 0) n+·):=by
 unfold Builtin.Str.strSliceIndices
 have hp:(1:Int) > 0:=by decide
 have cl:∀ i:Nat,max 0 (min (if Int.ofNat i < 0 then Int.ofNat i+(n:Int) else Int.ofNat i) (n:Int))=((min i n:Nat):Int):=fun i=>by
  have e1:¬ (Int.ofNat i < 0):=by simp
  rw [if_neg e1]
  simp only [Int.ofNat_eq_natCast]
  omega
 simp only [hp,if_true]
 cases a with
 | none =>
  cases b with
  | none =>
   have:=sliceRange_one 0 n
   simpa using this
  | some j =>
   simp only [Option.map_some,Option.map_none,Option.getD_some,Option.getD_none,cl]
   have:=sliceRange_one 0 (min j n)
   simpa using this
 | some i =>
  cases b with
  | none =>
   simp only [Option.map_some,Option.map_none,Option.getD_some,Option.getD_none,cl]
   have:=sliceRange_one (min i n) n
   simpa using this
  | some j =>
   simp only [Option.map_some,Option.getD_some,cl]
   exact sliceRange_one (min i n) (min j n)
theorem jjy {l:List Nat} {a b n:Nat} (h:l.length=n):(l.drop (min a n)).take (min b n - min a n)=(l.drop a).take (b - a):=by
 by_cases h1:a<=n
 ·rw [Nat.min_eq_left h1]
  by_cases h2:b<=n
  ·rw [Nat.min_eq_left h2]
  ·rw [Nat.min_eq_right (by omega),List.take_of_length_le (by rw [List.length_drop]; omega),List.take_of_length_le (by rw [List.length_drop]; omega)]
 ·rw [Nat.min_eq_right (a:=a) (by omega),<- h,List.drop_length,List.take_nil,List.drop_eq_nil_of_le (by omega),List.take_nil]
theorem jcg {X:Cx}:SlR X rSlG:=by
 intro pins s σ H x v vl vu lo hi sl Q I rx hs pl pu h
 obtain ⟨z,a,b,rfl,rfl,rfl,hz,q⟩:=h
 obtain ⟨t,rfl⟩:=rx
 refine ⟨"str",_,slot_str_getitem.lookup,typeIs_str s z t,?_⟩
 obtain ⟨l,hl,hl'⟩:∃ l:Option (Int×Tok),vl=partValue l/\l.map (·.1)=a.map Int.ofNat:=by
  cases a with
  | none=>cases pl; exact ⟨none,rfl,rfl⟩
  | some i=>cases pl with | int _ t1=>exact ⟨some (_,t1),rfl,rfl⟩
 obtain ⟨u,hu,hu'⟩:∃ l:Option (Int×Tok),vu=partValue l/\l.map (·.1)=b.map Int.ofNat:=by
  cases b with
  | none=>cases pu; exact ⟨none,rfl,rfl⟩
  | some i=>cases pu with | int _ t1=>exact ⟨some (_,t1),rfl,rfl⟩
 subst hl hu
 refine wpAny_getItem_str_slice (l:=l) (u:=u) (st:=none) hs (by decide) ?_
 have e:slicePicked z l u none=(List.range (min (b.getD z.length) z.length - min (a.getD 0) z.length)).map (min (a.getD 0) z.length+·):=by
  unfold slicePicked
  rw [hl',hu']
  exact ssg a b z.length
 have hlen:z.cps.toList.length=z.length:=Array.length_toList
 unfold sliceMade
 rw [e,pick_run,jjy hlen]
 split
 ·rename_i hc
  have hl:min (b.getD z.length) z.length - min (a.getD 0) z.length=z.length:=by simpa using hc
  have ez:(⟨((z.cps.toList.drop (a.getD 0)).take (b.getD z.length - a.getD 0)).toArray⟩:Str)=z:=by
   rw [<- jjy hlen,hl]
   by_cases h0:z.length=0
   ·have:z.cps.toList=[]:=List.length_eq_zero_iff.mp (by omega)
    rw [this,List.drop_nil,List.take_nil]
    have hz0:z.cps=#[]:=by rw [<- Array.toList_eq_nil_iff]; exact this
    have:z=⟨z.cps⟩:=rfl
    rw [this,hz0]
   ·have e0:min (a.getD 0) z.length=0:=by omega
    rw [e0,List.drop_zero,<- hlen,List.take_length]
  rw [ez] at q
  simp only [Made.post]
  exact ⟨.str z,H,I,⟨t,rfl⟩,q⟩
 ·simp only [Made.post]
  refine ⟨Nat.le_trans ?_ hz,.str _,H,I.tok _,⟨_,rfl⟩,q⟩
  show (((z.cps.toList.drop (a.getD 0)).take (b.getD z.length - a.getD 0)).toArray).size<=z.cps.size
  rw [List.size_toArray,List.length_take,List.length_drop,Array.length_toList]
  omega
theorem cutTo {xs:List V} {k:Nat}:jga xs none (some (k:Int))=xs.take k:=by
 unfold jga
 rw [HT.sIx_none,HT.sIx_nat,List.drop_zero,Nat.sub_zero]
 by_cases h:k<=xs.length
 ·rw [Nat.min_eq_left h]
 ·rw [Nat.min_eq_right (by omega),List.take_length,List.take_of_length_le (by omega)]
theorem jdp {X:Cx}:jcK X (.type "dict") (fun xs H Q=>∃ p kvs,xs=[.ref p]/\Rd H p (.dK kvs)/\∀ l,H l=none->Q (.ref l) (upd H l (.dK kvs))):=by
 intro pins s σ H xs us Q I r h
 obtain ⟨p,kvs,rfl,hq,q⟩:=h
 obtain ⟨u,rfl,rx⟩:=jdG r
 cases rx
 exact jkX I hq fun l s' hl I'=>⟨.ref l,_,I',rfl,q l hl⟩
def jnz:V->List V->Hp->VK->Prop:=fun x vs H Q=>∃ l kvs,x=.ref l/\vs=[]/\H l=some (.dK kvs)/\Q .non (upd H l (.dK []))
theorem jdR {X:Cx}:MtR X "dict.clear" jnz:=by
 intro pins s σ H x vs v us Q I rx rv h
 obtain ⟨l,kvs,rfl,rfl,hH,q⟩:=h
 cases rx
 have hus:=rv.zero
 subst hus
 exact jnc I hH fun s' I'=>⟨.non,_,I',rfl,q⟩
end L2
namespace Lf
open PySem L2
def top (i:Nat):Stmt:=PySem.Challenge.pw_letterform_k07_read_or_refused.main.body.getD i (.Pass ⟨0,0,0,0⟩)
abbrev jdB:Stmt:=top 15
abbrev jdC:Stmt:=top 16
abbrev jgv:Stmt:=top 17
abbrev jgw:Stmt:=top 18
abbrev jnA:Stmt:=top 19
abbrev jcs:Stmt:=top 20
abbrev jcD:Stmt:=top 21
abbrev jeI:Stmt:=top 25
abbrev jdS:Stmt:=top 26
abbrev jeJ:Stmt:=top 27
abbrev jdT:Stmt:=top 28
abbrev jeK:Stmt:=top 29
abbrev jcR:Stmt:=top 32
abbrev jnB:Stmt:=top 33
abbrev jbE:Stmt:=top 34
abbrev jbF:Stmt:=top 35
abbrev jch:Stmt:=top 36
abbrev jdU:Stmt:=top 37
abbrev jbQ:Stmt:=top 38
abbrev jbR:Stmt:=top 39
abbrev jeL:Stmt:=top 40
abbrev jdg:Stmt:=top 42
abbrev jeM:Stmt:=top 43
abbrev jci:Stmt:=top 44
abbrev jdV:Stmt:=top 45
abbrev jgx:Stmt:=top 46
abbrev jdW:Stmt:=top 47
abbrev jdX:Stmt:=top 48
abbrev jdh:Stmt:=top 49
abbrev jgy:Stmt:=top 50
abbrev jeN:Stmt:=top 51
abbrev jgz:Stmt:=top 52
abbrev jct:Stmt:=top 53
abbrev jeO:Stmt:=top 54
abbrev jbS:Stmt:=top 55
abbrev jbT:Stmt:=top 56
abbrev jbs:Stmt:=top 57
abbrev jbt:Stmt:=top 58
abbrev jbo:Stmt:=top 59
abbrev jdY:Stmt:=top 60
abbrev jeP:Stmt:=top 61
abbrev jdZ:Stmt:=top 62
abbrev sLaw:Stmt:=top 63
abbrev jea:Stmt:=jbq (top 5) 0
abbrev jhj:Stmt:=jbq (top 11) 0
abbrev jnC:Stmt:=jbq (top 12) 0
abbrev jnD:Stmt:=jbq (top 13) 0
abbrev jjz:Stmt:=jbq (top 14) 0
abbrev jjA:Stmt:=jbq (top 23) 0
abbrev jeQ:Stmt:=jbq (top 24) 0
abbrev jeR:Stmt:=jbq (top 31) 0
abbrev jby:Stmt:=jbq (top 31) 1
abbrev jbG:Stmt:=jbq (top 31) 2
abbrev jbU:Stmt:=jbq (top 31) 3
abbrev jbV:Stmt:=jbq (top 31) 4
set_option genInjectivity false in
set_option genSizeOf false in
structure Adr where
 (aNamesIn aPartsOf aPartOf aCopyOf aNeed aNeedSigns aNeedBounds aStepsOf aAddParts aAddText aAddField aAddRows aReadings aRead aFittingPlaces aPlacesOfSigns aPlacesOfAny aHasPlace aFirstChoices aChoicesAlong aInOrder aLawCellAt aLawDraw aLawSigns aLawSay aLawAsk aLawInner aLawPiece aLawPieces aLawFew aLawWord aLawRow aLawValues aLawLine aLawWritten aLawAskEnds aLawLineReadings aLawRowsReadings aLawReadings aLawAlone aLawText aLawTried aLaw aTwofoldI aFormI aSayI aAskI aRowsI aSignI aChoiceI aTellerI aTellerValuesOf aTellerFieldOf aTellerRowsOf aTellerGoesOn:Addr)
 (dNamesIn dPartsOf dPartOf dCopyOf dNeed dNeedSigns dNeedBounds dStepsOf dAddParts dAddText dAddField dAddRows dReadings dRead dFittingPlaces dPlacesOfSigns dPlacesOfAny dHasPlace dFirstChoices dChoicesAlong dInOrder dLawCellAt dLawDraw dLawSigns dLawSay dLawAsk dLawInner dLawPiece dLawPieces dLawFew dLawWord dLawRow dLawValues dLawLine dLawWritten dLawAskEnds dLawLineReadings dLawRowsReadings dLawReadings dLawAlone dLawText dLawTried dLaw dTwofoldI dFormI dSayI dAskI dRowsI dSignI dChoiceI dTellerI dTellerValuesOf dTellerFieldOf dTellerRowsOf dTellerGoesOn:FuncData)
 (cForm cSay cAsk cRows cSign cChoice cTeller:Addr)
 (cWords cRow cLen:Addr)
 (cFormError cBadForm cBadValue cNoReading cTwofold:Addr)
structure ClsOk (K:PySem.W.Frag) (C:Addr):Prop where
 cl:Cls K C
 ha:PySem.W.findIn K (.ref C) "__class__"=some (some (.builtin "object.__class__"))
 hn:PySem.W.specialIn K (.builtin "object.__class__") "__get__"=some (some (.builtin "getset_descriptor.__get__"))
 ht:PySem.W.takesIn K (.builtin "object.__class__")=some true
 hm:PySem.W.mroIn K C (.type "object")=some true
structure Txt (w:World) (K:PySem.W.Frag) (mg:Str->Option Value) (D:Adr):Prop where
 fNamesIn:Fun K "names_in" "names_in" jdB D.aNamesIn D.dNamesIn
 bNamesIn:Binds K D.dNamesIn ["parts"] []
 mNamesIn:mg "names_in"=some (.ref D.aNamesIn)
 fPartsOf:Fun K "parts_of" "parts_of" jdC D.aPartsOf D.dPartsOf
 bPartsOf:Binds K D.dPartsOf ["pieces","words","most"] []
 mPartsOf:mg "parts_of"=some (.ref D.aPartsOf)
 fPartOf:Fun K "part_of" "part_of" jgv D.aPartOf D.dPartOf
 bPartOf:Binds K D.dPartOf ["piece","words"] []
 mPartOf:mg "part_of"=some (.ref D.aPartOf)
 fCopyOf:Fun K "copy_of" "copy_of" jgw D.aCopyOf D.dCopyOf
 bCopyOf:Binds K D.dCopyOf ["piece"] []
 mCopyOf:mg "copy_of"=some (.ref D.aCopyOf)
 fNeed:Fun K "need" "need" jnA D.aNeed D.dNeed
 bNeed:Binds K D.dNeed ["holds","words"] []
 mNeed:mg "need"=some (.ref D.aNeed)
 fNeedSigns:Fun K "need_signs" "need_signs" jcs D.aNeedSigns D.dNeedSigns
 bNeedSigns:Binds K D.dNeedSigns ["text","least","most","what"] []
 mNeedSigns:mg "need_signs"=some (.ref D.aNeedSigns)
 fNeedBounds:Fun K "need_bounds" "need_bounds" jcD D.aNeedBounds D.dNeedBounds
 bNeedBounds:Binds K D.dNeedBounds ["part","highest"] []
 mNeedBounds:mg "need_bounds"=some (.ref D.aNeedBounds)
 fStepsOf:Fun K "steps_of" "steps_of" jeI D.aStepsOf D.dStepsOf
 bStepsOf:Binds K D.dStepsOf ["form"] []
 mStepsOf:mg "steps_of"=some (.ref D.aStepsOf)
 fAddParts:Fun K "add_parts" "add_parts" jdS D.aAddParts D.dAddParts
 bAddParts:Binds K D.dAddParts ["steps","parts"] []
 mAddParts:mg "add_parts"=some (.ref D.aAddParts)
 fAddText:Fun K "add_text" "add_text" jeJ D.aAddText D.dAddText
 bAddText:Binds K D.dAddText ["steps","text"] []
 mAddText:mg "add_text"=some (.ref D.aAddText)
 fAddField:Fun K "add_field" "add_field" jdT D.aAddField D.dAddField
 bAddField:Binds K D.dAddField ["steps","ask"] []
 mAddField:mg "add_field"=some (.ref D.aAddField)
 fAddRows:Fun K "add_rows" "add_rows" jeK D.aAddRows D.dAddRows
 bAddRows:Binds K D.dAddRows ["steps","rows"] []
 mAddRows:mg "add_rows"=some (.ref D.aAddRows)
 fReadings:∃ dfl,FunD K "readings" "readings" jcR D.aReadings D.dReadings dfl
 bReadings:Binds K D.dReadings ["form","text","most"] []
 eReadings:∃ t0,Binds K D.dReadings ["form","text","most"] [.int 2 t0]
 kpReadings:PySem.W.keepIn K (.ref D.aReadings)=true
 mReadings:mg "readings"=some (.ref D.aReadings)
 fRead:Fun K "read" "read" jnB D.aRead D.dRead
 bRead:Binds K D.dRead ["form","text"] []
 mRead:mg "read"=some (.ref D.aRead)
 fFittingPlaces:Fun K "fitting_places" "fitting_places" jbE D.aFittingPlaces D.dFittingPlaces
 bFittingPlaces:Binds K D.dFittingPlaces ["steps","text"] []
 mFittingPlaces:mg "fitting_places"=some (.ref D.aFittingPlaces)
 fPlacesOfSigns:Fun K "places_of_signs" "places_of_signs" jbF D.aPlacesOfSigns D.dPlacesOfSigns
 bPlacesOfSigns:Binds K D.dPlacesOfSigns ["text"] []
 mPlacesOfSigns:mg "places_of_signs"=some (.ref D.aPlacesOfSigns)
 fPlacesOfAny:Fun K "places_of_any" "places_of_any" jch D.aPlacesOfAny D.dPlacesOfAny
 bPlacesOfAny:Binds K D.dPlacesOfAny ["signs","standing"] []
 mPlacesOfAny:mg "places_of_any"=some (.ref D.aPlacesOfAny)
 fHasPlace:Fun K "has_place" "has_place" jdU D.aHasPlace D.dHasPlace
 bHasPlace:Binds K D.dHasPlace ["places","place"] []
 mHasPlace:mg "has_place"=some (.ref D.aHasPlace)
 fFirstChoices:Fun K "first_choices" "first_choices" jbQ D.aFirstChoices D.dFirstChoices
 bFirstChoices:Binds K D.dFirstChoices ["steps","fits","most"] []
 mFirstChoices:mg "first_choices"=some (.ref D.aFirstChoices)
 fChoicesAlong:Fun K "choices_along" "choices_along" jbR D.aChoicesAlong D.dChoicesAlong
 bChoicesAlong:Binds K D.dChoicesAlong ["steps","fits","way","ways"] []
 mChoicesAlong:mg "choices_along"=some (.ref D.aChoicesAlong)
 fInOrder:Fun K "in_order" "in_order" jeL D.aInOrder D.dInOrder
 bInOrder:Binds K D.dInOrder ["choices"] []
 mInOrder:mg "in_order"=some (.ref D.aInOrder)
 fLawCellAt:Fun K "_law_cell_at" "_law_cell_at" jdg D.aLawCellAt D.dLawCellAt
 bLawCellAt:Binds K D.dLawCellAt ["script","k"] []
 mLawCellAt:mg "_law_cell_at"=some (.ref D.aLawCellAt)
 fLawDraw:Fun K "_law_draw" "_law_draw" jeM D.aLawDraw D.dLawDraw
 bLawDraw:Binds K D.dLawDraw ["script","k"] []
 mLawDraw:mg "_law_draw"=some (.ref D.aLawDraw)
 fLawSigns:Fun K "_law_signs" "_law_signs" jci D.aLawSigns D.dLawSigns
 bLawSigns:Binds K D.dLawSigns ["cell"] []
 mLawSigns:mg "_law_signs"=some (.ref D.aLawSigns)
 fLawSay:Fun K "_law_say" "_law_say" jdV D.aLawSay D.dLawSay
 bLawSay:Binds K D.dLawSay ["cell"] []
 mLawSay:mg "_law_say"=some (.ref D.aLawSay)
 fLawAsk:Fun K "_law_ask" "_law_ask" jgx D.aLawAsk D.dLawAsk
 bLawAsk:Binds K D.dLawAsk ["script","k","name","most"] []
 mLawAsk:mg "_law_ask"=some (.ref D.aLawAsk)
 fLawInner:Fun K "_law_inner" "_law_inner" jdW D.aLawInner D.dLawInner
 bLawInner:Binds K D.dLawInner ["script","k","many","most"] []
 mLawInner:mg "_law_inner"=some (.ref D.aLawInner)
 fLawPiece:Fun K "_law_piece" "_law_piece" jdX D.aLawPiece D.dLawPiece
 bLawPiece:Binds K D.dLawPiece ["script","k","name","most"] []
 mLawPiece:mg "_law_piece"=some (.ref D.aLawPiece)
 fLawPieces:Fun K "_law_pieces" "_law_pieces" jdh D.aLawPieces D.dLawPieces
 bLawPieces:Binds K D.dLawPieces ["script","many","most"] []
 mLawPieces:mg "_law_pieces"=some (.ref D.aLawPieces)
 fLawFew:Fun K "_law_few" "_law_few" jgy D.aLawFew D.dLawFew
 bLawFew:Binds K D.dLawFew ["script"] []
 mLawFew:mg "_law_few"=some (.ref D.aLawFew)
 fLawWord:Fun K "_law_word" "_law_word" jeN D.aLawWord D.dLawWord
 bLawWord:Binds K D.dLawWord ["script","k","piece"] []
 mLawWord:mg "_law_word"=some (.ref D.aLawWord)
 fLawRow:Fun K "_law_row" "_law_row" jgz D.aLawRow D.dLawRow
 bLawRow:Binds K D.dLawRow ["script","k","pieces"] []
 mLawRow:mg "_law_row"=some (.ref D.aLawRow)
 fLawValues:Fun K "_law_values" "_law_values" jct D.aLawValues D.dLawValues
 bLawValues:Binds K D.dLawValues ["script","start","pieces"] []
 mLawValues:mg "_law_values"=some (.ref D.aLawValues)
 fLawLine:Fun K "_law_line" "_law_line" jeO D.aLawLine D.dLawLine
 bLawLine:Binds K D.dLawLine ["pieces","values"] []
 mLawLine:mg "_law_line"=some (.ref D.aLawLine)
 fLawWritten:Fun K "_law_written" "_law_written" jbS D.aLawWritten D.dLawWritten
 bLawWritten:Binds K D.dLawWritten ["pieces","values"] []
 mLawWritten:mg "_law_written"=some (.ref D.aLawWritten)
 fLawAskEnds:Fun K "_law_ask_ends" "_law_ask_ends" jbT D.aLawAskEnds D.dLawAskEnds
 bLawAskEnds:Binds K D.dLawAskEnds ["piece","text","at"] []
 mLawAskEnds:mg "_law_ask_ends"=some (.ref D.aLawAskEnds)
 fLawLineReadings:Fun K "_law_line_readings" "_law_line_readings" jbs D.aLawLineReadings D.dLawLineReadings
 bLawLineReadings:Binds K D.dLawLineReadings ["pieces","text","at"] []
 mLawLineReadings:mg "_law_line_readings"=some (.ref D.aLawLineReadings)
 fLawRowsReadings:Fun K "_law_rows_readings" "_law_rows_readings" jbt D.aLawRowsReadings D.dLawRowsReadings
 bLawRowsReadings:Binds K D.dLawRowsReadings ["piece","text","at","count"] []
 mLawRowsReadings:mg "_law_rows_readings"=some (.ref D.aLawRowsReadings)
 fLawReadings:Fun K "_law_readings" "_law_readings" jbo D.aLawReadings D.dLawReadings
 bLawReadings:Binds K D.dLawReadings ["pieces","text"] []
 mLawReadings:mg "_law_readings"=some (.ref D.aLawReadings)
 fLawAlone:Fun K "_law_alone" "_law_alone" jdY D.aLawAlone D.dLawAlone
 bLawAlone:Binds K D.dLawAlone ["e"] []
 mLawAlone:mg "_law_alone"=some (.ref D.aLawAlone)
 fLawText:Fun K "_law_text" "_law_text" jeP D.aLawText D.dLawText
 bLawText:Binds K D.dLawText ["script","pieces"] []
 mLawText:mg "_law_text"=some (.ref D.aLawText)
 fLawTried:Fun K "_law_tried" "_law_tried" jdZ D.aLawTried D.dLawTried
 bLawTried:Binds K D.dLawTried ["form","text"] []
 mLawTried:mg "_law_tried"=some (.ref D.aLawTried)
 fLaw:Fun K "law" "law" sLaw D.aLaw D.dLaw
 bLaw:Binds K D.dLaw ["script"] []
 mLaw:mg "law"=some (.ref D.aLaw)
 fTwofoldI:Fun K "__init__" "Twofold.__init__" jea D.aTwofoldI D.dTwofoldI
 bTwofoldI:Binds K D.dTwofoldI ["self","one","other"] []
 fFormI:Fun K "__init__" "Form.__init__" jhj D.aFormI D.dFormI
 bFormI:Binds K D.dFormI ["self","pieces"] []
 fSayI:Fun K "__init__" "Say.__init__" jnC D.aSayI D.dSayI
 bSayI:Binds K D.dSayI ["self","piece"] []
 fAskI:Fun K "__init__" "Ask.__init__" jnD D.aAskI D.dAskI
 bAskI:Binds K D.dAskI ["self","piece"] []
 fRowsI:Fun K "__init__" "Rows.__init__" jjz D.aRowsI D.dRowsI
 bRowsI:Binds K D.dRowsI ["self","piece"] []
 fSignI:Fun K "__init__" "Sign.__init__" jjA D.aSignI D.dSignI
 bSignI:Binds K D.dSignI ["self","signs"] []
 fChoiceI:Fun K "__init__" "Choice.__init__" jeQ D.aChoiceI D.dChoiceI
 bChoiceI:Binds K D.dChoiceI ["self","behind"] []
 fTellerI:Fun K "__init__" "Teller.__init__" jeR D.aTellerI D.dTellerI
 bTellerI:Binds K D.dTellerI ["self","text","choices"] []
 fTellerValuesOf:Fun K "values_of" "Teller.values_of" jby D.aTellerValuesOf D.dTellerValuesOf
 bTellerValuesOf:Binds K D.dTellerValuesOf ["self","parts"] []
 meTellerValuesOf:Meth K D.cTeller "values_of" D.aTellerValuesOf
 fTellerFieldOf:Fun K "field_of" "Teller.field_of" jbG D.aTellerFieldOf D.dTellerFieldOf
 bTellerFieldOf:Binds K D.dTellerFieldOf ["self","ask"] []
 meTellerFieldOf:Meth K D.cTeller "field_of" D.aTellerFieldOf
 fTellerRowsOf:Fun K "rows_of" "Teller.rows_of" jbU D.aTellerRowsOf D.dTellerRowsOf
 bTellerRowsOf:Binds K D.dTellerRowsOf ["self","rows"] []
 meTellerRowsOf:Meth K D.cTeller "rows_of" D.aTellerRowsOf
 fTellerGoesOn:Fun K "goes_on" "Teller.goes_on" jbV D.aTellerGoesOn D.dTellerGoesOn
 bTellerGoesOn:Binds K D.dTellerGoesOn ["self","part","number"] []
 meTellerGoesOn:Meth K D.cTeller "goes_on" D.aTellerGoesOn
 kForm:ClsOk K D.cForm
 mkForm:Mk K D.cForm D.aFormI
 mgForm:mg "Form"=some (.ref D.cForm)
 nFormPieces:NoAttr K D.cForm "pieces"
 nFormPlan:NoAttr K D.cForm "plan"
 kSay:ClsOk K D.cSay
 mkSay:Mk K D.cSay D.aSayI
 mgSay:mg "Say"=some (.ref D.cSay)
 nSayText:NoAttr K D.cSay "text"
 kAsk:ClsOk K D.cAsk
 mkAsk:Mk K D.cAsk D.aAskI
 mgAsk:mg "Ask"=some (.ref D.cAsk)
 nAskLeast:NoAttr K D.cAsk "least"
 nAskMost:NoAttr K D.cAsk "most"
 nAskName:NoAttr K D.cAsk "name"
 nAskSigns:NoAttr K D.cAsk "signs"
 kRows:ClsOk K D.cRows
 mkRows:Mk K D.cRows D.aRowsI
 mgRows:mg "Rows"=some (.ref D.cRows)
 nRowsGap:NoAttr K D.cRows "gap"
 nRowsLeast:NoAttr K D.cRows "least"
 nRowsMost:NoAttr K D.cRows "most"
 nRowsName:NoAttr K D.cRows "name"
 nRowsParts:NoAttr K D.cRows "parts"
 kSign:ClsOk K D.cSign
 mkSign:Mk K D.cSign D.aSignI
 mgSign:mg "Sign"=some (.ref D.cSign)
 nSignSigns:NoAttr K D.cSign "signs"
 kChoice:ClsOk K D.cChoice
 mkChoice:Mk K D.cChoice D.aChoiceI
 mgChoice:mg "Choice"=some (.ref D.cChoice)
 nChoiceBehind:NoAttr K D.cChoice "behind"
 kTeller:ClsOk K D.cTeller
 mkTeller:Mk K D.cTeller D.aTellerI
 mgTeller:mg "Teller"=some (.ref D.cTeller)
 nTellerChoices:NoAttr K D.cTeller "choices"
 nTellerPlace:NoAttr K D.cTeller "place"
 nTellerText:NoAttr K D.cTeller "text"
 nTellerUsed:NoAttr K D.cTeller "used"
 isSaySay:PySem.W.kitOne K (.ref D.cSay) (.ref D.cSay)=some true
 isSayAsk:PySem.W.kitOne K (.ref D.cSay) (.ref D.cAsk)=some false
 isAskSay:PySem.W.kitOne K (.ref D.cAsk) (.ref D.cSay)=some false
 isAskAsk:PySem.W.kitOne K (.ref D.cAsk) (.ref D.cAsk)=some true
 isRowsSay:PySem.W.kitOne K (.ref D.cRows) (.ref D.cSay)=some false
 isRowsAsk:PySem.W.kitOne K (.ref D.cRows) (.ref D.cAsk)=some false
 isSignSign:PySem.W.kitOne K (.ref D.cSign) (.ref D.cSign)=some true
 isChoiceSign:PySem.W.kitOne K (.ref D.cChoice) (.ref D.cSign)=some false
 isStrList:PySem.W.kitOne K (.type "str") (.type "list")=some false
 isListList:PySem.W.kitOne K (.type "list") (.type "list")=some true
 isDictDict:PySem.W.kitOne K (.type "dict") (.type "dict")=some true
 gSigns:∃ t,mg "SIGNS"=some (.str SIGNS t)
 gWords:mg "FORM_WORDS"=some (.ref D.cWords)
 gRow:mg "ROW_WORDS"=some (.ref D.cRow)
 gLen:mg "LENGTHS"=some (.ref D.cLen)
 tWords:∃ t1 t2 t3 sl,K.lookup D.cWords=some ⟨.type "tuple",none,.seq #[.str "say" t1,.str "ask" t2,.str "rows" t3] 0,sl⟩
 tRow:∃ t1 t2 sl,K.lookup D.cRow=some ⟨.type "tuple",none,.seq #[.str "say" t1,.str "ask" t2] 0,sl⟩
 tLen:∃ t1 t2 t3 u1 u2 u3 ep,K.lookup D.cLen=some ⟨.type "dict",none,.dict #[⟨PyData.keyHash w.params "say",.str "say" t1,.int 2 u1⟩,⟨PyData.keyHash w.params "ask",.str "ask" t2,.int 5 u2⟩,⟨PyData.keyHash w.params "rows",.str "rows" t3,.int 6 u3⟩] ep,#[]⟩
 mgFormError:mg "FormError"=some (.ref D.cFormError)
 mgBadForm:mg "BadForm"=some (.ref D.cBadForm)
 mgBadValue:mg "BadValue"=some (.ref D.cBadValue)
 mgNoReading:mg "NoReading"=some (.ref D.cNoReading)
 mgTwofold:mg "Twofold"=some (.ref D.cTwofold)
 xcNoReading:XCls K D.cNoReading
 emNoReading:PySem.W.exmOne K (.ref D.cNoReading) (.ref D.cFormError)=some true
 isNoReadingFormError:PySem.W.kitOne K (.ref D.cNoReading) (.ref D.cFormError)=some true
 isNoReadingBadForm:PySem.W.kitOne K (.ref D.cNoReading) (.ref D.cBadForm)=some false
 isNoReadingBadValue:PySem.W.kitOne K (.ref D.cNoReading) (.ref D.cBadValue)=some false
 isNoReadingNoReading:PySem.W.kitOne K (.ref D.cNoReading) (.ref D.cNoReading)=some true
 isNoReadingTwofold:PySem.W.kitOne K (.ref D.cNoReading) (.ref D.cTwofold)=some false
 isNoReadingVE:PySem.W.kitOne K (.ref D.cNoReading) (.type "ValueError")=some true
 xNoReading:PySem.W.excIn K D.cNoReading jbP "ValueError.__new__"=true
 xcTwofold:XCls K D.cTwofold
 emTwofold:PySem.W.exmOne K (.ref D.cTwofold) (.ref D.cFormError)=some true
 isTwofoldFormError:PySem.W.kitOne K (.ref D.cTwofold) (.ref D.cFormError)=some true
 isTwofoldBadForm:PySem.W.kitOne K (.ref D.cTwofold) (.ref D.cBadForm)=some false
 isTwofoldBadValue:PySem.W.kitOne K (.ref D.cTwofold) (.ref D.cBadValue)=some false
 isTwofoldNoReading:PySem.W.kitOne K (.ref D.cTwofold) (.ref D.cNoReading)=some false
 isTwofoldTwofold:PySem.W.kitOne K (.ref D.cTwofold) (.ref D.cTwofold)=some true
 isTwofoldVE:PySem.W.kitOne K (.ref D.cTwofold) (.type "ValueError")=some true
 xiTwofold:XIni K D.cTwofold D.aTwofoldI
 nTwofoldOne:PySem.W.findIn K (.ref D.cTwofold) "one"=some none
 nTwofoldOther:PySem.W.findIn K (.ref D.cTwofold) "other"=some none
 xbFormError:XBase K D.cFormError
 zValueError:mg "ValueError"=none
 zLen:mg "len"=none
 zRange:mg "range"=none
 zIsinstance:mg "isinstance"=none
 zSet:mg "set"=none
 zAll:mg "all"=none
 zList:mg "list"=none
 zDict:mg "dict"=none
 zReversed:mg "reversed"=none
 zEnumerate:mg "enumerate"=none
 zMin:mg "min"=none
 zInt:mg "int"=none
section
variable {P:Program} {w:World} {K:PySem.W.Frag} {mg:Str->Option Value} {base:Heap} {D:Adr}
theorem jpj:FnScope ["holds","words"] ["holds","words"] (jag jnA):=⟨rfl,rfl,rfl,by decide +kernel,rfl,by decide +kernel,by decide +kernel⟩
def jdq:Sp:=fun vs H Q _=>∃ wd,vs=[.bl true,wd]/\Q .non H
theorem jcE (T:Txt w K mg D):FnOk P w K mg base CX0 1 D.aNeed D.dNeed ["holds","words"] jdq:=by
 refine T.fNeed.ok jpj (fun vs H Q E h=>?_) (fun cdv A outer s H vs Q E hr h=>?_)
 ·obtain ⟨wd,rfl,_⟩:=h; rfl
 ·obtain ⟨wd,rfl,q⟩:=h
  refine ⟨_,jaf (jaF (jgH (jbu (pv 0))) jfi jav),?_⟩
  exact ⟨_,rfl,_,rfl,jbA q⟩
theorem scNS:FnScope ["text","least","most","what"] ["text","least","most","what"] (jag jcs):=⟨rfl,rfl,rfl,by decide +kernel,rfl,by decide +kernel,by decide +kernel⟩
def spNS:Sp:=fun vs H Q _=>∃ (z:Str) (lo hi:Nat) (wt:Str),vs=[.str z,.int lo,.int hi,.str wt]/\SignsOk z lo hi/\hi<=100/\wt.length<=100/\∀ H',Same H H'->Q .non H'
theorem jnE (T:Txt w K mg D):FnOk P w K mg base CX0 2 D.aNeedSigns D.dNeedSigns ["text","least","most","what"] spNS:=by
 have G:FnOk P w K mg base CX0 1 D.aNeed D.dNeed ["holds","words"] jdq:=jcE T
 obtain ⟨tS,hS⟩:=T.gSigns
 refine T.fNeedSigns.ok scNS (fun vs H Q E h=>?_) (fun cdv A outer s H vs Q E hr h=>?_)
 ·obtain ⟨z,lo,hi,wt,rfl,_⟩:=h; rfl
 ·obtain ⟨z,lo,hi,wt,rfl,ok,h100,hw,q⟩:=h
  have hz:z.length<=sizeLine:=jce (by have:=ok.hi; omega)
  refine ⟨_,jac (jap (jai G hr rfl T.mNeed T.fNeed.kp T.bNeed .nil jaq (jaa (jgJ jgj jgj (pv 1) (jal jaA rfl T.zLen PySem.boot_len (jaa (pv 0) jad)) (pv 2)) (jaa (jiW (pv 3)) jad))))
   (jaf (jap (jai G hr rfl T.mNeed T.fNeed.kp T.bNeed .nil jaq (jaa (jal (jld rfl) rfl T.zAll PyProof.Rows.boot_all (jaa (jcB (cp:=[]) (CompScope.of (jag jcs) ["text","least","most","what"] rfl rfl (by decide +kernel)) rfl (jiQ (pv 0)) (fun _ _ _ _ _=>jcc)
    (fun _ _ _ _ _=>jbb jfy (pv 0) (jaV (v:=.str SIGNS) rfl hS ⟨tS,rfl⟩) rfl)) jad)) (jaa (jiW (pv 3)) jad))))),?_⟩
  have hlo:(lo:Int)<=(z.length:Int):=by have:=ok.lo; omega
  have hhi:(z.length:Int)<=(hi:Int):=by have:=ok.hi; omega
  refine ⟨_,rfl,_,rfl,z,rfl,hz,_,_,rfl,rfl,_,rfl,jbJ hlo ⟨_,rfl,_,_,rfl,rfl,_,rfl,wt,rfl,jgV (by omega) (by decide +kernel),_,congrArg (fun b=>[V.bl b,_]) (decide_eq_true hhi),?_⟩⟩
  refine ⟨_,rfl,z,rfl,jgP (fun i ys H'=>H'=H/\ys=List.replicate i (V.bl true)) ⟨rfl,rfl⟩ (fun i ys H' _ e=>by rw [e.2,List.length_replicate]; exact Nat.le_refl _) hz (fun i c ys H' hc e=>?_) (fun ys H' e p hp=>?_)⟩
  ·obtain ⟨rfl,rfl⟩:=e
   refine ⟨_,rfl,c,SIGNS,rfl,rfl,?_⟩
   refine blT (Q:=fun y H5=>H5=H'/\List.replicate i (V.bl true)++[y]=List.replicate (i+1) (V.bl true)) (ok.all c (jnh hc)) ⟨rfl,?_⟩
   rw [List.replicate_succ']
  ·obtain ⟨rfl,rfl⟩:=e
   refine ⟨p,List.replicate z.cps.size true,rfl,SqL.of (by rw [jab,List.map_replicate]),_,rfl,wt,rfl,jgV (by omega) (by decide +kernel),_,congrArg (fun b=>[V.bl b,_]) ?_,q _ (jah hp _)⟩
   simp
theorem scNB:FnScope ["part","highest"] ["part","highest"] (jag jcD):=⟨rfl,rfl,rfl,by decide +kernel,rfl,by decide +kernel,by decide +kernel⟩
structure HasB (K:PySem.W.Frag) (C:Addr):Prop where
 cl:Cls K C
 l:NoAttr K C "least"
 m:NoAttr K C "most"
def spNB (K:PySem.W.Frag):Sp:=fun vs H Q _=>∃ (a C:Addr) (lo hi h:Int),vs=[.ref a,.int h]/\HasB K C/\Fld H a C [("least",.int lo),("most",.int hi)]/\0<=lo/\lo<=hi/\hi<=h/\Q .non H
theorem jpk (T:Txt w K mg D):FnOk P w K mg base CX0 2 D.aNeedBounds D.dNeedBounds ["part","highest"] (spNB K):=by
 have G:FnOk P w K mg base CX0 1 D.aNeed D.dNeed ["holds","words"] jdq:=jcE T
 refine T.fNeedBounds.ok scNB (fun vs H Q E h=>?_) (fun cdv A outer s H vs Q E hr h=>?_)
 ·obtain ⟨a,C,lo,hi,h,rfl,_⟩:=h; rfl
 ·obtain ⟨a,C,lo,hi,h,rfl,B,⟨dx,fs,ha,hf⟩,h0,h1,h2,q⟩:=h
  have el:=hf ("least",.int lo) (by simp)
  have em:=hf ("most",.int hi) (by simp)
  refine ⟨_,jaf (jap (jai G hr rfl T.mNeed T.fNeed.kp T.bNeed .nil jaq (jaa (jiX jgj jgj jgj jae (jaD (pv 0) rfl) (jaD (pv 0) rfl) (pv 1)) (jaa jax jad)))),?_⟩
  refine ⟨_,rfl,a,C,dx,_,_,rfl,ha,B.cl,B.l,el,_,_,rfl,rfl,_,rfl,jbJ h0 ⟨_,rfl,a,C,dx,_,_,rfl,ha,B.cl,B.m,em,_,_,rfl,rfl,_,rfl,jbJ h1 ⟨_,rfl,_,_,rfl,rfl,_,congrArg (fun b=>[V.bl b,_]) (decide_eq_true h2),q⟩⟩⟩
theorem scNI:FnScope ["parts"] ["parts"] (jag jdB):=⟨rfl,rfl,rfl,by decide +kernel,rfl,by decide +kernel,by decide +kernel⟩
def Adr.cl (D:Adr):Cl:=⟨D.cSay,D.cAsk,D.cRows,D.cForm⟩
def ItemAt (D:Adr) (H:Hp) (ns:List Str) (v:V):Prop:=∃ a,v=.ref a/\((ns=[]/\∃ dx fs,H a=some (.ins D.cSay dx fs))\/∃ n,ns=[n]/\(Fld H a D.cAsk [("name",.str n)]\/Fld H a D.cRows [("name",.str n)]))
theorem ItemAt.mono {H H':Hp} (e:Same H H') {ns:List Str} {v:V} (h:ItemAt D H ns v):ItemAt D H' ns v:=by
 obtain ⟨a,rfl,h⟩:=h
 refine ⟨a,rfl,?_⟩
 rcases h with ⟨h1,dx,fs,h2⟩ | ⟨n,h1,h2 | h2⟩
 ·exact .inl ⟨h1,dx,fs,e _ _ h2⟩
 ·exact .inr ⟨n,h1,.inl (h2.mono e)⟩
 ·exact .inr ⟨n,h1,.inr (h2.mono e)⟩
theorem Fld.sub {H:Hp} {a C:Addr} {fs gs:List (Str×V)} (h:Fld H a C fs) (hs:∀ p∈gs,p∈fs):Fld H a C gs:=by
 obtain ⟨dx,l,h1,h2⟩:=h
 exact ⟨dx,l,h1,fun p hp=>h2 p (hs p hp)⟩
def spNI (K:PySem.W.Frag) (D:Adr):Sp:=fun vs H Q _=>∃ (l:Addr) (us:List V) (nss:List (List Str)),vs=[.ref l]/\H l=some (.lst us)/\us.length<=100/\Paired (ItemAt D H) nss us/\(∀ ns∈nss,ns.length<=1) /\
 ∀ r,H r=none->Q (.ref r) (upd H r (.lst (nss.flatten.map V.str)))
theorem jcj {H:Hp} {a C:Addr} {dx:Addr} {fs:List (Str×V)} (k:ClsOk K C) (h:H a=some (.ins C dx fs)):TyOf K H (.ref a) (.ref C):=.ins h k.cl k.ha k.hn k.ht k.hm
theorem ok_NI (T:Txt w K mg D):FnOk P w K mg base CX0 1 D.aNamesIn D.dNamesIn ["parts"] (spNI K D):=by
 refine T.fNamesIn.ok scNI (fun vs H Q E h=>?_) (fun cdv A outer s H vs Q E hr h=>?_)
 ·obtain ⟨l,us,nss,rfl,_⟩:=h; rfl
 ·obtain ⟨l,us,nss,rfl,hl,h100,hp,hn1,q⟩:=h
  refine ⟨_,jaf (jat (jcB (cp:=[]) (tt:=tNot (tB (tCB (jiU K) (jaR (jbh 0) (jaR (tC (.ref D.cSay)) jdv))))) (te:=jog K (jbh 0) "name") (CompScope.of (jag jdB) ["parts"] rfl rfl (by decide +kernel)) rfl (jaL (pv 0))
   (fun _ _ _ _ _=>jiP (jgH (jbu (jal jbc rfl T.zIsinstance PyProof.Rows.boot_isinstance (jaa (pv 0) (jaa (jaV (v:=.ref D.cSay) rfl T.mgSay rfl) jad)))))) (fun _ _ _ _ _=>jaD (pv 0) rfl))),?_⟩
  refine ⟨_,rfl,l,rfl,⟨_,SqL.of hl⟩,jer (xs:=us) (fun i ys H'=>H'=H/\ys=(nss.take i).flatten.map V.str) ⟨rfl,rfl⟩ (fun i ys H' hi e=>?_) (jce (by omega)) (fun i x ys H' hx e=>?_) (fun ys H' e p hp'=>?_)⟩
  ·obtain ⟨rfl,rfl⟩:=e
   refine ⟨SqL.of hl,?_⟩
   rw [List.length_map]
   have go:∀ (L:List (List Str)),(∀ ns∈L,ns.length<=1)->L.flatten.length<=L.length:=by
    intro L
    induction L with
    | nil=>intro _; exact Nat.le_refl _
    | cons x r ih =>
     intro h
     have h1:=h x List.mem_cons_self
     have h2:=ih fun ns hns=>h ns (List.mem_cons_of_mem _ hns)
     rw [List.flatten_cons,List.length_append,List.length_cons]
     omega
   have:=go (nss.take i) fun ns hns=>hn1 ns (List.mem_of_mem_take hns)
   rw [List.length_take] at this
   omega
  ·obtain ⟨rfl,rfl⟩:=e
   have hi:i < us.length:=(List.getElem?_eq_some_iff.mp hx).1
   have hi2:i < nss.length:=by rw [hp.length]; exact hi
   have hit:=jbl hp (List.getElem?_eq_getElem hi2) hx
   have et:nss.take (i+1)=nss.take i++[nss[i]]:=by rw [List.take_add_one,List.getElem?_eq_getElem hi2]; rfl
   obtain ⟨a,rfl,hh⟩:=hit
   rcases hh with ⟨e0,dx,fs,ha⟩ | ⟨n,e1,ha | ha⟩
   ·refine ⟨_,rfl,_,_,true,.inl ⟨_,rfl,T.isSaySay⟩,jcj T.kSay ha,_,rfl,jbA ⟨rfl,?_⟩⟩
    rw [et,e0]; simp
   ·obtain ⟨dx,fs,ha,hf⟩:=ha
    refine ⟨_,rfl,_,_,false,.inl ⟨_,rfl,T.isAskSay⟩,jcj T.kAsk ha,_,rfl,jdx ⟨_,rfl,a,_,dx,_,_,rfl,ha,T.kAsk.cl,T.nAskName,hf _ (List.mem_singleton.mpr rfl),rfl,?_⟩⟩
    rw [et,e1]; simp
   ·obtain ⟨dx,fs,ha,hf⟩:=ha
    refine ⟨_,rfl,_,_,false,.inl ⟨_,rfl,T.isRowsSay⟩,jcj T.kRows ha,_,rfl,jdx ⟨_,rfl,a,_,dx,_,_,rfl,ha,T.kRows.cl,T.nRowsName,hf _ (List.mem_singleton.mpr rfl),rfl,?_⟩⟩
    rw [et,e1]; simp
  ·obtain ⟨rfl,rfl⟩:=e
   rw [show us.length=nss.length from hp.length.symm,List.take_length]
   exact q p hp'
end
theorem ne_sr:(V.str "say")≠V.str "rows":=by decide +kernel
theorem ne_ar:(V.str "ask")≠V.str "rows":=by decide +kernel
theorem ne_as:(V.str "ask")≠V.str "say":=by decide +kernel
theorem ne_rs:(V.str "rows")≠V.str "say":=by decide +kernel
theorem ne_ra:(V.str "rows")≠V.str "ask":=by decide +kernel
theorem jbW {f:Str} {v:V} {fs:List (Str×V)}:(jaK f v fs).lookup f=some v:=by rw [jbk,if_pos rfl]
theorem jck {f g:Str} {v u:V} {fs:List (Str×V)} (h:g≠f) (e:fs.lookup g=some u):(jaK f v fs).lookup g=some u:=by rw [jbk,if_neg h]; exact e
theorem jgc {α:Type} {Pr:α->Prop}:∀ x∈([]:List α),Pr x:=fun _ h=>nomatch h
theorem jda {α:Type} {Pr:α->Prop} {a:α} {l:List α} (h:Pr a) (t:∀ x∈l,Pr x):∀ x∈a::l,Pr x:=List.forall_mem_cons.mpr ⟨h,t⟩
def Besides (x:Addr) (H H':Hp):Prop:=∀ b o,H b=some o->b≠x->H' b=some o
theorem Besides.upd {x:Addr} {H H':Hp} (e:Besides x H H') (o:HO):Besides x H (L2.upd H' x o):=fun b u h n=>by rw [upd_ne n]; exact e b u h n
theorem Besides.refl {x:Addr} {H:Hp}:Besides x H H:=fun _ _ h _=>h
theorem Besides.same {x:Addr} {H H' H2:Hp} (e:Besides x H H') (g:Same H' H2):Besides x H H2:=fun b o h n=>g b o (e b o h n)
section
variable {P:Program} {w:World} {K:PySem.W.Frag} {mg:Str->Option Value} {base:Heap} {D:Adr}
theorem jpl:FnScope ["piece"] ["piece"] (jag jgw):=⟨rfl,rfl,rfl,by decide +kernel,rfl,by decide +kernel,by decide +kernel⟩
def jjB:Sp:=fun vs H Q _=>∃ (p:Pie) (v:V),vs=[v]/\p.At H v/\(∀ n inner gap lo hi,p=.rows n inner gap lo hi->inner.length<=100)/\∀ u H',Same H H'->p.AtF H H' u->Q u H'
theorem jnF (T:Txt w K mg D):FnOk P w K mg base CX0 1 D.aCopyOf D.dCopyOf ["piece"] jjB:=by
 refine T.fCopyOf.ok jpl (fun vs H Q E h=>?_) (fun cdv A outer s H vs Q E hr h=>?_)
 ·obtain ⟨p,v,rfl,_⟩:=h; rfl
 ·obtain ⟨p,v,rfl,hp,hin,q⟩:=h
  refine ⟨_,jac (jaF (jao jgi (jam jaj (pv 0) jae (fun _ _=>rfl)) jax (jas _)) (jaf (jat (pv 0))) jav)
   (jaf (jat (jan jiE (jan jiE (jaX jlY (pv 0) jbZ (jaS jae)) (jbe (jaa (jbx jdn rfl T.zList (by decide +kernel) (jaa (jam jaj (pv 0) jae (fun _ _=>rfl)) jad)) jad)))
    (jaX jlY (pv 0) (jaS jae) jbZ)))),?_⟩
  cases p with
  | one p =>
   cases p with
   | say t =>
    obtain ⟨a,rfl,ha⟩:=hp
    exact ⟨_,rfl,a,_,_,_,rfl,rfl,SqT.of ha,rfl,rfl,_,rfl,iteN ne_sr ⟨_,rfl,q _ H (Same.refl H) ⟨a,rfl,ha⟩⟩⟩
   | ask n sg lo hi =>
    obtain ⟨a,rfl,ha⟩:=hp
    exact ⟨_,rfl,a,_,_,_,rfl,rfl,SqT.of ha,rfl,rfl,_,rfl,iteN ne_ar ⟨_,rfl,q _ H (Same.refl H) ⟨a,rfl,ha⟩⟩⟩
  | rows n inner gap lo hi =>
   obtain ⟨a,l,us,rfl,ha,hl,hq⟩:=hp
   refine ⟨_,rfl,a,_,_,_,rfl,rfl,SqT.of ha,rfl,rfl,_,rfl,jnb rfl ?_⟩
   refine ⟨_,rfl,_,rfl,a,_,rfl,SqT.of ha,fun z=>absurd (show (2:Nat)=6 from z.2) (by decide),fun p1 h1=>?_⟩
   have g1:Same H _:=jah h1 (.tup (jga [.str "rows",.str n,.ref l,.str gap,.int lo,.int hi] none (some 2)))
   refine ⟨_,rfl,a,_,_,_,rfl,rfl,SqT.of (g1 _ _ ha),rfl,l,us,rfl,.inl (SqL.of (g1 _ _ hl)),fun p2 h2=>⟨(by show 1<=sizeLine; decide),fun p3 h3=>?_⟩⟩
   have g2:=jah h2 (.lst us)
   have g3:=jah h3 (.tup [.ref p2])
   refine ⟨p1,p3,_,_,rfl,rfl,SqT.of (g3 _ _ (g2 _ _ jab)),SqT.of jab,(fun z=>nomatch z),(by show 2+1<=sizeLine; decide),(fun z=>nomatch z),fun _ p4 h4=>?_⟩
   have g4:=jah h4 (.tup (jga [.str "rows",.str n,.ref l,.str gap,.int lo,.int hi] none (some 2)++[V.ref p2]))
   have ga:=g4 _ _ (g3 _ _ (g2 _ _ (g1 _ _ ha)))
   refine ⟨_,rfl,_,rfl,a,_,rfl,SqT.of ga,fun z=>absurd (show (3:Nat)=0 from z.1) (by decide),fun p5 h5=>?_⟩
   have g5:=jah h5 (.tup (jga [.str "rows",.str n,.ref l,.str gap,.int lo,.int hi] (some 3) none))
   refine ⟨p4,p5,_,_,rfl,rfl,SqT.of (g5 _ _ jab),SqT.of jab,(fun z=>nomatch z),(by show 3+3<=sizeLine; decide),(fun z=>nomatch z),fun _ p6 h6=>?_⟩
   have gg:=g1.trans (g2.trans (g3.trans (g4.trans (g5.trans (jah h6 (.tup (jga [.str "rows",.str n,.ref l,.str gap,.int lo,.int hi] none (some 2)++[V.ref p2]++jga [.str "rows",.str n,.ref l,.str gap,.int lo,.int hi] (some 3) none)))))))
   refine q _ _ gg ⟨p6,p2,us,rfl,?_,jah h6 _ _ _ (g5 _ _ (g4 _ _ (g3 _ _ jab))),g1.free h2,Paired.mapP hq fun _ _ z=>z.mono gg⟩
   rw [jab]
   rfl
theorem scSay:FnScope ["self","piece"] ["self","piece"] (jag jnC):=⟨rfl,rfl,rfl,by decide +kernel,rfl,by decide +kernel,by decide +kernel⟩
def jjC (D:Adr):Sp:=fun vs H Q _=>∃ (x dx:Addr) (t:Str) (v:V),vs=[.ref x,v]/\H x=some (.ins D.cSay dx [])/\(Pc.say t).At H v/\(Pc.say t).ok/\∀ H',Besides x H H'->(Pc.say t).Obj D.cl H' (.ref x)->Q .non H'
theorem jjD (T:Txt w K mg D):FnOk P w K mg base CX0 3 D.aSayI D.dSayI ["self","piece"] (jjC D):=by
 have G:FnOk P w K mg base CX0 2 D.aNeedSigns D.dNeedSigns ["text","least","most","what"] spNS:=jnE T
 refine T.fSayI.ok scSay (fun vs H Q E h=>?_) (fun cdv A outer s H vs Q E hr h=>?_)
 ·obtain ⟨x,dx,t,v,rfl,_⟩:=h; rfl
 ·obtain ⟨x,dx,t,v,rfl,hx,⟨a,rfl,ha⟩,ok,q⟩:=h
  refine ⟨_,jac (jbi (pv 0) (jam jaj (pv 1) jae (fun _ _=>rfl)) rfl) (jaf (jap (jai G hr rfl T.mNeedSigns T.fNeedSigns.kp T.bNeedSigns .nil jaq (jaa (jaD (pv 0) rfl) (jaa jae (jaa jae (jaa jax jad))))))),?_⟩
  refine ⟨_,rfl,a,_,_,_,rfl,rfl,SqT.of ha,rfl,_,rfl,x,_,dx,_,rfl,hx,T.kSay.cl,T.nSayText,(by show 0 < 1000; decide),?_⟩
  refine ⟨_,rfl,x,_,dx,_,_,rfl,jab,T.kSay.cl,T.nSayText,jbW,t,1,12,_,rfl,ok,by decide,by decide +kernel,fun H' e=>?_⟩
  exact q H' (Besides.same (Besides.refl.upd _) e) ⟨x,rfl,dx,_,e _ _ jab,jda jbW jgc⟩
theorem scAsk:FnScope ["self","piece"] ["self","piece"] (jag jnD):=⟨rfl,rfl,rfl,by decide +kernel,rfl,by decide +kernel,by decide +kernel⟩
def askF (n sg:Str) (lo hi:Int):List (Str×V):=jaK "most" (.int hi) (jaK "least" (.int lo) (jaK "signs" (.str sg) (jaK "name" (.str n) [])))
theorem jmz (n sg:Str) (lo hi:Int):(askF n sg lo hi).lookup ("name":Str)=some (V.str n):=jck (by decide +kernel) (jck (by decide +kernel) (jck (by decide +kernel) jbW))
theorem jhk (n sg:Str) (lo hi:Int):(askF n sg lo hi).lookup ("signs":Str)=some (V.str sg):=jck (by decide +kernel) (jck (by decide +kernel) jbW)
theorem jmA (n sg:Str) (lo hi:Int):(askF n sg lo hi).lookup ("least":Str)=some (V.int lo):=jck (by decide +kernel) jbW
theorem jmB (n sg:Str) (lo hi:Int):(askF n sg lo hi).lookup ("most":Str)=some (V.int hi):=jbW
def jjE (D:Adr):Sp:=fun vs H Q _=>∃ (x dx:Addr) (n sg:Str) (lo hi:Int) (v:V),vs=[.ref x,v]/\H x=some (.ins D.cAsk dx [])/\(Pc.ask n sg lo hi).At H v/\(Pc.ask n sg lo hi).ok/\∀ H',Besides x H H'->(Pc.ask n sg lo hi).Obj D.cl H' (.ref x)->Q .non H'
theorem jaI (f:Str) (v:V) (fs:List (Str×V)) {k:Nat} (h:fs.length<=k):(jaK f v fs).length<=k+1:=Nat.le_trans (jcz f v fs) (Nat.succ_le_succ h)
theorem jnG (z:Str):(sgn z).length=z.length:=by unfold sgn; simp [Str.length]
theorem jjF (T:Txt w K mg D):FnOk P w K mg base CX0 3 D.aAskI D.dAskI ["self","piece"] (jjE D):=by
 have G:FnOk P w K mg base CX0 2 D.aNeedSigns D.dNeedSigns ["text","least","most","what"] spNS:=jnE T
 have GN:FnOk P w K mg base CX0 1 D.aNeed D.dNeed ["holds","words"] jdq:=jcE T
 have GB:FnOk P w K mg base CX0 2 D.aNeedBounds D.dNeedBounds ["part","highest"] (spNB K):=jpk T
 refine T.fAskI.ok scAsk (fun vs H Q E h=>?_) (fun cdv A outer s H vs Q E hr h=>?_)
 ·obtain ⟨x,dx,n,sg,lo,hi,v,rfl,_⟩:=h; rfl
 ·obtain ⟨x,dx,n,sg,lo,hi,v,rfl,hx,⟨a,rfl,ha⟩,⟨hn,hsg,hnd,hb0,hb1,hb2⟩,q⟩:=h
  have hr1:Room 1 _:=hr.mono (by decide)
  have hz:sg.length<=20:=hsg.hi
  refine ⟨_,jac (jbi (pv 0) (jam jaj (pv 1) jae (fun _ _=>rfl)) rfl)
   (jac (jbi (pv 0) (jam jaj (pv 1) jae (fun _ _=>rfl)) rfl)
   (jac (jbi (pv 0) (jam jaj (pv 1) jae (fun _ _=>rfl)) rfl)
   (jac (jbi (pv 0) (jam jaj (pv 1) jae (fun _ _=>rfl)) rfl)
   (jac (jap (jai GN hr1 rfl T.mNeed T.fNeed.kp T.bNeed .nil jaq (jaa (jbb jgi (jaD (pv 0) rfl) jax (jas _)) (jaa jax jad))))
   (jac (jap (jai G hr rfl T.mNeedSigns T.fNeedSigns.kp T.bNeedSigns .nil jaq (jaa (jaD (pv 0) rfl) (jaa jae (jaa jae (jaa jax jad))))))
   (jac (jap (jai GN hr1 rfl T.mNeed T.fNeed.kp T.bNeed .nil jaq (jaa (jbb jaZ (jal jcN rfl T.zLen PySem.boot_len (jaa (jbx (jej rfl) rfl T.zSet (by decide +kernel) (jaa (jaD (pv 0) rfl) jad)) jad)) (jal jaA rfl T.zLen PySem.boot_len (jaa (jaD (pv 0) rfl) jad)) (jas _)) (jaa jax jad))))
   (jaf (jap (jai GB hr rfl T.mNeedBounds T.fNeedBounds.kp T.bNeedBounds .nil jaq (jaa (pv 0) (jaa jae jad))))))))))),?_⟩
  have nax:a≠x:=jbj ha hx (by intro z; cases z)
  have h2:∀ o,(L2.upd H x o) a=some (.tup [.str "ask",.str n,.str sg,.int lo,.int hi]):=fun o=>by rw [upd_ne nax]; exact ha
  have h3:∀ o o',(L2.upd (L2.upd H x o) x o') a=some (.tup [.str "ask",.str n,.str sg,.int lo,.int hi]):=fun o o'=>by rw [upd_ne nax]; exact h2 o
  have h4:∀ o o' o'',(L2.upd (L2.upd (L2.upd H x o) x o') x o'') a=some (.tup [.str "ask",.str n,.str sg,.int lo,.int hi]):=fun o o' o''=>by rw [upd_ne nax]; exact h3 o o'
  refine ⟨_,rfl,a,_,_,_,rfl,rfl,SqT.of ha,rfl,_,rfl,x,_,dx,_,rfl,hx,T.kAsk.cl,T.nAskName,(by show 0 < 1000; decide),?_⟩
  refine ⟨_,rfl,a,_,_,_,rfl,rfl,SqT.of (h2 _),rfl,_,rfl,x,_,dx,_,rfl,jab,T.kAsk.cl,T.nAskSigns,Nat.lt_of_le_of_lt (jaI _ _ _ (k:=0) (Nat.le_refl _)) (by decide),?_⟩
  refine ⟨_,rfl,a,_,_,_,rfl,rfl,SqT.of (h3 _ _),rfl,_,rfl,x,_,dx,_,rfl,jab,T.kAsk.cl,T.nAskLeast,Nat.lt_of_le_of_lt (jaI _ _ _ (jaI _ _ _ (k:=0) (Nat.le_refl _))) (by decide),?_⟩
  refine ⟨_,rfl,a,_,_,_,rfl,rfl,SqT.of (h4 _ _ _),rfl,_,rfl,x,_,dx,_,rfl,jab,T.kAsk.cl,T.nAskMost,Nat.lt_of_le_of_lt (jaI _ _ _ (jaI _ _ _ (jaI _ _ _ (k:=0) (Nat.le_refl _)))) (by decide),?_⟩
  refine ⟨_,rfl,x,_,dx,_,_,rfl,jab,T.kAsk.cl,T.nAskName,jmz n sg lo hi,rfl,_,congrArg (fun b=>[V.bl (!b),_]) (decide_eq_false (fun z=>hn (V.str.inj z))),?_⟩
  refine ⟨_,rfl,x,_,dx,_,_,rfl,jab,T.kAsk.cl,T.nAskSigns,jhk n sg lo hi,sg,1,20,_,rfl,hsg,by decide,by decide +kernel,fun H5 e5=>?_⟩
  have hx5:=e5 _ _ jab
  refine ⟨_,rfl,x,_,dx,_,_,rfl,hx5,T.kAsk.cl,T.nAskSigns,jhk n sg lo hi,sg,rfl,(by show sg.length+1 < 4096; omega),fun l hl=>?_⟩
  refine ⟨l,_,rfl,jab,?_⟩
  have e6:=jah hl (SetO P w l (dd (sgn sg)))
  have hx6:=e6 _ _ hx5
  refine ⟨_,rfl,x,_,dx,_,_,rfl,hx6,T.kAsk.cl,T.nAskSigns,jhk n sg lo hi,sg,rfl,jce (by omega),rfl,_,congrArg (fun b=>[V.bl b,_]) (decide_eq_true ?_),?_⟩
  ·rw [jgQ hnd,jnG]
  refine ⟨_,rfl,x,_,lo,hi,4,rfl,⟨T.kAsk.cl,T.nAskLeast,T.nAskMost⟩,⟨dx,_,hx6,jda (jmA n sg lo hi) (jda (jmB n sg lo hi) jgc)⟩,hb0,hb1,hb2,?_⟩
  refine q _ (Besides.same (Besides.same ((((Besides.refl.upd _).upd _).upd _).upd _) e5) e6) ⟨x,rfl,dx,_,hx6,jda (jmz n sg lo hi) (jda (jhk n sg lo hi) (jda (jmA n sg lo hi) (jda (jmB n sg lo hi) jgc)))⟩
end
abbrev SqL' (H:Hp) (l:Addr) (us:List V):Prop:=H l=some (.lst us)
theorem sqOf {K:PySem.W.Frag} {H:Hp} {l:Addr} {us:List V} (h:SqL' H l us):SqL K H l us:=SqL.of h
theorem jbH {H H':Hp} {x dx C:Addr} (hx:H x=none) (hd:H dx=none) (e:Besides x (L2.upd (L2.upd H dx (.own x)) x (.ins C dx [])) H'):Same H H':=fun b o h =>
 e b o (by rw [upd_ne (ne_of_none h hx),upd_ne (ne_of_none h hd)]; exact h) (ne_of_none h hx)
theorem jdi {H:Hp} {x dx C:Addr} (hx:H x=none) (hd:H dx=none):Same H (L2.upd (L2.upd H dx (.own x)) x (.ins C dx [])):=jbH (C:=C) hx hd Besides.refl
def joh:List (Key×V):=[(Sum.inr "say",.int 2),(Sum.inr "ask",.int 5),(Sum.inr "rows",.int 6)]
theorem jhl:jaW joh (Sum.inr "say")=some (.int 2):=by decide +kernel
theorem jhm:jaW joh (Sum.inr "ask")=some (.int 5):=by decide +kernel
theorem jjG:jaW joh (Sum.inr "rows")=some (.int 6):=by decide +kernel
section
variable {P:Program} {w:World} {K:PySem.W.Frag} {mg:Str->Option Value} {base:Heap} {D:Adr}
theorem jjH (T:Txt w K mg D) (h:Heap) (X:K.In h):∃ vs,KV joh vs/\h.DictOf (jaC P w) D.cLen vs:=by
 obtain ⟨t1,t2,t3,u1,u2,u3,ep,hk⟩:=T.tLen
 refine ⟨[(Sum.inr "say",.int 2 u1),(Sum.inr "ask",.int 5 u2),(Sum.inr "rows",.int 6 u3)],.cons ⟨rfl,u1,rfl⟩ (.cons ⟨rfl,u2,rfl⟩ (.cons ⟨rfl,u3,rfl⟩ .nil)),_,_,ep,X _ _ hk,⟨rfl,rfl,rfl⟩,rfl,?_,?_,?_⟩
 ·intro e he
  have he':e∈[(⟨PyData.keyHash w.params "say",.str "say" t1,.int 2 u1⟩:DictEntry),⟨PyData.keyHash w.params "ask",.str "ask" t2,.int 5 u2⟩,⟨PyData.keyHash w.params "rows",.str "rows" t3,.int 6 u3⟩]:=by simpa using he
  rcases List.mem_cons.mp he' with rfl | he'
  ·exact ⟨Sum.inr "say",by simp [jaC,jdt,Value.isStrOf],rfl⟩
  ·rcases List.mem_cons.mp he' with rfl | he'
   ·exact ⟨Sum.inr "ask",by simp [jaC,jdt,Value.isStrOf],rfl⟩
   ·rcases List.mem_cons.mp he' with rfl | he'
    ·exact ⟨Sum.inr "rows",by simp [jaC,jdt,Value.isStrOf],rfl⟩
    ·cases he'
 ·exact .cons (by simp [jaC,jdt,Value.isStrOf]) rfl (.cons (by simp [jaC,jdt,Value.isStrOf]) rfl (.cons (by simp [jaC,jdt,Value.isStrOf]) rfl .nil))
 ·show ([Sum.inr "say",Sum.inr "ask",Sum.inr "rows"]:List Key).Nodup
  decide +kernel
theorem jeS (T:Txt w K mg D) {H:Hp}:SqT K H D.cWords [.str "say",.str "ask",.str "rows"]:=by
 obtain ⟨t1,t2,t3,sl,hk⟩:=T.tWords
 exact .inr ⟨_,_,0,hk,rfl,rfl,(by show 3<=sizeLine; decide),.cons ⟨t1,rfl⟩ (.cons ⟨t2,rfl⟩ (.cons ⟨t3,rfl⟩ .nil))⟩
theorem jmC (T:Txt w K mg D) {H:Hp}:SqT K H D.cRow [.str "say",.str "ask"]:=by
 obtain ⟨t1,t2,sl,hk⟩:=T.tRow
 exact .inr ⟨_,_,0,hk,rfl,rfl,(by show 2<=sizeLine; decide),.cons ⟨t1,rfl⟩ (.cons ⟨t2,rfl⟩ .nil)⟩
theorem jmD:FnScope ["piece","words"] ["piece","words"] (jag jgv):=⟨rfl,rfl,rfl,by decide +kernel,rfl,by decide +kernel,by decide +kernel⟩
def jhn {α:Type} (At:Hp->α->V->Prop) (Ob:Hp->Hp->α->V->Prop) (ok:α->Prop) (wd:Addr):Sp:=fun vs H Q _=>∃ (a:α) (v:V),vs=[v,.ref wd]/\At H a v/\ok a/\∀ u H',Same H H'->Ob H H' a u->Q u H'
def AtR (H:Hp) (p:Pc) (v:V):Prop:=p.At H v
def ObR (c:Cl) (_:Hp) (H:Hp) (p:Pc) (v:V):Prop:=p.Obj c H v
theorem jlp (T:Txt w K mg D):FnOk P w K mg base CX0 5 D.aPartOf D.dPartOf ["piece","words"] (jhn AtR (ObR D.cl) Pc.ok D.cRow):=by
 have GN:FnOk P w K mg base CX0 1 D.aNeed D.dNeed ["holds","words"] jdq:=jcE T
 have GS:FnOk P w K mg base CX0 3 D.aSayI D.dSayI ["self","piece"] (jjC D):=jjD T
 have GA:FnOk P w K mg base CX0 3 D.aAskI D.dAskI ["self","piece"] (jjE D):=jjF T
 refine T.fPartOf.ok jmD (fun vs H Q E h=>?_) (fun cdv A outer s H vs Q E hr h=>?_)
 ·obtain ⟨p,v,rfl,_⟩:=h; rfl
 ·obtain ⟨p,v,rfl,hp,ok,q⟩:=h
  have hr1:Room 1 _:=hr.mono (by decide)
  refine ⟨_,jac (jap (jai GN hr1 rfl T.mNeed T.fNeed.kp T.bNeed .nil jaq (jaa (jlQ (jbb jfl (jal jar rfl T.zLen PySem.boot_len (jaa (pv 0) jad)) jae (jas _)) (jlP (jbb jfs (jam jaj (pv 0) jae (fun _ _=>rfl)) (pv 1) rfl))) (jaa jax jad))))
   (jac (jap (jai GN hr1 rfl T.mNeed T.fNeed.kp T.bNeed .nil jaq (jaa (jbb jaZ (jal jar rfl T.zLen PySem.boot_len (jaa (pv 0) jad)) (jja (kvs:=joh) rfl T.gLen (jjH T) (jam jaj (pv 0) jae (fun _ _=>rfl)) (fun _ _=>rfl)) (jas _)) (jaa jax jad))))
   (jac (jaF (jao jaZ (jam jaj (pv 0) jae (fun _ _=>rfl)) jax (jas _)) (jaf (jat (jbp T.mkSay GS hr rfl T.mgSay T.bSayI .nil jaq (jaa (pv 0) jad)))) jav)
   (jac (jaF (jao jaZ (jam jaj (pv 0) jae (fun _ _=>rfl)) jax (jas _)) (jaf (jat (jbp T.mkAsk GA hr rfl T.mgAsk T.bAskI .nil jaq (jaa (pv 0) jad)))) jav)
   (jaf jkI)))),?_⟩
  cases p with
  | say t =>
   obtain ⟨a,rfl,ha⟩:=hp
   refine ⟨_,rfl,a,_,rfl,.inr (SqT.of ha),_,_,rfl,rfl,_,rfl,jbJ (by show (0:Int) < 2; decide) ⟨_,rfl,a,_,_,_,rfl,rfl,SqT.of ha,rfl,_,rfl,D.cRow,_,rfl,.inr (jmC T),rfl,rfl,_,rfl,?_⟩⟩
   refine ⟨_,rfl,a,_,rfl,.inr (SqT.of ha),_,rfl,a,_,_,_,rfl,rfl,SqT.of ha,rfl,Sum.inr "say",_,rfl,jhl,rfl,_,congrArg (fun b=>[V.bl b,_]) (decide_eq_true rfl),?_⟩
   refine ⟨_,rfl,a,_,_,_,rfl,rfl,SqT.of ha,rfl,rfl,_,rfl,jbJ rfl ⟨_,rfl,fun x dx hx hd ne=>?_⟩⟩
   have k0:=jdi (C:=D.cSay) hx hd
   exact ⟨x,dx,t,_,rfl,jab,⟨a,rfl,k0 _ _ ha⟩,ok,fun H' e o=>⟨rfl,q _ H' (jbH hx hd e) o⟩⟩
  | ask n sg lo hi =>
   obtain ⟨a,rfl,ha⟩:=hp
   refine ⟨_,rfl,a,_,rfl,.inr (SqT.of ha),_,_,rfl,rfl,_,rfl,jbJ (by show (0:Int) < 5; decide) ⟨_,rfl,a,_,_,_,rfl,rfl,SqT.of ha,rfl,_,rfl,D.cRow,_,rfl,.inr (jmC T),rfl,rfl,_,rfl,?_⟩⟩
   refine ⟨_,rfl,a,_,rfl,.inr (SqT.of ha),_,rfl,a,_,_,_,rfl,rfl,SqT.of ha,rfl,Sum.inr "ask",_,rfl,jhm,rfl,_,congrArg (fun b=>[V.bl b,_]) (decide_eq_true rfl),?_⟩
   refine ⟨_,rfl,a,_,_,_,rfl,rfl,SqT.of ha,rfl,rfl,_,rfl,jaJ ne_as ?_⟩
   refine ⟨_,rfl,a,_,_,_,rfl,rfl,SqT.of ha,rfl,rfl,_,rfl,jbJ rfl ⟨_,rfl,fun x dx hx hd ne=>?_⟩⟩
   have k0:=jdi (C:=D.cAsk) hx hd
   exact ⟨x,dx,n,sg,lo,hi,_,rfl,jab,⟨a,rfl,k0 _ _ ha⟩,ok,fun H' e o=>⟨rfl,q _ H' (jbH hx hd e) o⟩⟩
theorem scParts:FnScope ["pieces","words","most","parts","names"] ["pieces","words","most"] (jag jdC):=⟨rfl,rfl,rfl,by decide +kernel,rfl,by decide +kernel,by decide +kernel⟩
def jeb {α:Type} (At:Hp->α->V->Prop) (Ob:Hp->Hp->α->V->Prop) (ok:α->Prop) (nm:α->List Str) (wd:Addr) (mx:Nat):Sp:=fun vs H Q _=>∃ (l:Addr) (us:List V) (ps:List α),vs=[.ref l,.ref wd,.int mx]/\SqL' H l us/\Paired (At H) ps us /\
 1<=ps.length/\ps.length<=mx/\(∀ p∈ps,ok p)/\(ps.flatMap nm).Nodup/\∀ r ws H',Same H H'->H r=none->H' r=some (.lst ws)->Paired (Ob H H') ps ws->Q (.ref r) H'
theorem jjI {α:Type} {nm:α->List Str} (h1:∀ a,(nm a).length<=1):∀ ps:List α,(ps.flatMap nm).length<=ps.length
 | []=>Nat.le_refl _
 | p::r=>by
  have a:=h1 p
  have b:=jjI h1 r
  rw [List.flatMap_cons,List.length_append,List.length_cons]
  omega
theorem jau {α:Type} {l:List α} {i:Nat} {x:α} (h:l[i]?=some x):l.take (i+1)=l.take i++[x]:=by rw [List.take_add_one,h]; rfl
theorem Paired.two {α β:Type} {F:α->β->Prop} {as:List α} {bs:List β} (h:Paired F as bs) {i:Nat} {b:β} (e:bs[i]?=some b):∃ a,as[i]?=some a/\F a b:=by
 have hi:i < as.length:=by rw [h.length]; exact (List.getElem?_eq_some_iff.mp e).1
 exact ⟨as[i],List.getElem?_eq_getElem hi,jbl h (List.getElem?_eq_getElem hi) e⟩
theorem jho (T:Txt w K mg D) {α:Type} {At:Hp->α->V->Prop} {Ob:Hp->Hp->α->V->Prop} {ok:α->Prop} {nm:α->List Str} {wd:Addr} {mx k:Nat} (hk:1<=k) (hmx:mx<=100)
  (G:FnOk P w K mg base CX0 k D.aPartOf D.dPartOf ["piece","words"] (jhn At Ob ok wd)) (atM:∀ {H H':Hp},Same H H'->∀ {a:α} {v:V},At H a v->At H' a v) (obM:∀ {H0 H H':Hp},Same H H'->∀ {a:α} {v:V},Ob H0 H a v->Ob H0 H' a v)
  (obO:∀ {H0 H1 H:Hp},Same H0 H1->∀ {a:α} {v:V},Ob H1 H a v->Ob H0 H a v) (obI:∀ {H0 H:Hp} {a:α} {v:V},Ob H0 H a v->ItemAt D H (nm a) v) (nm1:∀ a,(nm a).length<=1) :
  FnOk P w K mg base CX0 (k+1) D.aPartsOf D.dPartsOf ["pieces","words","most"] (jeb At Ob ok nm wd mx):=by
 have GN:FnOk P w K mg base CX0 1 D.aNeed D.dNeed ["holds","words"] jdq:=jcE T
 have GI:FnOk P w K mg base CX0 1 D.aNamesIn D.dNamesIn ["parts"] (spNI K D):=ok_NI T
 refine T.fPartsOf.ok scParts (fun vs H Q E h=>?_) (fun cdv A outer s H vs Q E hr h=>?_)
 ·obtain ⟨l,us,ps,rfl,_⟩:=h; rfl
 ·obtain ⟨l,us,ps,rfl,hl,hp,h1,h2,hok,hnd,q⟩:=h
  have hr1:Room 1 _:=hr.mono hk
  have hus:us.length=ps.length:=hp.length.symm
  refine ⟨_,jac (jap (jai GN hr1 rfl T.mNeed T.fNeed.kp T.bNeed .nil jaq (jaa (jgJ jgj jgj jae (jal jar rfl T.zLen PySem.boot_len (jaa (pv 0) jad)) (pv 2)) (jaa jax jad))))
   (jac (jdd (i:=3) (cp:=[(1,"words")]) (te:=jgk (jhn At Ob ok wd) [] E0 (jaR (jbh 0) (jaR (jbh 1) jdv))) scParts.nd rfl rfl (CompScope.of (jag jdC) ["pieces","words","most","parts","names"] rfl rfl (by decide +kernel)) rfl (jaL (pv 0)) (fun _ _ _ _ _=>jcc)
    (fun _ _ _ _ _=>jai G hr rfl T.mPartOf T.fPartOf.kp T.bPartOf .nil jaq (jaa (pv 0) (jaa (pv 1) jad))))
   (jac (jak (i:=4) scParts.nd rfl (Or.inl rfl) (jai GI hr1 rfl T.mNamesIn T.fNamesIn.kp T.bNamesIn .nil jaq (jaa (pv 3) jad)))
   (jac (jap (jai GN hr1 rfl T.mNeed T.fNeed.kp T.bNeed .nil jaq (jaa (jbb jaZ (jal jcN rfl T.zLen PySem.boot_len (jaa (jbx (jei rfl) rfl T.zSet (by decide +kernel) (jaa (pv 4) jad)) jad)) (jal jar rfl T.zLen PySem.boot_len (jaa (pv 4) jad)) (jas _)) (jaa jax jad))))
   (jaf (jat (pv 3)))))),?_⟩
  refine ⟨_,rfl,l,us,rfl,.inl (sqOf hl),_,_,rfl,rfl,_,rfl,jbJ (by show (1:Int)<=(us.length:Int); omega) ⟨_,rfl,_,_,rfl,rfl,_,congrArg (fun b=>[V.bl b,_]) (decide_eq_true (by show (us.length:Int)<=(mx:Int); omega)),?_⟩⟩
  refine ⟨_,rfl,l,rfl,⟨_,sqOf hl⟩,jcd (xs:=us) (fun i ys H'=>Same H H'/\Paired (Ob H H') (ps.take i) ys) ⟨Same.refl H,.nil⟩ (fun i ys H' hi e=>⟨e.1.seq (sqOf hl),?_⟩) (jce (by omega)) (fun i x ys H' hx e=>?_) (fun ys H' e r hr'=>?_)⟩
  ·have:=e.2.length
   rw [List.length_take] at this
   omega
  ·obtain ⟨e1,e2⟩:=e
   obtain ⟨a,ea,pa⟩:=Paired.two hp hx
   refine ⟨_,rfl,_,rfl,a,x,rfl,atM e1 pa,hok a (List.mem_of_getElem? ea),fun u H5 e5 o5=>⟨e1.trans e5,?_⟩⟩
   rw [jau ea]
   exact (Paired.mapP e2 fun _ _ z=>obM e5 z).snoc (obO e1 o5)
  ·obtain ⟨e1,e2⟩:=e
   rw [hus,List.take_length] at e2
   have e3:=jah hr' (.lst ys)
   have pl:ys.length=ps.length:=e2.length.symm
   refine ⟨_,rfl,r,ys,ps.map nm,rfl,jab,by omega,?_,?_,fun r2 hr2=>?_⟩
   ·have go:∀ {ps:List α} {ys:List V},Paired (Ob H H') ps ys->Paired (ItemAt D (L2.upd H' r (.lst _))) (ps.map nm) ys:=fun h=>by
     induction h with
     | nil=>exact .nil
     | cons a t ih=>exact .cons ((obI a).mono e3) ih
    exact go e2
   ·intro ns hns
    obtain ⟨a,_,rfl⟩:=List.mem_map.mp hns
    exact nm1 a
   ·have e4:=jah hr2 (.lst (((ps.map nm).flatten).map V.str))
    have ef:(ps.map nm).flatten=ps.flatMap nm:=by rw [List.flatMap_def]
    have hlen:=jjI nm1 ps
    refine ⟨_,rfl,r2,_,rfl,SqL.of jab,(by rw [ef]; show _ < 4096; omega),fun r3 hr3=>⟨r3,_,rfl,jab,?_⟩⟩
    have e5:=jah hr3 (SetO P w r3 (dd (ps.map nm).flatten))
    refine ⟨_,rfl,r2,_,rfl,.inl (SqL.of (e5 _ _ jab)),rfl,_,congrArg (fun b=>[V.bl b,_]) (decide_eq_true ?_),?_⟩
    ·rw [List.length_map,ef,jgQ hnd]
    ·refine ⟨_,rfl,q r ys _ (e1.trans (e3.trans (e4.trans e5))) (e1.free hr') (e5 _ _ (e4 _ _ jab)) ?_⟩
     exact Paired.mapP e2 fun _ _ z=>obM (e3.trans (e4.trans e5)) z
theorem Pc.Obj.item {H:Hp}:∀ {p:Pc} {v:V},p.Obj D.cl H v->ItemAt D H p.nm v
 | .say _,_,⟨a,h1,dx,fs,h2,_⟩=>⟨a,h1,.inl ⟨rfl,dx,fs,h2⟩⟩
 | .ask n ..,_,⟨a,h1,h2⟩=>⟨a,h1,.inr ⟨n,rfl,.inl (h2.sub (jda (List.mem_cons_self) jgc))⟩⟩
theorem Pie.Obj.item {H0 H:Hp}:∀ {p:Pie} {v:V},p.Obj D.cl H0 H v->ItemAt D H p.nm v
 | .one p,_,h=>Pc.Obj.item (p:=p) h
 | .rows n ..,_,⟨a,l,us,h1,h2,_⟩=>⟨a,h1,.inr ⟨n,rfl,.inr (h2.sub (jda (List.mem_cons_self) jgc))⟩⟩
theorem jmE:∀ p:Pc,p.nm.length<=1
 | .say _=>Nat.zero_le _
 | .ask ..=>Nat.le_refl _
theorem jnH:∀ p:Pie,p.nm.length<=1
 | .one p=>jmE p
 | .rows ..=>Nat.le_refl _
theorem jjJ (T:Txt w K mg D):FnOk P w K mg base CX0 6 D.aPartsOf D.dPartsOf ["pieces","words","most"] (jeb AtR (ObR D.cl) Pc.ok Pc.nm D.cRow 3) :=
 jho T (by decide) (by decide) (jlp T) (fun e _ _ h=>Pc.At.mono e h) (fun e _ _ h=>Pc.Obj.mono e h) (fun _ _ _ h=>h) (fun h=>Pc.Obj.item h) jmE
theorem Pc.Obj.besides {c:Cl} {H H':Hp} {x C dx:Addr} {fs:List (Str×V)} (hx:H x=some (.ins C dx fs)) (h1:fs.lookup ("text":Str)=none) (h2:fs.lookup ("signs":Str)=none) (e:Besides x H H'):∀ {p:Pc} {v:V},p.Obj c H v->p.Obj c H' v
 | .say t,v,⟨a,ha,da,l,hl,hf⟩=>by
  have z:=hf ("text",.str t) List.mem_cons_self
  refine ⟨a,ha,da,l,e _ _ hl (fun q=>?_),hf⟩
  rw [q,hx] at hl; cases hl
  rw [h1] at z; cases z
 | .ask n sg lo hi,v,⟨a,ha,da,l,hl,hf⟩=>by
  have z:=hf ("signs",.str sg) (List.mem_cons_of_mem _ List.mem_cons_self)
  refine ⟨a,ha,da,l,e _ _ hl (fun q=>?_),hf⟩
  rw [q,hx] at hl; cases hl
  rw [h2] at z; cases z
theorem jpm:FnScope ["self","piece"] ["self","piece"] (jag jjz):=⟨rfl,rfl,rfl,by decide +kernel,rfl,by decide +kernel,by decide +kernel⟩
def jih (n:Str) (r:Addr) (gap:Str) (lo hi:Int):List (Str×V):=jaK "most" (.int hi) (jaK "least" (.int lo) (jaK "gap" (.str gap) (jaK "parts" (.ref r) (jaK "name" (.str n) []))))
theorem jjK (n:Str) (r:Addr) (gap:Str) (lo hi:Int):(jih n r gap lo hi).lookup ("name":Str)=some (V.str n):=jck (by decide +kernel) (jck (by decide +kernel) (jck (by decide +kernel) (jck (by decide +kernel) jbW)))
theorem jnI (n:Str) (r:Addr) (gap:Str) (lo hi:Int):(jih n r gap lo hi).lookup ("parts":Str)=some (V.ref r):=jck (by decide +kernel) (jck (by decide +kernel) (jck (by decide +kernel) jbW))
theorem jjL (n:Str) (r:Addr) (gap:Str) (lo hi:Int):(jih n r gap lo hi).lookup ("gap":Str)=some (V.str gap):=jck (by decide +kernel) (jck (by decide +kernel) jbW)
theorem jjM (n:Str) (r:Addr) (gap:Str) (lo hi:Int):(jih n r gap lo hi).lookup ("least":Str)=some (V.int lo):=jck (by decide +kernel) jbW
theorem jjN (n:Str) (r:Addr) (gap:Str) (lo hi:Int):(jih n r gap lo hi).lookup ("most":Str)=some (V.int hi):=jbW
def jjO (D:Adr):Sp:=fun vs H Q _=>∃ (x dx:Addr) (n:Str) (inner:List Pc) (gap:Str) (lo hi:Int) (v:V),vs=[.ref x,v]/\H x=some (.ins D.cRows dx [])/\(Pie.rows n inner gap lo hi).At H v/\(Pie.rows n inner gap lo hi).ok /\
 ∀ H',Besides x H H'->(Pie.rows n inner gap lo hi).Obj D.cl H H' (.ref x)->Q .non H'
theorem jlq (T:Txt w K mg D):FnOk P w K mg base CX0 7 D.aRowsI D.dRowsI ["self","piece"] (jjO D):=by
 have G:FnOk P w K mg base CX0 2 D.aNeedSigns D.dNeedSigns ["text","least","most","what"] spNS:=jnE T
 have GN:FnOk P w K mg base CX0 1 D.aNeed D.dNeed ["holds","words"] jdq:=jcE T
 have GB:FnOk P w K mg base CX0 2 D.aNeedBounds D.dNeedBounds ["part","highest"] (spNB K):=jpk T
 have GP:FnOk P w K mg base CX0 6 D.aPartsOf D.dPartsOf ["pieces","words","most"] (jeb AtR (ObR D.cl) Pc.ok Pc.nm D.cRow 3):=jjJ T
 refine T.fRowsI.ok jpm (fun vs H Q E h=>?_) (fun cdv A outer s H vs Q E hr h=>?_)
 ·obtain ⟨x,dx,n,inner,gap,lo,hi,v,rfl,_⟩:=h; rfl
 ·obtain ⟨x,dx,n,inner,gap,lo,hi,v,rfl,hx,⟨a,l,us,rfl,ha,hl,hp⟩,⟨hn,⟨i1,i2,i3,i4⟩,hg,hb0,hb1,hb2⟩,q⟩:=h
  have hr1:Room 1 _:=hr.mono (by decide)
  have hr2:Room 2 _:=hr.mono (by decide)
  refine ⟨_,jac (jbi (pv 0) (jam jaj (pv 1) jae (fun _ _=>rfl)) rfl)
   (jac (jbi (pv 0) (jai GP hr rfl T.mPartsOf T.fPartsOf.kp T.bPartsOf .nil jaq (jaa (jam jaj (pv 1) jae (fun _ _=>rfl)) (jaa (jaV (v:=.ref D.cRow) rfl T.gRow rfl) (jaa jae jad)))) rfl)
   (jac (jbi (pv 0) (jam jaj (pv 1) jae (fun _ _=>rfl)) rfl)
   (jac (jbi (pv 0) (jam jaj (pv 1) jae (fun _ _=>rfl)) rfl)
   (jac (jbi (pv 0) (jam jaj (pv 1) jae (fun _ _=>rfl)) rfl)
   (jac (jap (jai GN hr1 rfl T.mNeed T.fNeed.kp T.bNeed .nil jaq (jaa (jbb jgi (jaD (pv 0) rfl) jax (jas _)) (jaa jax jad))))
   (jac (jap (jai G hr2 rfl T.mNeedSigns T.fNeedSigns.kp T.bNeedSigns .nil jaq (jaa (jaD (pv 0) rfl) (jaa jae (jaa jae (jaa jax jad))))))
   (jaf (jap (jai GB hr2 rfl T.mNeedBounds T.fNeedBounds.kp T.bNeedBounds .nil jaq (jaa (pv 0) (jaa jae jad))))))))))),?_⟩
  have nax:a≠x:=jbj ha hx (by intro z; cases z)
  have nlx:l≠x:=jbj hl hx (by intro z; cases z)
  refine ⟨_,rfl,a,_,_,_,rfl,rfl,SqT.of ha,rfl,_,rfl,x,_,dx,_,rfl,hx,T.kRows.cl,T.nRowsName,(by show 0 < 1000; decide),?_⟩
  have b1:Besides x H (L2.upd H x (.ins D.cRows dx (jaK "name" (.str n) []))):=Besides.refl.upd _
  have ha1:=b1 _ _ ha nax
  have hl1:=b1 _ _ hl nlx
  refine ⟨_,rfl,a,_,_,_,rfl,rfl,SqT.of ha1,rfl,l,us,inner,rfl,hl1,?_,i1,i2,i3,i4,fun r ws H2 e2 nr hr2' ow=>?_⟩
  ·exact Paired.mapP hp fun p v z=>by
    obtain ⟨b,rfl,hb⟩:=z
    exact ⟨b,rfl,b1 _ _ hb (jbj hb hx (by intro z; cases z))⟩
  have hx2:=e2 _ _ jab
  have nrx:r≠x:=jbj hr2' hx2 (by intro z; cases z)
  have nr0:H r=none:=by rw [upd_ne nrx] at nr; exact nr
  have b2:Besides x H H2:=Besides.same b1 e2
  have ha2:=b2 _ _ ha nax
  refine ⟨_,rfl,x,_,dx,_,rfl,hx2,T.kRows.cl,T.nRowsParts,Nat.lt_of_le_of_lt (jaI _ _ _ (k:=0) (Nat.le_refl _)) (by decide),?_⟩
  have c3:Besides x H2 _:=Besides.refl.upd (.ins D.cRows dx (jaK "parts" (.ref r) (jaK "name" (.str n) [])))
  refine ⟨_,rfl,a,_,_,_,rfl,rfl,SqT.of (c3 _ _ ha2 nax),rfl,_,rfl,x,_,dx,_,rfl,jab,T.kRows.cl,T.nRowsGap,Nat.lt_of_le_of_lt (jaI _ _ _ (jaI _ _ _ (k:=0) (Nat.le_refl _))) (by decide),?_⟩
  have c4:=c3.upd (.ins D.cRows dx (jaK "gap" (.str gap) (jaK "parts" (.ref r) (jaK "name" (.str n) []))))
  refine ⟨_,rfl,a,_,_,_,rfl,rfl,SqT.of (c4 _ _ ha2 nax),rfl,_,rfl,x,_,dx,_,rfl,jab,T.kRows.cl,T.nRowsLeast,Nat.lt_of_le_of_lt (jaI _ _ _ (jaI _ _ _ (jaI _ _ _ (k:=0) (Nat.le_refl _)))) (by decide),?_⟩
  have c5:=c4.upd (.ins D.cRows dx (jaK "least" (.int lo) (jaK "gap" (.str gap) (jaK "parts" (.ref r) (jaK "name" (.str n) [])))))
  refine ⟨_,rfl,a,_,_,_,rfl,rfl,SqT.of (c5 _ _ ha2 nax),rfl,_,rfl,x,_,dx,_,rfl,jab,T.kRows.cl,T.nRowsMost,Nat.lt_of_le_of_lt (jaI _ _ _ (jaI _ _ _ (jaI _ _ _ (jaI _ _ _ (k:=0) (Nat.le_refl _))))) (by decide),?_⟩
  have c6:=c5.upd (.ins D.cRows dx (jih n r gap lo hi))
  refine ⟨_,rfl,x,_,dx,_,_,rfl,jab,T.kRows.cl,T.nRowsName,jjK n r gap lo hi,rfl,_,congrArg (fun b=>[V.bl (!b),_]) (decide_eq_false (fun z=>hn (V.str.inj z))),?_⟩
  refine ⟨_,rfl,x,_,dx,_,_,rfl,jab,T.kRows.cl,T.nRowsGap,jjL n r gap lo hi,gap,0,5,_,rfl,hg,by decide,by decide +kernel,fun H7 e7=>?_⟩
  have hx7:=e7 _ _ jab
  have c7:=Besides.same c6 e7
  refine ⟨_,rfl,x,_,lo,hi,3,rfl,⟨T.kRows.cl,T.nRowsLeast,T.nRowsMost⟩,⟨dx,_,hx7,jda (jjM n r gap lo hi) (jda (jjN n r gap lo hi) jgc)⟩,hb0,hb1,hb2,?_⟩
  refine q _ (fun b o h1 h2=>c7 b o (b2 b o h1 h2) h2) ⟨x,r,ws,rfl,⟨dx,_,hx7,jda (jjK n r gap lo hi) (jda (jnI n r gap lo hi) (jda (jjL n r gap lo hi) (jda (jjM n r gap lo hi) (jda (jjN n r gap lo hi) jgc))))⟩,c7 _ _ hr2' nrx,nr0,?_⟩
  have n1:(jaK "name" (V.str n) []).lookup ("text":Str)=none:=by rw [jbk,if_neg (by decide +kernel)]; rfl
  have n2:(jaK "name" (V.str n) []).lookup ("signs":Str)=none:=by rw [jbk,if_neg (by decide +kernel)]; rfl
  exact Paired.mapP ow fun p v z=>Pc.Obj.besides hx2 n1 n2 c7 z
def AtP (H:Hp) (p:Pie) (v:V):Prop:=p.At H v
def ObP (c:Cl) (H0 H:Hp) (p:Pie) (v:V):Prop:=p.Obj c H0 H v
theorem jlr (T:Txt w K mg D):FnOk P w K mg base CX0 9 D.aPartOf D.dPartOf ["piece","words"] (jhn AtP (ObP D.cl) Pie.ok D.cWords):=by
 have GN:FnOk P w K mg base CX0 1 D.aNeed D.dNeed ["holds","words"] jdq:=jcE T
 have GS:FnOk P w K mg base CX0 3 D.aSayI D.dSayI ["self","piece"] (jjC D):=jjD T
 have GA:FnOk P w K mg base CX0 3 D.aAskI D.dAskI ["self","piece"] (jjE D):=jjF T
 have GR:FnOk P w K mg base CX0 7 D.aRowsI D.dRowsI ["self","piece"] (jjO D):=jlq T
 refine T.fPartOf.ok jmD (fun vs H Q E h=>?_) (fun cdv A outer s H vs Q E hr h=>?_)
 ·obtain ⟨p,v,rfl,_⟩:=h; rfl
 ·obtain ⟨p,v,rfl,hp,ok,q⟩:=h
  have hr1:Room 1 _:=hr.mono (by decide)
  have hr4:Room 4 _:=hr.mono (by decide)
  refine ⟨_,jac (jap (jai GN hr1 rfl T.mNeed T.fNeed.kp T.bNeed .nil jaq (jaa (jlQ (jbb jfl (jal jar rfl T.zLen PySem.boot_len (jaa (pv 0) jad)) jae (jas _)) (jlP (jbb jfs (jam jaj (pv 0) jae (fun _ _=>rfl)) (pv 1) rfl))) (jaa jax jad))))
   (jac (jap (jai GN hr1 rfl T.mNeed T.fNeed.kp T.bNeed .nil jaq (jaa (jbb jaZ (jal jar rfl T.zLen PySem.boot_len (jaa (pv 0) jad)) (jja (kvs:=joh) rfl T.gLen (jjH T) (jam jaj (pv 0) jae (fun _ _=>rfl)) (fun _ _=>rfl)) (jas _)) (jaa jax jad))))
   (jac (jaF (jao jaZ (jam jaj (pv 0) jae (fun _ _=>rfl)) jax (jas _)) (jaf (jat (jbp T.mkSay GS hr4 rfl T.mgSay T.bSayI .nil jaq (jaa (pv 0) jad)))) jav)
   (jac (jaF (jao jaZ (jam jaj (pv 0) jae (fun _ _=>rfl)) jax (jas _)) (jaf (jat (jbp T.mkAsk GA hr4 rfl T.mgAsk T.bAskI .nil jaq (jaa (pv 0) jad)))) jav)
   (jaf (jat (jbp T.mkRows GR hr rfl T.mgRows T.bRowsI .nil jaq (jaa (pv 0) jad))))))),?_⟩
  cases p with
  | one p =>
   cases p with
   | say t =>
    obtain ⟨a,rfl,ha⟩:=hp
    refine ⟨_,rfl,a,_,rfl,.inr (SqT.of ha),_,_,rfl,rfl,_,rfl,jbJ (by show (0:Int) < 2; decide) ⟨_,rfl,a,_,_,_,rfl,rfl,SqT.of ha,rfl,_,rfl,D.cWords,_,rfl,.inr (jeS T),rfl,rfl,_,rfl,?_⟩⟩
    refine ⟨_,rfl,a,_,rfl,.inr (SqT.of ha),_,rfl,a,_,_,_,rfl,rfl,SqT.of ha,rfl,Sum.inr "say",_,rfl,jhl,rfl,_,congrArg (fun b=>[V.bl b,_]) (decide_eq_true rfl),?_⟩
    refine ⟨_,rfl,a,_,_,_,rfl,rfl,SqT.of ha,rfl,rfl,_,rfl,jbJ rfl ⟨_,rfl,fun x dx hx hd ne=>?_⟩⟩
    have k0:=jdi (C:=D.cSay) hx hd
    exact ⟨x,dx,t,_,rfl,jab,⟨a,rfl,k0 _ _ ha⟩,ok,fun H' e o=>⟨rfl,q _ H' (jbH hx hd e) o⟩⟩
   | ask n sg lo hi =>
    obtain ⟨a,rfl,ha⟩:=hp
    refine ⟨_,rfl,a,_,rfl,.inr (SqT.of ha),_,_,rfl,rfl,_,rfl,jbJ (by show (0:Int) < 5; decide) ⟨_,rfl,a,_,_,_,rfl,rfl,SqT.of ha,rfl,_,rfl,D.cWords,_,rfl,.inr (jeS T),rfl,rfl,_,rfl,?_⟩⟩
    refine ⟨_,rfl,a,_,rfl,.inr (SqT.of ha),_,rfl,a,_,_,_,rfl,rfl,SqT.of ha,rfl,Sum.inr "ask",_,rfl,jhm,rfl,_,congrArg (fun b=>[V.bl b,_]) (decide_eq_true rfl),?_⟩
    refine ⟨_,rfl,a,_,_,_,rfl,rfl,SqT.of ha,rfl,rfl,_,rfl,jaJ ne_as ?_⟩
    refine ⟨_,rfl,a,_,_,_,rfl,rfl,SqT.of ha,rfl,rfl,_,rfl,jbJ rfl ⟨_,rfl,fun x dx hx hd ne=>?_⟩⟩
    have k0:=jdi (C:=D.cAsk) hx hd
    exact ⟨x,dx,n,sg,lo,hi,_,rfl,jab,⟨a,rfl,k0 _ _ ha⟩,ok,fun H' e o=>⟨rfl,q _ H' (jbH hx hd e) o⟩⟩
  | rows n inner gap lo hi =>
   obtain ⟨a,l,us,rfl,ha,hl,hi'⟩:=hp
   refine ⟨_,rfl,a,_,rfl,.inr (SqT.of ha),_,_,rfl,rfl,_,rfl,jbJ (by show (0:Int) < 6; decide) ⟨_,rfl,a,_,_,_,rfl,rfl,SqT.of ha,rfl,_,rfl,D.cWords,_,rfl,.inr (jeS T),rfl,rfl,_,rfl,?_⟩⟩
   refine ⟨_,rfl,a,_,rfl,.inr (SqT.of ha),_,rfl,a,_,_,_,rfl,rfl,SqT.of ha,rfl,Sum.inr "rows",_,rfl,jjG,rfl,_,congrArg (fun b=>[V.bl b,_]) (decide_eq_true rfl),?_⟩
   refine ⟨_,rfl,a,_,_,_,rfl,rfl,SqT.of ha,rfl,rfl,_,rfl,jaJ ne_rs ?_⟩
   refine ⟨_,rfl,a,_,_,_,rfl,rfl,SqT.of ha,rfl,rfl,_,rfl,jaJ ne_ra ⟨_,rfl,fun x dx hx hd ne=>?_⟩⟩
   have k0:=jdi (C:=D.cRows) hx hd
   exact ⟨x,dx,n,inner,gap,lo,hi,_,rfl,jab,⟨a,l,us,rfl,k0 _ _ ha,k0 _ _ hl,Paired.mapP hi' fun _ _ z=>Pc.At.mono k0 z⟩,ok,fun H' e o=>⟨rfl,q _ H' (jbH hx hd e) (Pie.Obj.older k0 o)⟩⟩
theorem jjP (T:Txt w K mg D):FnOk P w K mg base CX0 10 D.aPartsOf D.dPartsOf ["pieces","words","most"] (jeb AtP (ObP D.cl) Pie.ok Pie.nm D.cWords 6) :=
 jho T (by decide) (by decide) (jlr T) (fun e _ _ h=>Pie.At.mono e h) (fun e _ _ h=>Pie.Obj.mono e h) (fun e _ _ h=>Pie.Obj.older e h) (fun h=>Pie.Obj.item h) jnH
theorem Fld.away {H:Hp} {a C x C' dx:Addr} {p:Str×V} {fs:List (Str×V)} (h:Fld H a C (p::fs)) (hx:H x=some (.ins C' dx [])):a≠x:=by
 obtain ⟨da,l,hl,hf⟩:=h
 intro e
 rw [e,hx] at hl; cases hl
 have:=hf p List.mem_cons_self
 cases this
theorem Fld.besides {H H':Hp} {a C x C' dx:Addr} {p:Str×V} {fs:List (Str×V)} (hx:H x=some (.ins C' dx [])) (e:Besides x H H') (h:Fld H a C (p::fs)):Fld H' a C (p::fs):=by
 have n:=h.away hx
 obtain ⟨da,l,hl,hf⟩:=h
 exact ⟨da,l,e _ _ hl n,hf⟩
theorem Pc.Obj.aside {c:Cl} {H H':Hp} {x C dx:Addr} (hx:H x=some (.ins C dx [])) (e:Besides x H H'):∀ {p:Pc} {v:V},p.Obj c H v->p.Obj c H' v
 | .say _,_,⟨a,ha,h⟩=>⟨a,ha,h.besides hx e⟩
 | .ask ..,_,⟨a,ha,h⟩=>⟨a,ha,h.besides hx e⟩
theorem Pie.Obj.aside {c:Cl} {H0 H H':Hp} {x C dx:Addr} (hx:H x=some (.ins C dx [])) (e:Besides x H H'):∀ {p:Pie} {v:V},p.Obj c H0 H v->p.Obj c H0 H' v
 | .one p,_,h=>Pc.Obj.aside (p:=p) hx e h
 | .rows ..,_,⟨a,l,us,ha,h,hl,h0,hp⟩=>⟨a,l,us,ha,h.besides hx e,e _ _ hl (jbj hl hx (by intro z; cases z)),h0,Paired.mapP hp fun _ _ z=>z.aside hx e⟩
theorem Pie.AtF.older' {H0 H1 H:Hp} (e:∀ b,H1 b=none->H0 b=none):∀ {p:Pie} {v:V},p.AtF H1 H v->p.AtF H0 H v
 | .one p,_,h=>h
 | .rows ..,_,⟨a,l,vs,h1,h2,h3,h5,h4⟩=>⟨a,l,vs,h1,h2,h3,e _ h5,h4⟩
theorem Pc.At.besides {H H':Hp} {x C dx:Addr} {fs:List (Str×V)} (hx:H x=some (.ins C dx fs)) (e:Besides x H H') {p:Pc} {v:V} (h:p.At H v):p.At H' v:=by
 obtain ⟨a,ha,hl⟩:=h
 exact ⟨a,ha,e _ _ hl (jbj hl hx (by intro z; cases z))⟩
theorem Pie.At.besides {H H':Hp} {x C dx:Addr} {fs:List (Str×V)} (hx:H x=some (.ins C dx fs)) (e:Besides x H H'):∀ {p:Pie} {v:V},p.At H v->p.At H' v
 | .one p,_,h=>Pc.At.besides (p:=p) hx e h
 | .rows ..,_,⟨a,l,us,ha,h,hl,hp⟩=>⟨a,l,us,ha,e _ _ h (jbj h hx (by intro z; cases z)),e _ _ hl (jbj hl hx (by intro z; cases z)),Paired.mapP hp fun _ _ z=>z.besides hx e⟩
theorem Pie.AtF.besides {H0 H H':Hp} {x C dx:Addr} {fs:List (Str×V)} (hx:H x=some (.ins C dx fs)) (e:Besides x H H'):∀ {p:Pie} {v:V},p.AtF H0 H v->p.AtF H0 H' v
 | .one p,_,h=>Pc.At.besides (p:=p) hx e h
 | .rows ..,_,⟨a,l,us,ha,h,hl,h0,hp⟩=>⟨a,l,us,ha,e _ _ h (jbj h hx (by intro z; cases z)),e _ _ hl (jbj hl hx (by intro z; cases z)),h0,Paired.mapP hp fun _ _ z=>z.besides hx e⟩
theorem jpn:FnScope ["self","pieces"] ["self","pieces"] (jag jhj):=⟨rfl,rfl,rfl,by decide +kernel,rfl,by decide +kernel,by decide +kernel⟩
def jjQ (D:Adr):Sp:=fun vs H Q _=>∃ (x dx l:Addr) (us:List V) (ps:List Pie),vs=[.ref x,.ref l]/\H x=some (.ins D.cForm dx [])/\H l=some (.lst us)/\Paired (Pie.At H) ps us/\FormOk ps/\∀ H',Besides x H H'->FormAt D.cl H H' ps (.ref x)->Q .non H'
theorem jls (T:Txt w K mg D):FnOk P w K mg base CX0 11 D.aFormI D.dFormI ["self","pieces"] (jjQ D):=by
 have GP:FnOk P w K mg base CX0 10 D.aPartsOf D.dPartsOf ["pieces","words","most"] (jeb AtP (ObP D.cl) Pie.ok Pie.nm D.cWords 6):=jjP T
 have GC:FnOk P w K mg base CX0 1 D.aCopyOf D.dCopyOf ["piece"] jjB:=jnF T
 refine T.fFormI.ok jpn (fun vs H Q E h=>?_) (fun cdv A outer s H vs Q E hr h=>?_)
 ·obtain ⟨x,dx,l,us,ps,rfl,_⟩:=h; rfl
 ·obtain ⟨x,dx,l,us,ps,rfl,hx,hl,hp,⟨f1,f2,f3,f4⟩,q⟩:=h
  have hr1:Room 1 _:=hr.mono (by decide)
  have hus:us.length=ps.length:=hp.length.symm
  refine ⟨_,jac (jbi (pv 0) (jai GP hr rfl T.mPartsOf T.fPartsOf.kp T.bPartsOf .nil jaq (jaa (pv 1) (jaa (jaV (v:=.ref D.cWords) rfl T.gWords rfl) (jaa jae jad)))) rfl)
   (jaf (jbi (pv 0) (jcB (cp:=[]) (te:=jgk jjB [] E0 (jaR (jbh 0) jdv)) (CompScope.of (jag jhj) ["self","pieces"] rfl rfl (by decide +kernel)) rfl (jaL (pv 1)) (fun _ _ _ _ _=>jcc)
    (fun _ _ _ _ _=>jai GC hr1 rfl T.mCopyOf T.fCopyOf.kp T.bCopyOf .nil jaq (jaa (pv 0) jad))) rfl)),?_⟩
  refine ⟨_,rfl,l,us,ps,rfl,hl,hp,f1,f2,f3,f4,fun r ws H1 e1 nr hr1' ow=>?_⟩
  have hx1:=e1 _ _ hx
  refine ⟨_,rfl,x,_,dx,_,rfl,hx1,T.kForm.cl,T.nFormPlan,(by show 0 < 1000; decide),?_⟩
  have c2:Besides x H1 (L2.upd H1 x (.ins D.cForm dx (jaK "plan" (.ref r) []))):=Besides.refl.upd _
  have nlx:l≠x:=jbj hl hx (by intro z; cases z)
  have nrx:r≠x:=jbj hr1' hx1 (by intro z; cases z)
  have hl2:=c2 _ _ (e1 _ _ hl) nlx
  have hp2:Paired (Pie.At (L2.upd H1 x (.ins D.cForm dx (jaK "plan" (.ref r) [])))) ps us:=Paired.mapP hp fun _ _ z=>(z.mono e1).besides hx1 c2
  generalize hH2:L2.upd H1 x (.ins D.cForm dx (jaK "plan" (.ref r) []))=H2 at c2 hl2 hp2 ⊢
  have hx2:H2 x=some (.ins D.cForm dx (jaK "plan" (.ref r) [])):=by rw [<- hH2]; exact jab
  have old:∀ b,H2 b=none->H b=none:=fun b hb=>by
   cases q0:H b with
   | none=>rfl
   | some o =>
    have nb:b≠x:=fun z=>by rw [z,hx2] at hb; cases hb
    have:=c2 _ _ (e1 _ _ q0) nb
    rw [hb] at this; cases this
  refine ⟨_,rfl,l,rfl,⟨_,SqL.of hl2⟩,jcd (xs:=us) (fun i ys H'=>Same H2 H'/\Paired (Pie.AtF H2 H') (ps.take i) ys) ⟨Same.refl H2,.nil⟩ (fun i ys H' hi e=>⟨SqL.of (e.1 _ _ hl2),?_⟩) (jce (by omega)) (fun i y ys H' hy e=>?_) (fun ys H3 e m hm=>?_)⟩
  ·have:=e.2.length
   rw [List.length_take] at this
   omega
  ·obtain ⟨g1,g2⟩:=e
   obtain ⟨a,ea,pa⟩:=Paired.two hp2 hy
   refine ⟨_,rfl,a,y,rfl,pa.mono g1,fun n inner gap lo hi ez=>?_,fun u H5 g5 o5=>⟨g1.trans g5,?_⟩⟩
   ·have okp:=f3 a (List.mem_of_getElem? ea)
    rw [ez] at okp
    exact Nat.le_trans okp.2.1.hi (by decide)
   ·rw [jau ea]
    exact (Paired.mapP g2 fun _ _ z=>z.mono g5).snoc (Pie.AtF.older g1 o5)
  ·obtain ⟨g1,g2⟩:=e
   rw [hus,List.take_length] at g2
   have g3:=jah hm (.lst ys)
   have hx3:=g3 _ _ (g1 _ _ hx2)
   refine ⟨_,rfl,x,_,dx,_,rfl,hx3,T.kForm.cl,T.nFormPieces,Nat.lt_of_le_of_lt (jaI _ _ _ (k:=0) (Nat.le_refl _)) (by decide),?_⟩
   have c4:Besides x (L2.upd H3 m (.lst ys)) _:=Besides.refl.upd (.ins D.cForm dx (jaK "pieces" (.ref m) (jaK "plan" (.ref r) [])))
   have c14:Besides x H1 _:=fun b o h n=>c4 b o (g3 _ _ (g1 _ _ (c2 b o h n))) n
   have nmx:m≠x:=fun z=>by rw [z] at hm; rw [g1 _ _ hx2] at hm; cases hm
   refine q _ (fun b o h n=>c14 b o (e1 _ _ h) n) ⟨x,r,ws,m,ys,rfl,⟨dx,_,jab,jda (jck (show ("plan":Str)≠"pieces" by decide +kernel) jbW) (jda jbW jgc)⟩,c14 _ _ hr1' nrx,nr,Paired.mapP ow fun _ _ z=>z.aside hx1 c14,c4 _ _ jab nmx,old _ (g1.free hm),?_⟩
   exact Paired.mapP g2 fun _ _ z=>((z.mono g3).besides hx3 c4).older' old
end
theorem jeT {sep:Str} {n:Nat}:∀ {ts:List Str},(∀ t∈ts,t.length+sep.length<=n)->(Str.join sep ts).length<=ts.length * n
 | [],_=>Nat.zero_le _
 | [t],h=>by
  have:=h t List.mem_cons_self
  show t.length<=_
  rw [List.length_singleton,Nat.one_mul]
  omega
 | t::u::r,h=>by
  have h1:=h t List.mem_cons_self
  have h2:=jeT (ts:=u::r) fun x hx=>h x (List.mem_cons_of_mem _ hx)
  show ((t++sep)++Str.join sep (u::r)).length<=_
  rw [strLen_append,strLen_append,List.length_cons,Nat.succ_mul]
  omega
theorem jeU {n:Nat} {ts:List Str} (h:∀ t∈ts,t.length<=n):(cat ts).length<=ts.length * n:=jeT fun t ht=>by show t.length+0<=n; exact h t ht
theorem jgA {f:Row}:∀ {p:Pc},p.ok->FitPc f p->(wPc f p).length<=12
 | .say t,h,_=>h.hi
 | .ask n sg lo hi,⟨_,_,_,_,_,h4⟩,⟨t,e,ft⟩=>by
  have:=ft.hi
  show ((f n).getD Str.empty).length<=12
  rw [e]
  show t.length<=12
  omega
theorem jhp {ps:List Pc} {f:Row} (h:PartsOk ps) (hf:jha ps f):(jkD ps f).length<=36:=by
 have:=jeU (n:=12) (ts:=ps.map (wPc f)) fun t ht=>by
  obtain ⟨p,hp,rfl⟩:=List.mem_map.mp ht
  exact jgA (h.all p hp) (hf p hp)
 have h3:=h.hi
 rw [List.length_map] at this
 unfold jkD
 omega
theorem jhq {F:Vs} {n sg t:Str} {lo hi:Int} (e:F n=some (.text t)):jjj F (.one (.ask n sg lo hi))=t:=by
 show (match F n with | some (.text t)=>t | _=>Str.empty)=t
 rw [e]
theorem jfN {F:Vs} {n gap:Str} {inner:List Pc} {rs:List Row} {lo hi:Int} (e:F n=some (.rows rs)):jjj F (.rows n inner gap lo hi)=Str.join gap (rs.map (jkD inner)):=by
 show (match F n with | some (.rows rs)=>Str.join gap (rs.map (jkD inner)) | _=>Str.empty)=_
 rw [e]
theorem jjR {f:Row} {n sg t:Str} {lo hi:Int} (e:f n=some t):wPc f (.ask n sg lo hi)=t:=by
 show (f n).getD Str.empty=t
 rw [e]; rfl
theorem jeV {F:Vs}:∀ {p:Pie},p.ok->jfH F p->(jjj F p).length<=150
 | .one (.say t),h,_=>Nat.le_trans h.hi (by decide)
 | .one (.ask n sg lo hi),⟨_,_,_,_,_,h4⟩,⟨t,e,ft⟩=>by
  have:=ft.hi
  rw [jhq e]
  omega
 | .rows n inner gap lo hi,⟨_,hp,hg,_,_,h3⟩,⟨rs,e,_,h2,hf⟩=>by
  rw [jfN e]
  have:=jeT (sep:=gap) (n:=41) (ts:=rs.map (jkD inner)) fun t ht=>by
   obtain ⟨f,hf',rfl⟩:=List.mem_map.mp ht
   have h1:=jhp hp (hf f hf')
   have h2:=hg.hi
   omega
  rw [List.length_map] at this
  omega
open Mth (Stp xText xAsk xL x1 xRows xQ xF MP MQ)
abbrev tl (z:Str):List Nat:=z.cps.toList
def mPc:Pc->MP
 | .say t=>.say (tl t)
 | .ask _ sg lo hi=>.ask (tl sg) lo.toNat hi.toNat
def mPie:Pie->MQ
 | .one p=>.one (mPc p)
 | .rows _ inner gap lo hi=>.rows (inner.map mPc) (tl gap) lo.toNat hi.toNat
def StpAt (D:Adr) (H:Hp):Stp->V->Prop
 | .sign s,v=>∃ a z,v=.ref a/\tl z=s/\Fld H a D.cSign [("signs",.str z)]
 | .choice b,v=>∃ a,v=.ref a/\Fld H a D.cChoice [("behind",.int (b:Nat))]
def StA (D:Adr) (H:Hp) (l:Addr) (S:List Stp):Prop:=∃ us,H l=some (.lst us)/\Paired (StpAt D H) S us
theorem Fld.besL {H H':Hp} {l a C:Addr} {us:List V} {fs:List (Str×V)} (hl:H l=some (.lst us)) (e:Besides l H H') (h:Fld H a C fs):Fld H' a C fs:=by
 obtain ⟨dx,g,h1,h2⟩:=h
 exact ⟨dx,g,e _ _ h1 (jbj h1 hl (by intro z; cases z)),h2⟩
theorem StpAt.besL {D:Adr} {H H':Hp} {l:Addr} {us:List V} (hl:H l=some (.lst us)) (e:Besides l H H'):∀ {s:Stp} {v:V},StpAt D H s v->StpAt D H' s v
 | .sign _,_,⟨a,z,h1,h2,h3⟩=>⟨a,z,h1,h2,h3.besL hl e⟩
 | .choice _,_,⟨a,h1,h3⟩=>⟨a,h1,h3.besL hl e⟩
theorem StpAt.mono {D:Adr} {H H':Hp} (e:Same H H'):∀ {s:Stp} {v:V},StpAt D H s v->StpAt D H' s v
 | .sign _,_,⟨a,z,h1,h2,h3⟩=>⟨a,z,h1,h2,h3.mono e⟩
 | .choice _,_,⟨a,h1,h3⟩=>⟨a,h1,h3.mono e⟩
theorem StA.mono {D:Adr} {H H':Hp} (e:Same H H') {l:Addr} {S:List Stp} (h:StA D H l S):StA D H' l S:=by
 obtain ⟨us,h1,h2⟩:=h
 exact ⟨us,e _ _ h1,Paired.mapP h2 fun _ _ z=>z.mono e⟩
theorem Besides.trans {x:Addr} {H H' H2:Hp} (e:Besides x H H') (g:Besides x H' H2):Besides x H H2:=fun b o h n=>g b o (e b o h n) n
theorem Besides.of {x:Addr} {H H':Hp} (g:Same H H'):Besides x H H':=fun b o h _=>g b o h
theorem jaE {Hb H H':Hp} {l:Addr} (h:Same Hb H) (hl:Hb l=none) (e:Besides l H H'):Same Hb H':=fun b o q=>e b o (h b o q) (ne_of_none q hl)
theorem jaw {n:Nat} (h:n<=100000):n < sizeLine:=Nat.lt_of_le_of_lt h (by unfold sizeLine; decide)
theorem Paired.snoc {α β:Type} {F:α->β->Prop} {as:List α} {bs:List β} {a:α} {b:β} (h:Paired F as bs) (e:F a b):Paired F (as++[a]) (bs++[b]):=by
 induction h with
 | nil=>exact .cons e .nil
 | cons r _ ih=>exact .cons r ih
theorem jcS {D:Adr} {H:Hp} {l x dx C:Addr} {us:List V} {S:List Stp} {st:Stp} {fs:List (Str×V)} (hl:H l=some (.lst us)) (hp:Paired (StpAt D H) S us) (hx:H x=none) (hd:H dx=none)
  (hs:∀ H',Fld H' x C fs->StpAt D H' st (.ref x)) {fs':List (Str×V)} (hf:∀ p∈fs,fs'.lookup p.1=some p.2) :
  let H1:=L2.upd (L2.upd (L2.upd H dx (.own x)) x (.ins C dx [])) x (.ins C dx fs')
  H1 l=some (.lst us)/\Besides l H (L2.upd H1 l (.lst (us++[.ref x])))/\StA D (L2.upd H1 l (.lst (us++[.ref x]))) l (S++[st]):=by
 intro H1
 have s1:Same H H1:=jbH (C:=C) hx hd (Besides.refl.upd _)
 have b1:Besides l H (L2.upd H1 l (.lst (us++[.ref x]))):=(Besides.of s1).upd _
 have nx:x≠l:=fun z=>by rw [z] at hx; rw [hl] at hx; cases hx
 refine ⟨s1 _ _ hl,b1,us++[.ref x],jab,Paired.snoc (Paired.mapP hp fun _ _ z=>z.besL hl b1) (hs _ ⟨dx,fs',?_,hf⟩)⟩
 rw [upd_ne nx]; exact jab
section
variable {P:Program} {w:World} {K:PySem.W.Frag} {mg:Str->Option Value} {base:Heap} {D:Adr}
theorem jpo:FnScope ["self","signs"] ["self","signs"] (jag jjA):=⟨rfl,rfl,rfl,by decide +kernel,rfl,by decide +kernel,by decide +kernel⟩
def jeW (D:Adr):Sp:=fun vs H Q _=>∃ (x dx:Addr) (z:Str),vs=[.ref x,.str z]/\H x=some (.ins D.cSign dx [])/\Q .non (L2.upd H x (.ins D.cSign dx (jaK "signs" (.str z) [])))
theorem jeX (T:Txt w K mg D):FnOk P w K mg base CX0 1 D.aSignI D.dSignI ["self","signs"] (jeW D):=by
 refine T.fSignI.ok jpo (fun vs H Q E h=>?_) (fun cdv A outer s H vs Q E hr h=>?_)
 ·obtain ⟨x,dx,z,rfl,_⟩:=h; rfl
 ·obtain ⟨x,dx,z,rfl,hx,q⟩:=h
  refine ⟨_,jaf (jbi (pv 0) (pv 1) rfl),?_⟩
  exact ⟨_,rfl,_,rfl,x,_,dx,_,rfl,hx,T.kSign.cl,T.nSignSigns,(by show 0 < 1000; decide),q⟩
theorem jlt:FnScope ["self","behind"] ["self","behind"] (jag jeQ):=⟨rfl,rfl,rfl,by decide +kernel,rfl,by decide +kernel,by decide +kernel⟩
def jec (D:Adr):Sp:=fun vs H Q _=>∃ (x dx:Addr) (z:Int),vs=[.ref x,.int z]/\H x=some (.ins D.cChoice dx [])/\Q .non (L2.upd H x (.ins D.cChoice dx (jaK "behind" (.int z) [])))
theorem jev (T:Txt w K mg D):FnOk P w K mg base CX0 1 D.aChoiceI D.dChoiceI ["self","behind"] (jec D):=by
 refine T.fChoiceI.ok jlt (fun vs H Q E h=>?_) (fun cdv A outer s H vs Q E hr h=>?_)
 ·obtain ⟨x,dx,z,rfl,_⟩:=h; rfl
 ·obtain ⟨x,dx,z,rfl,hx,q⟩:=h
  refine ⟨_,jaf (jbi (pv 0) (pv 1) rfl),?_⟩
  exact ⟨_,rfl,_,rfl,x,_,dx,_,rfl,hx,T.kChoice.cl,T.nChoiceBehind,(by show 0 < 1000; decide),q⟩
theorem jmF {z:Str} {x:Addr} (H':Hp) (h:Fld H' x D.cSign [("signs",.str z)]):StpAt D H' (.sign (tl z)) (.ref x):=⟨x,z,rfl,rfl,h⟩
theorem jeY {b:Nat} {x:Addr} (H':Hp) (h:Fld H' x D.cChoice [("behind",.int (b:Nat))]):StpAt D H' (.choice b) (.ref x):=⟨x,rfl,h⟩
theorem scAT:FnScope ["steps","text","sign"] ["steps","text"] (jag jeJ):=⟨rfl,rfl,rfl,by decide +kernel,rfl,by decide +kernel,by decide +kernel⟩
def spAT (D:Adr):Sp:=fun vs H Q _=>∃ (l:Addr) (z:Str) (S:List Stp),vs=[.ref l,.str z]/\StA D H l S/\S.length+z.length<=100000/\∀ H',Besides l H H'->StA D H' l (S++(xText (tl z)).reverse)->Q .non H'
theorem jcT (z:List Nat):(xText z).length=z.length:=by unfold xText; simp
theorem jnJ {z:List Nat} {i c:Nat} (h:z[z.length - 1 - i]?=some c) (hi:i < z.length):z.reverse[i]?=some c:=by rw [List.getElem?_reverse hi]; exact h
theorem jpp (T:Txt w K mg D):FnOk P w K mg base CX0 3 D.aAddText D.dAddText ["steps","text"] (spAT D):=by
 have G:FnOk P w K mg base CX0 1 D.aSignI D.dSignI ["self","signs"] (jeW D):=jeX T
 refine T.fAddText.ok scAT (fun vs H Q E h=>?_) (fun cdv A outer s H vs Q E hr h=>?_)
 ·obtain ⟨l,z,S,rfl,_⟩:=h; rfl
 ·obtain ⟨l,z,S,rfl,hS,hz,q⟩:=h
  refine ⟨_,jaf (jaN PassesOwn.never rfl (jju rfl T.zReversed (jaa (pv 1) jad)) (jaB (i:=2) scAT.nd rfl (Or.inl rfl))
   (jaf (jap (jbv PySem.F.plainAttrs_list PySem.F.slot_list_append PySem.F.type_list_append jay (pv 0) (jaa (jbp T.mkSign G hr rfl T.mgSign T.bSignI .nil jaq (jaa (pv 2) jad)) jad))))),?_⟩
  refine ⟨_,rfl,z,rfl,Nat.le_of_lt (jaw (by omega)),jif (z:=z) (fun i σ H'=>(∃ o,σ=[some (.ref l),some (.str z),o])/\Besides l H H'/\StA D H' l (S++(xText (tl z)).reverse.take i)) ⟨⟨none,rfl⟩,Besides.refl,by rw [List.take_zero,List.append_nil]; exact hS⟩ (fun i c σ H' hi hc e=>?_) (fun σ H' e=>?_)⟩
  ·obtain ⟨⟨o,rfl⟩,e1,us,hl,hp⟩:=e
   have hlen:us.length<=S.length+i:=by rw [<- hp.length,List.length_append,List.length_take]; omega
   have hi':i < z.length:=hi
   refine ⟨_,rfl,.inl ⟨rfl,_,SqL.of hl⟩,_,rfl,fun x dx hx hd ne=>⟨x,dx,_,rfl,jab,⟨rfl,?_⟩⟩⟩
   obtain ⟨k1,k2,k3⟩:=jcS (D:=D) hl hp hx hd (C:=D.cSign) (st:=.sign (tl ⟨#[c]⟩)) (fun H' h=>jmF H' h) (fs':=jaK "signs" (.str ⟨#[c]⟩) []) (jda jbW jgc)
   refine ⟨l,_,_,rfl,rfl,k1,jaw (by omega),⟨_,rfl⟩,e1.trans k2,?_⟩
   have ec:(xText (tl z)).reverse[i]?=some (.sign (tl ⟨#[c]⟩)):=by
    have h1:(tl z).reverse[i]?=some c:=jnJ (by rw [Array.length_toList,Array.getElem?_toList]; exact hc) (by rw [Array.length_toList]; exact hi)
    unfold xText
    rw [<- List.map_reverse,List.getElem?_map,h1]
    rfl
   rw [jau ec,<- List.append_assoc]
   exact k3
  ·obtain ⟨⟨o,rfl⟩,e1,e2⟩:=e
   rw [List.take_of_length_le (by rw [List.length_reverse,jcT,Array.length_toList]; exact Nat.le_refl _)] at e2
   exact q _ e1 e2
end
theorem jeZ (m:Nat) (sg:List Nat) (lo:Nat):∀ f k,(xAsk m sg lo f k).length<=2 * f
 | 0,_=>Nat.le_refl _
 | f+1,k=>by
  have:=jeZ m sg lo f (k+1)
  unfold xAsk
  rw [List.length_append,List.length_cons]
  split <;> simp <;> omega
theorem jjS (m:Nat) (sg:List Nat) (lo f k:Nat):(xAsk m sg lo (f+1) k).reverse=(xAsk m sg lo f (k+1)).reverse++[.sign sg]++(if lo<=k then [.choice m] else []):=by
 rw [xAsk]
 split <;> simp
section
variable {P:Program} {w:World} {K:PySem.W.Frag} {mg:Str->Option Value} {base:Heap} {D:Adr}
theorem scAF:FnScope ["steps","ask","behind","length"] ["steps","ask"] (jag jdT):=⟨rfl,rfl,rfl,by decide +kernel,rfl,by decide +kernel,by decide +kernel⟩
def spAF (D:Adr):Sp:=fun vs H Q _=>∃ (l:Addr) (v:V) (Hb:Hp) (n sg:Str) (lo hi:Int) (S:List Stp),vs=[.ref l,v]/\Same Hb H/\Hb l=none/\(Pc.ask n sg lo hi).Obj D.cl Hb v/\(0<=lo/\lo<=hi/\hi<=4)/\StA D H l S/\1<=S.length/\S.length+8<=100000 /\
 ∀ H',Besides l H H'->StA D H' l (S++(x1 (S.length - 1) (mPc (.ask n sg lo hi))).reverse)->Q .non H'
theorem ok_AF (T:Txt w K mg D):FnOk P w K mg base CX0 3 D.aAddField D.dAddField ["steps","ask"] (spAF D):=by
 have G:FnOk P w K mg base CX0 1 D.aSignI D.dSignI ["self","signs"] (jeW D):=jeX T
 have GC:FnOk P w K mg base CX0 1 D.aChoiceI D.dChoiceI ["self","behind"] (jec D):=jev T
 refine T.fAddField.ok scAF (fun vs H Q E h=>?_) (fun cdv A outer s H vs Q E hr h=>?_)
 ·obtain ⟨l,v,Hb,n,sg,lo,hi,S,rfl,_⟩:=h; rfl
 ·obtain ⟨l,v,Hb,n,sg,lo,hi,S,rfl,sb,nb,⟨a,rfl,dx,fs,ha,hf⟩,⟨b0,b1,b2⟩,hS,h1,hz,q⟩:=h
  have es:=hf ("signs",.str sg) (List.mem_cons_of_mem _ List.mem_cons_self)
  have el:=hf ("least",.int lo) (List.mem_cons_of_mem _ (List.mem_cons_of_mem _ List.mem_cons_self))
  have em:=hf ("most",.int hi) (List.mem_cons_of_mem _ (List.mem_cons_of_mem _ (List.mem_cons_of_mem _ List.mem_cons_self)))
  have cl:Cls K D.cl.ask:=T.kAsk.cl
  have ns:NoAttr K D.cl.ask "signs":=T.nAskSigns
  have nl:NoAttr K D.cl.ask "least":=T.nAskLeast
  have nm:NoAttr K D.cl.ask "most":=T.nAskMost
  refine ⟨_,jac (jak (i:=2) scAF.nd rfl (Or.inl rfl) (jan jbY (jal jar rfl T.zLen PySem.boot_len (jaa (pv 0) jad)) jae))
   (jaf (jaN PassesOwn.never rfl (jfL rfl T.zRange (jaa (jan jbY (jaD (pv 1) rfl) jae) (jaa (jgh jdF jae) (jaa (jgh jdF jae) jad)))) (jaB (i:=3) scAF.nd rfl (Or.inl rfl))
    (jac (jap (jbv PySem.F.plainAttrs_list PySem.F.slot_list_append PySem.F.type_list_append jay (pv 0) (jaa (jbp T.mkSign G hr rfl T.mgSign T.bSignI .nil jaq (jaa (jaD (pv 1) rfl) jad)) jad)))
    (jaf (jaF (jao jkL (pv 3) (jaD (pv 1) rfl) (jas _)) (jaf (jap (jbv PySem.F.plainAttrs_list PySem.F.slot_list_append PySem.F.type_list_append jay (pv 0) (jaa (jbp T.mkChoice GC hr rfl T.mgChoice T.bChoiceI .nil jaq (jaa (pv 2) jad)) jad)))) jav))))),?_⟩
  obtain ⟨us0,hl0,hp0⟩:=id hS
  have ha0:=sb _ _ ha
  have hm:(us0.length:Int) - 1=((S.length - 1:Nat):Int):=by rw [<- hp0.length]; omega
  refine ⟨_,rfl,l,us0,rfl,.inl (SqL.of hl0),_,_,rfl,rfl,?_⟩
  refine ⟨_,rfl,a,_,dx,_,_,rfl,ha0,cl,nm,em,_,_,rfl,rfl,_,rfl,_,rfl,_,_,rfl,⟨by omega,by omega,by omega,by omega⟩,?_⟩
  have hn:(hi - 1 - -1).toNat=hi.toNat:=by congr 1; omega
  refine jet (fun i σ H'=>(∃ o,σ=[some (.ref l),some (.ref a),some (.int ((us0.length:Int) - 1)),o])/\Besides l H H'/\StA D H' l (S++(xAsk (S.length - 1) (tl sg) lo.toNat i (hi.toNat - i)).reverse)) ⟨⟨none,rfl⟩,Besides.refl,by rw [xAsk,List.reverse_nil,List.append_nil]; exact hS⟩ (fun i σ H' hi' e=>?_) (fun σ H' e=>?_)
  ·obtain ⟨⟨o,rfl⟩,e1,us,hl,hp⟩:=e
   rw [hn] at hi'
   have xl:=jeZ (S.length - 1) (tl sg) lo.toNat i (hi.toNat - i)
   have hlen:us.length<=S.length+2 * i:=by rw [<- hp.length,List.length_append,List.length_reverse]; omega
   have hk:hi.toNat - (i+1)+1=hi.toNat - i:=by omega
   have ha1:=jaE sb nb e1 _ _ ha
   refine ⟨_,rfl,.inl ⟨rfl,_,SqL.of hl⟩,_,rfl,a,_,dx,_,_,rfl,ha1,cl,ns,es,fun x dx' hx hd ne=>⟨x,dx',_,rfl,jab,⟨rfl,?_⟩⟩⟩
   obtain ⟨k1,k2,k3⟩:=jcS (D:=D) hl hp hx hd (C:=D.cSign) (st:=.sign (tl sg)) (fun H' h=>jmF H' h) (fs':=jaK "signs" (.str sg) []) (jda jbW jgc)
   refine ⟨l,_,_,rfl,rfl,k1,jaw (by omega),?_⟩
   generalize hG:L2.upd (L2.upd (L2.upd (L2.upd H' dx' (.own x)) x (.ins D.cSign dx' [])) x (.ins D.cSign dx' (jaK "signs" (.str sg) []))) l (.lst (us++[.ref x]))=G2 at k2 k3
   have e2:=e1.trans k2
   have ha2:=jaE sb nb e2 _ _ ha
   obtain ⟨us2,hl2,hp2⟩:=id k3
   have hlen2:us2.length<=S.length+2 * i+1:=by rw [<- hp2.length,List.length_append,List.length_append,List.length_reverse,List.length_singleton]; omega
   refine ⟨_,rfl,_,rfl,a,_,dx,_,_,rfl,ha2,cl,nl,el,_,_,rfl,rfl,_,rfl,?_⟩
   by_cases hc:hi - 1 - (i:Int) ≥ lo
   ·refine jbJ hc ⟨_,rfl,.inl ⟨rfl,_,SqL.of hl2⟩,_,rfl,fun y dy hy hdy ne'=>⟨y,dy,_,rfl,jab,⟨rfl,?_⟩⟩⟩
    obtain ⟨j1,j2,j3⟩:=jcS (D:=D) hl2 hp2 hy hdy (C:=D.cChoice) (st:=.choice (S.length - 1)) (fun H' h=>jeY H' h) (fs':=jaK "behind" (.int ((us0.length:Int) - 1)) []) (jda (by rw [hm]; exact jbW) jgc)
    refine ⟨l,_,_,rfl,rfl,j1,jaw (by omega),⟨_,rfl⟩,e2.trans j2,?_⟩
    rw [jjS,if_pos (by omega),hk,<- List.append_assoc,<- List.append_assoc]
    exact j3
   ·refine jaJ hc ⟨⟨_,rfl⟩,e2,?_⟩
    rw [jjS,if_neg (by omega),List.append_nil,hk,<- List.append_assoc]
    exact k3
  ·obtain ⟨⟨o,rfl⟩,e1,e2⟩:=e
   rw [hn,Nat.sub_self] at e2
   exact q _ e1 e2
end
theorem jmG {m:Nat}:∀ {p:Pc},p.ok->(x1 m (mPc p)).length<=12
 | .say t,h=>by
  show (xText (tl t)).length<=12
  rw [jcT,Array.length_toList]
  exact h.hi
 | .ask n sg lo hi,⟨_,_,_,h1,h2,h4⟩=>by
  have:=jeZ m (tl sg) lo.toNat hi.toNat 0
  show (xAsk m (tl sg) lo.toNat hi.toNat 0).length<=12
  omega
theorem jjT {m:Nat}:∀ {ps:List Pc},(∀ p∈ps,p.ok)->(xL m (ps.map mPc)).length<=12 * ps.length
 | [],_=>Nat.le_refl _
 | p::ps,h=>by
  have h1:=jjT (m:=m) (ps:=ps) fun q hq=>h q (List.mem_cons_of_mem _ hq)
  have h2:=jmG (m:=m+(xL m (ps.map mPc)).length) (h p List.mem_cons_self)
  rw [List.map_cons,xL,List.length_append,List.length_cons]
  omega
theorem jed {m:Nat} {inner:List MP} {gap:List Nat} {lo n:Nat} (hi:∀ m,(xL m inner).length<=n):∀ f k,(xRows m inner gap lo f k).length<=f * (n+gap.length+1)
 | 0,_=>Nat.zero_le _
 | f+1,k=>by
  have h1:=jed (m:=m) (gap:=gap) (lo:=lo) hi f (k+1)
  have h2:=hi (m+(xRows m inner gap lo f (k+1)).length)
  rw [xRows,List.length_append,List.length_append,List.length_append,Nat.succ_mul]
  have a:(if lo<=k then [Stp.choice m] else []).length<=1:=by split <;> simp
  have b:(if k=0 then [] else xText gap).length<=gap.length:=by split <;> simp [jcT]
  omega
theorem jpq {m:Nat}:∀ {p:Pie},p.ok->(xQ m (mPie p)).length<=130
 | .one p,h=>Nat.le_trans (jmG (m:=m) (p:=p) h) (by decide)
 | .rows n inner gap lo hi,⟨_,hp,hg,h1,h2,h3⟩=>by
  have e:∀ m,(xL m (inner.map mPc)).length<=36:=fun m=>Nat.le_trans (jjT hp.all) (by have:=hp.hi; omega)
  have:=jed (m:=m) (gap:=tl gap) (lo:=lo.toNat) e hi.toNat 0
  have g5:(tl gap).length<=5:=by rw [Array.length_toList]; exact hg.hi
  show (xRows m (inner.map mPc) (tl gap) lo.toNat hi.toNat 0).length<=130
  have h3':hi.toNat<=3:=by omega
  refine Nat.le_trans this (Nat.le_trans (Nat.mul_le_mul h3' (Nat.succ_le_succ (Nat.add_le_add_left g5 36))) (by decide))
theorem jjU {m:Nat}:∀ {ps:List Pie},(∀ p∈ps,p.ok)->(xF m (ps.map mPie)).length<=130 * ps.length
 | [],_=>Nat.le_refl _
 | p::ps,h=>by
  have h1:=jjU (m:=m) (ps:=ps) fun q hq=>h q (List.mem_cons_of_mem _ hq)
  have h2:=jpq (m:=m+(xF m (ps.map mPie)).length) (h p List.mem_cons_self)
  rw [List.map_cons,xF,List.length_append,List.length_cons]
  omega
theorem jmH {m:Nat}:∀ ps:List Pc,xF m ((ps.map Pie.one).map mPie)=xL m (ps.map mPc)
 | []=>rfl
 | p::ps=>by
  rw [List.map_cons,List.map_cons,xF,jmH ps,List.map_cons,xL]
  rfl
theorem jlu (m:Nat) (inner:List MP) (gap:List Nat) (lo f k:Nat):(xRows m inner gap lo (f+1) k).reverse=(((xRows m inner gap lo f (k+1)).reverse++(xL (m+(xRows m inner gap lo f (k+1)).length) inner).reverse)++(if k=0 then [] else (xText gap).reverse))++(if lo<=k then [.choice m] else []):=by
 rw [xRows]
 split <;> split <;> simp
def jhr:Pie->Prop
 | .one _=>False
 | .rows ..=>True
section
variable {P:Program} {w:World} {K:PySem.W.Frag} {mg:Str->Option Value} {base:Heap} {D:Adr}
theorem scAR:FnScope ["steps","rows","behind","number"] ["steps","rows"] (jag jeK):=⟨rfl,rfl,rfl,by decide +kernel,rfl,by decide +kernel,by decide +kernel⟩
def spAR (D:Adr) (okr:Prop) (c:Nat):Sp:=fun vs H Q _=>∃ (l:Addr) (v:V) (H0 Hb:Hp) (p:Pie) (S:List Stp),vs=[.ref l,v]/\okr/\Same Hb H/\Hb l=none/\p.Obj D.cl H0 Hb v/\p.ok/\jhr p/\StA D H l S/\1<=S.length/\S.length+c<=100000 /\
 ∀ H',Besides l H H'->StA D H' l (S++(xQ (S.length - 1) (mPie p)).reverse)->Q .non H'
theorem jpr (T:Txt w K mg D) {c:Nat}:FnOk P w K mg base CX0 3 D.aAddRows D.dAddRows ["steps","rows"] (spAR D False c):=by
 refine T.fAddRows.ok scAR (fun vs H Q E h=>?_) (fun cdv A outer s H vs Q E hr h=>?_)
 ·obtain ⟨l,v,H0,Hb,p,S,rfl,z,_⟩:=h; exact z.elim
 ·obtain ⟨l,v,H0,Hb,p,S,rfl,z,_⟩:=h; exact z.elim
theorem scAP:FnScope ["steps","parts","part"] ["steps","parts"] (jag jdS):=⟨rfl,rfl,rfl,by decide +kernel,rfl,by decide +kernel,by decide +kernel⟩
def spAP (D:Adr) (okr:Prop) (c:Nat):Sp:=fun vs H Q _=>∃ (l m:Addr) (H0 Hb:Hp) (ps:List Pie) (us:List V) (S:List Stp),vs=[.ref l,.ref m]/\Same Hb H/\Hb l=none/\Hb m=some (.lst us)/\Paired (Pie.Obj D.cl H0 Hb) ps us/\(∀ p∈ps,p.ok/\(jhr p->okr))/\StA D H l S/\1<=S.length/\S.length+130 * ps.length+c<=100000 /\
 ∀ H',Besides l H H'->StA D H' l (S++(xF (S.length - 1) (ps.map mPie)).reverse)->Q .non H'
theorem jps (T:Txt w K mg D) {okr:Prop} {k c:Nat} (hc:12<=c) (hk:3<=k) (GR:FnOk P w K mg base CX0 k D.aAddRows D.dAddRows ["steps","rows"] (spAR D okr c)):FnOk P w K mg base CX0 (k+1) D.aAddParts D.dAddParts ["steps","parts"] (spAP D okr c):=by
 have GT:FnOk P w K mg base CX0 3 D.aAddText D.dAddText ["steps","text"] (spAT D):=jpp T
 have GF:FnOk P w K mg base CX0 3 D.aAddField D.dAddField ["steps","ask"] (spAF D):=ok_AF T
 refine T.fAddParts.ok scAP (fun vs H Q E h=>?_) (fun cdv A outer s H vs Q E hr h=>?_)
 ·obtain ⟨l,m,H0,Hb,ps,us,S,rfl,_⟩:=h; rfl
 ·obtain ⟨l,m,H0,Hb,ps,us,S,rfl,sb,nb,hm,hp,hok,hS,h1,hz,q⟩:=h
  have hr3:Room 3 _:=hr.mono hk
  have hus:us.length=ps.length:=hp.length.symm
  refine ⟨_,jaf (jaN PassesOwn.never rfl (jie rfl T.zReversed (jaa (pv 1) jad)) (jaB (i:=2) scAP.nd rfl (Or.inl rfl))
   (jaf (jaF (jbu (jal jbc rfl T.zIsinstance PyProof.Rows.boot_isinstance (jaa (pv 2) (jaa (jaV (v:=.ref D.cSay) rfl T.mgSay rfl) jad))))
    (jaf (jap (jai GT hr3 rfl T.mAddText T.fAddText.kp T.bAddText .nil jaq (jaa (pv 0) (jaa (jaD (pv 2) rfl) jad)))))
    (jaf (jaF (jbu (jal jbc rfl T.zIsinstance PyProof.Rows.boot_isinstance (jaa (pv 2) (jaa (jaV (v:=.ref D.cAsk) rfl T.mgAsk rfl) jad))))
     (jaf (jap (jai GF hr3 rfl T.mAddField T.fAddField.kp T.bAddField .nil jaq (jaa (pv 0) (jaa (pv 2) jad)))))
     (jaf (jap (jai GR hr rfl T.mAddRows T.fAddRows.kp T.bAddRows .nil jaq (jaa (pv 0) (jaa (pv 2) jad)))))))))),?_⟩
  have hm0:=sb _ _ hm
  refine ⟨_,rfl,m,us,rfl,SqL.of hm0,jgs (xs:=us) (fun i σ H'=>(∃ o,σ=[some (.ref l),some (.ref m),o])/\Besides l H H'/\StA D H' l (S++(xF (S.length - 1) ((ps.drop (ps.length - i)).map mPie)).reverse)) ⟨⟨none,rfl⟩,Besides.refl,?_⟩ (fun i σ H' hi e=>SqL.of (jaE sb nb e.2.1 _ _ hm)) (fun i x σ H' hi hx e=>?_) (fun σ H' e=>?_)⟩
  ·rw [Nat.sub_zero,List.drop_length,List.map_nil,xF,List.reverse_nil,List.append_nil]; exact hS
  ·obtain ⟨⟨o,rfl⟩,e1,e2⟩:=e
   have sb1:=jaE sb nb e1
   rw [hus] at hx hi
   obtain ⟨p,ep,po⟩:=Paired.two hp hx
   have pm:=List.mem_of_getElem? ep
   obtain ⟨okp,pr⟩:=hok p pm
   have ed:ps.drop (ps.length - (i+1))=p::ps.drop (ps.length - i):=by
    rw [show ps.length - (i+1)=ps.length - 1 - i by omega,List.drop_eq_getElem?_toList_append,ep]
    rw [show ps.length - 1 - i+1=ps.length - i by omega]; rfl
   have fin:∀ H2,Besides l H' H2->StA D H2 l ((S++(xF (S.length - 1) ((ps.drop (ps.length - i)).map mPie)).reverse)++(xQ ((S++(xF (S.length - 1) ((ps.drop (ps.length - i)).map mPie)).reverse).length - 1) (mPie p)).reverse) ->
     (Besides l H H2/\StA D H2 l (S++(xF (S.length - 1) ((ps.drop (ps.length - (i+1))).map mPie)).reverse)):=fun H2 b s2=>by
    refine ⟨e1.trans b,?_⟩
    rw [ed,List.map_cons,xF,List.reverse_append,<- List.append_assoc]
    rw [show (S++(xF (S.length - 1) ((ps.drop (ps.length - i)).map mPie)).reverse).length - 1=S.length - 1+(xF (S.length - 1) ((ps.drop (ps.length - i)).map mPie)).length by rw [List.length_append,List.length_reverse]; omega] at s2
    exact s2
   have xl:=jjU (m:=S.length - 1) (ps:=ps.drop (ps.length - i)) fun q hq=>(hok q (List.mem_of_mem_drop hq)).1
   have hd:(ps.drop (ps.length - i)).length<=ps.length:=by rw [List.length_drop]; omega
   have hT:(S++(xF (S.length - 1) ((ps.drop (ps.length - i)).map mPie)).reverse).length+c<=100000:=by
    rw [List.length_append,List.length_reverse]
    have:=Nat.mul_le_mul_left 130 hd
    omega
   have hT1:1<=(S++(xF (S.length - 1) ((ps.drop (ps.length - i)).map mPie)).reverse).length:=by rw [List.length_append]; omega
   generalize S++(xF (S.length - 1) ((ps.drop (ps.length - i)).map mPie)).reverse=S1 at *
   cases p with
   | one p =>
    cases p with
    | say t =>
     obtain ⟨a,rfl,dx,fs,ha,hf⟩:=po
     have t12:t.length<=12:=okp.hi
     refine ⟨_,rfl,_,_,true,.inl ⟨_,rfl,T.isSaySay⟩,jcj T.kSay (sb1 _ _ ha),_,rfl,jdx ?_⟩
     refine ⟨_,rfl,_,rfl,a,_,dx,_,_,rfl,sb1 _ _ ha,T.kSay.cl,T.nSayText,hf _ List.mem_cons_self,l,t,S1,rfl,e2,by omega,fun H2 b s2=>⟨⟨_,rfl⟩,fin H2 b s2⟩⟩
    | ask n sg lo hi' =>
     obtain ⟨a,rfl,dx,fs,ha,hf⟩:=id po
     refine ⟨_,rfl,_,_,false,.inl ⟨_,rfl,T.isAskSay⟩,jcj T.kAsk (sb1 _ _ ha),_,rfl,jbA ?_⟩
     refine ⟨_,rfl,_,_,true,.inl ⟨_,rfl,T.isAskAsk⟩,jcj T.kAsk (sb1 _ _ ha),_,rfl,jdx ?_⟩
     obtain ⟨_,_,_,b1,b2,b3⟩:=okp
     refine ⟨_,rfl,_,rfl,l,_,Hb,n,sg,lo,hi',S1,rfl,sb1,nb,po,⟨b1,b2,b3⟩,e2,hT1,by omega,fun H2 b s2=>⟨⟨_,rfl⟩,fin H2 b s2⟩⟩
   | rows n inner gap lo hi' =>
    obtain ⟨a,l',ws,rfl,hfl,_⟩:=id po
    obtain ⟨dx,fs,ha,hf⟩:=hfl
    refine ⟨_,rfl,_,_,false,.inl ⟨_,rfl,T.isRowsSay⟩,jcj T.kRows (sb1 _ _ ha),_,rfl,jbA ?_⟩
    refine ⟨_,rfl,_,_,false,.inl ⟨_,rfl,T.isRowsAsk⟩,jcj T.kRows (sb1 _ _ ha),_,rfl,jbA ?_⟩
    refine ⟨_,rfl,_,rfl,l,_,H0,Hb,_,S1,rfl,pr trivial,sb1,nb,po,okp,trivial,e2,hT1,hT,fun H2 b s2=>⟨⟨_,rfl⟩,fin H2 b s2⟩⟩
  ·obtain ⟨⟨o,rfl⟩,e1,e2⟩:=e
   rw [hus,Nat.sub_self,List.drop_zero] at e2
   exact q _ e1 e2
open Mth (Stp xText xAsk xL x1 xRows xQ xF MP MQ stepsOf)
theorem jee {H0 H:Hp}:∀ {ps:List Pc} {us:List V},Paired (Pc.Obj D.cl H) ps us->Paired (Pie.Obj D.cl H0 H) (ps.map Pie.one) us
 | _,_,.nil=>.nil
 | _,_,.cons h t=>.cons h (jee t)
theorem ok_AR (T:Txt w K mg D):FnOk P w K mg base CX0 5 D.aAddRows D.dAddRows ["steps","rows"] (spAR D True 3000):=by
 have GP:FnOk P w K mg base CX0 4 D.aAddParts D.dAddParts ["steps","parts"] (spAP D False 1000):=jps T (by decide) (by decide) (jpr T)
 have GT:FnOk P w K mg base CX0 3 D.aAddText D.dAddText ["steps","text"] (spAT D):=jpp T
 have GC:FnOk P w K mg base CX0 1 D.aChoiceI D.dChoiceI ["self","behind"] (jec D):=jev T
 refine T.fAddRows.ok scAR (fun vs H Q E h=>?_) (fun cdv A outer s H vs Q E hr h=>?_)
 ·obtain ⟨l,v,H0,Hb,p,S,rfl,_⟩:=h; rfl
 ·obtain ⟨l,v,H0,Hb,p,S,rfl,_,sb,nb,po,okp,ir,hS,h1,hz,q⟩:=h
  cases p with
  | one p=>exact ir.elim
  | rows n inner gap lo hi =>
  obtain ⟨a,m,ws,rfl,⟨dx,fs,ha,hf⟩,hm,_,hin⟩:=po
  obtain ⟨_,hpo,hg,b0,b1,b2⟩:=okp
  have ep:=hf ("parts",.ref m) (List.mem_cons_of_mem _ List.mem_cons_self)
  have eg:=hf ("gap",.str gap) (List.mem_cons_of_mem _ (List.mem_cons_of_mem _ List.mem_cons_self))
  have el:=hf ("least",.int lo) (List.mem_cons_of_mem _ (List.mem_cons_of_mem _ (List.mem_cons_of_mem _ List.mem_cons_self)))
  have em:=hf ("most",.int hi) (List.mem_cons_of_mem _ (List.mem_cons_of_mem _ (List.mem_cons_of_mem _ (List.mem_cons_of_mem _ List.mem_cons_self))))
  have cl:Cls K D.cl.rows:=T.kRows.cl
  have np:NoAttr K D.cl.rows "parts":=T.nRowsParts
  have ng:NoAttr K D.cl.rows "gap":=T.nRowsGap
  have nl:NoAttr K D.cl.rows "least":=T.nRowsLeast
  have nm:NoAttr K D.cl.rows "most":=T.nRowsMost
  have hr2:Room 2 _:=hr.mono (by decide)
  have hr3:Room 3 _:=hr.mono (by decide)
  refine ⟨_,jac (jak (i:=2) scAR.nd rfl (Or.inl rfl) (jan jbY (jal jar rfl T.zLen PySem.boot_len (jaa (pv 0) jad)) jae))
   (jaf (jaN PassesOwn.never rfl (jfL rfl T.zRange (jaa (jan jbY (jaD (pv 1) rfl) jae) (jaa (jgh jdF jae) (jaa (jgh jdF jae) jad)))) (jaB (i:=3) scAR.nd rfl (Or.inl rfl))
    (jac (jap (jai GP hr rfl T.mAddParts T.fAddParts.kp T.bAddParts .nil jaq (jaa (pv 0) (jaa (jaD (pv 1) rfl) jad))))
    (jac (jaF (jao jfl (pv 3) jae (jas _)) (jaf (jap (jai GT hr3 rfl T.mAddText T.fAddText.kp T.bAddText .nil jaq (jaa (pv 0) (jaa (jaD (pv 1) rfl) jad))))) jav)
    (jaf (jaF (jao jkL (pv 3) (jaD (pv 1) rfl) (jas _)) (jaf (jap (jbv PySem.F.plainAttrs_list PySem.F.slot_list_append PySem.F.type_list_append jay (pv 0) (jaa (jbp T.mkChoice GC hr2 rfl T.mgChoice T.bChoiceI .nil jaq (jaa (pv 2) jad)) jad)))) jav)))))),?_⟩
  obtain ⟨us0,hl0,hp0⟩:=id hS
  have ha0:=sb _ _ ha
  have hm1:(us0.length:Int) - 1=((S.length - 1:Nat):Int):=by rw [<- hp0.length]; omega
  refine ⟨_,rfl,l,us0,rfl,.inl (SqL.of hl0),_,_,rfl,rfl,?_⟩
  refine ⟨_,rfl,a,_,dx,_,_,rfl,ha0,cl,nm,em,_,_,rfl,rfl,_,rfl,_,rfl,_,_,rfl,⟨by omega,by omega,by omega,by omega⟩,?_⟩
  have hn:(hi - 1 - -1).toNat=hi.toNat:=by congr 1; omega
  have e36:∀ m,(xL m (inner.map mPc)).length<=36:=fun m=>Nat.le_trans (jjT hpo.all) (by have:=hpo.hi; omega)
  have g5:(tl gap).length<=5:=by rw [Array.length_toList]; exact hg.hi
  refine jet (fun i σ H'=>(∃ o,σ=[some (.ref l),some (.ref a),some (.int ((us0.length:Int) - 1)),o])/\Besides l H H'/\StA D H' l (S++(xRows (S.length - 1) (inner.map mPc) (tl gap) lo.toNat i (hi.toNat - i)).reverse)) ⟨⟨none,rfl⟩,Besides.refl,by rw [xRows,List.reverse_nil,List.append_nil]; exact hS⟩ (fun i σ H' hi' e=>?_) (fun σ H' e=>?_)
  ·obtain ⟨⟨o,rfl⟩,e1,e2⟩:=e
   rw [hn] at hi'
   have xl:=jed (m:=S.length - 1) (gap:=tl gap) (lo:=lo.toNat) e36 i (hi.toNat - i)
   have xl':(xRows (S.length - 1) (inner.map mPc) (tl gap) lo.toNat i (hi.toNat - i)).length<=126:=by
    have i3:i<=3:=by omega
    exact Nat.le_trans xl (Nat.le_trans (Nat.mul_le_mul i3 (Nat.succ_le_succ (Nat.add_le_add_left g5 36))) (by decide))
   have hk:hi.toNat - (i+1)+1=hi.toNat - i:=by omega
   have er:=jlu (S.length - 1) (inner.map mPc) (tl gap) lo.toNat i (hi.toNat - (i+1))
   rw [hk] at er
   rw [er]
   have eL:(S++(xRows (S.length - 1) (inner.map mPc) (tl gap) lo.toNat i (hi.toNat - i)).reverse).length=S.length+(xRows (S.length - 1) (inner.map mPc) (tl gap) lo.toNat i (hi.toNat - i)).length:=by rw [List.length_append,List.length_reverse]
   have e36':=e36 (S.length - 1+(xRows (S.length - 1) (inner.map mPc) (tl gap) lo.toNat i (hi.toNat - i)).length)
   generalize hX:xRows (S.length - 1) (inner.map mPc) (tl gap) lo.toNat i (hi.toNat - i)=Xr at *
   have sb1:=jaE sb nb e1
   have ha1:=sb1 _ _ ha
   have in3:=hpo.hi
   refine ⟨_,rfl,_,rfl,a,_,dx,_,_,rfl,ha1,cl,np,ep,l,m,H0,Hb,inner.map Pie.one,ws,S++Xr.reverse,rfl,sb1,nb,hm,jee hin,fun p hp=>?_,e2,by rw [eL]; omega,by rw [eL,List.length_map]; omega,fun H2 c1 s2=>?_⟩
   ·obtain ⟨p',hp',rfl⟩:=List.mem_map.mp hp
    exact ⟨hpo.all p' hp',fun z=>z⟩
   rw [jmH,eL,show S.length+Xr.length - 1=S.length - 1+Xr.length by omega] at s2
   have e3:=e1.trans c1
   have sb2:=jaE sb nb e3
   have low:∀ (us3:List V) (gp:List Stp) (H3:Hp),gp.length<=5->Paired (StpAt D H3) ((S++Xr.reverse++(xL (S.length - 1+Xr.length) (inner.map mPc)).reverse)++gp) us3->us3.length<=S.length+167:=fun us3 gp H3 hgp hp3=>by
    rw [<- hp3.length,List.length_append,List.length_append,List.length_append,List.length_reverse,List.length_reverse]
    omega
   have nz:(0:Int) < hi - 1 - (i:Int)↔¬ hi.toNat - (i+1)=0:=by omega
   have nl':(hi - 1 - (i:Int) ≥ lo)↔lo.toNat<=hi.toNat - (i+1):=by omega
   refine ⟨_,rfl,_,_,rfl,rfl,_,rfl,?_⟩
   by_cases hg0:(0:Int) < hi - 1 - (i:Int)
   ·refine jbJ hg0 ⟨_,rfl,_,rfl,a,_,dx,_,_,rfl,sb2 _ _ ha,cl,ng,eg,l,gap,_,rfl,s2,?_,fun H3 c2 s3=>?_⟩
    ·have:gap.length<=5:=hg.hi
     rw [List.length_append,eL,List.length_reverse]; omega
    have e4:=e3.trans c2
    have sb3:=jaE sb nb e4
    obtain ⟨us3,hl3,hp3⟩:=id s3
    have l3:=low us3 _ H3 (by rw [List.length_reverse,jcT]; exact g5) hp3
    refine ⟨_,rfl,_,rfl,a,_,dx,_,_,rfl,sb3 _ _ ha,cl,nl,el,_,_,rfl,rfl,_,rfl,?_⟩
    by_cases hc:hi - 1 - (i:Int) ≥ lo
    ·refine jbJ hc ⟨_,rfl,.inl ⟨rfl,_,SqL.of hl3⟩,_,rfl,fun y dy hy hdy ne'=>⟨y,dy,_,rfl,jab,⟨rfl,?_⟩⟩⟩
     obtain ⟨j1,j2,j3⟩:=jcS (D:=D) hl3 hp3 hy hdy (C:=D.cChoice) (st:=.choice (S.length - 1)) (fun H' h=>jeY H' h) (fs':=jaK "behind" (.int ((us0.length:Int) - 1)) []) (jda (by rw [hm1]; exact jbW) jgc)
     refine ⟨l,_,_,rfl,rfl,j1,jaw (by omega),⟨_,rfl⟩,e4.trans j2,?_⟩
     rw [if_neg (nz.mp hg0),if_pos (nl'.mp hc),<- List.append_assoc,<- List.append_assoc,<- List.append_assoc]
     exact j3
    ·refine jaJ hc ⟨⟨_,rfl⟩,e4,?_⟩
     rw [if_neg (nz.mp hg0),if_neg (fun z=>hc (nl'.mpr z)),List.append_nil,<- List.append_assoc,<- List.append_assoc]
     exact s3
   ·obtain ⟨us3,hl3,hp3⟩:=id s2
    have l3:=low us3 [] H2 (Nat.zero_le _) (by rw [List.append_nil]; exact hp3)
    refine jaJ hg0 ⟨_,rfl,_,rfl,a,_,dx,_,_,rfl,sb2 _ _ ha,cl,nl,el,_,_,rfl,rfl,_,rfl,?_⟩
    have z0:hi.toNat - (i+1)=0:=by omega
    by_cases hc:hi - 1 - (i:Int) ≥ lo
    ·refine jbJ hc ⟨_,rfl,.inl ⟨rfl,_,SqL.of hl3⟩,_,rfl,fun y dy hy hdy ne'=>⟨y,dy,_,rfl,jab,⟨rfl,?_⟩⟩⟩
     obtain ⟨j1,j2,j3⟩:=jcS (D:=D) hl3 hp3 hy hdy (C:=D.cChoice) (st:=.choice (S.length - 1)) (fun H' h=>jeY H' h) (fs':=jaK "behind" (.int ((us0.length:Int) - 1)) []) (jda (by rw [hm1]; exact jbW) jgc)
     refine ⟨l,_,_,rfl,rfl,j1,jaw (by omega),⟨_,rfl⟩,e3.trans j2,?_⟩
     rw [if_pos z0,if_pos (nl'.mp hc),List.append_nil,<- List.append_assoc,<- List.append_assoc]
     exact j3
    ·refine jaJ hc ⟨⟨_,rfl⟩,e3,?_⟩
     rw [if_pos z0,if_neg (fun z=>hc (nl'.mpr z)),List.append_nil,List.append_nil,<- List.append_assoc]
     exact s2
  ·obtain ⟨⟨o,rfl⟩,e1,e2⟩:=e
   rw [hn,Nat.sub_self] at e2
   exact q _ e1 e2
theorem jpt (T:Txt w K mg D):FnOk P w K mg base CX0 6 D.aAddParts D.dAddParts ["steps","parts"] (spAP D True 3000):=jps T (by decide) (by decide) (ok_AR T)
theorem scSO:FnScope ["form","steps"] ["form"] (jag jeI):=⟨rfl,rfl,rfl,by decide +kernel,rfl,by decide +kernel,by decide +kernel⟩
def spSO (D:Adr):Sp:=fun vs H Q _=>∃ (H0:Hp) (ps:List Pie) (v:V),vs=[v]/\FormAt D.cl H0 H ps v/\FormOk ps/\∀ l H',H l=none->Same H H'->StA D H' l (stepsOf (ps.map mPie))->Q (.ref l) H'
theorem ok_SO (T:Txt w K mg D):FnOk P w K mg base CX0 7 D.aStepsOf D.dStepsOf ["form"] (spSO D):=by
 have GP:FnOk P w K mg base CX0 6 D.aAddParts D.dAddParts ["steps","parts"] (spAP D True 3000):=jpt T
 have G:FnOk P w K mg base CX0 1 D.aSignI D.dSignI ["self","signs"] (jeW D):=jeX T
 refine T.fStepsOf.ok scSO (fun vs H Q E h=>?_) (fun cdv A outer s H vs Q E hr h=>?_)
 ·obtain ⟨H0,ps,v,rfl,_⟩:=h; rfl
 ·obtain ⟨H0,ps,v,rfl,⟨a,m,ws,_,_,rfl,⟨dx,fs,ha,hf⟩,hm,_,hp,_⟩,ok,q⟩:=h
  have ep:=hf ("plan",.ref m) List.mem_cons_self
  have hr2:Room 2 _:=hr.mono (by decide)
  refine ⟨_,jac (jak (i:=1) scSO.nd rfl (Or.inl rfl) (jba (jaa (jbp T.mkSign G hr2 rfl T.mgSign T.bSignI .nil jaq (jaa jax jad)) jad)))
   (jac (jap (jai GP hr rfl T.mAddParts T.fAddParts.kp T.bAddParts .nil jaq (jaa (pv 1) (jaa (jaD (pv 0) rfl) jad))))
   (jaf (jat (pv 1)))),?_⟩
  refine fun x d hx hd ne=>⟨x,d,_,rfl,jab,⟨rfl,Nat.le_of_lt (jaw (by show 1<=100000; decide)),fun l hl=>?_⟩⟩
  have s1:Same H _:=jbH (C:=D.cSign) hx hd (Besides.refl.upd (.ins D.cSign d (jaK "signs" (.str "") [])))
  have s2:=s1.trans (jah hl (.lst [.ref x]))
  have nl:H l=none:=s1.free hl
  have nx:x≠l:=fun z=>by rw [z,jab] at hl; cases hl
  refine ⟨_,rfl,_,rfl,a,_,dx,_,_,rfl,s2 _ _ ha,T.kForm.cl,T.nFormPlan,ep,l,m,H0,H,ps,ws,[.sign []],rfl,s2,nl,hm,hp,fun p hp'=>⟨ok.all p hp',fun _=>trivial⟩,⟨_,jab,.cons ⟨x,"",rfl,rfl,d,jaK "signs" (.str "") [],?_,jda jbW jgc⟩ .nil⟩,Nat.le_refl _,?_,fun H' b s'=>?_⟩
  ·rw [upd_ne nx]; exact jab
  ·have:=ok.hi
   show 1+130 * ps.length+3000<=100000
   omega
  ·exact ⟨_,rfl,q l H' nl (jaE s2 nl b) s'⟩
end
def bts (t:List Nat) (c:Nat):Nat->Nat
 | 0=>0
 | n+1=>if t[n]?=some c then bts t c n ||| 2 ^ n else bts t c n
theorem jjV {n p:Nat}:(2 ^ n).testBit p=true↔p=n:=by
 rw [Nat.testBit_two_pow]
 simp
 exact eq_comm
theorem jjW {t:List Nat} {c p:Nat}:∀ n,(bts t c n).testBit p=true↔p < n/\t[p]?=some c
 | 0=>by simp [bts]
 | n+1=>by
  have ih:=jjW (t:=t) (c:=c) (p:=p) n
  unfold bts
  split
  ·rename_i h
   rw [Nat.testBit_or,Bool.or_eq_true,ih,jjV]
   constructor
   ·rintro (⟨a,b⟩ | rfl)
    ·exact ⟨by omega,b⟩
    ·exact ⟨by omega,h⟩
   ·rintro ⟨a,b⟩
    by_cases e:p=n
    ·exact .inr e
    ·exact .inl ⟨by omega,b⟩
  ·rename_i h
   rw [ih]
   constructor
   ·rintro ⟨a,b⟩; exact ⟨by omega,b⟩
   ·rintro ⟨a,b⟩
    refine ⟨?_,b⟩
    by_cases e:p=n
    ·subst e; exact absurd b h
    ·omega
def jgB (kvs:List (Key×V)) (t:List Nat) (n:Nat):Prop:=∀ c,(jaW kvs (Sum.inr ⟨#[c]⟩)).getD (.int 0)=.int ((bts t c n:Nat):Int)
theorem jnK {c d:Nat} (h:(⟨#[c]⟩:Str)=⟨#[d]⟩):c=d:=by cases h; rfl
theorem jnL (x p:Nat):decide (V.int (Builtin.bitAnd ((x:Int) / 2 ^ ((p:Int)).toNat) 1)=V.int 1)=x.testBit p:=by
 rw [jjx,show (1:Int)=((1:Nat):Int) from rfl,jeu]
 have e:x.testBit p=decide ((x >>> p &&& 1)=1):=by
  rw [Nat.and_one_is_mod,Nat.testBit_eq_decide_div_mod_eq,Nat.shiftRight_eq_div_pow]
 rw [e]
 have h2:((x >>> p &&& 1:Nat):Int)=1↔(x >>> p &&& 1)=1:=by omega
 by_cases h:(x >>> p &&& 1)=1
 ·rw [decide_eq_true h]
  exact decide_eq_true (congrArg V.int (h2.mpr h))
 ·rw [decide_eq_false h]
  exact decide_eq_false (fun z=>h (h2.mp (V.int.inj z)))
section
variable {P:Program} {w:World} {K:PySem.W.Frag} {mg:Str->Option Value} {base:Heap} {D:Adr}
theorem scHP:FnScope ["places","place"] ["places","place"] (jag jdU):=⟨rfl,rfl,rfl,by decide +kernel,rfl,by decide +kernel,by decide +kernel⟩
def spHP:Sp:=fun vs H Q _=>∃ (x p:Nat),vs=[.int (x:Int),.int (p:Int)]/\Q (.bl (x.testBit p)) H
theorem jpu (T:Txt w K mg D):FnOk P w K mg base CX0 1 D.aHasPlace D.dHasPlace ["places","place"] spHP:=by
 refine T.fHasPlace.ok scHP (fun vs H Q E h=>?_) (fun cdv A outer s H vs Q E hr h=>?_)
 ·obtain ⟨x,p,rfl,_⟩:=h; rfl
 ·obtain ⟨x,p,rfl,q⟩:=h
  refine ⟨_,jaf (jat (jbb jaZ (jan jlV (jan jlU (pv 0) (pv 1)) jae) jae (jas _))),?_⟩
  refine ⟨_,rfl,_,rfl,_,_,rfl,rfl,by show (0:Int)<=(p:Int); omega,_,_,rfl,rfl,rfl,?_⟩
  have e:=jnL x p
  exact (congrArg (fun b=>Q (V.bl b) H) e).mpr q
theorem scPA:FnScope ["signs","standing","places","sign"] ["signs","standing"] (jag jch):=⟨rfl,rfl,rfl,by decide +kernel,rfl,by decide +kernel,by decide +kernel⟩
def spPA:Sp:=fun vs H Q _=>∃ (z:Str) (d:Addr) (kvs:List (Key×V)) (t:List Nat),vs=[.str z,.ref d]/\H d=some (.dK kvs)/\jgB kvs t t.length /\
 ∀ x:Nat,(∀ p,x.testBit p=true↔∃ c,t[p]?=some c/\c∈tl z)->Q (.int (x:Int)) H
theorem ok_PA (T:Txt w K mg D):FnOk P w K mg base CX0 1 D.aPlacesOfAny D.dPlacesOfAny ["signs","standing"] spPA:=by
 refine T.fPlacesOfAny.ok scPA (fun vs H Q E h=>?_) (fun cdv A outer s H vs Q E hr h=>?_)
 ·obtain ⟨z,d,kvs,t,rfl,_⟩:=h; rfl
 ·obtain ⟨z,d,kvs,t,rfl,hd,hs,q⟩:=h
  have hu:=jeC hr
  refine ⟨_,jac (jak (i:=2) scPA.nd rfl (Or.inl rfl) jae)
   (jac (jaN PassesOwn.never rfl (jiQ (pv 0)) (jaB (i:=3) scPA.nd rfl (Or.inl rfl))
    (jaf (jak (i:=2) scPA.nd rfl (Or.inl rfl) (jan jmU (pv 2) (jgO hu (pv 1) (pv 3) jae ⟨rfl,rfl,rfl,rfl⟩)))))
   (jaf (jat (pv 2)))),?_⟩
  refine ⟨_,rfl,z,rfl,jnd (z:=z) (fun i σ H'=>H'=H/\∃ o,∃ x:Nat,σ=[some (.str z),some (.ref d),some (.int (x:Int)),o]/\∀ p,x.testBit p=true↔∃ c,t[p]?=some c/\c∈(tl z).take i) ⟨rfl,none,0,rfl,fun p=>by simp⟩ (fun i c σ H' hc e=>?_) (fun σ H' e=>?_)⟩
  ·obtain ⟨rfl,o,x,rfl,hx⟩:=e
   refine ⟨_,rfl,_,rfl,d,rfl,.inl ⟨kvs,.inl hd⟩,_,rfl,_,DGet.k (k:=Sum.inr ⟨#[c]⟩) hd,x,(bts t c t.length:Nat),rfl,hs c,?_⟩
   refine ⟨rfl,some (.str ⟨#[c]⟩),x ||| bts t c t.length,?_,fun p=>?_⟩
   ·show _=[_,_,_,_]
    exact congrArg (fun y=>[some (V.str z),some (V.ref d),some (V.int y),some (V.str ⟨#[c]⟩)]) (jdQ _ _)
   ·have ec:(tl z)[i]?=some c:=by rw [Array.getElem?_toList]; exact hc
    rw [Nat.testBit_or,Bool.or_eq_true,hx,jjW,jau ec]
    constructor
    ·rintro (⟨c',h1,h2⟩ | ⟨h1,h2⟩)
     ·exact ⟨c',h1,List.mem_append_left _ h2⟩
     ·exact ⟨c,h2,List.mem_append_right _ List.mem_cons_self⟩
    ·rintro ⟨c',h1,h2⟩
     rcases List.mem_append.mp h2 with h2 | h2
     ·exact .inl ⟨c',h1,h2⟩
     ·obtain rfl:c'=c:=by simpa using h2
      exact .inr ⟨(List.getElem?_eq_some_iff.mp h1).1,h1⟩
  ·obtain ⟨rfl,o,x,rfl,hx⟩:=e
   refine ⟨_,rfl,q x fun p=>?_⟩
   rw [hx p,List.take_of_length_le (by rw [Array.length_toList]; exact Nat.le_refl _)]
theorem scPS:FnScope ["text","standing","place","sign"] ["text"] (jag jbF):=⟨rfl,rfl,rfl,by decide +kernel,rfl,by decide +kernel,by decide +kernel⟩
def spPS:Sp:=fun vs H Q _=>∃ z:Str,vs=[.str z]/\z.length<=100000/\∀ d kvs H',H d=none->Same H H'->H' d=some (.dK kvs)->jgB kvs (tl z) (tl z).length->Q (.ref d) H'
theorem ok_PS (T:Txt w K mg D):FnOk P w K mg base CX0 1 D.aPlacesOfSigns D.dPlacesOfSigns ["text"] spPS:=by
 refine T.fPlacesOfSigns.ok scPS (fun vs H Q E h=>?_) (fun cdv A outer s H vs Q E hr h=>?_)
 ·obtain ⟨z,rfl,_⟩:=h; rfl
 ·obtain ⟨z,rfl,hz,q⟩:=h
  have hu:=jeC hr
  refine ⟨_,jac (jak (i:=1) scPS.nd rfl (Or.inl rfl) jcq)
   (jac (jaN PassesOwn.never rfl (jig rfl T.zEnumerate (jaa (pv 0) jad)) (jop rfl (jgI (jaB (i:=2) scPS.nd rfl (Or.inl rfl)) (jgI (jaB (i:=3) scPS.nd rfl (Or.inl rfl)) jmT)))
    (jaf (jca hu (pv 1) (pv 3) (jan jmU (jgO hu (pv 1) (pv 3) jae ⟨rfl,rfl,rfl,rfl⟩) (jan jlT jae (pv 2))) rfl)))
   (jaf (jat (pv 1)))),?_⟩
  intro d hd
  refine ⟨_,rfl,z,rfl,jgu (z:=z) (fun i σ H'=>Besides d H H'/\∃ o1 o2 kvs,σ=[some (.str z),some (.ref d),o1,o2]/\H' d=some (.dK kvs)/\kvs.length<=i/\jgB kvs (tl z) i) ⟨(Besides.refl.upd _),none,none,[],rfl,jab,Nat.le_refl _,fun c=>rfl⟩ (fun i c U σ H' hc hU e=>?_) (fun σ H' e=>?_)⟩
  ·obtain ⟨e1,o1,o2,kvs,rfl,hd',hl,hs⟩:=e
   have hi:i < z.cps.size:=(Array.getElem?_eq_some_iff.mp hc).1
   have hi':i < z.length:=hi
   have e2:=jah hU (.tup [.int (i:Int),.str ⟨#[c]⟩])
   have hd2:=e2 _ _ hd'
   refine ⟨U,_,rfl,SqT.of jab,rfl,_,_,rfl,_,_,rfl,rfl,?_⟩
   refine ⟨_,rfl,d,rfl,.inl ⟨kvs,.inl hd2⟩,_,rfl,_,DGet.k (k:=Sum.inr ⟨#[c]⟩) hd2,_,rfl,_,_,rfl,rfl,⟨by omega,by omega,by decide⟩,(bts (tl z) c i:Nat),_,hs c,rfl,_,rfl,_,rfl,d,_,rfl,DPut.k (k:=Sum.inr ⟨#[c]⟩) hd2 (jaw (by omega)),?_⟩
   have eb:Builtin.bitOr ((bts (tl z) c i:Nat):Int) (1 * 2 ^ ((i:Int)).toNat)=((bts (tl z) c i ||| 2 ^ i:Nat):Int):=by rw [jjw,jdQ]
   refine ⟨(e1.same e2).upd _,_,_,_,rfl,jab,Nat.le_trans (jbO _ _ _) (Nat.succ_le_succ hl),fun c'=>?_⟩
   rw [jcp]
   have ec:(tl z)[i]?=some c:=by rw [Array.getElem?_toList]; exact hc
   by_cases h:c'=c
   ·subst h
    rw [if_pos rfl]
    show V.int _=V.int _
    rw [bts,if_pos ec]
    exact congrArg V.int eb
   ·rw [if_neg (fun z=>h (jnK (Sum.inr.inj z))),hs c',bts,if_neg (by rw [ec]; intro z; exact h (Option.some.inj z).symm)]
  ·obtain ⟨e1,o1,o2,kvs,rfl,hd',hl,hs⟩:=e
   refine ⟨_,rfl,q d kvs H' hd (fun b o h=>e1 b o h (ne_of_none h hd)) hd' ?_⟩
   rw [Array.length_toList]
   exact hs
end
open Mth (Stp okAt Down ok_zero ok_sign ok_choice)
abbrev jcG (x:Nat):V:=.int (x:Int)
def FitsL (S:List Stp) (t:List Nat) (xs:List Nat):Prop:=∀ (k x:Nat),xs[k]?=some x->∀ p,x.testBit p=true↔okAt S t k p
theorem FitsL.snoc {S:List Stp} {t xs:List Nat} (h:FitsL S t xs) {x:Nat} (hx:∀ p,x.testBit p=true↔okAt S t xs.length p):FitsL S t (xs++[x]):=fun k y e p=>by
 by_cases hk:k < xs.length
 ·rw [List.getElem?_append_left hk] at e; exact h k y e p
 ·rw [List.getElem?_append_right (by omega)] at e
  have:k - xs.length=0:=by
   have:=(List.getElem?_eq_some_iff.mp e).1
   rw [List.length_singleton] at this; omega
  rw [this] at e
  obtain rfl:x=y:=Option.some.inj e
  have:k=xs.length:=by omega
  rw [this]; exact hx p
theorem jjX {l:List V} {v:V} {n:Nat} (hn:l.length=n+1) (h:l[n]?=some v):atI l (-1)=some v:=by
 have e:l=l.take n++[v]:=by
  have:=jau h
  rw [<- hn,List.take_length] at this
  exact this
 rw [e]; exact jkS _ _
theorem cut1 {xs:List V} (h:1<=xs.length):jga xs (some 1) none=xs.drop 1:=by
 unfold jga HT.sIx
 have e:min (1:Int).toNat xs.length=1:=by rw [show (1:Int).toNat=1 from rfl]; omega
 simp only [show ¬ (1:Int) < 0 by decide,if_false,e]
 rw [List.take_of_length_le (by rw [List.length_drop]; exact Nat.le_refl _)]
section
variable {P:Program} {w:World} {K:PySem.W.Frag} {mg:Str->Option Value} {base:Heap} {D:Adr}
theorem scFPl:FnScope ["steps","text","standing","fits","step"] ["steps","text"] (jag jbE):=⟨rfl,rfl,rfl,by decide +kernel,rfl,by decide +kernel,by decide +kernel⟩
def jpv (D:Adr):Sp:=fun vs H Q _=>∃ (l:Addr) (z:Str) (S:List Stp),vs=[.ref l,.str z]/\StA D H l S/\Down S/\1<=S.length/\S.length<=90000/\z.length<=90000 /\
 ∀ f xs H',H f=none->Same H H'->H' f=some (.lst (xs.map jcG))->xs.length=S.length->FitsL S (tl z) xs->Q (.ref f) H'
theorem jpw (T:Txt w K mg D):FnOk P w K mg base CX0 2 D.aFittingPlaces D.dFittingPlaces ["steps","text"] (jpv D):=by
 have GS:FnOk P w K mg base CX0 1 D.aPlacesOfSigns D.dPlacesOfSigns ["text"] spPS:=ok_PS T
 have GA:FnOk P w K mg base CX0 1 D.aPlacesOfAny D.dPlacesOfAny ["signs","standing"] spPA:=ok_PA T
 refine T.fFittingPlaces.ok scFPl (fun vs H Q E h=>?_) (fun cdv A outer s H vs Q E hr h=>?_)
 ·obtain ⟨l,z,S,rfl,_⟩:=h; rfl
 ·obtain ⟨l,z,S,rfl,⟨us,hl,hp⟩,hdn,h1,h2,hz,q⟩:=h
  refine ⟨_,jac (jak (i:=2) scFPl.nd rfl (Or.inl rfl) (jai GS hr rfl T.mPlacesOfSigns T.fPlacesOfSigns.kp T.bPlacesOfSigns .nil jaq (jaa (pv 1) jad)))
   (jac (jak (i:=3) scFPl.nd rfl (Or.inl rfl) (jba (jaa (jan jlT jae (jal jaA rfl T.zLen PySem.boot_len (jaa (pv 1) jad))) jad)))
   (jac (jaN PassesOwn.never rfl (jaL (jaX jiF (pv 0) (jaS jae) jbZ)) (jaB (i:=4) scFPl.nd rfl (Or.inl rfl))
    (jaf (jaF (jbu (jal jbc rfl T.zIsinstance PyProof.Rows.boot_isinstance (jaa (pv 4) (jaa (jaV (v:=.ref D.cSign) rfl T.mgSign rfl) jad))))
     (jaf (jap (jbv PySem.F.plainAttrs_list PySem.F.slot_list_append PySem.F.type_list_append jay (pv 3) (jaa (jan jlV (jan jlU (jam jaG (pv 3) (jgh jdF jae) (fun _ _=>rfl)) jae)
      (jai GA hr rfl T.mPlacesOfAny T.fPlacesOfAny.kp T.bPlacesOfAny .nil jaq (jaa (jaD (pv 4) rfl) (jaa (pv 2) jad)))) jad))))
     (jaf (jap (jbv PySem.F.plainAttrs_list PySem.F.slot_list_append PySem.F.type_list_append jay (pv 3) (jaa (jan jmU (jam jaG (pv 3) (jgh jdF jae) (fun _ _=>rfl)) (jam jaG (pv 3) (jaD (pv 4) rfl) (fun _ _=>rfl))) jad)))))))
   (jaf (jat (pv 3))))),?_⟩
  refine ⟨_,rfl,z,rfl,by omega,fun d kvs H1 nd s1 hd st=>?_⟩
  refine ⟨_,rfl,z,rfl,Nat.le_of_lt (jaw (by omega)),_,_,rfl,rfl,⟨by omega,by omega,by decide⟩,Nat.le_of_lt (jaw (by show 1<=100000; decide)),fun f hf=>?_⟩
  have s2:=s1.trans (jah hf (.lst [.int (1 * 2 ^ ((z.length:Nat):Int).toNat)]))
  refine ⟨_,rfl,1,rfl,l,us,rfl,SqL.of (s2 _ _ hl),fun p hp'=>?_⟩
  have hus:us.length=S.length:=hp.length.symm
  rw [cut1 (by omega)]
  have npf:p≠f:=fun z=>by rw [z,jab] at hp'; cases hp'
  have hf3:(L2.upd (L2.upd H1 f (.lst [.int (1 * 2 ^ ((z.length:Nat):Int).toNat)])) p (.lst (us.drop 1))) f=some (.lst ([2 ^ z.length].map jcG)):=by
   rw [upd_ne (Ne.symm npf),jab]
   show some (HO.lst [_])=some (HO.lst [_])
   exact congrArg (fun x=>some (HO.lst [V.int x])) (jjw z.length)
  have s3:=s2.trans (jah hp' (.lst (us.drop 1)))
  have hd3:=jah hp' (.lst (us.drop 1)) _ _ (jah hf (.lst [.int (1 * 2 ^ ((z.length:Nat):Int).toNat)]) _ _ hd)
  have hp3:(L2.upd (L2.upd H1 f (.lst [.int (1 * 2 ^ ((z.length:Nat):Int).toNat)])) p (.lst (us.drop 1))) p=some (.lst (us.drop 1)):=jab
  generalize L2.upd (L2.upd H1 f (.lst [.int (1 * 2 ^ ((z.length:Nat):Int).toNat)])) p (.lst (us.drop 1))=H3 at *
  have nf:H f=none:=s1.free hf
  have ndf:d≠f:=jbj hd3 hf3 (by intro z; cases z)
  refine ⟨p,rfl,⟨_,SqL.of hp3⟩,jcJ (xs:=us.drop 1) (fun i σ H'=>Besides f H3 H'/\∃ o,∃ xs:List Nat,σ=[some (.ref l),some (.str z),some (.ref d),some (.ref f),o]/\H' f=some (.lst (xs.map jcG))/\xs.length=i+1/\FitsL S (tl z) xs)
   ⟨Besides.refl,none,[2 ^ z.length],rfl,hf3,rfl,?_⟩ (fun i σ H' hi e=>SqL.of (e.1 _ _ hp3 npf)) (fun i x σ H' hx e=>?_) (fun σ H' e=>?_)⟩
  ·intro k x e p
   have hk:k=0:=by have:=(List.getElem?_eq_some_iff.mp e).1; simpa using this
   subst hk
   obtain rfl:2 ^ z.length=x:=Option.some.inj e
   rw [jjV,ok_zero,Array.length_toList]
   exact Iff.rfl
  ·obtain ⟨e1,o,xs,rfl,hf',hxl,hfit⟩:=e
   rw [List.getElem?_drop] at hx
   have hlen:1+i < us.length:=(List.getElem?_eq_some_iff.mp hx).1
   obtain ⟨st1,es,ps⟩:=Paired.two hp hx
   rw [show 1+i=i+1 by omega] at es
   have sb:Same H H':=jaE s3 nf e1
   obtain ⟨y,ey⟩:∃ y,xs[i]?=some y:=⟨_,List.getElem?_eq_getElem (by omega)⟩
   have hy:atI (xs.map jcG) (-1)=some (jcG y):=jjX (n:=i) (by rw [List.length_map]; exact hxl) (by rw [List.getElem?_map,ey]; rfl)
   have fin:∀ nw:Nat,(∀ p,nw.testBit p=true↔okAt S (tl z) (i+1) p)->∀ v,v=jcG nw->Besides f H3 (L2.upd H' f (.lst (xs.map jcG++[v])))/\∃ o':Option V,∃ xs':List Nat,[some (V.ref l),some (.str z),some (.ref d),some (.ref f),some x]=[some (.ref l),some (.str z),some (.ref d),some (.ref f),o']/\(L2.upd H' f (.lst (xs.map jcG++[v]))) f=some (.lst (xs'.map jcG))/\xs'.length=i+1+1/\FitsL S (tl z) xs':=fun nw hnw v hv=>by
    subst hv
    refine ⟨e1.upd _,_,xs++[nw],rfl,?_,?_,?_⟩
    ·rw [jab,List.map_append]; rfl
    ·rw [List.length_append,hxl]; rfl
    ·exact hfit.snoc (by rw [hxl]; exact hnw)
   cases st1 with
   | sign sg =>
    obtain ⟨a,zz,rfl,rfl,dx,fs,ha,hfl⟩:=StpAt.mono sb ps
    refine ⟨_,rfl,_,_,true,.inl ⟨_,rfl,T.isSignSign⟩,jcj T.kSign ha,_,rfl,jdx ?_⟩
    refine ⟨_,rfl,.inl ⟨rfl,_,SqL.of hf'⟩,_,rfl,_,rfl,f,_,_,_,rfl,rfl,SqL.of hf',hy,_,_,rfl,rfl,by show (0:Int)<=1; decide,_,rfl,a,_,dx,_,_,rfl,ha,T.kSign.cl,T.nSignSigns,hfl _ List.mem_cons_self,_,rfl,zz,d,kvs,tl z,rfl,e1 _ _ hd3 ndf,st,fun x' hx'=>?_⟩
    refine ⟨_,_,rfl,rfl,f,_,_,rfl,rfl,hf',jaw (by rw [List.length_map]; omega),?_⟩
    refine fin (y >>> 1 &&& x') (fun p=>?_) _ ?_
    ·rw [Nat.testBit_and,Bool.and_eq_true,hx',Nat.testBit_shiftRight,hfit i y ey,ok_sign es,Nat.add_comm 1 p]
    ·show V.int (Builtin.bitAnd ((y:Int) / 2 ^ ((1:Nat):Int).toNat) (x':Int))=_
     rw [jjx,jeu]
   | choice b =>
    obtain ⟨a,rfl,dx,fs,ha,hfl⟩:=StpAt.mono sb ps
    have hb:=hdn i b es
    obtain ⟨y',ey'⟩:∃ y,xs[b]?=some y:=⟨_,List.getElem?_eq_getElem (by omega)⟩
    refine ⟨_,rfl,_,_,false,.inl ⟨_,rfl,T.isChoiceSign⟩,jcj T.kChoice ha,_,rfl,jbA ?_⟩
    refine ⟨_,rfl,.inl ⟨rfl,_,SqL.of hf'⟩,_,rfl,_,rfl,f,_,_,_,rfl,rfl,SqL.of hf',hy,_,rfl,_,rfl,a,_,dx,_,_,rfl,ha,T.kChoice.cl,T.nChoiceBehind,hfl _ List.mem_cons_self,f,_,_,_,rfl,rfl,SqL.of hf',jbD (v:=jcG y') (by rw [List.getElem?_map,ey']; rfl),?_⟩
    refine ⟨_,_,rfl,rfl,f,_,_,rfl,rfl,hf',jaw (by rw [List.length_map]; omega),?_⟩
    refine fin (y ||| y') (fun p=>?_) _ ?_
    ·rw [Nat.testBit_or,Bool.or_eq_true,hfit i y ey,hfit b y' ey',ok_choice es hb]
     exact Or.comm
    ·exact congrArg V.int (jdQ _ _)
  ·obtain ⟨e1,o,xs,rfl,hf',hxl,hfit⟩:=e
   refine ⟨_,rfl,q f xs H' nf (jaE s3 nf e1) hf' ?_ hfit⟩
   rw [hxl,List.length_drop]; omega
end
end Lf
namespace L2
theorem while_st {α:Type} {c:TT} {tb:TS} {D:Ends} {σ:St} {H:Hp} (Pv:α->St->Hp->Prop) (μ:α->Nat) (a0:α) (h0:Pv a0 σ H)
  (hs:∀ a σ H,Pv a σ H->c σ H fun b H1=>if b=true then ∃ N:St->Hp->Prop,(∀ σ' H',N σ' H'->∃ m',m' < μ a/\∃ a',μ a'=m'/\Pv a' σ' H')/\tb {D with nx:=N,ct:=N,bk:=D.nx} σ H1 else D.nx σ H1):jis c tb D σ H :=
 ⟨fun m σ H=>∃ a,μ a=m/\Pv a σ H,⟨_,a0,rfl,h0⟩,fun m σ H ⟨a,e,p⟩=>by subst e; exact hs a σ H p⟩
end L2
namespace Lf
open PySem L2
open Mth (Stp okAt Down ok_zero ok_sign ok_choice Way enumW enumA)
theorem jpx {n:Nat} (h:n<=1000000):n < sizeLine:=Nat.lt_of_le_of_lt h (by unfold sizeLine; decide)
def ChAt (H:Hp):List Bool->V->Prop
 | [],v=>v=.non
 | b::cs,v=>∃ a u,v=.ref a/\H a=some (.tup [.bl b,u])/\ChAt H cs u
theorem ChAt.besL {H H':Hp} {l:Addr} {us:List V} (hl:H l=some (.lst us)) (e:Besides l H H'):∀ {cs:List Bool} {v:V},ChAt H cs v->ChAt H' cs v
 | [],_,h=>h
 | _::_,_,⟨a,u,h1,h2,h3⟩=>⟨a,u,h1,e _ _ h2 (jbj h2 hl (by intro z; cases z)),ChAt.besL hl e h3⟩
theorem ChAt.mono {H H':Hp} (e:Same H H'):∀ {cs:List Bool} {v:V},ChAt H cs v->ChAt H' cs v
 | [],_,h=>h
 | _::_,_,⟨a,u,h1,h2,h3⟩=>⟨a,u,h1,e _ _ h2,ChAt.mono e h3⟩
section
variable {P:Program} {w:World} {K:PySem.W.Frag} {mg:Str->Option Value} {base:Heap} {D:Adr}
theorem scIO:FnScope ["choices","told"] ["choices"] (jag jeL):=⟨rfl,rfl,rfl,by decide +kernel,rfl,by decide +kernel,by decide +kernel⟩
def spIO:Sp:=fun vs H Q _=>∃ (cs:List Bool) (v:V),vs=[v]/\ChAt H cs v/\cs.length<=1000/\∀ r H',H r=none->Same H H'->H' r=some (.lst (cs.reverse.map V.bl))->Q (.ref r) H'
theorem ok_IO (T:Txt w K mg D):FnOk P w K mg base CX0 1 D.aInOrder D.dInOrder ["choices"] spIO:=by
 refine T.fInOrder.ok scIO (fun vs H Q E h=>?_) (fun cdv A outer s H vs Q E hr h=>?_)
 ·obtain ⟨cs,v,rfl,_⟩:=h; rfl
 ·obtain ⟨cs,v,rfl,hv,hz,q⟩:=h
  refine ⟨_,jac (jak (i:=1) scIO.nd rfl (Or.inl rfl) (jba jad))
   (jac (jcI PassesOwn.never (joo (jmR (pv 0)))
    (jac (jap (jbv PySem.F.plainAttrs_list PySem.F.slot_list_append PySem.F.type_list_append jay (pv 1) (jaa (jam jaj (pv 0) jae (fun _ _=>rfl)) jad)))
    (jaf (jak (i:=0) scIO.nd rfl (Or.inl rfl) (jam jaj (pv 0) jae (fun _ _=>rfl))))))
   (jac (jap (jfu PySem.F.plainAttrs_list PySem.F.slot_list_reverse PySem.F.type_list_reverse jhT (pv 1)))
   (jaf (jat (pv 1))))),?_⟩
  refine ⟨Nat.zero_le _,fun r hr'=>?_⟩
  refine while_st (fun (st:List Bool×List Bool) σ H'=>cs=st.1++st.2/\Besides r H H'/\H' r=some (.lst (st.1.map V.bl))/\∃ u,σ=[some u,some (.ref r)]/\ChAt H st.2 u) (fun st=>st.2.length) ([],cs)
   ⟨rfl,Besides.refl.upd _,jab,v,rfl,hv⟩ (fun st σ H' e=>?_)
  obtain ⟨dn,rest⟩:=st
  obtain ⟨ec,e1,hl,u,rfl,hu⟩:=e
  dsimp only at ec hl hu
  have hlen:dn.length+rest.length<=1000:=by rw [<- List.length_append,<- ec]; exact hz
  cases rest with
  | nil =>
   obtain rfl:u=.non:=hu
   refine ⟨_,rfl,_,rfl,jbA ?_⟩
   refine ⟨_,rfl,.inl ⟨rfl,_,SqL.of hl⟩,r,_,rfl,rfl,hl,?_⟩
   refine ⟨_,rfl,q r _ hr' (fun b o h=>(e1.upd _) b o h (ne_of_none h hr')) ?_⟩
   rw [jab,ec,List.append_nil,List.map_reverse]
  | cons b rest =>
   obtain ⟨a,u',rfl,ha,hu'⟩:=hu
   have nar:a≠r:=ne_of_none ha hr'
   refine ⟨_,rfl,_,rfl,jdx ⟨_,fun _ _ h=>h,?_⟩⟩
   ·refine ⟨_,rfl,.inl ⟨rfl,_,SqL.of hl⟩,_,rfl,a,_,_,_,rfl,rfl,SqT.of (e1 _ _ ha nar),rfl,r,_,_,rfl,rfl,hl,jaw (by rw [List.length_map]; omega),?_⟩
    refine ⟨_,rfl,a,_,_,_,rfl,rfl,SqT.of ((e1.upd _) _ _ ha nar),rfl,?_⟩
    exact ⟨rest.length,Nat.lt_succ_self _,(dn++[b],rest),rfl,by rw [ec,List.append_assoc]; rfl,e1.upd _,by rw [jab,List.map_append]; rfl,u',rfl,hu'⟩
end
open Mth (Stp okAt Down ok_zero ok_sign ok_choice Way enumW enumA enum_end enum_sign enum_choice enum_no enumA_snoc)
def WayAt (H:Hp) (wy:Way) (v:V):Prop:=∃ a u,v=.ref a/\H a=some (.tup [jcG wy.n,jcG wy.p,u])/\ChAt H wy.cs u
theorem WayAt.besL {H H':Hp} {l:Addr} {us:List V} (hl:H l=some (.lst us)) (e:Besides l H H') {wy:Way} {v:V} (h:WayAt H wy v):WayAt H' wy v:=by
 obtain ⟨a,u,h1,h2,h3⟩:=h
 exact ⟨a,u,h1,e _ _ h2 (jbj h2 hl (by intro z; cases z)),h3.besL hl e⟩
def WaysAt (H:Hp) (y:Addr) (ws:List Way):Prop:=∃ us,H y=some (.lst us)/\Paired (WayAt H) ws us
theorem WaysAt.mono {H H':Hp} (e:Same H H') {y:Addr} {ws:List Way} (h:WaysAt H y ws):WaysAt H' y ws:=by
 obtain ⟨us,h1,h2⟩:=h
 exact ⟨us,e _ _ h1,Paired.mapP h2 fun _ _ ⟨a,u,q1,q2,q3⟩=>⟨a,u,q1,e _ _ q2,q3.mono e⟩⟩
theorem Paired.one {α β:Type} {F:α->β->Prop} {as:List α} {bs:List β} (h:Paired F as bs) {i:Nat} {a:α} (e:as[i]?=some a):∃ b,bs[i]?=some b/\F a b:=by
 have hi:i < bs.length:=by rw [<- h.length]; exact (List.getElem?_eq_some_iff.mp e).1
 exact ⟨bs[i],List.getElem?_eq_getElem hi,jbl h e (List.getElem?_eq_getElem hi)⟩
structure WayOk (S:List Stp) (t:List Nat) (wy:Way):Prop where
 ok:okAt S t wy.n wy.p
 lt:wy.n < S.length
 cs:wy.cs.length+wy.n<=S.length
section
variable {P:Program} {w:World} {K:PySem.W.Frag} {mg:Str->Option Value} {base:Heap} {D:Adr}
theorem scCA:FnScope ["steps","fits","way","ways","number","place","choices","step"] ["steps","fits","way","ways"] (jag jbR):=⟨rfl,rfl,rfl,by decide +kernel,rfl,by decide +kernel,by decide +kernel⟩
def spCA (D:Adr):Sp:=fun vs H Q _=>∃ (l f y:Addr) (wv:V) (S:List Stp) (t:List Nat) (xs:List Nat) (w0:Way) (ws:List Way),vs=[.ref l,.ref f,wv,.ref y]/\StA D H l S/\Down S/\S.length<=900/\H f=some (.lst (xs.map jcG))/\xs.length=S.length/\FitsL S t xs /\
 y≠l/\y≠f/\WayAt H w0 wv/\WayOk S t w0/\WaysAt H y ws/\(∀ x∈ws,WayOk S t x)/\ws.length<=990000 /\
 ∀ r cs ws' H',H r=none->Besides y H H'->H' r=some (.lst (cs.map V.bl))->WaysAt H' y ws'->(∀ x∈ws',WayOk S t x)->ws'.length<=ws.length+S.length->enumW S t w0++enumA S t ws=cs::enumA S t ws'->Q (.ref r) H'
theorem ok_CA (T:Txt w K mg D):FnOk P w K mg base CX0 2 D.aChoicesAlong D.dChoicesAlong ["steps","fits","way","ways"] (spCA D):=by
 have GH:FnOk P w K mg base CX0 1 D.aHasPlace D.dHasPlace ["places","place"] spHP:=jpu T
 have GI:FnOk P w K mg base CX0 1 D.aInOrder D.dInOrder ["choices"] spIO:=ok_IO T
 refine T.fChoicesAlong.ok scCA (fun vs H Q E h=>?_) (fun cdv A outer s H vs Q E hr h=>?_)
 ·obtain ⟨l,f,y,wv,S,t,xs,w0,ws,rfl,_⟩:=h; rfl
 ·obtain ⟨l,f,y,wv,S,t,xs,w0,ws,rfl,⟨sv,hl,hp⟩,hdn,hS,hf,hxl,hfit,nyl,nyf,⟨wa,cv0,rfl,hwa,hc0⟩,hw0,hws,hwsok,hwl,q⟩:=h
  refine ⟨_,jac (jak (i:=4) scCA.nd rfl (Or.inl rfl) (jam jaj (pv 2) jae (fun _ _=>rfl)))
   (jac (jak (i:=5) scCA.nd rfl (Or.inl rfl) (jam jaj (pv 2) jae (fun _ _=>rfl)))
   (jac (jak (i:=6) scCA.nd rfl (Or.inl rfl) (jam jaj (pv 2) jae (fun _ _=>rfl)))
   (jac (jcI PassesOwn.never (jao jfl (pv 4) jae (jas _))
    (jac (jak (i:=7) scCA.nd rfl (Or.inl rfl) (jam jaG (pv 0) (pv 4) (fun _ _=>rfl)))
    (jac (jir (i:=4) scCA.nd rfl (Or.inl rfl) jae jor)
    (jaf (jaF (jbu (jal jbc rfl T.zIsinstance PyProof.Rows.boot_isinstance (jaa (pv 7) (jaa (jaV (v:=.ref D.cSign) rfl T.mgSign rfl) jad))))
     (jaf (jir (i:=5) scCA.nd rfl (Or.inl rfl) jae jlS))
     (jaf (jaF (jbu (jai GH hr rfl T.mHasPlace T.fHasPlace.kp T.bHasPlace .nil jaq (jaa (jam jaG (pv 1) (jaD (pv 7) rfl) (fun _ _=>rfl)) (jaa (pv 5) jad))))
      (jac (jaF (jbu (jai GH hr rfl T.mHasPlace T.fHasPlace.kp T.bHasPlace .nil jaq (jaa (jam jaG (pv 1) (pv 4) (fun _ _=>rfl)) (jaa (pv 5) jad))))
       (jaf (jap (jbv PySem.F.plainAttrs_list PySem.F.slot_list_append PySem.F.type_list_append jay (pv 3) (jaa (jbe (jaa (pv 4) (jaa (pv 5) (jaa (jbe (jaa jdu (jaa (pv 6) jad))) jad)))) jad)))) jav)
      (jac (jak (i:=6) scCA.nd rfl (Or.inl rfl) (jbe (jaa jdu (jaa (pv 6) jad))))
      (jaf (jak (i:=4) scCA.nd rfl (Or.inl rfl) (jaD (pv 7) rfl)))))
      (jaf (jak (i:=6) scCA.nd rfl (Or.inl rfl) (jbe (jaa jdu (jaa (pv 6) jad)))))))))))
   )
   (jaf (jat (jai GI hr rfl T.mInOrder T.fInOrder.kp T.bInOrder .nil jaq (jaa (pv 6) jad))))))),?_⟩
  refine ⟨_,rfl,wa,_,_,_,rfl,rfl,SqT.of hwa,rfl,?_⟩
  refine ⟨_,rfl,wa,_,_,_,rfl,rfl,SqT.of hwa,rfl,?_⟩
  refine ⟨_,rfl,wa,_,_,_,rfl,rfl,SqT.of hwa,rfl,?_⟩
  obtain ⟨us0,hy0,hus0⟩:=id hws
  have hlH:∀ {H':Hp},Besides y H H'->H' l=some (.lst sv):=fun e=>e _ _ hl (Ne.symm nyl)
  have hfH:∀ {H':Hp},Besides y H H'->H' f=some (.lst (xs.map jcG)):=fun e=>e _ _ hf (Ne.symm nyf)
  have z2:(2:Nat)<=sizeLine:=Nat.le_of_lt (jaw (by decide))
  have z3:(3:Nat)<=sizeLine:=Nat.le_of_lt (jaw (by decide))
  refine while_st (fun (st:Way×List Way) σ H'=>Besides y H H'/\WayOk S t st.1/\(∃ cv o,σ=[some (.ref l),some (.ref f),some (.ref wa),some (.ref y),some (jcG st.1.n),some (jcG st.1.p),some cv,o]/\ChAt H' st.1.cs cv)/\WaysAt H' y st.2/\(∀ x∈st.2,WayOk S t x) /\
   enumW S t w0++enumA S t ws=enumW S t st.1++enumA S t st.2/\st.2.length+st.1.n<=ws.length+w0.n) (fun st=>st.1.n) (w0,ws) ⟨Besides.refl,hw0,⟨cv0,none,rfl,hc0⟩,hws,hwsok,rfl,Nat.le_refl _⟩ (fun st σ H' e=>?_)
  obtain ⟨⟨n,p,cs⟩,ws1⟩:=st
  obtain ⟨e1,⟨hok,hlt,hcs⟩,⟨cv,o,rfl,hch⟩,hws1,hwsok1,een,hwl1⟩:=e
  dsimp only at hok hlt hcs hch een hwl1
  cases n with
  | zero =>
   refine ⟨_,rfl,_,_,rfl,rfl,_,rfl,jaJ (by show ¬ (0:Int) < ((0:Nat):Int); decide) ?_⟩
   refine ⟨_,rfl,cs,cv,rfl,hch,by omega,fun r H2 nr s2 hr2=>?_⟩
   rw [enum_end hok] at een
   have nr0:H r=none:=by
    cases h:H r with
    | none=>rfl
    | some o =>
     by_cases ey:r=y
     ·obtain ⟨u1,q1,_⟩:=hws1; rw [ey,q1] at nr; cases nr
     ·rw [e1 r o h ey] at nr; cases nr
   exact q r cs.reverse ws1 H2 nr0 (e1.same s2) hr2 (hws1.mono s2) hwsok1 (by have:=hw0.lt; omega) een
  | succ k =>
   have hpos:(0:Int) < ((k+1:Nat):Int):=by omega
   refine ⟨_,rfl,_,_,rfl,rfl,_,rfl,jbJ hpos ⟨_,fun _ _ h=>h,?_⟩⟩
   obtain ⟨st1,es⟩:∃ st1,S[k+1]?=some st1:=⟨_,List.getElem?_eq_getElem hlt⟩
   obtain ⟨sv1,esv,hst⟩:=Paired.one hp es
   have hst':=hst.besL hy0 e1
   refine ⟨_,rfl,_,rfl,l,_,_,_,rfl,rfl,SqL.of (hlH e1),jbD esv,?_⟩
   have ek:((k+1:Nat):Int) - 1=(k:Int):=by omega
   refine ⟨_,rfl,_,_,rfl,rfl,?_⟩
   have eσ:V.int (((k+1:Nat):Int) - 1)=jcG k:=congrArg V.int ek
   obtain ⟨us1,hy1,hus1⟩:=id hws1
   have hul:us1.length=ws1.length:=hus1.length.symm
   cases st1 with
   | sign sg =>
    obtain ⟨a,zz,rfl,rfl,dx,fs,ha,hfl⟩:=hst'
    obtain ⟨ok2,_⟩:=(ok_sign es).mp hok
    refine ⟨_,rfl,_,_,true,.inl ⟨_,rfl,T.isSignSign⟩,jcj T.kSign ha,_,rfl,jdx ?_⟩
    refine ⟨_,rfl,_,_,rfl,rfl,?_⟩
    rw [enum_sign es hok] at een
    refine ⟨k,Nat.lt_succ_self k,(⟨k,p+1,cs⟩,ws1),rfl,e1,⟨ok2,by dsimp only; omega,by dsimp only; omega⟩,⟨cv,some (.ref a),?_,hch⟩,hws1,hwsok1,een,by dsimp only; omega⟩
    show [_,_,_,_,some (V.int (((k+1:Nat):Int) - 1)),some (V.int ((p:Int)+1)),_,_]=_
    rw [ek]; rfl
   | choice b =>
    obtain ⟨a,rfl,dx,fs,ha,hfl⟩:=hst'
    have hb:=hdn k b es
    have hbe:=hfl ("behind",.int (b:Nat)) List.mem_cons_self
    obtain ⟨xb,exb⟩:∃ x,xs[b]?=some x:=⟨_,List.getElem?_eq_getElem (by omega)⟩
    obtain ⟨xk,exk⟩:∃ x,xs[k]?=some x:=⟨_,List.getElem?_eq_getElem (by omega)⟩
    have fb:=hfit b xb exb p
    have fk:=hfit k xk exk p
    have hpl:p<=t.length:=hok.1
    refine ⟨_,rfl,_,_,false,.inl ⟨_,rfl,T.isChoiceSign⟩,jcj T.kChoice ha,_,rfl,jbA ?_⟩
    refine ⟨_,rfl,_,rfl,a,_,dx,_,_,rfl,ha,T.kChoice.cl,T.nChoiceBehind,hbe,f,_,_,_,rfl,rfl,SqL.of (hfH e1),jbD (v:=jcG xb) (by rw [List.getElem?_map,exb]; rfl),_,rfl,xb,p,rfl,_,rfl,?_⟩
    rw [enum_choice es hb] at een
    cases tb:xb.testBit p with
    | true =>
     have okb:=fb.mp tb
     refine jdx ?_
     refine ⟨_,rfl,_,rfl,f,_,_,_,rfl,rfl,SqL.of (hfH e1),?_,_,rfl,xk,p,rfl,_,rfl,?_⟩
     ·show atI _ (((k+1:Nat):Int) - 1)=some (jcG xk)
      rw [ek]
      exact jbD (v:=jcG xk) (by rw [List.getElem?_map,exk]; rfl)
     cases tk:xk.testBit p with
     | true =>
      have okk:=fk.mp tk
      refine jdx ⟨_,rfl,.inl ⟨rfl,_,SqL.of hy1⟩,_,rfl,_,rfl,_,rfl,z2,fun T1 nT1=>⟨z3,fun T2 nT2=>?_⟩⟩
      have g1:=jah nT1 (.tup [.bl true,cv])
      have g2:=g1.trans (jah nT2 (.tup [.int (((k+1:Nat):Int) - 1),jcG p,.ref T1]))
      have hy2:=g2 _ _ hy1
      refine ⟨y,_,_,rfl,rfl,hy2,jpx (by have:=hw0.lt; omega),?_⟩
      have b2:Besides y H' _:=(Besides.of g2).upd (.lst (us1++[.ref T2]))
      have nT2y:T2≠y:=fun z=>by rw [z] at nT2; rw [g1 _ _ hy1] at nT2; cases nT2
      have nT1y:T1≠y:=fun z=>by rw [z] at nT1; rw [hy1] at nT1; cases nT1
      have hT1:=(Besides.of (x:=y) (jah nT2 (.tup [.int (((k+1:Nat):Int) - 1),jcG p,.ref T1]))).upd (.lst (us1++[.ref T2])) T1 _ jab nT1y
      have hT2:(L2.upd (L2.upd (L2.upd H' T1 (.tup [.bl true,cv])) T2 (.tup [.int (((k+1:Nat):Int) - 1),jcG p,.ref T1])) y (.lst (us1++[.ref T2]))) T2=some (.tup [jcG k,jcG p,.ref T1]):=by
       rw [upd_ne nT2y,jab,eσ]
      have hyn:(L2.upd (L2.upd (L2.upd H' T1 (.tup [.bl true,cv])) T2 (.tup [.int (((k+1:Nat):Int) - 1),jcG p,.ref T1])) y (.lst (us1++[.ref T2]))) y=some (.lst (us1++[.ref T2])):=jab
      generalize L2.upd (L2.upd (L2.upd H' T1 (.tup [.bl true,cv])) T2 (.tup [.int (((k+1:Nat):Int) - 1),jcG p,.ref T1])) y (.lst (us1++[.ref T2]))=H4 at b2 hT1 hT2 hyn ⊢
      have ha4:=b2 _ _ ha (jbj ha hy1 (by intro z; cases z))
      have ch4:=hch.besL hy1 b2
      refine ⟨_,rfl,z2,fun T3 nT3=>?_⟩
      have g3:=jah nT3 (.tup [.bl false,cv])
      refine ⟨_,rfl,a,_,dx,_,_,rfl,g3 _ _ ha4,T.kChoice.cl,T.nChoiceBehind,hbe,?_⟩
      refine ⟨b,by show b < k+1; omega,(⟨b,p,false::cs⟩,ws1++[⟨k,p,true::cs⟩]),rfl,(e1.trans b2).same g3,⟨okb,by dsimp only; omega,by simp; omega⟩,⟨.ref T3,_,rfl,T3,cv,rfl,jab,ch4.mono g3⟩,?_,?_,?_,?_⟩
      ·refine WaysAt.mono g3 ⟨_,hyn,Paired.snoc (Paired.mapP hus1 fun _ _ z=>z.besL hy1 b2) ⟨T2,.ref T1,rfl,hT2,T1,cv,rfl,hT1,ch4⟩⟩
      ·intro x hx
       rcases List.mem_append.mp hx with hx | hx
       ·exact hwsok1 x hx
       ·obtain rfl:x=⟨k,p,true::cs⟩:=by simpa using hx
        exact ⟨okk,by dsimp only; omega,by simp; omega⟩
      ·dsimp only; rw [enumA_snoc,een,List.append_assoc]
      ·simp; omega
     | false =>
      have okk:¬ okAt S t k p:=fun z=>by rw [fk.mpr z] at tk; cases tk
      refine jbA ⟨_,rfl,z2,fun T3 nT3=>?_⟩
      have g3:=jah nT3 (.tup [.bl false,cv])
      refine ⟨_,rfl,a,_,dx,_,_,rfl,g3 _ _ ha,T.kChoice.cl,T.nChoiceBehind,hbe,?_⟩
      refine ⟨b,by show b < k+1; omega,(⟨b,p,false::cs⟩,ws1),rfl,e1.same g3,⟨okb,by dsimp only; omega,by simp; omega⟩,⟨.ref T3,_,rfl,T3,cv,rfl,jab,hch.mono g3⟩,hws1.mono g3,hwsok1,?_,?_⟩
      ·dsimp only; rw [een,enum_no (k:=k) (cs:=true::cs) hpl okk,List.append_nil]
      ·dsimp only; omega
    | false =>
     have okb:¬ okAt S t b p:=fun z=>by rw [fb.mpr z] at tb; cases tb
     have okk:okAt S t k p:=((ok_choice es hb).mp hok).resolve_left okb
     refine jbA ⟨_,rfl,z2,fun T3 nT3=>?_⟩
     have g3:=jah nT3 (.tup [.bl true,cv])
     refine ⟨k,Nat.lt_succ_self k,(⟨k,p,true::cs⟩,ws1),rfl,e1.same g3,⟨okk,by dsimp only; omega,by simp; omega⟩,⟨.ref T3,some (.ref a),?_,T3,cv,rfl,jab,hch.mono g3⟩,hws1.mono g3,hwsok1,?_,?_⟩
     ·show [_,_,_,_,some (V.int (((k+1:Nat):Int) - 1)),_,_,_]=_
      rw [ek]
     ·dsimp only; rw [een,enum_no (k:=b) (cs:=false::cs) hpl okb,List.nil_append]
     ·dsimp only; omega
end
open Mth (Stp okAt Down paths Way enumW enumA enum_no enumA_snoc enumA_nil)
def CsAt (H:Hp) (cs:List Bool) (v:V):Prop:=∃ a,v=.ref a/\H a=some (.lst (cs.map V.bl))
theorem jhs {S:List Stp} {t:List Nat} {n:Nat}:enumW S t ⟨n,0,[]⟩=paths S n t:=by
 unfold enumW
 rw [List.drop_zero]
 show (paths S n t).map (fun x=>x)=_
 rw [List.map_id']
theorem jnM {α:Type} {l:List α} (h:l≠[]):∃ a i,l=i++[a]:=⟨l.getLast h,l.dropLast,(List.dropLast_concat_getLast h).symm⟩
theorem Paired.last {α β:Type} {F:α->β->Prop}:∀ {as:List α} {bs:List β} {a:α},Paired F (as++[a]) bs->∃ bs' b,bs=bs'++[b]/\Paired F as bs'/\F a b
 | [],_,_,.cons h .nil=>⟨[],_,rfl,.nil,h⟩
 | _::_,_,_,.cons h t=>by
  obtain ⟨bs',b,e,h1,h2⟩:=Paired.last t
  exact ⟨_::bs',b,by rw [e]; rfl,.cons h h1,h2⟩
section
variable {P:Program} {w:World} {K:PySem.W.Frag} {mg:Str->Option Value} {base:Heap} {D:Adr}
theorem scFC:FnScope ["steps","fits","most","found","ways"] ["steps","fits","most"] (jag jbQ):=⟨rfl,rfl,rfl,by decide +kernel,rfl,by decide +kernel,by decide +kernel⟩
def spFC (D:Adr):Sp:=fun vs H Q _=>∃ (l f:Addr) (most:Nat) (S:List Stp) (t:List Nat) (xs:List Nat),vs=[.ref l,.ref f,.int (most:Int)]/\StA D H l S/\Down S/\1<=S.length/\S.length<=900/\H f=some (.lst (xs.map jcG))/\xs.length=S.length/\FitsL S t xs/\most<=1000 /\
 ∀ r fv H',H r=none->Same H H'->H' r=some (.lst fv)->Paired (CsAt H') ((paths S (S.length - 1) t).take most) fv->Q (.ref r) H'
theorem ok_FC (T:Txt w K mg D):FnOk P w K mg base CX0 3 D.aFirstChoices D.dFirstChoices ["steps","fits","most"] (spFC D):=by
 have GH:FnOk P w K mg base CX0 1 D.aHasPlace D.dHasPlace ["places","place"] spHP:=jpu T
 have GC:FnOk P w K mg base CX0 2 D.aChoicesAlong D.dChoicesAlong ["steps","fits","way","ways"] (spCA D):=ok_CA T
 refine T.fFirstChoices.ok scFC (fun vs H Q E h=>?_) (fun cdv A outer s H vs Q E hr h=>?_)
 ·obtain ⟨l,f,most,S,t,xs,rfl,_⟩:=h; rfl
 ·obtain ⟨l,f,most,S,t,xs,rfl,hst,hdn,h1,hS,hf,hxl,hfit,hm,q⟩:=h
  have hr1:Room 1 _:=hr.mono (by decide)
  refine ⟨_,jac (jak (i:=3) scFC.nd rfl (Or.inl rfl) (jba jad))
   (jac (jak (i:=4) scFC.nd rfl (Or.inl rfl) (jba jad))
   (jac (jaF (jbu (jai GH hr1 rfl T.mHasPlace T.fHasPlace.kp T.bHasPlace .nil jaq (jaa (jam jaG (pv 1) (jgh jdF jae) (fun _ _=>rfl)) (jaa jae jad))))
    (jaf (jap (jbv PySem.F.plainAttrs_list PySem.F.slot_list_append PySem.F.type_list_append jay (pv 4) (jaa (jbe (jaa (jan jbY (jal jar rfl T.zLen PySem.boot_len (jaa (pv 0) jad)) jae) (jaa jae (jaa jlN jad)))) jad)))) jav)
   (jac (jcI PassesOwn.never (PW.pt (jcH (jgK (pv 4) (fun _=>rfl)) (jbX (jao jhK (jal jar rfl T.zLen PySem.boot_len (jaa (pv 3) jad)) (pv 2) (jas _)))))
    (jaf (jap (jbv PySem.F.plainAttrs_list PySem.F.slot_list_append PySem.F.type_list_append jay (pv 3) (jaa (jai GC hr rfl T.mChoicesAlong T.fChoicesAlong.kp T.bChoicesAlong .nil jaq (jaa (pv 0) (jaa (pv 1) (jaa (jfu PySem.F.plainAttrs_list PySem.F.slot_list_pop PySem.F.type_list_pop joy (pv 4)) (jaa (pv 4) jad))))) jad)))))
   (jaf (jat (pv 3)))))),?_⟩
  refine ⟨Nat.zero_le _,fun r nr=>⟨Nat.zero_le _,fun y ny=>?_⟩⟩
  have g1:=jah nr (.lst [])
  have g2:=g1.trans (jah ny (.lst []))
  have ny0:H y=none:=g1.free ny
  have nry:r≠y:=fun z=>by rw [<- z,jab] at ny; cases ny
  have hr2:(L2.upd (L2.upd H r (.lst [])) y (.lst [])) r=some (.lst []):=by rw [upd_ne nry]; exact jab
  have hy2:(L2.upd (L2.upd H r (.lst [])) y (.lst [])) y=some (.lst []):=jab
  generalize L2.upd (L2.upd H r (.lst [])) y (.lst [])=H2 at *
  obtain ⟨xl,exl⟩:∃ x,xs[S.length - 1]?=some x:=⟨_,List.getElem?_eq_getElem (by omega)⟩
  have fl:=hfit _ xl exl 0
  obtain ⟨sv,hl,hp⟩:=id hst
  have hyl:y≠l:=fun z=>by rw [z,hl] at ny0; cases ny0
  have hyf:y≠f:=fun z=>by rw [z,hf] at ny0; cases ny0
  have loop:∀ H3 ws0,Same H H3->H3 r=some (.lst [])->WaysAt H3 y ws0->(∀ x∈ws0,WayOk S t x)->ws0.length<=1->enumA S t ws0=paths S (S.length - 1) t ->
    jis (tAnd (fun σ H Q=>jbh 4 σ H fun x H'=>∃ k,TruV K x H' k/\Q k H') (jkM (tOp (rI0 fun i j=>.bl (decide (i < j))) (tCB (fun xs H Q=>∃ p ys,xs=[V.ref p]/\(SqL K H p ys\/SqT K H p ys)/\Q (.int (ys.length:Int)) H) (jaR (jbh 3) jdv)) (jbh 2))))
     (jgf (tBM K "list" jcA (jbh 3) (jaR (jgk (spCA D) [] E0 (jaR (jbh 0) (jaR (jbh 1) (jaR (tBM0 K "list" rPop (jbh 4)) (jaR (jbh 4) jdv))))) jdv)))
     {nx:=tRet (jbh 3) {nx:=fun _ H'=>Q .non H',rt:=Q},rt:=Q} [some (.ref l),some (.ref f),some (.int (most:Int)),some (.ref r),some (.ref y)] H3:=by
   intro H3 ws0 s3 hr3 hw3 hok3 hl3 en3
   refine while_st (fun (st:List (List Bool)×List Way) σ H'=>σ=[some (.ref l),some (.ref f),some (.int (most:Int)),some (.ref r),some (.ref y)]/\Same H H'/\(∃ fv,H' r=some (.lst fv)/\Paired (fun cs v=>∃ a,v=.ref a/\a≠y/\a≠r/\H' a=some (.lst (cs.map V.bl))) st.1 fv)/\WaysAt H' y st.2/\(∀ x∈st.2,WayOk S t x) /\
    st.1++enumA S t st.2=paths S (S.length - 1) t/\st.1.length<=most/\st.2.length<=1+st.1.length * 900) (fun st=>most - st.1.length) ([],ws0) ⟨rfl,s3,⟨[],hr3,.nil⟩,hw3,hok3,en3,Nat.zero_le _,by dsimp only; omega⟩ (fun st σ H' e=>?_)
   obtain ⟨dn,ws⟩:=st
   obtain ⟨rfl,s',⟨fv,hfv,hpf⟩,⟨us,hy,hus⟩,hok,en,hdl,hwl⟩:=e
   dsimp only at hpf hus hok en hdl hwl
   have fin:(paths S (S.length - 1) t).take most=dn->Q (.ref r) H':=fun e=>q r fv H' nr s' hfv (by rw [e]; exact Paired.mapP hpf fun _ _ ⟨a,h1,_,_,h4⟩=>⟨a,h1,h4⟩)
   refine ⟨_,rfl,!us.isEmpty,.inl ⟨us,SqL.of hy,rfl⟩,?_⟩
   by_cases hw:ws=[]
   ·subst hw
    cases hus
    refine jbA (jbA ⟨_,rfl,fin ?_⟩)
    rw [<- en,enumA_nil,List.append_nil,List.take_of_length_le hdl]
   ·obtain ⟨w1,ws1,rfl⟩:=jnM hw
    obtain ⟨us1,u1,rfl,hus1,hu1⟩:=Paired.last hus
    have hne:(!(us1++[u1]).isEmpty)=true:=by simp
    rw [hne]
    refine jdx ⟨_,rfl,r,_,rfl,.inl (SqL.of hfv),_,rfl,_,_,rfl,rfl,_,rfl,?_⟩
    have hfl:fv.length=dn.length:=hpf.length.symm
    by_cases hlt:dn.length < most
    ·have hlt':(fv.length:Int) < (most:Int):=by omega
     refine (jbJ (c:=(fv.length:Int) < (most:Int)) hlt' ⟨_,fun _ _ h=>h,?_⟩)
     have hbd:dn.length * 900<=900000:=Nat.le_trans (Nat.mul_le_mul_right 900 (Nat.le_trans hdl hm)) (by decide)
     have wl1:ws1.length<=dn.length * 900:=by rw [List.length_append,List.length_singleton] at hwl; omega
     refine ⟨_,rfl,.inl ⟨rfl,_,SqL.of hfv⟩,_,rfl,_,rfl,_,rfl,.inl ⟨rfl,_,SqL.of hy⟩,y,_,u1,rfl,rfl,hy,by simp,_,rfl,?_⟩
     rw [List.dropLast_concat]
     have b1:Besides y H' (L2.upd H' y (.lst us1)):=Besides.refl.upd _
     have sH1:Same H (L2.upd H' y (.lst us1)):=jaE s' ny0 b1
     have hr':=b1 _ _ hfv nry
     refine ⟨l,f,y,u1,S,t,xs,w1,ws1,rfl,hst.mono sH1,hdn,hS,sH1 _ _ hf,hxl,hfit,hyl,hyf,hu1.besL hy b1,hok w1 (List.mem_append_right _ List.mem_cons_self),⟨us1,jab,Paired.mapP hus1 fun _ _ z=>z.besL hy b1⟩,fun x hx=>hok x (List.mem_append_left _ hx),by omega,fun r2 cs ws2 H4 nr2 b4 hr4 hw4 hok4 hl4 en4=>?_⟩
     have b5:=b1.trans b4
     have hr5:=b5 _ _ hfv nry
     have nr2r:r2≠r:=fun z=>by rw [z,hr'] at nr2; cases nr2
     have nr2y:r2≠y:=fun z=>by rw [z,jab] at nr2; cases nr2
     have f1000:fv.length<=1000:=by omega
     refine ⟨r,_,_,rfl,rfl,hr5,jaw (by omega),?_⟩
     have br:Besides r H4 (L2.upd H4 r (.lst (fv++[.ref r2]))):=Besides.refl.upd _
     have sN:Same H (L2.upd H4 r (.lst (fv++[.ref r2]))):=jaE (jaE s' ny0 b5) nr br
     refine ⟨_,(show most - (dn++[cs]).length < most - dn.length by rw [List.length_append,List.length_singleton]; omega),(dn++[cs],ws2),rfl,rfl,sN,⟨_,jab,Paired.snoc (Paired.mapP hpf fun _ _ ⟨a,h1,h2,h3,h4⟩=>⟨a,h1,h2,h3,br _ _ (b5 _ _ h4 h2) h3⟩) ⟨r2,rfl,nr2y,nr2r,br _ _ hr4 nr2r⟩⟩,?_,hok4,?_,?_,?_⟩
     ·obtain ⟨us4,hy4,hus4⟩:=hw4
      exact ⟨us4,br _ _ hy4 (Ne.symm nry),Paired.mapP hus4 fun _ _ z=>z.besL hr5 br⟩
     ·dsimp only
      rw [<- en,enumA_snoc,en4,List.append_assoc]; rfl
     ·dsimp only; rw [List.length_append,List.length_singleton]; omega
     ·dsimp only; rw [List.length_append,List.length_singleton]; omega
    ·have hlt':¬ (fv.length:Int) < (most:Int):=by omega
     have em:most=dn.length:=by omega
     refine (jaJ (c:=(fv.length:Int) < (most:Int)) hlt' ⟨_,rfl,fin ?_⟩)
     rw [<- en,em,List.take_left']; rfl
  refine ⟨_,rfl,_,rfl,f,_,_,_,rfl,rfl,SqL.of (g2 _ _ hf),jjX (n:=S.length - 1) (v:=jcG xl) (by rw [List.length_map]; omega) (by rw [List.getElem?_map,exl]; rfl),xl,0,rfl,_,rfl,?_⟩
  cases tb:xl.testBit 0 with
  | true =>
   have ok0:=fl.mp tb
   refine jdx ⟨_,rfl,.inl ⟨rfl,_,SqL.of hy2⟩,_,rfl,l,sv,rfl,.inl (SqL.of (g2 _ _ hl)),_,_,rfl,rfl,Nat.le_of_lt (jaw (by show 3<=100000; decide)),fun U nU=>?_⟩
   have g3:=jah nU (.tup [.int ((sv.length:Int) - 1),.int 0,.non])
   refine ⟨y,_,_,rfl,rfl,g3 _ _ hy2,jaw (by show 0<=100000; decide),?_⟩
   have eU:V.int ((sv.length:Int) - 1)=jcG (S.length - 1):=congrArg V.int (by rw [<- hp.length]; omega)
   have nUy:U≠y:=fun z=>by rw [z,hy2] at nU; cases nU
   refine loop _ [⟨S.length - 1,0,[]⟩] (jaE (g2.trans g3) ny0 (Besides.refl.upd _)) (by rw [upd_ne nry]; exact g3 _ _ hr2) ⟨_,jab,.cons ⟨U,.non,rfl,?_,rfl⟩ .nil⟩ (fun x hx=>?_) (Nat.le_refl _) ?_
   ·rw [upd_ne nUy,jab]
    exact congrArg (fun x=>some (HO.tup [x,V.int 0,V.non])) eU
   ·obtain rfl:x=⟨S.length - 1,0,[]⟩:=by simpa using hx
    exact ⟨ok0,by dsimp only; omega,by simp⟩
   ·show enumA S t ([]++[_])=_
    rw [enumA_snoc,enumA_nil,List.append_nil,jhs]
  | false =>
   have ok0:¬ okAt S t (S.length - 1) 0:=fun z=>by rw [fl.mpr z] at tb; cases tb
   refine jbA (loop _ [] g2 hr2 ⟨[],hy2,.nil⟩ (fun x hx=>nomatch hx) (Nat.zero_le _) ?_)
   rw [enumA_nil,<- jhs,enum_no (Nat.zero_le _) ok0]
end
open Mth (cAsk)
def jbz (z:Str) (c:Addr) (u p:Nat):List (Str×V):=[("text",.str z),("choices",.ref c),("used",.int (u:Int)),("place",.int (p:Int))]
theorem jjY {z:Str} {c:Addr} {u p u':Nat}:jaK "used" (.int (u':Int)) (jbz z c u p)=jbz z c u' p:=by
 unfold jbz
 rw [jaK,if_neg (by decide +kernel),jaK,if_neg (by decide +kernel),jaK,if_pos rfl]
theorem jcu {z:Str} {c:Addr} {u p p':Nat}:jaK "place" (.int (p':Int)) (jbz z c u p)=jbz z c u p':=by
 unfold jbz
 rw [jaK,if_neg (by decide +kernel),jaK,if_neg (by decide +kernel),jaK,if_neg (by decide +kernel),jaK,if_pos rfl]
theorem lkH {f:Str} {v:V} {r:List (Str×V)}:List.lookup f ((f,v)::r)=some v:=by simp [List.lookup]
theorem lkT {f g:Str} {v:V} {r:List (Str×V)} {o:Option V} (h:f≠g) (e:List.lookup f r=o):List.lookup f ((g,v)::r)=o:=by
 rw [List.lookup_cons,beq_eq_false_iff_ne.mpr h]; exact e
theorem jmI {z:Str} {c:Addr} {u p:Nat}:(jbz z c u p).lookup ("text":Str)=some (.str z):=lkH
theorem jpy {z:Str} {c:Addr} {u p:Nat}:(jbz z c u p).lookup ("choices":Str)=some (.ref c):=lkT (by decide +kernel) lkH
theorem jmJ {z:Str} {c:Addr} {u p:Nat}:(jbz z c u p).lookup ("used":Str)=some (.int (u:Int)):=lkT (by decide +kernel) (lkT (by decide +kernel) lkH)
theorem jdr {z:Str} {c:Addr} {u p:Nat}:(jbz z c u p).lookup ("place":Str)=some (.int (p:Int)):=lkT (by decide +kernel) (lkT (by decide +kernel) (lkT (by decide +kernel) lkH))
theorem jdj {z:Str} {c:Addr} {u p:Nat} {m:Str} (h1:m≠"text") (h2:m≠"choices") (h3:m≠"used") (h4:m≠"place"):(jbz z c u p).lookup m=none:=lkT h1 (lkT h2 (lkT h3 (lkT h4 rfl)))
theorem jcU {z:Str} {c:Addr} {u p:Nat}:(jbz z c u p).length < 1000:=by show 4 < 1000; decide
section
variable {P:Program} {w:World} {K:PySem.W.Frag} {mg:Str->Option Value} {base:Heap} {D:Adr}
theorem scTI:FnScope ["self","text","choices"] ["self","text","choices"] (jag jeR):=⟨rfl,rfl,rfl,by decide +kernel,rfl,by decide +kernel,by decide +kernel⟩
def spTI (D:Adr):Sp:=fun vs H Q _=>∃ (x dx c:Addr) (z:Str),vs=[.ref x,.str z,.ref c]/\H x=some (.ins D.cTeller dx [])/\∀ H',Besides x H H'->H' x=some (.ins D.cTeller dx (jbz z c 0 0))->Q .non H'
theorem jnN {z:Str} {c:Addr}:jaK "place" (.int 0) (jaK "used" (.int 0) (jaK "choices" (.ref c) (jaK "text" (.str z) [])))=jbz z c 0 0:=by
 rw [jaK,jaK,if_neg (by decide +kernel),jaK,jaK,if_neg (by decide +kernel),jaK,if_neg (by decide +kernel),jaK]
 rw [jaK,if_neg (by decide +kernel),jaK,if_neg (by decide +kernel),jaK,if_neg (by decide +kernel),jaK]
 rfl
theorem ok_TI (T:Txt w K mg D):FnOk P w K mg base CX0 1 D.aTellerI D.dTellerI ["self","text","choices"] (spTI D):=by
 refine T.fTellerI.ok scTI (fun vs H Q E h=>?_) (fun cdv A outer s H vs Q E hr h=>?_)
 ·obtain ⟨x,dx,c,z,rfl,_⟩:=h; rfl
 ·obtain ⟨x,dx,c,z,rfl,hx,q⟩:=h
  refine ⟨_,jac (jbi (pv 0) (pv 1) rfl) (jac (jbi (pv 0) (pv 2) rfl) (jac (jbi (pv 0) jae rfl) (jaf (jbi (pv 0) jae rfl)))),?_⟩
  refine ⟨_,rfl,_,rfl,x,_,dx,_,rfl,hx,T.kTeller.cl,T.nTellerText,(by show 0 < 1000; decide),?_⟩
  refine ⟨_,rfl,_,rfl,x,_,dx,_,rfl,jab,T.kTeller.cl,T.nTellerChoices,Nat.lt_of_le_of_lt (jaI _ _ _ (k:=0) (Nat.le_refl _)) (by decide),?_⟩
  refine ⟨_,rfl,x,_,dx,_,rfl,jab,T.kTeller.cl,T.nTellerUsed,Nat.lt_of_le_of_lt (jaI _ _ _ (jaI _ _ _ (k:=0) (Nat.le_refl _))) (by decide),?_⟩
  refine ⟨_,rfl,x,_,dx,_,rfl,jab,T.kTeller.cl,T.nTellerPlace,Nat.lt_of_le_of_lt (jaI _ _ _ (jaI _ _ _ (jaI _ _ _ (k:=0) (Nat.le_refl _)))) (by decide),?_⟩
  refine q _ ((((Besides.refl.upd _).upd _).upd _).upd _) ?_
  rw [jab,jnN]
theorem scGO:FnScope ["self","part","number"] ["self","part","number"] (jag jbV):=⟨rfl,rfl,rfl,by decide +kernel,rfl,by decide +kernel,by decide +kernel⟩
structure TelOk (Hb H:Hp) (x c:Addr) (bs:List Bool):Prop where
 same:Same Hb H
 new:Hb x=none
 cs:Hb c=some (.lst (bs.map V.bl))
theorem TelOk.bes {Hb H H':Hp} {x c:Addr} {bs:List Bool} (h:TelOk Hb H x c bs) (e:Besides x H H'):TelOk Hb H' x c bs:=⟨jaE h.same h.new e,h.new,h.cs⟩
def spGO (K:PySem.W.Frag) (D:Adr):Sp:=fun vs H Q _=>∃ (Hb:Hp) (x dx c a C:Addr) (z:Str) (u p k:Nat) (lo hi:Int) (bs:List Bool),vs=[.ref x,.ref a,.int (k:Int)]/\TelOk Hb H x c bs/\H x=some (.ins D.cTeller dx (jbz z c u p))/\HasB K C/\Fld Hb a C [("least",.int lo),("most",.int hi)] /\
 ((k:Int) < lo->Q (.bl true) H)/\(lo<=(k:Int)->(k:Int)=hi->Q (.bl false) H)/\(lo<=(k:Int)->(k:Int)≠hi->∃ b,bs[u]?=some b/\Q (.bl b) (L2.upd H x (.ins D.cTeller dx (jbz z c (u+1) p))))
theorem jpz (T:Txt w K mg D):FnOk P w K mg base CX0 1 D.aTellerGoesOn D.dTellerGoesOn ["self","part","number"] (spGO K D):=by
 refine T.fTellerGoesOn.ok scGO (fun vs H Q E h=>?_) (fun cdv A outer s H vs Q E hr h=>?_)
 ·obtain ⟨Hb,x,dx,c,a,C,z,u,p,k,lo,hi,bs,rfl,_⟩:=h; rfl
 ·obtain ⟨Hb,x,dx,c,a,C,z,u,p,k,lo,hi,bs,rfl,⟨sb,nb,hc⟩,hx,B,⟨da,fs,ha,hf⟩,q1,q2,q3⟩:=h
  have el:=hf ("least",.int lo) List.mem_cons_self
  have em:=hf ("most",.int hi) (List.mem_cons_of_mem _ List.mem_cons_self)
  refine ⟨_,jac (jaF (jao jhK (pv 2) (jaD (pv 1) rfl) (jas _)) (jaf (jat jdu)) jav)
   (jac (jaF (jao jaZ (pv 2) (jaD (pv 1) rfl) (jas _)) (jaf (jat jdu)) jav)
   (jac (jcL (pv 0) jae jgL)
   (jaf (jat (jam jaG (jaD (pv 0) rfl) (jan jbY (jaD (pv 0) rfl) jae) (fun _ _=>rfl)))))),?_⟩
  refine ⟨_,rfl,_,rfl,a,_,da,_,_,rfl,sb _ _ ha,B.cl,B.l,el,_,_,rfl,rfl,_,rfl,?_⟩
  by_cases h1:(k:Int) < lo
  ·exact jbJ h1 (q1 h1)
  ·refine jaJ h1 ⟨_,rfl,_,rfl,a,_,da,_,_,rfl,sb _ _ ha,B.cl,B.m,em,rfl,_,rfl,?_⟩
   by_cases h2:(k:Int)=hi
   ·exact jbJ (congrArg V.int h2) (q2 (by omega) h2)
   ·obtain ⟨b,eb,q⟩:=q3 (by omega) h2
    refine jaJ (fun z=>h2 (V.int.inj z)) ?_
    refine ⟨_,rfl,x,_,dx,_,_,rfl,hx,T.kTeller.cl,T.nTellerUsed,jmJ,_,_,rfl,rfl,dx,_,hx,jcU,?_⟩
    have e1:jaK "used" (.int ((u:Int)+1)) (jbz z c u p)=jbz z c (u+1) p:=jjY
    rw [e1]
    have hcx:c≠x:=ne_of_none hc nb
    have hc1:(L2.upd H x (.ins D.cTeller dx (jbz z c (u+1) p))) c=some (.lst (bs.map V.bl)):=by rw [upd_ne hcx]; exact sb _ _ hc
    refine ⟨_,rfl,x,_,dx,_,_,rfl,jab,T.kTeller.cl,T.nTellerChoices,jpy,_,rfl,x,_,dx,_,_,rfl,jab,T.kTeller.cl,T.nTellerUsed,jmJ,_,_,rfl,rfl,c,_,_,_,rfl,rfl,SqL.of hc1,?_,q⟩
    rw [show (((u+1:Nat):Int) - 1)=(u:Int) by omega]
    exact jbD (by rw [List.getElem?_map,eb]; rfl)
theorem scFO:FnScope ["self","ask","length"] ["self","ask"] (jag jbG):=⟨rfl,rfl,rfl,by decide +kernel,rfl,by decide +kernel,by decide +kernel⟩
def spFO (K:PySem.W.Frag) (D:Adr):Sp:=fun vs H Q _=>∃ (Hb:Hp) (x dx c a:Addr) (z:Str) (u p n:Nat) (nm sg:Str) (lo hi:Int) (bs rest:List Bool),vs=[.ref x,.ref a]/\TelOk Hb H x c bs/\H x=some (.ins D.cTeller dx (jbz z c u p))/\(Pc.ask nm sg lo hi).Obj D.cl Hb (.ref a)/\0<=lo/\lo<=(n:Int)/\(n:Int)<=hi /\
 bs.drop u=cAsk lo.toNat hi.toNat 0 n++rest/\p+n<=z.length/\z.length<=90000 /\
 ∀ H',Besides x H H'->H' x=some (.ins D.cTeller dx (jbz z c (u+(cAsk lo.toNat hi.toNat 0 n).length) (p+n)))->Q (.str ⟨(((tl z).drop p).take n).toArray⟩) H'
theorem jht {lo m k:Nat} (h:lo<=k):cAsk lo m k 0=if m=0 then [] else [false]:=by
 cases m with
 | zero=>rfl
 | succ m=>rw [cAsk,if_pos h,if_neg (by omega)]
theorem jjZ {lo m k n:Nat}:cAsk lo (m+1) k (n+1)=(if lo<=k then [true] else [])++cAsk lo m (k+1) n:=by
 rw [cAsk]; split <;> rfl
theorem jcV {bs r:List Bool} {u:Nat} {b:Bool} (h:bs.drop u=b::r):bs[u]?=some b/\bs.drop (u+1)=r:=by
 have e:bs[u]?=some b:=by
  have:=List.getElem?_drop (xs:=bs) (i:=u) (j:=0)
  rw [h] at this; simpa using this.symm
 refine ⟨e,?_⟩
 have:bs.drop (u+1)=(bs.drop u).drop 1:=by rw [List.drop_drop]
 rw [this,h]; rfl
theorem ok_FO (T:Txt w K mg D):FnOk P w K mg base CX0 2 D.aTellerFieldOf D.dTellerFieldOf ["self","ask"] (spFO K D):=by
 have G:FnOk P w K mg base CX0 1 D.aTellerGoesOn D.dTellerGoesOn ["self","part","number"] (spGO K D):=jpz T
 refine T.fTellerFieldOf.ok scFO (fun vs H Q E h=>?_) (fun cdv A outer s H vs Q E hr h=>?_)
 ·obtain ⟨Hb,x,dx,c,a,z,u,p,n,nm,sg,lo,hi,bs,rest,rfl,_⟩:=h; rfl
 ·obtain ⟨Hb,x,dx,c,a,z,u,p,n,nm,sg,lo,hi,bs,rest,rfl,tk,hx,⟨a',ea,hfl⟩,b0,b1,b2,hbs,hpn,hz,q⟩:=h
  obtain rfl:a=a':=by cases ea; rfl
  have hB:HasB K D.cAsk:=⟨T.kAsk.cl,T.nAskLeast,T.nAskMost⟩
  have hfl':Fld Hb a D.cAsk [("least",.int lo),("most",.int hi)]:=Fld.sub hfl (jda (List.mem_cons_of_mem _ (List.mem_cons_of_mem _ List.mem_cons_self)) (jda (List.mem_cons_of_mem _ (List.mem_cons_of_mem _ (List.mem_cons_of_mem _ List.mem_cons_self))) jgc))
  refine ⟨_,jac (jak (i:=2) scFO.nd rfl (Or.inl rfl) jae)
   (jac (jcI PassesOwn.never (jbu (jdb (pv 0) T.kTeller.cl T.meTellerGoesOn G hr T.bTellerGoesOn .nil jaq (jaa (pv 1) (jaa (pv 2) jad)))) (jaf (jir (i:=2) scFO.nd rfl (Or.inl rfl) jae jlS)))
   (jac (jcL (pv 0) (pv 2) jgL)
   (jaf (jat (jaX jph (jaD (pv 0) rfl) (jaS (jan jbY (jaD (pv 0) rfl) (pv 2))) (jaS (jaD (pv 0) rfl))))))),?_⟩
  refine while_st (fun (st:Nat×Nat) σ H'=>σ=[some (.ref x),some (.ref a),some (.int (st.1:Int))]/\Besides x H H'/\H' x=some (.ins D.cTeller dx (jbz z c st.2 p))/\st.1<=n/\bs.drop st.2=cAsk lo.toNat (hi.toNat - st.1) st.1 (n - st.1)++rest/\st.2+(cAsk lo.toNat (hi.toNat - st.1) st.1 (n - st.1)).length=u+(cAsk lo.toNat hi.toNat 0 n).length)
   (fun st=>n - st.1) (0,u) ⟨rfl,Besides.refl,hx,Nat.zero_le _,hbs,rfl⟩ (fun st σ H' e=>?_)
  obtain ⟨j,v⟩:=st
  obtain ⟨rfl,e1,hx1,hj,hbs1,hlen⟩:=e
  dsimp only at hx1 hj hbs1 hlen
  have noG:(jbz z c v p).lookup ("goes_on":Str)=none:=jdj (by decide +kernel) (by decide +kernel) (by decide +kernel) (by decide +kernel)
  refine ⟨_,rfl,x,dx,_,rfl,hx1,noG,_,rfl,_,rfl,Hb,x,dx,c,a,D.cAsk,z,v,p,j,lo,hi,bs,rfl,tk.bes e1,hx1,hB,hfl',fun h=>?_,fun h1 h2=>?_,fun h1 h2=>?_⟩
  ·have jn:j < n:=by omega
   refine ⟨_,rfl,jdx ⟨_,fun _ _ h=>h,?_⟩⟩
   refine ⟨_,rfl,_,_,rfl,rfl,?_⟩
   have em:hi.toNat - j=(hi.toNat - (j+1))+1:=by omega
   have en:n - j=(n - (j+1))+1:=by omega
   rw [em,en,jjZ,if_neg (by omega),List.nil_append] at hbs1 hlen
   exact ⟨n - (j+1),by show n - (j+1) < n - j; omega,(j+1,v),rfl,rfl,e1,hx1,jn,hbs1,hlen⟩
  ·have jn:j=n:=by omega
   subst jn
   rw [show j - j=0 by omega,jht (by omega),if_pos (by omega),List.length_nil] at hlen
   refine ⟨_,rfl,jbA ?_⟩
   refine ⟨_,rfl,x,_,dx,_,_,rfl,hx1,T.kTeller.cl,T.nTellerPlace,jdr,_,rfl,_,_,rfl,rfl,dx,_,hx1,jcU,?_⟩
   have e2:jaK "place" (.int ((p:Int)+(j:Int))) (jbz z c v p)=jbz z c v (p+j):=jcu
   rw [e2]
   refine ⟨_,rfl,x,_,dx,_,_,rfl,jab,T.kTeller.cl,T.nTellerText,jmI,_,rfl,x,_,dx,_,_,rfl,jab,T.kTeller.cl,T.nTellerPlace,jdr,_,rfl,_,_,rfl,rfl,_,rfl,_,rfl,x,_,dx,_,_,rfl,jab,T.kTeller.cl,T.nTellerPlace,jdr,_,rfl,z,p,p+j,rfl,?_,rfl,by omega,hpn,Nat.le_of_lt (jaw (by omega)),?_⟩
   ·exact congrArg some (show (((p+j:Nat):Int) - (j:Int))=(p:Int) by omega)
   ·rw [show p+j - p=j by omega]
    refine q _ (e1.upd _) ?_
    rw [jab,<- hlen]; rfl
  ·by_cases jn:j < n
   ·have em:hi.toNat - j=(hi.toNat - (j+1))+1:=by omega
    have en:n - j=(n - (j+1))+1:=by omega
    rw [em,en,jjZ,if_pos (by omega)] at hbs1 hlen
    obtain ⟨k1,k2⟩:=jcV (by rw [hbs1]; rfl)
    refine ⟨true,k1,_,rfl,jdx ⟨_,fun _ _ h=>h,?_⟩⟩
    refine ⟨_,rfl,_,_,rfl,rfl,?_⟩
    refine ⟨n - (j+1),by show n - (j+1) < n - j; omega,(j+1,v+1),rfl,rfl,e1.upd _,jab,jn,k2,?_⟩
    rw [List.length_append,List.length_singleton] at hlen
    dsimp only; omega
   ·have jn:j=n:=by omega
    subst jn
    rw [show j - j=0 by omega,jht (by omega),if_neg (by omega)] at hbs1 hlen
    obtain ⟨k1,k2⟩:=jcV (by rw [hbs1]; rfl)
    refine ⟨false,k1,_,rfl,jbA ?_⟩
    refine ⟨_,rfl,x,_,dx,_,_,rfl,jab,T.kTeller.cl,T.nTellerPlace,jdr,_,rfl,_,_,rfl,rfl,dx,_,jab,jcU,?_⟩
    have e2:jaK "place" (.int ((p:Int)+(j:Int))) (jbz z c (v+1) p)=jbz z c (v+1) (p+j):=jcu
    rw [e2]
    refine ⟨_,rfl,x,_,dx,_,_,rfl,jab,T.kTeller.cl,T.nTellerText,jmI,_,rfl,x,_,dx,_,_,rfl,jab,T.kTeller.cl,T.nTellerPlace,jdr,_,rfl,_,_,rfl,rfl,_,rfl,_,rfl,x,_,dx,_,_,rfl,jab,T.kTeller.cl,T.nTellerPlace,jdr,_,rfl,z,p,p+j,rfl,?_,rfl,by omega,hpn,Nat.le_of_lt (jaw (by omega)),?_⟩
    ·exact congrArg some (show (((p+j:Nat):Int) - (j:Int))=(p:Int) by omega)
    ·rw [show p+j - p=j by omega]
     refine q _ ((e1.upd _).upd _) ?_
     rw [jab,<- hlen]; rfl
end
open Mth (R1 RQ MP MQ Fit1 FitL FitQ w1 wL wQ wF wGap c1 cL cRows cQ cF cAsk)
inductive RV where
 | tx (w:List Nat)
 | rows (inner:List Pc) (rr:List (List R1))
def jbN:List Pc->List R1->List (Str×List Nat)
 | .ask n ..::ps,.tx w::rs=>(n,w)::jbN ps rs
 | _::ps,_::rs=>jbN ps rs
 | _,_=>[]
def jcW (es:List (Str×List Nat)):List (Key×V):=es.map fun e=>(Sum.inr e.1,.str ⟨e.2.toArray⟩)
def RowD (H0 H:Hp) (inner:List Pc) (r:List R1) (v:V):Prop:=∃ a,v=.ref a/\H a=some (.dK (jcW (jbN inner r)))/\H0 a=none
def RvAt (H0 H:Hp):RV->V->Prop
 | .tx w,v=>v=.str ⟨w.toArray⟩
 | .rows inner rr,v=>∃ l us,v=.ref l/\H l=some (.lst us)/\H0 l=none/\Paired (RowD H0 H inner) rr us
def EntAt (H0 H:Hp) (e:Str×RV) (kv:Key×V):Prop:=kv.1=Sum.inr e.1/\RvAt H0 H e.2 kv.2
def ent:Pie->RQ->List (Str×RV)
 | .one (.ask n ..),.one (.tx w)=>[(n,.tx w)]
 | .rows n inner ..,.rows rr=>[(n,.rows inner rr)]
 | _,_=>[]
def entF:List Pie->List RQ->List (Str×RV)
 | p::ps,r::rs=>ent p r++entF ps rs
 | _,_=>[]
theorem RowD.bes {H0 H H':Hp} {x:Addr} (e:Besides x H H') (hx:(∃ o,H0 x=some o)\/∃ C dx fs,H x=some (.ins C dx fs)) {inner:List Pc} {r:List R1} {v:V} (h:RowD H0 H inner r v):RowD H0 H' inner r v:=by
 obtain ⟨a,h1,h2,h3⟩:=h
 refine ⟨a,h1,e _ _ h2 (fun z=>?_),h3⟩
 subst z
 rcases hx with ⟨o,hx⟩ | ⟨C,dx,fs,hx⟩
 ·rw [hx] at h3; cases h3
 ·rw [hx] at h2; cases h2
theorem RvAt.bes {H0 H H':Hp} {x:Addr} (e:Besides x H H') (hx:(∃ o,H0 x=some o)\/∃ C dx fs,H x=some (.ins C dx fs)):∀ {rv:RV} {v:V},RvAt H0 H rv v->RvAt H0 H' rv v
 | .tx _,_,h=>h
 | .rows inner rr,_,⟨l,us,h1,h2,h3,h4⟩=>by
  refine ⟨l,us,h1,e _ _ h2 (fun z=>?_),h3,Paired.mapP h4 fun _ _ q=>q.bes e hx⟩
  subst z
  rcases hx with ⟨o,hx⟩ | ⟨C,dx,fs,hx⟩
  ·rw [hx] at h3; cases h3
  ·rw [hx] at h2; cases h2
theorem EntAt.bes {H0 H H':Hp} {x:Addr} (e:Besides x H H') (hx:(∃ o,H0 x=some o)\/∃ C dx fs,H x=some (.ins C dx fs)) {en:Str×RV} {kv:Key×V} (h:EntAt H0 H en kv):EntAt H0 H' en kv:=⟨h.1,h.2.bes e hx⟩
theorem RowD.older {H0 H1 H:Hp} (o:∀ b,H1 b=none->H0 b=none) {inner:List Pc} {r:List R1} {v:V} (h:RowD H1 H inner r v):RowD H0 H inner r v:=by
 obtain ⟨a,h1,h2,h3⟩:=h
 exact ⟨a,h1,h2,o _ h3⟩
theorem RvAt.older {H0 H1 H:Hp} (o:∀ b,H1 b=none->H0 b=none):∀ {rv:RV} {v:V},RvAt H1 H rv v->RvAt H0 H rv v
 | .tx _,_,h=>h
 | .rows inner rr,_,⟨l,us,h1,h2,h3,h4⟩=>⟨l,us,h1,h2,o _ h3,Paired.mapP h4 fun _ _ q=>q.older o⟩
theorem EntAt.older {H0 H1 H:Hp} (o:∀ b,H1 b=none->H0 b=none) {en:Str×RV} {kv:Key×V} (h:EntAt H1 H en kv):EntAt H0 H en kv:=⟨h.1,h.2.older o⟩
theorem jfa {H0 H:Hp} {n:Str}:∀ {es:List (Str×RV)} {kvs:List (Key×V)},Paired (EntAt H0 H) es kvs->n∉es.map (·.1)->jaW kvs (Sum.inr n:Key)=none
 | _,_,.nil,_=>rfl
 | e::es,kv::kvs,.cons h t,hn=>by
  have h1:¬ kv.1=(Sum.inr n:Key):=fun z=>hn (by rw [h.1] at z; rw [List.map_cons,Sum.inr.inj z]; exact List.mem_cons_self)
  rw [jaQ h1]
  exact jfa t fun z=>hn (by rw [List.map_cons]; exact List.mem_cons_of_mem _ z)
theorem jfb {H0 H:Hp}:∀ {inner:List Pc} {r:List R1} {kvs:List (Key×V)},Paired (EntAt H0 H) (entF (inner.map .one) (r.map .one)) kvs->kvs=jcW (jbN inner r)
 | [],_,_,h=>by cases h; rfl
 | _::_,[],_,h=>by cases h; rename_i p ps; cases p <;> rfl
 | .say t::ps,v::rs,kvs,h=>jfb (inner:=ps) (r:=rs) h
 | .ask n sg lo hi::ps,.no::rs,kvs,h=>jfb (inner:=ps) (r:=rs) h
 | .ask n sg lo hi::ps,.tx w::rs,kvs,h=>by
  have h':Paired (EntAt H0 H) ((n,RV.tx w)::entF (ps.map .one) (rs.map .one)) kvs:=h
  cases h' with
  | cons h1 t =>
   obtain ⟨a,b⟩:=h1
   rename_i kv kvs'
   have e:kv=(Sum.inr n,V.str ⟨w.toArray⟩):=Prod.ext a b
   rw [jfb t,e]
   rfl
theorem jcl:∀ {ps:List Pie} {rs:List RQ},Mth.FitF (ps.map mPie) rs->(entF ps rs).map (·.1)=ps.flatMap Pie.nm
 | [],_,h=>by cases h; rfl
 | .one (.say t)::ps,_,.cons h t'=>by
  have ih:=jcl t'
  cases h with
  | one h1 =>
   show (entF ps _).map (·.1)=_
   rw [ih]; rfl
 | .one (.ask n sg lo hi)::ps,_,.cons h t'=>by
  have ih:=jcl t'
  cases h with
  | one h1 =>
   cases h1 with
   | ask _ _ _ =>
    show n::(entF ps _).map (·.1)=_
    rw [ih]; rfl
 | .rows n inner gap lo hi::ps,_,.cons h t'=>by
  have ih:=jcl t'
  cases h with
  | rows _ _ _ =>
   show n::(entF ps _).map (·.1)=_
   rw [ih]; rfl
theorem jka:∀ {ps:List Pc} {r:List R1},cF ((ps.map Pie.one).map mPie) (r.map .one)=cL (ps.map mPc) r
 | [],_=>by cases ‹List R1› <;> rfl
 | _::_,[]=>rfl
 | p::ps,v::r=>by
  show c1 (mPc p) v++cF ((ps.map Pie.one).map mPie) (r.map .one)=c1 (mPc p) v++cL (ps.map mPc) r
  rw [jka]
theorem jkb:∀ {ps:List Pc} {r:List R1},wF ((ps.map Pie.one).map mPie) (r.map .one)=wL (ps.map mPc) r
 | [],_=>by cases ‹List R1› <;> rfl
 | _::_,[]=>rfl
 | p::ps,v::r=>by
  show w1 (mPc p) v++wF ((ps.map Pie.one).map mPie) (r.map .one)=w1 (mPc p) v++wL (ps.map mPc) r
  rw [jkb]
theorem jkc:∀ {ps:List Pc} {r:List R1},FitL (ps.map mPc) r->Mth.FitF ((ps.map Pie.one).map mPie) (r.map .one)
 | [],_,.nil=>.nil
 | p::ps,_,.cons h t=>.cons (.one h) (jkc t)
theorem jfO:∀ ps:List Pc,(ps.map Pie.one).flatMap Pie.nm=ps.flatMap Pc.nm
 | []=>rfl
 | p::ps=>by rw [List.map_cons,List.flatMap_cons,List.flatMap_cons,jfO ps]; rfl
theorem jgC {α:Type} {l a b:List α} {p:Nat} (h:l.drop p=a++b) (hp:p<=l.length):p+a.length<=l.length/\l.drop (p+a.length)=b/\(l.drop p).take a.length=a:=by
 refine ⟨?_,?_,?_⟩
 ·have:=congrArg List.length h
  rw [List.length_drop,List.length_append] at this
  omega
 ·rw [<- List.drop_drop,h,List.drop_left']; rfl
 ·rw [h,List.take_left']; rfl
section
variable {P:Program} {w:World} {K:PySem.W.Frag} {mg:Str->Option Value} {base:Heap} {D:Adr}
theorem scRO:FnScope ["self","rows","told"] ["self","rows"] (jag jbU):=⟨rfl,rfl,rfl,by decide +kernel,rfl,by decide +kernel,by decide +kernel⟩
def spRO (K:PySem.W.Frag) (D:Adr) (okr:Prop):Sp:=fun vs H Q _=>∃ (Hb H0:Hp) (x dx c a:Addr) (z:Str) (u p:Nat) (pc:Pie) (r:RQ) (bs rest:List Bool) (tr:List Nat),vs=[.ref x,.ref a]/\okr/\TelOk Hb H x c bs/\H x=some (.ins D.cTeller dx (jbz z c u p))/\pc.Obj D.cl H0 Hb (.ref a)/\pc.ok/\jhr pc/\FitQ (mPie pc) r /\
 bs.drop u=cQ (mPie pc) r++rest/\p<=z.length/\(tl z).drop p=wQ (mPie pc) r++tr/\z.length<=90000 /\
 ∀ n rv v H',ent pc r=[(n,rv)]->Besides x H H'->RvAt H H' rv v->H' x=some (.ins D.cTeller dx (jbz z c (u+(cQ (mPie pc) r).length) (p+(wQ (mPie pc) r).length)))->Q v H'
theorem jpA (T:Txt w K mg D):FnOk P w K mg base CX0 2 D.aTellerRowsOf D.dTellerRowsOf ["self","rows"] (spRO K D False):=by
 refine T.fTellerRowsOf.ok scRO (fun vs H Q E h=>?_) (fun cdv A outer s H vs Q E hr h=>?_)
 ·obtain ⟨Hb,H0,x,dx,c,a,z,u,p,pc,r,bs,rest,tr,rfl,f,_⟩:=h; exact f.elim
 ·obtain ⟨Hb,H0,x,dx,c,a,z,u,p,pc,r,bs,rest,tr,rfl,f,_⟩:=h; exact f.elim
theorem scVa:FnScope ["self","parts","values","part"] ["self","parts"] (jag jby):=⟨rfl,rfl,rfl,by decide +kernel,rfl,by decide +kernel,by decide +kernel⟩
def jnO (K:PySem.W.Frag) (D:Adr) (okr:Prop):Sp:=fun vs H Q _=>∃ (Hb H0:Hp) (x dx c m:Addr) (z:Str) (u p:Nat) (ps:List Pie) (us:List V) (rs:List RQ) (bs rest:List Bool) (tr:List Nat),vs=[.ref x,.ref m]/\TelOk Hb H x c bs/\H x=some (.ins D.cTeller dx (jbz z c u p))/\Hb m=some (.lst us)/\Paired (Pie.Obj D.cl H0 Hb) ps us /\
 (∀ q∈ps,q.ok/\(jhr q->okr))/\(ps.flatMap Pie.nm).Nodup/\ps.length<=100/\Mth.FitF (ps.map mPie) rs /\
 bs.drop u=cF (ps.map mPie) rs++rest/\p<=z.length/\(tl z).drop p=wF (ps.map mPie) rs++tr/\z.length<=90000 /\
 ∀ a kvs H',Besides x H H'->H a=none->H' a=some (.dK kvs)->Paired (EntAt H H') (entF ps rs) kvs->H' x=some (.ins D.cTeller dx (jbz z c (u+(cF (ps.map mPie) rs).length) (p+(wF (ps.map mPie) rs).length)))->Q (.ref a) H'
abbrev VaI (D:Adr) (Hb H Hd:Hp) (x dx c m d:Addr) (z:Str) (ps:List Pie) (E:List (Str×RV)) (bs rest:List Bool) (tr:List Nat) (U W i:Nat) (σ:St) (H':Hp):Prop:=∃ (o:Option V) (rs2:List RQ) (es1:List (Str×RV)) (kvs:List (Key×V)) (u' p':Nat),σ=[some (.ref x),some (.ref m),some (.ref d),o]/\Besides x H H'/\TelOk Hb H' x c bs/\H' d=some (.dK kvs)/\(∀ b,H' b=none->Hd b=none)/\Paired (EntAt Hd H') es1 kvs/\es1++entF (ps.drop i) rs2=E/\H' x=some (.ins D.cTeller dx (jbz z c u' p'))/\Mth.FitF ((ps.drop i).map mPie) rs2/\bs.drop u'=cF ((ps.drop i).map mPie) rs2++rest/\p'<=z.length/\(tl z).drop p'=wF ((ps.drop i).map mPie) rs2++tr/\u'+(cF ((ps.drop i).map mPie) rs2).length=U/\p'+(wF ((ps.drop i).map mPie) rs2).length=W
theorem jhu {α:Type} {l a b:List α} {p:Nat} (h:l.drop p=a++b):l.drop (p+a.length)=b:=by
 rw [<- List.drop_drop,h,List.drop_left']; rfl
theorem jgD:∀ (ps:List Pie) (rs:List RQ),(entF ps rs).length<=ps.length
 | [],_=>Nat.zero_le _
 | _::_,[]=>Nat.zero_le _
 | p::ps,r::rs=>by
  have h1:=jgD ps rs
  have h2:(ent p r).length<=1:=by unfold ent; split <;> simp
  rw [entF,List.length_append,List.length_cons]
  omega
theorem jpB (T:Txt w K mg D) {okr:Prop} {k:Nat} (hk:2<=k) (GR:FnOk P w K mg base CX0 k D.aTellerRowsOf D.dTellerRowsOf ["self","rows"] (spRO K D okr)):FnOk P w K mg base CX0 (k+1) D.aTellerValuesOf D.dTellerValuesOf ["self","parts"] (jnO K D okr):=by
 have GF:FnOk P w K mg base CX0 2 D.aTellerFieldOf D.dTellerFieldOf ["self","ask"] (spFO K D):=ok_FO T
 refine T.fTellerValuesOf.ok scVa (fun vs H Q E h=>?_) (fun cdv A outer s H vs Q E hr h=>?_)
 ·obtain ⟨Hb,H0,x,dx,c,m,z,u,p,ps,us,rs,bs,rest,tr,rfl,_⟩:=h; rfl
 ·obtain ⟨Hb,H0,x,dx,c,m,z,u,p,ps,us,rs,bs,rest,tr,rfl,tk,hx,hm,hp,hok,hnd,h100,hfit,hbs,hpz,htx,hz,q⟩:=h
  have hr2:Room 2 _:=hr.mono hk
  have hu:=jeC hr
  have hus:us.length=ps.length:=hp.length.symm
  refine ⟨_,jac (jak (i:=2) scVa.nd rfl (Or.inl rfl) jcq)
   (jac (jaN PassesOwn.never rfl (jaL (pv 1)) (jaB (i:=3) scVa.nd rfl (Or.inl rfl))
    (jaf (jaF (jbu (jal jbc rfl T.zIsinstance PyProof.Rows.boot_isinstance (jaa (pv 3) (jaa (jaV (v:=.ref D.cSay) rfl T.mgSay rfl) jad))))
     (jaf (jcL (pv 0) (jal jaA rfl T.zLen PySem.boot_len (jaa (jaD (pv 3) rfl) jad)) jgL))
     (jaf (jaF (jbu (jal jbc rfl T.zIsinstance PyProof.Rows.boot_isinstance (jaa (pv 3) (jaa (jaV (v:=.ref D.cAsk) rfl T.mgAsk rfl) jad))))
      (jaf (jca hu (pv 2) (jaD (pv 3) rfl) (jdb (pv 0) T.kTeller.cl T.meTellerFieldOf GF hr2 T.bTellerFieldOf .nil jaq (jaa (pv 3) jad)) rfl))
      (jaf (jca hu (pv 2) (jaD (pv 3) rfl) (jdb (pv 0) T.kTeller.cl T.meTellerRowsOf GR hr T.bTellerRowsOf .nil jaq (jaa (pv 3) jad)) rfl)))))))
   (jaf (jat (pv 2)))),?_⟩
  dsimp only [cxK]
  intro d nd
  have g0:=jah nd (.dK [])
  have hdx:d≠x:=fun e=>by rw [e,hx] at nd; cases nd
  have hd0:(L2.upd H d (.dK [])) d=some (.dK []):=jab
  have hx0:=g0 _ _ hx
  have tk0:TelOk Hb (L2.upd H d (.dK [])) x c bs:=⟨tk.same.trans g0,tk.new,tk.cs⟩
  have old0:∀ b,(L2.upd H d (.dK [])) b=none->H b=none:=fun b=>g0.free
  generalize L2.upd H d (.dK [])=Hd at *
  have hnm:((entF ps rs).map (·.1)).Nodup:=by rw [jcl hfit]; exact hnd
  refine ⟨_,rfl,m,rfl,⟨_,SqL.of (tk0.same _ _ hm)⟩,jbg (xs:=us) (VaI D Hb H Hd x dx c m d z ps (entF ps rs) bs rest tr (u+(cF (ps.map mPie) rs).length) (p+(wF (ps.map mPie) rs).length))
   ⟨none,rs,[],[],u,p,rfl,Besides.of g0,tk0,hd0,fun _ h=>h,.nil,rfl,hx0,hfit,hbs,hpz,htx,rfl,rfl⟩ (fun i σ H' hi e=>?_) (fun i pv' σ H' hxi e D1 hD1=>?_) (fun σ H' e=>?_)⟩
  ·obtain ⟨_,_,_,_,_,_,_,_,tk',_⟩:=e
   exact SqL.of (tk'.same _ _ hm)
  ·obtain ⟨o,rs2,es1,kvs,u',p',rfl,e1,tk',hd',old',hes,een,hx',hft,hb',hpz',ht',hlu,hlp⟩:=e
   have hi:i < ps.length:=by rw [<- hus]; exact (List.getElem?_eq_some_iff.mp hxi).1
   obtain ⟨pc,ep,po⟩:=Paired.two hp hxi
   obtain ⟨okp,pr⟩:=hok pc (List.mem_of_getElem? ep)
   have ed:ps.drop i=pc::ps.drop (i+1):=by
    rw [List.drop_eq_getElem?_toList_append,ep]; rfl
   rw [ed,List.map_cons] at hft hb' ht' hlu hlp
   rw [ed] at een
   have hkl:kvs.length<=100:=by
    have h1:=congrArg List.length een
    have h2:=jgD ps rs
    have h3:=hes.length
    rw [List.length_append] at h1
    omega
   cases hft with
   | cons hq hrest =>
   rename_i rq rs3
   rw [cF] at hb' hlu
   rw [wF] at ht' hlp
   rw [entF,<- List.append_assoc] at een
   rw [List.length_append] at hlu hlp
   rw [List.append_assoc] at hb' ht'
   obtain ⟨t1,t2,t3⟩:=jgC ht' (by rw [Array.length_toList]; exact hpz')
   have t1':p'+(wQ (mPie pc) rq).length<=z.length:=by have:(tl z).length=z.length:=Array.length_toList; omega
   have hdx':d≠x:=hdx
   have put:∀ (n:Str) (rv:RV) (v:V) (H2:Hp),ent pc rq=[(n,rv)]->Besides x H' H2->RvAt H' H2 rv v->H2 x=some (.ins D.cTeller dx (jbz z c (u'+(cQ (mPie pc) rq).length) (p'+(wQ (mPie pc) rq).length))) ->
     H2 d=some (.dK kvs)/\VaI D Hb H Hd x dx c m d z ps (entF ps rs) bs rest tr (u+(cF (ps.map mPie) rs).length) (p+(wF (ps.map mPie) rs).length) (i+1) [some (.ref x),some (.ref m),some (.ref d),some pv'] (L2.upd H2 d (.dK (jcx kvs (Sum.inr n) v))):=by
    intro n rv v H2 een2 b2 hrv hx2
    have hd2:=b2 _ _ hd' hdx
    have bd:Besides d H2 (L2.upd H2 d (.dK (jcx kvs (Sum.inr n) v))):=Besides.refl.upd _
    have nin:n∉es1.map (·.1):=by
     have:((es1++ent pc rq++entF (ps.drop (i+1)) rs3).map (·.1)).Nodup:=by rw [een]; exact hnm
     rw [een2,List.map_append,List.map_append] at this
     have h1:=(List.nodup_append.mp this).1
     have h2:=(List.nodup_append.mp h1).2.2
     intro hn
     exact h2 n hn n (by simp) rfl
    have hk2:jcx kvs (Sum.inr n) v=kvs++[(Sum.inr n,v)]:=jbw v (jfa hes nin)
    obtain ⟨oo,hHd⟩:∃ o,Hd d=some o:=⟨_,hd0⟩
    have old2:∀ b,H2 b=none->Hd b=none:=fun b h=>old' b (by
     cases hb:H' b with
     | none=>rfl
     | some o =>
      by_cases hbx:b=x
      ·rw [hbx,hx2] at h; cases h
      ·rw [b2 _ _ hb hbx] at h; cases h)
    have oldH:∀ b,H' b=none->Hd b=none:=old'
    refine ⟨hd2,_,rs3,es1++[(n,rv)],kvs++[(Sum.inr n,v)],u'+(cQ (mPie pc) rq).length,p'+(wQ (mPie pc) rq).length,rfl,?_,⟨?_,tk'.new,tk'.cs⟩,?_,?_,?_,?_,?_,hrest,?_,t1',t2,by omega,by omega⟩
    ·intro b o hb hbx
     have:b≠d:=fun e=>by rw [e,nd] at hb; cases hb
     rw [upd_ne this]
     exact b2 _ _ (e1 _ _ hb hbx) hbx
    ·intro b o hb
     have hbd:b≠d:=fun e=>by
      have hh:=tk.same b o hb
      rw [e,nd] at hh; cases hh
     have hbx:b≠x:=ne_of_none hb tk.new
     rw [upd_ne hbd]
     exact b2 _ _ (tk'.same _ _ hb) hbx
    ·rw [jab,hk2]
    ·intro b h
     by_cases hbd:b=d
     ·rw [hbd,jab] at h; cases h
     ·rw [upd_ne hbd] at h; exact old2 b h
    ·refine Paired.snoc (Paired.mapP hes fun _ _ q=>(q.bes b2 (.inr ⟨_,_,_,hx'⟩)).bes bd (.inl ⟨oo,hHd⟩)) ⟨rfl,?_⟩
     exact (hrv.older oldH).bes bd (.inl ⟨oo,hHd⟩)
    ·rw [een2] at een; exact een
    ·rw [upd_ne (Ne.symm hdx)]; exact hx2
    ·exact jhu hb'
   cases pc with
   | one pp =>
    cases pp with
    | say t =>
     obtain ⟨a,rfl,da,fs,ha,hf⟩:=po
     cases hq with
     | one h1 =>
     cases h1 with
     | say =>
     have t12:t.length<=12:=okp.hi
     refine ⟨_,rfl,_,_,true,.inl ⟨_,rfl,T.isSaySay⟩,jcj T.kSay (tk'.same _ _ ha),_,rfl,jdx ?_⟩
     refine ⟨_,rfl,x,_,dx,_,_,rfl,hx',T.kTeller.cl,T.nTellerPlace,jdr,_,rfl,a,_,da,_,_,rfl,tk'.same _ _ ha,T.kSay.cl,T.nSayText,hf _ List.mem_cons_self,t,rfl,Nat.le_of_lt (jaw (by omega)),_,_,rfl,rfl,dx,_,hx',jcU,?_⟩
     have e2:jaK "place" (.int ((p':Int)+(t.length:Int))) (jbz z c u' p')=jbz z c u' (p'+t.length):=jcu
     rw [e2]
     have bx:Besides x H' (L2.upd H' x (.ins D.cTeller dx (jbz z c u' (p'+t.length)))):=Besides.refl.upd _
     have ew:(wQ (mPie (.one (.say t))) (.one .no)).length=t.length:=Array.length_toList
     refine hD1 _ _ ⟨_,rs3,es1,kvs,u',p'+t.length,rfl,e1.upd _,tk'.bes bx,bx _ _ hd' hdx,fun b h=>old' b ?_,Paired.mapP hes fun _ _ q=>q.bes bx (.inr ⟨_,_,_,hx'⟩),?_,jab,hrest,hb',by omega,?_,?_,by omega⟩
     ·by_cases hbx:b=x
      ·rw [hbx,jab] at h; cases h
      ·rw [upd_ne hbx] at h; exact h
     ·have:ent (.one (.say t)) (.one .no)=[]:=rfl
      rw [this,List.append_nil] at een; exact een
     ·rw [<- ew]; exact t2
     ·have:(cQ (mPie (.one (.say t))) (.one .no)).length=0:=rfl
      omega
    | ask n sg lo hi' =>
     obtain ⟨a,rfl,da,fs,ha,hf⟩:=id po
     cases hq with
     | one h1 =>
     cases h1 with
     | ask l1 l2 l3 =>
     rename_i wd
     obtain ⟨_,_,_,b1,b2,b3⟩:=okp
     have hen:ent (.one (.ask n sg lo hi')) (.one (.tx wd))=[(n,.tx wd)]:=rfl
     refine ⟨_,rfl,_,_,false,.inl ⟨_,rfl,T.isAskSay⟩,jcj T.kAsk (tk'.same _ _ ha),_,rfl,jbA ?_⟩
     refine ⟨_,rfl,_,_,true,.inl ⟨_,rfl,T.isAskAsk⟩,jcj T.kAsk (tk'.same _ _ ha),_,rfl,jdx ?_⟩
     refine ⟨_,rfl,x,dx,_,rfl,hx',jdj (by decide +kernel) (by decide +kernel) (by decide +kernel) (by decide +kernel),_,rfl,Hb,x,dx,c,a,z,u',p',wd.length,n,sg,lo,hi',bs,cF ((ps.drop (i+1)).map mPie) rs3++rest,rfl,tk',hx',po,b1,by omega,by omega,hb',t1',hz,fun H2 bb2 hx2=>?_⟩
     have htk:(⟨(((tl z).drop p').take wd.length).toArray⟩:Str)=⟨wd.toArray⟩:=congrArg (fun l=>(⟨List.toArray l⟩:Str)) t3
     obtain ⟨hd2,fin⟩:=put n (.tx wd) (.str ⟨(((tl z).drop p').take wd.length).toArray⟩) H2 hen bb2 (congrArg V.str htk) hx2
     have ha2:=bb2 _ _ (tk'.same _ _ ha) (fun e=>by rw [e] at ha; rw [tk.new] at ha; cases ha)
     exact ⟨_,rfl,_,rfl,a,_,da,_,_,rfl,ha2,T.kAsk.cl,T.nAskName,hf _ List.mem_cons_self,d,_,rfl,DPut.k (k:=Sum.inr n) hd2 (jaw (by omega)),hD1 _ _ fin⟩
   | rows n inner gap lo hi' =>
    obtain ⟨a,l',ws,rfl,hfl,_⟩:=id po
    obtain ⟨da,fs,ha,hf⟩:=hfl
    cases hq with
    | rows l1 l2 l3 =>
    rename_i rr
    refine ⟨_,rfl,_,_,false,.inl ⟨_,rfl,T.isRowsSay⟩,jcj T.kRows (tk'.same _ _ ha),_,rfl,jbA ?_⟩
    refine ⟨_,rfl,_,_,false,.inl ⟨_,rfl,T.isRowsAsk⟩,jcj T.kRows (tk'.same _ _ ha),_,rfl,jbA ?_⟩
    refine ⟨_,rfl,x,dx,_,rfl,hx',jdj (by decide +kernel) (by decide +kernel) (by decide +kernel) (by decide +kernel),_,rfl,Hb,H0,x,dx,c,a,z,u',p',_,.rows rr,bs,_,_,rfl,pr trivial,tk',hx',po,okp,trivial,.rows l1 l2 l3,hb',hpz',ht',hz,fun n' rv v H2 hen bb2 hrv hx2=>?_⟩
    obtain ⟨hd2,fin⟩:=put n' rv v H2 hen bb2 hrv hx2
    have en':n'=n:=by cases hen; rfl
    subst en'
    have ha2:=bb2 _ _ (tk'.same _ _ ha) (fun e=>by rw [e] at ha; rw [tk.new] at ha; cases ha)
    exact ⟨_,rfl,_,rfl,a,_,da,_,_,rfl,ha2,T.kRows.cl,T.nRowsName,hf _ List.mem_cons_self,d,_,rfl,DPut.k (k:=Sum.inr n') hd2 (jaw (by omega)),hD1 _ _ fin⟩
  ·obtain ⟨o,rs2,es1,kvs,u',p',rfl,e1,tk',hd',old',hes,een,hx',hft,hb',hpz',ht',hlu,hlp⟩:=e
   rw [hus,List.drop_length] at hft hlu hlp een
   cases hft
   have e0:entF ([]:List Pie) []=[]:=rfl
   rw [e0,List.append_nil] at een
   subst een
   have hu1:u'=u+(cF (ps.map mPie) rs).length:=hlu
   have hp1:p'=p+(wF (ps.map mPie) rs).length:=hlp
   rw [hu1,hp1] at hx'
   exact ⟨_,rfl,q d kvs H' e1 nd hd' (Paired.mapP hes fun _ _ q=>q.older old0) hx'⟩
end
structure RoS where
 (r1 r2:List (List R1)) (u p:Nat)
structure RoI (D:Adr) (Hb H Hr:Hp) (x dx c a r:Addr) (z:Str) (inner:List Pc) (gap:List Nat) (lo hi:Nat) (rr:List (List R1)) (bs rest:List Bool) (tr:List Nat) (U W:Nat) (st:RoS) (σ:St) (H':Hp):Prop where
 σe:σ=[some (.ref x),some (.ref a),some (.ref r)]
 bes:Besides x H H'
 tk:TelOk Hb H' x c bs
 lst:∃ us,H' r=some (.lst us)/\Paired (RowD Hr H' inner) st.r1 us
 old:∀ b,H' b=none->Hr b=none
 all:rr=st.r1++st.r2
 tel:H' x=some (.ins D.cTeller dx (jbz z c st.u st.p))
 cs:bs.drop st.u=cRows (inner.map mPc) lo (hi - st.r1.length) st.r1.length st.r2++rest
 cl:st.u+(cRows (inner.map mPc) lo (hi - st.r1.length) st.r1.length st.r2).length=U
 pz:st.p<=z.length
 ts:(tl z).drop st.p=wGap (inner.map mPc) gap st.r1.length st.r2++tr
 wl:st.p+(wGap (inner.map mPc) gap st.r1.length st.r2).length=W
theorem jfP {inner:List MP} {lo m k:Nat} (h:lo<=k):cRows inner lo m k []=if m=0 then [] else [false]:=by
 cases m with
 | zero=>rfl
 | succ m=>rw [cRows,if_pos h,if_neg (by omega)]
theorem jhv {inner:List MP} {lo m k:Nat} {r:List R1} {rs:List (List R1)}:cRows inner lo (m+1) k (r::rs)=(if lo<=k then [true] else [])++(cL inner r++cRows inner lo m (k+1) rs):=by
 rw [cRows]; split <;> rfl
section
variable {P:Program} {w:World} {K:PySem.W.Frag} {mg:Str->Option Value} {base:Heap} {D:Adr}
theorem ok_RO (T:Txt w K mg D):FnOk P w K mg base CX0 4 D.aTellerRowsOf D.dTellerRowsOf ["self","rows"] (spRO K D True):=by
 have GV:FnOk P w K mg base CX0 3 D.aTellerValuesOf D.dTellerValuesOf ["self","parts"] (jnO K D False):=jpB T (by decide) (jpA T)
 have G:FnOk P w K mg base CX0 1 D.aTellerGoesOn D.dTellerGoesOn ["self","part","number"] (spGO K D):=jpz T
 refine T.fTellerRowsOf.ok scRO (fun vs H Q E h=>?_) (fun cdv A outer s H vs Q E hr h=>?_)
 ·obtain ⟨Hb,H0,x,dx,c,a,z,u,p,pc,rq,bs,rest,tr,rfl,_⟩:=h; rfl
 ·obtain ⟨Hb,H0,x,dx,c,a,z,u,p,pc,rq,bs,rest,tr,rfl,_,tk,hx,po,okp,ir,hfit,hbs,hpz,htx,hz,q⟩:=h
  cases pc with
  | one p=>exact ir.elim
  | rows n inner gap lo hi =>
  cases hfit with
  | rows f1 f2 f3 =>
  rename_i rr
  obtain ⟨a',m,ws,ea,hfl,hm,_,hin⟩:=po
  obtain rfl:a=a':=by cases ea; rfl
  obtain ⟨_,hpo,hg,b0,b1,b2⟩:=okp
  have hr1:Room 1 _:=hr.mono (by decide)
  have hB:HasB K D.cRows:=⟨T.kRows.cl,T.nRowsLeast,T.nRowsMost⟩
  have hfl':Fld Hb a D.cRows [("least",.int lo),("most",.int hi)]:=Fld.sub hfl (jda (List.mem_cons_of_mem _ (List.mem_cons_of_mem _ (List.mem_cons_of_mem _ List.mem_cons_self))) (jda (List.mem_cons_of_mem _ (List.mem_cons_of_mem _ (List.mem_cons_of_mem _ (List.mem_cons_of_mem _ List.mem_cons_self)))) jgc))
  obtain ⟨da,fs,ha,hf⟩:=hfl
  have ep:=hf ("parts",.ref m) (List.mem_cons_of_mem _ List.mem_cons_self)
  have eg:=hf ("gap",.str gap) (List.mem_cons_of_mem _ (List.mem_cons_of_mem _ List.mem_cons_self))
  have clR:Cls K D.cl.rows:=T.kRows.cl
  have ng:NoAttr K D.cl.rows "gap":=T.nRowsGap
  have np:NoAttr K D.cl.rows "parts":=T.nRowsParts
  refine ⟨_,jac (jak (i:=2) scRO.nd rfl (Or.inl rfl) (jba jad))
   (jac (jcI PassesOwn.never (jbu (jdb (pv 0) T.kTeller.cl T.meTellerGoesOn G hr1 T.bTellerGoesOn .nil jaq (jaa (pv 1) (jaa (jal jar rfl T.zLen PySem.boot_len (jaa (pv 2) jad)) jad))))
    (jac (jaF (jgK (pv 2) (fun _=>rfl)) (jaf (jcL (pv 0) (jal jaA rfl T.zLen PySem.boot_len (jaa (jaD (pv 1) rfl) jad)) jgL)) jav)
    (jaf (jap (jbv PySem.F.plainAttrs_list PySem.F.slot_list_append PySem.F.type_list_append jay (pv 2) (jaa (jdb (pv 0) T.kTeller.cl T.meTellerValuesOf GV hr T.bTellerValuesOf .nil jaq (jaa (jaD (pv 1) rfl) jad)) jad))))))
   (jaf (jat (pv 2)))),?_⟩
  dsimp only [cxK]
  refine ⟨Nat.zero_le _,fun r nr=>?_⟩
  have g0:=jah nr (.lst [])
  have hrx:r≠x:=fun e=>by rw [e,hx] at nr; cases nr
  have hr0:(L2.upd H r (.lst [])) r=some (.lst []):=jab
  have hx0:=g0 _ _ hx
  have tk0:TelOk Hb (L2.upd H r (.lst [])) x c bs:=⟨tk.same.trans g0,tk.new,tk.cs⟩
  have old0:∀ b,(L2.upd H r (.lst [])) b=none->H b=none:=fun b=>g0.free
  generalize hHr:L2.upd H r (.lst [])=Hr at *
  have app:∀ (Dd:Ends) (H3:Hp) (v p3:Nat) (us:List V) (r1:List R1) (rst:List Bool) (trs:List Nat),TelOk Hb H3 x c bs->H3 x=some (.ins D.cTeller dx (jbz z c v p3))->H3 r=some (.lst us)->us.length<=10->FitL (inner.map mPc) r1->bs.drop v=cL (inner.map mPc) r1++rst->p3<=z.length->(tl z).drop p3=wL (inner.map mPc) r1++trs ->
    (∀ d H4,Besides x H3 H4->H3 d=none->H4 d=some (.dK (jcW (jbN inner r1)))->H4 x=some (.ins D.cTeller dx (jbz z c (v+(cL (inner.map mPc) r1).length) (p3+(wL (inner.map mPc) r1).length)))->H4 r=some (.lst us)->Dd.nx [some (.ref x),some (.ref a),some (.ref r)] (L2.upd H4 r (.lst (us++[.ref d])))) ->
    jgf (tBM K "list" jcA (jbh 2) (jaR (jkP D.cTeller "values_of" (jnO K D False) [] E0 (jbh 0) (jaR (jog K (jbh 1) "parts") jdv)) jdv)) Dd [some (.ref x),some (.ref a),some (.ref r)] H3:=by
   intro Dd H3 v p3 us r1 rst trs tk3 hx3 hr3 hu10 hft hb3 hp3 ht3 k
   refine ⟨_,rfl,.inl ⟨rfl,_,SqL.of hr3⟩,_,rfl,x,dx,_,rfl,hx3,jdj (by decide +kernel) (by decide +kernel) (by decide +kernel) (by decide +kernel),_,rfl,a,_,da,_,_,rfl,tk3.same _ _ ha,clR,np,ep,Hb,H0,x,dx,c,m,z,v,p3,inner.map Pie.one,ws,r1.map .one,bs,rst,trs,rfl,tk3,hx3,hm,jee hin,fun q hq=>?_,?_,?_,jkc hft,?_,hp3,?_,hz,fun d kvs H4 b4 nd4 hd4 hp4 hx4=>?_⟩
   ·obtain ⟨q',hq',rfl⟩:=List.mem_map.mp hq
    exact ⟨hpo.all q' hq',fun z=>z⟩
   ·rw [jfO]; exact hpo.nd
   ·rw [List.length_map]; have:=hpo.hi; omega
   ·rw [jka]; exact hb3
   ·rw [jkb]; exact ht3
   ·rw [jka,jkb] at hx4
    rw [jfb hp4] at hd4
    have hr4:=b4 _ _ hr3 hrx
    exact ⟨r,_,_,rfl,rfl,hr4,jaw (by omega),k d H4 b4 nd4 hd4 hx4 hr4⟩
  have hgl:(tl gap).length=gap.length:=Array.length_toList
  have hzl:(tl z).length=z.length:=Array.length_toList
  refine while_st (RoI D Hb H Hr x dx c a r z inner (tl gap) lo.toNat hi.toNat rr bs rest tr (u+(cRows (inner.map mPc) lo.toNat hi.toNat 0 rr).length) (p+(wGap (inner.map mPc) (tl gap) 0 rr).length)) (fun st=>st.r2.length) ⟨[],rr,u,p⟩
   ⟨rfl,Besides.of g0,tk0,⟨[],hr0,.nil⟩,fun _ h=>h,rfl,hx0,hbs,rfl,hpz,htx,rfl⟩ (fun st σ H' e=>?_)
  obtain ⟨rr1,rr2,u',p'⟩:=st
  obtain ⟨rfl,e1,tk',⟨us,hr',hus⟩,old',hall,hx',hb',hlu,hpz',ht',hlp⟩:=e
  dsimp only at hus hall hx' hb' hlu hpz' ht' hlp
  have hul:us.length=rr1.length:=hus.length.symm
  have hrl:rr.length=rr1.length+rr2.length:=by rw [hall,List.length_append]
  have noG:(jbz z c u' p').lookup ("goes_on":Str)=none:=jdj (by decide +kernel) (by decide +kernel) (by decide +kernel) (by decide +kernel)
  obtain ⟨oo,hHr⟩:∃ o,Hr r=some o:=⟨_,hr0⟩
  have fin:∀ (r1:List R1) (rr3:List (List R1)) (v p3:Nat) (H3:Hp) (d:Addr) (H4:Hp),rr2=r1::rr3->Besides x H' H3->(∀ b,H3 b=none->H' b=none)->Besides x H3 H4->H3 d=none->H4 d=some (.dK (jcW (jbN inner r1)))->H4 x=some (.ins D.cTeller dx (jbz z c (v+(cL (inner.map mPc) r1).length) (p3+(wL (inner.map mPc) r1).length)))->H4 r=some (.lst us) ->
    bs.drop v=cL (inner.map mPc) r1++(cRows (inner.map mPc) lo.toNat (hi.toNat - (rr1.length+1)) (rr1.length+1) rr3++rest)->p3<=z.length->(tl z).drop p3=wL (inner.map mPc) r1++(wGap (inner.map mPc) (tl gap) (rr1.length+1) rr3++tr) ->
    v+((cL (inner.map mPc) r1).length+(cRows (inner.map mPc) lo.toNat (hi.toNat - (rr1.length+1)) (rr1.length+1) rr3).length)=u+(cRows (inner.map mPc) lo.toNat hi.toNat 0 rr).length->p3+((wL (inner.map mPc) r1).length+(wGap (inner.map mPc) (tl gap) (rr1.length+1) rr3).length)=p+(wGap (inner.map mPc) (tl gap) 0 rr).length ->
    ∃ m',m' < rr2.length/\∃ st':RoS,st'.r2.length=m'/\RoI D Hb H Hr x dx c a r z inner (tl gap) lo.toNat hi.toNat rr bs rest tr (u+(cRows (inner.map mPc) lo.toNat hi.toNat 0 rr).length) (p+(wGap (inner.map mPc) (tl gap) 0 rr).length) st' [some (.ref x),some (.ref a),some (.ref r)] (L2.upd H4 r (.lst (us++[.ref d]))):=by
   intro r1 rr3 v p3 H3 d H4 err bb3 o3 bb4 nd4 hd4 hx4 hr4 hb3 hp3 ht3 hlu3 hlp3
   have ndr:d≠r:=fun e=>by
    rw [e,bb3 _ _ hr' hrx] at nd4; cases nd4
   have b34:=bb3.trans bb4
   have br:Besides r H4 (L2.upd H4 r (.lst (us++[.ref d]))):=Besides.refl.upd _
   have hd5:(L2.upd H4 r (.lst (us++[.ref d]))) d=some (.dK (jcW (jbN inner r1))):=by rw [upd_ne ndr]; exact hd4
   obtain ⟨t1,t2,_⟩:=jgC ht3 (by rw [hzl]; exact hp3)
   have l1:(rr1++[r1]).length=rr1.length+1:=by simp
   refine ⟨rr3.length,by rw [err]; exact Nat.lt_succ_self _,⟨rr1++[r1],rr3,v+(cL (inner.map mPc) r1).length,p3+(wL (inner.map mPc) r1).length⟩,rfl,rfl,?_,⟨?_,tk'.new,tk'.cs⟩,⟨us++[.ref d],jab,Paired.snoc (Paired.mapP hus fun _ _ q=>(q.bes b34 (.inr ⟨_,_,_,hx'⟩)).bes br (.inl ⟨oo,hHr⟩)) ⟨d,rfl,hd5,old' d (o3 d nd4)⟩⟩,?_,?_,?_,?_,?_,?_,?_,?_⟩
   ·intro b o hb hbx
    have hbr:b≠r:=fun e=>by rw [e,nr] at hb; cases hb
    rw [upd_ne hbr]
    exact b34 _ _ (e1 _ _ hb hbx) hbx
   ·intro b o hb
    have hbr:b≠r:=fun e=>by
     have hh:=tk.same b o hb
     rw [e,nr] at hh; cases hh
    rw [upd_ne hbr]
    exact b34 _ _ (tk'.same _ _ hb) (ne_of_none hb tk.new)
   ·intro b h
    refine old' b (o3 b ?_)
    by_cases hbr:b=r
    ·rw [hbr,jab] at h; cases h
    ·rw [upd_ne hbr] at h
     cases hb:H3 b with
     | none=>rfl
     | some o =>
      by_cases hbx:b=x
      ·rw [hbx,hx4] at h; cases h
      ·rw [bb4 _ _ hb hbx] at h; cases h
   ·dsimp only; rw [hall,err,List.append_assoc]; rfl
   ·dsimp only; rw [upd_ne (Ne.symm hrx)]; exact hx4
   ·dsimp only; rw [l1]; exact jhu hb3
   ·dsimp only; rw [l1]; omega
   ·dsimp only; omega
   ·dsimp only; rw [l1]; exact t2
   ·dsimp only; rw [l1]; omega
  have body:∀ (r1:List R1) (rr3:List (List R1)) (v:Nat) (H3:Hp),rr2=r1::rr3->Besides x H' H3->(∀ b,H3 b=none->H' b=none)->H3 x=some (.ins D.cTeller dx (jbz z c v p'))->bs.drop v=cL (inner.map mPc) r1++(cRows (inner.map mPc) lo.toNat (hi.toNat - (rr1.length+1)) (rr1.length+1) rr3++rest) ->
    v+((cL (inner.map mPc) r1).length+(cRows (inner.map mPc) lo.toNat (hi.toNat - (rr1.length+1)) (rr1.length+1) rr3).length)=u+(cRows (inner.map mPc) lo.toNat hi.toNat 0 rr).length ->
    ∀ Dd:Ends,(∀ σ' H'',(∃ m',m' < rr2.length/\∃ st':RoS,st'.r2.length=m'/\RoI D Hb H Hr x dx c a r z inner (tl gap) lo.toNat hi.toNat rr bs rest tr (u+(cRows (inner.map mPc) lo.toNat hi.toNat 0 rr).length) (p+(wGap (inner.map mPc) (tl gap) 0 rr).length) st' σ' H'')->Dd.nx σ' H'') ->
    tSeq (tIfS (fun σ H Q=>jbh 2 σ H fun x H'=>∃ k,TruV K x H' k/\Q k H') (jiB K (jbh 0) (tCB (fun vs H Q=>∃ x,vs=[V.str x]/\x.length<=sizeLine/\Q (.int (x.length:Int)) H) (jaR (jog K (jbh 1) "gap") jdv)) rAdd "place") jmS)
     (jgf (tBM K "list" jcA (jbh 2) (jaR (jkP D.cTeller "values_of" (jnO K D False) [] E0 (jbh 0) (jaR (jog K (jbh 1) "parts") jdv)) jdv))) Dd [some (.ref x),some (.ref a),some (.ref r)] H3:=by
   intro r1 rr3 v H3 err bb3 o3 hx3 hb3 hlu3 Dd hD
   have hr3:=bb3 _ _ hr' hrx
   have tk3:=tk'.bes bb3
   have r1m:FitL (inner.map mPc) r1:=f3 r1 (by rw [hall,err]; exact List.mem_append_right _ List.mem_cons_self)
   rw [err,wGap,List.append_assoc,List.append_assoc] at ht'
   rw [err,wGap,List.length_append,List.length_append] at hlp
   have hg5:gap.length<=5:=hg.hi
   have h3':rr.length<=3:=by omega
   have u10:us.length<=10:=by omega
   refine ⟨_,rfl,!us.isEmpty,.inl ⟨us,SqL.of hr3,rfl⟩,?_⟩
   by_cases h0:rr1=[]
   ·subst h0
    cases hus
    rw [if_pos List.length_nil,List.nil_append] at ht'
    rw [if_pos List.length_nil] at hlp
    refine jbA (app _ H3 v p' [] r1 _ _ tk3 hx3 hr3 u10 r1m hb3 hpz' ht' fun d H4 b4 nd4 hd4 hx4 hr4=>hD _ _ (fin r1 rr3 v p' H3 d H4 err bb3 o3 b4 nd4 hd4 hx4 hr4 hb3 hpz' ht' hlu3 ?_))
    have:([]:List Nat).length=0:=rfl
    omega
   ·have hne:(!us.isEmpty)=true:=by
     cases us with
     | nil=>exact absurd (List.length_eq_zero_iff.mp hul.symm) h0
     | cons _ _=>rfl
    rw [hne]
    have hl0:rr1.length≠0:=fun e=>h0 (List.length_eq_zero_iff.mp e)
    rw [if_neg hl0] at ht' hlp
    obtain ⟨t1,t2,_⟩:=jgC ht' (by rw [hzl]; exact hpz')
    refine jdx ⟨_,rfl,x,_,dx,_,_,rfl,hx3,T.kTeller.cl,T.nTellerPlace,jdr,_,rfl,a,_,da,_,_,rfl,tk3.same _ _ ha,clR,ng,eg,gap,rfl,Nat.le_of_lt (jaw (by omega)),_,_,rfl,rfl,dx,_,hx3,jcU,?_⟩
    have e2:jaK "place" (.int ((p':Int)+(gap.length:Int))) (jbz z c v p')=jbz z c v (p'+gap.length):=jcu
    rw [e2]
    have bx:Besides x H3 (L2.upd H3 x (.ins D.cTeller dx (jbz z c v (p'+gap.length)))):=Besides.refl.upd _
    rw [hgl] at t1 t2 hlp
    refine app _ _ v (p'+gap.length) us r1 _ _ (tk3.bes bx) jab (bx _ _ hr3 hrx) u10 r1m hb3 (by omega) t2 fun d H4 b4 nd4 hd4 hx4 hr4=>hD _ _ (fin r1 rr3 v (p'+gap.length) _ d H4 err (bb3.trans bx) (fun b h=>o3 b ?_) b4 nd4 hd4 hx4 hr4 hb3 (by omega) t2 hlu3 (by omega))
    by_cases hbx:b=x
    ·rw [hbx,jab] at h; cases h
    ·rw [upd_ne hbx] at h; exact h
  refine ⟨_,rfl,x,dx,_,rfl,hx',noG,_,rfl,_,rfl,r,us,rfl,.inl (SqL.of hr'),Hb,x,dx,c,a,D.cRows,z,u',p',us.length,lo,hi,bs,rfl,tk',hx',hB,hfl',fun h=>?_,fun h1 h2=>?_,fun h1 h2=>?_⟩
  ·cases rr2 with
   | nil=>rw [List.length_nil] at hrl; omega
   | cons r1 rr3 =>
    rw [List.length_cons] at hrl
    refine ⟨_,rfl,jdx ⟨_,fun _ _ h=>h,?_⟩⟩
    have em:hi.toNat - rr1.length=(hi.toNat - (rr1.length+1))+1:=by omega
    rw [em,jhv,if_neg (by omega),List.nil_append] at hb' hlu
    rw [List.length_append] at hlu
    rw [List.append_assoc] at hb'
    exact body r1 rr3 u' H' rfl Besides.refl (fun _ h=>h) hx' hb' hlu _ (fun _ _ h=>h)
  ·cases rr2 with
   | cons r1 rr3=>rw [List.length_cons] at hrl; omega
   | nil =>
    rw [jfP (by omega),if_pos (by omega)] at hlu
    rw [wGap] at hlp
    refine ⟨_,rfl,jbA ⟨_,rfl,?_⟩⟩
    rw [List.append_nil] at hall
    subst hall
    refine q n (.rows inner rr) (.ref r) H' rfl e1 ⟨r,us,rfl,hr',nr,Paired.mapP hus fun _ _ z=>z.older old0⟩ ?_
    have hu1:u'=u+(cRows (inner.map mPc) lo.toNat hi.toNat 0 rr).length:=hlu
    have hp1:p'=p+(wGap (inner.map mPc) (tl gap) 0 rr).length:=hlp
    rw [hu1,hp1] at hx'
    exact hx'
  ·cases rr2 with
   | nil =>
    rw [List.length_nil] at hrl
    rw [jfP (by omega),if_neg (by omega)] at hb' hlu
    rw [wGap] at hlp
    obtain ⟨k1,k2⟩:=jcV (by rw [hb']; rfl)
    refine ⟨false,k1,_,rfl,jbA ⟨_,rfl,?_⟩⟩
    rw [List.append_nil] at hall
    subst hall
    have bx:Besides x H' (L2.upd H' x (.ins D.cTeller dx (jbz z c (u'+1) p'))):=Besides.refl.upd _
    refine q n (.rows inner rr) (.ref r) _ rfl (e1.trans bx) ⟨r,us,rfl,bx _ _ hr' hrx,nr,Paired.mapP hus fun _ _ z=>(z.older old0).bes bx (.inr ⟨_,_,_,hx'⟩)⟩ ?_
    have hu1:u'+1=u+(cRows (inner.map mPc) lo.toNat hi.toNat 0 rr).length:=hlu
    have hp1:p'=p+(wGap (inner.map mPc) (tl gap) 0 rr).length:=hlp
    rw [jab,hu1,hp1]; rfl
   | cons r1 rr3 =>
    rw [List.length_cons] at hrl
    have em:hi.toNat - rr1.length=(hi.toNat - (rr1.length+1))+1:=by omega
    rw [em,jhv,if_pos (by omega)] at hb' hlu
    rw [List.length_append,List.length_append,List.length_singleton] at hlu
    obtain ⟨k1,k2⟩:=jcV (show bs.drop u'=true::(cL (inner.map mPc) r1++(cRows (inner.map mPc) lo.toNat (hi.toNat - (rr1.length+1)) (rr1.length+1) rr3++rest)) by rw [hb',List.append_assoc,List.append_assoc]; rfl)
    refine ⟨true,k1,_,rfl,jdx ⟨_,fun _ _ h=>h,?_⟩⟩
    refine body r1 rr3 (u'+1) _ rfl (Besides.refl.upd _) (fun b h=>?_) jab k2 (by omega) _ (fun _ _ h=>h)
    by_cases hbx:b=x
    ·rw [hbx,jab] at h; cases h
    ·rw [upd_ne hbx] at h; exact h
end
open Mth (R1 RQ MP MQ Fit1 FitL FitQ wF cF stepsOf rds paths_form rds_iff steps_down stepsOf_len)
def FrmD (H0 H:Hp) (ps:List Pie) (rs:List RQ) (v:V):Prop:=∃ a kvs,v=.ref a/\H a=some (.dK kvs)/\H0 a=none/\Paired (EntAt H0 H) (entF ps rs) kvs
theorem RowD.same {H0 H H':Hp} (e:Same H H') {inner:List Pc} {r:List R1} {v:V} (h:RowD H0 H inner r v):RowD H0 H' inner r v:=by
 obtain ⟨a,h1,h2,h3⟩:=h
 exact ⟨a,h1,e _ _ h2,h3⟩
theorem RvAt.same {H0 H H':Hp} (e:Same H H'):∀ {rv:RV} {v:V},RvAt H0 H rv v->RvAt H0 H' rv v
 | .tx _,_,h=>h
 | .rows _ _,_,⟨l,us,h1,h2,h3,h4⟩=>⟨l,us,h1,e _ _ h2,h3,Paired.mapP h4 fun _ _ q=>q.same e⟩
theorem EntAt.same {H0 H H':Hp} (e:Same H H') {en:Str×RV} {kv:Key×V} (h:EntAt H0 H en kv):EntAt H0 H' en kv:=⟨h.1,h.2.same e⟩
theorem FrmD.same {H0 H H':Hp} (e:Same H H') {ps:List Pie} {rs:List RQ} {v:V} (h:FrmD H0 H ps rs v):FrmD H0 H' ps rs v:=by
 obtain ⟨a,kvs,h1,h2,h3,h4⟩:=h
 exact ⟨a,kvs,h1,e _ _ h2,h3,Paired.mapP h4 fun _ _ q=>q.same e⟩
theorem FrmD.older {H0 H1 H:Hp} (o:∀ b,H1 b=none->H0 b=none) {ps:List Pie} {rs:List RQ} {v:V} (h:FrmD H1 H ps rs v):FrmD H0 H ps rs v:=by
 obtain ⟨a,kvs,h1,h2,h3,h4⟩:=h
 exact ⟨a,kvs,h1,h2,o _ h3,Paired.mapP h4 fun _ _ q=>q.older o⟩
theorem jmK:∀ {p:Pc},p.ok->(mPc p).lh
 | .say _,_=>trivial
 | .ask n sg lo hi,⟨_,_,_,h1,h2,h3⟩=>by show lo.toNat<=hi.toNat; omega
theorem jnP:∀ {p:Pie},p.ok->(mPie p).lh
 | .one p,h=>jmK (p:=p) h
 | .rows n inner gap lo hi,⟨_,hp,hg,h1,h2,h3⟩=>⟨by omega,fun q hq=>by
   obtain ⟨q',hq',rfl⟩:=List.mem_map.mp hq
   exact jmK (hp.all q' hq')⟩
theorem tl_ne {z:Str} (h:1<=z.length):tl z≠[]:=fun e=>by
 have:(tl z).length=z.length:=Array.length_toList
 rw [e,List.length_nil] at this; omega
theorem jhw:∀ {p:Pc},p.ok->(mPc p).good
 | .say _,_=>trivial
 | .ask n sg lo hi,⟨_,hs,_⟩=>tl_ne hs.lo
theorem jkd:∀ {p:Pie},p.ok->(mPie p).good
 | .one p,h=>jhw (p:=p) h
 | .rows n inner gap lo hi,⟨_,hp,_⟩=>fun q hq=>by
   obtain ⟨q',hq',rfl⟩:=List.mem_map.mp hq
   exact jhw (hp.all q' hq')
theorem jfQ {ps:List Pie} (ok:FormOk ps):∀ q∈ps.map mPie,q.good:=fun q hq=>by
 obtain ⟨q',hq',rfl⟩:=List.mem_map.mp hq
 exact jkd (ok.all q' hq')
theorem jke {ps:List Pie} (ok:FormOk ps):∀ q∈ps.map mPie,q.lh:=fun q hq=>by
 obtain ⟨q',hq',rfl⟩:=List.mem_map.mp hq
 exact jnP (ok.all q' hq')
theorem jkf {ps:List Pie} (ok:FormOk ps):1<=(stepsOf (ps.map mPie)).length/\(stepsOf (ps.map mPie)).length<=900:=by
 have h1:=jjU (m:=0) ok.all
 have h2:=ok.hi
 rw [stepsOf_len]
 omega
section
variable {P:Program} {w:World} {K:PySem.W.Frag} {mg:Str->Option Value} {base:Heap} {D:Adr}
theorem jpC (T:Txt w K mg D):FnOk P w K mg base CX0 5 D.aTellerValuesOf D.dTellerValuesOf ["self","parts"] (jnO K D True):=jpB T (by decide) (ok_RO T)
theorem scRd:FnScope ["form","text","most","steps","found"] ["form","text","most"] (jag jcR):=⟨rfl,rfl,rfl,by decide +kernel,rfl,by decide +kernel,by decide +kernel⟩
def spRd (D:Adr):Sp:=fun vs H Q _=>∃ (H0:Hp) (ps:List Pie) (v:V) (z:Str) (most:Nat),vs=[v,.str z,.int (most:Int)]/\FormAt D.cl H0 H ps v/\FormOk ps/\z.length<=90000/\most<=1000 /\
 ∀ r fv H',H r=none->Same H H'->H' r=some (.lst fv)->Paired (FrmD H H' ps) (((rds (ps.map mPie) (tl z)).take most).map (·.1)) fv->Q (.ref r) H'
theorem ok_Rd (T:Txt w K mg D):FnOk P w K mg base CX0 8 D.aReadings D.dReadings ["form","text","most"] (spRd D):=by
 have GS:FnOk P w K mg base CX0 7 D.aStepsOf D.dStepsOf ["form"] (spSO D):=ok_SO T
 have GP:FnOk P w K mg base CX0 2 D.aFittingPlaces D.dFittingPlaces ["steps","text"] (jpv D):=jpw T
 have GC:FnOk P w K mg base CX0 3 D.aFirstChoices D.dFirstChoices ["steps","fits","most"] (spFC D):=ok_FC T
 have GT:FnOk P w K mg base CX0 1 D.aTellerI D.dTellerI ["self","text","choices"] (spTI D):=ok_TI T
 have GV:FnOk P w K mg base CX0 5 D.aTellerValuesOf D.dTellerValuesOf ["self","parts"] (jnO K D True):=jpC T
 obtain ⟨dfl,F⟩:=T.fReadings
 refine F.ok scRd (fun vs H Q E h=>?_) (fun cdv A outer s H vs Q E hr h=>?_)
 ·obtain ⟨H0,ps,v,z,most,rfl,_⟩:=h; rfl
 ·obtain ⟨H0,ps,v,z,most,rfl,hform,ok,hz,hm,q⟩:=h
  have hr2:Room 2 _:=hr.mono (by decide)
  have hr3:Room 3 _:=hr.mono (by decide)
  have hr5:Room 5 _:=hr.mono (by decide)
  refine ⟨_,jac (jak (i:=3) scRd.nd rfl (Or.inl rfl) (jai GS hr rfl T.mStepsOf T.fStepsOf.kp T.bStepsOf .nil jaq (jaa (pv 0) jad)))
   (jac (jak (i:=4) scRd.nd rfl (Or.inl rfl) (jai GC hr3 rfl T.mFirstChoices T.fFirstChoices.kp T.bFirstChoices .nil jaq (jaa (pv 3) (jaa (jai GP hr2 rfl T.mFittingPlaces T.fFittingPlaces.kp T.bFittingPlaces .nil jaq (jaa (pv 3) (jaa (pv 1) jad))) (jaa (pv 2) jad)))))
   (jaf (jat (jcB (cp:=[(0,"form"),(1,"text")]) (te:=jkP D.cTeller "values_of" (jnO K D True) [] E0 (jov D.cTeller (spTI D) [] E0 (jaR (jbh 2) (jaR (jbh 0) jdv))) (jaR (jog K (jbh 1) "plan") jdv)) (CompScope.of (jag jcR) ["form","text","most","steps","found"] rfl rfl (by decide +kernel)) rfl (jaL (pv 4)) (fun _ _ _ _ _=>jcc)
    (fun _ _ _ _ _=>jdb (jbp T.mkTeller GT hr2 rfl T.mgTeller T.bTellerI .nil jaq (jaa (pv 2) (jaa (pv 0) jad))) T.kTeller.cl T.meTellerValuesOf GV hr5 T.bTellerValuesOf .nil jaq (jaa (jaD (pv 1) rfl) jad)))))),?_⟩
  obtain ⟨sl1,sl2⟩:=jkf ok
  refine ⟨_,rfl,H0,ps,v,rfl,hform,ok,fun l H1 nl s1 hst=>?_⟩
  refine ⟨_,rfl,_,rfl,_,rfl,l,z,stepsOf (ps.map mPie),rfl,hst,steps_down (jfQ ok),sl1,by omega,hz,fun f xs H2 nf s2 hf hxl hfit=>?_⟩
  refine ⟨_,rfl,l,f,most,stepsOf (ps.map mPie),tl z,xs,rfl,hst.mono s2,steps_down (jfQ ok),sl1,sl2,hf,hxl,hfit,hm,fun r1 cv H3 nr1 s3 hr1 hcv=>?_⟩
  have s13:=(s1.trans s2).trans s3
  have hform3:=hform.mono s13
  rw [paths_form,<- List.map_take] at hcv
  have hcl:cv.length=((rds (ps.map mPie) (tl z)).take most).length:=by rw [<- hcv.length,List.length_map]
  have hc1000:cv.length<=1000:=by rw [hcl,List.length_take]; omega
  refine ⟨_,rfl,r1,rfl,⟨_,SqL.of hr1⟩,jcd (xs:=cv) (fun i ys H'=>Same H3 H'/\Paired (FrmD H H' ps) ((((rds (ps.map mPie) (tl z)).take most).map (·.1)).take i) ys) ⟨Same.refl H3,.nil⟩ (fun i ys H' hi e=>⟨SqL.of (e.1 _ _ hr1),?_⟩) (jce hc1000) (fun i x ys H' hx e=>?_) (fun ys H' e rr hrr=>?_)⟩
  ·rw [<- e.2.length,List.length_take]; omega
  ·obtain ⟨e1,hys⟩:=e
   obtain ⟨cs,ecs,c,rfl,hc⟩:=Paired.two hcv hx
   rw [List.getElem?_map] at ecs
   obtain ⟨rd,erd,rfl⟩:∃ rd,((rds (ps.map mPie) (tl z)).take most)[i]?=some rd/\rd.2=cs:=by
    cases h:((rds (ps.map mPie) (tl z)).take most)[i]? with
    | none=>rw [h] at ecs; cases ecs
    | some rd=>rw [h] at ecs; exact ⟨rd,rfl,Option.some.inj ecs⟩
   obtain ⟨hfit',htx,hcs⟩:=(rds_iff (jke ok)).mp (List.mem_of_mem_take (List.mem_of_getElem? erd))
   have hc':=e1 _ _ hc
   obtain ⟨a,m,ws,m2,us2,ev,⟨da,fs,ha,hf'⟩,hm',hm0,hpl,_⟩:=id hform3
   subst ev
   have ep:=hf' ("plan",.ref m) List.mem_cons_self
   refine ⟨_,rfl,_,rfl,fun x dx nx ndx ne=>⟨x,dx,c,z,rfl,jab,fun H5 b5 hx5=>⟨rfl,?_⟩⟩⟩
   have s5:Same H' H5:=jbH (C:=D.cTeller) nx ndx b5
   have s35:=e1.trans s5
   refine ⟨x,dx,_,rfl,hx5,jdj (by decide +kernel) (by decide +kernel) (by decide +kernel) (by decide +kernel),_,rfl,a,_,da,_,_,rfl,s35 _ _ ha,T.kForm.cl,T.nFormPlan,ep,H',H0,x,dx,c,m,z,0,0,ps,ws,rd.1,rd.2,[],[],rfl,⟨s5,nx,hc'⟩,hx5,e1 _ _ hm',Paired.mapP hpl fun _ _ q=>q.mono e1,fun q hq=>⟨ok.all q hq,fun _=>trivial⟩,ok.nd,Nat.le_trans ok.hi (by decide),hfit',?_,Nat.zero_le _,?_,hz,fun a2 kvs H6 b6 na2 ha2 hp2 hx6=>?_⟩
   ·rw [List.drop_zero,List.append_nil]; exact hcs
   ·rw [List.drop_zero,List.append_nil]; exact htx
   ·have s6:Same H' H6:=jaE s5 nx b6
    have old:∀ b,H5 b=none->H b=none:=fun b h=>s13.free (s35.free h)
    refine ⟨e1.trans s6,?_⟩
    have et:((((rds (ps.map mPie) (tl z)).take most).map (·.1)))[i]?=some rd.1:=by rw [List.getElem?_map,erd]; rfl
    rw [jau et]
    exact Paired.snoc (Paired.mapP hys fun _ _ q=>q.same s6) ⟨a2,kvs,rfl,ha2,old _ na2,Paired.mapP hp2 fun _ _ q=>q.older old⟩
  ·obtain ⟨e1,hys⟩:=e
   rw [hcl,List.take_of_length_le (by rw [List.length_map]; exact Nat.le_refl _)] at hys
   have g:=jah hrr (.lst ys)
   refine q rr ys _ (s13.free (e1.free hrr)) ((s13.trans e1).trans g) jab (Paired.mapP hys fun _ _ q=>q.same g)
end
def cellOf (ns:List Int) (k:Int):Int:=if k < (ns.length:Int) then ns.getD k.toNat 0 else 0
def jaM (ns:List Int) (k:Int):Int :=
 (((cellOf ns (k % 61)+7919 * k+104729) * 48271 % 2147483647) * ((cellOf ns (k % 61)+7919 * k+104729) * 48271 % 2147483647) % 2147483647) * 16807 % 2147483647 / 8
def sigs:List Str:=["a","ab","abc","b","0123456789","xyz-","ba ","Zz.","c,","\n/"]
def says:List Str:=["x","ab","-",": ","a",", ","Dear ","\n","b","ba","(0)","c;c"]
def gaps:List Str:=["",", ","\n","a","--"]
theorem jkg:∀ z∈sigs,SignsOk z 1 20/\(sgn z).Nodup:=by
 have h:sigs.all (fun z=>decide (1<=z.length)&&decide (z.length<=20)&&z.cps.toList.all (fun c=>decide (c∈SIGNS.cps.toList))&&decide ((sgn z).Nodup))=true:=by decide +kernel
 intro z hz
 have:=List.all_eq_true.mp h z hz
 simp only [Bool.and_eq_true,decide_eq_true_eq,List.all_eq_true] at this
 exact ⟨⟨this.1.1.1,this.1.1.2,this.1.2⟩,this.2⟩
theorem jkh:∀ z∈says,SignsOk z 1 12:=by
 have h:says.all (fun z=>decide (1<=z.length)&&decide (z.length<=12)&&z.cps.toList.all (fun c=>decide (c∈SIGNS.cps.toList)))=true:=by decide +kernel
 intro z hz
 have:=List.all_eq_true.mp h z hz
 simp only [Bool.and_eq_true,decide_eq_true_eq,List.all_eq_true] at this
 exact ⟨this.1.1,this.1.2,this.2⟩
theorem jnQ:∀ z∈gaps,SignsOk z 0 5:=by
 have h:gaps.all (fun z=>decide (0<=z.length)&&decide (z.length<=5)&&z.cps.toList.all (fun c=>decide (c∈SIGNS.cps.toList)))=true:=by decide +kernel
 intro z hz
 have:=List.all_eq_true.mp h z hz
 simp only [Bool.and_eq_true,decide_eq_true_eq,List.all_eq_true] at this
 exact ⟨this.1.1,this.1.2,this.2⟩
theorem jki {α:Type} {xs:List α} {i:Int} (h0:0<=i) (h1:i < (xs.length:Int)):∃ v,v∈xs/\atI xs i=some v/\xs[i.toNat]?=some v:=by
 have hk:i.toNat < xs.length:=by omega
 have e:i=((i.toNat:Nat):Int):=by omega
 have q:atI xs ((i.toNat:Nat):Int)=some xs[i.toNat]:=jbD (List.getElem?_eq_getElem hk)
 rw [<- e] at q
 exact ⟨xs[i.toNat],List.getElem_mem hk,q,List.getElem?_eq_getElem hk⟩
theorem jcX {zs:List Str} {i:Int} (h0:0<=i) (h1:i < (zs.length:Int)):∃ z,z∈zs/\atI (zs.map V.str) i=some (.str z)/\zs[i.toNat]?=some z:=by
 obtain ⟨v,_,e,_⟩:=jki (xs:=zs.map V.str) (i:=i) h0 (by rw [List.length_map]; exact h1)
 have hk:i.toNat < zs.length:=by omega
 refine ⟨zs[i.toNat],List.getElem_mem hk,?_,List.getElem?_eq_getElem hk⟩
 have e2:i=((i.toNat:Nat):Int):=by omega
 have q:atI (zs.map V.str) ((i.toNat:Nat):Int)=some (.str zs[i.toNat]):=jbD (by rw [List.getElem?_map,List.getElem?_eq_getElem hk]; rfl)
 rw [<- e2] at q
 exact q
section
variable {P:Program} {w:World} {K:PySem.W.Frag} {mg:Str->Option Value} {base:Heap} {D:Adr}
structure Scr (K:PySem.W.Frag) (H:Hp) (a:Addr) (ns:List Int):Prop where
 at':SqL K H a (ns.map V.int)
 few:ns.length<=63
theorem Scr.mono {H H':Hp} {a:Addr} {ns:List Int} (e:Same H H') (h:Scr K H a ns):Scr K H' a ns:=⟨e.seq h.at',h.few⟩
theorem jpD:FnScope ["script","k"] ["script","k"] (jag jdg):=⟨rfl,rfl,rfl,by decide +kernel,rfl,by decide +kernel,by decide +kernel⟩
def jmL (K:PySem.W.Frag):Sp:=fun vs H Q _=>∃ (a:Addr) (ns:List Int) (k:Int),vs=[.ref a,.int k]/\Scr K H a ns/\0<=k/\Q (.int (cellOf ns k)) H
theorem jnR (T:Txt w K mg D):FnOk P w K mg base CX0 1 D.aLawCellAt D.dLawCellAt ["script","k"] (jmL K):=by
 refine T.fLawCellAt.ok jpD (fun vs H Q E h=>?_) (fun cdv A outer s H vs Q E hr h=>?_)
 ·obtain ⟨a,ns,k,rfl,_⟩:=h; rfl
 ·obtain ⟨a,ns,k,rfl,⟨hS,h63⟩,h0,q⟩:=h
  have hl:(ns.map V.int).length=ns.length:=List.length_map _
  refine ⟨_,jac (jaF (jao jhK (pv 1) (jal jar rfl T.zLen PySem.boot_len (jaa (pv 0) jad)) (jas _)) (jaf (jat (jam jaG (pv 0) (pv 1) (fun _ _=>rfl)))) jav) (jaf (jat jae)),?_⟩
  refine ⟨_,rfl,_,rfl,a,_,rfl,.inl hS,_,_,rfl,rfl,_,rfl,?_⟩
  by_cases c:k < (((ns.map V.int).length:Nat):Int)
  ·have c':=c
   rw [hl] at c'
   obtain ⟨i,hi⟩:∃ i:Nat,k=(i:Int):=⟨k.toNat,by omega⟩
   subst hi
   have hi':i < ns.length:=by omega
   refine jbJ c ⟨_,rfl,_,rfl,a,_,_,_,rfl,rfl,hS,jbD (v:=.int ns[i]) (by rw [List.getElem?_map,List.getElem?_eq_getElem hi']; rfl),?_⟩
   have e:cellOf ns (i:Int)=ns[i]:=by
    unfold cellOf
    rw [if_pos c',Int.toNat_natCast,List.getD_eq_getElem?_getD,List.getElem?_eq_getElem hi']
    rfl
   rw [e] at q
   exact q
  ·refine jaJ c ?_
   rw [hl] at c
   have e:cellOf ns k=0:=by unfold cellOf; rw [if_neg c]
   rw [e] at q
   exact q
theorem scDraw:FnScope ["script","k","stir"] ["script","k"] (jag jeM):=⟨rfl,rfl,rfl,by decide +kernel,rfl,by decide +kernel,by decide +kernel⟩
def jds (K:PySem.W.Frag):Sp:=fun vs H Q _=>∃ (a:Addr) (ns:List Int) (k:Int),vs=[.ref a,.int k]/\Scr K H a ns/\0<=k/\k<=1000000/\Q (.int (jaM ns k)) H
theorem jcF (T:Txt w K mg D):FnOk P w K mg base CX0 2 D.aLawDraw D.dLawDraw ["script","k"] (jds K):=by
 have G:FnOk P w K mg base CX0 1 D.aLawCellAt D.dLawCellAt ["script","k"] (jmL K):=jnR T
 refine T.fLawDraw.ok scDraw (fun vs H Q E h=>?_) (fun cdv A outer s H vs Q E hr h=>?_)
 ·obtain ⟨a,ns,k,rfl,_⟩:=h; rfl
 ·obtain ⟨a,ns,k,rfl,hS,h0,h1,q⟩:=h
  refine ⟨_,jac (jak (i:=2) scDraw.nd rfl (Or.inl rfl) (jan jaT (jan jdl (jan jaz (jan jaz (jai G hr rfl T.mLawCellAt T.fLawCellAt.kp T.bLawCellAt .nil jaq (jaa (pv 0) (jaa (jan jaT (pv 1) jae) jad))) (jan jdl jae (pv 1))) jae) jae) jae))
   (jac (jak (i:=2) scDraw.nd rfl (Or.inl rfl) (jan jaT (jan jdl (pv 2) (pv 2)) jae))
   (jaf (jat (jan jcy (jan jaT (jan jdl (pv 2) jae) jae) jae)))),?_⟩
  refine ⟨_,rfl,_,rfl,_,_,rfl,rfl,(by show (0:Int) < 61; decide),a,ns,k % 61,rfl,hS,Int.emod_nonneg _ (by decide),_,rfl,_,_,rfl,rfl,.inl ⟨by decide,by decide⟩,_,_,rfl,rfl,_,_,rfl,rfl,_,_,rfl,rfl,.inr ⟨by decide,by decide⟩,_,_,rfl,rfl,(by show (0:Int) < 2147483647; decide),?_⟩
  have b0:0<=(cellOf ns (k % 61)+7919 * k+104729) * 48271 % 2147483647:=Int.emod_nonneg _ (by decide)
  have b1:(cellOf ns (k % 61)+7919 * k+104729) * 48271 % 2147483647 < 2147483647:=Int.emod_lt_of_pos _ (by decide)
  refine ⟨_,rfl,_,rfl,_,_,rfl,rfl,.inl ⟨by omega,by omega⟩,_,_,rfl,rfl,(by show (0:Int) < 2147483647; decide),?_⟩
  exact ⟨_,rfl,_,_,rfl,rfl,.inr ⟨by decide,by decide⟩,_,_,rfl,rfl,(by show (0:Int) < 2147483647; decide),_,_,rfl,rfl,⟨by decide,by decide⟩,q⟩
theorem scSigns:FnScope ["cell","some"] ["cell"] (jag jci):=⟨rfl,rfl,rfl,by decide +kernel,rfl,by decide +kernel,by decide +kernel⟩
def jfR (zs:List Str):Sp:=fun vs H Q _=>∃ c:Int,vs=[.int c]/\∀ z∈zs,∀ H',Same H H'->Q (.str z) H'
theorem jew {X:Cx} {i:Nat} {x:Str} {es:List Expr} {p pos pos':Pos} (zs:List Str) (hN:X.N.Nodup) (hi:X.N[i]?=some x) (hx:Loc X.env.scope x) (hf:X.env.scope.names.lookup x=some .local) (h:jfE es=some zs):PS X (.Assign [.Name x pos'] (.List es p) pos) (joq (tLst (jni zs)) (jfj i)) :=
 jak hN hi hx (jeE zs h) rfl (.inr hf)
theorem jii:∃ (es:List Expr) (p1 p2 p3:Pos),jfE es=some sigs/\jaP jci=.Assign [.Name "some" p1] (.List es p2) p3::(jaP jci).tail:=⟨_,_,_,_,by decide +kernel,rfl⟩
theorem jlv (T:Txt w K mg D):FnOk P w K mg base CX0 1 D.aLawSigns D.dLawSigns ["cell"] (jfR sigs):=by
 refine T.fLawSigns.ok scSigns (fun vs H Q E h=>?_) (fun cdv A outer s H vs Q E hr h=>?_)
 ·obtain ⟨c,rfl,_⟩:=h; rfl
 ·obtain ⟨c,rfl,q⟩:=h
  obtain ⟨es,p1,p2,p3,he,hb⟩:=jii
  rw [hb]
  refine ⟨_,jac (jew (i:=1) sigs scSigns.nd rfl (Or.inl rfl) rfl he)
   (jaf (jat (jam jaG (pv 1) (jan jaT (pv 0) jae) (fun _ _=>rfl)))),?_⟩
  refine ⟨(by show 10<=sizeLine; decide),fun l hl=>?_⟩
  obtain ⟨z,hz,ez,_⟩:=jcX (zs:=sigs) (i:=c % 10) (Int.emod_nonneg _ (by decide)) (Int.emod_lt_of_pos _ (by decide))
  exact ⟨_,rfl,_,rfl,_,_,rfl,rfl,(by show (0:Int) < 10; decide),l,sigs.map V.str,_,_,rfl,rfl,SqL.of jab,ez,q z hz _ (jah hl _)⟩
theorem scSayL:FnScope ["cell","some"] ["cell"] (jag jdV):=⟨rfl,rfl,rfl,by decide +kernel,rfl,by decide +kernel,by decide +kernel⟩
theorem jlw:∃ (es:List Expr) (p1 p2 p3:Pos),jfE es=some says/\jaP jdV=.Assign [.Name "some" p1] (.List es p2) p3::(jaP jdV).tail:=⟨_,_,_,_,by decide +kernel,rfl⟩
theorem jmM (T:Txt w K mg D):FnOk P w K mg base CX0 1 D.aLawSay D.dLawSay ["cell"] (jfR says):=by
 refine T.fLawSay.ok scSayL (fun vs H Q E h=>?_) (fun cdv A outer s H vs Q E hr h=>?_)
 ·obtain ⟨c,rfl,_⟩:=h; rfl
 ·obtain ⟨c,rfl,q⟩:=h
  obtain ⟨es,p1,p2,p3,he,hb⟩:=jlw
  rw [hb]
  refine ⟨_,jac (jew (i:=1) says scSayL.nd rfl (Or.inl rfl) rfl he)
   (jaf (jat (jam jaG (pv 1) (jan jaT (pv 0) jae) (fun _ _=>rfl)))),?_⟩
  refine ⟨(by show 12<=sizeLine; decide),fun l hl=>?_⟩
  obtain ⟨z,hz,ez,_⟩:=jcX (zs:=says) (i:=c % 12) (Int.emod_nonneg _ (by decide)) (Int.emod_lt_of_pos _ (by decide))
  exact ⟨_,rfl,_,rfl,_,_,rfl,rfl,(by show (0:Int) < 12; decide),l,says.map V.str,_,_,rfl,rfl,SqL.of jab,ez,q z hz _ (jah hl _)⟩
theorem scAskL:FnScope ["script","k","name","most","cell","least"] ["script","k","name","most"] (jag jgx):=⟨rfl,rfl,rfl,by decide +kernel,rfl,by decide +kernel,by decide +kernel⟩
def jkj (K:PySem.W.Frag):Sp:=fun vs H Q _=>∃ (a:Addr) (ns:List Int) (k:Int) (nm:Str) (most:Int),vs=[.ref a,.int k,.str nm,.int most]/\Scr K H a ns/\0<=k/\k<=1000000/\nm≠""/\0<=most/\most<=4 /\
 ∀ (sg:Str) (lo hi:Int) (u:V) (H':Hp),Same H H'->(Pc.ask nm sg lo hi).At H' u->(Pc.ask nm sg lo hi).ok->hi<=most->Q u H'
theorem jkk (T:Txt w K mg D):FnOk P w K mg base CX0 3 D.aLawAsk D.dLawAsk ["script","k","name","most"] (jkj K):=by
 have G:FnOk P w K mg base CX0 2 D.aLawDraw D.dLawDraw ["script","k"] (jds K):=jcF T
 have GS:FnOk P w K mg base CX0 1 D.aLawSigns D.dLawSigns ["cell"] (jfR sigs):=jlv T
 refine T.fLawAsk.ok scAskL (fun vs H Q E h=>?_) (fun cdv A outer s H vs Q E hr h=>?_)
 ·obtain ⟨a,ns,k,nm,most,rfl,_⟩:=h; rfl
 ·obtain ⟨a,ns,k,nm,most,rfl,hS,h0,h1,hn,m0,m1,q⟩:=h
  have hr1:Room 1 _:=hr.mono (by decide)
  refine ⟨_,jac (jak (i:=4) scAskL.nd rfl (Or.inl rfl) (jai G hr rfl T.mLawDraw T.fLawDraw.kp T.bLawDraw .nil jaq (jaa (pv 0) (jaa (pv 1) jad))))
   (jac (jak (i:=5) scAskL.nd rfl (Or.inl rfl) (jan jaT (jan jcy (pv 4) jae) (jan jaz (pv 3) jae)))
   (jaf (jat (jbe (jaa jax (jaa (pv 2) (jaa (jai GS hr1 rfl T.mLawSigns T.fLawSigns.kp T.bLawSigns .nil jaq (jaa (pv 4) jad)) (jaa (pv 5) (jaa (jan jaz (pv 5) (jan jaT (jan jcy (pv 4) jae) (jan jbY (jan jaz (pv 3) jae) (pv 5)))) jad))))))))),?_⟩
  refine ⟨_,rfl,_,rfl,a,ns,k,rfl,hS,h0,h1,?_⟩
  generalize jaM ns k=c
  refine ⟨_,rfl,_,_,rfl,rfl,⟨by decide,by decide⟩,_,rfl,_,_,rfl,rfl,_,_,rfl,rfl,(by show 0 < most+1; omega),?_⟩
  have l0:0<=c / 10 % (most+1):=Int.emod_nonneg _ (by omega)
  have l1:c / 10 % (most+1) < most+1:=Int.emod_lt_of_pos _ (by omega)
  refine ⟨_,rfl,_,rfl,c,rfl,fun sg hsg H1 e1=>?_⟩
  refine ⟨_,rfl,_,rfl,_,rfl,_,_,rfl,rfl,⟨by decide,by decide⟩,_,rfl,_,_,rfl,rfl,_,rfl,_,_,rfl,rfl,_,_,rfl,rfl,(by show 0 < most+1 - c / 10 % (most+1); omega),_,_,rfl,rfl,(by show 5<=sizeLine; decide),fun p hp=>?_⟩
  have d0:0<=c / 60 % (most+1 - c / 10 % (most+1)):=Int.emod_nonneg _ (by omega)
  have d1:c / 60 % (most+1 - c / 10 % (most+1)) < most+1 - c / 10 % (most+1):=Int.emod_lt_of_pos _ (by omega)
  refine q sg (c / 10 % (most+1)) (c / 10 % (most+1)+c / 60 % (most+1 - c / 10 % (most+1))) _ _ (e1.trans (jah hp _)) ⟨p,rfl,jab⟩ ⟨hn,(jkg sg hsg).1,(jkg sg hsg).2,l0,by omega,by omega⟩ (by omega)
end
theorem Same.updN {H H':Hp} {r:Addr} (e:Same H H') (h:H r=none) (o:HO):Same H (L2.upd H' r o):=fun b u q=>by rw [upd_ne (ne_of_none q h)]; exact e b u q
theorem Pc.At.updL {H:Hp} {r:Addr} {us:List V} (hr:H r=some (.lst us)) (o:HO) {p:Pc} {v:V} (h:p.At H v):p.At (L2.upd H r o) v:=by
 obtain ⟨a,rfl,ha⟩:=h
 exact ⟨a,rfl,by rw [upd_ne (jbj ha hr (by intro z; cases z))]; exact ha⟩
def Pc.lim (m:Int):Pc->Prop
 | .say _=>True
 | .ask _ _ _ hi=>hi<=m
def Pie.lim (m:Int):Pie->Prop
 | .one p=>p.lim m
 | .rows _ inner ..=>∀ p∈inner,p.lim m
def names3:List Str:=["who","day","w"]
def names6:List Str:=["who","w","day","first_name = 1?","whom","e-mail@"]
theorem n3_nd:names3.Nodup:=by decide +kernel
theorem n3_ne:∀ z∈names3,z≠"":=by decide +kernel
theorem n6_nd:names6.Nodup:=by decide +kernel
theorem n6_ne:∀ z∈names6,z≠"":=by decide +kernel
structure NamesIn (ns:List Str) (L:List Str):Prop where
 nd:ns.Nodup
 sub:∀ n∈ns,n∈L
theorem NamesIn.nil {L:List Str}:NamesIn [] L:=⟨List.nodup_nil,fun _ h=>nomatch h⟩
theorem NamesIn.wide {ns L L':List Str} (h:NamesIn ns L) (s:∀ n∈L,n∈L'):NamesIn ns L':=⟨h.nd,fun n hn=>s n (h.sub n hn)⟩
theorem NamesIn.add {ns L L':List Str} {x:Str} (h:NamesIn ns L) (hx:x∉L) (s:∀ n∈L,n∈L') (hx':x∈L'):NamesIn (ns++[x]) L':=by
 refine ⟨?_,fun n hn=>?_⟩
 ·rw [List.nodup_append]
  refine ⟨h.nd,by simp,fun a ha b hb e=>?_⟩
  have:b=x:=by simpa using hb
  subst this
  subst e
  exact hx (h.sub _ ha)
 ·rcases List.mem_append.mp hn with z | z
  ·exact s n (h.sub n z)
  ·have:n=x:=by simpa using z
   rw [this]; exact hx'
theorem jhx {α:Type} {l:List α} {i:Nat}:∀ n∈l.take i,n∈l.take (i+1):=fun n hn=>(List.take_subset_take_left l (Nat.le_succ i)) hn
theorem jnS {l:List Str} (nd:l.Nodup) {i:Nat} {z:Str} (h:l[i]?=some z):z∉l.take i/\z∈l.take (i+1):=by
 have e:=jau h
 have hn:(l.take (i+1)).Nodup:=nd.sublist (List.take_sublist _ _)
 rw [e,List.nodup_append] at hn
 refine ⟨fun hz=>hn.2.2 z hz z (by simp) rfl,?_⟩
 rw [e]; simp
section
variable {P:Program} {w:World} {K:PySem.W.Frag} {mg:Str->Option Value} {base:Heap} {D:Adr}
theorem scInner:FnScope ["script","k","many","most","names","row","j"] ["script","k","many","most"] (jag jdW):=⟨rfl,rfl,rfl,by decide +kernel,rfl,by decide +kernel,by decide +kernel⟩
def jkl (K:PySem.W.Frag):Sp:=fun vs H Q _=>∃ (a:Addr) (ns:List Int) (k many most:Int),vs=[.ref a,.int k,.int many,.int most]/\Scr K H a ns/\0<=k/\k<=900000/\1<=many/\many<=3/\0<=most/\most<=4 /\
 ∀ (r:Addr) (us:List V) (ps:List Pc) (H':Hp),Same H H'->H r=none->H' r=some (.lst us)->Paired (Pc.At H') ps us->PartsOk ps->(∀ n∈ps.flatMap Pc.nm,n∈names3)->(∀ p∈ps,p.lim most)->Q (.ref r) H'
theorem jlx (T:Txt w K mg D):FnOk P w K mg base CX0 4 D.aLawInner D.dLawInner ["script","k","many","most"] (jkl K):=by
 have G:FnOk P w K mg base CX0 2 D.aLawDraw D.dLawDraw ["script","k"] (jds K):=jcF T
 have GS:FnOk P w K mg base CX0 1 D.aLawSay D.dLawSay ["cell"] (jfR says):=jmM T
 have GA:FnOk P w K mg base CX0 3 D.aLawAsk D.dLawAsk ["script","k","name","most"] (jkj K):=jkk T
 refine T.fLawInner.ok scInner (fun vs H Q E h=>?_) (fun cdv A outer s H vs Q E hr h=>?_)
 ·obtain ⟨a,ns,k,many,most,rfl,_⟩:=h; rfl
 ·obtain ⟨a,ns,k,many,most,rfl,hS,h0,h1,n1,n2,m0,m1,q⟩:=h
  have hr1:Room 1 _:=hr.mono (by decide)
  have hr2:Room 2 _:=hr.mono (by decide)
  refine ⟨_,jac (jak (i:=4) scInner.nd rfl (Or.inl rfl) (jeE names3 (by decide +kernel)))
   (jac (jak (i:=5) scInner.nd rfl (Or.inl rfl) (jba jad))
   (jac (jaN PassesOwn.never rfl (jbm rfl T.zRange (jaa (jan jaz jae (jan jaT (jai G hr2 rfl T.mLawDraw T.fLawDraw.kp T.bLawDraw .nil jaq (jaa (pv 0) (jaa (pv 1) jad))) (pv 2))) jad)) (jaB (i:=6) scInner.nd rfl (Or.inl rfl))
    (jaf (jaF (jao jaZ (jan jaT (jai G hr2 rfl T.mLawDraw T.fLawDraw.kp T.bLawDraw .nil jaq (jaa (pv 0) (jaa (jan jaz (jan jaz (pv 1) jae) (pv 6)) jad))) jae) jae (jas _))
     (jaf (jap (jbv PySem.F.plainAttrs_list PySem.F.slot_list_append PySem.F.type_list_append jay (pv 5) (jaa (jbe (jaa jax (jaa (jai GS hr1 rfl T.mLawSay T.fLawSay.kp T.bLawSay .nil jaq (jaa (jai G hr2 rfl T.mLawDraw T.fLawDraw.kp T.bLawDraw .nil jaq (jaa (pv 0) (jaa (jan jaz (jan jaz (pv 1) jae) (pv 6)) jad))) jad)) jad))) jad))))
     (jaf (jap (jbv PySem.F.plainAttrs_list PySem.F.slot_list_append PySem.F.type_list_append jay (pv 5) (jaa (jai GA hr rfl T.mLawAsk T.fLawAsk.kp T.bLawAsk .nil jaq (jaa (pv 0) (jaa (jan jaz (jan jaz (pv 1) jae) (pv 6)) (jaa (jam jaG (pv 4) (pv 6) (fun _ _=>rfl)) (jaa (pv 3) jad))))) jad)))))))
   (jaf (jat (pv 5))))),?_⟩
  refine ⟨(by show 3<=sizeLine; decide),fun nl hnl=>⟨(by show 0<=sizeLine; decide),fun r hr'=>?_⟩⟩
  have s1:=jah hnl (.lst (names3.map V.str))
  have s2:=jah hr' (.lst [])
  have s12:Same H _:=s1.trans s2
  have d0:0<=jaM ns k % many:=Int.emod_nonneg _ (by omega)
  have d1:jaM ns k % many < many:=Int.emod_lt_of_pos _ (by omega)
  refine ⟨_,rfl,_,rfl,a,ns,k,rfl,hS.mono s12,h0,by omega,_,rfl,_,_,rfl,rfl,(by show 0 < many; omega),_,_,rfl,rfl,1+jaM ns k % many,rfl,by omega,by omega,?_⟩
  generalize hn:(1+jaM ns k % many).toNat=n
  have hn3:n<=3:=by omega
  have hn1:1<=n:=by omega
  refine jes (lo:=0) (n:=n) (fun i σ H'=>∃ (us:List V) (ps:List Pc) (o:Option V),σ=[some (.ref a),some (.int k),some (.int many),some (.int most),some (.ref nl),some (.ref r),o]/\Same H H'/\H' nl=some (.lst (names3.map V.str))/\H' r=some (.lst us) /\
   Paired (Pc.At H') ps us/\ps.length=i/\(∀ p∈ps,p.ok/\p.lim most)/\NamesIn (ps.flatMap Pc.nm) (names3.take i))
   ⟨[],[],none,rfl,s12,s2 _ _ jab,jab,.nil,rfl,(fun _ z=>nomatch z),NamesIn.nil⟩ (fun i σ H' hi e D1 hD1=>?_) (fun σ H' e=>?_)
  ·obtain ⟨us,ps,o,rfl,e1,enl,er,ep,el,eo,en⟩:=e
   have hus:us.length=i:=by rw [<- el]; exact ep.length.symm
   have nr0:H r=none:=s1.free hr'
   have hlen:us.length < sizeLine:=jbf (by omega)
   refine ⟨_,rfl,_,rfl,_,_,rfl,rfl,_,rfl,_,_,rfl,rfl,a,ns,k+1+(0+(i:Int)),rfl,hS.mono e1,by omega,by omega,_,_,rfl,rfl,(by show (0:Int) < 3; decide),rfl,_,rfl,?_⟩
   refine jiI (fun _=>?_) (fun _=>?_)
   ·refine ⟨_,rfl,.inl ⟨rfl,_,SqL.of er⟩,_,rfl,_,rfl,_,_,rfl,rfl,_,rfl,_,_,rfl,rfl,a,ns,k+5+(0+(i:Int)),rfl,hS.mono e1,by omega,by omega,_,rfl,fun z hz H2 e2=>⟨(by show 2<=sizeLine; decide),fun p hp=>?_⟩⟩
    have e3:=jah hp (.tup [.str "say",.str z])
    have er3:=e3 _ _ (e2 _ _ er)
    refine ⟨r,us,.ref p,rfl,rfl,er3,hlen,?_⟩
    refine hD1 _ _ ⟨us++[.ref p],ps++[.say z],_,rfl,Same.updN (e1.trans (e2.trans e3)) nr0 _,?_,jab,?_,by rw [List.length_append,el]; rfl,?_,?_⟩
    ·rw [upd_ne (fun z=>by rw [z] at enl; rw [er] at enl; cases enl; simp [names3] at hus; omega)]
     exact e3 _ _ (e2 _ _ enl)
    ·exact (Paired.mapP ep fun _ _ z=>(Pc.At.mono (e2.trans e3) z).updL er3 _).snoc (Pc.At.updL er3 _ ⟨p,rfl,jab⟩)
    ·intro x hx
     rcases List.mem_append.mp hx with y | y
     ·exact eo x y
     ·have:x=.say z:=by simpa using y
      subst this
      exact ⟨jkh z hz,trivial⟩
    ·have ef:(ps++[Pc.say z]).flatMap Pc.nm=ps.flatMap Pc.nm:=by simp [Pc.nm]
     rw [ef]
     exact en.wide jhx
   ·obtain ⟨z,hz,ez,ez'⟩:=jcX (zs:=names3) (i:=0+(i:Int)) (by omega) (by show 0+(i:Int) < 3; omega)
    have ez2:names3[i]?=some z:=by rw [show (0+(i:Int)).toNat=i by omega] at ez'; exact ez'
    obtain ⟨w1,w2⟩:=jnS n3_nd ez2
    refine ⟨_,rfl,.inl ⟨rfl,_,SqL.of er⟩,_,rfl,_,rfl,_,_,rfl,rfl,_,rfl,_,_,rfl,rfl,_,rfl,_,rfl,nl,_,_,_,rfl,rfl,SqL.of enl,ez,_,rfl,a,ns,k+9+(0+(i:Int)),z,most,rfl,hS.mono e1,by omega,by omega,n3_ne z hz,m0,m1,fun sg lo hi u H2 e2 at2 ok2 lim2=>?_⟩
    have er2:=e2 _ _ er
    refine ⟨r,us,u,rfl,rfl,er2,hlen,?_⟩
    refine hD1 _ _ ⟨us++[u],ps++[.ask z sg lo hi],_,rfl,Same.updN (e1.trans e2) nr0 _,?_,jab,?_,by rw [List.length_append,el]; rfl,?_,?_⟩
    ·rw [upd_ne (fun z=>by rw [z] at enl; rw [er] at enl; cases enl; simp [names3] at hus; omega)]
     exact e2 _ _ enl
    ·exact (Paired.mapP ep fun _ _ z=>(Pc.At.mono e2 z).updL er2 _).snoc (at2.updL er2 _)
    ·intro x hx
     rcases List.mem_append.mp hx with y | y
     ·exact eo x y
     ·have:x=.ask z sg lo hi:=by simpa using y
      subst this
      exact ⟨ok2,lim2⟩
    ·have ef:(ps++[Pc.ask z sg lo hi]).flatMap Pc.nm=ps.flatMap Pc.nm++[z]:=by simp [Pc.nm]
     rw [ef]
     exact en.add w1 jhx w2
  ·obtain ⟨us,ps,o,rfl,e1,enl,er,ep,el,eo,en⟩:=e
   exact ⟨_,rfl,q r us ps H' e1 (s1.free hr') er ep ⟨by omega,by omega,fun p hp=>(eo p hp).1,en.nd⟩ (fun n hn=>List.mem_of_mem_take (en.sub n hn)) (fun p hp=>(eo p hp).2)⟩
end
def Pie.nn:Pie->Prop
 | .one _=>True
 | .rows _ inner ..=>∀ n∈inner.flatMap Pc.nm,n∈names3
def Pie.AtN (r:Addr) (H:Hp):Pie->V->Prop
 | .one p,v=>p.At H v
 | .rows n inner gap lo hi,v=>∃ a l vs,v=.ref a/\H a=some (.tup [.str "rows",.str n,.ref l,.str gap,.int lo,.int hi])/\H l=some (.lst vs)/\l≠r/\Paired (Pc.At H) inner vs
theorem Pie.AtN.at' {r:Addr} {H:Hp}:∀ {p:Pie} {v:V},p.AtN r H v->p.At H v
 | .one p,v,h=>h
 | .rows ..,v,⟨a,l,vs,h1,h2,h3,_,h4⟩=>⟨a,l,vs,h1,h2,h3,h4⟩
theorem Pie.AtN.mono {r:Addr} {H H':Hp} (e:Same H H'):∀ {p:Pie} {v:V},p.AtN r H v->p.AtN r H' v
 | .one p,v,h=>Pc.At.mono (p:=p) e h
 | .rows ..,v,⟨a,l,vs,h1,h2,h3,h5,h4⟩=>⟨a,l,vs,h1,e _ _ h2,e _ _ h3,h5,Paired.mapP h4 fun _ _ q=>q.mono e⟩
theorem Pie.AtN.updL {H:Hp} {r:Addr} {us:List V} (hr:H r=some (.lst us)) (o:HO):∀ {p:Pie} {v:V},p.AtN r H v->p.AtN r (L2.upd H r o) v
 | .one p,v,h=>Pc.At.updL hr o (p:=p) h
 | .rows ..,v,⟨a,l,vs,e,ha,hl,nl,hp⟩=>⟨a,l,vs,e,by rw [upd_ne (jbj ha hr (by intro z; cases z))]; exact ha,by rw [upd_ne nl]; exact hl,nl,Paired.mapP hp fun _ _ z=>z.updL hr o⟩
theorem Pie.AtF.n {r:Addr} {H0 H:Hp} (hr:H0 r≠none):∀ {p:Pie} {v:V},p.AtF H0 H v->p.AtN r H v
 | .one p,v,h=>h
 | .rows ..,v,⟨a,l,vs,h1,h2,h3,h5,h4⟩=>⟨a,l,vs,h1,h2,h3,(fun z=>hr (by rw [<- z]; exact h5)),h4⟩
section
variable {P:Program} {w:World} {K:PySem.W.Frag} {mg:Str->Option Value} {base:Heap} {D:Adr}
theorem scPiece:FnScope ["script","k","name","most","cell","gap","least","inner"] ["script","k","name","most"] (jag jdX):=⟨rfl,rfl,rfl,by decide +kernel,rfl,by decide +kernel,by decide +kernel⟩
def jkm (K:PySem.W.Frag):Sp:=fun vs H Q _=>∃ (a:Addr) (ns:List Int) (k:Int) (nm:Str) (most:Int),vs=[.ref a,.int k,.str nm,.int most]/\Scr K H a ns/\0<=k/\k<=800000/\nm≠""/\0<=most/\most<=4 /\
 ∀ (p:Pie) (u:V) (H':Hp),Same H H'->p.AtF H H' u->p.ok->p.nn/\p.lim most->(p.nm=[]\/p.nm=[nm])->Q u H'
theorem jly (T:Txt w K mg D):FnOk P w K mg base CX0 5 D.aLawPiece D.dLawPiece ["script","k","name","most"] (jkm K):=by
 have G:FnOk P w K mg base CX0 2 D.aLawDraw D.dLawDraw ["script","k"] (jds K):=jcF T
 have GS:FnOk P w K mg base CX0 1 D.aLawSay D.dLawSay ["cell"] (jfR says):=jmM T
 have GA:FnOk P w K mg base CX0 3 D.aLawAsk D.dLawAsk ["script","k","name","most"] (jkj K):=jkk T
 have GI:FnOk P w K mg base CX0 4 D.aLawInner D.dLawInner ["script","k","many","most"] (jkl K):=jlx T
 refine T.fLawPiece.ok scPiece (fun vs H Q E h=>?_) (fun cdv A outer s H vs Q E hr h=>?_)
 ·obtain ⟨a,ns,k,nm,most,rfl,_⟩:=h; rfl
 ·obtain ⟨a,ns,k,nm,most,rfl,hS,h0,h1,hn,m0,m1,q⟩:=h
  have hr1:Room 1 _:=hr.mono (by decide)
  have hr2:Room 2 _:=hr.mono (by decide)
  have hr3:Room 3 _:=hr.mono (by decide)
  refine ⟨_,jac (jak (i:=4) scPiece.nd rfl (Or.inl rfl) (jai G hr2 rfl T.mLawDraw T.fLawDraw.kp T.bLawDraw .nil jaq (jaa (pv 0) (jaa (pv 1) jad))))
   (jac (jaF (jao jhK (jan jaT (pv 4) jae) jae (jas _)) (jaf (jat (jbe (jaa jax (jaa (jai GS hr1 rfl T.mLawSay T.fLawSay.kp T.bLawSay .nil jaq (jaa (jan jcy (pv 4) jae) jad)) jad))))) jav)
   (jac (jaF (jao jhK (jan jaT (pv 4) jae) jae (jas _)) (jaf (jat (jai GA hr3 rfl T.mLawAsk T.fLawAsk.kp T.bLawAsk .nil jaq (jaa (pv 0) (jaa (jan jaz (pv 1) jae) (jaa (pv 2) (jaa (pv 3) jad))))))) jav)
   (jac (jak (i:=5) scPiece.nd rfl (Or.inl rfl) (jam jaG (jeE gaps (by decide +kernel)) (jan jaT (jan jcy (pv 4) jae) jae) (fun _ _=>rfl)))
   (jac (jak (i:=6) scPiece.nd rfl (Or.inl rfl) (jan jaT (jan jcy (pv 4) jae) jae))
   (jac (jak (i:=7) scPiece.nd rfl (Or.inl rfl) (jai GI hr rfl T.mLawInner T.fLawInner.kp T.bLawInner .nil jaq (jaa (pv 0) (jaa (jan jaz (pv 1) jae) (jaa jae (jaa (pv 3) jad))))))
   (jaf (jat (jbe (jaa jax (jaa (pv 2) (jaa (pv 7) (jaa (pv 5) (jaa (pv 6) (jaa (jan jaz (pv 6) (jan jaT (jan jcy (pv 4) jae) (jan jbY jae (pv 6)))) jad)))))))))))))),?_⟩
  refine ⟨_,rfl,_,rfl,a,ns,k,rfl,hS,h0,by omega,?_⟩
  generalize jaM ns k=c
  refine ⟨_,rfl,_,_,rfl,rfl,(by show (0:Int) < 5; decide),_,_,rfl,rfl,_,rfl,jiI (fun _=>?_) (fun _=>?_)⟩
  ·refine ⟨_,rfl,_,_,rfl,rfl,⟨by decide,by decide⟩,c / 5,rfl,fun z hz H1 e1=>⟨(by show 2<=sizeLine; decide),fun p hp=>?_⟩⟩
   exact q (.one (.say z)) _ _ (e1.trans (jah hp _)) ⟨p,rfl,jab⟩ (jkh z hz) ⟨trivial,trivial⟩ (.inl rfl)
  refine ⟨_,rfl,_,_,rfl,rfl,(by show (0:Int) < 5; decide),_,_,rfl,rfl,_,rfl,jiI (fun _=>?_) (fun _=>?_)⟩
  ·refine ⟨_,rfl,_,rfl,_,_,rfl,rfl,_,rfl,_,rfl,a,ns,k+1,nm,most,rfl,hS,by omega,by omega,hn,m0,m1,fun sg lo hi u H1 e1 at1 ok1 lim1=>?_⟩
   exact q (.one (.ask nm sg lo hi)) u H1 e1 at1 ok1 ⟨trivial,lim1⟩ (.inr rfl)
  refine ⟨(by show 5<=sizeLine; decide),fun gl hgl=>?_⟩
  obtain ⟨z,hz,ez,_⟩:=jcX (zs:=gaps) (i:=c / 5 % 5) (Int.emod_nonneg _ (by decide)) (Int.emod_lt_of_pos _ (by decide))
  have s1:=jah hgl (.lst (gaps.map V.str))
  refine ⟨_,rfl,_,_,rfl,rfl,⟨by decide,by decide⟩,_,_,rfl,rfl,(by show (0:Int) < 5; decide),gl,_,_,_,rfl,rfl,SqL.of jab,ez,?_⟩
  have l0:0<=c / 25 % 4:=Int.emod_nonneg _ (by decide)
  have l1:c / 25 % 4 < 4:=Int.emod_lt_of_pos _ (by decide)
  have d0:0<=c / 100 % (4 - c / 25 % 4):=Int.emod_nonneg _ (by omega)
  have d1:c / 100 % (4 - c / 25 % 4) < 4 - c / 25 % 4:=Int.emod_lt_of_pos _ (by omega)
  refine ⟨_,rfl,_,_,rfl,rfl,⟨by decide,by decide⟩,_,_,rfl,rfl,(by show (0:Int) < 4; decide),?_⟩
  refine ⟨_,rfl,_,rfl,_,_,rfl,rfl,_,rfl,a,ns,k+2,3,most,rfl,hS.mono s1,by omega,by omega,by decide,by decide,m0,m1,fun r us ps H1 e1 nr hr' hp okp nn lim=>?_⟩
  refine ⟨_,rfl,_,rfl,_,rfl,_,rfl,_,rfl,_,rfl,_,_,rfl,rfl,⟨by decide,by decide⟩,_,rfl,_,_,rfl,rfl,_,_,rfl,rfl,(by show 0 < 4 - c / 25 % 4; omega),_,_,rfl,rfl,(by show 6<=sizeLine; decide),fun p hp'=>?_⟩
  have s2:=jah hp' (.tup [.str "rows",.str nm,.ref r,.str z,.int (c / 25 % 4),.int (c / 25 % 4+c / 100 % (4 - c / 25 % 4))])
  exact q (.rows nm ps z (c / 25 % 4) (c / 25 % 4+c / 100 % (4 - c / 25 % 4))) _ _ (s1.trans (e1.trans s2)) ⟨p,r,us,rfl,jab,s2 _ _ hr',s1.free nr,Paired.mapP hp fun _ _ z=>z.mono s2⟩ ⟨hn,okp,jnQ z hz,l0,by omega,by omega⟩ ⟨nn,lim⟩ (.inr rfl)
theorem scPieces:FnScope ["script","many","most","names","pieces","k","name"] ["script","many","most"] (jag jdh):=⟨rfl,rfl,rfl,by decide +kernel,rfl,by decide +kernel,by decide +kernel⟩
def jhy (K:PySem.W.Frag):Sp:=fun vs H Q _=>∃ (a:Addr) (ns:List Int) (many most:Int),vs=[.ref a,.int many,.int most]/\Scr K H a ns/\1<=many/\many<=6/\0<=most/\most<=4 /\
 ∀ (r:Addr) (us:List V) (ps:List Pie) (H':Hp),Same H H'->H r=none->H' r=some (.lst us)->Paired (Pie.AtN r H') ps us->FormOk ps->(∀ p∈ps,p.nn/\p.lim most)->(∀ n∈ps.flatMap Pie.nm,n∈names6)->(ps.length:Int)<=many->Q (.ref r) H'
def jlz (d:Int) (j:Nat):Str:=names6.getD (((j:Int)+d) % 6).toNat ""
theorem jdD (d:Int) (j:Nat):names6[(((j:Int)+d) % 6).toNat]?=some (jlz d j)/\jlz d j∈names6:=by
 have h0:0<=((j:Int)+d) % 6:=Int.emod_nonneg _ (by decide)
 have h1:((j:Int)+d) % 6 < 6:=Int.emod_lt_of_pos _ (by decide)
 have hk:(((j:Int)+d) % 6).toNat < names6.length:=by show _ < 6; omega
 unfold jlz
 rw [List.getD_eq_getElem?_getD,List.getElem?_eq_getElem hk]
 exact ⟨rfl,List.getElem_mem hk⟩
theorem jlA (d:Int) {i j:Nat} (hi:i < 6) (hj:j < 6) (e:jlz d i=jlz d j):i=j:=by
 have a:=(jdD d i).1
 have b:=(jdD d j).1
 rw [<- e] at b
 have:=nodup_ix n6_nd a b
 have i0:0<=((i:Int)+d) % 6:=Int.emod_nonneg _ (by decide)
 have j0:0<=((j:Int)+d) % 6:=Int.emod_nonneg _ (by decide)
 omega
theorem jpE (d:Int) {i:Nat} (hi:i < 6):jlz d i∉(List.range i).map (jlz d):=fun h=>by
 obtain ⟨j,hj,e⟩:=List.mem_map.mp h
 have hj':=List.mem_range.mp hj
 have:=jlA d (by omega) hi e
 omega
theorem jfS {α:Type} {f:Nat->α} {i:Nat}:∀ n∈(List.range i).map f,n∈(List.range (i+1)).map f:=fun n hn=>by
 obtain ⟨j,hj,e⟩:=List.mem_map.mp hn
 exact List.mem_map.mpr ⟨j,List.mem_range.mpr (Nat.lt_succ_of_lt (List.mem_range.mp hj)),e⟩
theorem jkn (T:Txt w K mg D):FnOk P w K mg base CX0 6 D.aLawPieces D.dLawPieces ["script","many","most"] (jhy K):=by
 have G:FnOk P w K mg base CX0 2 D.aLawDraw D.dLawDraw ["script","k"] (jds K):=jcF T
 have GP:FnOk P w K mg base CX0 5 D.aLawPiece D.dLawPiece ["script","k","name","most"] (jkm K):=jly T
 refine T.fLawPieces.ok scPieces (fun vs H Q E h=>?_) (fun cdv A outer s H vs Q E hr h=>?_)
 ·obtain ⟨a,ns,many,most,rfl,_⟩:=h; rfl
 ·obtain ⟨a,ns,many,most,rfl,hS,n1,n2,m0,m1,q⟩:=h
  have hr2:Room 2 _:=hr.mono (by decide)
  refine ⟨_,jac (jak (i:=3) scPieces.nd rfl (Or.inl rfl) (jeE names6 (by decide +kernel)))
   (jac (jak (i:=4) scPieces.nd rfl (Or.inl rfl) (jba jad))
   (jac (jaN PassesOwn.never rfl (jbm rfl T.zRange (jaa (jan jaz jae (jan jaT (jai G hr2 rfl T.mLawDraw T.fLawDraw.kp T.bLawDraw .nil jaq (jaa (pv 0) (jaa jae jad))) (pv 1))) jad)) (jaB (i:=5) scPieces.nd rfl (Or.inl rfl))
    (jac (jak (i:=6) scPieces.nd rfl (Or.inl rfl) (jam jaG (pv 3) (jan jaT (jan jaz (pv 5) (jai G hr2 rfl T.mLawDraw T.fLawDraw.kp T.bLawDraw .nil jaq (jaa (pv 0) (jaa jae jad)))) jae) (fun _ _=>rfl)))
    (jaf (jap (jbv PySem.F.plainAttrs_list PySem.F.slot_list_append PySem.F.type_list_append jay (pv 4) (jaa (jai GP hr rfl T.mLawPiece T.fLawPiece.kp T.bLawPiece .nil jaq (jaa (pv 0) (jaa (jan jaz jae (jan jdl jae (pv 5))) (jaa (pv 6) (jaa (pv 2) jad))))) jad))))))
   (jaf (jat (pv 4))))),?_⟩
  refine ⟨(by show 6<=sizeLine; decide),fun nl hnl=>⟨(by show 0<=sizeLine; decide),fun r hr'=>?_⟩⟩
  have s1:=jah hnl (.lst (names6.map V.str))
  have s2:=jah hr' (.lst [])
  have s12:Same H _:=s1.trans s2
  have d0:0<=jaM ns 1 % many:=Int.emod_nonneg _ (by omega)
  have d1:jaM ns 1 % many < many:=Int.emod_lt_of_pos _ (by omega)
  refine ⟨_,rfl,a,ns,1,rfl,hS.mono s12,by decide,by decide,_,rfl,_,_,rfl,rfl,(by show 0 < many; omega),_,_,rfl,rfl,1+jaM ns 1 % many,rfl,by omega,by omega,?_⟩
  generalize hn:(1+jaM ns 1 % many).toNat=n
  have hn6:n<=6:=by omega
  have hn1:1<=n:=by omega
  refine jes (lo:=0) (n:=n) (fun i σ H'=>∃ (us:List V) (ps:List Pie) (o o':Option V),σ=[some (.ref a),some (.int many),some (.int most),some (.ref nl),some (.ref r),o,o']/\Same H H'/\H' nl=some (.lst (names6.map V.str))/\H' r=some (.lst us) /\
   Paired (Pie.AtN r H') ps us/\ps.length=i/\(∀ p∈ps,p.ok/\p.nn/\p.lim most)/\NamesIn (ps.flatMap Pie.nm) ((List.range i).map (jlz (jaM ns 2))))
   ⟨[],[],none,none,rfl,s12,s2 _ _ jab,jab,.nil,rfl,(fun _ z=>nomatch z),NamesIn.nil⟩ (fun i σ H' hi e D1 hD1=>?_) (fun σ H' e=>?_)
  ·obtain ⟨us,ps,o,o',rfl,e1,enl,er,ep,el,eo,en⟩:=e
   have hus:us.length=i:=by rw [<- el]; exact ep.length.symm
   have nr0:H r=none:=s1.free hr'
   have hlen:us.length < sizeLine:=jbf (by omega)
   obtain ⟨z,hz,ez,ez'⟩:=jcX (zs:=names6) (i:=(0+(i:Int)+jaM ns 2) % 6) (Int.emod_nonneg _ (by decide)) (Int.emod_lt_of_pos _ (by decide))
   have ezz:z=jlz (jaM ns 2) i:=by
    have:=(jdD (jaM ns 2) i).1
    rw [show (0+(i:Int)+jaM ns 2)=((i:Int)+jaM ns 2) by omega] at ez'
    rw [ez'] at this
    exact Option.some.inj this
   refine ⟨_,rfl,_,rfl,_,rfl,a,ns,2,rfl,hS.mono e1,by decide,by decide,_,_,rfl,rfl,_,_,rfl,rfl,(by show (0:Int) < 6; decide),nl,_,_,_,rfl,rfl,SqL.of enl,ez,?_⟩
   refine ⟨_,rfl,.inl ⟨rfl,_,SqL.of er⟩,_,rfl,_,rfl,_,_,rfl,rfl,.inl ⟨by decide,by decide⟩,_,_,rfl,rfl,_,rfl,_,rfl,a,ns,10+20 * (0+(i:Int)),z,most,rfl,hS.mono e1,by omega,by omega,n6_ne z hz,m0,m1,fun p u H2 e2 at2 ok2 nn2 nm2=>?_⟩
   have er2:=e2 _ _ er
   refine ⟨r,us,u,rfl,rfl,er2,hlen,?_⟩
   have rn:H' r≠none:=by rw [er]; exact fun z=>nomatch z
   refine hD1 _ _ ⟨us++[u],ps++[p],_,_,rfl,Same.updN (e1.trans e2) nr0 _,?_,jab,?_,by rw [List.length_append,el]; rfl,?_,?_⟩
   ·rw [upd_ne (fun z=>by rw [z] at enl; rw [er] at enl; cases enl; simp [names6] at hus; omega)]
    exact e2 _ _ enl
   ·exact (Paired.mapP ep fun _ _ z=>(Pie.AtN.mono e2 z).updL er2 _).snoc ((Pie.AtF.n rn at2).updL er2 _)
   ·intro x hx
    rcases List.mem_append.mp hx with y | y
    ·exact eo x y
    ·have:x=p:=by simpa using y
     subst this
     exact ⟨ok2,nn2⟩
   ·have ef:(ps++[p]).flatMap Pie.nm=ps.flatMap Pie.nm++p.nm:=by simp
    rw [ef]
    rcases nm2 with e0 | e0
    ·rw [e0,List.append_nil]
     exact en.wide jfS
    ·rw [e0,ezz]
     exact en.add (jpE _ (by omega)) jfS (List.mem_map.mpr ⟨i,List.mem_range.mpr (Nat.lt_succ_self _),rfl⟩)
  ·obtain ⟨us,ps,o,o',rfl,e1,enl,er,ep,el,eo,en⟩:=e
   refine ⟨_,rfl,q r us ps H' e1 (s1.free hr') er ep ⟨by omega,by omega,fun p hp=>(eo p hp).1,en.nd⟩ (fun p hp=>(eo p hp).2) (fun n hn=>?_) (by omega)⟩
   obtain ⟨j,_,ej⟩:=List.mem_map.mp (en.sub _ hn)
   exact ej▸(jdD _ j).2
theorem scWord:FnScope ["script","k","piece","size","word","j"] ["script","k","piece"] (jag jeN):=⟨rfl,rfl,rfl,by decide +kernel,rfl,by decide +kernel,by decide +kernel⟩
def jko (K:PySem.W.Frag):Sp:=fun vs H Q _=>∃ (a:Addr) (ns:List Int) (k:Int) (v:V) (n sg:Str) (lo hi:Int),vs=[.ref a,.int k,v]/\Scr K H a ns/\0<=k/\k<=900000/\(Pc.ask n sg lo hi).At H v/\(Pc.ask n sg lo hi).ok/\∀ t,Fits sg lo hi t->Q (.str t) H
theorem jlB (t:Str) (c:Nat):(t++(⟨#[c]⟩:Str)).cps.toList=t.cps.toList++[c]:=by
 show (t.cps++#[c]).toList=_
 simp
theorem jkp (T:Txt w K mg D):FnOk P w K mg base CX0 3 D.aLawWord D.dLawWord ["script","k","piece"] (jko K):=by
 have G:FnOk P w K mg base CX0 2 D.aLawDraw D.dLawDraw ["script","k"] (jds K):=jcF T
 refine T.fLawWord.ok scWord (fun vs H Q E h=>?_) (fun cdv A outer s H vs Q E hr h=>?_)
 ·obtain ⟨a,ns,k,v,n,sg,lo,hi,rfl,_⟩:=h; rfl
 ·obtain ⟨a,ns,k,v,n,sg,lo,hi,rfl,hS,h0,h1,⟨p,rfl,hp⟩,⟨hn,hsg,hnd,b0,b1,b2⟩,q⟩:=h
  refine ⟨_,jac (jak (i:=3) scWord.nd rfl (Or.inl rfl) (jan jaz (jam jaj (pv 2) jae (fun _ _=>rfl)) (jan jaT (jai G hr rfl T.mLawDraw T.fLawDraw.kp T.bLawDraw .nil jaq (jaa (pv 0) (jaa (pv 1) jad))) (jan jaz (jan jbY (jam jaj (pv 2) jae (fun _ _=>rfl)) (jam jaj (pv 2) jae (fun _ _=>rfl))) jae))))
   (jac (jak (i:=4) scWord.nd rfl (Or.inl rfl) jax)
   (jac (jaN PassesOwn.never rfl (jbm rfl T.zRange (jaa (pv 3) jad)) (jaB (i:=5) scWord.nd rfl (Or.inl rfl))
    (jaf (jak (i:=4) scWord.nd rfl (Or.inl rfl) (jan jbd (pv 4) (jam jlZ (jam jaj (pv 2) jae (fun _ _=>rfl)) (jan jaT (jai G hr rfl T.mLawDraw T.fLawDraw.kp T.bLawDraw .nil jaq (jaa (pv 0) (jaa (jan jaz (jan jaz (pv 1) jae) (pv 5)) jad))) (jal jaA rfl T.zLen PySem.boot_len (jaa (jam jaj (pv 2) jae (fun _ _=>rfl)) jad))) (fun _ _=>rfl))))))
   (jaf (jat (pv 4))))),?_⟩
  have d0:0<=jaM ns k % (hi - lo+1):=Int.emod_nonneg _ (by omega)
  have d1:jaM ns k % (hi - lo+1) < hi - lo+1:=Int.emod_lt_of_pos _ (by omega)
  refine ⟨_,rfl,p,_,_,_,rfl,rfl,SqT.of hp,rfl,_,rfl,_,rfl,a,ns,k,rfl,hS,h0,by omega,_,rfl,p,_,_,_,rfl,rfl,SqT.of hp,rfl,_,rfl,p,_,_,_,rfl,rfl,SqT.of hp,rfl,_,_,rfl,rfl,_,_,rfl,rfl,_,_,rfl,rfl,(by show 0 < hi - lo+1; omega),_,_,rfl,rfl,?_⟩
  have hz1:1<=sg.length:=hsg.lo
  have hz2:sg.length<=20:=hsg.hi
  refine ⟨_,rfl,lo+jaM ns k % (hi - lo+1),rfl,by omega,by omega,?_⟩
  generalize hm:(lo+jaM ns k % (hi - lo+1)).toNat=m
  refine jbI (lo:=0) (n:=m) (fun i σ H'=>H'=H/\∃ (t:Str) (o:Option V),σ=[some (.ref a),some (.int k),some (.ref p),some (.int (lo+jaM ns k % (hi - lo+1))),some (.str t),o]/\t.length=i/\∀ c∈t.cps.toList,c∈sg.cps.toList)
   ⟨rfl,"",none,rfl,rfl,(fun c h=>nomatch h)⟩ (fun i σ H' hi' e=>?_) (fun σ H' e=>?_)
  ·obtain ⟨rfl,t,o,rfl,el,ec⟩:=e
   have hd0:0<=jaM ns (k+1+(0+(i:Int))) % (sg.length:Int):=Int.emod_nonneg _ (by omega)
   have hd1:jaM ns (k+1+(0+(i:Int))) % (sg.length:Int) < (sg.length:Int):=Int.emod_lt_of_pos _ (by omega)
   obtain ⟨c,hc,eat,_⟩:=jki (xs:=sg.cps.toList) hd0 (by rw [show sg.cps.toList.length=sg.length by simp [Str.length]]; exact hd1)
   refine ⟨_,rfl,_,rfl,p,_,_,_,rfl,rfl,SqT.of hp,rfl,_,rfl,_,rfl,_,_,rfl,rfl,_,rfl,_,_,rfl,rfl,a,ns,k+1+(0+(i:Int)),rfl,hS,by omega,by omega,_,rfl,p,_,_,_,rfl,rfl,SqT.of hp,rfl,sg,rfl,jce (by omega),_,_,rfl,rfl,(by show 0 < (sg.length:Int); omega),sg,_,c,rfl,rfl,jce (by omega),eat,t,⟨#[c]⟩,rfl,rfl,jce (by show t.length+1<=1000; omega),?_⟩
   refine ⟨rfl,t++⟨#[c]⟩,_,rfl,by rw [strLen_append,el]; rfl,fun x hx=>?_⟩
   rw [jlB] at hx
   rcases List.mem_append.mp hx with z | z
   ·exact ec x z
   ·have:x=c:=by simpa using z
    rw [this]; exact hc
  ·obtain ⟨rfl,t,o,rfl,el,ec⟩:=e
   exact ⟨_,rfl,q t ⟨by omega,by omega,ec⟩⟩
end
def jbB (kvs:List (Key×V)):Row:=fun n=>match jaW kvs (Sum.inr n) with | some (.str t)=>some t | _=>none
theorem jdk {kvs:List (Key×V)} {n t:Str} (h:jbB kvs n=some t):jaW kvs (Sum.inr n)=some (.str t):=by
 unfold jbB at h
 cases e:jaW kvs (Sum.inr n:Key) with
 | none=>rw [e] at h; cases h
 | some v =>
  rw [e] at h
  cases v <;> first | (cases h; rfl) | cases h
theorem jlC {kvs:List (Key×V)} {n t:Str} (h:jaW kvs (Sum.inr n)=some (.str t)):jbB kvs n=some t:=by unfold jbB; rw [h]
structure RowOk (kvs:List (Key×V)):Prop where
 txt:∀ p∈kvs,(∃ n,p.1=Sum.inr n)/\∃ t,p.2=.str t
 few:kvs.length<=10
 nd:(kvs.map (·.1)).Nodup
theorem RowOk.nil:RowOk []:=⟨fun _ h=>(nomatch h),Nat.zero_le _,List.nodup_nil⟩
theorem RowOk.put {kvs:List (Key×V)} {n t:Str} (h:RowOk kvs) (hn:jaW kvs (Sum.inr n)=none) (hl:kvs.length < 10):RowOk (jcx kvs (Sum.inr n) (.str t)):=by
 refine ⟨fun p hp=>?_,?_,jiO _ h.nd hn⟩
 ·rw [jbw _ hn] at hp
  rcases List.mem_append.mp hp with z | z
  ·exact h.txt p z
  ·have:p=(Sum.inr n,.str t):=by simpa using z
   subst this
   exact ⟨⟨n,rfl⟩,t,rfl⟩
 ·rw [jbw _ hn,List.length_append]
  exact hl
theorem jfT {kvs:List (Key×V)} {n t m:Str}:jbB (jcx kvs (Sum.inr n) (.str t)) m=if m=n then some t else jbB kvs m:=by
 unfold jbB
 rw [jcp]
 by_cases e:m=n
 ·subst e; simp
 ·have:¬ (Sum.inr m:Key)=Sum.inr n:=fun z=>e (Sum.inr.inj z)
  rw [if_neg this,if_neg e]
theorem FitPc.other {kvs:List (Key×V)} {n t:Str} {p:Pc} (hn:n∉p.nm) (h:FitPc (jbB kvs) p):FitPc (jbB (jcx kvs (Sum.inr n) (.str t))) p:=by
 cases p with
 | say _=>trivial
 | ask m sg lo hi =>
  obtain ⟨u,e,f⟩:=h
  refine ⟨u,?_,f⟩
  rw [jfT,if_neg (fun z=>hn (by rw [<- z]; exact List.mem_singleton.mpr rfl))]
  exact e
theorem RowAt.of {H:Hp} {d:Addr} {kvs:List (Key×V)} (h:H d=some (.dK kvs)):RowAt H (jbB kvs) (.ref d):=⟨d,kvs,rfl,.inl h,fun _ _ e=>jdk e⟩
theorem jfU {α:Type} {f:α->List Str} {l:List α} {i:Nat} {x:α} (h:l[i]?=some x) (nd:(l.flatMap f).Nodup):∀ n∈f x,n∉(l.take i).flatMap f:=by
 intro n hn hm
 have e:l=l.take i++(x::l.drop (i+1)):=by
  have hi:=(List.getElem?_eq_some_iff.mp h).1
  have hx:l[i]=x:=(List.getElem?_eq_some_iff.mp h).2
  rw [<- hx,<- List.drop_eq_getElem_cons hi,List.take_append_drop]
 rw [e,List.flatMap_append,List.flatMap_cons,List.nodup_append] at nd
 exact nd.2.2 n hm n (List.mem_append_left _ hn) rfl
section
variable {P:Program} {w:World} {K:PySem.W.Frag} {mg:Str->Option Value} {base:Heap} {D:Adr}
theorem scRowL:FnScope ["script","k","pieces","values","j"] ["script","k","pieces"] (jag jgz):=⟨rfl,rfl,rfl,by decide +kernel,rfl,by decide +kernel,by decide +kernel⟩
def jkq (K:PySem.W.Frag):Sp:=fun vs H Q _=>∃ (a l:Addr) (ns:List Int) (k:Int) (us:List V) (ps:List Pc),vs=[.ref a,.int k,.ref l]/\Scr K H a ns/\0<=k/\k<=800000/\H l=some (.lst us)/\Paired (Pc.At H) ps us/\PartsOk ps /\
 ∀ (d:Addr) (kvs:List (Key×V)),H d=none->RowOk kvs->kvs.length<=3->jha ps (jbB kvs)->(∀ n,jaW kvs (Sum.inr n)≠none->n∈ps.flatMap Pc.nm)->Q (.ref d) (L2.upd H d (.dK kvs))
theorem jnT (T:Txt w K mg D):FnOk P w K mg base CX0 4 D.aLawRow D.dLawRow ["script","k","pieces"] (jkq K):=by
 have G:FnOk P w K mg base CX0 3 D.aLawWord D.dLawWord ["script","k","piece"] (jko K):=jkp T
 refine T.fLawRow.ok scRowL (fun vs H Q E h=>?_) (fun cdv A outer s H vs Q E hr h=>?_)
 ·obtain ⟨a,l,ns,k,us,ps,rfl,_⟩:=h; rfl
 ·obtain ⟨a,l,ns,k,us,ps,rfl,hS,h0,h1,hl,hp,ok,q⟩:=h
  have hu:=jeC hr
  have hus:us.length=ps.length:=hp.length.symm
  have h3:=ok.hi
  refine ⟨_,jac (jak (i:=3) scRowL.nd rfl (Or.inl rfl) jcq)
   (jac (jaN PassesOwn.never rfl (jbm rfl T.zRange (jaa (jal jar rfl T.zLen PySem.boot_len (jaa (pv 2) jad)) jad)) (jaB (i:=4) scRowL.nd rfl (Or.inl rfl))
    (jaf (jaF (jao jaZ (jam jaj (jam jaG (pv 2) (pv 4) (fun _ _=>rfl)) jae (fun _ _=>rfl)) jax (jas _))
     (jaf (jca hu (pv 3) (jam jaj (jam jaG (pv 2) (pv 4) (fun _ _=>rfl)) jae (fun _ _=>rfl)) (jai G hr rfl T.mLawWord T.fLawWord.kp T.bLawWord .nil jaq (jaa (pv 0) (jaa (jan jaz (pv 1) (jan jdl jae (pv 4))) (jaa (jam jaG (pv 2) (pv 4) (fun _ _=>rfl)) jad)))) rfl)) jav)))
   (jaf (jat (pv 3)))),?_⟩
  intro d hd
  have s1:=jah hd (.dK [])
  refine ⟨_,rfl,l,us,rfl,.inl (SqL.of (s1 _ _ hl)),_,rfl,by omega,by omega,?_⟩
  rw [Int.toNat_natCast]
  refine jbI (lo:=0) (n:=us.length) (fun i σ H'=>∃ (kvs:List (Key×V)) (o:Option V),σ=[some (.ref a),some (.int k),some (.ref l),some (.ref d),o]/\H'=L2.upd H d (.dK kvs)/\RowOk kvs/\kvs.length<=i/\(∀ p∈ps.take i,FitPc (jbB kvs) p)/\∀ n,jaW kvs (Sum.inr n)≠none->n∈(ps.take i).flatMap Pc.nm)
   ⟨[],none,rfl,rfl,RowOk.nil,Nat.le_refl _,(fun _ z=>nomatch z),(fun n z=>absurd rfl z)⟩ (fun i σ H' hi e=>?_) (fun σ H' e=>?_)
  ·obtain ⟨kvs,o,rfl,rfl,rok,rl,rf,rn⟩:=e
   have s2:=jah hd (.dK kvs)
   have hx:us[i]?=some us[i]:=List.getElem?_eq_getElem hi
   obtain ⟨p,ep,pat⟩:=Paired.two hp hx
   have hat:atI us (0+(i:Int))=some us[i]:=by rw [Int.zero_add]; exact jbD hx
   have okp:=ok.all p (List.mem_of_getElem? ep)
   have fresh:=jfU (f:=Pc.nm) ep ok.nd
   have tk:=jau ep
   obtain ⟨b,eb,hb⟩:=pat
   rw [eb] at hat
   cases p with
   | say z =>
    refine ⟨_,rfl,_,rfl,l,us,_,_,rfl,rfl,SqL.of (s2 _ _ hl),hat,b,_,_,_,rfl,rfl,SqT.of (s2 _ _ hb),rfl,rfl,_,rfl,jaJ ne_as.symm ?_⟩
    refine ⟨kvs,_,rfl,rfl,rok,by omega,fun x hx'=>?_,fun n hn=>?_⟩
    ·rw [tk] at hx'
     rcases List.mem_append.mp hx' with y | y
     ·exact rf x y
     ·have:x=.say z:=by simpa using y
      subst this; trivial
    ·rw [tk,List.flatMap_append]; exact List.mem_append_left _ (rn n hn)
   | ask m sg lo hi' =>
    have hm:=fresh m (List.mem_singleton.mpr rfl)
    have hnone:jaW kvs (Sum.inr m:Key)=none:=by
     cases z:jaW kvs (Sum.inr m:Key) with
     | none=>rfl
     | some v=>exact absurd (rn m (by rw [z]; exact fun y=>nomatch y)) hm
    refine ⟨_,rfl,_,rfl,l,us,_,_,rfl,rfl,SqL.of (s2 _ _ hl),hat,b,_,_,_,rfl,rfl,SqT.of (s2 _ _ hb),rfl,rfl,_,rfl,jbJ rfl ?_⟩
    refine ⟨_,rfl,_,rfl,_,rfl,_,_,rfl,rfl,.inl ⟨by decide,by decide⟩,_,_,rfl,rfl,_,rfl,_,rfl,l,us,_,_,rfl,rfl,SqL.of (s2 _ _ hl),hat,a,ns,k+6 * (0+(i:Int)),_,m,sg,lo,hi',rfl,hS.mono s2,by omega,by omega,⟨b,rfl,s2 _ _ hb⟩,okp,fun t ft=>?_⟩
    refine ⟨_,rfl,_,rfl,_,rfl,l,us,_,_,rfl,rfl,SqL.of (s2 _ _ hl),hat,b,_,_,_,rfl,rfl,SqT.of (s2 _ _ hb),rfl,d,_,rfl,DPut.k (k:=Sum.inr m) jab (jbf (by omega)),?_⟩
    refine ⟨jcx kvs (Sum.inr m) (.str t),_,rfl,jfD,rok.put hnone (by omega),Nat.le_trans (jbO _ _ _) (by omega),fun x hx'=>?_,fun n hn=>?_⟩
    ·rw [tk] at hx'
     rcases List.mem_append.mp hx' with y | y
     ·exact FitPc.other (fun z=>hm (List.mem_flatMap.mpr ⟨x,y,z⟩)) (rf x y)
     ·have:x=.ask m sg lo hi':=by simpa using y
      subst this
      exact ⟨t,by rw [jfT,if_pos rfl],ft⟩
    ·rw [tk,List.flatMap_append]
     rw [jcp] at hn
     by_cases z:(Sum.inr n:Key)=Sum.inr m
     ·rw [Sum.inr.inj z]
      exact List.mem_append_right _ (by simp [Pc.nm])
     ·rw [if_neg z] at hn
      exact List.mem_append_left _ (rn n hn)
  ·obtain ⟨kvs,o,rfl,rfl,rok,rl,rf,rn⟩:=e
   rw [hus,List.take_length] at rf rn
   exact ⟨_,rfl,q d kvs hd rok (by omega) rf rn⟩
end
def kNone:Key:=Sum.inr "none"
structure RowG (inner:List Pc) (rk:List (Key×V)):Prop where
 ok:RowOk rk
 few:rk.length<=3\/(rk.length<=4/\jaW rk kNone≠none)
 fit:jha inner (jbB rk)
def RowsG (H:Hp) (d:Addr) (inner:List Pc) (us:List V):Prop:=∀ u∈us,∃ a rk,u=.ref a/\a≠d/\H a=some (.dK rk)/\RowG inner rk
def ValF (H:Hp) (d:Addr) (kvs:List (Key×V)):Pie->Prop
 | .one (.say _)=>True
 | .one (.ask n sg lo hi)=>∃ t,jaW kvs (Sum.inr n)=some (.str t)/\Fits sg lo hi t
 | .rows n inner _ lo hi=>∃ l us,jaW kvs (Sum.inr n)=some (.ref l)/\H l=some (.lst us)/\lo<=(us.length:Int)/\(us.length:Int)<=hi/\RowsG H d inner us
def VOk (H:Hp) (d:Addr) (v:V):Prop:=(∃ t,v=.str t)\/∃ l us inner,v=.ref l/\H l=some (.lst us)/\us.length<=3/\RowsG H d inner us
structure DatOk (H:Hp) (d:Addr) (kvs:List (Key×V)):Prop where
 all:∀ p∈kvs,(∃ n,p.1=Sum.inr n)/\VOk H d p.2
 nd:(kvs.map (·.1)).Nodup
theorem RowsG.mono {H H':Hp} (e:Same H H') {d:Addr} {inner:List Pc} {us:List V} (h:RowsG H d inner us):RowsG H' d inner us:=fun u hu=>by
 obtain ⟨a,rk,h1,h2,h3,h4⟩:=h u hu
 exact ⟨a,rk,h1,h2,e _ _ h3,h4⟩
theorem RowsG.upd {H:Hp} {d:Addr} {o:HO} {inner:List Pc} {us:List V} (h:RowsG H d inner us):RowsG (L2.upd H d o) d inner us:=fun u hu=>by
 obtain ⟨a,rk,h1,h2,h3,h4⟩:=h u hu
 exact ⟨a,rk,h1,h2,by rw [upd_ne h2]; exact h3,h4⟩
theorem VOk.mono {H H':Hp} (e:Same H H') {d:Addr} {v:V} (h:VOk H d v):VOk H' d v:=by
 rcases h with h | ⟨l,us,inner,h1,h2,h3,h4⟩
 ·exact .inl h
 ·exact .inr ⟨l,us,inner,h1,e _ _ h2,h3,h4.mono e⟩
theorem VOk.upd {H:Hp} {d:Addr} {ks:List (Key×V)} (hd:H d=some (.dK ks)) {o:HO} {v:V} (h:VOk H d v):VOk (L2.upd H d o) d v:=by
 rcases h with h | ⟨l,us,inner,h1,h2,h3,h4⟩
 ·exact .inl h
 ·exact .inr ⟨l,us,inner,h1,by rw [upd_ne (jbj h2 hd (by intro z; cases z))]; exact h2,h3,h4.upd⟩
theorem DatOk.mono {H H':Hp} (e:Same H H') {d:Addr} {kvs:List (Key×V)} (h:DatOk H d kvs):DatOk H' d kvs:=⟨fun p hp=>⟨(h.all p hp).1,(h.all p hp).2.mono e⟩,h.nd⟩
theorem ValF.mono {H H':Hp} (e:Same H H') {d:Addr} {kvs:List (Key×V)}:∀ {p:Pie},ValF H d kvs p->ValF H' d kvs p
 | .one (.say _),_=>trivial
 | .one (.ask ..),h=>h
 | .rows ..,⟨l,us,h1,h2,h3,h4,h5⟩=>⟨l,us,h1,e _ _ h2,h3,h4,h5.mono e⟩
theorem jex {kvs:List (Key×V)} {n m:Str} {v:V} (h:m≠n):jaW (jcx kvs (Sum.inr n) v) (Sum.inr m)=jaW kvs (Sum.inr m):=by
 rw [jcp,if_neg fun z=>h (Sum.inr.inj z)]
theorem jfV {kvs:List (Key×V)} {n:Str} {v:V}:jaW (jcx kvs (Sum.inr n) v) (Sum.inr n)=some v:=by rw [jcp,if_pos rfl]
theorem ValF.put {H:Hp} {d:Addr} {ks kvs:List (Key×V)} (hd:H d=some (.dK ks)) {n:Str} {v:V} {o:HO}:∀ {p:Pie},n∉p.nm->ValF H d kvs p->ValF (L2.upd H d o) d (jcx kvs (Sum.inr n) v) p
 | .one (.say _),_,_=>trivial
 | .one (.ask m ..),hn,⟨t,h1,h2⟩=>⟨t,by rw [jex (fun z=>hn (by rw [<- z]; exact List.mem_singleton.mpr rfl))]; exact h1,h2⟩
 | .rows m ..,hn,⟨l,us,h1,h2,h3,h4,h5⟩=>⟨l,us,by rw [jex (fun z=>hn (by rw [<- z]; exact List.mem_singleton.mpr rfl))]; exact h1,by rw [upd_ne (jbj h2 hd (by intro z; cases z))]; exact h2,h3,h4,h5.upd⟩
theorem DatOk.put {H:Hp} {d:Addr} {kvs:List (Key×V)} (hd:H d=some (.dK kvs)) {n:Str} {v:V} {o:HO} (h:DatOk H d kvs) (hn:jaW kvs (Sum.inr n)=none) (hv:VOk H d v):DatOk (L2.upd H d o) d (jcx kvs (Sum.inr n) v):=by
 refine ⟨fun p hp=>?_,jiO _ h.nd hn⟩
 rw [jbw _ hn] at hp
 rcases List.mem_append.mp hp with z | z
 ·exact ⟨(h.all p z).1,(h.all p z).2.upd hd⟩
 ·have:p=(Sum.inr n,v):=by simpa using z
  subst this
  exact ⟨⟨n,rfl⟩,hv.upd hd⟩
structure Half (H H':Hp) (d:Addr) (kvs:List (Key×V)) (ps:List Pie):Prop where
 same:Same H H'
 here:H' d=some (.dK kvs)
 dat:DatOk H' d kvs
 few:kvs.length<=ps.length
 val:∀ p∈ps,ValF H' d kvs p
 nms:∀ n,jaW kvs (Sum.inr n)≠none->n∈ps.flatMap Pie.nm
theorem Half.mono {H H' H2:Hp} {d:Addr} {kvs:List (Key×V)} {ps:List Pie} (e:Same H' H2) (h:Half H H' d kvs ps):Half H H2 d kvs ps :=
 ⟨h.same.trans e,e _ _ h.here,h.dat.mono e,h.few,fun p hp=>(h.val p hp).mono e,h.nms⟩
theorem Half.say {H H':Hp} {d:Addr} {kvs:List (Key×V)} {ps:List Pie} (h:Half H H' d kvs ps) (z:Str):Half H H' d kvs (ps++[.one (.say z)]):=by
 refine ⟨h.same,h.here,h.dat,by rw [List.length_append]; exact Nat.le_trans h.few (Nat.le_add_right _ _),fun p hp=>?_,fun n hn=>?_⟩
 ·rcases List.mem_append.mp hp with y | y
  ·exact h.val p y
  ·have:p=.one (.say z):=by simpa using y
   subst this; trivial
 ·rw [List.flatMap_append]; exact List.mem_append_left _ (h.nms n hn)
theorem Half.put {H H':Hp} {d:Addr} {kvs:List (Key×V)} {ps:List Pie} {p:Pie} {n:Str} {v:V} (h:Half H H' d kvs ps) (h0:H d=none) (hp:p.nm=[n]) (hn:n∉ps.flatMap Pie.nm) (hv:VOk H' d v)
  (hval:ValF (L2.upd H' d (.dK (jcx kvs (Sum.inr n) v))) d (jcx kvs (Sum.inr n) v) p):Half H (L2.upd H' d (.dK (jcx kvs (Sum.inr n) v))) d (jcx kvs (Sum.inr n) v) (ps++[p]):=by
 have hnone:jaW kvs (Sum.inr n:Key)=none:=by
  cases z:jaW kvs (Sum.inr n:Key) with
  | none=>rfl
  | some v=>exact absurd (h.nms n (by rw [z]; exact fun y=>nomatch y)) hn
 refine ⟨Same.updN h.same h0 _,jab,h.dat.put h.here hnone hv,?_,fun x hx=>?_,fun m hm=>?_⟩
 ·rw [jbw _ hnone,List.length_append,List.length_append]
  exact Nat.add_le_add_right h.few 1
 ·rcases List.mem_append.mp hx with y | y
  ·exact (h.val x y).put h.here (fun z=>hn (List.mem_flatMap.mpr ⟨x,y,z⟩))
  ·have:x=p:=by simpa using y
   subst this; exact hval
 ·rw [List.flatMap_append]
  rw [jcp] at hm
  by_cases z:(Sum.inr m:Key)=Sum.inr n
  ·rw [Sum.inr.inj z]
   exact List.mem_append_right _ (by simp [hp])
  ·rw [if_neg z] at hm
   exact List.mem_append_left _ (h.nms m hm)
theorem Half.nil {H:Hp} {d:Addr} (hd:H d=none):Half H (L2.upd H d (.dK [])) d [] []:=⟨jah hd _,jab,⟨(fun _ z=>nomatch z),List.nodup_nil⟩,Nat.le_refl _,(fun _ z=>nomatch z),fun n z=>absurd rfl z⟩
section
variable {P:Program} {w:World} {K:PySem.W.Frag} {mg:Str->Option Value} {base:Heap} {D:Adr}
theorem scValues:FnScope ["script","start","pieces","values","k","piece","here","many","row"] ["script","start","pieces"] (jag jct):=⟨rfl,rfl,rfl,by decide +kernel,rfl,by decide +kernel,by decide +kernel⟩
def jhz (K:PySem.W.Frag):Sp:=fun vs H Q _=>∃ (a l:Addr) (ns:List Int) (st:Int) (us:List V) (ps:List Pie),vs=[.ref a,.int st,.ref l]/\Scr K H a ns/\0<=st/\st<=1000/\H l=some (.lst us)/\Paired (Pie.At H) ps us/\FormOk ps /\
 ∀ (d:Addr) (kvs:List (Key×V)) (H':Hp),Same H H'->H d=none->H' d=some (.dK kvs)->DatOk H' d kvs->kvs.length<=6->(∀ p∈ps,ValF H' d kvs p)->(∀ n,jaW kvs (Sum.inr n)≠none->n∈ps.flatMap Pie.nm)->Q (.ref d) H'
theorem jkr (T:Txt w K mg D):FnOk P w K mg base CX0 5 D.aLawValues D.dLawValues ["script","start","pieces"] (jhz K):=by
 have G:FnOk P w K mg base CX0 2 D.aLawDraw D.dLawDraw ["script","k"] (jds K):=jcF T
 have GW:FnOk P w K mg base CX0 3 D.aLawWord D.dLawWord ["script","k","piece"] (jko K):=jkp T
 have GR:FnOk P w K mg base CX0 4 D.aLawRow D.dLawRow ["script","k","pieces"] (jkq K):=jnT T
 refine T.fLawValues.ok scValues (fun vs H Q E h=>?_) (fun cdv A outer s H vs Q E hr h=>?_)
 ·obtain ⟨a,l,ns,st,us,ps,rfl,_⟩:=h; rfl
 ·obtain ⟨a,l,ns,st,us,ps,rfl,hS,h0,h1,hl,hp,ok,q⟩:=h
  have hu:=jeC hr
  have hr2:Room 2 _:=hr.mono (by decide)
  have hr3:Room 3 _:=hr.mono (by decide)
  have hus:us.length=ps.length:=hp.length.symm
  have h6:=ok.hi
  refine ⟨_,jac (jak (i:=3) scValues.nd rfl (Or.inl rfl) jcq)
   (jac (jaN PassesOwn.never rfl (jbm rfl T.zRange (jaa (jal jar rfl T.zLen PySem.boot_len (jaa (pv 2) jad)) jad)) (jaB (i:=4) scValues.nd rfl (Or.inl rfl))
    (jac (jak (i:=5) scValues.nd rfl (Or.inr rfl) (jam jaG (pv 2) (pv 4) (fun _ _=>rfl)))
    (jac (jak (i:=6) scValues.nd rfl (Or.inr rfl) (jan jaz (pv 1) (jan jdl jae (pv 4))))
    (jac (jaF (jao jaZ (jam jaj (pv 5) jae (fun _ _=>rfl)) jax (jas _))
     (jaf (jca hu (pv 3) (jam jaj (pv 5) jae (fun _ _=>rfl)) (jai GW hr3 rfl T.mLawWord T.fLawWord.kp T.bLawWord .nil jaq (jaa (pv 0) (jaa (pv 6) (jaa (pv 5) jad)))) rfl)) jav)
    (jaf (jaF (jao jaZ (jam jaj (pv 5) jae (fun _ _=>rfl)) jax (jas _))
     (jac (jak (i:=7) scValues.nd rfl (Or.inl rfl) (jan jaz (jam jaj (pv 5) jae (fun _ _=>rfl)) (jan jaT (jai G hr2 rfl T.mLawDraw T.fLawDraw.kp T.bLawDraw .nil jaq (jaa (pv 0) (jaa (pv 6) jad))) (jan jaz (jan jbY (jam jaj (pv 5) jae (fun _ _=>rfl)) (jam jaj (pv 5) jae (fun _ _=>rfl))) jae))))
     (jac (jdd (i:=8) (cp:=[(0,"script"),(6,"here"),(5,"piece")]) (te:=jgk (jkq K) [] E0 (jaR (jbh 1) (jaR (tOp (rI0 fun i j=>.int (i+j)) (tOp (rI0 fun i j=>.int (i+j)) (jbh 2) (tC (.int 1))) (tOp (rI CMul fun i j=>.int (i * j)) (tC (.int 25)) (jbh 0))) (jaR (tOp (jgm K) (jbh 3) (tC (.int 2))) jdv)))) scValues.nd rfl rfl
      (CompScope.of (jag jct) ["script","start","pieces","values","k","piece","here","many","row"] rfl rfl (by decide +kernel)) rfl (jbm rfl T.zRange (jaa (pv 7) jad)) (fun _ _ _ _ _=>jcc)
      (fun _ _ _ _ _=>jai GR hr rfl T.mLawRow T.fLawRow.kp T.bLawRow .nil jaq (jaa (pv 1) (jaa (jan jaz (jan jaz (pv 2) jae) (jan jdl jae (pv 0))) (jaa (jam jaj (pv 3) jae (fun _ _=>rfl)) jad)))))
     (jaf (jca hu (pv 3) (jam jaj (pv 5) jae (fun _ _=>rfl)) (pv 8) rfl)))) jav))))))
   (jaf (jat (pv 3)))),?_⟩
  intro d hd
  have s1:=jah hd (.dK [])
  refine ⟨_,rfl,l,us,rfl,.inl (SqL.of (s1 _ _ hl)),_,rfl,by omega,by omega,?_⟩
  rw [Int.toNat_natCast]
  refine jbI (lo:=0) (n:=us.length) (fun i σ H'=>∃ (kvs:List (Key×V)) (o4 o5 o6 o7 o8:Option V),σ=[some (.ref a),some (.int st),some (.ref l),some (.ref d),o4,o5,o6,o7,o8]/\Half H H' d kvs (ps.take i))
   ⟨[],none,none,none,none,none,rfl,Half.nil hd⟩ (fun i σ H' hi e=>?_) (fun σ H' e=>?_)
  ·obtain ⟨kvs,o4,o5,o6,o7,o8,rfl,hf⟩:=e
   have s2:=hf.same
   have hx:us[i]?=some us[i]:=List.getElem?_eq_getElem hi
   obtain ⟨p,ep,pat⟩:=Paired.two hp hx
   have hat:atI us (0+(i:Int))=some us[i]:=by rw [Int.zero_add]; exact jbD hx
   have okp:=ok.all p (List.mem_of_getElem? ep)
   have fresh:=jfU (f:=Pie.nm) ep ok.nd
   have hlen:kvs.length < sizeLine:=jbf (by have:=hf.few; rw [List.length_take] at this; omega)
   rw [jau ep]
   refine ⟨_,rfl,_,rfl,l,us,_,_,rfl,rfl,SqL.of (s2 _ _ hl),hat,?_⟩
   refine ⟨_,rfl,_,rfl,_,_,rfl,rfl,.inl ⟨by decide,by decide⟩,_,_,rfl,rfl,?_⟩
   cases p with
   | one p =>
    obtain ⟨b,eb,hb⟩:=pat
    rw [eb]
    cases p with
    | say z =>
     refine ⟨_,rfl,b,_,_,_,rfl,rfl,SqT.of (s2 _ _ hb),rfl,rfl,_,rfl,jaJ ne_as.symm ?_⟩
     refine ⟨_,rfl,b,_,_,_,rfl,rfl,SqT.of (s2 _ _ hb),rfl,rfl,_,rfl,jaJ ne_sr ?_⟩
     exact ⟨kvs,_,_,_,_,_,rfl,hf.say z⟩
    | ask m sg lo hi' =>
     refine ⟨_,rfl,b,_,_,_,rfl,rfl,SqT.of (s2 _ _ hb),rfl,rfl,_,rfl,jbJ rfl ?_⟩
     refine ⟨_,rfl,_,rfl,_,rfl,a,ns,_,_,m,sg,lo,hi',rfl,hS.mono s2,by omega,by omega,⟨b,rfl,s2 _ _ hb⟩,okp,fun t ft=>?_⟩
     refine ⟨_,rfl,_,rfl,b,_,_,_,rfl,rfl,SqT.of (s2 _ _ hb),rfl,d,_,rfl,DPut.k (k:=Sum.inr m) hf.here hlen,?_⟩
     have h2:=hf.put (p:=.one (.ask m sg lo hi')) hd rfl (fresh m (List.mem_singleton.mpr rfl)) (v:=.str t) (.inl ⟨t,rfl⟩) ⟨t,jfV,ft⟩
     refine ⟨_,rfl,b,_,_,_,rfl,rfl,SqT.of (h2.same _ _ hb),rfl,rfl,_,rfl,jaJ ne_ra.symm ?_⟩
     exact ⟨_,_,_,_,_,_,rfl,h2⟩
   | rows n inner gap lo hi' =>
    obtain ⟨b,r2,ws,eb,hb,hr2',hin⟩:=pat
    obtain ⟨hn,hpo,hg,b0,b1,b2⟩:=okp
    rw [eb]
    refine ⟨_,rfl,b,_,_,_,rfl,rfl,SqT.of (s2 _ _ hb),rfl,rfl,_,rfl,jaJ ne_ra ?_⟩
    refine ⟨_,rfl,b,_,_,_,rfl,rfl,SqT.of (s2 _ _ hb),rfl,rfl,_,rfl,jbJ rfl ?_⟩
    refine ⟨_,rfl,b,_,_,_,rfl,rfl,SqT.of (s2 _ _ hb),rfl,_,rfl,_,rfl,a,ns,_,rfl,hS.mono s2,by omega,by omega,_,rfl,b,_,_,_,rfl,rfl,SqT.of (s2 _ _ hb),rfl,_,rfl,b,_,_,_,rfl,rfl,SqT.of (s2 _ _ hb),rfl,_,_,rfl,rfl,_,_,rfl,rfl,_,_,rfl,rfl,(by show 0 < hi' - lo+1; omega),_,_,rfl,rfl,?_⟩
    generalize jaM ns (st+90 * (0+(i:Int)))=c
    have d0:0<=c % (hi' - lo+1):=Int.emod_nonneg _ (by omega)
    have d1:c % (hi' - lo+1) < hi' - lo+1:=Int.emod_lt_of_pos _ (by omega)
    refine ⟨_,rfl,lo+c % (hi' - lo+1),rfl,by omega,by omega,?_⟩
    generalize hm:(lo+c % (hi' - lo+1)).toNat=m
    refine jhY (lo:=0) (n:=m) (fun j ys H5=>Same H' H5/\ys.length=j/\RowsG H5 d inner ys) ⟨Same.refl _,rfl,fun _ z=>nomatch z⟩ (fun j ys H5 _ e=>Nat.le_of_eq e.2.1) (jce (by omega)) (fun j ys H5 hj e=>?_) (fun ys H5 e r hr'=>?_)
    ·obtain ⟨e1,e2,e3⟩:=e
     have s3:=s2.trans e1
     refine ⟨_,rfl,_,rfl,_,_,rfl,rfl,_,rfl,_,_,rfl,rfl,.inl ⟨by decide,by decide⟩,_,_,rfl,rfl,_,rfl,b,_,_,_,rfl,rfl,SqT.of (s3 _ _ hb),rfl,a,r2,ns,_,ws,inner,rfl,hS.mono s3,by omega,by omega,s3 _ _ hr2',Paired.mapP hin fun _ _ z=>z.mono s3,hpo,fun x rk hx' rok rl rf rn=>?_⟩
     have s4:=jah hx' (.dK rk)
     refine ⟨e1.trans s4,by rw [List.length_append,e2]; rfl,fun u hu'=>?_⟩
     rcases List.mem_append.mp hu' with y | y
     ·exact e3.mono s4 u y
     ·have:u=.ref x:=by simpa using y
      subst this
      exact ⟨x,rk,rfl,Ne.symm (ne_of_none (e1 _ _ hf.here) hx'),jab,rok,.inl rl,rf⟩
    ·obtain ⟨e1,e2,e3⟩:=e
     have s4:=jah hr' (.lst ys)
     have h1':=hf.mono (e1.trans s4)
     have s5:=h1'.same
     refine ⟨_,rfl,_,rfl,_,rfl,b,_,_,_,rfl,rfl,SqT.of (s5 _ _ hb),rfl,d,_,rfl,DPut.k (k:=Sum.inr n) h1'.here hlen,?_⟩
     have hrd:r≠d:=jbj jab h1'.here (by intro z; cases z)
     refine ⟨_,_,_,_,_,_,rfl,h1'.put (p:=.rows n inner gap lo hi') hd rfl (fresh n (List.mem_singleton.mpr rfl)) (.inr ⟨r,ys,inner,rfl,jab,by omega,e3.mono s4⟩) ⟨r,ys,jfV,by rw [upd_ne hrd]; exact jab,by omega,by omega,(e3.mono s4).upd⟩⟩
  ·obtain ⟨kvs,o4,o5,o6,o7,o8,rfl,hf⟩:=e
   rw [hus,List.take_length] at hf
   exact ⟨_,rfl,q d kvs H' hf.same hd hf.here hf.dat (Nat.le_trans hf.few h6) hf.val hf.nms⟩
end
theorem sE (x:Str):Str.empty++x=x:=by
 show (⟨#[]++x.cps⟩:Str)=x
 rw [Array.empty_append]
theorem sE' (x:Str):x++Str.empty=x:=by
 show (⟨x.cps++#[]⟩:Str)=x
 rw [Array.append_empty]
theorem sA (x y z:Str):(x++y)++z=x++(y++z):=by
 show (⟨(x.cps++y.cps)++z.cps⟩:Str)=⟨x.cps++(y.cps++z.cps)⟩
 rw [Array.append_assoc]
theorem jfc:∀ (l:List Str) (x:Str),cat (l++[x])=cat l++x
 | [],x=>(sE x).symm
 | [t],x=>by
  show (t++Str.empty)++x=t++x
  rw [sE']
 | t::u::r,x=>by
  have ih:=jfc (u::r) x
  show (t++Str.empty)++cat ((u::r)++[x])=((t++Str.empty)++cat (u::r))++x
  rw [ih]; exact (sA _ _ _).symm
section
variable {P:Program} {w:World} {K:PySem.W.Frag} {mg:Str->Option Value} {base:Heap} {D:Adr}
theorem scLine:FnScope ["pieces","values","text","piece"] ["pieces","values"] (jag jeO):=⟨rfl,rfl,rfl,by decide +kernel,rfl,by decide +kernel,by decide +kernel⟩
def jks:Sp:=fun vs H Q _=>∃ (l:Addr) (us:List V) (ps:List Pc) (f:Row) (d:V),vs=[.ref l,d]/\H l=some (.lst us)/\Paired (Pc.At H) ps us/\RowAt H f d/\ps.length<=3/\(∀ p∈ps,p.ok/\FitPc f p)/\Q (.str (jkD ps f)) H
theorem jnU (T:Txt w K mg D):FnOk P w K mg base CX0 1 D.aLawLine D.dLawLine ["pieces","values"] jks:=by
 refine T.fLawLine.ok scLine (fun vs H Q E h=>?_) (fun cdv A outer s H vs Q E hr h=>?_)
 ·obtain ⟨l,us,ps,f,d,rfl,_⟩:=h; rfl
 ·obtain ⟨l,us,ps,f,d,rfl,hl,hp,⟨da,kvs,rfl,hd,hv⟩,h3,hok,q⟩:=h
  have hu:=jeC hr
  have hus:us.length=ps.length:=hp.length.symm
  refine ⟨_,jac (jak (i:=2) scLine.nd rfl (Or.inl rfl) jax)
   (jac (jaN PassesOwn.never rfl (jaL (pv 0)) (jaB (i:=3) scLine.nd rfl (Or.inl rfl))
    (jaf (jaF (jao jaZ (jam jaj (pv 3) jae (fun _ _=>rfl)) jax (jas _))
     (jaf (jak (i:=2) scLine.nd rfl (Or.inl rfl) (jan jbd (pv 2) (jam jaj (pv 3) jae (fun _ _=>rfl)))))
     (jaf (jak (i:=2) scLine.nd rfl (Or.inl rfl) (jan jbd (pv 2) (jiM hu (pv 1) (jam jaj (pv 3) jae (fun _ _=>rfl)) (fun _ _=>rfl))))))))
   (jaf (jat (pv 2)))),?_⟩
  refine ⟨_,rfl,l,rfl,⟨_,SqL.of hl⟩,jcJ (xs:=us) (fun i σ H'=>H'=H/\∃ o,σ=[some (.ref l),some (.ref da),some (.str (cat ((ps.take i).map (wPc f)))),o]) ⟨rfl,none,rfl⟩ (fun i σ H' hi e=>by rw [e.1]; exact SqL.of hl) (fun i x σ H' hx e=>?_) (fun σ H' e=>?_)⟩
  ·obtain ⟨rfl,o,rfl⟩:=e
   obtain ⟨p,ep,b,rfl,hb⟩:=Paired.two hp hx
   obtain ⟨okp,fp⟩:=hok p (List.mem_of_getElem? ep)
   have hz:=jgA okp fp
   have hi:i < us.length:=(List.getElem?_eq_some_iff.mp hx).1
   have hc:(cat ((ps.take i).map (wPc f))).length<=36:=by
    refine Nat.le_trans (jeU (n:=12) fun t ht=>?_) ?_
    ·obtain ⟨p',hp',rfl⟩:=List.mem_map.mp ht
     obtain ⟨o1,o2⟩:=hok p' (List.mem_of_mem_take hp')
     exact jgA o1 o2
    ·rw [List.length_map,List.length_take]; omega
   have et:cat ((ps.take (i+1)).map (wPc f))=cat ((ps.take i).map (wPc f))++wPc f p:=by rw [jau ep,List.map_append]; exact jfc _ _
   rw [et]
   cases p with
   | say z =>
    refine ⟨_,rfl,b,_,_,_,rfl,rfl,SqT.of hb,rfl,rfl,_,rfl,jbJ rfl ?_⟩
    exact ⟨_,rfl,_,rfl,b,_,_,_,rfl,rfl,SqT.of hb,rfl,_,z,rfl,rfl,jce (by have:z.length<=12:=hz; omega),rfl,_,rfl⟩
   | ask n sg lo hi' =>
    obtain ⟨t,e1,e2⟩:=fp
    rw [jjR e1] at hz ⊢
    refine ⟨_,rfl,b,_,_,_,rfl,rfl,SqT.of hb,rfl,rfl,_,rfl,jaJ ne_as ?_⟩
    exact ⟨_,rfl,_,rfl,_,rfl,b,_,_,_,rfl,rfl,SqT.of hb,rfl,da,_,rfl,.inl ⟨kvs,Sum.inr n,hd,rfl,(hv n t e1).symm⟩,_,t,rfl,rfl,jce (by omega),rfl,_,rfl⟩
  ·obtain ⟨rfl,o,rfl⟩:=e
   rw [hus,List.take_length]
   exact ⟨_,rfl,q⟩
theorem scWritten:FnScope ["pieces","values","text","piece"] ["pieces","values"] (jag jbS):=⟨rfl,rfl,rfl,by decide +kernel,rfl,by decide +kernel,by decide +kernel⟩
def jfW:Sp:=fun vs H Q _=>∃ (l:Addr) (us:List V) (ps:List Pie) (F:Vs) (d:Addr) (kvs:List (Key×V)),vs=[.ref l,.ref d]/\H l=some (.lst us)/\Paired (Pie.At H) ps us/\FormOk ps/\Rd H d (.dK kvs)/\(∀ n x,F n=some x->∃ u,jaW kvs (Sum.inr n)=some u/\joX H x u)/\(∀ p∈ps,jfH F p)/\∀ H',Same H H'->Q (.str (jlj ps F)) H'
theorem jij (T:Txt w K mg D):FnOk P w K mg base CX0 2 D.aLawWritten D.dLawWritten ["pieces","values"] jfW:=by
 have G:FnOk P w K mg base CX0 1 D.aLawLine D.dLawLine ["pieces","values"] jks:=jnU T
 refine T.fLawWritten.ok scWritten (fun vs H Q E h=>?_) (fun cdv A outer s H vs Q E hr h=>?_)
 ·obtain ⟨l,us,ps,F,d,kvs,rfl,_⟩:=h; rfl
 ·obtain ⟨l,us,ps,F,d,kvs,rfl,hl,hp,ok,hd,hv,hfit,q⟩:=h
  have hu:=jeC hr
  have hus:us.length=ps.length:=hp.length.symm
  have h6:=ok.hi
  refine ⟨_,jac (jak (i:=2) scWritten.nd rfl (Or.inl rfl) jax)
   (jac (jaN PassesOwn.never rfl (jaL (pv 0)) (jaB (i:=3) scWritten.nd rfl (Or.inr rfl))
    (jaf (jaF (jao jaZ (jam jaj (pv 3) jae (fun _ _=>rfl)) jax (jas _))
     (jaf (jak (i:=2) scWritten.nd rfl (Or.inl rfl) (jan jbd (pv 2) (jbv PySem.F.plainAttrs_str PySem.F.slot_str_join PySem.F.type_str_join jnf (jam jaj (pv 3) jae (fun _ _=>rfl))
      (jaa (jcB (cp:=[(3,"piece")]) (te:=jgk jks [] E0 (jaR (tOp (jgm K) (jbh 1) (tC (.int 2))) (jaR (jbh 0) jdv))) (CompScope.of (jag jbS) ["pieces","values","text","piece"] rfl rfl (by decide +kernel)) rfl
       (jaL (jiM hu (pv 1) (jam jaj (pv 3) jae (fun _ _=>rfl)) (fun _ _=>rfl))) (fun _ _ _ _ _=>jcc)
       (fun _ _ _ _ _=>jai G hr rfl T.mLawLine T.fLawLine.kp T.bLawLine .nil jaq (jaa (jam jaj (pv 1) jae (fun _ _=>rfl)) (jaa (pv 0) jad)))) jad)))))
     (jaf (jak (i:=2) scWritten.nd rfl (Or.inl rfl) (jan jbd (pv 2) (jai G hr rfl T.mLawLine T.fLawLine.kp T.bLawLine .nil jaq (jaa (jba (jaa (pv 3) jad)) (jaa (pv 1) jad)))))))))
   (jaf (jat (pv 2)))),?_⟩
  refine ⟨_,rfl,l,rfl,⟨_,SqL.of hl⟩,jcJ (xs:=us) (fun i σ H'=>Same H H'/\∃ o,σ=[some (.ref l),some (.ref d),some (.str (cat ((ps.take i).map (jjj F)))),o]) ⟨Same.refl _,none,rfl⟩ (fun i σ H' hi e=>SqL.of (e.1 _ _ hl)) (fun i x σ H' hx e=>?_) (fun σ H' e=>?_)⟩
  ·obtain ⟨s1,o,rfl⟩:=e
   obtain ⟨p,ep,pat⟩:=Paired.two hp hx
   have mp:=List.mem_of_getElem? ep
   have okp:=ok.all p mp
   have fp:=hfit p mp
   have hz:=jeV okp fp
   have hi:i < us.length:=(List.getElem?_eq_some_iff.mp hx).1
   have hc:(cat ((ps.take i).map (jjj F))).length<=750:=by
    refine Nat.le_trans (jeU (n:=150) fun t ht=>?_) ?_
    ·obtain ⟨p',hp',rfl⟩:=List.mem_map.mp ht
     exact jeV (ok.all p' (List.mem_of_mem_take hp')) (hfit p' (List.mem_of_mem_take hp'))
    ·rw [List.length_map,List.length_take]; omega
   have et:cat ((ps.take (i+1)).map (jjj F))=cat ((ps.take i).map (jjj F))++jjj F p:=by rw [jau ep,List.map_append]; exact jfc _ _
   rw [et]
   have hd1:Rd H' d (.dK kvs):=Rd.mono s1 hd
   have pat1:=pat.mono s1
   have one:∀ (q:Pc),p=.one q->x=x->FitPc (jbB kvs) q/\wPc (jbB kvs) q=jjj F p:=by
    rintro q rfl _
    cases q with
    | say z=>exact ⟨trivial,rfl⟩
    | ask n sg lo hi' =>
     obtain ⟨t,e1,e2⟩:=fp
     obtain ⟨u,e3,e4⟩:=hv n _ e1
     cases (show u=.str t from e4)
     have e5:=jlC e3
     exact ⟨⟨t,e5,e2⟩,by rw [jjR e5,jhq e1]⟩
   have mono1:∀ (q:Pc),q.ok->FitPc (jbB kvs) q->∀ y∈[q],y.ok/\FitPc (jbB kvs) y:=fun q h1 h2 y hy=>by
    have:y=q:=by simpa using hy
    subst this; exact ⟨h1,h2⟩
   cases p with
   | one p =>
    obtain ⟨b,rfl,hb⟩:=pat1
    cases p with
    | say z =>
     refine ⟨_,rfl,b,_,_,_,rfl,rfl,SqT.of hb,rfl,rfl,_,rfl,jaJ ne_sr ?_⟩
     refine ⟨_,rfl,_,rfl,(by show 1<=sizeLine; decide),fun r hr'=>⟨_,rfl,?_⟩⟩
     obtain ⟨f1,f2⟩:=one _ rfl rfl
     have s2:=jah hr' (.lst [.ref b])
     rw [<- f2] at hz ⊢
     exact ⟨r,[.ref b],[Pc.say z],jbB kvs,.ref d,rfl,jab,.cons ⟨b,rfl,s2 _ _ hb⟩ .nil,⟨d,kvs,rfl,Rd.mono s2 hd1,fun _ _ e=>jdk e⟩,(by show 1<=3; decide),mono1 _ okp f1,_,_,rfl,rfl,jce (Nat.le_trans (Nat.add_le_add hc hz) (by decide)),s1.trans s2,_,rfl⟩
    | ask n sg lo hi' =>
     refine ⟨_,rfl,b,_,_,_,rfl,rfl,SqT.of hb,rfl,rfl,_,rfl,jaJ ne_ra.symm ?_⟩
     refine ⟨_,rfl,_,rfl,(by show 1<=sizeLine; decide),fun r hr'=>⟨_,rfl,?_⟩⟩
     obtain ⟨f1,f2⟩:=one _ rfl rfl
     have s2:=jah hr' (.lst [.ref b])
     rw [<- f2] at hz ⊢
     exact ⟨r,[.ref b],[Pc.ask n sg lo hi'],jbB kvs,.ref d,rfl,jab,.cons ⟨b,rfl,s2 _ _ hb⟩ .nil,⟨d,kvs,rfl,Rd.mono s2 hd1,fun _ _ e=>jdk e⟩,(by show 1<=3; decide),mono1 _ okp f1,_,_,rfl,rfl,jce (Nat.le_trans (Nat.add_le_add hc hz) (by decide)),s1.trans s2,_,rfl⟩
   | rows n inner gap lo hi' =>
    obtain ⟨b,r2,ws,rfl,hb,hr2',hin⟩:=pat1
    obtain ⟨rs,e1,f1,f2,f3⟩:=fp
    obtain ⟨u,e3,lv,vs,rfl,hlv,hrs⟩:=hv n _ e1
    obtain ⟨hn,hpo,hg,b0,b1,b2⟩:=okp
    rw [jfN e1] at hz ⊢
    have hvs:vs.length=rs.length:=hrs.length.symm
    have hlv1:=s1 _ _ hlv
    refine ⟨_,rfl,b,_,_,_,rfl,rfl,SqT.of hb,rfl,rfl,_,rfl,jbJ rfl ?_⟩
    refine ⟨_,rfl,_,rfl,b,_,_,_,rfl,rfl,SqT.of hb,rfl,rfl,_,rfl,_,rfl,b,_,_,_,rfl,rfl,SqT.of hb,rfl,d,_,rfl,.inl ⟨kvs,Sum.inr n,hd1,rfl,e3.symm⟩,lv,rfl,⟨_,SqL.of hlv1⟩,?_⟩
    refine jcd (xs:=vs) (fun j ys H5=>H5=H'/\ys=(rs.take j).map fun f=>V.str (jkD inner f)) ⟨rfl,rfl⟩ (fun j ys H5 hj e=>⟨by rw [e.1]; exact SqL.of hlv1,?_⟩) (jce (by omega)) (fun j x ys H5 hx e=>?_) (fun ys H5 e r hr'=>?_)
    ·rw [e.2,List.length_map,List.length_take]; omega
    ·obtain ⟨rfl,rfl⟩:=e
     obtain ⟨f,ef,pf⟩:=Paired.two hrs hx
     have mf:=List.mem_of_getElem? ef
     refine ⟨_,rfl,b,_,_,_,rfl,rfl,SqT.of hb,rfl,_,rfl,r2,ws,inner,f,x,rfl,hr2',hin,pf.mono s1,hpo.hi,fun y hy=>⟨hpo.all y hy,f3 f mf y hy⟩,rfl,?_⟩
     rw [jau ef,List.map_append]
     rfl
    ·obtain ⟨rfl,rfl⟩:=e
     rw [hvs,List.take_length]
     have s2:=jah hr' (.lst (rs.map fun f=>V.str (jkD inner f)))
     refine ⟨gap,r,rs.map (jkD inner),rfl,rfl,SqL.of (by rw [jab,List.map_map]; rfl),?_,_,_,rfl,rfl,jce (by omega),s1.trans s2,_,rfl⟩
     refine jiT (n:=500) (fun t ht=>?_) (by rw [List.length_map]; exact Nat.le_trans (Nat.mul_le_mul_right 500 (show rs.length<=100 by omega)) (by decide))
     obtain ⟨f,hf',rfl⟩:=List.mem_map.mp ht
     have z1:=jhp hpo (f3 f hf')
     have z2:=hg.hi
     omega
  ·obtain ⟨s1,o,rfl⟩:=e
   rw [hus,List.take_length]
   exact ⟨_,rfl,q H' s1⟩
end
end Lf
namespace L2
open PySem PySem.Spec PyProof.Rows
theorem jhA:∀ {kvs:List (Key×V)} {k:Key} {v:V},(kvs.map (·.1)).Nodup->(k,v)∈kvs->jaW kvs k=some v
 | p::r,k,v,nd,h=>by
  rcases List.mem_cons.mp h with z | z
  ·rw [<- z]; exact jaU rfl
  ·have nd':=List.nodup_cons.mp nd
   rw [jaQ (fun e=>nd'.1 (by show p.1∈_; rw [e]; exact List.mem_map.mpr ⟨(k,v),z,rfl⟩))]
   exact jhA nd'.2 z
end L2
namespace Lf
open PySem L2
def joi (H:Hp):V->Row
 | .ref a=>match H a with | some (.dK rk)=>jbB rk | _=>fun _=>none
 | _=>fun _=>none
def jpF (H:Hp):V->Option Val
 | .str t=>some (.text t)
 | .ref l=>match H l with | some (.lst us)=>some (.rows (us.map (joi H))) | _=>none
 | _=>none
def FOf (H:Hp) (kvs:List (Key×V)):Vs:=fun n=>(jaW kvs (Sum.inr n)).bind (jpF H)
theorem jkt {H:Hp} {a:Addr} {rk:List (Key×V)} (h:H a=some (.dK rk)):joi H (.ref a)=jbB rk:=by
 show (match H a with | some (.dK rk)=>jbB rk | _=>fun _=>none)=_
 rw [h]
theorem jku {H:Hp} {l:Addr} {us:List V} (h:H l=some (.lst us)):jpF H (.ref l)=some (.rows (us.map (joi H))):=by
 show (match H l with | some (.lst us)=>some (Val.rows (us.map (joi H))) | _=>none)=_
 rw [h]
theorem jkv {H:Hp} {kvs:List (Key×V)} {n:Str} {u:V} (h:jaW kvs (Sum.inr n)=some u):FOf H kvs n=jpF H u:=by
 show (jaW kvs (Sum.inr n)).bind (jpF H)=_
 rw [h]; rfl
theorem jfd {kvs:List (Key×V)} {k:Key} {v:V} (h:jaW kvs k=some v):(k,v)∈kvs:=by
 unfold jaW at h
 obtain ⟨p,hp,e⟩:=Option.map_eq_some_iff.mp h
 have h1:=List.mem_of_find?_eq_some hp
 have h2:p.1=k:=by simpa using List.find?_some hp
 have:p=(k,v):=Prod.ext h2 e
 rw [<- this]; exact h1
theorem jef {H:Hp} {d:Addr} {inner:List Pc}:∀ {us:List V},RowsG H d inner us->Paired (RowAt H) (us.map (joi H)) us
 | [],_=>.nil
 | u::r,h=>by
  obtain ⟨a,rk,e,_,ha,_⟩:=h u List.mem_cons_self
  refine .cons ?_ (jef fun x hx=>h x (List.mem_cons_of_mem _ hx))
  subst e
  rw [jkt ha]
  exact RowAt.of ha
theorem jpG {H:Hp} {d:Addr} {kvs:List (Key×V)} (h:DatOk H d kvs):∀ n x,FOf H kvs n=some x->∃ u,jaW kvs (Sum.inr n)=some u/\joX H x u:=fun n x e=>by
 cases z:jaW kvs (Sum.inr n:Key) with
 | none =>
  have:FOf H kvs n=none:=by show (jaW kvs (Sum.inr n)).bind (jpF H)=_; rw [z]; rfl
  rw [this] at e; cases e
 | some u =>
  rw [jkv z] at e
  refine ⟨u,rfl,?_⟩
  rcases (h.all _ (jfd z)).2 with ⟨t,y⟩ | ⟨l,us,inner,y,h2,_,h4⟩
  ·subst y
   cases e
   exact rfl
  ·have y:u=.ref l:=y
   subst y
   rw [jku h2] at e
   cases e
   exact ⟨l,us,rfl,h2,jef h4⟩
theorem jnV {H:Hp} {d:Addr} {kvs:List (Key×V)}:∀ {p:Pie},ValF H d kvs p->jfH (FOf H kvs) p
 | .one (.say _),_=>trivial
 | .one (.ask ..),⟨t,h1,h2⟩=>⟨t,jkv h1,h2⟩
 | .rows ..,⟨l,us,h1,h2,h3,h4,h5⟩=>⟨us.map (joi H),(jkv h1).trans (jku h2),by rw [List.length_map]; exact h3,by rw [List.length_map]; exact h4,fun f hf=>by
  obtain ⟨u,hu,e⟩:=List.mem_map.mp hf
  obtain ⟨a,rk,z1,_,z3,z4⟩:=h5 u hu
  subst z1
  rw [jkt z3] at e
  subst e
  exact z4.fit⟩
theorem EqT.str {K:PySem.W.Frag} {H:Hp} {t:Str}:∀ n,EqT K H n (.str t) (.str t)
 | 0=>⟨rfl,trivial⟩
 | n+1=>.inl (EqT.str n)
theorem EqD.str {K:PySem.W.Frag} {H:Hp} {t:Str}:∀ n,EqD K H n (.str t) (.str t)
 | 0=>EqT.str 0
 | n+1=>.inl (EqT.str (n+1))
open Mth (R1 RQ rds rds_iff wF wQ)
theorem jlD {es:List (Str×List Nat)} {k:Key} {v:V} (h:(k,v)∈jcW es):∃ t,v=.str t:=by
 obtain ⟨e,_,he⟩:=List.mem_map.mp h
 cases he
 exact ⟨_,rfl⟩
theorem EqD.rowD {K:PySem.W.Frag} {H0 H1 H:Hp} {inner:List Pc} {r:List R1} {v v':V} (nd:((jcW (jbN inner r)).map (·.1)).Nodup) (h:RowD H0 H inner r v) (h':RowD H1 H inner r v'):EqD K H 1 v v':=by
 obtain ⟨a,rfl,ha,_⟩:=h
 obtain ⟨b,rfl,hb,_⟩:=h'
 refine .inr (.inr ⟨a,b,_,_,rfl,rfl,.inl ha,.inl hb,rfl,fun k v hk=>?_⟩)
 obtain ⟨t,rfl⟩:=jlD hk
 exact ⟨_,jhA nd hk,EqD.str 0⟩
theorem jcv:∀ (inner:List Pc) (r:List R1),((jbN inner r).map (·.1)).Sublist (inner.flatMap Pc.nm)
 | [],_=>List.nil_sublist _
 | _::_,[]=>by rename_i p ps; cases p <;> exact List.nil_sublist _
 | .say t::ps,v::rs=>jcv ps rs
 | .ask n sg lo hi::ps,.no::rs=>(jcv ps rs).trans (List.sublist_cons_self _ _)
 | .ask n sg lo hi::ps,.tx w::rs=>(jcv ps rs).cons_cons n
theorem jnW {inner:List Pc} (nd:(inner.flatMap Pc.nm).Nodup) (r:List R1):((jcW (jbN inner r)).map (·.1)).Nodup:=by
 have e:(jcW (jbN inner r)).map (·.1)=((jbN inner r).map (·.1)).map (fun n=>(Sum.inr n:Key)):=by
  unfold jcW; rw [List.map_map,List.map_map]; rfl
 rw [e]
 exact Mth.nd_map_on (fun x _ y _ h=>Sum.inr.inj h) (nd.sublist (jcv inner r))
def RvN:RV->Prop
 | .tx _=>True
 | .rows inner _=>(inner.flatMap Pc.nm).Nodup
theorem EqD.rv {K:PySem.W.Frag} {H0 H1 H:Hp}:∀ {rv:RV} {v v':V},RvN rv->RvAt H0 H rv v->RvAt H1 H rv v'->EqD K H 2 v v'
 | .tx _,v,v',_,h,h'=>by rw [show v=_ from h,show v'=_ from h']; exact EqD.str 2
 | .rows inner rr,_,_,nd,⟨l,us,rfl,hl,_,hp⟩,⟨l',us',rfl,hl',_,hp'⟩=>by
  refine .inr (.inl ⟨l,l',us,us',rfl,rfl,SqL.of hl,SqL.of hl',?_⟩)
  have go:∀ {rr:List (List R1)} {us us':List V},Paired (RowD H0 H inner) rr us->Paired (RowD H1 H inner) rr us'->Paired (EqD K H 1) us us':=by
   intro rr us us' h h'
   induction h generalizing us' with
   | nil=>cases h'; exact .nil
   | cons a t ih=>cases h' with | cons a' t'=>exact .cons (EqD.rowD (jnW nd _) a a') (ih t')
  exact go hp hp'
theorem jkw:∀ {ps:List Pie} {rs:List RQ},(∀ p∈ps,p.ok)->∀ e∈entF ps rs,RvN e.2
 | [],_,_,e,he=>by cases he
 | _::_,[],_,e,he=>by cases he
 | p::ps,r::rs,h,e,he=>by
  rcases List.mem_append.mp (show e∈ent p r++entF ps rs from he) with z | z
  ·have hp:=h p List.mem_cons_self
   unfold ent at z
   split at z
   ·obtain rfl:e=_:=by simpa using z
    trivial
   ·obtain rfl:e=_:=by simpa using z
    exact hp.2.1.nd
   ·cases z
  ·exact jkw (fun q hq=>h q (List.mem_cons_of_mem _ hq)) e z
theorem jfe {K:PySem.W.Frag} {H0 H1 H:Hp} {ps:List Pie} {rs:List RQ} {v v':V} (ok:FormOk ps) (hf:Mth.FitF (ps.map mPie) rs) (h:FrmD H0 H ps rs v) (h':FrmD H1 H ps rs v'):∃ a b ka kb,v=.ref a/\v'=.ref b/\Rd H a (.dK ka)/\Rd H b (.dK kb)/\ka.length=kb.length/\∀ k v,(k,v)∈ka->∃ v',jaW kb k=some v'/\EqD K H 2 v v':=by
 obtain ⟨a,ka,rfl,ha,_,hp⟩:=h
 obtain ⟨b,kb,rfl,hb,_,hp'⟩:=h'
 have hn:((entF ps rs).map (·.1)).Nodup:=by rw [jcl hf]; exact ok.nd
 have hv:=jkw (rs:=rs) ok.all
 refine ⟨a,b,ka,kb,rfl,rfl,.inl ha,.inl hb,hp.length.symm.trans hp'.length,?_⟩
 generalize entF ps rs=es at hp hp' hn hv
 clear ha hb
 induction hp generalizing kb with
 | nil=>intro k v hk; cases hk
 | cons e t ih =>
  rename_i en kv es' kvs'
  cases hp' with
  | cons e' t' =>
   rename_i kv' kvb
   rw [List.map_cons] at hn
   obtain ⟨n1,n2⟩:=List.nodup_cons.mp hn
   intro k v hk
   rcases List.mem_cons.mp hk with z | z
   ·have hk1:kv'.1=k:=by rw [e'.1,<- e.1,<- z]
    have hv1:v=kv.2:=by rw [<- z]
    refine ⟨kv'.2,jaU hk1,?_⟩
    rw [hv1]
    exact EqD.rv (hv _ List.mem_cons_self) e.2 e'.2
   ·obtain ⟨v',h1,h2⟩:=ih kvb t' n2 (fun x hx=>hv x (List.mem_cons_of_mem _ hx)) k v z
    refine ⟨v',?_,h2⟩
    have hne:¬ kv'.1=k:=by
     intro hk1
     have:∀ {es:List (Str×RV)} {kvs:List (Key×V)},Paired (EntAt H0 H) es kvs->(k,v)∈kvs->∃ en∈es,k=Sum.inr en.1:=by
      intro es kvs h
      induction h with
      | nil=>intro z; cases z
      | cons r _ ih2 =>
       intro z
       rcases List.mem_cons.mp z with z | z
       ·exact ⟨_,List.mem_cons_self,by rw [<- r.1,<- z]⟩
       ·obtain ⟨en,h1,h2⟩:=ih2 z
        exact ⟨en,List.mem_cons_of_mem _ h1,h2⟩
     obtain ⟨en2,m2,e2⟩:=this t z
     rw [e'.1,e2] at hk1
     exact n1 (by rw [Sum.inr.inj hk1]; exact List.mem_map_of_mem m2)
    rw [jaQ hne]; exact h1
theorem jkx {ps:List Pie} {F:Vs} (ok:FormOk ps) (hf:∀ p∈ps,jfH F p):(jlj ps F).length<=900:=by
 have:=jeU (n:=150) (ts:=ps.map (jjj F)) fun t ht=>by
  obtain ⟨p,hp,rfl⟩:=List.mem_map.mp ht
  exact jeV (ok.all p hp) (hf p hp)
 rw [List.length_map] at this
 have:=ok.hi
 unfold jlj
 omega
structure FewOk (ps:List Pie):Prop where
 ok:FormOk ps
 few:∀ p∈ps,(mPie p).few
 len:ps.length<=4
 rw:Mth.rwF (ps.map mPie)<=1
 nn:∀ p∈ps,p.nn
 nl:∀ n∈ps.flatMap Pie.nm,n∈names6
theorem jhB (ps:List Pie) (p:Pie):Mth.rwF ((ps++[p]).map mPie)=Mth.rwF (ps.map mPie)+(mPie p).rw:=by
 unfold Mth.rwF
 simp
theorem jmN {p:Pc} (ok:p.ok) (l:p.lim 2):(mPc p).few:=by
 cases p with
 | say t=>exact trivial
 | ask n sg lo hi =>
  obtain ⟨_,_,_,b1,b2,b3⟩:=ok
  have l':hi<=2:=l
  exact ⟨by omega,by omega⟩
theorem jik {inner:List Pc} (h:PartsOk inner):PartsOk (inner.take 2):=by
 refine ⟨?_,?_,fun p hp=>h.all p (List.mem_of_mem_take hp),?_⟩
 ·rw [List.length_take]; have:=h.lo; omega
 ·rw [List.length_take]; have:=h.hi; omega
 ·refine h.nd.sublist ?_
  have e:inner.flatMap Pc.nm=(inner.take 2).flatMap Pc.nm++(inner.drop 2).flatMap Pc.nm:=by rw [<- List.flatMap_append,List.take_append_drop]
  rw [e]
  exact List.sublist_append_left _ _
theorem jfX {α β:Type} {R:α->β->Prop}:∀ {xs:List α} {ys:List β} (n:Nat),Paired R xs ys->Paired R (xs.take n) (ys.take n)
 | _,_,0,_=>by simp only [List.take_zero]; exact .nil
 | _,_,n+1,.nil=>by simp only [List.take_nil]; exact .nil
 | _,_,n+1,.cons h t=>by simp only [List.take_succ_cons]; exact .cons h (jfX n t)
theorem sg_ab:(Pc.ask "n" "ab" 0 2).ok:=by
 refine ⟨by decide +kernel,⟨by decide +kernel,by decide +kernel,by decide +kernel⟩,by decide +kernel,by decide,by decide,by decide⟩
section
variable {P:Program} {w:World} {K:PySem.W.Frag} {mg:Str->Option Value} {base:Heap} {D:Adr}
theorem scFew:FnScope ["script","pieces","rows","piece"] ["script"] (jag jgy):=⟨rfl,rfl,rfl,by decide +kernel,rfl,by decide +kernel,by decide +kernel⟩
def jpH (K:PySem.W.Frag):Sp:=fun vs H Q _=>∃ (a:Addr) (ns:List Int),vs=[.ref a]/\Scr K H a ns /\
 ∀ (r:Addr) (us:List V) (ps:List Pie) (H':Hp),Same H H'->H r=none->H' r=some (.lst us)->Paired (Pie.At H') ps us->FewOk ps->Q (.ref r) H'
theorem jpI (T:Txt w K mg D):FnOk P w K mg base CX0 7 D.aLawFew D.dLawFew ["script"] (jpH K):=by
 have G:FnOk P w K mg base CX0 6 D.aLawPieces D.dLawPieces ["script","many","most"] (jhy K):=jkn T
 refine T.fLawFew.ok scFew (fun vs H Q E h=>?_) (fun cdv A outer s H vs Q E hr h=>?_)
 ·obtain ⟨a,ns,rfl,_⟩:=h; rfl
 ·obtain ⟨a,ns,rfl,hS,q⟩:=h
  refine ⟨_,jac (jak (i:=1) scFew.nd rfl (Or.inl rfl) (jba jad))
   (jac (jak (i:=2) scFew.nd rfl (Or.inl rfl) jae)
   (jac (jaN PassesOwn.never rfl (jaL (jai G hr rfl T.mLawPieces T.fLawPieces.kp T.bLawPieces .nil jaq (jaa (pv 0) (jaa jae (jaa jae jad))))) (jaB (i:=3) scFew.nd rfl (Or.inl rfl))
    (jac (jaF (jao jaZ (jam jaj (pv 3) jae (fun _ _=>rfl)) jax (jas _))
     (jac (jak (i:=2) scFew.nd rfl (Or.inl rfl) (jan jaz (pv 2) jae))
     (jaf (jak (i:=3) scFew.nd rfl (Or.inl rfl) (jbe (jaa (jam jaj (pv 3) jae (fun _ _=>rfl)) (jaa (jam jaj (pv 3) jae (fun _ _=>rfl)) (jaa (jaX jiF (jam jaj (pv 3) jae (fun _ _=>rfl)) jbZ (jaS jae)) (jaa (jam jaj (pv 3) jae (fun _ _=>rfl))
      (jaa (jal (jfm rfl) rfl T.zMin PyProof.Rows.boot_min (jaa (jam jaj (pv 3) jae (fun _ _=>rfl)) (jaa jae jad)))
      (jaa (jal (jfm rfl) rfl T.zMin PyProof.Rows.boot_min (jaa (jam jaj (pv 3) jae (fun _ _=>rfl)) (jaa jae jad))) jad)))))))))) jav)
    (jac (jaF (PW.pt (jcH (jao jaZ (jam jaj (pv 3) jae (fun _ _=>rfl)) jax (jas _)) (jbX (jao jfl (pv 2) jae (jas _)))))
     (jaf (jak (i:=3) scFew.nd rfl (Or.inl rfl) (jbe (jaa jax (jaa (jam jaj (pv 3) jae (fun _ _=>rfl)) (jaa jax (jaa jae (jaa jae jad)))))))) jav)
    (jaf (jap (jbv PySem.F.plainAttrs_list PySem.F.slot_list_append PySem.F.type_list_append jay (pv 1) (jaa (pv 3) jad)))))))
   (jaf (jat (pv 1))))),?_⟩
  dsimp only [cxK]
  refine ⟨Nat.zero_le _,fun r nr=>?_⟩
  have g0:=jah nr (.lst [])
  have hr0:(L2.upd H r (.lst [])) r=some (.lst []):=jab
  generalize L2.upd H r (.lst [])=Hr at *
  refine ⟨_,rfl,a,ns,4,2,rfl,hS.mono g0,by decide,by decide,by decide,by decide,fun r0 us0 ps0 H1 s1 nr0 hr01 hp0 ok0 nn0 nN0 l0=>?_⟩
  have s01:=g0.trans s1
  have hl0:us0.length=ps0.length:=hp0.length.symm
  refine ⟨r0,rfl,⟨_,SqL.of hr01⟩,jcJ (xs:=us0) (fun i σ H'=>∃ (us:List V) (ps:List Pie) (c:Int) (o:Option V),σ=[some (.ref a),some (.ref r),some (.int c),o]/\Same Hr H1/\(∀ b o,H1 b=some o->b≠r->H' b=some o)/\H' r=some (.lst us)/\Paired (Pie.AtN r H') ps us/\ps.length=i/\(∀ p∈ps,p.ok/\(mPie p).few/\p.nn)/\ps.flatMap Pie.nm=(ps0.take i).flatMap Pie.nm/\0<=c/\Mth.rwF (ps.map mPie)<=1/\(c=0->Mth.rwF (ps.map mPie)=0))
   ⟨[],[],0,none,rfl,s1,(fun b o h _=>h),s1 _ _ hr0,.nil,rfl,(fun _ z=>nomatch z),rfl,by decide,by decide,fun _=>rfl⟩ (fun i σ H' hi e=>?_) (fun i x σ H' hx e=>?_) (fun σ H' e=>?_)⟩
  ·obtain ⟨us,ps,c,o,rfl,_,e1,_⟩:=e
   exact SqL.of (e1 _ _ hr01 (fun z=>by rw [z,hr0] at nr0; cases nr0))
  ·obtain ⟨us,ps,c,o,rfl,_,e1,er,ep,el,eo,en,c0,rw1,rw0⟩:=e
   obtain ⟨p,epi,pat⟩:=Paired.two hp0 hx
   have hi:i < us0.length:=(List.getElem?_eq_some_iff.mp hx).1
   have mp:=List.mem_of_getElem? epi
   have okp:=ok0.all p mp
   have lim:=(nn0 p mp).2
   have hul:us.length=i:=by rw [<- el]; exact ep.length.symm
   have h4:i<=4:=by omega
   have et:(ps0.take (i+1)).flatMap Pie.nm=(ps0.take i).flatMap Pie.nm++p.nm:=by rw [jau epi]; simp
   have fin:∀ (Dd:Ends) (p':Pie) (u:V) (c':Int) (H2:Hp),(∀ σ' H'',(∃ (us:List V) (ps:List Pie) (c:Int) (o:Option V),σ'=[some (.ref a),some (.ref r),some (.int c),o]/\Same Hr H1/\(∀ b o,H1 b=some o->b≠r->H'' b=some o)/\H'' r=some (.lst us)/\Paired (Pie.AtN r H'') ps us/\ps.length=i+1/\(∀ p∈ps,p.ok/\(mPie p).few/\p.nn)/\ps.flatMap Pie.nm=(ps0.take (i+1)).flatMap Pie.nm/\0<=c/\Mth.rwF (ps.map mPie)<=1/\(c=0->Mth.rwF (ps.map mPie)=0))->Dd.nx σ' H'')->Same H' H2->p'.AtN r H2 u->p'.ok->(mPie p').few/\p'.nn->p'.nm=p.nm->0<=c'->Mth.rwF (ps.map mPie)+(mPie p').rw<=1->(c'=0->Mth.rwF (ps.map mPie)+(mPie p').rw=0) ->
     jgf (tBM K "list" jcA (jbh 1) (jaR (jbh 3) jdv)) Dd [some (.ref a),some (.ref r),some (.int c'),some u] H2:=by
    intro Dd p' u c' H2 hD s2 at2 ok2 few2 nm2 c2 r2 r3
    have er2:=s2 _ _ er
    refine ⟨_,rfl,.inl ⟨rfl,_,SqL.of er2⟩,_,rfl,r,us,u,rfl,rfl,er2,jbf (by omega),?_⟩
    refine hD _ _ ⟨us++[u],ps++[p'],c',_,rfl,s1,fun b o hb hbr=>?_,jab,?_,by rw [List.length_append,el]; rfl,?_,?_,c2,by rw [jhB]; exact r2,by rw [jhB]; exact r3⟩
    ·rw [upd_ne hbr]; exact s2 _ _ (e1 b o hb hbr)
    ·exact (Paired.mapP ep fun _ _ z=>(Pie.AtN.mono s2 z).updL er2 _).snoc (at2.updL er2 _)
    ·intro y hy
     rcases List.mem_append.mp hy with z | z
     ·exact eo y z
     ·have:y=p':=by simpa using z
      subst this; exact ⟨ok2,few2⟩
    ·rw [et,List.flatMap_append,en,<- nm2]; simp
   have hr1:H1 r=some (.lst []):=s1 _ _ hr0
   cases p with
   | one pc =>
    obtain ⟨b,rfl,hb⟩:=pat
    have hb':=e1 _ _ hb (jbj hb hr1 (by intro z; cases z))
    have fw:(mPie (.one pc)).few:=jmN okp lim
    have rz:(mPie (.one pc)).rw=0:=rfl
    cases pc with
    | say z =>
     refine ⟨_,rfl,b,_,_,_,rfl,rfl,SqT.of hb',rfl,rfl,_,rfl,jaJ ne_sr ?_⟩
     refine ⟨_,rfl,b,_,_,_,rfl,rfl,SqT.of hb',rfl,rfl,_,rfl,jaJ ne_sr (jbA ?_)⟩
     exact fin _ (.one (.say z)) (.ref b) c H' (fun _ _ h=>h) (Same.refl _) ⟨b,rfl,hb'⟩ okp ⟨fw,trivial⟩ rfl c0 (by omega) (fun h=>by have:=rw0 h; omega)
    | ask n sg lo hi' =>
     refine ⟨_,rfl,b,_,_,_,rfl,rfl,SqT.of hb',rfl,rfl,_,rfl,jaJ ne_ra.symm ?_⟩
     refine ⟨_,rfl,b,_,_,_,rfl,rfl,SqT.of hb',rfl,rfl,_,rfl,jaJ ne_ra.symm (jbA ?_)⟩
     exact fin _ (.one (.ask n sg lo hi')) (.ref b) c H' (fun _ _ h=>h) (Same.refl _) ⟨b,rfl,hb'⟩ okp ⟨fw,trivial⟩ rfl c0 (by omega) (fun h=>by have:=rw0 h; omega)
   | rows n inner gap lo hi' =>
    obtain ⟨b,l,vs,rfl,hb,hl,_,hin⟩:=pat
    obtain ⟨hn,hpo,hg,b0,b1,b2⟩:=okp
    have hb':=e1 _ _ hb (jbj hb hr1 (by intro z; cases z))
    have hlr:l≠r:=fun z=>by
     rw [z,hr1] at hl
     cases hl
     cases hin
     exact absurd hpo.lo (by decide)
    have hl':=e1 _ _ hl hlr
    have hin':Paired (Pc.At H') inner vs:=Paired.mapP hin fun _ _ ⟨b,h1,h2⟩=>⟨b,h1,e1 _ _ h2 (jbj h2 hr1 (by intro z; cases z))⟩
    refine ⟨_,rfl,b,_,_,_,rfl,rfl,SqT.of hb',rfl,rfl,_,rfl,jbJ rfl ?_⟩
    refine ⟨_,rfl,_,_,rfl,rfl,?_⟩
    refine ⟨_,rfl,b,_,_,_,rfl,rfl,SqT.of hb',rfl,_,rfl,b,_,_,_,rfl,rfl,SqT.of hb',rfl,_,rfl,b,_,_,_,rfl,rfl,SqT.of hb',rfl,2,rfl,l,_,rfl,SqL.of hl',fun l2 nl2=>?_⟩
    have ec:jga vs none (some 2)=vs.take 2:=cutTo (k:=2)
    rw [ec]
    have g2:=jah nl2 (.lst (vs.take 2))
    have hl2:(L2.upd H' l2 (.lst (vs.take 2))) l2=some (.lst (vs.take 2)):=jab
    have l2r:l2≠r:=fun z=>by rw [z,er] at nl2; cases nl2
    generalize L2.upd H' l2 (.lst (vs.take 2))=H2 at *
    have hb2:=g2 _ _ hb'
    refine ⟨_,rfl,b,_,_,_,rfl,rfl,SqT.of hb2,rfl,_,rfl,b,_,_,_,rfl,rfl,SqT.of hb2,rfl,_,_,rfl,_,rfl,b,_,_,_,rfl,rfl,SqT.of hb2,rfl,_,_,rfl,(by show 6<=sizeLine; decide),fun p2 np2=>?_⟩
    have g3:=jah np2 (.tup [.str "rows",.str n,.ref l2,.str gap,.int (if 2 < lo then 2 else lo),.int (if 2 < hi' then 2 else hi')])
    have hp2:(L2.upd H2 p2 (.tup [.str "rows",.str n,.ref l2,.str gap,.int (if 2 < lo then 2 else lo),.int (if 2 < hi' then 2 else hi')])) p2=some (.tup [.str "rows",.str n,.ref l2,.str gap,.int (if 2 < lo then 2 else lo),.int (if 2 < hi' then 2 else hi')]):=jab
    generalize L2.upd H2 p2 (.tup [.str "rows",.str n,.ref l2,.str gap,.int (if 2 < lo then 2 else lo),.int (if 2 < hi' then 2 else hi')])=H3 at *
    have s23:=g2.trans g3
    have m1:0<=(if 2 < lo then 2 else lo)/\(if 2 < lo then 2 else lo)<=(if 2 < hi' then 2 else hi')/\(if 2 < hi' then 2 else hi')<=2:=by
     split <;> split <;> omega
    refine ⟨_,rfl,p2,_,_,_,rfl,rfl,SqT.of hp2,rfl,rfl,_,rfl,jbJ rfl ?_⟩
    refine ⟨_,rfl,_,_,rfl,rfl,_,rfl,jiI (fun h=>?_) (fun h=>?_)⟩
    ·have h':1 < c+1:=of_decide_eq_true h
     refine ⟨_,rfl,p2,_,_,_,rfl,rfl,SqT.of hp2,rfl,(by show 5<=sizeLine; decide),fun p3 np3=>?_⟩
     have g4:=jah np3 (.tup [.str "ask",.str n,.str "ab",.int 0,.int 2])
     refine fin _ (.one (.ask n "ab" 0 2)) (.ref p3) (c+1) _ (fun _ _ h=>h) (s23.trans g4) ⟨p3,rfl,jab⟩ ⟨hn,sg_ab.2⟩ ⟨⟨by decide,by decide⟩,trivial⟩ rfl (by omega) ?_ (fun h=>by omega)
     have:(mPie (.one (.ask n "ab" 0 2))).rw=0:=rfl
     omega
    ·have h':¬ 1 < c+1:=fun z=>h (decide_eq_true z)
     have c00:c=0:=by omega
     have r0':=rw0 c00
     refine fin _ (.rows n (inner.take 2) gap (if 2 < lo then 2 else lo) (if 2 < hi' then 2 else hi')) (.ref p2) (c+1) _ (fun _ _ h=>h) s23 ⟨p2,l2,_,rfl,hp2,g3 _ _ hl2,l2r,jfX 2 (Paired.mapP hin' fun _ _ z=>z.mono s23)⟩ ⟨hn,jik hpo,hg,m1.1,m1.2.1,by omega⟩ ?_ rfl (by omega) ?_ (fun h=>by omega)
     ·refine ⟨⟨by have:=m1.2.1; omega,by have:=m1.2.2; omega,by rw [List.length_map,List.length_take]; omega,fun q hq=>?_⟩,fun n hn=>(nn0 _ mp).1 n ?_⟩
      ·obtain ⟨q',hq',rfl⟩:=List.mem_map.mp hq
       have hm:=List.mem_of_mem_take hq'
       exact jmN (hpo.all q' hm) (lim q' hm)
      ·have e:inner.flatMap Pc.nm=(inner.take 2).flatMap Pc.nm++(inner.drop 2).flatMap Pc.nm:=by rw [<- List.flatMap_append,List.take_append_drop]
       rw [e]
       exact List.mem_append_left _ hn
     ·have:(mPie (.rows n (inner.take 2) gap (if 2 < lo then 2 else lo) (if 2 < hi' then 2 else hi'))).rw=1:=rfl
      omega
  ·obtain ⟨us,ps,c,o,rfl,_,e1,er,ep,el,eo,en,c0,rw1,rw0⟩:=e
   have hS':Same H H':=fun b ob hb=>e1 b ob (s01 b ob hb) (ne_of_none hb nr)
   refine ⟨_,rfl,q r us ps H' hS' nr er (Paired.mapP ep fun _ _ z=>z.at') ⟨⟨by have:=ok0.lo; omega,by omega,fun p hp=>(eo p hp).1,?_⟩,fun p hp=>(eo p hp).2.1,by omega,rw1,fun p hp=>(eo p hp).2.2,?_⟩⟩
   ·rw [en,hl0,List.take_length]; exact ok0.nd
   ·rw [en,hl0,List.take_length]; exact nN0
end
open Mth (R1 RQ MP MQ noC askS)
theorem jhC:∀ bs:List Bool,inV (.bl false) (bs.map V.bl)=!(bs.all id)
 | []=>rfl
 | b::bs=>by
  have ih:=jhC bs
  unfold inV at ih ⊢
  rw [List.map_cons,List.any_cons,ih,List.all_cons]
  cases b <;> rfl
theorem jlE (bs:List Bool):(bs.map V.bl).all jeB=true:=by
 induction bs with
 | nil=>rfl
 | cons b bs ih=>rw [List.map_cons,List.all_cons,ih]; rfl
section
variable {P:Program} {w:World} {K:PySem.W.Frag} {mg:Str->Option Value} {base:Heap} {D:Adr}
theorem scAE:FnScope ["piece","text","at","ends","size","part","good"] ["piece","text","at"] (jag jbT):=⟨rfl,rfl,rfl,by decide +kernel,rfl,by decide +kernel,by decide +kernel⟩
def spAE:Sp:=fun vs H Q _=>∃ (v:V) (n sg:Str) (lo hi:Int) (z:Str) (at':Nat),vs=[v,.str z,.int at']/\(Pc.ask n sg lo hi).At H v/\(Pc.ask n sg lo hi).ok/\at'<=z.length/\z.length<=90000 /\
 ∀ r H',Same H H'->H r=none->H' r=some (.lst ((askS (tl sg) lo.toNat hi.toNat 0 ((tl z).drop at')).map fun s=>V.int ((at'+s:Nat):Int)))->Q (.ref r) H'
theorem ok_AE (T:Txt w K mg D):FnOk P w K mg base CX0 1 D.aLawAskEnds D.dLawAskEnds ["piece","text","at"] spAE:=by
 refine T.fLawAskEnds.ok scAE (fun vs H Q E h=>?_) (fun cdv A outer s H vs Q E hr h=>?_)
 ·obtain ⟨v,n,sg,lo,hi,z,at',rfl,_⟩:=h; rfl
 ·obtain ⟨v,n,sg,lo,hi,z,at',rfl,⟨b,rfl,hb⟩,okp,hat,hz,q⟩:=h
  obtain ⟨_,_,_,b0,b1,b2⟩:=okp
  refine ⟨_,jac (jak (i:=3) scAE.nd rfl (Or.inl rfl) (jba jad))
   (jac (jaN PassesOwn.never rfl (jbm rfl T.zRange (jaa (jan jaz (jam jaj (pv 0) jae (fun _ _=>rfl)) jae) jad)) (jaB (i:=4) scAE.nd rfl (Or.inl rfl))
    (jac (jak (i:=5) scAE.nd rfl (Or.inl rfl) (jaX jcg (pv 1) (jaS (pv 2)) (jaS (jan jaz (pv 2) (pv 4)))))
    (jac (jak (i:=6) scAE.nd rfl (Or.inl rfl) (jbb jft jdu (jcB (cp:=[(0,"piece")]) (te:=tOp (jiS false) (jbh 0) (tOp (jgm K) (jbh 1) (tC (.int 2)))) (CompScope.of (jag jbT) ["piece","text","at","ends","size","part","good"] rfl rfl (by decide +kernel)) rfl (jiQ (pv 5)) (fun _ _ _ _ _=>jcc)
     (fun _ _ _ _ _=>jbb jfy (pv 0) (jam jaj (pv 1) jae (fun _ _=>rfl)) rfl)) rfl))
    (jaf (jaF (PW.pt (jcH (jbu (pv 6)) (jcH (jao jaZ (jal jaA rfl T.zLen PySem.boot_len (jaa (pv 5) jad)) (pv 4) (jas _)) (jbX (jao jkL (pv 4) (jam jaj (pv 0) jae (fun _ _=>rfl)) (jas _))))))
     (jaf (jap (jbv PySem.F.plainAttrs_list PySem.F.slot_list_append PySem.F.type_list_append jay (pv 3) (jaa (jan jaz (pv 2) (pv 4)) jad)))) jav)))))
   (jaf (jat (pv 3)))),?_⟩
  dsimp only [cxK]
  refine ⟨Nat.zero_le _,fun r nr=>?_⟩
  have g0:=jah nr (.lst [])
  have hr0:(L2.upd H r (.lst [])) r=some (.lst []):=jab
  generalize L2.upd H r (.lst [])=Hr at *
  have hb0:=g0 _ _ hb
  refine ⟨_,rfl,b,_,_,_,rfl,rfl,SqT.of hb0,rfl,_,_,rfl,rfl,hi+1,rfl,by omega,by omega,?_⟩
  generalize hn:(hi+1).toNat=m
  have ht:(tl z).length=z.length:=Array.length_toList
  generalize hT:(tl z).drop at'=t at *
  have htl:t.length<=z.length:=by rw [<- hT,List.length_drop]; omega
  let pr:Nat->Bool:=fun s=>decide (s<=t.length)&&(decide (lo.toNat<=0+s)&&(t.take s).all fun c=>decide (c∈tl sg))
  refine jbI (lo:=0) (n:=m) (fun i σ H'=>∃ o1 o2 o3,σ=[some (.ref b),some (.str z),some (.int at'),some (.ref r),o1,o2,o3]/\Same H H'/\H' r=some (.lst (((List.range i).filter pr).map fun s=>V.int ((at'+s:Nat):Int))))
   ⟨none,none,none,rfl,g0,hr0⟩ (fun i σ H' hi' e=>?_) (fun σ H' e=>?_)
  ·obtain ⟨o1,o2,o3,rfl,s1,hr1⟩:=e
   have hb1:=s1 _ _ hb
   have e1:some ((at':Int)+(0+(i:Int)))=Option.map Int.ofNat (some (at'+i)):=by
    show some ((at':Int)+(0+(i:Int)))=some ((at'+i:Nat):Int)
    congr 1; omega
   refine ⟨_,rfl,_,rfl,_,rfl,_,rfl,_,rfl,_,_,rfl,rfl,_,rfl,z,some at',some (at'+i),rfl,rfl,e1,Nat.le_of_lt (jaw (by omega)),?_⟩
   have e2:((z.cps.toList.drop ((some at').getD 0)).take ((some (at'+i)).getD z.length - (some at').getD 0))=t.take i:=by
    show ((tl z).drop at').take (at'+i - at')=_
    rw [hT,Nat.add_sub_cancel_left]
   rw [e2]
   have hzt:(⟨(t.take i).toArray⟩:Str).length=(t.take i).length:=List.size_toArray
   have hzt':(⟨(t.take i).toArray⟩:Str).cps.size=(t.take i).length:=List.size_toArray
   have hti:(t.take i).length<=i:=by rw [List.length_take]; omega
   refine ⟨_,rfl,_,rfl,jgP (fun j ys H2=>H2=H'/\ys=((t.take i).take j).map (fun c=>V.bl (decide (c∈tl sg)))) ⟨rfl,rfl⟩ (fun j ys H2 hj e=>?_) (Nat.le_of_lt (jaw (by rw [hzt']; omega))) (fun j c ys H2 hc e=>?_) (fun ys H2 e p hp=>?_)⟩
   ·rw [e.2,List.length_map,List.length_take]; omega
   ·obtain ⟨rfl,rfl⟩:=e
    have hc':(t.take i)[j]?=some c:=by
     have:(⟨(t.take i).toArray⟩:Str).cps[j]?=(t.take i)[j]?:=by simp
     rw [this] at hc; exact hc
    refine ⟨_,rfl,_,rfl,b,_,_,_,rfl,rfl,SqT.of hb1,rfl,c,sg,rfl,rfl,rfl,?_⟩
    rw [jau hc',List.map_append]; rfl
   ·obtain ⟨rfl,rfl⟩:=e
    have ea:((t.take i).take (t.take i).toArray.size)=t.take i:=by rw [List.size_toArray,List.take_length]
    have ep:(L2.upd H2 p (.lst (((t.take i).take (⟨(t.take i).toArray⟩:Str).cps.size).map fun c=>V.bl (decide (c∈tl sg))))) p=some (.lst (((t.take i).map fun c=>decide (c∈tl sg)).map V.bl)):=by
     rw [jab]
     show some (HO.lst (((t.take i).take (t.take i).toArray.size).map _))=_
     rw [ea,List.map_map]; rfl
    have g2:=jah hp (.lst (((t.take i).take (⟨(t.take i).toArray⟩:Str).cps.size).map fun c=>V.bl (decide (c∈tl sg))))
    generalize L2.upd H2 p (.lst (((t.take i).take (⟨(t.take i).toArray⟩:Str).cps.size).map fun c=>V.bl (decide (c∈tl sg))))=H3 at *
    have s3:=s1.trans g2
    have hr3:=g2 _ _ hr1
    refine ⟨p,_,rfl,.inl (SqL.of ep),rfl,jlE _,?_⟩
    have eg:(if true=true then !inV (V.bl false) (((t.take i).map fun c=>decide (c∈tl sg)).map V.bl) else inV (V.bl false) (((t.take i).map fun c=>decide (c∈tl sg)).map V.bl))=(t.take i).all fun c=>decide (c∈tl sg):=by
     rw [if_pos rfl,jhC,Bool.not_not,List.all_map]; rfl
    rw [eg]
    have nxt:((List.range (i+1)).filter pr)=((List.range i).filter pr)++(if pr i=true then [i] else []):=by
     rw [List.range_succ,List.filter_append]
     congr 1
     by_cases hpi:pr i=true
     ·rw [if_pos hpi,List.filter_cons,if_pos hpi]; rfl
     ·rw [if_neg hpi,List.filter_cons,if_neg hpi]; rfl
    have stay:pr i=false->∃ o1 o2 o3,[some (V.ref b),some (.str z),some (.int at'),some (.ref r),some (.int (0+(i:Int))),some (.str ⟨(t.take i).toArray⟩),some (.bl ((t.take i).all fun c=>decide (c∈tl sg)))]=[some (.ref b),some (.str z),some (.int at'),some (.ref r),o1,o2,o3]/\Same H H3/\H3 r=some (.lst (((List.range (i+1)).filter pr).map fun s=>V.int ((at'+s:Nat):Int))):=fun hpi=>by
     refine ⟨_,_,_,rfl,s3,?_⟩
     rw [nxt,hpi,if_neg (by decide),List.append_nil]; exact hr3
    refine ⟨_,rfl,_,rfl,jiI (fun hA=>?_) (fun hA=>?_)⟩
    ·refine ⟨_,rfl,_,rfl,Nat.le_of_lt (jaw (by rw [hzt]; omega)),_,rfl,rfl,_,rfl,jiI (fun hB=>?_) (fun hB=>?_)⟩
     ·have hB':(t.take i).length=i:=by
       have:V.int ((⟨(t.take i).toArray⟩:Str).length:Int)=V.int (0+(i:Int)):=of_decide_eq_true hB
       rw [hzt] at this
       have:=V.int.inj this
       omega
      have hle:i<=t.length:=by rw [List.length_take] at hB'; omega
      refine ⟨_,rfl,_,rfl,b,_,_,_,rfl,rfl,SqT.of (s3 _ _ hb),rfl,_,_,rfl,rfl,_,rfl,jiI (fun hC=>?_) (fun hC=>?_)⟩
      ·have hC':lo<=0+(i:Int):=of_decide_eq_true hC
       have hpi:pr i=true:=by
        show (decide (i<=t.length)&&(decide (lo.toNat<=0+i)&&(t.take i).all fun c=>decide (c∈tl sg)))=true
        rw [hA,decide_eq_true hle,decide_eq_true (by omega)]; rfl
       refine ⟨_,rfl,.inl ⟨rfl,_,SqL.of hr3⟩,_,rfl,_,rfl,_,_,rfl,rfl,r,_,_,rfl,rfl,hr3,jaw ?_,?_⟩
       ·rw [List.length_map]
        have:=List.length_filter_le pr (List.range i)
        rw [List.length_range] at this
        omega
       ·refine ⟨_,_,_,rfl,jaE s3 nr (Besides.refl.upd _),?_⟩
        rw [jab,nxt,if_pos hpi,List.map_append]
        have e4:V.int ((at':Int)+(0+(i:Int)))=V.int ((at'+i:Nat):Int):=congrArg V.int (by omega)
        dsimp only
        rw [e4]; rfl
      ·have hC':¬ lo<=0+(i:Int):=fun h=>hC (decide_eq_true h)
       refine stay ?_
       show (decide (i<=t.length)&&(decide (lo.toNat<=0+i)&&(t.take i).all fun c=>decide (c∈tl sg)))=false
       rw [decide_eq_false (p:=lo.toNat<=0+i) (by omega),Bool.false_and,Bool.and_false]
     ·refine jbA (stay ?_)
      have hB':¬ i<=t.length:=fun h=>hB (decide_eq_true (by
       rw [hzt,List.length_take,Nat.min_eq_left h]
       exact congrArg V.int (by omega)))
      show (decide (i<=t.length)&&(decide (lo.toNat<=0+i)&&(t.take i).all fun c=>decide (c∈tl sg)))=false
      rw [decide_eq_false hB',Bool.false_and]
    ·refine jbA (stay ?_)
     show (decide (i<=t.length)&&(decide (lo.toNat<=0+i)&&(t.take i).all fun c=>decide (c∈tl sg)))=false
     rw [Bool.eq_false_iff.mpr hA,Bool.and_false,Bool.and_false]
  ·obtain ⟨o1,o2,o3,rfl,s1,hr1⟩:=e
   refine ⟨_,rfl,q r H' s1 nr ?_⟩
   have:hi.toNat+1=m:=by omega
   rw [hr1]
   unfold askS
   rw [this]
end
open Mth (R1 RQ MP MQ noC askS Fd)
def Tup {α:Type} (R:Hp->Hp->α->V->Prop) (z:Str) (H0 H:Hp) (x:α×List Nat) (v:V):Prop:=∃ a u,∃ p:Nat,v=.ref a/\H a=some (.tup [u,.int p])/\H0 a=none/\R H0 H x.1 u/\p<=z.length/\(tl z).drop p=x.2
structure Mov {α:Type} (R:Hp->Hp->α->V->Prop):Prop where
 go:∀ {H0 H H':Hp} {x:Addr} {r:α} {v:V},Besides x H H'->(∃ o,H0 x=some o)->R H0 H r v->R H0 H' r v
structure Old {α:Type} (R:Hp->Hp->α->V->Prop):Prop where
 go:∀ {H0 H1 H:Hp} {r:α} {v:V},(∀ b,H1 b=none->H0 b=none)->R H1 H r v->R H0 H r v
structure Sam {α:Type} (R:Hp->Hp->α->V->Prop):Prop where
 go:∀ {H0 H H':Hp} {r:α} {v:V},Same H H'->R H0 H r v->R H0 H' r v
section
variable {α:Type} {R:Hp->Hp->α->V->Prop} {z:Str} {H0 H1 H H':Hp} {x:α×List Nat} {v:V}
theorem Tup.bes (m:Mov R) {b:Addr} (e:Besides b H H') (hb:∃ o,H0 b=some o) (h:Tup R z H0 H x v):Tup R z H0 H' x v:=by
 obtain ⟨a,u,p,h1,h2,h3,h4,h5,h6⟩:=h
 refine ⟨a,u,p,h1,e _ _ h2 (fun y=>?_),h3,m.go e hb h4,h5,h6⟩
 obtain ⟨o,hb⟩:=hb
 rw [y,hb] at h3; cases h3
theorem Tup.older (m:Old R) (o:∀ b,H1 b=none->H0 b=none) (h:Tup R z H1 H x v):Tup R z H0 H x v:=by
 obtain ⟨a,u,p,h1,h2,h3,h4,h5,h6⟩:=h
 exact ⟨a,u,p,h1,h2,o _ h3,m.go o h4,h5,h6⟩
theorem Tup.same (m:Sam R) (e:Same H H') (h:Tup R z H0 H x v):Tup R z H0 H' x v:=by
 obtain ⟨a,u,p,h1,h2,h3,h4,h5,h6⟩:=h
 exact ⟨a,u,p,h1,e _ _ h2,h3,m.go e h4,h5,h6⟩
end
theorem jnX {H H':Hp} {r b:Addr} {o:HO} (s:Same H H') (hr:∃ o,H' r=some o) (n:H' b=none):(L2.upd H r o) b=none:=by
 obtain ⟨o',hr⟩:=hr
 rw [upd_ne (fun y=>by rw [y,hr] at n; cases n)]
 exact s.free n
theorem jff {H:Hp} {r:Addr} {o:HO} {b:Addr} (h:(L2.upd H r o) b=none):H b=none:=by
 by_cases e:b=r
 ·rw [e,jab] at h; cases h
 ·rw [upd_ne e] at h; exact h
theorem Tup.grow {α:Type} {R:Hp->Hp->α->V->Prop} (mv:Mov R) (sm:Sam R) {z:Str} {H H1 H3:Hp} {r b:Addr} {ws:List V} {L:List (α×List Nat)} {y:α×List Nat} {u:V} {e:Nat} (s0:Same H H1) (nr:H1 r=none) (s1:Same H1 H3) (hr:H3 r=some (.lst ws)) (hp:Paired (Tup R z (L2.upd H r (.lst [])) H3) L ws) (nb:H3 b=none)
  (hR:R (L2.upd H r (.lst [])) H3 y.1 u) (he:e<=z.length) (hd:(tl z).drop e=y.2) :
  Same H1 (L2.upd (L2.upd H3 b (.tup [u,.int e])) r (.lst (ws++[.ref b])))/\(L2.upd (L2.upd H3 b (.tup [u,.int e])) r (.lst (ws++[.ref b]))) r=some (.lst (ws++[.ref b]))/\Paired (Tup R z (L2.upd H r (.lst [])) (L2.upd (L2.upd H3 b (.tup [u,.int e])) r (.lst (ws++[.ref b])))) (L++[y]) (ws++[.ref b]):=by
 have g:=jah nb (.tup [u,.int e])
 have br:b≠r:=fun y=>by rw [y,hr] at nb; cases nb
 have bs:Besides r (L2.upd H3 b (.tup [u,.int e])) (L2.upd (L2.upd H3 b (.tup [u,.int e])) r (.lst (ws++[.ref b]))):=Besides.refl.upd _
 have hk:∃ o,(L2.upd H r (.lst [])) r=some o:=⟨_,jab⟩
 refine ⟨jaE (s1.trans g) nr bs,jab,Paired.snoc (Paired.mapP hp fun _ _ q=>(q.same sm g).bes mv bs hk) ⟨b,u,e,rfl,?_,jnX (s0.trans s1) ⟨_,hr⟩ nb,mv.go bs hk (sm.go g hR),he,hd⟩⟩
 rw [upd_ne br,jab]
theorem Tup.grow' {α:Type} {R:Hp->Hp->α->V->Prop} (mv:Mov R) (sm:Sam R) {z:Str} {H H1 H3 Hs:Hp} {r b:Addr} {ws:List V} {L:List (α×List Nat)} {y:α×List Nat} {u:V} {e:Nat} (hs:L2.upd H r (.lst [])=Hs) (s0:Same H H1) (nr:H1 r=none) (s1:Same H1 H3) (hr:H3 r=some (.lst ws)) (hp:Paired (Tup R z Hs H3) L ws) (nb:H3 b=none)
  (hR:R Hs H3 y.1 u) (he:e<=z.length) (hd:(tl z).drop e=y.2) :
  Same H1 (L2.upd (L2.upd H3 b (.tup [u,.int e])) r (.lst (ws++[.ref b])))/\(L2.upd (L2.upd H3 b (.tup [u,.int e])) r (.lst (ws++[.ref b]))) r=some (.lst (ws++[.ref b]))/\Paired (Tup R z Hs (L2.upd (L2.upd H3 b (.tup [u,.int e])) r (.lst (ws++[.ref b])))) (L++[y]) (ws++[.ref b]):=by
 subst hs
 exact Tup.grow mv sm s0 nr s1 hr hp nb hR he hd
theorem jeg {H H' Hs:Hp} {r b:Addr} (hs:L2.upd H r (.lst [])=Hs) (s:Same H H') (hr:∃ o,H' r=some o) (n:H' b=none):Hs b=none:=by
 subst hs; exact jnX s hr n
theorem jlF {c:Prop} [Decidable c] {A:Prop} {Pn:Hp->Prop} {Hr:Hp} (I:Hp->Prop) (key:∀ H1,I H1->Pn H1) (hA:c->(∀ H1,I H1->Pn H1)->A) (hB:¬ c->I Hr):if c then A else Pn Hr:=by
 by_cases h:c
 ·rw [if_pos h]; exact hA h key
 ·rw [if_neg h]; exact key _ (hB h)
def jky (inner:List Pc):Hp->Hp->List R1->V->Prop:=fun H0 H r v=>RowD H0 H inner r v/\r.length=inner.length
theorem jcY {inner:List Pc}:Mov (jky inner):=⟨fun e hb h=>⟨h.1.bes e (.inl hb),h.2⟩⟩
theorem jhD {inner:List Pc}:Old (jky inner):=⟨fun o h=>⟨h.1.older o,h.2⟩⟩
theorem jbM {inner:List Pc}:Sam (jky inner):=⟨fun e h=>⟨h.1.same e,h.2⟩⟩
theorem jcm:∀ {inner:List Pc} {r:List R1} {p:Pc} {v:R1},r.length=inner.length->jbN (inner++[p]) (r++[v])=jbN inner r++jbN [p] [v]
 | [],[],p,v,_=>rfl
 | .say t::inner,x::r,p,v,h=>jcm (inner:=inner) (r:=r) (by simpa using h)
 | .ask n sg lo hi::inner,.no::r,p,v,h=>jcm (inner:=inner) (r:=r) (by simpa using h)
 | .ask n sg lo hi::inner,.tx w::r,p,v,h=>by
  show (n,w)::jbN (inner++[p]) (r++[v])=_
  rw [jcm (inner:=inner) (r:=r) (by simpa using h)]; rfl
theorem jfg:∀ {inner:List Pc} {r:List R1} {n:Str},n∈(jbN inner r).map (·.1)->n∈inner.flatMap Pc.nm
 | [],_,_,h=>by simp [jbN] at h
 | _::_,[],_,h=>by rename_i p ps; cases p <;> simp [jbN] at h
 | .say t::inner,x::r,n,h=>by
  rw [List.flatMap_cons]
  exact List.mem_append_right _ (jfg (inner:=inner) (r:=r) h)
 | .ask m sg lo hi::inner,.no::r,n,h=>by
  rw [List.flatMap_cons]
  exact List.mem_append_right _ (jfg (inner:=inner) (r:=r) h)
 | .ask m sg lo hi::inner,.tx w::r,n,h=>by
  rw [List.flatMap_cons]
  rw [show jbN (.ask m sg lo hi::inner) (.tx w::r)=(m,w)::jbN inner r from rfl,List.map_cons] at h
  rcases List.mem_cons.mp h with e | e
  ·rw [e]; exact List.mem_append_left _ (by simp [Pc.nm])
  ·exact List.mem_append_right _ (jfg (inner:=inner) (r:=r) e)
theorem jgE {es:List (Str×List Nat)} {n:Str} (h:n∉es.map (·.1)):jaW (jcW es) (Sum.inr n:Key)=none:=by
 induction es with
 | nil=>rfl
 | cons e es ih =>
  show jaW ((Sum.inr e.1,V.str ⟨e.2.toArray⟩)::jcW es) _=none
  rw [List.map_cons] at h
  rw [jaQ (fun z=>h (by rw [Sum.inr.inj z]; exact List.mem_cons_self))]
  exact ih fun z=>h (List.mem_cons_of_mem _ z)
theorem jhE {z:Str} {w:Str} {p:Nat} (hp:p<=z.length):(Mth.strip (tl w) ((tl z).drop p)=some ((tl z).drop (p+w.length))/\p+w.length<=z.length/\(⟨(((tl z).drop p).take w.length).toArray⟩:Str)=w)\/(Mth.strip (tl w) ((tl z).drop p)=none/\(⟨(((tl z).drop p).take w.length).toArray⟩:Str)≠w):=by
 have hw:(tl w).length=w.length:=Array.length_toList
 have hz:(tl z).length=z.length:=Array.length_toList
 cases hs:Mth.strip (tl w) ((tl z).drop p) with
 | some r =>
  have e:=Mth.strip_some hs
  left
  refine ⟨?_,?_,?_⟩
  ·congr 1
   rw [<- List.drop_drop,e,<- hw,List.drop_left]
  ·have:=congrArg List.length e
   rw [List.length_append,List.length_drop,hw] at this
   omega
  ·rw [e,<- hw,List.take_left]
 | none =>
  right
  refine ⟨rfl,fun e=>?_⟩
  have e':((tl z).drop p).take w.length=tl w:=by
   have:=congrArg (fun s:Str=>s.cps.toList) e
   simpa using this
  have:(tl z).drop p=tl w++((tl z).drop p).drop w.length:=by rw [<- e',List.take_append_drop]
  rw [this,Mth.strip_app] at hs
  cases hs
theorem jdE:∀ (inner:List Pc) (r:List R1),(jbN inner r).length<=inner.length
 | [],_=>by simp [jbN]
 | _::_,[]=>by rename_i p ps; cases p <;> simp [jbN]
 | .say t::inner,x::r=>Nat.le_succ_of_le (jdE inner r)
 | .ask m sg lo hi::inner,.no::r=>Nat.le_succ_of_le (jdE inner r)
 | .ask m sg lo hi::inner,.tx w::r=>Nat.succ_le_succ (jdE inner r)
def Pc.short (p:Pc):Prop:=∀ n∈p.nm,n.length<=100
theorem jlG {ps:List Pc} (nd:(ps.flatMap Pc.nm).Nodup) {i:Nat} {n sg:Str} {lo hi:Int} (h:ps[i]?=some (.ask n sg lo hi)):n∉(ps.take i).flatMap Pc.nm:=by
 have e:ps.flatMap Pc.nm=(ps.take i).flatMap Pc.nm++(ps.drop i).flatMap Pc.nm:=by rw [<- List.flatMap_append,List.take_append_drop]
 rw [e,List.nodup_append] at nd
 intro hn
 refine nd.2.2 n hn n ?_ rfl
 rw [List.drop_eq_getElem?_toList_append,h]
 simp [Pc.nm]
section
variable {P:Program} {w:World} {K:PySem.W.Frag} {mg:Str->Option Value} {base:Heap} {D:Adr}
abbrev LrA (l:Addr) (z:Str) (at':Nat) (H:Hp) (ps:List Pc) (t0:List Nat) (i:Nat) (σ:St) (H':Hp):Prop:=∃ (qa:Addr) (vs':List V) (o4 o5 o6 o7 o8:Option V),σ=[some (.ref l),some (.str z),some (.int at'),some (.ref qa),o4,o5,o6,o7,o8]/\Same H H'/\H qa=none/\H' qa=some (.lst vs')/\Paired (Tup (jky (ps.take i)) z H H') (noC (Mth.pL ((ps.take i).map mPc) t0)) vs'
abbrev LrB (l:Addr) (z:Str) (at':Nat) (qa pb r:Addr) (H' Hs:Hp) (ps1:List Pc) (L:Fd (List R1)) (σ:St) (H2:Hp):Prop:=∃ (ws:List V) (o6 o7 o8:Option V),σ=[some (.ref l),some (.str z),some (.int at'),some (.ref qa),some (.ref pb),some (.ref r),o6,o7,o8]/\Same H' H2/\H2 r=some (.lst ws)/\Paired (Tup (jky ps1) z Hs H2) L ws
abbrev LrC (l:Addr) (z:Str) (at':Nat) (qa pb r b:Addr) (H3 Hs:Hp) (ps1:List Pc) (L:Fd (List R1)) (σ:St) (H4:Hp):Prop:=∃ (ws2:List V) (o7 o8:Option V),σ=[some (.ref l),some (.str z),some (.int at'),some (.ref qa),some (.ref pb),some (.ref r),some (.ref b),o7,o8]/\Besides r H3 H4/\H4 r=some (.lst ws2)/\Paired (Tup (jky ps1) z Hs H4) L ws2
theorem scLR:FnScope ["pieces","text","at","found","piece","longer","one","end","values"] ["pieces","text","at"] (jag jbs):=⟨rfl,rfl,rfl,by decide +kernel,rfl,by decide +kernel,by decide +kernel⟩
def spLR:Sp:=fun vs H Q _=>∃ (l:Addr) (us:List V) (ps:List Pc) (z:Str) (at':Nat),vs=[.ref l,.str z,.int at']/\H l=some (.lst us)/\Paired (Pc.At H) ps us/\(∀ p∈ps,p.ok/\(mPc p).few/\p.short)/\(ps.flatMap Pc.nm).Nodup/\ps.length<=2/\at'<=z.length/\z.length<=90000 /\
 ∀ r vs' H',Same H H'->H r=none->H' r=some (.lst vs')->Paired (Tup (jky ps) z H H') (noC (Mth.pL (ps.map mPc) ((tl z).drop at'))) vs'->Q (.ref r) H'
theorem jpJ (T:Txt w K mg D):FnOk P w K mg base CX0 2 D.aLawLineReadings D.dLawLineReadings ["pieces","text","at"] spLR:=by
 have G:FnOk P w K mg base CX0 1 D.aLawAskEnds D.dLawAskEnds ["piece","text","at"] spAE:=ok_AE T
 refine T.fLawLineReadings.ok scLR (fun vs H Q E h=>?_) (fun cdv A outer s H vs Q E hr h=>?_)
 ·obtain ⟨l,us,ps,z,at',rfl,_⟩:=h; rfl
 ·obtain ⟨l,us,ps,z,at',rfl,hl,hp,hok,hnd,h2,hat,hz,q⟩:=h
  have hu:=jeC hr
  have hus:us.length=ps.length:=hp.length.symm
  have hzs:z.length<=sizeLine:=Nat.le_of_lt (jaw (by omega))
  refine ⟨_,jac (jak (i:=3) scLR.nd rfl (Or.inl rfl) (jba (jaa (jbe (jaa jcq (jaa (pv 2) jad))) jad)))
   (jac (jaN PassesOwn.never rfl (jaL (pv 0)) (jaB (i:=4) scLR.nd rfl (Or.inl rfl))
    (jac (jak (i:=5) scLR.nd rfl (Or.inl rfl) (jba jad))
    (jac (jaN PassesOwn.never rfl (jaL (pv 3)) (jaB (i:=6) scLR.nd rfl (Or.inl rfl))
     (jac (jak (i:=7) scLR.nd rfl (Or.inl rfl) (jan jaz (jam jaj (pv 6) jae (fun _ _=>rfl)) (jal jaA rfl T.zLen PySem.boot_len (jaa (jam jaj (pv 4) jae (fun _ _=>rfl)) jad))))
     (jac (jaF (PW.pt (jcH (jao jaZ (jam jaj (pv 4) jae (fun _ _=>rfl)) jax (jas _)) (jbX (jao jaZ (jaX jcg (pv 1) (jaS (jam jaj (pv 6) jae (fun _ _=>rfl))) (jaS (pv 7))) (jam jaj (pv 4) jae (fun _ _=>rfl)) (jas _)))))
      (jaf (jap (jbv PySem.F.plainAttrs_list PySem.F.slot_list_append PySem.F.type_list_append jay (pv 5) (jaa (jbe (jaa (jam jaj (pv 6) jae (fun _ _=>rfl)) (jaa (pv 7) jad))) jad)))) jav)
     (jaf (jaF (jao jaZ (jam jaj (pv 4) jae (fun _ _=>rfl)) jax (jas _))
      (jaf (jaN PassesOwn.never rfl (jaL (jai G hr rfl T.mLawAskEnds T.fLawAskEnds.kp T.bLawAskEnds .nil jaq (jaa (pv 4) (jaa (pv 1) (jaa (jam jaj (pv 6) jae (fun _ _=>rfl)) jad))))) (jaB (i:=7) scLR.nd rfl (Or.inl rfl))
       (jac (jak (i:=8) scLR.nd rfl (Or.inl rfl) (jbx jdp rfl T.zDict (by decide +kernel) (jaa (jam jaj (pv 6) jae (fun _ _=>rfl)) jad)))
       (jac (jca hu (pv 8) (jam jaj (pv 4) jae (fun _ _=>rfl)) (jaX jcg (pv 1) (jaS (jam jaj (pv 6) jae (fun _ _=>rfl))) (jaS (pv 7))) rfl)
       (jaf (jap (jbv PySem.F.plainAttrs_list PySem.F.slot_list_append PySem.F.type_list_append jay (pv 5) (jaa (jbe (jaa (pv 8) (jaa (pv 7) jad))) jad)))))))) jav)))))
    (jaf (jak (i:=3) scLR.nd rfl (Or.inl rfl) (pv 5))))))
   (jaf (jat (pv 3)))),?_⟩
  dsimp only [cxK]
  intro d nd
  have g1:=jah nd (.dK [])
  have hd1:(L2.upd H d (.dK [])) d=some (.dK []):=jab
  generalize L2.upd H d (.dK [])=Hd at *
  refine ⟨_,rfl,(by show 2<=sizeLine; decide),fun a na=>⟨(by show 1<=sizeLine; decide),fun q0 nq0=>?_⟩⟩
  have g2:=jah na (.tup [.ref d,.int at'])
  have ha2:(L2.upd Hd a (.tup [.ref d,.int at'])) a=some (.tup [.ref d,.int at']):=jab
  generalize L2.upd Hd a (.tup [.ref d,.int at'])=Ha at *
  have g3:=jah nq0 (.lst [.ref a])
  have hq3:(L2.upd Ha q0 (.lst [.ref a])) q0=some (.lst [.ref a]):=jab
  generalize L2.upd Ha q0 (.lst [.ref a])=Hq at *
  have s3:=(g1.trans g2).trans g3
  generalize ht0:(tl z).drop at'=t0 at *
  have lenX:∀ i,(noC (Mth.pL ((ps.take i).map mPc) t0)).length<=9:=fun i=>Mth.len_pL9 (fun p hp'=>by
   obtain ⟨p',h1,rfl⟩:=List.mem_map.mp hp'
   exact (hok p' (List.mem_of_mem_take h1)).2.1) (by rw [List.length_map,List.length_take]; omega)
  refine ⟨_,rfl,l,rfl,⟨_,SqL.of (s3 _ _ hl)⟩,jbg (xs:=us) (LrA l z at' H ps t0)
   ⟨q0,[.ref a],none,none,none,none,none,rfl,s3,(g1.trans g2).free nq0,hq3,?_⟩ (fun i σ H' hi e=>?_) (fun i x σ H' hx e D1 hD1=>?_) (fun σ H' e=>?_)⟩
  ·exact .cons ⟨a,.ref d,at',rfl,g3 _ _ ha2,g1.free na,⟨⟨d,rfl,g3 _ _ (g2 _ _ hd1),nd⟩,rfl⟩,hat,ht0⟩ .nil
  ·obtain ⟨_,_,_,_,_,_,_,_,s1,_⟩:=e
   exact SqL.of (s1 _ _ hl)
  ·obtain ⟨qa,vs',o4,o5,o6,o7,o8,rfl,s1,nqa,hqa,hX⟩:=e
   obtain ⟨p,ep,pat⟩:=Paired.two hp hx
   obtain ⟨okp,fwp,shp⟩:=hok p (List.mem_of_getElem? ep)
   have hX9:=lenX i
   generalize hXe:noC (Mth.pL ((ps.take i).map mPc) t0)=X at *
   let f:List R1×List Nat->Fd (List R1):=fun x=>(noC (Mth.p1 (mPc p) x.2)).map fun y=>(x.1++[y.1],y.2)
   have eF:noC (Mth.pL ((ps.take (i+1)).map mPc) t0)=X.flatMap f:=by
    rw [jau ep,List.map_append,<- hXe]
    exact Mth.noC_snocL
   have lenF:(X.flatMap f).length<=9:=by rw [<- eF]; exact lenX (i+1)
   have lenT:∀ j,((X.take j).flatMap f).length<=9:=fun j=>Nat.le_trans Mth.len_take_flat lenF
   refine ⟨Nat.zero_le _,fun r nr=>?_⟩
   have gr:=jah nr (.lst [])
   have hr0:(L2.upd H' r (.lst [])) r=some (.lst []):=jab
   generalize L2.upd H' r (.lst [])=Hr at *
   have nrH:H r=none:=s1.free nr
   obtain ⟨pb,epv,hpb⟩:=id pat
   subst epv
   refine ⟨_,rfl,qa,rfl,⟨_,SqL.of (gr _ _ hqa)⟩,jbg (xs:=vs') (fun j=>LrB l z at' qa pb r H' (L2.upd H r (.lst [])) (ps.take (i+1)) ((X.take j).flatMap f))
    ⟨[],_,_,_,rfl,gr,hr0,.nil⟩ (fun j σ H2 hj e=>?_) (fun j y σ H2 hy e D2 hD2=>?_) (fun σ H2 e=>?_)⟩
   ·obtain ⟨_,_,_,_,_,s2,_⟩:=e
    exact SqL.of (s2 _ _ hqa)
   ·obtain ⟨ws,o6,o7,o8,rfl,s2,hr2,hws⟩:=e
    obtain ⟨x,ex,b,u,pl,rfl,hb,nb,⟨⟨dd,rfl,hdd,ndd⟩,hrl⟩,hpl,hdr⟩:=Paired.two hX hy
    have eT:=Mth.flat_take_succ (f:=f) ex
    have hb2:=s2 _ _ hb
    have hdd2:=s2 _ _ hdd
    have hpb2:=s2 _ _ (s1 _ _ hpb)
    have hwl:ws.length<=9:=by rw [<- hws.length]; exact lenT j
    have hTl:=lenT (j+1)
    have ddr:dd≠r:=fun e=>by rw [e,nr] at hdd; cases hdd
    have nddS:(L2.upd H r (.lst [])) dd=none:=by rw [upd_ne ddr]; exact ndd
    have s02:=s1.trans s2
    rw [eT] at hTl
    cases p with
    | say wd =>
     have wl:wd.length<=12:=okp.hi
     have e1:some ((pl:Int)+(wd.length:Int))=Option.map Int.ofNat (some (pl+wd.length)):=by
      show some ((pl:Int)+(wd.length:Int))=some ((pl+wd.length:Nat):Int)
      congr 1
     have e2:((z.cps.toList.drop ((some pl).getD 0)).take ((some (pl+wd.length)).getD z.length - (some pl).getD 0))=((tl z).drop pl).take wd.length:=by
      show ((tl z).drop pl).take (pl+wd.length - pl)=_
      rw [Nat.add_sub_cancel_left]
     refine ⟨_,rfl,b,_,_,_,rfl,rfl,SqT.of hb2,rfl,_,rfl,pb,_,_,_,rfl,rfl,SqT.of hpb2,rfl,wd,rfl,Nat.le_of_lt (jaw (by omega)),_,_,rfl,rfl,?_⟩
     refine ⟨_,rfl,pb,_,_,_,rfl,rfl,SqT.of hpb2,rfl,rfl,_,rfl,jbJ rfl ?_⟩
     refine ⟨_,rfl,_,rfl,b,_,_,_,rfl,rfl,SqT.of hb2,rfl,_,rfl,_,rfl,_,rfl,z,some pl,some (pl+wd.length),rfl,rfl,e1,hzs,?_⟩
     rw [e2]
     rcases jhE (w:=wd) hpl with ⟨st,le,eq⟩ | ⟨st,ne⟩
     ·have fx:f x=[(x.1++[.no],(tl z).drop (pl+wd.length))]:=by
       show (noC (Mth.p1 (.say (tl wd)) x.2)).map _=_
       rw [Mth.noC_say,<- hdr,st]; rfl
      refine ⟨_,rfl,pb,_,_,_,rfl,rfl,SqT.of hpb2,rfl,rfl,_,rfl,jbJ (congrArg V.str eq) ?_⟩
      refine ⟨_,rfl,.inl ⟨rfl,_,SqL.of hr2⟩,_,rfl,b,_,_,_,rfl,rfl,SqT.of hb2,rfl,_,rfl,(by show 2<=sizeLine; decide),fun nb' hnb'=>?_⟩
      have eI:V.int ((pl:Int)+(wd.length:Int))=V.int ((pl+wd.length:Nat):Int):=congrArg V.int (by omega)
      have gg:=Tup.grow (R:=jky (ps.take (i+1))) (z:=z) (y:=(x.1++[.no],(tl z).drop (pl+wd.length))) (u:=.ref dd) (e:=pl+wd.length) jcY jbM s1 nr s2 hr2 hws hnb' ⟨⟨dd,rfl,?_,nddS⟩,?_⟩ le rfl
      ·rw [<- eI] at gg
       have gk:=jah hnb' (.tup [.ref dd,.int ((pl:Int)+(wd.length:Int))])
       refine ⟨r,ws,.ref nb',rfl,rfl,gk _ _ hr2,jaw (by omega),?_⟩
       have hpb4:=gg.1 _ _ (s1 _ _ hpb)
       refine ⟨_,rfl,pb,_,_,_,rfl,rfl,SqT.of hpb4,rfl,rfl,_,rfl,jaJ ne_as.symm ?_⟩
       refine hD2 _ _ ⟨ws++[.ref nb'],_,_,_,rfl,gg.1,gg.2.1,?_⟩
       rw [eT,fx]
       exact gg.2.2
      ·rw [hdd2,jau ep,jcm hrl]
       simp [jbN]
      ·rw [jau ep,List.length_append,List.length_append,hrl]; rfl
     ·have fx:f x=[]:=by
       show (noC (Mth.p1 (.say (tl wd)) x.2)).map _=_
       rw [Mth.noC_say,<- hdr,st]; rfl
      refine ⟨_,rfl,pb,_,_,_,rfl,rfl,SqT.of hpb2,rfl,rfl,_,rfl,jaJ (fun h=>ne (V.str.inj h)) ?_⟩
      refine ⟨_,rfl,pb,_,_,_,rfl,rfl,SqT.of hpb2,rfl,rfl,_,rfl,jaJ ne_as.symm ?_⟩
      refine hD2 _ _ ⟨ws,_,_,_,rfl,s2,hr2,?_⟩
      rw [eT,fx,List.append_nil]
      exact hws
    | ask n sg lo hi' =>
     have nl:n.length<=100:=shp n (by simp [Pc.nm])
     have okp':=id okp
     obtain ⟨_,_,_,b0,b1,b2⟩:=okp
     have fx:f x=(askS (tl sg) lo.toNat hi'.toNat 0 ((tl z).drop pl)).map fun s=>(x.1++[.tx (((tl z).drop pl).take s)],((tl z).drop pl).drop s):=by
      show (noC (Mth.p1 (.ask (tl sg) lo.toNat hi'.toNat) x.2)).map _=_
      rw [Mth.noC_p1a (by omega),<- hdr,List.map_map]; rfl
     rw [fx,List.length_append,List.length_map] at hTl
     refine ⟨_,rfl,b,_,_,_,rfl,rfl,SqT.of hb2,rfl,_,rfl,pb,_,_,_,rfl,rfl,SqT.of hpb2,rfl,n,rfl,Nat.le_of_lt (jaw (by omega)),_,_,rfl,rfl,?_⟩
     refine ⟨_,rfl,pb,_,_,_,rfl,rfl,SqT.of hpb2,rfl,rfl,_,rfl,jaJ ne_as (jbA ?_)⟩
     refine ⟨_,rfl,pb,_,_,_,rfl,rfl,SqT.of hpb2,rfl,rfl,_,rfl,jbJ rfl ?_⟩
     refine ⟨_,rfl,_,rfl,_,rfl,b,_,_,_,rfl,rfl,SqT.of hb2,rfl,.ref pb,n,sg,lo,hi',z,pl,rfl,⟨pb,rfl,hpb2⟩,okp',hpl,hz,fun re H3 s3 nre hre=>?_⟩
     have sm:∀ k s,(askS (tl sg) lo.toNat hi'.toNat 0 ((tl z).drop pl))[k]?=some s->s<=((tl z).drop pl).length:=fun k s h=>by
      have:=(List.mem_filter.mp (List.mem_of_getElem? h)).2
      rw [Bool.and_eq_true] at this
      exact of_decide_eq_true this.1
     have nin:n∉(ps.take i).flatMap Pc.nm:=jlG hnd ep
     generalize askS (tl sg) lo.toNat hi'.toNat 0 ((tl z).drop pl)=S at *
     have rre:re≠r:=fun e=>by rw [e,hr2] at nre; cases nre
     have s03:=s2.trans s3
     refine ⟨re,rfl,⟨_,SqL.of hre⟩,jbg (xs:=S.map fun s=>V.int ((pl+s:Nat):Int)) (fun k=>LrC l z at' qa pb r b H3 (L2.upd H r (.lst [])) (ps.take (i+1)) ((X.take j).flatMap f++(f x).take k))
      ⟨ws,_,_,rfl,Besides.refl,s3 _ _ hr2,by rw [List.take_zero,List.append_nil]; exact Paired.mapP hws fun _ _ q=>q.same jbM s3⟩ (fun k σ H4 hk e=>?_) (fun k y' σ H4 hy' e D3 hD3=>?_) (fun σ H4 e=>?_)⟩
     ·obtain ⟨_,_,_,_,e4,_⟩:=e
      exact SqL.of (e4 _ _ hre rre)
     ·obtain ⟨ws2,o7',o8',rfl,e4,hr4,hws2⟩:=e
      rw [List.getElem?_map] at hy'
      obtain ⟨sz,esz,rfl⟩:∃ s',S[k]?=some s'/\V.int ((pl+s':Nat):Int)=y':=by
       cases h:S[k]? with
       | none=>rw [h] at hy'; cases hy'
       | some s'=>rw [h] at hy'; exact ⟨s',rfl,Option.some.inj hy'⟩
      have s4:Same H' H4:=jaE s03 nr e4
      have s04:=s1.trans s4
      have hb4:=s4 _ _ hb
      have hdd4:=s4 _ _ hdd
      have hpb4:=s4 _ _ (s1 _ _ hpb)
      have szl:=sm k sz esz
      have zl:(tl z).length=z.length:=Array.length_toList
      rw [List.length_drop] at szl
      have hwl2:ws2.length<=9:=by
       rw [<- hws2.length,List.length_append,List.length_take,fx,List.length_map]
       have:=Nat.min_le_right k S.length
       omega
      refine ⟨_,rfl,b,_,_,_,rfl,rfl,SqT.of hb4,rfl,dd,_,rfl,.inl hdd4,fun d2 nd2=>?_⟩
      have hd5:(L2.upd H4 d2 (.dK (jcW (jbN (ps.take i) x.1)))) d2=some (.dK (jcW (jbN (ps.take i) x.1))):=jab
      have g5:=jah nd2 (.dK (jcW (jbN (ps.take i) x.1)))
      have sN:∀ o,Same H4 (L2.upd (L2.upd H4 d2 (.dK (jcW (jbN (ps.take i) x.1)))) d2 o):=fun o=>Same.updN g5 nd2 o
      generalize L2.upd H4 d2 (.dK (jcW (jbN (ps.take i) x.1)))=H5 at *
      have e2:((z.cps.toList.drop ((some pl).getD 0)).take ((some (pl+sz)).getD z.length - (some pl).getD 0))=((tl z).drop pl).take sz:=by
       show ((tl z).drop pl).take (pl+sz - pl)=_
       rw [Nat.add_sub_cancel_left]
      refine ⟨_,rfl,_,rfl,b,_,_,_,rfl,rfl,SqT.of (g5 _ _ hb4),rfl,_,rfl,_,rfl,_,rfl,z,some pl,some (pl+sz),rfl,rfl,rfl,hzs,?_⟩
      rw [e2]
      have h1k:(jcW (jbN (ps.take i) x.1)).length<=2:=by
       unfold jcW
       rw [List.length_map]
       have:=jdE (ps.take i) x.1
       rw [List.length_take] at this
       omega
      refine ⟨_,rfl,_,rfl,pb,_,_,_,rfl,rfl,SqT.of (g5 _ _ hpb4),rfl,d2,_,rfl,DPut.k (k:=Sum.inr n) hd5 (jaw (by omega)),?_⟩
      have hk2:jcx (jcW (jbN (ps.take i) x.1)) (Sum.inr n) (.str ⟨(((tl z).drop pl).take sz).toArray⟩)=jcW (jbN (ps.take (i+1)) (x.1++[.tx (((tl z).drop pl).take sz)])):=by
       rw [jbw _ (jgE fun h=>nin (jfg h)),jau ep,jcm hrl]
       unfold jcW
       rw [List.map_append]; rfl
      rw [hk2]
      have g6:=sN (.dK (jcW (jbN (ps.take (i+1)) (x.1++[.tx (((tl z).drop pl).take sz)]))))
      have hd6:(L2.upd H5 d2 (.dK (jcW (jbN (ps.take (i+1)) (x.1++[.tx (((tl z).drop pl).take sz)]))))) d2=some (.dK (jcW (jbN (ps.take (i+1)) (x.1++[.tx (((tl z).drop pl).take sz)])))):=jab
      generalize L2.upd H5 d2 (.dK (jcW (jbN (ps.take (i+1)) (x.1++[.tx (((tl z).drop pl).take sz)]))))=H6 at *
      have hr6:=g6 _ _ hr4
      refine ⟨_,rfl,.inl ⟨rfl,_,SqL.of hr6⟩,_,rfl,_,rfl,(by show 2<=sizeLine; decide),fun nb' hnb'=>?_⟩
      have gg:=Tup.grow (R:=jky (ps.take (i+1))) (z:=z) (y:=(x.1++[.tx (((tl z).drop pl).take sz)],((tl z).drop pl).drop sz)) (u:=.ref d2) (e:=pl+sz) jcY jbM s1 nr (s4.trans g6) hr6 (Paired.mapP hws2 fun _ _ q=>q.same jbM g6) hnb' ⟨⟨d2,rfl,hd6,jnX s04 ⟨_,hr4⟩ nd2⟩,?_⟩ (by omega) (by rw [List.drop_drop])
      ·have gk:=jah hnb' (.tup [.ref d2,.int ((pl+sz:Nat):Int)])
       refine ⟨r,ws2,.ref nb',rfl,rfl,gk _ _ hr6,jaw (by omega),?_⟩
       refine hD3 _ _ ⟨ws2++[.ref nb'],_,_,rfl,?_,gg.2.1,?_⟩
       ·intro bb oo h1 h2'
        rw [upd_ne h2']
        exact gk _ _ (g6 _ _ (e4 _ _ h1 h2'))
       ·have ek:(f x).take (k+1)=(f x).take k++[(x.1++[.tx (((tl z).drop pl).take sz)],((tl z).drop pl).drop sz)]:=jau (by rw [fx,List.getElem?_map,esz]; rfl)
        rw [ek,<- List.append_assoc]
        exact gg.2.2
      ·rw [jau ep,List.length_append,List.length_append,hrl]; rfl
     ·obtain ⟨ws2,o7',o8',rfl,e4,hr4,hws2⟩:=e
      refine hD2 _ _ ⟨ws2,_,_,_,rfl,jaE s03 nr e4,hr4,?_⟩
      rw [eT]
      have:(f x).take (S.map fun s=>V.int ((pl+s:Nat):Int)).length=f x:=by
       rw [List.take_of_length_le]
       rw [fx,List.length_map,List.length_map]; exact Nat.le_refl _
      rw [this] at hws2
      exact hws2
   ·obtain ⟨ws,o6,o7,o8,rfl,s2,hr2,hws⟩:=e
    refine ⟨_,rfl,hD1 _ _ ⟨r,ws,_,_,_,_,_,rfl,s1.trans s2,nrH,hr2,?_⟩⟩
    have hXl:vs'.length=X.length:=hX.length.symm
    rw [hXl,List.take_length] at hws
    rw [eF]
    exact Paired.mapP hws fun _ _ q=>q.older jhD fun b h=>jff h
  ·obtain ⟨qa,vs',o4,o5,o6,o7,o8,rfl,s1,nqa,hqa,hX⟩:=e
   rw [hus,List.take_length] at hX
   exact ⟨_,rfl,q qa vs' H' s1 nqa hqa hX⟩
end
def RrL (inner:List Pc):Hp->Hp->List (List R1)->V->Prop:=fun H0 H rr v=>RvAt H0 H (.rows inner rr) v
theorem jgF {inner:List Pc}:Mov (RrL inner):=⟨fun e hb h=>RvAt.bes e (.inl hb) h⟩
theorem jgG {inner:List Pc}:Old (RrL inner):=⟨fun o h=>RvAt.older o h⟩
theorem jcZ {inner:List Pc}:Sam (RrL inner):=⟨fun e h=>RvAt.same e h⟩
theorem jpK {gap:Str} {c:Nat} {t:List Nat}:Mth.gapAt (tl gap) c t=Mth.strip (tl (if decide ((0:Int) < c) then gap else Str.empty)) t:=by
 unfold Mth.gapAt
 by_cases h:c=0
 ·subst h
  rw [if_pos rfl]
  exact Mth.strip_nil.symm
 ·rw [if_neg h,if_pos (decide_eq_true (by omega))]
theorem jfY {inner:List MP} {gap:List Nat} {lo:Nat}:∀ {m k:Nat} {t:List Nat} {y:List (List R1)×List Nat},y∈noC (Mth.pRows inner gap lo m k t)->y.1.length<=m
 | 0,k,t,y,h=>by
  rw [Mth.noC_rows0,List.mem_singleton] at h
  rw [h]; exact Nat.le_refl _
 | m+1,k,t,y,h=>by
  rw [Mth.noC_rows] at h
  rcases List.mem_append.mp h with h | h
  ·by_cases hk:lo<=k
   ·rw [if_pos hk,List.mem_singleton] at h
    rw [h]; exact Nat.zero_le _
   ·rw [if_neg hk] at h; cases h
  ·cases hg:Mth.gapAt gap k t with
   | none=>rw [hg] at h; cases h
   | some t1 =>
    rw [hg] at h
    obtain ⟨x,_,h⟩:=List.mem_flatMap.mp h
    obtain ⟨y',hy',rfl⟩:=List.mem_map.mp h
    exact Nat.succ_le_succ (jfY hy')
section
variable {P:Program} {w:World} {K:PySem.W.Frag} {mg:Str->Option Value} {base:Heap} {D:Adr}
abbrev RrA (pb:Addr) (z:Str) (at' c:Nat) (r:Addr) (gp:Str) (inner:List Pc) (H2 Hr:Hp) (L:Fd (List (List R1))) (σ:St) (H3:Hp):Prop:=∃ (ws':List V) (o6 o7:Option V),σ=[some (.ref pb),some (.str z),some (.int at'),some (.int c),some (.ref r),some (.str gp),o6,o7]/\Besides r H2 H3/\H3 r=some (.lst ws')/\Paired (Tup (RrL inner) z Hr H3) L ws'
abbrev RrB (pb:Addr) (z:Str) (at' c:Nat) (r:Addr) (gp:Str) (b:Addr) (inner:List Pc) (H4 Hr:Hp) (L:Fd (List (List R1))) (σ:St) (H5:Hp):Prop:=∃ (ws2:List V) (o7:Option V),σ=[some (.ref pb),some (.str z),some (.int at'),some (.int c),some (.ref r),some (.str gp),some (.ref b),o7]/\Besides r H4 H5/\H5 r=some (.lst ws2)/\Paired (Tup (RrL inner) z Hr H5) L ws2
theorem scRR:FnScope ["piece","text","at","count","found","gap","one","more"] ["piece","text","at","count"] (jag jbt):=⟨rfl,rfl,rfl,by decide +kernel,rfl,by decide +kernel,by decide +kernel⟩
def spRR (m:Nat):Sp:=fun vs H Q _=>∃ (v:V) (n:Str) (inner:List Pc) (gap:Str) (lo hi:Int) (z:Str) (at' c:Nat),vs=[v,.str z,.int at',.int c]/\(Pie.rows n inner gap lo hi).At H v/\(Pie.rows n inner gap lo hi).ok/\(mPie (.rows n inner gap lo hi)).few/\(∀ p∈inner,p.short)/\at'<=z.length/\z.length<=90000/\c<=hi.toNat/\hi.toNat - c+1=m /\
 ∀ r vs' H',Same H H'->H r=none->H' r=some (.lst vs')->Paired (Tup (RrL inner) z H H') (noC (Mth.pRows (inner.map mPc) (tl gap) lo.toNat (hi.toNat - c) c ((tl z).drop at'))) vs'->Q (.ref r) H'
theorem jpL (T:Txt w K mg D):∀ m,FnOk P w K mg base CX0 (m+2) D.aLawRowsReadings D.dLawRowsReadings ["piece","text","at","count"] (spRR m)
 | 0=>by
  refine T.fLawRowsReadings.ok scRR (fun vs H Q E h=>?_) (fun cdv A outer s H vs Q E hr h=>?_)
  ·obtain ⟨v,n,inner,gap,lo,hi,z,at',c,rfl,_⟩:=h; rfl
  ·obtain ⟨v,n,inner,gap,lo,hi,z,at',c,rfl,_,_,_,_,_,_,_,f,_⟩:=h; exact absurd f (by omega)
 | m+1=>by
  have GR:FnOk P w K mg base CX0 (m+2) D.aLawRowsReadings D.dLawRowsReadings ["piece","text","at","count"] (spRR m):=jpL T m
  have G:FnOk P w K mg base CX0 2 D.aLawLineReadings D.dLawLineReadings ["pieces","text","at"] spLR:=jpJ T
  refine T.fLawRowsReadings.ok scRR (fun vs H Q E h=>?_) (fun cdv A outer s H vs Q E hr h=>?_)
  ·obtain ⟨v,n,inner,gap,lo,hi,z,at',c,rfl,_⟩:=h; rfl
  ·obtain ⟨v,n,inner,gap,lo,hi,z,at',c,rfl,⟨pb,l,us,rfl,hpb,hl,hin⟩,okp,fwp,hsh,hat,hz,hc,hm,q⟩:=h
   have hr2:Room 2 _:=hr.mono (by omega)
   obtain ⟨_,hpo,hg,b0,b1,b2⟩:=okp
   obtain ⟨f1,f2,f3,f4⟩:=id fwp
   have hzs:z.length<=sizeLine:=Nat.le_of_lt (jaw (by omega))
   have zl:(tl z).length=z.length:=Array.length_toList
   have hg5:gap.length<=5:=hg.hi
   refine ⟨_,jac (jak (i:=4) scRR.nd rfl (Or.inl rfl) (jba jad))
    (jac (jaF (jao jkL (pv 3) (jam jaj (pv 0) jae (fun _ _=>rfl)) (jas _))
     (jaf (jap (jbv PySem.F.plainAttrs_list PySem.F.slot_list_append PySem.F.type_list_append jay (pv 4) (jaa (jbe (jaa (jba jad) (jaa (pv 2) jad))) jad)))) jav)
    (jac (jak (i:=5) scRR.nd rfl (Or.inl rfl) (jan jlo (jam jaj (pv 0) jae (fun _ _=>rfl)) (jbx jiA rfl T.zInt (by decide +kernel) (jaa (jbb jfl (pv 3) jae (jas _)) jad))))
    (jac (jaF (PW.pt (jcH (jao jhK (pv 3) (jam jaj (pv 0) jae (fun _ _=>rfl)) (jas _)) (jbX (jao jaZ (jaX jcg (pv 1) (jaS (pv 2)) (jaS (jan jaz (pv 2) (jal jaA rfl T.zLen PySem.boot_len (jaa (pv 5) jad))))) (pv 5) (jas _)))))
     (jaf (jaN PassesOwn.never rfl (jaL (jai G hr2 rfl T.mLawLineReadings T.fLawLineReadings.kp T.bLawLineReadings .nil jaq (jaa (jam jaj (pv 0) jae (fun _ _=>rfl)) (jaa (pv 1) (jaa (jan jaz (pv 2) (jal jaA rfl T.zLen PySem.boot_len (jaa (pv 5) jad))) jad))))) (jaB (i:=6) scRR.nd rfl (Or.inl rfl))
      (jaf (jaN PassesOwn.never rfl (jaL (jai GR hr rfl T.mLawRowsReadings T.fLawRowsReadings.kp T.bLawRowsReadings .nil jaq (jaa (pv 0) (jaa (pv 1) (jaa (jam jaj (pv 6) jae (fun _ _=>rfl)) (jaa (jan jaz (pv 3) jae) jad)))))) (jaB (i:=7) scRR.nd rfl (Or.inl rfl))
       (jaf (jap (jbv PySem.F.plainAttrs_list PySem.F.slot_list_append PySem.F.type_list_append jay (pv 4) (jaa (jbe (jaa (jan joz (jba (jaa (jam jaj (pv 6) jae (fun _ _=>rfl)) jad)) (jam jaj (pv 7) jae (fun _ _=>rfl))) (jaa (jam jaj (pv 7) jae (fun _ _=>rfl)) jad))) jad)))))))) jav)
    (jaf (jat (pv 4)))))),?_⟩
   dsimp only [cxK]
   refine ⟨Nat.zero_le _,fun r nr=>?_⟩
   have g0:=jah nr (.lst [])
   have hr0:(L2.upd H r (.lst [])) r=some (.lst []):=jab
   generalize hHr:L2.upd H r (.lst [])=Hr at *
   have hk:∃ o,Hr r=some o:=⟨_,hr0⟩
   generalize hgp:(if decide ((0:Int) < (c:Int))=true then gap else Str.empty)=gp at *
   have gpl:gp.length<=5:=by
    rw [<- hgp]; split
    ·exact hg5
    ·exact Nat.zero_le _
   generalize hL0:(if lo.toNat<=c then [(([]:List (List R1)),(tl z).drop at')] else [])=L0 at *
   refine ⟨_,rfl,_,rfl,pb,_,_,_,rfl,rfl,SqT.of (g0 _ _ hpb),rfl,_,_,rfl,rfl,_,rfl,?_⟩
   refine jlF (Hr:=Hr) (fun H1=>∃ ws,Same H H1/\H1 r=some (.lst ws)/\Paired (Tup (RrL inner) z Hr H1) L0 ws) ?_ (fun h key=>?_) (fun h=>?_)
   ·rintro H1 ⟨ws,s1,hr1,hws⟩
    have hpb1:=s1 _ _ hpb
    have hl1:=s1 _ _ hl
    have L01:L0.length<=1:=by rw [<- hL0]; split <;> simp
    refine ⟨_,rfl,pb,_,_,_,rfl,rfl,SqT.of hpb1,rfl,_,rfl,_,_,rfl,rfl,.inr ⟨_,rfl,gap,decide ((0:Int) < (c:Int)),rfl,rfl,?_⟩⟩
    rw [hgp]
    have out:∀ ws' H2,Same H H2->H2 r=some (.lst ws')->Paired (Tup (RrL inner) z Hr H2) (noC (Mth.pRows (inner.map mPc) (tl gap) lo.toNat (hi.toNat - c) c ((tl z).drop at'))) ws'->Q (.ref r) H2:=fun ws' H2 s2 hr2 h2=>q r ws' H2 s2 nr hr2 (Paired.mapP h2 fun _ _ y=>y.older jgG fun b hb=>by subst hHr; exact jff hb)
    refine ⟨_,rfl,_,rfl,pb,_,_,_,rfl,rfl,SqT.of hpb1,rfl,_,_,rfl,rfl,_,rfl,jiI (fun hA=>?_) (fun hB=>?_)⟩
    ·have hA':(c:Int) < hi:=of_decide_eq_true hA
     have e1:some ((at':Int)+(gp.length:Int))=Option.map Int.ofNat (some (at'+gp.length)):=rfl
     have e2:((z.cps.toList.drop ((some at').getD 0)).take ((some (at'+gp.length)).getD z.length - (some at').getD 0))=((tl z).drop at').take gp.length:=by
      show ((tl z).drop at').take (at'+gp.length - at')=_
      rw [Nat.add_sub_cancel_left]
     have gps:gp.length<=sizeLine:=Nat.le_of_lt (jaw (by omega))
     obtain ⟨m',hm'⟩:∃ m',hi.toNat - c=m'+1:=⟨hi.toNat - c - 1,by omega⟩
     have lenA:(noC (Mth.pRows (inner.map mPc) (tl gap) lo.toNat (hi.toNat - c) c ((tl z).drop at'))).length<=91:=Nat.le_trans (Mth.len_rows f4 f3) (Mth.rowsB_le (by omega))
     rw [hm',Mth.noC_rows,jpK,hgp,hL0] at out lenA
     refine ⟨_,rfl,_,rfl,_,rfl,_,rfl,_,rfl,gp,rfl,gps,_,_,rfl,rfl,_,rfl,z,some at',some (at'+gp.length),rfl,rfl,e1,hzs,?_⟩
     rw [e2]
     rcases jhE (w:=gp) hat with ⟨st,le,eq⟩ | ⟨st,ne⟩
     ·rw [st] at out lenA
      dsimp only at out lenA
      refine ⟨_,rfl,rfl,_,rfl,jbJ (congrArg V.str eq) ?_⟩
      refine ⟨_,rfl,pb,_,_,_,rfl,rfl,SqT.of hpb1,rfl,_,rfl,_,rfl,_,rfl,gp,rfl,gps,_,_,rfl,rfl,l,us,inner,z,at'+gp.length,rfl,hl1,Paired.mapP hin fun _ _ y=>y.mono s1,fun p hp'=>⟨hpo.all p hp',f4 _ (List.mem_map_of_mem hp'),hsh p hp'⟩,hpo.nd,by rw [List.length_map] at f3; exact f3,le,hz,fun q0 vsL H2 s2 nq0 hq0 hXL=>?_⟩
      generalize hXe:noC (Mth.pL (inner.map mPc) ((tl z).drop (at'+gp.length)))=X at *
      let f:List R1×List Nat->Fd (List (List R1)):=fun x=>(noC (Mth.pRows (inner.map mPc) (tl gap) lo.toNat m' (c+1) x.2)).map fun y=>(x.1::y.1,y.2)
      have s02:=s1.trans s2
      have hX:Paired (Tup (jky inner) z Hr H2) X vsL:=Paired.mapP hXL fun _ _ y=>y.older jhD fun b hb=>jeg hHr s1 ⟨_,hr1⟩ hb
      have q0r:q0≠r:=fun e=>by rw [e,hr1] at nq0; cases nq0
      have lenT:∀ j,(L0++(X.take j).flatMap f).length<=91:=fun j=>by
       have h1:(L0++X.flatMap f).length<=91:=lenA
       have h2:=Mth.len_take_flat (f:=f) (l:=X) (j:=j)
       rw [List.length_append] at h1 ⊢
       omega
      refine ⟨q0,rfl,⟨_,SqL.of hq0⟩,jbg (xs:=vsL) (fun j=>RrA pb z at' c r gp inner H2 Hr (L0++(X.take j).flatMap f))
       ⟨ws,_,_,rfl,Besides.refl,s2 _ _ hr1,by rw [List.take_zero,List.flatMap_nil,List.append_nil]; exact Paired.mapP hws fun _ _ y=>y.same jcZ s2⟩ (fun j σ H3 hj e=>?_) (fun j y σ H3 hy e D1 hD1=>?_) (fun σ H3 e=>?_)⟩
      ·obtain ⟨_,_,_,_,e4,_⟩:=e
       exact SqL.of (e4 _ _ hq0 q0r)
      ·obtain ⟨ws',o6,o7,rfl,e4,hr3,hws'⟩:=e
       obtain ⟨x,ex,hTx⟩:=Paired.two hX hy
       have hTx3:=hTx.bes jcY e4 hk
       obtain ⟨b,u,pl,rfl,hb,nb,⟨⟨dd,rfl,hdd,ndd⟩,hrl⟩,hpl,hdr⟩:=hTx3
       have s03:Same H H3:=jaE s02 nr e4
       have eT:=Mth.flat_take_succ (f:=f) ex
       have hTl:=lenT (j+1)
       rw [eT] at hTl
       refine ⟨_,rfl,_,rfl,_,rfl,b,_,_,_,rfl,rfl,SqT.of hb,rfl,_,rfl,_,_,rfl,rfl,.ref pb,n,inner,gap,lo,hi,z,pl,c+1,rfl,⟨pb,l,us,rfl,s03 _ _ hpb,s03 _ _ hl,Paired.mapP hin fun _ _ y=>y.mono s03⟩,⟨‹_›,hpo,hg,b0,b1,b2⟩,fwp,hsh,hpl,hz,by omega,by omega,fun q1 vsR H4 s4 nq1 hq1 hYR=>?_⟩
       have em:hi.toNat - (c+1)=m':=by omega
       rw [em,hdr] at hYR
       have hY:Paired (Tup (RrL inner) z Hr H4) (noC (Mth.pRows (inner.map mPc) (tl gap) lo.toNat m' (c+1) x.2)) vsR:=Paired.mapP hYR fun _ _ y=>y.older jgG fun b hb=>jeg hHr s03 ⟨_,hr3⟩ hb
       have fx:f x=(noC (Mth.pRows (inner.map mPc) (tl gap) lo.toNat m' (c+1) x.2)).map fun y=>(x.1::y.1,y.2):=rfl
       have ysz:∀ y∈noC (Mth.pRows (inner.map mPc) (tl gap) lo.toNat m' (c+1) x.2),y.1.length<=m':=fun y hy=>jfY hy
       generalize noC (Mth.pRows (inner.map mPc) (tl gap) lo.toNat m' (c+1) x.2)=Y at *
       rw [fx,List.length_append,List.length_append,List.length_map] at hTl
       have q1r:q1≠r:=fun e=>by rw [e,hr3] at nq1; cases nq1
       refine ⟨q1,rfl,⟨_,SqL.of hq1⟩,jbg (xs:=vsR) (fun k=>RrB pb z at' c r gp b inner H4 Hr (L0++(X.take j).flatMap f++(f x).take k))
        ⟨ws',_,rfl,Besides.refl,s4 _ _ hr3,by rw [List.take_zero,List.append_nil]; exact Paired.mapP hws' fun _ _ y=>y.same jcZ s4⟩ (fun k σ H5 hk' e=>?_) (fun k y' σ H5 hy' e D2 hD2=>?_) (fun σ H5 e=>?_)⟩
       ·obtain ⟨_,_,_,e5,_⟩:=e
        exact SqL.of (e5 _ _ hq1 q1r)
       ·obtain ⟨ws2,o7',rfl,e5,hr5,hws2⟩:=e
        obtain ⟨y2,ey,hTy⟩:=Paired.two hY hy'
        obtain ⟨b2,u2,pl2,rfl,hb2,nb2,⟨l2,us2,rfl,hl2,nl2,hp2⟩,hpl2,hdr2⟩:=hTy.bes jgF e5 hk
        have hTx5:=(hTx.bes jcY e4 hk).same jbM s4 |>.bes jcY e5 hk
        obtain ⟨b',u',pl',eb',hb',nb',⟨⟨dd',eu',hdd',ndd'⟩,_⟩,_,_⟩:=hTx5
        cases eb'
        have s05:Same H H5:=jaE (s03.trans s4) nr e5
        have us2l:us2.length<=3:=by
         have h1:=ysz y2 (List.mem_of_getElem? ey)
         have h3:=hp2.length
         omega
        have hwl:ws2.length<=91:=by
         rw [<- hws2.length,List.length_append,List.length_append,List.length_take,fx,List.length_map]
         have:=Nat.min_le_right k Y.length
         omega
        refine ⟨_,rfl,.inl ⟨rfl,_,SqL.of hr5⟩,_,rfl,b,_,_,_,rfl,rfl,SqT.of hb',rfl,(by show 1<=sizeLine; decide),fun l3 nl3=>?_⟩
        have g6:=jah nl3 (.lst [u'])
        have hl36:(L2.upd H5 l3 (.lst [u'])) l3=some (.lst [u']):=jab
        generalize L2.upd H5 l3 (.lst [u'])=H6 at *
        refine ⟨_,rfl,b2,_,_,_,rfl,rfl,SqT.of (g6 _ _ hb2),rfl,l3,l2,_,_,rfl,rfl,hl36,g6 _ _ hl2,Nat.le_of_lt (jaw (by show 1+us2.length<=100000; omega)),fun l4 nl4=>?_⟩
        have g7:=jah nl4 (.lst ([u']++us2))
        have hl47:(L2.upd H6 l4 (.lst ([u']++us2))) l4=some (.lst ([u']++us2)):=jab
        generalize L2.upd H6 l4 (.lst ([u']++us2))=H7 at *
        have g57:=g6.trans g7
        have hr7:=g57 _ _ hr5
        refine ⟨_,rfl,b2,_,_,_,rfl,rfl,SqT.of (g57 _ _ hb2),rfl,(by show 2<=sizeLine; decide),fun b3 nb3=>?_⟩
        have gg:=Tup.grow' (R:=RrL inner) (z:=z) (y:=(x.1::y2.1,y2.2)) (u:=.ref l4) (e:=pl2) jgF jcZ hHr (Same.refl _) nr (s05.trans g57) hr7 (Paired.mapP hws2 fun _ _ y=>y.same jcZ g57) nb3 ⟨l4,[u']++us2,rfl,hl47,jeg hHr (s05.trans g6) ⟨_,g6 _ _ hr5⟩ nl4,.cons ⟨dd',eu',g57 _ _ hdd',ndd'⟩ (Paired.mapP hp2 fun _ _ y=>y.same g57)⟩ hpl2 hdr2
        have gk:=jah nb3 (.tup [.ref l4,.int (pl2:Int)])
        refine ⟨r,ws2,.ref b3,rfl,rfl,gk _ _ hr7,jaw (by omega),?_⟩
        refine hD2 _ _ ⟨ws2++[.ref b3],_,rfl,?_,gg.2.1,?_⟩
        ·intro bb oo h1 h2'
         rw [upd_ne h2']
         exact gk _ _ (g57 _ _ (e5 _ _ h1 h2'))
        ·have ek:(f x).take (k+1)=(f x).take k++[(x.1::y2.1,y2.2)]:=jau (by rw [fx,List.getElem?_map,ey]; rfl)
         rw [ek,<- List.append_assoc]
         exact gg.2.2
       ·obtain ⟨ws2,o7',rfl,e5,hr5,hws2⟩:=e
        refine hD1 _ _ ⟨ws2,_,_,rfl,?_,hr5,?_⟩
        ·intro bb oo h1 h2'
         exact e5 _ _ (s4 _ _ (e4 _ _ h1 h2')) h2'
        ·rw [eT]
         have:(f x).take vsR.length=f x:=by
          rw [List.take_of_length_le]
          rw [fx,List.length_map,hY.length]; exact Nat.le_refl _
         rw [this,List.append_assoc] at hws2
         exact hws2
      ·obtain ⟨ws',o6,o7,rfl,e4,hr3,hws'⟩:=e
       have hXl:vsL.length=X.length:=hX.length.symm
       rw [hXl,List.take_length] at hws'
       exact ⟨_,rfl,out ws' H3 (jaE s02 nr e4) hr3 hws'⟩
     ·rw [st] at out
      dsimp only at out
      rw [List.append_nil] at out
      refine ⟨_,rfl,rfl,_,rfl,jaJ (fun h=>ne (V.str.inj h)) ?_⟩
      exact ⟨_,rfl,out ws H1 s1 hr1 hws⟩
    ·have hB':¬ (c:Int) < hi:=fun h=>hB (decide_eq_true h)
     have e0:hi.toNat - c=0:=by omega
     rw [e0,Mth.noC_rows0] at out
     rw [if_pos (by omega)] at hL0
     rw [<- hL0] at hws
     exact jbA ⟨_,rfl,out ws H1 s1 hr1 hws⟩
   ·have h':lo<=(c:Int):=of_decide_eq_true h
    rw [if_pos (by omega)] at hL0
    refine ⟨_,rfl,.inl ⟨rfl,_,SqL.of hr0⟩,Nat.zero_le _,fun l0 nl0=>?_⟩
    have g1:=jah nl0 (.lst [])
    have hl0:(L2.upd Hr l0 (.lst [])) l0=some (.lst []):=jab
    generalize L2.upd Hr l0 (.lst [])=H1 at *
    refine ⟨_,rfl,(by show 2<=sizeLine; decide),fun b nb=>?_⟩
    have gg:=Tup.grow' (R:=RrL inner) (z:=z) (y:=(([]:List (List R1)),(tl z).drop at')) (u:=.ref l0) (e:=at') jgF jcZ hHr (Same.refl _) nr (g0.trans g1) (g1 _ _ hr0) .nil nb ⟨l0,[],rfl,hl0,jeg hHr g0 ⟨_,hr0⟩ nl0,.nil⟩ hat rfl
    have gk:=jah nb (.tup [.ref l0,.int (at':Int)])
    refine ⟨r,[],.ref b,rfl,rfl,gk _ _ (g1 _ _ hr0),jaw (by decide),key _ ⟨[]++[.ref b],gg.1,gg.2.1,?_⟩⟩
    rw [<- hL0]
    exact gg.2.2
   ·have h':¬ lo<=(c:Int):=fun z=>h (decide_eq_true z)
    rw [if_neg (by omega)] at hL0
    rw [<- hL0]
    exact ⟨[],g0,hr0,.nil⟩
end
def FrL (ps:List Pie):Hp->Hp->List RQ->V->Prop:=fun H0 H rs v=>FrmD H0 H ps rs v/\rs.length=ps.length
theorem jnY {ps:List Pie}:Mov (FrL ps):=⟨fun {H0 H H' x r v} e hb h=>by
 obtain ⟨⟨a,kvs,h1,h2,h3,h4⟩,h5⟩:=h
 refine ⟨⟨a,kvs,h1,e _ _ h2 (fun y=>?_),h3,Paired.mapP h4 fun _ _ q=>q.bes e (.inl hb)⟩,h5⟩
 obtain ⟨o,hb⟩:=hb
 rw [y,hb] at h3; cases h3⟩
theorem jnZ {ps:List Pie}:Old (FrL ps):=⟨fun o h=>⟨h.1.older o,h.2⟩⟩
theorem jfh {ps:List Pie}:Sam (FrL ps):=⟨fun e h=>⟨h.1.same e,h.2⟩⟩
def RqL (pc:Pie) (H0 H:Hp) (r:RQ) (v:V):Prop:=match pc,r with
 | .one (.say _),.one .no=>v=.non
 | .one (.ask ..),.one (.tx w)=>v=.str ⟨w.toArray⟩
 | .rows _ inner ..,.rows rr=>RvAt H0 H (.rows inner rr) v
 | _,_=>False
theorem joa {pc:Pie}:Mov (RqL pc):=⟨fun {H0 H H' x r v} e hb h=>by
 unfold RqL at h ⊢
 split at h
 ·exact h
 ·exact h
 ·exact RvAt.bes e (.inl hb) h
 ·exact h.elim⟩
theorem jhF {pc:Pie}:Sam (RqL pc):=⟨fun {H0 H H' r v} e h=>by
 unfold RqL at h ⊢
 split at h
 ·exact h
 ·exact h
 ·exact RvAt.same e h
 ·exact h.elim⟩
theorem jfZ:∀ {ps:List Pie} {rs:List RQ} {p:Pie} {r:RQ},rs.length=ps.length->entF (ps++[p]) (rs++[r])=entF ps rs++ent p r
 | [],[],p,r,_=>by show ent p r++[]=[]++ent p r; simp
 | q::ps,x::rs,p,r,h=>by
  show ent q x++entF (ps++[p]) (rs++[r])=ent q x++entF ps rs++ent p r
  rw [jfZ (by simpa using h),List.append_assoc]
theorem jil {p:Pie} {r:RQ} {n:Str} (h:n∈(ent p r).map (·.1)):n∈p.nm:=by
 unfold ent at h
 split at h
 ·simpa [Pie.nm,Pc.nm] using h
 ·simpa [Pie.nm] using h
 ·simp at h
theorem jey:∀ {ps:List Pie} {rs:List RQ} {n:Str},n∈(entF ps rs).map (·.1)->n∈ps.flatMap Pie.nm
 | [],_,_,h=>by simp [entF] at h
 | _::_,[],_,h=>by simp [entF] at h
 | p::ps,r::rs,n,h=>by
  rw [show entF (p::ps) (r::rs)=ent p r++entF ps rs from rfl,List.map_append] at h
  rw [List.flatMap_cons]
  rcases List.mem_append.mp h with e | e
  ·exact List.mem_append_left _ (jil e)
  ·exact List.mem_append_right _ (jey e)
theorem jkz {ps:List Pie} (nd:(ps.flatMap Pie.nm).Nodup) {i:Nat} {p:Pie} {n:Str} (h:ps[i]?=some p) (hn:n∈p.nm):n∉(ps.take i).flatMap Pie.nm:=by
 have e:ps.flatMap Pie.nm=(ps.take i).flatMap Pie.nm++(ps.drop i).flatMap Pie.nm:=by rw [<- List.flatMap_append,List.take_append_drop]
 rw [e,List.nodup_append] at nd
 intro hn'
 refine nd.2.2 n hn' n ?_ rfl
 rw [List.drop_eq_getElem?_toList_append,h]
 show n∈([p]++ps.drop (i+1)).flatMap Pie.nm
 rw [List.flatMap_append]
 exact List.mem_append_left _ (by simpa using hn)
theorem jhG {α β γ:Type} {R:β->γ->Prop} {g:α->β}:∀ {xs:List α} {ys:List γ},Paired (fun x y=>R (g x) y) xs ys->Paired R (xs.map g) ys
 | _,_,.nil=>.nil
 | _,_,.cons h t=>.cons h (jhG t)
theorem RowD.yng {H H' Hs:Hp} (y:∀ b o,H' b=some o->H b=none->Hs b=none) {inner:List Pc} {r:List R1} {v:V} (h:RowD H H' inner r v):RowD Hs H' inner r v:=by
 obtain ⟨a,h1,h2,h3⟩:=h
 exact ⟨a,h1,h2,y _ _ h2 h3⟩
theorem RvAt.yng {H H' Hs:Hp} (y:∀ b o,H' b=some o->H b=none->Hs b=none):∀ {rv:RV} {v:V},RvAt H H' rv v->RvAt Hs H' rv v
 | .tx _,_,h=>h
 | .rows inner rr,_,⟨l,us,h1,h2,h3,h4⟩=>⟨l,us,h1,h2,y _ _ h2 h3,Paired.mapP h4 fun _ _ q=>q.yng y⟩
theorem EntAt.yng {H H' Hs:Hp} (y:∀ b o,H' b=some o->H b=none->Hs b=none) {e:Str×RV} {kv:Key×V} (h:EntAt H H' e kv):EntAt Hs H' e kv:=⟨h.1,h.2.yng y⟩
theorem EntAt.same' {H0 H H':Hp} (e:Same H H') {en:Str×RV} {kv:Key×V} (h:EntAt H0 H en kv):EntAt H0 H' en kv:=⟨h.1,h.2.same e⟩
theorem job {t:Str} {H0 H:Hp} {r:RQ} {v:V} (h:RqL (.one (.say t)) H0 H r v):r=.one .no/\v=.non:=by
 cases r with
 | one r=>cases r with
  | no=>exact ⟨rfl,h⟩
  | tx w=>exact h.elim
 | rows rr=>exact h.elim
theorem joc {n sg:Str} {lo hi:Int} {H0 H:Hp} {r:RQ} {v:V} (h:RqL (.one (.ask n sg lo hi)) H0 H r v):∃ w,r=.one (.tx w)/\v=.str ⟨w.toArray⟩:=by
 cases r with
 | one r=>cases r with
  | no=>exact h.elim
  | tx w=>exact ⟨w,rfl,h⟩
 | rows rr=>exact h.elim
theorem jlH {n:Str} {inner:List Pc} {gap:Str} {lo hi:Int} {H0 H:Hp} {r:RQ} {v:V} (h:RqL (.rows n inner gap lo hi) H0 H r v):∃ rr,r=.rows rr/\RvAt H0 H (.rows inner rr) v:=by
 cases r with
 | one r=>cases r <;> exact h.elim
 | rows rr=>exact ⟨rr,rfl,h⟩
theorem jpM {p:MP} {t:List Nat}:noC (Mth.pL [p] t)=(noC (Mth.p1 p t)).map fun x=>([x.1],x.2):=by
 rw [Mth.noC_consL]
 induction noC (Mth.p1 p t) with
 | nil=>rfl
 | cons x l ih=>rw [List.flatMap_cons,List.map_cons,ih]; rfl
theorem jod {pc:Pc} (ok:pc.ok):∃ w0 key tg,pc.tup=V.str w0::V.str key::tg/\V.str w0≠V.str "rows"/\∀ t y,y∈noC (Mth.p1 (mPc pc) t)->∀ H0 H,RqL (.one pc) H0 H (.one y.1) ((jaW (jcW (jbN [pc] [y.1])) (Sum.inr key:Key)).getD .non):=by
 cases pc with
 | say z =>
  refine ⟨"say",z,_,rfl,ne_sr,fun t y hy H0 H=>?_⟩
  have hy':y∈noC (Mth.p1 (.say (tl z)) t):=hy
  rw [Mth.noC_say] at hy'
  have:y.1=.no:=by
   cases hs:Mth.strip (tl z) t with
   | none=>rw [hs] at hy'; cases hy'
   | some r =>
    rw [hs] at hy'
    rw [List.mem_singleton.mp hy']
  rw [this]; exact rfl
 | ask n sg lo hi =>
  obtain ⟨_,_,_,b0,b1,b2⟩:=ok
  refine ⟨"ask",n,_,rfl,ne_ra.symm,fun t y hy H0 H=>?_⟩
  have hy':y∈noC (Mth.p1 (.ask (tl sg) lo.toNat hi.toNat) t):=hy
  rw [Mth.noC_p1a (by omega)] at hy'
  obtain ⟨s,_,rfl⟩:=List.mem_map.mp hy'
  show (jaW [((Sum.inr n:Key),V.str _)] (Sum.inr n)).getD .non=_
  rw [jaU]
  all_goals rfl
theorem atI0 {a:V} {tg:List V}:atI (a::tg) 0=some a:=by
 unfold atI ixN
 rw [if_pos (by decide),if_pos (by show ((0:Int)) < ((a::tg).length:Int); rw [List.length_cons]; omega)]; rfl
theorem atI1 {a b:V} {tg:List V}:atI (a::b::tg) 1=some b:=by
 unfold atI ixN
 rw [if_pos (by decide),if_pos (by show ((1:Int)) < ((a::b::tg).length:Int); rw [List.length_cons,List.length_cons]; omega)]; rfl
theorem jpN:∀ n∈names6,n.length<=100:=by decide +kernel
theorem jpO:∀ n∈names3,n.length<=100:=by decide +kernel
section
variable {P:Program} {w:World} {K:PySem.W.Frag} {mg:Str->Option Value} {base:Heap} {D:Adr}
abbrev RsA (l:Addr) (z:Str) (H:Hp) (ps:List Pie) (i:Nat) (σ:St) (H':Hp):Prop:=∃ (qa:Addr) (vs':List V) (o3 o4 o5 o6 o7 o8:Option V),σ=[some (.ref l),some (.str z),some (.ref qa),o3,o4,o5,o6,o7,o8]/\Same H H'/\H qa=none/\H' qa=some (.lst vs')/\Paired (Tup (FrL (ps.take i)) z H H') (noC (Mth.pF ((ps.take i).map mPie) (tl z))) vs'
abbrev RsB (l:Addr) (z:Str) (qa pb r:Addr) (H' Hs:Hp) (ps1:List Pie) (L:Fd (List RQ)) (σ:St) (H2:Hp):Prop:=∃ (ws:List V) (o5 o6 o7 o8:Option V),σ=[some (.ref l),some (.str z),some (.ref qa),some (.ref pb),some (.ref r),o5,o6,o7,o8]/\Same H' H2/\H2 r=some (.lst ws)/\Paired (Tup (FrL ps1) z Hs H2) L ws
abbrev RsC (l:Addr) (z:Str) (qa pb r b qE:Addr) (H4 Hs:Hp) (ps1:List Pie) (L:Fd (List RQ)) (σ:St) (H5:Hp):Prop:=∃ (ws2:List V) (o7 o8:Option V),σ=[some (.ref l),some (.str z),some (.ref qa),some (.ref pb),some (.ref r),some (.ref b),some (.ref qE),o7,o8]/\Besides r H4 H5/\H5 r=some (.lst ws2)/\Paired (Tup (FrL ps1) z Hs H5) L ws2
theorem scRS:FnScope ["pieces","text","found","piece","longer","one","ends","end","values"] ["pieces","text"] (jag jbo):=⟨rfl,rfl,rfl,by decide +kernel,rfl,by decide +kernel,by decide +kernel⟩
def spRA:Sp:=fun vs H Q E=>∃ m,m<=3/\spRR m vs H Q E
theorem ok_RA (T:Txt w K mg D):FnOk P w K mg base CX0 5 D.aLawRowsReadings D.dLawRowsReadings ["piece","text","at","count"] spRA :=
 have G:∀ m,m<=3->FnOk P w K mg base CX0 5 D.aLawRowsReadings D.dLawRowsReadings ["piece","text","at","count"] (spRR m):=fun m hm=>(jpL T m).mono (by omega)
 ⟨fun vs H Q E ⟨m,hm,h⟩=>(G m hm).len vs H Q E h,fun A outer s H args us vs Q E hr he hb hv ⟨m,hm,hs⟩=>(G m hm).run A outer s H args us vs Q E hr he hb hv hs⟩
def spRS:Sp:=fun vs H Q _=>∃ (l:Addr) (us:List V) (ps:List Pie) (z:Str),vs=[.ref l,.str z]/\H l=some (.lst us)/\Paired (Pie.At H) ps us/\FewOk ps/\z.length<=90000 /\
 ∀ r vs' H',Same H H'->H r=none->H' r=some (.lst vs')->Paired (FrmD H H' ps) ((Mth.rds (ps.map mPie) (tl z)).map (·.1)) vs'->Q (.ref r) H'
theorem ok_RS (T:Txt w K mg D):FnOk P w K mg base CX0 6 D.aLawReadings D.dLawReadings ["pieces","text"] spRS:=by
 have GL:FnOk P w K mg base CX0 2 D.aLawLineReadings D.dLawLineReadings ["pieces","text","at"] spLR:=jpJ T
 have GR:FnOk P w K mg base CX0 5 D.aLawRowsReadings D.dLawRowsReadings ["piece","text","at","count"] spRA:=ok_RA T
 refine T.fLawReadings.ok scRS (fun vs H Q E h=>?_) (fun cdv A outer s H vs Q E hr h=>?_)
 ·obtain ⟨l,us,ps,z,rfl,_⟩:=h; rfl
 ·obtain ⟨l,us,ps,z,rfl,hl,hp,fw,hz,q⟩:=h
  have hr2:Room 2 _:=hr.mono (by decide)
  have hu:=jeC hr
  refine ⟨_,jac (jak (i:=2) scRS.nd rfl (Or.inl rfl) (jba (jaa (jbe (jaa jcq (jaa jae jad))) jad)))
   (jac (jaN PassesOwn.never rfl (jaL (pv 0)) (jaB (i:=3) scRS.nd rfl (Or.inr rfl))
    (jac (jak (i:=4) scRS.nd rfl (Or.inl rfl) (jba jad))
    (jac (jaN PassesOwn.never rfl (jaL (pv 2)) (jaB (i:=5) scRS.nd rfl (Or.inl rfl))
     (jac (jaF (jao jaZ (jam jaj (pv 3) jae (fun _ _=>rfl)) jax (jas _))
      (jaf (jak (i:=6) scRS.nd rfl (Or.inl rfl) (jai GR hr rfl T.mLawRowsReadings T.fLawRowsReadings.kp T.bLawRowsReadings .nil jaq (jaa (pv 3) (jaa (pv 1) (jaa (jam jaj (pv 5) jae (fun _ _=>rfl)) (jaa jae jad)))))))
      (jac (jak (i:=6) scRS.nd rfl (Or.inl rfl) (jai GL hr2 rfl T.mLawLineReadings T.fLawLineReadings.kp T.bLawLineReadings .nil jaq (jaa (jba (jaa (pv 3) jad)) (jaa (pv 1) (jaa (jam jaj (pv 5) jae (fun _ _=>rfl)) jad)))))
      (jaf (jdd (i:=6) (cp:=[(3,"piece")]) (te:=tTup (jaR (jmd (tOp (jgm K) (jbh 0) (tC (.int 0))) (tOp (jgm K) (jbh 1) (tC (.int 1)))) (jaR (tOp (jgm K) (jbh 0) (tC (.int 1))) jdv))) scRS.nd rfl rfl (CompScope.of (jag jbo) ["pieces","text","found","piece","longer","one","ends","end","values"] rfl rfl (by decide +kernel)) rfl (jaL (pv 6)) (fun _ _ _ _ _=>jcc)
       (fun _ _ _ _ _=>jbe (jaa (jkW hu (jam jaj (pv 0) jae (fun _ _=>rfl)) (jam jaj (pv 1) jae (fun _ _=>rfl)) ⟨rfl,rfl,rfl,rfl⟩) (jaa (jam jaj (pv 0) jae (fun _ _=>rfl)) jad)))))))
     (jaf (jaN PassesOwn.never rfl (jaL (pv 6)) (jaB (i:=7) scRS.nd rfl (Or.inl rfl))
      (jac (jak (i:=8) scRS.nd rfl (Or.inl rfl) (jbx jdp rfl T.zDict (by decide +kernel) (jaa (jam jaj (pv 5) jae (fun _ _=>rfl)) jad)))
      (jac (jaF (jao jgi (jam jaj (pv 3) jae (fun _ _=>rfl)) jax (jas _))
       (jaf (jca hu (pv 8) (jam jaj (pv 3) jae (fun _ _=>rfl)) (jam jaj (pv 7) jae (fun _ _=>rfl)) rfl)) jav)
      (jaf (jap (jbv PySem.F.plainAttrs_list PySem.F.slot_list_append PySem.F.type_list_append jay (pv 4) (jaa (jbe (jaa (pv 8) (jaa (jam jaj (pv 7) jae (fun _ _=>rfl)) jad))) jad))))))))))
    (jaf (jak (i:=2) scRS.nd rfl (Or.inl rfl) (pv 4))))))
   (jaf (jat (jcB (cp:=[(1,"text")]) (tt:=jkM (tOp rEq (tOp (jgm K) (jbh 0) (tC (.int 1))) (tCB (fun vs H Q=>∃ x,vs=[V.str x]/\x.length<=sizeLine/\Q (.int (x.length:Int)) H) (jaR (jbh 1) jdv)))) (te:=tOp (jgm K) (jbh 0) (tC (.int 0))) (CompScope.of (jag jbo) ["pieces","text","found","piece","longer","one","ends","end","values"] rfl rfl (by decide +kernel)) rfl (jaL (pv 2))
    (fun _ _ _ _ _=>jiP (jao jaZ (jam jaj (pv 0) jae (fun _ _=>rfl)) (jal jaA rfl T.zLen PySem.boot_len (jaa (pv 1) jad)) (jas _))) (fun _ _ _ _ _=>jam jaj (pv 0) jae (fun _ _=>rfl)))))),?_⟩
  dsimp only [cxK]
  have hus:us.length=ps.length:=hp.length.symm
  have hzs:z.length<=sizeLine:=Nat.le_of_lt (jaw (by omega))
  have zl:(tl z).length=z.length:=Array.length_toList
  intro d nd
  have g1:=jah nd (.dK [])
  have hd1:(L2.upd H d (.dK [])) d=some (.dK []):=jab
  generalize L2.upd H d (.dK [])=Hd at *
  refine ⟨(by show 2<=sizeLine; decide),fun a na=>⟨(by show 1<=sizeLine; decide),fun q0 nq0=>?_⟩⟩
  have g2:=jah na (.tup [.ref d,.int 0])
  have ha2:(L2.upd Hd a (.tup [.ref d,.int 0])) a=some (.tup [.ref d,.int 0]):=jab
  generalize L2.upd Hd a (.tup [.ref d,.int 0])=Ha at *
  have g3:=jah nq0 (.lst [.ref a])
  have hq3:(L2.upd Ha q0 (.lst [.ref a])) q0=some (.lst [.ref a]):=jab
  generalize L2.upd Ha q0 (.lst [.ref a])=Hq at *
  have s3:=(g1.trans g2).trans g3
  have lenX:∀ i,(noC (Mth.pF ((ps.take i).map mPie) (tl z))).length<=3000:=fun i=>by
   refine Nat.le_trans (Mth.len_pF fun p hp'=>?_) ?_
   ·obtain ⟨p',h1,rfl⟩:=List.mem_map.mp hp'
    exact fw.few p' (List.mem_of_mem_take h1)
   ·rw [List.map_take]
    exact Nat.le_trans Mth.wtF_take (Mth.wtF_few (by rw [List.length_map]; exact fw.len) fw.rw)
  refine ⟨_,rfl,l,rfl,⟨_,SqL.of (s3 _ _ hl)⟩,jbg (xs:=us) (RsA l z H ps)
   ⟨q0,[.ref a],none,none,none,none,none,none,rfl,s3,(g1.trans g2).free nq0,hq3,?_⟩ (fun i σ H' hi e=>?_) (fun i x σ H' hx e D1 hD1=>?_) (fun σ H' e=>?_)⟩
  ·exact .cons ⟨a,.ref d,0,rfl,g3 _ _ ha2,g1.free na,⟨⟨d,[],rfl,g3 _ _ (g2 _ _ hd1),nd,.nil⟩,rfl⟩,Nat.zero_le _,rfl⟩ .nil
  ·obtain ⟨_,_,_,_,_,_,_,_,_,s1,_⟩:=e
   exact SqL.of (s1 _ _ hl)
  ·obtain ⟨qa,vs',o3,o4,o5,o6,o7,o8,rfl,s1,nqa,hqa,hX⟩:=e
   obtain ⟨p,ep,pat⟩:=Paired.two hp hx
   have mp:=List.mem_of_getElem? ep
   have okp:=fw.ok.all p mp
   have fwp:=fw.few p mp
   have nnp:=fw.nn p mp
   have nlp:∀ n∈p.nm,n.length<=100:=fun n hn=>jpN n (fw.nl n (List.mem_flatMap.mpr ⟨p,mp,hn⟩))
   generalize hXe:noC (Mth.pF ((ps.take i).map mPie) (tl z))=X at *
   let f:List RQ×List Nat->Fd (List RQ):=fun x=>(noC (Mth.pQ (mPie p) x.2)).map fun y=>(x.1++[y.1],y.2)
   have eF:noC (Mth.pF ((ps.take (i+1)).map mPie) (tl z))=X.flatMap f:=by
    rw [jau ep,List.map_append,<- hXe]
    exact Mth.noC_snocF
   have lenF:(X.flatMap f).length<=3000:=by rw [<- eF]; exact lenX (i+1)
   have lenT:∀ j,((X.take j).flatMap f).length<=3000:=fun j=>Nat.le_trans Mth.len_take_flat lenF
   refine ⟨Nat.zero_le _,fun r nr=>?_⟩
   have gr:=jah nr (.lst [])
   have hr0:(L2.upd H' r (.lst [])) r=some (.lst []):=jab
   generalize L2.upd H' r (.lst [])=Hr at *
   have nrH:H r=none:=s1.free nr
   obtain ⟨pb,w0,w1,wr,epv,hpb⟩:∃ pb w0 w1 wr,x=.ref pb/\H pb=some (.tup (w0::w1::wr)):=by
    cases p with
    | one pc=>obtain ⟨b,e1,e2⟩:=pat; cases pc <;> exact ⟨b,_,_,_,e1,e2⟩
    | rows n inner gap lo hi=>obtain ⟨b,l,vs,e1,e2,_⟩:=pat; exact ⟨b,_,_,_,e1,e2⟩
   subst epv
   generalize hHs:L2.upd H r (.lst [])=Hs at *
   have hk:∃ o,Hs r=some o:=⟨_,by rw [<- hHs]; exact jab⟩
   refine ⟨_,rfl,qa,rfl,⟨_,SqL.of (gr _ _ hqa)⟩,jbg (xs:=vs') (fun j=>RsB l z qa pb r H' Hs (ps.take (i+1)) ((X.take j).flatMap f))
    ⟨[],_,_,_,_,rfl,gr,hr0,.nil⟩ (fun j σ H2 hj e=>?_) (fun j y σ H2 hy e D2 hD2=>?_) (fun σ H2 e=>?_)⟩
   ·obtain ⟨_,_,_,_,_,_,s2,_⟩:=e
    exact SqL.of (s2 _ _ hqa)
   ·obtain ⟨ws,o5,o6,o7,o8,rfl,s2,hr2,hws⟩:=e
    obtain ⟨x,ex,b,u,pl,rfl,hb,nb,⟨⟨dd,kvs,rfl,hdd,ndd,hkv⟩,hrl⟩,hpl,hdr⟩:=Paired.two hX hy
    have eT:=Mth.flat_take_succ (f:=f) ex
    have s02:=s1.trans s2
    have hTl:=lenT (j+1)
    rw [eT] at hTl
    have fx:f x=(noC (Mth.pQ (mPie p) x.2)).map fun y=>(x.1++[y.1],y.2):=rfl
    have hlenY:(noC (Mth.pQ (mPie p) x.2)).length=(f x).length:=by rw [fx,List.length_map]
    rw [List.length_append] at hTl
    have rest:∀ (Dd:Ends) (H4:Hp) (qE:Addr) (vsE:List V) (o7 o8:Option V),(∀ σ' H'',RsB l z qa pb r H' Hs (ps.take (i+1)) ((X.take (j+1)).flatMap f) σ' H''->Dd.nx σ' H'') ->
      Same H2 H4->H4 qE=some (.lst vsE)->qE≠r->Paired (Tup (RqL p) z Hs H4) (noC (Mth.pQ (mPie p) x.2)) vsE ->
      tFor (jos K (jbh 6)) (jfj 7) (tSeq (joq (tCB (fun xs H Q=>∃ p kvs,xs=[V.ref p]/\Rd H p (.dK kvs)/\∀ l,H l=none->Q (.ref l) (L2.upd H l (.dK kvs))) (jaR (tOp (jgm K) (jbh 5) (tC (.int 0))) jdv)) (jfj 8)) (tSeq (tIfS (jkM (tOp rNe (tOp (jgm K) (jbh 3) (tC (.int 0))) (tC (.str "say")))) (joC (jbh 8) (tOp (jgm K) (jbh 3) (tC (.int 1))) (tOp (jgm K) (jbh 7) (tC (.int 0)))) jmS) (jgf (tBM K "list" jcA (jbh 4) (jaR (tTup (jaR (jbh 8) (jaR (tOp (jgm K) (jbh 7) (tC (.int 1))) jdv))) jdv))))) Dd [some (.ref l),some (.str z),some (.ref qa),some (.ref pb),some (.ref r),some (.ref b),some (.ref qE),o7,o8] H4:=by
     intro Dd H4 qE vsE o7 o8 hD s4 hqE qEr hY
     have s04:=s02.trans s4
     refine ⟨_,rfl,qE,rfl,⟨_,SqL.of hqE⟩,jbg (xs:=vsE) (fun k=>RsC l z qa pb r b qE H4 Hs (ps.take (i+1)) ((X.take j).flatMap f++(f x).take k))
      ⟨ws,_,_,rfl,Besides.refl,s4 _ _ hr2,by rw [List.take_zero,List.append_nil]; exact Paired.mapP hws fun _ _ y=>y.same jfh s4⟩ (fun k σ H5 hk' e=>?_) (fun k y' σ H5 hy' e D3 hD3=>?_) (fun σ H5 e=>?_)⟩
     ·obtain ⟨_,_,_,_,e5,_⟩:=e
      exact SqL.of (e5 _ _ hqE qEr)
     ·obtain ⟨ws2,o7',o8',rfl,e5,hr5,hws2⟩:=e
      obtain ⟨y2,ey,hTy⟩:=Paired.two hY hy'
      have s05':Same H' H5:=jaE (s2.trans s4) nr e5
      have s05:Same H H5:=s1.trans s05'
      have hb5:=s05' _ _ hb
      have hdd5:=s05' _ _ hdd
      have hpb5:=s05 _ _ hpb
      have ddr:dd≠r:=fun e=>by rw [e,nr] at hdd; cases hdd
      have hkv5:Paired (EntAt Hs H5) (entF (ps.take i) x.1) kvs:=by
       refine Paired.mapP hkv fun _ _ q=>(q.yng fun b o hb hn=>?_).same' s05'
       rw [<- hHs,upd_ne (fun e=>by rw [e,nr] at hb; cases hb)]; exact hn
      have hwl:ws2.length<=3000:=by
       rw [<- hws2.length,List.length_append,List.length_take]
       have:=Nat.min_le_right k (f x).length
       omega
      refine ⟨_,rfl,b,_,_,_,rfl,rfl,SqT.of hb5,rfl,dd,kvs,rfl,.inl hdd5,fun d2 nd2=>?_⟩
      have g6:=jah nd2 (.dK kvs)
      have hd6:(L2.upd H5 d2 (.dK kvs)) d2=some (.dK kvs):=jab
      have sN:∀ o,Same H5 (L2.upd (L2.upd H5 d2 (.dK kvs)) d2 o):=fun o=>Same.updN g6 nd2 o
      generalize L2.upd H5 d2 (.dK kvs)=H6 at *
      have nd2s:Hs d2=none:=jeg hHs s05 ⟨_,hr5⟩ nd2
      obtain ⟨b2,u2,pl2,rfl,hb2,nb2,hRq,hpl2,hdr2⟩:=hTy.bes joa e5 hk
      have kvl:kvs.length<=6:=by
       rw [<- hkv.length]
       have h1:=jgD (ps.take i) x.1
       have h2:=fw.len
       rw [List.length_take] at h1
       omega
      have fin:∀ (H7:Hp) (kvs':List (Key×V)),Same H5 H7->H7 d2=some (.dK kvs')->Paired (EntAt Hs H7) (entF (ps.take (i+1)) (x.1++[y2.1])) kvs'->∀ Dd2:Ends,(∀ σ' H'',RsC l z qa pb r b qE H4 Hs (ps.take (i+1)) ((X.take j).flatMap f++(f x).take (k+1)) σ' H''->Dd2.nx σ' H'') ->
        jgf (tBM K "list" jcA (jbh 4) (jaR (tTup (jaR (jbh 8) (jaR (tOp (jgm K) (jbh 7) (tC (.int 1))) jdv))) jdv)) Dd2 [some (.ref l),some (.str z),some (.ref qa),some (.ref pb),some (.ref r),some (.ref b),some (.ref qE),some (.ref b2),some (.ref d2)] H7:=by
       intro H7 kvs' g57 hd7 hkv7 Dd2 hD2
       have hr7:=g57 _ _ hr5
       refine ⟨_,rfl,.inl ⟨rfl,_,SqL.of hr7⟩,_,rfl,_,rfl,b2,_,_,_,rfl,rfl,SqT.of (g57 _ _ hb2),rfl,(by show 2<=sizeLine; decide),fun b3 nb3=>?_⟩
       have gg:=Tup.grow' (R:=FrL (ps.take (i+1))) (z:=z) (y:=(x.1++[y2.1],y2.2)) (u:=.ref d2) (e:=pl2) jnY jfh hHs s1 nr (s05'.trans g57) hr7 (Paired.mapP hws2 fun _ _ y=>y.same jfh g57) nb3 ⟨⟨d2,kvs',rfl,hd7,nd2s,hkv7⟩,?_⟩ hpl2 hdr2
       ·have gk:=jah nb3 (.tup [.ref d2,.int (pl2:Int)])
        refine ⟨r,ws2,.ref b3,rfl,rfl,gk _ _ hr7,jaw (by omega),?_⟩
        refine hD2 _ _ ⟨ws2++[.ref b3],_,_,rfl,?_,gg.2.1,?_⟩
        ·intro bb oo h1 h2'
         rw [upd_ne h2']
         exact gk _ _ (g57 _ _ (e5 _ _ h1 h2'))
        ·have ek:(f x).take (k+1)=(f x).take k++[(x.1++[y2.1],y2.2)]:=jau (by rw [fx,List.getElem?_map,ey]; rfl)
         rw [ek,<- List.append_assoc]
         exact gg.2.2
       ·rw [jau ep,List.length_append,List.length_append,hrl]; rfl
      have eS:entF (ps.take (i+1)) (x.1++[y2.1])=entF (ps.take i) x.1++ent p y2.1:=by rw [jau ep,jfZ hrl]
      rw [eS] at fin
      have nin:∀ n∈p.nm,n∉(entF (ps.take i) x.1).map (·.1):=fun n hn h=>jkz fw.ok.nd ep hn (jey h)
      cases p with
      | one pc =>
       obtain ⟨b',e1,e2⟩:=pat
       cases e1
       have e26:=g6 _ _ (s05 _ _ e2)
       cases pc with
       | say t =>
        obtain ⟨hr1,hu2⟩:=job hRq
        refine ⟨_,rfl,pb,_,_,_,rfl,rfl,SqT.of e26,rfl,rfl,_,rfl,?_⟩
        rw [decide_eq_true rfl]
        refine jbA (fin H6 kvs g6 hd6 ?_ _ hD3)
        rw [hr1]
        show Paired _ (_++[]) _
        rw [List.append_nil]
        exact Paired.mapP hkv5 fun _ _ q=>q.same' g6
       | ask n sg lo hi' =>
        obtain ⟨wd,hr1,hu2⟩:=joc hRq
        refine ⟨_,rfl,pb,_,_,_,rfl,rfl,SqT.of e26,rfl,rfl,_,rfl,?_⟩
        rw [decide_eq_false ne_as]
        refine jdx ⟨_,rfl,b2,_,_,_,rfl,rfl,SqT.of (g6 _ _ hb2),rfl,_,rfl,_,rfl,pb,_,_,_,rfl,rfl,SqT.of e26,rfl,d2,_,rfl,DPut.k (k:=Sum.inr n) hd6 (jaw (by omega)),?_⟩
        refine fin _ (kvs++[(Sum.inr n,u2)]) (sN _) ?_ ?_ _ hD3
        ·rw [jab,jbw _ (jfa hkv5 (nin n (by simp [Pie.nm,Pc.nm])))]
        ·rw [hr1]
         exact Paired.snoc (Paired.mapP hkv5 fun _ _ q=>q.same' (sN _)) ⟨rfl,hu2⟩
      | rows n inner gap lo hi' =>
       obtain ⟨b',l',us',e1,e2,hl',hin⟩:=pat
       cases e1
       have e26:=g6 _ _ (s05 _ _ e2)
       obtain ⟨rr,hr1,hu2⟩:=jlH hRq
       refine ⟨_,rfl,pb,_,_,_,rfl,rfl,SqT.of e26,rfl,rfl,_,rfl,?_⟩
       rw [decide_eq_false ne_sr.symm]
       refine jdx ⟨_,rfl,b2,_,_,_,rfl,rfl,SqT.of (g6 _ _ hb2),rfl,_,rfl,_,rfl,pb,_,_,_,rfl,rfl,SqT.of e26,rfl,d2,_,rfl,DPut.k (k:=Sum.inr n) hd6 (jaw (by omega)),?_⟩
       refine fin _ (kvs++[(Sum.inr n,u2)]) (sN _) ?_ ?_ _ hD3
       ·rw [jab,jbw _ (jfa hkv5 (nin n (by simp [Pie.nm])))]
       ·rw [hr1]
        exact Paired.snoc (Paired.mapP hkv5 fun _ _ q=>q.same' (sN _)) ⟨rfl,hu2.same (sN _)⟩
     ·obtain ⟨ws2,o7',o8',rfl,e5,hr5,hws2⟩:=e
      refine hD _ _ ⟨ws2,_,_,_,_,rfl,jaE (s2.trans s4) nr e5,hr5,?_⟩
      rw [eT]
      have:(f x).take vsE.length=f x:=by
       rw [List.take_of_length_le]
       rw [<- hlenY,hY.length]; exact Nat.le_refl _
      rw [this] at hws2
      exact hws2
    have hb2:=s2 _ _ hb
    cases p with
    | one pc =>
     obtain ⟨b',e1,e2⟩:=pat
     cases e1
     have e22:=s02 _ _ e2
     obtain ⟨w0',key,tg,etup,hne,hval⟩:=jod okp
     have e2':=e22
     rw [etup] at e22
     refine ⟨_,rfl,pb,_,_,_,rfl,rfl,SqT.of e22,atI0,rfl,_,rfl,jaJ hne ?_⟩
     refine ⟨_,rfl,(by show 1<=sizeLine; decide),fun l1 nl1=>?_⟩
     have g4:=jah nl1 (.lst [.ref pb])
     have hl1:(L2.upd H2 l1 (.lst [.ref pb])) l1=some (.lst [.ref pb]):=jab
     generalize L2.upd H2 l1 (.lst [.ref pb])=H3 at *
     refine ⟨_,rfl,_,rfl,b,_,_,_,rfl,rfl,SqT.of (g4 _ _ hb2),rfl,l1,[.ref pb],[pc],z,pl,rfl,hl1,.cons ⟨pb,rfl,g4 _ _ e2'⟩ .nil,fun p hp'=>?_,?_,(by show 1<=2; decide),hpl,hz,fun qL vsL H4 s4 nqL hqL hY=>?_⟩
     ·rw [List.mem_singleton.mp hp']; exact ⟨okp,fwp,nlp⟩
     ·cases pc <;> simp [Pc.nm]
     have hY':Paired (Tup (jky [pc]) z H3 H4) ((noC (Mth.p1 (mPc pc) x.2)).map fun x=>([x.1],x.2)) vsL:=by rw [<- jpM,<- hdr]; exact hY
     have hv:∀ y∈noC (Mth.p1 (mPc pc) x.2),∀ H0 H,RqL (.one pc) H0 H (.one y.1) ((jaW (jcW (jbN [pc] [y.1])) (Sum.inr key:Key)).getD .non):=fun y hy=>hval x.2 y hy
     have e1q:noC (Mth.pQ (mPie (.one pc)) x.2)=(noC (Mth.p1 (mPc pc) x.2)).map fun x=>(RQ.one x.1,x.2):=Mth.noC_one
     have y3:(noC (Mth.p1 (mPc pc) x.2)).length<=3:=Mth.len_p1 fwp
     rw [e1q] at rest
     generalize noC (Mth.p1 (mPc pc) x.2)=Y1 at *
     have hvl:vsL.length=Y1.length:=by rw [<- hY'.length,List.length_map]
     have s24:=g4.trans s4
     refine ⟨_,rfl,qL,rfl,⟨_,SqL.of hqL⟩,jcd (xs:=vsL) (fun k ys H5=>Same H4 H5/\Paired (Tup (RqL (.one pc)) z Hs H5) ((Y1.take k).map fun x=>(RQ.one x.1,x.2)) ys) ⟨Same.refl _,.nil⟩ (fun k ys H5 hk' e=>?_) (Nat.le_of_lt (jaw (by omega))) (fun k y ys H5 hy e=>?_) (fun ys H5 e p hp'=>?_)⟩
     ·refine ⟨SqL.of (e.1 _ _ hqL),?_⟩
      rw [<- e.2.length,List.length_map,List.length_take]; exact Nat.min_le_left _ _
     ·obtain ⟨e5,e6⟩:=e
      obtain ⟨y2,ey,hT⟩:=Paired.two hY' hy
      rw [List.getElem?_map] at ey
      obtain ⟨y1,ey1,rfl⟩:∃ y1,Y1[k]?=some y1/\([y1.1],y1.2)=y2:=by
       cases h:Y1[k]? with
       | none=>rw [h] at ey; cases ey
       | some y1=>rw [h] at ey; exact ⟨y1,rfl,Option.some.inj ey⟩
      obtain ⟨b2,u2,pl2,rfl,hb25,nb2,⟨⟨d2,rfl,hd2,nd2⟩,_⟩,hpl2,hdr2⟩:=hT.same jbM e5
      have s25:=s24.trans e5
      refine ⟨_,rfl,b2,_,_,_,rfl,rfl,SqT.of hb25,rfl,d2,rfl,.inl ⟨_,.inl hd2⟩,_,rfl,pb,_,_,_,rfl,rfl,SqT.of (s25 _ _ e22),atI1,_,.inl ⟨_,Sum.inr key,.inl hd2,rfl,rfl⟩,_,rfl,b2,_,_,_,rfl,rfl,SqT.of hb25,rfl,(by show 2<=sizeLine; decide),fun b3 nb3=>?_⟩
      have g6:=jah nb3 (.tup [(jaW (jcW (jbN [pc] [y1.1])) (Sum.inr key:Key)).getD .non,.int (pl2:Int)])
      refine ⟨e5.trans g6,?_⟩
      rw [jau ey1,List.map_append]
      exact Paired.snoc (Paired.mapP e6 fun _ _ q=>q.same jhF g6) ⟨b3,_,pl2,rfl,jab,jeg hHs (s02.trans s25) ⟨_,s25 _ _ hr2⟩ nb3,hv y1 (List.mem_of_getElem? ey1) _ _,hpl2,hdr2⟩
     ·obtain ⟨e5,e6⟩:=e
      have g6:=jah hp' (.lst ys)
      have s25:=s24.trans e5
      refine rest _ _ p ys _ _ hD2 (s25.trans g6) jab (fun e=>by rw [e,s25 _ _ hr2] at hp'; cases hp') ?_
      rw [hvl,List.take_length] at e6
      exact Paired.mapP e6 fun _ _ q=>q.same jhF g6
    | rows n inner gap lo hi' =>
     obtain ⟨b',l',us',e1,e2,hl',hin⟩:=pat
     cases e1
     have e22:=s02 _ _ e2
     refine ⟨_,rfl,pb,_,_,_,rfl,rfl,SqT.of e22,rfl,rfl,_,rfl,jbJ rfl ?_⟩
     have hm3:hi'.toNat<=2:=fwp.2.1
     refine ⟨_,rfl,_,rfl,_,rfl,b,_,_,_,rfl,rfl,SqT.of hb2,rfl,hi'.toNat+1,by omega,.ref pb,n,inner,gap,lo,hi',z,pl,0,rfl,⟨pb,l',us',rfl,e22,s02 _ _ hl',Paired.mapP hin fun _ _ y=>y.mono s02⟩,okp,fwp,fun p hp' n hn=>jpO n (nnp n (List.mem_flatMap.mpr ⟨p,hp',hn⟩)),hpl,hz,Nat.zero_le _,by omega,fun qE vsE H4 s4 nqE hqE hY=>?_⟩
     refine rest _ H4 qE vsE _ _ hD2 s4 hqE (fun e=>by rw [e,hr2] at nqE; cases nqE) ?_
     show Paired _ (noC (Mth.pQ (.rows (inner.map mPc) (tl gap) lo.toNat hi'.toNat) x.2)) _
     rw [Mth.noC_rowsQ]
     rw [hdr,Nat.sub_zero] at hY
     refine jhG (Paired.mapP hY fun y v h=>?_)
     obtain ⟨a1,u1,p1,h1,h2,h3,h4,h5,h6⟩:=h.older jgG (fun b hb=>jeg hHs s02 ⟨_,hr2⟩ hb)
     exact ⟨a1,u1,p1,h1,h2,h3,h4,h5,h6⟩
   ·obtain ⟨ws,o5,o6,o7,o8,rfl,s2,hr2,hws⟩:=e
    refine ⟨_,rfl,hD1 _ _ ⟨r,ws,_,_,_,_,_,_,rfl,s1.trans s2,nrH,hr2,?_⟩⟩
    have hXl:vs'.length=X.length:=hX.length.symm
    rw [hXl,List.take_length] at hws
    rw [eF]
    exact Paired.mapP hws fun _ _ q=>q.older jnZ fun b h=>by subst hHs; exact jff h
  ·obtain ⟨qa,vs',o3,o4,o5,o6,o7,o8,rfl,s1,nqa,hqa,hX⟩:=e
   rw [hus,List.take_length] at hX
   have hX3:=lenX ps.length
   rw [List.take_length] at hX3
   rw [Mth.rds_noC] at q
   generalize noC (Mth.pF (ps.map mPie) (tl z))=X at *
   have hXl:vs'.length=X.length:=hX.length.symm
   refine ⟨_,rfl,qa,rfl,⟨_,SqL.of hqa⟩,jer (xs:=vs') (fun i ys H2=>H2=H'/\Paired (FrmD H H' ps) (((X.take i).filter fun x=>decide (x.2=[])).map (·.1)) ys) ⟨rfl,.nil⟩ (fun i ys H2 hi e=>?_) (Nat.le_of_lt (jaw (by omega))) (fun i x ys H2 hx e=>?_) (fun ys H2 e p hp'=>?_)⟩
   ·obtain ⟨rfl,e⟩:=e
    refine ⟨SqL.of hqa,?_⟩
    rw [<- e.length,List.length_map]
    refine Nat.le_trans (List.length_filter_le _ _) ?_
    rw [List.length_take]; exact Nat.min_le_left _ _
   ·obtain ⟨rfl,e⟩:=e
    obtain ⟨y,ey,b,u,pl,rfl,hb,nb,⟨hF,hrl⟩,hpl,hdr⟩:=Paired.two hX hx
    have hnil:y.2=[]↔pl=z.length:=by
     rw [<- hdr,List.drop_eq_nil_iff,zl]; omega
    have et:X.take (i+1)=X.take i++[y]:=jau ey
    refine ⟨_,rfl,b,_,_,_,rfl,rfl,SqT.of hb,rfl,_,rfl,z,rfl,hzs,rfl,_,rfl,jiI (fun hA=>?_) (fun hB=>?_)⟩
    ·have hA':pl=z.length:=by
      have:=V.int.inj (of_decide_eq_true hA)
      omega
     refine ⟨_,rfl,b,_,_,_,rfl,rfl,SqT.of hb,rfl,rfl,?_⟩
     rw [et,List.filter_append,List.map_append]
     have:([y].filter fun x=>decide (x.2=[]))=[y]:=by
      rw [List.filter_cons,decide_eq_true (hnil.mpr hA'),if_pos rfl]; rfl
     rw [this]
     exact Paired.snoc e hF
    ·have hB':¬ pl=z.length:=fun h=>hB (decide_eq_true (by rw [h]))
     refine ⟨rfl,?_⟩
     rw [et,List.filter_append]
     have:([y].filter fun x=>decide (x.2=[]))=[]:=by
      rw [List.filter_cons,decide_eq_false (fun h=>hB' (hnil.mp h)),if_neg (by decide)]; rfl
     rw [this,List.append_nil]
     exact e
   ·obtain ⟨rfl,e⟩:=e
    rw [hXl,List.take_length] at e
    have g:=jah hp' (.lst ys)
    exact q p ys _ (s1.trans g) (s1.free hp') jab (Paired.mapP e fun _ _ y=>y.same g)
theorem scTx:FnScope ["script","pieces","text","at"] ["script","pieces"] (jag jeP):=⟨rfl,rfl,rfl,by decide +kernel,rfl,by decide +kernel,by decide +kernel⟩
def jpP (K:PySem.W.Frag):Sp:=fun vs H Q _=>∃ (a l:Addr) (ns:List Int) (us:List V) (ps:List Pie),vs=[.ref a,.ref l]/\Scr K H a ns/\H l=some (.lst us)/\Paired (Pie.At H) ps us/\FormOk ps /\
 ∀ z H',Same H H'->z.length<=2000->Q (.str z) H'
theorem joe (l:List Nat):(⟨l.toArray⟩:Str).length=l.length:=List.size_toArray
theorem jof (T:Txt w K mg D):FnOk P w K mg base CX0 6 D.aLawText D.dLawText ["script","pieces"] (jpP K):=by
 have G:FnOk P w K mg base CX0 2 D.aLawDraw D.dLawDraw ["script","k"] (jds K):=jcF T
 have GV:FnOk P w K mg base CX0 5 D.aLawValues D.dLawValues ["script","start","pieces"] (jhz K):=jkr T
 have GW:FnOk P w K mg base CX0 2 D.aLawWritten D.dLawWritten ["pieces","values"] jfW:=jij T
 refine T.fLawText.ok scTx (fun vs H Q E h=>?_) (fun cdv A outer s H vs Q E hr h=>?_)
 ·obtain ⟨a,l,ns,us,ps,rfl,_⟩:=h; rfl
 ·obtain ⟨a,l,ns,us,ps,rfl,hS,hl,hp,ok,q⟩:=h
  have hr2:Room 2 _:=hr.mono (by decide)
  refine ⟨_,jac (jak (i:=2) scTx.nd rfl (Or.inl rfl) (jai GW hr2 rfl T.mLawWritten T.fLawWritten.kp T.bLawWritten .nil jaq (jaa (pv 1) (jaa (jai GV hr rfl T.mLawValues T.fLawValues.kp T.bLawValues .nil jaq (jaa (pv 0) (jaa jae (jaa (pv 1) jad)))) jad))))
   (jac (jak (i:=3) scTx.nd rfl (Or.inl rfl) (jan jaT (jai G hr2 rfl T.mLawDraw T.fLawDraw.kp T.bLawDraw .nil jaq (jaa (pv 0) (jaa jae jad))) (jan jaz (jal jaA rfl T.zLen PySem.boot_len (jaa (pv 2) jad)) jae)))
   (jac (jaF (jao jaZ (jan jaT (jai G hr2 rfl T.mLawDraw T.fLawDraw.kp T.bLawDraw .nil jaq (jaa (pv 0) (jaa jae jad))) jae) jae (jas _)) (jaf (jat (jan jbd (jaX jcg (pv 2) jbZ (jaS (pv 3))) (jaX jcg (pv 2) (jaS (jan jaz (pv 3) jae)) jbZ)))) jav)
   (jac (jaF (jao jaZ (jan jaT (jai G hr2 rfl T.mLawDraw T.fLawDraw.kp T.bLawDraw .nil jaq (jaa (pv 0) (jaa jae jad))) jae) jae (jas _)) (jaf (jat (jan jbd (jan jbd (jaX jcg (pv 2) jbZ (jaS (pv 3))) (jam jlZ jax (jan jaT (jai G hr2 rfl T.mLawDraw T.fLawDraw.kp T.bLawDraw .nil jaq (jaa (pv 0) (jaa jae jad))) jae) (fun _ _=>rfl))) (jaX jcg (pv 2) (jaS (pv 3)) jbZ)))) jav)
   (jaf (jat (pv 2)))))),?_⟩
  refine ⟨_,rfl,_,rfl,_,rfl,a,l,ns,300,us,ps,rfl,hS,by decide,by decide,hl,hp,ok,fun d kv H1 s1 _ hd1 hD1 _ hV1 _=>?_⟩
  have fit1:∀ p∈ps,jfH (FOf H1 kv) p:=fun p hp=>jnV (hV1 p hp)
  have hz:=jkx ok fit1
  refine ⟨l,us,ps,FOf H1 kv,d,kv,rfl,s1 _ _ hl,Paired.mapP hp fun _ _ z=>z.mono s1,ok,.inl hd1,fun n y z=>jpG hD1 n y z,fit1,fun H2 s2=>?_⟩
  generalize jlj ps (FOf H1 kv)=z at *
  have s02:=s1.trans s2
  have hS2:=hS.mono s02
  have hzs:z.length<=sizeLine:=Nat.le_of_lt (jaw (by omega))
  have a0:0<=jaM ns 4 % ((z.length:Int)+1):=Int.emod_nonneg _ (by omega)
  obtain ⟨c,hc,eat,_⟩:=jki (xs:=("ab0, -":Str).cps.toList) (i:=jaM ns 5 % 6) (Int.emod_nonneg _ (by decide)) (by rw [show (("ab0, -":Str).cps.toList.length:Int)=6 by decide +kernel]; exact Int.emod_lt_of_pos _ (by decide))
  refine ⟨_,rfl,a,ns,4,rfl,hS2,by decide,by decide,_,rfl,z,rfl,hzs,_,_,rfl,rfl,_,_,rfl,rfl,(by show (0:Int) < (z.length:Int)+1; omega),?_⟩
  obtain ⟨at',hat⟩:=Int.eq_ofNat_of_zero_le a0
  have zl:(tl z).length=z.length:=Array.length_toList
  have cl:∀ (x y:Nat),(⟨(((tl z).drop x).take y).toArray⟩:Str).length<=900:=fun x y=>by
   rw [joe,List.length_take,List.length_drop]; omega
  have hcl:(⟨#[c]⟩:Str).length=1:=rfl
  refine ⟨_,rfl,a,ns,3,rfl,hS2,by decide,by decide,_,_,rfl,rfl,(by show (0:Int) < 5; decide),rfl,_,rfl,jiI (fun _=>?_) (fun _=>?_)⟩
  ·refine ⟨_,rfl,_,rfl,_,rfl,z,none,some at',rfl,rfl,congrArg some hat,hzs,_,rfl,_,rfl,_,_,rfl,rfl,_,rfl,z,some (at'+1),none,rfl,congrArg (fun x=>some (x+1)) hat,rfl,hzs,_,_,rfl,rfl,Nat.le_of_lt (jaw (Nat.le_trans (Nat.add_le_add (cl _ _) (cl _ _)) (by decide))),q _ _ s02 ?_⟩
   rw [strLen_append]
   exact Nat.le_trans (Nat.add_le_add (cl _ _) (cl _ _)) (by decide)
  refine ⟨_,rfl,a,ns,3,rfl,hS2,by decide,by decide,_,_,rfl,rfl,(by show (0:Int) < 5; decide),rfl,_,rfl,jiI (fun _=>?_) (fun _=>?_)⟩
  ·refine ⟨_,rfl,_,rfl,_,rfl,z,none,some at',rfl,rfl,congrArg some hat,hzs,_,rfl,a,ns,5,rfl,hS2,by decide,by decide,_,_,rfl,rfl,(by show (0:Int) < 6; decide),_,_,c,rfl,rfl,Nat.le_of_lt (jaw (by decide +kernel)),eat,_,_,rfl,rfl,Nat.le_of_lt (jaw (Nat.le_trans (Nat.add_le_add (cl _ _) (Nat.le_of_eq hcl)) (by decide))),_,rfl,_,rfl,_,rfl,z,some at',none,rfl,congrArg some hat,rfl,hzs,_,_,rfl,rfl,?_,q _ _ s02 ?_⟩
   ·refine Nat.le_of_lt (jaw ?_)
    rw [strLen_append]
    exact Nat.le_trans (Nat.add_le_add (Nat.add_le_add (cl _ _) (Nat.le_of_eq hcl)) (cl _ _)) (by decide)
   ·rw [strLen_append,strLen_append]
    exact Nat.le_trans (Nat.add_le_add (Nat.add_le_add (cl _ _) (Nat.le_of_eq hcl)) (cl _ _)) (by decide)
  ·exact ⟨_,rfl,q z H2 s02 (by omega)⟩
open Mth (R1 RQ rds rds_iff)
theorem scTw:FnScope ["self","one","other"] ["self","one","other"] (jag jea):=⟨rfl,rfl,rfl,by decide +kernel,rfl,by decide +kernel,by decide +kernel⟩
def spTw (D:Adr):Sp:=fun vs H Q _=>∃ (a:Addr) (u v:V),vs=[.ref a,u,v]/\H a=some (jcf a D.cTwofold none)/\∀ d,H d=none->d≠a->Q .non (L2.upd (L2.upd (L2.upd (L2.upd H a (jcf a D.cTwofold none)) a (jcf a D.cTwofold (some d))) d (XDx d [("one",u)])) d (XDx d [("other",v),("one",u)]))
theorem ok_Tw (T:Txt w K mg D):FnOk P w K mg base CX0 1 D.aTwofoldI D.dTwofoldI ["self","one","other"] (spTw D):=by
 refine T.fTwofoldI.ok scTw (fun vs H Q E h=>?_) (fun cdv A outer s H vs Q E hr h=>?_)
 ·obtain ⟨a,u,v,rfl,_⟩:=h; rfl
 ·obtain ⟨a,u,v,rfl,ha,q⟩:=h
  refine ⟨_,jac (jap (jnp (jaV (v:=.ref D.cFormError) rfl T.mgFormError rfl) T.xbFormError (jaa (pv 0) (jaa (pv 1) (jaa (pv 2) jad))))) (jac (jnr (pv 0) (pv 1) rfl) (jaf (jns (pv 0) (pv 2) rfl))),?_⟩
  refine ⟨rfl,_,rfl,_,rfl,_,rfl,a,D.cTwofold,none,[u,v],rfl,(by show 2<=1000; decide),ha,T.xiTwofold.xm,?_⟩
  refine ⟨_,rfl,_,rfl,a,D.cTwofold,rfl,jab,T.xiTwofold.xm,T.nTwofoldOne,fun d hd ne=>?_⟩
  refine ⟨_,rfl,_,rfl,a,D.cTwofold,d,_,rfl,by rw [upd_ne (Ne.symm ne),jab],Ne.symm ne,jab,(by show 1<=99; decide),T.xiTwofold.xm,T.nTwofoldOther,q d ?_ ne⟩
  rw [upd_ne ne] at hd
  exact hd
structure ReadX (D:Adr) (Q:VK) (E:XK) (H:Hp) (ps:List Pie) (L:List (List RQ)):Prop where
 no:L=[]->∀ H',Same H H'->E (.ref D.cNoReading) none H'
 one:∀ r,L=[r]->∀ u H',Same H H'->FrmD H H' ps r u->Q u H'
 two:∀ r0 r1 t,L=r0::r1::t->∀ u0 u1 d H',Same H H'->FrmD H H' ps r0 u0->FrmD H H' ps r1 u1->H' d=some (XDx d [("other",u1),("one",u0)])->H d=none->E (.ref D.cTwofold) (some d) H'
theorem scRead:FnScope ["form","text","found"] ["form","text"] (jag jnB):=⟨rfl,rfl,rfl,by decide +kernel,rfl,by decide +kernel,by decide +kernel⟩
def jkA (D:Adr):Sp:=fun vs H Q E=>∃ (H0:Hp) (ps:List Pie) (v:V) (z:Str),vs=[v,.str z]/\FormAt D.cl H0 H ps v/\FormOk ps/\z.length<=90000/\ReadX D Q E H ps ((rds (ps.map mPie) (tl z)).map (·.1))
theorem jlI (T:Txt w K mg D):FnOk P w K mg base (CXr P w) 9 D.aRead D.dRead ["form","text"] (jkA D):=by
 have G:FnOk P w K mg base CX0 8 D.aReadings D.dReadings ["form","text","most"] (spRd D):=ok_Rd T
 have GT:FnOk P w K mg base CX0 1 D.aTwofoldI D.dTwofoldI ["self","one","other"] (spTw D):=ok_Tw T
 refine T.fRead.okR scRead (fun vs H Q E h=>?_) (fun cdv A outer s H vs Q E hr h hX=>?_)
 ·obtain ⟨H0,ps,v,z,rfl,_⟩:=h; rfl
 ·obtain ⟨H0,ps,v,z,rfl,hf,ok,hz,hR⟩:=h
  have hr2:=hr.mono (show 2<=8 by decide)
  refine ⟨_,jac (jak (i:=2) scRead.nd rfl (Or.inl rfl) (jai G hr rfl T.mReadings T.kpReadings T.bReadings .nil jaq (jaa (pv 0) (jaa (pv 1) (jaa jae jad)))))
   (jac (jaF (jao jaZ (jal jar rfl T.zLen PySem.boot_len (jaa (pv 2) jad)) jae (jas _)) (jaf (jlf (E:=E) T.xNoReading rfl T.mgNoReading (jaa jax jad) hX)) jav)
   (jac (jaF (jao jaZ (jal jar rfl T.zLen PySem.boot_len (jaa (pv 2) jad)) jae (jas _)) (jaf (jji (E:=E) T.xiTwofold.xm (jlh T.xiTwofold GT hr2 rfl T.mgTwofold T.bTwofoldI .nil jaq (jaa (jam jaG (pv 2) jae (fun _ _=>rfl)) (jaa (jam jaG (pv 2) jae (fun _ _=>rfl)) jad))) hX)) jav)
   (jaf (jat (jam jaG (pv 2) jae (fun _ _=>rfl)))))),?_⟩
  refine ⟨_,rfl,_,rfl,H0,ps,v,z,2,rfl,hf,ok,hz,by decide,fun q fv H1 nq s1 hq hv=>?_⟩
  rw [List.map_take] at hv
  generalize (rds (ps.map mPie) (tl z)).map (·.1)=L at *
  cases L with
  | nil =>
   cases hv
   refine ⟨_,rfl,q,_,rfl,.inl (SqL.of hq),rfl,_,rfl,jbJ rfl ?_⟩
   exact ⟨(by show 1<=1000; decide),hR.no rfl H1 s1⟩
  | cons r0 t =>
   cases t with
   | nil =>
    have hv':Paired (FrmD H H1 ps) [r0] fv:=hv
    cases hv' with
    | cons h0 ht =>
     cases ht
     refine ⟨_,rfl,q,_,rfl,.inl (SqL.of hq),rfl,_,rfl,jaJ (fun h=>by have:=V.int.inj h; simp at this) ?_⟩
     refine ⟨_,rfl,q,_,rfl,.inl (SqL.of hq),rfl,_,rfl,jaJ (fun h=>by have:=V.int.inj h; simp at this) ?_⟩
     exact ⟨_,rfl,q,_,_,_,rfl,rfl,SqL.of hq,rfl,hR.one r0 rfl _ H1 s1 h0⟩
   | cons r1 t =>
    have hv':Paired (FrmD H H1 ps) [r0,r1] fv:=hv
    cases hv' with
    | cons h0 ht =>
     cases ht with
     | cons h1 ht =>
      cases ht
      refine ⟨_,rfl,q,_,rfl,.inl (SqL.of hq),rfl,_,rfl,jaJ (fun h=>by have:=V.int.inj h; simp at this) ?_⟩
      refine ⟨_,rfl,q,_,rfl,.inl (SqL.of hq),rfl,_,rfl,jbJ rfl ?_⟩
      refine ⟨_,rfl,q,_,_,_,rfl,rfl,SqL.of hq,rfl,_,rfl,q,_,_,_,rfl,rfl,SqL.of hq,rfl,(by show 2<=1000; decide),fun a ha n0=>⟨a,_,_,rfl,jab,fun d hd ne=>⟨rfl,a,some d,rfl,n0,?_,?_⟩⟩⟩
      ·rw [upd_ne (Ne.symm ne),upd_ne (Ne.symm ne),jab]
      ·rw [upd_ne ne] at hd
       have sd:∀ w1 w2 w3:V,Same H1 (del (L2.upd (L2.upd (L2.upd (L2.upd (L2.upd H1 a (jcf a D.cTwofold none)) a (jcf a D.cTwofold none)) a (jcf a D.cTwofold (some d))) d (XDx d [("one",w1)])) d (XDx d [("other",w2),("one",w3)])) a):=fun w1 w2 w3 b o h=>by
        have h1:=ne_of_none h ha
        have h2:=ne_of_none h hd
        rw [jgZ h1,upd_ne h2,upd_ne h2,upd_ne h1,upd_ne h1,upd_ne h1]
        exact h
       refine hR.two r0 r1 t rfl _ _ d _ (s1.trans (sd _ _ _)) (h0.same (sd _ _ _)) (h1.same (sd _ _ _)) ?_ (s1.free hd)
       rw [jgZ ne,jab]
theorem scAlone:FnScope ["e","found"] ["e"] (jag jdY):=⟨rfl,rfl,rfl,by decide +kernel,rfl,by decide +kernel,by decide +kernel⟩
def jkB (D:Adr):Sp:=fun vs H Q _=>∃ (a:Addr) (dx:Option Addr),vs=[.ref a]/\((H a=some (jic a (.ref D.cNoReading) dx)/\∀ H',Same H H'->Q (.int 2) H')\/(H a=some (jic a (.ref D.cTwofold) dx)/\∀ H',Same H H'->Q (.int 3) H'))
theorem jlJ (T:Txt w K mg D):FnOk P w K mg base CX0 1 D.aLawAlone D.dLawAlone ["e"] (jkB D):=by
 refine T.fLawAlone.ok scAlone (fun vs H Q E h=>?_) (fun cdv A outer s H vs Q E hr h=>?_)
 ·obtain ⟨a,dx,rfl,_⟩:=h; rfl
 ·obtain ⟨a,dx,rfl,h⟩:=h
  refine ⟨_,jac (jak (i:=1) scAlone.nd rfl (Or.inl rfl) (jba (jaa (jal jcr rfl T.zIsinstance PyProof.Rows.boot_isinstance (jaa (pv 0) (jaa (jaV (v:=.ref D.cBadForm) rfl T.mgBadForm rfl) jad)))
    (jaa (jal jcr rfl T.zIsinstance PyProof.Rows.boot_isinstance (jaa (pv 0) (jaa (jaV (v:=.ref D.cBadValue) rfl T.mgBadValue rfl) jad)))
    (jaa (jal jcr rfl T.zIsinstance PyProof.Rows.boot_isinstance (jaa (pv 0) (jaa (jaV (v:=.ref D.cNoReading) rfl T.mgNoReading rfl) jad)))
    (jaa (jal jcr rfl T.zIsinstance PyProof.Rows.boot_isinstance (jaa (pv 0) (jaa (jaV (v:=.ref D.cTwofold) rfl T.mgTwofold rfl) jad))) jad))))))
   (jac (jaF (PW.pt (jkH (jgH (jbu (jal jcr rfl T.zIsinstance PyProof.Rows.boot_isinstance (jaa (pv 0) (jaa (jaV (v:=.ref D.cFormError) rfl T.mgFormError rfl) jad)))))
     (jkH (jgH (jbu (jal jcr rfl T.zIsinstance PyProof.Rows.boot_isinstance (jaa (pv 0) (jaa (jmQ (v:=.ty "ValueError") rfl T.zValueError (by decide +kernel) rfl) jad)))))
     (jlO (jao jgi (jbv PySem.F.plainAttrs_list PySem.F.slot_list_count PySem.F.type_list_count jjf (pv 1) (jaa jdu jad)) jae (jas _)))))) jfi jav)
   (jaf (jat (jbv PySem.F.plainAttrs_list PySem.F.slot_list_index PySem.F.type_list_index jjg (pv 1) (jaa jdu jad))))),?_⟩
  rcases h with ⟨ha,q⟩ | ⟨ha,q⟩
  ·refine ⟨_,rfl,a,D.cNoReading,dx,false,T.xcNoReading,ha,.inl ⟨_,rfl,T.isNoReadingBadForm⟩,_,rfl,a,D.cNoReading,dx,false,T.xcNoReading,ha,.inl ⟨_,rfl,T.isNoReadingBadValue⟩,_,rfl,a,D.cNoReading,dx,true,T.xcNoReading,ha,.inl ⟨_,rfl,T.isNoReadingNoReading⟩,_,rfl,a,D.cNoReading,dx,false,T.xcNoReading,ha,.inl ⟨_,rfl,T.isNoReadingTwofold⟩,(by show 4<=sizeLine; decide),fun l hl=>?_⟩
   have e1:=jah hl (.lst [V.bl false,.bl false,.bl true,.bl false])
   have ha1:=e1 _ _ ha
   refine ⟨_,rfl,a,D.cNoReading,dx,true,T.xcNoReading,ha1,.inl ⟨_,rfl,T.isNoReadingFormError⟩,_,rfl,jbA ?_⟩
   refine ⟨_,rfl,a,D.cNoReading,dx,true,T.xcNoReading,ha1,.inr ⟨_,rfl,T.isNoReadingVE⟩,_,rfl,jbA ?_⟩
   refine ⟨_,rfl,.inl ⟨rfl,_,SqL.of jab⟩,l,[false,false,true,false],rfl,rfl,jab,rfl,_,rfl,jnb rfl ?_⟩
   exact ⟨_,rfl,.inl ⟨rfl,_,SqL.of jab⟩,l,[false,false,true,false],2,rfl,rfl,jab,rfl,(fun m hm=>by cases m with | zero=>rfl | succ m=>cases m with | zero=>rfl | succ m=>omega),(by decide),q _ e1⟩
  ·refine ⟨_,rfl,a,D.cTwofold,dx,false,T.xcTwofold,ha,.inl ⟨_,rfl,T.isTwofoldBadForm⟩,_,rfl,a,D.cTwofold,dx,false,T.xcTwofold,ha,.inl ⟨_,rfl,T.isTwofoldBadValue⟩,_,rfl,a,D.cTwofold,dx,false,T.xcTwofold,ha,.inl ⟨_,rfl,T.isTwofoldNoReading⟩,_,rfl,a,D.cTwofold,dx,true,T.xcTwofold,ha,.inl ⟨_,rfl,T.isTwofoldTwofold⟩,(by show 4<=sizeLine; decide),fun l hl=>?_⟩
   have e1:=jah hl (.lst [V.bl false,.bl false,.bl false,.bl true])
   have ha1:=e1 _ _ ha
   refine ⟨_,rfl,a,D.cTwofold,dx,true,T.xcTwofold,ha1,.inl ⟨_,rfl,T.isTwofoldFormError⟩,_,rfl,jbA ?_⟩
   refine ⟨_,rfl,a,D.cTwofold,dx,true,T.xcTwofold,ha1,.inr ⟨_,rfl,T.isTwofoldVE⟩,_,rfl,jbA ?_⟩
   refine ⟨_,rfl,.inl ⟨rfl,_,SqL.of jab⟩,l,[false,false,false,true],rfl,rfl,jab,rfl,_,rfl,jnb rfl ?_⟩
   exact ⟨_,rfl,.inl ⟨rfl,_,SqL.of jab⟩,l,[false,false,false,true],3,rfl,rfl,jab,rfl,(fun m hm=>by cases m with | zero=>rfl | succ m=>cases m with | zero=>rfl | succ m=>cases m with | zero=>rfl | succ m=>omega),(by decide),q _ e1⟩
theorem scTried:FnScope ["form","text","found","e"] ["form","text"] (jag jdZ):=⟨rfl,rfl,rfl,by decide +kernel,rfl,by decide +kernel,by decide +kernel⟩
structure TriedX (D:Adr) (Q:VK) (H:Hp) (ps:List Pie) (L:List (List RQ)):Prop where
 no:L=[]->∀ a H',Same H H'->H' a=some (jic a (.ref D.cNoReading) none)->Q (.ref a) H'
 one:∀ r,L=[r]->∀ u H',Same H H'->FrmD H H' ps r u->Q u H'
 two:∀ r0 r1 t,L=r0::r1::t->∀ a u0 u1 d H',Same H H'->FrmD H H' ps r0 u0->FrmD H H' ps r1 u1->H' a=some (jic a (.ref D.cTwofold) (some d))->H' d=some (XDx d [("other",u1),("one",u0)])->Q (.ref a) H'
def jkC (D:Adr):Sp:=fun vs H Q _=>∃ (H0:Hp) (ps:List Pie) (v:V) (z:Str),vs=[v,.str z]/\FormAt D.cl H0 H ps v/\FormOk ps/\z.length<=90000/\TriedX D Q H ps ((rds (ps.map mPie) (tl z)).map (·.1))
theorem jlK (T:Txt w K mg D):FnOk P w K mg base CX0 10 D.aLawTried D.dLawTried ["form","text"] (jkC D):=by
 have G:FnOk P w K mg base (CXr P w) 9 D.aRead D.dRead ["form","text"] (jkA D):=jlI T
 refine T.fLawTried.ok scTried (fun vs H Q E h=>?_) (fun cdv A outer s H vs Q E hr h=>?_)
 ·obtain ⟨H0,ps,v,z,rfl,_⟩:=h; rfl
 ·obtain ⟨H0,ps,v,z,rfl,hf,ok,hz,hT⟩:=h
  refine ⟨_,jac (jak (i:=2) scTried.nd rfl (Or.inl rfl) jlN)
   (jac (joQ (i:=3) (tb:=fun E=>joq (jgk (jkA D) [] E (jaR (jbh 0) (jaR (jbh 1) jdv))) (jfj 2)) scTried.nd rfl rfl rfl T.mgFormError rfl rfl rfl
    (fun pn xe E hx=>jaf (jak (i:=2) scTried.nd rfl (Or.inl rfl) (jai G hr rfl T.mRead T.fRead.kp T.bRead .nil hx (jaa (pv 0) (jaa (pv 1) jad)))))
    (fun a=>jaf (jak (i:=2) scTried.nd rfl (Or.inl rfl) (pv 3))))
   (jaf (jat (pv 2)))),?_⟩
  refine ⟨_,rfl,_,rfl,H0,ps,v,z,rfl,hf,ok,hz,⟨fun hL H' e=>?_,fun r hL u H' e hu=>?_,fun r0 r1 t hL u0 u1 d H' e h0 h1 hd _=>?_⟩⟩
  ·refine ⟨T.emNoReading,fun a ha=>?_⟩
   have e2:=jah ha (jic a (.ref D.cNoReading) none)
   exact ⟨_,rfl,_,rfl,hT.no hL a _ (e.trans e2) jab⟩
  ·exact ⟨_,rfl,hT.one r hL u H' e hu⟩
  ·refine ⟨T.emTwofold,fun a ha=>?_⟩
   have e2:=jah ha (jic a (.ref D.cTwofold) (some d))
   exact ⟨_,rfl,_,rfl,hT.two r0 r1 t hL a u0 u1 d _ (e.trans e2) (h0.same e2) (h1.same e2) jab (e2 _ _ hd)⟩
end
theorem jlL {ps:List Pie} {t:List Nat} (ok:FormOk ps):∀ rs∈(rds (ps.map mPie) t).map (·.1),Mth.FitF (ps.map mPie) rs:=fun rs h=>by
 obtain ⟨x,hx,rfl⟩:=List.mem_map.mp h
 exact ((rds_iff (jke ok)).mp hx).1
theorem jhH {u v:V}:List.lookup ("other":Str) [(("other":Str),u),("one",v)]=some u:=by simp [List.lookup]
theorem jmO {u v:V}:List.lookup ("one":Str) [(("other":Str),u),("one",v)]=some v:=by
 have:(("one":Str)=="other")=false:=by decide +kernel
 simp [List.lookup,this]
theorem isDk {K:PySem.W.Frag} {H:Hp} {a:Addr} {kvs:List (Key×V)} (h:H a=some (.dK kvs)):tyV K "dict" (.ref a) H:=.inr (.inr (.inl ⟨rfl,.inl ⟨_,h⟩⟩))
section
variable {P:Program} {w:World} {K:PySem.W.Frag} {mg:Str->Option Value} {base:Heap} {D:Adr}
theorem scLaw:FnScope ["script","pieces","form","text","due","k","found"] ["script"] (jag sLaw):=⟨rfl,rfl,rfl,by decide +kernel,rfl,by decide +kernel,by decide +kernel⟩
def jlM (K:PySem.W.Frag):Sp:=fun vs H Q _=>∃ (a:Addr) (ns:List Int),vs=[.ref a]/\Scr K H a ns/\∀ H',Q (.bl true) H'
theorem jpQ (T:Txt w K mg D):FnOk P w K mg base CX0 13 D.aLaw D.dLaw ["script"] (jlM K):=by
 have GP:FnOk P w K mg base CX0 7 D.aLawFew D.dLawFew ["script"] (jpH K):=jpI T
 have GF:FnOk P w K mg base CX0 11 D.aFormI D.dFormI ["self","pieces"] (jjQ D):=jls T
 have GT:FnOk P w K mg base CX0 6 D.aLawText D.dLawText ["script","pieces"] (jpP K):=jof T
 have GS:FnOk P w K mg base CX0 6 D.aLawReadings D.dLawReadings ["pieces","text"] spRS:=ok_RS T
 have GX:FnOk P w K mg base CX0 10 D.aLawTried D.dLawTried ["form","text"] (jkC D):=jlK T
 have GA:FnOk P w K mg base CX0 1 D.aLawAlone D.dLawAlone ["e"] (jkB D):=jlJ T
 refine T.fLaw.ok scLaw (fun vs H Q E h=>?_) (fun cdv A outer s H vs Q E hr h=>?_)
 ·obtain ⟨a,ns,rfl,_⟩:=h; rfl
 ·obtain ⟨a,ns,rfl,hS,q⟩:=h
  have hr1:Room 1 _:=hr.mono (by decide)
  have hr6:Room 6 _:=hr.mono (by decide)
  have hr7:Room 7 _:=hr.mono (by decide)
  have hr10:Room 10 _:=hr.mono (by decide)
  refine ⟨_,jac (jak (i:=1) scLaw.nd rfl (Or.inl rfl) (jai GP hr7 rfl T.mLawFew T.fLawFew.kp T.bLawFew .nil jaq (jaa (pv 0) jad)))
   (jac (jak (i:=2) scLaw.nd rfl (Or.inl rfl) (jbp T.mkForm GF (hr.mono (by decide)) rfl T.mgForm T.bFormI .nil jaq (jaa (jbx jdn rfl T.zList (by decide +kernel) (jaa (pv 1) jad)) jad)))
   (jac (jak (i:=3) scLaw.nd rfl (Or.inl rfl) (jai GT hr6 rfl T.mLawText T.fLawText.kp T.bLawText .nil jaq (jaa (pv 0) (jaa (pv 1) jad))))
   (jac (jak (i:=4) scLaw.nd rfl (Or.inl rfl) (jai GS hr6 rfl T.mLawReadings T.fLawReadings.kp T.bLawReadings .nil jaq (jaa (pv 1) (jaa (pv 3) jad))))
   (jac (jaN PassesOwn.never rfl (jbm rfl T.zRange (jaa jae jad)) (jaB (i:=5) scLaw.nd rfl (Or.inl rfl))
    (jac (jak (i:=6) scLaw.nd rfl (Or.inl rfl) (jai GX hr10 rfl T.mLawTried T.fLawTried.kp T.bLawTried .nil jaq (jaa (pv 2) (jaa (pv 3) jad))))
    (jac (jaF (PW.pt (jcH (jao jaZ (jal jar rfl T.zLen PySem.boot_len (jaa (pv 4) jad)) jae (jas _)) (jbX (jao jgi (jai GA hr1 rfl T.mLawAlone T.fLawAlone.kp T.bLawAlone .nil jaq (jaa (pv 6) jad)) jae (jas _))))) (jaf (jat jdu)) jav)
    (jac (jaF (PW.pt (jcH (jao jaZ (jal jar rfl T.zLen PySem.boot_len (jaa (pv 4) jad)) jae (jas _)) (jbX (jao jdM (pv 6) (jam jaG (pv 4) jae (fun _ _=>rfl)) (jas _))))) (jaf (jat jdu)) jav)
    (jac (jaF (PW.pt (jcH (jao jfl (jal jar rfl T.zLen PySem.boot_len (jaa (pv 4) jad)) jae (jas _)) (jbX (PW.pt (jkH (jao jgi (jai GA hr1 rfl T.mLawAlone T.fLawAlone.kp T.bLawAlone .nil jaq (jaa (pv 6) jad)) jae (jas _)) (jkH (jao jdM (jeG (pv 6) rfl) (jam jaG (pv 4) jae (fun _ _=>rfl)) (jas _)) (jlO (jao jdM (jeG (pv 6) rfl) (jam jaG (pv 4) jae (fun _ _=>rfl)) (jas _))))))))) (jaf (jat jdu)) jav)
    (jac (jaF (jao jaZ (jal jar rfl T.zLen PySem.boot_len (jaa (pv 4) jad)) jae (jas _)) (jaf (jap (jfu PySem.F.plainAttrs_dict PySem.F.slot_dict_clear PySem.F.type_dict_clear jdR (pv 6)))) jav)
    (jaf (jaF (jao jfl (jal jar rfl T.zLen PySem.boot_len (jaa (pv 4) jad)) jae (jas _)) (jac (jap (jfu PySem.F.plainAttrs_dict PySem.F.slot_dict_clear PySem.F.type_dict_clear jdR (jeG (pv 6) rfl))) (jaf (jap (jfu PySem.F.plainAttrs_dict PySem.F.slot_dict_clear PySem.F.type_dict_clear jdR (jeG (pv 6) rfl))))) jav))))))))
   (jaf (jat jdu)))))),?_⟩
  refine ⟨_,rfl,a,ns,rfl,hS,fun r us ps H1 s1 nr hr1' hp1 fw=>?_⟩
  have ok:=fw.ok
  refine ⟨_,rfl,r,us,rfl,.inl (SqL.of hr1'),fun l1 nl1=>?_⟩
  have g2:=jah nl1 (.lst us)
  have hl2:(L2.upd H1 l1 (.lst us)) l1=some (.lst us):=jab
  generalize L2.upd H1 l1 (.lst us)=H2 at *
  intro f1 d1 nf1 nd1 _
  have k2:=jdi (C:=D.cForm) nf1 nd1
  refine ⟨f1,d1,l1,us,ps,rfl,jab,k2 _ _ hl2,Paired.mapP hp1 fun _ _ z=>z.mono (g2.trans k2),ok,fun H3 b3 hf3=>⟨rfl,?_⟩⟩
  have s13:Same H1 H3:=g2.trans (jbH nf1 nd1 b3)
  have hS3:=(hS.mono s1).mono s13
  refine ⟨_,rfl,_,rfl,a,r,ns,us,ps,rfl,hS3,s13 _ _ hr1',Paired.mapP hp1 fun _ _ z=>z.mono s13,ok,fun z H4 s4 hz=>?_⟩
  have s14:=s13.trans s4
  have hzz:z.length<=90000:=by omega
  refine ⟨_,rfl,_,rfl,r,us,ps,z,rfl,s14 _ _ hr1',Paired.mapP hp1 fun _ _ y=>y.mono s14,fw,hzz,fun qd vd H5 s5 nqd hqd hvd=>?_⟩
  have hf5:∀ {H':Hp},Same H5 H'->FormAt D.cl _ H' ps (.ref f1):=fun e=>hf3.mono ((s4.trans s5).trans e)
  have fit:=jlL (t:=tl z) ok
  have un:∀ n,n<=60->_+n+1 < cLine:=fun n hn=>Nat.lt_of_le_of_lt (Nat.add_le_add_left (show n+1<=64 by omega) _) hr.units
  refine ⟨2,rfl,by decide,by decide,jbI (lo:=0) (n:=2) (fun i σ H'=>∃ o5 o6,σ=[some (.ref a),some (.ref r),some (.ref f1),some (.str z),some (.ref qd),o5,o6]/\Same H5 H') ⟨none,none,rfl,Same.refl _⟩ (fun i σ H' hi e=>?_) (fun σ H' e=>?_)⟩
  ·obtain ⟨o5,o6,rfl,e5⟩:=e
   refine ⟨_,rfl,_,rfl,_,ps,.ref f1,z,rfl,hf5 e5,ok,hzz,?_⟩
   generalize (rds (ps.map mPie) (tl z)).map (·.1)=L at *
   refine ⟨fun hL a' H6 s6 ha=>?_,fun r0 hL u H6 s6 hu=>?_,fun r0 r1 t hL a' u0 u1 d H6 s6 h0 h1 ha hd=>?_⟩
   ·subst hL
    cases hvd
    have s56:=e5.trans s6
    refine ⟨_,rfl,qd,_,rfl,.inl (SqL.of (s56 _ _ hqd)),rfl,_,rfl,jbJ rfl ⟨_,rfl,a',none,rfl,.inl ⟨ha,fun H7 s7=>⟨rfl,_,rfl,?_⟩⟩⟩⟩
    rw [decide_eq_true rfl]
    have hq7:=(s56.trans s7) _ _ hqd
    refine jbA ⟨_,rfl,qd,_,rfl,.inl (SqL.of hq7),rfl,_,rfl,jaJ (by decide) (jbA ?_)⟩
    refine ⟨_,rfl,qd,_,rfl,.inl (SqL.of hq7),_,_,rfl,rfl,_,rfl,jaJ (by decide) (jbA ?_)⟩
    refine ⟨_,rfl,qd,_,rfl,.inl (SqL.of hq7),rfl,_,rfl,jaJ (by decide) ?_⟩
    refine ⟨_,rfl,qd,_,rfl,.inl (SqL.of hq7),_,_,rfl,rfl,_,rfl,jaJ (by decide) ?_⟩
    exact ⟨_,_,rfl,s56.trans s7⟩
   ·subst hL
    cases hvd with
    | cons g0 gt =>
     cases gt
     have s56:=e5.trans s6
     have hq6:=s56 _ _ hqd
     have ft:=fit r0 List.mem_cons_self
     refine ⟨_,rfl,qd,_,rfl,.inl (SqL.of hq6),rfl,_,rfl,jaJ (fun h=>by have:=V.int.inj h; simp at this) (jbA ?_)⟩
     refine ⟨_,rfl,qd,_,rfl,.inl (SqL.of hq6),rfl,_,rfl,jbJ rfl ⟨_,rfl,_,rfl,qd,_,_,_,rfl,rfl,SqL.of hq6,rfl,2,un 2 (by decide),.inr (jfe ok ft hu (g0.same s56)),_,rfl,jbA ?_⟩⟩
     refine ⟨_,rfl,qd,_,rfl,.inl (SqL.of hq6),_,_,rfl,rfl,_,rfl,jaJ (by simp) (jbA ?_)⟩
     obtain ⟨du,ku,rfl,hdu,ndu,_⟩:=hu
     refine ⟨_,rfl,qd,_,rfl,.inl (SqL.of hq6),rfl,_,rfl,jbJ rfl ⟨_,rfl,isDk hdu,du,ku,rfl,rfl,hdu,?_⟩⟩
     have s7:Same H' (L2.upd H6 du (.dK [])):=Same.updN s6 ndu _
     refine ⟨_,rfl,qd,_,rfl,.inl (SqL.of ((e5.trans s7) _ _ hqd)),_,_,rfl,rfl,_,rfl,jaJ (by simp) ?_⟩
     exact ⟨_,_,rfl,e5.trans s7⟩
   ·subst hL
    cases hvd with
    | cons g0 gt =>
     cases gt with
     | cons g1 gt =>
     have s56:=e5.trans s6
     have hq6:=s56 _ _ hqd
     have f0:=fit r0 List.mem_cons_self
     have f1':=fit r1 (List.mem_cons_of_mem _ List.mem_cons_self)
     have X1:XFld K D.cTwofold "one":=⟨T.xcTwofold,T.xiTwofold.xm.hd,T.nTwofoldOne⟩
     have X2:XFld K D.cTwofold "other":=⟨T.xcTwofold,T.xiTwofold.xm.hd,T.nTwofoldOther⟩
     have gt1:∀ (x y:V) (t:List V),(1:Int) < ((x::y::t).length:Int):=fun x y t=>by rw [List.length_cons,List.length_cons]; omega
     refine ⟨_,rfl,qd,_,rfl,.inl (SqL.of hq6),rfl,_,rfl,jaJ (fun h=>by have:=V.int.inj h; rw [List.length_cons] at this; omega) (jbA ?_)⟩
     refine ⟨_,rfl,qd,_,rfl,.inl (SqL.of hq6),rfl,_,rfl,jaJ (fun h=>by have:=V.int.inj h; rw [List.length_cons,List.length_cons] at this; omega) (jbA ?_)⟩
     refine ⟨_,rfl,qd,_,rfl,.inl (SqL.of hq6),_,_,rfl,rfl,_,rfl,jbJ (gt1 _ _ _) ⟨_,rfl,a',some d,rfl,.inr ⟨ha,fun H7 s7=>⟨rfl,_,rfl,?_⟩⟩⟩⟩
     rw [decide_eq_true rfl]
     have s57:=s56.trans s7
     have hq7:=s57 _ _ hqd
     have ha7:=s7 _ _ ha
     have hd7:=s7 _ _ hd
     refine jbA ⟨_,rfl,a',D.cTwofold,d,_,_,rfl,ha7,hd7,X1,jmO,_,rfl,qd,_,_,_,rfl,rfl,SqL.of hq7,atI0,2,un 2 (by decide),.inr (jfe ok f0 (h0.same s7) (g0.same s57)),_,rfl,jbA ?_⟩
     refine ⟨_,rfl,a',D.cTwofold,d,_,_,rfl,ha7,hd7,X2,jhH,_,rfl,qd,_,_,_,rfl,rfl,SqL.of hq7,atI1,2,un 2 (by decide),.inr (jfe ok f1' (h1.same s7) (g1.same s57)),_,rfl,jbA ?_⟩
     refine ⟨_,rfl,qd,_,rfl,.inl (SqL.of hq7),rfl,_,rfl,jaJ (fun h=>by have:=V.int.inj h; rw [List.length_cons,List.length_cons] at this; omega) ?_⟩
     refine ⟨_,rfl,qd,_,rfl,.inl (SqL.of hq7),_,_,rfl,rfl,_,rfl,jbJ (gt1 _ _ _) ?_⟩
     obtain ⟨a0,k0,rfl,ha0,na0,_⟩:=h0.same s7
     obtain ⟨a1,k1,rfl,ha1,na1,_⟩:=h1.same s7
     refine ⟨_,rfl,a',D.cTwofold,d,_,_,rfl,ha7,hd7,X1,jmO,isDk ha0,a0,k0,rfl,rfl,ha0,?_⟩
     have n1:a'≠a0:=fun e=>by rw [e,ha0] at ha7; cases ha7
     have n2:d≠a0:=fun e=>by rw [e,ha0] at hd7; cases hd7
     have ha8:(L2.upd H7 a0 (.dK [])) a'=some (jic a' (.ref D.cTwofold) (some d)):=by rw [upd_ne n1]; exact ha7
     have hd8:(L2.upd H7 a0 (.dK [])) d=some (XDx d [("other",.ref a1),("one",.ref a0)]):=by rw [upd_ne n2]; exact hd7
     have s8:Same H' (L2.upd H7 a0 (.dK [])):=Same.updN (s6.trans s7) na0 _
     obtain ⟨k1',ha1'⟩:∃ k,(L2.upd H7 a0 (.dK [])) a1=some (.dK k):=by
      by_cases e:a1=a0
      ·exact ⟨[],by rw [e,jab]⟩
      ·exact ⟨k1,by rw [upd_ne e]; exact ha1⟩
     refine ⟨_,rfl,a',D.cTwofold,d,_,_,rfl,ha8,hd8,X2,jhH,isDk ha1',a1,k1',rfl,rfl,ha1',?_⟩
     exact ⟨_,_,rfl,e5.trans (Same.updN s8 na1 _)⟩
  ·obtain ⟨o5,o6,rfl,e5⟩:=e
   exact q _
end
open PySem L2 PyProof.Rows
section
variable {K:PySem.W.Frag} {x q:Str} {st:Stmt} {f:Addr} {fd:FuncData} {dfl ds:List Value}
theorem len1 {us:List Value} (h:us.length=1):∃ a,us=[a]:=match us,h with | [_],_=>⟨_,rfl⟩
theorem _root_.L2.Fun.b1 {p0:Str} (F:Fun K x q st f fd) (h:∀ (kV doc pm:Value) (an:Option Addr) (cdv ct a:Value),bindArgs (PySem.W.fnOf x q (jbr st) (jaP st) (jag st) .none kV doc pm an cdv ct) ⟨[a],[]⟩=pure [(p0,a)]:=by intros; rfl):Binds K fd [p0] []:=F.binds fun _ _ _ _ _ _ us hl=>by obtain ⟨_,rfl⟩:=len1 hl; exact h ..
theorem len2 {us:List Value} (h:us.length=2):∃ a b,us=[a,b]:=match us,h with | [_,_],_=>⟨_,_,rfl⟩
theorem _root_.L2.Fun.b2 {p0 p1:Str} (F:Fun K x q st f fd) (h:∀ (kV doc pm:Value) (an:Option Addr) (cdv ct a b:Value),bindArgs (PySem.W.fnOf x q (jbr st) (jaP st) (jag st) .none kV doc pm an cdv ct) ⟨[a,b],[]⟩=pure [(p0,a),(p1,b)]:=by intros; rfl):Binds K fd [p0,p1] []:=F.binds fun _ _ _ _ _ _ us hl=>by obtain ⟨_,_,rfl⟩:=len2 hl; exact h ..
theorem len3 {us:List Value} (h:us.length=3):∃ a b c,us=[a,b,c]:=match us,h with | [_,_,_],_=>⟨_,_,_,rfl⟩
theorem _root_.L2.Fun.b3 {p0 p1 p2:Str} (F:Fun K x q st f fd) (h:∀ (kV doc pm:Value) (an:Option Addr) (cdv ct a b c:Value),bindArgs (PySem.W.fnOf x q (jbr st) (jaP st) (jag st) .none kV doc pm an cdv ct) ⟨[a,b,c],[]⟩=pure [(p0,a),(p1,b),(p2,c)]:=by intros; rfl):Binds K fd [p0,p1,p2] []:=F.binds fun _ _ _ _ _ _ us hl=>by obtain ⟨_,_,_,rfl⟩:=len3 hl; exact h ..
theorem len4 {us:List Value} (h:us.length=4):∃ a b c d,us=[a,b,c,d]:=match us,h with | [_,_,_,_],_=>⟨_,_,_,_,rfl⟩
theorem _root_.L2.Fun.b4 {p0 p1 p2 p3:Str} (F:Fun K x q st f fd) (h:∀ (kV doc pm:Value) (an:Option Addr) (cdv ct a b c d:Value),bindArgs (PySem.W.fnOf x q (jbr st) (jaP st) (jag st) .none kV doc pm an cdv ct) ⟨[a,b,c,d],[]⟩=pure [(p0,a),(p1,b),(p2,c),(p3,d)]:=by intros; rfl):Binds K fd [p0,p1,p2,p3] []:=F.binds fun _ _ _ _ _ _ us hl=>by obtain ⟨_,_,_,_,rfl⟩:=len4 hl; exact h ..
theorem ex_i {α:Sort _} {p:α->Prop} {a:α} (h:p a):∃ a,p a:=⟨a,h⟩
def CF (K:PySem.W.Frag) (x:Str) (c:Addr):Prop:=PySem.W.nsIn K mainGlobals x=some (some (.ref c))/\ClsOk K c/\PySem.W.makesIn K c=true/\PySem.W.keepIn K (.ref c)=true
def MF (K:PySem.W.Frag) (c:Addr) (x:Str) (a:Addr):Prop:=PySem.W.findIn K (.ref c) x=some (some (.ref a))/\PySem.W.isFn K (.ref a)=true
end
theorem all_mk {l:PySem.W.OpenLaw} {w:World} {K:PySem.W.Frag} {h:Heap} {mg:Str->Option Value} {fa:Addr} (X:K.In h) (G:h.Ns mainGlobals mg) (hfa:mg "law"=some (.ref fa))
  {aNamesIn aPartsOf aPartOf aCopyOf aNeed aNeedSigns aNeedBounds aStepsOf aAddParts aAddText aAddField aAddRows aReadings aRead aFittingPlaces aPlacesOfSigns aPlacesOfAny aHasPlace aFirstChoices aChoicesAlong aInOrder aLawCellAt aLawDraw aLawSigns aLawSay aLawAsk aLawInner aLawPiece aLawPieces aLawFew aLawWord aLawRow aLawValues aLawLine aLawWritten aLawAskEnds aLawLineReadings aLawRowsReadings aLawReadings aLawAlone aLawText aLawTried aLaw aTwofoldI aFormI aSayI aAskI aRowsI aSignI aChoiceI aTellerI aTellerValuesOf aTellerFieldOf aTellerRowsOf aTellerGoesOn cForm cSay cAsk cRows cSign cChoice cTeller cFormError cBadForm cBadValue cNoReading cTwofold cWords cRow cLen:Addr}
  {dNamesIn dPartsOf dPartOf dCopyOf dNeed dNeedSigns dNeedBounds dStepsOf dAddParts dAddText dAddField dAddRows dReadings dRead dFittingPlaces dPlacesOfSigns dPlacesOfAny dHasPlace dFirstChoices dChoicesAlong dInOrder dLawCellAt dLawDraw dLawSigns dLawSay dLawAsk dLawInner dLawPiece dLawPieces dLawFew dLawWord dLawRow dLawValues dLawLine dLawWritten dLawAskEnds dLawLineReadings dLawRowsReadings dLawReadings dLawAlone dLawText dLawTried dLaw dTwofoldI dFormI dSayI dAskI dRowsI dSignI dChoiceI dTellerI dTellerValuesOf dTellerFieldOf dTellerRowsOf dTellerGoesOn:FuncData} {slW slR:Array (Option Value)}
  {tS t1 t2 t3 t4 t5 t6 t7 t8 u1 u2 u3:Tok} {epL:Nat}
  (p3h:CF K "Form" cForm)
  (p3o:CF K "Say" cSay)
  (p3q:CF K "Ask" cAsk)
  (p3k:CF K "Rows" cRows)
  (p3i:CF K "Sign" cSign)
  (p36:CF K "Choice" cChoice)
  (p35:CF K "Teller" cTeller)
  (p1e:PySem.W.nsIn K mainGlobals "FormError"=some (some (.ref cFormError)))
  (p2f:PySem.W.nsIn K mainGlobals "BadForm"=some (some (.ref cBadForm)))
  (p1y:PySem.W.nsIn K mainGlobals "BadValue"=some (some (.ref cBadValue)))
  (p1a:PySem.W.nsIn K mainGlobals "NoReading"=some (some (.ref cNoReading)))
  (p2m:PySem.W.nsIn K mainGlobals "Twofold"=some (some (.ref cTwofold)))
  (p2v:PySem.W.nsIn K mainGlobals "names_in"=some (some (.ref aNamesIn))/\Fun K "names_in" "names_in" jdB aNamesIn dNamesIn)
  (p2t:PySem.W.nsIn K mainGlobals "parts_of"=some (some (.ref aPartsOf))/\Fun K "parts_of" "parts_of" jdC aPartsOf dPartsOf)
  (p38:PySem.W.nsIn K mainGlobals "part_of"=some (some (.ref aPartOf))/\Fun K "part_of" "part_of" jgv aPartOf dPartOf)
  (p31:PySem.W.nsIn K mainGlobals "copy_of"=some (some (.ref aCopyOf))/\Fun K "copy_of" "copy_of" jgw aCopyOf dCopyOf)
  (p3d:PySem.W.nsIn K mainGlobals "need"=some (some (.ref aNeed))/\Fun K "need" "need" jnA aNeed dNeed)
  (p1i:PySem.W.nsIn K mainGlobals "need_signs"=some (some (.ref aNeedSigns))/\Fun K "need_signs" "need_signs" jcs aNeedSigns dNeedSigns)
  (p11:PySem.W.nsIn K mainGlobals "need_bounds"=some (some (.ref aNeedBounds))/\Fun K "need_bounds" "need_bounds" jcD aNeedBounds dNeedBounds)
  (p2y:PySem.W.nsIn K mainGlobals "steps_of"=some (some (.ref aStepsOf))/\Fun K "steps_of" "steps_of" jeI aStepsOf dStepsOf)
  (p1v:PySem.W.nsIn K mainGlobals "add_parts"=some (some (.ref aAddParts))/\Fun K "add_parts" "add_parts" jdS aAddParts dAddParts)
  (p2k:PySem.W.nsIn K mainGlobals "add_text"=some (some (.ref aAddText))/\Fun K "add_text" "add_text" jeJ aAddText dAddText)
  (p1o:PySem.W.nsIn K mainGlobals "add_field"=some (some (.ref aAddField))/\Fun K "add_field" "add_field" jdT aAddField dAddField)
  (p2p:PySem.W.nsIn K mainGlobals "add_rows"=some (some (.ref aAddRows))/\Fun K "add_rows" "add_rows" jeK aAddRows dAddRows)
  (p1w:PySem.W.nsIn K mainGlobals "readings"=some (some (.ref aReadings))/\∃ t0,FunD K "readings" "readings" jcR aReadings dReadings [.int 2 t0])
  (p3g:PySem.W.nsIn K mainGlobals "read"=some (some (.ref aRead))/\Fun K "read" "read" jnB aRead dRead)
  (p0d:PySem.W.nsIn K mainGlobals "fitting_places"=some (some (.ref aFittingPlaces))/\Fun K "fitting_places" "fitting_places" jbE aFittingPlaces dFittingPlaces)
  (p0g:PySem.W.nsIn K mainGlobals "places_of_signs"=some (some (.ref aPlacesOfSigns))/\Fun K "places_of_signs" "places_of_signs" jbF aPlacesOfSigns dPlacesOfSigns)
  (p0q:PySem.W.nsIn K mainGlobals "places_of_any"=some (some (.ref aPlacesOfAny))/\Fun K "places_of_any" "places_of_any" jch aPlacesOfAny dPlacesOfAny)
  (p2c:PySem.W.nsIn K mainGlobals "has_place"=some (some (.ref aHasPlace))/\Fun K "has_place" "has_place" jdU aHasPlace dHasPlace)
  (p0l:PySem.W.nsIn K mainGlobals "first_choices"=some (some (.ref aFirstChoices))/\Fun K "first_choices" "first_choices" jbQ aFirstChoices dFirstChoices)
  (p0k:PySem.W.nsIn K mainGlobals "choices_along"=some (some (.ref aChoicesAlong))/\Fun K "choices_along" "choices_along" jbR aChoicesAlong dChoicesAlong)
  (p2w:PySem.W.nsIn K mainGlobals "in_order"=some (some (.ref aInOrder))/\Fun K "in_order" "in_order" jeL aInOrder dInOrder)
  (p19:PySem.W.nsIn K mainGlobals "_law_cell_at"=some (some (.ref aLawCellAt))/\Fun K "_law_cell_at" "_law_cell_at" jdg aLawCellAt dLawCellAt)
  (p2z:PySem.W.nsIn K mainGlobals "_law_draw"=some (some (.ref aLawDraw))/\Fun K "_law_draw" "_law_draw" jeM aLawDraw dLawDraw)
  (p29:PySem.W.nsIn K mainGlobals "_law_signs"=some (some (.ref aLawSigns))/\Fun K "_law_signs" "_law_signs" jci aLawSigns dLawSigns)
  (p34:PySem.W.nsIn K mainGlobals "_law_say"=some (some (.ref aLawSay))/\Fun K "_law_say" "_law_say" jdV aLawSay dLawSay)
  (p32:PySem.W.nsIn K mainGlobals "_law_ask"=some (some (.ref aLawAsk))/\Fun K "_law_ask" "_law_ask" jgx aLawAsk dLawAsk)
  (p2d:PySem.W.nsIn K mainGlobals "_law_inner"=some (some (.ref aLawInner))/\Fun K "_law_inner" "_law_inner" jdW aLawInner dLawInner)
  (p27:PySem.W.nsIn K mainGlobals "_law_piece"=some (some (.ref aLawPiece))/\Fun K "_law_piece" "_law_piece" jdX aLawPiece dLawPiece)
  (p18:PySem.W.nsIn K mainGlobals "_law_pieces"=some (some (.ref aLawPieces))/\Fun K "_law_pieces" "_law_pieces" jdh aLawPieces dLawPieces)
  (p37:PySem.W.nsIn K mainGlobals "_law_few"=some (some (.ref aLawFew))/\Fun K "_law_few" "_law_few" jgy aLawFew dLawFew)
  (p30:PySem.W.nsIn K mainGlobals "_law_word"=some (some (.ref aLawWord))/\Fun K "_law_word" "_law_word" jeN aLawWord dLawWord)
  (p33:PySem.W.nsIn K mainGlobals "_law_row"=some (some (.ref aLawRow))/\Fun K "_law_row" "_law_row" jgz aLawRow dLawRow)
  (p1f:PySem.W.nsIn K mainGlobals "_law_values"=some (some (.ref aLawValues))/\Fun K "_law_values" "_law_values" jct aLawValues dLawValues)
  (p2l:PySem.W.nsIn K mainGlobals "_law_line"=some (some (.ref aLawLine))/\Fun K "_law_line" "_law_line" jeO aLawLine dLawLine)
  (p13:PySem.W.nsIn K mainGlobals "_law_written"=some (some (.ref aLawWritten))/\Fun K "_law_written" "_law_written" jbS aLawWritten dLawWritten)
  (p12:PySem.W.nsIn K mainGlobals "_law_ask_ends"=some (some (.ref aLawAskEnds))/\Fun K "_law_ask_ends" "_law_ask_ends" jbT aLawAskEnds dLawAskEnds)
  (p08:PySem.W.nsIn K mainGlobals "_law_line_readings"=some (some (.ref aLawLineReadings))/\Fun K "_law_line_readings" "_law_line_readings" jbs aLawLineReadings dLawLineReadings)
  (p0a:PySem.W.nsIn K mainGlobals "_law_rows_readings"=some (some (.ref aLawRowsReadings))/\Fun K "_law_rows_readings" "_law_rows_readings" jbt aLawRowsReadings dLawRowsReadings)
  (p0r:PySem.W.nsIn K mainGlobals "_law_readings"=some (some (.ref aLawReadings))/\Fun K "_law_readings" "_law_readings" jbo aLawReadings dLawReadings)
  (p2a:PySem.W.nsIn K mainGlobals "_law_alone"=some (some (.ref aLawAlone))/\Fun K "_law_alone" "_law_alone" jdY aLawAlone dLawAlone)
  (p2q:PySem.W.nsIn K mainGlobals "_law_text"=some (some (.ref aLawText))/\Fun K "_law_text" "_law_text" jeP aLawText dLawText)
  (p2e:PySem.W.nsIn K mainGlobals "_law_tried"=some (some (.ref aLawTried))/\Fun K "_law_tried" "_law_tried" jdZ aLawTried dLawTried)
  (p3m:PySem.W.nsIn K mainGlobals "law"=some (some (.ref aLaw))/\Fun K "law" "law" sLaw aLaw dLaw)
  (p1m:MF K cTwofold "__init__" aTwofoldI/\Fun K "__init__" "Twofold.__init__" jea aTwofoldI dTwofoldI)
  (p3c:MF K cForm "__init__" aFormI/\Fun K "__init__" "Form.__init__" jhj aFormI dFormI)
  (p3f:MF K cSay "__init__" aSayI/\Fun K "__init__" "Say.__init__" jnC aSayI dSayI)
  (p3e:MF K cAsk "__init__" aAskI/\Fun K "__init__" "Ask.__init__" jnD aAskI dAskI)
  (p39:MF K cRows "__init__" aRowsI/\Fun K "__init__" "Rows.__init__" jjz aRowsI dRowsI)
  (p3b:MF K cSign "__init__" aSignI/\Fun K "__init__" "Sign.__init__" jjA aSignI dSignI)
  (p2i:MF K cChoice "__init__" aChoiceI/\Fun K "__init__" "Choice.__init__" jeQ aChoiceI dChoiceI)
  (p2o:MF K cTeller "__init__" aTellerI/\Fun K "__init__" "Teller.__init__" jeR aTellerI dTellerI)
  (p0c:MF K cTeller "values_of" aTellerValuesOf/\Fun K "values_of" "Teller.values_of" jby aTellerValuesOf dTellerValuesOf)
  (p0f:MF K cTeller "field_of" aTellerFieldOf/\Fun K "field_of" "Teller.field_of" jbG aTellerFieldOf dTellerFieldOf)
  (p0i:MF K cTeller "rows_of" aTellerRowsOf/\Fun K "rows_of" "Teller.rows_of" jbU aTellerRowsOf dTellerRowsOf)
  (p0j:MF K cTeller "goes_on" aTellerGoesOn/\Fun K "goes_on" "Teller.goes_on" jbV aTellerGoesOn dTellerGoesOn)
  (p0v:PySem.W.findIn K (.ref cForm) "pieces"=some none)
  (p1u:PySem.W.findIn K (.ref cForm) "plan"=some none)
  (p2j:PySem.W.findIn K (.ref cSay) "text"=some none)
  (p1l:PySem.W.findIn K (.ref cAsk) "least"=some none)
  (p2n:PySem.W.findIn K (.ref cAsk) "most"=some none)
  (p2u:PySem.W.findIn K (.ref cAsk) "name"=some none)
  (p2b:PySem.W.findIn K (.ref cAsk) "signs"=some none)
  (p2r:PySem.W.findIn K (.ref cRows) "gap"=some none)
  (p1h:PySem.W.findIn K (.ref cRows) "least"=some none)
  (p1x:PySem.W.findIn K (.ref cRows) "most"=some none)
  (p1n:PySem.W.findIn K (.ref cRows) "name"=some none)
  (p1c:PySem.W.findIn K (.ref cRows) "parts"=some none)
  (p1d:PySem.W.findIn K (.ref cSign) "signs"=some none)
  (p0n:PySem.W.findIn K (.ref cChoice) "behind"=some none)
  (p0e:PySem.W.findIn K (.ref cTeller) "choices"=some none)
  (p0o:PySem.W.findIn K (.ref cTeller) "place"=some none)
  (p0y:PySem.W.findIn K (.ref cTeller) "text"=some none)
  (p0z:PySem.W.findIn K (.ref cTeller) "used"=some none)
  (p2x:PySem.W.kitOne K (.ref cSay) (.ref cSay)=some true)
  (p2h:PySem.W.kitOne K (.ref cSay) (.ref cAsk)=some false)
  (p2g:PySem.W.kitOne K (.ref cAsk) (.ref cSay)=some false)
  (p2s:PySem.W.kitOne K (.ref cAsk) (.ref cAsk)=some true)
  (p1q:PySem.W.kitOne K (.ref cRows) (.ref cSay)=some false)
  (p1s:PySem.W.kitOne K (.ref cRows) (.ref cAsk)=some false)
  (p1g:PySem.W.kitOne K (.ref cSign) (.ref cSign)=some true)
  (p0p:PySem.W.kitOne K (.ref cChoice) (.ref cSign)=some false)
  (p1p:PySem.W.kitOne K (.type "str") (.type "list")=some false)
  (p1b:PySem.W.kitOne K (.type "list") (.type "list")=some true)
  (p17:PySem.W.kitOne K (.type "dict") (.type "dict")=some true)
  (gS:PySem.W.nsIn K mainGlobals "SIGNS"=some (some (.str SIGNS tS)))
  (gW:PySem.W.nsIn K mainGlobals "FORM_WORDS"=some (some (.ref cWords)))
  (gR:PySem.W.nsIn K mainGlobals "ROW_WORDS"=some (some (.ref cRow)))
  (gL:PySem.W.nsIn K mainGlobals "LENGTHS"=some (some (.ref cLen)))
  (tW:K.lookup cWords=some ⟨.type "tuple",none,.seq #[.str "say" t1,.str "ask" t2,.str "rows" t3] 0,slW⟩)
  (tR:K.lookup cRow=some ⟨.type "tuple",none,.seq #[.str "say" t4,.str "ask" t5] 0,slR⟩)
  (tL:K.lookup cLen=some ⟨.type "dict",none,.dict #[⟨PyData.keyHash w.params "say",.str "say" t6,.int 2 u1⟩,⟨PyData.keyHash w.params "ask",.str "ask" t7,.int 5 u2⟩,⟨PyData.keyHash w.params "rows",.str "rows" t8,.int 6 u3⟩] epL,#[]⟩)
  (p16:PySem.W.ktsIn K cNoReading "object"=true)
  (p0u:PySem.W.findIn K (.ref cNoReading) "__getattribute__"=some (some (.builtin "BaseException.__getattribute__")))
  (p15:PySem.W.findIn K (.ref cNoReading) "__getattr__"=some none)
  (p0x:PySem.W.findIn K (.ref cNoReading) "__class__"=some (some (.builtin "object.__class__")))
  (p0t:PySem.W.exmOne K (.ref cNoReading) (.ref cFormError)=some true)
  (p01:PySem.W.kitOne K (.ref cNoReading) (.ref cFormError)=some true)
  (p06:PySem.W.kitOne K (.ref cNoReading) (.ref cBadForm)=some false)
  (p02:PySem.W.kitOne K (.ref cNoReading) (.ref cBadValue)=some false)
  (p00:PySem.W.kitOne K (.ref cNoReading) (.ref cNoReading)=some true)
  (p03:PySem.W.kitOne K (.ref cNoReading) (.ref cTwofold)=some false)
  (p0m:PySem.W.kitOne K (.ref cNoReading) (.type "ValueError")=some true)
  (p1k:PySem.W.excIn K cNoReading [.type "ValueError",.type "Exception",.type "BaseException",.type "object"] "ValueError.__new__"=true)
  (p26:PySem.W.ktsIn K cTwofold "object"=true)
  (p28:PySem.W.findIn K (.ref cTwofold) "__getattribute__"=some (some (.builtin "BaseException.__getattribute__")))
  (p1t:PySem.W.findIn K (.ref cTwofold) "__getattr__"=some none)
  (p20:PySem.W.findIn K (.ref cTwofold) "__class__"=some (some (.builtin "object.__class__")))
  (p1r:PySem.W.exmOne K (.ref cTwofold) (.ref cFormError)=some true)
  (p05:PySem.W.kitOne K (.ref cTwofold) (.ref cFormError)=some true)
  (p09:PySem.W.kitOne K (.ref cTwofold) (.ref cBadForm)=some false)
  (p07:PySem.W.kitOne K (.ref cTwofold) (.ref cBadValue)=some false)
  (p04:PySem.W.kitOne K (.ref cTwofold) (.ref cNoReading)=some false)
  (p0b:PySem.W.kitOne K (.ref cTwofold) (.ref cTwofold)=some true)
  (p0s:PySem.W.kitOne K (.ref cTwofold) (.type "ValueError")=some true)
  (p21:xnIn K cTwofold jbP "ValueError.__new__"=true)
  (p1z:PySem.W.findIn K (.ref cTwofold) "__setattr__"=some (some (.builtin "object.__setattr__")))
  (p22:PySem.W.mroIn K cTwofold (.type "object")=some true)
  (p25:PySem.W.hasDictIn K cTwofold=true)
  (p23:PySem.W.keepIn K (.ref cTwofold)=true)
  (p14:PySem.W.findIn K (.ref cTwofold) "one"=some none)
  (p0h:PySem.W.findIn K (.ref cTwofold) "other"=some none)
  (p3w:PySem.W.specialIn K (.ref cFormError) "__getattribute__"=some (some (.builtin "type.__getattribute__")))
  (p3p:PySem.W.readsIn K cFormError (.type "type")=true)
  (p3v:PySem.W.findCls K (.ref cFormError) (.type "type") "__init__"=some (.val (.builtin "ValueError.__init__")))
  (p0w:PySem.W.nsIn K mainGlobals "ValueError"=some none)
  (p3n:PySem.W.nsIn K mainGlobals "len"=some none)
  (p3a:PySem.W.nsIn K mainGlobals "range"=some none)
  (p10:PySem.W.nsIn K mainGlobals "isinstance"=some none)
  (p3r:PySem.W.nsIn K mainGlobals "set"=some none)
  (p3u:PySem.W.nsIn K mainGlobals "all"=some none)
  (p3l:PySem.W.nsIn K mainGlobals "list"=some none)
  (p3j:PySem.W.nsIn K mainGlobals "dict"=some none)
  (p24:PySem.W.nsIn K mainGlobals "reversed"=some none)
  (p1j:PySem.W.nsIn K mainGlobals "enumerate"=some none)
  (p3t:PySem.W.nsIn K mainGlobals "min"=some none)
  (p3s:PySem.W.nsIn K mainGlobals "int"=some none) :
  ∃ fd:FuncData,(∀ (s:Shared) (v:Value),BindsTo s fd ⟨[v],[]⟩ [("script",v)])/\∀ base:Heap,K.In base->base.Ns mainGlobals mg->FnOk l.prog w K mg base CX0 13 fa fd ["script"] (jlM K):=by
 have e:=hfa.symm.trans (PySem.W.mg_of X G p3m.1)
 cases e
 obtain ⟨rReadings,tReadings0,FReadings⟩:=p1w
 have BReadings:=FReadings.binds (ps:=["form","text","most"]) (ds:=[]) fun _ _ _ _ _ _ _ us hl=>by obtain ⟨_,_,_,rfl⟩:=len3 (show us.length=3 by simpa using hl); exact ⟨_,rfl,rfl⟩
 have EReadings:=FReadings.binds (ps:=["form","text","most"]) (ds:=[.int 2 tReadings0]) fun _ _ _ _ _ _ _ us hl=>by obtain ⟨_,_,rfl⟩:=len2 (show us.length=2 by simpa using hl); exact ⟨_,rfl,rfl⟩
 have T:Txt w K mg ⟨aNamesIn,aPartsOf,aPartOf,aCopyOf,aNeed,aNeedSigns,aNeedBounds,aStepsOf,aAddParts,aAddText,aAddField,aAddRows,aReadings,aRead,aFittingPlaces,aPlacesOfSigns,aPlacesOfAny,aHasPlace,aFirstChoices,aChoicesAlong,aInOrder,aLawCellAt,aLawDraw,aLawSigns,aLawSay,aLawAsk,aLawInner,aLawPiece,aLawPieces,aLawFew,aLawWord,aLawRow,aLawValues,aLawLine,aLawWritten,aLawAskEnds,aLawLineReadings,aLawRowsReadings,aLawReadings,aLawAlone,aLawText,aLawTried,fa,aTwofoldI,aFormI,aSayI,aAskI,aRowsI,aSignI,aChoiceI,aTellerI,aTellerValuesOf,aTellerFieldOf,aTellerRowsOf,aTellerGoesOn,dNamesIn,dPartsOf,dPartOf,dCopyOf,dNeed,dNeedSigns,dNeedBounds,dStepsOf,dAddParts,dAddText,dAddField,dAddRows,dReadings,dRead,dFittingPlaces,dPlacesOfSigns,dPlacesOfAny,dHasPlace,dFirstChoices,dChoicesAlong,dInOrder,dLawCellAt,dLawDraw,dLawSigns,dLawSay,dLawAsk,dLawInner,dLawPiece,dLawPieces,dLawFew,dLawWord,dLawRow,dLawValues,dLawLine,dLawWritten,dLawAskEnds,dLawLineReadings,dLawRowsReadings,dLawReadings,dLawAlone,dLawText,dLawTried,dLaw,dTwofoldI,dFormI,dSayI,dAskI,dRowsI,dSignI,dChoiceI,dTellerI,dTellerValuesOf,dTellerFieldOf,dTellerRowsOf,dTellerGoesOn,cForm,cSay,cAsk,cRows,cSign,cChoice,cTeller,cWords,cRow,cLen,cFormError,cBadForm,cBadValue,cNoReading,cTwofold⟩:=⟨p2v.2,p2v.2.b1,PySem.W.mg_of X G p2v.1,p2t.2,p2t.2.b3,PySem.W.mg_of X G p2t.1,p38.2,p38.2.b2,PySem.W.mg_of X G p38.1,p31.2,p31.2.b1,PySem.W.mg_of X G p31.1,p3d.2,p3d.2.b2,PySem.W.mg_of X G p3d.1,p1i.2,p1i.2.b4,PySem.W.mg_of X G p1i.1,p11.2,p11.2.b2,PySem.W.mg_of X G p11.1,p2y.2,p2y.2.b1,PySem.W.mg_of X G p2y.1,p1v.2,p1v.2.b2,PySem.W.mg_of X G p1v.1,p2k.2,p2k.2.b2,PySem.W.mg_of X G p2k.1,p1o.2,p1o.2.b2,PySem.W.mg_of X G p1o.1,p2p.2,p2p.2.b2,PySem.W.mg_of X G p2p.1,⟨_,FReadings⟩,BReadings,⟨_,EReadings⟩,FReadings.kp,PySem.W.mg_of X G rReadings,p3g.2,p3g.2.b2,PySem.W.mg_of X G p3g.1,p0d.2,p0d.2.b2,PySem.W.mg_of X G p0d.1,p0g.2,p0g.2.b1,PySem.W.mg_of X G p0g.1,p0q.2,p0q.2.b2,PySem.W.mg_of X G p0q.1,p2c.2,p2c.2.b2,PySem.W.mg_of X G p2c.1,p0l.2,p0l.2.b3,PySem.W.mg_of X G p0l.1,p0k.2,p0k.2.b4,PySem.W.mg_of X G p0k.1,p2w.2,p2w.2.b1,PySem.W.mg_of X G p2w.1,p19.2,p19.2.b2,PySem.W.mg_of X G p19.1,p2z.2,p2z.2.b2,PySem.W.mg_of X G p2z.1,p29.2,p29.2.b1,PySem.W.mg_of X G p29.1,p34.2,p34.2.b1,PySem.W.mg_of X G p34.1,p32.2,p32.2.b4,PySem.W.mg_of X G p32.1,p2d.2,p2d.2.b4,PySem.W.mg_of X G p2d.1,p27.2,p27.2.b4,PySem.W.mg_of X G p27.1,p18.2,p18.2.b3,PySem.W.mg_of X G p18.1,p37.2,p37.2.b1,PySem.W.mg_of X G p37.1,p30.2,p30.2.b3,PySem.W.mg_of X G p30.1,p33.2,p33.2.b3,PySem.W.mg_of X G p33.1,p1f.2,p1f.2.b3,PySem.W.mg_of X G p1f.1,p2l.2,p2l.2.b2,PySem.W.mg_of X G p2l.1,p13.2,p13.2.b2,PySem.W.mg_of X G p13.1,p12.2,p12.2.b3,PySem.W.mg_of X G p12.1,p08.2,p08.2.b3,PySem.W.mg_of X G p08.1,p0a.2,p0a.2.b4,PySem.W.mg_of X G p0a.1,p0r.2,p0r.2.b2,PySem.W.mg_of X G p0r.1,p2a.2,p2a.2.b1,PySem.W.mg_of X G p2a.1,p2q.2,p2q.2.b2,PySem.W.mg_of X G p2q.1,p2e.2,p2e.2.b2,PySem.W.mg_of X G p2e.1,p3m.2,p3m.2.b1,PySem.W.mg_of X G p3m.1,p1m.2,p1m.2.b3,p3c.2,p3c.2.b2,p3f.2,p3f.2.b2,p3e.2,p3e.2.b2,p39.2,p39.2.b2,p3b.2,p3b.2.b2,p2i.2,p2i.2.b2,p2o.2,p2o.2.b3,p0c.2,p0c.2.b2,⟨p0c.1.1,p0c.1.2,p0c.2.kp⟩,p0f.2,p0f.2.b2,⟨p0f.1.1,p0f.1.2,p0f.2.kp⟩,p0i.2,p0i.2.b2,⟨p0i.1.1,p0i.1.2,p0i.2.kp⟩,p0j.2,p0j.2.b3,⟨p0j.1.1,p0j.1.2,p0j.2.kp⟩,p3h.2.1,⟨p3h.2.2.1,p3c.1.1,p3c.1.2,p3h.2.2.2⟩,PySem.W.mg_of X G p3h.1,p0v,p1u,p3o.2.1,⟨p3o.2.2.1,p3f.1.1,p3f.1.2,p3o.2.2.2⟩,PySem.W.mg_of X G p3o.1,p2j,p3q.2.1,⟨p3q.2.2.1,p3e.1.1,p3e.1.2,p3q.2.2.2⟩,PySem.W.mg_of X G p3q.1,p1l,p2n,p2u,p2b,p3k.2.1,⟨p3k.2.2.1,p39.1.1,p39.1.2,p3k.2.2.2⟩,PySem.W.mg_of X G p3k.1,p2r,p1h,p1x,p1n,p1c,p3i.2.1,⟨p3i.2.2.1,p3b.1.1,p3b.1.2,p3i.2.2.2⟩,PySem.W.mg_of X G p3i.1,p1d,p36.2.1,⟨p36.2.2.1,p2i.1.1,p2i.1.2,p36.2.2.2⟩,PySem.W.mg_of X G p36.1,p0n,p35.2.1,⟨p35.2.2.1,p2o.1.1,p2o.1.2,p35.2.2.2⟩,PySem.W.mg_of X G p35.1,p0e,p0o,p0y,p0z,p2x,p2h,p2g,p2s,p1q,p1s,p1g,p0p,p1p,p1b,p17,⟨tS,PySem.W.mg_of X G gS⟩,PySem.W.mg_of X G gW,PySem.W.mg_of X G gR,PySem.W.mg_of X G gL,⟨t1,t2,t3,slW,tW⟩,⟨t4,t5,slR,tR⟩,⟨t6,t7,t8,u1,u2,u3,epL,tL⟩,PySem.W.mg_of X G p1e,PySem.W.mg_of X G p2f,PySem.W.mg_of X G p1y,PySem.W.mg_of X G p1a,PySem.W.mg_of X G p2m,⟨p16,p0u,p15,p0x⟩,p0t,p01,p06,p02,p00,p03,p0m,p1k,⟨p26,p28,p1t,p20⟩,p1r,p05,p09,p07,p04,p0b,p0s,⟨⟨p26,p21,p1z,p22,p25⟩,p1m.1.1,p1m.1.2,p23⟩,p14,p0h,⟨p3w,p3p,p3v,by decide +kernel⟩,PySem.W.mg_none_of X G p0w,PySem.W.mg_none_of X G p3n,PySem.W.mg_none_of X G p3a,PySem.W.mg_none_of X G p10,PySem.W.mg_none_of X G p3r,PySem.W.mg_none_of X G p3u,PySem.W.mg_none_of X G p3l,PySem.W.mg_none_of X G p3j,PySem.W.mg_none_of X G p24,PySem.W.mg_none_of X G p1j,PySem.W.mg_none_of X G p3t,PySem.W.mg_none_of X G p3s⟩
 obtain ⟨_,_,_,_,_,_,_,_,_,rfl,_,_⟩:=p3m.2.ex
 exact ⟨_,fun s v=>.of_eq rfl,fun base _ _=>jpQ T⟩
theorem walk {l:PySem.W.OpenLaw} {q:Program} {loose:List Str} {XP:(Str->Option Value)->Heap->Prop} {YP:World->Heap->Prop} {d:DefRec} {K:Params->PySem.W.Frag} (hn:l.most=some 63) (hdf:d.params.defaults=[])
  (hY:∀ (w:World) (h:Heap),YP w h->(K w.params).In h)
  (F:∀ (w:World) (mg:Str->Option Value) (fa:Addr) (h:Heap),(K w.params).In h->h.Ns mainGlobals mg->mg d.name=some (.ref fa) ->
   ∃ fd:FuncData,(∀ (s:Shared) (u:Value),BindsTo s fd ⟨[u],[]⟩ [("script",u)])/\∀ base:Heap,(K w.params).In base->base.Ns mainGlobals mg->FnOk l.prog w (K w.params) mg base CX0 13 fa fd ["script"] (jlM (K w.params))) :
  PySem.W.WalkO q loose XP YP l.row.toRowW d [] (fun f vs=>PySem.call f vs) :=
 L2.walk_of (n:=63) (k:=13) (x:="script") (CX:=fun _=>CX0) (sp:=fun w=>jlM (K w.params)) hn (by decide) hdf ⟨rfl,by decide,by decide⟩ hY F (fun _ _ a ns hl _ hS=>⟨a,ns,rfl,⟨hS,hl⟩,fun _=>rfl⟩) fun _ _ _ _ _ z=>z
end Lf
namespace PySem.W.Fast
def tw6311174758679478779:=0
def tw12431547317105608867:=0
def tw18332769031519004591:=0
def tw2001854370436869342:=0
def tw15017969263685288651:=0
def tw14263388152316996958:=0
def tw1361043418179176278:=0
def tw17609599810840880047:=0
def tw17692394330892354480:=0
def tw13087405680118576041:=0
def tw4617607234538928568:=0
def tw15415860159167537268:=0
def tw14488691630172760511:=0
def tw15172485757602953201:=0
def tw3905653005805332430:=0
def tw12842815874471386423:=0
def tw9144535432501209037:=0
def tw6235066010272763907:=0
def tw18150819933403515297:=0
def tw3197899732812219848:=0
def tw10138117420794002523:=0
def tw1360848496458905672:=0
def tw14179253084119641591:=0
def tw2011589236795276989:=0
def tw9234303035081305646:=0
def tw13273826935070339849:=0
def tw9546503751585657377:=0
def tw15850413768266395945:=0
def tw8902732975094767539:=0
def tw13010299847286477465:=0
def tw1726283626414034447:=0
def tw15937220166697196323:=0
def tw2665127514276326767:=0
def tw11297834359355238563:=0
def tw14595169680350732099:=0
def tw15032578304691704016:=0
def tw6994038278286775217:=0
def tw9710312700230421776:=0
def tw13264896098931603861:=0
def tw12736309489625408819:=0
def tw9511103673612168885:=0
def tw17959318703767799152:=0
def tw1766759375824080943:=0
def tw1801316242478525038:=0
def tw466891486709399294:=0
def tw5856344164307490576:=0
def tw10385452981270089150:=0
def tw17330586092504514628:=0
def tw3126288876075397729:=0
def tw16902812083389117185:=0
def tw8804426586671088535:=0
def tw10230388844228660408:=0
def tw11382908779928399372:=0
def tw1552038213983985786:=0
def tw6321454076945469030:=0
def tw5628337247158870217:=0
def tw11583189427012561259:=0
def tw11141564066870051875:=0
def tw14253094692646668999:=0
def tw9706060463387251762:=0
def tw18389760060622277276:=0
def tw816056903738069175:=0
def tw1701923752274294831:=0
def tw12718299268314109798:=0
def tw8115612266000103138:=0
def tw15836559730313271325:=0
def tw11903736460217595565:=0
def tw10107444919207765479:=0
def tw18068302395773193958:=0
def tw10186306675599990635:=0
def tw9088898464112248444:=0
def tw6591697354581024329:=0
def tw321764041419622760:=0
def tw2972074944347655862:=0
def tw16480484806765265716:=0
def tw7888194833571900926:=0
def tw4725383064148644341:=0
def tw9746947448972557373:=0
def tw11574952450795791886:=0
def tw9677127138712046197:=0
def tw9358542165522115740:=0
def tw13510197134225042815:=0
def tw13924252812490619010:=0
def tw11057040585985039162:=0
def tw12126700510702346824:=0
def tw14084427616506956099:=0
def tw8495452542776315500:=0
def tw4510625198125353839:=0
def tw7532933128026476292:=0
def tw13159546329169196950:=0
def tw605101868060502012:=0
def tw16619378205532977711:=0
def tw14555334278918003247:=0
def tw4194201125835531045:=0
def tw11532091103977029635:=0
def tw17294002145256517590:=0
def tw14653881360813171842:=0
def tw12686609012785966449:=0
def tw81078171790334550:=0
def tw15825336273633545446:=0
def tw1152620057179510882:=0
def tw2654509647761964931:=0
def tw6517805835389753449:=0
def tw1567234573139731834:=0
def tw4636214552290502542:=0
def tw7428017713952201780:=0
def tw10232346934413110295:=0
def tw182114781777644709:=0
def tw8294869326001887505:=0
def tw9447484661479774770:=0
def tw7732155289540220160:=0
def tw2672973741221679672:=0
def tw8786926876708597610:=0
def tw6385377047901112452:=0
def tw13262406695656115935:=0
def tw945320698217170048:=0
def tw10719549045231961112:=0
def tw17006923908068272734:=0
def tw13963197847845127566:=0
def tw10903116688948437631:=0
def tw7798097319577370688:=0
def tw15053087408274874793:=0
def tw17527977569311939554:=0
def tw14568787261690842588:=0
def tw4129655128647951428:=0
def tw12436478758650810390:=0
def tw7983379665198043825:=0
def tw4104468462315302557:=0
def tw4243706482460322197:=0
def tw16389728191660071117:=0
def tw3222415759005715072:=0
def tw617661823635250469:=0
def tw3454013995316668280:=0
def tw8286681861307346941:=0
def tw13329599904988270395:=0
def tw8804628435327630248:=0
def tw6548974906173887113:=0
def tw9814598046807216344:=0
def tw9984702906621267254:=0
def tw5195978326863160556:=0
def tw6438053958213219975:=0
def tw6520459323090115674:=0
def tw1035996406310270984:=0
def tw16595932863646946691:=0
def tw15442407394845142764:=0
def tw4660796635817542769:=0
def tw2843999567604505927:=0
def tw10832161612523020789:=0
def tw11355560436972835155:=0
def tw5771860886140618670:=0
def tw11347154729380950308:=0
def tw6316746197877702889:=0
def tw10970529557822546309:=0
def tw13007506653757737212:=0
def tw3455892422106000785:=0
def tw12661347803108093411:=0
def tw14384716583847325294:=0
def tw11259804201279516998:=0
def tw5406181011328404353:=0
def tw6678471189489678354:=0
def tw18132521309832945035:=0
def tw14010852884694148333:=0
def tw11925067461237027142:=0
def tw15524587135921656764:=0
def tw14765852928237653073:=0
def tw2254055334310178259:=0
def tw13353027440243230309:=0
def tw16940574074621809512:=0
def tw17346496735992767118:=0
def tw16249628861928475559:=0
def tw12801907139485061565:=0
def tw597261341878296054:=0
def tw17531734922612259015:=0
def tw9229622524320114472:=0
def tw9368054771749620175:=0
def tw17313517215269534963:=0
def tw14987096232013730991:=0
def tw16661112286670474301:=0
def tw5413402368219466973:=0
def tw17460521636591807467:=0
def tw6841374052685189634:=0
def tw4852171987089105999:=0
def tw1994302082418865664:=0
def tw11922123613543873793:=0
def tw17381186142053859986:=0
def tw9851468671814026473:=0
def tw18292122567521005928:=0
def tw10587034868444599638:=0
def tw10327225466152242591:=0
def tw1438102602307469301:=0
def tw17197418712060145777:=0
def tw18414053334167166899:=0
def tw7874051938218812522:=0
def tw2301758049050983632:=0
def tw14108982810232948690:=0
def tw143352572879443310:=0
def tw11217694203012289982:=0
def tw14528170225353266512:=0
def tw1301510817922296158:=0
def tw16443395614755800513:=0
def tw3063674640930081319:=0
def tw4350869663861706682:=0
def tw3515480500073880585:=0
def tw1570569888290446154:=0
def tw5765004134447471214:=0
def tw14957717256120863075:=0
def tw15503282348310370387:=0
def tw2248414204614335552:=0
def tw2004216918104088217:=0
def tw11772752075596593925:=0
def tw14327067600759982173:=0
def tw7466895050522323610:=0
def tw15825047414428291015:=0
def tw12275778426906637650:=0
def tw9418740180982418282:=0
def tw4752941215588524244:=0
def tw9764818296025920090:=0
def tw2998812685827472646:=0
def tw13089929035639099196:=0
def tw4745662784698801564:=0
def tw6758791200781125902:=0
def tw14315918596297798405:=0
def tw14335615424133185868:=0
def tw5630716917715151534:=0
def tw1641100272514422557:=0
def tw7200400728771814145:=0
def tw3716531391707022441:=0
def tw14962122743596673247:=0
def tw17069942575088717774:=0
def tw894398879058618559:=0
def tw11507438292358270835:=0
def tw6409367724646990584:=0
def tw8137559823027183454:=0
def tw4183258161237138902:=0
def tw15758676936846442246:=0
def tw250585957726712221:=0
def tw17478448389353193682:=0
def tw345250590968873646:=0
def tw8350361767112419100:=0
def tw719624191951178750:=0
def tw1759420964253822586:=0
def tw16680068106900125247:=0
def tw13372853755896912772:=0
def tw7731977862994271839:=0
def tw675989109456338089:=0
def tw2321675936801347910:=0
def tw13630225365370210457:=0
def tw17581940878955730460:=0
def tw10474010641478845041:=0
def tw13870058447973489338:=0
def tw15139635664113501193:=0
def tw7475015808786278324:=0
def tw18349387264176850963:=0
def tw5705660750998431264:=0
def tw1701490362317270197:=0
def tw15938292769317249533:=0
def tw11536285099652689855:=0
def tw2141610498658654529:=0
def tw8282115185572440449:=0
def tw3572654440786475370:=0
def tw3151285089495198689:=0
def tw8734911365651341414:=0
def tw16236625387610912153:=0
def tw15601286636697900994:=0
def tw15997760920881318012:=0
def tw11955876315768665447:=0
def tw18169224582161603754:=0
def tw10725733754353714860:=0
def tw472918978349323286:=0
def tw2635640780617820250:=0
def tw4262762451002632284:=0
def tw14045652233970409612:=0
def tw14829385040277922843:=0
def tw1213166009191595100:=0
def tw10095835609689098860:=0
def tw15616377396191168646:=0
def tw11616352904724025929:=0
def tw5648243147772388950:=0
def tw5326785061373964487:=0
def tw16699754482479869789:=0
def tw49355668443980958:=0
def tw5056131691433052863:=0
def tw8145429779447392606:=0
def tw6534149003024177044:=0
def tw18133686730645895860:=0
def tw4403206024527065797:=0
def tw8757324117909541581:=0
def tw14510682495260478694:=0
def tw14321026810557417828:=0
def tw13647778703948500075:=0
def tw11792609935593581587:=0
def tw609253979471197194:=0
def tw5775959177457546765:=0
def tw2661512494592525120:=0
def tw17120079638704130053:=0
def tw10718173787459675974:=0
def tw7202564311442806039:=0
def tw17983231618923403659:=0
def tw13791694290433500544:=0
def tw11412306245402958949:=0
def tw10495277817016821539:=0
def tw4233458088106402457:=0
def tw15719058989223205772:=0
def tw12081094376913076777:=0
def tw3059208715338682241:=0
def tw18384623100167411899:=0
def tw7784240618377117235:=0
def tw15091205565617157235:=0
def tw4438593089936335112:=0
def tw14956510431088460090:=0
def tw15589073101513357125:=0
def tw12562128904845176647:=0
def tw279486086268766032:=0
def tw3923554284468751159:=0
def tw13684443148307106192:=0
def tw14613044076375493168:=0
def tw6115750174649428240:=0
def tw13842317651709670971:=0
def tw11171065934661305576:=0
def tw11892825598211247908:=0
def tw6110956346134937980:=0
def tw14787460450066394583:=0
def tw3620453170719935060:=0
def tw6763732466252234656:=0
def tw17711126586119753590:=0
def tw3372344296492597589:=0
def tw1367097442199508484:=0
def tw15687825944279698126:=0
def tw14195775211852193702:=0
def tw6308313040114417633:=0
def tw15456728287497528064:=0
def tw11388540750186211909:=0
def tw8691413607987545238:=0
def tw9258482659881299883:=0
def tw17419324510472013391:=0
def tw373455536607310634:=0
def tw4952604343601870591:=0
def tw1879653163470244378:=0
def tw15435458968232662599:=0
def tw3944961615807031173:=0
def tw5382435021613320984:=0
def tw1198053007045742257:=0
def tw3497156009016984880:=0
def tw17324121040871324899:=0
def tw7956133966521717871:=0
def tw13302429328006754277:=0
def tw2145043962855855431:=0
def tw10015593452979289654:=0
def tw1314841783426140957:=0
def tw4714798327048368438:=0
def tw9446632184540418180:=0
def tw13119735961293582742:=0
def tw12378614686930628966:=0
def tw7701273643554826915:=0
def tw7740597219367555417:=0
def tw6939573222183615168:=0
end PySem.W.Fast
open PySem PySem.W PyProof.Rows
set_option maxRecDepth 100000 in
set_option maxHeartbeats 0 in
theorem PySem.Challenge.cw_letterform_k07_read_or_refused_holds : PySem.Challenge.rw_letterform_k07_read_or_refused.Holds := by
 w_on; o_law; k_head; (case hw=>w_witness2)
 k_fill
 refine Lf.walk (l:=PySem.Challenge.rw_letterform_k07_read_or_refused) rfl rfl (fun w h Y=>PySem.W.kIn_of Y) ?F
 case F =>
  intro w mg fa h KX G hmg
  refine' Lf.all_mk KX G hmg ?p3h ?p3o ?p3q ?p3k ?p3i ?p36 ?p35 ?p1e ?p2f ?p1y ?p1a ?p2m ?p2v ?p2t ?p38 ?p31 ?p3d ?p1i ?p11 ?p2y ?p1v ?p2k ?p1o ?p2p ?p1w ?p3g ?p0d ?p0g ?p0q ?p2c ?p0l ?p0k ?p2w ?p19 ?p2z ?p29 ?p34 ?p32 ?p2d ?p27 ?p18 ?p37 ?p30 ?p33 ?p1f ?p2l ?p13 ?p12 ?p08 ?p0a ?p0r ?p2a ?p2q ?p2e ?p3m ?p1m ?p3c ?p3f ?p3e ?p39 ?p3b ?p2i ?p2o ?p0c ?p0f ?p0i ?p0j ?p0v ?p1u ?p2j ?p1l ?p2n ?p2u ?p2b ?p2r ?p1h ?p1x ?p1n ?p1c ?p1d ?p0n ?p0e ?p0o ?p0y ?p0z ?p2x ?p2h ?p2g ?p2s ?p1q ?p1s ?p1g ?p0p ?p1p ?p1b ?p17 ?gS ?gW ?gR ?gL ?tW ?tR ?tL ?p16 ?p0u ?p15 ?p0x ?p0t ?p01 ?p06 ?p02 ?p00 ?p03 ?p0m ?p1k ?p26 ?p28 ?p1t ?p20 ?p1r ?p05 ?p09 ?p07 ?p04 ?p0b ?p0s ?p21 ?p1z ?p22 ?p25 ?p23 ?p14 ?p0h ?p3w ?p3p ?p3v ?p0w ?p3n ?p3a ?p10 ?p3r ?p3u ?p3l ?p3j ?p24 ?p1j ?p3t ?p3s
  (case p3h | p3o | p3q | p3k | p3i | p36 | p35=>(refine' ⟨?x,⟨⟨?a,?b,?c,?d⟩,?e,?f,?g,?i⟩,?j,?k⟩; (case x | a | b | c | d | e | f | g | i | j | k=>k_is)))
  (case p1e | p2f | p1y | p1a | p2m=>k_is)
  (case p2v | p2t | p38 | p31 | p3d | p1i | p11 | p2y | p1v | p2k | p1o | p2p=>(refine' ⟨?x,L2.fun_mk ?y ?z ?u⟩; (case x | y | z | u=>k_is)))
  (case p1w=>(refine' ⟨?x,Lf.ex_i (L2.funD_mk ?y ?z ?u ?v)⟩; (case x | y | z | u | v=>k_is)))
  (case p3g | p0d | p0g | p0q | p2c | p0l | p0k | p2w | p19 | p2z | p29 | p34 | p32 | p2d | p27 | p18 | p37 | p30 | p33 | p1f | p2l | p13 | p12 | p08 | p0a | p0r | p2a | p2q | p2e | p3m=>(refine' ⟨?x,L2.fun_mk ?y ?z ?u⟩; (case x | y | z | u=>k_is)))
  (case p1m | p3c | p3f | p3e | p39 | p3b | p2i | p2o | p0c | p0f | p0i | p0j=>(refine' ⟨⟨?x,?v⟩,L2.fun_mk ?y ?z ?u⟩; (case x | v | y | z | u=>k_is)))
  (case p0v | p1u | p2j | p1l | p2n | p2u | p2b | p2r | p1h | p1x | p1n | p1c | p1d | p0n | p0e | p0o | p0y | p0z=>k_is)
  (case p2x | p2h | p2g | p2s | p1q | p1s | p1g | p0p | p1p | p1b | p17=>kit_is)
  (case gS | gW | gR | gL | tW | tR | tL=>k_is)
  (case p16=>kts_isx)
  (case p0u | p15 | p0x=>k_is)
  (case p0t=>kts_exm)
  (case p01 | p06 | p02 | p00 | p03 | p0m=>kit_is)
  (case p1k=>k_exc)
  (case p26=>kts_isx)
  (case p28 | p1t | p20=>k_is)
  (case p1r=>kts_exm)
  (case p05 | p09 | p07 | p04 | p0b | p0s=>kit_is)
  (case p21=>kernel_rfl)
  (case p1z | p22 | p25 | p23 | p14 | p0h | p3w | p3p | p3v | p0w | p3n | p3a | p10 | p3r | p3u | p3l | p3j | p24 | p1j | p3t | p3s=>k_is)
