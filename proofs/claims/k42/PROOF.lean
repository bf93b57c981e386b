import PyProof.Rows.All
import Wide.All
import OpenK.AllK
import Wide.FinOn
import Lean
import PyProof.EqAt
import PyProof.EqKinds
import PyProof.TupleCall
import KE.KRevIter
import PySem.Challenge.RW_decidebook_k42_pairs_that_show_one_meani
set_option Elab.async false
set_option linter.all false
set_option maxRecDepth 100000
namespace L2
open PySem PySem.Spec PyProof.Rows
abbrev Key:=Sum Int Str
def keyIs:Key->Value->Bool
 | .inl k,v=>Value.isInt k v
 | .inr x,v=>Value.isStrOf x v
def keyH (w:World):Key->Int
 | .inl k=>hashInt k
 | .inr x=>hashStr w x
theorem keyIs_shape:∀ {k:Key} {v:Value},keyIs k v=true->(∃ i t,k=Sum.inl i/\v=Value.int i t)\/(∃ x t,k=Sum.inr x/\v=Value.str x t)
 | .inl i,v,h=>by
  obtain ⟨t,e⟩:=Value.isInt_shape (k:=i) (v:=v) h
  exact .inl ⟨i,t,rfl,e⟩
 | .inr x,v,h=>by
  obtain ⟨t,e⟩:=Value.isStrOf_shape (x:=x) (v:=v) h
  exact .inr ⟨x,t,rfl,e⟩
theorem keyIs_int (i:Int) (t:Tok):keyIs (.inl i) (.int i t)=true:=by simp [keyIs,Value.isInt]
theorem keyIs_str (x:Str) (t:Tok):keyIs (.inr x) (.str x t)=true:=by simp [keyIs,Value.isStrOf]
theorem key_ll (a b:Int):decide ((Sum.inl a:Key)=Sum.inl b)=(a == b):=by
 by_cases e:a=b
 ·subst e; simp
 ·have h:¬ (Sum.inl a:Key)=Sum.inl b:=fun q=>e (Sum.inl.inj q)
  rw [decide_eq_false h]
  exact (beq_eq_false_iff_ne.mpr e).symm
theorem key_rr (a b:Str):decide ((Sum.inr a:Key)=Sum.inr b)=decide (a=b):=by
 by_cases e:a=b
 ·subst e; simp
 ·have h:¬ (Sum.inr a:Key)=Sum.inr b:=fun q=>e (Sum.inr.inj q)
  rw [decide_eq_false h,decide_eq_false e]
theorem key_lr (a:Int) (b:Str):decide ((Sum.inl a:Key)=Sum.inr b)=false:=decide_eq_false (fun q=>nomatch q)
theorem key_rl (a:Str) (b:Int):decide ((Sum.inr a:Key)=Sum.inl b)=false:=decide_eq_false (fun q=>nomatch q)
def mixKind (prog:Program) (w:World):PySem.KeyKind prog w Key where
 is:=keyIs
 hash:=keyH w
 inj:=fun v a b ha hb=>by
  rcases keyIs_shape ha with ⟨i,t,rfl,rfl⟩ | ⟨x,t,rfl,rfl⟩
  ·rcases keyIs_shape hb with ⟨j,u,rfl,e⟩ | ⟨y,u,rfl,e⟩
   ·injection e with e1 _; rw [e1]
   ·exact nomatch e
  ·rcases keyIs_shape hb with ⟨j,u,rfl,e⟩ | ⟨y,u,rfl,e⟩
   ·exact nomatch e
   ·injection e with e1 _; rw [e1]
 byValue:=fun k v h=>by
  rcases keyIs_shape h with ⟨i,t,rfl,rfl⟩ | ⟨x,t,rfl,rfl⟩ <;> rfl
 pyHash:=fun hv h=>by
  rcases keyIs_shape hv with ⟨i,t,rfl,rfl⟩ | ⟨x,t,rfl,rfl⟩
  ·exact wpAny_pyHash_int h
  ·exact wpAny_pyHash_str h
 eqBool:=fun hu hv h=>by
  rcases keyIs_shape hu with ⟨i,t,rfl,rfl⟩ | ⟨x,t,rfl,rfl⟩
  ·rcases keyIs_shape hv with ⟨j,u,rfl,rfl⟩ | ⟨y,u,rfl,rfl⟩
   ·rw [key_ll] at h; exact wpAny_eqBool_int h
   ·rw [key_lr] at h; exact SeqAt.EqAt.int_str i t y u _ _ _ _ h
  ·rcases keyIs_shape hv with ⟨j,u,rfl,rfl⟩ | ⟨y,u,rfl,rfl⟩
   ·rw [key_rl] at h; exact SeqAt.EqAt.str_int x t j u _ _ _ _ h
   ·rw [key_rr] at h; exact wpAny_eqBool_str h
 «strs»:=fun k x t v h=>by
  rcases keyIs_shape h with ⟨i,u,rfl,e⟩ | ⟨y,u,rfl,e⟩
  ·exact nomatch e
  ·injection e with e1 _
   subst e1
   cases v <;> rfl
theorem mixKind_int (prog:Program) (w:World) (i:Int) (t:Tok):(mixKind prog w).is (.inl i) (.int i t)=true:=keyIs_int i t
theorem mixKind_str (prog:Program) (w:World) (x:Str) (t:Tok):(mixKind prog w).is (.inr x) (.str x t)=true:=keyIs_str x t
end L2
namespace L2
open PySem PySem.Spec PyProof.Rows
inductive V where
 | non | bl (b:Bool) | int (i:Int) | str (x:Str) | byt (b:Array UInt8) | flt (b:UInt64) | ref (a:Addr) | ty (n:String)
 deriving DecidableEq
def RelV:V->Value->Prop
 | .non,u=>u=Value.none
 | .bl b,u=>u=Value.bool b
 | .int i,u=>∃ t,u=Value.int i t
 | .str x,u=>∃ t,u=Value.str x t
 | .byt b,u=>∃ t,u=Value.bytes b t
 | .flt b,u=>∃ t,u=Value.float b t
 | .ref a,u=>u=Value.ref a
 | .ty n,u=>u=Value.type n
abbrev Vals:List V->List Value->Prop:=Paired RelV
theorem Vals.length {xs:List V} {us:List Value} (r:Vals xs us):xs.length=us.length:=Paired.length r
theorem Vals.get:∀ {xs:List V} {us:List Value} {i:Nat} {x:V},Vals xs us->xs[i]?=some x->∃ u,us[i]?=some u/\RelV x u
 | _,_,_,_,.nil,e=>by simp at e
 | _,_,0,_,.cons r _,e=>by simp at e; subst e; exact ⟨_,rfl,r⟩
 | _,_,i + 1,x,.cons _ t,e=>by
  obtain ⟨u,h1,h2⟩:=Vals.get (i:=i) (x:=x) t (by simpa using e)
  exact ⟨u,by simpa using h1,h2⟩
theorem Vals.set {x:V} {u:Value} (r:RelV x u):∀ {xs:List V} {us:List Value} (i:Nat),Vals xs us->Vals (xs.set i x) (us.set i u)
 | _,_,_,.nil=>.nil
 | _,_,0,.cons _ t=>.cons r t
 | _,_,i + 1,.cons q t=>.cons q (Vals.set r i t)
theorem Vals.append:∀ {xs ys:List V} {us ws:List Value},Vals xs us->Vals ys ws->Vals (xs ++ ys) (us ++ ws)
 | _,_,_,_,.nil,s=>s
 | _,_,_,_,.cons r t,s=>.cons r (Vals.append t s)
theorem Vals.take:∀ {xs:List V} {us:List Value} (n:Nat),Vals xs us->Vals (xs.take n) (us.take n)
 | _,_,0,_=>.nil
 | _,_,_ + 1,.nil=>.nil
 | _,_,n + 1,.cons r t=>.cons r (Vals.take n t)
theorem Vals.drop:∀ {xs:List V} {us:List Value} (n:Nat),Vals xs us->Vals (xs.drop n) (us.drop n)
 | _,_,0,r=>r
 | _,_,_ + 1,.nil=>.nil
 | _,_,n + 1,.cons _ t=>Vals.drop n t
def RelO:Option V->Option Value->Prop
 | some v,some u=>RelV v u
 | none,none=>True
 | _,_=>False
def KV {κ:Type}:List (κ × V)->List (κ × Value)->Prop:=Paired fun (p:κ × V) (q:κ × Value)=>p.1=q.1/\RelV p.2 q.2
def kV:Key->V
 | .inl i=>.int i
 | .inr x=>.str x
inductive HO where
 | lst (xs:List V)
 | tup (xs:List V)
 | dK (kvs:List (Key × V)) | dT (kvs:List (List Key × V))
 | set (S:Int->Bool) (n:Nat)
 | ins (C dx:Addr) (fs:List (Str × V))
 | own (x:Addr)
 | xd (fs:List (Str × V))
 | met (f x:Addr)
 | rng (lo hi:Int)
 | frz (o:Obj) (u:HO)
 | tbl (ps:Array Value)
 | ext (φ:Heap->Prop)
abbrev Hp:=Addr->Option HO
def upd (H:Hp) (a:Addr) (o:HO):Hp:=fun b=>if b=a then some o else H b
theorem upd_same {H:Hp} {a:Addr} {o:HO}:upd H a o a=some o:=by unfold upd; rw [if_pos rfl]
theorem upd_ne {H:Hp} {a b:Addr} {o:HO} (h:b≠a):upd H a o b=H b:=by unfold upd; rw [if_neg h]
theorem upd_upd {H:Hp} {a:Addr} {o u:HO}:upd (upd H a o) a u=upd H a u:=by
 funext b; unfold upd; split <;> rfl
theorem ne_of {H:Hp} {a b:Addr} {o u:HO} (h:H a=some o) (h':H b=some u) (d:o≠u):a≠b:=by
 intro e; subst e; rw [h] at h'; exact d (Option.some.inj h')
theorem ne_of_none {H:Hp} {a b:Addr} {o:HO} (h:H a=some o) (h':H b=none):a≠b:=by
 intro e; subst e; rw [h] at h'; cases h'
section
variable (P:Program) (w:World)
def ObjOk (H:Hp) (h:Heap) (a:Addr):HO->Prop
 | .lst xs=>xs.length<=sizeLine/\∃ (its:List Value) (n:Nat),Vals xs its/\h.get? a=some { cls:=.type "list", data:=.seq its.toArray n }
 | .tup xs=>xs.length<=sizeLine/\∃ its:List Value,Vals xs its/\IsTup h a its.toArray
 | .dK kvs=>kvs.length<=sizeLine/\(a == sysModules)=false/\∃ vs,KV kvs vs/\h.DictOf (mixKind P w) a vs
 | .dT kvs=>kvs.length<=sizeLine/\(a == sysModules)=false/\∃ xs:List (List Key × Addr × Value),
   Paired (fun (p:List Key × V) (q:List Key × Addr × Value)=>p.1=q.1/\H q.2.1=some (.tup (p.1.map kV))/\RelV p.2 q.2.2) kvs xs /\
   ∃ o es ep,h.get? a=some o/\o.ExactDict/\o.data=.dict es ep/\es.toList=xs.map (entryOfKey (tupleKind (mixKind P w)))/\(xs.map (·.1)).Nodup
 | .set S n=>h.SetOf (intKind P w) a S n
 | .ins C dx fs=>H dx=some (.own a)/\fs.length<=1000/\dx≠a/\h.get? a=some (PySem.W.instObj C dx) /\
   ∃ mA,h.Ns1 dx mA/\(∀ f,RelO (fs.lookup f) (mA f))/\PySem.Within mA (fs.map (·.1))
 | .own _=>∃ o,h.get? a=some o
 | .xd fs=>∃ mA,h.Ns1 a mA/\∀ f,RelO (fs.lookup f) (mA f)
 | .rng lo hi=>∃ t u v,h.get? a=some { cls:=.type "range", data:=.fields #[.int lo t,.int hi u,.int 1 v] }
 | .frz o u=>h.get? a=some o/\ObjOk H h a u
 | .tbl ps=>h.get? a=some { cls:=.none,data:=.fields ps }
 | .met f x=>h.get? a=some (PySem.W.methodObj (.ref f) (.ref x))
 | .ext φ=>φ h/\(∃ o,h.get? a=some o)/\∀ h1 h2:Heap,φ h1->(∀ o,h1.get? a=some o->h2.get? a=some o)->φ h2
def HOk (H:Hp) (h:Heap):Prop:=∀ a o,H a=some o->ObjOk P w H h a o
end
section
variable {P:Program} {w:World} {H H':Hp} {h h':Heap} {a:Addr} {o:HO}
theorem ObjOk.lt (x:ObjOk P w H h a o):a < h.objs.size:=by
 cases o with
 | lst xs=>obtain ⟨_,_,_,_,e⟩:=x; exact Heap.lt_size e
 | tup xs=>obtain ⟨_,_,_,p⟩:=x; exact p.lt
 | dK kvs=>obtain ⟨_,_,_,_,o,_,_,e,_⟩:=x; exact Heap.lt_size e
 | dT kvs=>obtain ⟨_,_,_,_,o,_,_,e,_⟩:=x; exact Heap.lt_size e
 | set S n=>obtain ⟨o,_,_,_,e,_⟩:=x; exact Heap.lt_size e
 | ins C dx fs=>obtain ⟨_,_,_,e,_⟩:=x; exact Heap.lt_size e
 | own y=>obtain ⟨_,e⟩:=x; exact Heap.lt_size e
 | xd fs=>obtain ⟨_,⟨_,_,_,e,_⟩,_⟩:=x; exact Heap.lt_size e
 | rng lo hi=>obtain ⟨_,_,_,e⟩:=x; exact Heap.lt_size e
 | frz ob u=>obtain ⟨e,_⟩:=x; exact Heap.lt_size e
 | tbl ps=>exact Heap.lt_size (show h.get? a=some _ from x)
 | met f y=>exact Heap.lt_size (show h.get? a=some _ from x)
 | ext φ=>obtain ⟨_,⟨_,e⟩,_⟩:=x; exact Heap.lt_size e
theorem Paired.mapP {α β:Type} {F G:α->β->Prop}:∀ {l₁:List α} {l₂:List β},Paired F l₁ l₂->(∀ a b,F a b->G a b)->Paired G l₁ l₂
 | _,_,.nil,_=>.nil
 | _,_,.cons r t,f=>.cons (f _ _ r) (Paired.mapP t f)
theorem ObjOk.stay (x:ObjOk P w H h a o) (k:∀ b u,(b=a\/H b=some (.own a))->h.get? b=some u->h'.get? b=some u)
  (ho:∀ b,H b=some (.own a)->H' b=some (.own a)) (ht:∀ b xs,H b=some (.tup xs)->H' b=some (.tup xs)):ObjOk P w H' h' a o:=by
 induction o with
 | lst xs=>obtain ⟨z,its,n,r,e⟩:=x; exact ⟨z,its,n,r,k _ _ (.inl rfl) e⟩
 | tup xs=>obtain ⟨z,its,r,ob,e,c⟩:=x; exact ⟨z,its,r,ob,k _ _ (.inl rfl) e,c⟩
 | dK kvs=>obtain ⟨z,y,vs,r,ob,es,ep,e,c⟩:=x; exact ⟨z,y,vs,r,ob,es,ep,k _ _ (.inl rfl) e,c⟩
 | dT kvs =>
  obtain ⟨z,y,xs,r,ob,es,ep,e,c⟩:=x
  exact ⟨z,y,xs,Paired.mapP r fun p q z=>⟨z.1,ht _ _ z.2.1,z.2.2⟩,ob,es,ep,k _ _ (.inl rfl) e,c⟩
 | set S n=>obtain ⟨ob,es,ep,t,e,c⟩:=x; exact ⟨ob,es,ep,t,k _ _ (.inl rfl) e,c⟩
 | ins C dx fs =>
  obtain ⟨d,z,ne,e,mA,⟨od,es,ep,e2,c⟩,r⟩:=x
  exact ⟨ho _ d,z,ne,k _ _ (.inl rfl) e,mA,⟨od,es,ep,k _ _ (.inr d) e2,c⟩,r⟩
 | own y=>obtain ⟨ob,e⟩:=x; exact ⟨ob,k _ _ (.inl rfl) e⟩
 | xd fs=>obtain ⟨mA,⟨od,es,ep,e,c⟩,r⟩:=x; exact ⟨mA,⟨od,es,ep,k _ _ (.inl rfl) e,c⟩,r⟩
 | rng lo hi=>obtain ⟨t,u,v,e⟩:=x; exact ⟨t,u,v,k _ _ (.inl rfl) e⟩
 | frz ob u ih=>obtain ⟨e,q⟩:=x; exact ⟨k _ _ (.inl rfl) e,ih q⟩
 | tbl ps =>
  have e:h.get? a=some { cls:=.none,data:=.fields ps }:=x
  show h'.get? a=some { cls:=.none,data:=.fields ps }
  exact k a _ (.inl rfl) e
 | met f y =>
  have e:h.get? a=some (PySem.W.methodObj (.ref f) (.ref y)):=x
  show h'.get? a=some (PySem.W.methodObj (.ref f) (.ref y))
  exact k a _ (.inl rfl) e
 | ext φ=>obtain ⟨p,⟨o,e⟩,st⟩:=x; exact ⟨st _ _ p fun o q=>k _ _ (.inl rfl) q,⟨o,k _ _ (.inl rfl) e⟩,st⟩
theorem HOk.lt (x:HOk P w H h) (e:H a=some o):a < h.objs.size:=(x a o e).lt
theorem HOk.fresh (x:HOk P w H h) (e:h.objs.size<=a):H a=none:=by
 cases q:H a with
 | none=>rfl
 | some u=>exact absurd (Nat.lt_of_lt_of_le (x.lt q) e) (Nat.lt_irrefl _)
theorem HOk.kept (x:HOk P w H h) (k:∀ b u,h.get? b=some u->h'.get? b=some u):HOk P w H h':=fun a o e =>
 (x a o e).stay (fun b u _ q=>k b u q) (fun _ q=>q) fun _ _ q=>q
theorem HOk.laid (x:HOk P w H h) (k:∀ b u,h.get? b=some u->h'.get? b=some u) (hp:h.objs.size<=a) (new:ObjOk P w (upd H a o) h' a o):HOk P w (upd H a o) h':=fun b u e=>by
 have hn:=x.fresh hp
 by_cases hb:b=a
 ·subst hb; rw [upd_same] at e; cases e; exact new
 ·rw [upd_ne hb] at e
  exact (x b u e).stay (fun c v _ q=>k c v q) (fun c q=>by rw [upd_ne (ne_of_none q hn)]; exact q) fun c xs q=>by rw [upd_ne (ne_of_none q hn)]; exact q
end
def Rd (H:Hp) (a:Addr) (u:HO):Prop:=H a=some u\/∃ o,H a=some (.frz o u)
theorem Rd.ok {P:Program} {w:World} {H:Hp} {h:Heap} {a:Addr} {u:HO} (r:Rd H a u) (x:HOk P w H h):ObjOk P w H h a u:=by
 rcases r with r | ⟨o,r⟩
 ·exact x a u r
 ·obtain ⟨_,q⟩:=x a _ r
  exact q
def Mut:Option HO->Prop
 | some (.lst _)=>True
 | some (.dK _)=>True
 | some (.dT _)=>True
 | some (.set _ _)=>True
 | some (.ins _ _ _)=>True
 | some (.ext _)=>True
 | _=>False
section
variable {P:Program} {w:World} {H:Hp} {h h':Heap} {x e:Addr} {o':HO}
theorem HOk.write (ok:HOk P w H h) (mu:Mut (H x)) (he:e=x\/H e=some (.own x)) (k:∀ b u,b≠e->h.get? b=some u->h'.get? b=some u) (heo:∃ u,h'.get? e=some u)
  (new:ObjOk P w (upd H x o') h' x o'):HOk P w (upd H x o') h':=fun b u q=>by
 have nown:∀ c y,H c=some (.own y)->c≠x:=fun c y r z=>by subst z; rw [r] at mu; exact mu
 have ntup:∀ c xs,H c=some (.tup xs)->c≠x:=fun c xs r z=>by subst z; rw [r] at mu; exact mu
 by_cases hb:b=x
 ·subst hb; rw [upd_same] at q; cases q; exact new
 ·rw [upd_ne hb] at q
  by_cases hbe:b=e
  ·have q':H b=some (.own x):=by
    rcases he with z | z
    ·exact absurd (hbe.trans z) hb
    ·rw [hbe]; exact z
   rw [q] at q'; cases q'
   obtain ⟨v,hv⟩:=heo
   exact ⟨v,by rw [hbe]; exact hv⟩
  ·refine (ok b u q).stay (fun c v hc r=>k c v ?_ r) (fun c r=>by rw [upd_ne (nown c b r)]; exact r) fun c xs r=>by rw [upd_ne (ntup c xs r)]; exact r
   rcases hc with rfl | hc
   ·exact hbe
   ·rintro rfl
    rcases he with z | z
    ·exact nown c b hc z
    ·rw [hc] at z; cases z; exact hb rfl
end
structure Un (fs ex:List Addr) (H H':Hp) (h h':Heap):Prop where
 keep:∀ b o,h.get? b=some o->H b=none->b ∉ fs->b ∉ ex->h'.get? b=some o
 slot:∀ b o,h.get? b=some o->H b=none->b∈fs->b ∉ ex->∃ sl,h'.get? b=some { o with slots:=sl }
 free:∀ b o,h.get? b=some o->H b=none->b ∉ ex->H' b=none
 there:∀ b o,h.get? b=some o->b ∉ ex->∃ o',h'.get? b=some o'
 tups:∀ b xs,H b=some (.tup xs)->H' b=some (.tup xs)
 frzs:∀ b o u,H b=some (.frz o u)->H' b=some (.frz o u)
 tbls:∀ b ps,H b=some (.tbl ps)->∃ more,H' b=some (.tbl (ps ++ more))
section
variable {fs fs' ex ex':List Addr} {H H1 H2:Hp} {h h1 h2 h':Heap} {a x e:Addr} {o:HO}
theorem Un.any (u:Un fs ex H H1 h h1) {b:Addr} {ob:Obj} (q:h.get? b=some ob) (n:H b=none) (hx:b ∉ ex):∃ sl,h1.get? b=some { ob with slots:=sl }:=by
 by_cases hb:b∈fs
 ·exact u.slot b ob q n hb hx
 ·exact ⟨ob.slots,u.keep b ob q n hb hx⟩
theorem Un.kept (k:∀ b u,h.get? b=some u->h'.get? b=some u):Un fs ex H H h h' :=
 ⟨fun b ob q _ _ _=>k b ob q,fun b ob q _ _ _=>⟨ob.slots,k b ob q⟩,fun _ _ _ n _=>n,fun b ob q _=>⟨ob,k b ob q⟩,fun _ _ q=>q,fun _ _ _ q=>q,fun _ ps q=>⟨#[],by rw [q]; simp⟩⟩
theorem Un.refl:Un fs ex H H h h:=Un.kept fun _ _ q=>q
theorem Un.laid (k:∀ b u,h.get? b=some u->h'.get? b=some u) (hp:h.objs.size<=a) (hn:H a=none):Un fs ex H (upd H a o) h h' where
 keep:=fun b u q _ _ _=>k b u q
 slot:=fun b u q _ _ _=>⟨u.slots,k b u q⟩
 free:=fun b u q n _=>by rw [upd_ne (Nat.ne_of_lt (Nat.lt_of_lt_of_le (Heap.lt_size q) hp))]; exact n
 there:=fun b u q _=>⟨u,k b u q⟩
 tups:=fun b xs q=>by rw [upd_ne (ne_of_none q hn)]; exact q
 frzs:=fun b u xs q=>by rw [upd_ne (ne_of_none q hn)]; exact q
 tbls:=fun b ps q=>⟨#[],by rw [upd_ne (ne_of_none q hn),q]; simp⟩
theorem Un.write (mu:Mut (H x)) (he:e=x\/H e=some (.own x)) (k:∀ b u,b≠e->h.get? b=some u->h'.get? b=some u) (heo:∃ u,h'.get? e=some u):Un fs ex H (upd H x o) h h':=by
 have hx:∀ b,H b=none->b≠x:=fun b n z=>by subst z; rw [n] at mu; exact mu
 have hb:∀ b,H b=none->b≠e:=fun b n z=>by
  subst z
  rcases he with r | r
  ·exact hx b n r
  ·rw [n] at r; cases r
 have hm:∀ b u,H b=some u->¬ Mut (some u)->b≠x:=fun b u q nm z=>by subst z; rw [q] at mu; exact nm mu
 refine ⟨fun b u q n _ _=>k b u (hb b n) q,fun b u q n _ _=>⟨u.slots,k b u (hb b n) q⟩,fun b u q n _=>by rw [upd_ne (hx b n)]; exact n,fun b u q _=>?_,
  fun b xs q=>by rw [upd_ne (hm b _ q fun z=>z)]; exact q,fun b u xs q=>by rw [upd_ne (hm b _ q fun z=>z)]; exact q,fun b ps q=>⟨#[],by rw [upd_ne (hm b _ q fun z=>z),q]; simp⟩⟩
 by_cases hbe:b=e
 ·subst hbe; exact heo
 ·exact ⟨u,k b u hbe q⟩
end
def trk (h:Heap) (H:Hp):List Addr:=(List.range h.objs.size).filter fun a=>(H a).isSome
def hidT (h:Heap) (H:Hp):Heap:=PySem.W.hideAll h (trk h H)
theorem hidT_size (h:Heap) (H:Hp):(hidT h H).objs.size=h.objs.size:=PySem.W.hideAll_size _ _
theorem hidT_get {h:Heap} {H:Hp} {b:Addr} {o:Obj} (e:h.get? b=some o) (n:H b=none):(hidT h H).get? b=some o :=
 PySem.W.hideAll_get _ e fun hm=>by
  have q:(H b).isSome=true:=(List.mem_filter.mp hm).2
  rw [n] at q; simp at q
theorem of_hidT {h:Heap} {H:Hp} {b:Addr} {o:Obj} (e:(hidT h H).get? b=some o):h.get? b=some o/\H b=none:=by
 have e':h.get? b=some o:=PySem.W.of_hideAll (trk h H) e
 refine ⟨e',?_⟩
 cases q:H b with
 | none=>rfl
 | some x =>
  have hm:b∈trk h H:=List.mem_filter.mpr ⟨List.mem_range.mpr (Heap.lt_size e'),by simp [q]⟩
  have z:(hidT h H).get? b=none:=PySem.W.hideAll_none (trk h H) hm
  rw [z] at e; cases e
end L2
namespace L2
open PySem PySem.Spec PyProof.Rows
structure Mod (K:PySem.W.Frag) (mg:Str->Option Value) (base:Heap):Prop where
 kin:K.In base
 glob:base.Ns mainGlobals mg
 blt:∃ mb,base.Ns builtinsNs mb/\∀ x:Str,x ≠ "__name__" -> mb x=bootBuiltins x
 nolimit:base.NoLimit
structure Cx where
 prog:Program
 w:World
 K:PySem.W.Frag
 mg:Str->Option Value
 base:Heap
 A:Around
 N:List Str
 s₀:Shared
 H₀:Hp
 env:Env
 outer:List Env
 stack:List Env
 ex:List Addr
 fn:Str->Bool
 calm:Bool
 pn:List (Addr × Obj)
 xe:Value->Shared->Prop
def frs (l:List Env):List Addr:=l.filterMap (·.frame)
abbrev Cx.fs (X:Cx):List Addr:=frs X.outer
def Vis (sc:Scope) (x:Str):Prop:=sc.names.lookup x=some .local\/sc.names.lookup x=some .cell\/sc.names.lookup x=some .free
def Loc (sc:Scope) (x:Str):Prop:=sc.names.lookup x=some .local\/sc.names.lookup x=some .cell
def Look (env:Env) (h:Heap) (m:Str->Option Value) (x:Str) (u:Value):Prop :=
 (env.kindOf x=some .local/\m x=some u)\/((env.kindOf x=some .cell\/env.kindOf x=some .free)/\∃ c,env.cells.lookup x=some c/\h.IsCell c (some u))
structure Cx.Ok (X:Cx):Prop where
 mod:Mod X.K X.mg X.base
 kind:X.env.scope.kind=.function
 glob:X.env.globals=mainGlobals
 blt:X.env.builtins=builtinsNs
 above:X.s₀.heap.objs.size<=X.env.locals
 inj:∀ x y c,X.env.cells.lookup x=some c->X.env.cells.lookup y=some c->x=y
 has:∀ x,(X.env.kindOf x=some .cell\/X.env.kindOf x=some .free)->∃ c,X.env.cells.lookup x=some c
 cab:∀ x c,X.fn x=true->X.env.cells.lookup x=some c->X.s₀.heap.objs.size<=c
 hd:X.calm=true->X.A.handled=none
 frames:X.A.frames=some X.stack
 stk:X.stack=X.outer\/(X.stack=X.env :: X.outer/\X.env.frame=some X.env.locals)
 exf:∀ b∈X.ex,b≠X.env.locals/\∀ x c,X.env.cells.lookup x=some c->c≠b
 bs:∀ b o,X.base.get? b=some o->X.s₀.heap.get? b=some o/\X.H₀ b=none
 bsz:X.base.objs.size<=X.s₀.heap.objs.size
 noex:∀ b o,X.base.get? b=some o->b ∉ X.ex
 exfs:∀ b∈X.ex,b ∉ X.fs
 funs:X.s₀.heap.FunFrames X.base X.outer
 frf:∀ b∈X.fs,X.H₀ b=none
structure Inv (X:Cx) (pins:List (Addr × Obj)) (σ:List (Option V)) (H:Hp) (s:Shared):Prop where
 ok:X.Ok
 os:s.os=X.s₀.os
 bare:AllBare s.gens
 base:Un X.fs X.ex X.H₀ H X.s₀.heap s.heap
 loc:∃ m,s.heap.Ns X.env.locals m/\∀ (i:Nat) (x:Str) (v:V),X.N[i]?=some x->σ[i]?=some (some v)->Vis X.env.scope x->∃ u,RelV v u/\Look X.env s.heap m x u
 cell:∀ x c,X.env.cells.lookup x=some c->∃ v,s.heap.IsCell c v
 free:H X.env.locals=none
 freeC:∀ x c,X.env.cells.lookup x=some c->H c=none
 pin:∀ p∈X.pn ++ pins,s.heap.get? p.1=some p.2/\H p.1=none/\p.1≠X.env.locals/\p.1 ∉ X.fs/\∀ v,p.2.data≠.cell v
 hok:HOk X.prog X.w H s.heap
 len:σ.length=X.N.length
section
variable {X:Cx} {pins:List (Addr × Obj)} {σ:List (Option V)} {H H':Hp} {s:Shared} {h':Heap}
theorem Cx.Ok.nofr (ok:X.Ok) {b:Addr} {o:Obj} (e:X.base.get? b=some o):b ∉ X.fs:=fun hb=>by
 have:=(ok.funs.mem hb).1
 rw [e] at this; cases this
theorem Inv.bs (I:Inv X pins σ H s):∀ b o,X.base.get? b=some o->s.heap.get? b=some o/\H b=none:=fun b o e =>
 ⟨I.base.keep b o (I.ok.bs b o e).1 (I.ok.bs b o e).2 (I.ok.nofr e) (I.ok.noex b o e),I.base.free b o (I.ok.bs b o e).1 (I.ok.bs b o e).2 (I.ok.noex b o e)⟩
theorem Inv.bk (I:Inv X pins σ H s):∀ b o,X.base.get? b=some o->s.heap.get? b=some o:=fun b o e=>(I.bs b o e).1
theorem Inv.mod (I:Inv X pins σ H s):Mod X.K X.mg X.base:=I.ok.mod
theorem Inv.kIn (I:Inv X pins σ H s):X.K.In s.heap:=I.ok.mod.kin.keeps I.bk
theorem Inv.lt (I:Inv X pins σ H s):X.env.locals < s.heap.objs.size:=let ⟨_,hn,_⟩:=I.loc; hn.lt
theorem Inv.sz (I:Inv X pins σ H s):X.s₀.heap.objs.size<=s.heap.objs.size:=Nat.le_trans I.ok.above (Nat.le_of_lt I.lt)
theorem Inv.nofs (I:Inv X pins σ H s) {a:Addr} (h:s.heap.objs.size<=a):a ∉ X.fs:=fun hb=>by
 obtain ⟨_,o,ho,_⟩:=I.ok.funs.mem hb
 exact absurd (Nat.lt_of_lt_of_le (Heap.lt_size ho) (Nat.le_trans I.sz h)) (Nat.lt_irrefl _)
theorem Inv.cne (I:Inv X pins σ H s):∀ x c,X.env.cells.lookup x=some c->c≠X.env.locals:=fun x c e z=>by
 obtain ⟨v,o,ho,hd⟩:=I.cell x c e
 obtain ⟨m,⟨o',es,ep,ho',hd',_⟩,_⟩:=I.loc
 rw [z,ho'] at ho; cases ho; rw [hd'] at hd; cases hd
theorem Inv.funs (I:Inv X pins σ H s):s.heap.FunFrames X.base X.outer:=by
 have all:∀ (l:List Env),(∀ b∈frs l,b∈X.fs)->X.s₀.heap.FunFrames X.base l->s.heap.FunFrames X.base l:=by
  intro l
  induction l with
  | nil=>intro _ _; trivial
  | cons env r ih =>
   intro hs hl
   obtain ⟨hk,⟨L,o,hf,hn,ho,hd⟩,hr⟩:=hl
   have hL:L∈X.fs:=hs L (by unfold frs; rw [List.filterMap_cons,hf]; exact List.mem_cons_self)
   obtain ⟨sl,e⟩:=I.base.slot L o ho (I.ok.frf L hL) hL fun z=>I.ok.exfs L z hL
   exact ⟨hk,⟨L,_,hf,hn,e,hd⟩,ih (fun b hb=>hs b (by unfold frs; rw [List.filterMap_cons,hf]; exact List.mem_cons_of_mem _ hb)) hr⟩
 exact all X.outer (fun _ hb=>hb) I.ok.funs
theorem Inv.stack (I:Inv X pins σ H s):s.heap.FunFrames X.base X.stack:=by
 rcases I.ok.stk with e | ⟨e,hf⟩
 ·rw [e]; exact I.funs
 ·rw [e]
  obtain ⟨m,hn,_⟩:=I.loc
  refine .cons (by rw [I.ok.kind]; decide) hf hn ?_ I.funs
  exact Heap.get?_none_of_le (Nat.le_trans I.ok.bsz I.ok.above)
theorem Inv.stkSub (I:Inv X pins σ H s):∀ b∈frs X.stack,b∈X.env.locals :: X.fs:=fun b hb=>by
 rcases I.ok.stk with e | ⟨e,hf⟩
 ·rw [e] at hb; exact List.mem_cons_of_mem _ hb
 ·rw [e] at hb
  unfold frs at hb
  rw [List.filterMap_cons,hf] at hb
  exact hb
theorem Inv.stkFree (I:Inv X pins σ H s):∀ b∈frs X.stack,H b=none:=fun b hb=>by
 rcases List.mem_cons.mp (I.stkSub b hb) with e | hb
 ·rw [e]; exact I.free
 ·obtain ⟨_,o,ho,_⟩:=I.ok.funs.mem hb
  exact I.base.free b o ho (I.ok.frf b hb) fun z=>I.ok.exfs b z hb
theorem Inv.step {g':Array GenState} {t':Nat} {d':Drawn} {ch:List Addr} (I:Inv X pins σ H s)
  (hch:∀ b∈ch,(b∈X.ex\/X.s₀.heap.objs.size<=b)/\b≠X.env.locals/\(∀ x c,X.env.cells.lookup x=some c->c≠b)/\∀ p∈X.pn ++ pins,p.1≠b)
  (keep:∀ b o,b≠X.env.locals->b ∉ X.fs->b ∉ ch->s.heap.get? b=some o->H b=none->h'.get? b=some o)
  (slot:∀ b o,b≠X.env.locals->b∈X.fs->b ∉ ch->s.heap.get? b=some o->H b=none->∃ sl,h'.get? b=some { o with slots:=sl }) (free:∀ b o,b ∉ ch->s.heap.get? b=some o->H b=none->H' b=none)
  (there:∀ b o,b ∉ ch->s.heap.get? b=some o->∃ o',h'.get? b=some o')
  (tups:∀ b xs,H b=some (.tup xs)->H' b=some (.tup xs)) (frzs:∀ b o u,H b=some (.frz o u)->H' b=some (.frz o u)) (tbls:∀ b ps,H b=some (.tbl ps)->∃ more,H' b=some (.tbl (ps ++ more)))
  (ns:∀ m,s.heap.Ns X.env.locals m->h'.Ns X.env.locals m) (hok:HOk X.prog X.w H' h') (hg:AllBare g') :
  Inv X pins σ H' { s with heap:=h',gens:=g',drawn:=d',toks:=t' }:=by
 have neL:∀ b o,X.s₀.heap.get? b=some o->b≠X.env.locals:=fun b o e=>Nat.ne_of_lt (Nat.lt_of_lt_of_le (Heap.lt_size e) I.ok.above)
 have neC:∀ b o,X.s₀.heap.get? b=some o->b ∉ X.ex->b ∉ ch:=fun b o e hx hb=>by
  rcases (hch b hb).1 with z | z
  ·exact hx z
  ·exact absurd (Nat.lt_of_lt_of_le (Heap.lt_size e) z) (Nat.lt_irrefl _)
 have cellK:∀ x c,X.env.cells.lookup x=some c->∀ v,s.heap.IsCell c v->h'.IsCell c v:=fun x c e v ⟨o,ho,hd⟩=>by
  have nch:c ∉ ch:=fun z=>(hch c z).2.2.1 x c e rfl
  by_cases hc:c∈X.fs
  ·obtain ⟨sl,q⟩:=slot c o (I.cne x c e) hc nch ho (I.freeC x c e)
   exact ⟨_,q,hd⟩
  ·exact ⟨o,keep c o (I.cne x c e) hc nch ho (I.freeC x c e),hd⟩
 refine ⟨I.ok,I.os,hg,⟨fun b o e n hb hx=>?_,fun b o e n hb hx=>?_,fun b o e n hx=>?_,fun b o e hx=>?_,fun b xs e=>tups b xs (I.base.tups b xs e),fun b o xs e=>frzs b o xs (I.base.frzs b o xs e),fun b ps e=>?_⟩,?_,fun x c e=>?_,?_,fun x c e=>?_,fun p hp=>?_,hok,I.len⟩
 ·exact keep b o (neL b o e) hb (neC b o e hx) (I.base.keep b o e n hb hx) (I.base.free b o e n hx)
 ·obtain ⟨sl,e1⟩:=I.base.slot b o e n hb hx
  obtain ⟨sl',e2⟩:=slot b _ (neL b o e) hb (neC b o e hx) e1 (I.base.free b o e n hx)
  exact ⟨sl',e2⟩
 ·obtain ⟨o',e1⟩:=I.base.there b o e hx
  exact free b o' (neC b o e hx) e1 (I.base.free b o e n hx)
 ·obtain ⟨o',e1⟩:=I.base.there b o e hx
  exact there b o' (neC b o e hx) e1
 ·obtain ⟨m1,e1⟩:=I.base.tbls b ps e
  obtain ⟨m2,e2⟩:=tbls b _ e1
  exact ⟨m1 ++ m2,by rw [e2,Array.append_assoc]⟩
 ·obtain ⟨m,hn,hl⟩:=I.loc
  refine ⟨m,ns m hn,fun i x v e1 e2 e3=>?_⟩
  obtain ⟨u,r,l⟩:=hl i x v e1 e2 e3
  refine ⟨u,r,?_⟩
  rcases l with l | ⟨k,c,e,z⟩
  ·exact .inl l
  ·exact .inr ⟨k,c,e,cellK x c e _ z⟩
 ·obtain ⟨v,z⟩:=I.cell x c e
  exact ⟨v,cellK x c e v z⟩
 ·obtain ⟨m,⟨o,_,_,ho,_⟩,_⟩:=I.loc
  exact free _ o (fun z=>(hch _ z).2.1 rfl) ho I.free
 ·obtain ⟨v,o,ho,hd⟩:=I.cell x c e
  exact free c o (fun z=>(hch c z).2.2.1 x c e rfl) ho (I.freeC x c e)
 ·obtain ⟨e,n,ne,nf,d⟩:=I.pin p hp
  have nch:p.1 ∉ ch:=fun z=>(hch p.1 z).2.2.2 p hp rfl
  exact ⟨keep p.1 p.2 ne nf nch e n,free p.1 p.2 nch e n,ne,nf,d⟩
theorem Inv.un {t':Nat} (I:Inv X pins σ H s) (u:Un X.fs [] H H' s.heap h') (hok:HOk X.prog X.w H' h'):Inv X pins σ H' { s with heap:=h',toks:=t' }:=by
 obtain ⟨m,⟨o,es,ep,ho,r⟩,_⟩:=id I.loc
 obtain ⟨sl,hL⟩:=u.any ho I.free (by simp)
 exact I.step (g':=s.gens) (d':=s.drawn) (ch:=[]) (fun _ z=>nomatch z) (fun b o _ hb _ e n=>u.keep b o e n hb (by simp)) (fun b o _ hb _ e n=>u.slot b o e n hb (by simp)) (fun b o _ e n=>u.free b o e n (by simp)) (fun b o _ e=>u.there b o e (by simp)) u.tups u.frzs u.tbls (fun m' hm=>by
  obtain ⟨o',es',ep',ho',r'⟩:=hm
  rw [ho] at ho'; cases ho'
  exact ⟨_,es',ep',hL,r'⟩) hok I.bare
theorem Inv.call {g':Array GenState} {t':Nat} {d':Drawn} {ch:List Addr} (I:Inv X pins σ H s) (u:Un (frs X.stack) ch H H' s.heap h') (hok:HOk X.prog X.w H' h') (hg:AllBare g')
  (hch:∀ b∈ch,(b∈X.ex\/X.s₀.heap.objs.size<=b)/\b≠X.env.locals/\(∀ x c,X.env.cells.lookup x=some c->c≠b)/\∀ p∈X.pn ++ pins,p.1≠b) :
  Inv X pins σ H' { s with heap:=h',gens:=g',drawn:=d',toks:=t' }:=by
 obtain ⟨m,⟨o,es,ep,ho,r⟩,_⟩:=id I.loc
 obtain ⟨sl,hL⟩:=u.any ho I.free fun z=>(hch _ z).2.1 rfl
 exact I.step (ch:=ch) hch (fun b o hL hb hc e n=>u.keep b o e n (fun z=>(List.mem_cons.mp (I.stkSub b z)).elim hL hb) hc) (fun b o _ _ hc e n=>u.any e n hc) (fun b o hc e n=>u.free b o e n hc) (fun b o hc e=>u.there b o e hc) u.tups u.frzs u.tbls (fun m' hm=>by
  obtain ⟨o',es',ep',ho',r'⟩:=hm
  rw [ho] at ho'; cases ho'
  exact ⟨_,es',ep',hL,r'⟩) hok hg
theorem Inv.turned {t':Nat} {it:Addr} (I:Inv X pins σ H s) (k:∀ b o,b≠it->s.heap.get? b=some o->h'.get? b=some o) (hn:H it=none) (hL:it≠X.env.locals)
  (h1:it∈X.ex\/X.s₀.heap.objs.size<=it) (h2:∀ x c,X.env.cells.lookup x=some c->c≠it) (h3:∀ p∈X.pn ++ pins,p.1≠it):Inv X pins σ H { s with heap:=h',toks:=t' }:=by
 have nit:∀ b u,H b=some u->b≠it:=fun b u e z=>by rw [z,hn] at e; cases e
 refine I.step (g':=s.gens) (d':=s.drawn) (ch:=[it]) (fun b hb=>?_) (fun b o _ _ hc e _=>k b o (fun z=>hc (by simp [z])) e) (fun b o _ _ hc e _=>⟨o.slots,k b o (fun z=>hc (by simp [z])) e⟩) (fun _ _ _ _ n=>n)
  (fun b o hc e=>⟨o,k b o (fun z=>hc (by simp [z])) e⟩) (fun _ _ e=>e) (fun _ _ _ e=>e) (fun b ps e=>⟨#[],by rw [e]; simp⟩) (fun m hm=>?_) (fun b u e=>?_) I.bare
 ·have e:b=it:=by simpa using hb
  subst e
  exact ⟨h1,hL,h2,h3⟩
 ·obtain ⟨o,es,ep,ho,r⟩:=hm
  exact ⟨o,es,ep,k _ o (Ne.symm hL) ho,r⟩
 ·refine (I.hok b u e).stay (fun c v hc q=>k c v ?_ q) (fun _ q=>q) fun _ _ q=>q
  rcases hc with z | z
  ·rw [z]; exact nit b u e
  ·exact nit c _ z
theorem Inv.tok (I:Inv X pins σ H s) (t:Nat):Inv X pins σ H { s with toks:=t }:=I.un (h':=s.heap) (t':=t) Un.refl I.hok
theorem Inv.kept {t':Nat} (I:Inv X pins σ H s) (k:∀ b u,s.heap.get? b=some u->h'.get? b=some u):Inv X pins σ H { s with heap:=h',toks:=t' }:=I.un (Un.kept k) (I.hok.kept k)
theorem Inv.laid {a:Addr} {o:HO} {t':Nat} (I:Inv X pins σ H s) (k:∀ b u,s.heap.get? b=some u->h'.get? b=some u) (hp:s.heap.objs.size<=a) (new:ObjOk X.prog X.w (upd H a o) h' a o) :
  Inv X pins σ (upd H a o) { s with heap:=h',toks:=t' }:=I.un (Un.laid k hp (I.hok.fresh hp)) (I.hok.laid k hp new)
theorem Inv.write {x e:Addr} {o:HO} {t':Nat} (I:Inv X pins σ H s) (mu:Mut (H x)) (he:e=x\/H e=some (.own x)) (k:∀ b u,b≠e->s.heap.get? b=some u->h'.get? b=some u) (heo:∃ u,h'.get? e=some u)
  (new:ObjOk X.prog X.w (upd H x o) h' x o):Inv X pins σ (upd H x o) { s with heap:=h',toks:=t' }:=I.un (Un.write mu he k heo) (I.hok.write mu he k heo new)
theorem Inv.pins_of {pins':List (Addr × Obj)} (I:Inv X pins σ H s) (h:∀ p∈pins',s.heap.get? p.1=some p.2/\H p.1=none/\p.1≠X.env.locals/\p.1 ∉ X.fs/\∀ v,p.2.data≠.cell v):Inv X pins' σ H s :=
 ⟨I.ok,I.os,I.bare,I.base,I.loc,I.cell,I.free,I.freeC,fun p hp=>(List.mem_append.mp hp).elim (fun z=>I.pin p (List.mem_append_left _ z)) (h p),I.hok,I.len⟩
theorem nodup_ix {N:List Str} (hN:N.Nodup) {i j:Nat} {x:Str} (a:N[i]?=some x) (b:N[j]?=some x):i=j:=by
 obtain ⟨h1,e1⟩:=List.getElem?_eq_some_iff.mp a
 obtain ⟨h2,e2⟩:=List.getElem?_eq_some_iff.mp b
 exact (List.getElem_inj hN).mp (e1.trans e2.symm)
theorem store_ok2 {M:Model} {A:Around} {E:Value->Shared->Prop} {i:Nat} {x:Str} {v:V} {u:Value} {Q:Unit->Shared->Prop} (I:Inv X pins σ H s) (hN:X.N.Nodup) (hi:X.N[i]?=some x) (hx:Loc X.env.scope x) (r:RelV v u)
  (h:∀ s',Inv X pins (σ.set i (some v)) H s'->(∃ a,Heap.SameBut a s.heap s'.heap/\(a=X.env.locals\/X.env.cells.lookup x=some a))->Q () s') (hf:X.fn x=true\/X.env.scope.names.lookup x=some .local:=by first | exact .inl rfl | exact .inr rfl | assumption):wpAny M A (storeName X.env x u) Q E s:=by
 obtain ⟨m,hn,hl⟩:=id I.loc
 have hcls:(X.env.scope.kind == .class || (X.env.scope.kind == .module && X.env.locals != X.env.globals))=false:=by rw [I.ok.kind]; rfl
 have hiσ:i < σ.length:=by rw [I.len]; exact (List.getElem?_eq_some_iff.mp hi).1
 have cne:=I.cne
 have tracked:∀ {a:Addr} {h':Heap},(∃ o,s.heap.get? a=some o/\H a=none)->Heap.SameBut a s.heap h'->HOk X.prog X.w H h':=fun {a h'} ha hs b ob e=>by
  obtain ⟨_,_,hfree⟩:=ha
  refine (I.hok b ob e).stay (fun c w' hc q=>(hs.2 c ?_).trans q) (fun _ q=>q) fun _ _ q=>q
  rintro rfl
  rcases hc with rfl | hc
  ·rw [hfree] at e; cases e
  ·rw [hfree] at hc; cases hc
 rcases hx with hk | hk
 ·refine wpAny_storeName_local hk hn (fun h' hn' hs=>?_) hcls
  obtain ⟨oL,_,_,hoL,_⟩:=id hn
  refine h _ ⟨I.ok,I.os,I.bare,⟨fun b o e n hb hx=>?_,fun b o e n hb hx=>?_,I.base.free,fun b o e hx=>?_,I.base.tups,I.base.frzs,I.base.tbls⟩,⟨_,hn',fun j y v' e1 e2 e3=>?_⟩,fun y c e=>?_,I.free,I.freeC,fun p hp=>?_,tracked ⟨oL,hoL,I.free⟩ hs,by simpa using I.len⟩ ⟨_,hs,.inl rfl⟩
  ·exact (hs.2 b (Nat.ne_of_lt (Nat.lt_of_lt_of_le (Heap.lt_size e) I.ok.above))).trans (I.base.keep b o e n hb hx)
  ·obtain ⟨sl,e1⟩:=I.base.slot b o e n hb hx
   exact ⟨sl,(hs.2 b (Nat.ne_of_lt (Nat.lt_of_lt_of_le (Heap.lt_size e) I.ok.above))).trans e1⟩
  ·obtain ⟨o',e1⟩:=I.base.there b o e hx
   exact ⟨o',(hs.2 b (Nat.ne_of_lt (Nat.lt_of_lt_of_le (Heap.lt_size e) I.ok.above))).trans e1⟩
  ·by_cases hj:j=i
   ·subst hj
    rw [hi] at e1; cases e1
    rw [List.getElem?_set_self hiσ] at e2
    cases e2
    exact ⟨u,r,.inl ⟨hk,by simp⟩⟩
   ·rw [List.getElem?_set_ne (Ne.symm hj)] at e2
    obtain ⟨u',r',q⟩:=hl j y v' e1 e2 e3
    refine ⟨u',r',?_⟩
    rcases q with ⟨k,e⟩ | ⟨k,c,e,z⟩
    ·refine .inl ⟨k,?_⟩
     have:y≠x:=fun e=>hj (nodup_ix hN e1 (e ▸ hi))
     simp [this,e]
    ·exact .inr ⟨k,c,e,z.sameBut hs (cne y c e)⟩
  ·obtain ⟨w',z⟩:=I.cell y c e
   exact ⟨w',z.sameBut hs (cne y c e)⟩
  ·obtain ⟨e,n,ne,nf,d⟩:=I.pin p hp
   exact ⟨(hs.2 p.1 ne).trans e,n,ne,nf,d⟩
 ·have hfn:X.fn x=true:=by
   rcases hf with z | z
   ·exact z
   ·rw [z] at hk; cases hk
  obtain ⟨c,hc⟩:=I.ok.has x (.inl hk)
  obtain ⟨w',z⟩:=I.cell x c hc
  refine wpAny_storeName_cell I.ok.kind hk hc z (fun h' hc' hs=>?_)
  obtain ⟨oc,hoc,hocd⟩:=id z
  refine h { s with heap:=h' } ⟨I.ok,I.os,I.bare,⟨fun b o e n hb hx=>?_,fun b o e n hb hx=>?_,I.base.free,fun b o e hx=>?_,I.base.tups,I.base.frzs,I.base.tbls⟩,⟨m,hn.sameBut hs (Ne.symm (cne x c hc)),fun j y v' e1 e2 e3=>?_⟩,fun y c' e=>?_,I.free,I.freeC,fun p hp=>?_,tracked ⟨oc,hoc,I.freeC x c hc⟩ hs,by simpa using I.len⟩ ⟨c,hs,.inr hc⟩
  ·exact (hs.2 b (Nat.ne_of_lt (Nat.lt_of_lt_of_le (Heap.lt_size e) (I.ok.cab x c hfn hc)))).trans (I.base.keep b o e n hb hx)
  ·obtain ⟨sl,e1⟩:=I.base.slot b o e n hb hx
   exact ⟨sl,(hs.2 b (Nat.ne_of_lt (Nat.lt_of_lt_of_le (Heap.lt_size e) (I.ok.cab x c hfn hc)))).trans e1⟩
  ·obtain ⟨o',e1⟩:=I.base.there b o e hx
   exact ⟨o',(hs.2 b (Nat.ne_of_lt (Nat.lt_of_lt_of_le (Heap.lt_size e) (I.ok.cab x c hfn hc)))).trans e1⟩
  ·by_cases hj:j=i
   ·subst hj
    rw [hi] at e1; cases e1
    rw [List.getElem?_set_self hiσ] at e2
    cases e2
    exact ⟨u,r,.inr ⟨.inl hk,c,hc,hc'⟩⟩
   ·rw [List.getElem?_set_ne (Ne.symm hj)] at e2
    obtain ⟨u',r',q⟩:=hl j y v' e1 e2 e3
    refine ⟨u',r',?_⟩
    rcases q with q | ⟨k,c',e,z'⟩
    ·exact .inl q
    ·refine .inr ⟨k,c',e,z'.sameBut hs ?_⟩
     rintro rfl
     exact hj (nodup_ix hN e1 (I.ok.inj _ _ _ e hc ▸ hi))
  ·by_cases hcc:c'=c
   ·subst hcc; exact ⟨_,hc'⟩
   ·obtain ⟨w2,z2⟩:=I.cell y c' e
    exact ⟨w2,z2.sameBut hs hcc⟩
  ·obtain ⟨e,n,ne,nf,d⟩:=I.pin p hp
   refine ⟨(hs.2 p.1 ?_).trans e,n,ne,nf,d⟩
   intro q
   rw [q,hoc] at e
   have q':oc=p.2:=Option.some.inj e
   exact d w' (by rw [← q']; exact hocd)
theorem store_ok {M:Model} {A:Around} {E:Value->Shared->Prop} {i:Nat} {x:Str} {v:V} {u:Value} {Q:Unit->Shared->Prop} (I:Inv X pins σ H s) (hN:X.N.Nodup) (hi:X.N[i]?=some x) (hx:Loc X.env.scope x) (r:RelV v u)
  (h:∀ s',Inv X pins (σ.set i (some v)) H s'->Q () s') (hf:X.fn x=true\/X.env.scope.names.lookup x=some .local:=by first | exact .inl rfl | exact .inr rfl | assumption):wpAny M A (storeName X.env x u) Q E s :=
 store_ok2 I hN hi hx r (fun s' I' _=>h s' I') hf
theorem Inv.call' {s':Shared} {ch:List Addr} (I:Inv X pins σ H s) (ho:s'.os=s.os) (u:Un (frs X.stack) ch H H' s.heap s'.heap) (hok:HOk X.prog X.w H' s'.heap) (hg:AllBare s'.gens)
  (hch:∀ b∈ch,(b∈X.ex\/X.s₀.heap.objs.size<=b)/\b≠X.env.locals/\(∀ x c,X.env.cells.lookup x=some c->c≠b)/\∀ p∈X.pn ++ pins,p.1≠b):Inv X pins σ H' s':=by
 obtain ⟨h',g',d',t',o'⟩:=s'
 have e:o'=s.os:=ho
 subst e
 exact I.call (g':=g') (t':=t') (d':=d') u hok hg hch
end
abbrev XK:=Value->Option Addr->Hp->Prop
abbrev St:=List (Option V)
abbrev VK:=V->Hp->Prop
abbrev TE:=St->Hp->VK->Prop
abbrev TT:=St->Hp->(Bool->Hp->Prop)->Prop
abbrev TA:=St->Hp->(List V->Hp->Prop)->Prop
structure Ends where
 nx:St->Hp->Prop
 rt:VK
 bk:St->Hp->Prop:=fun _ _=>False
 ct:St->Hp->Prop:=fun _ _=>False
abbrev TS:=Ends->St->Hp->Prop
def EP (X:Cx) (pins:List (Addr × Obj)) (σ:St) (Q:VK) (u:Value) (s':Shared):Prop:=∃ v H',Inv X pins σ H' s'/\RelV v u/\Q v H'
def TP (X:Cx) (pins:List (Addr × Obj)) (σ:St) (Q:Bool->Hp->Prop) (b:Bool) (s':Shared):Prop:=∃ H',Inv X pins σ H' s'/\Q b H'
def AP (X:Cx) (pins:List (Addr × Obj)) (σ:St) (Q:List V->Hp->Prop) (us:List Value) (s':Shared):Prop:=∃ vs H',Inv X pins σ H' s'/\Vals vs us/\Q vs H'
def SP (X:Cx) (pins:List (Addr × Obj)) (D:Ends) (f:Flow) (s':Shared):Prop :=
 match f with
 | .next=>∃ σ' H',Inv X pins σ' H' s'/\D.nx σ' H'
 | .brk=>∃ σ' H',Inv X pins σ' H' s'/\D.bk σ' H'
 | .cont=>∃ σ' H',Inv X pins σ' H' s'/\D.ct σ' H'
 | .ret u=>∃ v σ' H',Inv X pins σ' H' s'/\RelV v u/\D.rt v H'
def PE (X:Cx) (e:Expr) (t:TE):Prop :=
 ∀ (pins:List (Addr × Obj)) (s:Shared) (σ:St) (H:Hp) (Q:VK),Inv X pins σ H s->t σ H Q->wpAny (model X.prog X.w) X.A (eval e X.env) (EP X pins σ Q) X.xe s
def PT (X:Cx) (e:Expr) (t:TT):Prop :=
 ∀ (pins:List (Addr × Obj)) (s:Shared) (σ:St) (H:Hp) (Q:Bool->Hp->Prop),Inv X pins σ H s->t σ H Q->wpAny (model X.prog X.w) X.A (isTrue e X.env (eval e X.env)) (TP X pins σ Q) X.xe s
def PW (X:Cx) (e:Expr) (t:TT):Prop :=
 ∀ (whole:Sem Value) (pins:List (Addr × Obj)) (s:Shared) (σ:St) (H:Hp) (Q:Bool->Hp->Prop),Inv X pins σ H s->t σ H Q->wpAny (model X.prog X.w) X.A (isTrue e X.env whole) (TP X pins σ Q) X.xe s
theorem PW.pt {X:Cx} {e:Expr} {t:TT} (h:PW X e t):PT X e t:=h _
def PA (X:Cx) (es:List Expr) (t:TA):Prop :=
 ∀ (pos:Pos) (pins:List (Addr × Obj)) (s:Shared) (σ:St) (H:Hp) (Q:List V->Hp->Prop),Inv X pins σ H s->t σ H Q->wpAny (model X.prog X.w) X.A (spliced (backTo pos (starEach es X.env))) (AP X pins σ Q) X.xe s
def PS (X:Cx) (st:Stmt) (t:TS):Prop :=
 ∀ (pins:List (Addr × Obj)) (s:Shared) (σ:St) (H:Hp) (D:Ends),Inv X pins σ H s->t D σ H->wpAny (model X.prog X.w) X.A (exec st X.env) (SP X pins D) X.xe s
def PSs (X:Cx) (st:List Stmt) (t:TS):Prop :=
 ∀ (pins:List (Addr × Obj)) (s:Shared) (σ:St) (H:Hp) (D:Ends),Inv X pins σ H s->t D σ H->wpAny (model X.prog X.w) X.A (execs st X.env) (SP X pins D) X.xe s
theorem thn {α:Type} {t:Sem α} {Q Q':α->Shared->Prop} {M:Model} {A:Around} {E:Value->Shared->Prop} {s:Shared} (h:wpAny M A t Q E s) (hQ:∀ a s,Q a s->Q' a s):wpAny M A t Q' E s:=wpAny_mono h hQ fun _ _ x=>x
end L2
namespace L2
open PySem PySem.Spec PyProof.Rows
section
variable {X:Cx}
theorem bin {a b:Expr} {ta tb:TE} (ha:PE X a ta) (hb:PE X b tb) {pins:List (Addr × Obj)} {s:Shared} {σ:St} {H:Hp} {R:V->V->Hp->Prop} (I:Inv X pins σ H s) (h:ta σ H fun x H1=>tb σ H1 fun y H2=>R x y H2)
  {α:Type} {Q:α->Shared->Prop} {f:Value->Value->Sem α}
  (hf:∀ v u s2 x y H2,Inv X pins σ H2 s2->RelV x v->RelV y u->R x y H2->wpAny (model X.prog X.w) X.A (f v u) Q X.xe s2) :
  wpAny (model X.prog X.w) X.A (eval a X.env) (fun v s₁=>wpAny (model X.prog X.w) X.A (eval b X.env) (fun u s₂=>wpAny (model X.prog X.w) X.A (f v u) Q X.xe s₂) X.xe s₁) X.xe s:=by
 refine thn (ha pins s σ H _ I h) fun v s1 ⟨x,H1,I1,r1,q1⟩=>?_
 refine thn (hb pins s1 σ H1 _ I1 q1) fun u s2 ⟨y,H2,I2,r2,q2⟩=>?_
 exact hf v u s2 x y H2 I2 r1 r2 q2
def tVar (i:Nat):TE:=fun σ H Q=>∃ v,σ[i]?=some (some v)/\Q v H
def tC (v:V):TE:=fun _ H Q=>Q v H
theorem pe_var {i:Nat} {x:Str} {pos:Pos} (hN:X.N[i]?=some x) (hv:Vis X.env.scope x) (hd:(x == ("__debug__" : Str))=false:=by decide) (hcd:(x == ("__classdict__" : Str))=false:=by decide):PE X (.Name x pos) (tVar i):=by
 intro pins s σ H Q I h
 obtain ⟨v,e,h⟩:=h
 obtain ⟨m,hn,hl⟩:=I.loc
 obtain ⟨u,r,l⟩:=hl i x v hN e hv
 have fin:EP X pins σ Q u s:=⟨v,H,I,r,h⟩
 rcases l with ⟨hk,hm⟩ | ⟨hk,c,hc,hcell⟩
 ·exact wpAny_Name (wpAny_loadName_local I.ok.kind hk hn hm fin) hd
 ·rcases hk with hk | hk
  ·exact wpAny_Name (wpAny_loadName_cell I.ok.kind hk hc hcell fin) hd
  ·exact wpAny_Name (wpAny_loadName_free I.ok.kind hk hc hcell fin hcd) hd
theorem pe_int {i j pos}:PE X (.Constant (.int i) j pos) (tC (.int i)):=fun _ _ _ H _ I h=>wpAny_Constant_int ⟨.int i,H,I.tok _,⟨_,rfl⟩,h⟩
theorem pe_bl {b j pos}:PE X (.Constant (.bool b) j pos) (tC (.bl b)):=fun _ _ _ H _ I h=>Constant_bool ⟨.bl b,H,I,rfl,h⟩
theorem pe_non {j pos}:PE X (.Constant .none j pos) (tC .non):=fun _ _ _ H _ I h=>Constant_none ⟨.non,H,I,rfl,h⟩
theorem pe_str {x j pos}:PE X (.Constant (.str x) j pos) (tC (.str x)):=fun _ _ _ H _ I h=>Calls.Constant_str ⟨.str x,H,I.tok _,⟨_,rfl⟩,h⟩
def Gl (X:Cx) (x:Str):Prop:=X.env.kindOf x=some .globalImplicit
theorem ld_glob {E:Value->Shared->Prop} {pins:List (Addr × Obj)} {s:Shared} {σ:St} {H:Hp} {x:Str} {u:Value} {pos:Pos} {Q:Value->Shared->Prop} (I:Inv X pins σ H s) (hg:Gl X x) (hm:X.mg x=some u) (h:Q u s)
  (hd:(x == ("__debug__" : Str))=false:=by decide):wpAny (model X.prog X.w) X.A (eval (.Name x pos) X.env) Q E s :=
 Calls.Name_function_global I.ok.kind hg (Calls.loadGlobal_global (by rw [I.ok.glob]; exact I.mod.glob.keeps I.bk) hm h) hd
theorem ld_blt {E:Value->Shared->Prop} {pins:List (Addr × Obj)} {s:Shared} {σ:St} {H:Hp} {x:Str} {u:Value} {pos:Pos} {Q:Value->Shared->Prop} (I:Inv X pins σ H s) (hg:Gl X x) (hm:X.mg x=none) (hv:bootBuiltins x=some u) (h:Q u s)
  (hn:x ≠ "__name__" := by decide) (hd:(x == ("__debug__" : Str))=false:=by decide):wpAny (model X.prog X.w) X.A (eval (.Name x pos) X.env) Q E s:=by
 obtain ⟨mb,h1,h2⟩:=I.mod.blt
 exact Calls.Name_function_global I.ok.kind hg (Calls.loadGlobal_builtin (by rw [I.ok.glob]; exact I.mod.glob.keeps I.bk) hm (by rw [I.ok.blt]; exact h1.keeps I.bk) ((h2 x hn).trans hv) h) hd
theorem pe_glob {x:Str} {v:V} {u:Value} {pos:Pos} (hg:Gl X x) (hm:X.mg x=some u) (r:RelV v u) (hd:(x == ("__debug__" : Str))=false:=by decide):PE X (.Name x pos) (tC v) :=
 fun _ _ _ H _ I h=>ld_glob I hg hm ⟨v,H,I,r,h⟩ hd
theorem pe_bltn {x:Str} {v:V} {u:Value} {pos:Pos} (hg:Gl X x) (hm:X.mg x=none) (hv:bootBuiltins x=some u) (r:RelV v u) (hn:x ≠ "__name__" := by decide) (hd:(x == ("__debug__" : Str))=false:=by decide):PE X (.Name x pos) (tC v) :=
 fun _ _ _ H _ I h=>ld_blt I hg hm hv ⟨v,H,I,r,h⟩ hn hd
variable {a b:Expr} {ta tb:TE} {pos:Pos}
def PC (X:Cx) (op:CmpOp) (a b:Expr) (t:TE):Prop :=
 ∀ (pins:List (Addr × Obj)) (s:Shared) (σ:St) (H:Hp) (Q:VK),Inv X pins σ H s->t σ H Q ->
  wpAny (model X.prog X.w) X.A (eval a X.env) (fun v s₁=>wpAny (model X.prog X.w) X.A (eval b X.env) (fun u s₂=>wpAny (model X.prog X.w) X.A (compareOp op v u) (EP X pins σ Q) X.xe s₂) X.xe s₁) X.xe s
def tB (t:TE):TT:=fun σ H Q=>t σ H fun x H1=>∃ c,x=.bl c/\Q c H1
theorem pe_cmp {op:CmpOp} {t:TE} (h:PC X op a b t) (h1:behindInMarks op b=false:=by first | exact nobehind _ (by decide) (by decide) | rfl):PE X (.Compare a [op] [b] pos) t:=fun pins s σ H Q I hw=>wpAny_Compare1 (h pins s σ H Q I hw) h1
theorem pt_cmp {op:CmpOp} {t:TE} (h:PC X op a b t) (h1:behindInMarks op b=false:=by first | exact nobehind _ (by decide) (by decide) | rfl):PT X (.Compare a [op] [b] pos) (tB t):=by
 intro pins s σ H Q I hw
 refine wpAny_isTrue_Compare1 (thn (h pins s σ H _ I hw) fun v s1 h1=>thn h1 fun u s2 h2=>thn h2 fun c s3 ⟨x,H1,I1,r1,q1⟩=>?_) h1
 obtain ⟨d,rfl,q⟩:=q1
 cases r1
 exact wpAny_truthy_bool ⟨H1,I1,q⟩
variable {tA tB':TT} {rest:List Expr}
def tAnd (t u:TT):TT:=fun σ H Q=>t σ H fun c H1=>if c=true then u σ H1 Q else Q false H1
def tOr (t u:TT):TT:=fun σ H Q=>t σ H fun c H1=>if c=true then Q true H1 else u σ H1 Q
def tNot (t:TT):TT:=fun σ H Q=>t σ H fun c H1=>Q (!c) H1
theorem pw_and1 (ha:PT X a tA):PW X (.BoolOp .And [a] pos) tA:=by
 intro wh pins s σ H Q I h
 refine isTrue_and (thn (ha pins s σ H Q I h) fun c s1 e=>?_)
 cases c with
 | true=>exact isTrue_and_nil e
 | false=>exact e
theorem pw_or1 (ha:PT X a tA):PW X (.BoolOp .Or [a] pos) tA:=by
 intro wh pins s σ H Q I h
 refine isTrue_or (thn (ha pins s σ H Q I h) fun c s1 e=>?_)
 cases c with
 | false=>exact isTrue_or_nil e
 | true=>exact e
theorem pw_and (ha:PT X a tA) (hb:PW X (.BoolOp .And (b :: rest) pos) tB'):PW X (.BoolOp .And (a :: b :: rest) pos) (tAnd tA tB'):=by
 intro wh pins s σ H Q I h
 refine isTrue_and (thn (ha pins s σ H _ I h) fun c s1 ⟨H1,I1,q1⟩=>?_)
 cases c with
 | true=>exact hb wh pins s1 σ H1 Q I1 q1
 | false=>exact ⟨H1,I1,q1⟩
theorem pw_or (ha:PT X a tA) (hb:PW X (.BoolOp .Or (b :: rest) pos) tB'):PW X (.BoolOp .Or (a :: b :: rest) pos) (tOr tA tB'):=by
 intro wh pins s σ H Q I h
 refine isTrue_or (thn (ha pins s σ H _ I h) fun c s1 ⟨H1,I1,q1⟩=>?_)
 cases c with
 | true=>exact ⟨H1,I1,q1⟩
 | false=>exact hb wh pins s1 σ H1 Q I1 q1
theorem pt_not (ha:PT X a tA):PT X (.UnaryOp .Not a pos) (tNot tA):=by
 intro pins s σ H Q I h
 exact isTrue_not (ha pins s σ H (fun c H1=>Q (!c) H1) I h)
def tAndV (ta tb:TE):TE:=fun σ H Q=>ta σ H fun x H1=>∃ c,x=.bl c/\if c=true then tb σ H1 Q else Q (.bl false) H1
def tOrV (ta tb:TE):TE:=fun σ H Q=>ta σ H fun x H1=>∃ c,x=.bl c/\if c=true then Q (.bl true) H1 else tb σ H1 Q
def tNotV (ta:TE):TE:=fun σ H Q=>ta σ H fun x H1=>∃ c,x=.bl c/\Q (.bl (!c)) H1
theorem pe_one {op} {t:TE} (h:PE X a t):PE X (.BoolOp op [a] pos) t:=fun pins s σ H Q I hw=>BoolOp_one (h pins s σ H Q I hw)
theorem pe_and (ha:PE X a ta) (hb:PE X (.BoolOp .And (b :: rest) pos) tb):PE X (.BoolOp .And (a :: b :: rest) pos) (tAndV ta tb):=by
 intro pins s σ H Q I h
 refine BoolOp_and (thn (ha pins s σ H _ I h) fun v s1 ⟨x,H1,I1,r1,q1⟩=>?_)
 obtain ⟨c,rfl,q1⟩:=q1
 cases r1
 refine wpAny_truthy_bool ?_
 cases c with
 | true=>exact hb pins s1 σ H1 Q I1 q1
 | false=>exact ⟨.bl false,H1,I1,rfl,q1⟩
theorem pe_or (ha:PE X a ta) (hb:PE X (.BoolOp .Or (b :: rest) pos) tb):PE X (.BoolOp .Or (a :: b :: rest) pos) (tOrV ta tb):=by
 intro pins s σ H Q I h
 refine BoolOp_or (thn (ha pins s σ H _ I h) fun v s1 ⟨x,H1,I1,r1,q1⟩=>?_)
 obtain ⟨c,rfl,q1⟩:=q1
 cases r1
 refine wpAny_truthy_bool ?_
 cases c with
 | false=>exact hb pins s1 σ H1 Q I1 q1
 | true=>exact ⟨.bl true,H1,I1,rfl,q1⟩
theorem pe_not (ha:PE X a ta):PE X (.UnaryOp .Not a pos) (tNotV ta):=by
 intro pins s σ H Q I h
 refine UnaryOp_ (thn (ha pins s σ H _ I h) fun v s1 ⟨x,H1,I1,r1,q1⟩=>?_)
 obtain ⟨c,rfl,q1⟩:=q1
 cases r1
 exact not_of (wpAny_truthy_bool ⟨.bl (!c),H1,I1,rfl,q1⟩)
def tIf (t:TT) (ta tb:TE):TE:=fun σ H Q=>t σ H fun c H1=>if c=true then ta σ H1 Q else tb σ H1 Q
theorem pe_ifExp {c:Expr} (hc:PT X c tA) (ha:PE X a ta) (hb:PE X b tb):PE X (.IfExp c a b pos) (tIf tA ta tb):=by
 intro pins s σ H Q I h
 refine wpAny_IfExp (thn (hc pins s σ H _ I h) fun d s1 ⟨H1,I1,q1⟩=>?_)
 cases d with
 | true=>exact ha pins s1 σ H1 Q I1 q1
 | false=>exact hb pins s1 σ H1 Q I1 q1
end
end L2
namespace L2
open PySem PySem.Spec PyProof.Rows
def SqL (K:PySem.W.Frag) (H:Hp) (a:Addr) (xs:List V):Prop :=
 Rd H a (.lst xs) \/
  ∃ (o:Obj) (its:Array Value) (n:Nat),K.lookup a=some o/\o.cls=.type "list" /\ o.dict=none/\o.data=.seq its n/\its.size<=sizeLine/\Vals xs its.toList
def SqT (K:PySem.W.Frag) (H:Hp) (a:Addr) (xs:List V):Prop :=
 Rd H a (.tup xs) \/
  ∃ (o:Obj) (its:Array Value) (n:Nat),K.lookup a=some o/\o.cls=.type "tuple" /\ o.data=.seq its n/\its.size<=sizeLine/\Vals xs its.toList
def absV:Value->Option V
 | .none=>some .non
 | .bool b=>some (.bl b)
 | .int i _=>some (.int i)
 | .str x _=>some (.str x)
 | .bytes b _=>some (.byt b)
 | .float b _=>some (.flt b)
 | .ref a=>some (.ref a)
 | .type n=>some (.ty n)
 | _=>none
theorem RelV.abs {x:V} {u:Value} (r:RelV x u):absV u=some x:=by
 cases x with
 | non=>cases r; rfl
 | bl _=>cases r; rfl
 | int _=>obtain ⟨t,rfl⟩:=r; rfl
 | str _=>obtain ⟨t,rfl⟩:=r; rfl
 | byt _=>obtain ⟨t,rfl⟩:=r; rfl
 | flt _=>obtain ⟨t,rfl⟩:=r; rfl
 | ref _=>cases r; rfl
 | ty _=>cases r; rfl
theorem RelV.inj {x y:V} {u:Value} (r:RelV x u) (q:RelV y u):x=y:=Option.some.inj (r.abs.symm.trans q.abs)
theorem Vals.inj:∀ {xs ys:List V} {us:List Value},Vals xs us->Vals ys us->xs=ys
 | _,_,_,.nil,.nil=>rfl
 | _,_,_,.cons r t,.cons r' t'=>by rw [r.inj r',Vals.inj t t']
section
variable {X:Cx} {pins:List (Addr × Obj)} {σ:St} {H:Hp} {s:Shared} {a:Addr} {xs ys:List V}
theorem SqL.of {K:PySem.W.Frag} (h:H a=some (.lst xs)):SqL K H a xs:=.inl (.inl h)
theorem SqT.of {K:PySem.W.Frag} (h:H a=some (.tup xs)):SqT K H a xs:=.inl (.inl h)
theorem Inv.list (I:Inv X pins σ H s) (h:SqL X.K H a xs):∃ its:List Value,Vals xs its/\PlainL s.heap a its.toArray/\xs.length<=sizeLine:=by
 rcases h with h | ⟨o,its,n,hk,hc,hd,hs,hz,r⟩
 ·obtain ⟨z,its,n,r,e⟩:=h.ok I.hok
  exact ⟨its,r,⟨_,n,e,rfl,rfl,rfl⟩,z⟩
 ·refine ⟨its.toList,r,⟨o,n,I.kIn a o hk,hc,hd,by simpa using hs⟩,?_⟩
  have e:=r.length
  simp only [Array.length_toList] at e
  omega
theorem Inv.tuple (I:Inv X pins σ H s) (h:SqT X.K H a xs):∃ its:List Value,Vals xs its/\IsTup s.heap a its.toArray/\xs.length<=sizeLine:=by
 rcases h with h | ⟨o,its,n,hk,hc,hs,hz,r⟩
 ·obtain ⟨z,its,r,p⟩:=h.ok I.hok
  exact ⟨its,r,p,z⟩
 ·refine ⟨its.toList,r,⟨o,I.kIn a o hk,hc,n,by simpa using hs⟩,?_⟩
  have e:=r.length
  simp only [Array.length_toList] at e
  omega
theorem Inv.list_inj (I:Inv X pins σ H s) (h:SqL X.K H a xs) (h':SqL X.K H a ys):xs=ys:=by
 obtain ⟨its,r,⟨o,n,e,_,_,d⟩,_⟩:=I.list h
 obtain ⟨its',r',⟨o',n',e',_,_,d'⟩,_⟩:=I.list h'
 rw [e] at e'; cases e'
 rw [d] at d'
 injection d' with d1 _
 have:its=its':=by simpa using congrArg Array.toList d1
 subst this
 exact r.inj r'
theorem Inv.tuple_inj (I:Inv X pins σ H s) (h:SqT X.K H a xs) (h':SqT X.K H a ys):xs=ys:=by
 obtain ⟨its,r,⟨o,e,_,n,d⟩,_⟩:=I.tuple h
 obtain ⟨its',r',⟨o',e',_,n',d'⟩,_⟩:=I.tuple h'
 rw [e] at e'; cases e'
 rw [d] at d'
 injection d' with d1 _
 have:its=its':=by simpa using congrArg Array.toList d1
 subst this
 exact r.inj r'
end
abbrev Cx.wish (X:Cx) (E:Value->Shared->Prop):Cx:={ X with xe:=E }
abbrev Cx.nox (X:Cx):Cx:=X.wish fun _ _=>False
theorem Cx.Ok.wish {X:Cx} (ok:X.Ok) (E:Value->Shared->Prop):(X.wish E).Ok :=
 ⟨ok.mod,ok.kind,ok.glob,ok.blt,ok.above,ok.inj,ok.has,ok.cab,ok.hd,ok.frames,ok.stk,ok.exf,ok.bs,ok.bsz,ok.noex,ok.exfs,ok.funs,ok.frf⟩
theorem Cx.Ok.unwish {X:Cx} {E:Value->Shared->Prop} (ok:(X.wish E).Ok):X.Ok :=
 ⟨ok.mod,ok.kind,ok.glob,ok.blt,ok.above,ok.inj,ok.has,ok.cab,ok.hd,ok.frames,ok.stk,ok.exf,ok.bs,ok.bsz,ok.noex,ok.exfs,ok.funs,ok.frf⟩
section
variable {X:Cx} {pins:List (Addr × Obj)} {σ:St} {H:Hp} {s:Shared} {E:Value->Shared->Prop}
theorem Inv.wish (I:Inv X pins σ H s) (E:Value->Shared->Prop):Inv (X.wish E) pins σ H s:=⟨I.ok.wish E,I.os,I.bare,I.base,I.loc,I.cell,I.free,I.freeC,I.pin,I.hok,I.len⟩
theorem Inv.unwish (I:Inv (X.wish E) pins σ H s):Inv X pins σ H s:=⟨I.ok.unwish,I.os,I.bare,I.base,I.loc,I.cell,I.free,I.freeC,I.pin,I.hok,I.len⟩
theorem SP.unwish {D:Ends} {f:Flow} {s':Shared} (h:SP (X.wish E) pins D f s'):SP X pins D f s':=by
 cases f with
 | next=>obtain ⟨σ',H',I,q⟩:=h; exact ⟨σ',H',I.unwish,q⟩
 | brk=>obtain ⟨σ',H',I,q⟩:=h; exact ⟨σ',H',I.unwish,q⟩
 | cont=>obtain ⟨σ',H',I,q⟩:=h; exact ⟨σ',H',I.unwish,q⟩
 | ret u=>obtain ⟨v,σ',H',I,r,q⟩:=h; exact ⟨v,σ',H',I.unwish,r,q⟩
theorem PSs.nox {st:List Stmt} {t:TS} (h:PSs X.nox st t):PSs X st t:=fun pins s σ H D I hw =>
 wpAny_mono (h pins s σ H D (I.wish _) hw) (fun _ _ q=>q.unwish) fun _ _ z=>False.elim z
end
section
variable {X:Cx} {st:Stmt} {rest:List Stmt} {t u:TS} {e:Expr} {te:TE} {pos:Pos}
def tNext:TS:=fun D σ H=>D.nx σ H
def tSeq (t u:TS):TS:=fun D σ H=>t { D with nx:=u D } σ H
theorem pss_nil:PSs X [] tNext:=fun _ _ σ H _ I h=>wpAny_execs_nil ⟨σ,H,I,h⟩
theorem pss_cons (h1:PS X st t) (h2:PSs X rest u):PSs X (st :: rest) (tSeq t u):=by
 intro pins s σ H D I h
 refine wpAny_execs_cons (thn (h1 pins s σ H { D with nx:=u D } I h) fun f s1 q=>?_)
 cases f with
 | next =>
  obtain ⟨σ',H',I',q⟩:=q
  exact h2 pins s1 σ' H' D I' q
 | ret v=>exact q
 | brk=>exact q
 | cont=>exact q
theorem pss_one (h1:PS X st t):PSs X [st] t:=by
 intro pins s σ H D I h
 refine wpAny_execs_cons (thn (h1 pins s σ H D I h) fun f s1 q=>?_)
 cases f with
 | next=>exact wpAny_execs_nil q
 | ret v=>exact q
 | brk=>exact q
 | cont=>exact q
theorem Inv.quiet {pins:List (Addr × Obj)} {σ:St} {H:Hp} {s:Shared} (I:Inv X pins σ H s):interactive X.env=false:=by simp [interactive,I.ok.kind]
def tDrop (te:TE):TS:=fun D σ H=>te σ H fun _ H1=>D.nx σ H1
theorem ps_expr (he:PE X e te) (hs:swapsWith e none pos.line X.env=pure false:=by rfl):PS X (.Expr e pos) (tDrop te):=by
 intro pins s σ H D I h
 exact wpAny_Expr_any (thn (he pins s σ H _ I h) fun v s1 ⟨x,H1,I1,r1,q1⟩=>⟨σ,H1,I1,q1⟩) I.quiet hs
def tRet (te:TE):TS:=fun D σ H=>te σ H D.rt
theorem ps_ret (he:PE X e te):PS X (.Return (some e) pos) (tRet te):=by
 intro pins s σ H D I h
 exact wpAny_Return_some (thn (he pins s σ H _ I h) fun v s1 ⟨x,H1,I1,r1,q1⟩=>⟨x,σ,H1,I1,r1,q1⟩)
def tRetN:TS:=fun D _ H=>D.rt .non H
theorem ps_retN:PS X (.Return none pos) tRetN:=fun _ _ σ H _ I h=>wpAny_Return_none ⟨.non,σ,H,I,rfl,h⟩
def tIfS (c:TT) (t u:TS):TS:=fun D σ H=>c σ H fun b H1=>if b=true then t D σ H1 else u D σ H1
theorem ps_if {c:Expr} {a b:List Stmt} {tc:TT} (hc:PT X c tc) (ha:PSs X a t) (hb:PSs X b u):PS X (.If c a b pos) (tIfS tc t u):=by
 intro pins s σ H D I h
 refine wpAny_If (thn (hc pins s σ H _ I h) fun d s1 ⟨H1,I1,q1⟩=>?_)
 cases d with
 | true=>exact ha pins s1 σ H1 D I1 q1
 | false=>exact hb pins s1 σ H1 D I1 q1
def tNever:TS:=fun _ _ _=>False
theorem ps_never:PS X st tNever:=fun _ _ _ _ _ _ h=>h.elim
end
abbrev TG:=V->St->Hp->(St->Hp->Prop)->Prop
abbrev TGs:=List V->St->Hp->(St->Hp->Prop)->Prop
def PG (X:Cx) (target:Expr) (t:TG):Prop :=
 ∀ (pins:List (Addr × Obj)) (s:Shared) (σ:St) (H:Hp) (v:V) (u:Value) (Q:St->Hp->Prop),Inv X pins σ H s->RelV v u->t v σ H Q ->
  wpAny (model X.prog X.w) X.A (assign target X.env u) (fun _ s'=>∃ σ' H',Inv X pins σ' H' s'/\Q σ' H') X.xe s
def PGs (X:Cx) (ts:List Expr) (t:TGs):Prop :=
 ∀ (pins:List (Addr × Obj)) (s:Shared) (σ:St) (H:Hp) (vs:List V) (us:List Value) (Q:St->Hp->Prop),Inv X pins σ H s->Vals vs us->t vs σ H Q ->
  wpAny (model X.prog X.w) X.A (assignInOrder ((assignEach ts X.env).map (·.2)) us) (fun _ s'=>∃ σ' H',Inv X pins σ' H' s'/\Q σ' H') X.xe s
abbrev TSet:=V->V->V->Hp->(Hp->Prop)->Prop
def PSet (X:Cx) (t:TSet):Prop :=
 ∀ (pins:List (Addr × Obj)) (s:Shared) (σ:St) (H:Hp) (o i v:V) (ov iv u:Value) (Q:Hp->Prop),Inv X pins σ H s->RelV o ov->RelV i iv->RelV v u->t o i v H Q ->
  wpAny (model X.prog X.w) X.A (setItem ov iv u) (fun _ s'=>∃ H',Inv X pins σ H' s'/\Q H') X.xe s
abbrev TIp:=V->V->Hp->VK->Prop
def PIp (X:Cx) (op:Operator) (t:TIp):Prop :=
 ∀ (pins:List (Addr × Obj)) (s:Shared) (σ:St) (H:Hp) (x y:V) (v u:Value) (Q:VK),Inv X pins σ H s->RelV x v->RelV y u->t x y H Q ->
  wpAny (model X.prog X.w) X.A (inplaceOp op v u) (EP X pins σ Q) X.xe s
section
variable {X:Cx} {pos:Pos}
def gName (i:Nat):TG:=fun v σ H Q=>Q (σ.set i (some v)) H
theorem pg_name {i:Nat} {x:Str} (hN:X.N.Nodup) (hi:X.N[i]?=some x) (hx:Loc X.env.scope x) (hf:X.fn x=true\/X.env.scope.names.lookup x=some .local:=by first | exact .inl rfl | exact .inr rfl | assumption):PG X (.Name x pos) (gName i):=by
 intro pins s σ H v u Q I r h
 exact wpAny_assign_Name (store_ok I hN hi hx r (fun s' I'=>⟨_,H,I',h⟩) hf)
def gNil:TGs:=fun vs σ H Q=>vs=[]/\Q σ H
def gCons (t:TG) (u:TGs):TGs:=fun vs σ H Q=>∃ v r,vs=v :: r/\t v σ H fun σ' H'=>u r σ' H' Q
theorem pgs_nil:PGs X [] gNil:=by
 intro pins s σ H vs us Q I r h
 obtain ⟨e,h⟩:=h
 subst e
 cases r
 exact assignInOrder_nil ⟨σ,H,I,h⟩
theorem pgs_cons {e:Expr} {es:List Expr} {t:TG} {u:TGs} (h1:PG X e t) (h2:PGs X es u)
  (hs:(assignEach (e :: es) X.env).map (·.2)=assign e X.env :: (assignEach es X.env).map (·.2):=by rfl):PGs X (e :: es) (gCons t u):=by
 intro pins s σ H vs us Q I r h
 obtain ⟨v,vr,e1,h⟩:=h
 subst e1
 cases r with
 | cons r rr =>
  rw [hs]
  refine assignInOrder_cons (thn (h1 pins s σ H _ _ _ I r h) fun _ s1 ⟨σ1,H1,I1,q1⟩=>?_)
  exact h2 pins s1 σ1 H1 _ _ Q I1 rr q1
def gTup (K:PySem.W.Frag) (n:Nat) (t:TGs):TG:=fun v σ H Q=>∃ a xs,v=.ref a/\SqT K H a xs/\xs.length=n/\t xs σ H Q
theorem pg_tup {es:List Expr} {k:Nat} {t:TGs} {n:Nat} (hc:X.calm=true) (h:PGs X es t)
  (hn:(assignEach es X.env).length=n:=by rfl) (hst:(assignEach es X.env).findIdx? (·.1)=none:=by rfl):PG X (.Tuple es k pos) (gTup X.K n t):=by
 intro pins s σ H v u Q I r hw
 obtain ⟨a,xs,e1,hq,hl,hw⟩:=hw
 subst e1
 cases r
 obtain ⟨its,rv,ht,hz⟩:=I.tuple hq
 refine assign_Tuple_tuple (I.ok.hd hc) ht (by simp [hn,← hl,rv.length]) hst fun h' hx=>?_
 have I1:Inv X pins σ H { s with heap:=h' }:=I.kept (t':=s.toks) fun b o e=>hx b o (Nat.ne_of_lt (Heap.lt_size e)) e
 exact h pins _ σ H xs _ Q I1 (by simpa using rv) hw
def gSub (to ti:TE) (t:TSet):TG:=fun v σ H Q=>to σ H fun o H1=>ti σ H1 fun i H2=>t o i v H2 fun H3=>Q σ H3
theorem pg_sub {o i:Expr} {to ti:TE} {t:TSet} (ho:PE X o to) (hi:PE X i ti) (hs:PSet X t)
  (ha:∀ v,assign (.Subscript o i pos) X.env v=(do
   let ov ← holding [v] (eval o X.env)
   let iv ← holding [v,ov] (eval i X.env)
   standAt pos
   holding [v,ov,iv] (setItem ov iv v)
   release [v,ov,iv] []):=by intro _; rfl):PG X (.Subscript o i pos) (gSub to ti t):=by
 intro pins s σ H v u Q I r h
 rw [ha]
 refine wpAny_bind (wpAny_holding (thn (ho pins s σ H _ I h) fun ov s1 ⟨x,H1,I1,r1,q1⟩=>?_))
 refine wpAny_bind (wpAny_holding (thn (hi pins s1 σ H1 _ I1 q1) fun iv s2 ⟨y,H2,I2,r2,q2⟩=>?_))
 refine wpAny_bind (wpAny_standAt (wpAny_bind (wpAny_holding (thn (hs pins s2 σ H2 x y v ov iv u _ I2 r1 r2 r q2) fun _ s3 ⟨H3,I3,q3⟩=>?_))))
 exact wpAny_release ⟨σ,H3,I3,q3⟩
def tAsg (te:TE) (g:TG):TS:=fun D σ H=>te σ H fun x H1=>g x σ H1 D.nx
theorem ps_asg {tg e:Expr} {te:TE} {g:TG} (he:PE X e te) (hg:PG X tg g) (hs:swapsWithSole [tg] e pos.line X.env=pure false:=by rfl) (hw:swappedStores [tg] e X.env=pure none:=by rfl)
  (h1:(assignEach [tg] X.env).map (·.2)=[assign tg X.env]:=by rfl):PS X (.Assign [tg] e pos) (tAsg te g):=by
 intro pins s σ H D I h
 refine wpAny_Assign_stores (thn (he pins s σ H _ I h) fun v s1 ⟨x,H1,I1,r1,q1⟩=>?_) hs hw
 rw [h1]
 exact thn (hg pins s1 σ H1 x v _ I1 r1 q1) fun _ s2 q=>q
theorem ps_set {i:Nat} {x:Str} {e:Expr} {te:TE} {pos':Pos} (hN:X.N.Nodup) (hi:X.N[i]?=some x) (hx:Loc X.env.scope x) (he:PE X e te) (hs:swapsWith e (some (.Name x pos')) pos.line X.env=pure false:=by rfl) (hf:X.fn x=true\/X.env.scope.names.lookup x=some .local:=by first | exact .inl rfl | exact .inr rfl | assumption) :
  PS X (.Assign [.Name x pos'] e pos) (tAsg te (gName i)):=by
 intro pins s σ H D I h
 refine wpAny_Assign_Name (thn (he pins s σ H _ I h) fun v s1 ⟨y,H1,I1,r1,q1⟩=>?_) hs
 exact store_ok I1 hN hi hx r1 (fun s2 I2=>⟨_,H1,I2,q1⟩) hf
def tAug (i:Nat) (te:TE) (ti:TIp):TS:=fun D σ H=>∃ x,σ[i]?=some (some x)/\te σ H fun y H1=>ti x y H1 fun z H2=>D.nx (σ.set i (some z)) H2
theorem ps_aug {i:Nat} {x:Str} {e:Expr} {te:TE} {op:Operator} {ti:TIp} {pos':Pos} (hN:X.N.Nodup) (hi:X.N[i]?=some x) (hx:Loc X.env.scope x) (he:PE X e te) (ho:PIp X op ti) (hf:X.fn x=true\/X.env.scope.names.lookup x=some .local:=by first | exact .inl rfl | exact .inr rfl | assumption) :
  PS X (.AugAssign (.Name x pos') op e pos) (tAug i te ti):=by
 intro pins s σ H D I h
 obtain ⟨v,e1,h⟩:=h
 obtain ⟨m,hn,hl⟩:=I.loc
 have vis:Vis X.env.scope x:=by rcases hx with k | k; exact .inl k; exact .inr (.inl k)
 obtain ⟨u,r,l⟩:=hl i x v hi e1 vis
 refine wpAny_AugAssign_Name ?_
 have go:wpAny (model X.prog X.w) X.A (eval e X.env) (fun w s₂=>wpAny (model X.prog X.w) X.A (inplaceOp op u w) (fun r s₃=>wpAny (model X.prog X.w) X.A (storeName X.env x r) (fun _=>SP X pins D .next) X.xe s₃) X.xe s₂) X.xe s:=by
  refine thn (he pins s σ H _ I h) fun w s1 ⟨y,H1,I1,r1,q1⟩=>?_
  refine thn (ho pins s1 σ H1 v y u w _ I1 r r1 q1) fun z s2 ⟨zv,H2,I2,r2,q2⟩=>?_
  exact store_ok I2 hN hi hx r2 (fun s3 I3=>⟨_,H2,I3,q2⟩) hf
 rcases l with ⟨hk,hm⟩ | ⟨hk,c,hc,hcell⟩
 ·exact wpAny_loadName_local I.ok.kind hk hn hm go
 ·rcases hk with hk | hk
  ·exact wpAny_loadName_cell I.ok.kind hk hc hcell go
  ·rcases hx with k | k
   ·have:X.env.scope.names.lookup x=some .free:=hk
    rw [k] at this; cases this
   ·have:X.env.scope.names.lookup x=some .free:=hk
    rw [k] at this; cases this
end
section
variable {X:Cx} {pos:Pos}
def tWhile (c:TT) (tb:TS):TS:=fun D σ H=>∃ W:Nat->St->Hp->Prop,(∃ m,W m σ H)/\∀ m σ H,W m σ H ->
 c σ H fun b H1=>if b=true then ∃ N:St->Hp->Prop,(∀ σ' H',N σ' H'->∃ m',m' < m/\W m' σ' H')/\tb { D with nx:=N,ct:=N,bk:=D.nx } σ H1 else D.nx σ H1
theorem ps_while {c:Expr} {body:List Stmt} {tc:TT} {tb:TS} (hp:PassesOwn (model X.prog X.w) X.A X.env X.xe) (hc:PT X c tc) (hb:PSs X body tb):PS X (.While c body [] pos) (tWhile tc tb):=by
 intro pins s σ H D I h
 obtain ⟨W,⟨m0,w0⟩,turn⟩:=h
 refine wpAny_While (codeAny_whileLoop (fun n s'=>∃ σ' H',Inv X pins σ' H' s'/\W n σ' H') ?_ m0 ⟨σ,H,I,w0⟩)
 rintro n s1 ⟨σ1,H1,I1,w1⟩
 refine wpAny_passesOwn hp (thn (hc pins s1 σ1 H1 _ I1 (turn n σ1 H1 w1)) fun b s2 ⟨H2,I2,q2⟩=>?_)
 cases b with
 | true =>
  obtain ⟨N,hN,q2⟩:=q2
  rw [if_pos rfl]
  refine wpAny_passesOwn hp (thn (hb pins s2 σ1 H2 _ I2 q2) fun f s3 q3=>?_)
  cases f with
  | next =>
   obtain ⟨σ3,H3,I3,n3⟩:=q3
   obtain ⟨m',hm,w3⟩:=hN σ3 H3 n3
   exact ⟨m',hm,σ3,H3,I3,w3⟩
  | cont =>
   obtain ⟨σ3,H3,I3,n3⟩:=q3
   obtain ⟨m',hm,w3⟩:=hN σ3 H3 n3
   exact ⟨m',hm,σ3,H3,I3,w3⟩
  | brk=>exact q3
  | ret v=>exact q3
 | false =>
  rw [if_neg Bool.false_ne_true]
  exact wpAny_execs_nil ⟨σ1,H2,I2,q2⟩
end
structure It where
 go:Nat->Hp->Prop
 yld:Nat->Hp->V->Hp->Prop
 stop:Nat->Hp->Prop
def FpOk (X:Cx) (pins:List (Addr × Obj)) (H:Hp) (b:Addr):Prop :=
 H b=none/\b≠X.env.locals/\b ∉ X.fs/\(b∈X.ex\/X.s₀.heap.objs.size<=b)/\(∀ x c,X.env.cells.lookup x=some c->c≠b)/\∀ p∈X.pn ++ pins,p.1≠b
theorem Inv.fpOk {X:Cx} {pins:List (Addr × Obj)} {σ:St} {H H':Hp} {s:Shared} {b:Addr} (I:Inv X pins σ H s) (hb:s.heap.objs.size<=b) (hn:H' b=none):FpOk X pins H' b:=by
 refine ⟨hn,Nat.ne_of_gt (Nat.lt_of_lt_of_le I.lt hb),I.nofs hb,.inr (Nat.le_trans I.sz hb),fun x c e z=>?_,fun p hp z=>?_⟩
 ·obtain ⟨v,q⟩:=I.cell x c e
  exact absurd (Nat.lt_of_lt_of_le q.lt (by rw [z]; exact hb)) (Nat.lt_irrefl _)
 ·exact absurd (Nat.lt_of_lt_of_le (Heap.lt_size (I.pin p hp).1) (by rw [z]; exact hb)) (Nat.lt_irrefl _)
structure Turn (P:Program) (w:World) (K:PySem.W.Frag) (tg:Expr) (J:It) (fp:List Addr) (it:Addr) (tn:Nat->Heap->Prop):Prop where
 mem:it∈fp
 obj:∀ i h,tn i h->∀ b∈fp,∃ o,h.get? b=some o/\∀ v,o.data≠.cell v
 keep:∀ i h h',tn i h->(∀ b∈fp,∀ o,h.get? b=some o->h'.get? b=some o)->tn i h'
 item:∀ (X:Cx),X.prog=P->X.w=w->X.K=K->X.calm=true->∀ (i:Nat) (pins:List (Addr × Obj)) (s:Shared) (σ:St) (H:Hp) (E:Value->Shared->Prop),Inv X pins σ H s->(∀ b∈fp,FpOk X pins H b)->tn i s.heap->J.go i H ->
  wpAny (model P w) X.A (pyNext (.ref it)) (fun r s1=>∃ u,r=some u /\
   wpAny (model P w) X.A (letOwnedTupleGo tg (.ref it) u) (fun _ s2=>∃ x H',Inv X pins σ H' s2/\RelV x u/\J.yld i H x H'/\tn (i + 1) s2.heap/\∀ b∈fp,H' b=none) E s1) E s
 done:∀ (X:Cx),X.prog=P->X.w=w->X.K=K->X.calm=true->∀ (i:Nat) (pins:List (Addr × Obj)) (s:Shared) (σ:St) (H:Hp) (E:Value->Shared->Prop),Inv X pins σ H s->(∀ b∈fp,FpOk X pins H b)->tn i s.heap->J.stop i H ->
  wpAny (model P w) X.A (pyNext (.ref it)) (fun r s1=>r=none/\Inv X pins σ H s1) E s
 self:∀ (A:Around) (i:Nat) (s:Shared) (Q:Value->Shared->Prop) (E:Value->Shared->Prop),tn i s.heap->Q (.ref it) s->wpAny (model P w) A (pyIter (.ref it)) Q E s
abbrev TI:=St->Hp->(It->Hp->Prop)->Prop
def PIE (X:Cx) (pins:List (Addr × Obj)) (σ:St) (tg:Expr) (R:It->Hp->Prop) (itv:Value) (s2:Shared):Prop :=
 ∃ (it:Addr) (fp:List Addr) (tn:Nat->Heap->Prop) (J:It) (H':Hp),itv=.ref it/\Inv X pins σ H' s2/\Turn X.prog X.w X.K tg J fp it tn/\tn 0 s2.heap/\(∀ b∈fp,FpOk X pins H' b)/\R J H'
def PI (X:Cx) (tg iter:Expr) (wi:TI):Prop :=
 ∀ (pins:List (Addr × Obj)) (s:Shared) (σ:St) (H:Hp) (R:It->Hp->Prop),Inv X pins σ H s->wi σ H R ->
  wpAny (model X.prog X.w) X.A (eval iter X.env) (fun v s1=>wpAny (model X.prog X.w) X.A (pyIter v) (PIE X pins σ tg R) X.xe s1) X.xe s
theorem go_of {M:Model} {A:Around} {E:Value->Shared->Prop} {s:Shared} {tg:Expr} {it:Addr} {u:Value} {o:Obj} {n:String} {vs:Array Value} {Q:Unit->Shared->Prop} (ho:s.heap.get? it=some o) (hc:o.cls=.type n) (hd:o.data=.fields vs)
  (hn:["enumerate", "zip", "dict_itemiterator", "dict_reverseitemiterator", "odict_iterator", "itertools.zip_longest", "itertools.pairwise"].contains n=false) (hQ:Q () s):wpAny M A (letOwnedTupleGo tg (.ref it) u) Q E s:=by
 unfold letOwnedTupleGo
 cases tg <;> first
  | exact wpAny_pure hQ
  | (cases u <;> first
    | exact wpAny_pure hQ
    | (refine wpAny_bind (wpAny_load ho ?_)
       rw [hc,hd]
       show wpAny M A (if (["enumerate", "zip", "dict_itemiterator", "dict_reverseitemiterator", "odict_iterator", "itertools.zip_longest", "itertools.pairwise"].contains n && vs[0]? == some (rawInt _))=true then _ else _) Q E s
       rw [if_neg (by intro h; rw [hn,Bool.false_and] at h; cases h)]
       exact wpAny_pure hQ))
def Itl (K:PySem.W.Frag) (a:Addr):It :=
 ⟨fun i H=>∃ xs x,SqL K H a xs/\xs[i]?=some x,fun i H x H'=>H'=H/\∀ xs,SqL K H a xs->xs[i]?=some x,fun i H=>∃ xs,SqL K H a xs/\xs.length<=i⟩
def Itt (K:PySem.W.Frag) (a:Addr):It :=
 ⟨fun i H=>∃ xs x,SqT K H a xs/\xs[i]?=some x,fun i H x H'=>H'=H/\∀ xs,SqT K H a xs->xs[i]?=some x,fun i H=>∃ xs,SqT K H a xs/\xs.length<=i⟩
def Itr (lo:Int) (n:Nat):It:=⟨fun i _=>i < n,fun i H x H'=>H'=H/\x=.int (lo + i),fun i _=>n<=i⟩
theorem turn_list {P:Program} {w:World} {K:PySem.W.Frag} {tg:Expr} (a it:Addr):Turn P w K tg (Itl K a) [it] it (fun i h=>h.IsListIter it a i) where
 mem:=by simp
 obj:=fun i h st b hb=>by
  have e:b=it:=by simpa using hb
  subst e
  obtain ⟨o,e,c,d⟩:=st
  exact ⟨o,e,fun v z=>by rw [d] at z; cases z⟩
 keep:=fun i h h' st k=>st.at fun o e=>k it (by simp) o e
 item:=by
  intro X hP hw hK hc i pins s σ H E I hf st hg
  subst hP hw hK
  obtain ⟨xs,x,hq,hx⟩:=hg
  obtain ⟨its,rv,p,hz⟩:=I.list hq
  obtain ⟨u,hu,ru⟩:=rv.get hx
  obtain ⟨f0,f1,f2,f3,f4,f5⟩:=hf it (by simp)
  refine wpAny_pyNext_list_item st p.isList (x:=u) (by simpa using hu) fun h' st' sb=>?_
  have I1:Inv X pins σ H { s with heap:=h' }:=I.turned (t':=s.toks) (fun b o hb e=>(sb.2 b hb).trans e) f0 f1 f3 f4 f5
  obtain ⟨o,e,c,d⟩:=id st'
  exact ⟨u,rfl,go_of (s:={ s with heap:=h' }) e c d (by decide) ⟨x,H,I1,ru,⟨rfl,fun ys hy=>by rw [I.list_inj hy hq]; exact hx⟩,st',fun b hb=>(hf b hb).1⟩⟩
 done:=by
  intro X hP hw hK hc i pins s σ H E I hf st hg
  subst hP hw hK
  obtain ⟨xs,hq,hx⟩:=hg
  obtain ⟨its,rv,p,hz⟩:=I.list hq
  obtain ⟨f0,f1,f2,f3,f4,f5⟩:=hf it (by simp)
  have hl:=rv.length
  exact wpAny_pyNext_list_end (I.ok.hd hc) st p.isList (by simp; omega) fun h' eb=>⟨rfl,I.turned (t':=s.toks) (fun b o hb e=>eb b o hb e) f0 f1 f3 f4 f5⟩
 self:=fun _ _ _ _ _ st h=>wpAny_pyIter_listiter st h
theorem turn_tuple {P:Program} {w:World} {K:PySem.W.Frag} {tg:Expr} (a it:Addr):Turn P w K tg (Itt K a) [it] it (fun i h=>h.IsTupleIter it a i) where
 mem:=by simp
 obj:=fun i h st b hb=>by
  have e:b=it:=by simpa using hb
  subst e
  obtain ⟨o,e,c,d⟩:=st
  exact ⟨o,e,fun v z=>by rw [d] at z; cases z⟩
 keep:=fun i h h' st k=>st.at fun o e=>k it (by simp) o e
 item:=by
  intro X hP hw hK hc i pins s σ H E I hf st hg
  subst hP hw hK
  obtain ⟨xs,x,hq,hx⟩:=hg
  obtain ⟨its,rv,p,hz⟩:=I.tuple hq
  obtain ⟨u,hu,ru⟩:=rv.get hx
  obtain ⟨f0,f1,f2,f3,f4,f5⟩:=hf it (by simp)
  refine wpAny_pyNext_tuple_item st (show s.heap.IsTuple a its.toArray from p) (x:=u) (by simpa using hu) fun h' st' sb=>?_
  have I1:Inv X pins σ H { s with heap:=h' }:=I.turned (t':=s.toks) (fun b o hb e=>(sb.2 b hb).trans e) f0 f1 f3 f4 f5
  obtain ⟨o,e,c,d⟩:=id st'
  exact ⟨u,rfl,go_of (s:={ s with heap:=h' }) e c d (by decide) ⟨x,H,I1,ru,⟨rfl,fun ys hy=>by rw [I.tuple_inj hy hq]; exact hx⟩,st',fun b hb=>(hf b hb).1⟩⟩
 done:=by
  intro X hP hw hK hc i pins s σ H E I hf st hg
  subst hP hw hK
  obtain ⟨xs,hq,hx⟩:=hg
  obtain ⟨its,rv,p,hz⟩:=I.tuple hq
  obtain ⟨f0,f1,f2,f3,f4,f5⟩:=hf it (by simp)
  have hl:=rv.length
  exact wpAny_pyNext_tuple_end (I.ok.hd hc) st (show s.heap.IsTuple a its.toArray from p) (by simp; omega) fun h' eb=>⟨rfl,I.turned (t':=s.toks) (fun b o hb e=>eb b o hb e) f0 f1 f3 f4 f5⟩
 self:=fun _ _ _ _ _ st h=>wpAny_pyIter_tupleiter st h
theorem turn_range {P:Program} {w:World} {K:PySem.W.Frag} {tg:Expr} (it:Addr) (lo:Int) (n:Nat):Turn P w K tg (Itr lo n) [it] it (fun i h=>IsRangeIter h it (lo + (i:Nat) * 1) ((n:Int) - (i:Nat)) 1) where
 mem:=by simp
 obj:=fun i h st b hb=>by
  have e:b=it:=by simpa using hb
  subst e
  exact ⟨_,st,fun v z=>by
   have z':Data.fields _=Data.cell v:=z
   cases z'⟩
 keep:=fun i h h' st k=>k it (by simp) _ st
 item:=by
  intro X hP hw hK hc i pins s σ H E I hf st hg
  subst hP hw hK
  obtain ⟨f0,f1,f2,f3,f4,f5⟩:=hf it (by simp)
  have W:=Walks.range (prog:=X.prog) (w:=X.w) (I.ok.hd hc) it lo 1 n
  refine W.item i s _ _ hg st fun v h' tk hv st' kk=>?_
  obtain ⟨t,rfl⟩:=hv
  have I1:Inv X pins σ H { s with heap:=h',toks:=tk }:=I.turned (fun b o hb e=>kk b o (by simpa using hb) e) f0 f1 f3 f4 f5
  refine ⟨_,rfl,go_of (s:={ s with heap:=h',toks:=tk }) (n := "range_iterator") st' rfl rfl (by decide) ⟨.int (lo + i),H,I1,⟨t,?_⟩,⟨rfl,rfl⟩,st',fun b hb=>(hf b hb).1⟩⟩
  rw [Int.mul_one]
 done:=by
  intro X hP hw hK hc i pins s σ H E I hf st hg
  subst hP hw hK
  obtain ⟨f0,f1,f2,f3,f4,f5⟩:=hf it (by simp)
  exact wpAny_pyNext_range_end (I.ok.hd hc) st (by have:n<=i:=hg; omega) fun h' eb=>⟨rfl,I.turned (t':=s.toks) (fun b o hb e=>eb b o hb e) f0 f1 f3 f4 f5⟩
 self:=fun _ _ _ _ _ st h=>wpAny_pyIter_rangeiter st h
end L2
namespace L2
open PySem PySem.Spec PyProof.Rows
section
variable {X:Cx} {tg:Expr}
def iList (K:PySem.W.Frag) (tl:TE):TI:=fun σ H R=>tl σ H fun x H1=>∃ a,x=.ref a/\(∃ xs,SqL K H1 a xs)/\R (Itl K a) H1
def iTup (K:PySem.W.Frag) (tl:TE):TI:=fun σ H R=>tl σ H fun x H1=>∃ a,x=.ref a/\(∃ xs,SqT K H1 a xs)/\R (Itt K a) H1
theorem pi_list {l:Expr} {tl:TE} (hl:PE X l tl):PI X tg l (iList X.K tl):=by
 intro pins s σ H R I h
 refine thn (hl pins s σ H _ I h) fun v s1 ⟨x,H1,I1,r1,q1⟩=>?_
 obtain ⟨a,e,⟨xs,hq⟩,q⟩:=q1
 subst e
 cases r1
 obtain ⟨its,rv,p,hz⟩:=I1.list hq
 refine wpAny_pyIter_list p.isList ?_
 refine ⟨s1.heap.objs.size,[s1.heap.objs.size],_,_,H1,rfl,I1.kept (t':=s1.toks) fun b o e=>Heap.get?_push_of_some _ e,turn_list a _,⟨_,Heap.get?_push_size _ rfl,rfl,rfl⟩,fun b hb=>?_,q⟩
 have e:b=s1.heap.objs.size:=by simpa using hb
 subst e
 exact I1.fpOk (Nat.le_refl _) (I1.hok.fresh (Nat.le_refl _))
theorem pi_tup {l:Expr} {tl:TE} (hl:PE X l tl):PI X tg l (iTup X.K tl):=by
 intro pins s σ H R I h
 refine thn (hl pins s σ H _ I h) fun v s1 ⟨x,H1,I1,r1,q1⟩=>?_
 obtain ⟨a,e,⟨xs,hq⟩,q⟩:=q1
 subst e
 cases r1
 obtain ⟨its,rv,p,hz⟩:=I1.tuple hq
 refine wpAny_pyIter_tuple (show s1.heap.IsTuple a its.toArray from p) ?_
 refine ⟨s1.heap.objs.size,[s1.heap.objs.size],_,_,H1,rfl,I1.kept (t':=s1.toks) fun b o e=>Heap.get?_push_of_some _ e,turn_tuple a _,⟨_,Heap.get?_push_size _ rfl,rfl,rfl⟩,fun b hb=>?_,q⟩
 have e:b=s1.heap.objs.size:=by simpa using hb
 subst e
 exact I1.fpOk (Nat.le_refl _) (I1.hok.fresh (Nat.le_refl _))
theorem range_it {pins:List (Addr × Obj)} {σ:St} {H:Hp} {s:Shared} {R:It->Hp->Prop} {E:Value->Shared->Prop} {lo hi:Int} {t u v:Tok} {tk:Nat} (I:Inv X pins σ H s) (h1:-(2 ^ 62)<=lo) (h2:lo < 2 ^ 62) (h3:-(2 ^ 62)<=hi) (h4:hi < 2 ^ 62)
  (q:R (Itr lo (hi - lo).toNat) H):wpAny (model X.prog X.w) X.A (pyIter (.ref s.heap.objs.size)) (PIE X pins σ tg R) E { s with heap:=s.heap.push { cls:=.type "range", data:=.fields #[.int lo t,.int hi u,.int 1 v] },toks:=tk }:=by
 refine wpAny_pyIter_range (IsRange.new ..) (small_one h1 h2 h3 h4) ?_
 have I1:Inv X pins σ H { s with heap:=s.heap.push { cls:=.type "range", data:=.fields #[.int lo t,.int hi u,.int 1 v] },toks:=tk }:=I.kept fun b o e=>Heap.get?_push_of_some _ e
 refine ⟨(s.heap.push { cls:=.type "range", data:=.fields #[.int lo t,.int hi u,.int 1 v] }).objs.size,[(s.heap.push { cls:=.type "range", data:=.fields #[.int lo t,.int hi u,.int 1 v] }).objs.size],_,_,H,rfl,
  I1.kept (t':=tk) fun b o e=>Heap.get?_push_of_some _ e,turn_range _ lo (hi - lo).toNat,?_,fun b hb=>?_,q⟩
 ·have e1:lo + ((0:Nat):Int) * 1=lo:=by simp
  have e2:(((hi - lo).toNat:Nat):Int) - ((0:Nat):Int)=Builtin.Range.rangeSize lo hi 1:=by rw [rangeSize_one]; split <;> omega
  show IsRangeIter _ _ (lo + ((0:Nat):Int) * 1) ((((hi - lo).toNat:Nat):Int) - ((0:Nat):Int)) 1
  rw [e1,e2]
  exact Heap.get?_push_size _ rfl
 ·have e:b=(s.heap.push { cls:=.type "range", data:=.fields #[.int lo t,.int hi u,.int 1 v] }).objs.size:=by simpa using hb
  subst e
  exact I1.fpOk (Nat.le_refl _) (I1.hok.fresh (Nat.le_refl _))
def iRng1 (ta:TA):TI:=fun σ H R=>ta σ H fun vs H1=>∃ j:Int,vs=[.int j]/\-(2 ^ 62)<=j/\j < 2 ^ 62/\R (Itr 0 j.toNat) H1
def iRng2 (ta:TA):TI:=fun σ H R=>ta σ H fun vs H1=>∃ i j:Int,vs=[.int i,.int j]/\(-(2 ^ 62)<=i/\i < 2 ^ 62/\-(2 ^ 62)<=j/\j < 2 ^ 62)/\R (Itr i (j - i).toNat) H1
theorem pi_range1 {a:Expr} {ta:TA} {p pos:Pos} (hg:Gl X "range") (hm:X.mg "range"=none) (ha:PA X [a] ta) (hs:starEach [a] X.env=[(false,eval a X.env)]:=by rfl):PI X tg (.Call (.Name "range" p) [a] [] pos) (iRng1 ta):=by
 intro pins s σ H R I h
 refine Call_ (ld_blt I hg hm boot_range (PyProof.Rows.callWith_type1 (thn (ha pos pins s σ H _ I h) fun us s1 ⟨vs,H1,I1,r1,q1⟩=>?_) hs rfl))
 obtain ⟨j,e,q1,q2,q⟩:=q1
 subst e
 cases r1 with
 | cons r rr =>
  cases rr
  obtain ⟨t,rfl⟩:=r
  exact call_range_1 (range_it I1 (by omega) (by omega) q1 q2 (by simpa using q))
theorem pi_range2 {a b:Expr} {ta:TA} {p pos:Pos} (hg:Gl X "range") (hm:X.mg "range"=none) (ha:PA X [a,b] ta) (hs:starEach [a,b] X.env=[(false,eval a X.env),(false,eval b X.env)]:=by rfl) (hs2:starEach [b] X.env=[(false,eval b X.env)]:=by rfl) :
  PI X tg (.Call (.Name "range" p) [a,b] [] pos) (iRng2 ta):=by
 intro pins s σ H R I h
 refine Call_ (ld_blt I hg hm boot_range (PyProof.Rows.callWith_type1 (thn (ha pos pins s σ H _ I h) fun us s1 ⟨vs,H1,I1,r1,q1⟩=>?_) (by rw [hs,hs2]) (by rw [hs2]; rfl)))
 obtain ⟨i,j,e,⟨q1,q2,q3,q4⟩,q⟩:=q1
 subst e
 cases r1 with
 | cons r rr =>
  cases rr with
  | cons r' rr =>
   cases rr
   obtain ⟨t,rfl⟩:=r
   obtain ⟨t',rfl⟩:=r'
   exact call_range_2 (range_it I1 q1 q2 q3 q4 q)
def tFor (wi:TI) (g:TG) (tb:TS):TS:=fun D σ H=>wi σ H fun J H1=>∃ W:Nat->Nat->St->Hp->Prop,(∃ m,W 0 m σ H1)/\∀ i m σ H,W i m σ H ->
 (J.stop i H/\D.nx σ H)\/(J.go i H/\∃ N:St->Hp->Prop,(∀ σ' H',N σ' H'->∃ m',m' < m/\W (i + 1) m' σ' H')/\∀ x H',J.yld i H x H'->g x σ H' fun σ2 H2=>tb { D with nx:=N,ct:=N,bk:=D.nx } σ2 H2)
def pinsAt (fp:List Addr) (h:Heap):List (Addr × Obj):=fp.filterMap fun b=>(h.get? b).map fun o=>(b,o)
theorem mem_pinsAt {fp:List Addr} {h:Heap} {b:Addr} {o:Obj} (hb:b∈fp) (e:h.get? b=some o):(b,o)∈pinsAt fp h:=List.mem_filterMap.mpr ⟨b,hb,by rw [e]; rfl⟩
theorem of_pinsAt {fp:List Addr} {h:Heap} {p:Addr × Obj} (hp:p∈pinsAt fp h):p.1∈fp/\h.get? p.1=some p.2:=by
 obtain ⟨b,hb,e⟩:=List.mem_filterMap.mp hp
 cases q:h.get? b with
 | none=>rw [q] at e; cases e
 | some o =>
  rw [q] at e
  have e':(b,o)=p:=Option.some.inj e
  subst e'
  exact ⟨hb,q⟩
theorem Inv.pinned {pins:List (Addr × Obj)} {σ:St} {H:Hp} {s:Shared} {fp:List Addr} (I:Inv X pins σ H s) (hf:∀ b∈fp,FpOk X pins H b) (ho:∀ b∈fp,∃ o,s.heap.get? b=some o/\∀ v,o.data≠.cell v):Inv X (pins ++ pinsAt fp s.heap) σ H s :=
 I.pins_of fun p hp=>(List.mem_append.mp hp).elim (fun z=>I.pin p (List.mem_append_right _ z)) fun z=>by
  obtain ⟨hb,e⟩:=of_pinsAt z
  obtain ⟨f0,f1,f2,_⟩:=hf p.1 hb
  obtain ⟨o,e',d⟩:=ho p.1 hb
  rw [e] at e'; cases e'
  exact ⟨e,f0,f1,f2,d⟩
theorem Inv.unpinned {pins pl:List (Addr × Obj)} {σ:St} {H:Hp} {s:Shared} (I:Inv X (pins ++ pl) σ H s):Inv X pins σ H s:=I.pins_of fun p hp=>I.pin p (List.mem_append_right _ (List.mem_append_left _ hp))
theorem ps_for {iter:Expr} {body:List Stmt} {wi:TI} {g:TG} {tb:TS} {pos:Pos} (hp:PassesOwn (model X.prog X.w) X.A X.env X.xe) (hc:X.calm=true) (hi:PI X tg iter wi) (hg:PG X tg g) (hb:PSs X body tb)
  (hs:∀ x,foldedSetIterable iter X.env x=pure x:=by intro _; rfl):PS X (.For tg iter body [] pos) (tFor wi g tb):=by
 intro pins s σ H D I h
 refine wpAny_For (thn (hi pins s σ H _ I h) fun v s1 h1=>thn h1 fun itv s2 h2=>?_) hs
 obtain ⟨it,fp,tn,J,H2,e,I2,T,st2,f2,W,⟨m0,w0⟩,turn⟩:=h2
 subst e
 have stat:∀ {H':Hp},(∀ b∈fp,H' b=none)->∀ b∈fp,FpOk X pins H' b:=fun hn b hb=>⟨hn b hb,(f2 b hb).2⟩
 refine codeAny_forLoop_any (fun n s'=>∃ i σ' H',Inv X pins σ' H' s'/\tn i s'.heap/\(∀ b∈fp,H' b=none)/\W i n σ' H') ?_ m0 ⟨0,σ,H2,I2,st2,fun b hb=>(f2 b hb).1,w0⟩
 rintro n s3 ⟨i,σ3,H3,I3,st3,fr3,w3⟩
 rcases turn i n σ3 H3 w3 with ⟨stop,qn⟩ | ⟨go,N,hN,step⟩
 ·refine wpAny_passesOwn hp (thn (T.done X rfl rfl rfl hc i pins s3 σ3 H3 X.xe I3 (stat fr3) st3 stop) fun r s4 ⟨hr,I4⟩=>?_)
  subst hr
  exact wpAny_execs_nil ⟨σ3,H3,I4,qn⟩
 ·refine wpAny_passesOwn hp (thn (T.item X rfl rfl rfl hc i pins s3 σ3 H3 X.xe I3 (stat fr3) st3 go) fun r s4 ⟨u,hr,h4⟩=>?_)
  subst hr
  refine wpAny_passesOwn hp (thn h4 fun _ s5 ⟨x,H5,I5,r5,y5,st5,fr5⟩=>?_)
  have I5':=I5.pinned (stat fr5) (T.obj _ _ st5)
  refine wpAny_passesOwn hp (thn (hg _ s5 σ3 H5 x u _ I5' r5 (step x H5 y5)) fun _ s6 ⟨σ6,H6,I6,q6⟩=>?_)
  refine wpAny_passesOwn hp (thn (hb _ s6 σ6 H6 _ I6 q6) fun f s7 q7=>?_)
  have again:∀ {σ7:St} {H7:Hp},Inv X (pins ++ pinsAt fp s5.heap) σ7 H7 s7->N σ7 H7->∃ m,m < n/\∃ i σ' H',Inv X pins σ' H' s7/\tn i s7.heap/\(∀ b∈fp,H' b=none)/\W i m σ' H':=fun {σ7 H7} I7 n7=>by
   obtain ⟨m',hm,w7⟩:=hN σ7 H7 n7
   refine ⟨m',hm,i + 1,σ7,H7,I7.unpinned,T.keep _ _ _ st5 fun b hb o e=>(I7.pin (b,o) (List.mem_append_right _ (List.mem_append_right _ (mem_pinsAt hb e)))).1,fun b hb=>?_,w7⟩
   obtain ⟨o,e,d⟩:=T.obj _ _ st5 b hb
   exact (I7.pin (b,o) (List.mem_append_right _ (List.mem_append_right _ (mem_pinsAt hb e)))).2.1
  cases f with
  | next=>obtain ⟨σ7,H7,I7,n7⟩:=q7; exact again I7 n7
  | cont=>obtain ⟨σ7,H7,I7,n7⟩:=q7; exact again I7 n7
  | brk=>obtain ⟨σ7,H7,I7,q7⟩:=q7; exact ⟨σ7,H7,I7.unpinned,q7⟩
  | ret v=>obtain ⟨x7,σ7,H7,I7,r7,q7⟩:=q7; exact ⟨x7,σ7,H7,I7.unpinned,r7,q7⟩
end
theorem for_list {K:PySem.W.Frag} {a:Addr} {xs:List V} {g:TG} {tb:TS} {D:Ends} {σ:St} {H:Hp} (Pv:Nat->St->Hp->Prop) (h0:Pv 0 σ H) (hl:∀ i σ H,i<=xs.length->Pv i σ H->SqL K H a xs)
  (hs:∀ i x σ H,xs[i]?=some x->Pv i σ H->g x σ H fun σ2 H2=>tb { D with nx:=Pv (i + 1),ct:=Pv (i + 1),bk:=D.nx } σ2 H2) (hd:∀ σ H,Pv xs.length σ H->D.nx σ H) :
  ∃ W:Nat->Nat->St->Hp->Prop,(∃ m,W 0 m σ H)/\∀ i m σ H,W i m σ H ->
   ((Itl K a).stop i H/\D.nx σ H)\/((Itl K a).go i H/\∃ N:St->Hp->Prop,(∀ σ' H',N σ' H'->∃ m',m' < m/\W (i + 1) m' σ' H')/\∀ x H',(Itl K a).yld i H x H'->g x σ H' fun σ2 H2=>tb { D with nx:=N,ct:=N,bk:=D.nx } σ2 H2):=by
 refine ⟨fun i m σ H=>m=xs.length - i/\i<=xs.length/\Pv i σ H,⟨xs.length,by simp,Nat.zero_le _,h0⟩,?_⟩
 rintro i m σ H ⟨rfl,hi,p⟩
 have q:=hl i σ H hi p
 by_cases hlt:i < xs.length
 ·refine .inr ⟨⟨xs,xs[i],q,by simp [hlt]⟩,Pv (i + 1),fun σ' H' p'=>⟨xs.length - (i + 1),by omega,rfl,hlt,p'⟩,fun x H' y=>?_⟩
  obtain ⟨e,y⟩:=y
  subst e
  exact hs i x σ _ (y xs q) p
 ·have e:i=xs.length:=by omega
  subst e
  exact .inl ⟨⟨xs,q,Nat.le_refl _⟩,hd σ H p⟩
theorem for_tup {K:PySem.W.Frag} {a:Addr} {xs:List V} {g:TG} {tb:TS} {D:Ends} {σ:St} {H:Hp} (Pv:Nat->St->Hp->Prop) (h0:Pv 0 σ H) (hl:∀ i σ H,i<=xs.length->Pv i σ H->SqT K H a xs)
  (hs:∀ i x σ H,xs[i]?=some x->Pv i σ H->g x σ H fun σ2 H2=>tb { D with nx:=Pv (i + 1),ct:=Pv (i + 1),bk:=D.nx } σ2 H2) (hd:∀ σ H,Pv xs.length σ H->D.nx σ H) :
  ∃ W:Nat->Nat->St->Hp->Prop,(∃ m,W 0 m σ H)/\∀ i m σ H,W i m σ H ->
   ((Itt K a).stop i H/\D.nx σ H)\/((Itt K a).go i H/\∃ N:St->Hp->Prop,(∀ σ' H',N σ' H'->∃ m',m' < m/\W (i + 1) m' σ' H')/\∀ x H',(Itt K a).yld i H x H'->g x σ H' fun σ2 H2=>tb { D with nx:=N,ct:=N,bk:=D.nx } σ2 H2):=by
 refine ⟨fun i m σ H=>m=xs.length - i/\i<=xs.length/\Pv i σ H,⟨xs.length,by simp,Nat.zero_le _,h0⟩,?_⟩
 rintro i m σ H ⟨rfl,hi,p⟩
 have q:=hl i σ H hi p
 by_cases hlt:i < xs.length
 ·refine .inr ⟨⟨xs,xs[i],q,by simp [hlt]⟩,Pv (i + 1),fun σ' H' p'=>⟨xs.length - (i + 1),by omega,rfl,hlt,p'⟩,fun x H' y=>?_⟩
  obtain ⟨e,y⟩:=y
  subst e
  exact hs i x σ _ (y xs q) p
 ·have e:i=xs.length:=by omega
  subst e
  exact .inl ⟨⟨xs,q,Nat.le_refl _⟩,hd σ H p⟩
theorem for_range {lo:Int} {n:Nat} {g:TG} {tb:TS} {D:Ends} {σ:St} {H:Hp} (Pv:Nat->St->Hp->Prop) (h0:Pv 0 σ H)
  (hs:∀ i σ H,i < n->Pv i σ H->g (.int (lo + i)) σ H fun σ2 H2=>tb { D with nx:=Pv (i + 1),ct:=Pv (i + 1),bk:=D.nx } σ2 H2) (hd:∀ σ H,Pv n σ H->D.nx σ H) :
  ∃ W:Nat->Nat->St->Hp->Prop,(∃ m,W 0 m σ H)/\∀ i m σ H,W i m σ H ->
   ((Itr lo n).stop i H/\D.nx σ H)\/((Itr lo n).go i H/\∃ N:St->Hp->Prop,(∀ σ' H',N σ' H'->∃ m',m' < m/\W (i + 1) m' σ' H')/\∀ x H',(Itr lo n).yld i H x H'->g x σ H' fun σ2 H2=>tb { D with nx:=N,ct:=N,bk:=D.nx } σ2 H2):=by
 refine ⟨fun i m σ H=>m=n - i/\i<=n/\Pv i σ H,⟨n,by simp,Nat.zero_le _,h0⟩,?_⟩
 rintro i m σ H ⟨rfl,hi,p⟩
 by_cases hlt:i < n
 ·refine .inr ⟨hlt,Pv (i + 1),fun σ' H' p'=>⟨n - (i + 1),by omega,rfl,hlt,p'⟩,fun x H' y=>?_⟩
  obtain ⟨e,y⟩:=y
  subst e y
  exact hs i σ _ hlt p
 ·have e:i=n:=by omega
  subst e
  exact .inl ⟨Nat.le_refl _,hd σ H p⟩
end L2
namespace L2
open PySem PySem.Spec PyProof.Rows
abbrev R2:=V->V->Hp->VK->Prop
def OpR (X:Cx) (f:Value->Value->Sem Value) (r:R2):Prop :=
 ∀ (pins:List (Addr × Obj)) (s:Shared) (σ:St) (H:Hp) (x y:V) (v u:Value) (Q:VK),Inv X pins σ H s->RelV x v->RelV y u->r x y H Q ->
  wpAny (model X.prog X.w) X.A (f v u) (EP X pins σ Q) X.xe s
def UnR (X:Cx) (f:Value->Sem Value) (r:V->Hp->VK->Prop):Prop :=
 ∀ (pins:List (Addr × Obj)) (s:Shared) (σ:St) (H:Hp) (x:V) (v:Value) (Q:VK),Inv X pins σ H s->RelV x v->r x H Q ->
  wpAny (model X.prog X.w) X.A (f v) (EP X pins σ Q) X.xe s
def CallR (X:Cx) (f:Value) (r:List V->Hp->VK->Prop):Prop :=
 ∀ (pins:List (Addr × Obj)) (s:Shared) (σ:St) (H:Hp) (xs:List V) (us:List Value) (Q:VK),Inv X pins σ H s->Vals xs us->r xs H Q ->
  wpAny (model X.prog X.w) X.A (call f us) (EP X pins σ Q) X.xe s
def TruR (X:Cx) (r:V->Hp->(Bool->Hp->Prop)->Prop):Prop :=
 ∀ (pins:List (Addr × Obj)) (s:Shared) (σ:St) (H:Hp) (x:V) (v:Value) (Q:Bool->Hp->Prop),Inv X pins σ H s->RelV x v->r x H Q ->
  wpAny (model X.prog X.w) X.A (truthy v) (TP X pins σ Q) X.xe s
def tOp (r:R2) (ta tb:TE):TE:=fun σ H Q=>ta σ H fun x H1=>tb σ H1 fun y H2=>r x y H2 Q
def tUn (r:V->Hp->VK->Prop) (ta:TE):TE:=fun σ H Q=>ta σ H fun x H1=>r x H1 Q
def rI (C:Int->Int->Prop) (g:Int->Int->V):R2:=fun x y H Q=>∃ i j,x=.int i/\y=.int j/\C i j/\Q (g i j) H
def rI0 (g:Int->Int->V):R2:=fun x y H Q=>∃ i j,x=.int i/\y=.int j/\Q (g i j) H
def rU (g:Int->V):V->Hp->VK->Prop:=fun x H Q=>∃ i,x=.int i/\Q (g i) H
section
variable {X:Cx} {a b c:Expr} {ta tb tc:TE} {pos:Pos}
theorem binT (ha:PE X a ta) (hb:PE X b tb) {pins:List (Addr × Obj)} {s:Shared} {σ:St} {H:Hp} {R:V->V->Hp->Prop} (I:Inv X pins σ H s)
  (h:ta σ H fun x H1=>tb σ H1 fun y H2=>R x y H2) {Q:Value->Shared->Prop} {f:Value->Value->Sem Value}
  (hf:∀ v u s2 x y H2,Inv X pins σ H2 s2->RelV x v->RelV y u->R x y H2->wpAny (model X.prog X.w) X.A (f v u) Q X.xe s2) :
  wpAny (model X.prog X.w) X.A (eval a X.env) (fun v s₁=>wpAny (model X.prog X.w) X.A (eval b X.env) (fun u s₂=>wpAny (model X.prog X.w) X.A (f v u) Q X.xe s₂) X.xe s₁) X.xe s:=by
 refine thn (ha pins s σ H _ I h) fun v s1 ⟨x,H1,I1,r1,q1⟩=>?_
 refine thn (hb pins s1 σ H1 _ I1 q1) fun u s2 ⟨y,H2,I2,r2,q2⟩=>?_
 exact hf v u s2 x y H2 I2 r1 r2 q2
theorem pe_op {op:Operator} {r:R2} (ho:OpR X (binaryOp op) r) (ha:PE X a ta) (hb:PE X b tb):PE X (.BinOp a op b pos) (tOp r ta tb):=by
 intro pins s σ H Q I h
 exact wpAny_BinOp (binT ha hb I h fun v u s2 x y H2 I2 rx ry q=>ho pins s2 σ H2 x y v u Q I2 rx ry q)
theorem pe_un {op:UnaryOp} {r:V->Hp->VK->Prop} (ho:UnR X (unaryOp op) r) (ha:PE X a ta):PE X (.UnaryOp op a pos) (tUn r ta):=by
 intro pins s σ H Q I h
 exact UnaryOp_ (thn (ha pins s σ H _ I h) fun v s1 ⟨x,H1,I1,r1,q1⟩=>ho pins s1 σ H1 x v Q I1 r1 q1)
theorem opI {f:Value->Value->Sem Value} {C:Int->Int->Prop} {g:Int->Int->Int}
  (rule:∀ (i j:Int) (t u:Tok) (s:Shared) (Q:Value->Shared->Prop) (E:Value->Shared->Prop),C i j->Q (.int (g i j) s.toks) { s with toks:=s.toks + 1 }->wpAny (model X.prog X.w) X.A (f (.int i t) (.int j u)) Q E s) :
  OpR X f (rI C fun i j=>.int (g i j)):=by
 intro pins s σ H x y v u Q I rx ry h
 obtain ⟨i,j,rfl,rfl,hc,q⟩:=h
 obtain ⟨t,rfl⟩:=rx
 obtain ⟨t',rfl⟩:=ry
 exact rule i j t t' s _ _ hc ⟨.int (g i j),H,I.tok _,⟨_,rfl⟩,q⟩
theorem opI0 {f:Value->Value->Sem Value} {g:Int->Int->Int}
  (rule:∀ (i j:Int) (t u:Tok) (s:Shared) (Q:Value->Shared->Prop) (E:Value->Shared->Prop),Q (.int (g i j) s.toks) { s with toks:=s.toks + 1 }->wpAny (model X.prog X.w) X.A (f (.int i t) (.int j u)) Q E s) :
  OpR X f (rI0 fun i j=>.int (g i j)):=by
 intro pins s σ H x y v u Q I rx ry h
 obtain ⟨i,j,rfl,rfl,q⟩:=h
 obtain ⟨t,rfl⟩:=rx
 obtain ⟨t',rfl⟩:=ry
 exact rule i j t t' s _ _ ⟨.int (g i j),H,I.tok _,⟨_,rfl⟩,q⟩
theorem opB0 {f:Value->Value->Sem Value} {g:Int->Int->Bool}
  (rule:∀ (i j:Int) (t u:Tok) (s:Shared) (Q:Value->Shared->Prop) (E:Value->Shared->Prop),Q (.bool (g i j)) s->wpAny (model X.prog X.w) X.A (f (.int i t) (.int j u)) Q E s) :
  OpR X f (rI0 fun i j=>.bl (g i j)):=by
 intro pins s σ H x y v u Q I rx ry h
 obtain ⟨i,j,rfl,rfl,q⟩:=h
 obtain ⟨t,rfl⟩:=rx
 obtain ⟨t',rfl⟩:=ry
 exact rule i j t t' s _ _ ⟨.bl (g i j),H,I,rfl,q⟩
def CDiv (i j:Int):Prop:=0 < j/\j < 1073741824
def CPow (i j:Int):Prop:=0<=j/\j<=1000000/\i.natAbs < 2 ^ 64
def CMul (i j:Int):Prop:=(-(2 ^ 64) < i/\i < 2 ^ 64)\/(-(2 ^ 64) < j/\j < 2 ^ 64)
theorem CMul.ok {i j:Int} (h:CMul i j):IntMulOk i j:=by
 rcases h with ⟨h1,h2⟩ | ⟨h1,h2⟩
 ·exact .of_left (intBits_le_64 h1 h2)
 ·exact .of_right (intBits_le_64 h1 h2)
theorem two_pow_nn (k:Nat):(0:Int)<=2 ^ k:=by
 rw [two_pow_cast]
 exact Int.natCast_nonneg _
theorem op_add:OpR X (binaryOp .Add) (rI0 fun i j=>.int (i + j)):=opI0 fun _ _ _ _ _ _ _ q=>add_int q
theorem op_sub:OpR X (binaryOp .Sub) (rI0 fun i j=>.int (i - j)):=opI0 fun _ _ _ _ _ _ _ q=>sub_int q
theorem op_mul:OpR X (binaryOp .Mult) (rI CMul fun i j=>.int (i * j)):=opI fun _ _ _ _ _ _ _ hc q=>mul_int q hc.ok
theorem op_fdiv:OpR X (binaryOp .FloorDiv) (rI CDiv fun i j=>.int (i / j)):=opI fun i j _ _ _ _ _ hc q=>by
 have h1:(0:Int) < j:=hc.1
 have h2:j < 1073741824:=hc.2
 exact floordiv_int (by omega) (by rw [Int.fdiv_eq_ediv_of_nonneg i (by omega)]; exact q) (.inl (PyProof.noPylong_small (by omega)))
theorem op_mod:OpR X (binaryOp .Mod) (rI (fun _ j=>0 < j) fun i j=>.int (i % j)):=opI fun i j _ _ _ _ _ hc q=>by
 have h1:(0:Int) < j:=hc
 exact mod_int' (by omega) (by rw [Int.fmod_eq_emod_of_nonneg i (by omega)]; exact q)
theorem op_pow:OpR X (binaryOp .Pow) (rI CPow fun i j=>.int (i ^ j.toNat)):=opI fun _ _ _ _ _ _ _ hc q=>pow_int_small hc.1 hc.2.1 hc.2.2 q
theorem op_shr:OpR X (binaryOp .RShift) (rI (fun _ j=>0<=j) fun i j=>.int (i / 2 ^ j.toNat)):=opI fun i j _ _ _ _ _ hc q =>
 rshift_int hc (by rw [Int.fdiv_eq_ediv_of_nonneg i (two_pow_nn _)]; exact q)
theorem op_and:OpR X (binaryOp .BitAnd) (rI0 fun i j=>.int (Builtin.bitAnd i j)):=opI0 fun _ _ _ _ _ _ _ q=>and_int q
theorem op_or:OpR X (binaryOp .BitOr) (rI0 fun i j=>.int (Builtin.bitOr i j)):=opI0 fun _ _ _ _ _ _ _ q=>or_int q
theorem op_xor:OpR X (binaryOp .BitXor) (rI0 fun i j=>.int (Builtin.bitXor i j)):=opI0 fun _ _ _ _ _ _ _ q=>xor_int q
theorem iop_add:OpR X (inplaceOp .Add) (rI0 fun i j=>.int (i + j)):=opI0 fun _ _ _ _ _ _ _ q=>iadd_int q
theorem unI {f:Value->Sem Value} {g:Int->Int}
  (rule:∀ (i:Int) (t:Tok) (s:Shared) (Q:Value->Shared->Prop) (E:Value->Shared->Prop),Q (.int (g i) s.toks) { s with toks:=s.toks + 1 }->wpAny (model X.prog X.w) X.A (f (.int i t)) Q E s) :
  UnR X f (rU fun i=>.int (g i)):=by
 intro pins s σ H x v Q I rx h
 obtain ⟨i,rfl,q⟩:=h
 obtain ⟨t,rfl⟩:=rx
 exact rule i t s _ _ ⟨.int (g i),H,I.tok _,⟨_,rfl⟩,q⟩
theorem un_neg:UnR X (unaryOp .USub) (rU fun i=>.int (-i)):=unI fun _ _ _ _ _ q=>neg_int q
end
def scal:V->V->Bool
 | .non,.non=>true | .non,.int _=>true | .int _,.non=>true | .non,.bl _=>true | .bl _,.non=>true | .non,.str _=>true | .str _,.non=>true
 | .int _,.int _=>true | .bl _,.bl _=>true | .str _,.str _=>true | .byt _,.byt _=>true
 | .int _,.str _=>true | .str _,.int _=>true | .bl _,.str _=>true | .str _,.bl _=>true
 | _,_=>false
def rEq:R2:=fun x y H Q=>scal x y=true/\Q (.bl (decide (x=y))) H
def rNe:R2:=fun x y H Q=>scal x y=true/\Q (.bl (!decide (x=y))) H
theorem dec_int {i j:Int}:decide (V.int i=V.int j)=(i == j):=by
 rw [Bool.eq_iff_iff]
 simp
theorem dec_bl {i j:Bool}:decide (V.bl i=V.bl j)=(i == j):=by
 rw [Bool.eq_iff_iff]
 simp
theorem dec_str {i j:Str}:decide (V.str i=V.str j)=(i == j):=by
 rw [Bool.eq_iff_iff]
 simp
theorem dec_byt {i j:Array UInt8}:decide (V.byt i=V.byt j)=(i.toList == j.toList):=by
 rw [Bool.eq_iff_iff]
 cases i
 cases j
 simp
section
variable {X:Cx} {a b c:Expr} {ta tb tc:TE} {pos:Pos}
theorem fin_bl {pins:List (Addr × Obj)} {σ:St} {H:Hp} {s:Shared} {Q:VK} {k k':Bool} (I:Inv X pins σ H s) (q:Q (.bl k) H) (e:k=k'):EP X pins σ Q (.bool k') s:=by
 subst e
 exact ⟨.bl k,H,I,rfl,q⟩
theorem op_eq:OpR X (compareOp .Eq) rEq:=by
 intro pins s σ H x y v u Q I rx ry h
 obtain ⟨hs,q⟩:=h
 cases x with
 | non =>
  cases rx
  cases y with
  | non=>cases ry; exact PySem.EqNone.eq_none_none (fin_bl I q (by simp))
  | bl j=>cases ry; exact PySem.EqNone.eq_none_bool (fin_bl I q (by simp))
  | int j=>obtain ⟨t',rfl⟩:=ry; exact PySem.EqNone.eq_none_int (fin_bl I q (by simp))
  | str j=>obtain ⟨t',rfl⟩:=ry; exact PySem.EqNone.eq_none_str (fin_bl I q (by simp))
  | _=>exact absurd (show false=true from hs) Bool.false_ne_true
 | bl i =>
  cases rx
  cases y with
  | non=>cases ry; exact PySem.EqNone.eq_bool_none (fin_bl I q (by simp))
  | bl j=>cases ry; exact eq_bool (fin_bl I q dec_bl)
  | str j=>obtain ⟨t',rfl⟩:=ry; exact PySem.EqMixed.eq_bool_str (fin_bl I q (by simp))
  | _=>exact absurd (show false=true from hs) Bool.false_ne_true
 | int i =>
  obtain ⟨t,rfl⟩:=rx
  cases y with
  | non=>cases ry; exact PySem.EqNone.eq_int_none (fin_bl I q (by simp))
  | int j=>obtain ⟨t',rfl⟩:=ry; exact eq_int (fin_bl I q dec_int)
  | str j=>obtain ⟨t',rfl⟩:=ry; exact PySem.EqMixed.eq_int_str (fin_bl I q (by simp))
  | _=>exact absurd (show false=true from hs) Bool.false_ne_true
 | str i =>
  obtain ⟨t,rfl⟩:=rx
  cases y with
  | non=>cases ry; exact PySem.EqNone.eq_str_none (fin_bl I q (by simp))
  | bl j=>cases ry; exact PySem.EqMixed.eq_str_bool (fin_bl I q (by simp))
  | int j=>obtain ⟨t',rfl⟩:=ry; exact PySem.EqMixed.eq_str_int (fin_bl I q (by simp))
  | str j=>obtain ⟨t',rfl⟩:=ry; exact eq_str (fin_bl I q dec_str)
  | _=>exact absurd (show false=true from hs) Bool.false_ne_true
 | byt i =>
  obtain ⟨t,rfl⟩:=rx
  cases y with
  | byt j=>obtain ⟨t',rfl⟩:=ry; exact PySem.W.eq_bytes (fin_bl I q dec_byt)
  | _=>exact absurd (show false=true from hs) Bool.false_ne_true
 | _=>cases y <;> exact absurd (show false=true from hs) Bool.false_ne_true
theorem op_ne:OpR X (compareOp .NotEq) rNe:=by
 intro pins s σ H x y v u Q I rx ry h
 obtain ⟨hs,q⟩:=h
 cases x with
 | non =>
  cases rx
  cases y with
  | non=>cases ry; exact PySem.EqNone.ne_none_none (fin_bl I q (by simp))
  | bl j=>cases ry; exact PySem.EqNone.ne_none_bool (fin_bl I q (by simp))
  | int j=>obtain ⟨t',rfl⟩:=ry; exact PySem.EqNone.ne_none_int (fin_bl I q (by simp))
  | str j=>obtain ⟨t',rfl⟩:=ry; exact PySem.EqNone.ne_none_str (fin_bl I q (by simp))
  | _=>exact absurd (show false=true from hs) Bool.false_ne_true
 | bl i =>
  cases rx
  cases y with
  | non=>cases ry; exact PySem.EqNone.ne_bool_none (fin_bl I q (by simp))
  | bl j=>cases ry; exact ne_bool (fin_bl I q (congrArg not dec_bl))
  | str j=>obtain ⟨t',rfl⟩:=ry; exact PySem.EqMixed.ne_bool_str (fin_bl I q (by simp))
  | _=>exact absurd (show false=true from hs) Bool.false_ne_true
 | int i =>
  obtain ⟨t,rfl⟩:=rx
  cases y with
  | non=>cases ry; exact PySem.EqNone.ne_int_none (fin_bl I q (by simp))
  | int j=>obtain ⟨t',rfl⟩:=ry; exact ne_int (fin_bl I q (congrArg not dec_int))
  | str j=>obtain ⟨t',rfl⟩:=ry; exact PySem.EqMixed.ne_int_str (fin_bl I q (by simp))
  | _=>exact absurd (show false=true from hs) Bool.false_ne_true
 | str i =>
  obtain ⟨t,rfl⟩:=rx
  cases y with
  | non=>cases ry; exact PySem.EqNone.ne_str_none (fin_bl I q (by simp))
  | bl j=>cases ry; exact PySem.EqMixed.ne_str_bool (fin_bl I q (by simp))
  | int j=>obtain ⟨t',rfl⟩:=ry; exact PySem.EqMixed.ne_str_int (fin_bl I q (by simp))
  | str j=>obtain ⟨t',rfl⟩:=ry; exact ne_str (fin_bl I q (congrArg not dec_str))
  | _=>exact absurd (show false=true from hs) Bool.false_ne_true
 | byt i =>
  obtain ⟨t,rfl⟩:=rx
  cases y with
  | byt j=>obtain ⟨t',rfl⟩:=ry; exact PySem.W.ne_bytes (fin_bl I q (congrArg not dec_byt))
  | _=>exact absurd (show false=true from hs) Bool.false_ne_true
 | _=>cases y <;> exact absurd (show false=true from hs) Bool.false_ne_true
theorem op_lt:OpR X (compareOp .Lt) (rI0 fun i j=>.bl (decide (i < j))):=opB0 fun _ _ _ _ _ _ _ q=>lt_int q
theorem op_le:OpR X (compareOp .LtE) (rI0 fun i j=>.bl (decide (i<=j))):=opB0 fun _ _ _ _ _ _ _ q=>le_int q
theorem op_gt:OpR X (compareOp .Gt) (rI0 fun i j=>.bl (decide (j < i))):=opB0 fun _ _ _ _ _ _ _ q=>gt_int q
theorem op_ge:OpR X (compareOp .GtE) (rI0 fun i j=>.bl (decide (j<=i))):=opB0 fun _ _ _ _ _ _ _ q=>ge_int q
theorem op_notN:OpR X (compareOp .IsNot) (fun x y H Q=>y=.non/\Q (.bl (!decide (x=.non))) H):=by
 intro pins s σ H x y v u Q I rx ry h
 obtain ⟨rfl,q⟩:=h
 cases ry
 refine isnot_none_gen (fin_bl I q ?_)
 cases x <;> first
  | (cases rx; rfl)
  | (obtain ⟨t,rfl⟩:=rx; rfl)
theorem nomark (b:Expr) {op:CmpOp} (h:op≠.In:=by decide) (h2:op≠.NotIn:=by decide):behindInMarks op b=false:=by
 have e1:(op == CmpOp.In)=false:=by cases op <;> first | rfl | exact absurd rfl h
 have e2:(op == CmpOp.NotIn)=false:=by cases op <;> first | rfl | exact absurd rfl h2
 cases b <;> simp [behindInMarks,e1,e2]
theorem pe_cmpR {op:CmpOp} {r:R2} (ho:OpR X (compareOp op) r) (ha:PE X a ta) (hb:PE X b tb) (hm:behindInMarks op b=false):PE X (.Compare a [op] [b] pos) (tOp r ta tb):=by
 intro pins s σ H Q I h
 exact wpAny_Compare1 (binT ha hb I h fun v u s2 x y H2 I2 rx ry q=>ho pins s2 σ H2 x y v u Q I2 rx ry q) hm
def tTest (t:TE):TT:=fun σ H Q=>t σ H fun x H'=>∃ k,x=.bl k/\Q k H'
theorem pt_cmpR {op:CmpOp} {r:R2} (ho:OpR X (compareOp op) r) (ha:PE X a ta) (hb:PE X b tb) (hm:behindInMarks op b=false):PT X (.Compare a [op] [b] pos) (tTest (tOp r ta tb)):=by
 intro pins s σ H Q I h
 refine wpAny_isTrue_Compare1 (thn (ha pins s σ H _ I h) fun v s1 ⟨x,H1,I1,r1,q1⟩=>thn (hb pins s1 σ H1 _ I1 q1) fun u s2 ⟨y,H2,I2,r2,q2⟩ =>
  thn (ho pins s2 σ H2 x y v u _ I2 r1 r2 q2) fun c s3 ⟨z,H3,I3,r3,k,e,q3⟩=>?_) hm
 subst e
 cases r3
 exact wpAny_truthy_bool ⟨H3,I3,q3⟩
def TruV (K:PySem.W.Frag) (x:V) (H:Hp) (k:Bool):Prop :=
 match x with
 | .non=>k=false
 | .bl b=>k=b
 | .int i=>k=(i != 0)
 | .str y=>y.length<=sizeLine/\k=((y.length:Int) != 0)
 | .byt y=>y.size<=sizeLine/\k=((y.size:Int) != 0)
 | .ref p=>(∃ xs,SqL K H p xs/\k=!xs.isEmpty)\/(∃ xs,SqT K H p xs/\k=!xs.isEmpty)\/∃ kvs,H p=some (.dK kvs)/\k=!kvs.isEmpty
 | _=>False
theorem isEmpty_kv {κ:Type} {kvs:List (κ × V)} {vs:List (κ × Value)} (r:KV kvs vs):(!vs.isEmpty)=!kvs.isEmpty:=by
 cases r <;> rfl
theorem isEmpty_of {xs:List V} {its:List Value} (r:Vals xs its):(!its.toArray.isEmpty)=!xs.isEmpty:=by
 cases r <;> simp
theorem line63:(sizeLine:Nat) < 2 ^ 63:=by rw [sizeLine_eq]; decide
theorem tru_ok:TruR X (fun x H Q=>∃ k,TruV X.K x H k/\Q k H):=by
 intro pins s σ H x v Q I rx h
 obtain ⟨k,e,q⟩:=h
 have hl:=line63
 have hs:sizeLine=16777216:=sizeLine_eq
 cases x with
 | non =>
  cases rx
  have e':k=false:=e
  subst e'
  exact truthy_none ⟨H,I,q⟩
 | bl b =>
  cases rx
  have e':k=b:=e
  subst e'
  exact wpAny_truthy_bool ⟨H,I,q⟩
 | int i =>
  obtain ⟨t,rfl⟩:=rx
  have e':k=(i != 0):=e
  subst e'
  exact PySem.P.truthy_int ⟨H,I,q⟩
 | str y =>
  obtain ⟨t,rfl⟩:=rx
  obtain ⟨hy,e'⟩:y.length<=sizeLine/\k=((y.length:Int) != 0):=e
  subst e'
  exact PySem.P.truthy_str (by omega) ⟨H,I.tok _,q⟩
 | byt y =>
  obtain ⟨t,rfl⟩:=rx
  obtain ⟨hy,e'⟩:y.size<=sizeLine/\k=((y.size:Int) != 0):=e
  subst e'
  exact PySem.W.truthy_bytes (by omega) ⟨H,I.tok _,q⟩
 | ref p =>
  cases rx
  have e':(∃ xs,SqL X.K H p xs/\k=!xs.isEmpty)\/(∃ xs,SqT X.K H p xs/\k=!xs.isEmpty)\/∃ kvs,H p=some (.dK kvs)/\k=!kvs.isEmpty:=e
  rcases e' with ⟨xs,hx,e'⟩ | ⟨xs,hx,e'⟩ | ⟨kvs,hx,e'⟩
  ·subst e'
   obtain ⟨its,r,pl,hz⟩:=I.list hx
   have hlen:=r.length
   exact wpAny_truthy_list pl.isList (by simp only [List.size_toArray]; omega) ⟨H,I.tok _,by rw [isEmpty_of r]; exact q⟩
  ·subst e'
   obtain ⟨its,r,pl,hz⟩:=I.tuple hx
   have hlen:=r.length
   exact truthy_tuple pl (by simp only [List.size_toArray]; omega) ⟨H,I.tok _,by rw [isEmpty_of r]; exact q⟩
  ·subst e'
   obtain ⟨hz,hS,vs,r,m⟩:kvs.length<=sizeLine/\(p == sysModules)=false/\∃ vs,KV kvs vs/\s.heap.DictOf (mixKind X.prog X.w) p vs:=I.hok p _ hx
   have hlen:kvs.length=vs.length:=Paired.length r
   exact wpAny_truthy_dict hS m (by omega) ⟨H,I.tok _,by rw [isEmpty_kv r]; exact q⟩
 | _=>exact (show False from e).elim
theorem pt_truth (ha:PE X a ta) (he:∀ whole,isTrue a X.env whole=(do let v ← whole; standAt a.pos; holding [v] (truthy v))) :
  PT X a (fun σ H Q=>ta σ H fun x H'=>∃ k,TruV X.K x H' k/\Q k H'):=by
 intro pins s σ H Q I h
 exact isTrue_plain (thn (ha pins s σ H _ I h) fun v s1 ⟨x,H1,I1,r1,q1⟩=>tru_ok pins s1 σ H1 x v Q I1 r1 q1) (he _)
theorem vals1 {x:V} {us:List Value} (r:Vals [x] us):∃ u,us=[u]/\RelV x u:=by
 cases r with
 | cons r1 r2=>cases r2; exact ⟨_,rfl,r1⟩
theorem vals2 {x y:V} {us:List Value} (r:Vals [x,y] us):∃ u w',us=[u,w']/\RelV x u/\RelV y w':=by
 cases r with
 | cons r1 r2 =>
  cases r2 with
  | cons r3 r4=>cases r4; exact ⟨_,_,rfl,r1,r3⟩
theorem call_min2 (hc:X.calm=true):CallR X (.builtin "min") (fun xs H Q=>∃ i j,xs=[.int i,.int j]/\Q (.int (if j < i then j else i)) H):=by
 intro pins s σ H xs us Q I r h
 obtain ⟨i,j,rfl,q⟩:=h
 obtain ⟨u,w',rfl,⟨t,rfl⟩,⟨t',rfl⟩⟩:=vals2 r
 refine min_two_ints (I.ok.hd hc) fun h' tk k=>⟨_,H,I.kept k,?_,q⟩
 by_cases hj:j < i
 ·rw [if_pos hj,if_pos hj]; exact ⟨_,rfl⟩
 ·rw [if_neg hj,if_neg hj]; exact ⟨_,rfl⟩
theorem call_int1:CallR X (.type "int") (fun xs H Q=>(∃ i,xs=[.int i]/\Q (.int i) H)\/∃ k,xs=[.bl k]/\Q (.int (if k then 1 else 0)) H):=by
 intro pins s σ H xs us Q I r h
 rcases h with ⟨i,rfl,q⟩ | ⟨k,rfl,q⟩
 ·obtain ⟨u,rfl,t,rfl⟩:=vals1 r
  exact call_int_int ⟨.int i,H,I,⟨_,rfl⟩,q⟩
 ·obtain ⟨u,rfl,r1⟩:=vals1 r
  cases r1
  exact call_int_bool ⟨.int (if k then 1 else 0),H,I.tok _,⟨_,rfl⟩,q⟩
end
end L2
namespace L2
open PySem PySem.Spec PyProof.Rows
structure ObjM (h:Heap) (x dx C:Addr) (mA:Str->Option Value):Prop where
 obj:h.get? x=some (PySem.W.instObj C dx)
 ns:h.Ns1 dx mA
 ne:dx≠x
theorem lookIn_ns {h:Heap} {dx:Addr} {mA:Str->Option Value} (n:h.Ns1 dx mA):∃ od,h.get? dx=some od/\∀ name,PySem.W.lookIn name od=some (mA name):=by
 obtain ⟨o,es,ep,ho,hd,hk,_,hm⟩:=n
 refine ⟨o,ho,fun name=>?_⟩
 have e:=hm name
 unfold nsFind findBy at e
 rw [← Array.find?_toList] at e
 unfold PySem.W.lookIn
 rw [hd]
 dsimp only
 split
 ·rename_i y q
  rw [q] at e
  exact congrArg some e
 ·rename_i q
  rw [q] at e
  have a:es.toList.any (·.refKey)=false:=by
   rw [List.any_eq_false]
   intro y hy
   obtain ⟨z,t,hkey⟩:=hk y (Array.mem_toList_iff.mp hy)
   simp [DictEntry.refKey,hkey]
  have a':¬ es.toList.any (·.refKey)=true:=by rw [a]; exact Bool.false_ne_true
  rw [if_neg a']
  exact congrArg some e
theorem ObjM.look {h:Heap} {x dx C:Addr} {mA:Str->Option Value} (I:ObjM h x dx C mA):∃ od,PySem.W.InstAt h x (PySem.W.instObj C dx) C (some od)/\∀ name,PySem.W.lookIn name od=some (mA name) :=
 let ⟨od,ho,hl⟩:=lookIn_ns I.ns
 ⟨od,⟨I.obj,rfl,rfl,ho⟩,hl⟩
section
variable {prog:Program} {w:World} {A:Around} {E:Value->Shared->Prop} {s:Shared} {K:PySem.W.Frag} {x dx C f:Addr} {mA:Str->Option Value} {name:Str} {v:Value}
theorem get_map {expr:Bool} {Q:Value->Shared->Prop} (X:K.In s.heap) (I:ObjM s.heap x dx C mA) (hg:PySem.W.plainGet K C name=true) (hh:PySem.W.hasDictIn K C=true)
  (ha:PySem.W.findIn K (.ref C) name=some none) (hv:mA name=some v) (hv':PySem.W.handedIn v=true) (h:Q v { s with toks:=s.toks + 1 }) :
  wpAny (model prog w) A (getAttr (.ref x) name expr) Q E s:=by
 obtain ⟨od,J,hl⟩:=I.look
 exact PySem.W.get_value X J (PySem.W.plainGet_of hg).1 (PySem.W.findObj_own hh ha rfl (by rw [hl,hv])) hv' h
theorem get_meth {pl:Sem Bool} {Q:Value × List Value->Shared->Prop} (X:K.In s.heap) (I:ObjM s.heap x dx C mA) (hg:PySem.W.plainGet K C name=true)
  (hf:PySem.W.findIn K (.ref C) name=some (some (.ref f))) (ht:PySem.W.isFn K (.ref f)=true) (hv:mA name=none) (h:Q (.ref f,[.ref x]) s) :
  wpAny (model prog w) A (getMethod (.ref x) name pl) Q E s:=by
 obtain ⟨od,J,hl⟩:=I.look
 exact PySem.W.method_fn X J (PySem.W.plainGet_of hg).1 (PySem.W.plainGet_of hg).2 hf (beq_iff_eq.mp ht) (by show (PySem.W.lookIn name od).map (·.isSome)=some false; rw [hl,hv]; rfl) h
theorem set_map {ns:List Str} {Q:Unit->Shared->Prop} (X:K.In s.heap) (I:ObjM s.heap x dx C mA)
  (hs:PySem.W.findIn K (.ref C) "__setattr__"=some (some (.builtin "object.__setattr__"))) (hp:PySem.W.plainOver K C=true) (ht:PySem.W.takerIn K C name=some none) (hh:PySem.W.hasDictIn K C=true)
  (hw:PySem.Within mA ns) (hsz:ns.length<=sizeLine)
  (h:∀ h',ObjM h' x dx C (fun y=>if y=name then some v else mA y)->Heap.SameBut dx s.heap h'->Q () { s with heap:=h',toks:=s.toks + 2 }) :
  wpAny (model prog w) A (setAttr (.ref x) name v) Q E s:=by
 obtain ⟨od,J,hl⟩:=I.look
 refine PySem.W.set_plain X J hs (PySem.W.osa_open (s:={ s with toks:=s.toks + 1 }) (r:=none) X J hp ht fun b=>?_)
 obtain ⟨cd,hc,hd'⟩:=PySem.W.any_some hh
 have hx:s.heap.get? x=some ⟨.ref C,some dx,.plain,#[]⟩:=I.obj
 refine wpAny_bind (wpAny_pure (wpAny_bind (wpAny_bind (wpAny_loadPart hx (wpAny_bind (PySem.W.Looks.here (s:={ s with toks:=s.toks + 1 }) (PySem.W.looks_clsIn X hc) ?_))))))
 rw [hd']
 refine wpAny_pure (a:=some dx) (wpAny_bind (wpAny_pure (wpAny_bind ?_)))
 refine wpAny_nsSet1 (s:={ s with toks:=s.toks + 1 }) I.ns fun h' hn2 hs2=>?_
 obtain ⟨oD,esD,epD,hoD,hdD,hcD⟩:=hn2.count (PySem.Within.cons name v hw)
 refine wpAny_bind (wpAny_lookBehind hoD (by rw [hdD]; exact pastItsLine_dict (Nat.le_trans hcD (by rw [List.length_cons]; omega))) ?_)
 exact wpAny_pure (h _ ⟨(hs2.2 _ (Ne.symm I.ne)).trans I.obj,hn2,I.ne⟩ hs2)
theorem make_map {R:Result->Shared->Prop} {vs:List Value} {kw:List (Str × Value)} (X:K.In s.heap) (hm:PySem.W.makesIn K C=true)
  (hi:PySem.W.findIn K (.ref C) "__init__"=some (some (.ref f))) (hf:PySem.W.typeIn K (.ref f)=some (.type "function"))
  (h:codeAny (model prog w) (A.under (.builtin "type.__call__" ⟨.ref C :: vs,kw⟩)) (.call (.ref f) ⟨.ref (s.heap.objs.size + 1) :: vs,kw⟩) (PySem.W.InitBack (s.heap.objs.size + 1) R)
   {s with heap:=(s.heap.push PySem.W.emptyDict).push (PySem.W.instObj C s.heap.objs.size) }) :
  codeAny (model prog w) A (.call (.ref C) ⟨vs,kw⟩) R s:=by
 obtain ⟨hh,g,d,t,os⟩:=s
 exact PySem.W.make_core (PySem.W.makes_of X hm) (PySem.W.looks_findIn X hi) (fun self=>PySem.W.bind_fn X self hf) (.inl rfl) h
end
def putF (f:Str) (v:V):List (Str × V)->List (Str × V)
 | []=>[(f,v)]
 | (g,x) :: r=>if g=f then (g,v) :: r else (g,x) :: putF f v r
theorem lookup_putF (f g:Str) (v:V):∀ fs:List (Str × V),(putF f v fs).lookup g=if g=f then some v else fs.lookup g
 | []=>by
  show List.lookup g [(f,v)]=_
  by_cases h:g=f
  ·have hb:(g == f)=true:=beq_iff_eq.mpr h
   simp only [List.lookup,hb,if_pos h]
  ·have hb:(g == f)=false:=beq_eq_false_iff_ne.mpr h
   simp only [List.lookup,hb,if_neg h]
 | (k,x) :: r=>by
  have ih:=lookup_putF f g v r
  rw [show putF f v ((k,x) :: r)=(if k=f then (k,v) :: r else (k,x) :: putF f v r) from rfl]
  by_cases hk:k=f
  ·rw [if_pos hk]
   by_cases h:g=k
   ·have hb:(g == k)=true:=beq_iff_eq.mpr h
    simp only [List.lookup,hb,if_pos (h.trans hk)]
   ·have hb:(g == k)=false:=beq_eq_false_iff_ne.mpr h
    simp only [List.lookup,hb,if_neg (fun e:g=f=>h (e.trans hk.symm))]
  ·rw [if_neg hk]
   by_cases h:g=k
   ·have hb:(g == k)=true:=beq_iff_eq.mpr h
    simp only [List.lookup,hb,if_neg (fun e:g=f=>hk (h.symm.trans e))]
   ·have hb:(g == k)=false:=beq_eq_false_iff_ne.mpr h
    simp only [List.lookup,hb]
    exact ih
theorem keys_putF (f:Str) (v:V):∀ fs:List (Str × V),f∈(putF f v fs).map (·.1)/\∀ g,g∈fs.map (·.1)->g∈(putF f v fs).map (·.1)
 | []=>⟨by simp [putF],fun g h=>by simp at h⟩
 | (k,x) :: r=>by
  obtain ⟨i1,i2⟩:=keys_putF f v r
  rw [show putF f v ((k,x) :: r)=(if k=f then (k,v) :: r else (k,x) :: putF f v r) from rfl]
  by_cases hk:k=f
  ·rw [if_pos hk]
   subst hk
   exact ⟨by simp,fun g h=>by simpa using h⟩
  ·rw [if_neg hk]
   refine ⟨?_,fun g h=>?_⟩
   ·rw [List.map_cons]
    exact List.mem_cons_of_mem _ i1
   ·rw [List.map_cons] at h ⊢
    rcases List.mem_cons.mp h with e | e
    ·exact List.mem_cons.mpr (.inl e)
    ·exact List.mem_cons_of_mem _ (i2 g e)
theorem length_putF (f:Str) (v:V):∀ fs:List (Str × V),(putF f v fs).length<=fs.length + 1
 | []=>by simp [putF]
 | (k,x) :: r=>by
  have ih:=length_putF f v r
  rw [show putF f v ((k,x) :: r)=(if k=f then (k,v) :: r else (k,x) :: putF f v r) from rfl]
  by_cases hk:k=f
  ·rw [if_pos hk,List.length_cons,List.length_cons]; omega
  ·rw [if_neg hk,List.length_cons,List.length_cons]; omega
theorem RelO.some_of {v:V} {o:Option Value} (r:RelO (some v) o):∃ u,o=some u/\RelV v u:=by
 cases o with
 | none=>exact (show False from r).elim
 | some u=>exact ⟨u,rfl,r⟩
theorem RelO.none_of {o:Option Value} (r:RelO none o):o=none:=by
 cases o with
 | none=>rfl
 | some u=>exact (show False from r).elim
theorem handed_of {v:V} {u:Value} (r:RelV v u):PySem.W.handedIn u=true:=by
 cases v with
 | non=>cases (show u=Value.none from r); rfl
 | bl b=>cases (show u=Value.bool b from r); rfl
 | int i=>obtain ⟨t,e⟩:=(show ∃ t,u=Value.int i t from r); cases e; rfl
 | str x=>obtain ⟨t,e⟩:=(show ∃ t,u=Value.str x t from r); cases e; rfl
 | byt b=>obtain ⟨t,e⟩:=(show ∃ t,u=Value.bytes b t from r); cases e; rfl
 | flt b=>obtain ⟨t,e⟩:=(show ∃ t,u=Value.float b t from r); cases e; rfl
 | ref a=>cases (show u=Value.ref a from r); rfl
 | ty n=>cases (show u=Value.type n from r); rfl
section
variable {P:Program} {w:World} {H H':Hp} {h h':Heap} {a C dx:Addr} {fs fs':List (Str × V)}
theorem ins_get (hok:HOk P w H h) (e:H a=some (.ins C dx fs)):∃ mA,ObjM h a dx C mA/\(∀ f,RelO (fs.lookup f) (mA f))/\PySem.Within mA (fs.map (·.1))/\fs.length<=1000/\H dx=some (.own a):=by
 obtain ⟨d,z,ne,ob,mA,n,r,q⟩:=(show ObjOk P w H h a (.ins C dx fs) from hok a _ e)
 exact ⟨mA,⟨ob,n,ne⟩,r,q,z,d⟩
end
structure Cls (K:PySem.W.Frag) (C:Addr):Prop where
 pg:PySem.W.plainGet K C Str.empty=true
 hd:PySem.W.hasDictIn K C=true
 po:PySem.W.plainOver K C=true
 sa:PySem.W.findIn K (.ref C) "__setattr__"=some (some (.builtin "object.__setattr__"))
theorem Cls.get {K:PySem.W.Frag} {C:Addr} (c:Cls K C) (f:Str):PySem.W.plainGet K C f=true:=c.pg
def NoAttr (K:PySem.W.Frag) (C:Addr) (f:Str):Prop:=PySem.W.findIn K (.ref C) f=some none
theorem NoAttr.taker {K:PySem.W.Frag} {C:Addr} {f:Str} (n:NoAttr K C f):PySem.W.takerIn K C f=some none:=by
 unfold PySem.W.takerIn
 rw [show PySem.W.findIn K (.ref C) f=some none from n]
 rfl
structure Meth (K:PySem.W.Frag) (C:Addr) (m:Str) (f:Addr):Prop where
 at_:PySem.W.findIn K (.ref C) m=some (some (.ref f))
 fn:PySem.W.isFn K (.ref f)=true
 kp:PySem.W.keepIn K (.ref f)=true
section
variable {X:Cx} {pins:List (Addr × Obj)} {σ:St} {H:Hp} {s:Shared} {a C dx:Addr} {fs:List (Str × V)} {f:Str} {v:V} {A:Around} {E:Value->Shared->Prop}
theorem getattr_ok {b:Bool} {Q:Value->Shared->Prop} (I:Inv X pins σ H s) (e:H a=some (.ins C dx fs)) (c:Cls X.K C) (n:NoAttr X.K C f) (l:fs.lookup f=some v)
  (h:∀ u s',Inv X pins σ H s'->RelV v u->Q u s'):wpAny (model X.prog X.w) A (getAttr (.ref a) f b) Q E s:=by
 obtain ⟨mA,O,r,_,_,_⟩:=ins_get I.hok e
 obtain ⟨u,hu,ru⟩:=RelO.some_of (v:=v) (o:=mA f) (by rw [← l]; exact r f)
 exact get_map I.kIn O (c.get f) c.hd n hu (handed_of ru) (h u _ (I.tok _) ru)
theorem getmeth_ok {m:Str} {g:Addr} {pl:Sem Bool} {Q:Value × List Value->Shared->Prop} (I:Inv X pins σ H s) (e:H a=some (.ins C dx fs)) (c:Cls X.K C) (k:Meth X.K C m g) (l:fs.lookup m=none)
  (h:Q (.ref g,[.ref a]) s):wpAny (model X.prog X.w) A (getMethod (.ref a) m pl) Q E s:=by
 obtain ⟨mA,O,r,_,_,_⟩:=ins_get I.hok e
 have hn:mA m=none:=RelO.none_of (by rw [← l]; exact r m)
 exact get_meth I.kIn O (c.get m) k.at_ k.fn hn h
theorem setattr_ok {y:V} {u:Value} {Q:Unit->Shared->Prop} (I:Inv X pins σ H s) (e:H a=some (.ins C dx fs)) (c:Cls X.K C) (n:NoAttr X.K C f) (hl:fs.length < 1000) (ry:RelV y u)
  (h:∀ s',Inv X pins σ (upd H a (.ins C dx (putF f y fs))) s'->Q () s'):wpAny (model X.prog X.w) A (setAttr (.ref a) f u) Q E s:=by
 obtain ⟨mA,O,r,wi,_,ho⟩:=ins_get I.hok e
 have hz:(fs.map (·.1)).length<=sizeLine:=by rw [List.length_map,sizeLine_eq]; omega
 refine set_map I.kIn O c.sa c.po n.taker c.hd wi hz fun h' O' sb=>h _ ?_
 have hd:∃ o,h'.get? dx=some o:=let ⟨o,_,_,e',_⟩:=O'.ns; ⟨o,e'⟩
 refine I.write (x:=a) (e:=dx) (by rw [e]; exact True.intro) (.inr ho) (fun b q hb z=>(sb.2 b hb).trans z) hd ?_
 refine ⟨by rw [upd_ne O.ne]; exact ho,?_,O.ne,O'.obj,_,O'.ns,fun g=>?_,fun g hg=>?_⟩
 ·have:=length_putF f y fs; omega
 ·show RelO ((putF f y fs).lookup g) (if g=f then some u else mA g)
  rw [lookup_putF]
  by_cases q:g=f
  ·rw [if_pos q,if_pos q]; exact ry
  ·rw [if_neg q,if_neg q]; exact r g
 ·by_cases q:g=f
  ·rw [q]; exact (keys_putF f y fs).1
  ·refine (keys_putF f y fs).2 g (wi g fun z=>hg ?_)
   show (if g=f then some u else mA g)=none
   rw [if_neg q]; exact z
theorem Inv.made (I:Inv X pins σ H s):Inv X pins σ (upd (upd H s.heap.objs.size (.own (s.heap.objs.size + 1))) (s.heap.objs.size + 1) (.ins C s.heap.objs.size []))
  {s with heap:=(s.heap.push PySem.W.emptyDict).push (PySem.W.instObj C s.heap.objs.size) }:=by
 have e1:(s.heap.push PySem.W.emptyDict).get? s.heap.objs.size=some PySem.W.emptyDict:=Heap.get?_push_size s.heap rfl
 have e2:((s.heap.push PySem.W.emptyDict).push (PySem.W.instObj C s.heap.objs.size)).get? (s.heap.objs.size + 1)=some (PySem.W.instObj C s.heap.objs.size):=by
  have:=Heap.get?_push_size (s.heap.push PySem.W.emptyDict) (o:=PySem.W.instObj C s.heap.objs.size) rfl
  rwa [Heap.size_push] at this
 have e3:(s.heap.push PySem.W.emptyDict).Ns s.heap.objs.size (fun _=>none):=⟨PySem.W.emptyDict,#[],_,e1,rfl,(fun e he=>absurd he (by simp)),fun _=>rfl⟩
 have I1:=I.laid (a:=s.heap.objs.size) (o:=.own (s.heap.objs.size + 1)) (h':=s.heap.push PySem.W.emptyDict) (t':=s.toks) (fun b u q=>Heap.get?_push_of_some _ q) (Nat.le_refl _) ⟨_,e1⟩
 refine I1.laid (a:=s.heap.objs.size + 1) (o:=.ins C s.heap.objs.size []) (t':=s.toks) (fun b u q=>Heap.get?_push_of_some _ q) (Nat.le_of_eq (Heap.size_push _ _)) ?_
 have ne:s.heap.objs.size≠s.heap.objs.size + 1:=Nat.ne_of_lt (Nat.lt_succ_self _)
 refine ⟨by rw [upd_ne ne,upd_same],Nat.zero_le _,ne,e2,fun _=>none,(Heap.Ns1.of_empty e3).at fun o q=>Heap.get?_push_of_some _ q,fun _=>True.intro,fun y hy=>absurd rfl hy⟩
theorem attr_of {prog:Program} {w:World} {env:Env} {e:Expr} {f:Str} {pos:Pos} {s:Shared} {Q:Value->Shared->Prop} (hb:attributeBase e f env (eval e env)=eval e env)
  (h:wpAny (model prog w) A (eval e env) (fun o s₁=>wpAny (model prog w) A (getAttr o f true) Q E s₁) E s):wpAny (model prog w) A (eval (.Attribute e f pos) env) Q E s :=
 Attribute_any_ h (by rw [arm_eval_Attribute,hb])
end
def tFld (K:PySem.W.Frag) (ta:TE) (f:Str):TE:=fun σ H Q=>ta σ H fun x H1=>∃ a C dx fs v,x=.ref a/\H1 a=some (.ins C dx fs)/\Cls K C/\NoAttr K C f/\fs.lookup f=some v/\Q v H1
def sFld (K:PySem.W.Frag) (ta tv:TE) (f:Str):TS:=fun D σ H=>tv σ H fun y H1=>ta σ H1 fun x H2=>∃ a C dx fs,x=.ref a/\H2 a=some (.ins C dx fs)/\Cls K C/\NoAttr K C f/\fs.length < 1000 /\
 D.nx σ (upd H2 a (.ins C dx (putF f y fs)))
section
variable {X:Cx} {o e value:Expr} {f:Str} {pos pos' tpos:Pos} {ta tv:TE}
theorem pe_fld (he:PE X e ta) (hb:attributeBase e f X.env (eval e X.env)=eval e X.env):PE X (.Attribute e f pos) (tFld X.K ta f):=by
 intro pins s σ H Q I h
 refine attr_of hb (thn (he pins s σ H _ I h) fun u s1 ⟨x,H1,I1,rx,a,C,dx,fs,v,ex,ea,c,n,l,q⟩=>?_)
 subst ex
 obtain rfl:u=Value.ref a:=rx
 exact getattr_ok I1 ea c n l fun u' s2 I2 ru=>⟨v,H1,I2,ru,q⟩
theorem ps_fld (ha:PE X o ta) (hv:PE X value tv) (hs:swapsWith value (some (.Attribute o f pos')) pos.line X.env=pure false):PS X (.Assign [.Attribute o f pos'] value pos) (sFld X.K ta tv f):=by
 intro pins s σ H D I h
 refine plainObj_wpAny_Assign_Attribute (thn (hv pins s σ H _ I h) fun u s1 ⟨y,H1,I1,ry,q⟩=>thn (ha pins s1 σ H1 _ I1 q) fun ov s2 ⟨x,H2,I2,rx,a,C,dx,fs,ex,ea,c,n,l,q2⟩=>?_) hs
 subst ex
 obtain rfl:ov=Value.ref a:=rx
 exact setattr_ok I2 ea c n l ry fun s3 I3=>⟨σ,_,I3,q2⟩
theorem methcall_of {pl:Sem Bool} {m:Str} {apos:Pos} {args:List Expr} {pins:List (Addr × Obj)} {s:Shared} {σ:St} {H:Hp} {Q:Value->Shared->Prop} {te:TE} (he:PE X e te) (I:Inv X pins σ H s)
  (h:te σ H fun x H1=>∃ a C dx fs g,x=.ref a/\H1 a=some (.ins C dx fs)/\Cls X.K C/\Meth X.K C m g/\fs.lookup m=none /\
   ∀ s1,Inv X pins σ H1 s1->wpAny (model X.prog X.w) X.A (callWith pos (.ref g) [.ref a] (backTo pos (starEach args X.env)) (backToKw pos (keywordEach [] X.env))) Q X.xe s1)
  (ht:eval (.Call (.Attribute e m apos) args [] pos) X.env=(do
   let ov ← eval e X.env
   standAt apos.atName
   let (f,first) ← holding [ov] (getMethod ov m pl)
   callWith pos f first (backTo pos (starEach args X.env)) (backToKw pos (keywordEach [] X.env)))) :
  wpAny (model X.prog X.w) X.A (eval (.Call (.Attribute e m apos) args [] pos) X.env) Q X.xe s:=by
 refine PySem.W.methodCall_KW (pl:=pl) (thn (he pins s σ H _ I h) fun u s1 ⟨x,H1,I1,rx,a,C,dx,fs,g,ex,ea,c,k,l,q⟩=>?_) ht
 subst ex
 obtain rfl:u=Value.ref a:=rx
 exact getmeth_ok I1 ea c k l (q s1 I1)
end
section
variable {X:Cx} {pins:List (Addr × Obj)} {σ:St} {H:Hp} {s:Shared} {A:Around} {E:Value->Shared->Prop} {Q:Value->Shared->Prop} {c:Value} {b:Bool}
inductive TyOf (K:PySem.W.Frag) (H:Hp):V->Value->Prop where
 | non:TyOf K H .non (.type "NoneType")
 | bl (x:Bool):TyOf K H (.bl x) (.type "bool")
 | int (i:Int):TyOf K H (.int i) (.type "int")
 | str (x:Str):TyOf K H (.str x) (.type "str")
 | flt (x:UInt64):TyOf K H (.flt x) (.type "float")
 | lst {a:Addr} {xs:List V} (e:H a=some (.lst xs)):TyOf K H (.ref a) (.type "list")
 | frz {a:Addr} {o:Obj} {xs:List V} (e:H a=some (.frz o (.lst xs))):TyOf K H (.ref a) (.type "list")
 | tup {a:Addr} {xs:List V} (e:H a=some (.tup xs)):TyOf K H (.ref a) (.type "tuple")
 | dK {a:Addr} {kvs:List (Key × V)} (e:H a=some (.dK kvs)):TyOf K H (.ref a) (.type "dict")
 | dT {a:Addr} {kvs:List (List Key × V)} (e:H a=some (.dT kvs)):TyOf K H (.ref a) (.type "dict")
 | ins {a C dx:Addr} {fs:List (Str × V)} (e:H a=some (.ins C dx fs)) (cl:Cls K C) (ha:PySem.W.findIn K (.ref C) "__class__"=some (some (.builtin "object.__class__")))
   (hn:PySem.W.specialIn K (.builtin "object.__class__") "__get__"=some (some (.builtin "getset_descriptor.__get__"))) (htk:PySem.W.takesIn K (.builtin "object.__class__")=some true)
   (hm:PySem.W.mroIn K C (.type "object")=some true):TyOf K H (.ref a) (.ref C)
theorem isinst_ok {x:V} {u t:Value} (I:Inv X pins σ H s) (rx:RelV x u) (ty:TyOf X.K H x t) (e:PySem.W.kitOne X.K t c=some b) (h:∀ tk,Q (.bool b) { s with toks:=tk }) :
  wpAny (model X.prog X.w) A (call (.builtin "isinstance") [u,c]) Q E s:=by
 cases ty with
 | non=>cases (show u=Value.none from rx); exact PySem.W.kia_one PySem.W.kitx_none I.kIn True.intro e (fun z=>nomatch z) h
 | bl y=>cases (show u=Value.bool y from rx); exact PySem.W.kia_one PySem.W.kitx_bool I.kIn True.intro e (fun z=>nomatch z) h
 | int i=>obtain ⟨t,q⟩:=(show ∃ t,u=Value.int i t from rx); cases q; exact PySem.W.kia_one PySem.W.kitx_int I.kIn True.intro e (fun z=>nomatch z) h
 | str y=>obtain ⟨t,q⟩:=(show ∃ t,u=Value.str y t from rx); cases q; exact PySem.W.kia_one PySem.W.kitx_str I.kIn True.intro e (fun z=>nomatch z) h
 | flt y=>obtain ⟨t,q⟩:=(show ∃ t,u=Value.float y t from rx); cases q; exact PySem.W.kia_one PySem.W.kitx_float I.kIn True.intro e (fun z=>nomatch z) h
 | @lst a xs ea =>
  cases (show u=Value.ref a from rx)
  obtain ⟨_,_,n,_,h1⟩:=(show ObjOk X.prog X.w H s.heap a (.lst xs) from I.hok a _ ea)
  exact PySem.W.kia_one PySem.W.kitx_list I.kIn ⟨_,h1,rfl⟩ e (fun z=>nomatch z) h
 | @frz a ob xs ea =>
  cases (show u=Value.ref a from rx)
  obtain ⟨_,_,_,n,_,h1⟩:=(show ObjOk X.prog X.w H s.heap a (.frz ob (.lst xs)) from I.hok a _ ea)
  exact PySem.W.kia_one PySem.W.kitx_list I.kIn ⟨_,h1,rfl⟩ e (fun z=>nomatch z) h
 | @tup a xs ea =>
  cases (show u=Value.ref a from rx)
  obtain ⟨_,_,_,p⟩:=(show ObjOk X.prog X.w H s.heap a (.tup xs) from I.hok a _ ea)
  obtain ⟨o,h1,h2,_⟩:=p
  exact PySem.W.kia_one PySem.W.kitx_tuple I.kIn ⟨o,h1,h2⟩ e (fun z=>nomatch z) h
 | @dK a kvs ea =>
  cases (show u=Value.ref a from rx)
  obtain ⟨_,_,vs,_,p⟩:=(show ObjOk X.prog X.w H s.heap a (.dK kvs) from I.hok a _ ea)
  obtain ⟨o,es,ep,h1,h2,_⟩:=p
  exact PySem.W.kia_one PySem.W.kitx_dict I.kIn ⟨o,h1,h2.1⟩ e (fun z=>nomatch z) h
 | @dT a kvs ea =>
  cases (show u=Value.ref a from rx)
  obtain ⟨_,_,xs,_,o,es,ep,h1,h2,_⟩:=(show ObjOk X.prog X.w H s.heap a (.dT kvs) from I.hok a _ ea)
  exact PySem.W.kia_one PySem.W.kitx_dict I.kIn ⟨o,h1,h2.1⟩ e (fun z=>nomatch z) h
 | @ins a C dx fs ea cl ha hn htk hm =>
  cases (show u=Value.ref a from rx)
  obtain ⟨mA,O,_⟩:=ins_get I.hok ea
  obtain ⟨od,J,_⟩:=O.look
  exact PySem.W.kia_one (PySem.W.kitx_own (cl.get _) cl.hd ha hn htk hm) I.kIn J e (fun z=>nomatch z) h
end
end L2
namespace L2
open PySem PySem.Spec PyProof.Rows
structure Room (k:Nat) (A:Around):Prop where
 hd:A.handled=none
 dp:A.depth + 3 * k + 5 < recursionLimit
 un:A.units + 16 * k + 200 < cLine
theorem Room.mono {j k:Nat} {A:Around} (r:Room k A) (h:j<=k):Room j A:=⟨r.hd,by have:=r.dp; omega,by have:=r.un; omega⟩
theorem Room.deeper {k:Nat} {A:Around} (r:Room (k + 1) A) (env:Env):Room k (A.deeper env) :=
 ⟨r.hd,by have:=r.dp; show A.depth + 1 + 3 * k + 5 < _; omega,by have:=r.un; show A.units + 3 + 16 * k + 200 < _; omega⟩
theorem make_depth {A:Around} {C:Addr} {us:List Value} {kw:List (Str × Value)}:(A.under (.builtin "type.__call__" ⟨.ref C :: us,kw⟩)).depth=A.depth + 1:=by
 first | rfl | simp [Around.under,Code.weight,Code.isCreation,Code.isGuard,Code.isCaller,Code.frames,Code.isFrame,guardIds]
theorem make_units {A:Around} {C:Addr} {us:List Value} {kw:List (Str × Value)}:(A.under (.builtin "type.__call__" ⟨.ref C :: us,kw⟩)).units=A.units + 1:=by
 first | rfl | simp [Around.under,Code.cUnits,Code.frames,Code.isFrame]
theorem Room.make {k:Nat} {A:Around} (r:Room (k + 1) A) (C:Addr) (us:List Value) (kw:List (Str × Value)):Room k (A.under (.builtin "type.__call__" ⟨.ref C :: us,kw⟩)) :=
 ⟨r.hd,by have:=r.dp; rw [make_depth]; omega,by have:=r.un; rw [make_units]; omega⟩
theorem Room.depth {k:Nat} {A:Around} (r:Room k A):A.depth < recursionLimit:=by have:=r.dp; omega
theorem Room.units {k:Nat} {A:Around} (r:Room k A):A.units + 64 < cLine:=by have:=r.un; omega
def tNil:TA:=fun _ H Q=>Q [] H
def tCons (ta:TE) (tr:TA):TA:=fun σ H Q=>ta σ H fun x H1=>tr σ H1 fun xs H2=>Q (x :: xs) H2
section
variable {X:Cx} {e:Expr} {es:List Expr} {te:TE} {t:TA} {pos:Pos}
theorem pa_nil:PA X [] tNil:=fun _ _ _ _ H Q I h=>Calls.spliced_nil ⟨[],H,I,.nil,h⟩
theorem pa_cons (ha:PE X e te) (hr:PA X es t) (hs:starEach (e :: es) X.env=(false,eval e X.env) :: starEach es X.env:=by rfl):PA X (e :: es) (tCons te t):=by
 intro pos pins s σ H Q I h
 rw [hs]
 show wpAny _ _ (spliced ((false,eval e X.env) :: backTo pos (starEach es X.env))) _ _ s
 refine Calls.spliced_cons (thn (ha pins s σ H _ I h) fun u s1 ⟨x,H1,I1,r1,q1⟩=>?_)
 exact thn (hr pos pins s1 σ H1 _ I1 q1) fun us s2 ⟨xs,H2,I2,r2,q2⟩=>⟨x :: xs,H2,I2,.cons r1 r2,q2⟩
def tTup (t:TA):TE:=fun σ H Q=>t σ H fun xs H1=>xs.length<=sizeLine/\∀ p,H1 p=none->Q (.ref p) (upd H1 p (.tup xs))
def tLst (t:TA):TE:=fun σ H Q=>t σ H fun xs H1=>xs.length<=sizeLine/\∀ p,H1 p=none->Q (.ref p) (upd H1 p (.lst xs))
theorem pe_tup {x1} (h:PA X es t):PE X (.Tuple es x1 pos) (tTup t):=by
 intro pins s σ H Q I hq
 refine wpAny_Tuple_spliced (thn (h pos pins s σ H _ I hq) fun us s1 ⟨xs,H1,I1,r,z,q⟩=>⟨by rw [← r.length]; exact z,?_⟩)
 have hf:H1 s1.heap.objs.size=none:=I1.hok.fresh (Nat.le_refl _)
 refine ⟨.ref s1.heap.objs.size,upd H1 s1.heap.objs.size (.tup xs),I1.laid (t':=s1.toks) (fun b u e=>Heap.get?_push_of_some _ e) (Nat.le_refl _) ?_,rfl,q _ hf⟩
 exact ⟨z,us,r,⟨_,Heap.get?_push_size _ rfl,rfl,_,rfl⟩⟩
theorem pe_lst (h:PA X es t):PE X (.List es pos) (tLst t):=by
 intro pins s σ H Q I hq
 refine wpAny_List_spliced (thn (h pos pins s σ H _ I hq) fun us s1 ⟨xs,H1,I1,r,z,q⟩=>⟨by rw [← r.length]; exact z,?_⟩)
 have hf:H1 s1.heap.objs.size=none:=I1.hok.fresh (Nat.le_refl _)
 refine ⟨.ref s1.heap.objs.size,upd H1 s1.heap.objs.size (.lst xs),I1.laid (t':=s1.toks) (fun b u e=>Heap.get?_push_of_some _ e) (Nat.le_refl _) ?_,rfl,q _ hf⟩
 exact ⟨z,us,0,r,Heap.get?_push_size _ rfl⟩
end
abbrev Sp:=List V->Hp->VK->XK->Prop
abbrev CXT:=List Env->Hp->Shared->XK->Value->Shared->Prop
structure Env0 (P:Program) (w:World) (K:PySem.W.Frag) (mg:Str->Option Value) (base:Heap) (A:Around) (outer:List Env) (s:Shared) (H:Hp):Prop where
 frames:A.frames=some outer
 mod:Mod K mg base
 bs:∀ b o,base.get? b=some o->s.heap.get? b=some o/\H b=none
 bsz:base.objs.size<=s.heap.objs.size
 funs:s.heap.FunFrames base outer
 frf:∀ b∈frs outer,H b=none
 hok:HOk P w H s.heap
 bare:AllBare s.gens
def CE (outer:List Env) (P:Program) (w:World) (H:Hp) (s:Shared) (Q:VK) (u:Value) (s':Shared):Prop :=
 ∃ v H',s'.os=s.os/\AllBare s'.gens/\Un (frs outer) [] H H' s.heap s'.heap/\HOk P w H' s'.heap/\RelV v u/\Q v H'
def CR (CX:CXT) (outer:List Env) (P:Program) (w:World) (H:Hp) (s:Shared) (Q:VK) (E:XK) (r:Result) (s':Shared):Prop :=
 match r with
 | .ok (.ret u)=>CE outer P w H s Q u s'
 | .ok _=>False
 | .error e=>CX outer H s E e s'
structure FnOk (P:Program) (w:World) (K:PySem.W.Frag) (mg:Str->Option Value) (base:Heap) (CX:CXT) (k:Nat) (f:Addr) (fd:FuncData) (ps:List Str) (sp:Sp):Prop where
 len:∀ vs H Q E,sp vs H Q E->vs.length=ps.length
 run:∀ (A:Around) (outer:List Env) (s:Shared) (H:Hp) (args:Args) (us:List Value) (vs:List V) (Q:VK) (E:XK),Room k A->Env0 P w K mg base A outer s H->BindsTo s fd args (ps.zip us)->Vals vs us->sp vs H Q E ->
  codeAny (model P w) A (.call (.ref f) args) (CR CX outer P w H s Q E) s
theorem FnOk.mono {P:Program} {w:World} {K:PySem.W.Frag} {mg:Str->Option Value} {base:Heap} {CX:CXT} {j k:Nat} {f:Addr} {fd:FuncData} {ps:List Str} {sp:Sp} (F:FnOk P w K mg base CX j f fd ps sp) (h:j<=k) :
  FnOk P w K mg base CX k f fd ps sp:=⟨F.len,fun A outer s H args us vs Q E hr=>F.run A outer s H args us vs Q E (hr.mono h)⟩
theorem Env0.make {P:Program} {w:World} {K:PySem.W.Frag} {mg:Str->Option Value} {base:Heap} {A:Around} {outer:List Env} {s:Shared} {H:Hp} (e:Env0 P w K mg base A outer s H) (C:Addr) (us:List Value) (kw:List (Str × Value)) :
  Env0 P w K mg base (A.under (.builtin "type.__call__" ⟨.ref C :: us,kw⟩)) outer s H:=⟨by first | exact e.frames | (simpa [Around.under,Code.envs,Code.isFrame,pushEnvs] using e.frames),e.mod,e.bs,e.bsz,e.funs,e.frf,e.hok,e.bare⟩
section
variable {X:Cx} {pins:List (Addr × Obj)} {σ:St} {H:Hp} {s s':Shared}
theorem Inv.env0 (I:Inv X pins σ H s):Env0 X.prog X.w X.K X.mg X.base X.A X.stack s H :=
 ⟨I.ok.frames,I.ok.mod,I.bs,Nat.le_trans I.ok.bsz I.sz,I.stack,I.stkFree,I.hok,I.bare⟩
theorem Inv.after {Q:VK} {u:Value} (I:Inv X pins σ H s) (h:CE X.stack X.prog X.w H s Q u s'):EP X pins σ Q u s':=by
 obtain ⟨v,H',os,bare,un,hok,r,q⟩:=h
 obtain ⟨hh,g,d,t,os'⟩:=s'
 obtain rfl:os'=s.os:=os
 exact ⟨v,H',I.call (h':=hh) (g':=g) (d':=d) (t':=t) (ch:=[]) un hok bare (fun b z=>absurd z (by simp)),r,q⟩
end
def tCall (sp:Sp) (dvs:List V) (E:XK) (t:TA):TE:=fun σ H Q=>t σ H fun vs H1=>sp (vs ++ dvs) H1 Q E
def tMeth (C:Addr) (m:Str) (sp:Sp) (dvs:List V) (E:XK) (ta:TE) (t:TA):TE:=fun σ H Q=>ta σ H fun x H1=>∃ a dx fs,x=.ref a/\H1 a=some (.ins C dx fs)/\fs.lookup m=none /\
 t σ H1 fun vs H2=>sp (x :: (vs ++ dvs)) H2 Q E
def tMake (C:Addr) (sp:Sp) (dvs:List V) (E:XK) (t:TA):TE:=fun σ H Q=>t σ H fun vs H1=>∀ x dx,H1 x=none->H1 dx=none->dx≠x ->
 sp (.ref x :: (vs ++ dvs)) (upd (upd H1 dx (.own x)) x (.ins C dx [])) (fun v H2=>v=.non/\Q (.ref x) H2) E
def Binds (K:PySem.W.Frag) (fd:FuncData) (ps:List Str) (ds:List Value):Prop :=
 ∀ (s:Shared) (us:List Value),K.In s.heap->(us ++ ds).length=ps.length->BindsTo s fd ⟨us,[]⟩ (ps.zip (us ++ ds))
theorem Binds.all {K:PySem.W.Frag} {fd:FuncData} {ps:List Str} (h:∀ us:List Value,us.length=ps.length->bindArgs fd ⟨us,[]⟩=pure (ps.zip us)):Binds K fd ps []:=fun s us _ hl=>by
 rw [List.append_nil] at hl ⊢
 exact .of_eq (h us hl)
def Passes (CX:CXT) (X:Cx) (E:XK):Prop:=∀ (pins:List (Addr × Obj)) (σ:St) (H:Hp) (s:Shared) (e:Value) (s':Shared),Inv X pins σ H s->CX X.stack H s E e s'->X.xe e s'
section
variable {X:Cx} {CX:CXT} {k:Nat} {f C:Addr} {fd:FuncData} {ps:List Str} {sp:Sp} {dvs:List V} {ds:List Value} {E:XK} {x m:Str} {p pos apos:Pos} {e o:Expr} {es:List Expr} {ta:TE} {t:TA}
theorem run_fn {pins:List (Addr × Obj)} {σ:St} {H:Hp} {s:Shared} {Q:VK} {us:List Value} {vs:List V} (F:FnOk X.prog X.w X.K X.mg X.base CX k f fd ps sp) (hr:Room k X.A) (hb:Binds X.K fd ps ds) (hd:Vals dvs ds) (hx:Passes CX X E)
  (I:Inv X pins σ H s) (r:Vals vs us) (h:sp (vs ++ dvs) H Q E):wpAny (model X.prog X.w) X.A (call (.ref f) us) (EP X pins σ Q) X.xe s:=by
 have r2:Vals (vs ++ dvs) (us ++ ds):=r.append hd
 have hl:(us ++ ds).length=ps.length:=by rw [← r2.length]; exact F.len _ _ _ _ h
 refine wpAny_call (codeAny_mono (F.run X.A X.stack s H ⟨us,[]⟩ (us ++ ds) (vs ++ dvs) Q E hr I.env0 (hb s us I.kIn hl) r2 h) fun r s' hq=>?_)
 cases r with
 | error e=>exact hx pins σ H s e s' I hq
 | ok fl =>
  cases fl with
  | ret u=>exact I.after hq
  | next=>exact False.elim hq
  | brk=>exact False.elim hq
  | cont=>exact False.elim hq
theorem pe_call (F:FnOk X.prog X.w X.K X.mg X.base CX k f fd ps sp) (hr:Room k X.A) (hg:Gl X x) (hm:X.mg x=some (.ref f)) (hk:PySem.W.keepIn X.K (.ref f)=true) (hb:Binds X.K fd ps ds) (hd:Vals dvs ds) (hx:Passes CX X E)
  (ha:PA X (e :: es) t) (hdb:(x == ("__debug__" : Str))=false:=by decide) (he:starEach (e :: es) X.env=(false,eval e X.env) :: starEach es X.env:=by rfl) (hpl:(backTo pos (starEach es X.env)).any (·.1)=false:=by rfl) :
  PE X (.Call (.Name x p) (e :: es) [] pos) (tCall sp dvs E t):=by
 intro pins s σ H Q I h
 refine wpAny_Call_Name_kw (ld_glob I hg hm ?_ hdb)
 refine PySem.W.callWith_K (h₀:=X.base) I.ok.mod.kin hk (thn (ha pos pins s σ H _ I h) fun us s1 ⟨vs,H1,I1,r,q⟩=>⟨I1.kIn,?_⟩) he hpl
 exact run_fn F hr hb hd hx I1 r q
theorem pe_meth {pl:Sem Bool} (he:PE X o ta) (c:Cls X.K C) (hm:Meth X.K C m f) (F:FnOk X.prog X.w X.K X.mg X.base CX k f fd ps sp) (hr:Room k X.A) (hb:Binds X.K fd ps ds) (hd:Vals dvs ds) (hx:Passes CX X E) (ha:PA X (e :: es) t)
  (hst:starEach (e :: es) X.env=(false,eval e X.env) :: starEach es X.env:=by rfl) (hpl:(backTo pos (starEach es X.env)).any (·.1)=false:=by rfl)
  (ht:eval (.Call (.Attribute o m apos) (e :: es) [] pos) X.env=(do
   let ov ← eval o X.env
   standAt apos.atName
   let (f,first) ← holding [ov] (getMethod ov m pl)
   callWith pos f first (backTo pos (starEach (e :: es) X.env)) (backToKw pos (keywordEach [] X.env))):=by rfl) :
  PE X (.Call (.Attribute o m apos) (e :: es) [] pos) (tMeth C m sp dvs E ta t):=by
 intro pins s σ H Q I h
 refine PySem.W.methodCall_KW (pl:=pl) (thn (he pins s σ H _ I h) fun u s1 ⟨x,H1,I1,rx,a,dx,fs,ex,ea,l,q⟩=>?_) ht
 subst ex
 obtain rfl:u=Value.ref a:=rx
 refine getmeth_ok I1 ea c hm l ?_
 refine PySem.W.callWith_K (first:=[.ref a]) (h₀:=X.base) I.ok.mod.kin hm.kp (thn (ha pos pins s1 σ H1 _ I1 q) fun us s2 ⟨vs,H2,I2,r,q2⟩=>⟨I2.kIn,?_⟩) hst hpl
 exact run_fn (us:=.ref a :: us) (vs:=.ref a :: vs) F hr hb hd hx I2 (.cons rfl r) q2
theorem pe_meth0 {pl:Sem Bool} (he:PE X o ta) (c:Cls X.K C) (hm:Meth X.K C m f) (F:FnOk X.prog X.w X.K X.mg X.base CX k f fd ps sp) (hr:Room k X.A) (hb:Binds X.K fd ps ds) (hd:Vals dvs ds) (hx:Passes CX X E)
  (ht:eval (.Call (.Attribute o m apos) [] [] pos) X.env=(do
   let ov ← eval o X.env
   standAt apos.atName
   let (f,first) ← holding [ov] (getMethod ov m pl)
   callWith pos f first (backTo pos (starEach [] X.env)) (backToKw pos (keywordEach [] X.env))):=by rfl) :
  PE X (.Call (.Attribute o m apos) [] [] pos) (tMeth C m sp dvs E ta tNil):=by
 intro pins s σ H Q I h
 refine PySem.W.methodCall_KW (pl:=pl) (thn (he pins s σ H _ I h) fun u s1 ⟨x,H1,I1,rx,a,dx,fs,ex,ea,l,q⟩=>?_) ht
 subst ex
 obtain rfl:u=Value.ref a:=rx
 refine getmeth_ok I1 ea c hm l ?_
 exact PySem.W.callWith_K0 (first:=[.ref a]) I1.kIn hm.kp (run_fn (us:=[.ref a]) (vs:=[.ref a]) F hr hb hd hx I1 (.cons rfl .nil) q)
structure Mk (K:PySem.W.Frag) (C f:Addr):Prop where
 makes:PySem.W.makesIn K C=true
 init:PySem.W.findIn K (.ref C) "__init__"=some (some (.ref f))
 fn:PySem.W.isFn K (.ref f)=true
 kp:PySem.W.keepIn K (.ref C)=true
theorem run_make {pins:List (Addr × Obj)} {σ:St} {H:Hp} {s:Shared} {Q:VK} {us:List Value} {vs:List V} (M:Mk X.K C f) (F:FnOk X.prog X.w X.K X.mg X.base CX k f fd ps sp) (hr:Room (k + 1) X.A) (hb:Binds X.K fd ps ds) (hd:Vals dvs ds)
  (hx:Passes CX X E) (I:Inv X pins σ H s) (r:Vals vs us)
  (h:∀ x dx,H x=none->H dx=none->dx≠x->sp (.ref x :: (vs ++ dvs)) (upd (upd H dx (.own x)) x (.ins C dx [])) (fun v H2=>v=.non/\Q (.ref x) H2) E) :
  wpAny (model X.prog X.w) X.A (call (.ref C) us) (EP X pins σ Q) X.xe s:=by
 have hq:=h (s.heap.objs.size + 1) s.heap.objs.size (I.hok.fresh (Nat.le_succ _)) (I.hok.fresh (Nat.le_refl _)) (Nat.ne_of_lt (Nat.lt_succ_self _))
 have I2:=Inv.made (C:=C) I
 have r2:Vals (V.ref (s.heap.objs.size + 1) :: (vs ++ dvs)) (Value.ref (s.heap.objs.size + 1) :: (us ++ ds)):=.cons rfl (r.append hd)
 have hl:(Value.ref (s.heap.objs.size + 1) :: us ++ ds).length=ps.length:=by
  have e:=r2.length
  rw [F.len _ _ _ _ hq] at e
  exact e.symm
 refine wpAny_call (make_map (f:=f) I.kIn M.makes M.init (beq_iff_eq.mp M.fn) (codeAny_mono (F.run _ X.stack _ _ ⟨Value.ref (s.heap.objs.size + 1) :: us,[]⟩ (Value.ref (s.heap.objs.size + 1) :: (us ++ ds)) _ _ E (hr.make C us [])
  (I2.env0.make C us []) (hb _ (Value.ref (s.heap.objs.size + 1) :: us) I2.kIn hl) r2 hq) fun r s' hq'=>?_))
 cases r with
 | error e=>exact hx pins σ _ _ e s' I2 hq'
 | ok fl =>
  cases fl with
  | ret u =>
   obtain ⟨v,H',I3,rv,ev,q3⟩:=I2.after hq'
   subst ev
   exact ⟨rv,⟨V.ref (s.heap.objs.size + 1),H',I3,rfl,q3⟩⟩
  | next=>exact False.elim hq'
  | brk=>exact False.elim hq'
  | cont=>exact False.elim hq'
theorem pe_make (M:Mk X.K C f) (F:FnOk X.prog X.w X.K X.mg X.base CX k f fd ps sp) (hr:Room (k + 1) X.A) (hg:Gl X x) (hm:X.mg x=some (.ref C)) (hb:Binds X.K fd ps ds) (hd:Vals dvs ds) (hx:Passes CX X E)
  (ha:PA X (e :: es) t) (hdb:(x == ("__debug__" : Str))=false:=by decide) (he:starEach (e :: es) X.env=(false,eval e X.env) :: starEach es X.env:=by rfl) (hpl:(backTo pos (starEach es X.env)).any (·.1)=false:=by rfl) :
  PE X (.Call (.Name x p) (e :: es) [] pos) (tMake C sp dvs E t):=by
 intro pins s σ H Q I h
 refine wpAny_Call_Name_kw (ld_glob I hg hm ?_ hdb)
 refine PySem.W.callWith_K (h₀:=X.base) I.ok.mod.kin M.kp (thn (ha pos pins s σ H _ I h) fun us s1 ⟨vs,H1,I1,r,q⟩=>⟨I1.kIn,?_⟩) he hpl
 exact run_make M F hr hb hd hx I1 r q
end
section
variable {X:Cx} {CX:CXT} {k:Nat} {f C:Addr} {fd:FuncData} {ps ks:List Str} {sp:Sp} {E:XK} {x m:Str} {p pos apos kpos:Pos} {e o:Expr} {es:List Expr} {kws:List Keyword} {te ta:TE} {t tk:TA} {nm:Option Str}
variable {g:List Value->List Value->List Value} {gV:List V->List V->List V}
end
structure FnScope (N P:List Str) (sc:Scope):Prop where
 kind:sc.kind=.function
 co:sc.isCoroutine=false
 gen:sc.isGenerator=false
 nd:N.Nodup
 pre:N.take P.length=P
 par:∀ x∈P,sc.names.lookup x=some .local\/sc.names.lookup x=some .cell
 nofree:∀ y∈sc.names,y.2≠.free
theorem bindL_out {kindOf:Str->Option NameKind} {x:Str}:∀ {binds:List (Str × Value)} {m:Str->Option Value},(∀ v,(x,v) ∉ binds)->bindL kindOf binds m x=m x
 | [],_,_=>rfl
 | (n,v) :: r,m,h=>by
  unfold bindL
  rw [bindL_out fun w hw=>h w (List.mem_cons_of_mem _ hw)]
  split
  ·have:x≠n:=by rintro rfl; exact h v List.mem_cons_self
   simp [this]
  ·rfl
theorem bindC_out {kindOf:Str->Option NameKind} {x:Str}:∀ {binds:List (Str × Value)} {m:Str->Option Value},(∀ v,(x,v) ∉ binds)->bindC kindOf binds m x=m x
 | [],_,_=>rfl
 | (n,v) :: r,m,h=>by
  unfold bindC
  rw [bindC_out fun w hw=>h w (List.mem_cons_of_mem _ hw)]
  split
  ·rfl
  ·have:x≠n:=by rintro rfl; exact h v List.mem_cons_self
   simp [this]
theorem bindL_get {kindOf:Str->Option NameKind} {x:Str} {v:Value}:∀ {P:List Str} {vs:List Value} {i:Nat} {m:Str->Option Value},P.Nodup->P[i]?=some x->vs[i]?=some v->kindOf x=some .local ->
  bindL kindOf (P.zip vs) m x=some v
 | [],_,_,_,_,h,_,_=>by simp at h
 | _ :: _,[],_,_,_,_,h,_=>by simp at h
 | p :: P,w :: vs,0,m,nd,h1,h2,hk=>by
  simp at h1 h2; subst h1; subst h2
  show bindL kindOf ((p,w) :: P.zip vs) m p=_
  unfold bindL
  rw [bindL_out fun v hv=>(List.nodup_cons.mp nd).1 (List.of_mem_zip hv).1,if_pos hk]
  simp
 | p :: P,w :: vs,i + 1,m,nd,h1,h2,hk=>by
  show bindL kindOf ((p,w) :: P.zip vs) m x=_
  unfold bindL
  exact bindL_get (i:=i) (List.nodup_cons.mp nd).2 (by simpa using h1) (by simpa using h2) hk
theorem bindC_get {kindOf:Str->Option NameKind} {x:Str} {v:Value}:∀ {P:List Str} {vs:List Value} {i:Nat} {m:Str->Option Value},P.Nodup->P[i]?=some x->vs[i]?=some v->kindOf x≠some .local ->
  bindC kindOf (P.zip vs) m x=some v
 | [],_,_,_,_,h,_,_=>by simp at h
 | _ :: _,[],_,_,_,_,h,_=>by simp at h
 | p :: P,w :: vs,0,m,nd,h1,h2,hk=>by
  simp at h1 h2; subst h1; subst h2
  show bindC kindOf ((p,w) :: P.zip vs) m p=_
  unfold bindC
  rw [bindC_out fun v hv=>(List.nodup_cons.mp nd).1 (List.of_mem_zip hv).1,if_neg hk]
  simp
 | p :: P,w :: vs,i + 1,m,nd,h1,h2,hk=>by
  show bindC kindOf ((p,w) :: P.zip vs) m x=_
  unfold bindC
  exact bindC_get (i:=i) (List.nodup_cons.mp nd).2 (by simpa using h1) (by simpa using h2) hk
def start (N:List Str) (vs:List V):St:=vs.map some ++ List.replicate (N.length - vs.length) none
def cxOf (CX:CXT) (P:Program) (w:World) (K:PySem.W.Frag) (mg:Str->Option Value) (base:Heap) (N:List Str) (qual:Str) (scope:Scope) (f:Addr) (cd:Value) (A:Around) (outer:List Env) (s:Shared) (H:Hp) (E:XK):Cx where
 prog:=P
 w:=w
 K:=K
 mg:=mg
 base:=base
 A:=A.deeper (envOfC qual scope s.heap.objs.size f cd)
 N:=N
 s₀:=s
 H₀:=H
 env:=envOfC qual scope s.heap.objs.size f cd
 outer:=outer
 stack:=envOfC qual scope s.heap.objs.size f cd :: outer
 ex:=[]
 calm:=true
 fn:=fun _=>true
 pn:=[]
 xe:=fun e s'=>wpAny (model P w) (A.deeper (envOfC qual scope s.heap.objs.size f cd)) (leaving (envOfC qual scope s.heap.objs.size f cd) e) (fun _ s''=>CX outer H s E e s'') (fun e' s''=>CX outer H s E e' s'') s'
theorem cell_has {sc:Scope} {n:Nat} {x:Str} (h:sc.names.lookup x=some .cell):∃ c,(cellsFrom n sc.names []).lookup x=some c:=by
 have q:=PySem.W.cellsFrom_some sc.names n [] (.inl h)
 exact Option.isSome_iff_exists.mp q
theorem inv_start {CX:CXT} {P:Program} {w:World} {K:PySem.W.Frag} {mg:Str->Option Value} {base:Heap} {N ps:List Str} {qual:Str} {scope:Scope} {f:Addr} {cd:Value} {A:Around} {outer:List Env} {s s1:Shared} {H:Hp} {E:XK} {us:List Value} {vs:List V}
  (S:FnScope N ps scope) (hd:A.handled=none) (e0:Env0 P w K mg base A outer s H) (hl:vs.length=ps.length) (r:Vals vs us)
  (x:InCallC s s.heap.objs.size (bindL (envOfC qual scope s.heap.objs.size f cd).kindOf (ps.zip us) fun _=>none) (cellsFrom (s.heap.objs.size + 1) scope.names []) (bindC (envOfC qual scope s.heap.objs.size f cd).kindOf (ps.zip us) fun _=>none) s1) :
  Inv (cxOf CX P w K mg base N qual scope f cd A outer s H E) [] (start N vs) H s1:=by
 have hpl:ps.length<=N.length:=by have:=congrArg List.length S.pre; rw [List.length_take] at this; omega
 obtain ⟨h1,tk,rfl,hk⟩:=x.done
 have noA:∀ b:Addr,b ∉ (cxOf CX P w K mg base N qual scope f cd A outer s H E).ex:=fun b z=>absurd (show b∈([]:List Addr) from z) (by simp)
 refine ⟨⟨e0.mod,S.kind,rfl,rfl,Nat.le_refl _,fun y z c h1 h2=>?_,fun y hy=>?_,fun y c _ h=>?_,fun _=>hd,Around.frames_deeper e0.frames,.inr ⟨rfl,rfl⟩,fun b z=>absurd z (noA b),e0.bs,e0.bsz,fun b _ _=>noA b,fun b z=>absurd z (noA b),e0.funs,e0.frf⟩,
  rfl,e0.bare,Un.kept hk,⟨_,x.toInCall.ns,fun i y v h1 h2 h3=>?_⟩,fun y c h=>⟨_,x.cell y c h⟩,e0.hok.fresh (Nat.le_refl _),fun y c h=>?_,fun p hp=>absurd (show p∈([]:List (Addr × Obj)) from hp) (by simp),e0.hok.kept hk,?_⟩
 ·exact name_of_addr x.apart (PySem.mem_of_lookup h1) (PySem.mem_of_lookup h2)
 ·have hy:scope.names.lookup y=some .cell\/scope.names.lookup y=some .free:=hy
  rcases hy with hy | hy
  ·exact cell_has hy
  ·exact absurd rfl (S.nofree _ (PySem.mem_of_lookup hy))
 ·exact Nat.le_of_lt (x.above y c (PySem.mem_of_lookup h))
 ·have hi:i < vs.length:=by
   unfold start at h2
   by_cases hi:i < vs.length
   ·exact hi
   ·rw [List.getElem?_append_right (by simpa using hi)] at h2
    rw [List.getElem?_replicate] at h2
    split at h2 <;> cases h2
  have ha:vs[i]?=some v:=by
   unfold start at h2
   rw [List.getElem?_append_left (by simpa using hi),List.getElem?_map] at h2
   cases e:vs[i]? with
   | none=>rw [e] at h2; cases h2
   | some a=>rw [e] at h2; cases h2; rfl
  obtain ⟨u,hu,rv⟩:=r.get ha
  have hp:ps[i]?=some y:=by
   rw [← S.pre,List.getElem?_take_of_lt (by omega)]; exact h1
  have ndP:ps.Nodup:=by rw [← S.pre]; exact S.nd.sublist (List.take_sublist _ _)
  refine ⟨u,rv,?_⟩
  rcases S.par y (List.mem_of_getElem? hp) with k | k
  ·exact .inl ⟨k,bindL_get ndP hp hu k⟩
  ·obtain ⟨c,e⟩:=cell_has (n:=s.heap.objs.size + 1) k
   refine .inr ⟨.inl k,c,e,?_⟩
   have q:=x.cell y c e
   rw [bindC_get ndP hp hu (by show scope.names.lookup y≠_; rw [k]; decide)] at q
   exact q
 ·exact e0.hok.fresh (Nat.le_of_lt (x.above y c (PySem.mem_of_lookup h)))
 ·unfold start
  show _=N.length
  rw [List.length_append,List.length_map,List.length_replicate]
  omega
theorem fn_of {CX:CXT} {P:Program} {w:World} {K:PySem.W.Frag} {mg:Str->Option Value} {base:Heap} {k:Nat} {f:Addr} {name qual:Str} {params:Arguments} {body:List Stmt} {scope:Scope} {dV kV doc pm cdv ct oc:Value} {an od:Option Addr}
  {osl:Array (Option Value)} {N ps:List Str} {sp:Sp} (lk:K.lookup f=some ⟨oc,od,.func (PySem.W.fnOf name qual params body scope dV kV doc pm an cdv ct),osl⟩) (hcd:PySem.W.codeIn K cdv qual=true) (S:FnScope N ps scope)
  (len:∀ vs H Q E,sp vs H Q E->vs.length=ps.length)
  (hbody:∀ (A:Around) (outer:List Env) (s:Shared) (H:Hp) (vs:List V) (Q:VK) (E:XK),Room k (A.deeper (envOfC qual scope s.heap.objs.size f cdv))->sp vs H Q E ->
   ∃ t,PSs (cxOf CX P w K mg base N qual scope f cdv A outer s H E) body t/\t { nx:=fun _ H'=>Q .non H',rt:=Q } (start N vs) H) :
  FnOk P w K mg base CX (k + 1) f (PySem.W.fnOf name qual params body scope dV kV doc pm an cdv ct) ps sp:=by
 refine ⟨len,fun A outer s H args us vs Q E hr e0 hb r hsp=>?_⟩
 have hl:=len _ _ _ _ hsp
 have KX:K.In s.heap:=e0.mod.kin.keeps fun b o e=>(e0.bs b o e).1
 have lim:s.heap.NoLimit:=e0.mod.nolimit.keeps fun b o e=>(e0.bs b o e).1
 have hkind:∀ y∈ps.zip us,scope.names.lookup y.1=some .local\/(scope.names.lookup y.1=some .cell/\((cellsFrom (s.heap.objs.size + 1) scope.names []).lookup y.1).isSome=true):=fun ⟨n,v⟩ hy=>by
  rcases S.par n (List.of_mem_zip hy).1 with q | q
  ·exact .inl q
  ·exact .inr ⟨q,PySem.W.cellsFrom_some _ _ _ (.inl q)⟩
 refine codeAny_call_function hr.depth (KX _ _ lk) rfl S.co S.gen rfl (PySem.W.codeRec_of KX hcd) (hb _ _ _ _ ?_)
 refine wpAny_newFunctionEnv_cells S.kind hkind fun env he s1 x=>?_
 subst he
 refine ⟨lim.keeps x.toInCall.keep,codeAny_func ?_⟩
 obtain ⟨t,ht,hq⟩:=hbody A outer s H vs Q E (hr.deeper _) hsp
 have I:Inv (cxOf CX P w K mg base N qual scope f cdv A outer s H E) [] (start N vs) H s1:=inv_start S hr.hd e0 hl r x
 refine wpAny_mono (ht [] s1 (start N vs) H _ I hq) (fun fl s' hs=>?_) fun e s' hs=>hs
 have fin:∀ {σ':St} {H':Hp} {v:V} {u:Value},Inv (cxOf CX P w K mg base N qual scope f cdv A outer s H E) [] σ' H' s'->RelV v u->Q v H'->CE outer P w H s Q u s' :=
  fun {σ' H' v u} J rv q=>⟨v,H',J.os,J.bare,J.base,J.hok,rv,q⟩
 cases fl with
 | ret u =>
  obtain ⟨v,σ',H',J,rv,q⟩:=hs
  exact fin J rv q
 | next =>
  obtain ⟨σ',H',J,q⟩:=hs
  exact fin (v:=V.non) (u:=Value.none) J rfl q
 | brk =>
  obtain ⟨_,_,_,q⟩:=hs
  exact False.elim q
 | cont =>
  obtain ⟨_,_,_,q⟩:=hs
  exact False.elim q
end L2
namespace L2
open PySem PySem.Spec PyProof.Rows
section
variable {X:Cx} {x:Str} {p pos:Pos} {e:Expr} {es:List Expr} {t:TA} {id T:String} {r:List V->Hp->VK->Prop}
def tCB (r:List V->Hp->VK->Prop) (t:TA):TE:=fun σ H Q=>t σ H fun vs H1=>r vs H1 Q
theorem pe_callB (hc:CallR X (.builtin id) r) (hg:Gl X x) (hm:X.mg x=none) (hv:bootBuiltins x=some (.builtin id)) (ha:PA X (e :: es) t) (hn:x ≠ "__name__" := by decide) (hdb:(x == ("__debug__" : Str))=false:=by decide)
  (he:starEach (e :: es) X.env=(false,eval e X.env) :: starEach es X.env:=by rfl) (hpl:(backTo pos (starEach es X.env)).any (·.1)=false:=by rfl):PE X (.Call (.Name x p) (e :: es) [] pos) (tCB r t):=by
 intro pins s σ H Q I h
 refine wpAny_Call_Name_kw (ld_blt I hg hm hv ?_ hn hdb)
 exact PyProof.Rows.callWith_builtin1 (thn (ha pos pins s σ H _ I h) fun us s1 ⟨vs,H1,I1,r1,q1⟩=>hc pins s1 σ H1 vs us Q I1 r1 q1) he hpl
theorem pe_callTy (hc:CallR X (.type T) r) (hg:Gl X x) (hm:X.mg x=none) (hv:bootBuiltins x=some (.type T)) (ha:PA X (e :: es) t) (hn:x ≠ "__name__" := by decide) (hdb:(x == ("__debug__" : Str))=false:=by decide)
  (he:starEach (e :: es) X.env=(false,eval e X.env) :: starEach es X.env:=by rfl) (hpl:(backTo pos (starEach es X.env)).any (·.1)=false:=by rfl):PE X (.Call (.Name x p) (e :: es) [] pos) (tCB r t):=by
 intro pins s σ H Q I h
 refine wpAny_Call_Name_kw (ld_blt I hg hm hv ?_ hn hdb)
 exact PyProof.Rows.callWith_type1 (thn (ha pos pins s σ H _ I h) fun us s1 ⟨vs,H1,I1,r1,q1⟩=>hc pins s1 σ H1 vs us Q I1 r1 q1) he hpl
end
end L2
namespace HT
open PySem PyProof.Rows
section
open PySem.SeqAt
open PySem.AutoSeq1 (wpAny_loadPart')
open PySem.MeetsSeq PySem.MeetsSeq2 PySem.MeetsSeq3
end
section
variable {prog:Program} {w:World} {A:Around} {E:Value->Shared->Prop} {s:Shared}
def sIx (n d:Nat):Option Int->Nat
 | none=>d
 | some v=>if v < 0 then (v + (n:Int)).toNat else min v.toNat n
theorem sIx_none (n d:Nat):sIx n d none=d:=rfl
theorem sIx_nat (n d k:Nat):sIx n d (some (k:Int))=min k n:=by
 show (if (k:Int) < 0 then ((k:Int) + (n:Int)).toNat else min (k:Int).toNat n)=min k n
 rw [if_neg (by omega),Int.toNat_natCast]
theorem sIx_le (n d:Nat) (hd:d<=n) (o:Option Int):sIx n d o<=n:=by
 cases o with
 | none=>exact hd
 | some v =>
  show (if v < 0 then (v + (n:Int)).toNat else min v.toNat n)<=n
  by_cases hv:v < 0
  ·rw [if_pos hv]; omega
  ·rw [if_neg hv]; exact Nat.min_le_right _ _
theorem clip_eq (v:Int) (n d:Nat):(if v < 0 then max (v + (n:Int)) 0 else min v (n:Int))=((sIx n d (some v):Nat):Int):=by
 show (if v < 0 then max (v + (n:Int)) 0 else min v (n:Int))=(((if v < 0 then (v + (n:Int)).toNat else min v.toNat n):Nat):Int)
 by_cases hv:v < 0
 ·simp only [if_pos hv]; omega
 ·simp only [if_neg hv]; omega
theorem adjust_gen (lo hi:Option Int) (n:Nat):Builtin.Slice.sliceAdjust lo hi 1 (n:Int)=(((sIx n 0 lo:Nat):Int),((sIx n n hi:Nat):Int)):=by
 have h1:¬ ((1:Int) < 0):=by omega
 unfold Builtin.Slice.sliceAdjust
 simp only [h1,if_false]
 refine Prod.ext ?_ ?_
 ·cases lo with
  | none=>rfl
  | some v=>exact clip_eq v n 0
 ·cases hi with
  | none=>rfl
  | some v=>exact clip_eq v n n
theorem places_gen (i j:Nat):Builtin.Slice.slicePlaces (i:Int) (j:Int) 1=j - i:=by
 unfold Builtin.Slice.slicePlaces
 have h1:(1:Int) > 0:=by omega
 simp only [h1,if_true,Int.ediv_one]
 split <;> omega
theorem slicePart_ {v:Value} {o:Option Int} {Q:Option Int->Shared->Prop} (p:IsPart v o) (h:Q o s):wpAny (model prog w) A (Builtin.Slice.slicePartIndex v) Q E s:=by
 cases p with
 | none=>exact slicePart_none h
 | int i t=>exact slicePart_int h
theorem sliceApplied_gen {sl:Addr} {vl vu:Value} {lo hi:Option Int} {n:Nat} {Q:Int × Int × Nat->Shared->Prop} (hs:s.heap.IsSliceOf sl vl vu .none) (pl:IsPart vl lo) (pu:IsPart vu hi)
  (h:Q (((sIx n 0 lo:Nat):Int),1,sIx n n hi - sIx n 0 lo) s):wpAny (model prog w) A (Builtin.Slice.sliceApplied (.ref sl) (pure (n:Int))) Q E s:=by
 obtain ⟨os,hos,hcs,hds⟩:=id hs
 unfold Builtin.Slice.sliceApplied Builtin.Slice.sliceFields
 refine wpAny_bind (wpAny_bind (wpAny_field hos hds (x:=vl) rfl (wpAny_bind (wpAny_field hos hds (x:=vu) rfl (wpAny_bind (wpAny_field hos hds (x:=.none) rfl (wpAny_pure ?_)))))))
 refine wpAny_bind (slicePart_none ?_)
 show wpAny _ _ (if ((1:Int) == 0)=true then _ else _) _ _ s
 rw [if_neg (by decide)]
 refine wpAny_bind (slicePart_ pl (wpAny_bind (slicePart_ pu (wpAny_bind (wpAny_pure ?_)))))
 show wpAny _ _ (match Builtin.Slice.sliceAdjust lo hi 1 (n:Int) with | (lo,hi)=>pure (lo,(1:Int),Builtin.Slice.slicePlaces lo hi 1)) _ _ s
 rw [adjust_gen lo hi n]
 show wpAny _ _ (pure (((sIx n 0 lo:Nat):Int),(1:Int),Builtin.Slice.slicePlaces ((sIx n 0 lo:Nat):Int) ((sIx n n hi:Nat):Int) 1)) _ _ s
 rw [places_gen]
 exact wpAny_pure h
theorem pick_gen (xs:Array Value) (i k:Nat):((List.range k).filterMap fun (m:Nat)=>xs[((i:Int) + (m:Int) * 1).toNat]?).toArray=((xs.toList.drop i).take k).toArray:=by
 have e:(fun (m:Nat)=>xs[((i:Int) + (m:Int) * 1).toNat]?)=fun m=>xs[i + m]?:=by
  funext m
  have:((i:Int) + (m:Int) * 1).toNat=i + m:=by omega
  rw [this]
 rw [e]
 have:=pick_run xs i k
 rw [List.filterMap_map] at this
 have e2:((fun x=>xs[x]?) ∘ fun x=>i + x)=fun m=>xs[i + m]?:=rfl
 rw [e2] at this
 rw [this]
theorem getItem_tuple_cut {t sl:Addr} {items:Array Value} {vl vu:Value} {lo hi:Option Int} {Q:Value->Shared->Prop} (ht:IsTup s.heap t items) (hs:s.heap.IsSliceOf sl vl vu .none) (pl:IsPart vl lo) (pu:IsPart vu hi)
  (hw:¬ (sIx items.size 0 lo=0/\sIx items.size items.size hi=items.size))
  (h:Q (.ref s.heap.objs.size) { s with heap:=s.heap.push { cls:=.type "tuple", data:=.seq ((items.toList.drop (sIx items.size 0 lo)).take (sIx items.size items.size hi - sIx items.size 0 lo)).toArray } })
  (hsz:items.size<=sizeLine):wpAny (model prog w) A (getItem (.ref t) (.ref sl)) Q E s:=by
 have htake:sizeOk (.seq ((items.toList.drop (sIx items.size 0 lo)).take (sIx items.size items.size hi - sIx items.size 0 lo)).toArray):=by
  show ((items.toList.drop (sIx items.size 0 lo)).take (sIx items.size items.size hi - sIx items.size 0 lo)).toArray.size<=sizeLine
  rw [List.size_toArray,List.length_take,List.length_drop,Array.length_toList]
  omega
 have hj:sIx items.size items.size hi<=items.size:=sIx_le _ _ (Nat.le_refl _) hi
 obtain ⟨os,hos,hcs,hds⟩:=id hs
 have hTs:s.TypeIs (.ref sl) "slice" := ⟨os,hos,hcs⟩
 unfold getItem
 try with_reducible refine wpAny_holding ?_
 first | refine wpAny_bind (wpAny_pure ?_) | skip
 refine wpAny_bind (wpAny_sequenceKey ht.typeIs (by decide) ?_)
 refine wpAny_bind (wpAny_callSpecial?_slot (name:=Str.ofString "__getitem__") ht.typeIs PyProof.Rows.slot_tuple_getitem
  (wpAny_call_entry PyProof.Rows.slot_tuple_getitem ht.typeIs entry_tuple_getitem ?_ (args_tuple_getitem _ _)))
 show wpAny _ _ (Builtin.Tuple.tupleItemsOf (.ref t) >>= _) _ _ s
 refine wpAny_bind (tupleItemsOf_ ht ?_)
 refine wpAny_bind (wpAny_typeOf hTs ?_)
 rw [if_pos (by decide)]
 refine wpAny_bind (sliceApplied_gen hs pl pu ?_)
 have hno:¬ ((((sIx items.size 0 lo:Nat):Int) == 0 && (1:Int) == 1 && (sIx items.size items.size hi - sIx items.size 0 lo) == items.size)=true):=by
  intro q
  rw [Bool.and_eq_true,Bool.and_eq_true] at q
  have q1:((sIx items.size 0 lo:Nat):Int)=0:=eq_of_beq q.1.1
  have q2:sIx items.size items.size hi - sIx items.size 0 lo=items.size:=eq_of_beq q.2
  exact hw ⟨by omega,by omega⟩
 show wpAny _ _ (if (((sIx items.size 0 lo:Nat):Int) == 0 && (1:Int) == 1 && (sIx items.size items.size hi - sIx items.size 0 lo) == items.size)=true then _ else _) _ _ s
 rw [if_neg hno,pick_gen]
 first
  | exact wpAny_bind (m:=Builtin.Tuple.tupleExact _) (wpAny_newObj_type (wpAny_pure ⟨_,rfl,wpAny_pure h⟩) htake)
  | exact wpAny_bind (m:=Builtin.Tuple.tupleExact _) (wpAny_newObj_type (wpAny_bind (wpAny_pure (wpAny_pure ⟨_,rfl,wpAny_pure h⟩))) htake)
  | exact wpAny_bind (wpAny_bind (m:=Builtin.Tuple.tupleExact _) (wpAny_newObj_type (wpAny_pure (wpAny_pure ⟨_,rfl,wpAny_pure h⟩)) htake))
  | exact wpAny_bind (wpAny_bind (m:=Builtin.Tuple.tupleExact _) (wpAny_newObj_type (wpAny_pure ⟨_,rfl,wpAny_pure h⟩) htake))
end
end HT
namespace L2
open PySem PySem.Spec PyProof.Rows
abbrev TO:=St->Hp->(Option Int->Hp->Prop)->Prop
def PO (X:Cx) (e:Option Expr) (t:TO):Prop :=
 ∀ (pins:List (Addr × Obj)) (s:Shared) (σ:St) (H:Hp) (Q:Option Int->Hp->Prop),Inv X pins σ H s->t σ H Q ->
  wpAny (model X.prog X.w) X.A (evalPart e X.env) (fun u s'=>∃ o H',Inv X pins σ H' s'/\IsPart u o/\Q o H') X.xe s
def tNoPart:TO:=fun _ H Q=>Q none H
def tPart (t:TE):TO:=fun σ H Q=>t σ H fun x H1=>∃ i,x=.int i/\Q (some i) H1
theorem intsAre_of {ns:List Int}:∀ {us:List Value},Vals (ns.map V.int) us->IntsAre us ns:=by
 induction ns with
 | nil=>intro us r; rw [List.map_nil] at r; cases r; exact .nil
 | cons n ns ih =>
  intro us r
  rw [List.map_cons] at r
  cases r with
  | cons r1 r2 =>
   obtain ⟨t,e⟩:=r1
   subst e
   exact .cons n t (ih r2)
section
variable {X:Cx} {e:Expr} {te:TE} {lo hi:Option Expr} {tl th:TO} {pos p2:Pos}
theorem po_none:PO X none tNoPart:=by
 intro pins s σ H Q I h
 rw [evalPart_none]
 exact wpAny_pure ⟨none,H,I,.none,h⟩
theorem po_some (h:PE X e te):PO X (some e) (tPart te):=by
 intro pins s σ H Q I hw
 rw [evalPart_some]
 refine thn (h pins s σ H _ I hw) fun u s1 ⟨x,H1,I1,r1,q1⟩=>?_
 obtain ⟨i,rfl,q⟩:=q1
 obtain ⟨t,rfl⟩:=r1
 exact ⟨some i,H1,I1,.int i t,q⟩
def SlR (X:Cx) (r:V->Option Int->Option Int->Hp->VK->Prop):Prop :=
 ∀ (pins:List (Addr × Obj)) (s:Shared) (σ:St) (H:Hp) (x:V) (v vl vu:Value) (lo hi:Option Int) (sl:Addr) (Q:VK),Inv X pins σ H s->RelV x v->s.heap.IsSliceOf sl vl vu .none->IsPart vl lo->IsPart vu hi->r x lo hi H Q ->
  ∃ T id,typeLookup (.type T) "__getitem__"=pure (some (.builtin id))/\s.TypeIs v T/\wpAny (model X.prog X.w) X.A (getItem v (.ref sl)) (EP X pins σ Q) X.xe s
def tSl (r:V->Option Int->Option Int->Hp->VK->Prop) (te:TE) (tl th:TO):TE:=fun σ H Q=>te σ H fun x H1=>tl σ H1 fun l H2=>th σ H2 fun u H3=>r x l u H3 Q
theorem pe_slice {r:V->Option Int->Option Int->Hp->VK->Prop} (hr:SlR X r) (he:PE X e te) (hl:PO X lo tl) (hu:PO X hi th):PE X (.Subscript e (.Slice lo hi none p2) pos) (tSl r te tl th):=by
 intro pins s σ H Q I h
 refine Subscript_ (thn (he pins s σ H _ I h) fun v s1 ⟨x,H1,I1,r1,q1⟩=>?_)
 refine wpAny_Slice (thn (hl pins s1 σ H1 _ I1 q1) fun vl s2 ⟨l,H2,I2,pl,q2⟩=>thn (hu pins s2 σ H2 _ I2 q2) fun vu s3 ⟨u,H3,I3,pu,q3⟩=>?_)
 rw [evalPart_none]
 refine wpAny_pure ?_
 have I4:Inv X pins σ H3 { s3 with heap:=s3.heap.push { cls:=.type "slice", data:=.fields #[vl,vu,.none] } }:=I3.kept (t':=s3.toks) fun b ob q=>Heap.get?_push_of_some _ q
 obtain ⟨T,id,hT,ht,hg⟩:=hr pins { s3 with heap:=s3.heap.push { cls:=.type "slice", data:=.fields #[vl,vu,.none] } } σ H3 x v vl vu l u s3.heap.objs.size Q I4 r1 (Heap.IsSliceOf.new ..) pl pu q3
 show wpAny (model X.prog X.w) X.A (subscriptTail e (.Slice lo hi none p2) v (.ref s3.heap.objs.size)) (EP X pins σ Q) X.xe { s3 with heap:=s3.heap.push { cls:=.type "slice", data:=.fields #[vl,vu,.none] } }
 exact tail_any (ops:=[.ref s3.heap.objs.size,v]) ht hT hg (by with_unfolding_all rfl)
def cutV (xs:List V) (lo hi:Option Int):List V:=(xs.drop (HT.sIx xs.length 0 lo)).take (HT.sIx xs.length xs.length hi - HT.sIx xs.length 0 lo)
theorem cutV_length (xs:List V) (lo hi:Option Int):(cutV xs lo hi).length<=xs.length:=by
 unfold cutV
 rw [List.length_take,List.length_drop]
 omega
def rSlT (K:PySem.W.Frag):V->Option Int->Option Int->Hp->VK->Prop:=fun x lo hi H Q=>∃ a xs,x=.ref a/\SqT K H a xs /\
 ¬ (HT.sIx xs.length 0 lo=0/\HT.sIx xs.length xs.length hi=xs.length)/\∀ p,H p=none->Q (.ref p) (upd H p (.tup (cutV xs lo hi)))
theorem sl_tup:SlR X (rSlT X.K):=by
 intro pins s σ H x v vl vu lo hi sl Q I rx hs pl pu h
 obtain ⟨a,xs,rfl,hx,hw,q⟩:=h
 cases rx
 obtain ⟨its,r,ht,hz⟩:=I.tuple hx
 have hlen:its.toArray.size=xs.length:=by rw [List.size_toArray]; exact r.length.symm
 refine ⟨"tuple", _,PyProof.Rows.slot_tuple_getitem.lookup,ht.typeIs,?_⟩
 refine HT.getItem_tuple_cut ht hs pl pu (by rw [hlen]; exact hw) ?_ (by rw [hlen]; exact hz)
 rw [hlen]
 refine ⟨.ref s.heap.objs.size,_,I.laid (t':=s.toks) (o:=.tup (cutV xs lo hi)) (fun b ob q=>Heap.get?_push_of_some _ q) (Nat.le_refl _) ?_,rfl,q _ (I.hok.fresh (Nat.le_refl _))⟩
 exact ⟨Nat.le_trans (cutV_length xs lo hi) hz,_,(r.drop (HT.sIx xs.length 0 lo)).take (HT.sIx xs.length xs.length hi - HT.sIx xs.length 0 lo),IsTup.new _ _⟩
end
end L2
namespace L2
open PySem PySem.Spec PyProof.Rows
def ixN (n:Nat) (i:Int):Option Nat:=if 0<=i then (if i < n then some i.toNat else none) else if -(n:Int)<=i then some (i + n).toNat else none
def atI {α:Type} (xs:List α) (i:Int):Option α:=(ixN xs.length i).bind fun j=>xs[j]?
theorem ixN_seq {n:Nat} {i:Int} {j:Nat} (h:ixN n i=some j):seqIndex? i n=some j/\j < n/\-(n:Int)<=i/\i < n:=by
 unfold ixN at h
 by_cases h0:0<=i
 ·rw [if_pos h0] at h
  by_cases h1:i < n
  ·rw [if_pos h1] at h
   have e:i.toNat=j:=Option.some.inj h
   exact ⟨by rw [seqIndex_of h0 h1,e],by omega,by omega,h1⟩
  ·rw [if_neg h1] at h; cases h
 ·rw [if_neg h0] at h
  by_cases h1:-(n:Int)<=i
  ·rw [if_pos h1] at h
   have e:(i + n).toNat=j:=Option.some.inj h
   exact ⟨by rw [seqIndex_neg (by omega) h1,e],by omega,h1,by omega⟩
  ·rw [if_neg h1] at h; cases h
theorem atI_get {α:Type} {xs:List α} {i:Int} {v:α} (h:atI xs i=some v):∃ j,seqIndex? i xs.length=some j/\xs[j]?=some v/\j < xs.length/\-(xs.length:Int)<=i/\i < xs.length:=by
 unfold atI at h
 cases e:ixN xs.length i with
 | none=>rw [e] at h; cases h
 | some j =>
  rw [e] at h
  obtain ⟨h1,h2,h3,h4⟩:=ixN_seq e
  exact ⟨j,h1,h,h2,h3,h4⟩
theorem atI_nat {α:Type} {xs:List α} {j:Nat} {v:α} (h:xs[j]?=some v):atI xs (j:Int)=some v:=by
 have hj:j < xs.length:=(List.getElem?_eq_some_iff.mp h).1
 have e:ixN xs.length (j:Int)=some j:=by
  unfold ixN
  rw [if_pos (by omega),if_pos (by omega)]; simp
 unfold atI; rw [e]; exact h
def PlainIx (b:Expr):Prop:=∀ o i,subscripted b false o i=operate [o,i] (getItem o i)
def IxR (X:Cx) (r:R2):Prop :=
 ∀ (value slice:Expr) (pins:List (Addr × Obj)) (s:Shared) (σ:St) (H:Hp) (x y:V) (v u:Value) (Q:VK),Inv X pins σ H s->RelV x v->RelV y u->r x y H Q ->
  subscripted slice false v u=operate [v,u] (getItem v u)->wpAny (model X.prog X.w) X.A (subscriptTail value slice v u) (EP X pins σ Q) X.xe s
def MtR (X:Cx) (id:String) (r:V->List V->Hp->VK->Prop):Prop :=
 ∀ (pins:List (Addr × Obj)) (s:Shared) (σ:St) (H:Hp) (x:V) (xs:List V) (v:Value) (us:List Value) (Q:VK),Inv X pins σ H s->RelV x v->Vals xs us->r x xs H Q ->
  wpAny (model X.prog X.w) X.A (call (.builtin id) (v :: us)) (EP X pins σ Q) X.xe s
section
variable {X:Cx} {a b:Expr} {ta tb:TE} {pos:Pos}
theorem pe_ix {r:R2} (hr:IxR X r) (ha:PE X a ta) (hb:PE X b tb) (hs:PlainIx b):PE X (.Subscript a b pos) (tOp r ta tb):=by
 intro pins s σ H Q I h
 exact Subscript_ (binT ha hb I h fun v u s2 x y H2 I2 rx ry q=>hr a b pins s2 σ H2 x y v u Q I2 rx ry q (hs _ _))
def rIxL (K:PySem.W.Frag):R2:=fun x y H Q=>∃ p xs i v,x=.ref p/\y=.int i/\SqL K H p xs/\atI xs i=some v/\Q v H
def rIxT (K:PySem.W.Frag):R2:=fun x y H Q=>∃ p xs i v,x=.ref p/\y=.int i/\SqT K H p xs/\atI xs i=some v/\Q v H
def rIxS:R2:=fun x y H Q=>∃ z i c,x=.str z/\y=.int i/\z.length<=sizeLine/\atI z.cps.toList i=some c/\Q (.str ⟨#[c]⟩) H
theorem ix_list:IxR X (rIxL X.K):=by
 intro value slice pins s σ H x y v u Q I rx ry h hs
 obtain ⟨p,xs,i,z,rfl,rfl,hq,he,q⟩:=h
 cases rx
 obtain ⟨t,rfl⟩:=ry
 obtain ⟨its,r,pl,hz⟩:=I.list hq
 obtain ⟨j,h1,h2,h3,h4,h5⟩:=atI_get he
 obtain ⟨w,ew,rw'⟩:=r.get h2
 have hl:=r.length
 have hn:=line63
 have fin:EP X pins σ Q w s:=⟨z,H,I,rw',q⟩
 by_cases h0:0<=i
 ·have hj:i.toNat=j:=by
   rw [seqIndex_of h0 h5] at h1
   exact Option.some.inj h1
  exact item_listR pl.isList h0 (by omega) (by rw [hj]; simpa using ew) fin hs
 ·have hj:(i + (its.toArray.size:Int)).toNat=j:=by
   rw [seqIndex_neg (by omega) h4] at h1
   rw [List.size_toArray,← hl]
   exact Option.some.inj h1
  exact subscriptTail_builtinR (x:=w) pl.isList.typeIs slot_list_getitem.lookup
   (wpAny_getItem_list_neg (Q:=fun r s'=>r=w/\EP X pins σ Q r s') pl.isList (by omega) (by rw [List.size_toArray] <;> omega) (by omega) (by rw [hj]; simpa using ew) ⟨rfl,fin⟩) hs
theorem ix_tup:IxR X (rIxT X.K):=by
 intro value slice pins s σ H x y v u Q I rx ry h hs
 obtain ⟨p,xs,i,z,rfl,rfl,hq,he,q⟩:=h
 cases rx
 obtain ⟨t,rfl⟩:=ry
 obtain ⟨its,r,pl,hz⟩:=I.tuple hq
 obtain ⟨j,h1,h2,h3,h4,h5⟩:=atI_get he
 obtain ⟨w,ew,rw'⟩:=r.get h2
 have hl:=r.length
 have hn:=line63
 have fin:EP X pins σ Q w s:=⟨z,H,I,rw',q⟩
 exact subscriptTail_builtinR (x:=w) pl.typeIs slot_tuple_getitem.lookup
  (getItem_tuple (j:=j) (Q:=fun r s'=>r=w/\EP X pins σ Q r s') pl (by omega) (by omega) (by rw [List.size_toArray,← hl]; exact h1) (by simpa using ew) ⟨rfl,fin⟩) hs
theorem ix_str:IxR X rIxS:=by
 intro value slice pins s σ H x y v u Q I rx ry h hs
 obtain ⟨z,i,c,rfl,rfl,hz,he,q⟩:=h
 obtain ⟨t,rfl⟩:=rx
 obtain ⟨t',rfl⟩:=ry
 obtain ⟨j,h1,h2,h3,h4,h5⟩:=atI_get he
 have hl:z.cps.toList.length=z.length:=by simp [Str.length]
 rw [hl] at h1 h4 h5
 have hn:=line63
 exact tail_any (typeIs_str s z t) slot_str_getitem.lookup (getItem_str (c:=c) (by
  have e1:decide (i < -(2 ^ 63:Int))=false:=decide_eq_false (by omega)
  have e2:decide (i >= 2 ^ 63)=false:=decide_eq_false (by omega)
  rw [e1,e2,Bool.or_false]) (by rw [h1]; simpa using h2) ⟨.str ⟨#[c]⟩,H,I.tok _,⟨_,rfl⟩,q⟩) hs
theorem mapSeq_set (its:List Value) (n j:Nat) (u:Value):Obj.mapSeq (·.setIfInBounds j u) { cls:=.type "list", data:=.seq its.toArray n }={ cls:=.type "list", data:=.seq (its.set j u).toArray n }:=by
 simp [Obj.mapSeq]
theorem Inv.lst {pins:List (Addr × Obj)} {σ:St} {H:Hp} {s:Shared} {p:Addr} {xs:List V} (I:Inv X pins σ H s) (h:H p=some (.lst xs)) :
  ∃ (its:List Value) (n:Nat),Vals xs its/\s.heap.get? p=some { cls:=.type "list", data:=.seq its.toArray n }/\xs.length<=sizeLine:=by
 obtain ⟨z,its,n,r,e⟩:=I.hok p _ h
 exact ⟨its,n,r,e,z⟩
theorem Inv.lstUpd {pins:List (Addr × Obj)} {σ:St} {H:Hp} {s:Shared} {p:Addr} {xs ys:List V} {its its':List Value} {n n':Nat} {f:Obj->Obj} (I:Inv X pins σ H s) (h:H p=some (.lst xs))
  (ho:s.heap.get? p=some { cls:=.type "list", data:=.seq its.toArray n }) (hf:f { cls:=.type "list", data:=.seq its.toArray n }={ cls:=.type "list", data:=.seq its'.toArray n' }) (r:Vals ys its') (hz:ys.length<=sizeLine) (t:Nat) :
  Inv X pins σ (upd H p (.lst ys)) { s with heap:=s.heap.update p f,toks:=t }:=by
 have e:(s.heap.update p f).get? p=some { cls:=.type "list", data:=.seq its'.toArray n' }:=by
  rw [Heap.get?_update_self f ho (by rw [hf] <;> rfl),hf]
 refine I.write (x:=p) (e:=p) (by rw [h]; trivial) (.inl rfl) (fun b u hb q=>(Heap.get?_update_other _ _ (Ne.symm hb)).trans q) ⟨_,e⟩ ?_
 exact ⟨hz,its',n',r,e⟩
def rSetL:V->V->V->Hp->(Hp->Prop)->Prop:=fun o i v H Q=>∃ p xs k j,o=.ref p/\i=.int k/\H p=some (.lst xs)/\ixN xs.length k=some j/\Q (upd H p (.lst (xs.set j v)))
theorem set_list:PSet X rSetL:=by
 intro pins s σ H o i v ov iv u Q I ro ri rv h
 obtain ⟨p,xs,k,j,rfl,rfl,hp,hj,q⟩:=h
 cases ro
 obtain ⟨t,rfl⟩:=ri
 obtain ⟨its,n,r,ho,hz⟩:=I.lst hp
 obtain ⟨h1,h2,h3,h4⟩:=ixN_seq hj
 have hl:=r.length
 have hn:=line63
 have I':Inv X pins σ (upd H p (.lst (xs.set j v))) { s with heap:=s.heap.update p (Obj.mapSeq (·.setIfInBounds j u)) } :=
  I.lstUpd hp ho (mapSeq_set its n j u) (r.set rv j) (by rw [List.length_set]; exact hz) s.toks
 by_cases h0:0<=k
 ·have hk:k.toNat=j:=by
   rw [seqIndex_of h0 h4] at h1
   exact Option.some.inj h1
  exact PySem.W.ki_setAt ho h0 (by omega) (by rw [List.size_toArray,← hl]; exact h4) (by rw [hk]; exact ⟨_,I',q⟩)
 ·have hk:(k + (its.toArray.size:Int)).toNat=j:=by
   rw [seqIndex_neg (by omega) h3] at h1
   rw [List.size_toArray,← hl]
   exact Option.some.inj h1
  exact PySem.W.ki_setBack ho (by omega) (by rw [List.size_toArray,← hl]; exact h3) (by omega) (by rw [hk]; exact ⟨_,I',q⟩)
theorem slice_bounds (lo hi:Option Int) (n:Nat):(sliceBounds lo hi none n).1=((HT.sIx n 0 lo:Nat):Int)/\(sliceBounds lo hi none n).2.1=((HT.sIx n n hi:Nat):Int)/\(sliceBounds lo hi none n).2.2=1:=by
 refine ⟨?_,?_,rfl⟩
 ·cases lo with
  | none=>simp [sliceBounds,HT.sIx]
  | some i =>
   simp only [sliceBounds,HT.sIx,Option.getD_none,show (1:Int) > 0 by decide,if_true]
   by_cases h:i < 0
   ·simp only [h,if_true] <;> omega
   ·simp only [h,if_false] <;> omega
 ·cases hi with
  | none=>simp [sliceBounds,HT.sIx]
  | some i =>
   simp only [sliceBounds,HT.sIx,Option.getD_none,show (1:Int) > 0 by decide,if_true]
   by_cases h:i < 0
   ·simp only [h,if_true] <;> omega
   ·simp only [h,if_false] <;> omega
theorem slicePick_cut (its:List Value) (lo hi:Option Int):slicePick its.toArray lo hi none=((its.drop (HT.sIx its.length 0 lo)).take (HT.sIx its.length its.length hi - HT.sIx its.length 0 lo)).toArray:=by
 obtain ⟨h1,h2,h3⟩:=slice_bounds lo hi its.toArray.size
 unfold slicePick
 rw [h1,h2,h3]
 simp only [sliceRange_one,pick_run,List.size_toArray] <;> rfl
def rSlL (K:PySem.W.Frag):V->Option Int->Option Int->Hp->VK->Prop:=fun x lo hi H Q=>∃ a xs,x=.ref a/\SqL K H a xs/\∀ p,H p=none->Q (.ref p) (upd H p (.lst (cutV xs lo hi)))
theorem sl_list:SlR X (rSlL X.K):=by
 intro pins s σ H x v vl vu lo hi sl Q I rx hs pl pu h
 obtain ⟨a,xs,rfl,hx,q⟩:=h
 cases rx
 obtain ⟨its,r,ht,hz⟩:=I.list hx
 have hlen:=r.length
 refine ⟨"list", _,slot_list_getitem.lookup,ht.isList.typeIs,?_⟩
 refine wpAny_getItem_list_slice ht.isList hs pl pu .none (by simp) ?_ (by rw [List.size_toArray] <;> omega)
 rw [slicePick_cut,← hlen]
 refine ⟨.ref s.heap.objs.size,_,I.laid (t':=s.toks) (o:=.lst (cutV xs lo hi)) (fun b ob q=>Heap.get?_push_of_some _ q) (Nat.le_refl _) ?_,rfl,q _ (I.hok.fresh (Nat.le_refl _))⟩
 exact ⟨Nat.le_trans (cutV_length xs lo hi) hz,_,0,(r.drop (HT.sIx xs.length 0 lo)).take (HT.sIx xs.length xs.length hi - HT.sIx xs.length 0 lo),Heap.get?_push_size _ rfl⟩
def flatV:V->Bool
 | .non=>true
 | .bl _=>true
 | .int _=>true
 | .str _=>true
 | _=>false
def eqV:V->V->Bool
 | .non,.non=>true
 | .bl a,.bl b=>a == b
 | .bl a,.int b=>(if a then 1 else 0) == b
 | .int a,.bl b=>a == (if b then 1 else 0)
 | .int a,.int b=>a == b
 | .str a,.str b=>a == b
 | _,_=>false
theorem eqAt_V {A:Around} {s:Shared} {y x:V} {u v:Value} (ry:RelV y u) (rx:RelV x v) (fy:flatV y=true) (fx:flatV x=true):SeqAt.EqAt A s u v (eqV y x):=by
 cases y with
 | non =>
  cases ry
  cases x with
  | non=>cases rx; exact SeqAt.EqAt.same _
  | bl b=>cases rx; exact SeqAt.EqAt.none_bool b
  | int b=>obtain ⟨t,rfl⟩:=rx; exact SeqAt.EqAt.none_int b t
  | str b=>obtain ⟨t,rfl⟩:=rx; exact SeqAt.EqAt.none_str b t
  | _=>exact absurd (show false=true from fx) Bool.false_ne_true
 | bl a =>
  cases ry
  cases x with
  | non=>cases rx; exact SeqAt.EqAt.bool_none a
  | bl b=>cases rx; exact SeqAt.EqAt.bool_bool a b
  | int b=>obtain ⟨t,rfl⟩:=rx; exact SeqAt.EqAt.bool_int a b t
  | str b=>obtain ⟨t,rfl⟩:=rx; exact SeqAt.EqAt.bool_str a b t
  | _=>exact absurd (show false=true from fx) Bool.false_ne_true
 | int a =>
  obtain ⟨t',rfl⟩:=ry
  cases x with
  | non=>cases rx; exact SeqAt.EqAt.int_none a t'
  | bl b=>cases rx; exact SeqAt.EqAt.int_bool a t' b
  | int b=>obtain ⟨t,rfl⟩:=rx; exact SeqAt.EqAt.int_int a t' b t
  | str b=>obtain ⟨t,rfl⟩:=rx; exact SeqAt.EqAt.int_str a t' b t
  | _=>exact absurd (show false=true from fx) Bool.false_ne_true
 | str a =>
  obtain ⟨t',rfl⟩:=ry
  cases x with
  | non=>cases rx; exact SeqAt.EqAt.str_none a t'
  | bl b=>cases rx; exact SeqAt.EqAt.str_bool a t' b
  | int b=>obtain ⟨t,rfl⟩:=rx; exact SeqAt.EqAt.str_int a t' b t
  | str b=>obtain ⟨t,rfl⟩:=rx; exact SeqAt.EqAt.str_str a t' b t
  | _=>exact absurd (show false=true from fx) Bool.false_ne_true
 | _=>exact absurd (show false=true from fy) Bool.false_ne_true
def eqU (x:V) (u:Value):Bool:=match u with
 | .none=>eqV .non x
 | .bool b=>eqV (.bl b) x
 | .int i _=>eqV (.int i) x
 | .str z _=>eqV (.str z) x
 | _=>false
theorem eqU_of {x y:V} {u:Value} (r:RelV y u) (f:flatV y=true):eqU x u=eqV y x:=by
 cases y with
 | non=>cases r; rfl
 | bl b=>cases r; rfl
 | int i=>obtain ⟨t,rfl⟩:=r; rfl
 | str z=>obtain ⟨t,rfl⟩:=r; rfl
 | _=>exact absurd (show false=true from f) Bool.false_ne_true
theorem any_eqU {x:V}:∀ {xs:List V} {us:List Value},Vals xs us->xs.all flatV=true->us.any (eqU x)=xs.any fun y=>eqV y x
 | _,_,.nil,_=>rfl
 | y :: xs,u :: us,.cons r t,f=>by
  rw [List.all_cons,Bool.and_eq_true] at f
  rw [List.any_cons,List.any_cons,eqU_of r f.1,any_eqU t f.2]
theorem mem_eqAt {A:Around} {s:Shared} {x:V} {v:Value} (rx:RelV x v) (fx:flatV x=true):∀ {xs:List V} {us:List Value},Vals xs us->xs.all flatV=true->∀ u∈us,SeqAt.EqAt A s u v (eqU x u)
 | _,_,.nil,_=>fun u hu=>by cases hu
 | y :: xs,u :: us,.cons r t,f=>fun u' hu=>by
  rw [List.all_cons,Bool.and_eq_true] at f
  rcases List.mem_cons.mp hu with rfl | hu
  ·rw [eqU_of r f.1]; exact eqAt_V r rx f.1 fx
  ·exact mem_eqAt rx fx t f.2 u' hu
def inV (x:V) (xs:List V):Bool:=xs.any fun y=>eqV y x
def rIn (K:PySem.W.Frag) (neg:Bool):R2:=fun x y H Q=>∃ p xs,y=.ref p/\(SqL K H p xs\/SqT K H p xs)/\flatV x=true/\xs.all flatV=true/\Q (.bl (if neg then !inV x xs else inV x xs)) H
theorem op_in_seq:OpR X (compareOp .In) (rIn X.K false):=by
 intro pins s σ H x y v u Q I rx ry h
 obtain ⟨p,xs,rfl,hq,fx,fs,q⟩:=h
 cases ry
 rcases hq with hq | hq
 ·obtain ⟨its,r,pl,hz⟩:=I.list hq
  refine SeqAt.in_listAt (eqU x) pl.isList (fun w hw=>mem_eqAt rx fx r fs w (by simpa using hw)) ⟨.bl _,H,I,rfl,?_⟩
  rw [show its.toArray.any (eqU x)=its.any (eqU x) by simp,any_eqU r fs]
  exact q
 ·obtain ⟨its,r,pl,hz⟩:=I.tuple hq
  refine SeqAt.in_tupleAt (eqU x) pl (fun w hw=>mem_eqAt rx fx r fs w (by simpa using hw)) ⟨.bl _,H,I,rfl,?_⟩
  rw [show its.toArray.any (eqU x)=its.any (eqU x) by simp,any_eqU r fs]
  exact q
theorem op_notIn_seq:OpR X (compareOp .NotIn) (rIn X.K true):=by
 intro pins s σ H x y v u Q I rx ry h
 obtain ⟨p,xs,rfl,hq,fx,fs,q⟩:=h
 cases ry
 rcases hq with hq | hq
 ·obtain ⟨its,r,pl,hz⟩:=I.list hq
  refine SeqAt.notIn_listAt (eqU x) pl.isList (fun w hw=>mem_eqAt rx fx r fs w (by simpa using hw)) ⟨.bl _,H,I,rfl,?_⟩
  rw [show its.toArray.any (eqU x)=its.any (eqU x) by simp,any_eqU r fs]
  exact q
 ·obtain ⟨its,r,pl,hz⟩:=I.tuple hq
  refine SeqAt.notIn_tupleAt (eqU x) pl (fun w hw=>mem_eqAt rx fx r fs w (by simpa using hw)) ⟨.bl _,H,I,rfl,?_⟩
  rw [show its.toArray.any (eqU x)=its.any (eqU x) by simp,any_eqU r fs]
  exact q
theorem call_len_seq:CallR X (.builtin "len") (fun xs H Q=>∃ p ys,xs=[.ref p]/\(SqL X.K H p ys\/SqT X.K H p ys)/\Q (.int ys.length) H):=by
 intro pins s σ H xs us Q I r h
 obtain ⟨p,ys,rfl,hq,q⟩:=h
 obtain ⟨u,rfl,rx⟩:=vals1 r
 cases rx
 have hn:=line63
 rcases hq with hq | hq
 ·obtain ⟨its,r',pl,hz⟩:=I.list hq
  have hlen:=r'.length
  exact Calls.call_len_list pl.isList (by simp only [List.size_toArray] <;> omega) ⟨.int ys.length,H,I.tok _,⟨s.toks + 1,by rw [List.size_toArray,hlen]⟩,q⟩
 ·obtain ⟨its,r',pl,hz⟩:=I.tuple hq
  have hlen:=r'.length
  exact len_tuple pl (by simp only [List.size_toArray] <;> omega) ⟨.int ys.length,H,I.tok _,⟨s.toks + 1,by rw [List.size_toArray,hlen]⟩,q⟩
theorem call_list_of:CallR X (.type "list") (fun xs H Q=>∃ p ys,xs=[.ref p]/\(SqL X.K H p ys\/SqT X.K H p ys)/\∀ l,H l=none->Q (.ref l) (upd H l (.lst ys))):=by
 intro pins s σ H xs us Q I r h
 obtain ⟨p,ys,rfl,hq,q⟩:=h
 obtain ⟨u,rfl,rx⟩:=vals1 r
 cases rx
 have fin:∀ (its:List Value),Vals ys its->ys.length<=sizeLine->∀ (h':Heap) (c':Nat),(∀ b o',s.heap.get? b=some o'->h'.get? b=some o') ->
   h'.get? s.heap.objs.size=some { cls:=.type "list", dict:=none,data:=.seq its.toArray c',slots:=#[] }->EP X pins σ Q (.ref s.heap.objs.size) { s with heap:=h' }:=fun its r' hz h' c' kp e =>
  ⟨.ref s.heap.objs.size,_,I.laid (t':=s.toks) kp (Nat.le_refl _) (show ObjOk X.prog X.w _ h' _ (.lst ys) from ⟨hz,its,c',r',e⟩),rfl,q _ (I.hok.fresh (Nat.le_refl _))⟩
 rcases hq with hq | hq
 ·obtain ⟨its,r',pl,hz⟩:=I.list hq
  have hlen:=r'.length
  obtain ⟨o,ho,hc,n,hd⟩:=pl.isList
  exact call_list_seq p (.inl rfl) ho hc hd (fun h' c' kp e=>fin its r' hz h' c' kp e) (by simp only [List.size_toArray] <;> omega)
 ·obtain ⟨its,r',pl,hz⟩:=I.tuple hq
  have hlen:=r'.length
  obtain ⟨o,ho,hc,n,hd⟩:=pl
  exact call_list_seq p (.inr rfl) ho hc hd (fun h' c' kp e=>fin its r' hz h' c' kp e) (by simp only [List.size_toArray] <;> omega)
def tyV (K:PySem.W.Frag) (T:String) (x:V) (H:Hp):Prop:=match x with
 | .str _=>T="str"
 | .int _=>T="int"
 | .ref p=>(T="list" /\ ∃ xs,SqL K H p xs)\/(T="tuple" /\ ∃ o,K.lookup p=some o/\o.cls=.type "tuple" /\ o.dict=none) \/
   (T="dict" /\ ((∃ kvs,H p=some (.dK kvs))\/∃ kvs,H p=some (.dT kvs)))\/(T="set" /\ ∃ S n,H p=some (.set S n))
 | _=>False
theorem tyV_is {pins:List (Addr × Obj)} {σ:St} {H:Hp} {s:Shared} {T:String} {x:V} {v:Value} (I:Inv X pins σ H s) (r:RelV x v) (ty:tyV X.K T x H) :
  s.TypeIs v T/\∀ a,v=.ref a->∃ ob,s.heap.get? a=some ob/\ob.dict=none:=by
 cases x with
 | str z =>
  obtain ⟨t,rfl⟩:=r
  cases (show T="str" from ty)
  exact ⟨typeIs_str s z t,fun _ e=>nomatch e⟩
 | int i =>
  obtain ⟨t,rfl⟩:=r
  cases (show T="int" from ty)
  exact ⟨typeIs_int s i t,fun _ e=>nomatch e⟩
 | ref p =>
  cases r
  rcases ty with ⟨rfl,xs,hq⟩ | ⟨rfl,o,hk,hc,hd⟩ | ⟨rfl,hk⟩ | ⟨rfl,S,n,hk⟩
  ·obtain ⟨its,_,pl,_⟩:=I.list hq
   refine ⟨pl.isList.typeIs,fun a e=>?_⟩
   cases e
   obtain ⟨o,n,e,c,hd,_⟩:=pl
   exact ⟨o,e,hd⟩
  ·refine ⟨⟨o,I.kIn p o hk,hc⟩,fun a e=>?_⟩
   cases e
   exact ⟨o,I.kIn _ o hk,hd⟩
  ·have z:∃ o,s.heap.get? p=some o/\o.ExactDict:=by
    rcases hk with ⟨kvs,hk⟩ | ⟨kvs,hk⟩
    ·obtain ⟨_,_,_,_,o,_,_,e,ex,_⟩:=I.hok p _ hk
     exact ⟨o,e,ex⟩
    ·obtain ⟨_,_,_,_,o,_,_,e,ex,_⟩:=I.hok p _ hk
     exact ⟨o,e,ex⟩
   obtain ⟨o,e,ex⟩:=z
   refine ⟨⟨o,e,ex.1⟩,fun a e2=>?_⟩
   cases e2
   exact ⟨o,e,ex.2.1⟩
  ·obtain ⟨o,_,_,_,e,ex,_⟩:=I.hok p _ hk
   refine ⟨⟨o,e,ex.1⟩,fun a e2=>?_⟩
   cases e2
   exact ⟨o,e,ex.2.1⟩
 | _=>exact False.elim ty
def tBM0 (K:PySem.W.Frag) (T:String) (r:V->List V->Hp->VK->Prop) (to:TE):TE:=fun σ H Q=>to σ H fun x H1=>tyV K T x H1/\r x [] H1 Q
def tBM (K:PySem.W.Frag) (T:String) (r:V->List V->Hp->VK->Prop) (to:TE) (t:TA):TE:=fun σ H Q=>to σ H fun x H1=>tyV K T x H1/\t σ H1 fun xs H2=>r x xs H2 Q
variable {o e:Expr} {es:List Expr} {to:TE} {t:TA} {name:Str} {apos cpos:Pos} {T id:String} {r:V->List V->Hp->VK->Prop}
theorem pe_bm0 (pa:PlainAttrs T) (slot:Slot T name id) (hty:typeOf (.builtin id)=pure (.type "method_descriptor")) (hm:MtR X id r) (ho:PE X o to)
  (hbase:attributeBase o name X.env (eval o X.env)=eval o X.env:=by rfl) (hline:(apos.endLine == cpos.line)=true:=by rfl):PE X (.Call (.Attribute o name apos) [] [] cpos) (tBM0 X.K T r to):=by
 intro pins s σ H Q I h
 refine wpAny_Call_method0_late hbase hline (thn (ho pins s σ H _ I h) fun v s1 ⟨x,H1,I1,r1,ty,q1⟩=>?_)
 obtain ⟨h1,h2⟩:=tyV_is I1 r1 ty
 exact ⟨T,id,pa,slot,hty,h1,h2,Calls.callWith_builtin rfl (PySem.evalArgs_none (hm pins s1 σ H1 x [] v [] Q I1 r1 .nil q1))⟩
theorem pe_bm (pa:PlainAttrs T) (slot:Slot T name id) (hty:typeOf (.builtin id)=pure (.type "method_descriptor")) (hm:MtR X id r) (ho:PE X o to) (ha:PA X (e :: es) t)
  (hbase:attributeBase o name X.env (eval o X.env)=eval o X.env:=by rfl)
  (hfew:((backTo cpos (starEach (e :: es) X.env)).all (fun x=>!x.1) && (backToKw cpos (keywordEach [] X.env)).all (fun x=>x.1.isSome)
   && decide ((e :: es).length + ([]:List Keyword).length + (if ([]:List Keyword).isEmpty then 0 else 1) < 30))=true:=by rfl)
  (hline:(apos.endLine == cpos.line)=true:=by rfl) (hs:starEach (e :: es) X.env=(false,eval e X.env) :: starEach es X.env:=by rfl) (hplain:(backTo cpos (starEach es X.env)).any (·.1)=false:=by rfl) :
  PE X (.Call (.Attribute o name apos) (e :: es) [] cpos) (tBM X.K T r to t):=by
 intro pins s σ H Q I h
 refine wpAny_Call_method_late hbase hfew hline rfl (thn (ho pins s σ H _ I h) fun v s1 ⟨x,H1,I1,r1,ty,q1⟩=>?_)
 obtain ⟨h1,h2⟩:=tyV_is I1 r1 ty
 refine ⟨T,id,pa,slot,hty,h1,h2,?_⟩
 have hA:=ha cpos pins s1 σ H1 _ I1 q1
 rw [hs] at hA ⊢
 refine Calls.callWith_builtin (by show (false || (backTo cpos (starEach es X.env)).any (·.1))=false; rw [hplain] <;> rfl) (Calls.evalArgs_plain ?_)
 exact thn hA fun us s2 ⟨vs,H2,I2,r2,q2⟩=>hm pins s2 σ H2 x vs v us Q I2 r1 r2 q2
/- xs.append(e),list.index on a module's tuple .. are MtR facts of 06m -/
end
end L2
namespace L2
open PySem PySem.Spec PyProof.Rows
def MtM (X:Cx) (id:String) (r:V->List V->Hp->VK->Prop):Prop :=
 ∀ (pins:List (Addr × Obj)) (s:Shared) (σ:St) (H:Hp) (x:V) (xs:List V) (v:Value) (us:List Value) (Q:VK),Inv X pins σ H s->RelV x v->Vals xs us->r x xs H Q ->
  wpAny (model X.prog X.w) X.A (call (.builtin id) (v :: us)) (EP X pins σ Q) X.xe s
theorem Vals.one:∀ {x:V} {us:List Value},Vals [x] us->∃ u,us=[u]/\RelV x u
 | _,_,.cons r .nil=>⟨_,rfl,r⟩
theorem Vals.two:∀ {x y:V} {us:List Value},Vals [x,y] us->∃ u v,us=[u,v]/\RelV x u/\RelV y v
 | _,_,_,.cons r (.cons q .nil)=>⟨_,_,rfl,r,q⟩
theorem Vals.zero:∀ {us:List Value},Vals [] us->us=[]
 | _,.nil=>rfl
theorem Vals.dropLast {xs:List V} {us:List Value} (h:Vals xs us):Vals xs.dropLast us.dropLast:=by
 induction h with
 | nil=>exact .nil
 | cons r t ih =>
  cases t with
  | nil=>exact .nil
  | cons q t'=>exact .cons r ih
theorem Vals.eraseIdx:∀ {xs:List V} {us:List Value} (i:Nat),Vals xs us->Vals (xs.eraseIdx i) (us.eraseIdx i)
 | _,_,_,.nil=>.nil
 | _,_,0,.cons _ t=>t
 | _,_,i + 1,.cons r t=>.cons r (Vals.eraseIdx i t)
theorem Vals.reverse {xs:List V} {us:List Value} (h:Vals xs us):Vals xs.reverse us.reverse:=by
 induction h with
 | nil=>exact .nil
 | cons r t ih=>rw [List.reverse_cons,List.reverse_cons]; exact Vals.append ih (.cons r .nil)
theorem erase_last {α:Type} (l:List α):l.eraseIdx (l.length - 1)=l.dropLast:=by
 induction l with
 | nil=>rfl
 | cons a r ih =>
  cases r with
  | nil=>rfl
  | cons b r =>
   have e:(a :: b :: r).length - 1=((b :: r).length - 1) + 1:=by
    have h1:(a :: b :: r).length=r.length + 2:=rfl
    have h2:(b :: r).length=r.length + 1:=rfl
    omega
   rw [e,List.eraseIdx_cons_succ,ih]
   all_goals rfl
theorem len_erase {α:Type}:∀ (l:List α) (i:Nat),(l.eraseIdx i).length<=l.length
 | [],_=>Nat.le_refl _
 | _ :: _,0=>Nat.le_succ _
 | _ :: r,i + 1=>Nat.succ_le_succ (len_erase r i)
section
variable {X:Cx} {pins:List (Addr × Obj)} {σ:St} {H:Hp} {s:Shared} {l b:Addr} {xs ys zs:List V}
theorem Inv.lset {its its':List Value} {n:Nat} {f:Array Value->Array Value} {t':Nat} (I:Inv X pins σ H s) (hH:H l=some (.lst xs))
  (e:s.heap.get? l=some { cls:=.type "list", data:=.seq its.toArray n }) (hf:f its.toArray=its'.toArray) (hv:Vals ys its') (hz:ys.length<=sizeLine) :
  Inv X pins σ (upd H l (.lst ys)) { s with heap:=s.heap.update l (Obj.mapSeq f),toks:=t' }:=by
 have q:=PySem.IsL.update e f
 rw [hf] at q
 refine I.write (x:=l) (e:=l) (by rw [hH]; exact trivial) (.inl rfl) (fun b' u hb hu=>(Heap.get?_update_other s.heap (Obj.mapSeq f) (Ne.symm hb)).trans hu) ⟨_,q⟩ ?_
 exact ⟨hz,its',_,hv,q⟩
theorem Inv.lstM (I:Inv X pins σ H s) (hH:H l=some (.lst xs)):xs.length<=sizeLine/\∃ (its:List Value) (n:Nat),Vals xs its/\xs.length=its.length/\s.heap.get? l=some { cls:=.type "list", data:=.seq its.toArray n }:=by
 obtain ⟨z,its,n,r,e⟩:=I.hok l _ hH
 exact ⟨z,its,n,r,r.length,e⟩
theorem notLongL {n:Nat} (h:n<=sizeLine):Builtin.List.listTooLong n=false:=by
 unfold Builtin.List.listTooLong
 exact decide_eq_false (by omega)
end
section
variable {X:Cx}
def rAppend:V->List V->Hp->VK->Prop:=fun x vs H Q=>∃ l xs y,x=.ref l/\vs=[y]/\H l=some (.lst xs)/\xs.length < sizeLine/\Q .non (upd H l (.lst (xs ++ [y])))
theorem mt_append:MtM X "list.append" rAppend:=by
 intro pins s σ H x vs v us Q I rx rv h
 obtain ⟨l,xs,y,rfl,rfl,hH,hz,q⟩:=h
 cases rx
 obtain ⟨u,rfl,ru⟩:=rv.one
 obtain ⟨z,its,n,r,hl,e⟩:=I.lstM hH
 refine call_meets F.slot_list_append ⟨_,e,rfl⟩ F.entry_list_append (F.args_list_append_2 _ _) (PySem.list_append l its.toArray n u (by rw [List.size_toArray]; omega)) ⟨e,?_⟩
 refine ⟨.non,_,I.lset (its':=its ++ [u]) hH e (by simp) (r.append (.cons ru .nil)) ?_,rfl,q⟩
 rw [List.length_append,List.length_singleton]
 omega
def rExtend:V->List V->Hp->VK->Prop:=fun x vs H Q=>∃ l b xs zs,x=.ref l/\vs=[.ref b]/\H l=some (.lst xs)/\H b=some (.lst zs)/\xs.length + zs.length<=sizeLine/\Q .non (upd H l (.lst (xs ++ zs)))
theorem mt_extend:MtM X "list.extend" rExtend:=by
 intro pins s σ H x vs v us Q I rx rv h
 obtain ⟨l,b,xs,zs,rfl,rfl,hH,hB,hz,q⟩:=h
 cases rx
 obtain ⟨u,rfl,ru⟩:=rv.one
 cases ru
 obtain ⟨z,its,n,r,hl,e⟩:=I.lstM hH
 obtain ⟨z2,its2,n2,r2,hl2,e2⟩:=I.lstM hB
 have hsz:its.toArray.size + its2.toArray.size<=sizeLine:=by rw [List.size_toArray,List.size_toArray]; omega
 have hlong:¬ (!its.toArray.isEmpty && Builtin.List.listTooLong (its.toArray.size + its2.toArray.size))=true:=by
  rw [notLongL hsz,Bool.and_false]
  exact Bool.false_ne_true
 refine call_meets F.slot_list_extend ⟨_,e,rfl⟩ F.entry_list_extend (F.args_list_extend_2 _ _)
  (AutoSeq1.list_extend_list_list_0 l its.toArray n b its2.toArray n2 hlong (by rw [List.size_toArray]; omega) (by omega)) ⟨e,e2,?_⟩
 refine ⟨.non,_,I.lset (its':=its ++ its2) hH e (by simp) (r.append r2) ?_,rfl,q⟩
 rw [List.length_append]
 omega
def rPop:V->List V->Hp->VK->Prop:=fun x vs H Q=>∃ l xs y,x=.ref l/\vs=[]/\H l=some (.lst xs)/\xs[xs.length - 1]?=some y/\Q y (upd H l (.lst xs.dropLast))
theorem mt_pop:MtM X "list.pop" rPop:=by
 intro pins s σ H x vs v us Q I rx rv h
 obtain ⟨l,xs,y,rfl,rfl,hH,hy,q⟩:=h
 cases rx
 have hus:=rv.zero
 subst hus
 obtain ⟨z,its,n,r,hl,e⟩:=I.lstM hH
 obtain ⟨u,hu,ru⟩:=r.get hy
 have hy':its.toArray[its.toArray.size - 1]?=some u:=by
  show its.toArray[its.length - 1]?=some u
  rw [← Array.getElem?_toList,← hl]
  exact hu
 refine call_meets F.slot_list_pop ⟨_,e,rfl⟩ F.entry_list_pop (F.args_list_pop_1 _) (MeetsSeq.list_pop_last l its.toArray n u hy' (by rw [List.size_toArray]; omega)) ⟨e,?_⟩
 refine ⟨y,_,I.lset (its':=its.dropLast) hH e ?_ r.dropLast ?_,ru,q⟩
 ·show its.toArray.eraseIdxIfInBounds (its.toArray.size - 1)=its.dropLast.toArray
  rw [List.size_toArray,List.eraseIdxIfInBounds_toArray,erase_last]
 ·rw [List.length_dropLast]
  omega
def rPopAt:V->List V->Hp->VK->Prop:=fun x vs H Q=>∃ l xs i k y,x=.ref l/\vs=[.int i]/\H l=some (.lst xs)/\-(2 ^ 63)<=i/\i < 2 ^ 63/\seqIndex? i xs.length=some k/\xs[k]?=some y/\Q y (upd H l (.lst (xs.eraseIdx k)))
theorem mt_popAt:MtM X "list.pop" rPopAt:=by
 intro pins s σ H x vs v us Q I rx rv h
 obtain ⟨l,xs,i,k,y,rfl,rfl,hH,h1,h2,hk,hy,q⟩:=h
 cases rx
 obtain ⟨u,rfl,ru⟩:=rv.one
 obtain ⟨t,rfl⟩:=ru
 obtain ⟨z,its,n,r,hl,e⟩:=I.lstM hH
 obtain ⟨w,hw,rw'⟩:=r.get hy
 refine call_meets F.slot_list_pop ⟨_,e,rfl⟩ F.entry_list_pop (F.args_list_pop_2 _ _)
  (MeetsSeq.list_pop_at l its.toArray n i t k w (fitsIndex_both h1 h2) (by rw [List.size_toArray,← hl]; exact hk) (by rw [← Array.getElem?_toList]; exact hw) (by rw [List.size_toArray]; omega)) ⟨e,?_⟩
 refine ⟨y,_,I.lset (its':=its.eraseIdx k) hH e ?_ (r.eraseIdx k) ?_,rw',q⟩
 ·show its.toArray.eraseIdxIfInBounds k=(its.eraseIdx k).toArray
  rw [List.eraseIdxIfInBounds_toArray]
 ·have:=len_erase xs k
  omega
def rReverse:V->List V->Hp->VK->Prop:=fun x vs H Q=>∃ l xs,x=.ref l/\vs=[]/\H l=some (.lst xs)/\Q .non (upd H l (.lst xs.reverse))
theorem mt_reverse:MtM X "list.reverse" rReverse:=by
 intro pins s σ H x vs v us Q I rx rv h
 obtain ⟨l,xs,rfl,rfl,hH,q⟩:=h
 cases rx
 have hus:=rv.zero
 subst hus
 obtain ⟨z,its,n,r,hl,e⟩:=I.lstM hH
 refine call_meets F.slot_list_reverse ⟨_,e,rfl⟩ F.entry_list_reverse (F.args_list_reverse_1 _) (AutoSeq1.list_reverse_list_0 l its.toArray n (by rw [List.size_toArray]; omega)) ⟨e,?_⟩
 refine ⟨.non,_,I.lset (its':=its.reverse) hH e (by simp) r.reverse ?_,rfl,q⟩
 rw [List.length_reverse]
 omega
end
section
variable {prog:Program} {w:World} {A:Around} {E:Value->Shared->Prop} {s:Shared}
end
section
variable {X:Cx}
end
end L2
namespace Att
open PySem PySem.W PySem.Calls PyProof.Rows
theorem ints_of_wellAll {P:Params} {h:Heap}:∀ (ns:List Int) (vs:List Value),WellAll P h vs (ns.map WData.int)->IntsAre vs ns:=by
 intro ns
 induction ns with
 | nil =>
  intro vs w
  rw [List.map_nil] at w
  cases w
  exact .nil
 | cons n ns ih =>
  intro vs w
  rw [List.map_cons] at w
  cases w with
  | cons a b =>
   cases a
   exact .cons _ _ (ih _ b)
theorem script_of {l:OpenLaw} {n:Nat} (hn:l.most=some n) {P:Params} {h:Heap} {args:List WData} {vals:List Value}
  (hpre:l.row.toRowW.claim.pre args=true) (hwl:WellAll P h vals args) :
  ∃ a vs ns,vals=[Value.ref a]/\args=[WData.list (ns.map WData.int)]/\h.get? a=some { cls:=.type "list", data:=.seq vs.toArray }/\IntsAre vs ns/\ns.length<=n:=by
 have hsh:WShape.hasAll [] args [.list .int]=true:=(pre_splitW hpre).1
 have hc:l.pre.holds [] { args:=args }=true:=(pre_splitW hpre).2
 obtain ⟨d,r,rfl,h1,h2⟩:=hasAllW_cons hsh
 obtain rfl:=hasAllW_nil h2
 obtain ⟨xs,rfl,h3⟩:=hasW_list h1
 obtain ⟨ns,rfl⟩:=items_int h3
 have hlen:ns.length<=n:=by
  unfold OpenLaw.pre at hc
  have h4:(WTm.not (.lt (.lit (.int (n:Int))) (.len (.arg 0)))).holds [] { args:=[.list (ns.map .int)] }=true:=by
   have h4:=(holds_andW hc).1
   rw [hn] at h4
   exact h4
  have h5:=condW_of h4 (w_not (w_lt w_lit (w_len_list (w_arg rfl))))
  rw [List.length_map] at h5
  refine Nat.le_of_not_lt fun q=>?_
  have q':(n:Int) < ((ns.length:Nat):Int):=by omega
  first
   | (rw [decide_eq_true q'] at h5; exact absurd h5 (by decide))
   | (simp at h5; omega)
 cases hwl with
 | cons w1 w2 =>
  cases w2
  cases w1 with
  | list ho hall=>exact ⟨_,_,ns,rfl,rfl,ho,ints_of_wellAll ns _ hall,hlen⟩
theorem post_true (l:OpenLaw) (args:List WData):l.row.toRowW.claim.post args (.bool true) args=true :=
 postW_of (r:=l.row.toRowW) (X:=(true == true))
  (show WShape.has [] (.bool true) .bool=true by first | rfl | decide | simp [WShape.has,WShape.arms,WShape.armsAll])
  (show (WTm.eq .res (.lit (.bool true))).value [] { args:=args,res:=some (.bool true),after:=args }=some (.bool (true == true)) from w_eq_bool (w_res rfl) w_lit) rfl
theorem attach_call {l:OpenLaw} {n:Nat} {q:Program} {loose:List Str} {XP:(Str->Option Value)->Heap->Prop} {YP:World->Heap->Prop} {d:DefRec}
  (hn:l.most=some n) (hdf:d.params.defaults=[])
  (call:∀ (w:World) (s₀ s₁:Shared) (mg mb:Str->Option Value) (fa:Addr) (o:Obj) (pm cd doc:Value) (a:Addr) (vs:List Value) (ns:List Int),
   Ground q loose [] XP w s₀ mg mb s₁.heap->YP w s₁.heap ->
   s₁.heap.get? fa=some o->o.data=.func (docDef d.name d.params d.body d.scope pm cd doc)->s₁.heap.CodeRec cd d.name->mg d.name=some (.ref fa) ->
   s₁.heap.get? a=some { cls:=.type "list", data:=.seq vs.toArray }->IntsAre vs ns->ns.length<=n->s₁.gens=#[] ->
   codeAny (model l.prog w) callerA (.call (.ref fa) ⟨[.ref a],[]⟩) (fun r s'=>r=.ok (.ret (.bool true))/\OldK s₁.heap s'.heap/\s'.os=s₁.os/\AllBare s'.gens) s₁) :
  WalkO q loose XP YP l.row.toRowW d [] (fun f vs=>PySem.call f vs):=by
 intro w s₀ s₁ mg mb G Y fa o pm cd doc dV kV ho hd hcd hD hmg hg args vals as hpre hlay hrd hwl hlo
 obtain rfl:dV=.none:=Dflts.none hD hdf
 obtain rfl:kV=.none:=Dflts.noKw hD
 obtain ⟨a,vs,ns,rfl,rfl,hobj,hints,hlen⟩:=script_of hn hpre hwl
 refine enter_call (codeAny_mono (call w s₀ s₁ mg mb fa o pm cd doc a vs ns G Y ho (fd_plain hd) hcd hmg hobj hints hlen hg) fun r s' hq=>?_)
 obtain ⟨rfl,h2,h3,h4⟩:=hq
 exact ⟨.inl ⟨.bool true,.bool true,[],rfl,fun _=>rfl,.bool true,post_true l _,fun _=>⟨List.Pairwise.nil,fun _ hm=>(nomatch hm)⟩⟩,h2,h3,h4⟩
section
variable {prog:Program} {w:World} {A:Around} {E:Value->Shared->Prop} {s:Shared} {K:Frag}
end
end Att
namespace L2
open PySem PySem.Spec PyProof.Rows
theorem vals_ints:∀ {vs:List Value} {ns:List Int},IntsAre vs ns->Vals (ns.map V.int) vs
 | _,_,.nil=>.nil
 | _,_,.cons n t h=>.cons ⟨t,rfl⟩ (vals_ints h)
def Only (H:Hp):Prop:=∀ b,H b=none\/∃ o xs,H b=some (.frz o (.lst xs))
theorem law_call {P:Program} {w:World} {K:PySem.W.Frag} {mg mb:Str->Option Value} {CX:CXT} {k:Nat} {fa a:Addr} {fd:FuncData} {x:Str} {sp:Sp} {s₁:Shared} {vs:List Value} {ns:List Int}
  (KX:K.In s₁.heap) (hns:s₁.heap.Ns mainGlobals mg) (hb:s₁.heap.Ns builtinsNs mb) (hbb:∀ x:Str,x ≠ "__name__" -> mb x=bootBuiltins x) (hlim:s₁.heap.NoLimit) (hg:s₁.gens=#[])
  (ha:s₁.heap.get? a=some { cls:=.type "list", data:=.seq vs.toArray }) (hi:IntsAre vs ns) (hl:ns.length<=sizeLine) (hr:Room k callerA)
  (F:∀ base:Heap,K.In base->base.Ns mainGlobals mg->FnOk P w K mg base CX k fa fd [x] sp) (hbind:∀ (s:Shared) (u:Value),BindsTo s fd ⟨[u],[]⟩ [(x,u)])
  (hsp:∀ H:Hp,Only H->SqL K H a (ns.map V.int)->sp [.ref a] H (fun v _=>v=.bl true) fun _ _ _=>False)
  (hCX:∀ H e s',CX [] H s₁ (fun _ _ _=>False) e s'->False) :
  codeAny (model P w) callerA (.call (.ref fa) ⟨[.ref a],[]⟩) (fun r s'=>r=.ok (.ret (.bool true))/\OldK s₁.heap s'.heap/\s'.os=s₁.os/\AllBare s'.gens) s₁:=by
 have rv:=vals_ints hi
 have lenV:=hi.length
 have core:∀ H:Hp,Only H->SqL K H a (ns.map V.int)->HOk P w H s₁.heap->(∀ b,H b≠none->b=a)->(H a≠none->K.lookup a=none) ->
   codeAny (model P w) callerA (.call (.ref fa) ⟨[.ref a],[]⟩) (fun r s'=>r=.ok (.ret (.bool true))/\OldK s₁.heap s'.heap/\s'.os=s₁.os/\AllBare s'.gens) s₁:=by
  intro H hO hS hok hA hK
  have base_of:∀ {b:Addr} {o:Obj},s₁.heap.get? b=some o->H b=none->(hidT s₁.heap H).get? b=some o:=fun e n=>hidT_get e n
  have noA:∀ {b:Addr} {o:Obj} {es:Array DictEntry} {ep:Nat},s₁.heap.get? b=some o->o.data=.dict es ep->H b=none:=fun {b o es ep} e d=>by
   cases q:H b with
   | none=>rfl
   | some u =>
    have e':b=a:=hA b (by rw [q]; simp)
    subst e'
    rw [ha] at e; cases e
    have d':Data.seq vs.toArray _=Data.dict es ep:=d
    cases d'
  have nsK:∀ {b:Addr} {m:Str->Option Value},s₁.heap.Ns b m->(hidT s₁.heap H).Ns b m:=fun {b m} ⟨o,es,ep,e,d,r⟩=>⟨o,es,ep,base_of e (noA e d),d,r⟩
  have hKb:K.In (hidT s₁.heap H):=fun b o e=>base_of (KX b o e) (by
   cases q:H b with
   | none=>rfl
   | some u =>
    have e':b=a:=hA b (by rw [q]; simp)
    subst e'
    rw [hK (by rw [q]; simp)] at e; cases e)
  have hM:Mod K mg (hidT s₁.heap H):=⟨hKb,nsK hns,⟨mb,nsK hb,hbb⟩,let ⟨mc,h1,h2⟩:=hlim; ⟨mc,nsK h1,h2⟩⟩
  have e0:Env0 P w K mg (hidT s₁.heap H) callerA [] s₁ H:=⟨rfl,hM,fun b o e=>of_hidT e,Nat.le_of_eq (hidT_size _ _),trivial,fun b hb=>absurd (show b∈([]:List Addr) from hb) (by simp),hok,.of_eq hg⟩
  refine codeAny_mono ((F _ hKb (nsK hns)).run callerA [] s₁ H ⟨[.ref a],[]⟩ [.ref a] [.ref a] _ _ hr e0 (hbind s₁ (.ref a)) (.cons rfl .nil) (hsp H hO hS)) fun r s' h=>?_
  cases r with
  | error e=>exact (hCX H e s' h).elim
  | ok fl =>
   cases fl with
   | next=>exact False.elim h
   | brk=>exact False.elim h
   | cont=>exact False.elim h
   | ret u =>
    obtain ⟨v,H',os,bare,un,hok',r',q⟩:=h
    have q':v=.bl true:=q
    subst q'
    obtain rfl:u=Value.bool true:=r'
    refine ⟨rfl,OldK.of_keep fun b o e=>?_,os,bare⟩
    cases q:H b with
    | none=>exact un.keep b o e q (by intro z; exact absurd (show b∈([]:List Addr) from z) (by simp)) (by simp)
    | some u =>
     rcases hO b with z | ⟨ob,xs,z⟩
     ·rw [q] at z; cases z
     ·have z2:=un.frzs b ob _ z
      obtain ⟨e1,_⟩:=hok b _ z
      obtain ⟨e2,_⟩:=hok' b _ z2
      rw [e] at e1; cases e1
      exact e2
 cases hk:K.lookup a with
 | some o =>
  have e:=KX a o hk
  rw [ha] at e
  cases e
  refine core (fun _=>none) (fun _=>.inl rfl) (.inr ⟨_,vs.toArray,_,hk,rfl,rfl,rfl,by rw [List.size_toArray,lenV]; exact hl,by simpa using rv⟩) (fun b u z=>by have z':(none:Option HO)=some u:=z; cases z') (fun b z=>absurd rfl z) fun z=>absurd rfl z
 | none =>
  refine core (fun b=>if b=a then some (.frz { cls:=.type "list", data:=.seq vs.toArray } (.lst (ns.map V.int))) else none) (fun b=>?_) (.inl (.inr ⟨{ cls:=.type "list", data:=.seq vs.toArray },if_pos rfl⟩)) (fun b u z=>?_) (fun b z=>?_) fun _=>hk
  ·by_cases hb:b=a
   ·exact .inr ⟨_,_,if_pos hb⟩
   ·exact .inl (if_neg hb)
  ·by_cases hb:b=a
   ·have z':=(if_pos hb).symm.trans z
    cases z'
    subst hb
    exact ⟨ha,by rw [List.length_map]; exact hl,vs,_,rv,ha⟩
   ·have z':=(if_neg hb).symm.trans z
    cases z'
  ·by_cases hb:b=a
   ·exact hb
   ·exact absurd (if_neg hb) z
end L2
namespace L2
open PySem PySem.Spec PyProof.Rows
abbrev KOf {K:PySem.W.Frag} {h:Heap} (_:K.In h):PySem.W.Frag:=K
theorem walk_of {l:PySem.W.OpenLaw} {n k:Nat} {q:Program} {loose:List Str} {XP:(Str->Option Value)->Heap->Prop} {YP:World->Heap->Prop} {d:DefRec} {K:Params->PySem.W.Frag} {CX:World->CXT} {sp:World->Sp} {x:Str}
  (hn:l.most=some n) (hn2:n<=sizeLine) (hdf:d.params.defaults=[]) (hr:Room k callerA)
  (hY:∀ (w:World) (h:Heap),YP w h->(K w.params).In h)
  (F:∀ (w:World) (mg:Str->Option Value) (fa:Addr) (h:Heap),(K w.params).In h->h.Ns mainGlobals mg->mg d.name=some (.ref fa) ->
   ∃ fd:FuncData,(∀ (s:Shared) (u:Value),BindsTo s fd ⟨[u],[]⟩ [(x,u)]) /\
    ∀ base:Heap,(K w.params).In base->base.Ns mainGlobals mg->FnOk l.prog w (K w.params) mg base (CX w) k fa fd [x] (sp w))
  (hsp:∀ (w:World) (H:Hp) (a:Addr) (ns:List Int),ns.length<=n->Only H->SqL (K w.params) H a (ns.map V.int)->sp w [.ref a] H (fun v _=>v=.bl true) fun _ _ _=>False)
  (hCX:∀ (w:World) (H:Hp) (s:Shared) (e:Value) (s':Shared),CX w [] H s (fun _ _ _=>False) e s'->False) :
  PySem.W.WalkO q loose XP YP l.row.toRowW d [] (fun f vs=>PySem.call f vs):=by
 refine Att.attach_call hn hdf fun w s₀ s₁ mg mb fa o pm cd doc a vs ns G Y ho hd hcd hmg hobj hints hlen hg=>?_
 have KX:=hY w _ Y
 obtain ⟨fd,hb,hF⟩:=F w mg fa _ KX G.T.g hmg
 exact law_call KX G.T.g G.T.b G.T.builtins G.T.nolimit hg hobj hints (Nat.le_trans hlen hn2) hr hF hb (fun H hO hS=>hsp w H a ns hlen hO hS) fun H e s'=>hCX w H s₁ e s'
theorem walk_ofK {l:PySem.W.OpenLaw} {n k:Nat} {q:Program} {loose:List Str} {XP:(Str->Option Value)->Heap->Prop} {YP:World->Heap->Prop} {d:DefRec} {K:Params->PySem.W.Frag} {CX:CXT} {sp:PySem.W.Frag->Sp} {x:Str}
  (hn:l.most=some n) (hn2:n<=sizeLine) (hdf:d.params.defaults=[]) (hr:Room k callerA)
  (hY:∀ (w:World) (h:Heap),YP w h->(K w.params).In h)
  (F:∀ (w:World) (mg:Str->Option Value) (fa:Addr) (h:Heap),(K w.params).In h->h.Ns mainGlobals mg->mg d.name=some (.ref fa) ->
   ∃ fd:FuncData,(∀ (s:Shared) (u:Value),BindsTo s fd ⟨[u],[]⟩ [(x,u)]) /\
    ∀ base:Heap,(K w.params).In base->base.Ns mainGlobals mg->FnOk l.prog w (K w.params) mg base CX k fa fd [x] (sp (K w.params)))
  (hsp:∀ (K:PySem.W.Frag) (H:Hp) (a:Addr) (ns:List Int),ns.length<=n->Only H->SqL K H a (ns.map V.int)->sp K [.ref a] H (fun v _=>v=.bl true) fun _ _ _=>False)
  (hCX:∀ (H:Hp) (s:Shared) (e:Value) (s':Shared),CX [] H s (fun _ _ _=>False) e s'->False) :
  PySem.W.WalkO q loose XP YP l.row.toRowW d [] (fun f vs=>PySem.call f vs) :=
 walk_of (K:=K) (CX:=fun _=>CX) (sp:=fun w=>sp (K w.params)) hn hn2 hdf hr hY F (fun w H a ns h1 h2 h3=>hsp (K w.params) H a ns h1 h2 h3) fun _ H s e s'=>hCX H s e s'
end L2
/- THE LAST THEOREM (shape; LID,My.* are yours):
   My.Adr: a structure of the addresses that your layer names (classes,functions); My.Txt K t: a structure (Prop) of the equations over K;
   My.txt_mk:{K} {implicit addresses ..} (e1:nsIn K mainGlobals "law"=some (some (.ref f))) (e2:K.lookup f=some ⟨oc,od,.func (fnOf "law" "law" params body scope dV kV doc pm an cdv ct),sl⟩) (e3:codeIn K cdv "law"=true) ..:∃ t,My.Txt K t
set_option maxRecDepth 100000 in
set_option maxHeartbeats 0 in
theorem PySem.Challenge.cw_LID_holds:PySem.Challenge.rw_LID.Holds:=by
 w_on; o_law; k_head; (case hw=>w_witness2)
 k_fill
 refine L2.walk_of (l:=PySem.Challenge.rw_LID) (n:=63) (k:=40) (x := "script") (CX:=fun w=>..) (sp:=fun _=>My.sp_law) rfl (by decide) rfl ⟨rfl,by decide,by decide⟩ (fun w h Y=>PySem.W.kIn_of Y) ?F ?S ?C
 case F =>
  intro w mg fa h KX G hmg
  have T:∃ t,My.Txt (L2.KOf KX) t:=by
   dsimp only [L2.KOf]                          -- K must stand as «<heap const> w.params» for k_is
   refine' My.txt_mk ?e1 ?e2 ?e3 ..
   (case e1=>PySem.W.k_is)                    -- in the order: a name -> its address -> its object -> its parts
   (case e2=>PySem.W.k_is)
   ..
  obtain ⟨t,T⟩:=T
  have e0:=hmg.symm.trans (PySem.W.mg_of KX G T.law)
  cases e0                                       -- fa is the law's own address
  exact ⟨_,fun s u=>.of_eq rfl,fun base kb nb=>My.law_fn T kb nb⟩     -- if «.of_eq rfl» comes too early: refine' ⟨_,?b,fun base kb nb=>My.law_fn T kb nb⟩; exact fun s u=>.of_eq rfl
 case S=>exact fun w H a ns hl hO hS=>..
 case C=>exact ..
(the tactic k_is has no namespace: write k_is) -/
namespace L2
open PySem PySem.Spec PyProof.Rows
def inClass (s:Stmt) (j:Nat):Stmt:=match s with
 | .ClassDef _ _ _ body _ _ _ _ _ _ _=>body.getD j (.Pass ⟨0,0,0,0⟩)
 | _=>.Pass ⟨0,0,0,0⟩
def defArgs (s:Stmt):Arguments:=match s with
 | .FunctionDef _ a _ _ _ _ _ _ _ _=>a
 | _=>{ posonlyargs:=[],args:=[],vararg:=none,kwonlyargs:=[],kw_defaults:=[],kwarg:=none,defaults:=[] }
def defBody (s:Stmt):List Stmt:=match s with
 | .FunctionDef _ _ b _ _ _ _ _ _ _=>b
 | _=>[]
def defScope (s:Stmt):Scope:=match s with
 | .FunctionDef _ _ _ _ _ _ sc _ _ _=>sc
 | _=>{ kind:=.function,names:=[],isGenerator:=false,isCoroutine:=false }
abbrev CX0:CXT:=fun _ _ _ _ _ _=>False
abbrev E0:XK:=fun _ _ _=>False
theorem pass0 {X:Cx}:Passes CX0 X E0:=fun _ _ _ _ _ _ _ h=>h.elim
structure Fun (K:PySem.W.Frag) (x qual:Str) (st:Stmt) (f:Addr) (fd:FuncData):Prop where
 ex:∃ (oc:Value) (od:Option Addr) (kV doc pm:Value) (an:Option Addr) (cdv ct:Value) (osl:Array (Option Value)),
  fd=PySem.W.fnOf x qual (defArgs st) (defBody st) (defScope st) .none kV doc pm an cdv ct/\K.lookup f=some ⟨oc,od,.func fd,osl⟩/\PySem.W.codeIn K cdv qual=true
 kp:PySem.W.keepIn K (.ref f)=true
section
variable {P:Program} {w:World} {K:PySem.W.Frag} {mg:Str->Option Value} {base:Heap}
theorem Fun.ok {x qual:Str} {st:Stmt} {f:Addr} {fd:FuncData} {N ps:List Str} {k:Nat} {sp:Sp} (F:Fun K x qual st f fd) (S:FnScope N ps (defScope st)) (len:∀ vs H Q E,sp vs H Q E->vs.length=ps.length)
  (hbody:∀ (cdv:Value) (A:Around) (outer:List Env) (s:Shared) (H:Hp) (vs:List V) (Q:VK) (E:XK),Room k (A.deeper (envOfC qual (defScope st) s.heap.objs.size f cdv))->sp vs H Q E ->
   ∃ t,PSs (cxOf CX0 P w K mg base N qual (defScope st) f cdv A outer s H E).nox (defBody st) t/\t { nx:=fun _ H'=>Q .non H',rt:=Q } (start N vs) H):FnOk P w K mg base CX0 (k + 1) f fd ps sp:=by
 obtain ⟨oc,od,kV,doc,pm,an,cdv,ct,osl,rfl,lk,hcd⟩:=F.ex
 refine fn_of lk hcd S len fun A outer s H vs Q E hr hsp=>?_
 obtain ⟨t,h,q⟩:=hbody cdv A outer s H vs Q E hr hsp
 exact ⟨t,h.nox,q⟩
theorem Fun.binds {x qual:Str} {st:Stmt} {f:Addr} {fd:FuncData} {ps:List Str} (F:Fun K x qual st f fd)
  (h:∀ (kV doc pm:Value) (an:Option Addr) (cdv ct:Value) (us:List Value),us.length=ps.length->bindArgs (PySem.W.fnOf x qual (defArgs st) (defBody st) (defScope st) .none kV doc pm an cdv ct) ⟨us,[]⟩=pure (ps.zip us)):Binds K fd ps []:=by
 obtain ⟨oc,od,kV,doc,pm,an,cdv,ct,osl,rfl,lk,hcd⟩:=F.ex
 exact .all (h kV doc pm an cdv ct)
theorem fun_mk {x qual:Str} {st:Stmt} {f:Addr} {oc:Value} {od an:Option Addr} {osl:Array (Option Value)} {kV doc pm cdv ct:Value} (l:K.lookup f=some ⟨oc,od,.func (PySem.W.fnOf x qual (defArgs st) (defBody st) (defScope st) .none kV doc pm an cdv ct),osl⟩)
  (c:PySem.W.codeIn K cdv qual=true) (k:PySem.W.keepIn K (.ref f)=true):Fun K x qual st f (PySem.W.fnOf x qual (defArgs st) (defBody st) (defScope st) .none kV doc pm an cdv ct):=⟨⟨oc,od,kV,doc,pm,an,cdv,ct,osl,rfl,l,c⟩,k⟩
end
theorem hu_of {A:Around} {k:Nat} (hr:Room k A):A.units + 1 < cLine:=Nat.lt_of_le_of_lt (Nat.add_le_add_left (by decide:1<=64) _) hr.units
theorem small1000 {n:Nat} (h:n<=1000):n < sizeLine:=Nat.lt_of_le_of_lt h (by decide)
section
variable {X:Cx}
theorem pv (i:Nat) {x:Str} {pos:Pos} (hN:X.N[i]?=some x:=by rfl) (hv:Vis X.env.scope x:=by first | exact Or.inl rfl | exact Or.inr (Or.inl rfl) | exact Or.inr (Or.inr rfl)) (hd:(x == ("__debug__" : Str))=false:=by decide)
  (hcd:(x == ("__classdict__" : Str))=false:=by decide):PE X (.Name x pos) (tVar i):=pe_var hN hv hd hcd
end
theorem iteF {A B:Prop} (h:B):if false=true then A else B:=by
 rw [if_neg Bool.false_ne_true]
 exact h
theorem iteT {A B:Prop} (h:A):if true=true then A else B:=by
 rw [if_pos rfl]
 exact h
theorem ite2 {c A B:Prop} [Decidable c] (h1:c->A) (h2:¬ c->B):if c then A else B:=by
 by_cases h:c
 ·rw [if_pos h]
  exact h1 h
 ·rw [if_neg h]
  exact h2 h
def Same (H H':Hp):Prop:=∀ b o,H b=some o->H' b=some o
theorem Same.refl (H:Hp):Same H H:=fun _ _ h=>h
theorem Same.trans {H H1 H2:Hp} (a:Same H H1) (b:Same H1 H2):Same H H2:=fun c o h=>b c o (a c o h)
theorem Same.free {H H':Hp} (e:Same H H') {l:Addr} (h:H' l=Option.none):H l=Option.none:=by
 cases q:H l with
 | none=>rfl
 | some o =>
  rw [e l o q] at h
  cases h
theorem Same.seq {K:PySem.W.Frag} {H H':Hp} {a:Addr} {xs:List V} (e:Same H H') (h:SqL K H a xs):SqL K H' a xs:=by
 rcases h with (h | ⟨o,h⟩) | h
 ·exact .inl (.inl (e _ _ h))
 ·exact .inl (.inr ⟨o,e _ _ h⟩)
 ·exact .inr h
end L2
set_option maxHeartbeats 8000000
namespace L2
open PySem PySem.Spec PyProof.Rows
section
variable {X:Cx} {pins:List (Addr × Obj)} {σ:St} {H:Hp} {s:Shared}
theorem HOk.track {P:Program} {w:World} {H:Hp} {h:Heap} {a:Addr} {o:HO} (x:HOk P w H h) (hn:H a=none) (new:ObjOk P w (upd H a o) h a o):HOk P w (upd H a o) h:=fun b u e=>by
 by_cases hb:b=a
 ·subst hb
  rw [upd_same] at e
  cases e
  exact new
 ·rw [upd_ne hb] at e
  refine (x b u e).stay (fun _ _ _ q=>q) (fun c q=>?_) fun c xs q=>?_
  ·rw [upd_ne (ne_of_none q hn)]; exact q
  ·rw [upd_ne (ne_of_none q hn)]; exact q
theorem Inv.track {a:Addr} {o:HO} (I:Inv X pins σ H s) (hn:H a=none) (hL:a≠X.env.locals) (h0:X.s₀.heap.objs.size<=a) (hc:∀ x c,X.env.cells.lookup x=some c->c≠a) (hp:∀ p∈X.pn ++ pins,p.1≠a)
  (new:ObjOk X.prog X.w (upd H a o) s.heap a o):Inv X pins σ (upd H a o) s:=by
 have old:∀ b ob,X.s₀.heap.get? b=some ob->b≠a:=fun b ob e=>Nat.ne_of_lt (Nat.lt_of_lt_of_le (Heap.lt_size e) h0)
 refine ⟨I.ok,I.os,I.bare,⟨fun b ob e n=>I.base.keep b ob e n,fun b ob e n=>I.base.slot b ob e n,fun b ob e n hx=>?_,fun b ob e hx=>I.base.there b ob e hx,fun b xs e=>?_,fun b ob u e=>?_,fun b ps e=>?_⟩,I.loc,I.cell,?_,fun x c e=>?_,fun p hm=>?_,I.hok.track hn new,I.len⟩
 ·rw [upd_ne (old b ob e)]; exact I.base.free b ob e n hx
 ·have q:=I.base.tups b xs e
  rw [upd_ne (ne_of_none q hn)]; exact q
 ·have q:=I.base.frzs b ob u e
  rw [upd_ne (ne_of_none q hn)]; exact q
 ·obtain ⟨mo,q⟩:=I.base.tbls b ps e
  exact ⟨mo,by rw [upd_ne (ne_of_none q hn)]; exact q⟩
 ·rw [upd_ne (Ne.symm hL)]; exact I.free
 ·rw [upd_ne (hc x c e)]; exact I.freeC x c e
 ·obtain ⟨z1,z2,z3⟩:=I.pin p hm
  exact ⟨z1,by rw [upd_ne (hp p hm)]; exact z2,z3⟩
end
def clo:List (Str × NameKind)->List (Str × Addr)->List (Str × Addr)->List (Str × Addr)
 | [],_,acc=>acc
 | (n,k) :: r,cells,acc=>clo r cells (if k == .free then (match cells.lookup n with | some c=>(n,c) :: acc | none=>acc) else acc)
theorem clo_sound (cells:List (Str × Addr)):∀ (names:List (Str × NameKind)) (acc:List (Str × Addr)),(∀ y c,acc.lookup y=some c->cells.lookup y=some c)->∀ y c,(clo names cells acc).lookup y=some c->cells.lookup y=some c
 | [],acc,h=>h
 | (n,k) :: r,acc,h=>by
  refine clo_sound cells r _ fun y c e=>?_
  cases hk:k == NameKind.free with
  | false=>rw [hk] at e; exact h y c e
  | true =>
   rw [hk,if_pos rfl] at e
   cases hc:cells.lookup n with
   | none=>rw [hc] at e; exact h y c e
   | some a =>
    rw [hc] at e
    have e':(((n,a) :: acc).lookup y)=some c:=e
    rw [List.lookup_cons] at e'
    cases hy:y == n with
    | true =>
     rw [hy] at e'
     have z:y=n:=by simpa using hy
     subst z
     rw [hc]; exact e'
    | false=>rw [hy] at e'; exact h y c e'
theorem clo_keeps (cells:List (Str × Addr)):∀ (names:List (Str × NameKind)) (acc:List (Str × Addr)) (y:Str),(acc.lookup y).isSome=true->((clo names cells acc).lookup y).isSome=true
 | [],_,_,h=>h
 | (n,k) :: r,acc,y,h=>by
  refine clo_keeps cells r _ y ?_
  cases hk:k == NameKind.free with
  | false=>exact h
  | true =>
   rw [if_pos rfl]
   cases hc:cells.lookup n with
   | none=>exact h
   | some a =>
    show (((n,a) :: acc).lookup y).isSome=true
    rw [List.lookup_cons]
    cases hy:y == n with
    | true=>rfl
    | false=>exact h
theorem clo_has (cells:List (Str × Addr)):∀ (names:List (Str × NameKind)) (acc:List (Str × Addr)) (y:Str),(y,NameKind.free)∈names->(cells.lookup y).isSome=true->((clo names cells acc).lookup y).isSome=true
 | [],_,_,h,_=>by cases h
 | (n,k) :: r,acc,y,h,hs=>by
  rcases List.mem_cons.mp h with e | h
  ·cases e
   refine clo_keeps cells r _ n ?_
   show (((match cells.lookup n with | some c=>(n,c) :: acc | none=>acc)).lookup n).isSome=true
   cases hc:cells.lookup n with
   | none=>rw [hc] at hs; cases hs
   | some a =>
    show (((n,a) :: acc).lookup n).isSome=true
    rw [List.lookup_cons]
    simp
  ·exact clo_has cells r _ y h hs
theorem clo_run {env:Env}:∀ (names:List (Str × NameKind)) (acc:List (Str × Addr)),(∀ y,(y,NameKind.free)∈names->(env.cells.lookup y).isSome=true) ->
  (forIn names acc fun (x:Str × NameKind) (cs:List (Str × Addr))=>if (x.2 == NameKind.free)=true then do let c ← cellOf env x.1; pure (ForInStep.yield ((x.1,c) :: cs)) else pure (ForInStep.yield cs):Sem (List (Str × Addr)))=pure (clo names env.cells acc)
 | [],acc,_=>rfl
 | (n,k) :: r,acc,h=>by
  have ih:=fun acc'=>clo_run (env:=env) r acc' fun y hy=>h y (List.mem_cons_of_mem _ hy)
  rw [List.forIn_cons]
  cases hk:k == NameKind.free with
  | false =>
   show ((pure (ForInStep.yield acc):Sem _) >>= _)=_
   rw [pure_bind]
   show (forIn r acc _:Sem _)=_
   rw [ih acc]
   show pure (clo r env.cells acc)=pure (clo r env.cells (if (k == NameKind.free)=true then (match env.cells.lookup n with | some c=>(n,c) :: acc | none=>acc) else acc))
   rw [hk]; rfl
  | true =>
   have hkf:k=NameKind.free:=by simpa using hk
   subst hkf
   have hs:=h n List.mem_cons_self
   cases hc:env.cells.lookup n with
   | none=>rw [hc] at hs; cases hs
   | some a =>
    have hcell:cellOf env n=pure a:=by unfold cellOf; rw [hc]
    show ((cellOf env n >>= fun c=>(pure (ForInStep.yield ((n,c) :: acc)):Sem _)) >>= _)=_
    rw [hcell,pure_bind,pure_bind]
    show (forIn r ((n,a) :: acc) _:Sem _)=_
    rw [ih]
    show pure (clo r env.cells ((n,a) :: acc))=pure (clo r env.cells (match env.cells.lookup n with | some c=>(n,c) :: acc | none=>acc))
    rw [hc]
theorem closure_eq {sc:Scope} {env:Env} (h:∀ y,(y,NameKind.free)∈sc.names->(env.cells.lookup y).isSome=true):closureFor sc env=pure (clo sc.names env.cells []):=by
 unfold closureFor
 have:=clo_run (env:=env) sc.names [] h
 simpa using this
structure LcOk (osc sc:Scope) (x:Str) (fv:List Str):Prop where
 kind:sc.kind=.function
 nocell:∀ y∈sc.names,y.2≠.cell
 names:∀ y∈sc.names,y.2=.local->sc.names.lookup y.1=some .local
 hx:sc.names.lookup x=some .local
 fr:∀ y∈sc.names,y.2=.free->osc.names.lookup y.1=some .cell\/osc.names.lookup y.1=some .free
 fvs:∀ y∈fv,sc.names.lookup y=some .free/\(osc.names.lookup y=some .cell\/osc.names.lookup y=some .free)
 nd:(x :: fv).Nodup
abbrev Cx.blk (X:Cx) (sc:Scope) (cl:List (Str × Addr)) (C:Addr) (N:List Str) (s:Shared) (H:Hp) (fp:List Addr):Cx :=
 {X with N:=N,s₀:=s,H₀:=H,env:=compEnvC sc cl C X.env,outer:=X.stack,ex:=fp,fn:=fun _=>false,pn:=[],xe:=fun _ _=>False }
abbrev lcN (X:Cx) (x:Str) (js:List Nat):List Str:=x :: js.map fun j=>X.N.getD j ""
abbrev lcS (σ:St) (js:List Nat) (x:Option V):St:=x :: js.map fun j=>σ.getD j none
theorem relabel_free {env:Env}:∀ {names:List (Str × NameKind)} {y:Str} {k:NameKind},(names.map fun (n,k)=>if (k == NameKind.free && env.scope.kind == .function && env.kindOf n == some .cell) then (n,NameKind.cell) else (n,k)).lookup y=some k->(k=.cell\/k=.free)->(∀ z∈names,z.2≠.cell)->(y,NameKind.free)∈names
 | [],_,_,h,_,_=>by simp at h
 | (n,k') :: r,y,k,h,hk,hn=>by
  by_cases hc:(k' == NameKind.free && env.scope.kind == .function && env.kindOf n == some .cell)=true
  ·have hk':k'=NameKind.free:=by
    rw [Bool.and_eq_true,Bool.and_eq_true] at hc
    simpa using hc.1.1
   subst hk'
   rw [List.map_cons] at h
   cases hy:y == n with
   | true =>
    have z:y=n:=by simpa using hy
    subst z
    exact List.mem_cons_self
   | false =>
    have h':List.lookup y ((if (NameKind.free == NameKind.free && env.scope.kind == .function && env.kindOf n == some .cell)=true then (n,NameKind.cell) else (n,NameKind.free)) :: (r.map fun (n,k)=>if (k == NameKind.free && env.scope.kind == .function && env.kindOf n == some .cell) then (n,NameKind.cell) else (n,k)))=some k:=h
    rw [if_pos hc,List.lookup_cons,hy] at h'
    exact List.mem_cons_of_mem _ (relabel_free h' hk fun z hz=>hn z (List.mem_cons_of_mem _ hz))
  ·have h':List.lookup y ((if (k' == NameKind.free && env.scope.kind == .function && env.kindOf n == some .cell)=true then (n,NameKind.cell) else (n,k')) :: (r.map fun (n,k)=>if (k == NameKind.free && env.scope.kind == .function && env.kindOf n == some .cell) then (n,NameKind.cell) else (n,k)))=some k:=h
   rw [if_neg hc,List.lookup_cons] at h'
   cases hy:y == n with
   | true =>
    rw [hy] at h'
    cases h'
    have z:y=n:=by simpa using hy
    subst z
    rcases hk with e | e
    ·exact absurd e (hn _ List.mem_cons_self)
    ·subst e; exact List.mem_cons_self
   | false =>
    rw [hy] at h'
    exact List.mem_cons_of_mem _ (relabel_free h' hk fun z hz=>hn z (List.mem_cons_of_mem _ hz))
theorem relabel_fv {env:Env}:∀ {names:List (Str × NameKind)} {y:Str},names.lookup y=some .free->(names.map fun (n,k)=>if (k == NameKind.free && env.scope.kind == .function && env.kindOf n == some .cell) then (n,NameKind.cell) else (n,k)).lookup y=some .cell\/(names.map fun (n,k)=>if (k == NameKind.free && env.scope.kind == .function && env.kindOf n == some .cell) then (n,NameKind.cell) else (n,k)).lookup y=some .free
 | [],_,h=>by simp at h
 | (n,k') :: r,y,h=>by
  rw [List.lookup_cons] at h
  rw [List.map_cons]
  cases hy:y == n with
  | true =>
   rw [hy] at h
   cases h
   by_cases hc:(NameKind.free == NameKind.free && env.scope.kind == .function && env.kindOf n == some .cell)=true
   ·refine .inl ?_
    show List.lookup y ((if (NameKind.free == NameKind.free && env.scope.kind == .function && env.kindOf n == some .cell)=true then (n,NameKind.cell) else (n,NameKind.free)) :: _)=_
    rw [if_pos hc,List.lookup_cons,hy]
   ·refine .inr ?_
    show List.lookup y ((if (NameKind.free == NameKind.free && env.scope.kind == .function && env.kindOf n == some .cell)=true then (n,NameKind.cell) else (n,NameKind.free)) :: _)=_
    rw [if_neg hc,List.lookup_cons,hy]
  | false =>
   rw [hy] at h
   have ih:=relabel_fv (env:=env) h
   by_cases hc:(k' == NameKind.free && env.scope.kind == .function && env.kindOf n == some .cell)=true
   ·show List.lookup y ((if (k' == NameKind.free && env.scope.kind == .function && env.kindOf n == some .cell)=true then (n,NameKind.cell) else (n,k')) :: _)=_\/List.lookup y ((if (k' == NameKind.free && env.scope.kind == .function && env.kindOf n == some .cell)=true then (n,NameKind.cell) else (n,k')) :: _)=_
    rw [if_pos hc,List.lookup_cons,hy]
    exact ih
   ·show List.lookup y ((if (k' == NameKind.free && env.scope.kind == .function && env.kindOf n == some .cell)=true then (n,NameKind.cell) else (n,k')) :: _)=_\/List.lookup y ((if (k' == NameKind.free && env.scope.kind == .function && env.kindOf n == some .cell)=true then (n,NameKind.cell) else (n,k')) :: _)=_
    rw [if_neg hc,List.lookup_cons,hy]
    exact ih
section
variable {X:Cx} {sc osc:Scope} {x:Str} {js:List Nat}
end
end L2
namespace L2
open PySem PySem.Spec PyProof.Rows
abbrev lstObj (its:List Value) (n:Nat):Obj:={ cls:=.type "list", data:=.seq its.toArray n }
abbrev lcTests (ifs:List Expr) (env:Env):Sem Bool :=
 forIn ifs true fun c r=>if r=true then do let ok ← isTrue c env (eval c env); pure (ForInStep.yield ok) else pure (ForInStep.yield r)
def tLC (wi:TI) (js:List Nat) (tt:TT) (te:TE):TE:=fun σ H Q=>wi σ H fun J H1=>∃ W:Nat->Nat->List V->Hp->Prop,(∃ m,W 0 m [] H1)/\∀ i m ys H,W i m ys H ->
 (J.stop i H/\∀ p,H p=none->Q (.ref p) (upd H p (.lst ys))) \/
 (J.go i H/\ys.length < sizeLine/\∀ x H',J.yld i H x H'->tt (lcS σ js (some x)) H' fun b H2 =>
  if b=true then te (lcS σ js (some x)) H2 fun v H3=>∃ m',m' < m/\W (i + 1) m' (ys ++ [v]) H3 else ∃ m',m' < m/\W (i + 1) m' ys H2)
section
variable {X:Cx} {sc osc:Scope} {x:Str} {js:List Nat} {elt iter:Expr} {px pos:Pos} {ifs:List Expr} {wi:TI} {tt:TT} {te:TE}
theorem lc_loop {P:Program} {w:World} {A:Around} {R:Result->Shared->Prop} {st:Shared} {tg it acc} {cenv:Env} (Iv:Nat->Shared->Prop)
  (step:∀ k st,Iv k st->wpAny (model P w) A (pyNext it) (fun got s1=>match got with
   | none=>R (.ok .next) s1
   | some v=>wpAny (model P w) A (letOwnedTupleGo tg it v) (fun _ s2=>wpAny (model P w) A (assign tg cenv v) (fun _ s3 =>
     wpAny (model P w) A (lcTests ifs cenv) (fun ok s4=>if ok=true then wpAny (model P w) A (eval elt cenv) (fun y s5 =>
       wpAny (model P w) A (call (.builtin "list.append") [acc,y]) (fun _ s6=>∃ k',k' < k/\Iv k' s6) (notedBy (model P w) A cenv fun e z=>R (.error e) z) s5) (notedBy (model P w) A cenv fun e z=>R (.error e) z) s4
      else ∃ k',k' < k/\Iv k' s4) (notedBy (model P w) A cenv fun e z=>R (.error e) z) s3) (notedBy (model P w) A cenv fun e z=>R (.error e) z) s2) (notedBy (model P w) A cenv fun e z=>R (.error e) z) s1)
   (notedBy (model P w) A cenv fun e z=>R (.error e) z) st) (k0:Nat) (h0:Iv k0 st) :
  codeAny (model P w) A (.compLoop (.ListComp elt [⟨tg,iter,ifs,0⟩] sc pos) 0 it acc cenv) R st:=by
 refine codeAny_loop rfl Iv (fun k st hk=>?_) k0 h0
 show wpAny _ A ((compTurn (.ListComp elt [⟨tg,iter,ifs,0⟩] sc pos) 0 it acc cenv).onRaise (fun e=>do noteFrame e cenv; theTreesLotGoes e)) _ _ st
 refine wpAny_noted ?_
 rw [compTurn_list]
 refine wpAny_bind (wpAny_standAt (wpAny_bind (wpAny_mono (step k st hk) (fun got s1 h1=>?_) fun _ _ z=>z)))
 cases got with
 | none=>exact wpAny_pure h1
 | some v =>
  refine wpAny_bind (wpAny_mono h1 (fun _ s2 h2=>?_) fun _ _ z=>z)
  refine wpAny_bind (wpAny_mono h2 (fun _ s3 h3=>wpAny_bind (wpAny_mono h3 (fun ok s4 h4=>?_) fun _ _ z=>z)) fun _ _ z=>z)
  cases ok with
  | false=>exact wpAny_pure ⟨rfl,h4⟩
  | true=>exact wpAny_bind (wpAny_bind (wpAny_mono h4 (fun y s5 h5=>wpAny_bind (wpAny_mono h5 (fun _ s6 h6=>wpAny_pure (wpAny_pure ⟨rfl,h6⟩)) fun _ _ z=>z)) fun _ _ z=>z))
structure Own (X:Cx) (pins:List (Addr × Obj)) (H:Hp) (a:Addr):Prop where
 free:H a=none
 loc:a≠X.env.locals
 new:X.s₀.heap.objs.size<=a
 cel:∀ x c,X.env.cells.lookup x=some c->c≠a
 pin:∀ p∈X.pn ++ pins,p.1≠a
 fs:a ∉ X.fs
end
structure LcOkG (osc sc:Scope) (xs:List Str) (fv:List Str):Prop where
 kind:sc.kind=.function
 nocell:∀ y∈sc.names,y.2≠.cell
 names:∀ y∈sc.names,y.2=.local->sc.names.lookup y.1=some .local
 fr:∀ y∈sc.names,y.2=.free->osc.names.lookup y.1=some .cell\/osc.names.lookup y.1=some .free
 fvs:∀ y∈fv,sc.names.lookup y=some .free/\(osc.names.lookup y=some .cell\/osc.names.lookup y=some .free)
abbrev lcG (X:Cx) (xs:List Str) (js:List Nat):List Str:=xs ++ js.map fun j=>X.N.getD j ""
abbrev lcT (σ:St) (js:List Nat) (os:List (Option V)):St:=os ++ js.map fun j=>σ.getD j none
def tLCG (wi:TI) (xs:List Str) (js:List Nat) (g:TG) (tt:TT) (te:TE):TE:=fun σ H Q=>wi σ H fun J H1=>∃ W:Nat->Nat->List V->Hp->Prop,(∃ m,W 0 m [] H1)/\∀ i m ys H,W i m ys H ->
 (J.stop i H/\∀ p,H p=none->Q (.ref p) (upd H p (.lst ys))) \/
 (J.go i H/\ys.length < sizeLine/\∀ x H',J.yld i H x H'->∀ o0:List (Option V),o0.length=xs.length->g x (lcT σ js o0) H' fun σ2 H1=>∃ o1,σ2=lcT σ js o1/\o1.length=xs.length/\tt σ2 H1 fun b H2 =>
  if b=true then te σ2 H2 fun v H3=>∃ m',m' < m/\W (i + 1) m' (ys ++ [v]) H3 else ∃ m',m' < m/\W (i + 1) m' ys H2)
section
variable {X:Cx} {sc osc:Scope} {xs:List Str} {js:List Nat}
theorem blk_okG {pins:List (Addr × Obj)} {σ:St} {H:Hp} {s:Shared} {fp:List Addr} {C:Addr} (I:Inv X pins σ H s) (hosc:X.env.scope=osc) (L:LcOkG osc sc xs (js.map fun j=>X.N.getD j ""))
  (f2:∀ b∈fp,FpOk X pins H b) (lt:∀ b∈fp,b < s.heap.objs.size) (hC:s.heap.objs.size<=C):(X.blk sc (clo sc.names X.env.cells []) C (lcG X xs js) s H fp).Ok where
 mod:=I.ok.mod
 kind:=L.kind
 glob:=I.ok.glob
 blt:=I.ok.blt
 above:=hC
 inj:=fun y z c h1 h2=>I.ok.inj y z c (clo_sound _ _ [] (fun _ _ e=>by simp at e) y c h1) (clo_sound _ _ [] (fun _ _ e=>by simp at e) z c h2)
 has:=fun y hy=>by
  have hy':(relabel sc X.env).names.lookup y=some .cell\/(relabel sc X.env).names.lookup y=some .free:=hy
  have hm:(y,NameKind.free)∈sc.names:=by
   rcases hy' with e | e
   ·exact relabel_free e (.inl rfl) L.nocell
   ·exact relabel_free e (.inr rfl) L.nocell
  have ho:X.env.kindOf y=some .cell\/X.env.kindOf y=some .free:=by
   show X.env.scope.names.lookup y=_\/X.env.scope.names.lookup y=_
   rw [hosc]
   exact L.fr _ hm rfl
  obtain ⟨c,e⟩:=I.ok.has y ho
  exact Option.isSome_iff_exists.mp (clo_has _ _ [] y hm (by rw [e]; rfl))
 cab:=fun y c h=>by cases h
 hd:=I.ok.hd
 frames:=I.ok.frames
 stk:=.inl rfl
 exf:=fun b hb=>⟨Nat.ne_of_lt (Nat.lt_of_lt_of_le (lt b hb) hC),fun y c e=>(f2 b hb).2.2.2.2.1 y c (clo_sound _ _ [] (fun _ _ e=>by simp at e) y c e)⟩
 bs:=I.bs
 bsz:=Nat.le_trans I.ok.bsz I.sz
 noex:=fun b o e hb=>by
  rcases (f2 b hb).2.2.2.1 with z | z
  ·exact I.ok.noex b o e z
  ·exact absurd (Nat.lt_of_lt_of_le (Heap.lt_size (I.ok.bs b o e).1) z) (Nat.lt_irrefl _)
 exfs:=fun b hb hm=>by
  rcases List.mem_cons.mp (I.stkSub b hm) with z | z
  ·exact (f2 b hb).2.1 z
  ·exact (f2 b hb).2.2.1 z
 funs:=I.stack
 frf:=I.stkFree
end
section
variable {X:Cx} {sc osc:Scope} {xs:List Str} {js:List Nat} {tg:Expr} {g:TG} {elt iter:Expr} {px pos:Pos} {ifs:List Expr} {wi:TI} {tt:TT} {te:TE}
theorem lc_turnG {cl:List (Str × Addr)} {C D:Addr} {s₂:Shared} {H₂:Hp} {fp:List Addr} {pl:List (Addr × Obj)} {σ0:St} {H:Hp} {s:Shared} {u:Value} {v:V} {its:List Value} {n:Nat} {o0:List (Option V)} {E:Value->Shared->Prop}
  {Ny:V->Hp->Prop} {Nn:Hp->Prop}
  (hg:PG (X.blk sc cl C (lcG X xs js) s₂ H₂ fp) tg g)
  (I:Inv (X.blk sc cl C (lcG X xs js) s₂ H₂ fp) ((D,lstObj its n) :: pl) (lcT σ0 js o0) H s) (ru:RelV v u)
  (ht:∀ (pins:List (Addr × Obj)) (s':Shared) (σ':St) (H':Hp) (Q:Bool->Hp->Prop),Inv (X.blk sc cl C (lcG X xs js) s₂ H₂ fp) pins σ' H' s'->tt σ' H' Q ->
   wpAny (model X.prog X.w) X.A (lcTests ifs (compEnvC sc cl C X.env)) (TP (X.blk sc cl C (lcG X xs js) s₂ H₂ fp) pins σ' Q) (fun _ _=>False) s')
  (he:PE (X.blk sc cl C (lcG X xs js) s₂ H₂ fp) elt te)
  (hlen:its.length < sizeLine) (hD0:s₂.heap.objs.size<=D) (hDC:D≠C) (hDc:∀ y c,cl.lookup y=some c->c≠D) (hDp:∀ p∈pl,p.1≠D)
  (h:g v (lcT σ0 js o0) H fun σ2 H1=>∃ o1,σ2=lcT σ0 js o1/\o1.length=xs.length/\tt σ2 H1 fun b H2=>if b=true then te σ2 H2 Ny else Nn H2) :
  wpAny (model X.prog X.w) X.A (assign tg (compEnvC sc cl C X.env) u) (fun _ s2 =>
   wpAny (model X.prog X.w) X.A (lcTests ifs (compEnvC sc cl C X.env)) (fun ok s3 =>
    if ok=true then wpAny (model X.prog X.w) X.A (eval elt (compEnvC sc cl C X.env)) (fun y s4 =>
     wpAny (model X.prog X.w) X.A (call (.builtin "list.append") [.ref D,y]) (fun _ s5=>∃ z y' H5 o1,o1.length=xs.length/\Ny z H5/\RelV z y'/\Inv (X.blk sc cl C (lcG X xs js) s₂ H₂ fp) ((D,lstObj (its ++ [y']) (n + 1)) :: pl) (lcT σ0 js o1) H5 s5) E s4) E s3
    else ∃ H5 o1,o1.length=xs.length/\Nn H5/\Inv (X.blk sc cl C (lcG X xs js) s₂ H₂ fp) ((D,lstObj its n) :: pl) (lcT σ0 js o1) H5 s3) E s2) E s:=by
 refine wpAny_mono (hg _ s _ H v u _ I ru h) (fun _ s2 ⟨σ6,H6,I6,o1,e1,l1,h6⟩=>?_) fun _ _ z=>False.elim z
 subst e1
 refine wpAny_mono (ht _ s2 _ _ _ I6 h6) (fun ok s3 ⟨H7,I7,q7⟩=>?_) fun _ _ z=>False.elim z
 cases ok with
 | false =>
  rw [if_neg Bool.false_ne_true] at q7 ⊢
  exact ⟨H7,o1,l1,q7,I7⟩
 | true =>
  rw [if_pos rfl] at q7 ⊢
  refine wpAny_mono (he _ s3 _ H7 _ I7 q7) (fun y s4 ⟨z,H8,I8,r8,q8⟩=>?_) fun _ _ z=>False.elim z
  obtain ⟨p1,p2,p3,p4,p5⟩:=I8.pin (D,lstObj its n) (List.mem_append_right _ List.mem_cons_self)
  have p1':s4.heap.get? D=some { cls:=.type "list", data:=.seq its.toArray n }:=p1
  refine call_meets F.slot_list_append ⟨_,p1',rfl⟩ F.entry_list_append (F.args_list_append_2 _ _) (PySem.list_append D its.toArray n y (by rw [List.size_toArray]; omega)) ⟨p1',?_⟩
  have q:=PySem.IsL.update p1' (fun a=>a.push y)
  have sz:((its.toArray.push y).size == its.toArray.size)=false:=by simp
  have e3:(s4.heap.update D (Obj.mapSeq fun a=>a.push y)).get? D=some (lstObj (its ++ [y]) (n + 1)):=by
   have q':(s4.heap.update D (Obj.mapSeq fun a=>a.push y)).get? D=some { cls:=.type "list", data:=.seq (its.toArray.push y) (if ((its.toArray.push y).size == its.toArray.size)=true then n else n + 1) }:=q
   rw [q',sz,if_neg Bool.false_ne_true]
   simp
  have I9:Inv (X.blk sc cl C (lcG X xs js) s₂ H₂ fp) pl (lcT σ0 js o1) H8 s4:=I8.pins_of fun p hp=>I8.pin p (List.mem_append_right _ (List.mem_cons_of_mem _ hp))
  have oth:∀ b o,b≠D->s4.heap.get? b=some o->(s4.heap.update D (Obj.mapSeq fun a=>a.push y)).get? b=some o:=fun b o hb e=>(Heap.get?_update_other _ _ (Ne.symm hb)).trans e
  have I10:=I9.turned (t':=s4.toks) (h':=s4.heap.update D (Obj.mapSeq fun a=>a.push y)) (it:=D) oth p2 hDC (.inr hD0) hDc (fun p hp=>hDp p hp)
  refine ⟨z,y,H8,o1,l1,q8,r8,I10.pins_of fun p hp=>?_⟩
  rcases List.mem_cons.mp hp with e | e
  ·subst e
   exact ⟨e3,p2,p3,p4,fun w hw=>by cases hw⟩
  ·exact I10.pin p (List.mem_append_right _ e)
theorem lc_coreG {use:Option (Value->Sem Unit)} {QQ:Value->Shared->Prop} {Fin:List V->Hp->Prop} {pins:List (Addr × Obj)} {s:Shared} {σ:St} {H:Hp} (hosc:X.env.scope=osc) (L:LcOkG osc sc xs (js.map fun j=>X.N.getD j "")) (hc:X.calm=true) (hi:PI X tg iter wi) (hg:∀ (cl:List (Str × Addr)) (C:Addr) (s₂:Shared) (H₂:Hp) (fp:List Addr),PG (X.blk sc cl C (lcG X xs js) s₂ H₂ fp) tg g) (hjs:∀ j∈js,j < X.N.length)
  (ht:∀ (cl:List (Str × Addr)) (C:Addr) (s₂:Shared) (H₂:Hp) (fp:List Addr) (pins:List (Addr × Obj)) (s':Shared) (σ':St) (H':Hp) (Q:Bool->Hp->Prop),Inv (X.blk sc cl C (lcG X xs js) s₂ H₂ fp) pins σ' H' s'->tt σ' H' Q ->
   wpAny (model X.prog X.w) X.A (lcTests ifs (compEnvC sc cl C X.env)) (TP (X.blk sc cl C (lcG X xs js) s₂ H₂ fp) pins σ' Q) (fun _ _=>False) s')
  (he:∀ (cl:List (Str × Addr)) (C:Addr) (s₂:Shared) (H₂:Hp) (fp:List Addr),PE (X.blk sc cl C (lcG X xs js) s₂ H₂ fp) elt te)
  (hs:∀ x,foldedSetIterable iter X.env x=pure x) (I:Inv X pins σ H s)
  (h:wi σ H fun J H1=>∃ W:Nat->Nat->List V->Hp->Prop,(∃ m,W 0 m [] H1)/\∀ i m ys H,W i m ys H->(J.stop i H/\Fin ys H) \/
   (J.go i H/\ys.length < sizeLine/\∀ x H',J.yld i H x H'->∀ o0:List (Option V),o0.length=xs.length->g x (lcT σ js o0) H' fun σ2 H1=>∃ o1,σ2=lcT σ js o1/\o1.length=xs.length/\tt σ2 H1 fun b H2 =>
    if b=true then te σ2 H2 fun v H3=>∃ m',m' < m/\W (i + 1) m' (ys ++ [v]) H3 else ∃ m',m' < m/\W (i + 1) m' ys H2))
  (hfin:∀ (D C:Addr) (s5:Shared) (H5:Hp) (ys:List V) (its:List Value) (k:Nat) (m5:Str->Option Value),Inv X pins σ H5 s5->Own X pins H5 D->Own X pins H5 C->D≠C->s5.heap.get? D=some (lstObj its k)->Vals ys its->ys.length<=sizeLine->s5.heap.Ns C m5->Fin ys H5 ->
   compPost (model X.prog X.w) X.A X.xe use QQ (.ref D) C (.ok .next) s5) :
  wpAny (model X.prog X.w) X.A (comprehension (.ListComp elt [⟨tg,iter,ifs,0⟩] sc pos) sc X.env (firstIterPos [⟨tg,iter,ifs,0⟩] pos) (newList []) false (eval iter X.env) use) QQ X.xe s:=by
 have hcl:closureFor sc X.env=pure (clo sc.names X.env.cells []):=closure_eq fun y hy=>by
  have ho:X.env.kindOf y=some .cell\/X.env.kindOf y=some .free:=by
   show X.env.scope.names.lookup y=_\/X.env.scope.names.lookup y=_
   rw [hosc]
   exact L.fr _ hy rfl
  obtain ⟨c,e⟩:=I.ok.has y ho
  rw [e]; rfl
 refine wpAny_comprehension_free (use:=use) rfl hs hcl L.kind L.names (thn (hi pins s σ H _ I h) fun v s1 h1=>thn h1 fun itv s2 h2=>?_)
 obtain ⟨it,fp,tn,J,H2,e,I2,T,st2,f2,W,⟨m0,w0⟩,turn⟩:=h2
 subst e
 refine wpAny_newObj_type (wpAny_newFunctionEnv L.nocell (by intro y hy; simp at hy) (fun h₁ hns₁ hsb₁=>?_) L.kind)
 dsimp only at hns₁ hsb₁ ⊢
 generalize hG:s2.heap.push { cls:=.type "list", dict:=none,data:=.seq ([]:List Value).toArray }=G at hns₁ hsb₁ ⊢
 have hGs:G.objs.size=s2.heap.objs.size + 1:=by rw [← hG,Heap.size_push]
 have hCle:s2.heap.objs.size<=G.objs.size:=by rw [hGs]; exact Nat.le_succ _
 have hDC:s2.heap.objs.size≠G.objs.size:=by rw [hGs]; exact Nat.ne_of_lt (Nat.lt_succ_self _)
 have old:∀ b o,s2.heap.get? b=some o->h₁.get? b=some o:=fun b o e=>by
  have lt:=Heap.lt_size e
  refine hsb₁.extBut b o (Nat.ne_of_lt (Nat.lt_of_lt_of_le lt hCle)) (Heap.get?_push_of_some _ ?_)
  rw [← hG]
  exact Heap.get?_push_of_some _ e
 have hacc:h₁.get? s2.heap.objs.size=some (lstObj [] 0):=by
  refine hsb₁.extBut _ _ hDC (Heap.get?_push_of_some _ ?_)
  rw [← hG]
  exact Heap.get?_push_size _ rfl
 have lt:∀ b∈fp,b < s2.heap.objs.size:=fun b hb=>by
  obtain ⟨o,e,_⟩:=T.obj _ _ st2 b hb
  exact Heap.lt_size e
 have clS:∀ y c,(clo sc.names X.env.cells []).lookup y=some c->X.env.cells.lookup y=some c:=clo_sound _ _ [] (fun _ _ e=>by simp at e)
 have clLt:∀ y c,(clo sc.names X.env.cells []).lookup y=some c->c < s2.heap.objs.size:=fun y c e=>by
  obtain ⟨v,o,q,_⟩:=I2.cell y c (clS y c e)
  exact Heap.lt_size q
 have Bok:(X.blk sc (clo sc.names X.env.cells []) G.objs.size (lcG X xs js) s2 H2 fp).Ok:=blk_okG I2 hosc L f2 lt hCle
 have fresh:∀ a,s2.heap.objs.size<=a->H2 a=none:=fun a ha=>I2.hok.fresh ha
 have frs_lt:∀ b∈frs X.stack,b < s2.heap.objs.size:=fun b hb=>by
  rcases List.mem_cons.mp (I2.stkSub b hb) with z | z
  ·rw [z]; exact I2.lt
  ·refine Nat.lt_of_not_le fun q=>I2.nofs q z
 have B0:Inv (X.blk sc (clo sc.names X.env.cells []) G.objs.size (lcG X xs js) s2 H2 fp) [(s2.heap.objs.size,lstObj [] 0)] (lcT σ js (List.replicate xs.length none)) H2 { s2 with heap:=h₁,toks:=s2.toks + ([]:List (Str × Value)).length }:=by
  refine ⟨Bok,rfl,I2.bare,Un.kept old,⟨_,hns₁,fun i y v e1 e2 e3=>?_⟩,fun y c e=>?_,fresh _ hCle,fun y c e=>I2.freeC y c (clS y c e),fun p hp=>?_,I2.hok.kept old,?_⟩
  ·by_cases hlt:i < xs.length
   ·exfalso
    have e2'':(List.replicate xs.length (none:Option V) ++ js.map fun j=>σ.getD j none)[i]?=some (some v):=e2
    rw [List.getElem?_append_left (by rw [List.length_replicate]; exact hlt),List.getElem?_replicate,if_pos hlt] at e2''
    cases e2''
   ·have e1':(js.map fun j=>X.N.getD j "")[i - xs.length]?=some y:=by
     have z:(xs ++ js.map fun j=>X.N.getD j "")[i]?=some y:=e1
     rw [List.getElem?_append_right (by omega)] at z
     exact z
    have e2':(js.map fun j=>σ.getD j none)[i - xs.length]?=some (some v):=by
     have z:(List.replicate xs.length (none:Option V) ++ js.map fun j=>σ.getD j none)[i]?=some (some v):=e2
     rw [List.getElem?_append_right (by rw [List.length_replicate]; omega),List.length_replicate] at z
     exact z
    have e1s:=e1'
    rw [List.getElem?_map] at e1' e2'
    cases hj:js[i - xs.length]? with
    | none=>rw [hj] at e1'; cases e1'
    | some j =>
     rw [hj] at e1' e2'
     have e4:X.N.getD j ""=y:=Option.some.inj e1'
     have e5:σ.getD j none=some v:=Option.some.inj e2'
     have hjl:=hjs j (List.mem_of_getElem? hj)
     have e6:X.N[j]?=some y:=by
      rw [List.getD_eq_getElem?_getD,List.getElem?_eq_getElem hjl] at e4
      rw [List.getElem?_eq_getElem hjl]
      exact congrArg some e4
     have e7:σ[j]?=some (some v):=by
      rw [List.getD_eq_getElem?_getD] at e5
      cases hq:σ[j]? with
      | none=>rw [hq] at e5; cases e5
      | some w=>rw [hq] at e5; exact congrArg some e5
     obtain ⟨hm0,hk⟩:=L.fvs y (List.mem_of_getElem? e1s)
     have hm:(y,NameKind.free)∈sc.names:=PySem.mem_of_lookup hm0
     have hk':X.env.kindOf y=some .cell\/X.env.kindOf y=some .free:=by
      show X.env.scope.names.lookup y=_\/X.env.scope.names.lookup y=_
      rw [hosc]; exact hk
     have hv:Vis X.env.scope y:=by rcases hk' with z | z; exact .inr (.inl z); exact .inr (.inr z)
     obtain ⟨m,hn,hl⟩:=I2.loc
     obtain ⟨u,r,l⟩:=hl j y v e6 e7 hv
     refine ⟨u,r,.inr ?_⟩
     rcases l with ⟨z,_⟩ | ⟨_,c,hc1,hc2⟩
     ·rw [z] at hk'; rcases hk' with q | q <;> cases q
     ·have hs2:((clo sc.names X.env.cells []).lookup y).isSome=true:=clo_has _ _ [] y hm (by rw [hc1]; rfl)
      obtain ⟨c',hc'⟩:=Option.isSome_iff_exists.mp hs2
      have hcc:c'=c:=by have:=clS y c' hc'; rw [hc1] at this; exact (Option.some.inj this).symm
      subst hcc
      obtain ⟨o,ho,hd⟩:=hc2
      exact ⟨relabel_fv hm0,c',hc',o,old _ o ho,hd⟩
  ·obtain ⟨v,o,q,d⟩:=I2.cell y c (clS y c e)
   exact ⟨v,o,old _ o q,d⟩
  ·have e:p=(s2.heap.objs.size,lstObj [] 0):=by simpa using hp
   subst e
   exact ⟨hacc,fresh _ (Nat.le_refl _),hDC,fun z=>Nat.lt_irrefl _ (frs_lt _ z),fun w hw=>by cases hw⟩
  ·show _=(lcG X xs js).length
   simp
 have stat:∀ {H':Hp} {pl:List (Addr × Obj)},(∀ b∈fp,H' b=none)->(∀ p∈pl,p.1=s2.heap.objs.size)->∀ b∈fp,FpOk (X.blk sc (clo sc.names X.env.cells []) G.objs.size (lcG X xs js) s2 H2 fp) pl H' b:=fun hn hp b hb =>
  ⟨hn b hb,(Bok.exf b hb).1,Bok.exfs b hb,.inl hb,(Bok.exf b hb).2,fun p hm=>by
   rw [hp p (by simpa using hm)]
   exact Ne.symm (Nat.ne_of_lt (lt b hb))⟩
 have loop:∀ s3:Shared,s3={ s2 with heap:=h₁,toks:=s2.toks + ([]:List (Str × Value)).length } ->
   codeAny (model X.prog X.w) X.A (.compLoop (.ListComp elt [⟨tg,iter,ifs,0⟩] sc pos) 0 (.ref it) (.ref s2.heap.objs.size) (compEnvC sc (clo sc.names X.env.cells []) G.objs.size X.env))
    (compPost (model X.prog X.w) X.A X.xe use QQ (.ref s2.heap.objs.size) G.objs.size) s3:=by
  rintro s3 rfl
  refine lc_loop (fun n s'=>∃ i ys its k o0 H',o0.length=xs.length/\Inv (X.blk sc (clo sc.names X.env.cells []) G.objs.size (lcG X xs js) s2 H2 fp) [(s2.heap.objs.size,lstObj its k)] (lcT σ js o0) H' s'/\tn i s'.heap/\(∀ b∈fp,H' b=none)/\Vals ys its/\ys.length<=sizeLine/\W i n ys H') ?_ m0
   ⟨0,[],[],0,List.replicate xs.length none,H2,List.length_replicate,B0,T.keep _ _ _ st2 fun b _ o e=>old b o e,fun b hb=>(f2 b hb).1,.nil,Nat.zero_le _,w0⟩
  rintro n s4 ⟨i,ys,its,k,o0,H4,lo0,I4,st4,fr4,vs4,z4,w4⟩
  have one:∀ p∈[(s2.heap.objs.size,lstObj its k)],p.1=s2.heap.objs.size:=fun p hp=>by
   have e:p=(s2.heap.objs.size,lstObj its k):=by simpa using hp
   rw [e]
  rcases turn i n ys H4 w4 with ⟨stop,qn⟩ | ⟨go,zl,step⟩
  ·refine thn (T.done (X.blk sc (clo sc.names X.env.cells []) G.objs.size (lcG X xs js) s2 H2 fp) rfl rfl rfl hc i _ s4 _ H4 _ I4 (stat fr4 one) st4 stop) fun r s5 ⟨hr,I5⟩=>?_
   subst hr
   obtain ⟨m5,hn5,_⟩:=I5.loc
   obtain ⟨p1,p2,p3,p4,p5⟩:=I5.pin (s2.heap.objs.size,lstObj its k) (by simp)
   have ch:∀ b∈fp,(b∈X.ex\/X.s₀.heap.objs.size<=b)/\b≠X.env.locals/\(∀ x c,X.env.cells.lookup x=some c->c≠b)/\∀ p∈X.pn ++ pins,p.1≠b:=fun b hb =>
    ⟨(f2 b hb).2.2.2.1,(f2 b hb).2.1,(f2 b hb).2.2.2.2.1,(f2 b hb).2.2.2.2.2⟩
   have J1:Inv X pins σ H4 s5:=I2.call' I5.os I5.base I5.hok I5.bare ch
   have ltp:∀ p∈X.pn ++ pins,p.1 < s2.heap.objs.size:=fun p hp=>Heap.lt_size (I2.pin p hp).1
   have ltc:∀ y c,X.env.cells.lookup y=some c->c < s2.heap.objs.size:=fun y c e=>by
    obtain ⟨v,o,q,_⟩:=I2.cell y c e
    exact Heap.lt_size q
   have s0:X.s₀.heap.objs.size<=s2.heap.objs.size:=I2.sz
   have own:∀ a,s2.heap.objs.size<=a->H4 a=none->Own X pins H4 a:=fun a ha hn=>⟨hn,Ne.symm (Nat.ne_of_lt (Nat.lt_of_lt_of_le I2.lt ha)),Nat.le_trans s0 ha,fun y c e=>Nat.ne_of_lt (Nat.lt_of_lt_of_le (ltc y c e) ha),
    fun p hp=>Nat.ne_of_lt (Nat.lt_of_lt_of_le (ltp p hp) ha),I2.nofs ha⟩
   exact hfin _ _ s5 H4 ys its k m5 J1 (own _ (Nat.le_refl _) p2) (own _ hCle I5.free) hDC p1 vs4 z4 hn5 qn
  ·refine thn (T.item (X.blk sc (clo sc.names X.env.cells []) G.objs.size (lcG X xs js) s2 H2 fp) rfl rfl rfl hc i _ s4 _ H4 _ I4 (stat fr4 one) st4 go) fun r s5 ⟨u,hr,h5⟩=>?_
   subst hr
   refine wpAny_mono h5 (fun _ s5' ⟨v,H6,I6,r6,y6,st6,fr6⟩=>?_) fun _ _ z=>z
   have I7:=I6.pinned (stat fr6 one) (T.obj _ _ st6)
   have ndis:∀ p∈pinsAt fp s5'.heap,p.1≠s2.heap.objs.size:=fun p hp=>Nat.ne_of_lt (lt _ (of_pinsAt hp).1)
   have lenE:=vs4.length
   have back:∀ {its':List Value} {k':Nat} {H7:Hp} {s7:Shared} {ys':List V} {m':Nat} {o1:List (Option V)},o1.length=xs.length->Inv (X.blk sc (clo sc.names X.env.cells []) G.objs.size (lcG X xs js) s2 H2 fp) ((s2.heap.objs.size,lstObj its' k') :: pinsAt fp s5'.heap) (lcT σ js o1) H7 s7 ->
     Vals ys' its'->ys'.length<=sizeLine->m' < n->W (i + 1) m' ys' H7->∃ m,m < n/\∃ i ys its k o0 H',o0.length=xs.length/\Inv (X.blk sc (clo sc.names X.env.cells []) G.objs.size (lcG X xs js) s2 H2 fp) [(s2.heap.objs.size,lstObj its k)] (lcT σ js o0) H' s7/\tn i s7.heap/\(∀ b∈fp,H' b=none)/\Vals ys its/\ys.length<=sizeLine/\W i m ys H':=by
    intro its' k' H7 s7 ys' m' o1 l1 J vs' z' hm w'
    refine ⟨m',hm,i + 1,ys',its',k',o1,H7,l1,J.pins_of fun p hp=>J.pin p (List.mem_append_right _ (by simp at hp; simp [hp])),?_,?_,vs',z',w'⟩
    ·exact T.keep _ _ _ st6 fun b hb o e=>(J.pin (b,o) (List.mem_append_right _ (List.mem_cons_of_mem _ (mem_pinsAt hb e)))).1
    ·intro b hb
     obtain ⟨o,e,_⟩:=T.obj _ _ st6 b hb
     exact (J.pin (b,o) (List.mem_append_right _ (List.mem_cons_of_mem _ (mem_pinsAt hb e)))).2.1
   refine wpAny_mono (lc_turnG (X:=X) (sc:=sc) (xs:=xs) (js:=js) (tg:=tg) (g:=g) (elt:=elt) (ifs:=ifs) (tt:=tt) (te:=te) (D:=s2.heap.objs.size) (its:=its) (n:=k) (pl:=pinsAt fp s5'.heap)
    (hg _ _ _ _ _) I7 r6 (ht _ _ _ _ _) (he _ _ _ _ _) (by omega) (Nat.le_refl _) hDC (fun y c e=>Nat.ne_of_lt (clLt y c e)) ndis (step v H6 y6 o0 lo0)) (fun _ s6 h6=>?_) fun _ _ z=>z
   refine wpAny_mono h6 (fun ok s7 h7=>?_) fun _ _ z=>z
   cases ok with
   | false =>
    rw [if_neg Bool.false_ne_true] at h7 ⊢
    obtain ⟨H7,o1,l1,⟨m',hm,w'⟩,J⟩:=h7
    exact back l1 J vs4 z4 hm w'
   | true =>
    rw [if_pos rfl] at h7 ⊢
    refine wpAny_mono h7 (fun y s8 h8=>?_) fun _ _ z=>z
    refine wpAny_mono h8 (fun _ s9 h9=>?_) fun _ _ z=>z
    obtain ⟨z,y',H9,o1,l1,⟨m',hm,w'⟩,rz,J⟩:=h9
    refine back l1 J (vs4.append (.cons rz .nil)) ?_ hm w'
    rw [List.length_append,List.length_singleton]
    omega
 exact codeAny_compStart_list (loop _ rfl) (T.self _ 0 _ _ _ (T.keep _ _ _ st2 fun b _ o e=>old b o e) (loop _ rfl))
end
section
variable {X:Cx} {sc osc:Scope} {x:Str} {js:List Nat} {elt iter:Expr} {px pos:Pos} {ifs:List Expr} {wi:TI} {tt:TT} {te:TE}
theorem lc_core {use:Option (Value->Sem Unit)} {QQ:Value->Shared->Prop} {Fin:List V->Hp->Prop} {pins:List (Addr × Obj)} {s:Shared} {σ:St} {H:Hp} (hosc:X.env.scope=osc) (L:LcOk osc sc x (js.map fun j=>X.N.getD j "")) (hc:X.calm=true) (hi:PI X (.Name x px) iter wi) (hjs:∀ j∈js,j < X.N.length)
  (ht:∀ (cl:List (Str × Addr)) (C:Addr) (s₂:Shared) (H₂:Hp) (fp:List Addr) (pins:List (Addr × Obj)) (s':Shared) (σ':St) (H':Hp) (Q:Bool->Hp->Prop),Inv (X.blk sc cl C (lcN X x js) s₂ H₂ fp) pins σ' H' s'->tt σ' H' Q ->
   wpAny (model X.prog X.w) X.A (lcTests ifs (compEnvC sc cl C X.env)) (TP (X.blk sc cl C (lcN X x js) s₂ H₂ fp) pins σ' Q) (fun _ _=>False) s')
  (he:∀ (cl:List (Str × Addr)) (C:Addr) (s₂:Shared) (H₂:Hp) (fp:List Addr),PE (X.blk sc cl C (lcN X x js) s₂ H₂ fp) elt te)
  (hs:∀ x,foldedSetIterable iter X.env x=pure x) (I:Inv X pins σ H s)
  (h:wi σ H fun J H1=>∃ W:Nat->Nat->List V->Hp->Prop,(∃ m,W 0 m [] H1)/\∀ i m ys H,W i m ys H->(J.stop i H/\Fin ys H) \/
   (J.go i H/\ys.length < sizeLine/\∀ x H',J.yld i H x H'->tt (lcS σ js (some x)) H' fun b H2 =>
    if b=true then te (lcS σ js (some x)) H2 fun v H3=>∃ m',m' < m/\W (i + 1) m' (ys ++ [v]) H3 else ∃ m',m' < m/\W (i + 1) m' ys H2))
  (hfin:∀ (D C:Addr) (s5:Shared) (H5:Hp) (ys:List V) (its:List Value) (k:Nat) (m5:Str->Option Value),Inv X pins σ H5 s5->Own X pins H5 D->Own X pins H5 C->D≠C->s5.heap.get? D=some (lstObj its k)->Vals ys its->ys.length<=sizeLine->s5.heap.Ns C m5->Fin ys H5 ->
   compPost (model X.prog X.w) X.A X.xe use QQ (.ref D) C (.ok .next) s5) :
  wpAny (model X.prog X.w) X.A (comprehension (.ListComp elt [⟨.Name x px,iter,ifs,0⟩] sc pos) sc X.env (firstIterPos [⟨.Name x px,iter,ifs,0⟩] pos) (newList []) false (eval iter X.env) use) QQ X.xe s:=by
 have e:(fun (J:It) (H1:Hp)=>∃ W:Nat->Nat->List V->Hp->Prop,(∃ m,W 0 m [] H1)/\∀ i m ys H,W i m ys H->(J.stop i H/\Fin ys H) \/
   (J.go i H/\ys.length < sizeLine/\∀ x H',J.yld i H x H'->tt (lcS σ js (some x)) H' fun b H2 =>
    if b=true then te (lcS σ js (some x)) H2 fun v H3=>∃ m',m' < m/\W (i + 1) m' (ys ++ [v]) H3 else ∃ m',m' < m/\W (i + 1) m' ys H2)) =
   (fun (J:It) (H1:Hp)=>∃ W:Nat->Nat->List V->Hp->Prop,(∃ m,W 0 m [] H1)/\∀ i m ys H,W i m ys H->(J.stop i H/\Fin ys H) \/
   (J.go i H/\ys.length < sizeLine/\∀ y H',J.yld i H y H'->∀ o0:List (Option V),o0.length=[x].length->gName 0 y (lcT σ js o0) H' fun σ2 H1=>∃ o1,σ2=lcT σ js o1/\o1.length=[x].length/\tt σ2 H1 fun b H2 =>
    if b=true then te σ2 H2 fun v H3=>∃ m',m' < m/\W (i + 1) m' (ys ++ [v]) H3 else ∃ m',m' < m/\W (i + 1) m' ys H2)):=by
  funext J H1
  refine propext ⟨fun ⟨W,w0,w1⟩=>⟨W,w0,fun i m ys H hw=>?_⟩,fun ⟨W,w0,w1⟩=>⟨W,w0,fun i m ys H hw=>?_⟩⟩
  ·rcases w1 i m ys H hw with a | ⟨a,b,c⟩
   ·exact .inl a
   ·refine .inr ⟨a,b,fun y H' hy o0 ho=>?_⟩
    match o0,ho with
    | [o],_=>exact ⟨[some y],rfl,rfl,c y H' hy⟩
  ·rcases w1 i m ys H hw with a | ⟨a,b,c⟩
   ·exact .inl a
   ·refine .inr ⟨a,b,fun y H' hy=>?_⟩
    obtain ⟨o1,e1,e2,e3⟩:=c y H' hy [none] rfl
    exact e3
 rw [e] at h
 exact lc_coreG (xs:=[x]) (g:=gName 0) hosc ⟨L.kind,L.nocell,L.names,L.fr,L.fvs⟩ hc hi (fun cl C s₂ H₂ fp=>pg_name (X:=X.blk sc cl C (lcG X [x] js) s₂ H₂ fp) L.nd rfl (.inl (lookup_relabel_local L.hx)) (.inr (lookup_relabel_local L.hx))) hjs ht he hs I h hfin
theorem pe_lcT (hosc:X.env.scope=osc) (L:LcOk osc sc x (js.map fun j=>X.N.getD j "")) (hc:X.calm=true) (hi:PI X (.Name x px) iter wi) (hjs:∀ j∈js,j < X.N.length)
  (ht:∀ (cl:List (Str × Addr)) (C:Addr) (s₂:Shared) (H₂:Hp) (fp:List Addr) (pins:List (Addr × Obj)) (s':Shared) (σ':St) (H':Hp) (Q:Bool->Hp->Prop),Inv (X.blk sc cl C (lcN X x js) s₂ H₂ fp) pins σ' H' s'->tt σ' H' Q ->
   wpAny (model X.prog X.w) X.A (lcTests ifs (compEnvC sc cl C X.env)) (TP (X.blk sc cl C (lcN X x js) s₂ H₂ fp) pins σ' Q) (fun _ _=>False) s')
  (he:∀ (cl:List (Str × Addr)) (C:Addr) (s₂:Shared) (H₂:Hp) (fp:List Addr),PE (X.blk sc cl C (lcN X x js) s₂ H₂ fp) elt te)
  (hs:∀ x,foldedSetIterable iter X.env x=pure x:=by intro _; rfl) :
  PE X (.ListComp elt [⟨.Name x px,iter,ifs,0⟩] sc pos) (tLC wi js tt te):=by
 intro pins s σ H Q I h
 rw [eval_ListComp]
 refine lc_core (use:=none) (Fin:=fun ys H=>∀ p,H p=none->Q (.ref p) (upd H p (.lst ys))) hosc L hc hi hjs ht he hs I h fun D C s5 H5 ys its k m5 J oD oC hDC p1 vs z hn fin=>?_
 refine ⟨m5,hn,fun h' hsb=>?_⟩
 have J2:Inv X pins σ H5 { s5 with heap:=h',toks:=s5.toks }:=J.turned (it:=C) (fun b o hb e=>hsb.extBut b o hb e) oC.free oC.loc (.inr oC.new) oC.cel oC.pin
 have p1':h'.get? D=some (lstObj its k):=hsb.extBut _ _ hDC p1
 have J3:Inv X pins σ (upd H5 D (.lst ys)) { s5 with heap:=h',toks:=s5.toks }:=J2.track oD.free oD.loc oD.new oD.cel oD.pin ⟨z,its,k,vs,p1'⟩
 exact ⟨.ref D,_,J3,rfl,fin D oD.free⟩
def sLC (i:Nat) (wi:TI) (js:List Nat) (tt:TT) (te:TE):TS:=fun D σ H=>tLC wi js tt te σ H fun v H1=>D.nx (σ.set i (some v)) H1
theorem ps_setLC {i:Nat} {y:Str} {py spos:Pos} (hN:X.N.Nodup) (hy:X.N[i]?=some y) (hl:Loc X.env.scope y) (hf:X.fn y=true\/X.env.scope.names.lookup y=some .local)
  (hosc:X.env.scope=osc) (L:LcOk osc sc x (js.map fun j=>X.N.getD j "")) (hc:X.calm=true) (hi:PI X (.Name x px) iter wi) (hjs:∀ j∈js,j < X.N.length)
  (ht:∀ (cl:List (Str × Addr)) (C:Addr) (s₂:Shared) (H₂:Hp) (fp:List Addr) (pins:List (Addr × Obj)) (s':Shared) (σ':St) (H':Hp) (Q:Bool->Hp->Prop),Inv (X.blk sc cl C (lcN X x js) s₂ H₂ fp) pins σ' H' s'->tt σ' H' Q ->
   wpAny (model X.prog X.w) X.A (lcTests ifs (compEnvC sc cl C X.env)) (TP (X.blk sc cl C (lcN X x js) s₂ H₂ fp) pins σ' Q) (fun _ _=>False) s')
  (he:∀ (cl:List (Str × Addr)) (C:Addr) (s₂:Shared) (H₂:Hp) (fp:List Addr),PE (X.blk sc cl C (lcN X x js) s₂ H₂ fp) elt te)
  (hsw:swapsWith (.ListComp elt [⟨.Name x px,iter,ifs,0⟩] sc pos) (some (.Name y py)) spos.line X.env=pure true) (hs:∀ x,foldedSetIterable iter X.env x=pure x:=by intro _; rfl) :
  PS X (.Assign [.Name y py] (.ListComp elt [⟨.Name x px,iter,ifs,0⟩] sc pos) spos) (sLC i wi js tt te):=by
 intro pins s σ H D I h
 rw [exec_Assign_Name_used _ _ _ _ hsw]
 refine wpAny_bind (wpAny_standAt (wpAny_bind ?_))
 show wpAny _ _ (do let _ ← comprehension (.ListComp elt [⟨.Name x px,iter,ifs,0⟩] sc pos) sc X.env _ (newList []) false (eval iter X.env) (some (assign (.Name y py) X.env))) _ _ s
 have pg:=pg_name (X:=X) (i:=i) (x:=y) (pos:=py) hN hy hl hf
 refine wpAny_bind (wpAny_mono (lc_core (use:=some (assign (.Name y py) X.env)) (QQ:=fun _ z=>SP X pins D .next z) (Fin:=fun ys H=>∀ p,H p=none->D.nx (σ.set i (some (.ref p))) (upd H p (.lst ys))) hosc L hc hi hjs ht he hs I h fun A C s5 H5 ys its k m5 J oD oC hDC p1 vs z hn fin=>?_) (fun _ z hq=>wpAny_pure (wpAny_pure hq)) fun _ _ e=>e)
 have J1:Inv X pins σ (upd H5 A (.lst ys)) s5:=J.track oD.free oD.loc oD.new oD.cel oD.pin ⟨z,its,k,vs,p1⟩
 obtain ⟨oc,es,ep,hC,hd,hr⟩:=hn
 have nocell:∀ v,oc.data≠.cell v:=fun v q=>by rw [hd] at q; cases q
 have hCA:C≠A:=Ne.symm hDC
 have fC:(upd H5 A (.lst ys)) C=none:=by rw [upd_ne hCA]; exact oC.free
 have J2:Inv X (pins ++ [(C,oc)]) σ (upd H5 A (.lst ys)) s5:=J1.pins_of fun p hp=>(List.mem_append.mp hp).elim (fun q=>J1.pin p (List.mem_append_right _ q)) fun q=>by
  have e:p=(C,oc):=by simpa using q
  subst e
  exact ⟨hC,fC,oC.loc,oC.fs,nocell⟩
 refine wpAny_mono (pg _ s5 σ _ (.ref A) (.ref A) (fun σ6 H6=>σ6=σ.set i (some (.ref A))/\H6=upd H5 A (.lst ys)) J2 rfl ⟨rfl,rfl⟩) (fun _ s6 ⟨σ6,H6,I6,e1,e2⟩=>?_) fun _ _ e=>e
 subst e1 e2
 obtain ⟨c1,c2,_⟩:=I6.pin (C,oc) (List.mem_append_right _ (List.mem_append_right _ (by simp)))
 refine ⟨m5,⟨oc,es,ep,c1,hd,hr⟩,fun h' hsb=>?_⟩
 have J3:Inv X pins (σ.set i (some (.ref A))) (upd H5 A (.lst ys)) s6:=I6.pins_of fun p hp=>I6.pin p (List.mem_append_right _ (List.mem_append_left _ hp))
 have J4:Inv X pins (σ.set i (some (.ref A))) (upd H5 A (.lst ys)) { s6 with heap:=h',toks:=s6.toks }:=J3.turned (it:=C) (fun b o hb e=>hsb.extBut b o hb e) c2 oC.loc (.inr oC.new) oC.cel oC.pin
 exact ⟨_,_,J4,fin A oD.free⟩
end
end L2
namespace L2
open PySem PySem.Spec PyProof.Rows
section
variable {X:Cx}
def tYes:TT:=fun _ H Q=>Q true H
theorem pe_lc0 {sc osc:Scope} {x:Str} {js:List Nat} {elt iter:Expr} {px pos:Pos} {wi:TI} {te:TE} (hosc:X.env.scope=osc) (L:LcOk osc sc x (js.map fun j=>X.N.getD j "")) (hc:X.calm=true) (hi:PI X (.Name x px) iter wi) (hjs:∀ j∈js,j < X.N.length)
  (he:∀ (cl:List (Str × Addr)) (C:Addr) (s₂:Shared) (H₂:Hp) (fp:List Addr),PE (X.blk sc cl C (lcN X x js) s₂ H₂ fp) elt te)
  (hs:∀ x,foldedSetIterable iter X.env x=pure x:=by intro _; rfl) :
  PE X (.ListComp elt [⟨.Name x px,iter,[],0⟩] sc pos) (tLC wi js tYes te) :=
 pe_lcT hosc L hc hi hjs (fun cl C s₂ H₂ fp pins s' σ' H' Q I h=>wpAny_pure ⟨H',I,h⟩) he hs
theorem pe_lc1 {sc osc:Scope} {x:Str} {js:List Nat} {elt iter c:Expr} {px pos:Pos} {wi:TI} {te:TE} {tt:TT} (hosc:X.env.scope=osc) (L:LcOk osc sc x (js.map fun j=>X.N.getD j "")) (hc:X.calm=true) (hi:PI X (.Name x px) iter wi) (hjs:∀ j∈js,j < X.N.length)
  (ht:∀ (cl:List (Str × Addr)) (C:Addr) (s₂:Shared) (H₂:Hp) (fp:List Addr),PT (X.blk sc cl C (lcN X x js) s₂ H₂ fp) c tt)
  (he:∀ (cl:List (Str × Addr)) (C:Addr) (s₂:Shared) (H₂:Hp) (fp:List Addr),PE (X.blk sc cl C (lcN X x js) s₂ H₂ fp) elt te)
  (hs:∀ x,foldedSetIterable iter X.env x=pure x:=by intro _; rfl) :
  PE X (.ListComp elt [⟨.Name x px,iter,[c],0⟩] sc pos) (tLC wi js tt te) :=
 pe_lcT hosc L hc hi hjs (fun cl C s₂ H₂ fp pins s' σ' H' Q I h=>wpAny_tests_one (ht cl C s₂ H₂ fp pins s' σ' H' Q I h)) he hs
theorem lc_list {K:PySem.W.Frag} {a:Addr} {xs:List V} {σ:St} {js:List Nat} {tt:TT} {te:TE} {H:Hp} {Qf:Addr->Hp->List V->Prop} (Pv:Nat->List V->Hp->Prop) (h0:Pv 0 [] H) (hz:xs.length<=sizeLine)
  (hl:∀ i ys H,i<=xs.length->Pv i ys H->SqL K H a xs/\ys.length<=i)
  (hs:∀ i x ys H,xs[i]?=some x->Pv i ys H->tt (lcS σ js (some x)) H fun b H2=>if b=true then te (lcS σ js (some x)) H2 fun v H3=>Pv (i + 1) (ys ++ [v]) H3 else Pv (i + 1) ys H2)
  (mt:∀ σ H Q Q',(∀ b H1,Q b H1->Q' b H1)->tt σ H Q->tt σ H Q') (me:∀ σ H Q Q',(∀ v H1,Q v H1->Q' v H1)->te σ H Q->te σ H Q')
  (hd:∀ ys H p,Pv xs.length ys H->H p=none->Qf p H ys) :
  ∃ W:Nat->Nat->List V->Hp->Prop,(∃ m,W 0 m [] H)/\∀ i m ys H,W i m ys H ->
   ((Itl K a).stop i H/\∀ p,H p=none->Qf p H ys) \/
   ((Itl K a).go i H/\ys.length < sizeLine/\∀ x H',(Itl K a).yld i H x H'->tt (lcS σ js (some x)) H' fun b H2 =>
    if b=true then te (lcS σ js (some x)) H2 fun v H3=>∃ m',m' < m/\W (i + 1) m' (ys ++ [v]) H3 else ∃ m',m' < m/\W (i + 1) m' ys H2):=by
 refine ⟨fun i m ys H=>m=xs.length - i/\i<=xs.length/\Pv i ys H,⟨xs.length,by simp,Nat.zero_le _,h0⟩,?_⟩
 rintro i m ys H ⟨rfl,hi,p⟩
 obtain ⟨q,hy⟩:=hl i ys H hi p
 by_cases hlt:i < xs.length
 ·refine .inr ⟨⟨xs,xs[i],q,by simp [hlt]⟩,by omega,fun x H' y=>?_⟩
  obtain ⟨e,y⟩:=y
  subst e
  refine mt _ _ _ _ (fun b H2 h2=>?_) (hs i x ys _ (y xs q) p)
  cases b with
  | true =>
   rw [if_pos rfl] at h2 ⊢
   exact me _ _ _ _ (fun v H3 h3=>⟨_,by omega,rfl,hlt,h3⟩) h2
  | false =>
   rw [if_neg Bool.false_ne_true] at h2 ⊢
   exact ⟨_,by omega,rfl,hlt,h2⟩
 ·have e:i=xs.length:=by omega
  subst e
  exact .inl ⟨⟨xs,q,Nat.le_refl _⟩,fun pp hp=>hd ys H pp p hp⟩
theorem lc_tup {K:PySem.W.Frag} {a:Addr} {xs:List V} {σ:St} {js:List Nat} {tt:TT} {te:TE} {H:Hp} {Qf:Addr->Hp->List V->Prop} (Pv:Nat->List V->Hp->Prop) (h0:Pv 0 [] H) (hz:xs.length<=sizeLine)
  (hl:∀ i ys H,i<=xs.length->Pv i ys H->SqT K H a xs/\ys.length<=i)
  (hs:∀ i x ys H,xs[i]?=some x->Pv i ys H->tt (lcS σ js (some x)) H fun b H2=>if b=true then te (lcS σ js (some x)) H2 fun v H3=>Pv (i + 1) (ys ++ [v]) H3 else Pv (i + 1) ys H2)
  (mt:∀ σ H Q Q',(∀ b H1,Q b H1->Q' b H1)->tt σ H Q->tt σ H Q') (me:∀ σ H Q Q',(∀ v H1,Q v H1->Q' v H1)->te σ H Q->te σ H Q')
  (hd:∀ ys H p,Pv xs.length ys H->H p=none->Qf p H ys) :
  ∃ W:Nat->Nat->List V->Hp->Prop,(∃ m,W 0 m [] H)/\∀ i m ys H,W i m ys H ->
   ((Itt K a).stop i H/\∀ p,H p=none->Qf p H ys) \/
   ((Itt K a).go i H/\ys.length < sizeLine/\∀ x H',(Itt K a).yld i H x H'->tt (lcS σ js (some x)) H' fun b H2 =>
    if b=true then te (lcS σ js (some x)) H2 fun v H3=>∃ m',m' < m/\W (i + 1) m' (ys ++ [v]) H3 else ∃ m',m' < m/\W (i + 1) m' ys H2):=by
 refine ⟨fun i m ys H=>m=xs.length - i/\i<=xs.length/\Pv i ys H,⟨xs.length,by simp,Nat.zero_le _,h0⟩,?_⟩
 rintro i m ys H ⟨rfl,hi,p⟩
 obtain ⟨q,hy⟩:=hl i ys H hi p
 by_cases hlt:i < xs.length
 ·refine .inr ⟨⟨xs,xs[i],q,by simp [hlt]⟩,by omega,fun x H' y=>?_⟩
  obtain ⟨e,y⟩:=y
  subst e
  refine mt _ _ _ _ (fun b H2 h2=>?_) (hs i x ys _ (y xs q) p)
  cases b with
  | true =>
   rw [if_pos rfl] at h2 ⊢
   exact me _ _ _ _ (fun v H3 h3=>⟨_,by omega,rfl,hlt,h3⟩) h2
  | false =>
   rw [if_neg Bool.false_ne_true] at h2 ⊢
   exact ⟨_,by omega,rfl,hlt,h2⟩
 ·have e:i=xs.length:=by omega
  subst e
  exact .inl ⟨⟨xs,q,Nat.le_refl _⟩,fun pp hp=>hd ys H pp p hp⟩
theorem idxOf_spec {x:V}:∀ {xs:List V} {us:List Value},Vals xs us->xs.all flatV=true->∀ {j:Nat},xs.findIdx? (fun y=>eqV y x)=some j ->
  ∃ hj:j < us.length,eqU x us[j]=true/\∀ m (hm:m < us.length),m < j->eqU x us[m]=false
 | _,_,.nil,_,j,h=>by simp at h
 | y :: xs,u :: us,.cons r t,f,j,h=>by
  rw [List.all_cons,Bool.and_eq_true] at f
  rw [List.findIdx?_cons] at h
  by_cases hy:eqV y x=true
  ·rw [if_pos hy] at h
   cases h
   refine ⟨by simp,?_,fun m hm hlt=>absurd hlt (Nat.not_lt_zero _)⟩
   show eqU x u=true
   rw [eqU_of r f.1]; exact hy
  ·rw [if_neg hy] at h
   cases hq:xs.findIdx? (fun y=>eqV y x) with
   | none=>rw [hq] at h; cases h
   | some k =>
    rw [hq] at h
    have e:k + 1=j:=Option.some.inj h
    subst e
    obtain ⟨hk,h1,h2⟩:=idxOf_spec t f.2 hq
    refine ⟨by rw [List.length_cons]; omega,h1,fun m hm hlt=>?_⟩
    cases m with
    | zero =>
     show eqU x u=false
     rw [eqU_of r f.1]; exact Bool.eq_false_iff.mpr hy
    | succ m=>exact h2 m (by rw [List.length_cons] at hm; omega) (by omega)
def rIndex (K:PySem.W.Frag):V->List V->Hp->VK->Prop:=fun x vs H Q=>∃ l xs y j,x=.ref l/\vs=[y]/\SqL K H l xs/\flatV y=true/\xs.all flatV=true/\xs.findIdx? (fun z=>eqV z y)=some j/\Q (.int (j:Nat)) H
theorem mt_index:MtM X "list.index" (rIndex X.K):=by
 intro pins s σ H x vs v us Q I rx rv h
 obtain ⟨l,xs,y,j,rfl,rfl,hq,fy,fs,hj,q⟩:=h
 cases rx
 obtain ⟨u,rfl,ru⟩:=rv.one
 obtain ⟨its,r,⟨o,n,e,hc,hd,hdat⟩,hz⟩:=I.list hq
 obtain ⟨cls,dd,dt,sl⟩:=o
 have hc':cls=.type "list" := hc
 have hdat':dt=.seq its.toArray n:=hdat
 subst hc' hdat'
 obtain ⟨h1,h2,h3⟩:=idxOf_spec r fs hj
 have hl:=r.length
 have hn:=line63
 refine call_meets F.slot_list_index ⟨_,e,rfl⟩ F.entry_list_index (F.args_list_index_2 _ _) (SeqAt.list_indexAt l its.toArray n dd sl u (eqU y) j (by simpa using h1) (by omega) (by simpa using h2) (fun m hm hlt=>by simpa using h3 m (by simpa using hm) hlt)) ⟨e,fun w hw=>mem_eqAt ru fy r fs w (by simpa using hw),?_⟩
 exact ⟨.int (j:Nat),H,I.tok _,⟨_,rfl⟩,q⟩
def rInsert:V->List V->Hp->VK->Prop:=fun x vs H Q=>∃ l xs i y,x=.ref l/\vs=[.int i,y]/\H l=some (.lst xs)/\0<=i/\i<=(xs.length:Int)/\xs.length < sizeLine/\Q .non (upd H l (.lst (xs.take i.toNat ++ y :: xs.drop i.toNat)))
theorem insert_run {A:Around} {s:Shared} {P:Program} {w:World} {E:Value->Shared->Prop} {Q:Value->Shared->Prop} {l:Addr} {its:List Value} {n:Nat} {i:Int} {t:Tok} {u:Value} (e:s.heap.get? l=some { cls:=.type "list", data:=.seq its.toArray n }) (h0:0<=i) (h1:i<=(its.length:Int)) (hz:its.length<=sizeLine)
  (h:∀ f:Array Value->Array Value,f its.toArray=(its.take i.toNat ++ u :: its.drop i.toNat).toArray->Q .none { s with heap:=s.heap.update l (Obj.mapSeq f),toks:=s.toks }):wpAny (model P w) A (call (.builtin "list.insert") [.ref l,.int i t,u]) Q E s:=by
 have hn:=line63
 have fit:¬ (!Builtin.List.listFitsIndex i)=true:=by
  rw [fitsIndex_both (k:=i) (Int.le_trans (by decide) h0) (by omega)]
  exact Bool.false_ne_true
 have hs3:its.toArray.size<=sizeLine:=by rw [List.size_toArray]; exact hz
 have M:=AutoSeq1.list_insert_list_int_val_1 l its.toArray n i t u fit hs3
 refine call_meets F.slot_list_insert ⟨_,e,rfl⟩ F.entry_list_insert (F.args_list_insert_3 _ _ _) M ⟨e,?_⟩
 refine h _ ?_
 have hk:(if i < 0 then (i + (its.toArray.size:Int)).toNat else min i.toNat its.toArray.size)=i.toNat:=by
  rw [if_neg (by omega),List.size_toArray]
  omega
 show (its.toArray.extract 0 (if i < 0 then (i + (its.toArray.size:Int)).toNat else min i.toNat its.toArray.size)).push u ++ its.toArray.extract (if i < 0 then (i + (its.toArray.size:Int)).toNat else min i.toNat its.toArray.size)=_
 rw [hk]
 apply Array.toList_inj.mp
 simp [List.take_of_length_le]
theorem mt_insert:MtM X "list.insert" rInsert:=by
 intro pins s σ H x vs v us Q I rx rv h
 obtain ⟨l,xs,i,y,rfl,rfl,hH,h0,h1,hz,q⟩:=h
 cases rx
 obtain ⟨u,w,rfl,⟨t,rfl⟩,rw'⟩:=rv.two
 obtain ⟨z,its,n,r,hl,e⟩:=I.lstM hH
 refine insert_run e h0 (by rw [← hl]; exact h1) (by omega) fun f hf=>?_
 refine ⟨.non,_,I.lset (its':=its.take i.toNat ++ w :: its.drop i.toNat) hH e hf ((r.take i.toNat).append (.cons rw' (r.drop i.toNat))) ?_,rfl,q⟩
 rw [List.length_append,List.length_cons,List.length_take,List.length_drop]
 omega
def rExtendT (K:PySem.W.Frag):V->List V->Hp->VK->Prop:=fun x vs H Q=>∃ l b xs zs,x=.ref l/\vs=[.ref b]/\H l=some (.lst xs)/\SqT K H b zs/\xs.length + zs.length<=sizeLine/\Q .non (upd H l (.lst (xs ++ zs)))
theorem extend_tuple_any (l:Addr) (its:Array Value) (n:Nat) (b:Addr) (its2:Array Value) (n2:Nat) (dd:Option Addr) (sl:Array (Option Value)) (h0:¬(!its.isEmpty && Builtin.List.listTooLong (its.size + its2.size))=true) (h1:its.size<=sizeLine) (h2:its.size + its2.size<=sizeLine + 1) :
  Meets (Builtin.«list.extend» ⟨[.ref l,.ref b],[]⟩) (fun _ R s=>s.heap.get? l=some { cls:=.type "list", data:=.seq its n }/\s.heap.get? b=some { cls:=.type "tuple", dict:=dd,data:=.seq its2 n2,slots:=sl } /\
   R (.ok (.ret Value.none)) { s with heap:=s.heap.update l (Obj.mapSeq fun x=>x ++ its2),toks:=s.toks }) :=
 .of_wp fun prog w A R s h=>by
  obtain ⟨hp,g,d,tk,os⟩:=s
  obtain ⟨hl,hb,h⟩:=h
  have g1:=AutoSeq1.idx_int
  have g2:=AutoSeq1.sub_tuple_tuple
  have g3:=AutoSeq1.sub_list_list
  have g4:=AutoSeq1.sub_tuple_list
  have g5:=AutoSeq1.sub_list_tuple
  have hz:(its ++ its2).size<=sizeLine + 1:=by rw [Array.size_append]; exact h2
  wp_walk using (wpAny_updateSeq hl rfl (hz:=h1) (_hz':=hz)),AutoSeq1.wpAny_loadPart' hl,AutoSeq1.wpAny_loadPart' hb
  exact ⟨_,rfl,h⟩
theorem mt_extendT:MtM X "list.extend" (rExtendT X.K):=by
 intro pins s σ H x vs v us Q I rx rv h
 obtain ⟨l,b,xs,zs,rfl,rfl,hH,hB,hz,q⟩:=h
 cases rx
 obtain ⟨u,rfl,ru⟩:=rv.one
 cases ru
 obtain ⟨z,its,n,r,hl,e⟩:=I.lstM hH
 obtain ⟨its2,r2,⟨o,e2,hc,n2,hd⟩,z2⟩:=I.tuple hB
 obtain ⟨cls,dd,dt,sl⟩:=o
 have hc':cls=.type "tuple" := hc
 have hd':dt=.seq its2.toArray n2:=hd
 subst hc' hd'
 have hl2:=r2.length
 have hsz:its.toArray.size + its2.toArray.size<=sizeLine:=by rw [List.size_toArray,List.size_toArray]; omega
 have hlong:¬ (!its.toArray.isEmpty && Builtin.List.listTooLong (its.toArray.size + its2.toArray.size))=true:=by
  rw [notLongL hsz,Bool.and_false]
  exact Bool.false_ne_true
 refine call_meets F.slot_list_extend ⟨_,e,rfl⟩ F.entry_list_extend (F.args_list_extend_2 _ _)
  (extend_tuple_any l its.toArray n b its2.toArray n2 dd sl hlong (by rw [List.size_toArray]; omega) (by omega)) ⟨e,e2,?_⟩
 refine ⟨.non,_,I.lset (its':=its ++ its2) hH e (by simp) (r.append r2) ?_,rfl,q⟩
 rw [List.length_append]
 omega
theorem range_all_get (bs:List Bool):((List.range bs.length).all fun i=>(bs[i]?).getD true)=bs.all id:=by
 rw [Bool.eq_iff_iff,List.all_eq_true,List.all_eq_true]
 constructor
 ·intro h b hb
  obtain ⟨i,hi,e⟩:=List.getElem_of_mem hb
  have q:=h i (List.mem_range.mpr hi)
  rw [List.getElem?_eq_getElem hi,Option.getD_some,e] at q
  exact q
 ·intro h i hi
  have hi':=List.mem_range.mp hi
  rw [List.getElem?_eq_getElem hi',Option.getD_some]
  exact h _ (List.getElem_mem hi')
theorem call_all (hc:X.calm=true):CallR X (.builtin "all") (fun xs H Q=>∃ (p:Addr) (bs:List Bool),xs=[.ref p]/\SqL X.K H p (bs.map V.bl)/\Q (.bl (bs.all id)) H):=by
 intro pins s σ H xs us Q I r h
 obtain ⟨p,bs,rfl,hq,q⟩:=h
 obtain ⟨u,rfl,rx⟩:=vals1 r
 cases rx
 obtain ⟨its,r',pl,hz⟩:=I.list hq
 have hlen:bs.length=its.length:=by have:=r'.length; rw [List.length_map] at this; exact this
 have hlt:p < s.heap.objs.size:=by obtain ⟨_,e,_⟩:=pl.isList; exact Heap.lt_size e
 refine call_all_walk (wpAny_pyIter_list pl.isList ?_)
 refine ⟨s.heap.objs.size,[s.heap.objs.size,p],[s.heap.objs.size],its.toArray.size,_,_,fun i=>(bs[i]?).getD true,rfl,Walks.list (A:=X.A.in1) (I.ok.hd hc) _ p (Nat.ne_of_lt hlt) its.toArray,
  ⟨⟨_,Heap.get?_push_size _ rfl,rfl,rfl⟩,pl.isList.push _⟩,fun i v s' Q' E' hP hQ=>?_,fun h' tk hk=>?_⟩
 ·have hP':its[i]?=some v:=by simpa using hP
  have hi:i < bs.length:=by
   have:=(List.getElem?_eq_some_iff.mp hP').1
   omega
  obtain ⟨w,hw,rw'⟩:=r'.get (i:=i) (x:=.bl bs[i]) (by rw [List.getElem?_map,List.getElem?_eq_getElem hi]; rfl)
  rw [hP'] at hw
  cases hw
  cases rw'
  simp only [List.getElem?_eq_getElem hi,Option.getD_some] at hQ
  exact wpAny_truthy_bool hQ
 ·have kp:∀ b o,s.heap.get? b=some o->h'.get? b=some o:=fun b o e=>hk b o (fun hm=>by
   rw [List.mem_singleton.mp hm] at e
   exact Nat.lt_irrefl _ (Heap.lt_size e)) (Heap.get?_push_of_some _ e)
  refine ⟨.bl _,H,I.kept kp,rfl,?_⟩
  rw [List.size_toArray,← hlen,range_all_get]
  exact q
theorem call_sum (hc:X.calm=true):CallR X (.builtin "sum") (fun xs H Q=>∃ (p:Addr) (ns:List Int),xs=[.ref p]/\SqL X.K H p (ns.map V.int)/\Q (.int ns.sum) H):=by
 intro pins s σ H xs us Q I r h
 obtain ⟨p,ns,rfl,hq,q⟩:=h
 obtain ⟨u,rfl,rx⟩:=vals1 r
 cases rx
 obtain ⟨its,r',pl,hz⟩:=I.list hq
 have hi:IntsAre its ns:=intsAre_of r'
 obtain ⟨zs,hx⟩:=hi.allInts.items
 have hl':s.heap.IsList p (intItems zs):=hx ▸ pl.isList
 refine sum_intListG (I.ok.hd hc) hl' fun h' tk t' hk=>?_
 have e1:ns=zs.toList.map (·.1):=by
  rw [← nums_intItems,← hx]
  exact (show numsOf its.toArray.toList=ns from hi.numsOf).symm
 have e2:preSum (numAt zs) zs.size=ns.sum:=by
  rw [preSum_eq,List.take_of_length_le (by simp),e1]
 rw [e2]
 exact ⟨.int ns.sum,H,I.kept hk,⟨_,rfl⟩,q⟩
theorem call_isinst:CallR X (.builtin "isinstance") (fun xs H Q=>∃ x T t b,xs=[x,.ty T]/\TyOf X.K H x t/\PySem.W.kitOne X.K t (.type T)=some b/\Q (.bl b) H):=by
 intro pins s σ H xs us Q I r h
 obtain ⟨x,T,t,b,rfl,ty,e,q⟩:=h
 obtain ⟨u,w',rfl,rx,ry⟩:=vals2 r
 cases ry
 exact isinst_ok I rx ty e fun tk=>⟨.bl b,H,I.tok _,rfl,q⟩
end
end L2
namespace L2
open PySem PySem.Spec PyProof.Rows
def met (acc:List Str) (x:Str):List Str:=if acc.any (· == x) then acc else acc ++ [x]
def dd (xs:List Str):List Str:=xs.foldl met []
theorem dd_snoc (xs:List Str) (x:Str):dd (xs ++ [x])=met (dd xs) x:=by
 unfold dd
 rw [List.foldl_append]
 rfl
theorem met_any (acc:List Str) (x k:Str):(met acc x).any (· == k)=(acc.any (· == k) || decide (k=x)):=by
 unfold met
 by_cases h:acc.any (· == x)=true
 ·rw [if_pos h]
  by_cases e:k=x
  ·subst e; rw [h]; simp
  ·simp [e]
 ·rw [if_neg h,List.any_append]
  by_cases e:k=x
  ·subst e; simp
  ·have hb:(x == k)=false:=by simpa [beq_iff_eq] using (fun z:x=k=>e z.symm)
   simp [hb,e]
theorem met_len (acc:List Str) (x:Str):(met acc x).length=if acc.any (· == x)=true then acc.length else acc.length + 1:=by
 unfold met
 split <;> simp
theorem dd_le (xs:List Str):(dd xs).length<=xs.length:=by
 suffices h:∀ acc:List Str,(xs.foldl met acc).length<=acc.length + xs.length by have:=h []; unfold dd; simpa using this
 induction xs with
 | nil=>intro acc; simp
 | cons x r ih =>
  intro acc
  rw [List.foldl_cons]
  have h1:=ih (met acc x)
  have h2:=met_len acc x
  rw [List.length_cons]
  split at h2 <;> omega
theorem dd_nodup {xs:List Str} (h:xs.Nodup):(dd xs).length=xs.length:=by
 suffices g:∀ acc:List Str,(∀ x∈xs,acc.any (· == x)=false)->(xs.foldl met acc).length=acc.length + xs.length by have:=g [] (fun _ _=>rfl); unfold dd; simpa using this
 induction xs with
 | nil=>intro acc _; simp
 | cons x r ih =>
  intro acc ha
  obtain ⟨hx,hr⟩:=List.nodup_cons.mp h
  rw [List.foldl_cons,ih hr (met acc x) (fun y hy=>?_),met_len,ha x List.mem_cons_self]
  ·simp; omega
  ·rw [met_any,ha y (List.mem_cons_of_mem _ hy)]
   have:y≠x:=fun e=>hx (e ▸ hy)
   simp [this]
theorem dd_dup {xs:List Str} (h:¬ xs.Nodup):(dd xs).length < xs.length:=by
 suffices g:∀ acc:List Str,¬ xs.Nodup->(xs.foldl met acc).length < acc.length + xs.length by have:=g [] h; unfold dd; simpa using this
 clear h
 have le:∀ (ys acc:List Str),(ys.foldl met acc).length<=acc.length + ys.length:=fun ys=>by
  induction ys with
  | nil=>intro acc; simp
  | cons x r ih =>
   intro acc
   rw [List.foldl_cons]
   have h1:=ih (met acc x)
   have h2:=met_len acc x
   rw [List.length_cons]
   split at h2 <;> omega
 have mem:∀ (ys acc:List Str) (x:Str),x∈ys->acc.any (· == x)=true->(ys.foldl met acc).length < acc.length + ys.length:=fun ys=>by
  induction ys with
  | nil=>intro acc x hx _; cases hx
  | cons y r ih =>
   intro acc x hx ha
   rw [List.foldl_cons,List.length_cons]
   rcases List.mem_cons.mp hx with e | hx
   ·subst e
    have h1:=le r (met acc x)
    have h2:=met_len acc x
    rw [if_pos ha] at h2
    omega
   ·have h1:=ih (met acc y) x hx (by rw [met_any,ha]; rfl)
    have h2:=met_len acc y
    split at h2 <;> omega
 induction xs with
 | nil=>intro acc h; exact absurd List.nodup_nil h
 | cons x r ih =>
  intro acc h
  rw [List.foldl_cons,List.length_cons]
  by_cases hx:x∈r
  ·have h1:=mem r (met acc x) x hx (by rw [met_any]; simp)
   have h2:=met_len acc x
   split at h2 <;> omega
  ·have h1:=ih (met acc x) (fun hr=>h (List.nodup_cons.mpr ⟨hx,hr⟩))
   have h2:=met_len acc x
   split at h2 <;> omega
abbrev setO (led:Bool):Obj:={ cls:=.type "set", dict:=none,data:=.set #[] 0 (.fresh 0 0 led) }
section
variable {P:Program} {w:World} {A:Around} {R:Result->Shared->Prop} {E:Value->Shared->Prop} {s:Shared}
theorem lay_strs {I:Addr} {fp wr:List Addr} {G:Array GenState->Array GenState->Prop} {n:Nat} {Pv:Nat->Value->Prop} {St:Nat->Shared->Prop} (W:WalksS P w A.in1 I fp wr G n Pv St) (S:Addr) (hS:S ∉ fp) (xs:List Str) (hn:xs.length=n)
  (hv:∀ i v,Pv i v->∃ t,v=.str (xs.getD i "") t) (hb:n + 1 < scanBound) :
  ∀ (k i:Nat) (z:Shared),n - i=k->i<=n->St i z->z.heap.SetOf (strKind P w) S (fun q=>(dd (xs.take i)).any (· == q)) (dd (xs.take i)).length ->
   (∀ z',Moved (S :: wr) G z z'->z'.heap.SetOf (strKind P w) S (fun q=>(dd xs).any (· == q)) (dd xs).length->R (.ok (.ret .none)) z') ->
   codeAny (model P w) A (.builtin "set.update.loop" ⟨[.ref S,.ref I],[]⟩) R z:=by
 have notw:S ∉ wr:=fun h=>hS (W.sub _ h)
 have more:∀ b∈wr,b∈S :: wr:=fun b h=>List.mem_cons_of_mem _ h
 intro k
 induction k with
 | zero =>
  intro i z hk hi st hset fin
  have ei:i=n:=by omega
  subst ei
  refine codeAny_builtin PyProof.Rows.F.entry_set_update_loop ?_
  rw [Around.under_plainId PyProof.Rows.F.plain_set_update_loop _]
  show wpAny _ A.in1 (pyNext (.ref I) >>= _) _ _ z
  refine wpAny_bind (W.done z _ _ st fun z' mv=>?_)
  show wpAny _ A.in1 (ret Value.none) _ _ z'
  refine wpAny_pure (fin z' (mv.mono more) ?_)
  rw [← hn,List.take_length] at hset
  obtain ⟨o,es,ep,t,ho,more'⟩:=hset
  exact ⟨o,es,ep,t,mv.heap S _ notw ho,more'⟩
 | succ k ih =>
  intro i z hk hi st hset fin
  have il:i < n:=by omega
  refine codeAny_builtin PyProof.Rows.F.entry_set_update_loop ?_
  rw [Around.under_plainId PyProof.Rows.F.plain_set_update_loop _]
  show wpAny _ A.in1 (pyNext (.ref I) >>= _) _ _ z
  refine wpAny_bind (W.item i z _ _ il st fun v z' pv st' mv=>?_)
  obtain ⟨t,rfl⟩:=hv i v pv
  have hset':z'.heap.SetOf (strKind P w) S (fun q=>(dd (xs.take i)).any (· == q)) (dd (xs.take i)).length:=by
   obtain ⟨o,es,ep,tb,ho,more'⟩:=hset
   exact ⟨o,es,ep,tb,mv.heap S _ notw ho,more'⟩
  show wpAny _ A.in1 (holding [Value.str (xs.getD i "") t] (setAdd S (.str (xs.getD i "") t)) >>= _) _ _ z'
  refine wpAny_bind (wpAny_holding ?_)
  unfold setAdd
  refine wpAny_holding ?_
  refine wpAny_bind ((strKind P w).pyHash (k:=xs.getD i "") (strKind_is _ _ _ _) ?_)
  have hroom:(dd (xs.take i)).length + 1 < scanBound:=by
   have:=dd_le (xs.take i)
   rw [List.length_take] at this
   omega
  have et:xs.take (i + 1)=xs.take i ++ [xs.getD i ""]:=by
   rw [List.take_succ,List.getD_eq_getElem?_getD,List.getElem?_eq_getElem (by omega)]
   rfl
  refine wpAny_setAddHashed_of (knd:=strKind P w) (s:={ z' with toks:=z'.toks + 1 }) (strKind_is _ _ _ _) rfl hset' hroom fun h' sb s2=>?_
  have hset2:h'.SetOf (strKind P w) S (fun q=>(dd (xs.take (i + 1))).any (· == q)) (dd (xs.take (i + 1))).length :=
   SetOf_congr s2 (fun q=>by rw [et,dd_snoc,met_any]) (by rw [et,dd_snoc,met_len])
  refine wpAny_pure ⟨plainId_quiet PyProof.Rows.F.plain_set_update_loop _,ih (i + 1) _ (by omega) il (W.frame _ z' _ _ st' (Nat.le_succ _) fun b hb' o e=>?_) hset2 fun z'' mv2 s3=>?_⟩
  ·rw [sb.2 b (fun h:b=S=>hS (by rw [← h]; exact hb'))]; exact e
  ·refine fin z'' (Moved.trans W.gtrans ((mv.mono more).then_heap (Nat.le_succ _) fun b o hb' e=>?_) mv2) s3
   rw [sb.2 b (fun h:b=S=>hb' (by rw [h]; exact List.mem_cons_self))]; exact e
theorem strs_at {xs:List Str}:∀ {us:List Value},Vals (xs.map V.str) us->∀ (i:Nat) (v:Value),us[i]?=some v->∃ t,v=.str (xs.getD i "") t:=by
 intro us r i v h
 have hl:=r.length
 rw [List.length_map] at hl
 have hi:i < xs.length:=by have:=(List.getElem?_eq_some_iff.mp h).1; omega
 obtain ⟨u,hu,t,e⟩:=r.get (i:=i) (x:=.str xs[i]) (by rw [List.getElem?_map,List.getElem?_eq_getElem hi]; rfl)
 rw [h] at hu
 cases hu
 refine ⟨t,?_⟩
 rw [e,List.getD_eq_getElem?_getD,List.getElem?_eq_getElem hi]
 rfl
set_option maxHeartbeats 8000000 in
theorem set_strs {l:Addr} {us:List Value} {xs:List Str} {Q:Value->Shared->Prop} (hh:A.handled=none) (hl:s.heap.IsList l us.toArray) (r:Vals (xs.map V.str) us) (hb:xs.length + 1 < scanBound)
  (h:∀ (h':Heap) (tk:Nat),h'.SetOf (strKind P w) s.heap.objs.size (fun q=>(dd xs).any (· == q)) (dd xs).length->(∀ b o,s.heap.get? b=some o->h'.get? b=some o)->Q (.ref s.heap.objs.size) { s with heap:=h',toks:=tk }) :
  wpAny (model P w) A (call (.type "set") [.ref l]) Q E s:=by
 have hlen:xs.length=us.toArray.size:=by have:=r.length; rw [List.length_map] at this; simpa using this
 obtain ⟨cc,tl,hmro⟩:=F.called_set.mro
 have made:=F.called_set.made
 have sub:=F.called_set.sub
 refine wpAny_call (codeAny_of_tree ?_)
 show wpAny _ _ (callAny (.type "set") _) _ _ _
 refine wpAny_pure ⟨Code.quiet_builtin _ (by decide +kernel),codeAny_builtin F.entry_type_call ?_⟩
 rw [Around.under_plain (weight_type_call_type "set" [.ref l] []) rfl]
 have a1:=F.called_set.notType
 have a2:=F.called_set.canCreate
 have a3:=F.typeCall_set_1 (.ref l)
 repeat (any_goals (first | assumption | wp_step))
 refine codeAny_mono (code_set_new_1 (.ref l) (E:=E) (Q₁:=fun ob z=>∃ led:Bool,ob=.ref s.heap.objs.size/\z={ s with heap:=s.heap.push { cls:=.type "set", dict:=none,data:=.set #[] 0 (.fresh 0 0 led) } }) fun led=>⟨led,rfl,rfl⟩) fun res z hres=>?_
 cases res with
 | error e=>exact hres
 | ok fl =>
  cases fl with
  | ret ob =>
   obtain ⟨led,rfl,rfl⟩:=hres
   have gS:(s.heap.push (setO led)).get? s.heap.objs.size=some (setO led):=Heap.get?_push_size _ rfl
   have tS:Shared.TypeIs { s with heap:=s.heap.push (setO led) } (.ref s.heap.objs.size) "set" := ⟨_,gS,rfl⟩
   have b1:=F.called_set.init.lookup
   have b2:=F.called_set.init.bind (.ref s.heap.objs.size)
   repeat (any_goals (first | assumption | wp_step))
   refine codeAny_mono (codeAny_call_builtin (R:=wants (fun v z=>v=.none/\∃ h' tk,z={ s with heap:=h',toks:=tk }/\h'.SetOf (strKind P w) s.heap.objs.size (fun q=>(dd xs).any (· == q)) (dd xs).length/\(∀ b o,s.heap.get? b=some o->h'.get? b=some o)) E)
    F.called_set.init.plain F.entry_set_init (check_set_init_1 tS ?_)) fun res2 z2 hres2=>?_
   ·obtain ⟨ol,gl,cl,nl,dl⟩:=hl
    obtain ⟨ocls,odict,odata,oslots⟩:=ol
    have cl':ocls=.type "list" := cl
    have dl':odata=.seq us.toArray nl:=dl
    subst cl' dl'
    have gl':(s.heap.push (setO led)).get? l=some { cls:=.type "list", dict:=odict,data:=.seq us.toArray nl,slots:=oslots }:=Heap.get?_push_of_some _ gl
    have c1:=F.sub_list_set
    have c2:=F.sub_list_frozenset
    have c3:(Value.type "list" == Value.type "dict")=false:=by decide
    have isl:(s.heap.push (setO led)).IsList l us.toArray:=⟨_,gl',rfl,nl,rfl⟩
    unfold Builtin.«set.__init__» noKeywords Builtin.Frozenset.updateFrom
    generalize hit:pyIter=itf
    wp_walk
    subst hit
    refine wpAny_pyIter_list isl ?_
    refine wpAny_bind (wpAny_runValue ?_)
    have ltl:l < s.heap.objs.size:=Heap.lt_size gl
    have hd3:A.in1.in1.in1.handled=none:=by simp [hh]
    have sz1:(s.heap.push (setO led)).objs.size=s.heap.objs.size + 1:=Heap.size_push ..
    have nel:l≠(s.heap.push (setO led)).objs.size:=by rw [sz1]; exact Nat.ne_of_lt (Nat.lt_succ_of_lt ltl)
    have nin:s.heap.objs.size ∉ [(s.heap.push (setO led)).objs.size,l]:=by
     rw [sz1]
     simp only [List.mem_cons,List.not_mem_nil,or_false,not_or]
     exact ⟨Nat.ne_of_lt (Nat.lt_succ_self _),Nat.ne_of_gt ltl⟩
    refine lay_strs ((Walks.list hd3 _ l nel us.toArray).toS) s.heap.objs.size nin xs hlen (fun i v hv=>strs_at r i v (by simpa using hv)) (by rw [← hlen]; exact hb) (us.toArray.size - 0) 0 _ (by omega) (Nat.zero_le _)
     ⟨⟨_,Heap.get?_push_size _ rfl,rfl,rfl⟩,isl.push _⟩ ?s0 ?fin
    case s0 =>
     have gg:((s.heap.push (setO led)).push { cls:=.type "list_iterator", data:=.fields #[.ref l,.int 0 0] }).get? s.heap.objs.size=some (setO led):=Heap.get?_push_of_some _ gS
     exact SetOf_congr ((setObjOf_fresh (knd:=strKind P w) led).setOf gg (by unfold scanBound; omega)) (fun _=>rfl) rfl
    case fin =>
     intro z mv sz
     obtain ⟨h',g',d',tk',os'⟩:=z
     have e1:g'=s.gens:=mv.gens
     have e2:d'=s.drawn:=mv.drawn
     have e3:os'=s.os:=mv.os
     subst e1 e2 e3
     show wpAny _ _ _ _ _ _
     refine wpAny_pure ?_
     show wpAny _ _ (ret Value.none) _ _ _
     refine wpAny_pure ⟨rfl,h',tk',rfl,sz,fun b o e=>?_⟩
     have lb:=Heap.lt_size e
     have n1:b≠s.heap.objs.size:=Nat.ne_of_lt lb
     have n2:b≠(s.heap.push (setO led)).objs.size:=by rw [sz1]; exact Nat.ne_of_lt (Nat.lt_succ_of_lt lb)
     exact mv.heap b o (by simp only [List.mem_cons,List.not_mem_nil,or_false,not_or]; exact ⟨n1,n2⟩) (Heap.get?_push_of_some _ (Heap.get?_push_of_some _ e))
   ·cases res2 with
    | error e=>exact hres2
    | ok fl2 =>
     cases fl2 with
     | ret v =>
      obtain ⟨rfl,h',tk,rfl,sS,kk⟩:=hres2
      repeat (any_goals (first | assumption | wp_step))
      exact h _ _ sS kk
     | _=>exact hres2.elim
  | _=>exact hres.elim
end
end L2
namespace L2
open PySem PySem.Spec PyProof.Rows
section
variable {X:Cx}
def SetN (P:Program) (w:World) (a:Addr) (n:Nat):HO:=.ext fun h=>∃ S,h.SetOf (strKind P w) a S n
theorem call_set (hc:X.calm=true):CallR X (.type "set") (fun xs H Q=>∃ (p:Addr) (ts:List Str),xs=[.ref p]/\SqL X.K H p (ts.map V.str)/\ts.length<=100/\∀ q,H q=none->Q (.ref q) (upd H q (SetN X.prog X.w q (dd ts).length))):=by
 intro pins s σ H xs us Q I r h
 obtain ⟨p,ts,rfl,hq,h100,q⟩:=h
 obtain ⟨u,rfl,rx⟩:=vals1 r
 cases rx
 obtain ⟨its,r',pl,hz⟩:=I.list hq
 refine set_strs (I.ok.hd hc) pl.isList r' (Nat.lt_of_le_of_lt (Nat.add_le_add_right h100 1) (by decide)) fun h' tk hS hk=>?_
 refine ⟨.ref s.heap.objs.size,_,I.laid hk (Nat.le_refl _) (o:=SetN X.prog X.w s.heap.objs.size (dd ts).length) ?_,rfl,q _ (I.hok.fresh (Nat.le_refl _))⟩
 refine ⟨⟨_,hS⟩,?_,?_⟩
 ·obtain ⟨o,es,ep,t,ho,_⟩:=hS
  exact ⟨o,ho⟩
 ·rintro h1 h2 ⟨S,o,es,ep,t,ho,rest⟩ k
  exact ⟨S,o,es,ep,t,k o ho,rest⟩
theorem call_len_set':CallR X (.builtin "len") (fun xs H Q=>∃ (p:Addr) (n:Nat),xs=[.ref p]/\H p=some (SetN X.prog X.w p n)/\Q (.int n) H):=by
 intro pins s σ H xs us Q I r h
 obtain ⟨p,n,rfl,hp,q⟩:=h
 obtain ⟨u,rfl,rx⟩:=vals1 r
 cases rx
 obtain ⟨⟨S,o,es,ep,t,ho,hex,hd,_,_,hb,hf,hn⟩,_⟩:=I.hok p _ hp
 have h63:(es.size:Int) < 2 ^ 63:=by
  have h1:scanBound < 2 ^ 63:=by decide
  omega
 refine call_len_set ho hex hd hf h63 ⟨.int n,H,I.tok _,⟨s.toks + 1,?_⟩,q⟩
 rw [hn]
def DicK (K:PySem.W.Frag) (P:Program) (w:World) (a:Addr) (kvs:List (Str × Value)):Prop:=(a == sysModules)=false/\∃ o,K.lookup a=some o/\o.IsDictOf (strKind P w) kvs
theorem ix_dicK {a:Addr} {kvs:List (Str × Value)} (hd:DicK X.K X.prog X.w a kvs):IxR X (fun x y H Q=>∃ k u v,x=.ref a/\y=.str k/\valueAt kvs k=some u/\RelV v u/\Q v H):=by
 intro value slice pins s σ H x y v u Q I rx ry h hs
 obtain ⟨k,z,vv,rfl,rfl,hv,rv,q⟩:=h
 cases rx
 obtain ⟨t,rfl⟩:=ry
 obtain ⟨_,o,hk,hdd⟩:=hd
 have D:s.heap.DictOf (strKind X.prog X.w) a kvs:=Heap.dictOf_iff.mpr ⟨o,I.kIn a o hk,hdd⟩
 exact tail_any D.typeIs slot_dict_getitem.lookup (wpAny_getItem_of (strKind_is _ _ k t) D.mapOf hv ⟨vv,H,I.tok _,rv,q⟩) hs
theorem op_notIn_dicK {a:Addr} {kvs:List (Str × Value)} (hd:DicK X.K X.prog X.w a kvs):OpR X (compareOp .NotIn) (fun x y H Q=>∃ k,x=.str k/\y=.ref a/\Q (.bl (!(valueAt kvs k).isSome)) H):=by
 intro pins s σ H x y v u Q I rx ry h
 obtain ⟨k,rfl,rfl,q⟩:=h
 cases ry
 obtain ⟨t,rfl⟩:=rx
 obtain ⟨hs,o,hk,hdd⟩:=hd
 have D:s.heap.DictOf (strKind X.prog X.w) a kvs:=Heap.dictOf_iff.mpr ⟨o,I.kIn a o hk,hdd⟩
 exact wpAny_notIn_of (strKind_is _ _ k t) hs D.mapOf ⟨.bl _,H,I.tok _,rfl,q⟩
end
end L2
namespace L2
open PySem PySem.Spec PyProof.Rows
theorem bt_len:bootBuiltins "len"=some (.builtin "len"):=by decide +kernel
theorem bt_all:bootBuiltins "all"=some (.builtin "all"):=by decide +kernel
theorem bt_sum:bootBuiltins "sum"=some (.builtin "sum"):=by decide +kernel
theorem bt_isinstance:bootBuiltins "isinstance"=some (.builtin "isinstance"):=by decide +kernel
theorem bt_int:bootBuiltins "int"=some (.type "int"):=by decide +kernel
theorem bt_bool:bootBuiltins "bool"=some (.type "bool"):=by decide +kernel
theorem bt_str:bootBuiltins "str"=some (.type "str"):=by decide +kernel
theorem bt_tuple:bootBuiltins "tuple"=some (.type "tuple"):=by decide +kernel
theorem bt_list:bootBuiltins "list"=some (.type "list"):=by decide +kernel
theorem bt_set:bootBuiltins "set"=some (.type "set"):=by decide +kernel
theorem rel_of_abs {v:V} {u:Value} (h:absV u=some v):RelV v u:=by
 cases u <;> simp only [absV,Option.some.injEq,reduceCtorEq] at h <;> subst h <;> first | exact rfl | exact ⟨_,rfl⟩
theorem vals_of_abs:∀ {us:List Value} {xs:List V},us.map absV=xs.map some->Vals xs us
 | [],[],_=>.nil
 | u :: us,x :: xs,h=>by
  rw [List.map_cons,List.map_cons] at h
  injection h with h1 h2
  exact .cons (rel_of_abs h1) (vals_of_abs h2)
 | [],_ :: _,h=>by cases h
 | _ :: _,[],h=>by cases h
theorem sqT_K {K:PySem.W.Frag} {H:Hp} {p:Addr} {od:Option Addr} {it:Array Value} {n:Nat} {sl:Array (Option Value)} {xs:List V} (l:K.lookup p=some ⟨.type "tuple", od,.seq it n,sl⟩) (v:it.toList.map absV=xs.map some) (hz:xs.length<=1000):SqT K H p xs:=by
 have r:=vals_of_abs v
 refine .inr ⟨_,it,n,l,rfl,rfl,?_,r⟩
 have e:xs.length=it.size:=by have:=r.length; simpa using this
 rw [← e]
 exact Nat.le_of_lt (small1000 hz)
theorem dk_nil {P:Program} {w:World}:Pairs (strKind P w) [] []/\∀ e∈([]:List DictEntry),∃ k,(strKind P w).is k e.key=true/\e.hash=(strKind P w).hash k:=⟨.nil,fun _ h=>nomatch h⟩
theorem dk_cons {P:Program} {w:World} {k:Str} {t:Tok} {v:Value} {es:List DictEntry} {kvs:List (Str × Value)} (h:Pairs (strKind P w) es kvs/\∀ e∈es,∃ k,(strKind P w).is k e.key=true/\e.hash=(strKind P w).hash k) :
  Pairs (strKind P w) (⟨hashStr w k,.str k t,v⟩ :: es) ((k,v) :: kvs)/\∀ e∈(⟨hashStr w k,.str k t,v⟩ :: es:List DictEntry),∃ k,(strKind P w).is k e.key=true/\e.hash=(strKind P w).hash k:=by
 refine ⟨.cons (strKind_is _ _ k t) rfl h.1,fun e he=>?_⟩
 rcases List.mem_cons.mp he with z | z
 ·subst z; exact ⟨k,strKind_is _ _ k t,rfl⟩
 ·exact h.2 e z
theorem dicK_mk {P:Program} {w:World} {K:PySem.W.Frag} {p:Addr} {es:Array DictEntry} {ep:Nat} {el:List DictEntry} {kvs:List (Str × Value)} (l:K.lookup p=some ⟨.type "dict", none,.dict es ep,#[]⟩) (e:es.toList=el) (s:(p == sysModules)=false)
  (h:Pairs (strKind P w) el kvs/\∀ e∈el,∃ k,(strKind P w).is k e.key=true/\e.hash=(strKind P w).hash k) (nd:(kvs.map (·.1)).Nodup):DicK K P w p kvs:=by
 subst e
 exact ⟨s,_,l,es,ep,⟨rfl,rfl,rfl⟩,rfl,fun x hx=>h.2 x (by simpa using hx),h.1,nd⟩
theorem vals_none {kvs:List (Str × Value)} {k:Str} (h:∀ e∈kvs,e.1≠k):valueAt kvs k=none:=by
 unfold valueAt
 rw [List.find?_eq_none.mpr fun e he=>by simpa using h e he]
 rfl
end L2
namespace Sen
open PySem
inductive Sn where
 | c0 (y:Bool)
 | mk (x:Str)
 | nt (s:Sn)
 | b2 (o:Fin 4) (s t:Sn)
 | q1 (o:Bool) (x:Str) (s:Sn)
def w2:Fin 4->Str
 | 0 => "and"
 | 1 => "or"
 | 2 => "either"
 | 3 => "if"
namespace Sn
def word:Sn->Str
 | c0 true => "yes"
 | c0 false => "no"
 | mk _ => "mark"
 | nt _ => "not"
 | b2 o _ _=>w2 o
 | q1 true _ _ => "some"
 | q1 false _ _ => "each"
def letters:Sn->List Str
 | mk x=>[x]
 | q1 _ x _=>[x]
 | _=>[]
def parts:Sn->List Sn
 | nt s=>[s]
 | b2 _ s t=>[s,t]
 | q1 _ _ s=>[s]
 | _=>[]
def count:Sn->Nat
 | nt s=>1 + s.count
 | b2 _ s t=>1 + (s.count + t.count)
 | q1 _ _ s=>1 + s.count
 | _=>1
def depth:Sn->Nat
 | nt s=>1 + s.depth
 | b2 _ s t=>1 + max s.depth t.depth
 | q1 _ _ s=>1 + s.depth
 | _=>1
def inO (os:List Str):Sn->Prop
 | c0 _=>True
 | mk x=>x∈os
 | nt s=>s.inO os
 | b2 _ s t=>s.inO os/\t.inO os
 | q1 _ x s=>x∈os/\s.inO os
def op2:Fin 4->Bool->Bool->Bool
 | 0,a,b=>a && b
 | 1,a,b=>a || b
 | 2,a,b=>a != b
 | 3,a,b=>!a || b
def val:Sn->(Str->Bool)->Bool
 | c0 y,_=>y
 | mk x,e=>e x
 | nt s,e=>!s.val e
 | b2 o s t,e=>op2 o (s.val e) (t.val e)
 | q1 true x s,e=>s.val (fun y=>if y=x then true else e y) || s.val (fun y=>if y=x then false else e y)
 | q1 false x s,e=>s.val (fun y=>if y=x then true else e y) && s.val (fun y=>if y=x then false else e y)
theorem val_congr {os:List Str}:∀ (s:Sn) {e e':Str->Bool},s.inO os->(∀ x∈os,e x=e' x)->s.val e=s.val e'
 | c0 _,_,_,_,_=>rfl
 | mk x,_,_,h,q=>q x h
 | nt s,_,_,h,q=>by unfold val; rw [val_congr s h q]
 | b2 o s t,_,_,h,q=>by unfold val; rw [val_congr s h.1 q,val_congr t h.2 q]
 | q1 o x s,e,e',h,q=>by
  have k:∀ b:Bool,s.val (fun y=>if y=x then b else e y)=s.val (fun y=>if y=x then b else e' y):=fun b=>val_congr s h.2 fun y hy=>by
   by_cases hx:y=x
   ·rw [if_pos hx,if_pos hx]
   ·rw [if_neg hx,if_neg hx,q y hy]
  cases o <;> (unfold val; rw [k,k])
theorem depth_pos:∀ s:Sn,1<=s.depth
 | c0 _=>Nat.le_refl _
 | mk _=>Nat.le_refl _
 | nt _=>by unfold depth; omega
 | b2 _ _ _=>by unfold depth; omega
 | q1 _ _ _=>by unfold depth; omega
theorem count_parts:∀ s:Sn,s.count=1 + (s.parts.map count).sum
 | c0 _=>rfl
 | mk _=>rfl
 | nt _=>by simp [count,parts]
 | b2 _ _ _=>by simp [count,parts]
 | q1 _ _ _=>by simp [count,parts]
theorem depth_parts:∀ (s:Sn),∀ t∈s.parts,t.depth + 1<=s.depth
 | c0 _,t,h=>by simp [parts] at h
 | mk _,t,h=>by simp [parts] at h
 | nt s,t,h=>by simp [parts] at h; subst h; show t.depth + 1<=1 + t.depth; omega
 | b2 _ s u,t,h=>by
  simp [parts] at h
  rcases h with h | h
  ·subst h; show t.depth + 1<=1 + max t.depth u.depth; omega
  ·subst h; show t.depth + 1<=1 + max s.depth t.depth; omega
 | q1 _ _ s,t,h=>by simp [parts] at h; subst h; show t.depth + 1<=1 + t.depth; omega
theorem inO_parts {os:List Str}:∀ (s:Sn),s.inO os->∀ t∈s.parts,t.inO os
 | c0 _,_,t,h=>by simp [parts] at h
 | mk _,_,t,h=>by simp [parts] at h
 | nt s,q,t,h=>by simp [parts] at h; subst h; exact q
 | b2 _ s u,q,t,h=>by
  simp [parts] at h
  rcases h with h | h <;> subst h
  ·exact q.1
  ·exact q.2
 | q1 _ _ s,q,t,h=>by simp [parts] at h; subst h; exact q.2
theorem inO_letters {os:List Str}:∀ (s:Sn),s.inO os->∀ x∈s.letters,x∈os
 | c0 _,_,t,h=>by simp [letters] at h
 | mk _,q,t,h=>by simp [letters] at h; subst h; exact q
 | nt s,q,t,h=>by simp [letters] at h
 | b2 _ s u,q,t,h=>by simp [letters] at h
 | q1 _ _ s,q,t,h=>by simp [letters] at h; subst h; exact q.1
end Sn
theorem tb_add_same (b p:Nat):(b + 2 ^ p).testBit p=!b.testBit p:=by rw [Nat.add_comm]; exact Nat.testBit_two_pow_add_eq b p
theorem tb_add_lt {b p j:Nat} (h:j < p):(b + 2 ^ p).testBit j=b.testBit j:=by rw [Nat.add_comm]; exact Nat.testBit_two_pow_add_gt h b
theorem bit0_mod {b p:Nat} (h:b.testBit p=false):b % 2 ^ (p + 1) < 2 ^ p:=by
 have e:b % 2 ^ (p + 1)=b % 2 ^ p + 2 ^ p * (b / 2 ^ p % 2):=by
  rw [Nat.pow_succ]; exact Nat.mod_mul
 have z:b / 2 ^ p % 2=0:=by
  rw [Nat.testBit_eq_decide_div_mod_eq] at h
  have:=of_decide_eq_false h
  omega
 rw [e,z,Nat.mul_zero,Nat.add_zero]
 exact Nat.mod_lt b (Nat.two_pow_pos p)
theorem tb_div (x i j:Nat):x.testBit (i + j)=(x / 2 ^ i).testBit j:=by
 rw [Nat.testBit_div_two_pow,Nat.add_comm]
theorem tb_add_gt {b p j:Nat} (h:p < j) (h0:b.testBit p=false):(b + 2 ^ p).testBit j=b.testBit j:=by
 obtain ⟨k,rfl⟩:∃ k,j=(p + 1) + k:=⟨j - (p + 1),by omega⟩
 rw [tb_div,tb_div]
 have hm:=bit0_mod h0
 have e:(b + 2 ^ p) / 2 ^ (p + 1)=b / 2 ^ (p + 1):=by
  have hp:2 ^ (p + 1)=2 ^ p + 2 ^ p:=by rw [Nat.pow_succ]; omega
  have d:=Nat.div_add_mod b (2 ^ (p + 1))
  have pos:=Nat.two_pow_pos (p + 1)
  rw [Nat.div_eq_iff pos]
  have c:b / 2 ^ (p + 1) * 2 ^ (p + 1)=2 ^ (p + 1) * (b / 2 ^ (p + 1)):=Nat.mul_comm _ _
  rw [c]
  omega
 rw [e]
def putBit (b p:Nat) (v:Bool):Nat:=if b.testBit p=v then b else if v then b + 2 ^ p else b - 2 ^ p
theorem ge_of_bit {b p:Nat} (h:b.testBit p=true):2 ^ p<=b:=Nat.ge_two_pow_of_testBit h
theorem putBit_bit (b p j:Nat) (v:Bool):(putBit b p v).testBit j=if j=p then v else b.testBit j:=by
 unfold putBit
 by_cases h:b.testBit p=v
 ·rw [if_pos h]
  by_cases hj:j=p
  ·rw [if_pos hj,hj,h]
  ·rw [if_neg hj]
 ·rw [if_neg h]
  cases v with
  | true =>
   have h0:b.testBit p=false:=by simpa using h
   rw [if_pos rfl]
   by_cases hj:j=p
   ·subst hj; rw [if_pos rfl,tb_add_same,h0]; rfl
   ·rw [if_neg hj]
    rcases Nat.lt_or_gt_of_ne hj with q | q
    ·exact tb_add_lt q
    ·exact tb_add_gt q h0
  | false =>
   have h1:b.testBit p=true:=by simpa using h
   rw [if_neg Bool.false_ne_true]
   have ge:=ge_of_bit h1
   obtain ⟨c,hc⟩:∃ c,b=c + 2 ^ p:=⟨b - 2 ^ p,by omega⟩
   have h0:c.testBit p=false:=by
    rw [hc,tb_add_same] at h1
    simpa using h1
   have e:b - 2 ^ p=c:=by omega
   rw [e,hc]
   by_cases hj:j=p
   ·subst hj; rw [if_pos rfl,h0]
   ·rw [if_neg hj]
    rcases Nat.lt_or_gt_of_ne hj with q | q
    ·exact (tb_add_lt q).symm
    ·exact (tb_add_gt q h0).symm
theorem putBit_lt {b p n:Nat} {v:Bool} (hb:b < 2 ^ n) (hp:p < n):putBit b p v < 2 ^ n:=by
 refine Nat.lt_pow_two_of_testBit _ fun i hi=>?_
 rw [putBit_bit,if_neg (by omega)]
 exact Nat.testBit_lt_two_pow (Nat.lt_of_lt_of_le hb (Nat.pow_le_pow_right (by decide) hi))
def IsTab (n:Nat) (N:Nat) (f:Nat->Bool):Prop:=∀ b,N.testBit b=(decide (b < 2 ^ n) && f b)
theorem tab_all (n:Nat):IsTab n (2 ^ 2 ^ n - 1) (fun _=>true):=fun b=>by
 rw [Nat.testBit_two_pow_sub_one,Bool.and_true]
theorem tab_zero (n:Nat):IsTab n 0 (fun _=>false):=fun b=>by simp
theorem tab_xor {n N M:Nat} {f g:Nat->Bool} (h:IsTab n N f) (k:IsTab n M g):IsTab n (N ^^^ M) (fun b=>f b != g b):=fun b=>by
 rw [Nat.testBit_xor,h b,k b]
 show _=(decide (b < 2 ^ n) && (f b != g b))
 cases decide (b < 2 ^ n) <;> cases f b <;> cases g b <;> rfl
theorem tab_and {n N M:Nat} {f g:Nat->Bool} (h:IsTab n N f) (k:IsTab n M g):IsTab n (N &&& M) (fun b=>f b && g b):=fun b=>by
 rw [Nat.testBit_and,h b,k b]
 show _=(decide (b < 2 ^ n) && (f b && g b))
 cases decide (b < 2 ^ n) <;> cases f b <;> cases g b <;> rfl
theorem tab_or {n N M:Nat} {f g:Nat->Bool} (h:IsTab n N f) (k:IsTab n M g):IsTab n (N ||| M) (fun b=>f b || g b):=fun b=>by
 rw [Nat.testBit_or,h b,k b]
 show _=(decide (b < 2 ^ n) && (f b || g b))
 cases decide (b < 2 ^ n) <;> cases f b <;> cases g b <;> rfl
theorem tab_congr {n N:Nat} {f g:Nat->Bool} (h:IsTab n N f) (e:∀ b,b < 2 ^ n->f b=g b):IsTab n N g:=fun b=>by
 rw [h b]
 by_cases hb:b < 2 ^ n
 ·rw [e b hb]
 ·rw [decide_eq_false hb]; rfl
theorem tab_lt {n N:Nat} {f:Nat->Bool} (h:IsTab n N f):N < 2 ^ 2 ^ n:=Nat.lt_pow_two_of_testBit _ fun i hi=>by
 rw [h i,decide_eq_false (by omega)]; rfl
theorem tab_block (p:Nat):IsTab (p + 1) ((2 ^ 2 ^ p - 1) * 2 ^ 2 ^ p) (fun b=>b.testBit p):=fun b=>by
 rw [Nat.testBit_mul_two_pow,Nat.testBit_two_pow_sub_one]
 show _=(decide (b < 2 ^ (p + 1)) && b.testBit p)
 have hp:2 ^ (p + 1)=2 ^ p + 2 ^ p:=by rw [Nat.pow_succ]; omega
 by_cases h1:2 ^ p<=b
 ·by_cases h2:b < 2 ^ (p + 1)
  ·have e:b.testBit p=true:=by
    obtain ⟨c,rfl⟩:∃ c,b=c + 2 ^ p:=⟨b - 2 ^ p,by omega⟩
    rw [tb_add_same,Nat.testBit_lt_two_pow (by omega)]
    rfl
   rw [e]
   simp [h1,h2]
   omega
  ·simp [h2]
   intro _
   omega
 ·have e:b.testBit p=false:=Nat.testBit_lt_two_pow (by omega)
  rw [e]
  simp [h1]
theorem tab_double {p m N:Nat} (hp:p < m) (h:IsTab m N (fun b=>b.testBit p)):IsTab (m + 1) (N ||| N * 2 ^ 2 ^ m) (fun b=>b.testBit p):=fun b=>by
 rw [Nat.testBit_or,Nat.testBit_mul_two_pow,h b,h (b - 2 ^ m)]
 show (_ || (_ && (_ && (b - 2 ^ m).testBit p)))=(decide (b < 2 ^ (m + 1)) && b.testBit p)
 have hm:2 ^ (m + 1)=2 ^ m + 2 ^ m:=by rw [Nat.pow_succ]; omega
 by_cases h1:b < 2 ^ m
 ·have h2:b < 2 ^ (m + 1):=by omega
  have h3:¬ 2 ^ m<=b:=by omega
  simp [h1,h2,h3]
 ·have h3:2 ^ m<=b:=by omega
  have e:(b - 2 ^ m).testBit p=b.testBit p:=by
   obtain ⟨c,rfl⟩:∃ c,b=c + 2 ^ m:=⟨b - 2 ^ m,by omega⟩
   rw [tb_add_lt hp,Nat.add_sub_cancel]
  rw [e]
  by_cases h2:b < 2 ^ (m + 1)
  ·have h4:b - 2 ^ m < 2 ^ m:=by omega
   simp [h1,h2,h3,h4]
  ·have h4:¬ b - 2 ^ m < 2 ^ m:=by omega
   simp [h1,h2,h3,h4]
theorem tab_flip {n p N R:Nat} {f:Nat->Bool} (hp:p < n) (h:IsTab n N f) (r:IsTab n R (fun b=>b.testBit p)) :
  IsTab n ((N &&& R) / 2 ^ 2 ^ p ||| (N ^^^ (N &&& R)) * 2 ^ 2 ^ p) (fun b=>f (putBit b p (!b.testBit p))):=fun b=>by
 have o:=tab_and h r
 have z:=tab_xor h o
 have pp:=Nat.two_pow_pos p
 rw [Nat.testBit_or,Nat.testBit_mul_two_pow,Nat.testBit_div_two_pow,o,z]
 dsimp only
 by_cases hb:b < 2 ^ n
 ·cases hbit:b.testBit p with
  | false =>
   have e:putBit b p (!false)=b + 2 ^ p:=by
    unfold putBit
    rw [hbit,if_neg (by decide),if_pos (by decide)]
   have lt:b + 2 ^ p < 2 ^ n:=by rw [← e]; exact putBit_lt hb hp
   rw [e,tb_add_same,hbit]
   by_cases h1:2 ^ p<=b
   ·have e2:(b - 2 ^ p).testBit p=true:=by
     obtain ⟨c,rfl⟩:∃ c,b=c + 2 ^ p:=⟨b - 2 ^ p,by omega⟩
     rw [tb_add_same] at hbit
     rw [Nat.add_sub_cancel]
     simpa using hbit
    rw [e2]
    have h4:b - 2 ^ p < 2 ^ n:=by omega
    simp [hb,lt,h1,h4]
   ·simp [hb,lt,h1]
  | true =>
   have ge:=ge_of_bit hbit
   have e:putBit b p (!true)=b - 2 ^ p:=by
    unfold putBit
    rw [hbit,if_neg (by decide),if_neg (by decide)]
   have e2:(b - 2 ^ p).testBit p=false:=by
    obtain ⟨c,rfl⟩:∃ c,b=c + 2 ^ p:=⟨b - 2 ^ p,by omega⟩
    rw [tb_add_same] at hbit
    rw [Nat.add_sub_cancel]
    simpa using hbit
   rw [e,tb_add_same,hbit,e2]
   have h4:b - 2 ^ p < 2 ^ n:=by omega
   simp [hb,ge,h4]
 ·have h3:¬ b + 2 ^ p < 2 ^ n:=by omega
  have h5:(decide (2 ^ p<=b) && (decide (b - 2 ^ p < 2 ^ n) && (f (b - 2 ^ p) != (f (b - 2 ^ p) && (b - 2 ^ p).testBit p))))=false:=by
   by_cases h1:2 ^ p<=b
   ·by_cases h4:b - 2 ^ p < 2 ^ n
    ·-- b lies at or beyond 2 ^ n,less 2 ^ p below it: its bit p is 1
     have e:(b - 2 ^ p).testBit p=true:=by
      cases q:(b - 2 ^ p).testBit p with
      | true=>rfl
      | false =>
       exfalso
       have l:=putBit_lt (v:=true) h4 hp
       unfold putBit at l
       rw [q,if_neg (by decide),if_pos rfl] at l
       omega
     rw [e]
     cases f (b - 2 ^ p) <;> simp
    ·simp [h4]
   ·simp [h1]
  rw [h5]
  simp [hb,h3]
end Sen
namespace Sen
open PySem
theorem tb0 (a:Nat):a % 2=(a.testBit 0).toNat:=by
 rw [Nat.testBit_zero]
 have:=Nat.mod_two_eq_zero_or_one a
 rcases this with h | h <;> rw [h] <;> rfl
theorem xor_add:∀ (n a b:Nat),a<=n->(a ^^^ b) + 2 * (a &&& b)=a + b
 | 0,a,b,h=>by
  have:a=0:=by omega
  subst this; simp
 | n + 1,a,b,h=>by
  by_cases h0:a=0
  ·subst h0; simp
  ·have ih:=xor_add n (a / 2) (b / 2) (by omega)
   have e1:(a ^^^ b) / 2=a / 2 ^^^ b / 2:=Nat.xor_div_two
   have e2:(a &&& b) / 2=a / 2 &&& b / 2:=Nat.and_div_two
   have d1:=Nat.div_add_mod (a ^^^ b) 2
   have d2:=Nat.div_add_mod (a &&& b) 2
   have d3:=Nat.div_add_mod a 2
   have d4:=Nat.div_add_mod b 2
   rw [e1] at d1
   rw [e2] at d2
   cases ha:a.testBit 0 <;> cases hb:b.testBit 0
   ·have m1:(a ^^^ b) % 2=0:=by rw [tb0,Nat.testBit_xor,ha,hb]; rfl
    have m2:(a &&& b) % 2=0:=by rw [tb0,Nat.testBit_and,ha,hb]; rfl
    have m3:a % 2=0:=by rw [tb0,ha]; rfl
    have m4:b % 2=0:=by rw [tb0,hb]; rfl
    omega
   ·have m1:(a ^^^ b) % 2=1:=by rw [tb0,Nat.testBit_xor,ha,hb]; rfl
    have m2:(a &&& b) % 2=0:=by rw [tb0,Nat.testBit_and,ha,hb]; rfl
    have m3:a % 2=0:=by rw [tb0,ha]; rfl
    have m4:b % 2=1:=by rw [tb0,hb]; rfl
    omega
   ·have m1:(a ^^^ b) % 2=1:=by rw [tb0,Nat.testBit_xor,ha,hb]; rfl
    have m2:(a &&& b) % 2=0:=by rw [tb0,Nat.testBit_and,ha,hb]; rfl
    have m3:a % 2=1:=by rw [tb0,ha]; rfl
    have m4:b % 2=0:=by rw [tb0,hb]; rfl
    omega
   ·have m1:(a ^^^ b) % 2=0:=by rw [tb0,Nat.testBit_xor,ha,hb]; rfl
    have m2:(a &&& b) % 2=1:=by rw [tb0,Nat.testBit_and,ha,hb]; rfl
    have m3:a % 2=1:=by rw [tb0,ha]; rfl
    have m4:b % 2=1:=by rw [tb0,hb]; rfl
    omega
theorem or_add:∀ (n a b:Nat),a<=n->(a ||| b) + (a &&& b)=a + b
 | 0,a,b,h=>by
  have:a=0:=by omega
  subst this; simp
 | n + 1,a,b,h=>by
  by_cases h0:a=0
  ·subst h0; simp
  ·have ih:=or_add n (a / 2) (b / 2) (by omega)
   have e1:(a ||| b) / 2=a / 2 ||| b / 2:=Nat.or_div_two
   have e2:(a &&& b) / 2=a / 2 &&& b / 2:=Nat.and_div_two
   have d1:=Nat.div_add_mod (a ||| b) 2
   have d2:=Nat.div_add_mod (a &&& b) 2
   have d3:=Nat.div_add_mod a 2
   have d4:=Nat.div_add_mod b 2
   rw [e1] at d1
   rw [e2] at d2
   cases ha:a.testBit 0 <;> cases hb:b.testBit 0
   ·have m1:(a ||| b) % 2=0:=by rw [tb0,Nat.testBit_or,ha,hb]; rfl
    have m2:(a &&& b) % 2=0:=by rw [tb0,Nat.testBit_and,ha,hb]; rfl
    have m3:a % 2=0:=by rw [tb0,ha]; rfl
    have m4:b % 2=0:=by rw [tb0,hb]; rfl
    omega
   ·have m1:(a ||| b) % 2=1:=by rw [tb0,Nat.testBit_or,ha,hb]; rfl
    have m2:(a &&& b) % 2=0:=by rw [tb0,Nat.testBit_and,ha,hb]; rfl
    have m3:a % 2=0:=by rw [tb0,ha]; rfl
    have m4:b % 2=1:=by rw [tb0,hb]; rfl
    omega
   ·have m1:(a ||| b) % 2=1:=by rw [tb0,Nat.testBit_or,ha,hb]; rfl
    have m2:(a &&& b) % 2=0:=by rw [tb0,Nat.testBit_and,ha,hb]; rfl
    have m3:a % 2=1:=by rw [tb0,ha]; rfl
    have m4:b % 2=0:=by rw [tb0,hb]; rfl
    omega
   ·have m1:(a ||| b) % 2=1:=by rw [tb0,Nat.testBit_or,ha,hb]; rfl
    have m2:(a &&& b) % 2=1:=by rw [tb0,Nat.testBit_and,ha,hb]; rfl
    have m3:a % 2=1:=by rw [tb0,ha]; rfl
    have m4:b % 2=1:=by rw [tb0,hb]; rfl
    omega
theorem andI (a b:Nat):Builtin.bitAnd (a:Int) (b:Int)=((a &&& b:Nat):Int):=by
 unfold Builtin.bitAnd
 rw [decide_eq_true (Int.natCast_nonneg a),decide_eq_true (Int.natCast_nonneg b)]
 simp
theorem orI (a b:Nat):Builtin.bitOr (a:Int) (b:Int)=((a ||| b:Nat):Int):=by
 rw [PyProof.Rows.bitOr_and,andI]
 have:=or_add a a b (Nat.le_refl _)
 omega
theorem xorI (a b:Nat):Builtin.bitXor (a:Int) (b:Int)=((a ^^^ b:Nat):Int):=by
 rw [PyProof.Rows.bitXor_and,andI]
 have:=xor_add a a b (Nat.le_refl _)
 omega
theorem powI (n:Nat):(2:Int) ^ n=((2 ^ n:Nat):Int):=by simp
end Sen
namespace L2
open PySem PySem.Spec PyProof.Rows Sen
section
variable {X:Cx}
def rShlN:R2:=fun x y H Q=>∃ a n:Nat,x=.int a/\y=.int n/\a < 2 ^ 10000/\n<=10000/\Q (.int (a * 2 ^ n:Nat)) H
theorem op_shlN:OpR X (binaryOp .LShift) rShlN:=by
 intro pins s σ H x y v u Q I rx ry h
 obtain ⟨a,n,rfl,rfl,ha,hn,q⟩:=h
 obtain ⟨t,rfl⟩:=rx
 obtain ⟨t',rfl⟩:=ry
 have hb:Builtin.Int.intBits (a:Int)<=10000:=intBits_le (by simpa using ha)
 refine lshift_int (Int.natCast_nonneg n) ?_ ?_
 ·have e:(2:Int) ^ 27=134217728:=by decide
  rw [e]; omega
 ·rw [Int.toNat_natCast]
  have e:(a:Int) * 2 ^ n=((a * 2 ^ n:Nat):Int):=by rw [powI,Int.natCast_mul]
  rw [e]
  exact ⟨.int (a * 2 ^ n:Nat),H,I.tok _,⟨_,rfl⟩,q⟩
def rShrN:R2:=fun x y H Q=>∃ a n:Nat,x=.int a/\y=.int n/\Q (.int (a / 2 ^ n:Nat)) H
theorem op_shrN:OpR X (binaryOp .RShift) rShrN:=by
 intro pins s σ H x y v u Q I rx ry h
 obtain ⟨a,n,rfl,rfl,q⟩:=h
 refine op_shr pins s σ H _ _ v u Q I rx ry ⟨_,_,rfl,rfl,Int.natCast_nonneg n,?_⟩
 show Q (.int ((a:Int) / 2 ^ (n:Int).toNat)) H
 rw [Int.toNat_natCast,powI,← Int.natCast_ediv]
 exact q
def rN2 (g:Nat->Nat->Nat):R2:=fun x y H Q=>∃ a b:Nat,x=.int a/\y=.int b/\Q (.int (g a b:Nat)) H
theorem op_andN:OpR X (binaryOp .BitAnd) (rN2 (· &&& ·)):=by
 intro pins s σ H x y v u Q I rx ry h
 obtain ⟨a,b,rfl,rfl,q⟩:=h
 exact op_and pins s σ H _ _ v u Q I rx ry ⟨_,_,rfl,rfl,by show Q (.int (Builtin.bitAnd a b)) H; rw [andI]; exact q⟩
theorem op_orN:OpR X (binaryOp .BitOr) (rN2 (· ||| ·)):=by
 intro pins s σ H x y v u Q I rx ry h
 obtain ⟨a,b,rfl,rfl,q⟩:=h
 exact op_or pins s σ H _ _ v u Q I rx ry ⟨_,_,rfl,rfl,by show Q (.int (Builtin.bitOr a b)) H; rw [orI]; exact q⟩
theorem op_xorN:OpR X (binaryOp .BitXor) (rN2 (· ^^^ ·)):=by
 intro pins s σ H x y v u Q I rx ry h
 obtain ⟨a,b,rfl,rfl,q⟩:=h
 exact op_xor pins s σ H _ _ v u Q I rx ry ⟨_,_,rfl,rfl,by show Q (.int (Builtin.bitXor a b)) H; rw [xorI]; exact q⟩
end
end L2
namespace L2
open PySem PySem.Spec PyProof.Rows
def strsOf:List Expr->Option (List Str)
 | []=>some []
 | .Constant (.str x) _ _ :: r=>(strsOf r).map (x :: ·)
 | _=>none
theorem strsOf_cons {e:Expr} {r:List Expr} {xs:List Str} (h:strsOf (e :: r)=some xs):∃ x j p ys,e=.Constant (.str x) j p/\strsOf r=some ys/\xs=x :: ys:=by
 cases e with
 | Constant c j p =>
  cases c with
  | str x =>
   have h':(strsOf r).map (x :: ·)=some xs:=h
   cases hr:strsOf r with
   | none=>rw [hr] at h'; cases h'
   | some ys =>
    rw [hr] at h'
    exact ⟨x,j,p,ys,rfl,rfl,(Option.some.inj h').symm⟩
  | _=>cases h
 | _=>cases h
def tStrs (xs:List Str):TA:=fun _ H Q=>Q (xs.map V.str) H
def tStrL (xs:List Str):TE:=fun _ H Q=>xs.length<=sizeLine/\∀ p,H p=none->Q (.ref p) (upd H p (.lst (xs.map V.str)))
section
variable {X:Cx}
theorem pa_strs {es:List Expr}:∀ {xs:List Str},strsOf es=some xs->PA X es (tStrs xs):=by
 induction es with
 | nil =>
  intro xs h
  cases h
  exact fun pos pins s σ H Q I q=>pa_nil pos pins s σ H Q I q
 | cons e r ih =>
  intro xs h
  obtain ⟨x,j,p,ys,rfl,hr,rfl⟩:=strsOf_cons h
  exact fun pos pins s σ H Q I q=>pa_cons (pe_str (x:=x) (j:=j) (pos:=p)) (ih hr) rfl pos pins s σ H Q I q
theorem pe_strs {es:List Expr} {pos:Pos} {xs:List Str} (h:strsOf es=some xs):PE X (.List es pos) (tStrL xs):=by
 intro pins s σ H Q I q
 refine pe_lst (pa_strs h) pins s σ H Q I ⟨?_,q.2⟩
 rw [List.length_map]; exact q.1
def litAsg:Stmt->Option (Str × List Str)
 | .Assign [.Name x _] (.List es _) _=>(strsOf es).map (x,·)
 | _=>none
theorem litAsg_shape {st:Stmt} {x:Str} {xs:List Str} (h:litAsg st=some (x,xs)):∃ p es q r,st=.Assign [.Name x p] (.List es q) r/\strsOf es=some xs:=by
 unfold litAsg at h
 split at h
 ·rename_i y p es q r
  cases hs:strsOf es with
  | none=>rw [hs] at h; cases h
  | some ys =>
   rw [hs] at h
   cases h
   exact ⟨_,_,_,_,rfl,hs⟩
 ·cases h
theorem ps_litL {i:Nat} {x:Str} {xs:List Str} {st:Stmt} (h:litAsg st=some (x,xs)) (hN:X.N.Nodup) (hi:X.N[i]?=some x) (hx:Loc X.env.scope x) (hf:X.fn x=true\/X.env.scope.names.lookup x=some .local):PS X st (tAsg (tStrL xs) (gName i)):=by
 obtain ⟨p,es,q,r,rfl,hs⟩:=litAsg_shape h
 exact ps_set hN hi hx (pe_strs hs) rfl hf
end
end L2
set_option exponentiation.threshold 20000
namespace Sen
open PySem L2
section
variable {K:PySem.W.Frag}
theorem lt10k {a k:Nat} (h:a < 2 ^ k) (hk:k<=10000):a < 2 ^ 10000:=Nat.lt_of_lt_of_le h (Nat.pow_le_pow_right (by decide) hk)
theorem two8 {n:Nat} (hn:n<=8):2 ^ n<=256:=Nat.pow_le_pow_right (n:=2) (by decide) hn
def spAllRows:Sp:=fun vs H Q _=>∃ n:Nat,vs=[.int n]/\n<=8/\Q (.int ((2 ^ 2 ^ n - 1:Nat):Int)) H
def spRowsWith:Sp:=fun vs H Q _=>∃ p n:Nat,vs=[.int p,.int n]/\p < n/\n<=8/\∀ R:Nat,IsTab n R (fun b=>b.testBit p)->Q (.int R) H
def spFlipped:Sp:=fun vs H Q _=>∃ (N p n:Nat) (f:Nat->Bool),vs=[.int N,.int p,.int n]/\p < n/\n<=8/\IsTab n N f/\∀ R:Nat,IsTab n R (fun b=>f (putBit b p (!b.testBit p)))->Q (.int R) H
def rowBits:List Bool->Nat
 | []=>0
 | b :: r=>b.toNat + 2 * rowBits r
theorem rowBits_lt:∀ r:List Bool,rowBits r < 2 ^ r.length
 | []=>by decide
 | b :: r=>by
  have:=rowBits_lt r
  show b.toNat + 2 * rowBits r < 2 ^ (r.length + 1)
  rw [Nat.pow_succ]
  cases b <;> simp <;> omega
theorem rowBits_bit:∀ (r:List Bool) (i:Nat),(rowBits r).testBit i=(r[i]?).getD false
 | [],i=>by simp [rowBits]
 | b :: r,0=>by
  show (b.toNat + 2 * rowBits r).testBit 0=b
  rw [Nat.testBit_zero]
  cases b <;> simp <;> omega
 | b :: r,i + 1=>by
  show (b.toNat + 2 * rowBits r).testBit (i + 1)=(r[i]?).getD false
  rw [Nat.testBit_succ,← rowBits_bit r i]
  have:(b.toNat + 2 * rowBits r) / 2=rowBits r:=by cases b <;> simp <;> omega
  rw [this]
abbrev rowV (r:List Bool):List V:=r.map fun b=>V.int (b.toNat:Nat)
theorem same_new {H:Hp} {p:Addr} (h:H p=none) (o:HO):Same H (upd H p o):=fun b u q=>by rw [upd_ne (ne_of_none q h)]; exact q
def spCellAt (K:PySem.W.Frag):Sp:=fun vs H Q _=>∃ (l:Addr) (ns:List Int) (i:Int),vs=[.ref l,.int i]/\SqL K H l (ns.map V.int)/\0<=i/\∀ v:Int,Q (.int v) H
def spWhole:Sp:=fun vs H Q _=>∃ i:Int,vs=[.int i]/\Q (.bl true) H
def spDraw:Sp:=fun vs H Q _=>∃ (c:Int) (k:Nat) (b:Int),vs=[.int c,.int k,.int b]/\k<=40/\0 < b/\b < 1073741824/\∀ r:Int,0<=r->r < b->Q (.int r) H
def letts:List Str:=["a", "b", "c", "d", "e", "f", "g", "h"]
structure IsOrd (os:List Str):Prop where
 nd:os.Nodup
 mem:∀ x∈os,x∈letts
 pos:0 < os.length
theorem nodup_le {α:Type} [DecidableEq α]:∀ {xs ys:List α},xs.Nodup->(∀ x∈xs,x∈ys)->xs.length<=ys.length
 | [],_,_,_=>Nat.zero_le _
 | x :: xs,ys,nd,h=>by
  obtain ⟨h1,h2⟩:=List.nodup_cons.mp nd
  have hx:=h x List.mem_cons_self
  have ih:=nodup_le (xs:=xs) (ys:=ys.erase x) h2 fun y hy=>(List.mem_erase_of_ne (fun e:y=x=>h1 (by rw [← e]; exact hy))).mpr (h y (List.mem_cons_of_mem _ hy))
  rw [List.length_erase_of_mem hx] at ih
  have:=List.length_pos_of_mem hx
  rw [List.length_cons]
  omega
theorem lett_at {i:Nat} (h:i < 8):∃ c,atI (Str.ofString "abcdefgh").cps.toList (i:Int)=some c/\letts[i]?=some ⟨#[c]⟩:=by
 match i,h with
 | 0,_=>exact ⟨97,by decide +kernel,by decide +kernel⟩
 | 1,_=>exact ⟨98,by decide +kernel,by decide +kernel⟩
 | 2,_=>exact ⟨99,by decide +kernel,by decide +kernel⟩
 | 3,_=>exact ⟨100,by decide +kernel,by decide +kernel⟩
 | 4,_=>exact ⟨101,by decide +kernel,by decide +kernel⟩
 | 5,_=>exact ⟨102,by decide +kernel,by decide +kernel⟩
 | 6,_=>exact ⟨103,by decide +kernel,by decide +kernel⟩
 | 7,_=>exact ⟨104,by decide +kernel,by decide +kernel⟩
theorem letts_nodup:letts.Nodup:=by decide +kernel
theorem lett_new {i:Nat} {y:Str} (h:letts[i]?=some y):y ∉ letts.take i:=fun hm=>by
 obtain ⟨j,hj⟩:=List.getElem?_of_mem hm
 have hlt:j < i:=by
  have:=(List.getElem?_eq_some_iff.mp hj).1
  rw [List.length_take] at this
  omega
 rw [List.getElem?_take_of_lt hlt] at hj
 have h1:=(List.getElem?_eq_some_iff.mp hj)
 have h2:=(List.getElem?_eq_some_iff.mp h)
 obtain ⟨l1,e1⟩:=h1
 obtain ⟨l2,e2⟩:=h2
 have:=(List.getElem_inj letts_nodup).mp (e1.trans e2.symm)
 omega
theorem IsOrd.le {os:List Str} (h:IsOrd os):os.length<=8:=nodup_le h.nd h.mem
def spOrder:Sp:=fun vs H Q _=>∃ (c:Int) (n:Nat),vs=[.int c,.int n]/\0 < n/\n<=8/\∀ (l:Addr) (H':Hp) (os:List Str),Same H H'->H' l=some (.lst (os.map V.str))->IsOrd os->os.length<=n->Q (.ref l) H'
def IsS (H:Hp):Sn->Addr->Prop
 | .c0 y,p=>H p=some (.tup [.str (Sn.word (.c0 y))])
 | .mk x,p=>H p=some (.tup [.str "mark", .str x])
 | .nt s,p=>∃ q,H p=some (.tup [.str "not", .ref q])/\IsS H s q
 | .b2 o s t,p=>∃ q r,H p=some (.tup [.str (w2 o),.ref q,.ref r])/\IsS H s q/\IsS H t r
 | .q1 o x s,p=>∃ q,H p=some (.tup [.str (if o then "some" else "each"),.str x,.ref q])/\IsS H s q
def Tups (H H':Hp):Prop:=∀ b xs,H b=some (.tup xs)->H' b=some (.tup xs)
theorem Tups.trans {H H1 H2:Hp} (a:Tups H H1) (b:Tups H1 H2):Tups H H2:=fun c o h=>b c o (a c o h)
theorem Tups.of {H H':Hp} (g:Same H H'):Tups H H':=fun b xs h=>g b _ h
theorem Tups.new {H:Hp} {p:Addr} (h:H p=none) (o:HO):Tups H (upd H p o):=fun b u q=>by rw [upd_ne (ne_of_none q h)]; exact q
theorem Tups.lst {H:Hp} {p:Addr} {xs:List V} (h:H p=some (.lst xs)) (o:HO):Tups H (upd H p o):=fun b u q=>by rw [upd_ne (ne_of q h (fun z=>nomatch z))]; exact q
theorem IsS.mono {H H':Hp} (g:Tups H H'):∀ {s:Sn} {p:Addr},IsS H s p->IsS H' s p
 | .c0 y,p,h=>g _ _ h
 | .mk x,p,h=>g _ _ h
 | .nt s,p,⟨q,h,k⟩=>⟨q,g _ _ h,k.mono g⟩
 | .b2 o s t,p,⟨q,r,h,k,l⟩=>⟨q,r,g _ _ h,k.mono g,l.mono g⟩
 | .q1 o x s,p,⟨q,h,k⟩=>⟨q,g _ _ h,k.mono g⟩
theorem q1_word (o:Bool) (x:Str) (s:Sn):Sn.word (.q1 o x s)=if o then Str.ofString "some" else Str.ofString "each" := by cases o <;> rfl
theorem IsS.shape {H:Hp}:∀ {s:Sn} {p:Addr},IsS H s p->∃ qs:List Addr,H p=some (.tup (.str s.word :: (s.letters.map V.str ++ qs.map V.ref)))/\Paired (IsS H) s.parts qs
 | .c0 y,p,h=>⟨[],h,.nil⟩
 | .mk x,p,h=>⟨[],h,.nil⟩
 | .nt s,p,⟨q,h,k⟩=>⟨[q],h,.cons k .nil⟩
 | .b2 o s t,p,⟨q,r,h,k,l⟩=>⟨[q,r],h,.cons k (.cons l .nil)⟩
 | .q1 o x s,p,⟨q,h,k⟩=>⟨[q],by rw [q1_word]; exact h,.cons k .nil⟩
theorem atI_has {α:Type} {xs:List α} {i:Int} (h0:-(xs.length:Int)<=i) (h1:i < xs.length):∃ (j:Nat) (v:α),atI xs i=some v/\xs[j]?=some v:=by
 by_cases h:0<=i
 ·have hj:i.toNat < xs.length:=by omega
  have q:=atI_nat (xs:=xs) (j:=i.toNat) (List.getElem?_eq_getElem hj)
  have e:((i.toNat:Nat):Int)=i:=by omega
  rw [e] at q
  exact ⟨_,_,q,List.getElem?_eq_getElem hj⟩
 ·have hj:(i + xs.length).toNat < xs.length:=by omega
  refine ⟨_,_,?_,List.getElem?_eq_getElem hj⟩
  unfold atI ixN
  rw [if_neg h,if_pos h0]
  show xs[(i + xs.length).toNat]?=_
  exact List.getElem?_eq_getElem hj
def kindsS:List Str:=["mark", "mark", "not", "and", "or", "either", "if", "and", "or", "some", "each", "yes", "no", "mark"]
structure Made (H0 H:Hp) (os:List Str) (m kd:Addr) (ps:List Addr) (d:Nat):Prop where
 old:Same H0 H
 mad:H m=some (.lst (ps.map V.ref))
 kin:H kd=some (.lst (kindsS.map V.str))
 ne:ps≠[]
 all:∀ p∈ps,∃ s,IsS H s p/\s.inO os/\s.depth<=d
theorem Made.push {H0 H:Hp} {os:List Str} {m kd p:Addr} {ps:List Addr} {d:Nat} {xs:List V} (M:Made H0 H os m kd ps d) (fm:H0 m=none) (hp:H p=none) {s:Sn} (hs:IsS (upd H p (.tup xs)) s p) (ho:s.inO os) (hd:s.depth<=d + 1) (hk:m≠kd) :
  Made H0 (upd (upd H p (.tup xs)) m (.lst ((ps ++ [p]).map V.ref))) os m kd (ps ++ [p]) (d + 1):=by
 have hm:m≠p:=ne_of_none M.mad hp
 have hkp:kd≠p:=ne_of_none M.kin hp
 have mad':(upd H p (.tup xs)) m=some (.lst (ps.map V.ref)):=by rw [upd_ne hm]; exact M.mad
 have t1:Tups H (upd H p (.tup xs)):=Tups.new hp _
 have t2:Tups (upd H p (.tup xs)) (upd (upd H p (.tup xs)) m (.lst ((ps ++ [p]).map V.ref))):=Tups.lst mad' _
 refine ⟨fun b o h=>?_,upd_same,?_,by simp,fun q hq=>?_⟩
 ·have h1:=M.old b o h
  rw [upd_ne (ne_of_none h fm),upd_ne (ne_of_none h1 hp)]
  exact h1
 ·rw [upd_ne (Ne.symm hk),upd_ne hkp]; exact M.kin
 ·rcases List.mem_append.mp hq with z | z
  ·obtain ⟨s',q1,q2,q3⟩:=M.all q z
   exact ⟨s',(q1.mono t1).mono t2,q2,by omega⟩
  ·have z':q=p:=by simpa using z
   subst z'
   exact ⟨s,hs.mono t2,ho,hd⟩
def spSentence (K:PySem.W.Frag):Sp:=fun vs H Q _=>∃ (sc ol:Addr) (ns:List Int) (t m:Nat) (os:List Str),vs=[.ref sc,.int t,.int m,.ref ol]/\SqL K H sc (ns.map V.int)/\SqL K H ol (os.map V.str)/\0 < os.length/\os.length<=8/\0 < m/\m<=40/\t<=60 /\
 ∀ (p:Addr) (H':Hp) (s:Sn),Same H H'->IsS H' s p->s.inO os->s.depth<=m->Q (.ref p) H'
theorem pick_letter {os:List Str} (h0:0 < os.length) (r:Int):∃ x,x∈os/\atI (os.map V.str) (r % ((os.map V.str).length:Nat))=some (.str x):=by
 have e:(os.map V.str).length=os.length:=List.length_map _
 have m0:0<=r % ((os.map V.str).length:Nat):=Int.emod_nonneg _ (by omega)
 have m1:r % ((os.map V.str).length:Nat) < ((os.map V.str).length:Nat):=Int.emod_lt_of_pos _ (by omega)
 obtain ⟨j,v,q1,q2⟩:=atI_has (xs:=os.map V.str) (i:=r % ((os.map V.str).length:Nat)) (by omega) m1
 rw [List.getElem?_map] at q2
 cases hx:os[j]? with
 | none=>rw [hx] at q2; cases q2
 | some x =>
  rw [hx] at q2
  cases q2
  exact ⟨x,List.mem_of_getElem? hx,q1⟩
theorem pick_made {ps:List Addr} {i:Int} (h0:-(ps.length:Int)<=i) (h1:i < ps.length):∃ p,p∈ps/\atI (ps.map V.ref) i=some (.ref p):=by
 have e:(ps.map V.ref).length=ps.length:=List.length_map _
 obtain ⟨j,v,q1,q2⟩:=atI_has (xs:=ps.map V.ref) (i:=i) (by omega) (by omega)
 rw [List.getElem?_map] at q2
 cases hx:ps[j]? with
 | none=>rw [hx] at q2; cases q2
 | some x =>
  rw [hx] at q2
  cases q2
  exact ⟨x,List.mem_of_getElem? hx,q1⟩
end
end Sen
namespace L2
open PySem
section
variable {α β:Type} {R S:α->β->Prop}
theorem pd_app:∀ {xs ys:List α} {us ws:List β},Paired R xs us->Paired R ys ws->Paired R (xs ++ ys) (us ++ ws)
 | _,_,_,_,.nil,s=>s
 | _,_,_,_,.cons r t,s=>.cons r (pd_app t s)
theorem pd_imp (f:∀ a b,R a b->S a b):∀ {xs:List α} {us:List β},Paired R xs us->Paired S xs us
 | _,_,.nil=>.nil
 | _,_,.cons r t=>.cons (f _ _ r) (pd_imp f t)
theorem pd_len:∀ {xs:List α} {us:List β},Paired R xs us->xs.length=us.length
 | _,_,.nil=>rfl
 | _,_,.cons _ t=>by rw [List.length_cons,List.length_cons,pd_len t]
theorem pd_at:∀ {xs:List α} {us:List β} {i:Nat} {x:α},Paired R xs us->xs[i]?=some x->∃ u,us[i]?=some u/\R x u
 | _,_,_,_,.nil,e=>by simp at e
 | _,_,0,_,.cons r _,e=>by simp at e; subst e; exact ⟨_,rfl,r⟩
 | _,_,i + 1,x,.cons _ t,e=>by
  obtain ⟨u,h1,h2⟩:=pd_at (i:=i) (x:=x) t (by simpa using e)
  exact ⟨u,by simpa using h1,h2⟩
theorem pd_ta:∀ {xs:List α} {us:List β} {i:Nat} {u:β},Paired R xs us->us[i]?=some u->∃ x,xs[i]?=some x/\R x u
 | _,_,_,_,.nil,e=>by simp at e
 | _,_,0,_,.cons r _,e=>by simp at e; subst e; exact ⟨_,rfl,r⟩
 | _,_,i + 1,x,.cons _ t,e=>by
  obtain ⟨u,h1,h2⟩:=pd_ta (i:=i) (u:=x) t (by simpa using e)
  exact ⟨u,by simpa using h1,h2⟩
theorem take_next {α:Type} {xs:List α} {i:Nat} {x:α} (h:xs[i]?=some x):xs.take (i + 1)=xs.take i ++ [x]:=by
 rw [List.take_succ,h]
 rfl
theorem Same.seqT {K:PySem.W.Frag} {H H':Hp} {a:Addr} {xs:List V} (e:Same H H') (h:SqT K H a xs):SqT K H' a xs:=by
 rcases h with (h | ⟨o,h⟩) | h
 ·exact .inl (.inl (e _ _ h))
 ·exact .inl (.inr ⟨o,e _ _ h⟩)
 ·exact .inr h
theorem Same.new {H:Hp} {p:Addr} (h:H p=none) (o:HO):Same H (upd H p o):=fun b u q=>by rw [upd_ne (ne_of_none q h)]; exact q
theorem Same.over {H H':Hp} {p:Addr} (g:Same H H') (h:H p=none) (o:HO):Same H (upd H' p o):=fun b u q=>by rw [upd_ne (ne_of_none q h)]; exact g b u q
theorem at0 {α:Type} {x:α} {xs:List α}:atI (x :: xs) 0=some x:=atI_nat (j:=0) rfl
theorem at1 {α:Type} {x y:α} {xs:List α}:atI (x :: y :: xs) 1=some y:=atI_nat (j:=1) rfl
theorem at2 {α:Type} {x y z:α} {xs:List α}:atI (x :: y :: z :: xs) 2=some z:=atI_nat (j:=2) rfl
end
section
variable {K:PySem.W.Frag} {a:Addr} {xs:List V} {σ:St} {js:List Nat} {te:TE} {H:Hp} {Qf:Addr->Hp->List V->Prop}
theorem lc_relL (R:V->V->Prop) (hq:SqL K H a xs) (hz:xs.length<=sizeLine)
  (hs:∀ (i:Nat) x H',xs[i]?=some x->Same H H'->te (lcS σ js (some x)) H' fun v H3=>R x v/\Same H H3)
  (me:∀ σ H Q Q',(∀ v H1,Q v H1->Q' v H1)->te σ H Q->te σ H Q')
  (hd:∀ ys H' p,Paired R xs ys->Same H H'->H' p=none->Qf p H' ys) :
  ∃ W:Nat->Nat->List V->Hp->Prop,(∃ m,W 0 m [] H)/\∀ i m ys H,W i m ys H ->
   ((Itl K a).stop i H/\∀ p,H p=none->Qf p H ys) \/
   ((Itl K a).go i H/\ys.length < sizeLine/\∀ x H',(Itl K a).yld i H x H'->tYes (lcS σ js (some x)) H' fun b H2 =>
    if b=true then te (lcS σ js (some x)) H2 fun v H3=>∃ m',m' < m/\W (i + 1) m' (ys ++ [v]) H3 else ∃ m',m' < m/\W (i + 1) m' ys H2):=by
 refine lc_list (fun i ys H'=>Same H H'/\Paired R (xs.take i) ys) ⟨Same.refl _,.nil⟩ hz ?_ ?_ (fun _ _ _ _ h q=>h _ _ q) me ?_
 ·rintro i ys H' hi ⟨g,r⟩
  have:=pd_len r
  rw [List.length_take] at this
  exact ⟨g.seq hq,by omega⟩
 ·rintro i x ys H' hx ⟨g,r⟩
  show te (lcS σ js (some x)) H' fun v H3=>Same H H3/\Paired R (xs.take (i + 1)) (ys ++ [v])
  refine me _ _ _ _ (fun v H3 h3=>⟨h3.2,?_⟩) (hs i x H' hx g)
  rw [take_next hx]
  exact pd_app r (.cons h3.1 .nil)
 ·rintro ys H' p ⟨g,r⟩ hp
  rw [List.take_length] at r
  exact hd ys H' p r g hp
theorem lc_relT (R:V->V->Prop) (hq:SqT K H a xs) (hz:xs.length<=sizeLine)
  (hs:∀ (i:Nat) x H',xs[i]?=some x->Same H H'->te (lcS σ js (some x)) H' fun v H3=>R x v/\Same H H3)
  (me:∀ σ H Q Q',(∀ v H1,Q v H1->Q' v H1)->te σ H Q->te σ H Q')
  (hd:∀ ys H' p,Paired R xs ys->Same H H'->H' p=none->Qf p H' ys) :
  ∃ W:Nat->Nat->List V->Hp->Prop,(∃ m,W 0 m [] H)/\∀ i m ys H,W i m ys H ->
   ((Itt K a).stop i H/\∀ p,H p=none->Qf p H ys) \/
   ((Itt K a).go i H/\ys.length < sizeLine/\∀ x H',(Itt K a).yld i H x H'->tYes (lcS σ js (some x)) H' fun b H2 =>
    if b=true then te (lcS σ js (some x)) H2 fun v H3=>∃ m',m' < m/\W (i + 1) m' (ys ++ [v]) H3 else ∃ m',m' < m/\W (i + 1) m' ys H2):=by
 refine lc_tup (fun i ys H'=>Same H H'/\Paired R (xs.take i) ys) ⟨Same.refl _,.nil⟩ hz ?_ ?_ (fun _ _ _ _ h q=>h _ _ q) me ?_
 ·rintro i ys H' hi ⟨g,r⟩
  have:=pd_len r
  rw [List.length_take] at this
  exact ⟨g.seqT hq,by omega⟩
 ·rintro i x ys H' hx ⟨g,r⟩
  show te (lcS σ js (some x)) H' fun v H3=>Same H H3/\Paired R (xs.take (i + 1)) (ys ++ [v])
  refine me _ _ _ _ (fun v H3 h3=>⟨h3.2,?_⟩) (hs i x H' hx g)
  rw [take_next hx]
  exact pd_app r (.cons h3.1 .nil)
 ·rintro ys H' p ⟨g,r⟩ hp
  rw [List.take_length] at r
  exact hd ys H' p r g hp
theorem pd_map {f:V->V}:∀ {xs ys:List V},Paired (fun x v=>v=f x) xs ys->ys=xs.map f
 | _,_,.nil=>rfl
 | _,_,.cons r t=>by rw [List.map_cons,r,pd_map t]
end
section
variable {X:Cx} {K:PySem.W.Frag} {a:Expr} {ta:TE}
theorem call_isinstK (h:X.K=K):CallR X (.builtin "isinstance") (fun xs H Q=>∃ x T t b,xs=[x,.ty T]/\TyOf K H x t/\PySem.W.kitOne K t (.type T)=some b/\Q (.bl b) H):=by subst h; exact call_isinst
theorem pt_truthK (h:X.K=K) (ha:PE X a ta) (he:∀ whole,isTrue a X.env whole=(do let v ← whole; standAt a.pos; holding [v] (truthy v))):PT X a (fun σ H Q=>ta σ H fun x H'=>∃ k,TruV K x H' k/\Q k H'):=by subst h; exact pt_truth ha he
def SpMono (sp:Sp):Prop:=∀ vs H Q Q' E,(∀ v H1,Q v H1->Q' v H1)->sp vs H Q E->sp vs H Q' E
theorem mono1 {sp:Sp} (m:SpMono sp):∀ σ H Q Q',(∀ v H1,Q v H1->Q' v H1)->tCall sp [] E0 (tCons (tVar 0) tNil) σ H Q->tCall sp [] E0 (tCons (tVar 0) tNil) σ H Q' :=
 fun σ H Q Q' h ⟨v,e,q⟩=>⟨v,e,m _ _ _ _ _ h q⟩
theorem inV_strs (x:Str) (ts:List Str):inV (.str x) (ts.map V.str)=decide (x∈ts):=by
 induction ts with
 | nil=>rfl
 | cons t r ih =>
  have e:inV (.str x) ((t :: r).map V.str)=((t == x) || inV (.str x) (r.map V.str)):=rfl
  rw [e,ih]
  by_cases h:t=x
  ·subst h; simp
  ·have h':¬ x=t:=fun z=>h z.symm
   simp [h,h']
theorem flat_strs (ts:List Str):(ts.map V.str).all flatV=true:=by
 rw [List.all_map,List.all_eq_true]
 exact fun _ _=>rfl
theorem cut_fore {w:V} {rest:List V} {m n:Nat} (h:rest.length=m + n):cutV (w :: rest) (some 1) (some (1 + (m:Int)))=rest.take m:=by
 have e1:HT.sIx (w :: rest).length 0 (some 1)=min 1 (w :: rest).length:=HT.sIx_nat _ _ 1
 have e2:HT.sIx (w :: rest).length (w :: rest).length (some (1 + (m:Int)))=min (1 + m) (w :: rest).length:=by
  have z:(1:Int) + (m:Int)=((1 + m:Nat):Int):=by omega
  rw [z]; exact HT.sIx_nat _ _ _
 have l:(w :: rest).length=m + n + 1:=by rw [List.length_cons,h]
 unfold cutV
 rw [e1,e2,l,Nat.min_eq_left (by omega),Nat.min_eq_left (by omega),List.drop_one,List.tail_cons]
 congr 1
 omega
theorem cut_rear {w:V} {rest:List V} {m n:Nat} (h:rest.length=m + n):cutV (w :: rest) (some (1 + (m:Int))) none=rest.drop m:=by
 have e2:HT.sIx (w :: rest).length 0 (some (1 + (m:Int)))=min (1 + m) (w :: rest).length:=by
  have z:(1:Int) + (m:Int)=((1 + m:Nat):Int):=by omega
  rw [z]; exact HT.sIx_nat _ _ _
 have l:(w :: rest).length=m + n + 1:=by rw [List.length_cons,h]
 unfold cutV
 rw [e2,HT.sIx_none,l,Nat.min_eq_left (by omega),Nat.add_comm 1 m,List.drop_succ_cons,List.take_of_length_le]
 rw [List.length_drop,h]
 omega
theorem cut_tail {w:V} {rest:List V}:cutV (w :: rest) (some 1) none=rest:=by
 have:=cut_rear (w:=w) (rest:=rest) (m:=0) (n:=rest.length) (by omega)
 simpa using this
theorem not_whole1 {w:V} {rest:List V} {i:Int} {o:Option Int} (h:1<=i):¬ (HT.sIx (w :: rest).length 0 (some i)=0/\HT.sIx (w :: rest).length (w :: rest).length o=(w :: rest).length):=by
 rintro ⟨h1,_⟩
 have e:HT.sIx (w :: rest).length 0 (some i)=min i.toNat (w :: rest).length:=by
  have z:=HT.sIx_nat (w :: rest).length 0 i.toNat
  have z2:((i.toNat:Nat):Int)=i:=by omega
  rw [z2] at z
  exact z
 rw [e,List.length_cons] at h1
 omega
end
end L2
namespace Sen
open PySem L2
section
variable {K:PySem.W.Frag}
def Sn.all:Sn->List Str
 | .c0 _=>[]
 | .mk x=>[x]
 | .nt s=>s.all
 | .b2 _ s t=>s.all ++ t.all
 | .q1 _ x s=>x :: s.all
theorem Sn.all_iff:∀ (s:Sn) (x:Str),x∈s.all↔x∈s.letters\/∃ t∈s.parts,x∈t.all
 | .c0 _,x=>by simp [Sn.all,Sn.letters,Sn.parts]
 | .mk y,x=>by simp [Sn.all,Sn.letters,Sn.parts]
 | .nt s,x=>by simp [Sn.all,Sn.letters,Sn.parts]
 | .b2 _ s t,x=>by simp [Sn.all,Sn.letters,Sn.parts]
 | .q1 _ y s,x=>by simp [Sn.all,Sn.letters,Sn.parts]
theorem Sn.inO_iff {os:List Str}:∀ (s:Sn),s.inO os↔∀ x∈s.all,x∈os
 | .c0 _=>by simp [Sn.all,Sn.inO]
 | .mk y=>by simp [Sn.all,Sn.inO]
 | .nt s=>by simp only [Sn.all,Sn.inO]; exact Sn.inO_iff s
 | .b2 _ s t=>by
  simp only [Sn.all,Sn.inO,List.mem_append]
  rw [Sn.inO_iff s,Sn.inO_iff t]
  exact ⟨fun h x hx=>hx.elim (h.1 x) (h.2 x),fun h=>⟨fun x hx=>h x (.inl hx),fun x hx=>h x (.inr hx)⟩⟩
 | .q1 _ y s=>by
  simp only [Sn.all,Sn.inO,List.mem_cons]
  rw [Sn.inO_iff s]
  exact ⟨fun h x hx=>hx.elim (fun e=>by rw [e]; exact h.1) (h.2 x),fun h=>⟨h y (.inl rfl),fun x hx=>h x (.inr hx)⟩⟩
theorem Sn.parts_le:∀ s:Sn,s.parts.length<=2
 | .c0 _=>by simp [Sn.parts]
 | .mk _=>by simp [Sn.parts]
 | .nt _=>by simp [Sn.parts]
 | .b2 _ _ _=>by simp [Sn.parts]
 | .q1 _ _ _=>by simp [Sn.parts]
theorem Sn.letters_le:∀ s:Sn,s.letters.length<=1
 | .c0 _=>by simp [Sn.letters]
 | .mk _=>by simp [Sn.letters]
 | .nt _=>by simp [Sn.letters]
 | .b2 _ _ _=>by simp [Sn.letters]
 | .q1 _ _ _=>by simp [Sn.letters]
def cnt (ss:List Sn):Nat:=(ss.map Sn.count).sum
theorem cnt_cons (s:Sn) (ss:List Sn):cnt (s :: ss)=s.count + cnt ss:=rfl
theorem cnt_app (ss ts:List Sn):cnt (ss ++ ts)=cnt ss + cnt ts:=by
 unfold cnt; rw [List.map_append,List.sum_append]
theorem cnt_parts:∀ ss:List Sn,cnt ss=ss.length + cnt (ss.flatMap Sn.parts)
 | []=>rfl
 | s :: ss=>by
  rw [cnt_cons,List.flatMap_cons,cnt_app,cnt_parts ss,Sn.count_parts s,List.length_cons]
  show 1 + cnt s.parts + _=_
  omega
theorem cnt_len (ss:List Sn):ss.length<=cnt ss:=by rw [cnt_parts]; omega
theorem mem_level {ss:List Sn} {t:Sn}:t∈ss.flatMap Sn.parts↔∃ s∈ss,t∈s.parts:=List.mem_flatMap
def spIsMark:Sp:=fun vs H Q _=>∃ x:Str,vs=[.str x]/\Q (.bl (decide (x∈letts))) H
theorem mono_isMark:SpMono spIsMark:=fun vs H Q Q' E h ⟨x,e,q⟩=>⟨x,e,h _ _ q⟩
def ordB (os:List Str):Bool:=decide (0 < os.length) && (os.all (fun x=>decide (x∈letts)) && decide os.Nodup)
theorem ordB_of {os:List Str} (h:IsOrd os):ordB os=true:=by
 unfold ordB
 rw [decide_eq_true h.pos,decide_eq_true h.nd,List.all_eq_true.mpr fun x hx=>decide_eq_true (h.mem x hx)]
 rfl
def spIsOrder (K:PySem.W.Frag):Sp:=fun vs H Q _=>∃ (l:Addr) (os:List Str),vs=[.ref l]/\SqL K H l (os.map V.str)/\os.length<=100/\∀ H',Same H H'->Q (.bl (ordB os)) H'
def tb_SHAPES:List (Str × Int × Int):=[("yes", 0,0),("no", 0,0),("mark", 1,0),("not", 0,1),("and", 0,2),("or", 0,2),("either", 0,2),("if", 0,2),("some", 1,1),("each", 1,1)]
theorem shape_in (s:Sn):(s.word,((s.letters.length:Nat):Int),((s.parts.length:Nat):Int))∈tb_SHAPES:=by
 cases s with
 | c0 y =>
  cases y
  ·show ((Str.ofString "no", (0:Int),(0:Int)):Str × Int × Int)∈tb_SHAPES
   decide +kernel
  ·show ((Str.ofString "yes", (0:Int),(0:Int)):Str × Int × Int)∈tb_SHAPES
   decide +kernel
 | mk x =>
  show ((Str.ofString "mark", (1:Int),(0:Int)):Str × Int × Int)∈tb_SHAPES
  decide +kernel
 | nt s =>
  show ((Str.ofString "not", (0:Int),(1:Int)):Str × Int × Int)∈tb_SHAPES
  decide +kernel
 | b2 o s t =>
  show ((w2 o,(0:Int),(2:Int)):Str × Int × Int)∈tb_SHAPES
  revert o
  decide +kernel
 | q1 o x s =>
  cases o
  ·show ((Str.ofString "each", (1:Int),(1:Int)):Str × Int × Int)∈tb_SHAPES
   decide +kernel
  ·show ((Str.ofString "some", (1:Int),(1:Int)):Str × Int × Int)∈tb_SHAPES
   decide +kernel
def spLettersOf:Sp:=fun vs H Q _=>∃ (p:Addr) (x:Str) (m n:Nat) (rest:List V),vs=[.ref p]/\H p=some (.tup (.str x :: rest))/\(x,(m:Int),(n:Int))∈tb_SHAPES/\rest.length=m + n/\∀ q,H q=none->Q (.ref q) (upd H q (.tup (rest.take m)))
def spPartsOf:Sp:=fun vs H Q _=>∃ (p:Addr) (x:Str) (m n:Nat) (rest:List V),vs=[.ref p]/\H p=some (.tup (.str x :: rest))/\(x,(m:Int),(n:Int))∈tb_SHAPES/\rest.length=m + n/\∀ q,H q=none->Q (.ref q) (upd H q (.tup (rest.drop m)))
theorem sen_cut {H:Hp} {s:Sn} {p:Addr} (h:IsS H s p):∃ qs:List Addr,H p=some (.tup (.str s.word :: (s.letters.map V.str ++ qs.map V.ref)))/\Paired (IsS H) s.parts qs /\
  (s.letters.map V.str ++ qs.map V.ref).length=s.letters.length + s.parts.length/\(s.letters.map V.str ++ qs.map V.ref).take s.letters.length=s.letters.map V.str/\(s.letters.map V.str ++ qs.map V.ref).drop s.letters.length=qs.map V.ref:=by
 obtain ⟨qs,h1,h2⟩:=h.shape
 have l:=pd_len h2
 refine ⟨qs,h1,h2,by simp [l],?_,?_⟩
 ·rw [List.take_append_of_le_length (by simp),List.take_of_length_le (by simp)]
 ·rw [List.drop_append_of_le_length (by simp),List.drop_of_length_le (by simp)]
  rfl
def spPartsOfAll (K:PySem.W.Frag):Sp:=fun vs H Q _=>∃ (l:Addr) (ss:List Sn) (ps:List Addr),vs=[.ref l]/\SqL K H l (ps.map V.ref)/\Paired (IsS H) ss ps/\ss.length<=400 /\
 ∀ (l':Addr) (H':Hp) (ps':List Addr),Same H H'->H l'=none->H' l'=some (.lst (ps'.map V.ref))->Paired (IsS H') (ss.flatMap Sn.parts) ps'->Q (.ref l') H'
def spShaped:Sp:=fun vs H Q _=>∃ (p:Addr) (s:Sn),vs=[.ref p]/\IsS H s p/\(∀ x∈s.letters,x∈letts)/\∀ H',Same H H'->Q (.bl true) H'
theorem mono_shaped:SpMono spShaped:=fun vs H Q Q' E h ⟨p,s,e,h1,h2,q⟩=>⟨p,s,e,h1,h2,fun H' g=>h _ _ (q H' g)⟩
abbrev VC (sn:Sn) (zs:List Addr):List V:=V.str sn.word :: (sn.letters.map V.str ++ zs.map V.ref)
def spIsSen:Sp:=fun vs H Q _=>∃ (p:Addr) (s:Sn),vs=[.ref p]/\IsS H s p/\s.inO letts/\s.count<=200/\s.depth<=24/\∀ H',Same H H'->Q (.bl true) H'
def spMustOrder (K:PySem.W.Frag):Sp:=fun vs H Q _=>∃ (l:Addr) (os:List Str),vs=[.ref l]/\SqL K H l (os.map V.str)/\IsOrd os/\∀ H',Same H H'->Q .non H'
def spMustSen:Sp:=fun vs H Q _=>∃ (p:Addr) (s:Sn),vs=[.ref p]/\IsS H s p/\s.inO letts/\s.count<=200/\s.depth<=24/\∀ H',Same H H'->Q .non H'
def spTuplesIn:Sp:=fun vs H Q _=>∃ (p:Addr) (s:Sn),vs=[.ref p]/\IsS H s p/\s.count<=400/\∀ (l:Addr) (H':Hp) (ts:List Sn) (ps:List Addr),Same H H'->H l=none->H' l=some (.lst (ps.map V.ref))->Paired (IsS H') ts ps ->
 ts.length=s.count->(∀ x,(∃ t∈ts,x∈t.letters)↔x∈s.all)->Q (.ref l) H'
def spLettersIn:Sp:=fun vs H Q _=>∃ (p:Addr) (s:Sn),vs=[.ref p]/\IsS H s p/\s.count<=400/\∀ (l:Addr) (H':Hp) (xs:List Str),Same H H'->H l=none->H' l=some (.lst (xs.map V.str))->(∀ x,x∈xs↔x∈s.all)->xs.length<=400->Q (.ref l) H'
def spMustMark (K:PySem.W.Frag):Sp:=fun vs H Q _=>∃ (l:Addr) (x:Str) (os:List Str),vs=[.ref l,.str x]/\SqL K H l (os.map V.str)/\x∈os/\Q .non H
def spMustMarks (K:PySem.W.Frag):Sp:=fun vs H Q _=>∃ (l p:Addr) (os:List Str) (s:Sn),vs=[.ref l,.ref p]/\SqL K H l (os.map V.str)/\IsS H s p/\s.count<=400/\s.inO os/\∀ H',Same H H'->Q .non H'
end
end Sen
namespace L2
open PySem
section
variable {K:PySem.W.Frag} {a:Addr} {xs:List V} {σ:St} {js:List Nat} {te:TE} {H:Hp} {Qf:Addr->Hp->List V->Prop}
theorem lc_idxT (R:Nat->V->Prop) (hq:SqT K H a xs) (hz:xs.length<=sizeLine)
  (hs:∀ (i:Nat) x H',xs[i]?=some x->Same H H'->te (lcS σ js (some x)) H' fun v H3=>R i v/\Same H H3)
  (me:∀ σ H Q Q',(∀ v H1,Q v H1->Q' v H1)->te σ H Q->te σ H Q')
  (hd:∀ ys H' p,ys.length=xs.length->(∀ (j:Nat) v,ys[j]?=some v->R j v)->Same H H'->H' p=none->Qf p H' ys) :
  ∃ W:Nat->Nat->List V->Hp->Prop,(∃ m,W 0 m [] H)/\∀ i m ys H,W i m ys H ->
   ((Itt K a).stop i H/\∀ p,H p=none->Qf p H ys) \/
   ((Itt K a).go i H/\ys.length < sizeLine/\∀ x H',(Itt K a).yld i H x H'->tYes (lcS σ js (some x)) H' fun b H2 =>
    if b=true then te (lcS σ js (some x)) H2 fun v H3=>∃ m',m' < m/\W (i + 1) m' (ys ++ [v]) H3 else ∃ m',m' < m/\W (i + 1) m' ys H2):=by
 refine lc_tup (fun i ys H'=>Same H H'/\ys.length=i/\∀ (j:Nat) v,ys[j]?=some v->R j v) ⟨Same.refl _,rfl,fun j v h=>by simp at h⟩ hz ?_ ?_ (fun _ _ _ _ h q=>h _ _ q) me ?_
 ·rintro i ys H' hi ⟨g,e,r⟩
  exact ⟨g.seqT hq,by omega⟩
 ·rintro i x ys H' hx ⟨g,e,r⟩
  show te (lcS σ js (some x)) H' fun v H3=>Same H H3/\(ys ++ [v]).length=i + 1/\∀ (j:Nat) u,(ys ++ [v])[j]?=some u->R j u
  refine me _ _ _ _ (fun v H3 h3=>⟨h3.2,by rw [List.length_append,e]; rfl,fun j u hj=>?_⟩) (hs i x H' hx g)
  by_cases hlt:j < ys.length
  ·rw [List.getElem?_append_left hlt] at hj
   exact r j u hj
  ·rw [List.getElem?_append_right (by omega)] at hj
   have hj0:j - ys.length=0:=by
    have:=(List.getElem?_eq_some_iff.mp hj).1
    rw [List.length_singleton] at this
    omega
   rw [hj0] at hj
   have ev:v=u:=Option.some.inj hj
   have ej:j=i:=by omega
   rw [← ev,ej]
   exact h3.1
 ·rintro ys H' p ⟨g,e,r⟩ hp
  exact hd ys H' p e r g hp
theorem mono2 {sp:Sp} (m:SpMono sp):∀ σ H Q Q',(∀ v H1,Q v H1->Q' v H1)->tCall sp [] E0 (tCons (tVar 0) (tCons (tVar 1) tNil)) σ H Q->tCall sp [] E0 (tCons (tVar 0) (tCons (tVar 1) tNil)) σ H Q' :=
 fun σ H Q Q' h ⟨v,e,u,e',q⟩=>⟨v,e,u,e',m _ _ _ _ _ h q⟩
theorem ne_str {x y:Str} (h:x≠y):¬ decide (V.str x=V.str y)=true:=fun z=>h (by have:=of_decide_eq_true z; injection this)
theorem len1 {α:Type} {ys:List α} (h:ys.length=1):∃ v,ys=[v]:=by
 match ys,h with
 | [v],_=>exact ⟨v,rfl⟩
theorem len2 {α:Type} {ys:List α} (h:ys.length=2):∃ v u,ys=[v,u]:=by
 match ys,h with
 | [v,u],_=>exact ⟨v,u,rfl⟩
end
end L2
namespace Sen
open PySem L2
section
variable {K:PySem.W.Frag}
def ix (os:List Str) (x:Str):Nat:=os.findIdx (· == x)
theorem ix_spec:∀ {os:List Str} {x:Str},x∈os->(os.map V.str).findIdx? (fun z=>eqV z (.str x))=some (ix os x)/\ix os x < os.length/\os[ix os x]?=some x
 | t :: r,x,h=>by
  unfold ix
  rw [List.map_cons,List.findIdx?_cons,List.findIdx_cons]
  show (if (t == x)=true then some 0 else _)=_/\_
  by_cases e:t=x
  ·subst e
   simp
  ·have hb:(t == x)=false:=by simpa using e
   have hr:x∈r:=by
    rcases List.mem_cons.mp h with z | z
    ·exact absurd z.symm e
    ·exact z
   obtain ⟨h1,h2,h3⟩:=ix_spec hr
   rw [hb,h1]
   unfold ix at h2 h3 ⊢
   refine ⟨rfl,?_,?_⟩
   ·show (r.findIdx (· == x)) + 1 < (t :: r).length
    rw [List.length_cons]; omega
   ·show (t :: r)[(r.findIdx (· == x)) + 1]?=some x
    rw [List.getElem?_cons_succ]; exact h3
theorem ix_inj {os:List Str} {x y:Str} (hx:x∈os) (hy:y∈os):ix os y=ix os x↔y=x:=by
 constructor
 ·intro e
  have h1:=(ix_spec hx).2.2
  have h2:=(ix_spec hy).2.2
  rw [e,h1] at h2
  exact (Option.some.inj h2).symm
 ·intro e; rw [e]
def envB (os:List Str) (b:Nat):Str->Bool:=fun x=>b.testBit (ix os x)
theorem val_put {os:List Str} {s:Sn} {x:Str} (hs:s.inO os) (hx:x∈os) (b:Nat) (v:Bool):s.val (fun y=>if y=x then v else envB os b y)=s.val (envB os (putBit b (ix os x) v)):=by
 refine Sn.val_congr s hs fun y hy=>?_
 show _=(putBit b (ix os x) v).testBit (ix os y)
 rw [putBit_bit]
 by_cases e:y=x
 ·rw [if_pos e,if_pos ((ix_inj hx hy).mpr e)]
 ·rw [if_neg e,if_neg (fun z=>e ((ix_inj hx hy).mp z))]
  rfl
theorem putBit_self (b p:Nat):putBit b p (b.testBit p)=b:=by unfold putBit; rw [if_pos rfl]
theorem val_some {os:List Str} {s:Sn} {x:Str} (hs:s.inO os) (hx:x∈os) (b:Nat):(Sn.q1 true x s).val (envB os b)=(s.val (envB os b) || s.val (envB os (putBit b (ix os x) (!b.testBit (ix os x))))):=by
 show (s.val (fun y=>if y=x then true else envB os b y) || s.val (fun y=>if y=x then false else envB os b y))=_
 rw [val_put hs hx,val_put hs hx]
 have z:=putBit_self b (ix os x)
 cases hb:b.testBit (ix os x)
 ·rw [hb] at z; rw [z]; exact Bool.or_comm _ _
 ·rw [hb] at z; rw [z]; rfl
theorem val_each {os:List Str} {s:Sn} {x:Str} (hs:s.inO os) (hx:x∈os) (b:Nat):(Sn.q1 false x s).val (envB os b)=(s.val (envB os b) && s.val (envB os (putBit b (ix os x) (!b.testBit (ix os x))))):=by
 show (s.val (fun y=>if y=x then true else envB os b y) && s.val (fun y=>if y=x then false else envB os b y))=_
 rw [val_put hs hx,val_put hs hx]
 have z:=putBit_self b (ix os x)
 cases hb:b.testBit (ix os x)
 ·rw [hb] at z; rw [z]; exact Bool.and_comm _ _
 ·rw [hb] at z; rw [z]; rfl
def TabOf (os:List Str) (s:Sn) (N:Nat):Prop:=IsTab os.length N (fun b=>s.val (envB os b))
theorem w2_no:∀ o,w2 o≠Str.ofString "no" := by decide +kernel
theorem w2_yes:∀ o,w2 o≠Str.ofString "yes" := by decide +kernel
theorem w2_mark:∀ o,w2 o≠Str.ofString "mark" := by decide +kernel
theorem w2_not:∀ o,w2 o≠Str.ofString "not" := by decide +kernel
theorem w2_some:∀ o,w2 o≠Str.ofString "some" := by decide +kernel
theorem w2_each:∀ o,w2 o≠Str.ofString "each" := by decide +kernel
theorem fin4 (o:Fin 4):o=0\/o=1\/o=2\/o=3:=by
 match o with
 | 0=>exact .inl rfl
 | 1=>exact .inr (.inl rfl)
 | 2=>exact .inr (.inr (.inl rfl))
 | 3=>exact .inr (.inr (.inr rfl))
def spTwo:Sp:=fun vs H Q _=>∃ (o:Fin 4) (N M n:Nat) (f g:Nat->Bool),vs=[.str (w2 o),.int N,.int M,.int ((2 ^ 2 ^ n - 1:Nat):Int)]/\IsTab n N f/\IsTab n M g/\∀ R:Nat,IsTab n R (fun b=>Sn.op2 o (f b) (g b))->Q (.int R) H
def spTable (K:PySem.W.Frag) (d:Nat):Sp:=fun vs H Q _=>∃ (p l:Addr) (s:Sn) (os:List Str),vs=[.ref p,.ref l]/\IsS H s p/\SqL K H l (os.map V.str)/\s.inO os/\os.length<=8/\s.depth<=d/\∀ (N:Nat) (H':Hp),Same H H'->TabOf os s N->Q (.int N) H'
theorem mono_table (d:Nat):SpMono (spTable K d):=fun vs H Q Q' E h ⟨p,l,s,os,e,h1,h2,h3,h4,h5,q⟩=>⟨p,l,s,os,e,h1,h2,h3,h4,h5,fun N H' g z=>h _ _ (q N H' g z)⟩
end
end Sen
namespace L2
open PySem
theorem in2_no {x a b:Str} (h1:x≠a) (h2:x≠b):¬ (if false=true then !inV (.str x) [.str a,.str b] else inV (.str x) [.str a,.str b])=true:=by
 rw [if_neg Bool.false_ne_true]
 have e:=inV_strs x [a,b]
 have e':inV (.str x) [.str a,.str b]=decide (x∈[a,b]):=e
 rw [e']
 intro z
 have:=of_decide_eq_true z
 simp at this
 rcases this with z | z
 ·exact h1 z
 ·exact h2 z
theorem in2_yes {x a b:Str} (h:x=a\/x=b):(if false=true then !inV (.str x) [.str a,.str b] else inV (.str x) [.str a,.str b])=true:=by
 rw [if_neg Bool.false_ne_true]
 have e:=inV_strs x [a,b]
 have e':inV (.str x) [.str a,.str b]=decide (x∈[a,b]):=e
 rw [e']
 refine decide_eq_true ?_
 simp
 exact h
def isTupT (K:PySem.W.Frag):TT:=fun σ H Q=>tCB (fun xs H Q=>∃ x T t b,xs=[x,V.ty T]/\TyOf K H x t/\PySem.W.kitOne K t (.type T)=some b/\Q (.bl b) H) (tCons (tVar 0) (tCons (tC (.ty "tuple")) tNil)) σ H fun x H'=>∃ k,TruV K x H' k/\Q k H'
end L2
namespace Sen
open PySem L2
section
variable {K:PySem.W.Frag}
theorem q1_ne:∀ o:Bool,(if o then Str.ofString "some" else Str.ofString "each")≠Str.ofString "yes" /\ (if o then Str.ofString "some" else Str.ofString "each")≠Str.ofString "no" /\ (if o then Str.ofString "some" else Str.ofString "each")≠Str.ofString "mark" := by decide +kernel
theorem sum_cast:∀ ss:List Sn,(ss.map fun t=>((t.count:Nat):Int)).sum=(((ss.map Sn.count).sum:Nat):Int)
 | []=>rfl
 | s :: ss=>by
  rw [List.map_cons,List.sum_cons,sum_cast ss,List.map_cons,List.sum_cons]
  omega
theorem pick_at {os:List Str} {i:Int} (h0:-(os.length:Int)<=i) (h1:i < os.length):∃ x,x∈os/\atI (os.map V.str) i=some (.str x):=by
 have e:(os.map V.str).length=os.length:=List.length_map _
 obtain ⟨j,v,q1,q2⟩:=atI_has (xs:=os.map V.str) (i:=i) (by omega) (by omega)
 rw [List.getElem?_map] at q2
 cases hx:os[j]? with
 | none=>rw [hx] at q2; cases q2
 | some x =>
  rw [hx] at q2
  cases q2
  exact ⟨x,List.mem_of_getElem? hx,q1⟩
theorem val_set {os:List Str} {s:Sn} {x:Str} {r:List Bool} (hs:s.inO os) (hx:x∈os) (hl:r.length=os.length) (b:Bool):s.val (envB os (rowBits (r.set (ix os x) b)))=s.val (fun y=>if y=x then b else envB os (rowBits r) y):=by
 refine Sn.val_congr s hs fun y hy=>?_
 show (rowBits (r.set (ix os x) b)).testBit (ix os y)=if y=x then b else (rowBits r).testBit (ix os y)
 rw [rowBits_bit,rowBits_bit]
 by_cases e:y=x
 ·rw [if_pos e,e,List.getElem?_set_self (by rw [hl]; exact (ix_spec hx).2.1)]
  rfl
 ·rw [if_neg e,List.getElem?_set_ne (fun z=>e ((ix_inj hx hy).mp z.symm))]
theorem rowV_set (r:List Bool) (i:Nat) (b:Bool):(rowV r).set i (.int (b.toNat:Nat))=rowV (r.set i b):=by
 unfold rowV
 rw [List.map_set]
theorem rowV_at {r:List Bool} {i:Nat} (h:i < r.length):(rowV r)[i]?=some (.int (((r[i]?).getD false).toNat:Nat)):=by
 rw [List.getElem?_map,List.getElem?_eq_getElem h]
 rfl
def spCount (d:Nat):Sp:=fun vs H Q _=>∃ (p:Addr) (s:Sn),vs=[.ref p]/\IsS H s p/\s.depth<=d/\∀ H',Same H H'->Q (.int ((s.count:Nat):Int)) H'
theorem mono_count (d:Nat):SpMono (spCount d):=fun vs H Q Q' E h ⟨p,s,e,h1,h2,q⟩=>⟨p,s,e,h1,h2,fun H' g=>h _ _ (q H' g)⟩
def spShort (K:PySem.W.Frag):Sp:=fun vs H Q _=>∃ (sc ol:Addr) (ns:List Int) (t m:Nat) (os:List Str),vs=[.ref sc,.int t,.int m,.ref ol]/\SqL K H sc (ns.map V.int)/\SqL K H ol (os.map V.str)/\0 < os.length/\os.length<=8/\0 < m/\m<=20/\t<=60 /\
 ∀ (p:Addr) (H':Hp) (s:Sn),Same H H'->IsS H' s p->s.inO os->s.depth<=20->s.count<=60->Q (.ref p) H'
def spValue (K:PySem.W.Frag) (d:Nat):Sp:=fun vs H Q _=>∃ (p l rl:Addr) (s:Sn) (os:List Str) (r:List Bool),vs=[.ref p,.ref l,.ref rl]/\IsS H s p/\SqL K H l (os.map V.str)/\SqL K H rl (rowV r)/\s.inO os/\os.length<=8/\r.length=os.length/\s.depth<=d /\
 ∀ H',Same H H'->Q (.int ((s.val (envB os (rowBits r))).toNat:Nat)) H'
def spLaw (K:PySem.W.Frag):Sp:=fun vs H Q _=>∃ (a:Addr) (ns:List Int),vs=[.ref a]/\SqL K H a (ns.map V.int)/\ns.length<=63/\∀ H',Q (.bl true) H'
end
end Sen
namespace L2
open PySem PySem.Spec PyProof.Rows
section
variable {κ:Type} [DecidableEq κ]
def valV (kvs:List (κ × V)) (k:κ):Option V:=(kvs.find? fun kv=>decide (kv.1=k)).map (·.2)
def putK (kvs:List (κ × V)) (k:κ) (v:V):List (κ × V) :=
 if (kvs.any fun kv=>decide (kv.1=k))=true then kvs.map (fun kv=>if kv.1=k then (kv.1,v) else kv) else kvs ++ [(k,v)]
theorem valV_pos {p:κ × V} {r:List (κ × V)} {k:κ} (e:p.1=k):valV (p :: r) k=some p.2:=by simp [valV,List.find?_cons,e]
theorem valV_neg {p:κ × V} {r:List (κ × V)} {k:κ} (e:¬ p.1=k):valV (p :: r) k=valV r k:=by simp [valV,List.find?_cons,e]
theorem valV_any (k:κ):∀ kvs:List (κ × V),(kvs.any fun kv=>decide (kv.1=k))=(valV kvs k).isSome
 | []=>rfl
 | p :: r=>by
  rw [List.any_cons]
  by_cases e:p.1=k
  ·simp only [valV_pos e,decide_eq_true e,Bool.true_or,Option.isSome_some]
  ·rw [valV_neg e,decide_eq_false e,Bool.false_or]; exact valV_any k r
theorem valV_map (k j:κ) (y:V):∀ kvs:List (κ × V),valV (kvs.map fun kv=>if kv.1=k then (kv.1,y) else kv) j=(valV kvs j).map fun x=>if j=k then y else x
 | []=>rfl
 | p :: r=>by
  have ih:=valV_map k j y r
  rw [List.map_cons]
  by_cases h:p.1=k
  ·rw [if_pos h]
   by_cases e:p.1=j
   ·rw [valV_pos (p:=(p.1,y)) e,valV_pos e,Option.map_some,if_pos (e.symm.trans h)]
   ·rw [valV_neg (p:=(p.1,y)) e,valV_neg e,ih]
  ·rw [if_neg h]
   by_cases e:p.1=j
   ·rw [valV_pos (p:=p) e,valV_pos e,Option.map_some,if_neg (fun z=>h (e.trans z))]
   ·rw [valV_neg (p:=p) e,valV_neg e,ih]
theorem valV_snoc (k j:κ) (y:V):∀ kvs:List (κ × V),valV kvs k=none->valV (kvs ++ [(k,y)]) j=if j=k then some y else valV kvs j
 | [],_=>by
  by_cases e:k=j
  ·rw [if_pos e.symm]; exact valV_pos (p:=(k,y)) e
  ·rw [if_neg (fun z=>e z.symm)]; exact valV_neg (p:=(k,y)) e
 | p :: r,hn=>by
  rw [List.cons_append]
  have hk:¬ p.1=k:=fun z=>by rw [valV_pos z] at hn; cases hn
  rw [valV_neg hk] at hn
  have ih:=valV_snoc k j y r hn
  by_cases e:p.1=j
  ·rw [valV_pos e,valV_pos e,if_neg (fun z=>hk (e.trans z))]
  ·rw [valV_neg e,valV_neg e,ih]
theorem valV_put (kvs:List (κ × V)) (k j:κ) (y:V):valV (putK kvs k y) j=if j=k then some y else valV kvs j:=by
 unfold putK
 by_cases a:(kvs.any fun kv=>decide (kv.1=k))=true
 ·rw [if_pos a,valV_map]
  rw [valV_any] at a
  by_cases e:j=k
  ·obtain ⟨x,hx⟩:=Option.isSome_iff_exists.mp a
   rw [if_pos e,e,hx,Option.map_some,if_pos rfl]
  ·rw [if_neg e]
   cases valV kvs j with
   | none=>rfl
   | some x=>rw [Option.map_some,if_neg e]
 ·rw [if_neg a]
  refine valV_snoc k j y kvs ?_
  rw [valV_any] at a
  cases q:valV kvs k with
  | none=>rfl
  | some x=>rw [q] at a; exact (a rfl).elim
theorem length_putK (kvs:List (κ × V)) (k:κ) (v:V):(putK kvs k v).length<=kvs.length + 1:=by
 unfold putK
 split
 ·rw [List.length_map]; omega
 ·rw [List.length_append,List.length_cons,List.length_nil]; omega
theorem putK_new {kvs:List (κ × V)} {k:κ} (v:V) (h:valV kvs k=none):putK kvs k v=kvs ++ [(k,v)]:=by
 unfold putK
 rw [valV_any,h]
 exact if_neg (by decide)
theorem RelO.isSome_eq {o:Option V} {u:Option Value} (r:RelO o u):o.isSome=u.isSome:=by
 cases o with
 | none=>cases u with
  | none=>rfl
  | some _=>exact (show False from r).elim
 | some _=>cases u with
  | none=>exact (show False from r).elim
  | some _=>rfl
theorem KV.val {kvs:List (κ × V)} {vs:List (κ × Value)} (r:KV kvs vs) (k:κ):RelO (valV kvs k) (valueAt vs k):=by
 unfold KV at r
 induction r with
 | nil=>exact True.intro
 | @cons p q ps qs h t ih =>
  obtain ⟨h1,h2⟩:=h
  by_cases e:p.1=k
  ·have e':q.1=k:=h1.symm.trans e
   have b:valueAt (q :: qs) k=some q.2:=by simp [valueAt,List.find?_cons,e']
   rw [valV_pos e,b]; exact h2
  ·have e':¬ q.1=k:=fun z=>e (h1.trans z)
   have b:valueAt (q :: qs) k=valueAt qs k:=by simp [valueAt,List.find?_cons,e']
   rw [valV_neg e,b]; exact ih
theorem KV.any {kvs:List (κ × V)} {vs:List (κ × Value)} (r:KV kvs vs) (k:κ):(kvs.any fun kv=>decide (kv.1=k))=vs.any fun kv=>decide (kv.1=k):=by
 unfold KV at r
 induction r with
 | nil=>rfl
 | cons h t ih=>rw [List.any_cons,List.any_cons,ih,h.1]
theorem KV.repl {kvs:List (κ × V)} {vs:List (κ × Value)} (r:KV kvs vs) (k:κ) {y:V} {u:Value} (ry:RelV y u) :
  KV (kvs.map fun kv=>if kv.1=k then (kv.1,y) else kv) (vs.map fun kv=>if kv.1=k then (kv.1,u) else kv):=by
 unfold KV at r ⊢
 induction r with
 | nil=>exact .nil
 | @cons p q ps qs h t ih =>
  rw [List.map_cons,List.map_cons]
  refine .cons ?_ ih
  obtain ⟨h1,h2⟩:=h
  by_cases e:p.1=k
  ·rw [if_pos e,if_pos (h1.symm.trans e)]; exact ⟨h1,ry⟩
  ·rw [if_neg e,if_neg (fun z=>e (h1.trans z))]; exact ⟨h1,h2⟩
theorem KV.put {kvs:List (κ × V)} {vs:List (κ × Value)} (r:KV kvs vs) (k:κ) {y:V} {u:Value} (ry:RelV y u):KV (putK kvs k y) (stored vs k u):=by
 unfold putK stored
 rw [r.any k]
 by_cases e:(vs.any fun kv=>decide (kv.1=k))=true
 ·rw [if_pos e,if_pos e]; exact r.repl k ry
 ·rw [if_neg e,if_neg e]; exact Paired.snoc r ⟨rfl,ry⟩
theorem KV.length {kvs:List (κ × V)} {vs:List (κ × Value)} (r:KV kvs vs):kvs.length=vs.length:=Paired.length r
end
theorem kV_is {P:Program} {w:World} {k:Key} {u:Value} (r:RelV (kV k) u):(mixKind P w).is k u=true:=by
 cases k with
 | inl i=>obtain ⟨t,e⟩:=(show ∃ t,u=Value.int i t from r); subst e; exact mixKind_int P w i t
 | inr x=>obtain ⟨t,e⟩:=(show ∃ t,u=Value.str x t from r); subst e; exact mixKind_str P w x t
theorem items_are {P:Program} {w:World}:∀ {ks:List Key} {us:List Value},Vals (ks.map kV) us->ItemsAre (mixKind P w) ks us
 | [],_,r=>by rw [List.map_nil] at r; cases r; exact .nil
 | k :: ks,_,r=>by
  rw [List.map_cons] at r
  cases r with
  | cons h t=>exact .cons (kV_is h) (items_are t)
abbrev KT (H:Hp):List (List Key × V)->List (List Key × Addr × Value)->Prop:=Paired fun p q=>p.1=q.1/\H q.2.1=some (.tup (p.1.map kV))/\RelV p.2 q.2.2
theorem KT.val {H:Hp} {kvs:List (List Key × V)} {xs:List (List Key × Addr × Value)} (r:KT H kvs xs) (k:List Key):RelO (valV kvs k) ((atKey xs k).map (·.2)):=by
 induction r with
 | nil=>exact True.intro
 | @cons p q ps qs h t ih =>
  obtain ⟨h1,_,h2⟩:=h
  by_cases e:p.1=k
  ·have e':q.1=k:=h1.symm.trans e
   have b:atKey (q :: qs) k=some q.2:=by simp [atKey,List.find?_cons,e']
   rw [valV_pos e,b]; exact h2
  ·have e':¬ q.1=k:=fun z=>e (h1.trans z)
   have b:atKey (q :: qs) k=atKey qs k:=by simp [atKey,List.find?_cons,e']
   rw [valV_neg e,b]; exact ih
theorem KT.repl {H:Hp} {kvs:List (List Key × V)} {xs:List (List Key × Addr × Value)} (r:KT H kvs xs) (k:List Key) {y:V} {u:Value} (ry:RelV y u) :
  KT H (kvs.map fun kv=>if kv.1=k then (kv.1,y) else kv) (xs.map (putAt k u)):=by
 induction r with
 | nil=>exact .nil
 | @cons p q ps qs h t ih =>
  rw [List.map_cons,List.map_cons]
  refine .cons ?_ ih
  obtain ⟨h1,h2,h3⟩:=h
  unfold putAt
  by_cases e:p.1=k
  ·rw [if_pos e,if_pos (h1.symm.trans e)]; exact ⟨h1,h2,ry⟩
  ·rw [if_neg e,if_neg (fun z=>e (h1.trans z))]; exact ⟨h1,h2,h3⟩
theorem KT.put {H:Hp} {kvs:List (List Key × V)} {xs:List (List Key × Addr × Value)} (r:KT H kvs xs) (k:List Key) {b:Addr} {y:V} {u:Value} (hb:H b=some (.tup (k.map kV))) (ry:RelV y u) :
  KT H (putK kvs k y) (storedH xs k b u):=by
 have e:(kvs.any fun kv=>decide (kv.1=k))=(atKey xs k).isSome:=by
  rw [valV_any,(r.val k).isSome_eq,Option.isSome_map]
 unfold putK storedH
 rw [e]
 by_cases q:(atKey xs k).isSome=true
 ·rw [if_pos q,if_pos q]; exact r.repl k ry
 ·rw [if_neg q,if_neg q]; exact Paired.snoc r ⟨rfl,hb,ry⟩
theorem KT.keeps {H H':Hp} {kvs:List (List Key × V)} {xs:List (List Key × Addr × Value)} (r:KT H kvs xs) (ht:∀ b ys,H b=some (.tup ys)->H' b=some (.tup ys)):KT H' kvs xs :=
 Paired.mapP r fun _ _ z=>⟨z.1,ht _ _ z.2.1,z.2.2⟩
section
variable {P:Program} {w:World} {H:Hp} {h:Heap} {a:Addr}
theorem rd_of {u:HO} (ok:HOk P w H h) (e:Rd H a u):ObjOk P w H h a u:=e.ok ok
theorem dk_rd {kvs:List (Key × V)} (ok:HOk P w H h) (e:Rd H a (.dK kvs)):kvs.length<=sizeLine/\(a == sysModules)=false/\∃ vs,KV kvs vs/\h.DictOf (mixKind P w) a vs :=
 show ObjOk P w H h a (.dK kvs) from rd_of ok e
theorem dk_of {kvs:List (Key × V)} (ok:HOk P w H h) (e:H a=some (.dK kvs)):kvs.length<=sizeLine/\(a == sysModules)=false/\∃ vs,KV kvs vs/\h.DictOf (mixKind P w) a vs:=dk_rd ok (.inl e)
theorem key_of {ks:List Key} (ok:HOk P w H h) (e:H a=some (.tup (ks.map kV))):(tupleKind (mixKind P w)).is h ks a:=by
 obtain ⟨_,its,r,o,h1,h2,n,h3⟩:=(show ObjOk P w H h a (.tup (ks.map kV)) from ok a _ e)
 exact ⟨o,its.toArray,n,h1,h2,h3,by simpa using items_are r⟩
theorem dt_rd {kvs:List (List Key × V)} (ok:HOk P w H h) (e:Rd H a (.dT kvs)):kvs.length<=sizeLine/\(a == sysModules)=false /\
  ∃ xs,KT H kvs xs/\h.DictOfH (tupleKind (mixKind P w)) a xs:=by
 obtain ⟨z,y,xs,r,o,es,ep,h1,h2,h3,h4,h5⟩:=(show ObjOk P w H h a (.dT kvs) from rd_of ok e)
 refine ⟨z,y,xs,r,o,es,ep,h1,h2,h3,h4,fun x hx=>?_,h5⟩
 have all:∀ {l:List (List Key × V)} {m:List (List Key × Addr × Value)},KT H l m->∀ x∈m,(tupleKind (mixKind P w)).is h x.1 x.2.1:=by
  intro l m q
  induction q with
  | nil=>intro x hx; exact nomatch hx
  | @cons p q ps qs hq t ih =>
   intro x hx
   rcases List.mem_cons.mp hx with e | hx
   ·subst e
    exact key_of ok (by rw [← hq.1]; exact hq.2.1)
   ·exact ih x hx
 exact all r x hx
theorem dt_of {kvs:List (List Key × V)} (ok:HOk P w H h) (e:H a=some (.dT kvs)):kvs.length<=sizeLine/\(a == sysModules)=false /\
  ∃ xs,KT H kvs xs/\h.DictOfH (tupleKind (mixKind P w)) a xs:=dt_rd ok (.inl e)
end
def DGet (H:Hp) (a:Addr) (y:V) (r:Option V):Prop :=
 (∃ kvs k,Rd H a (.dK kvs)/\y=kV k/\r=valV kvs k)\/∃ kvs k b,Rd H a (.dT kvs)/\y=.ref b/\H b=some (.tup (k.map kV))/\r=valV kvs k
def DPut (H:Hp) (a:Addr) (y v:V) (H':Hp):Prop :=
 (∃ kvs k,H a=some (.dK kvs)/\y=kV k/\kvs.length < sizeLine/\H'=upd H a (.dK (putK kvs k v))) \/
 ∃ kvs k b,H a=some (.dT kvs)/\y=.ref b/\H b=some (.tup (k.map kV))/\kvs.length < sizeLine/\H'=upd H a (.dT (putK kvs k v))
theorem DGet.k {H:Hp} {a:Addr} {kvs:List (Key × V)} {k:Key} (e:H a=some (.dK kvs)):DGet H a (kV k) (valV kvs k):=.inl ⟨kvs,k,.inl e,rfl,rfl⟩
theorem DGet.t {H:Hp} {a b:Addr} {kvs:List (List Key × V)} {k:List Key} (e:H a=some (.dT kvs)) (eb:H b=some (.tup (k.map kV))):DGet H a (.ref b) (valV kvs k):=.inr ⟨kvs,k,b,.inl e,rfl,eb,rfl⟩
theorem DPut.k {H:Hp} {a:Addr} {kvs:List (Key × V)} {k:Key} {v:V} (e:H a=some (.dK kvs)) (hl:kvs.length < sizeLine):DPut H a (kV k) v (upd H a (.dK (putK kvs k v))):=.inl ⟨kvs,k,e,rfl,hl,rfl⟩
theorem DPut.t {H:Hp} {a b:Addr} {kvs:List (List Key × V)} {k:List Key} {v:V} (e:H a=some (.dT kvs)) (eb:H b=some (.tup (k.map kV))) (hl:kvs.length < sizeLine) :
  DPut H a (.ref b) v (upd H a (.dT (putK kvs k v))):=.inr ⟨kvs,k,b,e,rfl,eb,hl,rfl⟩
section
variable {X:Cx} {pins:List (Addr × Obj)} {σ:St} {H:Hp} {s:Shared} {a:Addr} {y v:V} {u r:Value} {o:Option V} {A:Around} {E:Value->Shared->Prop}
theorem Inv.big (I:Inv X pins σ H s):sysModules < s.heap.objs.size:=by
 have h:mainGlobals < s.heap.objs.size:=(I.mod.glob.keeps I.bk).lt
 exact Nat.lt_trans (by decide) h
theorem zF1 {Q:Value->Shared->Prop} (hu:A.units + 1 < cLine) (I:Inv X pins σ H s) (g:DGet H a y (some v)) (ry:RelV y u) (h:∀ w' s',Inv X pins σ H s'->RelV v w'->Q w' s') :
  wpAny (model X.prog X.w) A (getItem (.ref a) u) Q E s:=by
 rcases g with ⟨kvs,k,e,ey,l⟩ | ⟨kvs,k,b,e,ey,eb,l⟩
 ·subst ey
  obtain ⟨z,hd,vs,rel,dd⟩:=dk_rd I.hok e
  obtain ⟨w',hw,rw'⟩:=RelO.some_of (v:=v) (o:=valueAt vs k) (by rw [l]; exact rel.val k)
  exact wpAny_getItem_of (kV_is ry) dd.mapOf hw (h w' _ (I.tok _) rw')
 ·subst ey
  cases (show u=Value.ref b from ry)
  obtain ⟨z,hd,xs,rel,dd⟩:=dt_rd I.hok e
  obtain ⟨w',hw,rw'⟩:=RelO.some_of (v:=v) (o:=(atKey xs k).map (·.2)) (by rw [l]; exact rel.val k)
  obtain ⟨p,hp,hp2⟩:=Option.map_eq_some_iff.mp hw
  refine wpAny_getItem_heap (tupleKind_room_in1 hu) (key_of I.hok eb) dd hp ?_
  rw [hp2]
  exact h w' _ (I.tok _) rw'
theorem d_in {Q:Value->Shared->Prop} (hu:A.units + 1 < cLine) (I:Inv X pins σ H s) (g:DGet H a y o) (ry:RelV y u) (h:∀ s',Inv X pins σ H s'->Q (.bool o.isSome) s') :
  wpAny (model X.prog X.w) A (compareOp .In u (.ref a)) Q E s:=by
 rcases g with ⟨kvs,k,e,ey,l⟩ | ⟨kvs,k,b,e,ey,eb,l⟩
 ·subst ey
  obtain ⟨z,hd,vs,rel,dd⟩:=dk_rd I.hok e
  refine wpAny_in_of (kV_is ry) hd dd.mapOf ?_
  rw [← (rel.val k).isSome_eq,← l]
  exact h _ (I.tok _)
 ·subst ey
  cases (show u=Value.ref b from ry)
  obtain ⟨z,hd,xs,rel,dd⟩:=dt_rd I.hok e
  refine wpAny_in_heap (tupleKind_room_in1 hu) (key_of I.hok eb) hd dd ?_
  have q:=(rel.val k).isSome_eq
  rw [Option.isSome_map] at q
  rw [← q,← l]
  exact h _ (I.tok _)
theorem zF5 {Q:Value->Shared->Prop} (hu:A.units + 1 < cLine) (I:Inv X pins σ H s) (g:DGet H a y o) (ry:RelV y u) (h:∀ s',Inv X pins σ H s'->Q (.bool (!o.isSome)) s') :
  wpAny (model X.prog X.w) A (compareOp .NotIn u (.ref a)) Q E s:=by
 rcases g with ⟨kvs,k,e,ey,l⟩ | ⟨kvs,k,b,e,ey,eb,l⟩
 ·subst ey
  obtain ⟨z,hd,vs,rel,dd⟩:=dk_rd I.hok e
  refine wpAny_notIn_of (kV_is ry) hd dd.mapOf ?_
  rw [← (rel.val k).isSome_eq,← l]
  exact h _ (I.tok _)
 ·subst ey
  cases (show u=Value.ref b from ry)
  obtain ⟨z,hd,xs,rel,dd⟩:=dt_rd I.hok e
  refine wpAny_notIn_heap (tupleKind_room_in1 hu) (key_of I.hok eb) hd dd ?_
  have q:=(rel.val k).isSome_eq
  rw [Option.isSome_map] at q
  rw [← q,← l]
  exact h _ (I.tok _)
theorem zB8 {h':Heap} {t':Nat} {ob:HO} (I:Inv X pins σ H s) (mu:Mut (H a)) (hs:Heap.SameBut a s.heap h') (he:∃ q,h'.get? a=some q) (new:ObjOk X.prog X.w (upd H a ob) h' a ob) :
  Inv X pins σ (upd H a ob) { s with heap:=h',toks:=t' } :=
 I.write (x:=a) (e:=a) mu (.inl rfl) (fun b q hb z=>(hs.2 b hb).trans z) he new
theorem dk_new {P:Program} {w:World} {H':Hp} {h':Heap} {kvs:List (Key × V)} {vs:List (Key × Value)} (z:kvs.length<=sizeLine) (hd:(a == sysModules)=false) (rel:KV kvs vs) (dd:h'.DictOf (mixKind P w) a vs) :
  ObjOk P w H' h' a (.dK kvs):=⟨z,hd,vs,rel,dd⟩
theorem zF2 {H':Hp} {Q:Unit->Shared->Prop} (hu:A.units + 1 < cLine) (I:Inv X pins σ H s) (g:DPut H a y v H') (ry:RelV y u) (rv:RelV v r) (h:∀ s',Inv X pins σ H' s'->Q () s') :
  wpAny (model X.prog X.w) A (setItem (.ref a) u r) Q E s:=by
 rcases g with ⟨kvs,k,e,ey,l,eH⟩ | ⟨kvs,k,b,e,ey,eb,l,eH⟩
 ·subst ey eH
  obtain ⟨z,hd,vs,rel,dd⟩:=dk_of I.hok e
  have hz:vs.length<=sizeLine:=by rw [← rel.length]; exact z
  have hl:(putK kvs k v).length<=sizeLine:=by have:=length_putK kvs k v; omega
  refine wpAny_setItem_pairs (hsz:=hz) (kV_is ry) dd fun h' dd' hs=>h _ ?_
  have he:∃ q,h'.get? a=some q:=let ⟨q,_,_,hq,_⟩:=dd'; ⟨q,hq⟩
  exact zB8 I (by rw [e]; exact True.intro) hs he (dk_new hl hd (rel.put k rv) dd')
 ·subst ey eH
  cases (show u=Value.ref b from ry)
  obtain ⟨z,hd,xs,rel,dd⟩:=dt_of I.hok e
  have hz:xs.length<=sizeLine:=by rw [← Paired.length rel]; exact z
  have hl:(putK kvs k v).length<=sizeLine:=by have:=length_putK kvs k v; omega
  refine wpAny_setItem_heap (hsz:=hz) (tupleKind_room_in1 hu) (key_of I.hok eb) dd fun h' dd' hs=>h _ ?_
  obtain ⟨q,es,ep,hq,h2,h3,h4,_,h5⟩:=dd'
  refine zB8 I (by rw [e]; exact True.intro) hs ⟨q,hq⟩ ⟨hl,hd,_,(rel.put k eb rv).keeps fun c ys ec=>?_,q,es,ep,hq,h2,h3,h4,h5⟩
  rw [upd_ne (ne_of ec e (fun z=>nomatch z))]
  exact ec
end
section
variable {X:Cx} {pins:List (Addr × Obj)} {σ:St} {H:Hp} {s:Shared} {a:Addr} {kvs:List (Key × V)} {k:Key} {u:Value} {A:Around} {E:Value->Shared->Prop}
end
def NoSl (i:Expr):Prop:=∀ ov iv,subscripted i false ov iv=operate [ov,iv] (getItem ov iv)
theorem subD_of {prog:Program} {w:World} {A:Around} {E:Value->Shared->Prop} {s:Shared} {env:Env} {value slice:Expr} {pos:Pos} {T id:String} {Q:Value->Shared->Prop}
  (hl:typeLookup (.type T) "__getitem__"=pure (some (.builtin id))) (hs:NoSl slice)
  (h:wpAny (model prog w) A (eval value env) (fun o s₁=>wpAny (model prog w) A (eval slice env) (fun i s₂=>s₂.TypeIs o T/\wpAny (model prog w) A (getItem o i) Q E s₂) E s₁) E s) :
  wpAny (model prog w) A (eval (.Subscript value slice pos) env) Q E s:=by
 refine Subscript_ (wpAny_mono h (fun o s₁ h₁=>wpAny_mono h₁ (fun i s₂ h₂=>?_) fun _ _ x=>x) fun _ _ x=>x)
 obtain ⟨hT,h₂⟩:=h₂
 unfold subscriptTail
 refine wpAny_bind ?_
 rw [getitemInPython_of_ne hT.not_modules]
 refine wpAny_bind (wpAny_specialOf hT hl ?_)
 have fin:wpAny (model prog w) A (subscripted slice false o i) (fun r s₃=>wpAny (model prog w) A (letTemporaryGo value o r >>= fun _=>pure r) Q E s₃) E s₂:=by
  rw [hs o i]
  exact wpAny_operating (wpAny_mono h₂ (fun r s₃ h₃=>wpAny_bind (wpAny_letTemporaryGo (wpAny_pure h₃))) fun _ _ x=>x)
 first
  | exact wpAny_pure (wpAny_bind fin)
  | exact wpAny_bind (wpAny_pure (wpAny_bind fin))
  | exact wpAny_bind fin
theorem dict_typeIs {X:Cx} {pins:List (Addr × Obj)} {σ:St} {H:Hp} {s:Shared} {a:Addr} {y:V} {o:Option V} (I:Inv X pins σ H s) (g:DGet H a y o):s.TypeIs (.ref a) "dict" := by
 rcases g with ⟨kvs,k,e,_,_⟩ | ⟨kvs,k,b,e,_,_,_⟩
 ·obtain ⟨_,_,vs,_,dd⟩:=dk_rd I.hok e
  exact dd.typeIs
 ·obtain ⟨_,_,xs,_,dd⟩:=dt_rd I.hok e
  exact dd.typeIs
def tDGet (td ty:TE):TE:=fun σ H Q=>td σ H fun x H1=>ty σ H1 fun y H2=>∃ a v,x=.ref a/\DGet H2 a y (some v)/\Q v H2
def tDIn (ty td:TE):TE:=fun σ H Q=>ty σ H fun y H1=>td σ H1 fun x H2=>∃ a o,x=.ref a/\DGet H2 a y o/\Q (.bl o.isSome) H2
def tDNotIn (ty td:TE):TE:=fun σ H Q=>ty σ H fun y H1=>td σ H1 fun x H2=>∃ a o,x=.ref a/\DGet H2 a y o/\Q (.bl (!o.isSome)) H2
def sDPut (td ty tv:TE):TS:=fun D σ H=>tv σ H fun v H1=>td σ H1 fun x H2=>ty σ H2 fun y H3=>∃ a H4,x=.ref a/\DPut H3 a y v H4/\D.nx σ H4
section
variable {X:Cx} {o i e value:Expr} {pos pos' tpos:Pos} {td ty tv:TE}
theorem pe_dget (hu:X.A.units + 1 < cLine) (ho:PE X o td) (hi:PE X i ty) (hs:NoSl i):PE X (.Subscript o i pos) (tDGet td ty):=by
 intro pins s σ H Q I h
 refine subD_of PySem.F.slot_dict_getitem.lookup hs (thn (ho pins s σ H _ I h) fun u s1 ⟨x,H1,I1,rx,q1⟩=>thn (hi pins s1 σ H1 _ I1 q1) fun iv s2 ⟨y,H2,I2,ry,a,v,ex,g,q2⟩=>?_)
 subst ex
 obtain rfl:u=Value.ref a:=rx
 exact ⟨dict_typeIs I2 g,zF1 hu I2 g ry fun w' s3 I3 rw'=>⟨v,H2,I3,rw',q2⟩⟩
theorem pc_din (hu:X.A.units + 1 < cLine) (hi:PE X i ty) (ho:PE X o td):PC X .In i o (tDIn ty td):=by
 intro pins s σ H Q I h
 refine thn (hi pins s σ H _ I h) fun iv s1 ⟨y,H1,I1,ry,q1⟩=>thn (ho pins s1 σ H1 _ I1 q1) fun u s2 ⟨x,H2,I2,rx,a,ov,ex,g,q2⟩=>?_
 subst ex
 obtain rfl:u=Value.ref a:=rx
 exact d_in hu I2 g ry fun s3 I3=>⟨.bl ov.isSome,H2,I3,rfl,q2⟩
theorem pc_dnotin (hu:X.A.units + 1 < cLine) (hi:PE X i ty) (ho:PE X o td):PC X .NotIn i o (tDNotIn ty td):=by
 intro pins s σ H Q I h
 refine thn (hi pins s σ H _ I h) fun iv s1 ⟨y,H1,I1,ry,q1⟩=>thn (ho pins s1 σ H1 _ I1 q1) fun u s2 ⟨x,H2,I2,rx,a,ov,ex,g,q2⟩=>?_
 subst ex
 obtain rfl:u=Value.ref a:=rx
 exact zF5 hu I2 g ry fun s3 I3=>⟨.bl (!ov.isSome),H2,I3,rfl,q2⟩
theorem ps_dput (hu:X.A.units + 1 < cLine) (ho:PE X o td) (hi:PE X i ty) (hv:PE X value tv) (hs:swapsWith value (some (.Subscript o i pos')) pos.line X.env=pure false) :
  PS X (.Assign [.Subscript o i pos'] value pos) (sDPut td ty tv):=by
 intro pins s σ H D I h
 refine wpAny_Assign_Subscript (thn (hv pins s σ H _ I h) fun r s1 ⟨v,H1,I1,rv,q1⟩=>thn (ho pins s1 σ H1 _ I1 q1) fun u s2 ⟨x,H2,I2,rx,q2⟩=>thn (hi pins s2 σ H2 _ I2 q2) fun iv s3 ⟨y,H3,I3,ry,a,H4,ex,g,q3⟩=>?_) hs
 subst ex
 obtain rfl:u=Value.ref a:=rx
 exact zF2 hu I3 g ry rv fun s4 I4=>⟨σ,H4,I4,q3⟩
end
theorem dk_empty {P:Program} {w:World} {H:Hp} (h:Heap) (hb:sysModules < h.objs.size):ObjOk P w H (h.push { cls:=.type "dict", data:=.dict #[] }) h.objs.size (.dK []) :=
 ⟨Nat.zero_le _,beq_eq_false_iff_ne.mpr (Ne.symm (Nat.ne_of_lt hb)),[],.nil,Heap.DictOf.new h⟩
theorem dt_empty {P:Program} {w:World} {H:Hp} (h:Heap) (hb:sysModules < h.objs.size):ObjOk P w H (h.push { cls:=.type "dict", data:=.dict #[] }) h.objs.size (.dT []) :=
 ⟨Nat.zero_le _,beq_eq_false_iff_ne.mpr (Ne.symm (Nat.ne_of_lt hb)),[],.nil,_,#[],0,Heap.get?_push_size _ rfl,⟨rfl,rfl,rfl⟩,rfl,rfl,List.nodup_nil⟩
def tDNewT:TE:=fun _ H Q=>∀ p,H p=none->Q (.ref p) (upd H p (.dT []))
section
variable {X:Cx} {pos:Pos}
theorem pe_dnewT:PE X (.Dict [] [] pos) tDNewT:=fun pins s σ H Q I h =>
 wpAny_Dict_empty ⟨.ref s.heap.objs.size,_,I.laid (a:=s.heap.objs.size) (o:=.dT []) (t':=s.toks) (fun _ _ q=>Heap.get?_push_of_some _ q) (Nat.le_refl _) (dt_empty s.heap I.big),rfl,h _ (I.hok.fresh (Nat.le_refl _))⟩
end
def tPairs:List (TE × TE)->St->Hp->(List (V × V)->Hp->Prop)->Prop
 | [],_,H,Q=>Q [] H
 | (tk,tv) :: r,σ,H,Q=>tk σ H fun x H1=>tv σ H1 fun y H2=>tPairs r σ H2 fun ps H3=>Q ((x,y) :: ps) H3
abbrev VV:List (V × V)->List (Value × Value)->Prop:=Paired fun p q=>RelV p.1 q.1/\RelV p.2 q.2
def PPs (X:Cx) (pos:Pos) (keys:List (Option Expr)) (values:List Expr) (trs:List (TE × TE)):Prop :=
 ∀ (pins:List (Addr × Obj)) (s:Shared) (σ:St) (H:Hp) (Q:List (V × V)->Hp->Prop),Inv X pins σ H s->tPairs trs σ H Q ->
  wpAny (model X.prog X.w) X.A (evalPairs (pairTrees keys values X.env pos)) (fun vs s'=>∃ ps H',Inv X pins σ H' s'/\VV ps vs/\Q ps H') X.xe s
theorem pps_nil {X:Cx} {pos:Pos}:PPs X pos [] [] []:=fun pins s σ H Q I h=>pairTrees_nil_walk ⟨[],H,I,.nil,h⟩
theorem pps_cons {X:Cx} {pos:Pos} {k v:Expr} {ks:List (Option Expr)} {vs:List Expr} {tk tv:TE} {trs:List (TE × TE)} (hk:PE X k tk) (hv:PE X v tv) (hr:PPs X pos ks vs trs) :
  PPs X pos (some k :: ks) (v :: vs) ((tk,tv) :: trs):=fun pins s σ H Q I h =>
 pairTrees_cons_walk (thn (hk pins s σ H _ I h) fun u s1 ⟨x,H1,I1,rx,q1⟩=>thn (hv pins s1 σ H1 _ I1 q1) fun w2 s2 ⟨y,H2,I2,ry,q2⟩ =>
  thn (hr pins s2 σ H2 _ I2 q2) fun ws s3 ⟨ps,H3,I3,rel,q3⟩=>⟨(x,y) :: ps,H3,I3,.cons ⟨rx,ry⟩ rel,q3⟩)
def mergeK (kvs more:List (Key × V)):List (Key × V):=more.foldl (fun acc kv=>putK acc kv.1 kv.2) kvs
theorem KV.merge:∀ {more:List (Key × V)} {rs:List (Key × Value)} {kvs:List (Key × V)} {vs:List (Key × Value)},KV more rs->KV kvs vs->KV (mergeK kvs more) (merged vs rs):=by
 intro more rs kvs vs r
 unfold KV at r
 induction r generalizing kvs vs with
 | nil=>intro q; exact q
 | @cons p q ps qs h t ih =>
  intro r0
  have e:KV (putK kvs p.1 p.2) (stored vs q.1 q.2):=by
   have:=r0.put p.1 h.2
   rw [← h.1]; exact this
  exact ih e
theorem length_mergeK:∀ (more kvs:List (Key × V)),(mergeK kvs more).length<=kvs.length + more.length
 | [],kvs=>by show kvs.length<=kvs.length + 0; omega
 | p :: r,kvs=>by
  have h1:=length_mergeK r (putK kvs p.1 p.2)
  have h2:=length_putK kvs p.1 p.2
  show (mergeK (putK kvs p.1 p.2) r).length<=_
  rw [List.length_cons]; omega
theorem carries_of {P:Program} {w:World}:∀ {kvs:List (Key × V)} {ws:List (Value × Value)},VV (kvs.map fun kv=>(kV kv.1,kv.2)) ws->∃ rs,Carries (mixKind P w) ws rs/\KV kvs rs
 | [],_,r=>by rw [List.map_nil] at r; cases r; exact ⟨[],True.intro,.nil⟩
 | p :: kvs,_,r=>by
  rw [List.map_cons] at r
  cases r with
  | @cons a b as bs h t =>
   obtain ⟨rs,c,q⟩:=carries_of (P:=P) (w:=w) t
   obtain ⟨b1,b2⟩:=b
   exact ⟨(p.1,b2) :: rs,⟨kV_is h.1,rfl,c⟩,.cons ⟨rfl,h.2⟩ q⟩
def tDisp (trs:List (TE × TE)):TE:=fun σ H Q=>∀ p,H p=none->tPairs trs σ (upd H p (.dK [])) fun ps H2=>H2 p=some (.dK [])/\∃ kvs:List (Key × V),ps=kvs.map (fun kv=>(kV kv.1,kv.2))/\kvs.length<=15/\Q (.ref p) (upd H2 p (.dK (mergeK [] kvs)))
theorem pe_disp {X:Cx} {pos:Pos} {keys:List (Option Expr)} {values:List Expr} {trs:List (TE × TE)} (h:PPs X pos keys values trs) (hall:keys.all (·.isSome)=true) (hl:keys.length=values.length) (h0:keys≠[])
  (h15:keys.length<=15):PE X (.Dict keys values pos) (tDisp trs):=by
 intro pins s σ H Q I q
 have hn:=I.hok.fresh (Nat.le_refl s.heap.objs.size)
 have I1:=I.laid (a:=s.heap.objs.size) (o:=.dK []) (h':=s.heap.push { cls:=.type "dict", data:=.dict #[] }) (t':=s.toks) (fun _ _ q=>Heap.get?_push_of_some _ q) (Nat.le_refl _) (dk_empty s.heap I.big)
 refine wpAny_Dict_walk (knd:=mixKind X.prog X.w) hall hl h0 h15 (thn (h pins _ σ _ _ I1 (q _ hn)) fun ws s2 ⟨ps,H2,I2,rel,e,kvs,ep,lk,q2⟩=>?_)
 subst ep
 obtain ⟨rs,c,rk⟩:=carries_of (P:=X.prog) (w:=X.w) rel
 obtain ⟨z,hd,vs0,r0,dd⟩:=dk_of I2.hok e
 cases r0
 refine ⟨rs,c,dd,fun h' dd' hs=>⟨.ref s.heap.objs.size,_,?_,rfl,q2⟩⟩
 have hz:(mergeK [] kvs).length<=sizeLine:=by
  have h1:=length_mergeK kvs []
  rw [List.length_nil] at h1
  rw [sizeLine_eq]; omega
 have he:∃ q,h'.get? s.heap.objs.size=some q:=let ⟨q,_,_,hq,_⟩:=dd'; ⟨q,hq⟩
 exact zB8 I2 (by rw [e]; exact True.intro) hs he (dk_new hz hd (rk.merge .nil) dd')
section
variable {X:Cx} {pins:List (Addr × Obj)} {σ:St} {H:Hp} {s:Shared} {a:Addr} {y d:V} {u r:Value} {o:Option V} {A:Around} {E:Value->Shared->Prop}
end
section
variable {X:Cx} {o e f:Expr} {apos cpos:Pos} {td ty tx:TE}
end
section
variable {X:Cx} {pins:List (Addr × Obj)} {σ:St} {H:Hp} {s:Shared} {a:Addr} {kvs:List (Key × V)} {A:Around} {E:Value->Shared->Prop}
end
section
variable {X:Cx} {pins:List (Addr × Obj)} {σ:St} {H:Hp} {s:Shared} {a:Addr} {y:V} {u:Value} {A:Around} {E:Value->Shared->Prop}
end
end L2
namespace L2
open PySem PySem.Spec PyProof.Rows
section
variable {κ:Type} [DecidableEq κ]
end
end L2
namespace L2
open PySem PySem.Spec PyProof.Rows
inductive EqD (K:PySem.W.Frag) (H:Hp):Nat->V->V->Bool->Prop
 | flat {n:Nat} {x y:V} (fx:flatV x=true) (fy:flatV y=true):EqD K H n x y (eqV x y)
 | tt {n:Nat} {p q:Addr} {xs ys:List V} {e:Nat->Bool} (hp:SqT K H p xs) (hq:SqT K H q ys) (h:∀ (j:Nat) x y,xs[j]?=some x->ys[j]?=some y->EqD K H n x y (e j)) :
   EqD K H (n + 1) (.ref p) (.ref q) ((List.range (min xs.length ys.length)).all e && xs.length == ys.length)
 | ll {n:Nat} {p q:Addr} {xs ys:List V} {e:Nat->Bool} (hp:SqL K H p xs) (hq:SqL K H q ys) (hl:xs.length=ys.length) (h:∀ (j:Nat) x y,xs[j]?=some x->ys[j]?=some y->EqD K H n x y (e j)) :
   EqD K H (n + 1) (.ref p) (.ref q) ((List.range xs.length).all e)
 | ln {n:Nat} {p q:Addr} {xs ys:List V} (hp:SqL K H p xs) (hq:SqL K H q ys) (hl:xs.length≠ys.length):EqD K H (n + 1) (.ref p) (.ref q) false
 | lt {n:Nat} {p q:Addr} {xs ys:List V} (hp:SqL K H p xs) (hq:SqT K H q ys):EqD K H (n + 1) (.ref p) (.ref q) false
 | tl {n:Nat} {p q:Addr} {xs ys:List V} (hp:SqT K H p xs) (hq:SqL K H q ys):EqD K H (n + 1) (.ref p) (.ref q) false
 | lf {n:Nat} {p:Addr} {xs:List V} {y:V} (hp:SqL K H p xs) (fy:flatV y=true):EqD K H (n + 1) (.ref p) y false
 | fl {n:Nat} {p:Addr} {xs:List V} {y:V} (hp:SqL K H p xs) (fy:flatV y=true):EqD K H (n + 1) y (.ref p) false
 | tf {n:Nat} {p:Addr} {xs:List V} {y:V} (hp:SqT K H p xs) (fy:flatV y=true):EqD K H (n + 1) (.ref p) y false
 | ft {n:Nat} {p:Addr} {xs:List V} {y:V} (hp:SqT K H p xs) (fy:flatV y=true):EqD K H (n + 1) y (.ref p) false
section
variable {X:Cx} {pins:List (Addr × Obj)} {σ:St} {H:Hp} {s:Shared}
theorem eqV_refl {x:V} (f:flatV x=true):eqV x x=true:=by
 cases x <;> first | rfl | (simp [eqV]; done) | exact absurd (show false=true from f) Bool.false_ne_true
theorem list_not_tuple (I:Inv X pins σ H s) {p:Addr} {xs ys:List V} (h:SqL X.K H p xs) (k:SqT X.K H p ys):False:=by
 obtain ⟨_,_,⟨o,n,e,c,_⟩,_⟩:=I.list h
 obtain ⟨_,_,⟨o',e',c',_⟩,_⟩:=I.tuple k
 rw [e] at e'
 cases e'
 rw [c] at c'
 injection c' with z
 exact absurd z (by decide)
theorem EqD.refl (I:Inv X pins σ H s) {n:Nat} {x y:V} {b:Bool} (h:EqD X.K H n x y b):x=y->b=true:=by
 induction h with
 | flat fx fy=>intro e; subst e; exact eqV_refl fx
 | tt hp hq h ih =>
  intro e
  cases e
  have ee:=I.tuple_inj hp hq
  subst ee
  rw [Nat.min_self,beq_self_eq_true,Bool.and_true,List.all_eq_true]
  intro j hj
  have hj':=List.mem_range.mp hj
  exact ih j _ _ (List.getElem?_eq_getElem hj') (List.getElem?_eq_getElem hj') rfl
 | ll hp hq hl h ih =>
  intro e
  cases e
  have ee:=I.list_inj hp hq
  subst ee
  rw [List.all_eq_true]
  intro j hj
  have hj':=List.mem_range.mp hj
  exact ih j _ _ (List.getElem?_eq_getElem hj') (List.getElem?_eq_getElem hj') rfl
 | ln hp hq hl =>
  intro e
  cases e
  exact absurd (congrArg List.length (I.list_inj hp hq)) hl
 | lt hp hq=>intro e; cases e; exact (list_not_tuple I hp hq).elim
 | tl hp hq=>intro e; cases e; exact (list_not_tuple I hq hp).elim
 | lf hp fy=>intro e; subst e; exact absurd (show false=true from fy) Bool.false_ne_true
 | fl hp fy=>intro e; subst e; exact absurd (show false=true from fy) Bool.false_ne_true
 | tf hp fy=>intro e; subst e; exact absurd (show false=true from fy) Bool.false_ne_true
 | ft hp fy=>intro e; subst e; exact absurd (show false=true from fy) Bool.false_ne_true
theorem flat_list {A:Around} {u:Value} {y:V} {p:Addr} {its:Array Value} (hl:s.heap.IsList p its) (fy:flatV y=true) (ry:RelV y u) (hu:A.units < cLine):SeqAt.RcAt A s (.ref p) u false/\SeqAt.EqAt A s (.ref p) u false/\SeqAt.RcAt A s u (.ref p) false/\SeqAt.EqAt A s u (.ref p) false/\SeqAt.RcNeAt A s (.ref p) u true/\SeqAt.RcNeAt A s u (.ref p) true:=by
 cases y with
 | non=>cases ry; exact ⟨.list_none hl hu,.list_none hl hu,.none_list hl hu,.none_list hl hu,.list_none hl hu,.none_list hl hu⟩
 | bl b=>cases ry; exact ⟨.list_bool b hl hu,.list_bool b hl hu,.bool_list b hl hu,.bool_list b hl hu,.list_bool b hl hu,.bool_list b hl hu⟩
 | int i=>obtain ⟨t,rfl⟩:=ry; exact ⟨.list_int i t hl hu,.list_int i t hl hu,.int_list i t hl hu,.int_list i t hl hu,.list_int i t hl hu,.int_list i t hl hu⟩
 | str i=>obtain ⟨t,rfl⟩:=ry; exact ⟨.list_str i t hl hu,.list_str i t hl hu,.str_list i t hl hu,.str_list i t hl hu,.list_str i t hl hu,.str_list i t hl hu⟩
 | _=>exact absurd (show false=true from fy) Bool.false_ne_true
theorem flat_tuple {A:Around} {u:Value} {y:V} {p:Addr} {its:Array Value} (hl:s.heap.IsTuple p its) (fy:flatV y=true) (ry:RelV y u) (hu:A.units < cLine):SeqAt.RcAt A s (.ref p) u false/\SeqAt.EqAt A s (.ref p) u false/\SeqAt.RcAt A s u (.ref p) false/\SeqAt.EqAt A s u (.ref p) false/\SeqAt.RcNeAt A s (.ref p) u true/\SeqAt.RcNeAt A s u (.ref p) true:=by
 cases y with
 | non=>cases ry; exact ⟨.tuple_none hl hu,.tuple_none hl hu,.none_tuple hl hu,.none_tuple hl hu,.tuple_none hl hu,.none_tuple hl hu⟩
 | bl b=>cases ry; exact ⟨.tuple_bool b hl hu,.tuple_bool b hl hu,.bool_tuple b hl hu,.bool_tuple b hl hu,.tuple_bool b hl hu,.bool_tuple b hl hu⟩
 | int i=>obtain ⟨t,rfl⟩:=ry; exact ⟨.tuple_int i t hl hu,.tuple_int i t hl hu,.int_tuple i t hl hu,.int_tuple i t hl hu,.tuple_int i t hl hu,.int_tuple i t hl hu⟩
 | str i=>obtain ⟨t,rfl⟩:=ry; exact ⟨.tuple_str i t hl hu,.tuple_str i t hl hu,.str_tuple i t hl hu,.str_tuple i t hl hu,.tuple_str i t hl hu,.str_tuple i t hl hu⟩
 | _=>exact absurd (show false=true from fy) Bool.false_ne_true
theorem item_at {xs:List V} {us:List Value} (r:Vals xs us) {j:Nat} (h:j < us.toArray.size):∃ x,xs[j]?=some x/\RelV x us.toArray[j]:=by
 have hl:=r.length
 have hj:j < xs.length:=by simp at h; omega
 obtain ⟨u,hu,ru⟩:=r.get (List.getElem?_eq_getElem hj)
 refine ⟨xs[j],List.getElem?_eq_getElem hj,?_⟩
 have e:us.toArray[j]=u:=by
  have:=(List.getElem?_eq_some_iff.mp hu).2
  simpa using this
 rw [e]; exact ru
theorem EqD.at {n:Nat} {x y:V} {b:Bool} (h:EqD X.K H n x y b) (I:Inv X pins σ H s):∀ {A:Around} {u v:Value},RelV x u->RelV y v->A.units + n < cLine->SeqAt.EqAt A s u v b:=by
 induction h with
 | flat fx fy=>intro A u v rx ry _; exact eqAt_V rx ry fx fy
 | @tt n p q xs ys e hp hq h ih =>
  intro A u v rx ry hu
  cases rx
  cases ry
  obtain ⟨us,r1,t1,_⟩:=I.tuple hp
  obtain ⟨ws,r2,t2,_⟩:=I.tuple hq
  have l1:=r1.length
  have l2:=r2.length
  by_cases hne:p=q
  ·subst hne
   have z:=(EqD.tt hp hq h).refl I rfl
   rw [z]
   exact SeqAt.EqAt.same _
  ·refine SeqAt.EqAt.of_refs hne ?_
   have z:=SeqAt.RcAt.tuples (A:=A) (e:=e) t1 t2 (by omega) fun j h1 h2=>by
    obtain ⟨x,hx,rx⟩:=item_at r1 h1
    obtain ⟨y,hy,ry⟩:=item_at r2 h2
    exact ih j x y hx hy rx ry (by show A.units + 1 + n < cLine; omega)
   rw [List.size_toArray,List.size_toArray,← l1,← l2] at z
   exact z
 | @ll n p q xs ys e hp hq hl h ih =>
  intro A u v rx ry hu
  cases rx
  cases ry
  obtain ⟨us,r1,t1,_⟩:=I.list hp
  obtain ⟨ws,r2,t2,_⟩:=I.list hq
  have l1:=r1.length
  have l2:=r2.length
  by_cases hne:p=q
  ·subst hne
   have z:=(EqD.ll hp hq hl h).refl I rfl
   rw [z]
   exact SeqAt.EqAt.same _
  ·refine SeqAt.EqAt.of_refs hne ?_
   have z:=SeqAt.RcAt.lists (A:=A) (e:=e) t1.isList t2.isList (by simp; omega) (by omega) fun j h1 h2=>by
    obtain ⟨x,hx,rx⟩:=item_at r1 h1
    obtain ⟨y,hy,ry⟩:=item_at r2 h2
    exact ih j x y hx hy rx ry (by show A.units + 1 + n < cLine; omega)
   rw [List.size_toArray,← l1] at z
   exact z
 | @ln n p q xs ys hp hq hl =>
  intro A u v rx ry hu
  cases rx
  cases ry
  obtain ⟨us,r1,t1,_⟩:=I.list hp
  obtain ⟨ws,r2,t2,_⟩:=I.list hq
  have l1:=r1.length
  have l2:=r2.length
  have hne:p≠q:=fun e=>by subst e; exact hl (congrArg List.length (I.list_inj hp hq))
  exact SeqAt.EqAt.of_refs hne (SeqAt.RcAt.lists_lengths t1.isList t2.isList (by simp; omega) (by omega))
 | lt hp hq =>
  intro A u v rx ry hu
  cases rx
  cases ry
  obtain ⟨us,r1,t1,_⟩:=I.list hp
  obtain ⟨ws,r2,t2,_⟩:=I.tuple hq
  exact SeqAt.EqAt.list_tuple t1.isList t2 (by omega)
 | tl hp hq =>
  intro A u v rx ry hu
  cases rx
  cases ry
  obtain ⟨us,r1,t1,_⟩:=I.tuple hp
  obtain ⟨ws,r2,t2,_⟩:=I.list hq
  exact SeqAt.EqAt.tuple_list t1 t2.isList (by omega)
 | lf hp fy =>
  intro A u v rx ry hu
  cases rx
  obtain ⟨us,r1,t1,_⟩:=I.list hp
  exact (flat_list t1.isList fy ry (by omega)).2.1
 | fl hp fy =>
  intro A u v rx ry hu
  cases ry
  obtain ⟨us,r1,t1,_⟩:=I.list hp
  exact (flat_list t1.isList fy rx (by omega)).2.2.2.1
 | tf hp fy =>
  intro A u v rx ry hu
  cases rx
  obtain ⟨us,r1,t1,_⟩:=I.tuple hp
  exact (flat_tuple t1 fy ry (by omega)).2.1
 | ft hp fy =>
  intro A u v rx ry hu
  cases ry
  obtain ⟨us,r1,t1,_⟩:=I.tuple hp
  exact (flat_tuple t1 fy rx (by omega)).2.2.2.1
theorem EqD.rc {n:Nat} {x y:V} {b:Bool} (h:EqD X.K H n x y b) (I:Inv X pins σ H s) (hn:¬ (flatV x=true/\flatV y=true)) {A:Around} {u v:Value} (rx:RelV x u) (ry:RelV y v) (hu:A.units + n < cLine):SeqAt.RcAt A s u v b/\SeqAt.RcNeAt A s u v (!b):=by
 cases h with
 | flat fx fy=>exact absurd ⟨fx,fy⟩ hn
 | @tt n p q xs ys e hp hq h =>
  cases rx
  cases ry
  obtain ⟨us,r1,t1,_⟩:=I.tuple hp
  obtain ⟨ws,r2,t2,_⟩:=I.tuple hq
  have l1:=r1.length
  have l2:=r2.length
  have he:∀ j (h1:j < us.toArray.size) (h2:j < ws.toArray.size),SeqAt.EqAt A.in1 s us.toArray[j] ws.toArray[j] (e j):=fun j h1 h2=>by
   obtain ⟨x,hx,rx⟩:=item_at r1 h1
   obtain ⟨y,hy,ry⟩:=item_at r2 h2
   exact (h j x y hx hy).at I rx ry (by show A.units + 1 + n < cLine; omega)
  have z:=SeqAt.RcAt.tuples (A:=A) (e:=e) t1 t2 (by omega) he
  have z2:=SeqAt.RcNeAt.tuples (A:=A) (e:=e) t1 t2 (by omega) he
  rw [List.size_toArray,List.size_toArray,← l1,← l2] at z z2
  exact ⟨z,z2⟩
 | @ll n p q xs ys e hp hq hl h =>
  cases rx
  cases ry
  obtain ⟨us,r1,t1,_⟩:=I.list hp
  obtain ⟨ws,r2,t2,_⟩:=I.list hq
  have l1:=r1.length
  have l2:=r2.length
  have he:∀ j (h1:j < us.toArray.size) (h2:j < ws.toArray.size),SeqAt.EqAt A.in1 s us.toArray[j] ws.toArray[j] (e j):=fun j h1 h2=>by
   obtain ⟨x,hx,rx⟩:=item_at r1 h1
   obtain ⟨y,hy,ry⟩:=item_at r2 h2
   exact (h j x y hx hy).at I rx ry (by show A.units + 1 + n < cLine; omega)
  have z:=SeqAt.RcAt.lists (A:=A) (e:=e) t1.isList t2.isList (by simp; omega) (by omega) he
  have z2:=SeqAt.RcNeAt.lists (A:=A) (e:=e) t1.isList t2.isList (by simp; omega) (by omega) he
  rw [List.size_toArray,← l1] at z z2
  exact ⟨z,z2⟩
 | @ln n p q xs ys hp hq hl =>
  cases rx
  cases ry
  obtain ⟨us,r1,t1,_⟩:=I.list hp
  obtain ⟨ws,r2,t2,_⟩:=I.list hq
  have l1:=r1.length
  have l2:=r2.length
  exact ⟨SeqAt.RcAt.lists_lengths t1.isList t2.isList (by simp; omega) (by omega),SeqAt.RcNeAt.lists_lengths t1.isList t2.isList (by simp; omega) (by omega)⟩
 | lt hp hq =>
  cases rx
  cases ry
  obtain ⟨us,r1,t1,_⟩:=I.list hp
  obtain ⟨ws,r2,t2,_⟩:=I.tuple hq
  exact ⟨SeqAt.RcAt.list_tuple t1.isList t2 (by omega),SeqAt.RcNeAt.list_tuple t1.isList t2 (by omega)⟩
 | tl hp hq =>
  cases rx
  cases ry
  obtain ⟨us,r1,t1,_⟩:=I.tuple hp
  obtain ⟨ws,r2,t2,_⟩:=I.list hq
  exact ⟨SeqAt.RcAt.tuple_list t1 t2.isList (by omega),SeqAt.RcNeAt.tuple_list t1 t2.isList (by omega)⟩
 | lf hp fy =>
  cases rx
  obtain ⟨us,r1,t1,_⟩:=I.list hp
  have z:=flat_list (A:=A) t1.isList fy ry (by omega)
  exact ⟨z.1,z.2.2.2.2.1⟩
 | fl hp fy =>
  cases ry
  obtain ⟨us,r1,t1,_⟩:=I.list hp
  have z:=flat_list (A:=A) t1.isList fy rx (by omega)
  exact ⟨z.2.2.1,z.2.2.2.2.2⟩
 | tf hp fy =>
  cases rx
  obtain ⟨us,r1,t1,_⟩:=I.tuple hp
  have z:=flat_tuple (A:=A) t1 fy ry (by omega)
  exact ⟨z.1,z.2.2.2.2.1⟩
 | ft hp fy =>
  cases ry
  obtain ⟨us,r1,t1,_⟩:=I.tuple hp
  have z:=flat_tuple (A:=A) t1 fy rx (by omega)
  exact ⟨z.2.2.1,z.2.2.2.2.2⟩
end
section
variable {X:Cx}
theorem op_eqD {K:PySem.W.Frag} (hK:X.K=K) (hu:X.A.units + 8 < cLine):OpR X (compareOp .Eq) (fun x y H Q=>∃ b,¬ (flatV x=true/\flatV y=true)/\EqD K H 8 x y b/\Q (.bl b) H):=by
 subst hK
 intro pins s σ H x y v u Q I rx ry h
 obtain ⟨b,hn,he,q⟩:=h
 exact (he.rc I hn rx ry hu).1 X.prog X.w X.xe _ ⟨.bl b,H,I,rfl,q⟩
theorem op_neD {K:PySem.W.Frag} (hK:X.K=K) (hu:X.A.units + 8 < cLine):OpR X (compareOp .NotEq) (fun x y H Q=>∃ b,¬ (flatV x=true/\flatV y=true)/\EqD K H 8 x y b/\Q (.bl (!b)) H):=by
 subst hK
 intro pins s σ H x y v u Q I rx ry h
 obtain ⟨b,hn,he,q⟩:=h
 exact (he.rc I hn rx ry hu).2 X.prog X.w X.xe _ ⟨.bl (!b),H,I,rfl,q⟩
theorem hu8 {A:Around} {k:Nat} (hr:Room k A):A.units + 8 < cLine:=by have:=hr.units; omega
theorem any_at {K:PySem.W.Frag} {H:Hp} {x:V} {n:Nat} {e:V->Bool}:∀ {xs:List V} {us:List Value},Vals xs us->(∀ y∈xs,EqD K H n y x (e y))->∃ f:Value->Bool,(∀ (i:Nat) y u,xs[i]?=some y->us[i]?=some u->f u=e y)/\us.any f=xs.any e:=by
 intro xs us r h
 refine ⟨fun u=>match absV u with | some y=>e y | none=>false,fun i y u hy hu=>?_,?_⟩
 ·obtain ⟨u',hu',ru⟩:=r.get hy
  rw [hu] at hu'
  cases hu'
  show (match absV u with | some y=>e y | none=>false)=e y
  rw [ru.abs]
 ·clear h
  induction r with
  | nil=>rfl
  | cons r t ih =>
   rw [List.any_cons,List.any_cons,ih]
   congr 1
   show (match absV _ with | some y=>e y | none=>false)=_
   rw [r.abs]
def rInD (K:PySem.W.Frag) (neg:Bool):R2:=fun x y H Q=>∃ (p:Addr) (xs:List V) (e:V->Bool),y=.ref p/\(SqL K H p xs\/SqT K H p xs)/\(∀ z∈xs,EqD K H 8 z x (e z))/\Q (.bl (if neg then !xs.any e else xs.any e)) H
theorem op_notInD {K:PySem.W.Frag} (hK:X.K=K) (hu:X.A.units + 9 < cLine):OpR X (compareOp .NotIn) (rInD K true):=by
 subst hK
 intro pins s σ H x y v u Q I rx ry h
 obtain ⟨p,xs,e,rfl,hq,he,q⟩:=h
 cases ry
 rcases hq with hq | hq
 ·obtain ⟨us,r,pl,hz⟩:=I.list hq
  obtain ⟨f,f1,f2⟩:=any_at r he
  refine SeqAt.notIn_listAt f pl.isList (fun w hw=>?_) ⟨.bl _,H,I,rfl,?_⟩
  ·have hw':w∈us:=by simpa using hw
   obtain ⟨i,hi,ew⟩:=List.getElem_of_mem hw'
   have hx:i < xs.length:=by rw [r.length]; exact hi
   have z:=f1 i xs[i] w (List.getElem?_eq_getElem hx) (by rw [List.getElem?_eq_getElem hi,ew])
   obtain ⟨w',hw2,rw'⟩:=r.get (List.getElem?_eq_getElem hx)
   rw [List.getElem?_eq_getElem hi,ew] at hw2
   cases hw2
   rw [z]
   exact (he _ (List.getElem_mem hx)).at I rw' rx (by show X.A.units + 1 + 8 < cLine; omega)
  ·rw [show us.toArray.any f=us.any f by simp,f2]
   exact q
 ·obtain ⟨us,r,pl,hz⟩:=I.tuple hq
  obtain ⟨f,f1,f2⟩:=any_at r he
  refine SeqAt.notIn_tupleAt f pl (fun w hw=>?_) ⟨.bl _,H,I,rfl,?_⟩
  ·have hw':w∈us:=by simpa using hw
   obtain ⟨i,hi,ew⟩:=List.getElem_of_mem hw'
   have hx:i < xs.length:=by rw [r.length]; exact hi
   have z:=f1 i xs[i] w (List.getElem?_eq_getElem hx) (by rw [List.getElem?_eq_getElem hi,ew])
   obtain ⟨w',hw2,rw'⟩:=r.get (List.getElem?_eq_getElem hx)
   rw [List.getElem?_eq_getElem hi,ew] at hw2
   cases hw2
   rw [z]
   exact (he _ (List.getElem_mem hx)).at I rw' rx (by show X.A.units + 1 + 8 < cLine; omega)
  ·rw [show us.toArray.any f=us.any f by simp,f2]
   exact q
end
end L2
namespace L2
open PySem PySem.Spec PyProof.Rows
section
variable {X:Cx}
theorem vals_get:∀ {xs:List V} {us:List Value},xs.length=us.length->(∀ (j:Nat) u,us[j]?=some u->∃ x,xs[j]?=some x/\RelV x u)->Vals xs us
 | [],[],_,_=>.nil
 | [],_ :: _,h,_=>by simp at h
 | _ :: _,[],h,_=>by simp at h
 | x :: xs,u :: us,hl,h=>by
  obtain ⟨x',e,r⟩:=h 0 u rfl
  cases e
  refine .cons r (vals_get (by simpa using hl) fun j v hv=>?_)
  obtain ⟨y,e,r⟩:=h (j + 1) v (by simpa using hv)
  exact ⟨y,by simpa using e,r⟩
end
end L2
namespace Bdd
abbrev Rm:=Option (Nat × Nat × Nat)
def lev (n:Nat) (rs:List Rm) (k:Nat):Nat:=match rs[k]? with
 | some (some (i,_,_))=>i
 | _=>n
structure Bk (n:Nat) (rs:List Rm):Prop where
 h0:rs[0]?=some none
 h1:rs[1]?=some none
 rm:∀ k,2<=k->k < rs.length->∃ i lo hi,rs[k]?=some (some (i,lo,hi))/\i < n/\lo < k/\hi < k/\lo≠hi/\i < lev n rs lo/\i < lev n rs hi
 uq:∀ (k l:Nat) (x:Nat × Nat × Nat),rs[k]?=some (some x)->rs[l]?=some (some x)->k=l
abbrev Row:=Nat->Bool
def put (r:Row) (i:Nat) (v:Bool):Row:=fun j=>if j=i then v else r j
def lead (rs:List Rm) (r:Row):Nat->Nat->Nat
 | 0,k=>k
 | f + 1,k=>match rs[k]? with
  | some (some (i,lo,hi))=>lead rs r f (if r i then hi else lo)
  | _=>k
theorem lead_fuel {n:Nat} {rs:List Rm} (B:Bk n rs) (r:Row):∀ (f g k:Nat),k<=f->k<=g->k < rs.length->lead rs r f k=lead rs r g k
 | 0,0,k,_,_,_=>rfl
 | 0,g + 1,k,h,_,_=>by
  have e:k=0:=by omega
  subst e
  show 0=lead rs r (g + 1) 0
  unfold lead
  rw [B.h0]
 | f + 1,0,k,_,h,_=>by
  have e:k=0:=by omega
  subst e
  show lead rs r (f + 1) 0=0
  unfold lead
  rw [B.h0]
 | f + 1,g + 1,k,hf,hg,hk=>by
  by_cases h2:2<=k
  ·obtain ⟨i,lo,hi,e,_,hlo,hhi,_⟩:=B.rm k h2 hk
   unfold lead
   rw [e]
   show lead rs r f (if r i then hi else lo)=lead rs r g (if r i then hi else lo)
   refine lead_fuel B r f g _ ?_ ?_ ?_ <;> (split <;> omega)
  ·have:k=0\/k=1:=by omega
   rcases this with e | e <;> subst e <;> unfold lead
   ·rw [B.h0]
   ·rw [B.h1]
def yes (rs:List Rm) (k:Nat) (r:Row):Bool:=lead rs r k k == 1
section
variable {n:Nat} {rs:List Rm} (B:Bk n rs)
include B
theorem len2:2<=rs.length:=by
 have:=(List.getElem?_eq_some_iff.mp B.h1).1
 omega
theorem yes_no (r:Row):yes rs 0 r=false:=rfl
theorem yes_yes (r:Row):yes rs 1 r=true:=by
 unfold yes lead
 rw [B.h1]
 rfl
theorem lead_step {k i lo hi:Nat} (e:rs[k]?=some (some (i,lo,hi))) (r:Row):lead rs r k k=lead rs r (if r i then hi else lo) (if r i then hi else lo):=by
 have hk:=(List.getElem?_eq_some_iff.mp e).1
 have k2:2<=k:=by
  by_cases h:2<=k
  ·exact h
  ·exfalso
   have:k=0\/k=1:=by omega
   rcases this with z | z <;> subst z
   ·rw [B.h0] at e; cases e
   ·rw [B.h1] at e; cases e
 obtain ⟨i',lo',hi',e',_,hlo,hhi,_⟩:=B.rm k k2 hk
 rw [e] at e'
 cases e'
 obtain ⟨m,rfl⟩:∃ m,k=m + 1:=⟨k - 1,by omega⟩
 show (match rs[m + 1]? with | some (some (i,lo,hi))=>lead rs r m (if r i then hi else lo) | _=>m + 1)=_
 rw [e]
 show lead rs r m (if r i then hi else lo)=_
 refine lead_fuel B r _ _ _ ?_ (Nat.le_refl _) ?_ <;> (split <;> omega)
theorem yes_step {k i lo hi:Nat} (e:rs[k]?=some (some (i,lo,hi))) (r:Row):yes rs k r=if r i then yes rs hi r else yes rs lo r:=by
 unfold yes
 rw [lead_step B e r]
 split <;> rfl
theorem lev_of {k i lo hi:Nat} (e:rs[k]?=some (some (i,lo,hi))):lev n rs k=i:=by unfold lev; rw [e]
theorem lev_no:lev n rs 0=n:=by unfold lev; rw [B.h0]
theorem lev_yes:lev n rs 1=n:=by unfold lev; rw [B.h1]
theorem lev_le (k:Nat) (hk:k < rs.length):lev n rs k<=n:=by
 by_cases h2:2<=k
 ·obtain ⟨i,lo,hi,e,hi',_⟩:=B.rm k h2 hk
  rw [lev_of B e]; omega
 ·have:k=0\/k=1:=by omega
  rcases this with z | z <;> subst z
  ·rw [lev_no B]; exact Nat.le_refl _
  ·rw [lev_yes B]; exact Nat.le_refl _
theorem yes_congr:∀ (m k:Nat),k<=m->k < rs.length->∀ {r r':Row},(∀ i,lev n rs k<=i->i < n->r i=r' i)->yes rs k r=yes rs k r'
 | m,k,hm,hk,r,r',h=>by
  by_cases h2:2<=k
  ·obtain ⟨i,lo,hi,e,hin,hlo,hhi,_,l1,l2⟩:=B.rm k h2 hk
   have lk:=lev_of B e
   rw [yes_step B e,yes_step B e,h i (by omega) hin]
   match m,hm with
   | 0,hm=>omega
   | m + 1,hm =>
    rw [yes_congr m hi (by omega) (by omega) fun j hj hjn=>h j (by omega) hjn,yes_congr m lo (by omega) (by omega) fun j hj hjn=>h j (by omega) hjn]
  ·have:k=0\/k=1:=by omega
   rcases this with z | z <;> subst z
   ·rfl
   ·rw [yes_yes B,yes_yes B]
theorem yes_put {k i:Nat} (hk:k < rs.length) (h:i < lev n rs k) (r:Row) (v:Bool):yes rs k (put r i v)=yes rs k r:=by
 refine yes_congr B k k (Nat.le_refl _) hk fun j hj _=>?_
 unfold put
 rw [if_neg (by omega)]
theorem yes_lo {k i lo hi:Nat} (e:rs[k]?=some (some (i,lo,hi))) (hk:k < rs.length) (r:Row):yes rs k (put r i false)=yes rs lo r/\yes rs k (put r i true)=yes rs hi r:=by
 have k2:2<=k:=by
  by_cases h:2<=k
  ·exact h
  ·exfalso
   have:k=0\/k=1:=by omega
   rcases this with z | z <;> subst z
   ·rw [B.h0] at e; cases e
   ·rw [B.h1] at e; cases e
 obtain ⟨i',lo',hi',e',_,hlo,hhi,_,l1,l2⟩:=B.rm k k2 hk
 rw [e] at e'
 cases e'
 constructor
 ·rw [yes_step B e]
  have z:put r i false i=false:=by unfold put; rw [if_pos rfl]
  rw [z,if_neg Bool.false_ne_true]
  exact yes_put B (by omega) l1 r false
 ·rw [yes_step B e]
  have z:put r i true i=true:=by unfold put; rw [if_pos rfl]
  rw [z,if_pos rfl]
  exact yes_put B (by omega) l2 r true
theorem one_room:∀ (m k l:Nat),(k<=m/\l<=m)->k < rs.length->l < rs.length->(∀ r,yes rs k r=yes rs l r)->k=l
 | m,k,l,hm,hk,hl,h=>by
  by_cases k2:2<=k
  ·obtain ⟨i,lo,hi,e,hin,hlo,hhi,hne,l1,l2⟩:=B.rm k k2 hk
   by_cases l2':2<=l
   ·obtain ⟨j,lo',hi',e',hjn,hlo',hhi',hne',l1',l2''⟩:=B.rm l l2' hl
    match m,hm with
    | 0,hm=>omega
    | m + 1,hm =>
     rcases Nat.lt_trichotomy i j with q | q | q
     ·exfalso
      refine hne (one_room m lo hi (by omega) (by omega) (by omega) fun r=>?_)
      have z:=yes_lo B e hk r
      rw [← z.1,← z.2,h,h,yes_put B hl (by rw [lev_of B e']; exact q),yes_put B hl (by rw [lev_of B e']; exact q)]
     ·subst q
      have a1:lo=lo':=one_room m lo lo' (by omega) (by omega) (by omega) fun r=>by rw [← (yes_lo B e hk r).1,← (yes_lo B e' hl r).1,h]
      have a2:hi=hi':=one_room m hi hi' (by omega) (by omega) (by omega) fun r=>by rw [← (yes_lo B e hk r).2,← (yes_lo B e' hl r).2,h]
      subst a1 a2
      exact B.uq k l _ e e'
     ·exfalso
      refine hne' (one_room m lo' hi' (by omega) (by omega) (by omega) fun r=>?_)
      have z:=yes_lo B e' hl r
      rw [← z.1,← z.2,← h,← h,yes_put B hk (by rw [lev_of B e]; exact q),yes_put B hk (by rw [lev_of B e]; exact q)]
   ·exfalso
    match m,hm with
    | 0,hm=>omega
    | m + 1,hm =>
     have ll:lev n rs l=n:=by
      have:l=0\/l=1:=by omega
      rcases this with z | z <;> subst z
      ·exact lev_no B
      ·exact lev_yes B
     refine hne (one_room m lo hi (by omega) (by omega) (by omega) fun r=>?_)
     have z:=yes_lo B e hk r
     rw [← z.1,← z.2,h,h,yes_put B hl (by omega),yes_put B hl (by omega)]
  ·by_cases l2':2<=l
   ·exfalso
    obtain ⟨j,lo',hi',e',hjn,hlo',hhi',hne',l1',l2''⟩:=B.rm l l2' hl
    match m,hm with
    | 0,hm=>omega
    | m + 1,hm =>
     have ll:lev n rs k=n:=by
      have:k=0\/k=1:=by omega
      rcases this with z | z <;> subst z
      ·exact lev_no B
      ·exact lev_yes B
     refine hne' (one_room m lo' hi' (by omega) (by omega) (by omega) fun r=>?_)
     have z:=yes_lo B e' hl r
     rw [← z.1,← z.2,← h,← h,yes_put B hk (by omega),yes_put B hk (by omega)]
   ·have a:k=0\/k=1:=by omega
    have b:l=0\/l=1:=by omega
    have z:=h fun _=>false
    rcases a with a | a <;> rcases b with b | b <;> subst a <;> subst b
    ·rfl
    ·rw [yes_no B,yes_yes B] at z; cases z
    ·rw [yes_no B,yes_yes B] at z; cases z
    ·rfl
end
theorem get_snoc {rs:List Rm} {x:Rm} {k:Nat} (h:k < rs.length):(rs ++ [x])[k]?=rs[k]?:=List.getElem?_append_left h
theorem lev_snoc {n:Nat} {rs:List Rm} {x:Rm} {k:Nat} (h:k < rs.length):lev n (rs ++ [x]) k=lev n rs k:=by
 unfold lev; rw [get_snoc h]
theorem Bk.snoc {n:Nat} {rs:List Rm} (B:Bk n rs) {i lo hi:Nat} (hin:i < n) (hlo:lo < rs.length) (hhi:hi < rs.length) (hne:lo≠hi) (l1:i < lev n rs lo) (l2:i < lev n rs hi) (new:some (i,lo,hi) ∉ rs):Bk n (rs ++ [some (i,lo,hi)]) where
 h0:=by rw [get_snoc (by have:=len2 B; omega)]; exact B.h0
 h1:=by rw [get_snoc (by have:=len2 B; omega)]; exact B.h1
 rm:=fun k h2 hk=>by
  rw [List.length_append,List.length_singleton] at hk
  by_cases hlt:k < rs.length
  ·obtain ⟨i',lo',hi',e,a1,a2,a3,a4,a5,a6⟩:=B.rm k h2 hlt
   exact ⟨i',lo',hi',by rw [get_snoc hlt]; exact e,a1,a2,a3,a4,by rw [lev_snoc (by omega)]; exact a5,by rw [lev_snoc (by omega)]; exact a6⟩
  ·have e:k=rs.length:=by omega
   subst e
   exact ⟨i,lo,hi,by simp,hin,hlo,hhi,hne,by rw [lev_snoc hlo]; exact l1,by rw [lev_snoc hhi]; exact l2⟩
 uq:=fun k l x hk hl=>by
  have lk:=(List.getElem?_eq_some_iff.mp hk).1
  have ll:=(List.getElem?_eq_some_iff.mp hl).1
  rw [List.length_append,List.length_singleton] at lk ll
  have last:∀ m,m=rs.length->(rs ++ [some (i,lo,hi)])[m]?=some (some x)->x=(i,lo,hi):=fun m hm h=>by
   subst hm
   simp at h
   exact h.symm
  by_cases h1:k < rs.length
  ·by_cases h2:l < rs.length
   ·rw [get_snoc h1] at hk
    rw [get_snoc h2] at hl
    exact B.uq k l x hk hl
   ·exfalso
    have e:=last l (by omega) hl
    subst e
    rw [get_snoc h1] at hk
    exact new (List.mem_of_getElem? hk)
  ·by_cases h2:l < rs.length
   ·exfalso
    have e:=last k (by omega) hk
    subst e
    rw [get_snoc h2] at hl
    exact new (List.mem_of_getElem? hl)
   ·omega
theorem lead_snoc {n:Nat} {rs:List Rm} (B:Bk n rs) {x:Rm} (r:Row):∀ (f k:Nat),k < rs.length->lead (rs ++ [x]) r f k=lead rs r f k
 | 0,_,_=>rfl
 | f + 1,k,hk=>by
  unfold lead
  rw [get_snoc hk]
  by_cases h2:2<=k
  ·obtain ⟨i,lo,hi,e,_,hlo,hhi,_⟩:=B.rm k h2 hk
   rw [e]
   show lead (rs ++ [x]) r f (if r i then hi else lo)=lead rs r f (if r i then hi else lo)
   exact lead_snoc B r f _ (by split <;> omega)
  ·have:k=0\/k=1:=by omega
   rcases this with z | z <;> subst z
   ·rw [B.h0]
   ·rw [B.h1]
theorem yes_snoc {n:Nat} {rs:List Rm} (B:Bk n rs) {x:Rm} {k:Nat} (hk:k < rs.length) (r:Row):yes (rs ++ [x]) k r=yes rs k r:=by
 unfold yes; rw [lead_snoc B r k k hk]
def Grown (rs rs':List Rm):Prop:=∃ xs,rs'=rs ++ xs
theorem Grown.refl (rs:List Rm):Grown rs rs:=⟨[],by simp⟩
theorem Grown.trans {a b c:List Rm} (h:Grown a b) (k:Grown b c):Grown a c:=by
 obtain ⟨x,rfl⟩:=h
 obtain ⟨y,rfl⟩:=k
 exact ⟨x ++ y,by rw [List.append_assoc]⟩
theorem Grown.len {a b:List Rm} (h:Grown a b):a.length<=b.length:=by
 obtain ⟨x,rfl⟩:=h
 rw [List.length_append]; omega
theorem Grown.get {a b:List Rm} (h:Grown a b) {k:Nat} (hk:k < a.length):b[k]?=a[k]?:=by
 obtain ⟨x,rfl⟩:=h
 exact List.getElem?_append_left hk
theorem Grown.snoc (rs:List Rm) (x:Rm):Grown rs (rs ++ [x]):=⟨[x],rfl⟩
theorem Grown.lev {n:Nat} {a b:List Rm} (h:Grown a b) {k:Nat} (hk:k < a.length):lev n b k=lev n a k:=by
 unfold Bdd.lev; rw [h.get hk]
theorem Grown.lead {n:Nat} {a b:List Rm} (B:Bk n a) (h:Grown a b) (r:Row):∀ (f k:Nat),k < a.length->lead b r f k=lead a r f k
 | 0,_,_=>rfl
 | f + 1,k,hk=>by
  unfold Bdd.lead
  rw [h.get hk]
  by_cases h2:2<=k
  ·obtain ⟨i,lo,hi,e,_,hlo,hhi,_⟩:=B.rm k h2 hk
   rw [e]
   show Bdd.lead b r f (if r i then hi else lo)=Bdd.lead a r f (if r i then hi else lo)
   exact Grown.lead B h r f _ (by split <;> omega)
  ·have:k=0\/k=1:=by omega
   rcases this with z | z <;> subst z
   ·rw [B.h0]
   ·rw [B.h1]
theorem Grown.yes {n:Nat} {a b:List Rm} (B:Bk n a) (h:Grown a b) {k:Nat} (hk:k < a.length) (r:Row):yes b k r=yes a k r:=by
 unfold Bdd.yes; rw [Grown.lead B h r k k hk]
end Bdd
namespace L2
theorem hu9 {A:PySem.Around} {k:Nat} (hr:Room k A):A.units + 9 < PySem.cLine:=by have:=hr.units; omega
end L2
namespace Sen
open PySem L2 Bdd
abbrev Foot:=Addr->Prop
def Away (F:Foot) (H H':Hp):Prop:=∀ x o,H x=some o->¬ F x->H' x=some o
def NewF (H:Hp) (F F':Foot):Prop:=∀ x,F' x->F x\/H x=none
def bookMeths:List Str:=["room", "size", "order", "enter", "worth_at", "below"]
structure BookLike (C:Addr) (B:Hp->Addr->List Str->List Rm->Foot->Prop):Prop where
 ins:∀ {H b os rs F},B H b os rs F->∃ dx fs,H b=some (.ins C dx fs)/\∀ m∈bookMeths,fs.lookup m=none
 frame:∀ {H H' b os rs F},B H b os rs F->(∀ x o,H x=some o->F x->H' x=some o)->Tups H H'->B H' b os rs F
 there:∀ {H b os rs F x},B H b os rs F->F x->H x≠none
 bk:∀ {H b os rs F},B H b os rs F->Bk os.length rs
 ord:∀ {H b os rs F},B H b os rs F->IsOrd os
theorem BookLike.same {C:Addr} {B:Hp->Addr->List Str->List Rm->Foot->Prop} (L:BookLike C B) {H H':Hp} {b:Addr} {os:List Str} {rs:List Rm} {F:Foot} (h:B H b os rs F) (g:Same H H'):B H' b os rs F :=
 L.frame h (fun x o e _=>g x o e) (Tups.of g)
theorem BookLike.fresh {C:Addr} {B:Hp->Addr->List Str->List Rm->Foot->Prop} (L:BookLike C B) {H:Hp} {b x:Addr} {os:List Str} {rs:List Rm} {F:Foot} (h:B H b os rs F) (e:H x=none):¬ F x:=fun q=>L.there h q e
theorem BookLike.lst {C:Addr} {B:Hp->Addr->List Str->List Rm->Foot->Prop} (L:BookLike C B) {H:Hp} {b x:Addr} {os:List Str} {rs:List Rm} {F:Foot} {xs:List V} (h:B H b os rs F) (e:H x=some (.lst xs)) (n:¬ F x) (o:HO):B (upd H x o) b os rs F :=
 L.frame h (fun y u e' hy=>by rw [upd_ne (fun z=>n (by rw [← z]; exact hy))]; exact e') (Tups.lst e o)
def RoomV (os:List Str) (H:Hp) (x:Rm) (v:V):Prop:=match x with
 | none=>v=.non
 | some (i,lo,hi)=>∃ (p:Addr) (y:Str),v=.ref p/\os[i]?=some y/\H p=some (.tup [.str y,.int (lo:Nat),.int (hi:Nat)])
def envR (os:List Str) (r:Row):Str->Bool:=fun x=>r (ix os x)
section
variable (B:Hp->Addr->List Str->List Rm->Foot->Prop) (K:PySem.W.Frag) (C:Addr)
def spBookInit:Sp:=fun vs H Q _=>∃ (b dx l:Addr) (os:List Str),vs=[.ref b,.ref l]/\H b=some (.ins C dx [])/\b≠dx/\SqL K H l (os.map V.str)/\IsOrd os /\
 ∀ (H':Hp) (F:Foot),(∀ x o,H x=some o->x≠b->H' x=some o)->B H' b os [none,none] F->(∀ x,F x->x=b\/x=dx\/H x=none)->Q .non H'
def spBookSize:Sp:=fun vs H Q _=>∃ (b:Addr) (os:List Str) (rs:List Rm) (F:Foot),vs=[.ref b]/\B H b os rs F/\∀ H',Same H H'->Q (.int (rs.length:Nat)) H'
def spBookOrder:Sp:=fun vs H Q _=>∃ (b:Addr) (os:List Str) (rs:List Rm) (F:Foot),vs=[.ref b]/\B H b os rs F/\∀ (l:Addr) (H':Hp),Same H H'->H l=none->H' l=some (.lst (os.map V.str))->Q (.ref l) H'
def spBookRoom:Sp:=fun vs H Q _=>∃ (b:Addr) (os:List Str) (rs:List Rm) (F:Foot) (k:Nat) (x:Rm),vs=[.ref b,.int k]/\B H b os rs F/\rs[k]?=some x/\∀ (v:V) (H':Hp),Same H H'->RoomV os H' x v->Q v H'
def Grow (b:Addr) (os:List Str) (H:Hp) (rs:List Rm) (F:Foot) (n:Nat) (f:Row->Bool) (Q:VK):Prop:=∀ (k:Nat) (rs':List Rm) (F':Foot) (H':Hp),Away F H H'->Tups H H'->B H' b os rs' F'->NewF H F F'->Grown rs rs'->k < rs'.length->(∀ r,yes rs' k r=f r)->rs'.length<=rs.length + n->Q (.int (k:Nat)) H'
def spBookEnter:Sp:=fun vs H Q _=>∃ (b p:Addr) (os:List Str) (rs:List Rm) (F:Foot) (s:Sn),vs=[.ref b,.ref p]/\B H b os rs F/\rs.length<=8000000/\IsS H s p/\s.inO os/\s.count<=200/\s.depth<=24/\Grow B b os H rs F 200000 (fun r=>s.val (envR os r)) Q
end
theorem eq_ll {K:PySem.W.Frag} {H:Hp} {n:Nat} {p q:Addr} {xs ys:List V} (hp:SqL K H p xs) (hq:SqL K H q ys) (hl:xs.length=ys.length) (h:∀ (j:Nat) x y,xs[j]?=some x->ys[j]?=some y->EqD K H n x y true):EqD K H (n + 1) (.ref p) (.ref q) true:=by
 have z:=EqD.ll (e:=fun _=>true) hp hq hl h
 have e:(List.range xs.length).all (fun _=>true)=true:=by simp
 rw [e] at z
 exact z
theorem eq_flat {K:PySem.W.Frag} {H:Hp} {n:Nat} {x:V} (f:flatV x=true):EqD K H n x x true:=by
 have z:=EqD.flat (K:=K) (H:=H) (n:=n) f f
 rw [eqV_refl f] at z
 exact z
theorem eq_tt {K:PySem.W.Frag} {H:Hp} {n:Nat} {p q:Addr} {xs:List V} (hp:SqT K H p xs) (hq:SqT K H q xs) (f:xs.all flatV=true):EqD K H (n + 1) (.ref p) (.ref q) true:=by
 have z:=EqD.tt (n:=n) (e:=fun _=>true) hp hq fun j x y hx hy=>by
  rw [hx] at hy
  cases hy
  exact eq_flat (List.all_eq_true.mp f x (List.mem_of_getElem? hx))
 have e:((List.range (min xs.length xs.length)).all (fun _=>true) && xs.length == xs.length)=true:=by simp
 rw [e] at z
 exact z
theorem cut_head {xs:List V} {n:Nat}:cutV xs none (some (n:Int))=xs.take n:=by
 unfold cutV
 rw [HT.sIx_none,HT.sIx_nat,List.drop_zero,Nat.sub_zero]
 by_cases h:n<=xs.length
 ·rw [Nat.min_eq_left h]
 ·rw [Nat.min_eq_right (by omega),List.take_length,List.take_of_length_le (by omega)]
end Sen
namespace L2
open PySem PySem.Spec PyProof.Rows
theorem bt_sorted:bootBuiltins "sorted"=some (.builtin "sorted"):=by decide +kernel
end L2
namespace Bdd
open L2
end Bdd
namespace Sen
open PySem L2 Bdd
section
variable (B:Hp->Addr->List Str->List Rm->Foot->Prop)
end
end Sen
namespace Bdd
def Means (rs:List Rm) (k:Nat) (f:Row->Bool):Prop:=k < rs.length/\∀ r,yes rs k r=f r
theorem Means.grown {n:Nat} {a b:List Rm} (B:Bk n a) (g:Grown a b) {k:Nat} {f:Row->Bool} (h:Means a k f):Means b k f:=⟨Nat.lt_of_lt_of_le h.1 g.len,fun r=>by rw [g.yes B h.1]; exact h.2 r⟩
theorem Means.eq {n:Nat} {rs:List Rm} (B:Bk n rs) {i j:Nat} {f g:Row->Bool} (h:Means rs i f) (k:Means rs j g) (e:∀ r,f r=g r):i=j:=one_room B (max i j) i j ⟨Nat.le_max_left _ _,Nat.le_max_right _ _⟩ h.1 k.1 fun r=>by rw [h.2,k.2,e]
end Bdd
namespace L2
open PySem
theorem cutK {X:Cx} {all rest:List Stmt} {D:Ends} {Tf:TS->TS} {Pre:St->Hp->Prop} (Mid:St->Hp->Prop) (h1:∀ t,PSs X rest t->PSs X all (Tf t)) (h:∀ u:TS,(∀ σ H,Mid σ H->u D σ H)->∀ σ H,Pre σ H->Tf u D σ H)
  (hr:∃ t,PSs X rest t/\∀ σ H,Mid σ H->t D σ H):∃ t,PSs X all t/\∀ σ H,Pre σ H->t D σ H :=
 let ⟨t,a,b⟩:=hr
 ⟨Tf t,h1 t a,h t b⟩
theorem cut0 {X:Cx} {all:List Stmt} {D:Ends} {σ:St} {H:Hp} (h:∃ t,PSs X all t/\∀ σ' H',(σ'=σ/\H'=H)->t D σ' H'):∃ t,PSs X all t/\t D σ H :=
 let ⟨t,a,b⟩:=h
 ⟨t,a,b _ _ ⟨rfl,rfl⟩⟩
end L2
namespace Sen
open PySem L2 Bdd
section
variable (B:Hp->Addr->List Str->List Rm->Foot->Prop)
end
section
variable {B:Hp->Addr->List Str->List Rm->Foot->Prop} {C:Addr} {H0:Hp} {b:Addr} {os:List Str} {n:Nat} {H:Hp} {rs:List Rm} {F:Foot}
end
end Sen
namespace Bdd
open Sen
def rowN (b:Nat):Row:=fun i=>b.testBit i
def bits (r:Row):Nat->Nat
 | 0=>0
 | n + 1=>if r n then bits r n + 2 ^ n else bits r n
theorem bits_lt (r:Row):∀ n,bits r n < 2 ^ n
 | 0=>Nat.zero_lt_one
 | n + 1=>by
  have ih:=bits_lt r n
  unfold bits
  rw [Nat.pow_succ]
  split <;> omega
theorem bits_bit (r:Row):∀ {n i:Nat},i < n->(bits r n).testBit i=r i
 | 0,i,h=>by omega
 | n + 1,i,h=>by
  have lt:=bits_lt r n
  have z:(bits r n).testBit n=false:=Nat.testBit_lt_two_pow lt
  unfold bits
  by_cases e:i=n
  ·subst e
   cases hr:r i
   ·rw [if_neg Bool.false_ne_true]; exact z
   ·rw [if_pos rfl,tb_add_same,z]; rfl
  ·have hi:i < n:=by omega
   split
   ·rw [tb_add_lt hi]; exact bits_bit r hi
   ·exact bits_bit r hi
theorem eq_bits {n a b:Nat} (ha:a < 2 ^ n) (hb:b < 2 ^ n) (h:∀ i,i < n->a.testBit i=b.testBit i):a=b :=
 Nat.eq_of_testBit_eq fun i=>by
  by_cases hi:i < n
  ·exact h i hi
  ·have:2 ^ n<=2 ^ i:=Nat.pow_le_pow_right (by decide) (by omega)
   rw [Nat.testBit_lt_two_pow (by omega),Nat.testBit_lt_two_pow (by omega)]
theorem bits_put {r:Row} {n i:Nat} (hi:i < n) (v:Bool):bits (put r i v) n=putBit (bits r n) i v:=by
 refine eq_bits (bits_lt _ _) (putBit_lt (bits_lt _ _) hi) fun j hj=>?_
 rw [bits_bit _ hj,putBit_bit,bits_bit _ hj]
 rfl
theorem bits_rowN {n b:Nat} (h:b < 2 ^ n):bits (rowN b) n=b:=eq_bits (bits_lt _ _) h fun i hi=>by rw [bits_bit _ hi]; rfl
theorem yes_bits {n:Nat} {rs:List Rm} (B:Bk n rs) {k:Nat} (hk:k < rs.length) (r:Row):yes rs k (rowN (bits r n))=yes rs k r :=
 yes_congr B k k (Nat.le_refl _) hk fun i _ hi=>bits_bit r hi
theorem tab_inj {n N M:Nat} {f g:Nat->Bool} (h:IsTab n N f) (k:IsTab n M g) (e:∀ b,b < 2 ^ n->f b=g b):N=M :=
 Nat.eq_of_testBit_eq fun i=>by
  rw [h i,k i]
  by_cases hi:i < 2 ^ n
  ·rw [e i hi]
  ·rw [decide_eq_false hi]; rfl
theorem tab_val {n N:Nat} {f:Nat->Bool} (h:IsTab n N f) {b:Nat} (hb:b < 2 ^ n):N.testBit b=f b:=by rw [h b,decide_eq_true hb]; rfl
def Free (n:Nat) (f:Nat->Bool) (p:Nat):Prop:=∀ b,b < 2 ^ n->∀ v,f (putBit b p v)=f b
theorem putBit_self (b p:Nat):putBit b p (b.testBit p)=b:=by unfold putBit; rw [if_pos rfl]
theorem Free.of_flip {n p:Nat} {f:Nat->Bool} (h:∀ b,b < 2 ^ n->f (putBit b p (!b.testBit p))=f b):Free n f p:=fun b hb v=>by
 by_cases e:v=b.testBit p
 ·rw [e,putBit_self]
 ·have:v=!b.testBit p:=by cases v <;> cases hh:b.testBit p <;> simp_all
  rw [this]; exact h b hb
theorem const_of_free {n:Nat} {f:Nat->Bool} (h:∀ p,p < n->Free n f p):∀ b,b < 2 ^ n->f b=f 0:=by
 have key:∀ m b,m<=n->b < 2 ^ n->(∀ i,m<=i->i < n->b.testBit i=false)->f b=f 0:=by
  intro m
  induction m with
  | zero =>
   intro b _ hb hz
   have:b=0:=eq_bits hb (Nat.two_pow_pos n) fun i hi=>by rw [hz i (Nat.zero_le _) hi,Nat.zero_testBit]
   rw [this]
  | succ m ih =>
   intro b hm hb hz
   rw [← h m (by omega) b hb false]
   refine ih _ (by omega) (putBit_lt hb (by omega)) fun i hi hin=>?_
   rw [putBit_bit]
   by_cases e:i=m
   ·rw [if_pos e]
   ·rw [if_neg e]; exact hz i (by omega) hin
 exact fun b hb=>key n b (Nat.le_refl _) hb fun i hi hin=>by omega
theorem lev_gt {n:Nat} {rs:List Rm} (B:Bk n rs) {k p:Nat} (hk:k < rs.length) (hp:p < n) (h:∀ i,i<=p->∀ r v,yes rs k (put r i v)=yes rs k r):p < lev n rs k:=by
 by_cases k2:2<=k
 ·obtain ⟨i,lo,hi,e,hin,hlo,hhi,hne,l1,l2⟩:=B.rm k k2 hk
  rw [lev_of B e]
  by_cases hip:i<=p
  ·exfalso
   refine hne (one_room B (max lo hi) lo hi ⟨Nat.le_max_left _ _,Nat.le_max_right _ _⟩ (by omega) (by omega) fun r=>?_)
   have z:=yes_lo B e hk r
   rw [← z.1,← z.2,h i hip,h i hip]
  ·omega
 ·have:k=0\/k=1:=by omega
  rcases this with z | z <;> subst z
  ·rw [lev_no B]; exact hp
  ·rw [lev_yes B]; exact hp
theorem room_new {n m p k0 k1:Nat} {rs:List Rm} {f:Nat->Bool} (B:Bk n rs) (hp:p < n) (m0:k0 < rs.length) (m1:k1 < rs.length)
  (y0:∀ r,yes rs k0 r=f (putBit (bits r n) p false)) (y1:∀ r,yes rs k1 r=f (putBit (bits r n) p true)) (fr:∀ i,i < p->Free n f i)
  (dep:∃ b,b < 2 ^ n/\f (putBit b p false)≠f (putBit b p true)) (old:∀ j,j < m->¬ ∀ r,yes rs j r=f (bits r n)) (hl:∀ j,m<=j->j < rs.length->p < lev n rs j) :
  Bk n (rs ++ [some (p,k0,k1)])/\∀ r,yes (rs ++ [some (p,k0,k1)]) rs.length r=f (bits r n):=by
 have pb:∀ (r:Row) v,putBit (bits r n) p v < 2 ^ n:=fun r v=>putBit_lt (bits_lt _ _) hp
 have low:∀ (k:Nat) (w:Bool),k < rs.length->(∀ r,yes rs k r=f (putBit (bits r n) p w))->p < lev n rs k:=fun k w hk hy=>lev_gt B hk hp fun i hi r v=>by
  rw [hy,hy,bits_put (by omega)]
  by_cases e:i=p
  ·subst e
   congr 1
   refine eq_bits (putBit_lt (putBit_lt (bits_lt _ _) hp) hp) (pb r w) fun j _=>?_
   rw [putBit_bit,putBit_bit,putBit_bit]
   by_cases e:j=i
   ·rw [if_pos e,if_pos e]
   ·rw [if_neg e,if_neg e,if_neg e]
  ·rw [← fr i (by omega) _ (pb r w) v]
   congr 1
   refine eq_bits (putBit_lt (putBit_lt (bits_lt _ _) (by omega)) hp) (putBit_lt (pb r w) (by omega)) fun j _=>?_
   rw [putBit_bit,putBit_bit,putBit_bit,putBit_bit]
   by_cases e1:j=p
   ·rw [if_pos e1,if_pos e1,if_neg (by omega)]
   ·rw [if_neg e1,if_neg e1]
 have ne:k0≠k1:=fun e=>by
  subst e
  obtain ⟨b,hb,hne⟩:=dep
  refine hne ?_
  have a:=y0 (rowN b)
  have c:=y1 (rowN b)
  rw [bits_rowN hb] at a c
  exact a.symm.trans c
 have fin:∀ (R:List Rm) (k:Nat),Bk n R->R[k]?=some (some (p,k0,k1))->(∀ j,j < rs.length->∀ r,yes R j r=yes rs j r)->∀ r,yes R k r=f (bits r n):=fun R k BR e same r=>by
  rw [yes_step BR e,same _ m1,same _ m0,y0,y1]
  have hb:=bits_bit r hp
  cases hr:r p
  ·rw [if_neg Bool.false_ne_true]
   rw [hr] at hb
   conv=>rhs; rw [← putBit_self (bits r n) p,hb]
  ·rw [if_pos rfl]
   rw [hr] at hb
   conv=>rhs; rw [← putBit_self (bits r n) p,hb]
 have new:some (p,k0,k1) ∉ rs:=fun h=>by
  obtain ⟨j,hj,e⟩:=List.getElem_of_mem h
  have e':rs[j]?=some (some (p,k0,k1)):=by rw [List.getElem?_eq_getElem hj,e]
  by_cases hm:j < m
  ·exact old j hm (fin rs j B e' fun _ _ _=>rfl)
  ·have:=hl j (by omega) hj
   rw [lev_of B e'] at this
   omega
 have B':=B.snoc hp m0 m1 ne (low k0 false m0 y0) (low k1 true m1 y1) new
 refine ⟨B',fin _ _ B' (by simp) fun j hj r=>?_⟩
 exact yes_snoc B hj r
end Bdd
namespace Bdd
open Sen
structure Tabs (n:Nat) (rs:List Rm) (ts:List Nat):Prop where
 len:ts.length=rs.length
 tab:∀ (j t:Nat),ts[j]?=some t->IsTab n t (fun b=>yes rs j (rowN b))
theorem Tabs.snoc {n:Nat} {rs:List Rm} (B:Bk n rs) {ts:List Nat} {x:Rm} {t:Nat} (h:Tabs n rs ts) (k:IsTab n t (fun b=>yes (rs ++ [x]) rs.length (rowN b))):Tabs n (rs ++ [x]) (ts ++ [t]):=by
 refine ⟨by rw [List.length_append,List.length_append,h.len]; rfl,fun j u e=>?_⟩
 by_cases hj:j < ts.length
 ·rw [List.getElem?_append_left hj] at e
  refine tab_congr (h.tab j u e) fun b _=>?_
  rw [yes_snoc B (by rw [← h.len]; exact hj)]
 ·have lt:=(List.getElem?_eq_some_iff.mp e).1
  rw [List.length_append,List.length_singleton] at lt
  have ej:j=ts.length:=by omega
  subst ej
  simp at e
  subst e
  rw [h.len]
  exact k
theorem Tabs.find {n:Nat} {rs:List Rm} (B:Bk n rs) {ts:List Nat} (h:Tabs n rs ts) {j t:Nat} {f:Nat->Bool} (e:ts[j]?=some t) (tb:IsTab n t f) (r:Row):yes rs j r=f (bits r n):=by
 have hj:j < rs.length:=by rw [← h.len]; exact (List.getElem?_eq_some_iff.mp e).1
 rw [← yes_bits B hj,← tab_val tb (bits_lt r n),tab_val (h.tab j t e) (bits_lt r n)]
theorem Tabs.same {n:Nat} {rs:List Rm} {ts:List Nat} (h:Tabs n rs ts) {j t:Nat} {f:Nat->Bool} (hj:j < rs.length) (tb:IsTab n t f) (hy:∀ r,yes rs j r=f (bits r n)):ts[j]?=some t:=by
 have lt:j < ts.length:=by rw [h.len]; exact hj
 rw [List.getElem?_eq_getElem lt]
 congr 1
 refine tab_inj (h.tab j _ (List.getElem?_eq_getElem lt)) tb fun b hb=>?_
 show yes rs j (rowN b)=f b
 rw [hy,bits_rowN hb]
end Bdd
namespace Sen
open PySem L2 Bdd
structure Nums (ts:List Nat) (kvs:List (Key × V)):Prop where
 get:∀ (j t:Nat),ts[j]?=some t->valV kvs (Sum.inl (t:Int))=some (.int (j:Nat))
 non:∀ t:Nat,t ∉ ts->valV kvs (Sum.inl (t:Int))=none
 len:kvs.length<=ts.length
theorem Nums.snoc {ts:List Nat} {kvs:List (Key × V)} (h:Nums ts kvs) {t:Nat} (ht:t ∉ ts):Nums (ts ++ [t]) (putK kvs (Sum.inl (t:Int)) (.int (ts.length:Nat))):=by
 refine ⟨fun j u e=>?_,fun u hu=>?_,?_⟩
 ·rw [valV_put]
  by_cases hj:j < ts.length
  ·rw [List.getElem?_append_left hj] at e
   have hm:=List.mem_of_getElem? e
   rw [if_neg fun z=>?_]
   ·exact h.get j u e
   ·have:(u:Int)=(t:Int):=Sum.inl.inj z
    have:u=t:=by omega
    exact ht (this ▸ hm)
  ·have lt:=(List.getElem?_eq_some_iff.mp e).1
   rw [List.length_append,List.length_singleton] at lt
   have ej:j=ts.length:=by omega
   subst ej
   simp at e
   subst e
   rw [if_pos rfl]
 ·rw [valV_put,if_neg fun z=>?_]
  ·exact h.non u fun z=>hu (List.mem_append_left _ z)
  ·have:(u:Int)=(t:Int):=Sum.inl.inj z
   have:u=t:=by omega
   exact hu (this ▸ List.mem_append_right _ List.mem_cons_self)
 ·have:=length_putK kvs (Sum.inl (t:Int)) (.int (ts.length:Nat))
  have:=h.len
  rw [List.length_append,List.length_singleton]
  omega
def roomT (n j:Nat):Rm->List V
 | none=>[.int (n:Nat),.int (j:Nat),.int (j:Nat)]
 | some (i,lo,hi)=>[.int (i:Nat),.int (lo:Nat),.int (hi:Nat)]
def roomGo (j:Nat) (x:Rm) (v:Bool):Nat:=match x with
 | none=>j
 | some (_,lo,hi)=>if v then hi else lo
def bookFs (ml rl tl nd:Addr):List (Str × V):=[("marks", .ref ml),("rooms", .ref rl),("tables", .ref tl),("numbers", .ref nd)]
structure Parts (C:Addr) (H:Hp) (b:Addr) (os:List Str) (rs:List Rm) (F:Foot) (dx ml rl tl nd:Addr) (rv:List V) (ts:List Nat) (kvs:List (Key × V)):Prop where
 hb:H b=some (.ins C dx (bookFs ml rl tl nd))
 hm:H ml=some (.lst (os.map V.str))
 hr:H rl=some (.lst rv)
 ht:H tl=some (.lst (ts.map fun t=>V.int (t:Nat)))
 hd:H nd=some (.dK kvs)
 mr:ml≠rl
 mt:ml≠tl
 rt:rl≠tl
 ord:IsOrd os
 bk:Bk os.length rs
 len:rv.length=rs.length
 rm:∀ (j:Nat) x,rs[j]?=some x->∃ p,rv[j]?=some (.ref p)/\H p=some (.tup (roomT os.length j x))
 tabs:Tabs os.length rs ts
 nums:Nums ts kvs
 ft:∀ x,F x↔(x=b\/x=ml\/x=rl\/x=tl\/x=nd)
def BookAt (C:Addr) (H:Hp) (b:Addr) (os:List Str) (rs:List Rm) (F:Foot):Prop:=∃ dx ml rl tl nd rv ts kvs,Parts C H b os rs F dx ml rl tl nd rv ts kvs
theorem Parts.frame {C:Addr} {H H':Hp} {b:Addr} {os:List Str} {rs:List Rm} {F:Foot} {dx ml rl tl nd:Addr} {rv:List V} {ts:List Nat} {kvs:List (Key × V)} (h:Parts C H b os rs F dx ml rl tl nd rv ts kvs)
  (s:∀ x o,H x=some o->F x->H' x=some o) (t:Tups H H'):Parts C H' b os rs F dx ml rl tl nd rv ts kvs :=
 {h with
  hb:=s _ _ h.hb ((h.ft _).mpr (.inl rfl))
  hm:=s _ _ h.hm ((h.ft _).mpr (.inr (.inl rfl)))
  hr:=s _ _ h.hr ((h.ft _).mpr (.inr (.inr (.inl rfl))))
  ht:=s _ _ h.ht ((h.ft _).mpr (.inr (.inr (.inr (.inl rfl)))))
  hd:=s _ _ h.hd ((h.ft _).mpr (.inr (.inr (.inr (.inr rfl)))))
  rm:=fun j x e=>let ⟨p,a,c⟩:=h.rm j x e; ⟨p,a,t _ _ c⟩ }
theorem bookLike (C:Addr):BookLike C (BookAt C) where
 ins:=fun ⟨dx,ml,rl,tl,nd,rv,ts,kvs,h⟩=>⟨dx,_,h.hb,fun m hm=>by
  simp only [bookMeths,List.mem_cons,List.not_mem_nil,or_false] at hm
  rcases hm with z | z | z | z | z | z <;> subst z <;> rfl⟩
 frame:=fun ⟨dx,ml,rl,tl,nd,rv,ts,kvs,h⟩ s t=>⟨dx,ml,rl,tl,nd,rv,ts,kvs,h.frame s t⟩
 there:=fun ⟨dx,ml,rl,tl,nd,rv,ts,kvs,h⟩ hx=>by
  rcases (h.ft _).mp hx with z | z | z | z | z <;> subst z
  ·rw [h.hb]; exact fun z=>by cases z
  ·rw [h.hm]; exact fun z=>by cases z
  ·rw [h.hr]; exact fun z=>by cases z
  ·rw [h.ht]; exact fun z=>by cases z
  ·rw [h.hd]; exact fun z=>by cases z
 bk:=fun ⟨_,_,_,_,_,_,_,_,h⟩=>h.bk
 ord:=fun ⟨_,_,_,_,_,_,_,_,h⟩=>h.ord
theorem Parts.more {C:Addr} {H H':Hp} {b:Addr} {os:List Str} {rs:List Rm} {F:Foot} {dx ml rl tl nd:Addr} {rv:List V} {ts:List Nat} {kvs:List (Key × V)} (h:Parts C H b os rs F dx ml rl tl nd rv ts kvs)
  {i lo hi t:Nat} {q:Addr} (t':Tups H H') (hb:H' b=H b) (hm:H' ml=H ml) (hr:H' rl=some (.lst (rv ++ [.ref q]))) (ht:H' tl=some (.lst (ts.map (fun t=>V.int (t:Nat)) ++ [.int (t:Nat)])))
  (hd:H' nd=some (.dK (putK kvs (Sum.inl (t:Int)) (.int (rs.length:Nat))))) (hq:H' q=some (.tup [.int (i:Nat),.int (lo:Nat),.int (hi:Nat)])) (B':Bk os.length (rs ++ [some (i,lo,hi)])) (hn:t ∉ ts) (tb:IsTab os.length t (fun b=>yes (rs ++ [some (i,lo,hi)]) rs.length (rowN b))) :
  Parts C H' b os (rs ++ [some (i,lo,hi)]) F dx ml rl tl nd (rv ++ [.ref q]) (ts ++ [t]) (putK kvs (Sum.inl (t:Int)) (.int (rs.length:Nat))) :=
 {hb:=by rw [hb]; exact h.hb
  hm:=by rw [hm]; exact h.hm
  hr:=hr
  ht:=by rw [ht,List.map_append]; rfl
  hd:=hd
  mr:=h.mr
  mt:=h.mt
  rt:=h.rt
  ord:=h.ord
  bk:=B'
  len:=by rw [List.length_append,List.length_append,h.len]; rfl
  rm:=fun j x e=>by
   by_cases hj:j < rs.length
   ·rw [List.getElem?_append_left hj] at e
    obtain ⟨p,a,c⟩:=h.rm j x e
    exact ⟨p,by rw [List.getElem?_append_left (by rw [h.len]; exact hj)]; exact a,t' _ _ c⟩
   ·have lt:=(List.getElem?_eq_some_iff.mp e).1
    rw [List.length_append,List.length_singleton] at lt
    have ej:j=rs.length:=by omega
    subst ej
    simp at e
    subst e
    exact ⟨q,by rw [← h.len]; simp,hq⟩
  tabs:=h.tabs.snoc h.bk tb
  nums:=by
   have z:=h.nums.snoc hn
   rw [h.tabs.len] at z
   exact z
  ft:=h.ft }
def spHeldAt:Sp:=fun vs H Q _=>∃ (N p n:Nat) (v:Bool) (f:Nat->Bool),vs=[.int N,.int p,.int (v.toNat:Nat),.int n]/\p < n/\n<=8/\IsTab n N f/\∀ R:Nat,IsTab n R (fun b=>f (putBit b p v))->Q (.int R) H
def spFirst:Sp:=fun vs H Q _=>∃ (N n:Nat) (f:Nat->Bool),vs=[.int N,.int n]/\n<=8/\IsTab n N f/\∀ p:Nat,p<=n->(∀ i,i < p->Free n f i)->(p < n->∃ b,b < 2 ^ n/\f (putBit b p false)≠f (putBit b p true))->Q (.int p) H
def spMustRoom (C:Addr):Sp:=fun vs H Q _=>∃ (b:Addr) (os:List Str) (rs:List Rm) (F:Foot) (k:Nat),vs=[.ref b,.int k]/\BookAt C H b os rs F/\k < rs.length/\Q .non H
def spPlaceOf (C:Addr):Sp:=fun vs H Q _=>∃ (b:Addr) (os:List Str) (rs:List Rm) (F:Foot) (k:Nat),vs=[.ref b,.int k]/\BookAt C H b os rs F/\k < rs.length/\Q (.int (lev os.length rs k:Nat)) H
def spGoing (C:Addr):Sp:=fun vs H Q _=>∃ (b:Addr) (os:List Str) (rs:List Rm) (F:Foot) (k:Nat) (x:Rm) (v:Bool),vs=[.ref b,.int k,.int (v.toNat:Nat)]/\BookAt C H b os rs F/\rs[k]?=some x/\Q (.int (roomGo k x v:Nat)) H
def spTableAt (C:Addr):Sp:=fun vs H Q _=>∃ (b:Addr) (os:List Str) (rs:List Rm) (F:Foot) (k:Nat),vs=[.ref b,.int k]/\BookAt C H b os rs F/\k < rs.length/\∀ t:Nat,IsTab os.length t (fun b=>yes rs k (rowN b))->Q (.int t) H
def spRoomWith (C:Addr) (d:Nat):Sp:=fun vs H Q _=>∃ (b:Addr) (os:List Str) (rs:List Rm) (F:Foot) (t u:Nat) (f:Nat->Bool),vs=[.ref b,.int t]/\BookAt C H b os rs F/\rs.length + 2 ^ d<=9000000/\u<=os.length/\os.length + 1<=u + d/\IsTab os.length t f/\(∀ i,i < u->Free os.length f i) /\
 ∀ (k:Nat) (rs':List Rm) (H':Hp),Away F H H'->Tups H H'->BookAt C H' b os rs' F->Grown rs rs'->k < rs'.length->(∀ r,yes rs' k r=f (bits r os.length))->rs'.length + 1<=rs.length + 2 ^ d->(∀ j,rs.length<=j->j < rs'.length->u<=lev os.length rs' j)->Q (.int (k:Nat)) H'
def spHangs:Sp:=fun vs H Q _=>∃ (N p n:Nat) (f:Nat->Bool),vs=[.int N,.int p,.int n]/\p < n/\n<=8/\IsTab n N f/\∀ b:Bool,(b=false->Free n f p)->(b=true->∃ c,c < 2 ^ n/\f (putBit c p false)≠f (putBit c p true))->Q (.bl b) H
end Sen
namespace L2
open PySem PySem.Spec PyProof.Rows
section
variable {X:Cx} {tg:Expr}
end
section
variable {x:Str} {σ:St} {js:List Nat} {te:TE} {H:Hp} {Qf:Addr->Hp->List V->Prop}
end
end L2
namespace Bdd
end Bdd
namespace Sen
open PySem L2 Bdd
end Sen
namespace Bdd
open Sen
def allR:Nat->List (List Bool)
 | 0=>[[]]
 | n + 1=>(allR n).flatMap fun r=>[r ++ [false],r ++ [true]]
def rowL (r:List Bool):Row:=fun i=>r.getD i false
theorem allR_len:∀ (n:Nat) (r:List Bool),r∈allR n->r.length=n
 | 0,r,h=>by
  have:r=[]:=by simpa [allR] using h
  rw [this]; rfl
 | n + 1,r,h=>by
  obtain ⟨x,hx,hr⟩:=List.mem_flatMap.mp h
  have ih:=allR_len n x hx
  simp at hr
  rcases hr with z | z <;> rw [z,List.length_append,ih] <;> rfl
theorem flat2_len {α β:Type} (f:α->List β) (h:∀ a,(f a).length=2):∀ l:List α,(l.flatMap f).length=2 * l.length
 | []=>rfl
 | a :: l=>by rw [List.flatMap_cons,List.length_append,h a,flat2_len f h l,List.length_cons]; omega
theorem allR_size:∀ n,(allR n).length=2 ^ n
 | 0=>rfl
 | n + 1=>by
  show ((allR n).flatMap _).length=_
  rw [flat2_len _ (fun _=>rfl),allR_size n,Nat.pow_succ]; omega
def ledN (rs:List Rm) (k p:Nat) (v:Bool):Nat:=match rs[k]? with
 | some (some (i,lo,hi))=>if i=p then (if v then hi else lo) else k
 | _=>k
section
variable {n:Nat} {rs:List Rm} (B:Bk n rs)
include B
theorem ledN_low {k p:Nat} {v:Bool} (h:k<=1):ledN rs k p v=k:=by
 unfold ledN
 have:k=0\/k=1:=by omega
 rcases this with z | z <;> subst z
 ·rw [B.h0]
 ·rw [B.h1]
theorem led_inv {m i:Nat} {r:Row} (hm:m < rs.length) (hi:i < n) (hl:i<=lev n rs m):ledN rs m i (r i) < rs.length/\i + 1<=lev n rs (ledN rs m i (r i))/\yes rs (ledN rs m i (r i)) r=yes rs m r:=by
 by_cases h2:2<=m
 ·obtain ⟨j,lo,hi',e,hjn,hlo,hhi,hne,l1,l2⟩:=B.rm m h2 hm
  have lk:=lev_of B e
  have ys:=yes_step B e r
  unfold ledN
  rw [e]
  by_cases ej:j=i
  ·subst ej
   show (if j=j then (if r j then hi' else lo) else m) < rs.length/\j + 1<=lev n rs (if j=j then (if r j then hi' else lo) else m)/\yes rs (if j=j then (if r j then hi' else lo) else m) r=yes rs m r
   rw [if_pos rfl]
   cases hr:r j
   ·rw [hr] at ys
    exact ⟨by show lo < rs.length; omega,l1,ys.symm⟩
   ·rw [hr] at ys
    exact ⟨by show hi' < rs.length; omega,l2,ys.symm⟩
  ·show (if j=i then (if r i then hi' else lo) else m) < rs.length/\i + 1<=lev n rs (if j=i then (if r i then hi' else lo) else m)/\yes rs (if j=i then (if r i then hi' else lo) else m) r=yes rs m r
   rw [if_neg ej]
   exact ⟨hm,by omega,rfl⟩
 ·rw [ledN_low B (by omega)]
  refine ⟨hm,?_,rfl⟩
  have:m=0\/m=1:=by omega
  rcases this with z | z <;> subst z
  ·rw [lev_no B]; exact hi
  ·rw [lev_yes B]; exact hi
end
end Bdd
namespace L2
open PySem PySem.Spec PyProof.Rows
section
variable {X:Cx} {sc osc:Scope} {xs:List Str} {js:List Nat} {tg:Expr} {g:TG} {elt iter:Expr} {px pos:Pos} {ifs:List Expr} {wi:TI} {tt:TT} {te:TE}
theorem pe_lcG (hosc:X.env.scope=osc) (L:LcOkG osc sc xs (js.map fun j=>X.N.getD j "")) (hc:X.calm=true) (hi:PI X tg iter wi) (hg:∀ (cl:List (Str × Addr)) (C:Addr) (s₂:Shared) (H₂:Hp) (fp:List Addr),PG (X.blk sc cl C (lcG X xs js) s₂ H₂ fp) tg g) (hjs:∀ j∈js,j < X.N.length)
  (ht:∀ (cl:List (Str × Addr)) (C:Addr) (s₂:Shared) (H₂:Hp) (fp:List Addr) (pins:List (Addr × Obj)) (s':Shared) (σ':St) (H':Hp) (Q:Bool->Hp->Prop),Inv (X.blk sc cl C (lcG X xs js) s₂ H₂ fp) pins σ' H' s'->tt σ' H' Q ->
   wpAny (model X.prog X.w) X.A (lcTests ifs (compEnvC sc cl C X.env)) (TP (X.blk sc cl C (lcG X xs js) s₂ H₂ fp) pins σ' Q) (fun _ _=>False) s')
  (he:∀ (cl:List (Str × Addr)) (C:Addr) (s₂:Shared) (H₂:Hp) (fp:List Addr),PE (X.blk sc cl C (lcG X xs js) s₂ H₂ fp) elt te)
  (hs:∀ x,foldedSetIterable iter X.env x=pure x:=by intro _; rfl) :
  PE X (.ListComp elt [⟨tg,iter,ifs,0⟩] sc pos) (tLCG wi xs js g tt te):=by
 intro pins s σ H Q I h
 rw [eval_ListComp]
 refine lc_coreG (use:=none) (Fin:=fun ys H=>∀ p,H p=none->Q (.ref p) (upd H p (.lst ys))) hosc L hc hi hg hjs ht he hs I h fun D C s5 H5 ys its k m5 J oD oC hDC p1 vs z hn fin=>?_
 refine ⟨m5,hn,fun h' hsb=>?_⟩
 have J2:Inv X pins σ H5 { s5 with heap:=h',toks:=s5.toks }:=J.turned (it:=C) (fun b o hb e=>hsb.extBut b o hb e) oC.free oC.loc (.inr oC.new) oC.cel oC.pin
 have p1':h'.get? D=some (lstObj its k):=hsb.extBut _ _ hDC p1
 have J3:Inv X pins σ (upd H5 D (.lst ys)) { s5 with heap:=h',toks:=s5.toks }:=J2.track oD.free oD.loc oD.new oD.cel oD.pin ⟨z,its,k,vs,p1'⟩
 exact ⟨.ref D,_,J3,rfl,fin D oD.free⟩
end
end L2
namespace L2
open PySem PySem.Spec PyProof.Rows
section
variable {X:Cx}
end
section
variable {X:Cx}
def rAddL (K:PySem.W.Frag):R2:=fun x y H Q=>∃ p q xs ys,x=.ref p/\y=.ref q/\SqL K H p xs/\SqL K H q ys/\xs.length + ys.length<=sizeLine/\∀ l,H l=none->Q (.ref l) (upd H l (.lst (xs ++ ys)))
theorem op_addL:OpR X (binaryOp .Add) (rAddL X.K):=by
 intro pins s σ H x y v u Q I rx ry h
 obtain ⟨p,q,xs,ys,rfl,rfl,hp,hq,hz,h⟩:=h
 cases rx
 cases ry
 obtain ⟨its1,rv1,pl1,hz1⟩:=I.list hp
 obtain ⟨its2,rv2,pl2,hz2⟩:=I.list hq
 obtain ⟨⟨cls,dd,data,sl⟩,ho,hc,n,hd⟩:=id pl1.isList
 obtain ⟨⟨cls2,dd2,data2,sl2⟩,ho2,hc2,n2,hd2⟩:=id pl2.isList
 simp only at hc hd hc2 hd2
 subst hc hd hc2 hd2
 have l1:=rv1.length
 have l2:=rv2.length
 have e:its1.toArray ++ its2.toArray=(its1 ++ its2).toArray:=by simp
 refine concat_meets ⟨_,ho,rfl⟩ ⟨_,ho2,rfl⟩ noFill_list_add seq_list_add PySem.F.slot_list_add PySem.F.entry_list_add (PySem.F.args_list_add_2 _ _) (list_addW p q its1.toArray its2.toArray n n2 dd dd2 sl sl2 (by simp; omega)) ⟨ho,ho2,?_⟩
 rw [e]
 refine ⟨.ref s.heap.objs.size,_,I.laid (t':=s.toks) (o:=.lst (xs ++ ys)) (fun b o e=>Heap.get?_push_of_some _ e) (Nat.le_refl _) ?_,rfl,h _ (I.hok.fresh (Nat.le_refl _))⟩
 exact ⟨by rw [List.length_append]; exact hz,its1 ++ its2,0,rv1.append rv2,Heap.get?_push_size _ rfl⟩
end
end L2
namespace L2
open PySem
section
variable {K:PySem.W.Frag} {a:Addr} {xs:List V} {σ:St} {js:List Nat} {te:TE} {H:Hp} {Qf:Addr->Hp->List V->Prop}
end
section
variable {X:Cx} {K:PySem.W.Frag}
end
end L2
namespace Bdd
end Bdd
namespace Sen
open PySem L2 Bdd
def spLed (C:Addr):Sp:=fun vs H Q _=>∃ (b:Addr) (os:List Str) (rs:List Rm) (F:Foot) (k p:Nat) (v:Bool),vs=[.ref b,.int k,.int p,.int (v.toNat:Nat)]/\BookAt C H b os rs F/\k < rs.length/\p < os.length/\Q (.int (ledN rs k p v:Nat)) H
def RowF (H0 H:Hp) (p:Addr) (r:List Bool):Prop:=H0 p=none/\H p=some (.lst (rowV r))
end Sen
namespace Sen
open PySem L2 Bdd
end Sen
namespace Bdd
end Bdd
namespace L2
open PySem
theorem pg_pair {X:Cx} {x y:Str} {px py pt:Pos} {x1:Nat} (hc:X.calm=true) (hN:X.N.Nodup) (h0:X.N[0]?=some x) (h1:X.N[1]?=some y) (hx:X.env.scope.names.lookup x=some .local) (hy:X.env.scope.names.lookup y=some .local):PG X (.Tuple [.Name x px,.Name y py] x1 pt) (gTup X.K 2 (gCons (gName 0) (gCons (gName 1) gNil))) :=
 pg_tup hc (pgs_cons (pg_name hN h0 (.inl hx) (.inr hx)) (pgs_cons (pg_name hN h1 (.inl hy) (.inr hy)) pgs_nil))
end L2
namespace L2
open PySem PySem.Spec PyProof.Rows
structure LcOkP (osc sc:Scope) (x y:Str) (fv:List Str):Prop where
 g:LcOkG osc sc [x,y] fv
 hx:sc.names.lookup x=some .local
 hy:sc.names.lookup y=some .local
 nd:([x,y] ++ fv).Nodup
theorem pe_lcP {X:Cx} {sc osc:Scope} {x y:Str} {js:List Nat} {elt iter:Expr} {px py pt pos:Pos} {x1:Nat} {wi:TI} {te:TE} (hosc:X.env.scope=osc) (L:LcOkP osc sc x y (js.map fun j=>X.N.getD j "")) (hc:X.calm=true) (hi:PI X (.Tuple [.Name x px,.Name y py] x1 pt) iter wi) (hjs:∀ j∈js,j < X.N.length)
  (he:∀ (cl:List (Str × Addr)) (C:Addr) (s₂:Shared) (H₂:Hp) (fp:List Addr),PE (X.blk sc cl C (lcG X [x,y] js) s₂ H₂ fp) elt te)
  (hs:∀ x,foldedSetIterable iter X.env x=pure x:=by intro _; rfl) :
  PE X (.ListComp elt [⟨.Tuple [.Name x px,.Name y py] x1 pt,iter,[],0⟩] sc pos) (tLCG wi [x,y] js (gTup X.K 2 (gCons (gName 0) (gCons (gName 1) gNil))) tYes te) :=
 pe_lcG hosc L.g hc hi (fun cl C s₂ H₂ fp=>pg_pair (X:=X.blk sc cl C (lcG X [x,y] js) s₂ H₂ fp) hc L.nd rfl rfl (lookup_relabel_local L.hx) (lookup_relabel_local L.hy)) hjs (fun cl C s₂ H₂ fp pins s' σ' H' Q I h=>wpAny_pure ⟨H',I,h⟩) he hs
end L2
namespace L2
open PySem PySem.Spec PyProof.Rows
section
variable {X:Cx} {K:PySem.W.Frag}
end
end L2
namespace Sen
open PySem L2 Bdd
def cellF (ns:List Int) (i:Nat):Int:=(ns[i]?).getD 0
def spCellF (K:PySem.W.Frag):Sp:=fun vs H Q _=>∃ (l:Addr) (ns:List Int) (i:Nat),vs=[.ref l,.int i]/\SqL K H l (ns.map V.int)/\Q (.int (cellF ns i)) H
end Sen
namespace Bdd
end Bdd
namespace Bdd
end Bdd
namespace Sen
open PySem L2 Bdd
end Sen
namespace L2
theorem tyes {σ:St} {H:Hp} {Q:Bool->Hp->Prop} (h:Q true H):tYes σ H Q:=h
end L2
namespace L2
open PySem PySem.Spec PyProof.Rows
section
variable {prog:Program} {w:World} {A:Around} {E:Value->Shared->Prop}
end
section
variable {X:Cx}
end
end L2
namespace Bdd
end Bdd
namespace Sen
open PySem L2 Bdd
end Sen
namespace Bdd
open Sen
end Bdd
namespace Sen
open PySem L2 Bdd
end Sen
namespace Sen
open PySem L2 Bdd
end Sen
namespace L2
open PySem
theorem bt_min:bootBuiltins "min"=some (.builtin "min"):=by decide +kernel
end L2
namespace Sen
open PySem L2 Bdd
end Sen
namespace Sen
open PySem L2 Bdd
theorem mono_value {K:PySem.W.Frag} (d:Nat):SpMono (spValue K d):=fun vs H Q Q' E h ⟨p,l,rl,s,os,r,e,h1,h2,h3,h4,h5,h6,h7,q⟩=>⟨p,l,rl,s,os,r,e,h1,h2,h3,h4,h5,h6,h7,fun H' g=>h _ _ (q H' g)⟩
end Sen
namespace Sen
open PySem L2 Bdd
end Sen
namespace L2
open PySem PySem.Spec PyProof.Rows
section
variable {X:Cx} {sc osc:Scope} {x:Str} {js:List Nat}
end
section
variable {X:Cx} {sc osc:Scope} {x:Str} {js:List Nat} {elt iter:Expr} {px pos:Pos} {ifs:List Expr} {wi:TI} {tt:TT} {te:TE}
end
end L2
namespace PySem.SeqAt
open AutoSeq1 (wpAny_loadPart')
open MeetsSeq MeetsSeq2 MeetsSeq3 SeqRoads2
def LtAt (A:Around) (s:Shared) (y x:Value) (b:Bool):Prop :=
 ∀ (prog:Program) (w:World) (E:Value->Shared->Prop) (Q:Value->Shared->Prop),Q (.bool b) s->wpAny (model prog w) A (richCompare .Lt y x) Q E s
def lexB (e f:Nat->Bool) (m n:Nat):Nat->Nat->Bool
 | 0,_=>decide (m < n)
 | k + 1,i=>if e i then lexB e f m n k (i + 1) else f i
theorem lt_loopAt (l b:Addr) (items items2:Array Value) (n n2:Nat) (dd dd2:Option Addr) (sl sl2:Array (Option Value)) (e f:Nat->Bool) (k:Nat) :
  ∀ i:Nat,min items.size items2.size - i=k->Meets (Builtin.«list.__eq__.loop» ⟨[.ref l,.ref b,rawInt i,rawInt 0],[]⟩)
   (fun A R s=>s.heap.get? l=some { cls:=.type "list", dict:=dd,data:=.seq items n,slots:=sl }/\s.heap.get? b=some { cls:=.type "list", dict:=dd2,data:=.seq items2 n2,slots:=sl2 } /\
    (∀ j (h1:j < items.size) (h2:j < items2.size),EqAt A.in1 s items[j] items2[j] (e j))/\(∀ j (h1:j < items.size) (h2:j < items2.size),e j=false->LtAt A.in1 s items[j] items2[j] (f j)) /\
    R (.ok (.ret (.bool (lexB e f items.size items2.size k i)))) s):=by
 induction k with
 | zero =>
  intro i hk prog w A R s h
  obtain ⟨hp,g,d,tk,os⟩:=s; obtain ⟨hl,hb,he,hf,h⟩:=h
  wp_walk using wpAny_loadPart' hl,wpAny_loadPart' hb
  by_cases h1:i < items.size
  ·have hi1:items[((i:Nat):Int).toNat]?=some items[i]:=by simp [h1]
   have hi2:items2[((i:Nat):Int).toNat]?=none:=by simp; omega
   rw [hi1,hi2]
   wp_walk using wpAny_loadPart' hl,wpAny_loadPart' hb
   exact h
  ·have hi1:items[((i:Nat):Int).toNat]?=none:=by simp; omega
   rw [hi1]
   wp_walk using wpAny_loadPart' hl,wpAny_loadPart' hb
   exact h
 | succ k ih =>
  intro i hk prog w A R s h
  obtain ⟨hp,g,d,tk,os⟩:=s; obtain ⟨hl,hb,he,hf,h⟩:=h
  wp_walk using wpAny_loadPart' hl,wpAny_loadPart' hb
  have hlt:i < items.size:=by omega
  have hlt2:i < items2.size:=by omega
  have hi1:items[((i:Nat):Int).toNat]?=some items[i]:=by simp [hlt]
  have hi2:items2[((i:Nat):Int).toNat]?=some items2[i]:=by simp [hlt2]
  have hc:((i:Int) + 1)=((i + 1:Nat):Int):=by push_cast; rfl
  rw [lexB] at h
  rw [hi1,hi2]
  refine wpAny_bind (he i hlt hlt2 prog w _ _ ?_)
  cases hb':e i with
  | true =>
   rw [hb',if_pos rfl] at h
   wp_walk
   rw [hc]
   exact ⟨plainId_quiet plain_eq_loop _,codeAny_builtin entry_eq_loop (by
    rw [Around.under_plainId plain_eq_loop _]
    exact ih (i + 1) (by omega) prog w A R _ ⟨hl,hb,he,hf,h⟩)⟩
  | false =>
   rw [hb',if_neg Bool.false_ne_true] at h
   wp_walk using wpAny_loadPart' hl,wpAny_loadPart' hb
   rw [hi1,hi2]
   refine wpAny_bind (hf i hlt hlt2 hb' prog w _ _ ?_)
   wp_walk
   exact h
theorem list_ltAt (l b:Addr) (items items2:Array Value) (n n2:Nat) (dd dd2:Option Addr) (sl sl2:Array (Option Value)) (e f:Nat->Bool) :
  Meets (Builtin.«list.__lt__» ⟨[.ref l,.ref b],[]⟩)
   (fun A R s=>s.heap.get? l=some { cls:=.type "list", dict:=dd,data:=.seq items n,slots:=sl }/\s.heap.get? b=some { cls:=.type "list", dict:=dd2,data:=.seq items2 n2,slots:=sl2 } /\
    (∀ j (h1:j < items.size) (h2:j < items2.size),EqAt A.in1 s items[j] items2[j] (e j))/\(∀ j (h1:j < items.size) (h2:j < items2.size),e j=false->LtAt A.in1 s items[j] items2[j] (f j)) /\
    R (.ok (.ret (.bool (lexB e f items.size items2.size (min items.size items2.size) 0)))) s):=by
 intro prog w A R s h
 obtain ⟨hp,g,d,tk,os⟩:=s; obtain ⟨hl,hb,he,hf,h⟩:=h
 have f3:=AutoSeq1.sub_list_list
 wp_walk using wpAny_loadPart' hl,wpAny_loadPart' hb
 exact ⟨plainId_quiet plain_eq_loop _,codeAny_builtin entry_eq_loop (by
  rw [Around.under_plainId plain_eq_loop _]
  exact lt_loopAt l b items items2 n n2 dd dd2 sl sl2 e f _ 0 rfl prog w A R _ ⟨hl,hb,he,hf,h⟩)⟩
section
variable {A:Around} {s:Shared}
end
end PySem.SeqAt
namespace L2
open PySem PySem.Spec PyProof.Rows
section
variable {X:Cx} {pins:List (Addr × Obj)} {σ:St} {H:Hp} {s:Shared}
end
namespace L2
open PySem PySem.Spec PyProof.Rows
end L2
section
variable {prog:Program} {w:World} {A:Around} {R:Result->Shared->Prop} {I:Addr} {fp wr:List Addr} {n:Nat} {V:Nat->Value->Prop} {St:Nat->Heap->Prop} {G:Shared->Prop} {kw:List (Str × Value)}
end
section
variable {X:Cx} {pins:List (Addr × Obj)} {σ:St} {H:Hp} {s:Shared}
end
end L2
namespace L2
open PySem PySem.Spec PyProof.Rows
section
variable {X:Cx} {pins:List (Addr × Obj)} {σ:St} {H:Hp} {s:Shared}
end
section
variable {X:Cx} {x:Str} {p pos kpos:Pos} {e d:Expr} {t:TA} {td:TE}
end
end L2
namespace Bdd
open PySem
def rowLt:List Bool->List Bool->Bool
 | a :: r,b :: t=>if a == b then rowLt r t else !a && b
 | [],_ :: _=>true
 | _,[]=>false
end Bdd
namespace Sen
open PySem L2 Bdd
theorem eqV_int (a b:Int):eqV (.int a) (.int b)=decide (a=b):=by
 by_cases h:a=b
 ·subst h; rw [decide_eq_true rfl]; simp [eqV]
 ·rw [decide_eq_false h]; simp [eqV,h]
theorem lexB_rows {r t:List Bool} (hl:r.length=t.length):∀ (k i:Nat),k + i=r.length->SeqAt.lexB (fun j=>r.getD j false == t.getD j false) (fun j=>!r.getD j false && t.getD j false) r.length t.length k i=rowLt (r.drop i) (t.drop i)
 | 0,i,h=>by
  rw [List.drop_of_length_le (by omega),List.drop_of_length_le (by omega)]
  show decide (r.length < t.length)=false
  rw [decide_eq_false (by omega)]
 | k + 1,i,h=>by
  have h1:i < r.length:=by omega
  have h2:i < t.length:=by omega
  rw [List.drop_eq_getElem_cons h1,List.drop_eq_getElem_cons h2]
  show (if (r.getD i false == t.getD i false)=true then SeqAt.lexB _ _ _ _ k (i + 1) else _)=(if r[i] == t[i] then rowLt (r.drop (i + 1)) (t.drop (i + 1)) else !r[i] && t[i])
  rw [lexB_rows hl k (i + 1) (by omega)]
  have e1:r.getD i false=r[i]:=by rw [List.getD_eq_getElem?_getD,List.getElem?_eq_getElem h1]; rfl
  have e2:t.getD i false=t[i]:=by rw [List.getD_eq_getElem?_getD,List.getElem?_eq_getElem h2]; rfl
  dsimp only
  rw [e1,e2]
end Sen
namespace L2
open PySem
end L2
namespace Sen
open PySem L2 Bdd
end Sen
namespace L2
open PySem PySem.Spec PyProof.Rows
theorem iteNe {x:V} {p q:Prop} (h:q):if (!decide (x=x))=true then p else q:=by
 rw [decide_eq_true rfl]
 exact h
theorem iteNe2 {x y:V} {p q:Prop} (e:x=y) (h:q):if (!decide (x=y))=true then p else q:=by
 subst e
 exact iteNe h
section
variable {X:Cx}
theorem vals_of_get:∀ {xs:List V} {us:List Value},xs.length=us.length->(∀ (i:Nat) x u,xs[i]?=some x->us[i]?=some u->RelV x u)->Vals xs us
 | [],[],_,_=>.nil
 | [],_ :: _,h,_=>by cases h
 | _ :: _,[],h,_=>by cases h
 | x :: xs,u :: us,h,r=>.cons (r 0 x u rfl rfl) (vals_of_get (Nat.succ.inj h) fun i x u hx hu=>r (i + 1) x u hx hu)
def natsV (n:Nat):List V:=(List.range n).map fun i=>V.int (i:Nat)
def tLR (ta:TA):TE:=fun σ H Q=>ta σ H fun vs H1=>∃ n:Nat,vs=[.int (n:Nat)]/\n<=1000000/\∀ l,H1 l=none->Q (.ref l) (upd H1 l (.lst (natsV n)))
theorem pe_listRange {e:Expr} {ta:TA} {p p2 pos pos2:Pos} (hc:X.calm=true) (hg:Gl X "list") (hm:X.mg "list"=none) (hg2:Gl X "range") (hm2:X.mg "range"=none) (ha:PA X [e] ta)
  (hs:starEach [e] X.env=[(false,eval e X.env)]:=by rfl)
  (hs2:starEach [.Call (.Name "range" p2) [e] [] pos2] X.env=[(false,eval (.Call (.Name "range" p2) [e] [] pos2) X.env)]:=by rfl) :
  PE X (.Call (.Name "list" p) [.Call (.Name "range" p2) [e] [] pos2] [] pos) (tLR ta):=by
 intro pins s σ H Q I h
 refine wpAny_Call_Name_kw (ld_blt I hg hm bt_list ?_ (by decide) (by decide))
 refine PyProof.Rows.callWith_type1 ?_ hs2 rfl
 rw [hs2]
 show wpAny _ _ (spliced ((false,eval (.Call (.Name "range" p2) [e] [] pos2) X.env) :: [])) _ _ s
 refine Calls.spliced_cons ?_
 refine Call_ (ld_blt I hg2 hm2 boot_range (PyProof.Rows.callWith_type1 (thn (ha pos2 pins s σ H _ I h) fun us s1 ⟨vs,H1,I1,r1,q1⟩=>?_) hs rfl))
 obtain ⟨n,e1,hn,q⟩:=q1
 subst e1
 obtain ⟨u,rfl,ru⟩:=vals1 r1
 obtain ⟨t,rfl⟩:=ru
 refine call_range_1 (Calls.spliced_nil ?_)
 refine call_list_range (n:=n) (I1.ok.hd hc) (IsRange.new ..) (small_one (by omega) (by omega) (by omega) (by omega)) (by rw [rangeSize_one]; split <;> omega) (by omega) fun h' tk acc' c' kp e0 ac=>?_
 have I2:=I1.kept (t':=s1.toks + 1 + 1) (h':=s1.heap.push { cls:=.type "range", data:=.fields #[.int 0 s1.toks,.int n t,.int 1 (s1.toks + 1)] }) fun b o e=>Heap.get?_push_of_some _ e
 have hl:acc'.size=n:=ac.1
 have rv:Vals (natsV n) acc'.toList:=by
  refine vals_of_get (by simp [natsV,hl]) fun i x u hx hu=>?_
  have hi:i < n:=by
   have:=(List.getElem?_eq_some_iff.mp hx).1
   simpa [natsV] using this
  unfold natsV at hx
  rw [List.getElem?_map,List.getElem?_range hi] at hx
  cases hx
  obtain ⟨t',rfl⟩:=ac.2 i u (by simpa using hu)
  exact ⟨t',by simp⟩
 exact ⟨.ref _,_,I2.laid (t':=tk) (o:=.lst (natsV n)) kp (Nat.le_refl _) ⟨by unfold natsV; rw [List.length_map,List.length_range]; exact Nat.le_trans hn (by decide),acc'.toList,c',rv,by simpa using e0⟩,rfl,q _ (I2.hok.fresh (Nat.le_refl _))⟩
end
end L2
namespace Bdd
open Sen
def anyB (n:Nat) (f:Nat->Bool):Bool:=(List.range (2 ^ n)).any f
theorem anyB_iff {n:Nat} {f:Nat->Bool}:anyB n f=true↔∃ b,b < 2 ^ n/\f b=true:=by
 unfold anyB
 rw [List.any_eq_true]
 exact ⟨fun ⟨b,h,e⟩=>⟨b,List.mem_range.mp h,e⟩,fun ⟨b,h,e⟩=>⟨b,List.mem_range.mpr h,e⟩⟩
theorem tab_zero {n N:Nat} {f:Nat->Bool} (h:IsTab n N f):decide (N=0)=!anyB n f:=by
 by_cases e:N=0
 ·subst e
  rw [decide_eq_true rfl]
  cases hb:anyB n f with
  | false=>rfl
  | true =>
   obtain ⟨b,hb,e⟩:=anyB_iff.mp hb
   have:=tab_val h hb
   rw [e,Nat.zero_testBit] at this
   cases this
 ·rw [decide_eq_false e]
  cases hb:anyB n f with
  | true=>rfl
  | false =>
   exfalso
   refine e (Nat.eq_of_testBit_eq fun i=>?_)
   rw [h i,Nat.zero_testBit]
   by_cases hi:i < 2 ^ n
   ·cases hf:f i with
    | false=>rw [Bool.and_false]
    | true=>rw [anyB_iff.mpr ⟨i,hi,hf⟩] at hb; cases hb
   ·rw [decide_eq_false hi]; rfl
def fvP (n:Nat):(Nat->Bool)->List Nat->List Bool
 | _,[]=>[]
 | f,p :: ps=>(!anyB n fun b=>f (putBit b p false)) :: fvP n (fun b=>f (putBit b p (!anyB n fun b=>f (putBit b p false)))) ps
def mix:Nat->List Bool->Nat->Nat
 | _,[],b=>b
 | i,v :: r,b=>putBit (mix (i + 1) r b) i v
theorem mix_snoc:∀ (r:List Bool) (i:Nat) (v:Bool) (b:Nat),mix i (r ++ [v]) b=mix i r (putBit b (i + r.length) v)
 | [],i,v,b=>rfl
 | u :: r,i,v,b=>by
  show putBit (mix (i + 1) (r ++ [v]) b) i u=putBit (mix (i + 1) r (putBit b (i + (r.length + 1)) v)) i u
  rw [mix_snoc r (i + 1) v b,show i + 1 + r.length=i + (r.length + 1) by omega]
theorem mix_lt {n:Nat}:∀ (r:List Bool) (i b:Nat),i + r.length<=n->b < 2 ^ n->mix i r b < 2 ^ n
 | [],i,b,_,hb=>hb
 | v :: r,i,b,h,hb=>by
  rw [List.length_cons] at h
  exact putBit_lt (mix_lt r (i + 1) b (by omega) hb) (by omega)
theorem mix_bit:∀ (r:List Bool) (i b j:Nat),i<=j->j < i + r.length->(mix i r b).testBit j=r.getD (j - i) false
 | [],i,b,j,h1,h2=>by rw [List.length_nil] at h2; omega
 | v :: r,i,b,j,h1,h2=>by
  show (putBit (mix (i + 1) r b) i v).testBit j=_
  rw [putBit_bit]
  by_cases e:j=i
  ·subst e
   rw [if_pos rfl,Nat.sub_self]
   rfl
  ·rw [List.length_cons] at h2
   rw [if_neg e,mix_bit r (i + 1) b j (by omega) (by omega)]
   obtain ⟨m,rfl⟩:∃ m,j=i + 1 + m:=⟨j - (i + 1),by omega⟩
   rw [show i + 1 + m - (i + 1)=m by omega,show i + 1 + m - i=m + 1 by omega]
   rfl
theorem mix_all {n:Nat} {r:List Bool} {b:Nat} (hl:r.length=n) (hb:b < 2 ^ n):mix 0 r b=rowBits r:=by
 have hr:=rowBits_lt r
 rw [hl] at hr
 refine eq_bits (mix_lt r 0 b (by omega) hb) hr fun i hi=>?_
 rw [mix_bit r 0 b i (Nat.zero_le _) (by omega),rowBits_bit,Nat.sub_zero,List.getD_eq_getElem?_getD]
def fstR (n:Nat) (f:Nat->Bool):Nat->List Bool
 | 0=>[]
 | i + 1=>fstR n f i ++ [!anyB n fun b=>f (mix 0 (fstR n f i ++ [false]) b)]
theorem fstR_len (n:Nat) (f:Nat->Bool):∀ i,(fstR n f i).length=i
 | 0=>rfl
 | i + 1=>by show (_ ++ [_]).length=_; rw [List.length_append,fstR_len n f i]; rfl
theorem fvP_range (n:Nat) (f:Nat->Bool):∀ (m i:Nat),fstR n f (i + m)=fstR n f i ++ fvP n (fun b=>f (mix 0 (fstR n f i) b)) (List.range' i m)
 | 0,i=>by show _=_ ++ []; rw [List.append_nil]; rfl
 | m + 1,i=>by
  have hl:=fstR_len n f i
  have e1:∀ v b,mix 0 (fstR n f i) (putBit b i v)=mix 0 (fstR n f i ++ [v]) b:=fun v b=>by rw [mix_snoc,hl,Nat.zero_add]
  rw [show i + (m + 1)=i + 1 + m by omega,fvP_range n f m (i + 1),List.range'_succ]
  show (fstR n f i ++ [_]) ++ _=fstR n f i ++ (_ :: _)
  rw [List.append_assoc]
  simp only [e1]
  rfl
theorem fvP_first (n:Nat) (f:Nat->Bool):fvP n f (List.range n)=fstR n f n:=by
 have:=fvP_range n f n 0
 rw [Nat.zero_add] at this
 rw [this,List.range_eq_range']
 rfl
theorem head_step {p q:List Bool->Bool}:∀ {l:List (List Bool)} {x:List Bool},(∀ r∈l,p r=(q (r ++ [false]) || q (r ++ [true])))->(l.filter p).head?=some x ->
  ((l.flatMap fun r=>[r ++ [false],r ++ [true]]).filter q).head?=some (x ++ [!q (x ++ [false])])
 | [],x,_,h=>by cases h
 | r :: l,x,hp,h=>by
  have hr:=hp r List.mem_cons_self
  rw [List.flatMap_cons,List.filter_append]
  cases hpr:p r with
  | true =>
   rw [List.filter_cons_of_pos hpr] at h
   have ex:r=x:=Option.some.inj h
   subst ex
   rw [hpr] at hr
   cases h0:q (r ++ [false]) with
   | true=>rw [List.filter_cons_of_pos h0]; rfl
   | false =>
    rw [h0,Bool.false_or] at hr
    rw [List.filter_cons_of_neg (by rw [h0]; exact Bool.false_ne_true),List.filter_cons_of_pos hr.symm]
    rfl
  | false =>
   rw [List.filter_cons_of_neg (by rw [hpr]; exact Bool.false_ne_true)] at h
   rw [hpr] at hr
   have h0:q (r ++ [false])=false:=by cases hh:q (r ++ [false]) with | false=>rfl | true=>rw [hh] at hr; cases hr
   have h1:q (r ++ [true])=false:=by cases hh:q (r ++ [true]) with | false=>rfl | true=>rw [hh,Bool.or_true] at hr; cases hr
   rw [List.filter_cons_of_neg (by rw [h0]; exact Bool.false_ne_true),List.filter_cons_of_neg (by rw [h1]; exact Bool.false_ne_true)]
   exact head_step (fun r' hr'=>hp r' (List.mem_cons_of_mem _ hr')) h
theorem fst_head {n:Nat} {f:Nat->Bool} (h:anyB n f=true):∀ i,i<=n->((allR i).filter fun r=>anyB n fun b=>f (mix 0 r b)).head?=some (fstR n f i)
 | 0,_=>by
  show (List.filter _ [[]]).head?=_
  have e:(anyB n fun b=>f (mix 0 [] b))=true:=h
  rw [List.filter_cons_of_pos (p:=fun r=>anyB n fun b=>f (mix 0 r b)) e]
  rfl
 | i + 1,hi=>by
  refine head_step (fun r hr=>?_) (fst_head h i (by omega))
  have hl:=allR_len i r hr
  rw [Bool.eq_iff_iff,Bool.or_eq_true,anyB_iff,anyB_iff,anyB_iff]
  constructor
  ·rintro ⟨b,hb,e⟩
   have e2:mix 0 (r ++ [b.testBit i]) b=mix 0 r b:=by rw [mix_snoc,Nat.zero_add,hl,putBit_self]
   cases hv:b.testBit i with
   | false=>rw [hv] at e2; exact .inl ⟨b,hb,by rw [e2]; exact e⟩
   | true=>rw [hv] at e2; exact .inr ⟨b,hb,by rw [e2]; exact e⟩
  ·rintro (⟨b,hb,e⟩ | ⟨b,hb,e⟩) <;> rw [mix_snoc,Nat.zero_add,hl] at e <;> exact ⟨_,putBit_lt hb (by omega),e⟩
theorem first_head {n:Nat} {f:Nat->Bool} (h:anyB n f=true):((allR n).filter fun r=>f (rowBits r)).head?=some (fvP n f (List.range n)):=by
 rw [fvP_first,← fst_head h n (Nat.le_refl _)]
 congr 1
 refine List.filter_congr fun r hr=>?_
 have hl:=allR_len n r hr
 rw [Bool.eq_iff_iff,anyB_iff]
 constructor
 ·intro e
  exact ⟨0,Nat.two_pow_pos n,by rw [mix_all hl (Nat.two_pow_pos n)]; exact e⟩
 ·rintro ⟨b,hb,e⟩
  rw [mix_all hl hb] at e
  exact e
theorem rowN_row (r:List Bool):rowN (rowBits r)=rowL r:=by
 funext i
 show (rowBits r).testBit i=r.getD i false
 rw [rowBits_bit,List.getD_eq_getElem?_getD]
end Bdd
namespace Sen
open PySem L2 Bdd
def spFirstValues (K:PySem.W.Frag):Sp:=fun vs H Q _=>∃ (N n:Nat) (f:Nat->Bool) (pl:Addr) (ps:List Nat),vs=[.int N,.ref pl,.int n]/\n<=8/\IsTab n N f/\SqL K H pl (ps.map fun p=>V.int (p:Nat))/\(∀ p∈ps,p < n)/\ps.length<=1000 /\
 ∀ (l:Addr) (H':Hp),Same H H'->H l=none->H' l=some (.lst (rowV (fvP n f ps)))->Q (.ref l) H'
def spFirstRow:Sp:=fun vs H Q _=>∃ (N n:Nat) (f:Nat->Bool),vs=[.int N,.int n]/\n<=8/\IsTab n N f/\anyB n f=true /\
 ∀ (l:Addr) (H':Hp) (r:List Bool),Same H H'->H l=none->H' l=some (.lst (rowV r))->((allR n).filter fun r=>f (rowBits r)).head?=some r->Q (.ref l) H'
section
variable (C:Addr) (K:PySem.W.Frag)
def spOneOrder:Sp:=fun vs H Q _=>∃ (b c:Addr) (os:List Str) (rs ts:List Rm) (F G:Foot),vs=[.ref b,.ref c]/\BookAt C H b os rs F/\BookAt C H c os ts G/\∀ H',Same H H'->Q .non H'
def spApart:Sp:=fun vs H Q _=>∃ (b c:Addr) (os:List Str) (rs ts:List Rm) (F G:Foot) (i j:Nat),vs=[.ref b,.int (i:Nat),.ref c,.int (j:Nat)]/\BookAt C H b os rs F/\BookAt C H c os ts G/\i < rs.length/\j < ts.length /\
 (∀ H',Same H H'->(∀ r,yes rs i r=yes ts j r)->Q .non H') /\
 ∀ (l:Addr) (H':Hp) (r:List Bool),Same H H'->H l=none->H' l=some (.lst (rowV r))->((allR os.length).filter fun r=>yes rs i (rowL r) != yes ts j (rowL r)).head?=some r->Q (.ref l) H'
end
end Sen
namespace L2
open PySem PySem.Spec PyProof.Rows
section
variable {X:Cx}
end
end L2
namespace Sen
open PySem L2 Bdd PyProof.Rows
section
variable (C:Addr) (K:PySem.W.Frag)
end
section
variable {C:Addr} {K:PySem.W.Frag} {sc:Addr} {ns:List Int} {H1:Hp} {ol bk p1 p2:Addr} {os:List Str} {s1 s2:Sn} {k1 k2 N:Nat} {H:Hp} {rs:List Rm} {F:Foot}
end
end Sen
namespace L2
open PySem PySem.Spec PyProof.Rows PySem.Builtin PySem.Builtin.Str
section
variable {X:Cx}
end
end L2
namespace L2
open PySem PySem.Spec PyProof.Rows
section
variable {X:Cx}
end
end L2
namespace Bdd
open PySem Sen
end Bdd
namespace Sen
open PySem L2 Bdd
end Sen
namespace Bdd
open PySem Sen L2
end Bdd
namespace Bdd
open PySem Sen
end Bdd
namespace Sen
open PySem L2 Bdd
section
variable (C:Addr) (K:PySem.W.Frag)
end
section
variable {C:Addr} {H0:Hp} {b:Addr} {os:List Str} {m:Nat} {H:Hp} {rs:List Rm} {F:Foot}
end
section
variable {C:Addr} {K:PySem.W.Frag} {sc:Addr} {ns:List Int} {H1:Hp} {ol bk:Addr} {os:List Str} {sl rl p0 p1 p2:Addr} {s0 s1 s2:Sn} {k1 k2 m:Nat} {H:Hp} {rs:List Rm} {F:Foot}
end
end Sen
namespace L2
open PySem PySem.Spec PyProof.Rows PySem.W
section
variable {prog:Program} {w:World} {A:Around} {E:Value->Shared->Prop} {κ:SortKind} {it:Array Keyed}
theorem minRun_le:∀ (f n r:Nat),r<=1->minRun' f n r<=n + r
 | 0,n,r,_=>Nat.le_refl _
 | f + 1,n,r,h=>by
  rw [minRun'_succ]
  by_cases h64:n < 64
  ·rw [if_pos h64]
   exact Nat.le_refl _
  ·rw [if_neg h64]
   have:=minRun_le f (n / 2) (max r (n % 2)) (by omega)
   omega
theorem asc_up {n:Nat} {R:Shared->Prop} {G:Nat->Shared->Prop} (hc:∀ m s,1<=m->m < n->R s->kas_cmp prog w A κ it m (m - 1) (fun c s'=>c=false/\R s') s) (hG:∀ s,R s->G n s) :
  ∀ (f a:Nat) (s:Shared),1<=a->a + f=n->R s->(kas_asc (List.toArray (List.range n)) f a).kasWp (kas_cmp prog w A κ it) G s
 | 0,a,s,h1,ha,hs=>by
  have e:a=n:=by omega
  subst e
  exact hG s hs
 | f + 1,a,s,h1,ha,hs=>by
  have g:∀ m,m < n->(List.toArray (List.range n)).getD m 0=m:=fun m hm=>by simp [Array.getD,hm]
  show kas_cmp prog w A κ it ((List.toArray (List.range n)).getD a 0) ((List.toArray (List.range n)).getD (a - 1) 0) (fun c s'=>(if c=true then KasT.ret a else kas_asc (List.toArray (List.range n)) f (a + 1)).kasWp (kas_cmp prog w A κ it) G s') s
  rw [g a (by omega),g (a - 1) (by omega)]
  refine kas_cmp_mono (hc a s h1 (by omega) hs) fun c s' ⟨e,hs'⟩=>?_
  subst e
  rw [if_neg Bool.false_ne_true]
  exact asc_up hc hG f (a + 1) s' (by omega) (by omega) hs'
theorem runs_up {n:Nat} {R:Shared->Prop} {Q:Unit->SortSt->Shared->Prop} {s:Shared} (h2:2<=n) (hc:∀ m s,1<=m->m < n->R s->kas_cmp prog w A κ it m (m - 1) (fun c s'=>c=false/\R s') s) (hs:R s)
  (hQ:∀ st' s',arrOf st'=(List.toArray (List.range n)).map (kas_item it)->failedOf st'=none->R s'->Q () st' s') :
  kasC (model prog w) A E sortRuns' Q (kas_st κ it (List.toArray (List.range n))) s:=by
 obtain ⟨r,rfl⟩:∃ r,n=r + 2:=⟨n - 2,by omega⟩
 have hrs:(List.toArray (List.range (r + 2))).size=r + 2:=by simp
 rw [sortRuns'_eq]
 refine kasC_bind (kasC_get ?_)
 dsimp only
 have hsz:(arrOf (kas_st κ it (List.toArray (List.range (r + 2))))).size=r + 2:=by
  show ((List.toArray (List.range (r + 2))).map (kas_item it)).size=_
  rw [Array.size_map,hrs]
 have hmr:¬ r + 2 < minRun' (r + 2) (r + 2) 0:=by
  have:=minRun_le (r + 2) (r + 2) 0 (by omega)
  omega
 generalize hμ:minRun' (r + 2) (r + 2) 0=μ at hmr
 simp only [hsz,hμ]
 refine kasC_bind (kasC_range ?_)
 show kasC _ _ _ (forIn (0 :: 1 :: List.range' 2 r) _ _) _ _ _
 refine kasC_cons ?_
 dsimp only
 rw [if_neg (by omega)]
 simp only [Nat.sub_zero,Nat.zero_add]
 have hcount:(kas_count (r + 2) (List.toArray (List.range (r + 2)))).kasWp (kas_cmp prog w A κ it) (fun x s'=>x=(r + 2,List.toArray (List.range (r + 2)))/\R s') s:=by
  unfold kas_count
  rw [KasT.kasWp_bind]
  refine asc_up (n:=r + 2) hc (fun s' hs'=>?_) (r + 1) 1 s (Nat.le_refl _) (by omega) hs
  show (if (r + 2 == r + 2)=true then KasT.ret (r + 2,List.toArray (List.range (r + 2))) else _).kasWp _ _ s'
  rw [if_pos (beq_self_eq_true _)]
  exact ⟨rfl,hs'⟩
 refine kasC_bind (kas_count_ (by omega) (by rw [hrs]; exact Nat.le_refl _) (fun m p' s' hm1 hm2 hp hg=>?_) hcount)
 obtain ⟨e,hs'⟩:=hg
 cases e
 dsimp only
 rw [if_neg hmr]
 refine kasC_bind (kasC_get ?_)
 rw [show (pendingOf (kas_st κ it (List.toArray (List.range (r + 2))))).back?=none from rfl]
 dsimp only
 refine kasC_bind (kasC_modify (kasC_pure ?_))
 show kasC _ _ _ (forIn (1 :: List.range' 2 r) _ _) _ _ _
 refine kasC_cons ?_
 dsimp only
 rw [if_pos (Nat.le_refl _)]
 refine kasC_pure ?_
 dsimp only
 refine kasC_bind (kasC_range ?_)
 show kasC _ _ _ (forIn (0 :: 1 :: List.range' 2 r) _ _) _ _ _
 refine kasC_cons ?_
 refine kasC_bind (kasC_get ?_)
 rw [if_pos (show (pendingOf (setPending (kas_st κ it (List.toArray (List.range (r + 2)))) ((pendingOf (kas_st κ it (List.toArray (List.range (r + 2))))).push (0,r + 2,0)))).size<=1 from Nat.le_refl 1)]
 refine kasC_pure ?_
 dsimp only
 exact kasC_pure (hQ _ _ rfl rfl hs')
end
section
variable {prog:Program} {w:World} {A:Around} {E:Value->Shared->Prop} {s:Shared}
end
section
variable {A:Around} {s:Shared}
theorem oneLt_list {prog:Program} {w:World} {E:Value->Shared->Prop} {l b:Addr} {items items2:Array Value} {e f:Nat->Bool} {Q:Bool->Shared->Prop} (hl:s.heap.IsList l items) (hb:s.heap.IsList b items2) (hu:A.units < cLine)
  (he:∀ j (h1:j < items.size) (h2:j < items2.size),SeqAt.EqAt A.in1 s items[j] items2[j] (e j)) (hf:∀ j (h1:j < items.size) (h2:j < items2.size),e j=false->SeqAt.LtAt A.in1 s items[j] items2[j] (f j))
  (h:Q (SeqAt.lexB e f items.size items2.size (min items.size items2.size) 0) s):wpAny (model prog w) A (keyLt' oneType' (.ref l) (.ref b)) Q E s:=by
 obtain ⟨⟨cls,dd,data,sl⟩,ho,hc,n,hd⟩:=id hl
 obtain ⟨⟨cls2,dd2,data2,sl2⟩,ho2,hc2,n2,hd2⟩:=id hb
 simp only at hc hd hc2 hd2
 subst hc hd hc2 hd2
 rw [keyLt'_oneType,oneLt'_eq]
 simp only [if_true]
 refine wpAny_bind (wpAny_cRoomFor hu ?_)
 refine wpAny_bind (wpAny_callSpecialIfBound?_slot (T := "list") ⟨_,ho,rfl⟩ F.slot_list_lt (call_meets F.slot_list_lt ⟨_,ho,rfl⟩ F.entry_list_lt (F.args_list_lt_2 _ _) (SeqAt.list_ltAt l b items items2 n n2 dd dd2 sl sl2 e f) ⟨ho,ho2,?_,?_,?_⟩))
 ·exact he
 ·exact hf
 ·exact wpAny_truthy_bool h
end
section
variable {X:Cx}
end
end L2
namespace L2
open PySem
section
variable {X:Cx}
end
end L2
namespace Bdd
open PySem
end Bdd
namespace Sen
open PySem L2 Bdd
end Sen
namespace Bdd
open PySem
end Bdd
namespace Bdd
open PySem
section
variable {n:Nat} {rs:List Rm} (B:Bk n rs)
include B
end
end Bdd
namespace Sen
open PySem L2 Bdd
section
variable {us vs:List Str} {x y:Str}
end
section
variable (C:Addr) (K:PySem.W.Frag)
end
end Sen
namespace L2
open PySem PySem.Spec PyProof.Rows PySem.W
section
variable {prog:Program} {w:World} {A:Around} {E:Value->Shared->Prop} {κ:SortKind} {it:Array Keyed} {s:Shared}
def rvS (κ:SortKind) (it:Array Keyed) (l:List Nat) (pend:Array (Nat × Nat × Nat)):SortSt:=SortSt.mk' κ (l.map (kas_item it)).toArray pend 7 none
def LtOk (prog:Program) (w:World) (A:Around) (κ:SortKind) (it:Array Keyed) (s:Shared) (lt:Nat->Nat->Bool) (N:Nat):Prop:=∀ i j,i < N->j < N->∀ C:Bool->Shared->Prop,C (lt i j) s->kas_cmp prog w A κ it i j C s
variable {lt:Nat->Nat->Bool} {N:Nat}
theorem lt_rv {x y:Nat} {st:SortSt} {Q:Option Bool->SortSt->Shared->Prop} (hc:LtOk prog w A κ it s lt N) (hx:x < N) (hy:y < N) (hk:kindOf st=κ) (q:Q (some (lt x y)) st s) :
  kasC (model prog w) A E (lt' (kas_item it x) (kas_item it y)) Q st s:=by
 rw [lt'_eq]
 refine kasC_bind (kasC_get ?_)
 rw [hk]
 exact kasC_bind (kasC_lift (wpAny_attempt (wpAny_mono (hc x y hx hy (fun c s'=>c=lt x y/\s'=s) ⟨rfl,rfl⟩) (fun c s' e=>by obtain ⟨rfl,rfl⟩:=e; exact kasC_pure q) fun _ _ hF=>hF.elim)))
theorem el_rv {arr:Array Keyed} {i:Nat} {v:Keyed} {st:SortSt} {Q:Keyed->SortSt->Shared->Prop} (h:arr[i]?=some v) (q:Q v st s):kasC (model prog w) A E (elem' arr i) Q st s:=by
 rw [elem'_eq,h]
 exact kasC_pure q
theorem arr_rv {l:List Nat} {i x:Nat} (h:l[i]?=some x):(l.map (kas_item it)).toArray[i]?=some (kas_item it x):=by simp [h]
theorem ltAt_rv {l:List Nat} {pend:Array (Nat × Nat × Nat)} {i j x y:Nat} {Q:Option Bool->SortSt->Shared->Prop} (hc:LtOk prog w A κ it s lt N) (hi:l[i]?=some x) (hj:l[j]?=some y) (hx:x < N) (hy:y < N)
  (q:Q (some (lt x y)) (rvS κ it l pend) s):kasC (model prog w) A E (ltAt' i j) Q (rvS κ it l pend) s:=by
 rw [ltAt'_eq]
 refine kasC_bind (kasC_get ?_)
 exact kasC_bind (el_rv (arr_rv hi) (kasC_bind (el_rv (arr_rv hj) (lt_rv hc hx hy rfl q))))
theorem count_rv {l:List Nat} {pend:Array (Nat × Nat × Nat)} {lo nrem a b c:Nat} {Q:Option Nat->SortSt->Shared->Prop} (hc:LtOk prog w A κ it s lt N) (h0:l[lo]?=some a) (h1:l[lo + 1]?=some b) (h2:l[lo + 2]?=some c)
  (ha:a < N) (hb:b < N) (hd:c < N) (hn:3<=nrem) (e1:lt b a=false) (e2:lt c b=true) (e3:lt a b=true) (q:Q (some 2) (rvS κ it l pend) s):kasC (model prog w) A E (countRun' lo nrem) Q (rvS κ it l pend) s:=by
 rw [countRun'_eq]
 refine kasC_bind (kasC_range ?_)
 obtain ⟨r,rfl⟩:∃ r,nrem=r + 3:=⟨nrem - 3,by omega⟩
 rw [show r + 3 - 1=r + 2 from rfl,List.range'_succ,List.range'_succ]
 refine kasC_cons ?_
 refine kasC_bind (ltAt_rv hc h1 h0 hb ha ?_)
 rw [e1]
 refine kasC_pure ?_
 refine kasC_cons ?_
 refine kasC_bind (ltAt_rv hc h2 h1 hd hb ?_)
 rw [e2]
 refine kasC_pure ?_
 dsimp only
 rw [if_neg (by simp),if_pos (by decide)]
 refine kasC_bind (ltAt_rv hc h0 h1 ha hb ?_)
 rw [e3]
 exact kasC_pure q
def plc (f:Nat->Bool):Nat->Nat->Nat->Nat
 | 0,l,_=>l
 | n + 1,l,r=>if l >= r then l else if f ((l + r) / 2)=true then plc f n l ((l + r) / 2) else plc f n ((l + r) / 2 + 1) r
theorem bub_list {α:Type} (P A B S:List α) (x:α):bubble (P ++ A ++ B ++ x :: S).toArray (P.length + A.length + B.length) B.length=(P ++ A ++ x :: B ++ S).toArray:=by
 have eL:P ++ A ++ B ++ x :: S=(P ++ A) ++ (B ++ x :: S):=by simp
 have eR:P ++ A ++ x :: B ++ S=(P ++ A) ++ (x :: (B ++ S)):=by simp
 have hl:P.length + A.length=(P ++ A).length:=by simp
 rw [eL,eR,hl]
 generalize P ++ A=P
 apply Array.ext'
 apply List.ext_getElem?
 intro k
 have e:=getElem?_bubble (xs:=(P ++ (B ++ x :: S)).toArray) (src:=P.length + B.length) (by simp) B.length (by omega) k
 rw [Array.getElem?_toList,e]
 simp only [List.getElem?_toArray]
 by_cases h1:k=P.length + B.length - B.length
 ·rw [if_pos h1,List.getElem?_append_right (l₁:=P) (by omega),List.getElem?_append_right (l₁:=P) (by omega),Nat.add_sub_cancel_left,List.getElem?_append_right (by omega),Nat.sub_self,show k - P.length=0 by omega]
  rfl
 ·rw [if_neg h1]
  by_cases h2:P.length + B.length - B.length < k/\k<=P.length + B.length
  ·rw [if_pos h2,List.getElem?_append_right (l₁:=P) (by omega),List.getElem?_append_right (l₁:=P) (by omega),List.getElem?_append_left (l₁:=B) (by omega),show k - P.length=(k - 1 - P.length) + 1 by omega,List.getElem?_cons_succ,List.getElem?_append_left (by omega)]
  ·rw [if_neg h2]
   by_cases h3:k < P.length
   ·rw [List.getElem?_append_left h3,List.getElem?_append_left h3]
   ·rw [List.getElem?_append_right (l₁:=P) (by omega),List.getElem?_append_right (l₁:=P) (by omega),List.getElem?_append_right (l₁:=B) (by omega),show k - P.length=(k - P.length - 1) + 1 by omega,List.getElem?_cons_succ,List.getElem?_append_right (by omega),show k - P.length - 1 + 1 - B.length=(k - P.length - 1 - B.length) + 1 by omega,List.getElem?_cons_succ]
theorem bin_rv {l:Nat->List Nat} {pend:Array (Nat × Nat × Nat)} {lo n ok:Nat} {Q:Bool->SortSt->Shared->Prop} (hc:LtOk prog w A κ it s lt N) (hn:max ok 1<=n)
  (hs:∀ k,max ok 1<=k->k < n->∃ (x:Nat) (g:Nat->Nat),(l k)[lo + k]?=some x/\x < N/\(∀ m,m < k->(l k)[lo + m]?=some (g m)/\g m < N) /\
   bubble (l k).toArray (lo + k) (lo + k - (lo + plc (fun m=>lt x (g m)) k 0 k))=(l (k + 1)).toArray)
  (q:Q true (rvS κ it (l n) pend) s):kasC (model prog w) A E (binarySort' lo n ok) Q (rvS κ it (l (max ok 1)) pend) s:=by
 rw [binarySort'_eq]
 refine kasC_bind (kasC_range ?_)
 generalize ha:max ok 1=a at hn hs
 have main:∀ (f k:Nat),k + f=n->a<=k->∀ {R:Option Bool × Unit->SortSt->Shared->Prop} {body:Nat->Option Bool × Unit->StateT SortSt Sem (ForInStep (Option Bool × Unit))},R (none,()) (rvS κ it (l n) pend) s ->
   (∀ (k:Nat) (R':ForInStep (Option Bool × Unit)->SortSt->Shared->Prop),a<=k->k < n->R' (.yield (none,())) (rvS κ it (l (k + 1)) pend) s->kasC (model prog w) A E (body k (none,())) R' (rvS κ it (l k) pend) s) ->
   kasC (model prog w) A E (forIn (List.range' k f) (none,()) body) R (rvS κ it (l k) pend) s:=by
  intro f
  induction f with
  | zero =>
   intro k hk _ R body hR _
   obtain rfl:k=n:=by omega
   exact kasC_nil hR
  | succ f ih =>
   intro k hk hak R body hR hb
   rw [List.range'_succ]
   exact kasC_cons (hb k _ hak (by omega) (ih (k + 1) (by omega) (by omega) hR hb))
 refine main (n - a) a (by omega) (Nat.le_refl _) (kasC_pure q) fun k R' hak hkn hR'=>?_
 obtain ⟨x,g,hx,hxN,hg,hbub⟩:=hs k hak hkn
 refine kasC_bind (kasC_range ?_)
 have place:∀ (f u v:Nat) (ls:List Nat),ls.length=f->v<=k->v - u<=f->∀ {R:Option Bool × Nat × Nat->SortSt->Shared->Prop} {body:Nat->Option Bool × Nat × Nat->StateT SortSt Sem (ForInStep (Option Bool × Nat × Nat))},
   (∀ v',R (none,plc (fun m=>lt x (g m)) f u v,v') (rvS κ it (l k) pend) s) ->
   (∀ y u v (R':ForInStep (Option Bool × Nat × Nat)->SortSt->Shared->Prop),u >= v->R' (.done (none,u,v)) (rvS κ it (l k) pend) s->kasC (model prog w) A E (body y (none,u,v)) R' (rvS κ it (l k) pend) s) ->
   (∀ y u v (R':ForInStep (Option Bool × Nat × Nat)->SortSt->Shared->Prop),u < v->v<=k->R' (.yield (if lt x (g ((u + v) / 2))=true then (none,u,(u + v) / 2) else (none,(u + v) / 2 + 1,v))) (rvS κ it (l k) pend) s->kasC (model prog w) A E (body y (none,u,v)) R' (rvS κ it (l k) pend) s) ->
   kasC (model prog w) A E (forIn ls (none,u,v) body) R (rvS κ it (l k) pend) s:=by
  intro f
  induction f with
  | zero =>
   intro u v ls hl hv hf R body hR _ _
   cases ls with
   | nil=>exact kasC_nil (hR v)
   | cons _ _=>simp at hl
  | succ f ih =>
   intro u v ls hl hv hf R body hR b1 b2
   cases ls with
   | nil=>simp at hl
   | cons y ls =>
    have hl':ls.length=f:=by simpa using hl
    unfold plc at hR
    by_cases hge:u >= v
    ·rw [if_pos hge] at hR
     exact kasC_cons (b1 y u v _ hge (hR v))
    ·rw [if_neg hge] at hR
     refine kasC_cons (b2 y u v _ (by omega) hv ?_)
     cases hlt:lt x (g ((u + v) / 2)) with
     | true =>
      simp only [hlt,if_true] at hR ⊢
      exact ih u ((u + v) / 2) ls hl' (by omega) (by omega) hR b1 b2
     | false =>
      simp only [hlt,Bool.false_eq_true,if_false] at hR ⊢
      exact ih ((u + v) / 2 + 1) v ls hl' hv (by omega) hR b1 b2
 refine place k 0 k _ (by rw [List.length_range']; omega) (Nat.le_refl _) (by omega) (fun v'=>?_) (fun y u v R2 hge hR2=>?_) fun y u v R2 hlt hv hR2=>?_
 ·show kasC _ _ _ (do moveDown' (lo + k) (lo + plc (fun m=>lt x (g m)) k 0 k); pure (ForInStep.yield (none,()))) _ _ _
  rw [moveDown'_eq]
  refine kasC_bind (kasC_modify (kasC_pure ?_))
  have e:setArr (rvS κ it (l k) pend) (bubble (arrOf (rvS κ it (l k) pend)) (lo + k) (lo + k - (lo + plc (fun m=>lt x (g m)) k 0 k)))=rvS κ it (l (k + 1)) pend:=by
   have e1:bubble ((l k).map (kas_item it)).toArray (lo + k) (lo + k - (lo + plc (fun m=>lt x (g m)) k 0 k))=(bubble (l k).toArray (lo + k) (lo + k - (lo + plc (fun m=>lt x (g m)) k 0 k))).map (kas_item it):=by
    rw [← List.map_toArray]
    exact kas_swaps_map (kas_item it) (fun i=>lo + k - i) (fun i=>lo + k - i - 1) _ _
   show SortSt.mk' κ (bubble ((l k).map (kas_item it)).toArray (lo + k) _) pend 7 none=SortSt.mk' κ ((l (k + 1)).map (kas_item it)).toArray pend 7 none
   rw [e1,hbub,List.map_toArray]
  rw [e]
  exact hR'
 ·dsimp only
  rw [if_pos hge]
  exact kasC_pure hR2
 ·dsimp only
  rw [if_neg (by omega)]
  obtain ⟨g1,g2⟩:=hg ((u + v) / 2) (by omega)
  refine kasC_bind (ltAt_rv hc hx g1 hxN g2 ?_)
  cases hb:lt x (g ((u + v) / 2)) with
  | true =>
   simp only [hb,if_true] at hR2 ⊢
   exact kasC_pure hR2
  | false =>
   simp only [hb,Bool.false_eq_true,if_false] at hR2 ⊢
   exact kasC_pure hR2
def gal':Bool->Keyed->Array Keyed->Nat->Nat->Nat->StateT SortSt Sem (Option Nat):=sortPriv% PySem.Builtin.gallop
theorem gal_hi {l:List Nat} {x a b base n:Nat} {st:SortSt} {Q:Option Nat->SortSt->Shared->Prop} (hc:LtOk prog w A κ it s lt N) (hk:kindOf st=κ) (hx:x < N) (ha:a < N) (hb:b < N) (h0:l[base]?=some a) (h1:l[base + 1]?=some b) (hn:2<=n)
  (e0:lt x a=false) (e1:lt x b=true) (q:Q (some 1) st s) :
  kasC (model prog w) A E (gal' false (kas_item it x) (l.map (kas_item it)).toArray base n 0) Q st s:=by
 refine kasC_bind ?_
 refine kasC_bind (el_rv (arr_rv h0) ?_)
 rw [if_neg Bool.false_ne_true]
 refine kasC_bind (lt_rv hc hx ha hk (kasC_pure ?_))
 rw [e0]
 dsimp only [Option.map,Bool.not_false]
 rw [if_pos (show (!false)=true from rfl)]
 refine kasC_bind (kasC_range ?_)
 obtain ⟨r,rfl⟩:∃ r,n=r + 2:=⟨n - 2,by omega⟩
 rw [Nat.sub_zero,List.range'_succ]
 refine kasC_cons ?_
 dsimp only
 rw [if_neg (by omega)]
 refine kasC_bind ?_
 refine kasC_bind (el_rv (arr_rv (by rw [Nat.zero_add]; exact h1)) ?_)
 rw [if_neg Bool.false_ne_true]
 refine kasC_bind (lt_rv hc hx hb hk (kasC_pure ?_))
 rw [e1]
 dsimp only [Option.map,Bool.not_true]
 rw [if_pos (show (! !true)=true from rfl)]
 refine kasC_pure ?_
 dsimp only
 refine kasC_bind (kasC_range ?_)
 rw [Nat.sub_zero,List.range'_succ]
 refine kasC_cons ?_
 dsimp only
 rw [if_pos (by omega)]
 refine kasC_pure ?_
 dsimp only
 refine kasC_pure ?_
 rw [show 0 + min 1 (r + 2)=1 by omega]
 exact q
theorem gal_lo {l:List Nat} {x a b base n:Nat} {st:SortSt} {Q:Option Nat->SortSt->Shared->Prop} (hc:LtOk prog w A κ it s lt N) (hk:kindOf st=κ) (hx:x < N) (ha:a < N) (hb:b < N) (h0:l[base + (n + 1)]?=some a) (h1:l[base + n]?=some b)
  (e0:lt a x=false) (e1:lt b x=true) (q:Q (some (n + 1)) st s) :
  kasC (model prog w) A E (gal' true (kas_item it x) (l.map (kas_item it)).toArray base (n + 2) (n + 1)) Q st s:=by
 refine kasC_bind ?_
 refine kasC_bind (el_rv (arr_rv h0) ?_)
 rw [if_pos rfl]
 refine lt_rv hc ha hx hk ?_
 rw [e0]
 dsimp only
 rw [if_neg Bool.false_ne_true]
 refine kasC_bind (kasC_range ?_)
 rw [Nat.sub_zero,List.range'_succ]
 refine kasC_cons ?_
 dsimp only
 rw [if_neg (by omega)]
 refine kasC_bind ?_
 refine kasC_bind (el_rv (arr_rv (by rw [show n + 1 - 1=n from rfl]; exact h1)) ?_)
 rw [if_pos rfl]
 refine lt_rv hc hb hx hk ?_
 rw [e1]
 dsimp only
 rw [if_pos rfl]
 refine kasC_pure ?_
 dsimp only
 refine kasC_bind (kasC_range ?_)
 rw [Nat.sub_zero,List.range'_succ]
 refine kasC_cons ?_
 dsimp only
 rw [if_pos (by omega)]
 refine kasC_pure ?_
 dsimp only
 refine kasC_pure ?_
 exact q
def mlo':Array Keyed->Array Keyed->StateT SortSt Sem (Array Keyed):=sortPriv% PySem.Builtin.mergeLo
def ilv (y x:Nat->Nat) (t:Nat):Nat:=if t % 2=0 then y (t / 2) else x (t / 2)
theorem ilv_ev (y x:Nat->Nat) (j:Nat):ilv y x (2 * j)=y j:=by
 unfold ilv
 rw [if_pos (by omega),show 2 * j / 2=j by omega]
theorem ilv_od (y x:Nat->Nat) (j:Nat):ilv y x (2 * j + 1)=x j:=by
 unfold ilv
 rw [if_neg (by omega),show (2 * j + 1) / 2=j by omega]
def itm (it:Array Keyed) (f:Nat->Nat) (n:Nat):Array Keyed:=(((List.range n).map f).map (kas_item it)).toArray
theorem itm_get {f:Nat->Nat} {n j:Nat} (h:j < n):(itm it f n)[j]?=some (kas_item it (f j)):=by
 unfold itm
 simp [List.getElem?_range h]
theorem itm_size {f:Nat->Nat} {n:Nat}:(itm it f n).size=n:=by unfold itm; simp
theorem itm_push {f:Nat->Nat} {n:Nat}:(itm it f n).push (kas_item it (f n))=itm it f (n + 1):=by
 unfold itm
 simp [List.range_succ]
theorem itm_last {f:Nat->Nat} {n:Nat}:(itm it f (n + 1)).extract n (itm it f (n + 1)).size=#[kas_item it (f n)]:=by
 rw [itm_size,← itm_push]
 have h:(itm it f n).size=n:=itm_size
 apply Array.toList_inj.mp
 simp [Array.toList_extract,List.extract,itm,List.drop_append]
theorem mlo_rv {x y:Nat->Nat} {r:Nat} {st:SortSt} {Q:Array Keyed->SortSt->Shared->Prop} (hc:LtOk prog w A κ it s lt N) (hk:kindOf st=κ) (hg:gallopOf st=7) (hx:∀ j,j < r + 2->x j < N) (hy:∀ j,j < r + 2->y j < N)
  (h1:∀ j,j < r + 1->lt (y (j + 1)) (x j)=false) (h2:∀ j,j < r + 1->lt (y (j + 1)) (x (j + 1))=true)
  (q:Q (itm it (ilv y x) (2 * (r + 2))) st s) :
  kasC (model prog w) A E (mlo' (itm it x (r + 2)) (itm it y (r + 2))) Q st s:=by
 refine kasC_bind (kasC_lift (wpAny_rule ?_))
 dsimp only
 refine kasC_bind (el_rv (itm_get (by omega)) ?_)
 simp only [itm_size]
 rw [if_neg (by simp),if_neg (by simp)]
 refine kasC_bind (kasC_get ?_)
 rw [show (sortPriv% PySem.Builtin.SortState.minGallop) st=7 from hg]
 refine kasC_bind (kasC_range ?_)
 rw [show r + 2 + (r + 2) - 0=(2 * r + 3) + 1 by omega,List.range'_succ]
 refine kasC_cons ?_
 dsimp only
 refine kasC_bind (kasC_range ?_)
 have main:∀ (d j:Nat) (ls:List Nat) (bc:Nat),j + d=r->2 * d + 1<=ls.length->bc<=1->∀ {R:Option (Array Keyed) × Array Keyed × Nat × Nat × Nat × Nat->SortSt->Shared->Prop} {body:Nat->Option (Array Keyed) × Array Keyed × Nat × Nat × Nat × Nat->StateT SortSt Sem (ForInStep (Option (Array Keyed) × Array Keyed × Nat × Nat × Nat × Nat))},
   (∀ o u v a b,R (some (itm it (ilv y x) (2 * (r + 2))),o,u,v,a,b) st s) ->
   (∀ z out u v a b (R':ForInStep (Option (Array Keyed) × Array Keyed × Nat × Nat × Nat × Nat)->SortSt->Shared->Prop),u < r->v < r + 2->lt (y v) (x u)=false->a + 1 < 7->R' (.yield (none,out.push (kas_item it (x u)),u + 1,v,a + 1,0)) st s->kasC (model prog w) A E (body z (none,out,u,v,a,b)) R' st s) ->
   (∀ z out v a b (R':ForInStep (Option (Array Keyed) × Array Keyed × Nat × Nat × Nat × Nat)->SortSt->Shared->Prop),v < r + 2->lt (y v) (x r)=false->R' (.done (some (out.push (kas_item it (x r)) ++ (itm it y (r + 2)).extract v (r + 2) ++ (itm it x (r + 2)).extract (r + 1) (r + 2)),out.push (kas_item it (x r)),r + 1,v,a + 1,0)) st s->kasC (model prog w) A E (body z (none,out,r,v,a,b)) R' st s) ->
   (∀ z out u v a b (R':ForInStep (Option (Array Keyed) × Array Keyed × Nat × Nat × Nat × Nat)->SortSt->Shared->Prop),u < r + 2->v < r + 1->lt (y v) (x u)=true->b + 1 < 7->R' (.yield (none,out.push (kas_item it (y v)),u,v + 1,0,b + 1)) st s->kasC (model prog w) A E (body z (none,out,u,v,a,b)) R' st s) ->
   kasC (model prog w) A E (forIn ls (none,itm it (ilv y x) (2 * j + 1),j,j + 1,0,bc) body) R st s:=by
  intro d
  induction d with
  | zero =>
   intro j ls bc hj hl hb R body hR b1 b2 b3
   obtain rfl:j=r:=by omega
   cases ls with
   | nil=>simp at hl
   | cons z ls =>
    refine kasC_cons (b2 z _ _ _ _ _ (by omega) (h1 _ (by omega)) ?_)
    have e1:=itm_last (it:=it) (f:=y) (n:=j + 1)
    have e2:=itm_last (it:=it) (f:=x) (n:=j + 1)
    rw [itm_size] at e1 e2
    have e3:=itm_push (it:=it) (f:=ilv y x) (n:=2 * j + 1)
    have e4:=itm_push (it:=it) (f:=ilv y x) (n:=2 * (j + 1))
    have e5:=itm_push (it:=it) (f:=ilv y x) (n:=2 * (j + 1) + 1)
    rw [ilv_od] at e3 e5
    rw [ilv_ev] at e4
    have e6:(itm it (ilv y x) (2 * j + 1)).push (kas_item it (x j)) ++ (itm it y (j + 2)).extract (j + 1) (j + 2) ++ (itm it x (j + 2)).extract (j + 1) (j + 2)=itm it (ilv y x) (2 * (j + 2)):=by
     rw [e1,e2,e3,← Array.push_eq_append,← Array.push_eq_append,show 2 * j + 1 + 1=2 * (j + 1) by omega,e4,e5]
     rfl
    rw [e6]
    exact hR _ _ _ _ _
  | succ d ih =>
   intro j ls bc hj hl hb R body hR b1 b2 b3
   cases ls with
   | nil=>simp at hl
   | cons z ls =>
    cases ls with
    | nil=>simp at hl
    | cons z' ls =>
     refine kasC_cons (b1 z _ _ _ _ _ _ (by omega) (by omega) (h1 j (by omega)) (by omega) ?_)
     refine kasC_cons (b3 z' _ _ _ _ _ _ (by omega) (by omega) (h2 j (by omega)) (by omega) ?_)
     have e3:=itm_push (it:=it) (f:=ilv y x) (n:=2 * j + 1)
     have e4:=itm_push (it:=it) (f:=ilv y x) (n:=2 * (j + 1))
     rw [ilv_od] at e3
     rw [ilv_ev] at e4
     rw [e3,show 2 * j + 1 + 1=2 * (j + 1) by omega,e4]
     exact ih (j + 1) ls 1 (by omega) (by simp at hl; omega) (Nat.le_refl _) hR b1 b2 b3
 have e0:(#[kas_item it (y 0)]:Array Keyed)=itm it (ilv y x) (2 * 0 + 1):=rfl
 show kasC _ _ _ (forIn _ (none,(#[kas_item it (y 0)]:Array Keyed),0,0 + 1,0,0) _) _ _ _
 rw [e0]
 refine main r 0 _ 0 (by omega) (by rw [List.length_range']; omega) (by omega) (fun o u v a b=>?_) (fun z out u v a b R' hu hv e ha hR'=>?_) (fun z out v a b R' hv e hR'=>?_) (fun z out u v a b R' hu hv e hb hR'=>?_)
 ·dsimp only
  refine kasC_pure ?_
  dsimp only
  exact kasC_pure q
 ·dsimp only
  refine kasC_bind (el_rv (itm_get (by omega)) (kasC_bind (el_rv (itm_get (by omega)) (kasC_bind (lt_rv hc (hy v (by omega)) (hx u (by omega)) hk ?_)))))
  rw [e]
  dsimp only
  rw [if_neg Bool.false_ne_true]
  refine kasC_bind (el_rv (itm_get (by omega)) ?_)
  rw [if_neg (by simp; omega),if_neg (by omega)]
  exact kasC_pure hR'
 ·dsimp only
  refine kasC_bind (el_rv (itm_get (by omega)) (kasC_bind (el_rv (itm_get (by omega)) (kasC_bind (lt_rv hc (hy v (by omega)) (hx r (by omega)) hk ?_)))))
  rw [e]
  dsimp only
  rw [if_neg Bool.false_ne_true]
  refine kasC_bind (el_rv (itm_get (by omega)) ?_)
  rw [if_pos (by simp)]
  exact kasC_pure hR'
 ·dsimp only
  refine kasC_bind (el_rv (itm_get (by omega)) (kasC_bind (el_rv (itm_get (by omega)) (kasC_bind (lt_rv hc (hy v (by omega)) (hx u (by omega)) hk ?_)))))
  rw [e]
  dsimp only
  rw [if_pos rfl]
  refine kasC_bind (el_rv (itm_get (by omega)) ?_)
  rw [if_neg (by simp; omega),if_neg (by omega)]
  exact kasC_pure hR'
theorem kasC_set {σ:Type} {M:Model} {a:σ} {Q:PUnit->σ->Shared->Prop} {st:σ} (h:Q ⟨⟩ a s):kasC M A E (set a:StateT σ Sem PUnit) Q st s:=by
 unfold kasC; rw [StateT.run_set]; exact wpAny_pure h
theorem put_rv {α:Type}:∀ (ms pre mid suf:List α) (k:Nat),mid.length=ms.length->(ms.zipIdx k).foldl (fun (a:Array α) (pj:α × Nat)=>a.setIfInBounds (pre.length - k + pj.2) pj.1) (pre ++ mid ++ suf).toArray=(pre ++ ms ++ suf).toArray\/pre.length < k
 | [],pre,mid,suf,k,h=>by
  have:mid=[]:=List.length_eq_zero_iff.mp h
  subst this
  exact .inl rfl
 | m :: ms,pre,[],suf,k,h=>by simp at h
 | m :: ms,pre,c :: mid,suf,k,h=>by
  by_cases hk:pre.length < k
  ·exact .inr hk
  ·refine .inl ?_
   have h':mid.length=ms.length:=by simpa using h
   rcases put_rv ms (pre ++ [m]) mid suf (k + 1) h' with e | e
   ·rw [List.zipIdx_cons,List.foldl_cons]
    have e1:((pre ++ c :: mid ++ suf).toArray).setIfInBounds (pre.length - k + k) m=(pre ++ [m] ++ mid ++ suf).toArray:=by
     rw [show pre.length - k + k=pre.length by omega]
     apply Array.toList_inj.mp
     simp
    dsimp only
    rw [e1]
    rw [show (pre ++ [m]).length - (k + 1)=pre.length - k by simp] at e
    rw [e]
    simp
   ·simp at e
    omega
theorem ext_rv {l P B S:List Nat} {i j:Nat} (e:l=P ++ B ++ S) (h1:i=P.length) (h2:j=P.length + B.length):((l.map (kas_item it)).toArray).extract i j=(B.map (kas_item it)).toArray:=by
 subst e h1 h2
 apply Array.toList_inj.mp
 rw [Array.toList_extract]
 simp [List.extract,List.drop_append,List.take_append]
theorem ilv_succ (a b:Nat->Nat) (t:Nat):ilv a b (t + 1)=ilv b (fun j=>a (j + 1)) t:=by
 unfold ilv
 by_cases h:t % 2=0
 ·rw [if_neg (by omega),if_pos h,show (t + 1) / 2=t / 2 by omega]
 ·rw [if_pos (by omega),if_neg h,show (t + 1) / 2=t / 2 + 1 by omega]
theorem ilv_list (a b:Nat->Nat) (n:Nat):(List.range (2 * (n + 1))).map (ilv a b)=a 0 :: (List.range (2 * n)).map (ilv b fun j=>a (j + 1)) ++ [b n]:=by
 rw [show 2 * (n + 1)=(2 * n + 1) + 1 by omega,List.range_succ,List.map_append,List.map_singleton,ilv_od,List.range_succ_eq_map,List.map_cons,List.map_map]
 have e0:ilv a b 0=a 0:=ilv_ev a b 0
 have e1:(List.range (2 * n)).map (ilv a b ∘ Nat.succ)=(List.range (2 * n)).map (ilv b fun j=>a (j + 1)):=List.map_congr_left fun t _=>ilv_succ a b t
 rw [e0,e1]
theorem at_rv {P B S:List Nat} {a:Nat->Nat} {n i j:Nat} (h:j < n) (hi:i=P.length + j):(P ++ (List.range n).map a ++ S)[i]?=some (a j):=by
 subst hi
 rw [List.append_assoc,List.getElem?_append_right (by omega),Nat.add_sub_cancel_left,List.getElem?_append_left (by simpa using h),List.getElem?_map,List.getElem?_range h]
 rfl
theorem mer_rv {a b:Nat->Nat} {r i pw pw2:Nat} {P S:List Nat} {pend:Array (Nat × Nat × Nat)} {Q:Bool->SortSt->Shared->Prop} (hc:LtOk prog w A κ it s lt N) (ha:∀ j,j < r + 3->a j < N) (hb:∀ j,j < r + 3->b j < N)
  (h1:∀ j,j < r + 3->lt (b j) (a j)=false) (h2:∀ j,j < r + 2->lt (b j) (a (j + 1))=true)
  (p1:pend[i]?=some (P.length,r + 3,pw)) (p2:pend[i + 1]?=some (P.length + (r + 3),r + 3,pw2))
  (q:Q true (rvS κ it (P ++ (List.range (2 * (r + 3))).map (ilv a b) ++ S) ((pend.setIfInBounds i (P.length,r + 3 + (r + 3),pw)).eraseIdxIfInBounds (i + 1))) s) :
  kasC (model prog w) A E (mergeAt' i) Q (rvS κ it (P ++ (List.range (r + 3)).map a ++ (List.range (r + 3)).map b ++ S) pend) s:=by
 refine kasC_bind (kasC_get ?_)
 have g1:∀ j,j < r + 3->(P ++ (List.range (r + 3)).map a ++ (List.range (r + 3)).map b ++ S)[P.length + j]?=some (a j):=fun j hj=>by
  rw [List.append_assoc (P ++ _)]
  exact at_rv (B:=[]) hj rfl
 have g2:∀ j,j < r + 3->(P ++ (List.range (r + 3)).map a ++ (List.range (r + 3)).map b ++ S)[P.length + (r + 3) + j]?=some (b j):=fun j hj=>at_rv (B:=[]) hj (by simp)
 have x1:(((P ++ (List.range (r + 3)).map a ++ (List.range (r + 3)).map b ++ S).map (kas_item it)).toArray).extract (P.length + 1) (P.length + (r + 3))=itm it (fun j=>a (j + 1)) (r + 2):=by
  refine ext_rv (P:=P ++ [a 0]) (B:=(List.range (r + 2)).map fun j=>a (j + 1)) (S:=(List.range (r + 3)).map b ++ S) ?_ (by simp) (by simp; omega)
  rw [List.range_succ_eq_map (n:=r + 2),List.map_cons,List.map_map]
  simp
 have x2:(((P ++ (List.range (r + 3)).map a ++ (List.range (r + 3)).map b ++ S).map (kas_item it)).toArray).extract (P.length + (r + 3)) (P.length + (r + 3) + (r + 2))=itm it b (r + 2):=by
  refine ext_rv (P:=P ++ (List.range (r + 3)).map a) (B:=(List.range (r + 2)).map b) (S:=b (r + 2) :: S) ?_ (by simp) (by simp)
  rw [List.range_succ (n:=r + 2),List.map_append]
  simp
 have x3:∀ l:List Nat,l=(List.range (2 * (r + 2))).map (ilv b fun j=>a (j + 1))->((itm it (ilv b fun j=>a (j + 1)) (2 * (r + 2))).toList.zipIdx).foldl (fun (a:Array Keyed) (pj:Keyed × Nat)=>a.setIfInBounds (P.length + 1 + pj.2) pj.1) ((P ++ (List.range (r + 3)).map a ++ (List.range (r + 3)).map b ++ S).map (kas_item it)).toArray=((P ++ (List.range (2 * (r + 3))).map (ilv a b) ++ S).map (kas_item it)).toArray:=fun l hl=>by
  have e:=put_rv ((itm it (ilv b fun j=>a (j + 1)) (2 * (r + 2))).toList) ((P ++ [a 0]).map (kas_item it)) (((List.range (r + 2)).map (fun j=>a (j + 1)) ++ (List.range (r + 2)).map b).map (kas_item it)) ((b (r + 2) :: S).map (kas_item it)) 0 (by unfold itm; simp; omega)
  rcases e with e | e
  ·have e1:(P ++ (List.range (r + 3)).map a ++ (List.range (r + 3)).map b ++ S).map (kas_item it)=(P ++ [a 0]).map (kas_item it) ++ (((List.range (r + 2)).map (fun j=>a (j + 1)) ++ (List.range (r + 2)).map b).map (kas_item it)) ++ ((b (r + 2) :: S).map (kas_item it)):=by
    have c1:(List.range (r + 3)).map a=a 0 :: (List.range (r + 2)).map (fun j=>a (j + 1)):=by
     rw [List.range_succ_eq_map (n:=r + 2),List.map_cons,List.map_map]
     rfl
    have c2:(List.range (r + 3)).map b=(List.range (r + 2)).map b ++ [b (r + 2)]:=by rw [List.range_succ (n:=r + 2),List.map_append]; rfl
    rw [c1,c2,← List.map_append,← List.map_append]
    simp
   have e2:(P ++ (List.range (2 * (r + 3))).map (ilv a b) ++ S).map (kas_item it)=(P ++ [a 0]).map (kas_item it) ++ (itm it (ilv b fun j=>a (j + 1)) (2 * (r + 2))).toList ++ ((b (r + 2) :: S).map (kas_item it)):=by
    rw [ilv_list a b (r + 2)]
    unfold itm
    simp
   rw [e1,e2,← e]
   simp
  ·omega
 generalize hl:P ++ (List.range (r + 3)).map a ++ (List.range (r + 3)).map b ++ S=l at g1 g2 x1 x2 x3
 rw [show (sortPriv% PySem.Builtin.SortState.pending) (rvS κ it l pend)=pend from rfl,show (sortPriv% PySem.Builtin.SortState.a) (rvS κ it l pend)=(l.map (kas_item it)).toArray from rfl,p1,p2]
 dsimp only
 refine kasC_bind (kasC_set ?_)
 refine kasC_bind (el_rv (arr_rv (g2 0 (by omega))) ?_)
 refine kasC_bind (gal_hi hc rfl (hb 0 (by omega)) (ha 0 (by omega)) (ha 1 (by omega)) (g1 0 (by omega)) (g1 1 (by omega)) (by omega) (h1 0 (by omega)) (h2 0 (by omega)) ?_)
 dsimp only
 rw [if_neg (by simp)]
 refine kasC_bind (el_rv (arr_rv (x:=a (r + 2)) (by rw [show P.length + 1 + (r + 3 - 1) - 1=P.length + (r + 2) by omega]; exact g1 _ (by omega))) ?_)
 refine kasC_bind (gal_lo (n:=r + 1) hc rfl (ha (r + 2) (by omega)) (hb (r + 2) (by omega)) (hb (r + 1) (by omega)) (g2 (r + 2) (by omega)) (g2 (r + 1) (by omega)) (h1 _ (by omega)) (h2 _ (by omega)) ?_)
 dsimp only
 rw [if_neg (by simp),if_pos (by omega),x1,x2]
 refine kasC_bind (mlo_rv hc rfl rfl (fun j hj=>ha _ (by omega)) (fun j hj=>hb _ (by omega)) (fun j hj=>h1 _ (by omega)) (fun j hj=>h2 _ (by omega)) ?_)
 refine kasC_bind (kasC_modify ?_)
 refine kasC_bind (kasC_get (kasC_pure ?_))
 refine cast ?_ q
 congr 1
 show SortSt.mk' _ _ _ _ _=SortSt.mk' _ _ _ _ _
 congr 1
 exact (x3 _ rfl).symm
end
def rvb:Nat->Nat->Nat
 | 0,_=>0
 | m + 1,t=>(t % 2) * 2 ^ m + rvb m (t / 2)
theorem rvb_lt:∀ (m t:Nat),rvb m t < 2 ^ m
 | 0,_=>Nat.zero_lt_one
 | m + 1,t=>by
  have:=rvb_lt m (t / 2)
  have h2:t % 2 < 2:=Nat.mod_lt _ (by decide)
  show (t % 2) * 2 ^ m + rvb m (t / 2) < 2 ^ (m + 1)
  rw [Nat.pow_succ]
  rcases (by omega:t % 2=0\/t % 2=1) with h | h <;> rw [h] <;> omega
def xk (m k:Nat):List Nat:=((List.range (2 ^ m)).map (rvb m)).filter (· < k)
def xkOk (m k:Nat):Bool :=
 let X:=xk m k
 let p:=plc (fun j=>decide (rvb m k < rvb m (X.getD j 0))) k 0 k
 X.length == k && decide (p<=k) && xk m (k + 1) == X.take p ++ k :: X.drop p
theorem xk_ok2:((List.range 4).all fun k=>decide (k < 2) || xkOk 2 k)=true:=by decide +kernel
theorem xk_ok3:((List.range 8).all fun k=>decide (k < 2) || xkOk 3 k)=true:=by decide +kernel
theorem xk_ok4:((List.range 16).all fun k=>decide (k < 2) || xkOk 4 k)=true:=by decide +kernel
theorem xk_ok5:((List.range 32).all fun k=>decide (k < 2) || xkOk 5 k)=true:=by decide +kernel
section
variable {prog:Program} {w:World} {A:Around} {E:Value->Shared->Prop} {κ:SortKind} {it:Array Keyed} {s:Shared}
variable {lt:Nat->Nat->Bool} {N:Nat}
theorem blk_rv {m lo T:Nat} {P:List Nat} {pend:Array (Nat × Nat × Nat)} {n ok:Nat} {Q:Bool->SortSt->Shared->Prop} (hc:LtOk prog w A κ it s lt N) (hok:((List.range (2 ^ m)).all fun k=>decide (k < 2) || xkOk m k)=true) (hm:2<=2 ^ m)
  (hP:P.length=lo) (hT:2 ^ m<=T) (hN:lo + T<=N) (hlt:∀ i j,i < 2 ^ m->j < 2 ^ m->lt (lo + i) (lo + j)=decide (rvb m i < rvb m j)) (hn:n=2 ^ m) (ho:ok=2)
  (x2:xk m 2=[0,1]) (q:Q true (rvS κ it (P ++ (List.range (2 ^ m)).map (fun t=>lo + rvb m t) ++ List.range' (lo + 2 ^ m) (T - 2 ^ m)) pend) s) :
  kasC (model prog w) A E (binarySort' lo n ok) Q (rvS κ it (P ++ List.range' lo T) pend) s:=by
 subst hn ho
 have ok:=List.all_eq_true.mp hok
 have e2:P ++ List.range' lo T=P ++ (xk m 2).map (lo + ·) ++ List.range' (lo + 2) (T - 2):=by
  obtain ⟨t,rfl⟩:∃ t,T=t + 2:=⟨T - 2,by omega⟩
  rw [x2,List.range'_succ,List.range'_succ]
  simp
 have e3:xk m (2 ^ m)=(List.range (2 ^ m)).map (rvb m):=List.filter_eq_self.mpr fun x hx=>by
  obtain ⟨t,_,rfl⟩:=List.mem_map.mp hx
  exact decide_eq_true (rvb_lt m t)
 rw [e2]
 refine bin_rv (l:=fun k=>P ++ (xk m k).map (lo + ·) ++ List.range' (lo + k) (T - k)) hc (by omega) (fun k hk1 hk2=>?_) ?_
 ·have hk:=ok k (List.mem_range.mpr hk2)
  rw [show decide (k < 2)=false from decide_eq_false (by omega),Bool.false_or] at hk
  unfold xkOk at hk
  simp only [Bool.and_eq_true,beq_iff_eq,decide_eq_true_eq] at hk
  obtain ⟨⟨h1,h2⟩,h3⟩:=hk
  have hX:∀ j,(xk m k).getD j 0 < 2 ^ m:=fun j=>by
   rw [List.getD_eq_getElem?_getD]
   cases hj:(xk m k)[j]? with
   | none=>exact Nat.lt_of_lt_of_le (by decide) hm
   | some x =>
    obtain ⟨t,_,rfl⟩:=List.mem_map.mp (List.mem_filter.mp (List.mem_of_getElem? hj)).1
    exact rvb_lt m t
  have ep:(fun j=>lt (lo + k) (lo + (xk m k).getD j 0))=fun j=>decide (rvb m k < rvb m ((xk m k).getD j 0)):=funext fun j=>hlt _ _ hk2 (hX j)
  refine ⟨lo + k,fun j=>lo + (xk m k).getD j 0,?_,by omega,fun j hj=>⟨?_,by have:=hX j; show lo + (xk m k).getD j 0 < N; omega⟩,?_⟩
  ·rw [List.getElem?_append_right (by simp; omega)]
   rw [show lo + k - (P ++ (xk m k).map (lo + ·)).length=0 by simp; omega]
   obtain ⟨t,ht⟩:∃ t,T - k=t + 1:=⟨T - k - 1,by omega⟩
   rw [ht,List.range'_succ]
   rfl
  ·rw [List.append_assoc,List.getElem?_append_right (by omega),List.getElem?_append_left (by simp; omega),List.getElem?_map,show lo + j - P.length=j by omega]
   dsimp only
   rw [List.getD_eq_getElem?_getD,List.getElem?_eq_getElem (by omega)]
   rfl
  ·rw [ep]
   generalize plc (fun j=>decide (rvb m k < rvb m ((xk m k).getD j 0))) k 0 k=p at h2 h3
   obtain ⟨t,ht⟩:∃ t,T - k=t + 1:=⟨T - k - 1,by omega⟩
   have b:=bub_list P (((xk m k).take p).map (lo + ·)) (((xk m k).drop p).map (lo + ·)) (List.range' (lo + (k + 1)) t) (lo + k)
   have l1:(((xk m k).take p).map (lo + ·)).length=p:=by simp; omega
   have l2:(((xk m k).drop p).map (lo + ·)).length=k - p:=by simp; omega
   rw [l1,l2] at b
   have e4:P ++ (xk m k).map (lo + ·) ++ List.range' (lo + k) (T - k)=P ++ ((xk m k).take p).map (lo + ·) ++ ((xk m k).drop p).map (lo + ·) ++ (lo + k) :: List.range' (lo + (k + 1)) t:=by
    rw [ht,List.range'_succ,List.append_assoc P (((xk m k).take p).map (lo + ·)),← List.map_append,List.take_append_drop]
    rfl
   have e5:P ++ (xk m (k + 1)).map (lo + ·) ++ List.range' (lo + (k + 1)) (T - (k + 1))=P ++ ((xk m k).take p).map (lo + ·) ++ (lo + k) :: ((xk m k).drop p).map (lo + ·) ++ List.range' (lo + (k + 1)) t:=by
    rw [h3,show T - (k + 1)=t by omega]
    simp
   rw [e4,e5,← b,show P.length + p + (k - p)=lo + k by omega,show lo + k - (lo + p)=k - p by omega]
 ·show Q true (rvS κ it (P ++ (xk m (2 ^ m)).map (lo + ·) ++ List.range' (lo + 2 ^ m) (T - 2 ^ m)) pend) s
  rw [e3,List.map_map]
  exact q
end
section
variable {prog:Program} {w:World} {A:Around} {E:Value->Shared->Prop} {κ:SortKind} {it:Array Keyed} {s:Shared}
variable {lt:Nat->Nat->Bool} {N:Nat}
theorem one_rv {m:Nat} {Q:Unit->SortSt->Shared->Prop} (hc:LtOk prog w A κ it s lt (2 ^ m)) (hok:((List.range (2 ^ m)).all fun k=>decide (k < 2) || xkOk m k)=true) (h4:4<=2 ^ m) (h64:2 ^ m < 64)
  (hlt:∀ i j,i < 2 ^ m->j < 2 ^ m->lt i j=decide (rvb m i < rvb m j)) (x2:xk m 2=[0,1]) (x0:rvb m 0 < rvb m 1) (x1:rvb m 2 < rvb m 1)
  (q:∀ st',arrOf st'=(((List.range (2 ^ m)).map (rvb m)).map (kas_item it)).toArray->failedOf st'=none->Q () st' s) :
  kasC (model prog w) A E sortRuns' Q (rvS κ it (List.range (2 ^ m)) #[]) s:=by
 rw [sortRuns'_eq]
 refine kasC_bind (kasC_get ?_)
 have hsz:(arrOf (rvS κ it (List.range (2 ^ m)) #[])).size=2 ^ m:=by
  show (((List.range (2 ^ m)).map (kas_item it)).toArray).size=_
  simp
 obtain ⟨r,hr⟩:∃ r,2 ^ m=r + 4:=⟨2 ^ m - 4,by omega⟩
 have hmr:minRun' (2 ^ m) (2 ^ m) 0=2 ^ m:=by
  rw [hr]
  have e:minRun' (r + 3 + 1) (r + 4) 0=r + 4:=by rw [minRun'_succ,if_pos (by omega)]
  exact e
 simp only [hsz,hmr]
 refine kasC_bind (kasC_range ?_)
 rw [show List.range' 0 (2 ^ m - 0)=0 :: 1 :: List.range' 2 (r + 2) by rw [hr]; rfl]
 refine kasC_cons ?_
 dsimp only
 rw [if_neg (by omega)]
 have g:∀ j,j < 2 ^ m->(List.range (2 ^ m))[0 + j]?=some j:=fun j hj=>by rw [Nat.zero_add,List.getElem?_range hj]
 refine kasC_bind (count_rv hc (g 0 (by omega)) (g 1 (by omega)) (g 2 (by omega)) (by omega) (by omega) (by omega) (by omega) ?_ ?_ ?_ ?_)
 ·rw [hlt _ _ (by omega) (by omega)]
  exact decide_eq_false (by omega)
 ·rw [hlt _ _ (by omega) (by omega)]
  exact decide_eq_true x1
 ·rw [hlt _ _ (by omega) (by omega)]
  exact decide_eq_true x0
 dsimp only
 rw [if_pos (by omega)]
 refine kasC_bind (kasC_lift (wpAny_rule ?_))
 have er:List.range (2 ^ m)=[] ++ List.range' 0 (2 ^ m):=List.range_eq_range'
 rw [er]
 refine kasC_bind (blk_rv hc hok (by omega) rfl (Nat.le_refl _) (by omega) (fun i j hi hj=>by rw [Nat.zero_add,Nat.zero_add]; exact hlt i j hi hj) (by omega) rfl x2 ?_)
 simp only [Bool.not_true,Bool.false_eq_true,if_false]
 refine kasC_bind (kasC_get ?_)
 rw [show (pendingOf (rvS κ it ([] ++ (List.range (2 ^ m)).map (fun t=>0 + rvb m t) ++ List.range' (0 + 2 ^ m) (2 ^ m - 2 ^ m)) #[])).back?=none from rfl]
 dsimp only
 refine kasC_bind (kasC_modify (kasC_pure ?_))
 refine kasC_cons ?_
 dsimp only
 rw [if_pos (by omega)]
 refine kasC_pure ?_
 dsimp only
 refine kasC_bind (kasC_range ?_)
 rw [show List.range' 0 (2 ^ m - 0)=0 :: 1 :: List.range' 2 (r + 2) by rw [hr]; rfl]
 refine kasC_cons ?_
 refine kasC_bind (kasC_get ?_)
 rw [if_pos (by exact Nat.le_refl 1)]
 refine kasC_pure ?_
 dsimp only
 refine kasC_pure (q _ ?_ rfl)
 show ((([] ++ (List.range (2 ^ m)).map (fun t=>0 + rvb m t) ++ List.range' (0 + 2 ^ m) (2 ^ m - 2 ^ m)).map (kas_item it)).toArray)=_
 rw [Nat.sub_self]
 simp
end
def sg:Nat->Nat->Nat->Nat
 | 0,lo,t=>lo + rvb 5 t
 | c + 1,lo,t=>ilv (sg c lo) (sg c (lo + 32 * 2 ^ c)) t
def mok (c lo:Nat):Bool:=(List.range (32 * 2 ^ c)).all fun j=>!decide (rvb 8 (sg c (lo + 32 * 2 ^ c) j) < rvb 8 (sg c lo j)) && decide (sg c lo j < 256) && decide (sg c (lo + 32 * 2 ^ c) j < 256) && (j + 1 == 32 * 2 ^ c || decide (rvb 8 (sg c (lo + 32 * 2 ^ c) j) < rvb 8 (sg c lo (j + 1))))
theorem sg_256:(List.range 256).map (sg 3 0)=(List.range 256).map (rvb 8):=by decide +kernel
theorem blk256:((List.range 8).all fun b=>(List.range 32).all fun i=>(List.range 32).all fun j=>decide (rvb 8 (32 * b + i) < rvb 8 (32 * b + j)) == decide (rvb 5 i < rvb 5 j))=true:=by decide +kernel
theorem blk256' {b i j:Nat} (hb:b < 8) (hi:i < 32) (hj:j < 32):decide (rvb 8 (32 * b + i) < rvb 8 (32 * b + j))=decide (rvb 5 i < rvb 5 j):=by
 have h:=List.all_eq_true.mp (List.all_eq_true.mp (List.all_eq_true.mp blk256 b (List.mem_range.mpr hb)) i (List.mem_range.mpr hi)) j (List.mem_range.mpr hj)
 exact eq_of_beq h
section
variable {prog:Program} {w:World} {A:Around} {E:Value->Shared->Prop} {κ:SortKind} {it:Array Keyed} {s:Shared}
variable {lt:Nat->Nat->Bool}
theorem run_rv {b lo:Nat} {P:List Nat} {pend:Array (Nat × Nat × Nat)} {Q:Option Nat->SortSt->Shared->Prop} (hc:LtOk prog w A κ it s lt 256) (hlt:∀ i j,i < 256->j < 256->lt i j=decide (rvb 8 i < rvb 8 j)) (hb:b < 8) (hlo:lo=32 * b) (hP:P.length=lo) (q:Q (some 2) (rvS κ it (P ++ List.range' lo (256 - lo)) pend) s) :
  kasC (model prog w) A E (countRun' lo (256 - lo)) Q (rvS κ it (P ++ List.range' lo (256 - lo)) pend) s:=by
 have g:∀ j,j < 32->(P ++ List.range' lo (256 - lo))[lo + j]?=some (lo + j):=fun j hj=>by
  rw [List.getElem?_append_right (by omega),show lo + j - P.length=j by omega,List.getElem?_range' (by omega)]
  simp
 have z:∀ i j,i < 32->j < 32->lt (lo + i) (lo + j)=decide (rvb 5 i < rvb 5 j):=fun i j hi hj=>by
  rw [hlt _ _ (by omega) (by omega),hlo]
  exact blk256' hb hi hj
 refine count_rv hc (g 0 (by omega)) (g 1 (by omega)) (g 2 (by omega)) (by omega) (by omega) (by omega) (by omega) ?_ ?_ ?_ q
 ·rw [z 1 0 (by omega) (by omega)]
  decide
 ·rw [z 2 1 (by omega) (by omega)]
  decide
 ·rw [z 0 1 (by omega) (by omega)]
  decide
theorem blb_rv {b lo n:Nat} {P:List Nat} {pend:Array (Nat × Nat × Nat)} {Q:Bool->SortSt->Shared->Prop} (hc:LtOk prog w A κ it s lt 256) (hlt:∀ i j,i < 256->j < 256->lt i j=decide (rvb 8 i < rvb 8 j)) (hb:b < 8) (hlo:lo=32 * b) (hP:P.length=lo) (hn:n=32)
  (q:Q true (rvS κ it (P ++ (List.range 32).map (sg 0 lo) ++ List.range' (lo + 32) (256 - lo - 32)) pend) s) :
  kasC (model prog w) A E (binarySort' lo n 2) Q (rvS κ it (P ++ List.range' lo (256 - lo)) pend) s :=
 blk_rv (m:=5) hc xk_ok5 (by decide) hP (by show 32<=_; omega) (by omega) (fun i j hi hj=>by
  rw [hlt _ _ (by have:i < 32:=hi; omega) (by have:j < 32:=hj; omega),hlo]
  exact blk256' hb hi hj) hn rfl (by decide +kernel) q
theorem mrg_rv {c lo i pw pw2:Nat} {P S:List Nat} {pend pend':Array (Nat × Nat × Nat)} {Q:Bool->SortSt->Shared->Prop} (hc:LtOk prog w A κ it s lt 256) (hlt:∀ i j,i < 256->j < 256->lt i j=decide (rvb 8 i < rvb 8 j)) (hm:c < 3) (ok:mok c lo=true) (hP:P.length=lo)
  (p1:pend[i]?=some (lo,32 * 2 ^ c,pw)) (p2:pend[i + 1]?=some (lo + 32 * 2 ^ c,32 * 2 ^ c,pw2))
  (hp:(pend.setIfInBounds i (lo,32 * 2 ^ c + 32 * 2 ^ c,pw)).eraseIdxIfInBounds (i + 1)=pend') (q:Q true (rvS κ it (P ++ (List.range (2 * (32 * 2 ^ c))).map (sg (c + 1) lo) ++ S) pend') s) :
  kasC (model prog w) A E (mergeAt' i) Q (rvS κ it (P ++ (List.range (32 * 2 ^ c)).map (sg c lo) ++ (List.range (32 * 2 ^ c)).map (sg c (lo + 32 * 2 ^ c)) ++ S) pend) s:=by
 have h:=List.all_eq_true.mp ok
 subst hp
 subst hP
 have e:∀ j,j < 32 * 2 ^ c->rvb 8 (sg c (P.length + 32 * 2 ^ c) j) < rvb 8 (sg c P.length j)->False:=fun j hj hh=>by
  have:=h j (List.mem_range.mpr hj)
  simp [hh] at this
 have ha:∀ j,j < 32 * 2 ^ c->sg c P.length j < 256:=fun j hj=>by
  have:=h j (List.mem_range.mpr hj)
  simp only [Bool.and_eq_true,decide_eq_true_eq] at this
  exact this.1.1.2
 have hb:∀ j,j < 32 * 2 ^ c->sg c (P.length + 32 * 2 ^ c) j < 256:=fun j hj=>by
  have:=h j (List.mem_range.mpr hj)
  simp only [Bool.and_eq_true,decide_eq_true_eq] at this
  exact this.1.2
 have h2:∀ j,j + 1 < 32 * 2 ^ c->rvb 8 (sg c (P.length + 32 * 2 ^ c) j) < rvb 8 (sg c P.length (j + 1)):=fun j hj=>by
  have:=h j (List.mem_range.mpr (by omega))
  simp only [Bool.and_eq_true,decide_eq_true_eq,Bool.or_eq_true,beq_iff_eq] at this
  rcases this.2 with a | a
  ·omega
  ·exact a
 have q':Q true (rvS κ it (P ++ (List.range (2 * (32 * 2 ^ c))).map (ilv (sg c P.length) (sg c (P.length + 32 * 2 ^ c))) ++ S) ((pend.setIfInBounds i (P.length,32 * 2 ^ c + 32 * 2 ^ c,pw)).eraseIdxIfInBounds (i + 1))) s:=q
 have hg:32<=32 * 2 ^ c:=Nat.le_mul_of_pos_right _ (Nat.two_pow_pos c)
 generalize 32 * 2 ^ c=m at *
 obtain ⟨r,rfl⟩:∃ r,m=r + 3:=⟨m - 3,by omega⟩
 refine mer_rv hc ha hb (fun j hj=>?_) (fun j hj=>?_) p1 p2 q'
 ·rw [hlt _ _ (hb j hj) (ha j hj)]
  exact decide_eq_false (e j hj)
 ·rw [hlt _ _ (hb j (by omega)) (ha (j + 1) (by omega))]
  exact decide_eq_true (h2 j (by omega))
end
section
variable {prog:Program} {w:World} {A:Around} {E:Value->Shared->Prop} {κ:SortKind} {it:Array Keyed} {s:Shared}
variable {lt:Nat->Nat->Bool}
theorem all_rv {Q:Unit->SortSt->Shared->Prop} (hc:LtOk prog w A κ it s lt 256) (hlt:∀ i j,i < 256->j < 256->lt i j=decide (rvb 8 i < rvb 8 j))
  (q:∀ st',arrOf st'=(((List.range 256).map (rvb 8)).map (kas_item it)).toArray->failedOf st'=none->Q () st' s) :
  kasC (model prog w) A E sortRuns' Q (rvS κ it (List.range 256) #[]) s:=by
 rw [sortRuns'_eq]
 refine kasC_bind (kasC_get ?_)
 have hsz:(arrOf (rvS κ it (List.range 256) #[])).size=256:=by
  show (((List.range 256).map (kas_item it)).toArray).size=_
  simp
 have hmr:minRun' 256 256 0=32:=rfl
 simp only [hsz,hmr]
 refine kasC_bind (kasC_range ?_)
 rw [show List.range 256=[] ++ List.range' 0 256 from List.range_eq_range']
 rw [show List.range' 0 (256 - 0)=0 :: 1 :: 2 :: 3 :: 4 :: 5 :: 6 :: 7 :: 8 :: List.range' 9 247 from rfl]
 refine kasC_cons ?_
 show kasC _ _ _ _ _ (rvS κ it ([] ++ List.range' 0 256) #[]) s
 dsimp only
 rw [if_neg (by decide)]
 refine kasC_bind (run_rv hc hlt (P:=[]) (lo:=0) (b:=0) (by decide) rfl (by simp) ?_)
 dsimp only
 rw [if_pos (by decide)]
 refine kasC_bind (kasC_lift (wpAny_rule ?_))
 refine kasC_bind (blb_rv hc hlt (P:=[]) (lo:=0) (b:=0) (by decide) rfl (by simp) rfl ?_)
 simp only [Bool.not_true,Bool.false_eq_true,if_false]
 refine kasC_bind (kasC_get ?_)
 rw [show (pendingOf (rvS κ it ([] ++ (List.range 32).map (sg 0 0) ++ List.range' 32 224) #[])).back?=none from rfl]
 dsimp only
 refine kasC_bind (kasC_modify (kasC_pure ?_))
 show kasC _ _ _ _ _ (rvS κ it ([] ++ (List.range 32).map (sg 0 0) ++ List.range' 32 224) #[(0,32,0)]) s
 refine kasC_cons ?_
 show kasC _ _ _ _ _ (rvS κ it ([] ++ (List.range 32).map (sg 0 0) ++ List.range' 32 224) #[(0,32,0)]) s
 dsimp only
 rw [if_neg (by decide)]
 refine kasC_bind (run_rv hc hlt (P:=[] ++ (List.range 32).map (sg 0 0)) (lo:=32) (b:=1) (by decide) rfl (by simp) ?_)
 dsimp only
 rw [if_pos (by decide)]
 refine kasC_bind (kasC_lift (wpAny_rule ?_))
 refine kasC_bind (blb_rv hc hlt (P:=[] ++ (List.range 32).map (sg 0 0)) (lo:=32) (b:=1) (by decide) rfl (by simp) rfl ?_)
 simp only [Bool.not_true,Bool.false_eq_true,if_false]
 refine kasC_bind (kasC_get ?_)
 rw [show (pendingOf (rvS κ it ([] ++ (List.range 32).map (sg 0 0) ++ (List.range 32).map (sg 0 32) ++ List.range' 64 192) #[(0,32,0)])).back?=some (0,32,0) from rfl]
 dsimp only
 rw [show power' 256 _ _ 256=3 from rfl]
 refine kasC_bind (kasC_range ?_)
 rw [show List.range' 0 (256 - 0)=0 :: 1 :: 2 :: List.range' 3 253 from rfl]
 refine kasC_cons ?_
 refine kasC_bind (kasC_get ?_)
 rw [show (if (pendingOf (rvS κ it ([] ++ (List.range 32).map (sg 0 0) ++ (List.range 32).map (sg 0 32) ++ List.range' 64 192) #[(0,32,0)])).size > 1 then (pendingOf (rvS κ it ([] ++ (List.range 32).map (sg 0 0) ++ (List.range 32).map (sg 0 32) ++ List.range' 64 192) #[(0,32,0)]))[(pendingOf (rvS κ it ([] ++ (List.range 32).map (sg 0 0) ++ (List.range 32).map (sg 0 32) ++ List.range' 64 192) #[(0,32,0)])).size - 2]? else none)=none from rfl]
 refine kasC_pure ?_
 refine kasC_bind (kasC_modify ?_)
 show kasC _ _ _ _ _ (rvS κ it ([] ++ (List.range 32).map (sg 0 0) ++ (List.range 32).map (sg 0 32) ++ List.range' 64 192) #[(0,32,3)]) s
 refine kasC_bind (kasC_modify (kasC_pure ?_))
 show kasC _ _ _ _ _ (rvS κ it ([] ++ (List.range 32).map (sg 0 0) ++ (List.range 32).map (sg 0 32) ++ List.range' 64 192) #[(0,32,3),(32,32,0)]) s
 refine kasC_cons ?_
 show kasC _ _ _ _ _ (rvS κ it ([] ++ (List.range 32).map (sg 0 0) ++ (List.range 32).map (sg 0 32) ++ List.range' 64 192) #[(0,32,3),(32,32,0)]) s
 dsimp only
 rw [if_neg (by decide)]
 refine kasC_bind (run_rv hc hlt (P:=[] ++ (List.range 32).map (sg 0 0) ++ (List.range 32).map (sg 0 32)) (lo:=64) (b:=2) (by decide) rfl (by simp) ?_)
 dsimp only
 rw [if_pos (by decide)]
 refine kasC_bind (kasC_lift (wpAny_rule ?_))
 refine kasC_bind (blb_rv hc hlt (P:=[] ++ (List.range 32).map (sg 0 0) ++ (List.range 32).map (sg 0 32)) (lo:=64) (b:=2) (by decide) rfl (by simp) rfl ?_)
 simp only [Bool.not_true,Bool.false_eq_true,if_false]
 refine kasC_bind (kasC_get ?_)
 rw [show (pendingOf (rvS κ it ([] ++ (List.range 32).map (sg 0 0) ++ (List.range 32).map (sg 0 32) ++ (List.range 32).map (sg 0 64) ++ List.range' 96 160) #[(0,32,3),(32,32,0)])).back?=some (32,32,0) from rfl]
 dsimp only
 rw [show power' 256 _ _ 256=2 from rfl]
 refine kasC_bind (kasC_range ?_)
 rw [show List.range' 0 (256 - 0)=0 :: 1 :: 2 :: List.range' 3 253 from rfl]
 refine kasC_cons ?_
 refine kasC_bind (kasC_get ?_)
 rw [show (if (pendingOf (rvS κ it ([] ++ (List.range 32).map (sg 0 0) ++ (List.range 32).map (sg 0 32) ++ (List.range 32).map (sg 0 64) ++ List.range' 96 160) #[(0,32,3),(32,32,0)])).size > 1 then (pendingOf (rvS κ it ([] ++ (List.range 32).map (sg 0 0) ++ (List.range 32).map (sg 0 32) ++ (List.range 32).map (sg 0 64) ++ List.range' 96 160) #[(0,32,3),(32,32,0)]))[(pendingOf (rvS κ it ([] ++ (List.range 32).map (sg 0 0) ++ (List.range 32).map (sg 0 32) ++ (List.range 32).map (sg 0 64) ++ List.range' 96 160) #[(0,32,3),(32,32,0)])).size - 2]? else none)=some (0,32,3) from rfl]
 dsimp only
 rw [if_neg (by decide)]
 rw [show ([] ++ (List.range 32).map (sg 0 0) ++ (List.range 32).map (sg 0 32) ++ (List.range 32).map (sg 0 64) ++ List.range' 96 160)=[] ++ (List.range 32).map (sg 0 0) ++ (List.range 32).map (sg 0 32) ++ ((List.range 32).map (sg 0 64) ++ List.range' 96 160) by simp only [List.append_assoc]]
 refine kasC_bind (mrg_rv (i:=0) (c:=0) (lo:=0) (P:=[]) (S:=((List.range 32).map (sg 0 64) ++ List.range' 96 160)) (pw:=3) (pw2:=0) hc hlt (by decide) (by decide +kernel) (by simp) rfl rfl (pend':=#[(0,64,3)]) (by simp) ?_)
 simp only [Bool.not_true,Bool.false_eq_true,if_false]
 refine kasC_pure ?_
 rw [show [] ++ (List.range 64).map (sg 1 0) ++ ((List.range 32).map (sg 0 64) ++ List.range' 96 160)=([] ++ (List.range 64).map (sg 1 0) ++ (List.range 32).map (sg 0 64) ++ List.range' 96 160) by simp only [List.append_assoc]]
 show kasC _ _ _ _ _ (rvS κ it ([] ++ (List.range 64).map (sg 1 0) ++ (List.range 32).map (sg 0 64) ++ List.range' 96 160) #[(0,64,3)]) s
 refine kasC_cons ?_
 refine kasC_bind (kasC_get ?_)
 rw [show (if (pendingOf (rvS κ it ([] ++ (List.range 64).map (sg 1 0) ++ (List.range 32).map (sg 0 64) ++ List.range' 96 160) #[(0,64,3)])).size > 1 then (pendingOf (rvS κ it ([] ++ (List.range 64).map (sg 1 0) ++ (List.range 32).map (sg 0 64) ++ List.range' 96 160) #[(0,64,3)]))[(pendingOf (rvS κ it ([] ++ (List.range 64).map (sg 1 0) ++ (List.range 32).map (sg 0 64) ++ List.range' 96 160) #[(0,64,3)])).size - 2]? else none)=none from rfl]
 refine kasC_pure ?_
 refine kasC_bind (kasC_modify ?_)
 show kasC _ _ _ _ _ (rvS κ it ([] ++ (List.range 64).map (sg 1 0) ++ (List.range 32).map (sg 0 64) ++ List.range' 96 160) #[(0,64,2)]) s
 refine kasC_bind (kasC_modify (kasC_pure ?_))
 show kasC _ _ _ _ _ (rvS κ it ([] ++ (List.range 64).map (sg 1 0) ++ (List.range 32).map (sg 0 64) ++ List.range' 96 160) #[(0,64,2),(64,32,0)]) s
 refine kasC_cons ?_
 show kasC _ _ _ _ _ (rvS κ it ([] ++ (List.range 64).map (sg 1 0) ++ (List.range 32).map (sg 0 64) ++ List.range' 96 160) #[(0,64,2),(64,32,0)]) s
 dsimp only
 rw [if_neg (by decide)]
 refine kasC_bind (run_rv hc hlt (P:=[] ++ (List.range 64).map (sg 1 0) ++ (List.range 32).map (sg 0 64)) (lo:=96) (b:=3) (by decide) rfl (by simp) ?_)
 dsimp only
 rw [if_pos (by decide)]
 refine kasC_bind (kasC_lift (wpAny_rule ?_))
 refine kasC_bind (blb_rv hc hlt (P:=[] ++ (List.range 64).map (sg 1 0) ++ (List.range 32).map (sg 0 64)) (lo:=96) (b:=3) (by decide) rfl (by simp) rfl ?_)
 simp only [Bool.not_true,Bool.false_eq_true,if_false]
 refine kasC_bind (kasC_get ?_)
 rw [show (pendingOf (rvS κ it ([] ++ (List.range 64).map (sg 1 0) ++ (List.range 32).map (sg 0 64) ++ (List.range 32).map (sg 0 96) ++ List.range' 128 128) #[(0,64,2),(64,32,0)])).back?=some (64,32,0) from rfl]
 dsimp only
 rw [show power' 256 _ _ 256=3 from rfl]
 refine kasC_bind (kasC_range ?_)
 rw [show List.range' 0 (256 - 0)=0 :: 1 :: 2 :: List.range' 3 253 from rfl]
 refine kasC_cons ?_
 refine kasC_bind (kasC_get ?_)
 rw [show (if (pendingOf (rvS κ it ([] ++ (List.range 64).map (sg 1 0) ++ (List.range 32).map (sg 0 64) ++ (List.range 32).map (sg 0 96) ++ List.range' 128 128) #[(0,64,2),(64,32,0)])).size > 1 then (pendingOf (rvS κ it ([] ++ (List.range 64).map (sg 1 0) ++ (List.range 32).map (sg 0 64) ++ (List.range 32).map (sg 0 96) ++ List.range' 128 128) #[(0,64,2),(64,32,0)]))[(pendingOf (rvS κ it ([] ++ (List.range 64).map (sg 1 0) ++ (List.range 32).map (sg 0 64) ++ (List.range 32).map (sg 0 96) ++ List.range' 128 128) #[(0,64,2),(64,32,0)])).size - 2]? else none)=some (0,64,2) from rfl]
 dsimp only
 rw [if_pos (by decide)]
 refine kasC_pure ?_
 refine kasC_bind (kasC_modify ?_)
 show kasC _ _ _ _ _ (rvS κ it ([] ++ (List.range 64).map (sg 1 0) ++ (List.range 32).map (sg 0 64) ++ (List.range 32).map (sg 0 96) ++ List.range' 128 128) #[(0,64,2),(64,32,3)]) s
 refine kasC_bind (kasC_modify (kasC_pure ?_))
 show kasC _ _ _ _ _ (rvS κ it ([] ++ (List.range 64).map (sg 1 0) ++ (List.range 32).map (sg 0 64) ++ (List.range 32).map (sg 0 96) ++ List.range' 128 128) #[(0,64,2),(64,32,3),(96,32,0)]) s
 refine kasC_cons ?_
 show kasC _ _ _ _ _ (rvS κ it ([] ++ (List.range 64).map (sg 1 0) ++ (List.range 32).map (sg 0 64) ++ (List.range 32).map (sg 0 96) ++ List.range' 128 128) #[(0,64,2),(64,32,3),(96,32,0)]) s
 dsimp only
 rw [if_neg (by decide)]
 refine kasC_bind (run_rv hc hlt (P:=[] ++ (List.range 64).map (sg 1 0) ++ (List.range 32).map (sg 0 64) ++ (List.range 32).map (sg 0 96)) (lo:=128) (b:=4) (by decide) rfl (by simp) ?_)
 dsimp only
 rw [if_pos (by decide)]
 refine kasC_bind (kasC_lift (wpAny_rule ?_))
 refine kasC_bind (blb_rv hc hlt (P:=[] ++ (List.range 64).map (sg 1 0) ++ (List.range 32).map (sg 0 64) ++ (List.range 32).map (sg 0 96)) (lo:=128) (b:=4) (by decide) rfl (by simp) rfl ?_)
 simp only [Bool.not_true,Bool.false_eq_true,if_false]
 refine kasC_bind (kasC_get ?_)
 rw [show (pendingOf (rvS κ it ([] ++ (List.range 64).map (sg 1 0) ++ (List.range 32).map (sg 0 64) ++ (List.range 32).map (sg 0 96) ++ (List.range 32).map (sg 0 128) ++ List.range' 160 96) #[(0,64,2),(64,32,3),(96,32,0)])).back?=some (96,32,0) from rfl]
 dsimp only
 rw [show power' 256 _ _ 256=1 from rfl]
 refine kasC_bind (kasC_range ?_)
 rw [show List.range' 0 (256 - 0)=0 :: 1 :: 2 :: List.range' 3 253 from rfl]
 refine kasC_cons ?_
 refine kasC_bind (kasC_get ?_)
 rw [show (if (pendingOf (rvS κ it ([] ++ (List.range 64).map (sg 1 0) ++ (List.range 32).map (sg 0 64) ++ (List.range 32).map (sg 0 96) ++ (List.range 32).map (sg 0 128) ++ List.range' 160 96) #[(0,64,2),(64,32,3),(96,32,0)])).size > 1 then (pendingOf (rvS κ it ([] ++ (List.range 64).map (sg 1 0) ++ (List.range 32).map (sg 0 64) ++ (List.range 32).map (sg 0 96) ++ (List.range 32).map (sg 0 128) ++ List.range' 160 96) #[(0,64,2),(64,32,3),(96,32,0)]))[(pendingOf (rvS κ it ([] ++ (List.range 64).map (sg 1 0) ++ (List.range 32).map (sg 0 64) ++ (List.range 32).map (sg 0 96) ++ (List.range 32).map (sg 0 128) ++ List.range' 160 96) #[(0,64,2),(64,32,3),(96,32,0)])).size - 2]? else none)=some (64,32,3) from rfl]
 dsimp only
 rw [if_neg (by decide)]
 rw [show ([] ++ (List.range 64).map (sg 1 0) ++ (List.range 32).map (sg 0 64) ++ (List.range 32).map (sg 0 96) ++ (List.range 32).map (sg 0 128) ++ List.range' 160 96)=[] ++ (List.range 64).map (sg 1 0) ++ (List.range 32).map (sg 0 64) ++ (List.range 32).map (sg 0 96) ++ ((List.range 32).map (sg 0 128) ++ List.range' 160 96) by simp only [List.append_assoc]]
 refine kasC_bind (mrg_rv (i:=1) (c:=0) (lo:=64) (P:=[] ++ (List.range 64).map (sg 1 0)) (S:=((List.range 32).map (sg 0 128) ++ List.range' 160 96)) (pw:=3) (pw2:=0) hc hlt (by decide) (by decide +kernel) (by simp) rfl rfl (pend':=#[(0,64,2),(64,64,3)]) (by simp) ?_)
 simp only [Bool.not_true,Bool.false_eq_true,if_false]
 refine kasC_pure ?_
 rw [show [] ++ (List.range 64).map (sg 1 0) ++ (List.range 64).map (sg 1 64) ++ ((List.range 32).map (sg 0 128) ++ List.range' 160 96)=([] ++ (List.range 64).map (sg 1 0) ++ (List.range 64).map (sg 1 64) ++ (List.range 32).map (sg 0 128) ++ List.range' 160 96) by simp only [List.append_assoc]]
 show kasC _ _ _ _ _ (rvS κ it ([] ++ (List.range 64).map (sg 1 0) ++ (List.range 64).map (sg 1 64) ++ (List.range 32).map (sg 0 128) ++ List.range' 160 96) #[(0,64,2),(64,64,3)]) s
 refine kasC_cons ?_
 refine kasC_bind (kasC_get ?_)
 rw [show (if (pendingOf (rvS κ it ([] ++ (List.range 64).map (sg 1 0) ++ (List.range 64).map (sg 1 64) ++ (List.range 32).map (sg 0 128) ++ List.range' 160 96) #[(0,64,2),(64,64,3)])).size > 1 then (pendingOf (rvS κ it ([] ++ (List.range 64).map (sg 1 0) ++ (List.range 64).map (sg 1 64) ++ (List.range 32).map (sg 0 128) ++ List.range' 160 96) #[(0,64,2),(64,64,3)]))[(pendingOf (rvS κ it ([] ++ (List.range 64).map (sg 1 0) ++ (List.range 64).map (sg 1 64) ++ (List.range 32).map (sg 0 128) ++ List.range' 160 96) #[(0,64,2),(64,64,3)])).size - 2]? else none)=some (0,64,2) from rfl]
 dsimp only
 rw [if_neg (by decide)]
 rw [show ([] ++ (List.range 64).map (sg 1 0) ++ (List.range 64).map (sg 1 64) ++ (List.range 32).map (sg 0 128) ++ List.range' 160 96)=[] ++ (List.range 64).map (sg 1 0) ++ (List.range 64).map (sg 1 64) ++ ((List.range 32).map (sg 0 128) ++ List.range' 160 96) by simp only [List.append_assoc]]
 refine kasC_bind (mrg_rv (i:=0) (c:=1) (lo:=0) (P:=[]) (S:=((List.range 32).map (sg 0 128) ++ List.range' 160 96)) (pw:=2) (pw2:=3) hc hlt (by decide) (by decide +kernel) (by simp) rfl rfl (pend':=#[(0,128,2)]) (by simp) ?_)
 simp only [Bool.not_true,Bool.false_eq_true,if_false]
 refine kasC_pure ?_
 rw [show [] ++ (List.range 128).map (sg 2 0) ++ ((List.range 32).map (sg 0 128) ++ List.range' 160 96)=([] ++ (List.range 128).map (sg 2 0) ++ (List.range 32).map (sg 0 128) ++ List.range' 160 96) by simp only [List.append_assoc]]
 show kasC _ _ _ _ _ (rvS κ it ([] ++ (List.range 128).map (sg 2 0) ++ (List.range 32).map (sg 0 128) ++ List.range' 160 96) #[(0,128,2)]) s
 refine kasC_cons ?_
 refine kasC_bind (kasC_get ?_)
 rw [show (if (pendingOf (rvS κ it ([] ++ (List.range 128).map (sg 2 0) ++ (List.range 32).map (sg 0 128) ++ List.range' 160 96) #[(0,128,2)])).size > 1 then (pendingOf (rvS κ it ([] ++ (List.range 128).map (sg 2 0) ++ (List.range 32).map (sg 0 128) ++ List.range' 160 96) #[(0,128,2)]))[(pendingOf (rvS κ it ([] ++ (List.range 128).map (sg 2 0) ++ (List.range 32).map (sg 0 128) ++ List.range' 160 96) #[(0,128,2)])).size - 2]? else none)=none from rfl]
 refine kasC_pure ?_
 refine kasC_bind (kasC_modify ?_)
 show kasC _ _ _ _ _ (rvS κ it ([] ++ (List.range 128).map (sg 2 0) ++ (List.range 32).map (sg 0 128) ++ List.range' 160 96) #[(0,128,1)]) s
 refine kasC_bind (kasC_modify (kasC_pure ?_))
 show kasC _ _ _ _ _ (rvS κ it ([] ++ (List.range 128).map (sg 2 0) ++ (List.range 32).map (sg 0 128) ++ List.range' 160 96) #[(0,128,1),(128,32,0)]) s
 refine kasC_cons ?_
 show kasC _ _ _ _ _ (rvS κ it ([] ++ (List.range 128).map (sg 2 0) ++ (List.range 32).map (sg 0 128) ++ List.range' 160 96) #[(0,128,1),(128,32,0)]) s
 dsimp only
 rw [if_neg (by decide)]
 refine kasC_bind (run_rv hc hlt (P:=[] ++ (List.range 128).map (sg 2 0) ++ (List.range 32).map (sg 0 128)) (lo:=160) (b:=5) (by decide) rfl (by simp) ?_)
 dsimp only
 rw [if_pos (by decide)]
 refine kasC_bind (kasC_lift (wpAny_rule ?_))
 refine kasC_bind (blb_rv hc hlt (P:=[] ++ (List.range 128).map (sg 2 0) ++ (List.range 32).map (sg 0 128)) (lo:=160) (b:=5) (by decide) rfl (by simp) rfl ?_)
 simp only [Bool.not_true,Bool.false_eq_true,if_false]
 refine kasC_bind (kasC_get ?_)
 rw [show (pendingOf (rvS κ it ([] ++ (List.range 128).map (sg 2 0) ++ (List.range 32).map (sg 0 128) ++ (List.range 32).map (sg 0 160) ++ List.range' 192 64) #[(0,128,1),(128,32,0)])).back?=some (128,32,0) from rfl]
 dsimp only
 rw [show power' 256 _ _ 256=3 from rfl]
 refine kasC_bind (kasC_range ?_)
 rw [show List.range' 0 (256 - 0)=0 :: 1 :: 2 :: List.range' 3 253 from rfl]
 refine kasC_cons ?_
 refine kasC_bind (kasC_get ?_)
 rw [show (if (pendingOf (rvS κ it ([] ++ (List.range 128).map (sg 2 0) ++ (List.range 32).map (sg 0 128) ++ (List.range 32).map (sg 0 160) ++ List.range' 192 64) #[(0,128,1),(128,32,0)])).size > 1 then (pendingOf (rvS κ it ([] ++ (List.range 128).map (sg 2 0) ++ (List.range 32).map (sg 0 128) ++ (List.range 32).map (sg 0 160) ++ List.range' 192 64) #[(0,128,1),(128,32,0)]))[(pendingOf (rvS κ it ([] ++ (List.range 128).map (sg 2 0) ++ (List.range 32).map (sg 0 128) ++ (List.range 32).map (sg 0 160) ++ List.range' 192 64) #[(0,128,1),(128,32,0)])).size - 2]? else none)=some (0,128,1) from rfl]
 dsimp only
 rw [if_pos (by decide)]
 refine kasC_pure ?_
 refine kasC_bind (kasC_modify ?_)
 show kasC _ _ _ _ _ (rvS κ it ([] ++ (List.range 128).map (sg 2 0) ++ (List.range 32).map (sg 0 128) ++ (List.range 32).map (sg 0 160) ++ List.range' 192 64) #[(0,128,1),(128,32,3)]) s
 refine kasC_bind (kasC_modify (kasC_pure ?_))
 show kasC _ _ _ _ _ (rvS κ it ([] ++ (List.range 128).map (sg 2 0) ++ (List.range 32).map (sg 0 128) ++ (List.range 32).map (sg 0 160) ++ List.range' 192 64) #[(0,128,1),(128,32,3),(160,32,0)]) s
 refine kasC_cons ?_
 show kasC _ _ _ _ _ (rvS κ it ([] ++ (List.range 128).map (sg 2 0) ++ (List.range 32).map (sg 0 128) ++ (List.range 32).map (sg 0 160) ++ List.range' 192 64) #[(0,128,1),(128,32,3),(160,32,0)]) s
 dsimp only
 rw [if_neg (by decide)]
 refine kasC_bind (run_rv hc hlt (P:=[] ++ (List.range 128).map (sg 2 0) ++ (List.range 32).map (sg 0 128) ++ (List.range 32).map (sg 0 160)) (lo:=192) (b:=6) (by decide) rfl (by simp) ?_)
 dsimp only
 rw [if_pos (by decide)]
 refine kasC_bind (kasC_lift (wpAny_rule ?_))
 refine kasC_bind (blb_rv hc hlt (P:=[] ++ (List.range 128).map (sg 2 0) ++ (List.range 32).map (sg 0 128) ++ (List.range 32).map (sg 0 160)) (lo:=192) (b:=6) (by decide) rfl (by simp) rfl ?_)
 simp only [Bool.not_true,Bool.false_eq_true,if_false]
 refine kasC_bind (kasC_get ?_)
 rw [show (pendingOf (rvS κ it ([] ++ (List.range 128).map (sg 2 0) ++ (List.range 32).map (sg 0 128) ++ (List.range 32).map (sg 0 160) ++ (List.range 32).map (sg 0 192) ++ List.range' 224 32) #[(0,128,1),(128,32,3),(160,32,0)])).back?=some (160,32,0) from rfl]
 dsimp only
 rw [show power' 256 _ _ 256=2 from rfl]
 refine kasC_bind (kasC_range ?_)
 rw [show List.range' 0 (256 - 0)=0 :: 1 :: 2 :: List.range' 3 253 from rfl]
 refine kasC_cons ?_
 refine kasC_bind (kasC_get ?_)
 rw [show (if (pendingOf (rvS κ it ([] ++ (List.range 128).map (sg 2 0) ++ (List.range 32).map (sg 0 128) ++ (List.range 32).map (sg 0 160) ++ (List.range 32).map (sg 0 192) ++ List.range' 224 32) #[(0,128,1),(128,32,3),(160,32,0)])).size > 1 then (pendingOf (rvS κ it ([] ++ (List.range 128).map (sg 2 0) ++ (List.range 32).map (sg 0 128) ++ (List.range 32).map (sg 0 160) ++ (List.range 32).map (sg 0 192) ++ List.range' 224 32) #[(0,128,1),(128,32,3),(160,32,0)]))[(pendingOf (rvS κ it ([] ++ (List.range 128).map (sg 2 0) ++ (List.range 32).map (sg 0 128) ++ (List.range 32).map (sg 0 160) ++ (List.range 32).map (sg 0 192) ++ List.range' 224 32) #[(0,128,1),(128,32,3),(160,32,0)])).size - 2]? else none)=some (128,32,3) from rfl]
 dsimp only
 rw [if_neg (by decide)]
 rw [show ([] ++ (List.range 128).map (sg 2 0) ++ (List.range 32).map (sg 0 128) ++ (List.range 32).map (sg 0 160) ++ (List.range 32).map (sg 0 192) ++ List.range' 224 32)=[] ++ (List.range 128).map (sg 2 0) ++ (List.range 32).map (sg 0 128) ++ (List.range 32).map (sg 0 160) ++ ((List.range 32).map (sg 0 192) ++ List.range' 224 32) by simp only [List.append_assoc]]
 refine kasC_bind (mrg_rv (i:=1) (c:=0) (lo:=128) (P:=[] ++ (List.range 128).map (sg 2 0)) (S:=((List.range 32).map (sg 0 192) ++ List.range' 224 32)) (pw:=3) (pw2:=0) hc hlt (by decide) (by decide +kernel) (by simp) rfl rfl (pend':=#[(0,128,1),(128,64,3)]) (by simp) ?_)
 simp only [Bool.not_true,Bool.false_eq_true,if_false]
 refine kasC_pure ?_
 rw [show [] ++ (List.range 128).map (sg 2 0) ++ (List.range 64).map (sg 1 128) ++ ((List.range 32).map (sg 0 192) ++ List.range' 224 32)=([] ++ (List.range 128).map (sg 2 0) ++ (List.range 64).map (sg 1 128) ++ (List.range 32).map (sg 0 192) ++ List.range' 224 32) by simp only [List.append_assoc]]
 show kasC _ _ _ _ _ (rvS κ it ([] ++ (List.range 128).map (sg 2 0) ++ (List.range 64).map (sg 1 128) ++ (List.range 32).map (sg 0 192) ++ List.range' 224 32) #[(0,128,1),(128,64,3)]) s
 refine kasC_cons ?_
 refine kasC_bind (kasC_get ?_)
 rw [show (if (pendingOf (rvS κ it ([] ++ (List.range 128).map (sg 2 0) ++ (List.range 64).map (sg 1 128) ++ (List.range 32).map (sg 0 192) ++ List.range' 224 32) #[(0,128,1),(128,64,3)])).size > 1 then (pendingOf (rvS κ it ([] ++ (List.range 128).map (sg 2 0) ++ (List.range 64).map (sg 1 128) ++ (List.range 32).map (sg 0 192) ++ List.range' 224 32) #[(0,128,1),(128,64,3)]))[(pendingOf (rvS κ it ([] ++ (List.range 128).map (sg 2 0) ++ (List.range 64).map (sg 1 128) ++ (List.range 32).map (sg 0 192) ++ List.range' 224 32) #[(0,128,1),(128,64,3)])).size - 2]? else none)=some (0,128,1) from rfl]
 dsimp only
 rw [if_pos (by decide)]
 refine kasC_pure ?_
 refine kasC_bind (kasC_modify ?_)
 show kasC _ _ _ _ _ (rvS κ it ([] ++ (List.range 128).map (sg 2 0) ++ (List.range 64).map (sg 1 128) ++ (List.range 32).map (sg 0 192) ++ List.range' 224 32) #[(0,128,1),(128,64,2)]) s
 refine kasC_bind (kasC_modify (kasC_pure ?_))
 show kasC _ _ _ _ _ (rvS κ it ([] ++ (List.range 128).map (sg 2 0) ++ (List.range 64).map (sg 1 128) ++ (List.range 32).map (sg 0 192) ++ List.range' 224 32) #[(0,128,1),(128,64,2),(192,32,0)]) s
 refine kasC_cons ?_
 show kasC _ _ _ _ _ (rvS κ it ([] ++ (List.range 128).map (sg 2 0) ++ (List.range 64).map (sg 1 128) ++ (List.range 32).map (sg 0 192) ++ List.range' 224 32) #[(0,128,1),(128,64,2),(192,32,0)]) s
 dsimp only
 rw [if_neg (by decide)]
 refine kasC_bind (run_rv hc hlt (P:=[] ++ (List.range 128).map (sg 2 0) ++ (List.range 64).map (sg 1 128) ++ (List.range 32).map (sg 0 192)) (lo:=224) (b:=7) (by decide) rfl (by simp) ?_)
 dsimp only
 rw [if_pos (by decide)]
 refine kasC_bind (kasC_lift (wpAny_rule ?_))
 refine kasC_bind (blb_rv hc hlt (P:=[] ++ (List.range 128).map (sg 2 0) ++ (List.range 64).map (sg 1 128) ++ (List.range 32).map (sg 0 192)) (lo:=224) (b:=7) (by decide) rfl (by simp) rfl ?_)
 simp only [Bool.not_true,Bool.false_eq_true,if_false]
 refine kasC_bind (kasC_get ?_)
 rw [show (pendingOf (rvS κ it ([] ++ (List.range 128).map (sg 2 0) ++ (List.range 64).map (sg 1 128) ++ (List.range 32).map (sg 0 192) ++ (List.range 32).map (sg 0 224) ++ List.range' 256 0) #[(0,128,1),(128,64,2),(192,32,0)])).back?=some (192,32,0) from rfl]
 dsimp only
 rw [show power' 256 _ _ 256=3 from rfl]
 refine kasC_bind (kasC_range ?_)
 rw [show List.range' 0 (256 - 0)=0 :: 1 :: 2 :: List.range' 3 253 from rfl]
 refine kasC_cons ?_
 refine kasC_bind (kasC_get ?_)
 rw [show (if (pendingOf (rvS κ it ([] ++ (List.range 128).map (sg 2 0) ++ (List.range 64).map (sg 1 128) ++ (List.range 32).map (sg 0 192) ++ (List.range 32).map (sg 0 224) ++ List.range' 256 0) #[(0,128,1),(128,64,2),(192,32,0)])).size > 1 then (pendingOf (rvS κ it ([] ++ (List.range 128).map (sg 2 0) ++ (List.range 64).map (sg 1 128) ++ (List.range 32).map (sg 0 192) ++ (List.range 32).map (sg 0 224) ++ List.range' 256 0) #[(0,128,1),(128,64,2),(192,32,0)]))[(pendingOf (rvS κ it ([] ++ (List.range 128).map (sg 2 0) ++ (List.range 64).map (sg 1 128) ++ (List.range 32).map (sg 0 192) ++ (List.range 32).map (sg 0 224) ++ List.range' 256 0) #[(0,128,1),(128,64,2),(192,32,0)])).size - 2]? else none)=some (128,64,2) from rfl]
 dsimp only
 rw [if_pos (by decide)]
 refine kasC_pure ?_
 refine kasC_bind (kasC_modify ?_)
 show kasC _ _ _ _ _ (rvS κ it ([] ++ (List.range 128).map (sg 2 0) ++ (List.range 64).map (sg 1 128) ++ (List.range 32).map (sg 0 192) ++ (List.range 32).map (sg 0 224) ++ List.range' 256 0) #[(0,128,1),(128,64,2),(192,32,3)]) s
 refine kasC_bind (kasC_modify (kasC_pure ?_))
 show kasC _ _ _ _ _ (rvS κ it ([] ++ (List.range 128).map (sg 2 0) ++ (List.range 64).map (sg 1 128) ++ (List.range 32).map (sg 0 192) ++ (List.range 32).map (sg 0 224) ++ List.range' 256 0) #[(0,128,1),(128,64,2),(192,32,3),(224,32,0)]) s
 refine kasC_cons ?_
 dsimp only
 rw [if_pos (by decide)]
 refine kasC_pure ?_
 dsimp only
 refine kasC_bind (kasC_range ?_)
 rw [show List.range' 0 (256 - 0)=0 :: 1 :: 2 :: 3 :: List.range' 4 252 from rfl]
 refine kasC_cons ?_
 refine kasC_bind (kasC_get ?_)
 rw [if_neg (by exact (show ¬ 4<=1 by decide))]
 refine kasC_bind (mrg_rv (i:=2) (c:=0) (lo:=192) (P:=[] ++ (List.range 128).map (sg 2 0) ++ (List.range 64).map (sg 1 128)) (S:=List.range' 256 0) (pw:=3) (pw2:=0) hc hlt (by decide) (by decide +kernel) (by simp) rfl rfl (pend':=#[(0,128,1),(128,64,2),(192,64,3)]) (by simp) ?_)
 simp only [Bool.not_true,Bool.false_eq_true,if_false]
 refine kasC_pure ?_
 show kasC _ _ _ _ _ (rvS κ it ([] ++ (List.range 128).map (sg 2 0) ++ (List.range 64).map (sg 1 128) ++ (List.range 64).map (sg 1 192) ++ List.range' 256 0) #[(0,128,1),(128,64,2),(192,64,3)]) s
 refine kasC_cons ?_
 refine kasC_bind (kasC_get ?_)
 rw [if_neg (by exact (show ¬ 3<=1 by decide))]
 refine kasC_bind (mrg_rv (i:=1) (c:=1) (lo:=128) (P:=[] ++ (List.range 128).map (sg 2 0)) (S:=List.range' 256 0) (pw:=2) (pw2:=3) hc hlt (by decide) (by decide +kernel) (by simp) rfl rfl (pend':=#[(0,128,1),(128,128,2)]) (by simp) ?_)
 simp only [Bool.not_true,Bool.false_eq_true,if_false]
 refine kasC_pure ?_
 show kasC _ _ _ _ _ (rvS κ it ([] ++ (List.range 128).map (sg 2 0) ++ (List.range 128).map (sg 2 128) ++ List.range' 256 0) #[(0,128,1),(128,128,2)]) s
 refine kasC_cons ?_
 refine kasC_bind (kasC_get ?_)
 rw [if_neg (by exact (show ¬ 2<=1 by decide))]
 refine kasC_bind (mrg_rv (i:=0) (c:=2) (lo:=0) (P:=[]) (S:=List.range' 256 0) (pw:=1) (pw2:=2) hc hlt (by decide) (by decide +kernel) (by simp) rfl rfl (pend':=#[(0,256,1)]) (by simp) ?_)
 simp only [Bool.not_true,Bool.false_eq_true,if_false]
 refine kasC_pure ?_
 show kasC _ _ _ _ _ (rvS κ it ([] ++ (List.range 256).map (sg 3 0) ++ List.range' 256 0) #[(0,256,1)]) s
 refine kasC_cons ?_
 refine kasC_bind (kasC_get ?_)
 rw [if_pos (by exact Nat.le_refl 1)]
 refine kasC_pure ?_
 dsimp only
 refine kasC_pure (q _ ?_ rfl)
 show ((([] ++ (List.range 256).map (sg 3 0) ++ List.range' 256 0).map (kas_item it)).toArray)=_
 rw [sg_256]
 simp
end
section
variable {prog:Program} {w:World} {A:Around} {E:Value->Shared->Prop} {s:Shared}
theorem sort_pm {a:Addr} {vs:List Value} {n N:Nat} {σ:Nat->Nat} {lt:Nat->Nat->Bool} {P:PySem.Fin->Shared->Prop} (ho:s.heap.get? a=some (seqObj "list" vs.toArray n)) (hN:vs.length=N) (h2N:2<=N) (hz:N<=1000)
  (hT:∀ v∈vs,∃ b its,v=.ref b/\b≠a/\s.heap.IsList b its)
  (hc:∀ (h':Heap),(∀ b o,b≠a->s.heap.get? b=some o->h'.get? b=some o)->∀ i j,i < N->j < N->∀ C:Bool->Shared->Prop,C (lt i j) { s with heap:=h' }->wpAny (model prog w) A (keyLt' oneType' (vs.getD i .none) (vs.getD j .none)) C (fun _ _=>False) { s with heap:=h' })
  (run:∀ (s':Shared) (Q:Unit->SortSt->Shared->Prop),LtOk prog w A oneType' (pairsOf vs) s' lt N->(∀ st',arrOf st'=(((List.range N).map σ).map (kas_item (pairsOf vs))).toArray->failedOf st'=none->Q () st' s')->kasC (model prog w) A E sortRuns' Q (rvS oneType' (pairsOf vs) (List.range N) #[]) s')
  (h:P (.done (.ret .none)) { s with heap:=sortedHeap s.heap a vs (((List.range N).map σ).map (fun i=>vs.getD i .none)).toArray }) :
  wpAny (model prog w) A (Builtin.«list.sort» ⟨[.ref a],[]⟩) P E s:=by
 rw [list_sort_plain]
 have ha:a < s.heap.objs.size:=Heap.lt_size ho
 refine wpAny_bind (listItems_at ho rfl ?_)
 refine wpAny_bind (listUpdate_at ho rfl ?_ (by rw [List.size_toArray,sizeLine_eq]; omega) (Nat.zero_le _))
 obtain ⟨e1,ho1⟩:∃ e1,(s.heap.update a (Obj.mapSeq fun _=>#[])).get? a=some (seqObj "list" #[] e1):=⟨_,get?_update_seq ho (fun _=>#[])⟩
 refine wpAny_bind (seqEpoch_at ho1 rfl ?_)
 refine wpAny_bind (wpAny_newTuple ?_ (by show vs.length<=_; rw [sizeLine_eq]; omega))
 refine wpAny_bind (wpAny_newList ?_ (Nat.zero_le _))
 refine wpAny_holding ?_
 have ho6:(((s.heap.update a (Obj.mapSeq fun _=>#[])).push (seqObj "tuple" vs.toArray 0)).push (seqObj "list" #[] 0)).get? a=some (seqObj "list" #[] e1):=by
  rw [Heap.get?_push_ne _ _ _ (by rw [size_push',Heap.size_update]; exact Nat.ne_of_lt (Nat.lt_succ_of_lt ha)),Heap.get?_push_ne _ _ _ (by rw [Heap.size_update]; exact Nat.ne_of_lt ha)]
  exact ho1
 have keep:∀ b o,b≠a->s.heap.get? b=some o->(((s.heap.update a (Obj.mapSeq fun _=>#[])).push (seqObj "tuple" vs.toArray 0)).push (seqObj "list" #[] 0)).get? b=some o:=fun b o hb e=>by
  have hlt:=Heap.lt_size e
  rw [Heap.get?_push_ne _ _ _ (by rw [size_push',Heap.size_update]; exact Nat.ne_of_lt (Nat.lt_succ_of_lt hlt)),Heap.get?_push_ne _ _ _ (by rw [Heap.size_update]; exact Nat.ne_of_lt hlt),Heap.get?_update_ne _ _ _ _ hb]
  exact e
 show wpAny (model prog w) A _ P E { s with heap:=((s.heap.update a (Obj.mapSeq fun _=>#[])).push (seqObj "tuple" vs.toArray 0)).push (seqObj "list" #[] 0) }
 dsimp only
 have hsz:vs.toArray.size=vs.length:=by simp
 have end_:∀ (st':SortSt),(arrOf st').map (·.2)=(((List.range N).map σ).map (fun i=>vs.getD i .none)).toArray->failedOf st'=none->wpAny (model prog w) A (do
   let touched:=(← seqEpoch a) != e1
   Builtin.List.listUpdate (.ref a) fun _=>(arrOf st').map (·.2)
   if let some e:=failedOf st' then rule "list.sort.comparison-raised"; throw e
   if touched then rule "list.sort.modified"; raiseError "ValueError" "list modified during sort"
   ret .none) P E { s with heap:=((s.heap.update a (Obj.mapSeq fun _=>#[])).push (seqObj "tuple" vs.toArray 0)).push (seqObj "list" #[] 0) }:=fun st' e2 hf=>by
  refine wpAny_bind (seqEpoch_at ho6 rfl ?_)
  refine wpAny_bind (listUpdate_at ho6 rfl ?_ (Nat.zero_le _) (by rw [e2,sizeLine_eq]; simp; omega))
  rw [hf,e2]
  simp only [bne_self_eq_false,Bool.false_eq_true,if_false]
  exact wpAny_pure h
 rw [if_neg (by rw [hsz]; omega),if_neg (by rw [hsz]; omega)]
 refine wpAny_bind (kas_kind (T:=.type "list") (by omega) (fun v hv=>?_) (by rfl) (by rfl) ?_)
 ·obtain ⟨b,its,rfl,hb,hl⟩:=hT v hv
  obtain ⟨o,e,c,d⟩:=hl
  exact fun A Q E s' k q=>wpAny_typeOf (T := "list") ⟨o,k b o (keep b o hb e),c⟩ q
 have est:SortSt.mk' oneType' (vs.toArray.zip vs.toArray) #[] 7 none=rvS oneType' (pairsOf vs) (List.range N) #[]:=by
  have e:=kas_range (pairsOf vs)
  rw [pairsOf_size,hN] at e
  show SortSt.mk' oneType' (pairsOf vs) #[] 7 none=SortSt.mk' oneType' ((List.range N).map (kas_item (pairsOf vs))).toArray #[] 7 none
  rw [← List.map_toArray,e]
 have go:=run { s with heap:=((s.heap.update a (Obj.mapSeq fun _=>#[])).push (seqObj "tuple" vs.toArray 0)).push (seqObj "list" #[] 0) }
  (fun _ st' s'=>arrOf st'=(((List.range N).map σ).map (kas_item (pairsOf vs))).toArray/\failedOf st'=none/\s'={ s with heap:=((s.heap.update a (Obj.mapSeq fun _=>#[])).push (seqObj "tuple" vs.toArray 0)).push (seqObj "list" #[] 0) })
  (fun i j hi hj C hC=>by
   unfold kas_cmp
   rw [kas_item_eq,kas_item_eq]
   exact hc _ keep i j hi hj C hC) (fun st' a1 a2=>⟨a1,a2,rfl⟩)
 rw [← est] at go
 refine wpAny_bind (wpAny_mono go ?_ fun _ _ e=>e)
 rintro ⟨⟨⟩,st'⟩ s' ⟨har,hf,rfl⟩
 refine end_ st' ?_ hf
 rw [har]
 apply Array.toList_inj.mp
 rw [Array.toList_map,List.map_map]
 exact List.map_congr_left fun i _=>by
  show (kas_item (pairsOf vs) i).2=_
  rw [kas_item_eq]
end
section
variable {prog:Program} {w:World} {A:Around} {E:Value->Shared->Prop} {κ:SortKind} {it:Array Keyed} {s:Shared}
theorem runs_rv {m:Nat} (h1:1<=m) (hm:m<=5\/m=8) (Q:Unit->SortSt->Shared->Prop) (hc:LtOk prog w A κ it s (fun i j=>decide (rvb m i < rvb m j)) (2 ^ m))
  (q:∀ st',arrOf st'=(((List.range (2 ^ m)).map (rvb m)).map (kas_item it)).toArray->failedOf st'=none->Q () st' s):kasC (model prog w) A E sortRuns' Q (rvS κ it (List.range (2 ^ m)) #[]) s:=by
 rcases (by omega:m=1\/m=2\/m=3\/m=4\/m=5\/m=8) with e | e | e | e | e | e <;> subst e
 ·have e:rvS κ it (List.range (2 ^ 1)) #[]=kas_st κ it (List.toArray (List.range 2)):=by
   show SortSt.mk' κ ((List.range 2).map (kas_item it)).toArray #[] 7 none=SortSt.mk' κ ((List.toArray (List.range 2)).map (kas_item it)) #[] 7 none
   rw [List.map_toArray]
  rw [e]
  refine runs_up (n:=2) (R:=fun s'=>s'=s) (by decide) (fun m s' a1 a2 es=>?_) rfl (fun st' s' a1 a2 a3=>?_)
  ·subst es
   obtain rfl:m=1:=by omega
   exact hc 1 0 (by decide) (by decide) _ ⟨by decide,rfl⟩
  ·subst a3
   exact q st' (by rw [a1,List.map_toArray]; rfl) a2
 ·exact one_rv hc xk_ok2 (by decide) (by decide) (fun i j _ _=>rfl) (by decide +kernel) (by decide) (by decide) q
 ·exact one_rv hc xk_ok3 (by decide) (by decide) (fun i j _ _=>rfl) (by decide +kernel) (by decide) (by decide) q
 ·exact one_rv hc xk_ok4 (by decide) (by decide) (fun i j _ _=>rfl) (by decide +kernel) (by decide) (by decide) q
 ·exact one_rv hc xk_ok5 (by decide) (by decide) (fun i j _ _=>rfl) (by decide +kernel) (by decide) (by decide) q
 ·exact all_rv hc (fun i j _ _=>rfl) q
end
end L2
namespace Bdd
open L2
def rowB:Nat->Nat->List Bool
 | 0,_=>[]
 | m + 1,t=>(t % 2 == 1) :: rowB m (t / 2)
theorem rowB_len:∀ (m t:Nat),(rowB m t).length=m
 | 0,_=>rfl
 | m + 1,t=>by show (rowB m (t / 2)).length + 1=m + 1; rw [rowB_len]
def drw:Nat->List (List Bool)
 | 0=>[[]]
 | m + 1=>(drw m).map (· ++ [false]) ++ (drw m).map (· ++ [true])
theorem rowB_lt:∀ (m i j:Nat),rowLt (rowB m i) (rowB m j)=decide (rvb m i < rvb m j)
 | 0,_,_=>rfl
 | m + 1,i,j=>by
  show (if (i % 2 == 1) == (j % 2 == 1) then rowLt (rowB m (i / 2)) (rowB m (j / 2)) else !(i % 2 == 1) && (j % 2 == 1))=decide ((i % 2) * 2 ^ m + rvb m (i / 2) < (j % 2) * 2 ^ m + rvb m (j / 2))
  have a:=rvb_lt m (i / 2)
  have b:=rvb_lt m (j / 2)
  rw [rowB_lt m (i / 2) (j / 2)]
  rcases Nat.mod_two_eq_zero_or_one i with hi | hi <;> rcases Nat.mod_two_eq_zero_or_one j with hj | hj <;> rw [hi,hj]
  ·rw [if_pos (by decide)]
   simp
  ·rw [if_neg (by decide)]
   symm
   show decide _=true
   exact decide_eq_true (by omega)
  ·rw [if_neg (by decide)]
   symm
   show decide _=false
   exact decide_eq_false (by omega)
  ·rw [if_pos (by decide)]
   simp
theorem rowB_snoc:∀ (m t:Nat) (b:Bool),t < 2 ^ m->rowB (m + 1) (t + b.toNat * 2 ^ m)=rowB m t ++ [b]
 | 0,t,b,h=>by
  have:t=0:=by omega
  subst this
  cases b <;> rfl
 | m + 1,t,b,h=>by
  rw [Nat.pow_succ] at h
  have ih:=rowB_snoc m (t / 2) b (by omega)
  show ((t + b.toNat * 2 ^ (m + 1)) % 2 == 1) :: rowB (m + 1) ((t + b.toNat * 2 ^ (m + 1)) / 2)=(t % 2 == 1) :: (rowB m (t / 2) ++ [b])
  rw [← ih,show b.toNat * 2 ^ (m + 1)=2 * (b.toNat * 2 ^ m) by rw [Nat.pow_succ,← Nat.mul_assoc,Nat.mul_comm],show (t + 2 * (b.toNat * 2 ^ m)) % 2=t % 2 by omega,show (t + 2 * (b.toNat * 2 ^ m)) / 2=t / 2 + b.toNat * 2 ^ m by omega]
theorem drw_eq:∀ m,drw m=(List.range (2 ^ m)).map (rowB m)
 | 0=>rfl
 | m + 1=>by
  show (drw m).map (· ++ [false]) ++ (drw m).map (· ++ [true])=_
  rw [drw_eq m,Nat.pow_succ,show 2 ^ m * 2=2 ^ m + 2 ^ m by omega,List.range_add,List.map_append,List.map_map,List.map_map,List.map_map]
  have e1:(List.range (2 ^ m)).map ((· ++ [false]) ∘ rowB m)=(List.range (2 ^ m)).map (rowB (m + 1)):=List.map_congr_left fun t ht=>by
   have:=rowB_snoc m t false (List.mem_range.mp ht)
   rw [show t + false.toNat * 2 ^ m=t by simp] at this
   exact this.symm
  have e2:(List.range (2 ^ m)).map ((· ++ [true]) ∘ rowB m)=(List.range (2 ^ m)).map (rowB (m + 1) ∘ (2 ^ m + ·)):=List.map_congr_left fun t ht=>by
   have:=rowB_snoc m t true (List.mem_range.mp ht)
   rw [show t + true.toNat * 2 ^ m=2 ^ m + t by simp; omega] at this
   exact this.symm
  rw [e1,e2]
theorem allR_rv {m:Nat} (hm:m<=5\/m=8):((List.range (2 ^ m)).map (rvb m)).map (rowB m)=allR m:=by
 rcases (by omega:m=0\/m=1\/m=2\/m=3\/m=4\/m=5\/m=8) with e | e | e | e | e | e | e <;> subst e <;> decide +kernel
end Bdd
namespace L2
open PySem PySem.Spec PyProof.Rows PySem.W
theorem vals_map {α:Type} {f:α->V} {g:α->Value}:∀ {ts:List α},(∀ t∈ts,RelV (f t) (g t))->Vals (ts.map f) (ts.map g)
 | [],_=>.nil
 | t :: ts,h=>.cons (h t List.mem_cons_self) (vals_map fun u hu=>h u (List.mem_cons_of_mem _ hu))
theorem pd_maps {α β γ:Type} {R:β->γ->Prop} {f:α->β} {g:α->γ}:∀ {ts:List α},(∀ t∈ts,R (f t) (g t))->Paired R (ts.map f) (ts.map g)
 | [],_=>.nil
 | t :: ts,h=>.cons (h t List.mem_cons_self) (pd_maps fun u hu=>h u (List.mem_cons_of_mem _ hu))
section
variable {X:Cx}
theorem call_sorted_drw {K:PySem.W.Frag} (hK:X.K=K) (hu:X.A.units + 9 < cLine):CallR X (.builtin "sorted") (fun xs H Q=>∃ (p:Addr) (ys:List Addr) (n:Nat),xs=[.ref p]/\SqL K H p (ys.map V.ref)/\Paired (fun q r=>H q=some (.lst (Sen.rowV r))) ys (Bdd.drw n)/\1<=n/\(n<=5\/n=8) /\
  ∀ l zs,H l=none->Paired (fun q r=>q∈ys/\H q=some (.lst (Sen.rowV r))) zs (Bdd.allR n)->Q (.ref l) (upd H l (.lst (zs.map V.ref)))):=by
 subst hK
 intro pins s σ H xs us Q I r h
 obtain ⟨p,ys,n,rfl,hq,hp,h1n,h58,q⟩:=h
 have L2n:((List.range (2 ^ n)).map (Bdd.rowB n))=Bdd.drw n:=(Bdd.drw_eq n).symm
 have z256:2 ^ n<=256:=Nat.le_trans (Nat.pow_le_pow_right (n:=2) (by decide) (show n<=8 by omega)) (by decide)
 have z2:2<=2 ^ n:=Nat.pow_le_pow_right (n:=2) (i:=1) (by decide) h1n
 obtain ⟨u,rfl,rx⟩:=vals1 r
 cases rx
 obtain ⟨vs,rv,pl,hzz⟩:=I.list hq
 have lv:=rv.length
 rw [List.length_map] at lv
 have ly:=pd_len hp
 have lL:(Bdd.drw n).length=2 ^ n:=by rw [← L2n]; simp
 have hN:vs.length=2 ^ n:=by omega
 refine Calls.call_function_entry kind_sorted plain_sorted entry_sorted (args_sorted1 _) ?_
 unfold Builtin.«sorted»
 refine wpAny_bind (m:=checkCount "sorted" 1 1 _) (wpAny_pure ?_)
 refine wpAny_bind (collect_list pl.isList ?_ (by rw [sizeLine_eq]; omega))
 refine wpAny_bind (wpAny_newList ?_ (by rw [sizeLine_eq]; omega))
 have hsz:((s.heap.push (seqObj "list" #[] 0)).update s.heap.objs.size (Obj.mapSeq (· ++ vs.toArray))).objs.size=s.heap.objs.size + 1:=by
  rw [Heap.size_update,size_push']
 have hoL:(((s.heap.push (seqObj "list" #[] 0)).update s.heap.objs.size (Obj.mapSeq (· ++ vs.toArray))).push (seqObj "list" vs.toArray 0)).get? (s.heap.objs.size + 1)=some (seqObj "list" vs.toArray 0):=by
  rw [← hsz]; exact Heap.get?_push_size _ rfl
 have keep:∀ b o,s.heap.get? b=some o->(((s.heap.push (seqObj "list" #[] 0)).update s.heap.objs.size (Obj.mapSeq (· ++ vs.toArray))).push (seqObj "list" vs.toArray 0)).get? b=some o:=fun b o e=>by
  have hlt:b < s.heap.objs.size:=Heap.lt_size e
  rw [Heap.get?_push_ne _ _ _ (by rw [hsz]; exact Nat.ne_of_lt (Nat.lt_succ_of_lt hlt)),Heap.get?_update_ne _ _ _ _ (Nat.ne_of_lt hlt),Heap.get?_push_ne _ _ _ (Nat.ne_of_lt hlt)]
  exact e
 show wpAny _ _ _ _ _ { s with heap:=((s.heap.push (seqObj "list" #[] 0)).update s.heap.objs.size (Obj.mapSeq (· ++ vs.toArray))).push (seqObj "list" vs.toArray 0) }
 rw [hsz]
 have I1:Inv X pins σ H { s with heap:=((s.heap.push (seqObj "list" #[] 0)).update s.heap.objs.size (Obj.mapSeq (· ++ vs.toArray))).push (seqObj "list" vs.toArray 0),toks:=s.toks }:=I.kept keep
 have at_:∀ m,m < vs.length->∃ b,vs.getD m .none=.ref b/\ys[m]?=some b/\H b=some (.lst (Sen.rowV (Bdd.rowB n m))):=fun m hm=>by
  have hy:m < ys.length:=by omega
  obtain ⟨v,hv,rv'⟩:=rv.get (show (ys.map V.ref)[m]?=some (.ref ys[m]) by rw [List.getElem?_map,List.getElem?_eq_getElem hy]; rfl)
  cases rv'
  obtain ⟨rr,h1,h2⟩:=pd_at hp (List.getElem?_eq_getElem hy)
  rw [← L2n,List.getElem?_map,List.getElem?_range (by omega)] at h1
  cases h1
  exact ⟨ys[m],by rw [List.getD_eq_getElem?_getD,hv]; rfl,List.getElem?_eq_getElem hy,h2⟩
 have old:∀ b rr,H b=some (.lst (Sen.rowV rr))->b < s.heap.objs.size:=fun b rr hb=>by
  obtain ⟨its,_,pl',_⟩:=I.list (SqL.of hb)
  obtain ⟨o,e,_⟩:=pl'.isList
  exact Heap.lt_size e
 refine wpAny_bind (wpAny_holding (wpAny_call_entry slot_list_sort ⟨_,hoL,rfl⟩ entry_list_sort (sort_pm (N:=2 ^ n) (σ:=rvb n) (lt:=fun i j=>decide (rvb n i < rvb n j)) (s:={ s with heap:=((s.heap.push (seqObj "list" #[] 0)).update s.heap.objs.size (Obj.mapSeq (· ++ vs.toArray))).push (seqObj "list" vs.toArray 0) }) hoL hN z2 (by omega) (fun v hv=>?_) (fun h' kp m m2 hm hm2 C hC=>?_) (fun s' Q' hc' q'=>runs_rv h1n h58 Q' hc' q') ⟨_,rfl,?_⟩) (args_list_sort _)))
 ·obtain ⟨m,hm,em⟩:=List.getElem_of_mem hv
  obtain ⟨b,e1,e2,e4⟩:=at_ m hm
  rw [List.getD_eq_getElem?_getD,List.getElem?_eq_getElem hm,em] at e1
  have e1':v=.ref b:=e1
  obtain ⟨its,_,pl',_⟩:=I1.list (SqL.of e4)
  exact ⟨b,its.toArray,e1',Nat.ne_of_lt (Nat.lt_succ_of_lt (old b _ e4)),pl'.isList⟩
 ·obtain ⟨b,b1,b2,b4⟩:=at_ m (by omega)
  obtain ⟨c,c1,c2,c4⟩:=at_ m2 (by omega)
  have hrb:=Bdd.rowB_len n m
  have hrc:=Bdd.rowB_len n m2
  have hlt:=Bdd.rowB_lt n m m2
  generalize Bdd.rowB n m=rb at b4 hrb hlt
  generalize Bdd.rowB n m2=rc at c4 hrc hlt
  rw [b1,c1]
  obtain ⟨ib,vb,pb,_⟩:=I1.list (SqL.of b4)
  obtain ⟨ic,vc,pc,_⟩:=I1.list (SqL.of c4)
  have nb:b≠s.heap.objs.size + 1:=Nat.ne_of_lt (Nat.lt_succ_of_lt (old b rb b4))
  have nc:c≠s.heap.objs.size + 1:=Nat.ne_of_lt (Nat.lt_succ_of_lt (old c rc c4))
  have lb:h'.IsList b ib.toArray:=by
   obtain ⟨o,e,c⟩:=pb.isList
   exact ⟨o,kp b o nb e,c⟩
  have lc:h'.IsList c ic.toArray:=by
   obtain ⟨o,e,c'⟩:=pc.isList
   exact ⟨o,kp c o nc e,c'⟩
  have zb:=vb.length
  have zc:=vc.length
  rw [List.length_map] at zb zc
  have hl:rb.length=rc.length:=hrb.trans hrc.symm
  have it:∀ {r:List Bool} {its:List Value} {j:Nat} (h:j < its.toArray.size),Vals (Sen.rowV r) its->RelV (.int ((r.getD j false).toNat:Nat)) its.toArray[j]:=fun {r its j} h v=>by
   have h':j < its.length:=by simpa using h
   have hr:j < r.length:=by have:=v.length; rw [List.length_map] at this; omega
   obtain ⟨x,hx,rx⟩:=v.get (show (Sen.rowV r)[j]?=some (.int ((r.getD j false).toNat:Nat)) by rw [List.getElem?_map,List.getElem?_eq_getElem hr,List.getD_eq_getElem?_getD,List.getElem?_eq_getElem hr]; rfl)
   rw [List.getElem?_eq_getElem h'] at hx
   cases hx
   simpa using rx
  refine oneLt_list (s:={ s with heap:=h' }) (e:=fun j=>rb.getD j false == rc.getD j false) (f:=fun j=>!rb.getD j false && rc.getD j false) lb lc (by show X.A.units + 1 + 1 < cLine; omega) (fun j h1 h2=>?_) (fun j h1 h2 hj=>?_) ?_
  ·have w:eqV (.int ((rb.getD j false).toNat:Nat)) (.int ((rc.getD j false).toNat:Nat))=(rb.getD j false == rc.getD j false):=by
    rw [Sen.eqV_int]
    cases rb.getD j false <;> cases rc.getD j false <;> rfl
   rw [← w]
   exact eqAt_V (it h1 vb) (it h2 vc) rfl rfl
  ·intro prog w E Q hq
   obtain ⟨t1,e1⟩:=it h1 vb
   obtain ⟨t2,e2⟩:=it h2 vc
   rw [e1,e2]
   have w:decide (((rb.getD j false).toNat:Int) < ((rc.getD j false).toNat:Int))=(!rb.getD j false && rc.getD j false):=by cases rb.getD j false <;> cases rc.getD j false <;> rfl
   rw [← w] at hq
   exact CmpOf.ints_lt (prog:=prog) (w:=_) (A:=_) (P:=fun k v=>∃ t,v=.int (if k=0 then _ else _) t) _ (fun _ _ z=>z) 0 1 _ _ _ Q E ⟨t1,rfl⟩ ⟨t2,rfl⟩ hq
  ·have w:=Sen.lexB_rows hl rb.length 0 (by omega)
   rw [List.drop_zero,List.drop_zero,hlt] at w
   simp only [List.size_toArray]
   rw [← zb,← zc,← hl,Nat.min_self]
   rw [hl] at w ⊢
   rw [w]
   exact hC
 ·refine wpAny_pure ⟨_,rfl,?_⟩
  obtain ⟨e,he⟩:=sortedAll_at s.heap vs (((List.range (2 ^ n)).map (rvb n)).map (fun i=>vs.getD i .none)).toArray
  have hf:H (s.heap.objs.size + 1)=none:=I.hok.fresh (Nat.le_succ _)
  have s64:=small1000 (n:=2 ^ n) (by omega)
  have rv':∀ t,t < 2 ^ n->RelV (.ref (ys.getD t 0)) (vs.getD t .none)/\ys.getD t 0∈ys/\H (ys.getD t 0)=some (.lst (Sen.rowV (Bdd.rowB n t))):=fun t ht=>by
   obtain ⟨b,e1,e2,e4⟩:=at_ t (by omega)
   have e2':ys.getD t 0=b:=by rw [List.getD_eq_getElem?_getD,e2]; rfl
   rw [e1,e2']
   exact ⟨rfl,List.mem_of_getElem? e2,e4⟩
  refine ⟨.ref (s.heap.objs.size + 1),_,I.laid (t':=s.toks) (o:=.lst ((((List.range (2 ^ n)).map (rvb n)).map (fun i=>ys.getD i 0)).map V.ref)) (fun b o e=>sortedAll_old e) (Nat.le_succ _) ?_,rfl,q _ _ hf ?_⟩
  ·refine ⟨by simp; exact Nat.le_of_lt s64,_,e,?_,he⟩
   rw [List.map_map,List.map_map,List.map_map]
   exact vals_map fun t ht=>(rv' (rvb n t) (rvb_lt n t)).1
  ·rw [← Bdd.allR_rv h58,List.map_map,List.map_map]
   exact pd_maps fun t ht=>(rv' (rvb n t) (rvb_lt n t)).2
end
section
variable {X:Cx}
theorem op_addLK {K:PySem.W.Frag} (h:X.K=K):OpR X (binaryOp .Add) (rAddL K):=by subst h; exact op_addL
end
end L2
namespace L2
open PySem
end L2
namespace Sen
open PySem L2 Bdd
section
variable (C:Addr) (K:PySem.W.Frag)
def spAnyOrder2:Sp:=fun vs H Q _=>∃ c:Int,vs=[.int c]/\∀ (l:Addr) (H':Hp) (os:List Str),Same H H'->H' l=some (.lst (os.map V.str))->IsOrd os->(os.length<=5\/os.length=8)->Q (.ref l) H'
def spLawRows2:Sp:=fun vs H Q _=>∃ n:Nat,vs=[.int n]/\1<=n/\(n<=5\/n=8)/\∀ (l:Addr) (H':Hp) (ps:List Addr),Same H H'->H l=none->H' l=some (.lst (ps.map V.ref))->Paired (RowF H H') ps (Bdd.allR n)->Q (.ref l) H'
end
theorem env_row (os:List Str) (r:List Bool):envB os (rowBits r)=envR os (rowL r):=by
 funext x
 show (rowBits r).testBit (ix os x)=rowL r (ix os x)
 rw [rowBits_bit]
 unfold rowL
 rw [List.getD_eq_getElem?_getD]
section
variable {B:Hp->Addr->List Str->List Rm->Foot->Prop} {C:Addr} {H0 H H':Hp} {b:Addr} {os:List Str} {n:Nat} {rs rs':List Rm} {F F':Foot}
end
section
variable (C:Addr) (K:PySem.W.Frag)
end
theorem eq_sameB {K:PySem.W.Frag} {H:Hp} {n:Nat} {p q:Addr} {xs:List V} (hp:SqL K H p xs) (hq:SqL K H q xs) (hf:∀ x∈xs,flatV x=true):EqD K H (n + 1) (.ref p) (.ref q) true :=
 eq_ll hp hq rfl fun j x y hx hy=>by
  rw [hx] at hy
  cases hy
  exact eq_flat (hf x (List.mem_of_getElem? hx))
end Sen
namespace PySem
open Sem (wp)
namespace F
end F
end PySem
namespace L2
open PySem PySem.Spec PyProof.Rows PySem.W
section
variable {X:Cx}
end
end L2
namespace Bdd
open PySem L2
theorem rowL_range (n:Nat) (R:Row):∀ i,i < n->rowL ((List.range n).map R) i=R i:=fun i hi=>by
 unfold rowL
 rw [List.getD_eq_getElem?_getD,List.getElem?_map,List.getElem?_range hi]
 rfl
theorem range_in_allR (R:Row):∀ n,(List.range n).map R∈allR n
 | 0=>by simp [allR]
 | n + 1=>by
  rw [List.range_succ,List.map_append,List.map_singleton]
  refine List.mem_flatMap.mpr ⟨_,range_in_allR R n,?_⟩
  cases R n <;> simp
end Bdd
namespace Sen
open PySem L2 Bdd
structure TwoB (C:Addr) (H0 H:Hp) (b1 b2:Addr) (os:List Str) (n:Nat) (rs1:List Rm) (F1:Foot) (rs2:List Rm) (F2:Foot):Prop where
 same:Same H0 H
 aw1:∀ x,F1 x->H0 x=none
 aw2:∀ x,F2 x->H0 x=none
 k1:BookAt C H b1 os rs1 F1
 k2:BookAt C H b2 os rs2 F2
 sep:(b1=b2/\rs1=rs2/\F1=F2)\/∀ x,F1 x->F2 x->False
 len1:rs1.length<=n
 len2:rs2.length<=n
section
variable {C:Addr} {H0 H:Hp} {b1 b2:Addr} {os:List Str} {n:Nat} {rs1 rs2:List Rm} {F1 F2:Foot}
theorem TwoB.symm (h:TwoB C H0 H b1 b2 os n rs1 F1 rs2 F2):TwoB C H0 H b2 b1 os n rs2 F2 rs1 F1 :=
 ⟨h.same,h.aw2,h.aw1,h.k2,h.k1,h.sep.imp (fun z=>⟨z.1.symm,z.2.1.symm,z.2.2.symm⟩) (fun z x a b=>z x b a),h.len2,h.len1⟩
theorem TwoB.new (h:TwoB C H0 H b1 b2 os n rs1 F1 rs2 F2) {H':Hp} (g:Same H H'):TwoB C H0 H' b1 b2 os n rs1 F1 rs2 F2 :=
 ⟨h.same.trans g,h.aw1,h.aw2,(bookLike C).same h.k1 g,(bookLike C).same h.k2 g,h.sep,h.len1,h.len2⟩
theorem TwoB.grow (h:TwoB C H0 H b1 b2 os n rs1 F1 rs2 F2) {m:Nat} {H':Hp} {rs':List Rm} {F':Foot} (aw:Away F2 H H') (tu:Tups H H') (hB:BookAt C H' b2 os rs' F') (nf:NewF H F2 F') (gr:Grown rs2 rs') (hl:rs'.length<=rs2.length + m) :
  ∃ rs1' F1',TwoB C H0 H' b1 b2 os (n + m) rs1' F1' rs' F'/\Grown rs1 rs1':=by
 have L:=bookLike C
 have sm:Same H0 H':=fun x o e=>aw x o (h.same _ _ e) fun z=>by rw [h.aw2 x z] at e; cases e
 have a2:∀ x,F' x->H0 x=none:=fun x hx=>by
  rcases nf x hx with z | z
  ·exact h.aw2 x z
  ·exact h.same.free z
 have l2:=h.len2
 have l1:=h.len1
 rcases h.sep with ⟨e1,e2,e3⟩ | sp
 ·subst e1 e2 e3
  exact ⟨rs',F',⟨sm,a2,a2,hB,hB,.inl ⟨rfl,rfl,rfl⟩,by omega,by omega⟩,gr⟩
 ·refine ⟨rs1,F1,⟨sm,h.aw1,a2,L.frame h.k1 (fun x o e hF=>aw x o e fun z=>sp x hF z) tu,hB,.inr fun x a b=>?_,by omega,by omega⟩,Grown.refl _⟩
  rcases nf x b with z | z
  ·exact sp x a z
  ·exact L.there h.k1 a z
end
end Sen
namespace L2
open PySem PySem.Spec PyProof.Rows PySem.W
section
variable {prog:Program} {w:World} {A:Around} {E:Value->Shared->Prop} {κ:SortKind} {it:Array Keyed} {s:Shared}
variable {lt:Nat->Nat->Bool} {N:Nat}
end
section
variable {lt:Nat->Nat->Bool} {N:Nat}
variable {X Y O:List Nat} {ia ib:Nat}
end
section
variable {prog:Program} {w:World} {A:Around} {E:Value->Shared->Prop} {κ:SortKind} {it:Array Keyed} {s:Shared}
variable {lt:Nat->Nat->Bool} {N:Nat}
end
section
variable {lt:Nat->Nat->Bool} {N:Nat}
variable {X Y O:List Nat} {na nb:Nat}
end
section
variable {prog:Program} {w:World} {A:Around} {E:Value->Shared->Prop} {κ:SortKind} {it:Array Keyed} {s:Shared}
variable {lt:Nat->Nat->Bool} {N:Nat}
end
section
variable {prog:Program} {w:World} {A:Around} {E:Value->Shared->Prop} {κ:SortKind} {it:Array Keyed} {s:Shared}
variable {lt:Nat->Nat->Bool} {N:Nat}
end
section
variable {prog:Program} {w:World} {A:Around} {E:Value->Shared->Prop} {κ:SortKind} {it:Array Keyed} {s:Shared}
variable {lt:Nat->Nat->Bool} {N:Nat}
end
end L2
namespace L2
open PySem PySem.Spec PyProof.Rows PySem.W
section
variable {prog:Program} {w:World} {A:Around} {E:Value->Shared->Prop} {s:Shared}
end
section
variable {X:Cx}
end
end L2
namespace Bdd
open PySem L2
end Bdd
namespace Bdd
open Sen
section
variable {n d p:Nat} {f c:Nat->Bool}
end
end Bdd
namespace Sen
open PySem L2 Bdd
section
variable (C:Addr)
end
end Sen
namespace Sen
open PySem L2 Bdd
end Sen
namespace Bdd
open L2
end Bdd
namespace Sen
open PySem L2 Bdd
end Sen
namespace Bdd
open PySem Sen
section
variable {n:Nat} {rs:List Rm} (B:Bk n rs)
include B
end
end Bdd
namespace Sen
open PySem L2 Bdd
end Sen
namespace Sen
open PySem L2 Bdd
end Sen
namespace L2
open PySem PySem.Spec PyProof.Rows
section
variable {prog:Program} {w:World} {A:Around} {E:Value->Shared->Prop} {s:Shared}
end
section
variable {X:Cx}
end
end L2
namespace Bdd
section
variable {n:Nat} {rs:List Rm} (B:Bk n rs)
include B
end
end Bdd
namespace Sen
open PySem L2 Bdd
end Sen
namespace L2
open PySem PySem.Spec PyProof.Rows
section
variable {prog:Program} {w:World} {κ:Type} [DecidableEq κ] {knd:KeyKind prog w κ} {A:Around} {E:Value->Shared->Prop} {s:Shared}
end
section
variable {prog:Program} {w:World} {κ:Type} [DecidableEq κ] {knd:KeyKind prog w κ} {A:Around} {E:Value->Shared->Prop} {s:Shared}
end
theorem pd_ext {α β:Type} {R:α->β->Prop}:∀ {xs:List α} {ys:List β},xs.length=ys.length->(∀ (j:Nat) x y,xs[j]?=some x->ys[j]?=some y->R x y)->Paired R xs ys
 | [],[],_,_=>.nil
 | [],_ :: _,e,_=>by cases e
 | _ :: _,[],e,_=>by cases e
 | x :: xs,y :: ys,e,h=>.cons (h 0 x y rfl rfl) (pd_ext (Nat.succ.inj e) fun j a b h1 h2=>h (j + 1) a b h1 h2)
section
variable {X:Cx}
end
end L2
namespace PySem
open Sem (wp)
section
variable {prog:Program} {w:World} {A:Around} {E:Value->Shared->Prop} {h:Heap} {g:Array GenState} {d:Drawn} {t:Nat} {os:OsState} {a:Addr} {its:Array Value} {n:Nat} {sl:Array (Option Value)}
end
section
variable {prog:Program} {w:World} {κ:Type} [DecidableEq κ] {knd:KeyKind prog w κ} {A:Around} {E:Value->Shared->Prop}
end
end PySem
namespace L2
open PySem PySem.Spec PyProof.Rows
section
variable {X:Cx}
end
end L2
namespace L2
open PySem PySem.Spec PyProof.Rows
section
variable {X:Cx}
end
theorem lc_pairsL {K:PySem.W.Frag} {a:Addr} {xs:List V} {σ:St} {js:List Nat} {tt:TT} {te:TE} {H:Hp} {Qf:Addr->Hp->List V->Prop} {x y:Str} (Pv:Nat->List V->Hp->Prop) (h0:Pv 0 [] H) (hz:xs.length<=sizeLine)
  (hl:∀ i ys H,i<=xs.length->Pv i ys H->SqL K H a xs/\ys.length<=i)
  (hs:∀ i v ys H,xs[i]?=some v->Pv i ys H->∃ (p:Addr) (u w:V),v=.ref p/\SqT K H p [u,w]/\tt (lcT σ js [some u,some w]) H fun b H2=>if b=true then te (lcT σ js [some u,some w]) H2 fun z H3=>Pv (i + 1) (ys ++ [z]) H3 else Pv (i + 1) ys H2)
  (mt:∀ σ H Q Q',(∀ b H1,Q b H1->Q' b H1)->tt σ H Q->tt σ H Q') (me:∀ σ H Q Q',(∀ v H1,Q v H1->Q' v H1)->te σ H Q->te σ H Q')
  (hd:∀ ys H p,Pv xs.length ys H->H p=none->Qf p H ys) :
  ∃ W:Nat->Nat->List V->Hp->Prop,(∃ m,W 0 m [] H)/\∀ i m zs H,W i m zs H ->
   ((Itl K a).stop i H/\∀ p,H p=none->Qf p H zs) \/
   ((Itl K a).go i H/\zs.length < sizeLine/\∀ v H',(Itl K a).yld i H v H'->∀ o0:List (Option V),o0.length=[x,y].length->gTup K 2 (gCons (gName 0) (gCons (gName 1) gNil)) v (lcT σ js o0) H' fun σ2 H1=>∃ o1,σ2=lcT σ js o1/\o1.length=[x,y].length/\tt σ2 H1 fun b H2 =>
    if b=true then te σ2 H2 fun v H3=>∃ m',m' < m/\W (i + 1) m' (zs ++ [v]) H3 else ∃ m',m' < m/\W (i + 1) m' zs H2):=by
 refine ⟨fun i m ys H=>m=xs.length - i/\i<=xs.length/\Pv i ys H,⟨xs.length,by simp,Nat.zero_le _,h0⟩,?_⟩
 rintro i m ys H ⟨rfl,hi,p⟩
 obtain ⟨q,hy⟩:=hl i ys H hi p
 by_cases hlt:i < xs.length
 ·refine .inr ⟨⟨xs,xs[i],q,by simp [hlt]⟩,by omega,fun v H' y o0 l0=>?_⟩
  obtain ⟨e,y⟩:=y
  subst e
  obtain ⟨pp,u,w,rfl,hp,ht⟩:=hs i v ys _ (y xs q) p
  have eσ:((lcT σ js o0).set 0 (some u)).set 1 (some w)=lcT σ js [some u,some w]:=by
   match o0,l0 with
   | [a0,a1],_=>rfl
  refine ⟨pp,[u,w],rfl,hp,rfl,u,[w],rfl,w,[],rfl,rfl,[some u,some w],eσ,rfl,?_⟩
  rw [eσ]
  refine mt _ _ _ _ (fun b H2 h2=>?_) ht
  cases b with
  | true =>
   rw [if_pos rfl] at h2 ⊢
   exact me _ _ _ _ (fun v H3 h3=>⟨_,by omega,rfl,hlt,h3⟩) h2
  | false =>
   rw [if_neg Bool.false_ne_true] at h2 ⊢
   exact ⟨_,by omega,rfl,hlt,h2⟩
 ·have e:i=xs.length:=by omega
  subst e
  exact .inl ⟨⟨xs,q,Nat.le_refl _⟩,fun r hr=>hd _ _ r p hr⟩
end L2
namespace Bdd
section
variable {n:Nat} {rs:List Rm} (B:Bk n rs)
include B
end
end Bdd
namespace Sen
open PySem L2 Bdd
def iK (m:Int):Key:=Sum.inl m
section
variable (C:Addr)
end
end Sen
namespace L2
open PySem PySem.Spec PyProof.Rows
section
variable {X:Cx} {pins:List (Addr × Obj)} {σ:St} {H:Hp} {s:Shared}
end
section
variable {X:Cx} {tg:Expr}
end
end L2
namespace L2
open PySem PySem.Spec PyProof.Rows Sen
section
variable {X:Cx}
end
end L2
namespace Sen
open PySem L2 Bdd
section
variable (C:Addr)
end
theorem pd_zs {α β:Type} {R:α->β->Prop}:∀ {ts:List α} {ps:List β},Paired R ts ps->∃ zs:List (α × β),ts=zs.map (·.1)/\ps=zs.map (·.2)/\∀ z∈zs,R z.1 z.2
 | _,_,.nil=>⟨[],rfl,rfl,fun _ h=>by cases h⟩
 | _,_,.cons r t=>by
  obtain ⟨zs,e1,e2,h⟩:=pd_zs t
  refine ⟨(_,_) :: zs,by rw [e1]; rfl,by rw [e2]; rfl,fun z hz=>?_⟩
  rcases List.mem_cons.mp hz with e | e
  ·rw [e]; exact r
  ·exact h z e
theorem ixN_nat {n j:Nat} (h:j < n):ixN n (j:Int)=some j:=by
 unfold ixN
 rw [if_pos (by omega),if_pos (by omega),Int.toNat_natCast]
theorem map_ers {α β:Type} {f:α->β}:∀ {xs:List α} {i:Nat},(xs.map f).eraseIdx i=(xs.eraseIdx i).map f
 | [],_=>rfl
 | _ :: _,0=>rfl
 | x :: xs,i + 1=>congrArg (f x :: ·) (map_ers (xs:=xs) (i:=i))
end Sen
namespace L2
open PySem PySem.Spec PyProof.Rows
def RawAt (h:Heap) (d:Addr) (es:Array DictEntry) (ep:Nat):Prop:=∃ o,h.get? d=some o/\o.ExactDict/\o.data=.dict es ep
section
variable {prog:Program} {w:World} {A:Around} {E:Value->Shared->Prop} {s:Shared} {d it:Addr} {es:Array DictEntry} {ep i:Nat}
theorem RawAt.typeIs (x:RawAt s.heap d es ep):s.TypeIs (.ref d) "dict" := let ⟨o,ho,hc,_⟩:=x; ⟨o,ho,hc.1⟩
theorem RawAt.at' {h h':Heap} (x:RawAt h d es ep) (e:∀ o,h.get? d=some o->h'.get? d=some o):RawAt h' d es ep:=let ⟨o,ho,r⟩:=x; ⟨o,e _ ho,r⟩
theorem RawAt.lt {h:Heap} (x:RawAt h d es ep):d < h.objs.size:=let ⟨_,ho,_⟩:=x; Heap.lt_size ho
theorem raw_iter {Q:Value->Shared->Prop} (hd:(d == sysModules)=false) (hm:RawAt s.heap d es ep)
  (hQ:Q (.ref s.heap.objs.size) { s with heap:=s.heap.push { cls:=.type "dict_keyiterator", data:=.fields #[.ref d,.int 0 0,.int es.size 0,.int ep 0] } }):wpAny (model prog w) A (pyIter (.ref d)) Q E s:=by
 obtain ⟨o,ho,hc,hdat⟩:=id hm
 have hT:=hm.typeIs
 refine wpAny_pyIter_slot hT F.slot_dict_iter (wpAny_call_entry F.slot_dict_iter hT F.entry_dict_iter ?_ (F.args_dict_iter_1 _))
 unfold Builtin.«dict.__iter__»
 refine wpAny_bind ?_
 unfold Builtin.Dict.dictSlotNone
 refine wpAny_bind (wpAny_notOrdered_dict hT ?_)
 show wpAny _ _ (pure (Value.ref d)) _ _ s
 refine wpAny_pure ?_
 show wpAny _ _ (Builtin.Dict.showsAll d >>= _) _ _ s
 unfold Builtin.Dict.showsAll
 rw [if_neg (by rw [hd]; exact Bool.false_ne_true)]
 refine wpAny_bind (wpAny_pure ?_)
 refine wpAny_bind (wpAny_dictEntries ho hdat ?_)
 refine wpAny_bind (wpAny_dictEpoch ho hdat ?_)
 refine wpAny_bind (wpAny_newObj_type (wpAny_pure ⟨_,rfl,"dict_keyiterator", _,⟨_,Heap.get?_push_size _ rfl,rfl⟩,F.slot_dict_keyiterator_next.lookup,?_⟩))
 simpa [rawInt] using hQ
theorem raw_next {Q:Option Value->Shared->Prop} (hit:s.heap.IsKeyIter it d i es.size ep) (hm:RawAt s.heap d es ep) (hx:i < es.size)
  (hQ:∀ h',h'.IsKeyIter it d (i + 1) es.size ep->Heap.SameBut it s.heap h'->Q (some es[i].key) { s with heap:=h' }):wpAny (model prog w) A (pyNext (.ref it)) Q E s:=by
 obtain ⟨o,ho,hc,hd⟩:=id hit
 obtain ⟨od,hod,hcd,hdd⟩:=id hm
 unfold pyNext
 refine wpAny_bind (wpAny_attempt (wpAny_callSpecial?_slot (name:=Str.ofString "__next__") hit.typeIs F.slot_dict_keyiterator_next
  (wpAny_call_entry F.slot_dict_keyiterator_next hit.typeIs F.entry_dict_keyiterator_next ?_ (F.args_dict_keyiterator_next_1 _))))
 refine wpAny_bind (wpAny_pure ?_)
 refine wpAny_bind ?_
 refine wpAny_bind ?_
 first | refine wpAny_bind (wpAny_typeNameOfWhole_keyiter hit.typeIs (wpAny_pure ?_)) | refine wpAny_bind (wpAny_typeNameOf_keyiter hit.typeIs (wpAny_pure ?_))
 refine wpAny_bind (wpAny_fieldsOf ho hd ?_)
 have hown:Builtin.Dict_items.ownsTuple "dict_keyiterator"=false:=by decide
 simp only [hown,Bool.false_eq_true,if_false]
 show wpAny _ _ (if (Value.ref d == Value.none)=true then _ else _) _ _ s
 rw [if_neg (show ¬ ((Value.ref d == Value.none)=true) from Bool.false_ne_true)]
 refine wpAny_bind (wpAny_pure ?_)
 refine wpAny_bind (wpAny_dictEntries hod hdd ?_)
 rw [if_neg (by simp)]
 refine wpAny_bind (wpAny_pure ?_)
 refine wpAny_bind (wpAny_dictEpoch hod hdd ?_)
 rw [if_neg (by simp)]
 refine wpAny_pure ?_
 simp only [show ¬ ((i:Int) < 0) from by omega,if_false,Int.toNat_natCast,Array.getElem?_eq_getElem hx]
 refine wpAny_bind ?_
 first | refine wpAny_bind (wpAny_typeNameOfWhole_keyiter hit.typeIs (wpAny_pure ?_)) | refine wpAny_bind (wpAny_typeNameOf_keyiter hit.typeIs (wpAny_pure ?_))
 refine wpAny_bind (wpAny_isOneOf_keyiter hit.typeIs ?_)
 show wpAny _ _ (setField (.ref it) 1 (rawInt ((i:Int) + 1)) >>= _) _ _ s
 refine wpAny_bind (wpAny_setField ho hd (by simp) ?_)
 have hit':(s.heap.update it (Obj.mapFields (·.setIfInBounds 1 (rawInt ((i:Int) + 1))))).IsKeyIter it d (i + 1) es.size ep :=
  ⟨_,Heap.get?_update_self _ ho (Obj.isFreed_of_fields (Obj.data_mapFields hd _)),(Obj.cls_mapFields ..).trans hc,by rw [Obj.data_mapFields hd]; simp [rawInt]⟩
 refine wpAny_bind (wpAny_holding ?_)
 refine wpAny_bind (wpAny_isOneOf_keyiter (s:={ s with heap:=s.heap.update it (Obj.mapFields (·.setIfInBounds 1 (rawInt ((i:Int) + 1)))) }) hit'.typeIs ?_)
 show wpAny _ _ (pure es[i].key) _ _ _
 exact wpAny_pure (wpAny_pure ⟨_,rfl,wpAny_pure (hQ _ hit' (Heap.SameBut.update ..))⟩)
theorem raw_end {Q:Option Value->Shared->Prop} (hh:A.handled=none) (hit:s.heap.IsKeyIter it d i es.size ep) (hm:RawAt s.heap d es ep) (hx:es.size<=i)
  (hQ:∀ h',Heap.ExtBut it s.heap h'->Q none { s with heap:=h' }):wpAny (model prog w) A (pyNext (.ref it)) Q E s:=by
 obtain ⟨o,ho,hc,hd⟩:=id hit
 obtain ⟨od,hod,hcd,hdd⟩:=id hm
 unfold pyNext
 refine wpAny_bind (wpAny_attempt (wpAny_callSpecial?_slot (name:=Str.ofString "__next__") hit.typeIs F.slot_dict_keyiterator_next
  (wpAny_call_entry F.slot_dict_keyiterator_next hit.typeIs F.entry_dict_keyiterator_next ?_ (F.args_dict_keyiterator_next_1 _))))
 refine wpAny_bind (wpAny_pure ?_)
 refine wpAny_bind ?_
 refine wpAny_bind ?_
 first | refine wpAny_bind (wpAny_typeNameOfWhole_keyiter hit.typeIs (wpAny_pure ?_)) | refine wpAny_bind (wpAny_typeNameOf_keyiter hit.typeIs (wpAny_pure ?_))
 refine wpAny_bind (wpAny_fieldsOf ho hd ?_)
 have hown:Builtin.Dict_items.ownsTuple "dict_keyiterator"=false:=by decide
 simp only [hown,Bool.false_eq_true,if_false]
 show wpAny _ _ (if (Value.ref d == Value.none)=true then _ else _) _ _ s
 rw [if_neg (show ¬ ((Value.ref d == Value.none)=true) from Bool.false_ne_true)]
 refine wpAny_bind (wpAny_pure ?_)
 refine wpAny_bind (wpAny_dictEntries hod hdd ?_)
 rw [if_neg (by simp)]
 refine wpAny_bind (wpAny_pure ?_)
 refine wpAny_bind (wpAny_dictEpoch hod hdd ?_)
 rw [if_neg (by simp)]
 refine wpAny_pure ?_
 simp only [show ¬ ((i:Int) < 0) from by omega,if_false,Int.toNat_natCast,Array.getElem?_eq_none hx]
 refine wpAny_bind ?_
 first | refine wpAny_bind (wpAny_typeNameOfWhole_keyiter hit.typeIs (wpAny_pure ?_)) | refine wpAny_bind (wpAny_typeNameOf_keyiter hit.typeIs (wpAny_pure ?_))
 show wpAny _ _ (setField (.ref it) 0 .none >>= _) _ _ s
 refine wpAny_bind (wpAny_setField ho hd (by simp) ?_)
 show wpAny _ _ (newExc (.type "StopIteration") [] >>= _) _ _ _
 refine wpAny_bind ?_
 simp only [newExc,newTuple]
 refine wpAny_bind (wpAny_newObj_type ?_ (by size_fits))
 refine wpAny_bind (m:=firstArgMember _ _) (wpAny_of_eq (a:=Value.none) (by first | rfl | (simp only [firstArgMember]; rfl)) ?_)
 refine wpAny_newObj_type ?_ (by size_fits)
 simp only [raiseNew]
 refine wpAny_bind (wpAny_handled ?_)
 rw [show A.in1.handled=none from hh]
 refine wpAny_bind (wpAny_pure (wpAny_throw ?_))
 refine wpAny_bind (wpAny_isInstance (T := "StopIteration") (b:=true) ⟨_,Heap.get?_push_size _ rfl,rfl⟩ isSubtype_stop ?_)
 exact wpAny_pure (hQ _ (((Heap.SameBut.update ..).extBut.push _).push _))
theorem raw_walk (hh:A.handled=none) (hne:d≠it):Walks prog w A it [it,d] [it] es.size (fun i v=>∃ e,es[i]?=some e/\v=e.key) (fun i h=>h.IsKeyIter it d i es.size ep/\RawAt h d es ep) where
 sub:=fun b hb=>by simp at hb; simp [hb]
 frame:=fun _ _ _ st hk=>⟨st.1.at fun o e=>hk it (by simp) o e,st.2.at' fun o e=>hk d (by simp) o e⟩
 item:=fun i s Q E hi st hQ=>by
  refine raw_next st.1 st.2 hi fun h' hit' hs'=>?_
  exact hQ _ h' s.toks ⟨es[i],Array.getElem?_eq_getElem hi,rfl⟩ ⟨hit',st.2.at' fun o e=>(hs'.2 d hne).trans e⟩ fun b o hb e=>hs'.extBut b o (fun h=>hb (by simp [h])) e
 done:=fun s Q E st hQ=>raw_end hh st.1 st.2 (Nat.le_refl _) fun h' he'=>hQ h' s.toks fun b o hb e=>he' b o (fun h=>hb (by simp [h])) e
 self:=fun _ _ _ _ st hQ=>wpAny_pyIter_keyiter st.1 hQ
theorem raw_src (lo:(d == sysModules)=false):PySem.W.KdlSrc prog w "dict" d d es.size (fun i v=>∃ e,es[i]?=some e/\v=e.key) (fun h=>RawAt h d es ep) where
 type:=fun _ hm=>hm.typeIs
 there:=fun _ hm=>⟨hm.lt,hm.lt⟩
 keep:=fun _ _ hm hk=>hm.at' fun o e=>hk d (.inl rfl) o e
 notList:=by decide
 notTuple:=by decide
 hint:=fun _ _ _ _ hm hq=>PySem.W.kdl_hint_dict hm.typeIs hq
 iter:=fun _ _ hh hm=>⟨_,_,(fun _ _ hq=>raw_iter lo hm hq),raw_walk hh (Nat.ne_of_lt hm.lt),⟨⟨_,Heap.get?_push_size _ rfl,rfl,rfl⟩,hm.at' fun o e=>Heap.get?_push_of_some _ e⟩⟩
end
section
variable {X:Cx}
theorem call_list_dT (hc:X.calm=true):CallR X (.type "list") (fun xs H Q=>∃ (p:Addr) (kvs:List (List Key × V)),xs=[.ref p]/\H p=some (.dT kvs)/\∀ (l:Addr) (ts:List Addr),H l=none->Paired (fun t (kv:List Key × V)=>H t=some (.tup (kv.1.map kV))) ts kvs->Q (.ref l) (upd H l (.lst (ts.map V.ref)))):=by
 intro pins s σ H xs us Q I r h
 obtain ⟨p,kvs,rfl,hp,q⟩:=h
 obtain ⟨u,rfl,rx⟩:=vals1 r
 cases rx
 obtain ⟨hz,lo,ys,rv,o,es,ep,h1,h2,h3,h4,h5⟩:=(show ObjOk X.prog X.w H s.heap p (.dT kvs) from I.hok p _ hp)
 have hl:kvs.length=ys.length:=Paired.length rv
 have he:es.size=ys.length:=by rw [← Array.length_toList,h4,List.length_map]
 refine PySem.W.kdl_call (raw_src (es:=es) (ep:=ep) lo) (I.ok.hd hc) ⟨o,h1,h2,h3⟩ (by omega) fun h' tk acc c hk hS hacc=>?_
 have pt:Paired (fun t (kv:List Key × V)=>H t=some (.tup (kv.1.map kV))) (ys.map fun y=>y.2.1) kvs:=by
  clear h4 h5 he hl q hp hz
  induction rv with
  | nil=>exact .nil
  | cons a _ ih=>exact .cons a.2.1 ih
 refine ⟨.ref s.heap.objs.size,_,I.laid (o:=.lst ((ys.map fun y=>y.2.1).map V.ref)) hk (Nat.le_refl _) ?_,rfl,q _ _ (I.hok.fresh (Nat.le_refl _)) pt⟩
 refine ⟨by rw [List.length_map,List.length_map]; omega,acc.toList,c,?_,by simpa using hS⟩
 refine vals_get (by rw [List.length_map,List.length_map]; have:=hacc.1; simp; omega) fun j v hv=>?_
 obtain ⟨e,hx,rfl⟩:=hacc.2 j v (by rw [← Array.getElem?_toList]; exact hv)
 rw [← Array.getElem?_toList,h4,List.getElem?_map] at hx
 cases hy:ys[j]? with
 | none=>rw [hy] at hx; cases hx
 | some y =>
  rw [hy] at hx
  cases hx
  exact ⟨.ref y.2.1,by rw [List.getElem?_map,List.getElem?_map,hy]; rfl,rfl⟩
end
end L2
namespace L2
open PySem PySem.Spec PyProof.Rows
end L2
namespace Sen
open PySem L2 Bdd
def pk (p:Nat × Nat):List Key:=[iK p.1,iK p.2]
theorem pk_inj {p q:Nat × Nat} (h:pk p=pk q):p=q:=by
 unfold pk at h
 injection h with h1 h2
 injection h2 with h2 _
 have a:=Sum.inl.inj h1
 have b:=Sum.inl.inj h2
 exact Prod.ext (by omega) (by omega)
def kvP (ps:List (Nat × Nat)):List (List Key × V):=ps.map fun p=>(pk p,V.bl true)
def plm (n:Nat) (r1 r2:List Rm) (p:Nat × Nat):Nat:=min (lev n r1 p.1) (lev n r2 p.2)
def go2 (r1 r2:List Rm) (p:Nat × Nat) (t:Nat) (v:Bool):Nat × Nat:=(ledN r1 p.1 t v,ledN r2 p.2 t v)
structure Ordr (n:Nat) (r1 r2:List Rm) (ps:List (Nat × Nat)):Prop where
 rm:∀ p∈ps,p.1 < r1.length/\p.2 < r2.length
 go:∀ (i:Nat) (p:Nat × Nat),ps[i]?=some p->plm n r1 r2 p < n->∀ v,go2 r1 r2 p (plm n r1 r2 p) v∈ps.take i
theorem Ordr.nil {n:Nat} {r1 r2:List Rm}:Ordr n r1 r2 []:=⟨fun _ h=>(by cases h),fun i p h=>(by cases h)⟩
theorem Ordr.snoc {n:Nat} {r1 r2:List Rm} {ps:List (Nat × Nat)} {p:Nat × Nat} (o:Ordr n r1 r2 ps) (h1:p.1 < r1.length) (h2:p.2 < r2.length) (h:plm n r1 r2 p < n->∀ v,go2 r1 r2 p (plm n r1 r2 p) v∈ps):Ordr n r1 r2 (ps ++ [p]):=by
 refine ⟨fun q hq=>?_,fun i q hq hl v=>?_⟩
 ·rcases List.mem_append.mp hq with z | z
  ·exact o.rm q z
  ·rw [List.mem_singleton.mp z]; exact ⟨h1,h2⟩
 ·rcases Nat.lt_or_ge i ps.length with z | z
  ·rw [List.getElem?_append_left z] at hq
   rw [List.take_append_of_le_length (by omega)]
   exact o.go i q hq hl v
  ·have hi:=(List.getElem?_eq_some_iff.mp hq).1
   rw [List.length_append,List.length_singleton] at hi
   have ei:i=ps.length:=by omega
   subst ei
   rw [List.getElem?_append_right (Nat.le_refl _),Nat.sub_self] at hq
   cases hq
   rw [List.take_append_of_le_length (Nat.le_refl _),List.take_length]
   exact h hl v
theorem lev_led {n:Nat} {rs:List Rm} (B:Bk n rs) {k t:Nat} {v:Bool} (hk:k < rs.length) (ht:t<=lev n rs k) (tn:t < n):ledN rs k t v < rs.length/\t < lev n rs (ledN rs k t v):=by
 rcases Nat.lt_or_ge k 2 with z | z
 ·rw [ledN_low B (by omega)]
  refine ⟨hk,?_⟩
  have e:lev n rs k=n:=by
   rcases (by omega:k=0\/k=1) with e | e <;> subst e <;> unfold lev
   ·rw [B.h0]
   ·rw [B.h1]
  rw [e]; exact tn
 ·obtain ⟨i,lo,hi,ex,_,h1,h2,_,l1,l2⟩:=B.rm k z hk
  have e:lev n rs k=i:=lev_of B ex
  have el:ledN rs k t v=if i=t then (if v then hi else lo) else k:=by
   unfold ledN
   rw [ex]
  rw [el]
  by_cases c:i=t
  ·rw [if_pos c]
   cases v with
   | true=>rw [if_pos rfl]; exact ⟨by omega,by omega⟩
   | false=>rw [if_neg Bool.false_ne_true]; exact ⟨by omega,by omega⟩
  ·rw [if_neg c]; exact ⟨hk,by omega⟩
theorem plm_go {n:Nat} {r1 r2:List Rm} (B1:Bk n r1) (B2:Bk n r2) {p:Nat × Nat} {v:Bool} (h1:p.1 < r1.length) (h2:p.2 < r2.length) (h:plm n r1 r2 p < n) :
  (go2 r1 r2 p (plm n r1 r2 p) v).1 < r1.length/\(go2 r1 r2 p (plm n r1 r2 p) v).2 < r2.length/\plm n r1 r2 p < plm n r1 r2 (go2 r1 r2 p (plm n r1 r2 p) v):=by
 have a:=lev_led B1 (v:=v) h1 (show plm n r1 r2 p<=lev n r1 p.1 from Nat.min_le_left _ _) h
 have b:=lev_led B2 (v:=v) h2 (show plm n r1 r2 p<=lev n r2 p.2 from Nat.min_le_right _ _) h
 exact ⟨a.1,b.1,Nat.lt_min.mpr ⟨a.2,b.2⟩⟩
theorem valP {ps:List (Nat × Nat)} {p:Nat × Nat}:valV (kvP ps) (pk p)=if p∈ps then some (V.bl true) else none:=by
 induction ps with
 | nil=>rfl
 | cons q ps ih =>
  by_cases e:q=p
  ·rw [if_pos (by rw [e]; exact List.mem_cons_self)]
   exact valV_pos (by rw [e])
  ·show valV ((pk q,V.bl true) :: kvP ps) (pk p)=_
   rw [valV_neg (fun z=>e (pk_inj z)),ih]
   by_cases c:p∈ps
   ·rw [if_pos c,if_pos (List.mem_cons_of_mem _ c)]
   ·rw [if_neg c,if_neg fun z=>(List.mem_cons.mp z).elim (fun y=>e y.symm) c]
theorem putP {ps:List (Nat × Nat)} {p:Nat × Nat} (h:p ∉ ps):putK (kvP ps) (pk p) (V.bl true)=kvP (ps ++ [p]):=by
 rw [L2.putK_new _ (by rw [valP,if_neg h])]
 unfold kvP
 rw [List.map_append]
 rfl
def del (H:Hp) (d:Addr):Hp:=fun x=>if x=d then none else H x
theorem del_none {H:Hp} {d:Addr}:del H d d=none:=if_pos rfl
theorem del_some {H:Hp} {d x:Addr} {o:HO} (e:del H d x=some o):H x=some o:=by
 unfold del at e
 by_cases c:x=d
 ·rw [if_pos c] at e; cases e
 ·rw [if_neg c] at e; exact e
section
variable (C:Addr)
def PairP (H:Hp) (t:Addr) (p:Nat × Nat):Prop:=H t=some (.tup [.int (p.1:Nat),.int (p.2:Nat)])
end
end Sen
namespace L2
open PySem PySem.Spec PyProof.Rows
theorem ifs_or2T {σ:St} {H:Hp} {D:Ends} {i j:Nat} {a b c:Int} {A B:TS} {g:Int->Int->Bool} (ei:σ[i]?=some (some (.int a))) (ej:σ[j]?=some (some (.int b))) (h:g a c=true\/g b c=true) (hA:A D σ H) :
  tIfS (tOr (tTest (tOp (rI0 fun i j=>V.bl (g i j)) (tVar i) (tC (.int c)))) (tTest (tOp (rI0 fun i j=>V.bl (g i j)) (tVar j) (tC (.int c))))) A B D σ H:=by
 refine ⟨_,ei,a,c,rfl,rfl,g a c,rfl,?_⟩
 cases e:g a c with
 | true=>exact iteT (iteT hA)
 | false =>
  refine iteF ⟨_,ej,b,c,rfl,rfl,g b c,rfl,?_⟩
  rcases h with z | z
  ·rw [e] at z; cases z
  ·rw [z]; exact iteT hA
theorem ifs_or2F {σ:St} {H:Hp} {D:Ends} {i j:Nat} {a b c:Int} {A B:TS} {g:Int->Int->Bool} (ei:σ[i]?=some (some (.int a))) (ej:σ[j]?=some (some (.int b))) (h1:g a c=false) (h2:g b c=false) (hB:B D σ H) :
  tIfS (tOr (tTest (tOp (rI0 fun i j=>V.bl (g i j)) (tVar i) (tC (.int c)))) (tTest (tOp (rI0 fun i j=>V.bl (g i j)) (tVar j) (tC (.int c))))) A B D σ H:=by
 refine ⟨_,ei,a,c,rfl,rfl,g a c,rfl,?_⟩
 rw [h1]
 refine iteF ⟨_,ej,b,c,rfl,rfl,g b c,rfl,?_⟩
 rw [h2]
 exact iteF hB
end L2
namespace Bdd
end Bdd
namespace Sen
open PySem L2 Bdd
section
variable (n:Nat) (rs:List Rm) (c0 c1 c2 c3:Bool)
end
section
variable {n:Nat} {rs:List Rm} {c0 c1 c2 c3:Bool}
theorem yes_two (B:Bk n rs) {k:Nat} (h:k < 2) (r:Row):yes rs k r=(k == 1):=by
 rcases (by omega:k=0\/k=1) with e | e <;> subst e
 ·exact yes_no B r
 ·exact yes_yes B r
theorem room_by (B:Bk n rs) {m t l h:Nat} (hm:m < rs.length) (hl:l < rs.length) (hh:h < rs.length) (tn:t < n) (fl:t < lev n rs l) (fh:t < lev n rs h) (ne:l≠h) (y:∀ r,yes rs m r=if r t then yes rs h r else yes rs l r):rs[m]?=some (some (t,l,h)):=by
 have one:∀ {i j:Nat},i < rs.length->j < rs.length->(∀ r,yes rs i r=yes rs j r)->i=j:=fun {i j} a b e=>one_room B (max i j) i j ⟨Nat.le_max_left _ _,Nat.le_max_right _ _⟩ a b e
 have yl:∀ r,yes rs m (put r t false)=yes rs l r:=fun r=>by
  rw [y,if_neg (by unfold put; rw [if_pos rfl]; exact Bool.false_ne_true),yes_put B hl fl]
 have yh:∀ r,yes rs m (put r t true)=yes rs h r:=fun r=>by
  rw [y,if_pos (by unfold put; rw [if_pos rfl]),yes_put B hh fh]
 rcases Nat.lt_or_ge m 2 with z | z
 ·exfalso
  refine ne (one hl hh fun r=>?_)
  rw [← yl,← yh,yes_two B z,yes_two B z]
 ·obtain ⟨i,lo,hi,ex,hin,a1,a2,hne,l1,l2⟩:=B.rm m z hm
  have e1:∀ r v,i < t->yes rs m (put r i v)=yes rs m r:=fun r v it=>by
   rw [y,y,yes_put B hl (by omega),yes_put B hh (by omega)]
   unfold put
   rw [if_neg (show ¬ t=i by omega)]
  have ei:i=t:=by
   rcases Nat.lt_trichotomy i t with c | c | c
   ·exfalso
    refine hne (one (by omega) (by omega) fun r=>?_)
    have q:=yes_lo B ex hm r
    rw [← q.1,← q.2,e1 _ _ c,e1 _ _ c]
   ·exact c
   ·exfalso
    refine ne (one hl hh fun r=>?_)
    have lm:lev n rs m=i:=lev_of B ex
    rw [← yl,← yh,yes_put B hm (by omega),yes_put B hm (by omega)]
  subst ei
  have el:lo=l:=one (by omega) hl fun r=>by rw [← (yes_lo B ex hm r).1,yl]
  have eh:hi=h:=one (by omega) hh fun r=>by rw [← (yes_lo B ex hm r).2,yh]
  rw [ex,el,eh]
theorem const_room (B:Bk n rs) {m:Nat} {c:Bool} (h:Means rs m fun _=>c):m=c.toNat:=by
 have l2:=len2 B
 cases c with
 | false=>exact h.eq B (j:=0) ⟨by omega,fun r=>yes_no B r⟩ fun _=>rfl
 | true=>exact h.eq B (j:=1) ⟨by omega,fun r=>yes_yes B r⟩ fun _=>rfl
theorem dec_intN (m x:Nat):decide (V.int (m:Nat)=V.int (x:Nat))=decide (m=x):=by
 by_cases c:m=x
 ·rw [decide_eq_true c,decide_eq_true (by rw [c])]
 ·rw [decide_eq_false c,decide_eq_false fun z=>c (by injection z; omega)]
theorem nat_mod {c:Int} {n:Nat} (h:0 < n):∃ m:Nat,c % (n:Int)=(m:Int)/\m < n:=by
 have a:0<=c % (n:Int):=Int.emod_nonneg _ (by omega)
 have b:c % (n:Int) < n:=Int.emod_lt_of_pos _ (by omega)
 exact ⟨(c % (n:Int)).toNat,by omega,by omega⟩
end
section
variable (C:Addr) (K:PySem.W.Frag)
end
end Sen
namespace PySem
namespace F
theorem no_len_lri:typeLookup (.type "list_reverseiterator") "__len__"=pure none:=by rw [typeLookup_type,builtinLookup_eq_fast]; kernel_rfl
theorem hint_lri:typeLookup (.type "list_reverseiterator") "__length_hint__"=pure (some (.builtin "list_reverseiterator.__length_hint__")):=by rw [typeLookup_type,builtinLookup_eq_fast]; kernel_rfl
end F
end PySem
namespace L2
open PySem PySem.W PySem.Spec PyProof.Rows PySem.Calls PyProof.V
section
variable {prog:Program} {w:World} {A:Around} {E:Value->Shared->Prop} {s:Shared} {r l:Addr} {items:Array Value}
theorem rev_hint {Q:Bool->Shared->Prop} (hT:s.TypeIs (.ref r) "list_reverseiterator") (h:Q false s):wpAny (model prog w) A (Builtin.List.listLengthHint (.ref r)) Q E s:=by
 unfold Builtin.List.listLengthHint
 refine wpAny_bind (wpAny_specialOf hT PySem.F.no_len_lri ?_)
 refine wpAny_ite_split (fun hab=>absurd hab (by decide)) (fun _=>?_)
 refine wpAny_ite_split (fun hab=>absurd hab (by decide)) (fun _=>?_)
 refine wpAny_bind (wpAny_specialOf hT PySem.F.hint_lri ?_)
 generalize hid:("list_reverseiterator.__length_hint__" : String)=id0
 wp_delta
 rw [show splitId id0=some ("list_reverseiterator", "__length_hint__") from by subst hid; decide +kernel]
 subst hid
 refine wpAny_bind (wpAny_isInstance (T := "list_reverseiterator") (b:=true) hT (by rw [isSubtype_type]; kernel_rfl) ?_)
 refine wpAny_ite_split (fun hab=>absurd hab (by decide)) (fun _=>?_)
 refine wpAny_ite_split (fun _=>?_) (fun hab=>absurd (by decide +kernel) hab)
 refine wpAny_ite_split (fun hab=>absurd hab (by decide +kernel)) (fun _=>?_)
 exact wpAny_pure h
theorem rev_extend {R:Result->Shared->Prop} (hh:A.handled=none) (hne:l≠r) (hit:s.heap.IsRevIter r l ((items.size:Int) - 1)) (hl:s.heap.IsList l items) (S:Addr) (hSr:S≠r) (hSl:S≠l) (res:Value) (c₀:Nat) (hS:s.heap.get? S=some { cls:=.type "list", data:=.seq #[] c₀ })
  (hR:∀ h' tk acc' c',(∀ b o,b≠S->b≠r->s.heap.get? b=some o->h'.get? b=some o)->h'.get? S=some { cls:=.type "list", dict:=none,data:=.seq acc' c',slots:=#[] }->ItemsOf (fun i v=>items[items.size - 1 - i]?=some v) acc' items.size->R (.ok (.ret res)) { s with heap:=h',toks:=tk }) (hn:items.size<=sizeLine) :
  wpAny (model prog w) A.in1 (Builtin.List.listExtendWith (.ref S) (.ref r) res)
   (fun fin s'=>match fin with | .done f=>R (.ok f) s' | .again c'=>c'.quiet=true/\codeAny (model prog w) A c' R s') (fun e s'=>R (.error e) s') s:=by
 have hSf:S ∉ [r,l]:=by simp only [List.mem_cons,List.not_mem_nil,or_false,not_or]; exact ⟨hSr,hSl⟩
 have W:=Walks.listRev (prog:=prog) (w:=w) (A:=A.in1) hh r l hne items
 have st0:(0<=items.size/\s.heap.IsRevIter r l ((items.size:Int) - 1 - ((0:Nat):Int))/\s.heap.IsList l items):=⟨Nat.zero_le _,by rw [show (items.size:Int) - 1 - ((0:Nat):Int)=(items.size:Int) - 1 by omega]; exact hit,hl⟩
 unfold Builtin.List.listExtendWith
 refine wpAny_bind (wpAny_typeOf (T := "list_reverseiterator") hit.typeIs ?_)
 have h1:Builtin.List.listSameRef (.ref S) (.ref r)=false:=by simp [Builtin.List.listSameRef,hSr]
 have h2:(Value.type "list_reverseiterator" == Value.type "list")=false:=by decide
 have h3:(Value.type "list_reverseiterator" == Value.type "tuple")=false:=by decide
 simp only [h1,h2,h3,Bool.or_false,Bool.false_eq_true,if_false]
 refine wpAny_bind (wpAny_pyIter_revIter hit ?_)
 refine wpAny_bind (wpAny_holding (rev_hint hit.typeIs ?_))
 refine wpAny_ite_split (fun hab=>absurd hab Bool.false_ne_true) (fun _=>wpAny_pure ⟨plainId_quiet PySem.F.plain_extend_loop _,?_⟩)
 refine codeAny_extend_loopS W.toS hn S hSf res items.size 0 _ #[] c₀ rfl (Nat.zero_le _) st0 hS (ItemsOf.nil _) fun s' acc' c' hm hS' hacc=>?_
 rw [Moved.eq_with hm]
 refine hR s'.heap s'.toks acc' c' (fun b o hb hbr e=>hm.heap b o (fun hmem=>?_) e) hS' hacc
 rcases List.mem_cons.mp hmem with e' | hmem
 ·exact hb e'
 ·exact hbr (List.mem_singleton.mp hmem)
theorem rev_call {Q:Value->Shared->Prop} (hh:A.handled=none) (hne:l≠r) (hit:s.heap.IsRevIter r l ((items.size:Int) - 1)) (hl:s.heap.IsList l items) (hn:items.size<=sizeLine)
  (hQ:∀ h' tk acc' c',(∀ b o,b≠r->s.heap.get? b=some o->h'.get? b=some o)->h'.get? s.heap.objs.size=some { cls:=.type "list", dict:=none,data:=.seq acc' c',slots:=#[] }->ItemsOf (fun i v=>items[items.size - 1 - i]?=some v) acc' items.size->Q (.ref s.heap.objs.size) { s with heap:=h',toks:=tk }) :
  wpAny (model prog w) A (call (.type "list") [.ref r]) Q E s:=by
 refine callType_codes (Q₁:=fun obj s₁=>obj=.ref s.heap.objs.size/\s₁={ s with heap:=s.heap.push { cls:=.type "list", data:=.seq #[] } }) PySem.F.called_list (PySem.F.typeCall_list_1 _) PySem.F.entry_list_init
  (code_list_new _ ⟨rfl,rfl⟩) fun obj s₁ h₁=>?_
 obtain ⟨rfl,rfl⟩:=h₁
 have hS:(s.heap.push { cls:=.type "list", data:=.seq #[] }).get? s.heap.objs.size=some { cls:=.type "list", data:=.seq #[] }:=Heap.get?_push_size _ rfl
 obtain ⟨o1,ho1,_⟩:=id hit
 obtain ⟨o2,ho2,_⟩:=id hl
 have lr:r < s.heap.objs.size:=Heap.lt_size ho1
 have ll:l < s.heap.objs.size:=Heap.lt_size ho2
 refine ⟨⟨_,hS,rfl⟩,PySem.F.args_list_init_2 _ _,?_⟩
 show wpAny _ _ (do let old ← Builtin.List.listItems (.ref s.heap.objs.size); Builtin.List.listUpdate (.ref s.heap.objs.size) (fun _=>#[]); letGo old.toList.reverse; Builtin.List.listExtendWith (.ref s.heap.objs.size) (.ref r) .none) _ _ _
 refine wpAny_bind ?_
 unfold Builtin.List.listItems
 refine wpAny_bind (wpAny_seqItems hS rfl (wpAny_pure ?_))
 show wpAny _ _ (updateSeq s.heap.objs.size (fun _=>#[]) >>= fun _=>letGo (#[]:Array Value).toList.reverse >>= fun _=>Builtin.List.listExtendWith (.ref s.heap.objs.size) (.ref r) .none) _ _ _
 refine wpAny_bind (wpAny_updateSeq hS rfl ?_)
 have hS₂:=Heap.get?_update_self (Obj.mapSeq (fun _=>(#[]:Array Value))) hS rfl
 have oth:∀ b o,b≠s.heap.objs.size->s.heap.get? b=some o->((s.heap.push { cls:=.type "list", data:=.seq #[] }).update s.heap.objs.size (Obj.mapSeq (fun _=>(#[]:Array Value)))).get? b=some o :=
  fun b o hb e=>(Heap.get?_update_other _ _ (Ne.symm hb)).trans (Heap.get?_push_of_some _ e)
 refine wpAny_bind (wpAny_letGo ?_)
 refine rev_extend (A:=A.in1) hh hne (hit.at fun o e=>oth r o (Nat.ne_of_lt lr) e) (hl.at fun o e=>oth l o (Nat.ne_of_lt ll) e) s.heap.objs.size (Nat.ne_of_gt lr) (Nat.ne_of_gt ll) .none _ hS₂ (fun h' tk acc' c' hk hS' hacc=>?_) hn
 exact ⟨rfl,hQ h' tk acc' c' (fun b o hbr e=>hk b o (Nat.ne_of_lt (Heap.lt_size e)) hbr (oth b o (Nat.ne_of_lt (Heap.lt_size e)) e)) hS' hacc⟩
end
section
variable {X:Cx}
def tLRev (K:PySem.W.Frag) (ta:TA):TE:=fun σ H Q=>ta σ H fun vs H1=>∃ (a:Addr) (xs:List V),vs=[.ref a]/\SqL K H1 a xs/\∀ l,H1 l=none->Q (.ref l) (upd H1 l (.lst xs.reverse))
theorem pe_listRev {e:Expr} {ta:TA} {p p2 pos pos2:Pos} (hc:X.calm=true) (hg:Gl X "list") (hm:X.mg "list"=none) (hg2:Gl X "reversed") (hm2:X.mg "reversed"=none) (ha:PA X [e] ta)
  (hs:starEach [e] X.env=[(false,eval e X.env)]:=by rfl)
  (hs2:starEach [.Call (.Name "reversed" p2) [e] [] pos2] X.env=[(false,eval (.Call (.Name "reversed" p2) [e] [] pos2) X.env)]:=by rfl) :
  PE X (.Call (.Name "list" p) [.Call (.Name "reversed" p2) [e] [] pos2] [] pos) (tLRev X.K ta):=by
 intro pins s σ H Q I h
 refine wpAny_Call_Name_kw (ld_blt I hg hm bt_list ?_ (by decide) (by decide))
 refine PyProof.Rows.callWith_type1 ?_ hs2 rfl
 rw [hs2]
 show wpAny _ _ (spliced ((false,eval (.Call (.Name "reversed" p2) [e] [] pos2) X.env) :: [])) _ _ s
 refine Calls.spliced_cons ?_
 refine Call_ (ld_blt I hg2 hm2 (by rfl) (PyProof.Rows.callWith_type1 (thn (ha pos2 pins s σ H _ I h) fun us s1 ⟨vs,H1,I1,r1,q1⟩=>?_) hs rfl))
 obtain ⟨a,xs,e1,hq,q⟩:=q1
 subst e1
 obtain ⟨u,rfl,ru⟩:=vals1 r1
 cases ru
 obtain ⟨its,rv,pl,hz⟩:=I1.list hq
 have hlen:=rv.length
 refine call_reversed_list pl.isList (Calls.spliced_nil ?_)
 obtain ⟨oa,hoa,_⟩:=id pl.isList
 have la:a < s1.heap.objs.size:=Heap.lt_size hoa
 have es:(s1.heap.push (revObj a ((its.toArray.size:Int) - 1))).objs.size=s1.heap.objs.size + 1:=Heap.size_push ..
 refine rev_call (s:={ s1 with heap:=s1.heap.push (revObj a ((its.toArray.size:Int) - 1)) }) (l:=a) (items:=its.toArray) (I1.ok.hd hc) (Nat.ne_of_lt la) ⟨_,Heap.get?_push_size _ rfl,rfl,rfl⟩ (pl.isList.at fun o e=>Heap.get?_push_of_some _ e) (by rw [List.size_toArray]; omega) fun h' tk acc c kp hD hacc=>?_
 have kk:∀ b o,s1.heap.get? b=some o->h'.get? b=some o:=fun b o e=>kp b o (Nat.ne_of_lt (Heap.lt_size e)) (Heap.get?_push_of_some _ e)
 show EP X pins σ Q (.ref (s1.heap.push (revObj a ((its.toArray.size:Int) - 1))).objs.size) { s1 with heap:=h',toks:=tk }
 rw [es] at hD ⊢
 refine ⟨.ref (s1.heap.objs.size + 1),_,I1.laid (t':=tk) (o:=.lst xs.reverse) kk (Nat.le_succ _) ?_,rfl,q _ (I1.hok.fresh (Nat.le_succ _))⟩
 refine ⟨by rw [List.length_reverse]; exact hz,acc.toList,c,?_,by simpa using hD⟩
 have hsz:acc.size=xs.length:=by rw [hacc.1,List.size_toArray]; omega
 refine vals_get (by rw [List.length_reverse]; simp; omega) fun j v hv=>?_
 have hjl:j < xs.length:=by
  have:=(List.getElem?_eq_some_iff.mp hv).1
  rw [Array.length_toList] at this
  omega
 have hx:=hacc.2 j v (by rw [← Array.getElem?_toList]; exact hv)
 rw [List.size_toArray,List.getElem?_toArray] at hx
 obtain ⟨y,hy⟩:∃ y,xs[xs.length - 1 - j]?=some y:=⟨_,List.getElem?_eq_getElem (by omega)⟩
 obtain ⟨u2,hu2,ru2⟩:=rv.get hy
 rw [← hlen,hu2] at hx
 cases hx
 exact ⟨y,by rw [List.getElem?_reverse hjl]; exact hy,ru2⟩
end
end L2
namespace Sen
open PySem L2 Bdd
def Al (r1 r2:List Rm) (p:Nat × Nat):Prop:=∀ r,yes r1 p.1 r=yes r2 p.2 r
section
variable {n:Nat} {r1 r2:List Rm}
theorem yes_at_led {rs:List Rm} (B:Bk n rs) {k t:Nat} (hk:k < rs.length) (ht:t<=lev n rs k) (tn:t < n) (v:Bool) (r:Row):yes rs (ledN rs k t v) r=yes rs k (put r t v):=by
 have z:=(led_inv B (r:=put r t v) hk tn ht).2.2
 have e:put r t v t=v:=by unfold put; rw [if_pos rfl]
 rw [e] at z
 rw [← z]
 have l:=lev_led B (v:=v) hk ht tn
 exact (yes_put B l.1 l.2 r v).symm
theorem al_go (B1:Bk n r1) (B2:Bk n r2) {p:Nat × Nat} (h1:p.1 < r1.length) (h2:p.2 < r2.length) (h:plm n r1 r2 p < n) (a:Al r1 r2 p) (v:Bool):Al r1 r2 (go2 r1 r2 p (plm n r1 r2 p) v):=fun r=>by
 show yes r1 (ledN r1 p.1 (plm n r1 r2 p) v) r=yes r2 (ledN r2 p.2 (plm n r1 r2 p) v) r
 rw [yes_at_led B1 (t:=plm n r1 r2 p) h1 (Nat.min_le_left _ _) h,yes_at_led B2 (t:=plm n r1 r2 p) h2 (Nat.min_le_right _ _) h]
 exact a _
theorem lev_same (B1:Bk n r1) (B2:Bk n r2) {p:Nat × Nat} (h1:p.1 < r1.length) (h2:p.2 < r2.length) (a:Al r1 r2 p):lev n r1 p.1=lev n r2 p.2:=by
 have key:∀ {r1 r2:List Rm} (B1:Bk n r1) (B2:Bk n r2) {p:Nat × Nat},p.1 < r1.length->p.2 < r2.length->Al r1 r2 p->¬ lev n r1 p.1 < lev n r2 p.2:=fun {r1 r2} B1 B2 {p} h1 h2 a c=>by
  have l2:=lev_le B2 p.2 h2
  have z:=lev_gt B1 (p:=lev n r1 p.1) h1 (by omega) fun i hi r v=>by rw [a,a,yes_put B2 h2 (by omega)]
  omega
 have x:=key B1 B2 h1 h2 a
 have y:=key B2 B1 (p:=(p.2,p.1)) h2 h1 fun r=>(a r).symm
 dsimp only at y
 omega
def alkB (n:Nat) (r1 r2:List Rm) (ps:List (Nat × Nat)) (p:Nat × Nat):Bool :=
 if lev n r1 p.1=lev n r2 p.2 then (if p.1 < 2 then decide (p.1=p.2) else decide (go2 r1 r2 p (lev n r1 p.1) false∈ps) && decide (go2 r1 r2 p (lev n r1 p.1) true∈ps)) else false
def alkA (n:Nat) (r1 r2:List Rm) (ps:List (Nat × Nat)):Bool:=ps.all (alkB n r1 r2 ps)
theorem al_list (B1:Bk n r1) (B2:Bk n r2) {ps qs:List (Nat × Nat)} (od:Ordr n r1 r2 ps) (al:∀ p∈ps,Al r1 r2 p) (e:∀ p,p∈qs↔p∈ps):alkA n r1 r2 qs=true:=by
 refine List.all_eq_true.mpr fun p hq=>?_
 have hp:=(e p).mp hq
 obtain ⟨b1,b2⟩:=od.rm p hp
 have a:=al p hp
 have ls:=lev_same B1 B2 b1 b2 a
 unfold alkB
 rw [if_pos ls]
 by_cases t:p.1 < 2
 ·rw [if_pos t]
  refine decide_eq_true ?_
  have z:=const_room B2 (m:=p.2) (c:=p.1 == 1) ⟨b2,fun r=>by rw [← a r,yes_two B1 t]⟩
  rw [z]
  rcases (by omega:p.1=0\/p.1=1) with e | e <;> rw [e] <;> rfl
 ·rw [if_neg t]
  obtain ⟨i,hi⟩:=List.getElem?_of_mem hp
  have ln:lev n r1 p.1 < n:=by
   obtain ⟨j,lo,hi',ex,hin,_⟩:=B1.rm p.1 (by omega) b1
   rw [lev_of B1 ex]; exact hin
  have pe:plm n r1 r2 p=lev n r1 p.1:=by unfold plm; omega
  have z:=od.go i p hi (by omega)
  rw [pe] at z
  rw [decide_eq_true ((e _).mpr (List.mem_of_mem_take (z false))),decide_eq_true ((e _).mpr (List.mem_of_mem_take (z true)))]
  rfl
theorem alk_low (B1:Bk n r1) (B2:Bk n r2) {ps:List (Nat × Nat)} {p:Nat × Nat} (h1:p.1 < 2) (h2:p.2 < 2):alkB n r1 r2 ps p=decide (p.1=p.2):=by
 have key:∀ {rs:List Rm} (B:Bk n rs) {k:Nat},k < 2->lev n rs k=n:=fun {rs} B {k} hk=>by
  rcases (by omega:k=0\/k=1) with e | e <;> subst e
  ·exact lev_no B
  ·exact lev_yes B
 unfold alkB
 rw [key B1 h1,key B2 h2,if_pos rfl,if_pos h1]
theorem alk_rooms (B1:Bk n r1) (B2:Bk n r2) {ps:List (Nat × Nat)} {p:Nat × Nat} {i lo1 hi1 lo2 hi2:Nat} (e1:r1[p.1]?=some (some (i,lo1,hi1))) (e2:r2[p.2]?=some (some (i,lo2,hi2))):alkB n r1 r2 ps p=(decide ((lo1,lo2)∈ps) && decide ((hi1,hi2)∈ps)):=by
 have h2:¬ p.1 < 2:=fun z=>by
  rcases (by omega:p.1=0\/p.1=1) with e | e
  ·rw [e,B1.h0] at e1; cases e1
  ·rw [e,B1.h1] at e1; cases e1
 unfold alkB
 rw [lev_of B1 e1,lev_of B2 e2,if_pos rfl,if_neg h2]
 have g:∀ v,go2 r1 r2 p i v=if v then (hi1,hi2) else (lo1,lo2):=fun v=>by
  unfold go2 ledN
  rw [e1,e2]
  dsimp only
  rw [if_pos rfl,if_pos rfl]
  cases v <;> rfl
 rw [g,g]
 rfl
theorem alk_ne (B1:Bk n r1) (B2:Bk n r2) {ps:List (Nat × Nat)} {p:Nat × Nat} {i j:Nat} {x y:Nat × Nat} (e1:r1[p.1]?=some (some (i,x))) (e2:r2[p.2]?=some (some (j,y))) (h:i≠j):alkB n r1 r2 ps p=false:=by
 unfold alkB
 rw [lev_of B1 e1,lev_of B2 e2,if_neg h]
def KnB (kvs:List (List Key × V)) (ps:List (Nat × Nat)):Prop:=∀ q,(valV kvs (pk q)).isSome=decide (q∈ps)
theorem KnB.put {kvs:List (List Key × V)} {ps:List (Nat × Nat)} (h:KnB kvs ps) (p:Nat × Nat):KnB (putK kvs (pk p) (V.bl true)) (ps ++ [p]):=fun q=>by
 rw [valV_put]
 by_cases c:q=p
 ·rw [if_pos (by rw [c])]; exact (decide_eq_true (List.mem_append_right _ (List.mem_singleton.mpr c))).symm
 ·rw [if_neg fun z=>c (pk_inj z),h q]
  refine decide_eq_decide.mpr ⟨fun z=>List.mem_append_left _ z,fun z=>?_⟩
  rcases List.mem_append.mp z with y | y
  ·exact y
  ·exact absurd (List.mem_singleton.mp y) c
end
open Classical in
noncomputable def isPr (H:Hp) (p:Nat × Nat) (z:V):Bool:=decide (∃ t,z=V.ref t/\PairP H t p)
theorem isPr_eq {H:Hp} {p p':Nat × Nat} {t:Addr} (h:PairP H t p'):isPr H p (.ref t)=decide (p'=p):=by
 unfold isPr
 by_cases c:p'=p
 ·rw [decide_eq_true c]
  exact @decide_eq_true _ (Classical.propDecidable _) ⟨t,rfl,by rw [← c]; exact h⟩
 ·rw [decide_eq_false c]
  refine @decide_eq_false _ (Classical.propDecidable _) fun ⟨t',e,h'⟩=>c ?_
  cases e
  unfold PairP at h h'
  rw [h] at h'
  injection h' with h'
  injection h' with h'
  injection h' with a b
  injection a with a
  injection b with b _
  injection b with b
  exact Prod.ext (by omega) (by omega)
theorem eq_pairB {K:PySem.W.Frag} {H:Hp} {n:Nat} {t u:Addr} {p p':Nat × Nat} (h:PairP H t p) (h':PairP H u p'):EqD K H (n + 1) (.ref t) (.ref u) (decide (p=p')):=by
 have z:=EqD.tt (K:=K) (n:=n) (e:=fun j=>match j with | 0=>eqV (.int (p.1:Nat)) (.int (p'.1:Nat)) | _=>eqV (.int (p.2:Nat)) (.int (p'.2:Nat))) (SqT.of h) (SqT.of h') fun j a b ha hb=>by
  match j,ha,hb with
  | 0,ha,hb=>cases ha; cases hb; exact .flat rfl rfl
  | 1,ha,hb=>cases ha; cases hb; exact .flat rfl rfl
 have e:((List.range (min [V.int (p.1:Nat),V.int (p.2:Nat)].length [V.int (p'.1:Nat),V.int (p'.2:Nat)].length)).all (fun j=>match j with | 0=>eqV (.int (p.1:Nat)) (.int (p'.1:Nat)) | _=>eqV (.int (p.2:Nat)) (.int (p'.2:Nat))) && [V.int (p.1:Nat),V.int (p.2:Nat)].length == [V.int (p'.1:Nat),V.int (p'.2:Nat)].length)=decide (p=p'):=by
  show (((((p.1:Nat):Int) == ((p'.1:Nat):Int)) && ((((p.2:Nat):Int) == ((p'.2:Nat):Int)) && true)) && true)=decide (p=p')
  by_cases c:p=p'
  ·subst c; simp
  ·rw [decide_eq_false c]
   cases x:(((((p.1:Nat):Int) == ((p'.1:Nat):Int)) && ((((p.2:Nat):Int) == ((p'.2:Nat):Int)) && true)) && true) with
   | false=>rfl
   | true =>
    exfalso
    simp only [Bool.and_eq_true,beq_iff_eq,Bool.and_true] at x
    exact c (Prod.ext (by omega) (by omega))
 rw [e] at z
 exact z
theorem any_pr {H:Hp} {p:Nat × Nat}:∀ {ts:List Addr} {ps:List (Nat × Nat)},Paired (PairP H) ts ps->(ts.map V.ref).any (isPr H p)=decide (p∈ps)
 | _,_,.nil=>rfl
 | _,_,.cons h r=>by
  rw [List.map_cons,List.any_cons,isPr_eq h,any_pr r]
  rw [← Bool.decide_or]
  refine decide_eq_decide.mpr ⟨fun z=>?_,fun z=>?_⟩
  ·rcases z with z | z
   ·rw [z]; exact List.mem_cons_self
   ·exact List.mem_cons_of_mem _ z
  ·rcases List.mem_cons.mp z with y | y
   ·exact .inl y.symm
   ·exact .inr y
section
variable (C:Addr)
def spAddPairsA (m:Nat):Sp:=fun vs H Q _=>∃ (b1 b2 d:Addr) (os:List Str) (r1 r2:List Rm) (F1 F2:Foot) (p:Nat × Nat) (ps:List (Nat × Nat)) (H0:Hp),vs=[.ref b1,.int (p.1:Nat),.ref b2,.int (p.2:Nat),.ref d]/\BookAt C H0 b1 os r1 F1/\BookAt C H0 b2 os r2 F2/\Same H0 H/\H0 d=none/\H d=some (.dT (kvP ps))/\p.1 < r1.length/\p.2 < r2.length/\os.length < plm os.length r1 r2 p + m/\ps.length + 2 ^ m<=1000/\Ordr os.length r1 r2 ps /\
 ∀ (H':Hp) (qs:List (Nat × Nat)),Same H0 H'->H' d=some (.dT (kvP (ps ++ qs)))->Ordr os.length r1 r2 (ps ++ qs)->(∀ q∈qs,plm os.length r1 r2 p<=plm os.length r1 r2 q)->(Al r1 r2 p->∀ q∈qs,Al r1 r2 q)->qs.length < 2 ^ m->(p∈ps/\qs=[]\/∃ xs,qs=xs ++ [p])->Q .non H'
def spPairsFromA:Sp:=fun vs H Q _=>∃ (b1 b2:Addr) (os:List Str) (r1 r2:List Rm) (F1 F2:Foot) (p:Nat × Nat),vs=[.ref b1,.int (p.1:Nat),.ref b2,.int (p.2:Nat)]/\BookAt C H b1 os r1 F1/\BookAt C H b2 os r2 F2/\p.1 < r1.length/\p.2 < r2.length /\
 ∀ (H':Hp) (l:Addr) (ts:List Addr) (xs:List (Nat × Nat)),Same H H'->H l=none->H' l=some (.lst (ts.map V.ref))->Paired (PairP H') ts (xs ++ [p])->Ordr os.length r1 r2 (xs ++ [p])->(Al r1 r2 p->∀ q∈xs ++ [p],Al r1 r2 q)->xs.length < 512->Q (.ref l) H'
def spAlike (K:PySem.W.Frag):Sp:=fun vs H Q _=>∃ (b1 b2:Addr) (os:List Str) (r1 r2:List Rm) (F1 F2:Foot) (i j:Nat),vs=[.ref b1,.int (i:Nat),.ref b2,.int (j:Nat)]/\BookAt C H b1 os r1 F1/\BookAt C H b2 os r2 F2/\i < r1.length/\j < r2.length /\
 (∀ (H':Hp),Same H H'->¬ Al r1 r2 (i,j)->Q .non H') /\
 ∀ (H':Hp) (l:Addr) (ts:List Addr) (ps:List (Nat × Nat)),Same H H'->H l=none->H' l=some (.lst (ts.map V.ref))->Paired (PairP H') ts ps->(∀ p∈ps,p.1 < r1.length/\p.2 < r2.length)->(∀ p∈ps,Al r1 r2 p)->alkA os.length r1 r2 ps=true->ps.length<=512->ps.head?=some (i,j)->Al r1 r2 (i,j)->Q (.ref l) H'
def spIsAlikeBy:Sp:=fun vs H Q _=>∃ (b1 b2 d:Addr) (os:List Str) (r1 r2:List Rm) (F1 F2:Foot) (p:Nat × Nat) (kvs:List (List Key × V)) (ps:List (Nat × Nat)),vs=[.ref b1,.int (p.1:Nat),.ref b2,.int (p.2:Nat),.ref d]/\BookAt C H b1 os r1 F1/\BookAt C H b2 os r2 F2/\p.1 < r1.length/\p.2 < r2.length/\H d=some (.dT kvs)/\KnB kvs ps/\∀ H',Same H H'->Q (.bl (alkB os.length r1 r2 ps p)) H'
def spAreAlike (K:PySem.W.Frag):Sp:=fun vs H Q _=>∃ (b1 b2 l:Addr) (os:List Str) (r1 r2:List Rm) (F1 F2:Foot) (ts:List Addr) (ps:List (Nat × Nat)),vs=[.ref b1,.ref b2,.ref l]/\BookAt C H b1 os r1 F1/\BookAt C H b2 os r2 F2/\SqL K H l (ts.map V.ref)/\Paired (PairP H) ts ps/\(∀ p∈ps,p.1 < r1.length/\p.2 < r2.length)/\ps.length<=900/\∀ H',Same H H'->Q (.bl (alkA os.length r1 r2 ps)) H'
def spShows42 (K:PySem.W.Frag):Sp:=spAreAlike C K
def spFormed42:Sp:=fun vs H Q _=>∃ (l:Addr) (ts:List Addr) (ps:List (Nat × Nat)) (i j:Nat),vs=[.ref l,.int (i:Nat),.int (j:Nat)]/\H l=some (.lst (ts.map V.ref))/\Paired (PairP H) ts ps/\ps.head?=some (i,j)/\∀ H',Same H H'->Q (.bl true) H'
def spTurn42:Sp:=fun vs H Q _=>∃ (l:Addr) (c:Int) (s1 s2:Nat) (ts:List Addr) (ws:List (Nat × Nat)) (H0:Hp),vs=[.ref l,.int c,.int (s1:Nat),.int (s2:Nat)]/\0 < s1/\0 < s2/\Same H0 H/\H0 l=none/\H l=some (.lst (ts.map V.ref))/\Paired (PairP H) ts ws/\(∀ w∈ws,w.1 < s1/\w.2 < s2)/\ws.length<=800/\∀ (H':Hp) (ts':List Addr) (ws':List (Nat × Nat)),Same H0 H'->(∀ x o,H x=some o->x≠l->H' x=some o)->H' l=some (.lst (ts'.map V.ref))->Paired (PairP H') ts' ws'->(∀ w∈ws',w.1 < s1/\w.2 < s2)->ws'.length<=ws.length + 1->Q .non H'
def spForged42 (K:PySem.W.Frag):Sp:=fun vs H Q _=>∃ (b1 b2 ol:Addr) (os:List Str) (rs1 rs2:List Rm) (F1 F2:Foot) (H0:Hp),vs=[.ref b1,.ref b2,.ref ol]/\TwoB C H0 H b1 b2 os 800002 rs1 F1 rs2 F2/\SqL K H0 ol (os.map V.str)/\2<=os.length/\∀ H',Q (.bl true) H'
end
end Sen
namespace K42
open PySem L2
def top (i:Nat):Stmt:=PySem.Challenge.pw_decidebook_k42_pairs_that_show_one_meani.main.body.getD i (.Pass ⟨0,0,0,0⟩)
abbrev zx4:Stmt:=top 8
abbrev zw1:Stmt:=top 9
abbrev zy9:Stmt:=top 10
abbrev zz:Stmt:=top 11
abbrev zx5:Stmt:=top 12
abbrev zs3:Stmt:=top 13
abbrev zq1:Stmt:=top 14
abbrev zw2:Stmt:=top 15
abbrev zz0:Stmt:=top 21
abbrev zo4:Stmt:=top 22
abbrev zu0:Stmt:=top 23
abbrev zx6:Stmt:=top 24
abbrev zq2:Stmt:=top 25
abbrev zg:Stmt:=top 26
abbrev zi0:Stmt:=top 27
abbrev zo5:Stmt:=top 28
abbrev zj4:Stmt:=top 29
abbrev zn4:Stmt:=top 30
abbrev zl3:Stmt:=top 31
abbrev zw3:Stmt:=top 32
abbrev zu1:Stmt:=top 33
abbrev zo6:Stmt:=top 34
abbrev zq3:Stmt:=top 35
abbrev zg5:Stmt:=top 37
abbrev zB9:Stmt:=top 38
abbrev zC:Stmt:=top 39
abbrev zu2:Stmt:=top 40
abbrev zw4:Stmt:=top 41
abbrev zg6:Stmt:=top 42
abbrev zi1:Stmt:=top 43
abbrev zw5:Stmt:=inClass (top 45) 0
abbrev zu3:Stmt:=inClass (top 45) 1
abbrev zw6:Stmt:=inClass (top 45) 2
abbrev zu4:Stmt:=inClass (top 45) 3
abbrev zw7:Stmt:=inClass (top 45) 4
abbrev zj:Stmt:=inClass (top 45) 7
abbrev zo7:Stmt:=inClass (top 45) 8
abbrev zu5:Stmt:=inClass (top 45) 9
abbrev zx7:Stmt:=inClass (top 45) 10
abbrev zo8:Stmt:=inClass (top 45) 11
abbrev zn5:Stmt:=inClass (top 45) 12
abbrev zo9:Stmt:=top 47
abbrev zs4:Stmt:=top 48
abbrev zu6:Stmt:=top 49
abbrev zs5:Stmt:=top 50
abbrev zl4:Stmt:=top 51
abbrev zb9:Stmt:=top 52
abbrev zi2:Stmt:=top 53
abbrev zs6:Stmt:=top 54
abbrev zd8:Stmt:=top 55
abbrev zs7:Stmt:=top 56
abbrev zs8:Stmt:=top 57
abbrev zq4:Stmt:=top 58
abbrev zu7:Stmt:=top 59
abbrev zb8:Stmt:=top 60
abbrev zB3:Stmt:=top 61
theorem zE1:FnScope ["marks"] ["marks"] (defScope zx4):=⟨rfl,rfl,rfl,by decide +kernel,rfl,by decide +kernel,by decide +kernel⟩
theorem zj5:FnScope ["place", "marks", "half", "table", "further"] ["place", "marks"] (defScope zw1):=⟨rfl,rfl,rfl,by decide +kernel,rfl,by decide +kernel,by decide +kernel⟩
theorem zx8:FnScope ["table", "place", "marks", "ones", "noughts"] ["table", "place", "marks"] (defScope zy9):=⟨rfl,rfl,rfl,by decide +kernel,rfl,by decide +kernel,by decide +kernel⟩
theorem zx9:FnScope ["table", "place", "value", "marks", "ones", "kept"] ["table", "place", "value", "marks"] (defScope zz):=⟨rfl,rfl,rfl,by decide +kernel,rfl,by decide +kernel,by decide +kernel⟩
theorem zE2:FnScope ["table", "place", "marks"] ["table", "place", "marks"] (defScope zx5):=⟨rfl,rfl,rfl,by decide +kernel,rfl,by decide +kernel,by decide +kernel⟩
theorem zq5:FnScope ["table", "marks", "place"] ["table", "marks"] (defScope zs3):=⟨rfl,rfl,rfl,by decide +kernel,rfl,by decide +kernel,by decide +kernel⟩
theorem zc8:FnScope ["table", "places", "marks", "values", "place", "low", "value"] ["table", "places", "marks"] (defScope zq1):=⟨rfl,rfl,rfl,by decide +kernel,rfl,by decide +kernel,by decide +kernel⟩
theorem zD4:FnScope ["table", "marks"] ["table", "marks"] (defScope zw2):=⟨rfl,rfl,rfl,by decide +kernel,rfl,by decide +kernel,by decide +kernel⟩
theorem zE9:FnScope ["letter"] ["letter"] (defScope zz0):=⟨rfl,rfl,rfl,by decide +kernel,rfl,by decide +kernel,by decide +kernel⟩
theorem zE3:FnScope ["order"] ["order"] (defScope zo4):=⟨rfl,rfl,rfl,by decide +kernel,rfl,by decide +kernel,by decide +kernel⟩
theorem zC7:FnScope ["sentence"] ["sentence"] (defScope zu0):=⟨rfl,rfl,rfl,by decide +kernel,rfl,by decide +kernel,by decide +kernel⟩
theorem zE4:FnScope ["sentence"] ["sentence"] (defScope zx6):=⟨rfl,rfl,rfl,by decide +kernel,rfl,by decide +kernel,by decide +kernel⟩
theorem zp:FnScope ["level", "found", "sentence"] ["level"] (defScope zq2):=⟨rfl,rfl,rfl,by decide +kernel,rfl,by decide +kernel,by decide +kernel⟩
theorem zz1:FnScope ["some", "shape"] ["some"] (defScope zg):=⟨rfl,rfl,rfl,by decide +kernel,rfl,by decide +kernel,by decide +kernel⟩
theorem zc0:FnScope ["some", "level", "deep", "tuples"] ["some"] (defScope zi0):=⟨rfl,rfl,rfl,by decide +kernel,rfl,by decide +kernel,by decide +kernel⟩
theorem zA9:FnScope ["order"] ["order"] (defScope zo5):=⟨rfl,rfl,rfl,by decide +kernel,rfl,by decide +kernel,by decide +kernel⟩
theorem zy7:FnScope ["some"] ["some"] (defScope zj4):=⟨rfl,rfl,rfl,by decide +kernel,rfl,by decide +kernel,by decide +kernel⟩
theorem zA1:FnScope ["order", "letter"] ["order", "letter"] (defScope zn4):=⟨rfl,rfl,rfl,by decide +kernel,rfl,by decide +kernel,by decide +kernel⟩
theorem zs2:FnScope ["order", "sentence", "letter"] ["order", "sentence"] (defScope zl3):=⟨rfl,rfl,rfl,by decide +kernel,rfl,by decide +kernel,by decide +kernel⟩
theorem zp0:FnScope ["sentence", "found", "level"] ["sentence"] (defScope zw3):=⟨rfl,rfl,rfl,by decide +kernel,rfl,by decide +kernel,by decide +kernel⟩
theorem zs9:FnScope ["sentence", "found", "part"] ["sentence"] (defScope zu1):=⟨rfl,rfl,rfl,by decide +kernel,rfl,by decide +kernel,by decide +kernel⟩
theorem zr0:FnScope ["sentence", "order", "word", "marks", "tables"] ["sentence", "order"] (defScope zo6):=⟨rfl,rfl,rfl,by decide +kernel,rfl,by decide +kernel,by decide +kernel⟩
theorem zB4:FnScope ["word", "one", "other", "every"] ["word", "one", "other", "every"] (defScope zq3):=⟨rfl,rfl,rfl,by decide +kernel,rfl,by decide +kernel,by decide +kernel⟩
theorem zw8:FnScope ["book", "two"] ["book", "two"] (defScope zg5):=⟨rfl,rfl,rfl,by decide +kernel,rfl,by decide +kernel,by decide +kernel⟩
theorem zD5:FnScope ["book", "one", "two", "other", "parting"] ["book", "one", "two", "other"] (defScope zB9):=⟨rfl,rfl,rfl,by decide +kernel,rfl,by decide +kernel,by decide +kernel⟩
theorem zF3:FnScope ["book", "one", "two", "other"] ["book", "one", "two", "other"] (defScope zC):=⟨rfl,rfl,rfl,by decide +kernel,rfl,by decide +kernel,by decide +kernel⟩
theorem zy3:FnScope ["book", "one", "two", "other", "found"] ["book", "one", "two", "other"] (defScope zu2):=⟨rfl,rfl,rfl,by decide +kernel,rfl,by decide +kernel,by decide +kernel⟩
theorem zu8:FnScope ["book", "one", "two", "other", "found", "place", "value"] ["book", "one", "two", "other", "found"] (defScope zw4):=⟨rfl,rfl,rfl,by decide +kernel,rfl,by decide +kernel,by decide +kernel⟩
theorem zj1:FnScope ["book", "two", "pairs", "known", "one", "other"] ["book", "two", "pairs"] (defScope zg6):=⟨rfl,rfl,rfl,by decide +kernel,rfl,by decide +kernel,by decide +kernel⟩
theorem zC0:FnScope ["book", "one", "two", "other", "known"] ["book", "one", "two", "other", "known"] (defScope zi1):=⟨rfl,rfl,rfl,by decide +kernel,rfl,by decide +kernel,by decide +kernel⟩
theorem zz2:FnScope ["self", "order", "marks"] ["self", "order"] (defScope zw5):=⟨rfl,rfl,rfl,by decide +kernel,rfl,by decide +kernel,by decide +kernel⟩
theorem zC8:FnScope ["self"] ["self"] (defScope zu3):=⟨rfl,rfl,rfl,by decide +kernel,rfl,by decide +kernel,by decide +kernel⟩
theorem zD6:FnScope ["self"] ["self"] (defScope zw6):=⟨rfl,rfl,rfl,by decide +kernel,rfl,by decide +kernel,by decide +kernel⟩
theorem zC9:FnScope ["self", "sentence"] ["self", "sentence"] (defScope zu4):=⟨rfl,rfl,rfl,by decide +kernel,rfl,by decide +kernel,by decide +kernel⟩
theorem zD7:FnScope ["self", "number"] ["self", "number"] (defScope zw7):=⟨rfl,rfl,rfl,by decide +kernel,rfl,by decide +kernel,by decide +kernel⟩
theorem zy:FnScope ["self", "number"] ["self", "number"] (defScope zj):=⟨rfl,rfl,rfl,by decide +kernel,rfl,by decide +kernel,by decide +kernel⟩
theorem zB:FnScope ["self", "number"] ["self", "number"] (defScope zo7):=⟨rfl,rfl,rfl,by decide +kernel,rfl,by decide +kernel,by decide +kernel⟩
theorem zD:FnScope ["self", "number", "value"] ["self", "number", "value"] (defScope zu5):=⟨rfl,rfl,rfl,by decide +kernel,rfl,by decide +kernel,by decide +kernel⟩
theorem zE5:FnScope ["self", "number", "place", "value"] ["self", "number", "place", "value"] (defScope zx7):=⟨rfl,rfl,rfl,by decide +kernel,rfl,by decide +kernel,by decide +kernel⟩
theorem zB0:FnScope ["self", "number"] ["self", "number"] (defScope zo8):=⟨rfl,rfl,rfl,by decide +kernel,rfl,by decide +kernel,by decide +kernel⟩
theorem zd0:FnScope ["self", "table", "marks", "place", "low", "high"] ["self", "table"] (defScope zn5):=⟨rfl,rfl,rfl,by decide +kernel,rfl,by decide +kernel,by decide +kernel⟩
theorem zu9:FnScope ["script", "k"] ["script", "k"] (defScope zo9):=⟨rfl,rfl,rfl,by decide +kernel,rfl,by decide +kernel,by decide +kernel⟩
theorem zC1:FnScope ["found"] ["found"] (defScope zs4):=⟨rfl,rfl,rfl,by decide +kernel,rfl,by decide +kernel,by decide +kernel⟩
theorem ze7:FnScope ["cell", "k", "bound", "stir", "left", "j"] ["cell", "k", "bound"] (defScope zu6):=⟨rfl,rfl,rfl,by decide +kernel,rfl,by decide +kernel,by decide +kernel⟩
theorem zq6:FnScope ["cell", "limit", "found", "k"] ["cell", "limit"] (defScope zs5):=⟨rfl,rfl,rfl,by decide +kernel,rfl,by decide +kernel,by decide +kernel⟩
theorem zj6:FnScope ["cell", "found", "k"] ["cell"] (defScope zl4):=⟨rfl,rfl,rfl,by decide +kernel,rfl,by decide +kernel,by decide +kernel⟩
theorem za2:FnScope ["script", "at", "many", "order", "kinds", "made", "k", "cell", "kind", "one", "other", "letter"] ["script", "at", "many", "order"] (defScope zb9):=⟨rfl,rfl,rfl,by decide +kernel,rfl,by decide +kernel,by decide +kernel⟩
theorem zC2:FnScope ["sentence"] ["sentence"] (defScope zi2):=⟨rfl,rfl,rfl,by decide +kernel,rfl,by decide +kernel,by decide +kernel⟩
theorem zx3:FnScope ["script", "at", "many", "order", "some"] ["script", "at", "many", "order"] (defScope zs6):=⟨rfl,rfl,rfl,by decide +kernel,rfl,by decide +kernel,by decide +kernel⟩
theorem zm0:FnScope ["many", "rows", "k"] ["many"] (defScope zd8):=⟨rfl,rfl,rfl,by decide +kernel,rfl,by decide +kernel,by decide +kernel⟩
theorem zc1:FnScope ["sentence", "order", "row", "word", "one", "other", "values", "value", "turned_row"] ["sentence", "order", "row"] (defScope zs7):=⟨rfl,rfl,rfl,by decide +kernel,rfl,by decide +kernel,by decide +kernel⟩
theorem zg7:FnScope ["book", "two", "pairs", "left", "right", "one", "other"] ["book", "two", "pairs"] (defScope zs8):=⟨rfl,rfl,rfl,by decide +kernel,rfl,by decide +kernel,by decide +kernel⟩
theorem zv7:FnScope ["found", "first", "second", "pair"] ["found", "first", "second"] (defScope zq4):=⟨rfl,rfl,rfl,by decide +kernel,rfl,by decide +kernel,by decide +kernel⟩
theorem zy4:FnScope ["pairs", "cell", "one", "two", "at"] ["pairs", "cell", "one", "two"] (defScope zu7):=⟨rfl,rfl,rfl,by decide +kernel,rfl,by decide +kernel,by decide +kernel⟩
theorem za9:FnScope ["book", "two", "order", "left", "right", "other", "turned_room", "told"] ["book", "two", "order"] (defScope zb8):=⟨rfl,rfl,rfl,by decide +kernel,rfl,by decide +kernel,by decide +kernel⟩
theorem zb4:FnScope ["script", "order", "one", "other", "book", "two", "second", "first", "rows", "same", "sizes", "pairs", "turn", "handed", "told", "found"] ["script"] (defScope zB3):=⟨rfl,rfl,rfl,by decide +kernel,rfl,by decide +kernel,by decide +kernel⟩
def tb_SHAPES:List (Str × Int × Int):=[("yes", 0,0),("no", 0,0),("mark", 1,0),("not", 0,1),("and", 0,2),("or", 0,2),("either", 0,2),("if", 0,2),("some", 1,1),("each", 1,1)]
theorem ln_0 {α : Type} {us : List α} (h : us.length=0) : us=[] := List.length_eq_zero_iff.mp h
theorem ln_s {α : Type} {us : List α} {n : Nat} (h : us.length=n + 1) : ∃ a vs, us=a :: vs /\ vs.length=n := by
  cases us with
  | nil => cases h
  | cons a vs => exact ⟨a, vs, rfl, by simpa using h⟩
theorem ln_1 {α : Type} {us : List α} (h : us.length=1) : ∃ a, us=[a] := by
  obtain ⟨a, v, e, h⟩ := ln_s h
  rw [e, ln_0 h]
  exact ⟨a, rfl⟩
theorem ln_2 {α : Type} {us : List α} (h : us.length=2) : ∃ a b, us=[a, b] := by
  obtain ⟨a, v, e, h⟩ := ln_s h
  obtain ⟨b, e2⟩ := ln_1 h
  exact ⟨a, b, by rw [e, e2]⟩
theorem ln_3 {α : Type} {us : List α} (h : us.length=3) : ∃ a b c, us=[a, b, c] := by
  obtain ⟨a, v, e, h⟩ := ln_s h
  obtain ⟨b, c, e2⟩ := ln_2 h
  exact ⟨a, b, c, by rw [e, e2]⟩
theorem ln_4 {α : Type} {us : List α} (h : us.length=4) : ∃ a b c d, us=[a, b, c, d] := by
  obtain ⟨a, v, e, h⟩ := ln_s h
  obtain ⟨b, c, d, e2⟩ := ln_3 h
  exact ⟨a, b, c, d, by rw [e, e2]⟩
theorem ln_5 {α : Type} {us : List α} (h : us.length=5) : ∃ a b c d f, us=[a, b, c, d, f] := by
  obtain ⟨a, v, e, h⟩ := ln_s h
  obtain ⟨b, c, d, f, e2⟩ := ln_4 h
  exact ⟨a, b, c, d, f, by rw [e, e2]⟩
theorem ln_6 {α : Type} {us : List α} (h : us.length=6) : ∃ a b c d f g, us=[a, b, c, d, f, g] := by
  obtain ⟨a, v, e, h⟩ := ln_s h
  obtain ⟨b, c, d, f, g, e2⟩ := ln_5 h
  exact ⟨a, b, c, d, f, g, by rw [e, e2]⟩
set_option genInjectivity false in
set_option genSizeOf false in
structure Ad where
 zh5:Addr
 zh6:FuncData
 zd2:Addr
 zd3:FuncData
 zj7:Addr
 zj8:FuncData
 zn8:Addr
 zn9:FuncData
 zt6:Addr
 zt7:FuncData
 zi3:Addr
 zi4:FuncData
 zk5:Addr
 zk6:FuncData
 zr1:Addr
 zr2:FuncData
 zo:Addr
 zo0:FuncData
 zt8:Addr
 zt9:FuncData
 zg8:Addr
 zg9:FuncData
 zf2:Addr
 zf3:FuncData
 zh:Addr
 zh0:FuncData
 zr3:Addr
 zr4:FuncData
 zm1:Addr
 zm2:FuncData
 zj2:Addr
 zj3:FuncData
 zf4:Addr
 zf5:FuncData
 zd9:Addr
 ze:FuncData
 zg1:Addr
 zg2:FuncData
 zr5:Addr
 zr6:FuncData
 zp1:Addr
 zp2:FuncData
 zk7:Addr
 zk8:FuncData
 zd5:Addr
 zd6:FuncData
 zb5:Addr
 zb6:FuncData
 zz8:Addr
 zz9:FuncData
 zA:Addr
 zA0:FuncData
 zp3:Addr
 zp4:FuncData
 zi8:Addr
 zi9:FuncData
 zh1:Addr
 zh2:FuncData
 zm3:Addr
 zm4:FuncData
 zl7:Addr
 zr7:FuncData
 zc5:Addr
 zc6:FuncData
 zl8:Addr
 zl9:FuncData
 zj9:Addr
 zk:FuncData
 zr8:Addr
 zr9:FuncData
 za4:Addr
 za5:FuncData
 za7:Addr
 za8:FuncData
 ze0:Addr
 ze1:FuncData
 zp5:Addr
 zp6:FuncData
 zf6:Addr
 zf7:FuncData
 zc2:Addr
 zc3:FuncData
 zb0:Addr
 zb1:FuncData
 zi5:Addr
 zi6:FuncData
 ze2:Addr
 ze3:FuncData
 zm5:Addr
 zm6:FuncData
 zg3:Addr
 zg4:FuncData
 zh7:Addr
 zh8:FuncData
 ze8:Addr
 ze9:FuncData
 zm7:Addr
 zm8:FuncData
 zk0:Addr
 zk1:FuncData
 zf:Addr
 zf0:FuncData
 zm9:Addr
 zn:FuncData
 zk9:Addr
 zl0:FuncData
 zk2:Addr
 zk3:FuncData
 ze5:Addr
 ze6:FuncData
 zD3:Addr
 zB5:FuncData
 za:Addr
 zo1:Addr
 t_MOST_TUPLES:Tok
 t_MOST_DEEP:Tok
 zg0:Addr
 kv_SHAPES:List (Str × Value)
structure Txt (P:Program) (w:World) (K:PySem.W.Frag) (mg:Str->Option Value) (a:Ad):Prop where
 zh9:Fun K "all_rows" "all_rows" zx4 a.zh5 a.zh6
 b_all_rows:Binds K a.zh6 ["marks"] []
 m_all_rows:mg "all_rows"=some (.ref a.zh5)
 zm:Fun K "rows_with" "rows_with" zw1 a.zd2 a.zd3
 b_rows_with:Binds K a.zd3 ["place", "marks"] []
 m_rows_with:mg "rows_with"=some (.ref a.zd2)
 zo2:Fun K "flipped" "flipped" zy9 a.zj7 a.zj8
 b_flipped:Binds K a.zj8 ["table", "place", "marks"] []
 m_flipped:mg "flipped"=some (.ref a.zj7)
 zo3:Fun K "held_at" "held_at" zz a.zn8 a.zn9
 b_held_at:Binds K a.zn9 ["table", "place", "value", "marks"] []
 m_held_at:mg "held_at"=some (.ref a.zn8)
 zy0:Fun K "hangs_on" "hangs_on" zx5 a.zt6 a.zt7
 b_hangs_on:Binds K a.zt7 ["table", "place", "marks"] []
 m_hangs_on:mg "hangs_on"=some (.ref a.zt6)
 zt:Fun K "first_place" "first_place" zs3 a.zi3 a.zi4
 b_first_place:Binds K a.zi4 ["table", "marks"] []
 m_first_place:mg "first_place"=some (.ref a.zi3)
 zq7:Fun K "first_values" "first_values" zq1 a.zk5 a.zk6
 b_first_values:Binds K a.zk6 ["table", "places", "marks"] []
 m_first_values:mg "first_values"=some (.ref a.zk5)
 zw9:Fun K "first_row" "first_row" zw2 a.zr1 a.zr2
 b_first_row:Binds K a.zr2 ["table", "marks"] []
 m_first_row:mg "first_row"=some (.ref a.zr1)
 zv8:Fun K "is_mark" "is_mark" zz0 a.zo a.zo0
 b_is_mark:Binds K a.zo0 ["letter"] []
 m_is_mark:mg "is_mark"=some (.ref a.zo)
 zy1:Fun K "is_order" "is_order" zo4 a.zt8 a.zt9
 b_is_order:Binds K a.zt9 ["order"] []
 m_is_order:mg "is_order"=some (.ref a.zt8)
 zp7:Fun K "letters_of" "letters_of" zu0 a.zg8 a.zg9
 b_letters_of:Binds K a.zg9 ["sentence"] []
 m_letters_of:mg "letters_of"=some (.ref a.zg8)
 zp8:Fun K "parts_of" "parts_of" zx6 a.zf2 a.zf3
 b_parts_of:Binds K a.zf3 ["sentence"] []
 m_parts_of:mg "parts_of"=some (.ref a.zf2)
 zl1:Fun K "parts_of_all" "parts_of_all" zq2 a.zh a.zh0
 b_parts_of_all:Binds K a.zh0 ["level"] []
 m_parts_of_all:mg "parts_of_all"=some (.ref a.zh)
 zx:Fun K "is_shaped" "is_shaped" zg a.zr3 a.zr4
 b_is_shaped:Binds K a.zr4 ["some"] []
 m_is_shaped:mg "is_shaped"=some (.ref a.zr3)
 zt0:Fun K "is_sentence" "is_sentence" zi0 a.zm1 a.zm2
 b_is_sentence:Binds K a.zm2 ["some"] []
 m_is_sentence:mg "is_sentence"=some (.ref a.zm1)
 zp9:Fun K "must_be_order" "must_be_order" zo5 a.zj2 a.zj3
 b_must_be_order:Binds K a.zj3 ["order"] []
 m_must_be_order:mg "must_be_order"=some (.ref a.zj2)
 zk4:Fun K "must_be_sentence" "must_be_sentence" zj4 a.zf4 a.zf5
 b_must_be_sentence:Binds K a.zf5 ["some"] []
 m_must_be_sentence:mg "must_be_sentence"=some (.ref a.zf4)
 zn6:Fun K "must_have_mark" "must_have_mark" zn4 a.zd9 a.ze
 b_must_have_mark:Binds K a.ze ["order", "letter"] []
 m_must_have_mark:mg "must_have_mark"=some (.ref a.zd9)
 zl5:Fun K "must_have_marks" "must_have_marks" zl3 a.zg1 a.zg2
 b_must_have_marks:Binds K a.zg2 ["order", "sentence"] []
 m_must_have_marks:mg "must_have_marks"=some (.ref a.zg1)
 zx0:Fun K "tuples_in" "tuples_in" zw3 a.zr5 a.zr6
 b_tuples_in:Binds K a.zr6 ["sentence"] []
 m_tuples_in:mg "tuples_in"=some (.ref a.zr5)
 zv0:Fun K "letters_in" "letters_in" zu1 a.zp1 a.zp2
 b_letters_in:Binds K a.zp2 ["sentence"] []
 m_letters_in:mg "letters_in"=some (.ref a.zp1)
 zu:Fun K "table_of" "table_of" zo6 a.zk7 a.zk8
 b_table_of:Binds K a.zk8 ["sentence", "order"] []
 m_table_of:mg "table_of"=some (.ref a.zk7)
 zq8:Fun K "table_of_two" "table_of_two" zq3 a.zd5 a.zd6
 b_table_of_two:Binds K a.zd6 ["word", "one", "other", "every"] []
 m_table_of_two:mg "table_of_two"=some (.ref a.zd5)
 zc9:Fun K "must_have_one_order" "must_have_one_order" zg5 a.zb5 a.zb6
 b_must_have_one_order:Binds K a.zb6 ["book", "two"] []
 m_must_have_one_order:mg "must_have_one_order"=some (.ref a.zb5)
 zC3:Fun K "apart" "apart" zB9 a.zz8 a.zz9
 b_apart:Binds K a.zz9 ["book", "one", "two", "other"] []
 m_apart:mg "apart"=some (.ref a.zz8)
 zC4:Fun K "alike" "alike" zC a.zA a.zA0
 b_alike:Binds K a.zA0 ["book", "one", "two", "other"] []
 m_alike:mg "alike"=some (.ref a.zA)
 zv1:Fun K "pairs_from" "pairs_from" zu2 a.zp3 a.zp4
 b_pairs_from:Binds K a.zp4 ["book", "one", "two", "other"] []
 m_pairs_from:mg "pairs_from"=some (.ref a.zp3)
 zs0:Fun K "add_pairs" "add_pairs" zw4 a.zi8 a.zi9
 b_add_pairs:Binds K a.zi9 ["book", "one", "two", "other", "found"] []
 m_add_pairs:mg "add_pairs"=some (.ref a.zi8)
 zc4:Fun K "are_alike_by" "are_alike_by" zg6 a.zh1 a.zh2
 b_are_alike_by:Binds K a.zh2 ["book", "two", "pairs"] []
 m_are_alike_by:mg "are_alike_by"=some (.ref a.zh1)
 zt1:Fun K "is_alike_by" "is_alike_by" zi1 a.zm3 a.zm4
 b_is_alike_by:Binds K a.zm4 ["book", "one", "two", "other", "known"] []
 m_is_alike_by:mg "is_alike_by"=some (.ref a.zm3)
 zA4:Fun K "__init__" "Book.__init__" zw5 a.zl7 a.zr7
 b_Book_init:Binds K a.zr7 ["self", "order"] []
 e_Book_init:Meth K a.za "__init__" a.zl7
 zz3:Fun K "order" "Book.order" zu3 a.zc5 a.zc6
 b_Book_order:Binds K a.zc6 ["self"] []
 e_Book_order:Meth K a.za "order" a.zc5
 zA5:Fun K "size" "Book.size" zw6 a.zl8 a.zl9
 b_Book_size:Binds K a.zl9 ["self"] []
 e_Book_size:Meth K a.za "size" a.zl8
 zz4:Fun K "enter" "Book.enter" zu4 a.zj9 a.zk
 b_Book_enter:Binds K a.zk ["self", "sentence"] []
 e_Book_enter:Meth K a.za "enter" a.zj9
 zA6:Fun K "room" "Book.room" zw7 a.zr8 a.zr9
 b_Book_room:Binds K a.zr9 ["self", "number"] []
 e_Book_room:Meth K a.za "room" a.zr8
 zq0:Fun K "must_be_room" "Book.must_be_room" zj a.za4 a.za5
 b_Book_must_be_room:Binds K a.za5 ["self", "number"] []
 e_Book_must_be_room:Meth K a.za "must_be_room" a.za4
 zv9:Fun K "place_of" "Book.place_of" zo7 a.za7 a.za8
 b_Book_place_of:Binds K a.za8 ["self", "number"] []
 e_Book_place_of:Meth K a.za "place_of" a.za7
 zz5:Fun K "going" "Book.going" zu5 a.ze0 a.ze1
 b_Book_going:Binds K a.ze1 ["self", "number", "value"] []
 e_Book_going:Meth K a.za "going" a.ze0
 zB6:Fun K "led" "Book.led" zx7 a.zp5 a.zp6
 b_Book_led:Binds K a.zp6 ["self", "number", "place", "value"] []
 e_Book_led:Meth K a.za "led" a.zp5
 zw:Fun K "table_at" "Book.table_at" zo8 a.zf6 a.zf7
 b_Book_table_at:Binds K a.zf7 ["self", "number"] []
 e_Book_table_at:Meth K a.za "table_at" a.zf6
 zv2:Fun K "room_with" "Book.room_with" zn5 a.zc2 a.zc3
 b_Book_room_with:Binds K a.zc3 ["self", "table"] []
 e_Book_room_with:Meth K a.za "room_with" a.zc2
 za0:Fun K "_law_cell_at" "_law_cell_at" zo9 a.zb0 a.zb1
 b_x_law_cell_at:Binds K a.zb1 ["script", "k"] []
 m_x_law_cell_at:mg "_law_cell_at"=some (.ref a.zb0)
 zn0:Fun K "_law_whole" "_law_whole" zs4 a.zi5 a.zi6
 b_x_law_whole:Binds K a.zi6 ["found"] []
 m_x_law_whole:mg "_law_whole"=some (.ref a.zi5)
 zb2:Fun K "_law_draw" "_law_draw" zu6 a.ze2 a.ze3
 b_x_law_draw:Binds K a.ze3 ["cell", "k", "bound"] []
 m_x_law_draw:mg "_law_draw"=some (.ref a.ze2)
 zt2:Fun K "_law_order" "_law_order" zs5 a.zm5 a.zm6
 b_x_law_order:Binds K a.zm6 ["cell", "limit"] []
 m_x_law_order:mg "_law_order"=some (.ref a.zm5)
 zl6:Fun K "_law_any_order" "_law_any_order" zl4 a.zg3 a.zg4
 b_x_law_any_order:Binds K a.zg4 ["cell"] []
 m_x_law_any_order:mg "_law_any_order"=some (.ref a.zg3)
 zn7:Fun K "_law_sentence" "_law_sentence" zb9 a.zh7 a.zh8
 b_x_law_sentence:Binds K a.zh8 ["script", "at", "many", "order"] []
 m_x_law_sentence:mg "_law_sentence"=some (.ref a.zh7)
 zn1:Fun K "_law_count" "_law_count" zi2 a.ze8 a.ze9
 b_x_law_count:Binds K a.ze9 ["sentence"] []
 m_x_law_count:mg "_law_count"=some (.ref a.ze8)
 zi7:Fun K "_law_short" "_law_short" zs6 a.zm7 a.zm8
 b_x_law_short:Binds K a.zm8 ["script", "at", "many", "order"] []
 m_x_law_short:mg "_law_short"=some (.ref a.zm7)
 zv3:Fun K "_law_rows" "_law_rows" zd8 a.zk0 a.zk1
 b_x_law_rows:Binds K a.zk1 ["many"] []
 m_x_law_rows:mg "_law_rows"=some (.ref a.zk0)
 zd:Fun K "_law_value" "_law_value" zs7 a.zf a.zf0
 b_x_law_value:Binds K a.zf0 ["sentence", "order", "row"] []
 m_x_law_value:mg "_law_value"=some (.ref a.zf)
 zn2:Fun K "_law_shows" "_law_shows" zs8 a.zm9 a.zn
 b_x_law_shows:Binds K a.zn ["book", "two", "pairs"] []
 m_x_law_shows:mg "_law_shows"=some (.ref a.zm9)
 zq9:Fun K "_law_formed" "_law_formed" zq4 a.zk9 a.zl0
 b_x_law_formed:Binds K a.zl0 ["found", "first", "second"] []
 m_x_law_formed:mg "_law_formed"=some (.ref a.zk9)
 zv4:Fun K "_law_turn" "_law_turn" zu7 a.zk2 a.zk3
 b_x_law_turn:Binds K a.zk3 ["pairs", "cell", "one", "two"] []
 m_x_law_turn:mg "_law_turn"=some (.ref a.zk2)
 zj0:Fun K "_law_forged_told" "_law_forged_told" zb8 a.ze5 a.ze6
 b_x_law_forged_told:Binds K a.ze6 ["book", "two", "order"] []
 m_x_law_forged_told:mg "_law_forged_told"=some (.ref a.ze5)
 zF4:Fun K "law" "law" zB3 a.zD3 a.zB5
 b_law:Binds K a.zB5 ["script"] []
 m_law:mg "law"=some (.ref a.zD3)
 c_Book:Cls K a.za
 m_Book:mg "Book"=some (.ref a.za)
 mk_Book:Mk K a.za a.zl7
 na_Book_marks:NoAttr K a.za "marks"
 na_Book_rooms:NoAttr K a.za "rooms"
 na_Book_tables:NoAttr K a.za "tables"
 na_Book_numbers:NoAttr K a.za "numbers"
 x_law:∀ (s:Shared) (u:Value),BindsTo s a.zB5 ⟨[u],[]⟩ [("script", u)]
 m_MARKS:mg "MARKS"=some (.ref a.zo1)
 q_MARKS:∀ H,SqT K H a.zo1 ((["a", "b", "c", "d", "e", "f", "g", "h"]:List Str).map V.str)
 m_MOST_TUPLES:mg "MOST_TUPLES"=some (.int 200 a.t_MOST_TUPLES)
 m_MOST_DEEP:mg "MOST_DEEP"=some (.int 24 a.t_MOST_DEEP)
 m_SHAPES:mg "SHAPES"=some (.ref a.zg0)
 zv5:DicK K P w a.zg0 a.kv_SHAPES
 y_SHAPES:∀ k m n,(k,m,n)∈tb_SHAPES->∃ p,valueAt a.kv_SHAPES k=some (.ref p)/\∀ H,SqT K H p [.int m,.int n]
 z_SHAPES:∀ k,(∀ e∈tb_SHAPES,e.1≠k)->valueAt a.kv_SHAPES k=none
 n_all:mg "all"=none
 n_bool:mg "bool"=none
 n_int:mg "int"=none
 n_isinstance:mg "isinstance"=none
 n_len:mg "len"=none
 n_list:mg "list"=none
 n_min:mg "min"=none
 n_range:mg "range"=none
 n_reversed:mg "reversed"=none
 n_set:mg "set"=none
 n_sorted:mg "sorted"=none
 n_str:mg "str"=none
 n_sum:mg "sum"=none
 n_tuple:mg "tuple"=none
theorem txt_mk {P:Program} {w:World} {K:PySem.W.Frag} {h:Heap} {mg:Str->Option Value} (X:K.In h) (G:h.Ns mainGlobals mg)
  {p_Book:Addr}
  {f0 f1 f2 f3 f4 f5 f6 f7 f8 f9 f10 f11 f12 f13 f14 f15 f16 f17 f18 f19 f20 f21 f22 f23 f24 f25 f26 f27 f28 f29 f30 f31 f32 f33 f34 f35 f36 f37 f38 f39 f40 f41 f42 f43 f44 f45 f46 f47 f48 f49 f50 f51 f52 f53 f54 f55:Addr} {d0 d1 d2 d3 d4 d5 d6 d7 d8 d9 d10 d11 d12 d13 d14 d15 d16 d17 d18 d19 d20 d21 d22 d23 d24 d25 d26 d27 d28 d29 d30 d31 d32 d33 d34 d35 d36 d37 d38 d39 d40 d41 d42 d43 d44 d45 d46 d47 d48 d49 d50 d51 d52 d53 d54 d55:FuncData}
  {p_MARKS:Addr}
  {od_MARKS:Option Addr} {it_MARKS:Array Value} {n_MARKS:Nat} {sl_MARKS:Array (Option Value)}
  {t_MOST_TUPLES:Tok}
  {t_MOST_DEEP:Tok}
  {p_SHAPES:Addr}
  {es_SHAPES:Array DictEntry} {ep_SHAPES:Nat}
  {tSHAPES_0:Tok} {pSHAPES_0:Addr} {odSHAPES_0:Option Addr} {itSHAPES_0:Array Value} {nSHAPES_0:Nat} {slSHAPES_0:Array (Option Value)}
  {tSHAPES_1:Tok} {pSHAPES_1:Addr} {odSHAPES_1:Option Addr} {itSHAPES_1:Array Value} {nSHAPES_1:Nat} {slSHAPES_1:Array (Option Value)}
  {tSHAPES_2:Tok} {pSHAPES_2:Addr} {odSHAPES_2:Option Addr} {itSHAPES_2:Array Value} {nSHAPES_2:Nat} {slSHAPES_2:Array (Option Value)}
  {tSHAPES_3:Tok} {pSHAPES_3:Addr} {odSHAPES_3:Option Addr} {itSHAPES_3:Array Value} {nSHAPES_3:Nat} {slSHAPES_3:Array (Option Value)}
  {tSHAPES_4:Tok} {pSHAPES_4:Addr} {odSHAPES_4:Option Addr} {itSHAPES_4:Array Value} {nSHAPES_4:Nat} {slSHAPES_4:Array (Option Value)}
  {tSHAPES_5:Tok} {pSHAPES_5:Addr} {odSHAPES_5:Option Addr} {itSHAPES_5:Array Value} {nSHAPES_5:Nat} {slSHAPES_5:Array (Option Value)}
  {tSHAPES_6:Tok} {pSHAPES_6:Addr} {odSHAPES_6:Option Addr} {itSHAPES_6:Array Value} {nSHAPES_6:Nat} {slSHAPES_6:Array (Option Value)}
  {tSHAPES_7:Tok} {pSHAPES_7:Addr} {odSHAPES_7:Option Addr} {itSHAPES_7:Array Value} {nSHAPES_7:Nat} {slSHAPES_7:Array (Option Value)}
  {tSHAPES_8:Tok} {pSHAPES_8:Addr} {odSHAPES_8:Option Addr} {itSHAPES_8:Array Value} {nSHAPES_8:Nat} {slSHAPES_8:Array (Option Value)}
  {tSHAPES_9:Tok} {pSHAPES_9:Addr} {odSHAPES_9:Option Addr} {itSHAPES_9:Array Value} {nSHAPES_9:Nat} {slSHAPES_9:Array (Option Value)}
  (za:PySem.W.nsIn K mainGlobals "Book"=some (some (.ref p_Book)))
  (a0:PySem.W.nsIn K mainGlobals "all_rows"=some (some (.ref f0)))
  (F0:Fun K "all_rows" "all_rows" zx4 f0 d0)
  (a1:PySem.W.nsIn K mainGlobals "rows_with"=some (some (.ref f1)))
  (F1:Fun K "rows_with" "rows_with" zw1 f1 d1)
  (a2:PySem.W.nsIn K mainGlobals "flipped"=some (some (.ref f2)))
  (F2:Fun K "flipped" "flipped" zy9 f2 d2)
  (a3:PySem.W.nsIn K mainGlobals "held_at"=some (some (.ref f3)))
  (F3:Fun K "held_at" "held_at" zz f3 d3)
  (a4:PySem.W.nsIn K mainGlobals "hangs_on"=some (some (.ref f4)))
  (F4:Fun K "hangs_on" "hangs_on" zx5 f4 d4)
  (a5:PySem.W.nsIn K mainGlobals "first_place"=some (some (.ref f5)))
  (F5:Fun K "first_place" "first_place" zs3 f5 d5)
  (a6:PySem.W.nsIn K mainGlobals "first_values"=some (some (.ref f6)))
  (F6:Fun K "first_values" "first_values" zq1 f6 d6)
  (a7:PySem.W.nsIn K mainGlobals "first_row"=some (some (.ref f7)))
  (F7:Fun K "first_row" "first_row" zw2 f7 d7)
  (a8:PySem.W.nsIn K mainGlobals "is_mark"=some (some (.ref f8)))
  (F8:Fun K "is_mark" "is_mark" zz0 f8 d8)
  (a9:PySem.W.nsIn K mainGlobals "is_order"=some (some (.ref f9)))
  (F9:Fun K "is_order" "is_order" zo4 f9 d9)
  (a10:PySem.W.nsIn K mainGlobals "letters_of"=some (some (.ref f10)))
  (F10:Fun K "letters_of" "letters_of" zu0 f10 d10)
  (a11:PySem.W.nsIn K mainGlobals "parts_of"=some (some (.ref f11)))
  (F11:Fun K "parts_of" "parts_of" zx6 f11 d11)
  (a12:PySem.W.nsIn K mainGlobals "parts_of_all"=some (some (.ref f12)))
  (F12:Fun K "parts_of_all" "parts_of_all" zq2 f12 d12)
  (a13:PySem.W.nsIn K mainGlobals "is_shaped"=some (some (.ref f13)))
  (F13:Fun K "is_shaped" "is_shaped" zg f13 d13)
  (a14:PySem.W.nsIn K mainGlobals "is_sentence"=some (some (.ref f14)))
  (F14:Fun K "is_sentence" "is_sentence" zi0 f14 d14)
  (a15:PySem.W.nsIn K mainGlobals "must_be_order"=some (some (.ref f15)))
  (F15:Fun K "must_be_order" "must_be_order" zo5 f15 d15)
  (a16:PySem.W.nsIn K mainGlobals "must_be_sentence"=some (some (.ref f16)))
  (F16:Fun K "must_be_sentence" "must_be_sentence" zj4 f16 d16)
  (a17:PySem.W.nsIn K mainGlobals "must_have_mark"=some (some (.ref f17)))
  (F17:Fun K "must_have_mark" "must_have_mark" zn4 f17 d17)
  (a18:PySem.W.nsIn K mainGlobals "must_have_marks"=some (some (.ref f18)))
  (F18:Fun K "must_have_marks" "must_have_marks" zl3 f18 d18)
  (a19:PySem.W.nsIn K mainGlobals "tuples_in"=some (some (.ref f19)))
  (F19:Fun K "tuples_in" "tuples_in" zw3 f19 d19)
  (a20:PySem.W.nsIn K mainGlobals "letters_in"=some (some (.ref f20)))
  (F20:Fun K "letters_in" "letters_in" zu1 f20 d20)
  (a21:PySem.W.nsIn K mainGlobals "table_of"=some (some (.ref f21)))
  (F21:Fun K "table_of" "table_of" zo6 f21 d21)
  (a22:PySem.W.nsIn K mainGlobals "table_of_two"=some (some (.ref f22)))
  (F22:Fun K "table_of_two" "table_of_two" zq3 f22 d22)
  (a23:PySem.W.nsIn K mainGlobals "must_have_one_order"=some (some (.ref f23)))
  (F23:Fun K "must_have_one_order" "must_have_one_order" zg5 f23 d23)
  (a24:PySem.W.nsIn K mainGlobals "apart"=some (some (.ref f24)))
  (F24:Fun K "apart" "apart" zB9 f24 d24)
  (a25:PySem.W.nsIn K mainGlobals "alike"=some (some (.ref f25)))
  (F25:Fun K "alike" "alike" zC f25 d25)
  (a26:PySem.W.nsIn K mainGlobals "pairs_from"=some (some (.ref f26)))
  (F26:Fun K "pairs_from" "pairs_from" zu2 f26 d26)
  (a27:PySem.W.nsIn K mainGlobals "add_pairs"=some (some (.ref f27)))
  (F27:Fun K "add_pairs" "add_pairs" zw4 f27 d27)
  (a28:PySem.W.nsIn K mainGlobals "are_alike_by"=some (some (.ref f28)))
  (F28:Fun K "are_alike_by" "are_alike_by" zg6 f28 d28)
  (a29:PySem.W.nsIn K mainGlobals "is_alike_by"=some (some (.ref f29)))
  (F29:Fun K "is_alike_by" "is_alike_by" zi1 f29 d29)
  (a30:PySem.W.findIn K (.ref p_Book) "__init__"=some (some (.ref f30)))
  (i30:PySem.W.isFn K (.ref f30)=true)
  (F30:Fun K "__init__" "Book.__init__" zw5 f30 d30)
  (a31:PySem.W.findIn K (.ref p_Book) "order"=some (some (.ref f31)))
  (i31:PySem.W.isFn K (.ref f31)=true)
  (F31:Fun K "order" "Book.order" zu3 f31 d31)
  (a32:PySem.W.findIn K (.ref p_Book) "size"=some (some (.ref f32)))
  (i32:PySem.W.isFn K (.ref f32)=true)
  (F32:Fun K "size" "Book.size" zw6 f32 d32)
  (a33:PySem.W.findIn K (.ref p_Book) "enter"=some (some (.ref f33)))
  (i33:PySem.W.isFn K (.ref f33)=true)
  (F33:Fun K "enter" "Book.enter" zu4 f33 d33)
  (a34:PySem.W.findIn K (.ref p_Book) "room"=some (some (.ref f34)))
  (i34:PySem.W.isFn K (.ref f34)=true)
  (F34:Fun K "room" "Book.room" zw7 f34 d34)
  (a35:PySem.W.findIn K (.ref p_Book) "must_be_room"=some (some (.ref f35)))
  (i35:PySem.W.isFn K (.ref f35)=true)
  (F35:Fun K "must_be_room" "Book.must_be_room" zj f35 d35)
  (a36:PySem.W.findIn K (.ref p_Book) "place_of"=some (some (.ref f36)))
  (i36:PySem.W.isFn K (.ref f36)=true)
  (F36:Fun K "place_of" "Book.place_of" zo7 f36 d36)
  (a37:PySem.W.findIn K (.ref p_Book) "going"=some (some (.ref f37)))
  (i37:PySem.W.isFn K (.ref f37)=true)
  (F37:Fun K "going" "Book.going" zu5 f37 d37)
  (a38:PySem.W.findIn K (.ref p_Book) "led"=some (some (.ref f38)))
  (i38:PySem.W.isFn K (.ref f38)=true)
  (F38:Fun K "led" "Book.led" zx7 f38 d38)
  (a39:PySem.W.findIn K (.ref p_Book) "table_at"=some (some (.ref f39)))
  (i39:PySem.W.isFn K (.ref f39)=true)
  (F39:Fun K "table_at" "Book.table_at" zo8 f39 d39)
  (a40:PySem.W.findIn K (.ref p_Book) "room_with"=some (some (.ref f40)))
  (i40:PySem.W.isFn K (.ref f40)=true)
  (F40:Fun K "room_with" "Book.room_with" zn5 f40 d40)
  (a41:PySem.W.nsIn K mainGlobals "_law_cell_at"=some (some (.ref f41)))
  (F41:Fun K "_law_cell_at" "_law_cell_at" zo9 f41 d41)
  (a42:PySem.W.nsIn K mainGlobals "_law_whole"=some (some (.ref f42)))
  (F42:Fun K "_law_whole" "_law_whole" zs4 f42 d42)
  (a43:PySem.W.nsIn K mainGlobals "_law_draw"=some (some (.ref f43)))
  (F43:Fun K "_law_draw" "_law_draw" zu6 f43 d43)
  (a44:PySem.W.nsIn K mainGlobals "_law_order"=some (some (.ref f44)))
  (F44:Fun K "_law_order" "_law_order" zs5 f44 d44)
  (a45:PySem.W.nsIn K mainGlobals "_law_any_order"=some (some (.ref f45)))
  (F45:Fun K "_law_any_order" "_law_any_order" zl4 f45 d45)
  (a46:PySem.W.nsIn K mainGlobals "_law_sentence"=some (some (.ref f46)))
  (F46:Fun K "_law_sentence" "_law_sentence" zb9 f46 d46)
  (a47:PySem.W.nsIn K mainGlobals "_law_count"=some (some (.ref f47)))
  (F47:Fun K "_law_count" "_law_count" zi2 f47 d47)
  (a48:PySem.W.nsIn K mainGlobals "_law_short"=some (some (.ref f48)))
  (F48:Fun K "_law_short" "_law_short" zs6 f48 d48)
  (a49:PySem.W.nsIn K mainGlobals "_law_rows"=some (some (.ref f49)))
  (F49:Fun K "_law_rows" "_law_rows" zd8 f49 d49)
  (a50:PySem.W.nsIn K mainGlobals "_law_value"=some (some (.ref f50)))
  (F50:Fun K "_law_value" "_law_value" zs7 f50 d50)
  (a51:PySem.W.nsIn K mainGlobals "_law_shows"=some (some (.ref f51)))
  (F51:Fun K "_law_shows" "_law_shows" zs8 f51 d51)
  (a52:PySem.W.nsIn K mainGlobals "_law_formed"=some (some (.ref f52)))
  (F52:Fun K "_law_formed" "_law_formed" zq4 f52 d52)
  (a53:PySem.W.nsIn K mainGlobals "_law_turn"=some (some (.ref f53)))
  (F53:Fun K "_law_turn" "_law_turn" zu7 f53 d53)
  (a54:PySem.W.nsIn K mainGlobals "_law_forged_told"=some (some (.ref f54)))
  (F54:Fun K "_law_forged_told" "_law_forged_told" zb8 f54 d54)
  (a55:PySem.W.nsIn K mainGlobals "law"=some (some (.ref f55)))
  (F55:Fun K "law" "law" zB3 f55 d55)
  (pg_Book:PySem.W.plainGet K p_Book Str.empty=true)
  (hd_Book:PySem.W.hasDictIn K p_Book=true)
  (po_Book:PySem.W.plainOver K p_Book=true)
  (sa_Book:PySem.W.findIn K (.ref p_Book) "__setattr__"=some (some (.builtin "object.__setattr__")))
  (mk_Book:PySem.W.makesIn K p_Book=true)
  (kc_Book:PySem.W.keepIn K (.ref p_Book)=true)
  (na_Book_marks:PySem.W.findIn K (.ref p_Book) "marks"=some none)
  (na_Book_rooms:PySem.W.findIn K (.ref p_Book) "rooms"=some none)
  (na_Book_tables:PySem.W.findIn K (.ref p_Book) "tables"=some none)
  (na_Book_numbers:PySem.W.findIn K (.ref p_Book) "numbers"=some none)
  (zo1:PySem.W.nsIn K mainGlobals "MARKS"=some (some (.ref p_MARKS)))
  (l_MARKS:K.lookup p_MARKS=some ⟨.type "tuple", od_MARKS,.seq it_MARKS n_MARKS,sl_MARKS⟩)
  (v_MARKS:it_MARKS.toList.map absV=((["a", "b", "c", "d", "e", "f", "g", "h"]:List Str).map V.str).map some)
  (zt3:PySem.W.nsIn K mainGlobals "MOST_TUPLES"=some (some (.int 200 t_MOST_TUPLES)))
  (zx1:PySem.W.nsIn K mainGlobals "MOST_DEEP"=some (some (.int 24 t_MOST_DEEP)))
  (zg0:PySem.W.nsIn K mainGlobals "SHAPES"=some (some (.ref p_SHAPES)))
  (l_SHAPES:K.lookup p_SHAPES=some ⟨.type "dict", none,.dict es_SHAPES ep_SHAPES,#[]⟩)
  (e_SHAPES:es_SHAPES.toList=[⟨hashStr w "yes", .str "yes" tSHAPES_0,.ref pSHAPES_0⟩,⟨hashStr w "no", .str "no" tSHAPES_1,.ref pSHAPES_1⟩,⟨hashStr w "mark", .str "mark" tSHAPES_2,.ref pSHAPES_2⟩,⟨hashStr w "not", .str "not" tSHAPES_3,.ref pSHAPES_3⟩,⟨hashStr w "and", .str "and" tSHAPES_4,.ref pSHAPES_4⟩,⟨hashStr w "or", .str "or" tSHAPES_5,.ref pSHAPES_5⟩,⟨hashStr w "either", .str "either" tSHAPES_6,.ref pSHAPES_6⟩,⟨hashStr w "if", .str "if" tSHAPES_7,.ref pSHAPES_7⟩,⟨hashStr w "some", .str "some" tSHAPES_8,.ref pSHAPES_8⟩,⟨hashStr w "each", .str "each" tSHAPES_9,.ref pSHAPES_9⟩])
  (s_SHAPES:(p_SHAPES == sysModules)=false)
  (lSHAPES_0:K.lookup pSHAPES_0=some ⟨.type "tuple", odSHAPES_0,.seq itSHAPES_0 nSHAPES_0,slSHAPES_0⟩)
  (vSHAPES_0:itSHAPES_0.toList.map absV=[V.int 0,V.int 0].map some)
  (lSHAPES_1:K.lookup pSHAPES_1=some ⟨.type "tuple", odSHAPES_1,.seq itSHAPES_1 nSHAPES_1,slSHAPES_1⟩)
  (vSHAPES_1:itSHAPES_1.toList.map absV=[V.int 0,V.int 0].map some)
  (lSHAPES_2:K.lookup pSHAPES_2=some ⟨.type "tuple", odSHAPES_2,.seq itSHAPES_2 nSHAPES_2,slSHAPES_2⟩)
  (vSHAPES_2:itSHAPES_2.toList.map absV=[V.int 1,V.int 0].map some)
  (lSHAPES_3:K.lookup pSHAPES_3=some ⟨.type "tuple", odSHAPES_3,.seq itSHAPES_3 nSHAPES_3,slSHAPES_3⟩)
  (vSHAPES_3:itSHAPES_3.toList.map absV=[V.int 0,V.int 1].map some)
  (lSHAPES_4:K.lookup pSHAPES_4=some ⟨.type "tuple", odSHAPES_4,.seq itSHAPES_4 nSHAPES_4,slSHAPES_4⟩)
  (vSHAPES_4:itSHAPES_4.toList.map absV=[V.int 0,V.int 2].map some)
  (lSHAPES_5:K.lookup pSHAPES_5=some ⟨.type "tuple", odSHAPES_5,.seq itSHAPES_5 nSHAPES_5,slSHAPES_5⟩)
  (vSHAPES_5:itSHAPES_5.toList.map absV=[V.int 0,V.int 2].map some)
  (lSHAPES_6:K.lookup pSHAPES_6=some ⟨.type "tuple", odSHAPES_6,.seq itSHAPES_6 nSHAPES_6,slSHAPES_6⟩)
  (vSHAPES_6:itSHAPES_6.toList.map absV=[V.int 0,V.int 2].map some)
  (lSHAPES_7:K.lookup pSHAPES_7=some ⟨.type "tuple", odSHAPES_7,.seq itSHAPES_7 nSHAPES_7,slSHAPES_7⟩)
  (vSHAPES_7:itSHAPES_7.toList.map absV=[V.int 0,V.int 2].map some)
  (lSHAPES_8:K.lookup pSHAPES_8=some ⟨.type "tuple", odSHAPES_8,.seq itSHAPES_8 nSHAPES_8,slSHAPES_8⟩)
  (vSHAPES_8:itSHAPES_8.toList.map absV=[V.int 1,V.int 1].map some)
  (lSHAPES_9:K.lookup pSHAPES_9=some ⟨.type "tuple", odSHAPES_9,.seq itSHAPES_9 nSHAPES_9,slSHAPES_9⟩)
  (vSHAPES_9:itSHAPES_9.toList.map absV=[V.int 1,V.int 1].map some)
  (z_all:PySem.W.nsIn K mainGlobals "all"=some none)
  (z_bool:PySem.W.nsIn K mainGlobals "bool"=some none)
  (z_int:PySem.W.nsIn K mainGlobals "int"=some none)
  (z_isinstance:PySem.W.nsIn K mainGlobals "isinstance"=some none)
  (z_len:PySem.W.nsIn K mainGlobals "len"=some none)
  (z_list:PySem.W.nsIn K mainGlobals "list"=some none)
  (z_min:PySem.W.nsIn K mainGlobals "min"=some none)
  (z_range:PySem.W.nsIn K mainGlobals "range"=some none)
  (z_reversed:PySem.W.nsIn K mainGlobals "reversed"=some none)
  (z_set:PySem.W.nsIn K mainGlobals "set"=some none)
  (z_sorted:PySem.W.nsIn K mainGlobals "sorted"=some none)
  (z_str:PySem.W.nsIn K mainGlobals "str"=some none)
  (z_sum:PySem.W.nsIn K mainGlobals "sum"=some none)
  (z_tuple:PySem.W.nsIn K mainGlobals "tuple"=some none) :
  ∃ a:Ad,Txt P w K mg a:=by
 exact ⟨⟨f0,d0,f1,d1,f2,d2,f3,d3,f4,d4,f5,d5,f6,d6,f7,d7,f8,d8,f9,d9,f10,d10,f11,d11,f12,d12,f13,d13,f14,d14,f15,d15,f16,d16,f17,d17,f18,d18,f19,d19,f20,d20,f21,d21,f22,d22,f23,d23,f24,d24,f25,d25,f26,d26,f27,d27,f28,d28,f29,d29,f30,d30,f31,d31,f32,d32,f33,d33,f34,d34,f35,d35,f36,d36,f37,d37,f38,d38,f39,d39,f40,d40,f41,d41,f42,d42,f43,d43,f44,d44,f45,d45,f46,d46,f47,d47,f48,d48,f49,d49,f50,d50,f51,d51,f52,d52,f53,d53,f54,d54,f55,d55,p_Book,p_MARKS,t_MOST_TUPLES,t_MOST_DEEP,p_SHAPES,[("yes", .ref pSHAPES_0),("no", .ref pSHAPES_1),("mark", .ref pSHAPES_2),("not", .ref pSHAPES_3),("and", .ref pSHAPES_4),("or", .ref pSHAPES_5),("either", .ref pSHAPES_6),("if", .ref pSHAPES_7),("some", .ref pSHAPES_8),("each", .ref pSHAPES_9)]⟩,{
  m_Book:=PySem.W.mg_of X G za
  zh9:=F0
  b_all_rows:=F0.binds fun _ _ _ _ _ _ us hl=>by obtain ⟨_, rfl⟩ := ln_1 hl; rfl
  m_all_rows:=PySem.W.mg_of X G a0
  zm:=F1
  b_rows_with:=F1.binds fun _ _ _ _ _ _ us hl=>by obtain ⟨_, _, rfl⟩ := ln_2 hl; rfl
  m_rows_with:=PySem.W.mg_of X G a1
  zo2:=F2
  b_flipped:=F2.binds fun _ _ _ _ _ _ us hl=>by obtain ⟨_, _, _, rfl⟩ := ln_3 hl; rfl
  m_flipped:=PySem.W.mg_of X G a2
  zo3:=F3
  b_held_at:=F3.binds fun _ _ _ _ _ _ us hl=>by obtain ⟨_, _, _, _, rfl⟩ := ln_4 hl; rfl
  m_held_at:=PySem.W.mg_of X G a3
  zy0:=F4
  b_hangs_on:=F4.binds fun _ _ _ _ _ _ us hl=>by obtain ⟨_, _, _, rfl⟩ := ln_3 hl; rfl
  m_hangs_on:=PySem.W.mg_of X G a4
  zt:=F5
  b_first_place:=F5.binds fun _ _ _ _ _ _ us hl=>by obtain ⟨_, _, rfl⟩ := ln_2 hl; rfl
  m_first_place:=PySem.W.mg_of X G a5
  zq7:=F6
  b_first_values:=F6.binds fun _ _ _ _ _ _ us hl=>by obtain ⟨_, _, _, rfl⟩ := ln_3 hl; rfl
  m_first_values:=PySem.W.mg_of X G a6
  zw9:=F7
  b_first_row:=F7.binds fun _ _ _ _ _ _ us hl=>by obtain ⟨_, _, rfl⟩ := ln_2 hl; rfl
  m_first_row:=PySem.W.mg_of X G a7
  zv8:=F8
  b_is_mark:=F8.binds fun _ _ _ _ _ _ us hl=>by obtain ⟨_, rfl⟩ := ln_1 hl; rfl
  m_is_mark:=PySem.W.mg_of X G a8
  zy1:=F9
  b_is_order:=F9.binds fun _ _ _ _ _ _ us hl=>by obtain ⟨_, rfl⟩ := ln_1 hl; rfl
  m_is_order:=PySem.W.mg_of X G a9
  zp7:=F10
  b_letters_of:=F10.binds fun _ _ _ _ _ _ us hl=>by obtain ⟨_, rfl⟩ := ln_1 hl; rfl
  m_letters_of:=PySem.W.mg_of X G a10
  zp8:=F11
  b_parts_of:=F11.binds fun _ _ _ _ _ _ us hl=>by obtain ⟨_, rfl⟩ := ln_1 hl; rfl
  m_parts_of:=PySem.W.mg_of X G a11
  zl1:=F12
  b_parts_of_all:=F12.binds fun _ _ _ _ _ _ us hl=>by obtain ⟨_, rfl⟩ := ln_1 hl; rfl
  m_parts_of_all:=PySem.W.mg_of X G a12
  zx:=F13
  b_is_shaped:=F13.binds fun _ _ _ _ _ _ us hl=>by obtain ⟨_, rfl⟩ := ln_1 hl; rfl
  m_is_shaped:=PySem.W.mg_of X G a13
  zt0:=F14
  b_is_sentence:=F14.binds fun _ _ _ _ _ _ us hl=>by obtain ⟨_, rfl⟩ := ln_1 hl; rfl
  m_is_sentence:=PySem.W.mg_of X G a14
  zp9:=F15
  b_must_be_order:=F15.binds fun _ _ _ _ _ _ us hl=>by obtain ⟨_, rfl⟩ := ln_1 hl; rfl
  m_must_be_order:=PySem.W.mg_of X G a15
  zk4:=F16
  b_must_be_sentence:=F16.binds fun _ _ _ _ _ _ us hl=>by obtain ⟨_, rfl⟩ := ln_1 hl; rfl
  m_must_be_sentence:=PySem.W.mg_of X G a16
  zn6:=F17
  b_must_have_mark:=F17.binds fun _ _ _ _ _ _ us hl=>by obtain ⟨_, _, rfl⟩ := ln_2 hl; rfl
  m_must_have_mark:=PySem.W.mg_of X G a17
  zl5:=F18
  b_must_have_marks:=F18.binds fun _ _ _ _ _ _ us hl=>by obtain ⟨_, _, rfl⟩ := ln_2 hl; rfl
  m_must_have_marks:=PySem.W.mg_of X G a18
  zx0:=F19
  b_tuples_in:=F19.binds fun _ _ _ _ _ _ us hl=>by obtain ⟨_, rfl⟩ := ln_1 hl; rfl
  m_tuples_in:=PySem.W.mg_of X G a19
  zv0:=F20
  b_letters_in:=F20.binds fun _ _ _ _ _ _ us hl=>by obtain ⟨_, rfl⟩ := ln_1 hl; rfl
  m_letters_in:=PySem.W.mg_of X G a20
  zu:=F21
  b_table_of:=F21.binds fun _ _ _ _ _ _ us hl=>by obtain ⟨_, _, rfl⟩ := ln_2 hl; rfl
  m_table_of:=PySem.W.mg_of X G a21
  zq8:=F22
  b_table_of_two:=F22.binds fun _ _ _ _ _ _ us hl=>by obtain ⟨_, _, _, _, rfl⟩ := ln_4 hl; rfl
  m_table_of_two:=PySem.W.mg_of X G a22
  zc9:=F23
  b_must_have_one_order:=F23.binds fun _ _ _ _ _ _ us hl=>by obtain ⟨_, _, rfl⟩ := ln_2 hl; rfl
  m_must_have_one_order:=PySem.W.mg_of X G a23
  zC3:=F24
  b_apart:=F24.binds fun _ _ _ _ _ _ us hl=>by obtain ⟨_, _, _, _, rfl⟩ := ln_4 hl; rfl
  m_apart:=PySem.W.mg_of X G a24
  zC4:=F25
  b_alike:=F25.binds fun _ _ _ _ _ _ us hl=>by obtain ⟨_, _, _, _, rfl⟩ := ln_4 hl; rfl
  m_alike:=PySem.W.mg_of X G a25
  zv1:=F26
  b_pairs_from:=F26.binds fun _ _ _ _ _ _ us hl=>by obtain ⟨_, _, _, _, rfl⟩ := ln_4 hl; rfl
  m_pairs_from:=PySem.W.mg_of X G a26
  zs0:=F27
  b_add_pairs:=F27.binds fun _ _ _ _ _ _ us hl=>by obtain ⟨_, _, _, _, _, rfl⟩ := ln_5 hl; rfl
  m_add_pairs:=PySem.W.mg_of X G a27
  zc4:=F28
  b_are_alike_by:=F28.binds fun _ _ _ _ _ _ us hl=>by obtain ⟨_, _, _, rfl⟩ := ln_3 hl; rfl
  m_are_alike_by:=PySem.W.mg_of X G a28
  zt1:=F29
  b_is_alike_by:=F29.binds fun _ _ _ _ _ _ us hl=>by obtain ⟨_, _, _, _, _, rfl⟩ := ln_5 hl; rfl
  m_is_alike_by:=PySem.W.mg_of X G a29
  zA4:=F30
  b_Book_init:=F30.binds fun _ _ _ _ _ _ us hl=>by obtain ⟨_, _, rfl⟩ := ln_2 hl; rfl
  e_Book_init:=⟨a30,i30,F30.2⟩
  mk_Book:=⟨mk_Book,a30,i30,kc_Book⟩
  zz3:=F31
  b_Book_order:=F31.binds fun _ _ _ _ _ _ us hl=>by obtain ⟨_, rfl⟩ := ln_1 hl; rfl
  e_Book_order:=⟨a31,i31,F31.2⟩
  zA5:=F32
  b_Book_size:=F32.binds fun _ _ _ _ _ _ us hl=>by obtain ⟨_, rfl⟩ := ln_1 hl; rfl
  e_Book_size:=⟨a32,i32,F32.2⟩
  zz4:=F33
  b_Book_enter:=F33.binds fun _ _ _ _ _ _ us hl=>by obtain ⟨_, _, rfl⟩ := ln_2 hl; rfl
  e_Book_enter:=⟨a33,i33,F33.2⟩
  zA6:=F34
  b_Book_room:=F34.binds fun _ _ _ _ _ _ us hl=>by obtain ⟨_, _, rfl⟩ := ln_2 hl; rfl
  e_Book_room:=⟨a34,i34,F34.2⟩
  zq0:=F35
  b_Book_must_be_room:=F35.binds fun _ _ _ _ _ _ us hl=>by obtain ⟨_, _, rfl⟩ := ln_2 hl; rfl
  e_Book_must_be_room:=⟨a35,i35,F35.2⟩
  zv9:=F36
  b_Book_place_of:=F36.binds fun _ _ _ _ _ _ us hl=>by obtain ⟨_, _, rfl⟩ := ln_2 hl; rfl
  e_Book_place_of:=⟨a36,i36,F36.2⟩
  zz5:=F37
  b_Book_going:=F37.binds fun _ _ _ _ _ _ us hl=>by obtain ⟨_, _, _, rfl⟩ := ln_3 hl; rfl
  e_Book_going:=⟨a37,i37,F37.2⟩
  zB6:=F38
  b_Book_led:=F38.binds fun _ _ _ _ _ _ us hl=>by obtain ⟨_, _, _, _, rfl⟩ := ln_4 hl; rfl
  e_Book_led:=⟨a38,i38,F38.2⟩
  zw:=F39
  b_Book_table_at:=F39.binds fun _ _ _ _ _ _ us hl=>by obtain ⟨_, _, rfl⟩ := ln_2 hl; rfl
  e_Book_table_at:=⟨a39,i39,F39.2⟩
  zv2:=F40
  b_Book_room_with:=F40.binds fun _ _ _ _ _ _ us hl=>by obtain ⟨_, _, rfl⟩ := ln_2 hl; rfl
  e_Book_room_with:=⟨a40,i40,F40.2⟩
  za0:=F41
  b_x_law_cell_at:=F41.binds fun _ _ _ _ _ _ us hl=>by obtain ⟨_, _, rfl⟩ := ln_2 hl; rfl
  m_x_law_cell_at:=PySem.W.mg_of X G a41
  zn0:=F42
  b_x_law_whole:=F42.binds fun _ _ _ _ _ _ us hl=>by obtain ⟨_, rfl⟩ := ln_1 hl; rfl
  m_x_law_whole:=PySem.W.mg_of X G a42
  zb2:=F43
  b_x_law_draw:=F43.binds fun _ _ _ _ _ _ us hl=>by obtain ⟨_, _, _, rfl⟩ := ln_3 hl; rfl
  m_x_law_draw:=PySem.W.mg_of X G a43
  zt2:=F44
  b_x_law_order:=F44.binds fun _ _ _ _ _ _ us hl=>by obtain ⟨_, _, rfl⟩ := ln_2 hl; rfl
  m_x_law_order:=PySem.W.mg_of X G a44
  zl6:=F45
  b_x_law_any_order:=F45.binds fun _ _ _ _ _ _ us hl=>by obtain ⟨_, rfl⟩ := ln_1 hl; rfl
  m_x_law_any_order:=PySem.W.mg_of X G a45
  zn7:=F46
  b_x_law_sentence:=F46.binds fun _ _ _ _ _ _ us hl=>by obtain ⟨_, _, _, _, rfl⟩ := ln_4 hl; rfl
  m_x_law_sentence:=PySem.W.mg_of X G a46
  zn1:=F47
  b_x_law_count:=F47.binds fun _ _ _ _ _ _ us hl=>by obtain ⟨_, rfl⟩ := ln_1 hl; rfl
  m_x_law_count:=PySem.W.mg_of X G a47
  zi7:=F48
  b_x_law_short:=F48.binds fun _ _ _ _ _ _ us hl=>by obtain ⟨_, _, _, _, rfl⟩ := ln_4 hl; rfl
  m_x_law_short:=PySem.W.mg_of X G a48
  zv3:=F49
  b_x_law_rows:=F49.binds fun _ _ _ _ _ _ us hl=>by obtain ⟨_, rfl⟩ := ln_1 hl; rfl
  m_x_law_rows:=PySem.W.mg_of X G a49
  zd:=F50
  b_x_law_value:=F50.binds fun _ _ _ _ _ _ us hl=>by obtain ⟨_, _, _, rfl⟩ := ln_3 hl; rfl
  m_x_law_value:=PySem.W.mg_of X G a50
  zn2:=F51
  b_x_law_shows:=F51.binds fun _ _ _ _ _ _ us hl=>by obtain ⟨_, _, _, rfl⟩ := ln_3 hl; rfl
  m_x_law_shows:=PySem.W.mg_of X G a51
  zq9:=F52
  b_x_law_formed:=F52.binds fun _ _ _ _ _ _ us hl=>by obtain ⟨_, _, _, rfl⟩ := ln_3 hl; rfl
  m_x_law_formed:=PySem.W.mg_of X G a52
  zv4:=F53
  b_x_law_turn:=F53.binds fun _ _ _ _ _ _ us hl=>by obtain ⟨_, _, _, _, rfl⟩ := ln_4 hl; rfl
  m_x_law_turn:=PySem.W.mg_of X G a53
  zj0:=F54
  b_x_law_forged_told:=F54.binds fun _ _ _ _ _ _ us hl=>by obtain ⟨_, _, _, rfl⟩ := ln_3 hl; rfl
  m_x_law_forged_told:=PySem.W.mg_of X G a54
  zF4:=F55
  b_law:=F55.binds fun _ _ _ _ _ _ us hl=>by obtain ⟨_, rfl⟩ := ln_1 hl; rfl
  m_law:=PySem.W.mg_of X G a55
  c_Book:=⟨pg_Book,hd_Book,po_Book,sa_Book⟩
  na_Book_marks:=na_Book_marks
  na_Book_rooms:=na_Book_rooms
  na_Book_tables:=na_Book_tables
  na_Book_numbers:=na_Book_numbers
  x_law:=by
   obtain ⟨_,_,_,_,_,_,_,_,_,rfl,_,_⟩:=F55.ex
   exact fun s u=>.of_eq rfl
  m_MARKS:=PySem.W.mg_of X G zo1
  q_MARKS:=fun H=>sqT_K l_MARKS v_MARKS (by decide)
  m_MOST_TUPLES:=PySem.W.mg_of X G zt3
  m_MOST_DEEP:=PySem.W.mg_of X G zx1
  m_SHAPES:=PySem.W.mg_of X G zg0
  zv5:=dicK_mk l_SHAPES e_SHAPES s_SHAPES (kvs:=[("yes", .ref pSHAPES_0),("no", .ref pSHAPES_1),("mark", .ref pSHAPES_2),("not", .ref pSHAPES_3),("and", .ref pSHAPES_4),("or", .ref pSHAPES_5),("either", .ref pSHAPES_6),("if", .ref pSHAPES_7),("some", .ref pSHAPES_8),("each", .ref pSHAPES_9)]) (dk_cons (dk_cons (dk_cons (dk_cons (dk_cons (dk_cons (dk_cons (dk_cons (dk_cons (dk_cons (dk_nil))))))))))) (by show (["yes", "no", "mark", "not", "and", "or", "either", "if", "some", "each"]:List Str).Nodup; decide +kernel)
  y_SHAPES:=by
   intro k m n h
   simp only [tb_SHAPES,List.mem_cons,List.not_mem_nil,or_false,Prod.mk.injEq] at h
   rcases h with ⟨rfl,rfl,rfl⟩ | ⟨rfl,rfl,rfl⟩ | ⟨rfl,rfl,rfl⟩ | ⟨rfl,rfl,rfl⟩ | ⟨rfl,rfl,rfl⟩ | ⟨rfl,rfl,rfl⟩ | ⟨rfl,rfl,rfl⟩ | ⟨rfl,rfl,rfl⟩ | ⟨rfl,rfl,rfl⟩ | ⟨rfl,rfl,rfl⟩
   ·exact ⟨_,rfl,fun H=>sqT_K lSHAPES_0 vSHAPES_0 (by decide)⟩
   ·exact ⟨_,rfl,fun H=>sqT_K lSHAPES_1 vSHAPES_1 (by decide)⟩
   ·exact ⟨_,rfl,fun H=>sqT_K lSHAPES_2 vSHAPES_2 (by decide)⟩
   ·exact ⟨_,rfl,fun H=>sqT_K lSHAPES_3 vSHAPES_3 (by decide)⟩
   ·exact ⟨_,rfl,fun H=>sqT_K lSHAPES_4 vSHAPES_4 (by decide)⟩
   ·exact ⟨_,rfl,fun H=>sqT_K lSHAPES_5 vSHAPES_5 (by decide)⟩
   ·exact ⟨_,rfl,fun H=>sqT_K lSHAPES_6 vSHAPES_6 (by decide)⟩
   ·exact ⟨_,rfl,fun H=>sqT_K lSHAPES_7 vSHAPES_7 (by decide)⟩
   ·exact ⟨_,rfl,fun H=>sqT_K lSHAPES_8 vSHAPES_8 (by decide)⟩
   ·exact ⟨_,rfl,fun H=>sqT_K lSHAPES_9 vSHAPES_9 (by decide)⟩
  z_SHAPES:=by
   intro k h
   refine vals_none fun e he=>?_
   simp only [List.mem_cons,List.not_mem_nil,or_false] at he
   rcases he with rfl | rfl | rfl | rfl | rfl | rfl | rfl | rfl | rfl | rfl
   ·exact h ("yes", 0,0) (by decide +kernel)
   ·exact h ("no", 0,0) (by decide +kernel)
   ·exact h ("mark", 1,0) (by decide +kernel)
   ·exact h ("not", 0,1) (by decide +kernel)
   ·exact h ("and", 0,2) (by decide +kernel)
   ·exact h ("or", 0,2) (by decide +kernel)
   ·exact h ("either", 0,2) (by decide +kernel)
   ·exact h ("if", 0,2) (by decide +kernel)
   ·exact h ("some", 1,1) (by decide +kernel)
   ·exact h ("each", 1,1) (by decide +kernel)
  n_all:=PySem.W.mg_none_of X G z_all
  n_bool:=PySem.W.mg_none_of X G z_bool
  n_int:=PySem.W.mg_none_of X G z_int
  n_isinstance:=PySem.W.mg_none_of X G z_isinstance
  n_len:=PySem.W.mg_none_of X G z_len
  n_list:=PySem.W.mg_none_of X G z_list
  n_min:=PySem.W.mg_none_of X G z_min
  n_range:=PySem.W.mg_none_of X G z_range
  n_reversed:=PySem.W.mg_none_of X G z_reversed
  n_set:=PySem.W.mg_none_of X G z_set
  n_sorted:=PySem.W.mg_none_of X G z_sorted
  n_str:=PySem.W.mg_none_of X G z_str
  n_sum:=PySem.W.mg_none_of X G z_sum
  n_tuple:=PySem.W.mg_none_of X G z_tuple }⟩
end K42
namespace K42
open PySem L2 Sen
section
variable {P:Program} {w:World} {K:PySem.W.Frag} {mg:Str->Option Value} {base:Heap} {a:Ad} {k:Nat}
theorem ok_all_rows (T:Txt P w K mg a):FnOk P w K mg base CX0 (k + 1) a.zh5 a.zh6 ["marks"] spAllRows:=by
 refine T.zh9.ok zE1 (fun vs H Q E h=>?_) (fun cdv A outer s H vs Q E hr h=>?_)
 ·obtain ⟨n,rfl,_⟩:=h
  rfl
 obtain ⟨n,rfl,hn,q⟩:=h
 refine ⟨_,(pss_one (ps_ret (pe_op op_sub (pe_op op_shlN pe_int (pe_op op_shlN pe_int (pv 0))) pe_int))),?_⟩
 have h1:=two8 hn
 have one:1 < 2 ^ 10000:=lt10k (k:=1) (by decide) (by decide)
 refine ⟨_,rfl,1,n,rfl,rfl,one,by omega,1,1 * 2 ^ n,rfl,rfl,one,by omega,_,1,rfl,rfl,?_⟩
 have e:(((1 * 2 ^ (1 * 2 ^ n):Nat):Int) - 1)=((2 ^ 2 ^ n - 1:Nat):Int):=by
  rw [Nat.one_mul,Nat.one_mul]
  have:=Nat.two_pow_pos (2 ^ n)
  omega
 show Q (.int (((1 * 2 ^ (1 * 2 ^ n):Nat):Int) - 1)) H
 rw [e]
 exact q
theorem ok_rows_with (T:Txt P w K mg a):FnOk P w K mg base CX0 (k + 1) a.zd2 a.zd3 ["place", "marks"] spRowsWith:=by
 refine T.zm.ok zj5 (fun vs H Q E h=>?_) (fun cdv A outer s H vs Q E hr h=>?_)
 ·obtain ⟨p,n,rfl,_⟩:=h
  rfl
 obtain ⟨p,n,rfl,hp,hn,q⟩:=h
 refine ⟨_,(pss_cons (ps_set (i:=2) zj5.nd rfl (Or.inl rfl) (pe_op op_shlN pe_int (pv 0)))
   (pss_cons (ps_set (i:=3) zj5.nd rfl (Or.inl rfl) (pe_op op_shlN (pe_op op_sub (pe_op op_shlN pe_int (pv 2)) pe_int) (pv 2)))
   (pss_cons (ps_for PassesOwn.never rfl (pi_range2 rfl T.n_range (pa_cons (pe_op op_add (pv 0) pe_int) (pa_cons (pv 1) pa_nil))) (pg_name (i:=4) zj5.nd rfl (Or.inl rfl)) (pss_one (ps_set (i:=3) zj5.nd rfl (Or.inl rfl) (pe_op op_orN (pv 3) (pe_op op_shlN (pv 3) (pe_op op_shlN pe_int (pv 4)))))))
   (pss_one (ps_ret (pv 3)))))),?_⟩
 have one:1 < 2 ^ 10000:=lt10k (k:=1) (by decide) (by decide)
 have h1:=two8 (n:=p) (by omega)
 have hh:2 ^ p < 2 ^ 10000:=Nat.pow_lt_pow_right (by decide) (by omega)
 have pp:=Nat.two_pow_pos (2 ^ p)
 have e1:((1 * 2 ^ (1 * 2 ^ p):Nat):Int) - 1=((2 ^ 2 ^ p - 1:Nat):Int):=by
  rw [Nat.one_mul,Nat.one_mul]
  omega
 have lt1:2 ^ 2 ^ p - 1 < 2 ^ 10000:=Nat.lt_of_lt_of_le (Nat.sub_lt pp (by decide)) (Nat.pow_le_pow_right (by decide) (by omega))
 refine ⟨_,rfl,1,p,rfl,rfl,one,by omega,?_⟩
 refine ⟨_,rfl,1,1 * 2 ^ p,rfl,rfl,one,by omega,_,1,rfl,rfl,_,rfl,2 ^ 2 ^ p - 1,1 * 2 ^ p,congrArg V.int e1,rfl,lt1,by omega,?_⟩
 refine ⟨_,rfl,_,1,rfl,rfl,_,rfl,(p:Int) + 1,(n:Int),rfl,⟨by omega,by omega,by omega,by omega⟩,?_⟩
 refine for_range (fun i σ H'=>H'=H/\∃ (N:Nat) (f:Option V),σ=[some (.int p),some (.int n),some (.int ((1 * 2 ^ p:Nat):Int)),some (.int N),f]/\IsTab (p + 1 + i) N (fun b=>b.testBit p)) ⟨rfl,_,_,rfl,?_⟩ ?_ ?_
 ·rw [Nat.one_mul]
  exact tab_block p
 ·rintro i σ H' hi ⟨rfl,N,f,rfl,tb⟩
  have hi':p + 1 + i < n:=by omega
  have h2:=two8 (n:=p + 1 + i) (by omega)
  have e2:V.int ((p:Int) + 1 + (i:Nat))=V.int ((p + 1 + i:Nat):Int):=congrArg V.int (by omega)
  have lt2:N < 2 ^ 10000:=lt10k (tab_lt tb) (Nat.le_trans h2 (by decide))
  refine ⟨_,rfl,_,rfl,_,rfl,1,p + 1 + i,rfl,e2,one,by omega,N,1 * 2 ^ (p + 1 + i),rfl,rfl,lt2,by omega,N,N * 2 ^ (1 * 2 ^ (p + 1 + i)),rfl,rfl,?_⟩
  refine ⟨rfl,_,_,rfl,?_⟩
  rw [Nat.one_mul]
  exact tab_double (m:=p + 1 + i) (by omega) tb
 ·rintro σ H' ⟨rfl,N,f,rfl,tb⟩
  have e3:p + 1 + ((n:Int) - ((p:Int) + 1)).toNat=n:=by omega
  rw [e3] at tb
  exact ⟨_,rfl,q N tb⟩
theorem ok_flipped (T:Txt P w K mg a) (zd4:FnOk P w K mg base CX0 k a.zd2 a.zd3 ["place", "marks"] spRowsWith):FnOk P w K mg base CX0 (k + 1) a.zj7 a.zj8 ["table", "place", "marks"] spFlipped:=by
 refine T.zo2.ok zx8 (fun vs H Q E h=>?_) (fun cdv A outer s H vs Q E hr h=>?_)
 ·obtain ⟨N,p,n,f,rfl,_⟩:=h
  rfl
 obtain ⟨N,p,n,f,rfl,hp,hn,tb,q⟩:=h
 refine ⟨_,(pss_cons (ps_set (i:=3) zx8.nd rfl (Or.inl rfl) (pe_op op_andN (pv 0) (pe_call zd4 hr rfl T.m_rows_with T.zm.2 T.b_rows_with .nil pass0 (pa_cons (pv 1) (pa_cons (pv 2) pa_nil)))))
   (pss_cons (ps_set (i:=4) zx8.nd rfl (Or.inl rfl) (pe_op op_xorN (pv 0) (pv 3)))
   (pss_one (ps_ret (pe_op op_orN (pe_op op_shrN (pv 3) (pe_op op_shlN pe_int (pv 1))) (pe_op op_shlN (pv 4) (pe_op op_shlN pe_int (pv 1)))))))),?_⟩
 have one:1 < 2 ^ 10000:=lt10k (k:=1) (by decide) (by decide)
 have h1:=two8 (n:=p) (by omega)
 have h2:=two8 (n:=n) (by omega)
 refine ⟨_,rfl,_,rfl,_,rfl,p,n,rfl,hp,hn,fun R tr=>?_⟩
 refine ⟨N,R,rfl,rfl,?_⟩
 refine ⟨_,rfl,_,rfl,N,N &&& R,rfl,rfl,?_⟩
 have o:=tab_and tb tr
 have z:=tab_xor tb o
 have lt2:N ^^^ (N &&& R) < 2 ^ 10000:=lt10k (tab_lt z) (Nat.le_trans h2 (by decide))
 refine ⟨_,rfl,_,rfl,1,p,rfl,rfl,one,by omega,N &&& R,1 * 2 ^ p,rfl,rfl,_,rfl,_,rfl,1,p,rfl,rfl,one,by omega,N ^^^ (N &&& R),1 * 2 ^ p,rfl,rfl,lt2,by omega,_,_,rfl,rfl,?_⟩
 refine q _ ?_
 rw [Nat.one_mul]
 exact tab_flip hp tb tr
theorem ok_cell_at (T:Txt P w K mg a):FnOk P w K mg base CX0 (k + 1) a.zb0 a.zb1 ["script", "k"] (spCellAt K):=by
 refine T.za0.ok zu9 (fun vs H Q E h=>?_) (fun cdv A outer s H vs Q E hr h=>?_)
 ·obtain ⟨l,ns,i,rfl,_⟩:=h
  rfl
 obtain ⟨l,ns,i,rfl,hS,h0,q⟩:=h
 refine ⟨_,(pss_cons (ps_if (pt_cmpR op_lt (pv 1) (pe_callB call_len_seq rfl T.n_len bt_len (pa_cons (pv 0) pa_nil)) (nomark _)) (pss_one (ps_ret (pe_ix ix_list (pv 0) (pv 1) (fun _ _=>rfl)))) pss_nil)
   (pss_one (ps_ret pe_int))),?_⟩
 refine ⟨_,rfl,_,rfl,l,_,rfl,.inl hS,_,_,rfl,rfl,_,rfl,?_⟩
 refine ite2 (fun c=>?_) (fun c=>?_)
 ·have c':i < (((ns.map V.int).length:Nat):Int):=of_decide_eq_true c
  rw [List.length_map] at c'
  have hi:i.toNat < ns.length:=by omega
  have e:atI (ns.map V.int) i=some (.int ns[i.toNat]):=by
   have q:=atI_nat (xs:=ns.map V.int) (j:=i.toNat) (v:=.int ns[i.toNat]) (by rw [List.getElem?_map,List.getElem?_eq_getElem hi]; rfl)
   have ei:((i.toNat:Nat):Int)=i:=by omega
   rw [ei] at q
   exact q
  exact ⟨_,rfl,_,rfl,l,_,i,_,rfl,rfl,hS,e,q _⟩
 ·exact q 0
theorem ok_draw (T:Txt P w K mg a):FnOk P w K mg base CX0 (k + 1) a.ze2 a.ze3 ["cell", "k", "bound"] spDraw:=by
 refine T.zb2.ok ze7 (fun vs H Q E h=>?_) (fun cdv A outer s H vs Q E hr h=>?_)
 ·obtain ⟨c,m,b,rfl,_⟩:=h
  rfl
 obtain ⟨c,m,b,rfl,hm,b0,b1,q⟩:=h
 refine ⟨_,(pss_cons (ps_if (pt_cmpR op_ge (pv 0) (pe_op op_pow pe_int pe_int) (nomark _)) (pss_cons (ps_set (i:=4) ze7.nd rfl (Or.inl rfl) (pv 0))
   (pss_cons (ps_for PassesOwn.never rfl (pi_range1 rfl T.n_range (pa_cons (pv 1) pa_nil)) (pg_name (i:=5) ze7.nd rfl (Or.inl rfl)) (pss_one (ps_set (i:=4) ze7.nd rfl (Or.inl rfl) (pe_op op_fdiv (pv 4) (pv 2)))))
   (pss_one (ps_ret (pe_op op_mod (pv 4) (pv 2)))))) pss_nil)
   (pss_cons (ps_set (i:=3) ze7.nd rfl (Or.inl rfl) (pe_op op_mod (pe_op op_mul (pe_op op_add (pe_op op_add (pe_op op_mod (pv 0) pe_int) (pe_op op_mul pe_int (pv 1))) pe_int) pe_int) pe_int))
   (pss_cons (ps_set (i:=3) ze7.nd rfl (Or.inl rfl) (pe_op op_mod (pe_op op_add (pe_op op_add (pe_op op_mul (pv 3) (pv 3)) (pe_op op_mul pe_int (pv 1))) pe_int) pe_int))
   (pss_one (ps_ret (pe_op op_mod (pe_op op_fdiv (pe_op op_mod (pe_op op_mul (pv 3) pe_int) pe_int) pe_int) (pv 2))))))),?_⟩
 refine ⟨_,rfl,10,18,rfl,rfl,⟨by decide,by decide,by decide⟩,_,_,rfl,rfl,_,rfl,?_⟩
 refine ite2 (fun _=>?_) (fun _=>?_)
 ·refine ⟨_,rfl,?_⟩
  refine ⟨_,rfl,(m:Int),rfl,by omega,by omega,?_⟩
  refine for_range (fun i σ H'=>H'=H/\∃ (x:Int) (f1 f2:Option V),σ=[some (.int c),some (.int m),some (.int b),f1,some (.int x),f2]) ⟨rfl,c,_,_,rfl⟩ ?_ ?_
  ·rintro i σ H' hi ⟨rfl,x,f1,f2,rfl⟩
   refine ⟨_,rfl,_,rfl,x,b,rfl,rfl,⟨b0,b1⟩,?_⟩
   exact ⟨rfl,x / b,_,_,rfl⟩
  ·rintro σ H' ⟨rfl,x,f1,f2,rfl⟩
   refine ⟨_,rfl,_,rfl,x,b,rfl,rfl,b0,?_⟩
   exact q _ (Int.emod_nonneg _ (by omega)) (Int.emod_lt_of_pos _ b0)
 ·have p1:(0:Int) < 1000000007:=by decide
  have p2:(0:Int) < 2147483647:=by decide
  have p3:(0:Int) < 2147483629:=by decide
  refine ⟨_,rfl,c,1000000007,rfl,rfl,p1,_,rfl,1009,(m:Int),rfl,rfl,.inl ⟨by decide,by decide⟩,_,_,rfl,rfl,_,17,rfl,rfl,_,69621,rfl,rfl,.inr ⟨by decide,by decide⟩,_,2147483647,rfl,rfl,p2,?_⟩
  have z0:0<=(c % 1000000007 + 1009 * (m:Int) + 17) * 69621 % 2147483647:=Int.emod_nonneg _ (by decide)
  have z1:(c % 1000000007 + 1009 * (m:Int) + 17) * 69621 % 2147483647 < 2147483647:=Int.emod_lt_of_pos _ p2
  refine ⟨_,rfl,_,rfl,_,_,rfl,rfl,.inl ⟨Int.lt_of_lt_of_le (by decide) z0,Int.lt_trans z1 (by decide)⟩,_,rfl,40503,(m:Int),rfl,rfl,.inl ⟨by decide,by decide⟩,_,_,rfl,rfl,_,5,rfl,rfl,_,2147483629,rfl,rfl,p3,?_⟩
  refine ⟨_,rfl,_,48271,rfl,rfl,.inr ⟨by decide,by decide⟩,_,2147483647,rfl,rfl,p2,_,32,rfl,rfl,⟨by decide,by decide⟩,_,rfl,_,b,rfl,rfl,b0,?_⟩
  exact q _ (Int.emod_nonneg _ (by omega)) (Int.emod_lt_of_pos _ b0)
theorem ok_order (T:Txt P w K mg a) (zb3:FnOk P w K mg base CX0 k a.ze2 a.ze3 ["cell", "k", "bound"] spDraw):FnOk P w K mg base CX0 (k + 1) a.zm5 a.zm6 ["cell", "limit"] spOrder:=by
 refine T.zt2.ok zq6 (fun vs H Q E h=>?_) (fun cdv A outer s H vs Q E hr h=>?_)
 ·obtain ⟨c,n,rfl,_⟩:=h
  rfl
 obtain ⟨c,n,rfl,hn,h8,q⟩:=h
 refine ⟨_,(pss_cons (ps_set (i:=2) zq6.nd rfl (Or.inl rfl) (pe_lst pa_nil))
   (pss_cons (ps_for PassesOwn.never rfl (pi_range1 rfl T.n_range (pa_cons (pe_op op_add pe_int (pe_call zb3 hr rfl T.m_x_law_draw T.zb2.2 T.b_x_law_draw .nil pass0 (pa_cons (pv 0) (pa_cons pe_int (pa_cons (pv 1) pa_nil))))) pa_nil)) (pg_name (i:=3) zq6.nd rfl (Or.inl rfl)) (pss_one (ps_expr (pe_bm PySem.F.plainAttrs_list PySem.F.slot_list_insert PySem.F.type_list_insert mt_insert (pv 2) (pa_cons (pe_op op_mod (pe_call zb3 hr rfl T.m_x_law_draw T.zb2.2 T.b_x_law_draw .nil pass0 (pa_cons (pv 0) (pa_cons (pe_op op_add pe_int (pv 3)) (pa_cons pe_int pa_nil)))) (pe_op op_add (pv 3) pe_int)) (pa_cons (pe_ix ix_str pe_str (pv 3) (fun _ _=>rfl)) pa_nil))))))
   (pss_one (ps_ret (pv 2))))),?_⟩
 refine ⟨by show 0<=sizeLine; decide,fun l hl=>?_⟩
 refine ⟨_,rfl,_,rfl,c,0,(n:Int),rfl,by decide,by omega,by omega,fun r r0 r1=>?_⟩
 refine ⟨1,r,rfl,rfl,1 + r,rfl,by omega,by omega,?_⟩
 refine for_range (fun i σ H'=>∃ (os:List Str) (f1:Option V),Same H H'/\H' l=some (.lst (os.map V.str))/\os.Nodup/\os.length=i/\(∀ x∈os,x∈letts.take i)/\σ=[some (.int c),some (.int n),some (.ref l),f1])
  ⟨[],_,same_new hl _,upd_same,List.nodup_nil,rfl,(fun _ h=>nomatch h),rfl⟩ ?_ ?_
 ·rintro i σ H' hi ⟨os,f1,g,hl',nd,le,mem,rfl⟩
  have i8:i < 8:=by omega
  obtain ⟨ch,hc1,hc2⟩:=lett_at i8
  have e1:(1:Int) + (0 + (i:Nat))=((1 + i:Nat):Int):=by omega
  have e2:(0:Int) + (i:Nat)=((i:Nat):Int):=by omega
  refine ⟨_,rfl,.inl ⟨rfl,_,SqL.of hl'⟩,?_⟩
  refine ⟨_,rfl,_,rfl,1,_,rfl,rfl,c,1 + i,5040,congrArg (fun z=>[V.int c,V.int z,V.int 5040]) e1,by omega,by decide,by decide,fun r' s0 s1=>?_⟩
  refine ⟨_,rfl,_,1,rfl,rfl,r',_,rfl,rfl,by show (0:Int) < 0 + (i:Nat) + 1; omega,?_⟩
  refine ⟨_,rfl,_,(i:Int),ch,rfl,congrArg V.int e2,by show (Str.ofString "abcdefgh").length<=sizeLine; decide,hc1,?_⟩
  have m0:0<=r' % (0 + (i:Nat) + 1):=Int.emod_nonneg _ (by omega)
  have m1:r' % (0 + (i:Nat) + 1) < 0 + (i:Nat) + 1:=Int.emod_lt_of_pos _ (by omega)
  generalize hj:r' % (0 + ((i:Nat):Int) + 1)=j at m0 m1
  refine ⟨l,os.map V.str,j,_,rfl,by rw [← hj],hl',m0,by rw [List.length_map]; omega,by rw [List.length_map]; exact Nat.lt_of_lt_of_le (show os.length < 9 by omega) (by decide),?_⟩
  have nm:(⟨#[ch]⟩:Str) ∉ os:=fun hm=>lett_new hc2 (mem _ hm)
  have ml:∀ x∈letts.take i,x∈letts.take (i + 1):=fun x hx=>by
   rw [List.take_succ]
   exact List.mem_append_left _ hx
  have mn:(⟨#[ch]⟩:Str)∈letts.take (i + 1):=by
   rw [List.take_succ,hc2]
   exact List.mem_append_right _ (by simp)
  refine ⟨os.take j.toNat ++ (⟨#[ch]⟩:Str) :: os.drop j.toNat,_,?_,?_,?_,?_,?_,rfl⟩
  ·exact fun b o hb=>by rw [upd_ne (ne_of_none hb hl)]; exact g b o hb
  ·rw [upd_same]
   simp
  ·refine List.perm_middle.nodup_iff.mpr (List.nodup_cons.mpr ⟨?_,?_⟩)
   ·rw [List.take_append_drop]; exact nm
   ·rw [List.take_append_drop]; exact nd
  ·rw [List.length_append,List.length_cons,List.length_take,List.length_drop]
   omega
  ·intro x hx
   rcases List.mem_append.mp hx with z | z
   ·exact ml x (mem x (List.mem_of_mem_take z))
   ·rcases List.mem_cons.mp z with z | z
    ·rw [z]; exact mn
    ·exact ml x (mem x (List.mem_of_mem_drop z))
 ·rintro σ H' ⟨os,f1,g,hl',nd,le,mem,rfl⟩
  refine ⟨_,rfl,q l H' os g hl' ⟨nd,fun x hx=>List.mem_of_mem_take (mem x hx),by omega⟩ (by omega)⟩
theorem ok_sentence (T:Txt P w K mg a) (za3:FnOk P w K mg base CX0 k a.zb0 a.zb1 ["script", "k"] (spCellAt K)) (zb3:FnOk P w K mg base CX0 k a.ze2 a.ze3 ["cell", "k", "bound"] spDraw) :
  FnOk P w K mg base CX0 (k + 1) a.zh7 a.zh8 ["script", "at", "many", "order"] (spSentence K):=by
 refine T.zn7.ok za2 (fun vs H Q E h=>?_) (fun cdv A outer s H vs Q E hr h=>?_)
 ·obtain ⟨sc,ol,ns,t,m,os,rfl,_⟩:=h
  rfl
 obtain ⟨sc,ol,ns,t,m,os,rfl,hS,hO,o0,o8,m0,m40,t60,q⟩:=h
 obtain ⟨st0,h0⟩:∃ st0,st0=(defBody zb9).headD (.Pass ⟨0,0,0,0⟩):=⟨_,rfl⟩
 have hb:defBody zb9=st0 :: (defBody zb9).tail:=by rw [h0]; rfl
 rw [hb]
 have hk:litAsg st0=some (Str.ofString "kinds", kindsS):=by rw [h0]; rfl
 refine ⟨_,pss_cons (ps_litL (i:=4) hk za2.nd rfl (Or.inl rfl) (.inl rfl)) (pss_cons (ps_set (i:=5) za2.nd rfl (Or.inl rfl) (pe_lst (pa_cons (pe_tup (pa_cons pe_str (pa_cons (pe_ix ix_list (pv 3) (pe_op op_mod (pe_call zb3 hr rfl T.m_x_law_draw T.zb2.2 T.b_x_law_draw .nil pass0 (pa_cons (pe_call za3 hr rfl T.m_x_law_cell_at T.za0.2 T.b_x_law_cell_at .nil pass0 (pa_cons (pv 0) (pa_cons (pv 1) pa_nil))) (pa_cons pe_int (pa_cons pe_int pa_nil)))) (pe_callB call_len_seq rfl T.n_len bt_len (pa_cons (pv 3) pa_nil))) (fun _ _=>rfl)) pa_nil))) pa_nil)))
   (pss_cons (ps_for PassesOwn.never rfl (pi_range2 rfl T.n_range (pa_cons pe_int (pa_cons (pv 2) pa_nil))) (pg_name (i:=6) za2.nd rfl (Or.inl rfl)) (pss_cons (ps_set (i:=7) za2.nd rfl (Or.inl rfl) (pe_call za3 hr rfl T.m_x_law_cell_at T.za0.2 T.b_x_law_cell_at .nil pass0 (pa_cons (pv 0) (pa_cons (pe_op op_add (pv 1) (pv 6)) pa_nil))))
   (pss_cons (ps_set (i:=8) za2.nd rfl (Or.inl rfl) (pe_ix ix_list (pv 4) (pe_call zb3 hr rfl T.m_x_law_draw T.zb2.2 T.b_x_law_draw .nil pass0 (pa_cons (pv 7) (pa_cons pe_int (pa_cons pe_int pa_nil)))) (fun _ _=>rfl)))
   (pss_cons (ps_set (i:=9) za2.nd rfl (Or.inl rfl) (pe_ix ix_list (pv 5) (pe_op op_sub (pe_un un_neg pe_int) (pe_op op_mod (pe_call zb3 hr rfl T.m_x_law_draw T.zb2.2 T.b_x_law_draw .nil pass0 (pa_cons (pv 7) (pa_cons pe_int (pa_cons pe_int pa_nil)))) (pe_callB call_len_seq rfl T.n_len bt_len (pa_cons (pv 5) pa_nil)))) (fun _ _=>rfl)))
   (pss_cons (ps_set (i:=10) za2.nd rfl (Or.inl rfl) (pe_ix ix_list (pv 5) (pe_op op_mod (pe_call zb3 hr rfl T.m_x_law_draw T.zb2.2 T.b_x_law_draw .nil pass0 (pa_cons (pv 7) (pa_cons pe_int (pa_cons pe_int pa_nil)))) (pe_callB call_len_seq rfl T.n_len bt_len (pa_cons (pv 5) pa_nil))) (fun _ _=>rfl)))
   (pss_cons (ps_set (i:=11) za2.nd rfl (Or.inl rfl) (pe_ix ix_list (pv 3) (pe_op op_mod (pe_call zb3 hr rfl T.m_x_law_draw T.zb2.2 T.b_x_law_draw .nil pass0 (pa_cons (pv 7) (pa_cons pe_int (pa_cons pe_int pa_nil)))) (pe_callB call_len_seq rfl T.n_len bt_len (pa_cons (pv 3) pa_nil))) (fun _ _=>rfl)))
   (pss_one (ps_if (PW.pt (pw_or (pt_cmpR op_eq (pv 8) pe_str (nomark _)) (pw_or1 (pt_cmpR op_eq (pv 8) pe_str (nomark _))))) (pss_one (ps_expr (pe_bm PySem.F.plainAttrs_list PySem.F.slot_list_append PySem.F.type_list_append mt_append (pv 5) (pa_cons (pe_tup (pa_cons (pv 8) pa_nil)) pa_nil)))) (pss_one (ps_if (pt_cmpR op_eq (pv 8) pe_str (nomark _)) (pss_one (ps_expr (pe_bm PySem.F.plainAttrs_list PySem.F.slot_list_append PySem.F.type_list_append mt_append (pv 5) (pa_cons (pe_tup (pa_cons pe_str (pa_cons (pv 11) pa_nil))) pa_nil)))) (pss_one (ps_if (pt_cmpR op_eq (pv 8) pe_str (nomark _)) (pss_one (ps_expr (pe_bm PySem.F.plainAttrs_list PySem.F.slot_list_append PySem.F.type_list_append mt_append (pv 5) (pa_cons (pe_tup (pa_cons pe_str (pa_cons (pv 9) pa_nil))) pa_nil)))) (pss_one (ps_if (PW.pt (pw_or (pt_cmpR op_eq (pv 8) pe_str (nomark _)) (pw_or1 (pt_cmpR op_eq (pv 8) pe_str (nomark _))))) (pss_one (ps_expr (pe_bm PySem.F.plainAttrs_list PySem.F.slot_list_append PySem.F.type_list_append mt_append (pv 5) (pa_cons (pe_tup (pa_cons (pv 8) (pa_cons (pv 11) (pa_cons (pv 9) pa_nil)))) pa_nil)))) (pss_one (ps_expr (pe_bm PySem.F.plainAttrs_list PySem.F.slot_list_append PySem.F.type_list_append mt_append (pv 5) (pa_cons (pe_tup (pa_cons (pv 8) (pa_cons (pv 10) (pa_cons (pv 9) pa_nil)))) pa_nil))))))))))))))))))
   (pss_one (ps_ret (pe_ix ix_list (pv 5) (pe_un un_neg pe_int) (fun _ _=>rfl)))))),?_⟩
 refine ⟨by show 14<=sizeLine; decide,fun kd hkd=>?_⟩
 have g1:=same_new hkd (.lst (kindsS.map V.str))
 have hS1:=g1.seq hS
 have hO1:=g1.seq hO
 refine ⟨_,rfl,_,rfl,_,rfl,sc,ns,(t:Int),rfl,hS1,by omega,fun c0=>?_⟩
 refine ⟨c0,3,40320,rfl,by decide,by decide,by decide,fun r0 _ _=>?_⟩
 obtain ⟨x0,hx0,hx0'⟩:=pick_letter o0 r0
 have pl:(0:Int) < ((os.map V.str).length:Nat):=by rw [List.length_map]; omega
 refine ⟨_,rfl,ol,_,rfl,.inl hO1,_,_,rfl,rfl,pl,ol,_,_,.str x0,rfl,rfl,hO1,hx0',by show 2<=sizeLine; decide,fun p0 hp0=>?_⟩
 refine ⟨by show 1<=sizeLine; decide,fun md hmd=>?_⟩
 have g2:=same_new hp0 (.tup [.str "mark", .str x0])
 have g3:=same_new hmd (.lst [.ref p0])
 have f0:H md=none:=(g1.trans g2).free hmd
 have nk:md≠kd:=Ne.symm (ne_of_none (g2 _ _ upd_same) hmd)
 have M0:Made H (upd (upd (upd H kd (.lst (kindsS.map V.str))) p0 (.tup [.str "mark", .str x0])) md (.lst [.ref p0])) os md kd [p0] 1:=by
  refine ⟨g1.trans (g2.trans g3),upd_same,g3 _ _ (g2 _ _ upd_same),by simp,fun p hp=>?_⟩
  have e:p=p0:=by simpa using hp
  subst e
  exact ⟨.mk x0,g3 _ _ upd_same,hx0,Nat.le_refl _⟩
 refine ⟨_,rfl,1,(m:Int),rfl,⟨by omega,by omega,by omega,by omega⟩,?_⟩
 refine for_range (fun i σ H'=>∃ (ps:List Addr) (f1 f2 f3 f4 f5 f6:Option V),Made H H' os md kd ps (i + 1)/\ps.length=i + 1/\σ=[some (.ref sc),some (.int t),some (.int m),some (.ref ol),some (.ref kd),some (.ref md),f1,f2,f3,f4,f5,f6])
  ⟨[p0],_,_,_,_,_,_,M0,rfl,rfl⟩ ?_ ?_
 ·rintro i σ H' hi ⟨ps,f1,f2,f3,f4,f5,f6,M,lp,rfl⟩
  have hS2:=M.old.seq hS
  have hO2:=M.old.seq hO
  have e1:(t:Int) + (1 + (i:Nat))=((t + (1 + i):Nat):Int):=by omega
  refine ⟨_,rfl,_,rfl,_,rfl,_,_,rfl,rfl,sc,ns,_,rfl,hS2,by omega,fun c=>?_⟩
  refine ⟨_,rfl,_,rfl,c,0,14,rfl,by decide,by decide,by decide,fun d d0 d1=>?_⟩
  obtain ⟨jk,vk,qk1,qk2⟩:=atI_has (xs:=kindsS.map V.str) (i:=d) (by show -((14:Nat):Int)<=d; omega) (by show d < ((14:Nat):Int); omega)
  obtain ⟨kind,hkm,hkv⟩:∃ kind,kind∈kindsS/\vk=.str kind:=by
   rw [List.getElem?_map] at qk2
   cases hx:kindsS[jk]? with
   | none=>rw [hx] at qk2; cases qk2
   | some x=>rw [hx] at qk2; cases qk2; exact ⟨x,List.mem_of_getElem? hx,rfl⟩
  subst hkv
  refine ⟨kd,_,_,_,rfl,rfl,SqL.of M.kin,qk1,?_⟩
  have lm:((ps.map V.ref).length:Nat)=i + 1:=by rw [List.length_map]; exact lp
  have pm:(0:Int) < ((ps.map V.ref).length:Nat):=by rw [lm]; omega
  refine ⟨_,rfl,1,rfl,_,rfl,c,1,2,rfl,by decide,by decide,by decide,fun d2 _ _=>?_⟩
  refine ⟨_,rfl,md,_,rfl,.inl (SqL.of M.mad),_,_,rfl,rfl,pm,_,_,rfl,rfl,?_⟩
  have a0:=Int.emod_nonneg d2 (show ((ps.map V.ref).length:Int)≠0 by omega)
  have a1:=Int.emod_lt_of_pos d2 pm
  obtain ⟨q1,hq1,hq1'⟩:=pick_made (ps:=ps) (i:=-1 - d2 % ((ps.map V.ref).length:Nat)) (by rw [lm] at a0 a1 ⊢; omega) (by rw [lm] at a0 a1 ⊢; omega)
  refine ⟨md,_,_,_,rfl,rfl,SqL.of M.mad,hq1',?_⟩
  refine ⟨_,rfl,_,rfl,c,2,60,rfl,by decide,by decide,by decide,fun d3 _ _=>?_⟩
  refine ⟨_,rfl,md,_,rfl,.inl (SqL.of M.mad),_,_,rfl,rfl,pm,?_⟩
  have b0:=Int.emod_nonneg d3 (show ((ps.map V.ref).length:Int)≠0 by omega)
  have b1:=Int.emod_lt_of_pos d3 pm
  obtain ⟨q2,hq2,hq2'⟩:=pick_made (ps:=ps) (i:=d3 % ((ps.map V.ref).length:Nat)) (by rw [lm] at b0 b1 ⊢; omega) (by rw [lm] at b0 b1 ⊢; omega)
  refine ⟨md,_,_,_,rfl,rfl,SqL.of M.mad,hq2',?_⟩
  refine ⟨_,rfl,_,rfl,c,3,40320,rfl,by decide,by decide,by decide,fun d4 _ _=>?_⟩
  obtain ⟨x,hx,hx'⟩:=pick_letter o0 d4
  refine ⟨_,rfl,ol,_,rfl,.inl hO2,_,_,rfl,rfl,pl,ol,_,_,.str x,rfl,rfl,hO2,hx',?_⟩
  obtain ⟨s1,s1i,s1o,s1d⟩:=M.all q1 hq1
  obtain ⟨s2,s2i,s2o,s2d⟩:=M.all q2 hq2
  have big:ps.length < sizeLine:=Nat.lt_of_le_of_lt (show ps.length<=100 by omega) (by decide)
  have bigV:(ps.map V.ref).length < sizeLine:=by rw [List.length_map]; exact big
  have mdu:∀ (p:Addr) (o:HO),H' p=none->(upd H' p o) md=some (.lst (ps.map V.ref)):=fun p o hp=>by rw [upd_ne (ne_of_none M.mad hp)]; exact M.mad
  have fin:∀ (p:Addr) (xs:List V) (s':Sn),H' p=none->IsS (upd H' p (.tup xs)) s' p->s'.inO os->s'.depth<=i + 1 + 1 ->
    ∃ (ps':List Addr) (f1 f2 f3 f4 f5 f6:Option V),Made H (upd (upd H' p (.tup xs)) md (.lst (ps.map V.ref ++ [.ref p]))) os md kd ps' (i + 1 + 1)/\ps'.length=i + 1 + 1 /\
     [some (.ref sc),some (.int t),some (.int m),some (.ref ol),some (.ref kd),some (.ref md),some (.int (1 + (i:Nat))),some (.int c),some (.str kind),some (.ref q1),some (.ref q2),some (.str x)]=[some (.ref sc),some (.int t),some (.int m),some (.ref ol),some (.ref kd),some (.ref md),f1,f2,f3,f4,f5,f6]:=fun p xs s' hp hs ho hd=>by
   have:=M.push f0 hp hs ho hd nk
   rw [List.map_append] at this
   exact ⟨ps ++ [p],_,_,_,_,_,_,this,by simp [lp],rfl⟩
  refine ⟨_,rfl,rfl,_,rfl,ite2 (fun c1=>?_) (fun c1=>?_)⟩
  ·have ek:kind="yes" := by have:=of_decide_eq_true c1; cases this; rfl
   subst ek
   refine iteT ⟨_,rfl,.inl ⟨rfl,_,SqL.of M.mad⟩,_,rfl,by show 1<=sizeLine; decide,fun p hp=>⟨md,_,_,rfl,rfl,mdu p _ hp,bigV,?_⟩⟩
   exact fin p _ (.c0 true) hp upd_same trivial (by show 1<=_; omega)
  have n1:kind ≠ "yes" := fun e=>c1 (decide_eq_true (by rw [e]))
  refine ⟨_,rfl,rfl,_,rfl,ite2 (fun c2=>?_) (fun c2=>?_)⟩
  ·have ek:kind="no" := by have:=of_decide_eq_true c2; cases this; rfl
   subst ek
   refine ⟨_,rfl,.inl ⟨rfl,_,SqL.of M.mad⟩,_,rfl,by show 1<=sizeLine; decide,fun p hp=>⟨md,_,_,rfl,rfl,mdu p _ hp,bigV,?_⟩⟩
   exact fin p _ (.c0 false) hp upd_same trivial (by show 1<=_; omega)
  have n2:kind ≠ "no" := fun e=>c2 (decide_eq_true (by rw [e]))
  refine ⟨_,rfl,rfl,_,rfl,ite2 (fun c3=>?_) (fun c3=>?_)⟩
  ·have ek:kind="mark" := by have:=of_decide_eq_true c3; cases this; rfl
   subst ek
   refine ⟨_,rfl,.inl ⟨rfl,_,SqL.of M.mad⟩,_,rfl,by show 2<=sizeLine; decide,fun p hp=>⟨md,_,_,rfl,rfl,mdu p _ hp,bigV,?_⟩⟩
   exact fin p _ (.mk x) hp upd_same hx (by show 1<=_; omega)
  have n3:kind ≠ "mark" := fun e=>c3 (decide_eq_true (by rw [e]))
  refine ⟨_,rfl,rfl,_,rfl,ite2 (fun c4=>?_) (fun c4=>?_)⟩
  ·have ek:kind="not" := by have:=of_decide_eq_true c4; cases this; rfl
   subst ek
   refine ⟨_,rfl,.inl ⟨rfl,_,SqL.of M.mad⟩,_,rfl,by show 2<=sizeLine; decide,fun p hp=>⟨md,_,_,rfl,rfl,mdu p _ hp,bigV,?_⟩⟩
   exact fin p _ (.nt s1) hp ⟨q1,upd_same,s1i.mono (Tups.new hp _)⟩ s1o (by show 1 + s1.depth<=_; omega)
  have n4:kind ≠ "not" := fun e=>c4 (decide_eq_true (by rw [e]))
  refine ⟨_,rfl,rfl,_,rfl,ite2 (fun c5=>?_) (fun c5=>?_)⟩
  ·have ek:kind="some" := by have:=of_decide_eq_true c5; cases this; rfl
   subst ek
   refine iteT ⟨_,rfl,.inl ⟨rfl,_,SqL.of M.mad⟩,_,rfl,_,rfl,_,rfl,by show 3<=sizeLine; decide,fun p hp=>⟨md,_,_,rfl,rfl,mdu p _ hp,bigV,?_⟩⟩
   exact fin p _ (.q1 true x s1) hp ⟨q1,upd_same,s1i.mono (Tups.new hp _)⟩ ⟨hx,s1o⟩ (by show 1 + s1.depth<=_; omega)
  have n5:kind ≠ "some" := fun e=>c5 (decide_eq_true (by rw [e]))
  refine ⟨_,rfl,rfl,_,rfl,ite2 (fun c6=>?_) (fun c6=>?_)⟩
  ·have ek:kind="each" := by have:=of_decide_eq_true c6; cases this; rfl
   subst ek
   refine ⟨_,rfl,.inl ⟨rfl,_,SqL.of M.mad⟩,_,rfl,_,rfl,_,rfl,by show 3<=sizeLine; decide,fun p hp=>⟨md,_,_,rfl,rfl,mdu p _ hp,bigV,?_⟩⟩
   exact fin p _ (.q1 false x s1) hp ⟨q1,upd_same,s1i.mono (Tups.new hp _)⟩ ⟨hx,s1o⟩ (by show 1 + s1.depth<=_; omega)
  have n6:kind ≠ "each" := fun e=>c6 (decide_eq_true (by rw [e]))
  obtain ⟨o,ho⟩:∃ o:Fin 4,kind=w2 o:=by
   have:kind∈([Str.ofString "mark", Str.ofString "mark", Str.ofString "not", Str.ofString "and", Str.ofString "or", Str.ofString "either", Str.ofString "if", Str.ofString "and", Str.ofString "or", Str.ofString "some", Str.ofString "each", Str.ofString "yes", Str.ofString "no", Str.ofString "mark"]:List Str):=hkm
   simp only [List.mem_cons,List.not_mem_nil,or_false] at this
   rcases this with h | h | h | h | h | h | h | h | h | h | h | h | h | h <;> first | exact absurd h n1 | exact absurd h n2 | exact absurd h n3 | exact absurd h n4 | exact absurd h n5 | exact absurd h n6 | exact ⟨0,h⟩ | exact ⟨1,h⟩ | exact ⟨2,h⟩ | exact ⟨3,h⟩
  subst ho
  refine ⟨_,rfl,.inl ⟨rfl,_,SqL.of M.mad⟩,_,rfl,_,rfl,_,rfl,by show 3<=sizeLine; decide,fun p hp=>⟨md,_,_,rfl,rfl,mdu p _ hp,bigV,?_⟩⟩
  exact fin p _ (.b2 o s2 s1) hp ⟨q2,q1,upd_same,s2i.mono (Tups.new hp _),s1i.mono (Tups.new hp _)⟩ ⟨s2o,s1o⟩ (by show 1 + max s2.depth s1.depth<=_; omega)
 ·rintro σ H' ⟨ps,f1,f2,f3,f4,f5,f6,M,lp,rfl⟩
  obtain ⟨p,hp,hp'⟩:=pick_made (ps:=ps) (i:=-1) (by omega) (by omega)
  obtain ⟨s',z1,z2,z3⟩:=M.all p hp
  have e:((m:Int) - 1).toNat + 1=m:=by omega
  rw [e] at z3
  exact ⟨_,rfl,1,rfl,md,_,-1,_,rfl,rfl,SqL.of M.mad,hp',q p H' s' M.old z1 z2 z3⟩
theorem ok_is_mark (T:Txt P w K mg a):FnOk P w K mg base CX0 (k + 1) a.zo a.zo0 ["letter"] spIsMark:=by
 refine T.zv8.ok zE9 (fun vs H Q E h=>?_) (fun cdv A outer s H vs Q E hr h=>?_)
 ·obtain ⟨x,rfl,_⟩:=h
  rfl
 obtain ⟨x,rfl,q⟩:=h
 refine ⟨_,(pss_one (ps_ret (pe_cmpR op_in_seq (pv 0) (pe_glob (v:=.ref a.zo1) rfl T.m_MARKS rfl) (by with_unfolding_all rfl)))),?_⟩
 refine ⟨_,rfl,a.zo1,letts.map V.str,rfl,.inr (T.q_MARKS H),rfl,flat_strs _,?_⟩
 show Q (.bl (inV (.str x) (letts.map V.str))) H
 rw [inV_strs]
 exact q
theorem ok_is_order (T:Txt P w K mg a) (zz6:FnOk P w K mg base CX0 k a.zo a.zo0 ["letter"] spIsMark):FnOk P w K mg base CX0 (k + 1) a.zt8 a.zt9 ["order"] (spIsOrder K):=by
 refine T.zy1.ok zE3 (fun vs H Q E h=>?_) (fun cdv A outer s H vs Q E hr h=>?_)
 ·obtain ⟨l,os,rfl,_⟩:=h
  rfl
 obtain ⟨l,os,rfl,hq,h100,q⟩:=h
 refine ⟨_,(pss_one (ps_ret (pe_and (pe_cmpR op_gt (pe_callB call_len_seq rfl T.n_len bt_len (pa_cons (pv 0) pa_nil)) pe_int (nomark _)) (pe_and (pe_callB (call_all rfl) rfl T.n_all bt_all (pa_cons (pe_lc0 (osc:=defScope zo4) (js:=[]) rfl (by show LcOk (defScope zo4) _ "letter" []; exact ⟨rfl,by decide +kernel,by decide +kernel,rfl,by decide +kernel,by decide +kernel,by decide +kernel⟩) rfl (pi_list (pv 0)) (by show ∀ j∈([]:List Nat),j < 1; decide) (fun cl C s₂ H₂ fp=>(pe_call zz6 hr rfl T.m_is_mark T.zv8.2 T.b_is_mark .nil pass0 (pa_cons (pv 0) pa_nil)))) pa_nil)) (pe_one (pe_cmpR op_eq (pe_callB call_len_set' rfl T.n_len bt_len (pa_cons (pe_callTy (call_set rfl) rfl T.n_set bt_set (pa_cons (pv 0) pa_nil)) pa_nil)) (pe_callB call_len_seq rfl T.n_len bt_len (pa_cons (pv 0) pa_nil)) (nomark _))))))),?_⟩
 have hlen:(os.map V.str).length=os.length:=List.length_map _
 refine ⟨_,rfl,l,_,rfl,.inl hq,_,_,rfl,rfl,_,rfl,ite2 (fun c=>?_) (fun c=>?_)⟩
 ·have c':0 < os.length:=by have:=of_decide_eq_true c; rw [hlen] at this; omega
  refine ⟨_,rfl,l,rfl,⟨_,hq⟩,lc_relL (fun x v=>v=(match x with | .str y=>.bl (decide (y∈letts)) | _=>.non)) hq (by rw [hlen]; exact Nat.le_of_lt (small1000 (by omega))) ?_ (mono1 mono_isMark) ?_⟩
  ·intro i x H' hx g
   rw [List.getElem?_map] at hx
   cases ho:os[i]? with
   | none=>rw [ho] at hx; cases hx
   | some y =>
    rw [ho] at hx
    cases hx
    exact ⟨_,rfl,y,rfl,rfl,g⟩
  ·intro ys H' p hr' g hp
   have e:=pd_map (f:=fun x=>match x with | .str y=>.bl (decide (y∈letts)) | _=>.non) hr'
   rw [List.map_map] at e
   have e2:ys=(os.map fun y=>decide (y∈letts)).map V.bl:=by rw [e,List.map_map]; rfl
   subst e2
   have g1:=Same.new hp (.lst ((os.map fun y=>decide (y∈letts)).map V.bl))
   refine ⟨p,_,rfl,SqL.of upd_same,_,rfl,ite2 (fun c2=>?_) (fun c2=>?_)⟩
   ·have hq2:=(g.trans g1).seq hq
    refine ⟨_,rfl,l,os,rfl,hq2,h100,fun z hz=>⟨z,_,rfl,upd_same,?_⟩⟩
    have g2:=Same.new hz (SetN P w z (dd os).length)
    refine ⟨_,rfl,l,_,rfl,.inl (g2.seq hq2),rfl,?_⟩
    have e3:decide (V.int ((dd os).length:Nat)=V.int ((os.map V.str).length:Nat))=ordB os:=by
     unfold ordB
     have c2':os.all (fun x=>decide (x∈letts))=true:=by rw [List.all_map] at c2; exact c2
     rw [decide_eq_true c',c2',hlen]
     by_cases nd:os.Nodup
     ·rw [decide_eq_true nd,dd_nodup nd]; simp
     ·have:=dd_dup nd
      rw [decide_eq_false nd,decide_eq_false (fun z=>by injection z with z; omega)]; rfl
    rw [e3]
    exact q _ ((g.trans g1).trans g2)
   ·have e4:ordB os=false:=by
     unfold ordB
     have c2':os.all (fun x=>decide (x∈letts))=false:=by
      rw [List.all_map] at c2
      exact Bool.eq_false_iff.mpr c2
     rw [c2',Bool.false_and,Bool.and_false]
    rw [← e4]
    exact q _ (g.trans g1)
 ·have e4:ordB os=false:=by
   unfold ordB
   rw [decide_eq_false (fun z=>c (decide_eq_true (by rw [hlen]; omega))),Bool.false_and]
  rw [← e4]
  exact q _ (Same.refl _)
theorem ok_letters_of (T:Txt P w K mg a):FnOk P w K mg base CX0 (k + 1) a.zg8 a.zg9 ["sentence"] spLettersOf:=by
 refine T.zp7.ok zC7 (fun vs H Q E h=>?_) (fun cdv A outer s H vs Q E hr h=>?_)
 ·obtain ⟨p,x,m,n,rest,rfl,_⟩:=h
  rfl
 obtain ⟨p,x,m,n,rest,rfl,hp,hm,hl,q⟩:=h
 refine ⟨_,(pss_one (ps_ret (pe_slice sl_tup (pv 0) (po_some pe_int) (po_some (pe_op op_add pe_int (pe_ix ix_tup (pe_ix (ix_dicK T.zv5) (pe_glob (v:=.ref a.zg0) rfl T.m_SHAPES rfl) (pe_ix ix_tup (pv 0) pe_int (fun _ _=>rfl)) (fun _ _=>rfl)) pe_int (fun _ _=>rfl))))))),?_⟩
 obtain ⟨pt,hv,hpt⟩:=T.y_SHAPES x m n hm
 refine ⟨_,rfl,1,rfl,_,rfl,p,_,0,_,rfl,rfl,SqT.of hp,at0,x,.ref pt,.ref pt,rfl,rfl,hv,rfl,pt,_,0,_,rfl,rfl,hpt H,at0,1,(m:Int),rfl,rfl,_,rfl,p,_,rfl,SqT.of hp,not_whole1 (by decide),fun z hz=>?_⟩
 rw [cut_fore hl]
 exact q z hz
theorem ok_parts_of (T:Txt P w K mg a):FnOk P w K mg base CX0 (k + 1) a.zf2 a.zf3 ["sentence"] spPartsOf:=by
 refine T.zp8.ok zE4 (fun vs H Q E h=>?_) (fun cdv A outer s H vs Q E hr h=>?_)
 ·obtain ⟨p,x,m,n,rest,rfl,_⟩:=h
  rfl
 obtain ⟨p,x,m,n,rest,rfl,hp,hm,hl,q⟩:=h
 refine ⟨_,(pss_one (ps_ret (pe_slice sl_tup (pv 0) (po_some (pe_op op_add pe_int (pe_ix ix_tup (pe_ix (ix_dicK T.zv5) (pe_glob (v:=.ref a.zg0) rfl T.m_SHAPES rfl) (pe_ix ix_tup (pv 0) pe_int (fun _ _=>rfl)) (fun _ _=>rfl)) pe_int (fun _ _=>rfl)))) po_none))),?_⟩
 obtain ⟨pt,hv,hpt⟩:=T.y_SHAPES x m n hm
 refine ⟨_,rfl,_,rfl,p,_,0,_,rfl,rfl,SqT.of hp,at0,x,.ref pt,.ref pt,rfl,rfl,hv,rfl,pt,_,0,_,rfl,rfl,hpt H,at0,1,(m:Int),rfl,rfl,_,rfl,p,_,rfl,SqT.of hp,not_whole1 (by omega),fun z hz=>?_⟩
 rw [cut_rear hl]
 exact q z hz
theorem ok_parts_of_all (T:Txt P w K mg a) (zf8:FnOk P w K mg base CX0 k a.zf2 a.zf3 ["sentence"] spPartsOf):FnOk P w K mg base CX0 (k + 1) a.zh a.zh0 ["level"] (spPartsOfAll K):=by
 refine T.zl1.ok zp (fun vs H Q E h=>?_) (fun cdv A outer s H vs Q E hr h=>?_)
 ·obtain ⟨l,ss,ps,rfl,_⟩:=h
  rfl
 obtain ⟨l,ss,ps,rfl,hl,hp,hz,q⟩:=h
 refine ⟨_,(pss_cons (ps_set (i:=1) zp.nd rfl (Or.inl rfl) (pe_lst pa_nil))
   (pss_cons (ps_for PassesOwn.never rfl (pi_list (pv 0)) (pg_name (i:=2) zp.nd rfl (Or.inl rfl)) (pss_one (ps_expr (pe_bm PySem.F.plainAttrs_list PySem.F.slot_list_extend PySem.F.type_list_extend mt_extendT (pv 1) (pa_cons (pe_call zf8 hr rfl T.m_parts_of T.zp8.2 T.b_parts_of .nil pass0 (pa_cons (pv 2) pa_nil)) pa_nil)))))
   (pss_one (ps_ret (pv 1))))),?_⟩
 have pl:=pd_len hp
 refine ⟨by show 0<=sizeLine; decide,fun f hf=>?_⟩
 have g0:=Same.new hf (.lst [])
 refine ⟨_,rfl,l,rfl,⟨_,g0.seq hl⟩,?_⟩
 refine for_list (xs:=ps.map V.ref) (fun i σ H'=>∃ (qs:List Addr) (f1:Option V),Same H H'/\H' f=some (.lst (qs.map V.ref))/\Paired (IsS H') ((ss.take i).flatMap Sn.parts) qs/\qs.length<=2 * i/\i<=ss.length/\σ=[some (.ref l),some (.ref f),f1])
  ⟨[],_,g0,upd_same,.nil,by simp,Nat.zero_le _,rfl⟩ ?_ ?_ ?_
 ·rintro i σ H' _ ⟨qs,f1,g,_⟩
  exact g.seq hl
 ·rintro i x σ H' hx ⟨qs,f1,g,hf',hqs,lq,li,rfl⟩
  rw [List.getElem?_map] at hx
  cases ho:ps[i]? with
  | none=>rw [ho] at hx; cases hx
  | some p =>
   rw [ho] at hx
   cases hx
   obtain ⟨sn,hsn,isp⟩:=pd_ta hp ho
   have hlt:=(List.getElem?_eq_some_iff.mp hsn).1
   obtain ⟨zs,c1,c2,c3,c4,c5⟩:=sen_cut (isp.mono (Tups.of g))
   have lz:=pd_len c2
   have lp2:=Sn.parts_le sn
   refine ⟨_,rfl,.inl ⟨rfl,_,SqL.of hf'⟩,_,rfl,p,sn.word,sn.letters.length,sn.parts.length,_,rfl,c1,shape_in sn,c3,fun b hb=>?_⟩
   rw [c5]
   have nfb:f≠b:=ne_of_none hf' hb
   have hf2:(upd H' b (.tup (zs.map V.ref))) f=some (.lst (qs.map V.ref)):=by rw [upd_ne nfb]; exact hf'
   refine ⟨f,b,qs.map V.ref,zs.map V.ref,rfl,rfl,hf2,?_,?_,?_⟩
   ·exact SqT.of upd_same
   ·rw [List.length_map,List.length_map]
    exact Nat.le_of_lt (small1000 (by omega))
   ·refine ⟨qs ++ zs,_,(g.trans (Same.new hb _)).over hf _,by rw [upd_same,List.map_append],?_,?_,hlt,rfl⟩
    ·rw [take_next hsn,List.flatMap_append,List.flatMap_singleton]
     have t1:Tups H' (upd (upd H' b (.tup (zs.map V.ref))) f (.lst (qs.map V.ref ++ zs.map V.ref))):=(Tups.new hb _).trans (Tups.lst hf2 _)
     exact pd_app (pd_imp (fun _ _ z=>z.mono t1) hqs) (pd_imp (fun _ _ z=>z.mono t1) c2)
    ·rw [List.length_append]; omega
 ·rintro σ H' ⟨qs,f1,g,hf',hqs,lq,li,rfl⟩
  rw [List.length_map,← pl,List.take_length] at hqs
  exact ⟨_,rfl,q f H' qs g hf hf' hqs⟩
theorem ok_is_shaped (T:Txt P w K mg a) (zz6:FnOk P w K mg base CX0 k a.zo a.zo0 ["letter"] spIsMark) (zv6:FnOk P w K mg base CX0 k a.zg8 a.zg9 ["sentence"] spLettersOf) (zf8:FnOk P w K mg base CX0 k a.zf2 a.zf3 ["sentence"] spPartsOf) :
  FnOk P w K mg base CX0 (k + 1) a.zr3 a.zr4 ["some"] spShaped:=by
 refine T.zx.ok zz1 (fun vs H Q E h=>?_) (fun cdv A outer s H vs Q E hr h=>?_)
 ·obtain ⟨p,s,rfl,_⟩:=h
  rfl
 obtain ⟨p,sn,rfl,isp,hle,q⟩:=h
 refine ⟨_,(pss_cons (ps_if (PW.pt (pw_or (pt_cmpR op_eq (pe_callB call_len_seq rfl T.n_len bt_len (pa_cons (pv 0) pa_nil)) pe_int (nomark _)) (pw_or (pt_not (pt_truth (pe_callB call_isinst rfl T.n_isinstance bt_isinstance (pa_cons (pe_ix ix_tup (pv 0) pe_int (fun _ _=>rfl)) (pa_cons (pe_bltn (v:=.ty "str") rfl T.n_str bt_str rfl) pa_nil))) (fun _=>rfl))) (pw_or1 (pt_cmpR (op_notIn_dicK T.zv5) (pe_ix ix_tup (pv 0) pe_int (fun _ _=>rfl)) (pe_glob (v:=.ref a.zg0) rfl T.m_SHAPES rfl) (by with_unfolding_all rfl)))))) (pss_one (ps_ret pe_bl)) pss_nil)
   (pss_cons (ps_set (i:=1) zz1.nd rfl (Or.inl rfl) (pe_ix (ix_dicK T.zv5) (pe_glob (v:=.ref a.zg0) rfl T.m_SHAPES rfl) (pe_ix ix_tup (pv 0) pe_int (fun _ _=>rfl)) (fun _ _=>rfl)))
   (pss_cons (ps_if (pt_cmpR op_ne (pe_callB call_len_seq rfl T.n_len bt_len (pa_cons (pv 0) pa_nil)) (pe_op op_add (pe_op op_add pe_int (pe_ix ix_tup (pv 1) pe_int (fun _ _=>rfl))) (pe_ix ix_tup (pv 1) pe_int (fun _ _=>rfl))) (nomark _)) (pss_one (ps_ret pe_bl)) pss_nil)
   (pss_cons (ps_if (pt_not (pt_truth (pe_callB (call_all rfl) rfl T.n_all bt_all (pa_cons (pe_lc0 (osc:=defScope zg) (js:=[]) rfl (by show LcOk (defScope zg) _ "letter" []; exact ⟨rfl,by decide +kernel,by decide +kernel,rfl,by decide +kernel,by decide +kernel,by decide +kernel⟩) rfl (pi_tup (pe_call zv6 hr rfl T.m_letters_of T.zp7.2 T.b_letters_of .nil pass0 (pa_cons (pv 0) pa_nil))) (by show ∀ j∈([]:List Nat),j < 2; decide) (fun cl C s₂ H₂ fp=>(pe_call zz6 hr rfl T.m_is_mark T.zv8.2 T.b_is_mark .nil pass0 (pa_cons (pv 0) pa_nil)))) pa_nil)) (fun _=>rfl))) (pss_one (ps_ret pe_bl)) pss_nil)
   (pss_one (ps_ret (pe_callB (call_all rfl) rfl T.n_all bt_all (pa_cons (pe_lc0 (osc:=defScope zg) (js:=[]) rfl (by show LcOk (defScope zg) _ "part" []; exact ⟨rfl,by decide +kernel,by decide +kernel,rfl,by decide +kernel,by decide +kernel,by decide +kernel⟩) rfl (pi_tup (pe_call zf8 hr rfl T.m_parts_of T.zp8.2 T.b_parts_of .nil pass0 (pa_cons (pv 0) pa_nil))) (by show ∀ j∈([]:List Nat),j < 2; decide) (fun cl C s₂ H₂ fp=>(pe_callB (call_isinstK (K:=K) rfl) rfl T.n_isinstance bt_isinstance (pa_cons (pv 0) (pa_cons (pe_bltn (v:=.ty "tuple") rfl T.n_tuple bt_tuple rfl) pa_nil))))) pa_nil)))))))),?_⟩
 obtain ⟨zs,c1,c2,c3,c4,c5⟩:=sen_cut isp
 have lz:=pd_len c2
 obtain ⟨pt,hv,hpt⟩:=T.y_SHAPES _ _ _ (shape_in sn)
 have lp2:=Sn.parts_le sn
 have ll1:=Sn.letters_le sn
 refine ⟨_,rfl,p,_,rfl,.inr (SqT.of c1),rfl,_,rfl,ite2 (fun c=>?_) (fun _=>?_)⟩
 ·exfalso
  have:=of_decide_eq_true c
  injection this with this
  rw [List.length_cons] at this
  omega
 refine ⟨_,rfl,p,_,0,_,rfl,rfl,SqT.of c1,at0,_,_,_,true,rfl,.str sn.word,rfl,_,rfl,iteF ?_⟩
 refine ⟨_,rfl,p,_,0,_,rfl,rfl,SqT.of c1,at0,sn.word,rfl,rfl,_,rfl,?_⟩
 rw [hv]
 refine iteF ?_
 refine ⟨_,rfl,p,_,0,_,rfl,rfl,SqT.of c1,at0,sn.word,.ref pt,.ref pt,rfl,rfl,hv,rfl,?_⟩
 refine ⟨_,rfl,p,_,rfl,.inr (SqT.of c1),_,rfl,pt,_,0,_,rfl,rfl,hpt H,at0,1,_,rfl,rfl,_,rfl,pt,_,1,_,rfl,rfl,hpt H,at1,_,_,rfl,rfl,rfl,_,rfl,ite2 (fun c=>?_) (fun _=>?_)⟩
 ·exfalso
  have z:V.int ((VC sn zs).length:Nat)=V.int (1 + ((sn.letters.length:Nat):Int) + ((sn.parts.length:Nat):Int)):=by
   congr 1
   show (((V.str sn.word :: (sn.letters.map V.str ++ zs.map V.ref)).length:Nat):Int)=_
   rw [List.length_cons,c3]
   omega
  have c':(!decide (V.int ((VC sn zs).length:Nat)=V.int (1 + ((sn.letters.length:Nat):Int) + ((sn.parts.length:Nat):Int))))=true:=c
  rw [decide_eq_true z] at c'
  cases c'
 refine ⟨_,rfl,p,sn.word,sn.letters.length,sn.parts.length,_,rfl,c1,shape_in sn,c3,fun b hb=>?_⟩
 rw [c4]
 have g1:=Same.new hb (.tup (sn.letters.map V.str))
 refine ⟨b,rfl,⟨_,SqT.of upd_same⟩,lc_relT (xs:=sn.letters.map V.str) (fun _ v=>v=.bl true) (SqT.of upd_same) (by rw [List.length_map]; exact Nat.le_of_lt (small1000 (by omega))) ?_ (mono1 mono_isMark) ?_⟩
 ·intro i x H' hx g
  rw [List.getElem?_map] at hx
  cases ho:sn.letters[i]? with
  | none=>rw [ho] at hx; cases hx
  | some y =>
   rw [ho] at hx
   cases hx
   refine ⟨_,rfl,y,rfl,?_,g⟩
   rw [decide_eq_true (hle y (List.mem_of_getElem? ho))]
 intro ys H' p2 hr' g hp2
 have e:=pd_map (f:=fun _=>.bl true) hr'
 have e2:ys=(sn.letters.map fun _=>true).map V.bl:=by rw [e,List.map_map,List.map_map]; rfl
 subst e2
 have g2:=Same.new hp2 (.lst ((sn.letters.map fun _=>true).map V.bl))
 have ea:(sn.letters.map fun _=>true).all id=true:=by rw [List.all_map,List.all_eq_true]; exact fun _ _=>rfl
 refine ⟨p2,_,rfl,SqL.of upd_same,_,rfl,?_⟩
 rw [ea]
 refine iteF ?_
 have gg:=(g1.trans g).trans g2
 have c1':=gg _ _ c1
 refine ⟨_,rfl,p,sn.word,sn.letters.length,sn.parts.length,_,rfl,c1',shape_in sn,c3,fun b3 hb3=>?_⟩
 rw [c5]
 have g3:=Same.new hb3 (.tup (zs.map V.ref))
 refine ⟨b3,rfl,⟨_,SqT.of upd_same⟩,lc_relT (xs:=zs.map V.ref) (fun _ v=>v=.bl true) (SqT.of upd_same) (by rw [List.length_map]; exact Nat.le_of_lt (small1000 (by omega))) ?_ ?_ ?_⟩
 ·intro i x H4 hx g4
  rw [List.getElem?_map] at hx
  cases ho:zs[i]? with
  | none=>rw [ho] at hx; cases hx
  | some y =>
   rw [ho] at hx
   cases hx
   obtain ⟨sy,_,iy⟩:=pd_ta c2 ho
   obtain ⟨ws,d1,_⟩:=sen_cut iy
   have d1':=((gg.trans g3).trans g4) _ _ d1
   exact ⟨_,rfl,_,_,_,true,rfl,.tup d1',rfl,rfl,g4⟩
 ·rintro σ' H' Q1 Q2 hQ ⟨v,e,x,T',t,b',h1,h2,h3,h4⟩
  exact ⟨v,e,x,T',t,b',h1,h2,h3,hQ _ _ h4⟩
 ·intro ys H4 p4 hr4 g4 hp4
  have e:=pd_map (f:=fun _=>.bl true) hr4
  have e2:ys=(zs.map fun _=>true).map V.bl:=by rw [e,List.map_map,List.map_map]; rfl
  subst e2
  have ea:(zs.map fun _=>true).all id=true:=by rw [List.all_map,List.all_eq_true]; exact fun _ _=>rfl
  refine ⟨p4,_,rfl,SqL.of upd_same,?_⟩
  rw [ea]
  exact q _ (((gg.trans g3).trans g4).trans (Same.new hp4 _))
theorem ok_is_sentence (T:Txt P w K mg a) (zE6:FnOk P w K mg base CX0 k a.zr3 a.zr4 ["some"] spShaped) (zr:FnOk P w K mg base CX0 k a.zh a.zh0 ["level"] (spPartsOfAll K)) :
  FnOk P w K mg base CX0 (k + 1) a.zm1 a.zm2 ["some"] spIsSen:=by
 refine T.zt0.ok zc0 (fun vs H Q E h=>?_) (fun cdv A outer s H vs Q E hr h=>?_)
 ·obtain ⟨p,s,rfl,_⟩:=h
  rfl
 obtain ⟨p,sn,rfl,isp,hin,hc,hd,q⟩:=h
 refine ⟨_,(pss_cons (ps_set (i:=1) zc0.nd rfl (Or.inl rfl) (pe_lst (pa_cons (pv 0) pa_nil)))
   (pss_cons (ps_set (i:=2) zc0.nd rfl (Or.inl rfl) pe_int)
   (pss_cons (ps_set (i:=3) zc0.nd rfl (Or.inl rfl) pe_int)
   (pss_cons (ps_while PassesOwn.never (pt_cmpR op_gt (pe_callB call_len_seq rfl T.n_len bt_len (pa_cons (pv 1) pa_nil)) pe_int (nomark _)) (pss_cons (ps_aug (i:=2) zc0.nd rfl (Or.inl rfl) pe_int iop_add)
   (pss_cons (ps_aug (i:=3) zc0.nd rfl (Or.inl rfl) (pe_callB call_len_seq rfl T.n_len bt_len (pa_cons (pv 1) pa_nil)) iop_add)
   (pss_cons (ps_if (PW.pt (pw_or (pt_cmpR op_gt (pv 2) (pe_glob (v:=.int 24) rfl T.m_MOST_DEEP ⟨_,rfl⟩) (nomark _)) (pw_or1 (pt_cmpR op_gt (pv 3) (pe_glob (v:=.int 200) rfl T.m_MOST_TUPLES ⟨_,rfl⟩) (nomark _))))) (pss_one (ps_ret pe_bl)) pss_nil)
   (pss_cons (ps_if (pt_not (pt_truth (pe_callB (call_all rfl) rfl T.n_all bt_all (pa_cons (pe_lc0 (osc:=defScope zi0) (js:=[]) rfl (by show LcOk (defScope zi0) _ "part" []; exact ⟨rfl,by decide +kernel,by decide +kernel,rfl,by decide +kernel,by decide +kernel,by decide +kernel⟩) rfl (pi_list (pv 1)) (by show ∀ j∈([]:List Nat),j < 4; decide) (fun cl C s₂ H₂ fp=>(pe_call zE6 hr rfl T.m_is_shaped T.zx.2 T.b_is_shaped .nil pass0 (pa_cons (pv 0) pa_nil)))) pa_nil)) (fun _=>rfl))) (pss_one (ps_ret pe_bl)) pss_nil)
   (pss_one (ps_set (i:=1) zc0.nd rfl (Or.inl rfl) (pe_call zr hr rfl T.m_parts_of_all T.zl1.2 T.b_parts_of_all .nil pass0 (pa_cons (pv 1) pa_nil)))))))))
   (pss_one (ps_ret pe_bl)))))),?_⟩
 refine ⟨_,rfl,by show 1<=sizeLine; decide,fun l0 hl0=>?_⟩
 have g0:=Same.new hl0 (.lst [.ref p])
 refine ⟨fun m σ H'=>∃ (ss:List Sn) (ps:List Addr) (l:Addr) (d t:Nat),m=cnt ss/\Same H H'/\H' l=some (.lst (ps.map V.ref))/\Paired (IsS H') ss ps/\(∀ u∈ss,u.inO letts/\d + u.depth<=24)/\t + cnt ss<=200/\σ=[some (.ref p),some (.ref l),some (.int d),some (.int t)],
  ⟨_,[sn],[p],l0,0,0,rfl,g0,upd_same,.cons (isp.mono (Tups.of g0)) .nil,?_,?_,rfl⟩,?_⟩
 ·intro u hu
  have e:u=sn:=by simpa using hu
  subst e
  exact ⟨hin,by omega⟩
 ·show 0 + (sn.count + 0)<=200
  omega
 rintro m σ H' ⟨ss,ps,l,d,t,rfl,g,hl,hp,hi,ht,rfl⟩
 have lp:=pd_len hp
 have le:(ps.map V.ref).length=ss.length:=by rw [List.length_map]; exact lp.symm
 have cl:=cnt_len ss
 refine ⟨_,rfl,l,_,rfl,.inl (SqL.of hl),_,_,rfl,rfl,_,rfl,ite2 (fun c=>?_) (fun c=>?_)⟩
 ·have c':0 < ss.length:=by have:=of_decide_eq_true c; rw [le] at this; omega
  have hd1:d + 1<=24:=by
   have hm:ss[0]∈ss:=List.getElem_mem c'
   have:=(hi _ hm).2
   have:=Sn.depth_pos ss[0]
   omega
  refine ⟨_,fun σ' H2 h=>h,?_⟩
  refine ⟨_,rfl,(d:Int),1,rfl,rfl,?_⟩
  refine ⟨_,rfl,_,rfl,l,_,rfl,.inl (SqL.of hl),(t:Int),_,rfl,rfl,?_⟩
  refine ⟨_,rfl,_,_,rfl,rfl,_,rfl,ite2 (fun c2=>?_) (fun _=>?_)⟩
  ·exfalso
   have:=of_decide_eq_true c2
   omega
  refine ⟨_,rfl,_,_,rfl,rfl,_,rfl,ite2 (fun c2=>?_) (fun _=>?_)⟩
  ·exfalso
   have:=of_decide_eq_true c2
   rw [le] at this
   omega
  refine ⟨_,rfl,l,rfl,⟨_,SqL.of hl⟩,lc_relL (fun _ v=>v=.bl true) (SqL.of hl) (by rw [le]; exact Nat.le_of_lt (small1000 (by omega))) ?_ (mono1 mono_shaped) ?_⟩
  ·intro i x H2 hx g2
   rw [List.getElem?_map] at hx
   cases ho:ps[i]? with
   | none=>rw [ho] at hx; cases hx
   | some y =>
    rw [ho] at hx
    cases hx
    obtain ⟨sy,hsy,iy⟩:=pd_ta hp ho
    exact ⟨_,rfl,y,sy,rfl,iy.mono (Tups.of g2),Sn.inO_letters sy (hi sy (List.mem_of_getElem? hsy)).1,fun H3 g3=>⟨rfl,g2.trans g3⟩⟩
  intro ys H2 p2 hr' g2 hp2
  have e:=pd_map (f:=fun _=>.bl true) hr'
  have e2:ys=(ps.map fun _=>true).map V.bl:=by rw [e,List.map_map,List.map_map]; rfl
  subst e2
  have g3:=Same.new hp2 (.lst ((ps.map fun _=>true).map V.bl))
  have ea:(ps.map fun _=>true).all id=true:=by rw [List.all_map,List.all_eq_true]; exact fun _ _=>rfl
  refine ⟨p2,_,rfl,SqL.of upd_same,_,rfl,?_⟩
  rw [ea]
  refine iteF ?_
  have gg:=g2.trans g3
  refine ⟨_,rfl,l,ss,ps,rfl,gg.seq (SqL.of hl),pd_imp (fun _ _ z=>z.mono (Tups.of gg)) hp,by omega,fun l' H4 ps' g4 hn hl' hp'=>?_⟩
  have cp:=cnt_parts ss
  refine ⟨cnt (ss.flatMap Sn.parts),by omega,ss.flatMap Sn.parts,ps',l',d + 1,t + (ps.map V.ref).length,rfl,(g.trans gg).trans g4,hl',hp',?_,by omega,rfl⟩
  intro u hu
  obtain ⟨s',hs',hu'⟩:=mem_level.mp hu
  obtain ⟨i1,i2⟩:=hi s' hs'
  have:=Sn.depth_parts s' u hu'
  exact ⟨Sn.inO_parts s' i1 u hu',by omega⟩
 ·exact q _ g
theorem ok_must_be_order (T:Txt P w K mg a) (zF:FnOk P w K mg base CX0 k a.zt8 a.zt9 ["order"] (spIsOrder K)):FnOk P w K mg base CX0 (k + 1) a.zj2 a.zj3 ["order"] (spMustOrder K):=by
 refine T.zp9.ok zA9 (fun vs H Q E h=>?_) (fun cdv A outer s H vs Q E hr h=>?_)
 ·obtain ⟨l,os,rfl,_⟩:=h
  rfl
 obtain ⟨l,os,rfl,hq,ho,q⟩:=h
 refine ⟨_,(pss_one (ps_if (pt_not (pt_truth (pe_call zF hr rfl T.m_is_order T.zy1.2 T.b_is_order .nil pass0 (pa_cons (pv 0) pa_nil)) (fun _=>rfl))) (pss_one ps_never) pss_nil)),?_⟩
 refine ⟨_,rfl,l,os,rfl,hq,Nat.le_trans ho.le (by decide),fun H' g=>⟨_,rfl,?_⟩⟩
 rw [ordB_of ho]
 exact iteF (q H' g)
theorem ok_must_be_sentence (T:Txt P w K mg a) (zD0:FnOk P w K mg base CX0 k a.zm1 a.zm2 ["some"] spIsSen):FnOk P w K mg base CX0 (k + 1) a.zf4 a.zf5 ["some"] spMustSen:=by
 refine T.zk4.ok zy7 (fun vs H Q E h=>?_) (fun cdv A outer s H vs Q E hr h=>?_)
 ·obtain ⟨p,s,rfl,_⟩:=h
  rfl
 obtain ⟨p,sn,rfl,h1,h2,h3,h4,q⟩:=h
 refine ⟨_,(pss_one (ps_if (pt_not (pt_truth (pe_call zD0 hr rfl T.m_is_sentence T.zt0.2 T.b_is_sentence .nil pass0 (pa_cons (pv 0) pa_nil)) (fun _=>rfl))) (pss_one ps_never) pss_nil)),?_⟩
 exact ⟨_,rfl,p,sn,rfl,h1,h2,h3,h4,fun H' g=>⟨_,rfl,iteF (q H' g)⟩⟩
theorem ok_tuples_in (T:Txt P w K mg a) (zr:FnOk P w K mg base CX0 k a.zh a.zh0 ["level"] (spPartsOfAll K)):FnOk P w K mg base CX0 (k + 1) a.zr5 a.zr6 ["sentence"] spTuplesIn:=by
 refine T.zx0.ok zp0 (fun vs H Q E h=>?_) (fun cdv A outer s H vs Q E hr h=>?_)
 ·obtain ⟨p,s,rfl,_⟩:=h
  rfl
 obtain ⟨p,sn,rfl,isp,hc,q⟩:=h
 refine ⟨_,(pss_cons (ps_set (i:=1) zp0.nd rfl (Or.inl rfl) (pe_lst pa_nil))
   (pss_cons (ps_set (i:=2) zp0.nd rfl (Or.inl rfl) (pe_lst (pa_cons (pv 0) pa_nil)))
   (pss_cons (ps_while PassesOwn.never (pt_cmpR op_gt (pe_callB call_len_seq rfl T.n_len bt_len (pa_cons (pv 2) pa_nil)) pe_int (nomark _)) (pss_cons (ps_expr (pe_bm PySem.F.plainAttrs_list PySem.F.slot_list_extend PySem.F.type_list_extend mt_extend (pv 1) (pa_cons (pv 2) pa_nil)))
   (pss_one (ps_set (i:=2) zp0.nd rfl (Or.inl rfl) (pe_call zr hr rfl T.m_parts_of_all T.zl1.2 T.b_parts_of_all .nil pass0 (pa_cons (pv 2) pa_nil))))))
   (pss_one (ps_ret (pv 1)))))),?_⟩
 refine ⟨by show 0<=sizeLine; decide,fun f hf=>?_⟩
 refine ⟨_,rfl,by show 1<=sizeLine; decide,fun l0 hl0=>?_⟩
 have g0:=(Same.new hf (.lst [])).trans (Same.new hl0 (.lst [.ref p]))
 have nfl:f≠l0:=ne_of_none upd_same hl0
 refine ⟨fun m σ H'=>∃ (ts ss:List Sn) (qs ps:List Addr) (l:Addr),m=cnt ss/\Same H H'/\H' f=some (.lst (qs.map V.ref))/\H' l=some (.lst (ps.map V.ref))/\f≠l/\Paired (IsS H') ts qs/\Paired (IsS H') ss ps/\ts.length + cnt ss=sn.count /\
   (∀ x,((∃ t∈ts,x∈t.letters)\/∃ u∈ss,x∈u.all)↔x∈sn.all)/\σ=[some (.ref p),some (.ref f),some (.ref l)],
  ⟨_,[],[sn],[],[p],l0,rfl,g0,by rw [upd_ne nfl]; exact upd_same,upd_same,nfl,.nil,.cons (isp.mono (Tups.of g0)) .nil,?_,?_,rfl⟩,?_⟩
 ·show 0 + (sn.count + 0)=sn.count
  omega
 ·intro x
  simp
 rintro m σ H' ⟨ts,ss,qs,ps,l,rfl,g,hf',hl,nfl,hts,hss,hcn,hle,rfl⟩
 have lt:=pd_len hts
 have lp:=pd_len hss
 have cl:=cnt_len ss
 have le:(ps.map V.ref).length=ss.length:=by rw [List.length_map]; exact lp.symm
 refine ⟨_,rfl,l,_,rfl,.inl (SqL.of hl),_,_,rfl,rfl,_,rfl,ite2 (fun c=>?_) (fun c=>?_)⟩
 ·have c':0 < ss.length:=by have:=of_decide_eq_true c; rw [le] at this; omega
  refine ⟨_,fun σ' H2 h=>h,?_⟩
  refine ⟨_,rfl,.inl ⟨rfl,_,SqL.of hf'⟩,_,rfl,f,l,_,_,rfl,rfl,hf',hl,by rw [List.length_map,List.length_map]; exact Nat.le_of_lt (small1000 (by omega)),?_⟩
  have t1:Tups H' (upd H' f (.lst (qs.map V.ref ++ ps.map V.ref))):=Tups.lst hf' _
  have g1:Same H (upd H' f (.lst (qs.map V.ref ++ ps.map V.ref))):=g.over hf _
  have hl1:(upd H' f (.lst (qs.map V.ref ++ ps.map V.ref))) l=some (.lst (ps.map V.ref)):=by rw [upd_ne (Ne.symm nfl)]; exact hl
  refine ⟨_,rfl,l,ss,ps,rfl,SqL.of hl1,pd_imp (fun _ _ z=>z.mono t1) hss,by omega,fun l' H3 ps' g3 hn hl' hp'=>?_⟩
  have cp:=cnt_parts ss
  have t3:=t1.trans (Tups.of g3)
  refine ⟨cnt (ss.flatMap Sn.parts),by omega,ts ++ ss,ss.flatMap Sn.parts,qs ++ ps,ps',l',rfl,g1.trans g3,by rw [List.map_append]; exact g3 _ _ upd_same,hl',ne_of_none upd_same hn,
   pd_app (pd_imp (fun _ _ z=>z.mono t3) hts) (pd_imp (fun _ _ z=>z.mono t3) hss),hp',by rw [List.length_append]; omega,fun x=>?_,rfl⟩
  rw [← hle x]
  constructor
  ·rintro (⟨t,ht,hx⟩ | ⟨u,hu,hx⟩)
   ·rcases List.mem_append.mp ht with z | z
    ·exact .inl ⟨t,z,hx⟩
    ·exact .inr ⟨t,z,(Sn.all_iff t x).mpr (.inl hx)⟩
   ·obtain ⟨s',hs',hu'⟩:=mem_level.mp hu
    exact .inr ⟨s',hs',(Sn.all_iff s' x).mpr (.inr ⟨u,hu',hx⟩)⟩
  ·rintro (⟨t,ht,hx⟩ | ⟨u,hu,hx⟩)
   ·exact .inl ⟨t,List.mem_append_left _ ht,hx⟩
   ·rcases (Sn.all_iff u x).mp hx with z | ⟨v,hv,z⟩
    ·exact .inl ⟨u,List.mem_append_right _ hu,z⟩
    ·exact .inr ⟨v,mem_level.mpr ⟨u,hu,hv⟩,z⟩
 ·have c':ss=[]:=by
   have:¬ 0 < ss.length:=fun z=>c (decide_eq_true (by rw [le]; omega))
   exact List.length_eq_zero_iff.mp (by omega)
  subst c'
  refine ⟨_,rfl,q f H' ts qs g hf hf' hts ?_ fun x=>?_⟩
  ·have:cnt []=0:=rfl
   omega
  ·rw [← hle x]
   constructor
   ·exact fun z=>.inl z
   ·rintro (z | ⟨u,hu,_⟩)
    ·exact z
    ·cases hu
theorem ok_letters_in (T:Txt P w K mg a) (zE7:FnOk P w K mg base CX0 k a.zr5 a.zr6 ["sentence"] spTuplesIn) (zv6:FnOk P w K mg base CX0 k a.zg8 a.zg9 ["sentence"] spLettersOf):FnOk P w K mg base CX0 (k + 1) a.zp1 a.zp2 ["sentence"] spLettersIn:=by
 refine T.zv0.ok zs9 (fun vs H Q E h=>?_) (fun cdv A outer s H vs Q E hr h=>?_)
 ·obtain ⟨p,s,rfl,_⟩:=h
  rfl
 obtain ⟨p,sn,rfl,isp,hc,q⟩:=h
 refine ⟨_,(pss_cons (ps_set (i:=1) zs9.nd rfl (Or.inl rfl) (pe_lst pa_nil))
   (pss_cons (ps_for PassesOwn.never rfl (pi_list (pe_call zE7 hr rfl T.m_tuples_in T.zx0.2 T.b_tuples_in .nil pass0 (pa_cons (pv 0) pa_nil))) (pg_name (i:=2) zs9.nd rfl (Or.inl rfl)) (pss_one (ps_expr (pe_bm PySem.F.plainAttrs_list PySem.F.slot_list_extend PySem.F.type_list_extend mt_extendT (pv 1) (pa_cons (pe_call zv6 hr rfl T.m_letters_of T.zp7.2 T.b_letters_of .nil pass0 (pa_cons (pv 2) pa_nil)) pa_nil)))))
   (pss_one (ps_ret (pv 1))))),?_⟩
 refine ⟨by show 0<=sizeLine; decide,fun f hf=>?_⟩
 have g0:=Same.new hf (.lst [])
 refine ⟨_,rfl,p,sn,rfl,isp.mono (Tups.of g0),hc,fun l H1 ts ps g1 hn hl hts htl hle=>?_⟩
 have nfl:f≠l:=ne_of_none upd_same hn
 have lt:=pd_len hts
 refine ⟨l,rfl,⟨_,SqL.of hl⟩,?_⟩
 refine for_list (xs:=ps.map V.ref) (fun i σ H'=>∃ (f1:Option V),Same H H'/\H' f=some (.lst (((ts.take i).flatMap Sn.letters).map V.str))/\H' l=some (.lst (ps.map V.ref))/\Paired (IsS H') ts ps/\((ts.take i).flatMap Sn.letters).length<=i/\i<=ts.length/\σ=[some (.ref p),some (.ref f),f1])
  ⟨_,g0.trans g1,g1 _ _ upd_same,hl,hts,by simp,Nat.zero_le _,rfl⟩ ?_ ?_ ?_
 ·rintro i σ H' _ ⟨f1,g,hf',hl',_⟩
  exact SqL.of hl'
 ·rintro i x σ H' hx ⟨f1,g,hf',hl',hts',lq,li,rfl⟩
  rw [List.getElem?_map] at hx
  cases ho:ps[i]? with
  | none=>rw [ho] at hx; cases hx
  | some pp =>
   rw [ho] at hx
   cases hx
   obtain ⟨sy,hsy,iy⟩:=pd_ta hts' ho
   have hlt:=(List.getElem?_eq_some_iff.mp hsy).1
   obtain ⟨zs,c1,c2,c3,c4,c5⟩:=sen_cut iy
   have l1:=Sn.letters_le sy
   refine ⟨_,rfl,.inl ⟨rfl,_,SqL.of hf'⟩,_,rfl,pp,sy.word,sy.letters.length,sy.parts.length,_,rfl,c1,shape_in sy,c3,fun b hb=>?_⟩
   rw [c4]
   have hf2:(upd H' b (.tup (sy.letters.map V.str))) f=some (.lst (((ts.take i).flatMap Sn.letters).map V.str)):=by rw [upd_ne (ne_of_none hf' hb)]; exact hf'
   refine ⟨f,b,_,sy.letters.map V.str,rfl,rfl,hf2,SqT.of upd_same,?_,?_⟩
   ·rw [List.length_map,List.length_map]
    exact Nat.le_of_lt (small1000 (by omega))
   ·have t1:Tups H' (upd (upd H' b (.tup (sy.letters.map V.str))) f (.lst (((ts.take i).flatMap Sn.letters).map V.str ++ sy.letters.map V.str))):=(Tups.new hb _).trans (Tups.lst hf2 _)
    have e:(ts.take (i + 1)).flatMap Sn.letters=(ts.take i).flatMap Sn.letters ++ sy.letters:=by rw [take_next hsy,List.flatMap_append,List.flatMap_singleton]
    refine ⟨_,(g.trans (Same.new hb _)).over hf _,by rw [upd_same,e,List.map_append],?_,pd_imp (fun _ _ z=>z.mono t1) hts',by rw [e,List.length_append]; omega,hlt,rfl⟩
    rw [upd_ne (Ne.symm nfl),upd_ne (ne_of_none hl' hb)]
    exact hl'
 ·rintro σ H' ⟨f1,g,hf',hl',hts',lq,li,rfl⟩
  rw [List.length_map,← lt,List.take_length] at hf' lq
  refine ⟨_,rfl,q f H' _ g hf hf' (fun x=>?_) (by omega)⟩
  rw [← hle x,List.mem_flatMap]
theorem ok_must_have_mark (T:Txt P w K mg a):FnOk P w K mg base CX0 (k + 1) a.zd9 a.ze ["order", "letter"] (spMustMark K):=by
 refine T.zn6.ok zA1 (fun vs H Q E h=>?_) (fun cdv A outer s H vs Q E hr h=>?_)
 ·obtain ⟨l,x,os,rfl,_⟩:=h
  rfl
 obtain ⟨l,x,os,rfl,hO,hx,q⟩:=h
 refine ⟨_,(pss_one (ps_if (pt_cmpR op_notIn_seq (pv 1) (pv 0) (by with_unfolding_all rfl)) (pss_one ps_never) pss_nil)),?_⟩
 refine ⟨_,rfl,_,rfl,l,_,rfl,.inl hO,rfl,flat_strs _,_,rfl,?_⟩
 have e:(if true=true then !inV (.str x) (os.map V.str) else inV (.str x) (os.map V.str))=false:=by
  rw [if_pos rfl,inV_strs,decide_eq_true hx]; rfl
 rw [e]
 exact iteF q
theorem ok_must_have_marks (T:Txt P w K mg a) (zD8:FnOk P w K mg base CX0 k a.zp1 a.zp2 ["sentence"] spLettersIn) (zB1:FnOk P w K mg base CX0 k a.zd9 a.ze ["order", "letter"] (spMustMark K)):FnOk P w K mg base CX0 (k + 1) a.zg1 a.zg2 ["order", "sentence"] (spMustMarks K):=by
 refine T.zl5.ok zs2 (fun vs H Q E h=>?_) (fun cdv A outer s H vs Q E hr h=>?_)
 ·obtain ⟨l,p,os,s,rfl,_⟩:=h
  rfl
 obtain ⟨l,p,os,sn,rfl,hO,isp,hc,hin,q⟩:=h
 refine ⟨_,(pss_one (ps_for PassesOwn.never rfl (pi_list (pe_call zD8 hr rfl T.m_letters_in T.zv0.2 T.b_letters_in .nil pass0 (pa_cons (pv 1) pa_nil))) (pg_name (i:=2) zs2.nd rfl (Or.inl rfl)) (pss_one (ps_expr (pe_call zB1 hr rfl T.m_must_have_mark T.zn6.2 T.b_must_have_mark .nil pass0 (pa_cons (pv 0) (pa_cons (pv 2) pa_nil))))))),?_⟩
 refine ⟨_,rfl,p,sn,rfl,isp,hc,fun f H1 xs g1 hn hl hmem hxl=>?_⟩
 refine ⟨f,rfl,⟨_,SqL.of hl⟩,?_⟩
 refine for_list (xs:=xs.map V.str) (fun i σ H'=>∃ f1:Option V,H'=H1/\σ=[some (.ref l),some (.ref p),f1]) ⟨_,rfl,rfl⟩ ?_ ?_ ?_
 ·rintro i σ H' _ ⟨f1,rfl,_⟩
  exact SqL.of hl
 ·rintro i x σ H' hx ⟨f1,rfl,rfl⟩
  rw [List.getElem?_map] at hx
  cases ho:xs[i]? with
  | none=>rw [ho] at hx; cases hx
  | some y =>
   rw [ho] at hx
   cases hx
   have hy:y∈os:=(Sn.inO_iff sn).mp hin y ((hmem y).mp (List.mem_of_getElem? ho))
   exact ⟨_,rfl,_,rfl,l,y,os,rfl,g1.seq hO,hy,_,rfl,rfl⟩
 ·rintro σ H' ⟨f1,rfl,rfl⟩
  exact q _ g1
theorem ok_table_of_two (T:Txt P w K mg a):FnOk P w K mg base CX0 (k + 1) a.zd5 a.zd6 ["word", "one", "other", "every"] spTwo:=by
 refine T.zq8.ok zB4 (fun vs H Q E h=>?_) (fun cdv A outer s H vs Q E hr h=>?_)
 ·obtain ⟨o,N,M,n,f,g,rfl,_⟩:=h
  rfl
 obtain ⟨o,N,M,n,f,g,rfl,hN,hM,q⟩:=h
 refine ⟨_,(pss_cons (ps_if (pt_cmpR op_eq (pv 0) pe_str (nomark _)) (pss_one (ps_ret (pe_op op_andN (pv 1) (pv 2)))) pss_nil)
   (pss_cons (ps_if (pt_cmpR op_eq (pv 0) pe_str (nomark _)) (pss_one (ps_ret (pe_op op_orN (pv 1) (pv 2)))) pss_nil)
   (pss_cons (ps_if (pt_cmpR op_eq (pv 0) pe_str (nomark _)) (pss_one (ps_ret (pe_op op_xorN (pv 1) (pv 2)))) pss_nil)
   (pss_one (ps_ret (pe_op op_orN (pe_op op_xorN (pv 3) (pv 1)) (pv 2))))))),?_⟩
 rcases fin4 o with e | e | e | e
 ·subst e
  exact ⟨_,rfl,rfl,_,rfl,ite2 (fun _=>⟨_,rfl,_,rfl,N,M,rfl,rfl,q _ (tab_and hN hM)⟩) (fun c=>absurd (decide_eq_true rfl) c)⟩
 ·subst e
  refine ⟨_,rfl,rfl,_,rfl,ite2 (fun c=>absurd c (ne_str (show Str.ofString "or" ≠ Str.ofString "and" by decide +kernel))) (fun _=>?_)⟩
  exact ⟨_,rfl,rfl,_,rfl,ite2 (fun _=>⟨_,rfl,_,rfl,N,M,rfl,rfl,q _ (tab_or hN hM)⟩) (fun c=>absurd (decide_eq_true rfl) c)⟩
 ·subst e
  refine ⟨_,rfl,rfl,_,rfl,ite2 (fun c=>absurd c (ne_str (show Str.ofString "either" ≠ Str.ofString "and" by decide +kernel))) (fun _=>?_)⟩
  refine ⟨_,rfl,rfl,_,rfl,ite2 (fun c=>absurd c (ne_str (show Str.ofString "either" ≠ Str.ofString "or" by decide +kernel))) (fun _=>?_)⟩
  exact ⟨_,rfl,rfl,_,rfl,ite2 (fun _=>⟨_,rfl,_,rfl,N,M,rfl,rfl,q _ (tab_xor hN hM)⟩) (fun c=>absurd (decide_eq_true rfl) c)⟩
 ·subst e
  refine ⟨_,rfl,rfl,_,rfl,ite2 (fun c=>absurd c (ne_str (show Str.ofString "if" ≠ Str.ofString "and" by decide +kernel))) (fun _=>?_)⟩
  refine ⟨_,rfl,rfl,_,rfl,ite2 (fun c=>absurd c (ne_str (show Str.ofString "if" ≠ Str.ofString "or" by decide +kernel))) (fun _=>?_)⟩
  refine ⟨_,rfl,rfl,_,rfl,ite2 (fun c=>absurd c (ne_str (show Str.ofString "if" ≠ Str.ofString "either" by decide +kernel))) (fun _=>?_)⟩
  refine ⟨_,rfl,_,rfl,_,N,rfl,rfl,_,rfl,_,M,rfl,rfl,q _ (tab_congr (tab_or (tab_xor (tab_all n) hN) hM) fun b _=>?_)⟩
  show ((true != f b) || g b)=(!f b || g b)
  cases f b <;> rfl
theorem ok_table_step {d:Nat} (T:Txt P w K mg a) (zd1:FnOk P w K mg base CX0 k a.zh5 a.zh6 ["marks"] spAllRows) (zd4:FnOk P w K mg base CX0 k a.zd2 a.zd3 ["place", "marks"] spRowsWith)
  (zf9:FnOk P w K mg base CX0 k a.zj7 a.zj8 ["table", "place", "marks"] spFlipped) (zf8:FnOk P w K mg base CX0 k a.zf2 a.zf3 ["sentence"] spPartsOf)
  (zl2:FnOk P w K mg base CX0 k a.zd5 a.zd6 ["word", "one", "other", "every"] spTwo)
  (zy2:FnOk P w K mg base CX0 k a.zk7 a.zk8 ["sentence", "order"] (spTable K d)):FnOk P w K mg base CX0 (k + 1) a.zk7 a.zk8 ["sentence", "order"] (spTable K (d + 1)):=by
 refine T.zu.ok zr0 (fun vs H Q E h=>?_) (fun cdv A outer s H vs Q E hr h=>?_)
 ·obtain ⟨p,l,sn,os,rfl,_⟩:=h
  rfl
 obtain ⟨p,l,sn,os,rfl,isp,hO,hin,h8,hd,q⟩:=h
 refine ⟨_,(pss_cons (ps_set (i:=2) zr0.nd rfl (Or.inl rfl) (pe_ix ix_tup (pv 0) pe_int (fun _ _=>rfl)))
   (pss_cons (ps_set (i:=3) zr0.nd rfl (Or.inl rfl) (pe_callB call_len_seq rfl T.n_len bt_len (pa_cons (pv 1) pa_nil)))
   (pss_cons (ps_if (pt_cmpR op_eq (pv 2) pe_str (nomark _)) (pss_one (ps_ret pe_int)) pss_nil)
   (pss_cons (ps_if (pt_cmpR op_eq (pv 2) pe_str (nomark _)) (pss_one (ps_ret (pe_call zd1 hr rfl T.m_all_rows T.zh9.2 T.b_all_rows .nil pass0 (pa_cons (pv 3) pa_nil)))) pss_nil)
   (pss_cons (ps_if (pt_cmpR op_eq (pv 2) pe_str (nomark _)) (pss_one (ps_ret (pe_call zd4 hr rfl T.m_rows_with T.zm.2 T.b_rows_with .nil pass0 (pa_cons (pe_bm PySem.F.plainAttrs_list PySem.F.slot_list_index PySem.F.type_list_index mt_index (pv 1) (pa_cons (pe_ix ix_tup (pv 0) pe_int (fun _ _=>rfl)) pa_nil)) (pa_cons (pv 3) pa_nil))))) pss_nil)
   (pss_cons (ps_setLC (tt:=tYes) (i:=4) zr0.nd rfl (Or.inl rfl) (.inl rfl) (osc:=defScope zo6) (js:=[1]) rfl (by show LcOk (defScope zo6) _ "part" ["order"]; exact ⟨rfl,by decide +kernel,by decide +kernel,rfl,by decide +kernel,by decide +kernel,by decide +kernel⟩) rfl (pi_tup (pe_call zf8 hr rfl T.m_parts_of T.zp8.2 T.b_parts_of .nil pass0 (pa_cons (pv 0) pa_nil))) (by show ∀ j∈([1]:List Nat),j < 5; decide) (fun cl C s₂ H₂ fp pins s' σ' H' Q I h=>wpAny_pure ⟨H',I,h⟩) (fun cl C s₂ H₂ fp=>(pe_call zy2 hr rfl T.m_table_of T.zu.2 T.b_table_of .nil pass0 (pa_cons (pv 0) (pa_cons (pv 1) pa_nil)))) rfl)
   (pss_cons (ps_if (pt_cmpR op_eq (pv 2) pe_str (nomark _)) (pss_one (ps_ret (pe_op op_xorN (pe_call zd1 hr rfl T.m_all_rows T.zh9.2 T.b_all_rows .nil pass0 (pa_cons (pv 3) pa_nil)) (pe_ix ix_list (pv 4) pe_int (fun _ _=>rfl))))) pss_nil)
   (pss_cons (ps_if (pt_cmpR op_eq (pv 2) pe_str (nomark _)) (pss_one (ps_ret (pe_op op_orN (pe_ix ix_list (pv 4) pe_int (fun _ _=>rfl)) (pe_call zf9 hr rfl T.m_flipped T.zo2.2 T.b_flipped .nil pass0 (pa_cons (pe_ix ix_list (pv 4) pe_int (fun _ _=>rfl)) (pa_cons (pe_bm PySem.F.plainAttrs_list PySem.F.slot_list_index PySem.F.type_list_index mt_index (pv 1) (pa_cons (pe_ix ix_tup (pv 0) pe_int (fun _ _=>rfl)) pa_nil)) (pa_cons (pv 3) pa_nil))))))) pss_nil)
   (pss_cons (ps_if (pt_cmpR op_eq (pv 2) pe_str (nomark _)) (pss_one (ps_ret (pe_op op_andN (pe_ix ix_list (pv 4) pe_int (fun _ _=>rfl)) (pe_call zf9 hr rfl T.m_flipped T.zo2.2 T.b_flipped .nil pass0 (pa_cons (pe_ix ix_list (pv 4) pe_int (fun _ _=>rfl)) (pa_cons (pe_bm PySem.F.plainAttrs_list PySem.F.slot_list_index PySem.F.type_list_index mt_index (pv 1) (pa_cons (pe_ix ix_tup (pv 0) pe_int (fun _ _=>rfl)) pa_nil)) (pa_cons (pv 3) pa_nil))))))) pss_nil)
   (pss_one (ps_ret (pe_call zl2 hr rfl T.m_table_of_two T.zq8.2 T.b_table_of_two .nil pass0 (pa_cons (pv 2) (pa_cons (pe_ix ix_list (pv 4) pe_int (fun _ _=>rfl)) (pa_cons (pe_ix ix_list (pv 4) pe_int (fun _ _=>rfl)) (pa_cons (pe_call zd1 hr rfl T.m_all_rows T.zh9.2 T.b_all_rows .nil pass0 (pa_cons (pv 3) pa_nil)) pa_nil)))))))))))))))),?_⟩
 have hlen:(os.map V.str).length=os.length:=List.length_map _
 obtain ⟨zs,c1,c2,c3,c4,c5⟩:=sen_cut isp
 have lz:=pd_len c2
 have lp2:=Sn.parts_le sn
 refine ⟨_,rfl,p,_,0,_,rfl,rfl,SqT.of c1,at0,?_⟩
 refine ⟨_,rfl,l,_,rfl,.inl hO,?_⟩
 rw [hlen]
 have comp:∀ {σ:St} {Q2:Addr->Hp->List V->Prop},σ.getD 1 none=some (.ref l)->(∀ (b:Addr) (ys:List V) (H':Hp),Same H H'->H' b=none->ys.length=sn.parts.length->(∀ (j:Nat) v,ys[j]?=some v->∃ t N,sn.parts[j]?=some t/\v=.int (N:Nat)/\TabOf os t N)->Q2 b H' ys) ->
   ∀ b0,H b0=none->∃ W:Nat->Nat->List V->Hp->Prop,(∃ m,W 0 m [] (upd H b0 (.tup (zs.map V.ref))))/\∀ i m ys H,W i m ys H ->
    ((Itt K b0).stop i H/\∀ p,H p=none->Q2 p H ys) \/
    ((Itt K b0).go i H/\ys.length < sizeLine/\∀ x H',(Itt K b0).yld i H x H'->tYes (lcS σ [1] (some x)) H' fun b H2 =>
     if b=true then tCall (spTable K d) [] E0 (tCons (tVar 0) (tCons (tVar 1) tNil)) (lcS σ [1] (some x)) H2 fun v H3=>∃ m',m' < m/\W (i + 1) m' (ys ++ [v]) H3 else ∃ m',m' < m/\W (i + 1) m' ys H2):=by
  intro σ Q2 hσ hQ2 b0 hb0
  have g0:=Same.new hb0 (.tup (zs.map V.ref))
  refine lc_idxT (fun j v=>∃ t N,sn.parts[j]?=some t/\v=.int ((N:Nat):Int)/\TabOf os t N) (SqT.of upd_same) (by rw [List.length_map]; exact Nat.le_of_lt (small1000 (by omega))) ?_ (mono2 (mono_table d)) ?_
  ·intro i x H' hx g
   rw [List.getElem?_map] at hx
   cases ho:zs[i]? with
   | none=>rw [ho] at hx; cases hx
   | some y =>
    rw [ho] at hx
    cases hx
    obtain ⟨t,ht,it⟩:=pd_ta c2 ho
    have htm:=List.mem_of_getElem? ht
    have dp:=Sn.depth_parts sn t htm
    refine ⟨_,rfl,.ref l,?_,y,l,t,os,rfl,it.mono (Tups.of (g0.trans g)),(g0.trans g).seq hO,Sn.inO_parts sn hin t htm,h8,by omega,fun N H3 g3 hN=>⟨⟨t,N,ht,rfl,hN⟩,g.trans g3⟩⟩
    show some (σ.getD 1 none)=_
    rw [hσ]
  ·intro ys H' pp hl hy g hpp
   exact hQ2 pp ys H' (g0.trans g) hpp (by rw [hl,List.length_map]; exact lz.symm) hy
 cases sn with
 | c0 y =>
  cases y with
  | false=>exact ⟨_,rfl,rfl,_,rfl,ite2 (fun _=>q 0 _ (Same.refl _) (tab_zero _)) (fun c=>absurd (decide_eq_true rfl) c)⟩
  | true =>
   refine ⟨_,rfl,rfl,_,rfl,ite2 (fun c=>absurd c (ne_str (show Str.ofString "yes" ≠ Str.ofString "no" by decide +kernel))) (fun _=>?_)⟩
   exact ⟨_,rfl,rfl,_,rfl,ite2 (fun _=>⟨_,rfl,os.length,rfl,h8,q _ _ (Same.refl _) (tab_all _)⟩) (fun c=>absurd (decide_eq_true rfl) c)⟩
 | mk x =>
  refine ⟨_,rfl,rfl,_,rfl,ite2 (fun c=>absurd c (ne_str (show Str.ofString "mark" ≠ Str.ofString "no" by decide +kernel))) (fun _=>?_)⟩
  refine ⟨_,rfl,rfl,_,rfl,ite2 (fun c=>absurd c (ne_str (show Str.ofString "mark" ≠ Str.ofString "yes" by decide +kernel))) (fun _=>?_)⟩
  obtain ⟨i1,i2,i3⟩:=ix_spec (show x∈os from hin)
  have isp':H p=some (.tup [.str "mark", .str x]):=isp
  exact ⟨_,rfl,rfl,_,rfl,ite2 (fun _=>⟨_,rfl,.inl ⟨rfl,_,hO⟩,_,rfl,p,_,1,_,rfl,rfl,SqT.of isp',at1,l,_,.str x,_,rfl,rfl,hO,rfl,flat_strs _,i1,_,rfl,ix os x,os.length,rfl,i2,h8,fun R hR=>q R _ (Same.refl _) hR⟩) (fun c=>absurd (decide_eq_true rfl) c)⟩
 | nt s1 =>
  refine ⟨_,rfl,rfl,_,rfl,ite2 (fun c=>absurd c (ne_str (show Str.ofString "not" ≠ Str.ofString "no" by decide +kernel))) (fun _=>?_)⟩
  refine ⟨_,rfl,rfl,_,rfl,ite2 (fun c=>absurd c (ne_str (show Str.ofString "not" ≠ Str.ofString "yes" by decide +kernel))) (fun _=>?_)⟩
  refine ⟨_,rfl,rfl,_,rfl,ite2 (fun c=>absurd c (ne_str (show Str.ofString "not" ≠ Str.ofString "mark" by decide +kernel))) (fun _=>?_)⟩
  refine ⟨_,rfl,p,_,_,_,_,rfl,c1,shape_in (.nt s1),c3,fun b0 hb0=>?_⟩
  rw [c5]
  refine ⟨b0,rfl,⟨_,SqT.of upd_same⟩,comp rfl (fun b ys H0 g0 hb0' hyl hy=>?_) b0 hb0⟩
  have hb:=upd_same (H:=H0) (a:=b) (o:=.lst ys)
  have g:=g0.trans (Same.new hb0' (.lst ys))
  obtain ⟨v,rfl⟩:=len1 hyl
  obtain ⟨t,N,ht,rfl,hN⟩:=hy 0 v rfl
  cases ht
  refine ⟨_,rfl,rfl,_,rfl,ite2 (fun _=>⟨_,rfl,os.length,rfl,h8,_,rfl,b,_,0,_,rfl,rfl,SqL.of hb,at0,_,N,rfl,rfl,q _ _ g (tab_congr (tab_xor (tab_all _) hN) fun z _=>?_)⟩) (fun c=>absurd (decide_eq_true rfl) c)⟩
  show (true != s1.val (envB os z))=!s1.val (envB os z)
  cases s1.val (envB os z) <;> rfl
 | b2 o s1 s2 =>
  have w1:w2 o≠Str.ofString "no" := w2_no o
  have w2':w2 o≠Str.ofString "yes" := w2_yes o
  have w3:w2 o≠Str.ofString "mark" := w2_mark o
  have w4:w2 o≠Str.ofString "not" := w2_not o
  have w5:w2 o≠Str.ofString "some" := w2_some o
  have w6:w2 o≠Str.ofString "each" := w2_each o
  refine ⟨_,rfl,rfl,_,rfl,ite2 (fun c=>absurd c (ne_str w1)) (fun _=>?_)⟩
  refine ⟨_,rfl,rfl,_,rfl,ite2 (fun c=>absurd c (ne_str w2')) (fun _=>?_)⟩
  refine ⟨_,rfl,rfl,_,rfl,ite2 (fun c=>absurd c (ne_str w3)) (fun _=>?_)⟩
  refine ⟨_,rfl,p,_,_,_,_,rfl,c1,shape_in (.b2 o s1 s2),c3,fun b0 hb0=>?_⟩
  rw [c5]
  refine ⟨b0,rfl,⟨_,SqT.of upd_same⟩,comp rfl (fun b ys H0 g0 hb0' hyl hy=>?_) b0 hb0⟩
  have hb:=upd_same (H:=H0) (a:=b) (o:=.lst ys)
  have g:=g0.trans (Same.new hb0' (.lst ys))
  obtain ⟨v,u,rfl⟩:=len2 hyl
  obtain ⟨t,N,ht,rfl,hN⟩:=hy 0 v rfl
  obtain ⟨t',M,ht',rfl,hM⟩:=hy 1 u rfl
  cases ht
  cases ht'
  refine ⟨_,rfl,rfl,_,rfl,ite2 (fun c=>absurd c (ne_str w4)) (fun _=>?_)⟩
  refine ⟨_,rfl,rfl,_,rfl,ite2 (fun c=>absurd c (ne_str w5)) (fun _=>?_)⟩
  refine ⟨_,rfl,rfl,_,rfl,ite2 (fun c=>absurd c (ne_str w6)) (fun _=>?_)⟩
  exact ⟨_,rfl,_,rfl,b,_,0,_,rfl,rfl,SqL.of hb,at0,_,rfl,b,_,1,_,rfl,rfl,SqL.of hb,at1,_,rfl,os.length,rfl,h8,o,N,M,os.length,_,_,rfl,hN,hM,fun R hR=>q R _ g hR⟩
 | q1 o x s1 =>
  obtain ⟨hx,hs1⟩:=hin
  obtain ⟨i1,i2,i3⟩:=ix_spec hx
  cases o with
  | true =>
   refine ⟨_,rfl,rfl,_,rfl,ite2 (fun c=>absurd c (ne_str (show Str.ofString "some" ≠ Str.ofString "no" by decide +kernel))) (fun _=>?_)⟩
   refine ⟨_,rfl,rfl,_,rfl,ite2 (fun c=>absurd c (ne_str (show Str.ofString "some" ≠ Str.ofString "yes" by decide +kernel))) (fun _=>?_)⟩
   refine ⟨_,rfl,rfl,_,rfl,ite2 (fun c=>absurd c (ne_str (show Str.ofString "some" ≠ Str.ofString "mark" by decide +kernel))) (fun _=>?_)⟩
   refine ⟨_,rfl,p,_,_,_,_,rfl,c1,shape_in (.q1 true x s1),c3,fun b0 hb0=>?_⟩
   rw [c5]
   refine ⟨b0,rfl,⟨_,SqT.of upd_same⟩,comp rfl (fun b ys H0 g0 hb0' hyl hy=>?_) b0 hb0⟩
   have hb:=upd_same (H:=H0) (a:=b) (o:=.lst ys)
   have g:=g0.trans (Same.new hb0' (.lst ys))
   obtain ⟨v,rfl⟩:=len1 hyl
   obtain ⟨t,N,ht,rfl,hN⟩:=hy 0 v rfl
   cases ht
   have c1':=g _ _ c1
   refine ⟨_,rfl,rfl,_,rfl,ite2 (fun c=>absurd c (ne_str (show Str.ofString "some" ≠ Str.ofString "not" by decide +kernel))) (fun _=>?_)⟩
   refine ⟨_,rfl,rfl,_,rfl,ite2 (fun _=>?_) (fun c=>absurd (decide_eq_true rfl) c)⟩
   refine ⟨_,rfl,b,_,0,_,rfl,rfl,SqL.of hb,at0,_,rfl,b,_,0,_,rfl,rfl,SqL.of hb,at0,_,rfl,.inl ⟨rfl,_,g.seq hO⟩,_,rfl,p,_,1,_,rfl,rfl,SqT.of c1',at1,l,_,.str x,_,rfl,rfl,g.seq hO,rfl,flat_strs _,i1,_,rfl,N,ix os x,os.length,_,rfl,i2,h8,hN,fun R hR=>⟨N,R,rfl,rfl,q _ _ g (tab_congr (tab_or hN hR) fun z _=>?_)⟩⟩
   exact (val_some hs1 hx z).symm
  | false =>
   refine ⟨_,rfl,rfl,_,rfl,ite2 (fun c=>absurd c (ne_str (show Str.ofString "each" ≠ Str.ofString "no" by decide +kernel))) (fun _=>?_)⟩
   refine ⟨_,rfl,rfl,_,rfl,ite2 (fun c=>absurd c (ne_str (show Str.ofString "each" ≠ Str.ofString "yes" by decide +kernel))) (fun _=>?_)⟩
   refine ⟨_,rfl,rfl,_,rfl,ite2 (fun c=>absurd c (ne_str (show Str.ofString "each" ≠ Str.ofString "mark" by decide +kernel))) (fun _=>?_)⟩
   refine ⟨_,rfl,p,_,_,_,_,rfl,c1,shape_in (.q1 false x s1),c3,fun b0 hb0=>?_⟩
   rw [c5]
   refine ⟨b0,rfl,⟨_,SqT.of upd_same⟩,comp rfl (fun b ys H0 g0 hb0' hyl hy=>?_) b0 hb0⟩
   have hb:=upd_same (H:=H0) (a:=b) (o:=.lst ys)
   have g:=g0.trans (Same.new hb0' (.lst ys))
   obtain ⟨v,rfl⟩:=len1 hyl
   obtain ⟨t,N,ht,rfl,hN⟩:=hy 0 v rfl
   cases ht
   have c1':=g _ _ c1
   refine ⟨_,rfl,rfl,_,rfl,ite2 (fun c=>absurd c (ne_str (show Str.ofString "each" ≠ Str.ofString "not" by decide +kernel))) (fun _=>?_)⟩
   refine ⟨_,rfl,rfl,_,rfl,ite2 (fun c=>absurd c (ne_str (show Str.ofString "each" ≠ Str.ofString "some" by decide +kernel))) (fun _=>?_)⟩
   refine ⟨_,rfl,rfl,_,rfl,ite2 (fun _=>?_) (fun c=>absurd (decide_eq_true rfl) c)⟩
   refine ⟨_,rfl,b,_,0,_,rfl,rfl,SqL.of hb,at0,_,rfl,b,_,0,_,rfl,rfl,SqL.of hb,at0,_,rfl,.inl ⟨rfl,_,g.seq hO⟩,_,rfl,p,_,1,_,rfl,rfl,SqT.of c1',at1,l,_,.str x,_,rfl,rfl,g.seq hO,rfl,flat_strs _,i1,_,rfl,N,ix os x,os.length,_,rfl,i2,h8,hN,fun R hR=>⟨N,R,rfl,rfl,q _ _ g (tab_congr (tab_and hN hR) fun z _=>?_)⟩⟩
   exact (val_each hs1 hx z).symm
theorem ok_table_of (T:Txt P w K mg a) (zd1:FnOk P w K mg base CX0 k a.zh5 a.zh6 ["marks"] spAllRows) (zd4:FnOk P w K mg base CX0 k a.zd2 a.zd3 ["place", "marks"] spRowsWith)
  (zf9:FnOk P w K mg base CX0 k a.zj7 a.zj8 ["table", "place", "marks"] spFlipped) (zf8:FnOk P w K mg base CX0 k a.zf2 a.zf3 ["sentence"] spPartsOf)
  (zl2:FnOk P w K mg base CX0 k a.zd5 a.zd6 ["word", "one", "other", "every"] spTwo):∀ d:Nat,FnOk P w K mg base CX0 (k + d) a.zk7 a.zk8 ["sentence", "order"] (spTable K d)
 | 0=>by
  refine ⟨fun vs H Q E h=>?_,fun A outer s H args us vs Q E _ _ _ _ h=>?_⟩
  ·obtain ⟨p,l,sn,os,rfl,_⟩:=h
   rfl
  ·obtain ⟨p,l,sn,os,_,_,_,_,_,hd,_⟩:=h
   have:=Sn.depth_pos sn
   omega
 | d + 1=>ok_table_step T (zd1.mono (Nat.le_add_right _ _)) (zd4.mono (Nat.le_add_right _ _)) (zf9.mono (Nat.le_add_right _ _)) (zf8.mono (Nat.le_add_right _ _)) (zl2.mono (Nat.le_add_right _ _)) (ok_table_of T zd1 zd4 zf9 zf8 zl2 d)
theorem ok_count_step {d:Nat} (T:Txt P w K mg a) (zt4:FnOk P w K mg base CX0 k a.ze8 a.ze9 ["sentence"] (spCount d)):FnOk P w K mg base CX0 (k + 1) a.ze8 a.ze9 ["sentence"] (spCount (d + 1)):=by
 refine T.zn1.ok zC2 (fun vs H Q E h=>?_) (fun cdv A outer s H vs Q E hr h=>?_)
 ·obtain ⟨p,s,rfl,_⟩:=h
  rfl
 obtain ⟨p,sn,rfl,isp,hd,q⟩:=h
 refine ⟨_,(pss_one (ps_ret (pe_op op_add pe_int (pe_callB (call_sum rfl) rfl T.n_sum bt_sum (pa_cons (pe_lc1 (osc:=defScope zi2) (js:=[]) rfl (by show LcOk (defScope zi2) _ "piece" []; exact ⟨rfl,by decide +kernel,by decide +kernel,rfl,by decide +kernel,by decide +kernel,by decide +kernel⟩) rfl (pi_tup (pe_slice sl_tup (pv 0) (po_some pe_int) po_none)) (by show ∀ j∈([]:List Nat),j < 1; decide) (fun cl C s₂ H₂ fp=>(pt_truthK (K:=K) rfl (pe_callB (call_isinstK (K:=K) rfl) rfl T.n_isinstance bt_isinstance (pa_cons (pv 0) (pa_cons (pe_bltn (v:=.ty "tuple") rfl T.n_tuple bt_tuple rfl) pa_nil))) (fun _=>rfl))) (fun cl C s₂ H₂ fp=>(pe_call zt4 hr rfl T.m_x_law_count T.zn1.2 T.b_x_law_count .nil pass0 (pa_cons (pv 0) pa_nil)))) pa_nil))))),?_⟩
 obtain ⟨zs,c1,c2,c3,c4,c5⟩:=sen_cut isp
 have lz:=pd_len c2
 have lp2:=Sn.parts_le sn
 have ll1:=Sn.letters_le sn
 refine ⟨_,rfl,1,rfl,p,_,rfl,SqT.of c1,not_whole1 (by decide),fun b hb=>?_⟩
 rw [cut_tail]
 have g0:=Same.new hb (.tup (sn.letters.map V.str ++ zs.map V.ref))
 refine ⟨b,rfl,⟨_,SqT.of upd_same⟩,lc_tup (tt:=isTupT K) (xs:=sn.letters.map V.str ++ zs.map V.ref) (fun i ys H'=>Same (upd H b (.tup (sn.letters.map V.str ++ zs.map V.ref))) H'/\ys=((sn.parts.take (i - sn.letters.length)).map fun t=>V.int ((t.count:Nat):Int))) ⟨Same.refl _,by simp⟩ (by rw [c3]; exact Nat.le_of_lt (small1000 (by omega))) ?_ ?_ ?_ (mono1 (mono_count d)) ?_⟩
 ·rintro i ys H' hi ⟨g,rfl⟩
  refine ⟨g.seqT (SqT.of upd_same),?_⟩
  rw [List.length_map,List.length_take]
  omega
 ·rintro i x ys H' hx ⟨g,rfl⟩
  by_cases hlt:i < sn.letters.length
  ·rw [List.getElem?_append_left (by rw [List.length_map]; exact hlt),List.getElem?_map,List.getElem?_eq_getElem hlt] at hx
   cases hx
   refine ⟨_,rfl,_,_,_,false,rfl,.str _,rfl,_,rfl,iteF ⟨g,?_⟩⟩
   rw [show i + 1 - sn.letters.length=i - sn.letters.length by omega]
  ·rw [List.getElem?_append_right (by rw [List.length_map]; omega),List.length_map,List.getElem?_map] at hx
   cases ho:zs[i - sn.letters.length]? with
   | none=>rw [ho] at hx; cases hx
   | some y =>
    rw [ho] at hx
    cases hx
    obtain ⟨t,ht,it⟩:=pd_ta c2 ho
    obtain ⟨ws,d1,_⟩:=sen_cut it
    have gg:=g0.trans g
    have dp:=Sn.depth_parts sn t (List.mem_of_getElem? ht)
    refine ⟨_,rfl,_,_,_,true,rfl,.tup (gg _ _ d1),rfl,_,rfl,iteT ⟨_,rfl,y,t,rfl,it.mono (Tups.of gg),by omega,fun H3 g3=>⟨g.trans g3,?_⟩⟩⟩
    rw [show i + 1 - sn.letters.length=(i - sn.letters.length) + 1 by omega,take_next ht,List.map_append]
    rfl
 ·rintro σ' H' Q1 Q2 hQ ⟨v,e,x,T',t,b',h1,h2,h3,k',h4,h5⟩
  exact ⟨v,e,x,T',t,b',h1,h2,h3,k',h4,hQ _ _ h5⟩
 ·rintro ys H' p2 ⟨g,rfl⟩ hp2
  rw [c3,show sn.letters.length + sn.parts.length - sn.letters.length=sn.parts.length by omega,List.take_length]
  have e:(sn.parts.map fun t=>V.int ((t.count:Nat):Int))=(sn.parts.map fun t=>((t.count:Nat):Int)).map V.int:=by rw [List.map_map]; rfl
  rw [e]
  refine ⟨p2,_,rfl,SqL.of upd_same,1,_,rfl,rfl,?_⟩
  have e2:(1:Int) + (sn.parts.map fun t=>((t.count:Nat):Int)).sum=((sn.count:Nat):Int):=by
   rw [sum_cast,Sn.count_parts sn]
   omega
  show Q (.int ((1:Int) + (sn.parts.map fun t=>((t.count:Nat):Int)).sum)) _
  rw [e2]
  exact q _ ((g0.trans g).trans (Same.new hp2 _))
theorem ok_count (T:Txt P w K mg a):∀ d:Nat,FnOk P w K mg base CX0 (k + d) a.ze8 a.ze9 ["sentence"] (spCount d)
 | 0=>by
  refine ⟨fun vs H Q E h=>?_,fun A outer s H args us vs Q E _ _ _ _ h=>?_⟩
  ·obtain ⟨p,sn,rfl,_⟩:=h
   rfl
  ·obtain ⟨p,sn,_,_,hd,_⟩:=h
   have:=Sn.depth_pos sn
   omega
 | d + 1=>ok_count_step T (ok_count T d)
theorem ok_short (T:Txt P w K mg a) (zB2:FnOk P w K mg base CX0 k a.zh7 a.zh8 ["script", "at", "many", "order"] (spSentence K)) (zt4:FnOk P w K mg base CX0 k a.ze8 a.ze9 ["sentence"] (spCount 20)) :
  FnOk P w K mg base CX0 (k + 1) a.zm7 a.zm8 ["script", "at", "many", "order"] (spShort K):=by
 refine T.zi7.ok zx3 (fun vs H Q E h=>?_) (fun cdv A outer s H vs Q E hr h=>?_)
 ·obtain ⟨sc,ol,ns,t,m,os,rfl,_⟩:=h
  rfl
 obtain ⟨sc,ol,ns,t,m,os,rfl,hS,hO,o0,o8,m0,m20,t60,q⟩:=h
 refine ⟨_,(pss_cons (ps_set (i:=4) zx3.nd rfl (Or.inl rfl) (pe_call zB2 hr rfl T.m_x_law_sentence T.zn7.2 T.b_x_law_sentence .nil pass0 (pa_cons (pv 0) (pa_cons (pv 1) (pa_cons (pv 2) (pa_cons (pv 3) pa_nil))))))
   (pss_cons (ps_if (pt_cmpR op_gt (pe_call zt4 hr rfl T.m_x_law_count T.zn1.2 T.b_x_law_count .nil pass0 (pa_cons (pv 4) pa_nil)) pe_int (nomark _)) (pss_one (ps_ret (pe_tup (pa_cons pe_str (pa_cons (pe_tup (pa_cons pe_str (pa_cons (pe_ix ix_list (pv 3) pe_int (fun _ _=>rfl)) pa_nil))) (pa_cons (pe_tup (pa_cons pe_str (pa_cons (pe_tup (pa_cons pe_str (pa_cons (pe_ix ix_list (pv 3) (pe_un un_neg pe_int) (fun _ _=>rfl)) pa_nil))) pa_nil))) pa_nil)))))) pss_nil)
   (pss_one (ps_ret (pv 4))))),?_⟩
 refine ⟨_,rfl,_,rfl,_,rfl,_,rfl,sc,ol,ns,t,m,os,rfl,hS,hO,o0,o8,m0,by omega,t60,fun p H1 sn g1 isp hin hd=>?_⟩
 refine ⟨_,rfl,p,sn,rfl,isp,by omega,fun H2 g2=>⟨_,_,rfl,rfl,_,rfl,ite2 (fun _=>?_) (fun c=>?_)⟩⟩
 ·have g12:=g1.trans g2
  obtain ⟨x,hx,hx'⟩:=pick_at (os:=os) (i:=0) (by omega) (by omega)
  obtain ⟨y,hy,hy'⟩:=pick_at (os:=os) (i:=-1) (by omega) (by omega)
  refine ⟨_,rfl,ol,_,0,_,rfl,rfl,g12.seq hO,hx',by show 2<=sizeLine; decide,fun p1 hp1=>?_⟩
  have g3:=Same.new hp1 (.tup [.str "mark", .str x])
  refine ⟨_,rfl,1,rfl,ol,_,-1,_,rfl,rfl,(g12.trans g3).seq hO,hy',by show 2<=sizeLine; decide,fun p2 hp2=>?_⟩
  have g4:=Same.new hp2 (.tup [.str "mark", .str y])
  refine ⟨by show 2<=sizeLine; decide,fun p3 hp3=>?_⟩
  have g5:=Same.new hp3 (.tup [.str "not", .ref p2])
  refine ⟨by show 3<=sizeLine; decide,fun p4 hp4=>?_⟩
  have g6:=Same.new hp4 (.tup [.str "either", .ref p1,.ref p3])
  refine q p4 _ (.b2 2 (.mk x) (.nt (.mk y))) ((((g12.trans g3).trans g4).trans g5).trans g6) ⟨p1,p3,upd_same,?_,p2,?_,?_⟩ ⟨hx,hy⟩ (by show 1 + max 1 (1 + 1)<=20; decide) (by show 1 + (1 + (1 + 1))<=60; decide)
  ·exact g6 _ _ (g5 _ _ (g4 _ _ upd_same))
  ·exact g6 _ _ upd_same
  ·exact g6 _ _ (g5 _ _ upd_same)
 ·have c':sn.count<=60:=Nat.le_of_not_lt fun z=>c (decide_eq_true (by omega))
  exact ⟨_,rfl,q p H2 sn (g1.trans g2) (isp.mono (Tups.of g2)) hin (by omega) c'⟩
end
end K42
namespace K42
open PySem L2 Sen
section
variable {P:Program} {w:World} {K:PySem.W.Frag} {mg:Str->Option Value} {base:Heap} {a:Ad} {k:Nat}
theorem ok_held_at (T:Txt P w K mg a) (zd4:FnOk P w K mg base CX0 k a.zd2 a.zd3 ["place", "marks"] spRowsWith) (zf9:FnOk P w K mg base CX0 k a.zj7 a.zj8 ["table", "place", "marks"] spFlipped):FnOk P w K mg base CX0 (k + 1) a.zn8 a.zn9 ["table", "place", "value", "marks"] spHeldAt:=by
 refine T.zo3.ok zx9 (fun vs H Q E h=>?_) (fun cdv A outer s H vs Q E hr h=>?_)
 ·obtain ⟨N,p,n,v,f,rfl,_⟩:=h
  rfl
 obtain ⟨N,p,n,v,f,rfl,hp,hn,tb,q⟩:=h
 refine ⟨_,(pss_cons (ps_set (i:=4) zx9.nd rfl (Or.inl rfl) (pe_op op_andN (pv 0) (pe_call zd4 hr rfl T.m_rows_with T.zm.2 T.b_rows_with .nil pass0 (pa_cons (pv 1) (pa_cons (pv 3) pa_nil)))))
   (pss_cons (ps_set (i:=5) zx9.nd rfl (Or.inl rfl) (pe_ifExp (pt_cmpR op_eq (pv 2) pe_int (nomark _)) (pv 4) (pe_op op_xorN (pv 0) (pv 4))))
   (pss_one (ps_ret (pe_op op_orN (pv 5) (pe_call zf9 hr rfl T.m_flipped T.zo2.2 T.b_flipped .nil pass0 (pa_cons (pv 5) (pa_cons (pv 1) (pa_cons (pv 3) pa_nil))))))))),?_⟩
 refine ⟨_,rfl,_,rfl,_,rfl,p,n,rfl,hp,hn,fun R tr=>?_⟩
 refine ⟨N,R,rfl,rfl,?_⟩
 have o:=Sen.tab_and tb tr
 refine ⟨_,rfl,rfl,_,rfl,?_⟩
 cases v with
 | true =>
  refine ite2 (fun _=>?_) (fun c=>absurd (decide_eq_true rfl) c)
  refine ⟨_,rfl,?_⟩
  refine ⟨_,rfl,_,rfl,_,rfl,_,rfl,N &&& R,p,n,_,rfl,hp,hn,o,fun R2 t2=>?_⟩
  refine ⟨_,_,rfl,rfl,q _ (tab_congr (Sen.tab_or o t2) fun b hb=>?_)⟩
  show ((f b && b.testBit p) || (f (putBit b p (!b.testBit p)) && (putBit b p (!b.testBit p)).testBit p))=f (putBit b p true)
  rw [putBit_bit,if_pos rfl]
  cases e:b.testBit p
  ·simp
  ·rw [← e,Bdd.putBit_self,e]; simp
 | false =>
  refine ite2 (fun c=>absurd (of_decide_eq_true c) (fun z=>by injection z with z; revert z; decide)) (fun _=>?_)
  have z:=Sen.tab_xor tb o
  refine ⟨_,rfl,_,rfl,N,N &&& R,rfl,rfl,?_⟩
  refine ⟨_,rfl,_,rfl,_,rfl,_,rfl,N ^^^ (N &&& R),p,n,_,rfl,hp,hn,z,fun R2 t2=>?_⟩
  refine ⟨_,_,rfl,rfl,q _ (tab_congr (Sen.tab_or z t2) fun b hb=>?_)⟩
  show ((f b != (f b && b.testBit p)) || (f (putBit b p (!b.testBit p)) != (f (putBit b p (!b.testBit p)) && (putBit b p (!b.testBit p)).testBit p)))=f (putBit b p false)
  rw [putBit_bit,if_pos rfl]
  cases e:b.testBit p
  ·rw [← e,Bdd.putBit_self,e]; simp
  ·simp
theorem ok_hangs_on (T:Txt P w K mg a) (zf9:FnOk P w K mg base CX0 k a.zj7 a.zj8 ["table", "place", "marks"] spFlipped):FnOk P w K mg base CX0 (k + 1) a.zt6 a.zt7 ["table", "place", "marks"] spHangs:=by
 refine T.zy0.ok zE2 (fun vs H Q E h=>?_) (fun cdv A outer s H vs Q E hr h=>?_)
 ·obtain ⟨N,p,n,f,rfl,_⟩:=h
  rfl
 obtain ⟨N,p,n,f,rfl,hp,hn,tb,q⟩:=h
 refine ⟨_,(pss_one (ps_ret (pe_cmpR op_ne (pe_call zf9 hr rfl T.m_flipped T.zo2.2 T.b_flipped .nil pass0 (pa_cons (pv 0) (pa_cons (pv 1) (pa_cons (pv 2) pa_nil)))) (pv 0) (nomark _)))),?_⟩
 refine ⟨_,rfl,_,rfl,_,rfl,N,p,n,f,rfl,hp,hn,tb,fun R tr=>?_⟩
 refine ⟨_,rfl,rfl,?_⟩
 refine q _ (fun e=>?_) (fun e=>?_)
 ·have e1:R=N:=by
   have z:V.int (R:Nat)=V.int (N:Nat):=of_decide_eq_true (by simpa using e)
   injection z with z
   omega
  subst e1
  refine Bdd.Free.of_flip fun b hb=>?_
  rw [← Bdd.tab_val tr hb,Bdd.tab_val tb hb]
 ·refine Classical.byContradiction fun no=>?_
  have e1:R=N:=Bdd.tab_inj tr tb fun b hb=>by
   refine Classical.byContradiction fun ne=>no ⟨b,hb,fun z=>ne ?_⟩
   show f (putBit b p (!b.testBit p))=f b
   cases e:b.testBit p
   ·rw [Bool.not_false,← z,← e,Bdd.putBit_self]
   ·rw [Bool.not_true,z,← e,Bdd.putBit_self]
  subst e1
  rw [decide_eq_true rfl] at e
  cases e
theorem ok_first_place (T:Txt P w K mg a) (zF0:FnOk P w K mg base CX0 k a.zt6 a.zt7 ["table", "place", "marks"] spHangs):FnOk P w K mg base CX0 (k + 1) a.zi3 a.zi4 ["table", "marks"] spFirst:=by
 refine T.zt.ok zq5 (fun vs H Q E h=>?_) (fun cdv A outer s H vs Q E hr h=>?_)
 ·obtain ⟨N,n,f,rfl,_⟩:=h
  rfl
 obtain ⟨N,n,f,rfl,hn,tb,q⟩:=h
 refine ⟨_,(pss_cons (ps_set (i:=2) zq5.nd rfl (Or.inl rfl) pe_int)
   (pss_cons (ps_while PassesOwn.never (PW.pt (pw_and (pt_cmpR op_lt (pv 2) (pv 1) (nomark _)) (pw_and1 (pt_not (pt_truth (pe_call zF0 hr rfl T.m_hangs_on T.zy0.2 T.b_hangs_on .nil pass0 (pa_cons (pv 0) (pa_cons (pv 2) (pa_cons (pv 1) pa_nil)))) (fun _=>rfl)))))) (pss_one (ps_aug (i:=2) zq5.nd rfl (Or.inl rfl) pe_int iop_add)))
   (pss_one (ps_ret (pv 2))))),?_⟩
 refine ⟨fun m σ H'=>∃ p:Nat,m=n - p/\H'=H/\p<=n/\(∀ i,i < p->Bdd.Free n f i)/\σ=[some (.int N),some (.int n),some (.int p)],⟨_,0,rfl,rfl,Nat.zero_le _,fun i hi=>absurd hi (Nat.not_lt_zero _),rfl⟩,?_⟩
 rintro m σ H' ⟨p,rfl,rfl,hp,fr,rfl⟩
 refine ⟨_,rfl,_,rfl,_,_,rfl,rfl,_,rfl,ite2 (fun c=>?_) (fun c=>?_)⟩
 ·have hpn:p < n:=by have:=of_decide_eq_true c; omega
  refine ⟨_,rfl,_,rfl,_,rfl,N,p,n,f,rfl,hpn,hn,tb,fun b hf ht=>?_⟩
  cases b with
  | false =>
   refine ⟨_,rfl,ite2 (fun c2=>?_) (fun c2=>absurd rfl c2)⟩
   refine ⟨_,fun σ' H2 h=>h,?_⟩
   refine ⟨_,rfl,_,_,rfl,rfl,n - (p + 1),by omega,p + 1,rfl,rfl,hpn,fun i hi=>?_,rfl⟩
   by_cases e:i=p
   ·subst e
    exact hf rfl
   ·exact fr i (by omega)
  | true =>
   refine ⟨_,rfl,ite2 (fun c2=>absurd c2 Bool.false_ne_true) (fun c2=>?_)⟩
   exact ⟨_,rfl,q p hp fr fun _=>ht rfl⟩
 ·refine ⟨_,rfl,q p hp fr fun h=>absurd (decide_eq_true (by omega)) c⟩
theorem ok_Book_room_step {d:Nat} (T:Txt P w K mg a) (zn3:FnOk P w K mg base CX0 k a.zi3 a.zi4 ["table", "marks"] spFirst) (zh4:FnOk P w K mg base CX0 k a.zn8 a.zn9 ["table", "place", "value", "marks"] spHeldAt)
  (zi:FnOk P w K mg base CX0 k a.zc2 a.zc3 ["self", "table"] (spRoomWith a.za d)):FnOk P w K mg base CX0 (k + 1) a.zc2 a.zc3 ["self", "table"] (spRoomWith a.za (d + 1)):=by
 refine T.zv2.ok zd0 (fun vs H Q E h=>?_) (fun cdv A outer s H vs Q E hr h=>?_)
 ·obtain ⟨b,os,rs,F,t,u,f,rfl,_⟩:=h
  rfl
 obtain ⟨b,os,rs,F,t,u,f,rfl,hB,hlen,hu,hd,tb,fr,q⟩:=h
 refine ⟨_,(pss_cons (ps_if (pt_cmp (pc_dnotin (hu_of hr) (pv 1) (pe_fld (pv 0) rfl))) (pss_cons (ps_set (i:=2) zd0.nd rfl (Or.inl rfl) (pe_callB call_len_seq rfl T.n_len bt_len (pa_cons (pe_fld (pv 0) rfl) pa_nil)))
   (pss_cons (ps_set (i:=3) zd0.nd rfl (Or.inl rfl) (pe_call zn3 hr rfl T.m_first_place T.zt.2 T.b_first_place .nil pass0 (pa_cons (pv 1) (pa_cons (pv 2) pa_nil))))
   (pss_cons (ps_set (i:=4) zd0.nd rfl (Or.inl rfl) (pe_meth (pv 0) T.c_Book T.e_Book_room_with zi hr T.b_Book_room_with .nil pass0 (pa_cons (pe_call zh4 hr rfl T.m_held_at T.zo3.2 T.b_held_at .nil pass0 (pa_cons (pv 1) (pa_cons (pv 3) (pa_cons pe_int (pa_cons (pv 2) pa_nil))))) pa_nil)))
   (pss_cons (ps_set (i:=5) zd0.nd rfl (Or.inl rfl) (pe_meth (pv 0) T.c_Book T.e_Book_room_with zi hr T.b_Book_room_with .nil pass0 (pa_cons (pe_call zh4 hr rfl T.m_held_at T.zo3.2 T.b_held_at .nil pass0 (pa_cons (pv 1) (pa_cons (pv 3) (pa_cons pe_int (pa_cons (pv 2) pa_nil))))) pa_nil)))
   (pss_cons (ps_dput (hu_of hr) (pe_fld (pv 0) rfl) (pv 1) (pe_callB call_len_seq rfl T.n_len bt_len (pa_cons (pe_fld (pv 0) rfl) pa_nil)) rfl)
   (pss_cons (ps_expr (pe_bm PySem.F.plainAttrs_list PySem.F.slot_list_append PySem.F.type_list_append mt_append (pe_fld (pv 0) rfl) (pa_cons (pe_tup (pa_cons (pv 3) (pa_cons (pv 4) (pa_cons (pv 5) pa_nil)))) pa_nil)))
   (pss_one (ps_expr (pe_bm PySem.F.plainAttrs_list PySem.F.slot_list_append PySem.F.type_list_append mt_append (pe_fld (pv 0) rfl) (pa_cons (pv 1) pa_nil)))))))))) pss_nil)
   (pss_one (ps_ret (pe_dget (hu_of hr) (pe_fld (pv 0) rfl) (pv 1) (fun _ _=>rfl))))),?_⟩
 have hB0:=hB
 obtain ⟨dx,ml,rl,tl,nd,rv,ts,kvs,h⟩:=hB
 have n8:os.length<=8:=h.ord.le
 have hml:(os.map V.str).length=os.length:=List.length_map _
 have pw:2 ^ (d + 1)=2 ^ d + 2 ^ d:=by rw [Nat.pow_succ]; omega
 have pd:1<=2 ^ d:=Nat.one_le_two_pow
 have pn:2 ^ os.length<=256:=Sen.two8 n8
 refine ⟨_,rfl,_,rfl,b,a.za,dx,_,_,rfl,h.hb,T.c_Book,T.na_Book_numbers,rfl,nd,_,rfl,DGet.k (k:=.inl (t:Int)) h.hd,?_⟩
 by_cases hm:t∈ts
 ·obtain ⟨j,hj,ej⟩:=List.getElem_of_mem hm
  have ej':ts[j]?=some t:=by rw [List.getElem?_eq_getElem hj,ej]
  have ev:=h.nums.get j t ej'
  have z:=DGet.k (k:=.inl (t:Int)) h.hd
  rw [ev] at z
  rw [ev]
  refine ⟨_,rfl,iteF ?_⟩
  refine ⟨_,rfl,b,a.za,dx,_,_,rfl,h.hb,T.c_Book,T.na_Book_numbers,rfl,_,rfl,nd,_,rfl,z,?_⟩
  refine q j rs H (fun x o e _=>e) (fun _ _ e=>e) hB0 (.refl _) (by rw [← h.tabs.len]; exact hj) (h.tabs.find h.bk ej' tb) (by omega) fun j h1 h2=>by omega
 ·have ev:=h.nums.non t hm
  rw [ev]
  refine ⟨_,rfl,iteT ?_⟩
  refine ⟨_,rfl,b,a.za,dx,_,_,rfl,h.hb,T.c_Book,T.na_Book_marks,rfl,ml,_,rfl,.inl (SqL.of h.hm),?_⟩
  rw [hml]
  refine ⟨_,rfl,_,rfl,t,os.length,f,rfl,n8,tb,fun p hp0 frp dep=>?_⟩
  have hp:p < os.length:=by
   refine Nat.lt_of_le_of_ne hp0 fun e=>hm ?_
   subst e
   have cs:=Bdd.const_of_free frp
   have two:=Bdd.len2 h.bk
   cases hf:f 0 with
   | false=>exact List.mem_of_getElem? (h.tabs.same (j:=0) (by omega) tb fun r=>by rw [cs _ (Bdd.bits_lt _ _),hf]; rfl)
   | true=>exact List.mem_of_getElem? (h.tabs.same (j:=1) (by omega) tb fun r=>by rw [cs _ (Bdd.bits_lt _ _),hf]; exact Bdd.yes_yes h.bk r)
  have hup:u<=p:=by
   refine Nat.le_of_not_lt fun hlt=>?_
   obtain ⟨c,hc,hne⟩:=dep hp
   exact hne (by rw [fr p hlt c hc,fr p hlt c hc])
  have fre:∀ (v:Bool) i,i < p + 1->Bdd.Free os.length (fun c=>f (putBit c p v)) i:=fun v i hi c hc v'=>by
   show f (putBit (putBit c i v') p v)=f (putBit c p v)
   by_cases e:i=p
   ·subst e
    congr 1
    refine Bdd.eq_bits (putBit_lt (putBit_lt hc hp) hp) (putBit_lt hc hp) fun j _=>?_
    rw [putBit_bit,putBit_bit,putBit_bit]
    by_cases e:j=i
    ·rw [if_pos e,if_pos e]
    ·rw [if_neg e,if_neg e,if_neg e]
   ·rw [← frp i (by omega) _ (putBit_lt (v:=v) hc hp) v']
    congr 1
    refine Bdd.eq_bits (putBit_lt (putBit_lt hc (by omega)) hp) (putBit_lt (putBit_lt hc hp) (by omega)) fun j _=>?_
    rw [putBit_bit,putBit_bit,putBit_bit,putBit_bit]
    by_cases e1:j=p
    ·rw [if_pos e1,if_pos e1,if_neg (by omega)]
    ·rw [if_neg e1,if_neg e1]
  refine ⟨_,rfl,b,dx,_,rfl,h.hb,rfl,_,rfl,_,rfl,_,rfl,t,p,os.length,false,f,rfl,hp,n8,tb,fun R0 tr0=>?_⟩
  refine ⟨b,os,rs,F,R0,p + 1,_,rfl,hB0,by omega,hp,by omega,tr0,fre false,fun k0 rs1 H1 aw1 tu1 hB1 gr1 lt1 y1 ln1 lv1=>?_⟩
  have hB1':=hB1
  obtain ⟨dx1,ml1,rl1,tl1,nd1,rv1,ts1,kvs1,h1⟩:=hB1
  refine ⟨_,rfl,b,dx1,_,rfl,h1.hb,rfl,_,rfl,_,rfl,_,rfl,t,p,os.length,true,f,rfl,hp,n8,tb,fun R1 tr1=>?_⟩
  refine ⟨b,os,rs1,F,R1,p + 1,_,rfl,hB1',by omega,hp,by omega,tr1,fre true,fun k1 rs2 H2 aw2 tu2 hB2 gr2 lt2 y2 ln2 lv2=>?_⟩
  obtain ⟨dx2,ml2,rl2,tl2,nd2,rv2,ts2,kvs2,h2⟩:=hB2
  have lt1':k0 < rs2.length:=Nat.lt_of_lt_of_le lt1 gr2.len
  have y1':∀ r,Bdd.yes rs2 k0 r=f (putBit (Bdd.bits r os.length) p false):=fun r=>by rw [gr2.yes h1.bk lt1]; exact y1 r
  have g02:=gr1.trans gr2
  have lrs:=g02.len
  have lvs:∀ j,rs.length<=j->j < rs2.length->p < Bdd.lev os.length rs2 j:=fun j a1 a2=>by
   by_cases hj:j < rs1.length
   ·rw [gr2.lev hj]; exact lv1 j a1 hj
   ·exact lv2 j (by omega) a2
  have old:∀ j,j < rs.length->¬ ∀ r,Bdd.yes rs2 j r=f (Bdd.bits r os.length):=fun j hj hy=>hm (List.mem_of_getElem? (h.tabs.same hj tb fun r=>by rw [← g02.yes h.bk hj]; exact hy r))
  obtain ⟨B',yn⟩:=Bdd.room_new h2.bk hp lt1' lt2 y1' y2 frp (dep hp) old lvs
  have hn2:t ∉ ts2:=fun hm2=>by
   obtain ⟨j,hj,ej⟩:=List.getElem_of_mem hm2
   have ej':ts2[j]?=some t:=by rw [List.getElem?_eq_getElem hj,ej]
   have hjr:j < rs2.length:=by rw [← h2.tabs.len]; exact hj
   have hy:=h2.tabs.find h2.bk ej' tb
   by_cases hjo:j < rs.length
   ·exact old j hjo hy
   ·obtain ⟨c,hc,hne⟩:=dep hp
    have lv:=lvs j (by omega) hjr
    refine hne ?_
    have a1:=hy (Bdd.put (Bdd.rowN c) p false)
    have a2:=hy (Bdd.put (Bdd.rowN c) p true)
    rw [Bdd.yes_put h2.bk hjr lv,Bdd.bits_put hp,Bdd.bits_rowN hc] at a1 a2
    exact a1.symm.trans a2
  have l2:=h2.len
  have s2:rs2.length < sizeLine:=Nat.lt_of_lt_of_le (show rs2.length < 9000001 by omega) (by decide)
  refine ⟨_,rfl,b,a.za,dx2,_,_,rfl,h2.hb,T.c_Book,T.na_Book_rooms,rfl,rl2,_,rfl,.inl (SqL.of h2.hr),?_⟩
  rw [l2]
  refine ⟨_,rfl,b,a.za,dx2,_,_,rfl,h2.hb,T.c_Book,T.na_Book_numbers,rfl,_,rfl,nd2,_,rfl,DPut.k (k:=.inl (t:Int)) h2.hd (by have:=h2.nums.len; have:=h2.tabs.len; omega),?_⟩
  have nb:nd2≠b:=ne_of h2.hd h2.hb (by intro z; cases z)
  have nm:nd2≠ml2:=ne_of h2.hd h2.hm (by intro z; cases z)
  have nr:nd2≠rl2:=ne_of h2.hd h2.hr (by intro z; cases z)
  have nt:nd2≠tl2:=ne_of h2.hd h2.ht (by intro z; cases z)
  have br:b≠rl2:=ne_of h2.hb h2.hr (by intro z; cases z)
  have bt:b≠tl2:=ne_of h2.hb h2.ht (by intro z; cases z)
  generalize hO3:HO.dK (putK kvs2 (Sum.inl (t:Int)) (V.int (rs2.length:Nat)))=o3
  have b3:upd H2 nd2 o3 b=some (.ins a.za dx2 (bookFs ml2 rl2 tl2 nd2)):=by rw [upd_ne (Ne.symm nb)]; exact h2.hb
  have r3:upd H2 nd2 o3 rl2=some (.lst rv2):=by rw [upd_ne (Ne.symm nr)]; exact h2.hr
  refine ⟨_,rfl,b,a.za,dx2,_,_,rfl,b3,T.c_Book,T.na_Book_rooms,rfl,.inl ⟨rfl,_,SqL.of r3⟩,?_⟩
  refine ⟨_,rfl,_,rfl,_,rfl,by show 3<=sizeLine; decide,fun q4 hq4=>?_⟩
  generalize hO4:HO.tup [V.int (p:Nat),V.int (k0:Nat),V.int (k1:Nat)]=o4
  have r4:upd (upd H2 nd2 o3) q4 o4 rl2=some (.lst rv2):=by rw [upd_ne (ne_of_none r3 hq4)]; exact r3
  refine ⟨rl2,_,_,rfl,rfl,r4,by rw [l2]; exact s2,?_⟩
  have b4:upd (upd H2 nd2 o3) q4 o4 b=some (.ins a.za dx2 (bookFs ml2 rl2 tl2 nd2)):=by rw [upd_ne (ne_of_none b3 hq4)]; exact b3
  have t3:upd H2 nd2 o3 tl2=some (.lst (ts2.map fun t=>V.int (t:Nat))):=by rw [upd_ne (Ne.symm nt)]; exact h2.ht
  have t4:upd (upd H2 nd2 o3) q4 o4 tl2=some (.lst (ts2.map fun t=>V.int (t:Nat))):=by rw [upd_ne (ne_of_none t3 hq4)]; exact t3
  have m3:upd H2 nd2 o3 ml2=some (.lst (os.map V.str)):=by rw [upd_ne (Ne.symm nm)]; exact h2.hm
  have m4:upd (upd H2 nd2 o3) q4 o4 ml2=some (.lst (os.map V.str)):=by rw [upd_ne (ne_of_none m3 hq4)]; exact m3
  have n3:upd H2 nd2 o3 nd2=some o3:=upd_same
  have n4:upd (upd H2 nd2 o3) q4 o4 nd2=some o3:=by rw [upd_ne (ne_of_none n3 hq4)]; exact n3
  have qr:q4≠rl2:=Ne.symm (ne_of_none r3 hq4)
  have qt:q4≠tl2:=Ne.symm (ne_of_none t3 hq4)
  have q4':upd (upd H2 nd2 o3) q4 o4 q4=some o4:=upd_same
  have tu4:Tups H2 (upd (upd H2 nd2 o3) q4 o4):=fun x xs e=>by
   have e3:upd H2 nd2 o3 x=some (.tup xs):=by rw [upd_ne (ne_of e h2.hd (by intro z; cases z))]; exact e
   rw [upd_ne (ne_of_none e3 hq4)]; exact e3
  have aw4:∀ x o,H2 x=some o->¬ F x->upd (upd H2 nd2 o3) q4 o4 x=some o:=fun x o e nf=>by
   have e3:upd H2 nd2 o3 x=some o:=by rw [upd_ne (fun z=>nf ((h2.ft x).mpr (.inr (.inr (.inr (.inr z))))))]; exact e
   rw [upd_ne (ne_of_none e3 hq4)]; exact e3
  generalize upd (upd H2 nd2 o3) q4 o4=H4 at b4 t4 m4 n4 r4 q4' tu4 aw4
  generalize hO5:HO.lst (rv2 ++ [V.ref q4])=o5
  have b5:upd H4 rl2 o5 b=some (.ins a.za dx2 (bookFs ml2 rl2 tl2 nd2)):=by rw [upd_ne br]; exact b4
  have t5:upd H4 rl2 o5 tl2=some (.lst (ts2.map fun t=>V.int (t:Nat))):=by rw [upd_ne (Ne.symm h2.rt)]; exact t4
  refine ⟨_,rfl,b,a.za,dx2,_,_,rfl,b5,T.c_Book,T.na_Book_tables,rfl,.inl ⟨rfl,_,SqL.of t5⟩,_,rfl,tl2,_,_,rfl,rfl,t5,by rw [List.length_map,h2.tabs.len]; exact s2,?_⟩
  generalize hO6:HO.lst (ts2.map (fun t=>V.int (t:Nat)) ++ [V.int (t:Nat)])=o6
  have b6:upd (upd H4 rl2 o5) tl2 o6 b=some (.ins a.za dx2 (bookFs ml2 rl2 tl2 nd2)):=by rw [upd_ne bt]; exact b5
  have n6:upd (upd H4 rl2 o5) tl2 o6 nd2=some (.dK (putK kvs2 (Sum.inl (t:Int)) (V.int (rs2.length:Nat)))):=by rw [upd_ne nt,upd_ne nr,n4,hO3]
  have z:=DGet.k (k:=.inl (t:Int)) n6
  rw [valV_put,if_pos rfl] at z
  refine ⟨_,rfl,b,a.za,dx2,_,_,rfl,b6,T.c_Book,T.na_Book_numbers,rfl,_,rfl,nd2,_,rfl,z,?_⟩
  have tu6:Tups H4 (upd (upd H4 rl2 o5) tl2 o6):=fun x xs e=>by
   rw [upd_ne (ne_of e t4 (by intro z; cases z)),upd_ne (ne_of e r4 (by intro z; cases z))]; exact e
  have parts:=h2.more (H':=upd (upd H4 rl2 o5) tl2 o6) (i:=p) (lo:=k0) (hi:=k1) (t:=t) (q:=q4) (fun x xs e=>tu6 _ _ (tu4 _ _ e)) (b6.trans h2.hb.symm)
   (by rw [upd_ne h2.mt,upd_ne h2.mr,m4,h2.hm]) (by rw [upd_ne h2.rt,upd_same,hO5]) (by rw [upd_same,hO6]) n6
   (by rw [upd_ne qt,upd_ne qr,q4',hO4]) B' hn2 (tab_congr tb fun c hc=>by rw [yn,Bdd.bits_rowN hc])
  refine q rs2.length _ _ (fun x o e nf=>?_) (fun x xs e=>tu6 _ _ (tu4 _ _ (tu2 _ _ (tu1 _ _ e)))) ⟨_,_,_,_,_,_,_,_,parts⟩ (g02.trans (Bdd.Grown.snoc _ _)) (by simp) yn (by rw [List.length_append,List.length_singleton]; omega) fun j a1 a2=>?_
  ·have e2:=aw2 x o (aw1 x o e nf) nf
   rw [upd_ne (fun z=>nf ((h2.ft x).mpr (.inr (.inr (.inr (.inl z)))))),upd_ne (fun z=>nf ((h2.ft x).mpr (.inr (.inr (.inl z)))))]
   exact aw4 x o e2 nf
  ·rw [List.length_append,List.length_singleton] at a2
   by_cases hj:j < rs2.length
   ·rw [Bdd.lev_snoc hj]
    have:=lvs j a1 hj
    omega
   ·have:j=rs2.length:=by omega
    subst this
    rw [Bdd.lev_of B' (i:=p) (lo:=k0) (hi:=k1) (by simp)]
    exact hup
theorem ok_Book_room_with (T:Txt P w K mg a) (zn3:FnOk P w K mg base CX0 k a.zi3 a.zi4 ["table", "marks"] spFirst) (zh4:FnOk P w K mg base CX0 k a.zn8 a.zn9 ["table", "place", "value", "marks"] spHeldAt) :
  ∀ d:Nat,FnOk P w K mg base CX0 (k + d) a.zc2 a.zc3 ["self", "table"] (spRoomWith a.za d)
 | 0=>by
  refine ⟨fun vs H Q E h=>?_,fun A outer s H args us vs Q E _ _ _ _ h=>?_⟩
  ·obtain ⟨b,os,rs,F,t,u,f,rfl,_⟩:=h
   rfl
  ·obtain ⟨b,os,rs,F,t,u,f,_,_,_,hu,hd,_⟩:=h
   omega
 | d + 1=>ok_Book_room_step T (zn3.mono (Nat.le_add_right _ _)) (zh4.mono (Nat.le_add_right _ _)) (ok_Book_room_with T zn3 zh4 d)
theorem ok_Book_enter (T:Txt P w K mg a) (zz7:FnOk P w K mg base CX0 k a.zf4 a.zf5 ["some"] spMustSen) (zA2:FnOk P w K mg base CX0 k a.zg1 a.zg2 ["order", "sentence"] (spMustMarks K))
  (zy2:FnOk P w K mg base CX0 k a.zk7 a.zk8 ["sentence", "order"] (spTable K 24)) (zi:FnOk P w K mg base CX0 k a.zc2 a.zc3 ["self", "table"] (spRoomWith a.za 9)) :
  FnOk P w K mg base CX0 (k + 1) a.zj9 a.zk ["self", "sentence"] (spBookEnter (BookAt a.za)):=by
 refine T.zz4.ok zC9 (fun vs H Q E h=>?_) (fun cdv A outer s H vs Q E hr h=>?_)
 ·obtain ⟨b,p,os,rs,F,sn,rfl,_⟩:=h
  rfl
 obtain ⟨b,p,os,rs,F,sn,rfl,hB,hlen,isp,hin,hc,hd,q⟩:=h
 refine ⟨_,(pss_cons (ps_expr (pe_call zz7 hr rfl T.m_must_be_sentence T.zk4.2 T.b_must_be_sentence .nil pass0 (pa_cons (pv 1) pa_nil)))
   (pss_cons (ps_expr (pe_call zA2 hr rfl T.m_must_have_marks T.zl5.2 T.b_must_have_marks .nil pass0 (pa_cons (pe_fld (pv 0) rfl) (pa_cons (pv 1) pa_nil))))
   (pss_one (ps_ret (pe_meth (pv 0) T.c_Book T.e_Book_room_with zi hr T.b_Book_room_with .nil pass0 (pa_cons (pe_call zy2 hr rfl T.m_table_of T.zu.2 T.b_table_of .nil pass0 (pa_cons (pv 1) (pa_cons (pe_fld (pv 0) rfl) pa_nil))) pa_nil)))))),?_⟩
 have L:=bookLike a.za
 have ho:=L.ord hB
 have hlt:sn.inO letts:=(Sn.inO_iff sn).mpr fun x hx=>ho.mem x ((Sn.inO_iff sn).mp hin x hx)
 refine ⟨_,rfl,p,sn,rfl,isp,hlt,hc,hd,fun H1 g1=>?_⟩
 have hB1:=L.same hB g1
 obtain ⟨dx,ml,rl,tl,nd,rv,ts,kvs,h1⟩:=hB1
 refine ⟨_,rfl,b,a.za,dx,_,_,rfl,h1.hb,T.c_Book,T.na_Book_marks,rfl,_,rfl,ml,p,os,sn,rfl,SqL.of h1.hm,isp.mono (Tups.of g1),by omega,hin,fun H2 g2=>?_⟩
 have g12:=g1.trans g2
 have h2:=h1.frame (fun x o e _=>g2 x o e) (Tups.of g2)
 refine ⟨_,rfl,b,dx,_,rfl,h2.hb,rfl,_,rfl,_,rfl,b,a.za,dx,_,_,rfl,h2.hb,T.c_Book,T.na_Book_marks,rfl,p,ml,sn,os,rfl,isp.mono (Tups.of g12),SqL.of h2.hm,hin,ho.le,hd,fun N H3 g3 hN=>?_⟩
 have g13:=g12.trans g3
 have hB3:=L.same hB g13
 refine ⟨b,os,rs,F,N,0,_,rfl,hB3,by show rs.length + 512<=9000000; omega,Nat.zero_le _,by have:=ho.le; omega,hN,fun i hi=>absurd hi (Nat.not_lt_zero _),fun j rs' H' aw tu hB' gr lt y ln _=>?_⟩
 refine q j rs' F H' (fun x o e nf=>aw x o (g13 _ _ e) nf) (fun x xs e=>tu _ _ (g13 _ _ e)) hB' (fun x hx=>.inl hx) gr lt (fun r=>?_) (by have:rs'.length + 1<=rs.length + 512:=ln; omega)
 rw [y]
 refine Sn.val_congr sn hin fun x hx=>?_
 show (Bdd.bits r os.length).testBit (ix os x)=r (ix os x)
 exact Bdd.bits_bit r (ix_spec hx).2.1
theorem ok_Book_init (T:Txt P w K mg a) (zB7:FnOk P w K mg base CX0 k a.zj2 a.zj3 ["order"] (spMustOrder K)) (zd1:FnOk P w K mg base CX0 k a.zh5 a.zh6 ["marks"] spAllRows) :
  FnOk P w K mg base CX0 (k + 1) a.zl7 a.zr7 ["self", "order"] (spBookInit (BookAt a.za) K a.za):=by
 refine T.zA4.ok zz2 (fun vs H Q E h=>?_) (fun cdv A outer s H vs Q E hr h=>?_)
 ·obtain ⟨b,dx,l,os,rfl,_⟩:=h
  rfl
 obtain ⟨b,dx,l,os,rfl,hb,bd,hl,ho,q⟩:=h
 refine ⟨_,(pss_cons (ps_expr (pe_call zB7 hr rfl T.m_must_be_order T.zp9.2 T.b_must_be_order .nil pass0 (pa_cons (pv 1) pa_nil)))
   (pss_cons (ps_set (i:=2) zz2.nd rfl (Or.inl rfl) (pe_callB call_len_seq rfl T.n_len bt_len (pa_cons (pv 1) pa_nil)))
   (pss_cons (ps_fld (pv 0) (pe_callTy call_list_of rfl T.n_list bt_list (pa_cons (pv 1) pa_nil)) rfl)
   (pss_cons (ps_fld (pv 0) (pe_lst (pa_cons (pe_tup (pa_cons (pv 2) (pa_cons pe_int (pa_cons pe_int pa_nil)))) (pa_cons (pe_tup (pa_cons (pv 2) (pa_cons pe_int (pa_cons pe_int pa_nil)))) pa_nil))) rfl)
   (pss_cons (ps_fld (pv 0) (pe_lst (pa_cons pe_int (pa_cons (pe_call zd1 hr rfl T.m_all_rows T.zh9.2 T.b_all_rows .nil pass0 (pa_cons (pv 2) pa_nil)) pa_nil))) rfl)
   (pss_one (ps_fld (pv 0) (pe_disp (pps_cons pe_int pe_int (pps_cons (pe_call zd1 hr rfl T.m_all_rows T.zh9.2 T.b_all_rows .nil pass0 (pa_cons (pv 2) pa_nil)) pe_int pps_nil)) rfl rfl (List.cons_ne_nil _ _) (Nat.le_of_ble_eq_true rfl)) rfl))))))),?_⟩
 have n8:=ho.le
 have hml:(os.map V.str).length=os.length:=List.length_map _
 refine ⟨_,rfl,l,os,rfl,hl,ho,fun H1 g1=>?_⟩
 have hl1:=g1.seq hl
 refine ⟨_,rfl,l,_,rfl,.inl hl1,?_⟩
 rw [hml]
 have b1:=g1 _ _ hb
 refine ⟨_,rfl,l,_,rfl,.inl hl1,fun ml hm1=>?_⟩
 have bm:b≠ml:=ne_of_none b1 hm1
 have b2:upd H1 ml (.lst (os.map V.str)) b=some (.ins a.za dx []):=by rw [upd_ne bm]; exact b1
 refine ⟨_,rfl,b,a.za,dx,_,rfl,b2,T.c_Book,T.na_Book_marks,by decide,?_⟩
 have s2:∀ x o,H x=some o->x≠b->upd (upd H1 ml (.lst (os.map V.str))) b (.ins a.za dx (putF "marks" (.ref ml) [])) x=some o:=fun x o e nb=>by
  rw [upd_ne nb,upd_ne (ne_of_none (g1 _ _ e) hm1)]; exact g1 _ _ e
 have hm2:upd (upd H1 ml (.lst (os.map V.str))) b (.ins a.za dx (putF "marks" (.ref ml) [])) ml=some (.lst (os.map V.str)):=by rw [upd_ne (Ne.symm bm)]; exact upd_same
 have f2:∀ x,upd (upd H1 ml (.lst (os.map V.str))) b (.ins a.za dx (putF "marks" (.ref ml) [])) x=none->H x=none:=fun x e=>by
  have nb:x≠b:=fun z=>by rw [z,upd_same] at e; cases e
  cases hx:H x with
  | none=>rfl
  | some o=>rw [s2 x o hx nb] at e; cases e
 have fm:H ml=none:=g1.free hm1
 have b2':upd (upd H1 ml (.lst (os.map V.str))) b (.ins a.za dx (putF "marks" (.ref ml) [])) b=some (.ins a.za dx (putF "marks" (.ref ml) [])):=upd_same
 generalize upd (upd H1 ml (.lst (os.map V.str))) b (.ins a.za dx (putF "marks" (.ref ml) []))=H2 at s2 hm2 f2 b2'
 refine ⟨_,rfl,by show 3<=sizeLine; decide,fun p0 hp0=>?_⟩
 refine ⟨_,rfl,by show 3<=sizeLine; decide,fun p1 hp1=>?_⟩
 refine ⟨by show 2<=sizeLine; decide,fun rl hrl=>?_⟩
 have g2:=((Same.new hp0 (.tup [.int (os.length:Nat),.int 0,.int 0])).trans (Same.new hp1 (.tup [.int (os.length:Nat),.int 1,.int 1]))).trans (Same.new hrl (.lst [.ref p0,.ref p1]))
 have hp0':=((Same.new hp1 (.tup [.int (os.length:Nat),.int 1,.int 1])).trans (Same.new hrl (.lst [.ref p0,.ref p1]))) p0 (.tup [.int (os.length:Nat),.int 0,.int 0]) upd_same
 have hp1':=(Same.new hrl (.lst [.ref p0,.ref p1])) p1 (.tup [.int (os.length:Nat),.int 1,.int 1]) upd_same
 have hr3:upd (upd (upd H2 p0 (.tup [.int (os.length:Nat),.int 0,.int 0])) p1 (.tup [.int (os.length:Nat),.int 1,.int 1])) rl (.lst [.ref p0,.ref p1]) rl=some (.lst [.ref p0,.ref p1]):=upd_same
 have frl:H2 rl=none:=((Same.new hp0 _).trans (Same.new hp1 _)).free hrl
 have brl:b≠rl:=ne_of_none b2' frl
 have mr:ml≠rl:=ne_of_none hm2 frl
 have b0:b≠p0:=ne_of_none b2' hp0
 have b1':b≠p1:=ne_of_none b2' ((Same.new hp0 _).free hp1)
 generalize upd (upd (upd H2 p0 (.tup [.int (os.length:Nat),.int 0,.int 0])) p1 (.tup [.int (os.length:Nat),.int 1,.int 1])) rl (.lst [.ref p0,.ref p1])=H3 at g2 hp0' hp1' hr3
 refine ⟨_,rfl,b,a.za,dx,_,rfl,g2 _ _ b2',T.c_Book,T.na_Book_rooms,by show 1 < 1000; decide,?_⟩
 generalize hfs:putF "rooms" (V.ref rl) (putF "marks" (V.ref ml) [])=fs3
 have u3:∀ x,x≠b->upd H3 b (.ins a.za dx fs3) x=H3 x:=fun x nb=>upd_ne nb
 have b3:upd H3 b (.ins a.za dx fs3) b=some (.ins a.za dx fs3):=upd_same
 generalize upd H3 b (.ins a.za dx fs3)=H4 at u3 b3
 refine ⟨_,rfl,os.length,rfl,n8,by show 2<=sizeLine; decide,fun tl htl=>?_⟩
 have btl:b≠tl:=ne_of_none b3 htl
 have g4:=Same.new htl (.lst [.int 0,.int ((2 ^ 2 ^ os.length - 1:Nat):Int)])
 have ht5:upd H4 tl (.lst [.int 0,.int ((2 ^ 2 ^ os.length - 1:Nat):Int)]) tl=some (.lst [.int 0,.int ((2 ^ 2 ^ os.length - 1:Nat):Int)]):=upd_same
 generalize upd H4 tl (.lst [.int 0,.int ((2 ^ 2 ^ os.length - 1:Nat):Int)])=H5 at g4 ht5
 refine ⟨_,rfl,b,a.za,dx,_,rfl,g4 _ _ b3,T.c_Book,T.na_Book_tables,by rw [← hfs]; show 2 < 1000; decide,?_⟩
 generalize hfs4:putF "tables" (V.ref tl) fs3=fs4
 have u5:∀ x,x≠b->upd H5 b (.ins a.za dx fs4) x=H5 x:=fun x nb=>upd_ne nb
 have b5:upd H5 b (.ins a.za dx fs4) b=some (.ins a.za dx fs4):=upd_same
 generalize upd H5 b (.ins a.za dx fs4)=H6 at u5 b5
 refine fun nd hnd=>?_
 have bnd:b≠nd:=ne_of_none b5 hnd
 have g6:=Same.new hnd (.dK [])
 refine ⟨_,rfl,os.length,rfl,n8,upd_same,[(Sum.inl 0,.int 0),(Sum.inl ((2 ^ 2 ^ os.length - 1:Nat):Int),.int 1)],rfl,(by show 2<=15; decide),?_⟩
 rw [upd_upd]
 have g7:=Same.new hnd (.dK (mergeK [] [(Sum.inl 0,.int 0),(Sum.inl ((2 ^ 2 ^ os.length - 1:Nat):Int),.int 1)]))
 have hn7:upd H6 nd (.dK (mergeK [] [(Sum.inl 0,.int 0),(Sum.inl ((2 ^ 2 ^ os.length - 1:Nat):Int),.int 1)])) nd=some (.dK (mergeK [] [(Sum.inl 0,.int 0),(Sum.inl ((2 ^ 2 ^ os.length - 1:Nat):Int),.int 1)])):=upd_same
 generalize upd H6 nd (.dK (mergeK [] [(Sum.inl 0,.int 0),(Sum.inl ((2 ^ 2 ^ os.length - 1:Nat):Int),.int 1)]))=H7 at g7 hn7
 refine ⟨_,rfl,b,a.za,dx,_,rfl,g7 _ _ b5,T.c_Book,T.na_Book_numbers,by rw [← hfs4,← hfs]; show 3 < 1000; decide,?_⟩
 have big:2 ^ 2 ^ os.length - 1≠0:=by
  have:2 ^ 1<=2 ^ 2 ^ os.length:=Nat.pow_le_pow_right (by decide) Nat.one_le_two_pow
  omega
 have to7:∀ x o,H3 x=some o->x≠b->upd H7 b (.ins a.za dx (putF "numbers" (.ref nd) fs4)) x=some o:=fun x o e nb=>by
  rw [upd_ne nb]
  refine g7 _ _ ?_
  rw [u5 x nb]
  refine g4 _ _ ?_
  rw [u3 x nb]
  exact e
 have tl6:H6 tl=some (.lst [.int 0,.int ((2 ^ 2 ^ os.length - 1:Nat):Int)]):=by rw [u5 tl (Ne.symm btl)]; exact ht5
 have efs:putF "numbers" (.ref nd) fs4=bookFs ml rl tl nd:=by rw [← hfs4,← hfs]; rfl
 have up:∀ x o,H3 x=some o->x≠b->H4 x=some o:=fun x o e nb=>by rw [u3 x nb]; exact e
 have mt:ml≠tl:=ne_of_none (up _ _ (g2 _ _ hm2) (Ne.symm bm)) htl
 have rt:rl≠tl:=ne_of_none (up _ _ hr3 (Ne.symm brl)) htl
 have fr4:∀ x,H4 x=none->H x=none:=fun x e=>f2 x (by
  cases hx:H2 x with
  | none=>rfl
  | some o =>
   by_cases nb:x=b
   ·rw [nb,b3] at e; cases e
   ·rw [up x o (g2 _ _ hx) nb] at e; cases e)
 have fr6:∀ x,H6 x=none->H x=none:=fun x e=>by
  have nb:x≠b:=fun z=>by rw [z,b5] at e; cases e
  rw [u5 x nb] at e
  exact fr4 x (g4.free e)
 have two:∀ {j:Nat},j < 2->j=0\/j=1:=fun h=>by omega
 have bk0:Bdd.Bk os.length [none,none]:=⟨rfl,rfl,fun k h1 h2=>by simp at h2; omega,fun i j x e _=>by
  have:=(List.getElem?_eq_some_iff.mp e).1
  rcases two (by simpa using this) with z | z <;> subst z <;> cases e⟩
 refine q _ (fun x=>x=b\/x=ml\/x=rl\/x=tl\/x=nd) (fun x o e nb=>to7 x o (g2 _ _ (s2 x o e nb)) nb) ⟨dx,ml,rl,tl,nd,[.ref p0,.ref p1],[0,2 ^ 2 ^ os.length - 1],mergeK [] [(Sum.inl 0,.int 0),(Sum.inl ((2 ^ 2 ^ os.length - 1:Nat):Int),.int 1)],?_⟩ (fun x hx=>?_)
 ·refine { hb:=by rw [upd_same,efs],hm:=to7 _ _ (g2 _ _ hm2) (Ne.symm bm),hr:=to7 _ _ hr3 (Ne.symm brl),ht:=by rw [upd_ne (Ne.symm btl)]; exact g7 _ _ tl6,hd:=by rw [upd_ne (Ne.symm bnd)]; exact hn7,mr:=mr,mt:=mt,rt:=rt,ord:=ho,bk:=bk0,len:=rfl,rm:=?_,tabs:=?_,nums:=?_,ft:=fun x=>Iff.rfl }
  ·intro j x e
   have:=(List.getElem?_eq_some_iff.mp e).1
   rcases two (by simpa using this) with z | z <;> subst z <;> cases e
   ·exact ⟨p0,rfl,to7 _ _ hp0' (Ne.symm b0)⟩
   ·exact ⟨p1,rfl,to7 _ _ hp1' (Ne.symm b1')⟩
  ·refine ⟨rfl,fun j t e=>?_⟩
   have:=(List.getElem?_eq_some_iff.mp e).1
   rcases two (by simpa using this) with z | z <;> subst z <;> cases e
   ·exact tab_congr (tab_zero _) fun b _=>rfl
   ·exact tab_congr (tab_all _) fun b _=>(Bdd.yes_yes bk0 _).symm
  ·have z0:Nums [] []:=⟨fun j t e=>by simp at e,fun t _=>rfl,Nat.le_refl _⟩
   have z1:=z0.snoc (t:=0) (by simp)
   exact z1.snoc (t:=2 ^ 2 ^ os.length - 1) (fun hm=>by simp at hm; omega)
 ·rcases hx with z | z | z | z | z <;> subst z
  ·exact .inl rfl
  ·exact .inr (.inr fm)
  ·exact .inr (.inr (f2 _ frl))
  ·exact .inr (.inr (fr4 _ htl))
  ·exact .inr (.inr (fr6 _ hnd))
end
end K42
namespace K42
open PySem L2 Sen
section
variable {P:Program} {w:World} {K:PySem.W.Frag} {mg:Str->Option Value} {base:Heap} {a:Ad} {k:Nat}
theorem ok_whole (T:Txt P w K mg a):FnOk P w K mg base CX0 (k + 1) a.zi5 a.zi6 ["found"] spWhole:=by
 refine T.zn0.ok zC1 (fun vs H Q E h=>?_) (fun cdv A outer s H vs Q E hr h=>?_)
 ·obtain ⟨i,rfl,_⟩:=h
  rfl
 obtain ⟨i,rfl,q⟩:=h
 refine ⟨_,(pss_one (ps_ret (pe_and (pe_callB call_isinst rfl T.n_isinstance bt_isinstance (pa_cons (pv 0) (pa_cons (pe_bltn (v:=.ty "int") rfl T.n_int bt_int rfl) pa_nil))) (pe_one (pe_not (pe_callB call_isinst rfl T.n_isinstance bt_isinstance (pa_cons (pv 0) (pa_cons (pe_bltn (v:=.ty "bool") rfl T.n_bool bt_bool rfl) pa_nil)))))))),?_⟩
 refine ⟨_,rfl,_,_,_,true,rfl,.int i,rfl,true,rfl,iteT ?_⟩
 exact ⟨_,rfl,_,_,_,false,rfl,.int i,rfl,false,rfl,q⟩
theorem ok_cell_f (T:Txt P w K mg a):FnOk P w K mg base CX0 (k + 1) a.zb0 a.zb1 ["script", "k"] (spCellF K):=by
 refine T.za0.ok zu9 (fun vs H Q E h=>?_) (fun cdv A outer s H vs Q E hr h=>?_)
 ·obtain ⟨l,ns,i,rfl,_⟩:=h
  rfl
 obtain ⟨l,ns,i,rfl,hS,q⟩:=h
 refine ⟨_,(pss_cons (ps_if (pt_cmpR op_lt (pv 1) (pe_callB call_len_seq rfl T.n_len bt_len (pa_cons (pv 0) pa_nil)) (nomark _)) (pss_one (ps_ret (pe_ix ix_list (pv 0) (pv 1) (fun _ _=>rfl)))) pss_nil)
   (pss_one (ps_ret pe_int))),?_⟩
 refine ⟨_,rfl,_,rfl,l,_,rfl,.inl hS,_,_,rfl,rfl,_,rfl,?_⟩
 refine ite2 (fun c=>?_) (fun c=>?_)
 ·have c':(i:Int) < (((ns.map V.int).length:Nat):Int):=of_decide_eq_true c
  rw [List.length_map] at c'
  have hi:i < ns.length:=by omega
  have ec:cellF ns i=ns[i]:=by unfold cellF; rw [List.getElem?_eq_getElem hi]; rfl
  rw [ec] at q
  exact ⟨_,rfl,_,rfl,l,_,i,_,rfl,rfl,hS,atI_nat (by rw [List.getElem?_map,List.getElem?_eq_getElem hi]; rfl),q⟩
 ·have hi:ns.length<=i:=by
   refine Nat.le_of_not_lt fun hlt=>c (decide_eq_true ?_)
   rw [List.length_map]; omega
  have ec:cellF ns i=0:=by unfold cellF; rw [List.getElem?_eq_none hi]; rfl
  rw [ec] at q
  exact q
theorem ok_any_order2 (T:Txt P w K mg a)
  (zb3:FnOk P w K mg base CX0 k a.ze2 a.ze3 ["cell", "k", "bound"] spDraw)
  (zD1:FnOk P w K mg base CX0 k a.zm5 a.zm6 ["cell", "limit"] spOrder):FnOk P w K mg base CX0 (k + 1) a.zg3 a.zg4 ["cell"] spAnyOrder2:=by
 refine T.zl6.ok zj6 (fun vs H Q E h=>?_) (fun cdv A outer s H vs Q E hr h=>?_)
 ·obtain ⟨c,rfl,_⟩:=h
  rfl
 obtain ⟨c,rfl,q⟩:=h
 refine ⟨_,(pss_cons (ps_if (pt_cmpR op_ne (pe_op op_mod (pv 0) pe_int) pe_int (nomark _)) (pss_one (ps_ret (pe_call zD1 hr rfl T.m_x_law_order T.zt2.2 T.b_x_law_order .nil pass0 (pa_cons (pv 0) (pa_cons pe_int pa_nil))))) pss_nil)
   (pss_cons (ps_set (i:=1) zj6.nd rfl (Or.inl rfl) (pe_lst pa_nil))
   (pss_cons (ps_for PassesOwn.never rfl (pi_range1 rfl T.n_range (pa_cons pe_int pa_nil)) (pg_name (i:=2) zj6.nd rfl (Or.inl rfl)) (pss_one (ps_expr (pe_bm PySem.F.plainAttrs_list PySem.F.slot_list_insert PySem.F.type_list_insert mt_insert (pv 1) (pa_cons (pe_op op_mod (pe_call zb3 hr rfl T.m_x_law_draw T.zb2.2 T.b_x_law_draw .nil pass0 (pa_cons (pe_op op_fdiv (pv 0) pe_int) (pa_cons (pv 2) (pa_cons pe_int pa_nil)))) (pe_op op_add (pv 2) pe_int)) (pa_cons (pe_ix ix_str pe_str (pv 2) (fun _ _=>rfl)) pa_nil))))))
   (pss_one (ps_ret (pv 1)))))),?_⟩
 refine ⟨_,rfl,_,_,rfl,rfl,(by show (0:Int) < 12; decide),rfl,_,rfl,ite2 (fun _=>?_) (fun _=>?_)⟩
 ·exact ⟨_,rfl,c,5,rfl,by decide,by decide,fun l H' os g hl ho hn=>q l H' os g hl ho (.inl hn)⟩
 refine ⟨by show 0<=sizeLine; decide,fun l hl=>?_⟩
 refine ⟨8,rfl,by decide,by decide,?_⟩
 refine for_range (fun i σ H'=>∃ (os:List Str) (f1:Option V),Same H H'/\H' l=some (.lst (os.map V.str))/\os.Nodup/\os.length=i/\(∀ x∈os,x∈letts.take i)/\σ=[some (.int c),some (.ref l),f1])
  ⟨[],_,same_new hl _,upd_same,List.nodup_nil,rfl,(fun _ h=>nomatch h),rfl⟩ ?_ ?_
 ·rintro i σ H' hi ⟨os,f1,g,hl',nd,le,mem,rfl⟩
  have i8:i < 8:=hi
  obtain ⟨ch,hc1,hc2⟩:=lett_at i8
  have e2:(0:Int) + (i:Nat)=((i:Nat):Int):=by omega
  refine ⟨_,rfl,.inl ⟨rfl,_,SqL.of hl'⟩,?_⟩
  refine ⟨_,rfl,_,_,rfl,rfl,⟨by decide,by decide⟩,_,rfl,c / 12,i,5040,congrArg (fun z=>[V.int (c / 12),V.int z,V.int 5040]) e2,by omega,by decide,by decide,fun r' s0 s1=>?_⟩
  refine ⟨_,rfl,_,1,rfl,rfl,r',_,rfl,rfl,by show (0:Int) < 0 + (i:Nat) + 1; omega,?_⟩
  refine ⟨_,rfl,_,(i:Int),ch,rfl,congrArg V.int e2,by show (Str.ofString "abcdefgh").length<=sizeLine; decide,hc1,?_⟩
  have m0:0<=r' % (0 + (i:Nat) + 1):=Int.emod_nonneg _ (by omega)
  have m1:r' % (0 + (i:Nat) + 1) < 0 + (i:Nat) + 1:=Int.emod_lt_of_pos _ (by omega)
  generalize hj:r' % (0 + ((i:Nat):Int) + 1)=j at m0 m1
  refine ⟨l,os.map V.str,j,_,rfl,by rw [← hj],hl',m0,by rw [List.length_map]; omega,by rw [List.length_map]; exact Nat.lt_of_lt_of_le (show os.length < 9 by omega) (by decide),?_⟩
  have nm:(⟨#[ch]⟩:Str) ∉ os:=fun hm=>lett_new hc2 (mem _ hm)
  have ml:∀ x∈letts.take i,x∈letts.take (i + 1):=fun x hx=>by
   rw [List.take_succ]
   exact List.mem_append_left _ hx
  have mn:(⟨#[ch]⟩:Str)∈letts.take (i + 1):=by
   rw [List.take_succ,hc2]
   exact List.mem_append_right _ (by simp)
  refine ⟨os.take j.toNat ++ (⟨#[ch]⟩:Str) :: os.drop j.toNat,_,?_,?_,?_,?_,?_,rfl⟩
  ·exact fun b o hb=>by rw [upd_ne (ne_of_none hb hl)]; exact g b o hb
  ·rw [upd_same]
   simp
  ·refine List.perm_middle.nodup_iff.mpr (List.nodup_cons.mpr ⟨?_,?_⟩)
   ·rw [List.take_append_drop]; exact nm
   ·rw [List.take_append_drop]; exact nd
  ·rw [List.length_append,List.length_cons,List.length_take,List.length_drop]
   omega
  ·intro x hx
   rcases List.mem_append.mp hx with z | z
   ·exact ml x (mem x (List.mem_of_mem_take z))
   ·rcases List.mem_cons.mp z with z | z
    ·rw [z]; exact mn
    ·exact ml x (mem x (List.mem_of_mem_drop z))
 ·rintro σ H' ⟨os,f1,g,hl',nd,le,mem,rfl⟩
  have le8:os.length=8:=le
  exact ⟨_,rfl,q l H' os g hl' ⟨nd,fun x hx=>List.mem_of_mem_take (mem x hx),by omega⟩ (.inr le8)⟩
theorem ok_Book_must_be_room (T:Txt P w K mg a):FnOk P w K mg base CX0 (k + 1) a.za4 a.za5 ["self", "number"] (spMustRoom a.za):=by
 refine T.zq0.ok zy (fun vs H Q E h=>?_) (fun cdv A outer s H vs Q E hr h=>?_)
 ·obtain ⟨b,os,rs,F,j,rfl,_⟩:=h
  rfl
 obtain ⟨b,os,rs,F,j,rfl,⟨dx,ml,rl,tl,nd,rv,ts,kvs,h⟩,hk,q⟩:=h
 refine ⟨_,(pss_one (ps_if (PW.pt (pw_or (pt_cmpR op_lt (pv 1) pe_int (nomark _)) (pw_or1 (pt_cmpR op_ge (pv 1) (pe_callB call_len_seq rfl T.n_len bt_len (pa_cons (pe_fld (pv 0) rfl) pa_nil)) (nomark _))))) (pss_one ps_never) pss_nil)),?_⟩
 have hl:=h.len
 refine ⟨_,rfl,_,_,rfl,rfl,_,rfl,ite2 (fun c=>absurd (of_decide_eq_true c) (by omega)) (fun _=>?_)⟩
 refine ⟨_,rfl,_,rfl,b,a.za,dx,_,_,rfl,h.hb,T.c_Book,T.na_Book_rooms,rfl,rl,_,rfl,.inl (SqL.of h.hr),_,_,rfl,rfl,_,rfl,ite2 (fun c=>absurd (of_decide_eq_true c) (by omega)) (fun _=>?_)⟩
 exact q
theorem ok_Book_place_of (T:Txt P w K mg a):FnOk P w K mg base CX0 (k + 1) a.za7 a.za8 ["self", "number"] (spPlaceOf a.za):=by
 refine T.zv9.ok zB (fun vs H Q E h=>?_) (fun cdv A outer s H vs Q E hr h=>?_)
 ·obtain ⟨b,os,rs,F,j,rfl,_⟩:=h
  rfl
 obtain ⟨b,os,rs,F,j,rfl,⟨dx,ml,rl,tl,nd,rv,ts,kvs,h⟩,hk,q⟩:=h
 refine ⟨_,(pss_one (ps_ret (pe_ix ix_tup (pe_ix ix_list (pe_fld (pv 0) rfl) (pv 1) (fun _ _=>rfl)) pe_int (fun _ _=>rfl)))),?_⟩
 have ex:=List.getElem?_eq_getElem hk
 obtain ⟨p,e1,e2⟩:=h.rm j _ ex
 refine ⟨_,rfl,b,a.za,dx,_,_,rfl,h.hb,T.c_Book,T.na_Book_rooms,rfl,_,rfl,rl,_,_,_,rfl,rfl,SqL.of h.hr,atI_nat e1,?_⟩
 refine ⟨p,_,0,.int (Bdd.lev os.length rs j:Nat),rfl,rfl,SqT.of e2,?_,q⟩
 unfold Bdd.lev
 rw [ex]
 cases rs[j] with
 | none=>rfl
 | some t=>rfl
theorem ok_Book_going (T:Txt P w K mg a):FnOk P w K mg base CX0 (k + 1) a.ze0 a.ze1 ["self", "number", "value"] (spGoing a.za):=by
 refine T.zz5.ok zD (fun vs H Q E h=>?_) (fun cdv A outer s H vs Q E hr h=>?_)
 ·obtain ⟨b,os,rs,F,j,x,v,rfl,_⟩:=h
  rfl
 obtain ⟨b,os,rs,F,j,x,v,rfl,⟨dx,ml,rl,tl,nd,rv,ts,kvs,h⟩,ex,q⟩:=h
 refine ⟨_,(pss_one (ps_ret (pe_ix ix_tup (pe_ix ix_list (pe_fld (pv 0) rfl) (pv 1) (fun _ _=>rfl)) (pe_op op_add pe_int (pv 2)) (fun _ _=>rfl)))),?_⟩
 obtain ⟨p,e1,e2⟩:=h.rm j _ ex
 refine ⟨_,rfl,b,a.za,dx,_,_,rfl,h.hb,T.c_Book,T.na_Book_rooms,rfl,_,rfl,rl,_,_,_,rfl,rfl,SqL.of h.hr,atI_nat e1,?_⟩
 refine ⟨_,rfl,_,_,rfl,rfl,p,_,_,.int (roomGo j x v:Nat),rfl,rfl,SqT.of e2,?_,q⟩
 cases v <;> cases x <;> rfl
theorem ok_Book_table_at (T:Txt P w K mg a):FnOk P w K mg base CX0 (k + 1) a.zf6 a.zf7 ["self", "number"] (spTableAt a.za):=by
 refine T.zw.ok zB0 (fun vs H Q E h=>?_) (fun cdv A outer s H vs Q E hr h=>?_)
 ·obtain ⟨b,os,rs,F,j,rfl,_⟩:=h
  rfl
 obtain ⟨b,os,rs,F,j,rfl,⟨dx,ml,rl,tl,nd,rv,ts,kvs,h⟩,hk,q⟩:=h
 refine ⟨_,(pss_one (ps_ret (pe_ix ix_list (pe_fld (pv 0) rfl) (pv 1) (fun _ _=>rfl)))),?_⟩
 have ht:j < ts.length:=by rw [h.tabs.len]; exact hk
 have ex:=List.getElem?_eq_getElem ht
 refine ⟨_,rfl,b,a.za,dx,_,_,rfl,h.hb,T.c_Book,T.na_Book_tables,rfl,_,rfl,tl,_,_,.int (ts[j]:Nat),rfl,rfl,SqL.of h.ht,atI_nat (by rw [List.getElem?_map,ex]; rfl),?_⟩
 exact q _ (h.tabs.tab j _ ex)
theorem ok_Book_order (T:Txt P w K mg a):FnOk P w K mg base CX0 (k + 1) a.zc5 a.zc6 ["self"] (spBookOrder (BookAt a.za)):=by
 refine T.zz3.ok zC8 (fun vs H Q E h=>?_) (fun cdv A outer s H vs Q E hr h=>?_)
 ·obtain ⟨b,os,rs,F,rfl,_⟩:=h
  rfl
 obtain ⟨b,os,rs,F,rfl,⟨dx,ml,rl,tl,nd,rv,ts,kvs,h⟩,q⟩:=h
 refine ⟨_,(pss_one (ps_ret (pe_callTy call_list_of rfl T.n_list bt_list (pa_cons (pe_fld (pv 0) rfl) pa_nil)))),?_⟩
 exact ⟨_,rfl,b,a.za,dx,_,_,rfl,h.hb,T.c_Book,T.na_Book_marks,rfl,ml,_,rfl,.inl (SqL.of h.hm),fun l hl=>q l _ (Same.new hl _) hl upd_same⟩
theorem ok_Book_size (T:Txt P w K mg a):FnOk P w K mg base CX0 (k + 1) a.zl8 a.zl9 ["self"] (spBookSize (BookAt a.za)):=by
 refine T.zA5.ok zD6 (fun vs H Q E h=>?_) (fun cdv A outer s H vs Q E hr h=>?_)
 ·obtain ⟨b,os,rs,F,rfl,_⟩:=h
  rfl
 obtain ⟨b,os,rs,F,rfl,⟨dx,ml,rl,tl,nd,rv,ts,kvs,h⟩,q⟩:=h
 refine ⟨_,(pss_one (ps_ret (pe_callB call_len_seq rfl T.n_len bt_len (pa_cons (pe_fld (pv 0) rfl) pa_nil)))),?_⟩
 refine ⟨_,rfl,b,a.za,dx,_,_,rfl,h.hb,T.c_Book,T.na_Book_rooms,rfl,rl,_,rfl,.inl (SqL.of h.hr),?_⟩
 rw [h.len]
 exact q H (Same.refl _)
theorem ok_Book_room (T:Txt P w K mg a) (za6:FnOk P w K mg base CX0 k a.za4 a.za5 ["self", "number"] (spMustRoom a.za)) (za1:FnOk P w K mg base CX0 k a.za7 a.za8 ["self", "number"] (spPlaceOf a.za)) (ze4:FnOk P w K mg base CX0 k a.ze0 a.ze1 ["self", "number", "value"] (spGoing a.za)) :
  FnOk P w K mg base CX0 (k + 1) a.zr8 a.zr9 ["self", "number"] (spBookRoom (BookAt a.za)):=by
 refine T.zA6.ok zD7 (fun vs H Q E h=>?_) (fun cdv A outer s H vs Q E hr h=>?_)
 ·obtain ⟨b,os,rs,F,j,x,rfl,_⟩:=h
  rfl
 obtain ⟨b,os,rs,F,j,x,rfl,hB,ex,q⟩:=h
 refine ⟨_,(pss_cons (ps_expr (pe_meth (pv 0) T.c_Book T.e_Book_must_be_room za6 hr T.b_Book_must_be_room .nil pass0 (pa_cons (pv 1) pa_nil)))
   (pss_cons (ps_if (pt_cmpR op_in_seq (pv 1) (pe_tup (pa_cons pe_int (pa_cons pe_int pa_nil))) (by with_unfolding_all rfl)) (pss_one (ps_ret pe_non)) pss_nil)
   (pss_one (ps_ret (pe_tup (pa_cons (pe_ix ix_list (pe_fld (pv 0) rfl) (pe_meth (pv 0) T.c_Book T.e_Book_place_of za1 hr T.b_Book_place_of .nil pass0 (pa_cons (pv 1) pa_nil)) (fun _ _=>rfl)) (pa_cons (pe_meth (pv 0) T.c_Book T.e_Book_going ze4 hr T.b_Book_going .nil pass0 (pa_cons (pv 1) (pa_cons pe_int pa_nil))) (pa_cons (pe_meth (pv 0) T.c_Book T.e_Book_going ze4 hr T.b_Book_going .nil pass0 (pa_cons (pv 1) (pa_cons pe_int pa_nil))) pa_nil)))))))),?_⟩
 have hj:=(List.getElem?_eq_some_iff.mp ex).1
 have BK:=(bookLike a.za).bk hB
 obtain ⟨dx,ml,rl,tl,nd,rv,ts,kvs,h⟩:=hB
 refine ⟨_,rfl,b,dx,_,rfl,h.hb,rfl,_,rfl,b,os,rs,F,j,rfl,⟨dx,ml,rl,tl,nd,rv,ts,kvs,h⟩,hj,?_⟩
 refine ⟨_,rfl,by show 2<=sizeLine; decide,fun p hp=>⟨p,_,rfl,.inr (SqT.of upd_same),rfl,rfl,_,rfl,?_⟩⟩
 have g:=Same.new hp (.tup [.int 0,.int 1])
 have h':=h.frame (fun x o e _=>g x o e) (Tups.of g)
 have hB':BookAt a.za (upd H p (.tup [.int 0,.int 1])) b os rs F:=⟨dx,ml,rl,tl,nd,rv,ts,kvs,h'⟩
 have e0:(if false=true then !inV (V.int (j:Nat)) [.int 0,.int 1] else inV (V.int (j:Nat)) [.int 0,.int 1])=decide (j < 2):=by
  rw [if_neg Bool.false_ne_true]
  show (((0:Int) == (j:Nat)) || (((1:Int) == (j:Nat)) || false))=decide (j < 2)
  rw [Bool.eq_iff_iff]
  simp only [Bool.or_eq_true,beq_iff_eq,Bool.or_false,decide_eq_true_eq]
  omega
 rw [e0]
 by_cases j2:j < 2
 ·rw [decide_eq_true j2]
  refine iteT (q _ _ g ?_)
  have:x=none:=by
   have:j=0\/j=1:=by omega
   rcases this with z | z <;> subst z
   ·rw [BK.h0] at ex; cases ex; rfl
   ·rw [BK.h1] at ex; cases ex; rfl
  subst this
  rfl
 ·rw [decide_eq_false j2]
  obtain ⟨i,lo,hi,e,hin,_⟩:=BK.rm j (by omega) hj
  rw [ex] at e
  cases e
  refine iteF ?_
  have el:=Bdd.lev_of BK ex
  refine ⟨_,rfl,b,a.za,dx,_,_,rfl,h'.hb,T.c_Book,T.na_Book_marks,rfl,_,rfl,b,dx,_,rfl,h'.hb,rfl,_,rfl,b,os,rs,F,j,rfl,hB',hj,?_⟩
  have ei:=List.getElem?_eq_getElem hin
  refine ⟨ml,_,_,.str os[i],rfl,rfl,SqL.of h'.hm,by rw [el]; exact atI_nat (by rw [List.getElem?_map,ei]; rfl),?_⟩
  refine ⟨_,rfl,b,dx,_,rfl,h'.hb,rfl,_,rfl,b,os,rs,F,j,_,false,rfl,hB',ex,?_⟩
  refine ⟨_,rfl,b,dx,_,rfl,h'.hb,rfl,_,rfl,b,os,rs,F,j,_,true,rfl,hB',ex,?_⟩
  refine ⟨by show 3<=sizeLine; decide,fun p2 hp2=>?_⟩
  exact q _ _ (g.trans (Same.new hp2 _)) ⟨p2,os[i],rfl,ei,upd_same⟩
theorem ok_Book_led (T:Txt P w K mg a)
  (za1:FnOk P w K mg base CX0 k a.za7 a.za8 ["self", "number"] (spPlaceOf a.za))
  (ze4:FnOk P w K mg base CX0 k a.ze0 a.ze1 ["self", "number", "value"] (spGoing a.za)):FnOk P w K mg base CX0 (k + 1) a.zp5 a.zp6 ["self", "number", "place", "value"] (spLed a.za):=by
 refine T.zB6.ok zE5 (fun vs H Q E h=>?_) (fun cdv A outer s H vs Q E hr h=>?_)
 ·obtain ⟨b,os,rs,F,j,p,v,rfl,_⟩:=h
  rfl
 obtain ⟨b,os,rs,F,j,p,v,rfl,hB,hj,hp,q⟩:=h
 refine ⟨_,(pss_cons (ps_if (pt_cmpR op_eq (pe_meth (pv 0) T.c_Book T.e_Book_place_of za1 hr T.b_Book_place_of .nil pass0 (pa_cons (pv 1) pa_nil)) (pv 2) (nomark _)) (pss_one (ps_ret (pe_meth (pv 0) T.c_Book T.e_Book_going ze4 hr T.b_Book_going .nil pass0 (pa_cons (pv 1) (pa_cons (pv 3) pa_nil))))) pss_nil)
   (pss_one (ps_ret (pv 1)))),?_⟩
 have BK:=(bookLike a.za).bk hB
 have hB0:=hB
 obtain ⟨dx,ml,rl,tl,nd,rv,ts,kvs,h⟩:=hB
 refine ⟨_,rfl,b,dx,_,rfl,h.hb,rfl,_,rfl,b,os,rs,F,j,rfl,hB0,hj,_,rfl,rfl,_,rfl,ite2 (fun c=>?_) (fun c=>?_)⟩
 ·have el:Bdd.lev os.length rs j=p:=by
   have:=of_decide_eq_true c
   injection this with this
   omega
  have j2:2<=j:=by
   refine Nat.le_of_not_lt fun h2=>?_
   have:j=0\/j=1:=by omega
   rcases this with z | z <;> subst z
   ·rw [Bdd.lev_no BK] at el; omega
   ·rw [Bdd.lev_yes BK] at el; omega
  obtain ⟨i,lo,hi,e,_⟩:=BK.rm j j2 hj
  rw [Bdd.lev_of BK e] at el
  subst el
  refine ⟨_,rfl,b,dx,_,rfl,h.hb,rfl,_,rfl,_,rfl,b,os,rs,F,j,_,v,rfl,hB0,e,?_⟩
  have:Bdd.ledN rs j i v=roomGo j (some (i,lo,hi)) v:=by
   unfold Bdd.ledN
   rw [e]
   exact if_pos rfl
  rw [← this]
  exact q
 ·have el:Bdd.ledN rs j p v=j:=by
   unfold Bdd.ledN
   cases e:rs[j]? with
   | none=>rfl
   | some x =>
    cases x with
    | none=>rfl
    | some t =>
     obtain ⟨i,lo,hi⟩:=t
     refine if_neg fun z=>c (decide_eq_true ?_)
     rw [Bdd.lev_of BK e,z]
  rw [el] at q
  exact ⟨_,rfl,q⟩
theorem ok_value_step {d:Nat} (T:Txt P w K mg a) (zf1:FnOk P w K mg base CX0 k a.zf a.zf0 ["sentence", "order", "row"] (spValue K d)):FnOk P w K mg base CX0 (k + 1) a.zf a.zf0 ["sentence", "order", "row"] (spValue K (d + 1)):=by
 refine T.zd.ok zc1 (fun vs H Q E h=>?_) (fun cdv A outer s H vs Q E hr h=>?_)
 ·obtain ⟨p,l,rl,sn,os,r,rfl,_⟩:=h
  rfl
 obtain ⟨p,l,rl,sn,os,r,rfl,isp,hO,hR,hin,h8,hrl,hd,q⟩:=h
 refine ⟨_,(pss_cons (ps_set (i:=3) zc1.nd rfl (Or.inl rfl) (pe_ix ix_tup (pv 0) pe_int (fun _ _=>rfl)))
   (pss_cons (ps_if (pt_cmpR op_in_seq (pv 3) (pe_tup (pa_cons pe_str (pa_cons pe_str pa_nil))) (by with_unfolding_all rfl)) (pss_one (ps_ret (pe_callTy call_int1 rfl T.n_int bt_int (pa_cons (pe_cmpR op_eq (pv 3) pe_str (nomark _)) pa_nil)))) pss_nil)
   (pss_cons (ps_if (pt_cmpR op_eq (pv 3) pe_str (nomark _)) (pss_one (ps_ret (pe_ix ix_list (pv 2) (pe_bm PySem.F.plainAttrs_list PySem.F.slot_list_index PySem.F.type_list_index mt_index (pv 1) (pa_cons (pe_ix ix_tup (pv 0) pe_int (fun _ _=>rfl)) pa_nil)) (fun _ _=>rfl)))) pss_nil)
   (pss_cons (ps_if (pt_cmpR op_in_seq (pv 3) (pe_tup (pa_cons pe_str (pa_cons pe_str pa_nil))) (by with_unfolding_all rfl)) (pss_cons (ps_set (i:=6) zc1.nd rfl (Or.inl rfl) (pe_lst pa_nil))
   (pss_cons (ps_for PassesOwn.never rfl (pi_tup (pe_tup (pa_cons pe_int (pa_cons pe_int pa_nil)))) (pg_name (i:=7) zc1.nd rfl (Or.inl rfl)) (pss_cons (ps_set (i:=8) zc1.nd rfl (Or.inl rfl) (pe_callTy call_list_of rfl T.n_list bt_list (pa_cons (pv 2) pa_nil)))
   (pss_cons (ps_asg (pv 7) (pg_sub (pv 8) (pe_bm PySem.F.plainAttrs_list PySem.F.slot_list_index PySem.F.type_list_index mt_index (pv 1) (pa_cons (pe_ix ix_tup (pv 0) pe_int (fun _ _=>rfl)) pa_nil)) set_list))
   (pss_one (ps_expr (pe_bm PySem.F.plainAttrs_list PySem.F.slot_list_append PySem.F.type_list_append mt_append (pv 6) (pa_cons (pe_call zf1 hr rfl T.m_x_law_value T.zd.2 T.b_x_law_value .nil pass0 (pa_cons (pe_ix ix_tup (pv 0) pe_int (fun _ _=>rfl)) (pa_cons (pv 1) (pa_cons (pv 8) pa_nil)))) pa_nil)))))))
   (pss_one (ps_ret (pe_ifExp (pt_cmpR op_eq (pv 3) pe_str (nomark _)) (pe_callTy call_int1 rfl T.n_int bt_int (pa_cons (pe_cmpR op_in_seq pe_int (pv 6) (by with_unfolding_all rfl)) pa_nil)) (pe_callTy call_int1 rfl T.n_int bt_int (pa_cons (pe_cmpR op_notIn_seq pe_int (pv 6) (by with_unfolding_all rfl)) pa_nil))))))) pss_nil)
   (pss_cons (ps_set (i:=4) zc1.nd rfl (Or.inl rfl) (pe_call zf1 hr rfl T.m_x_law_value T.zd.2 T.b_x_law_value .nil pass0 (pa_cons (pe_ix ix_tup (pv 0) pe_int (fun _ _=>rfl)) (pa_cons (pv 1) (pa_cons (pv 2) pa_nil)))))
   (pss_cons (ps_if (pt_cmpR op_eq (pv 3) pe_str (nomark _)) (pss_one (ps_ret (pe_op op_sub pe_int (pv 4)))) pss_nil)
   (pss_cons (ps_set (i:=5) zc1.nd rfl (Or.inl rfl) (pe_call zf1 hr rfl T.m_x_law_value T.zd.2 T.b_x_law_value .nil pass0 (pa_cons (pe_ix ix_tup (pv 0) pe_int (fun _ _=>rfl)) (pa_cons (pv 1) (pa_cons (pv 2) pa_nil)))))
   (pss_cons (ps_if (pt_cmpR op_eq (pv 3) pe_str (nomark _)) (pss_one (ps_ret (pe_op op_mod (pe_op op_add (pv 4) (pv 5)) pe_int))) pss_nil)
   (pss_cons (ps_if (pt_cmpR op_eq (pv 3) pe_str (nomark _)) (pss_one (ps_ret (pe_callTy call_int1 rfl T.n_int bt_int (pa_cons (pe_cmpR op_le (pv 4) (pv 5) (nomark _)) pa_nil)))) pss_nil)
   (pss_one (ps_ret (pe_ifExp (pt_cmpR op_eq (pv 3) pe_str (nomark _)) (pe_op op_mul (pv 4) (pv 5)) (pe_callTy call_int1 rfl T.n_int bt_int (pa_cons (pe_cmpR op_gt (pe_op op_add (pv 4) (pv 5)) pe_int (nomark _)) pa_nil)))))))))))))),?_⟩
 obtain ⟨zs,c1,c2,c3,c4,c5⟩:=sen_cut isp
 refine ⟨_,rfl,p,_,0,_,rfl,rfl,SqT.of c1,at0,?_⟩
 refine ⟨_,rfl,by show 2<=sizeLine; decide,fun z1 hz1=>⟨z1,_,rfl,.inr (SqT.of upd_same),rfl,rfl,_,rfl,?_⟩⟩
 have g1:=Same.new hz1 (.tup [.str "yes", .str "no"])
 cases sn with
 | c0 y =>
  cases y with
  | true=>exact ite2 (fun _=>⟨_,rfl,rfl,.inr ⟨_,rfl,q _ g1⟩⟩) (fun c=>absurd (in2_yes (.inl rfl)) c)
  | false=>exact ite2 (fun _=>⟨_,rfl,rfl,.inr ⟨_,rfl,q _ g1⟩⟩) (fun c=>absurd (in2_yes (.inr rfl)) c)
 | mk x =>
  refine ite2 (fun c=>absurd c (in2_no (show Str.ofString "mark" ≠ Str.ofString "yes" by decide +kernel) (show Str.ofString "mark" ≠ Str.ofString "no" by decide +kernel))) (fun _=>?_)
  have isp':H p=some (.tup [.str "mark", .str x]):=isp
  obtain ⟨i1,i2,i3⟩:=ix_spec (show x∈os from hin)
  refine ⟨_,rfl,rfl,_,rfl,ite2 (fun _=>?_) (fun c=>absurd (decide_eq_true rfl) c)⟩
  refine ⟨_,rfl,_,rfl,.inl ⟨rfl,_,g1.seq hO⟩,_,rfl,p,_,1,_,rfl,rfl,SqT.of (g1 _ _ isp'),at1,l,_,.str x,_,rfl,rfl,g1.seq hO,rfl,flat_strs _,i1,rl,_,_,_,rfl,rfl,g1.seq hR,atI_nat (rowV_at (by rw [hrl]; exact i2)),?_⟩
  rw [← rowBits_bit]
  exact q _ g1
 | nt s1 =>
  refine ite2 (fun c=>absurd c (in2_no (show Str.ofString "not" ≠ Str.ofString "yes" by decide +kernel) (show Str.ofString "not" ≠ Str.ofString "no" by decide +kernel))) (fun _=>?_)
  refine ⟨_,rfl,rfl,_,rfl,ite2 (fun c=>absurd c (ne_str (show Str.ofString "not" ≠ Str.ofString "mark" by decide +kernel))) (fun _=>?_)⟩
  refine ⟨_,rfl,by show 2<=sizeLine; decide,fun z2 hz2=>⟨z2,_,rfl,.inr (SqT.of upd_same),rfl,rfl,_,rfl,?_⟩⟩
  refine ite2 (fun c=>absurd c (in2_no (show Str.ofString "not" ≠ Str.ofString "some" by decide +kernel) (show Str.ofString "not" ≠ Str.ofString "each" by decide +kernel))) (fun _=>?_)
  have g2:=g1.trans (Same.new hz2 (.tup [.str "some", .str "each"]))
  obtain ⟨q1,e1,is1⟩:=isp
  have dp:s1.depth<=d:=by have:1 + s1.depth<=d + 1:=hd; omega
  refine ⟨_,rfl,p,_,1,_,rfl,rfl,SqT.of (g2 _ _ e1),at1,_,rfl,_,rfl,q1,l,rl,s1,os,r,rfl,is1.mono (Tups.of g2),g2.seq hO,g2.seq hR,hin,h8,hrl,dp,fun H3 g3=>?_⟩
  refine ⟨_,rfl,rfl,_,rfl,ite2 (fun _=>?_) (fun c=>absurd (decide_eq_true rfl) c)⟩
  refine ⟨_,rfl,1,_,rfl,rfl,?_⟩
  have e:(1:Int) - (((s1.val (envB os (rowBits r))).toNat:Nat):Int)=(((!s1.val (envB os (rowBits r))).toNat:Nat):Int):=by cases s1.val (envB os (rowBits r)) <;> rfl
  show Q (.int ((1:Int) - (((s1.val (envB os (rowBits r))).toNat:Nat):Int))) H3
  rw [e]
  exact q _ (g2.trans g3)
 | b2 o s1 s2 =>
  have w0:w2 o≠Str.ofString "yes" := w2_yes o
  have w1:w2 o≠Str.ofString "no" := w2_no o
  have w3:w2 o≠Str.ofString "mark" := w2_mark o
  have w4:w2 o≠Str.ofString "not" := w2_not o
  have w5:w2 o≠Str.ofString "some" := w2_some o
  have w6:w2 o≠Str.ofString "each" := w2_each o
  refine ite2 (fun c=>absurd c (in2_no w0 w1)) (fun _=>?_)
  refine ⟨_,rfl,rfl,_,rfl,ite2 (fun c=>absurd c (ne_str w3)) (fun _=>?_)⟩
  refine ⟨_,rfl,by show 2<=sizeLine; decide,fun z2 hz2=>⟨z2,_,rfl,.inr (SqT.of upd_same),rfl,rfl,_,rfl,?_⟩⟩
  refine ite2 (fun c=>absurd c (in2_no w5 w6)) (fun _=>?_)
  have g2:=g1.trans (Same.new hz2 (.tup [.str "some", .str "each"]))
  obtain ⟨q1,q2,e1,is1,is2⟩:=isp
  have dp:1 + max s1.depth s2.depth<=d + 1:=hd
  refine ⟨_,rfl,p,_,1,_,rfl,rfl,SqT.of (g2 _ _ e1),at1,_,rfl,_,rfl,q1,l,rl,s1,os,r,rfl,is1.mono (Tups.of g2),g2.seq hO,g2.seq hR,hin.1,h8,hrl,by omega,fun H3 g3=>?_⟩
  have g23:=g2.trans g3
  refine ⟨_,rfl,rfl,_,rfl,ite2 (fun c=>absurd c (ne_str w4)) (fun _=>?_)⟩
  refine ⟨_,rfl,p,_,2,_,rfl,rfl,SqT.of (g23 _ _ e1),at2,_,rfl,_,rfl,q2,l,rl,s2,os,r,rfl,is2.mono (Tups.of g23),g23.seq hO,g23.seq hR,hin.2,h8,hrl,by omega,fun H4 g4=>?_⟩
  have g24:=g23.trans g4
  have q':∀ (z:Int),z=(((Sn.op2 o (s1.val (envB os (rowBits r))) (s2.val (envB os (rowBits r)))).toNat:Nat):Int)->Q (.int z) H4:=fun z hz=>by rw [hz]; exact q _ g24
  clear q
  generalize s1.val (envB os (rowBits r))=A1 at q' ⊢
  generalize s2.val (envB os (rowBits r))=A2 at q' ⊢
  rcases fin4 o with e | e | e | e
  ·subst e
   refine ⟨_,rfl,rfl,_,rfl,ite2 (fun c=>absurd c (ne_str (show Str.ofString "and" ≠ Str.ofString "either" by decide +kernel))) (fun _=>?_)⟩
   refine ⟨_,rfl,rfl,_,rfl,ite2 (fun c=>absurd c (ne_str (show Str.ofString "and" ≠ Str.ofString "if" by decide +kernel))) (fun _=>?_)⟩
   refine ⟨_,rfl,rfl,_,rfl,ite2 (fun _=>?_) (fun c=>absurd (decide_eq_true rfl) c)⟩
   refine ⟨_,rfl,_,rfl,_,_,rfl,rfl,.inl ?_,q' _ ?_⟩
   ·cases A1 <;> exact ⟨by decide,by decide⟩
   ·cases A1 <;> cases A2 <;> rfl
  ·subst e
   refine ⟨_,rfl,rfl,_,rfl,ite2 (fun c=>absurd c (ne_str (show Str.ofString "or" ≠ Str.ofString "either" by decide +kernel))) (fun _=>?_)⟩
   refine ⟨_,rfl,rfl,_,rfl,ite2 (fun c=>absurd c (ne_str (show Str.ofString "or" ≠ Str.ofString "if" by decide +kernel))) (fun _=>?_)⟩
   refine ⟨_,rfl,rfl,_,rfl,ite2 (fun c=>absurd c (ne_str (show Str.ofString "or" ≠ Str.ofString "and" by decide +kernel))) (fun _=>?_)⟩
   refine ⟨_,rfl,_,rfl,_,_,rfl,rfl,_,_,rfl,rfl,.inr ⟨_,rfl,q' _ ?_⟩⟩
   cases A1 <;> cases A2 <;> rfl
  ·subst e
   refine ⟨_,rfl,rfl,_,rfl,ite2 (fun _=>?_) (fun c=>absurd (decide_eq_true rfl) c)⟩
   refine ⟨_,rfl,_,rfl,_,_,rfl,rfl,_,2,rfl,rfl,(show (0:Int) < 2 by decide),q' _ ?_⟩
   cases A1 <;> cases A2 <;> rfl
  ·subst e
   refine ⟨_,rfl,rfl,_,rfl,ite2 (fun c=>absurd c (ne_str (show Str.ofString "if" ≠ Str.ofString "either" by decide +kernel))) (fun _=>?_)⟩
   refine ⟨_,rfl,rfl,_,rfl,ite2 (fun _=>?_) (fun c=>absurd (decide_eq_true rfl) c)⟩
   refine ⟨_,rfl,_,rfl,_,_,rfl,rfl,.inr ⟨_,rfl,q' _ ?_⟩⟩
   cases A1 <;> cases A2 <;> rfl
 | q1 o x s1 =>
  obtain ⟨hx,hs1⟩:=hin
  obtain ⟨i1,i2,i3⟩:=ix_spec hx
  have wq:(Sn.q1 o x s1).word≠Str.ofString "yes" /\ (Sn.q1 o x s1).word≠Str.ofString "no" /\ (Sn.q1 o x s1).word≠Str.ofString "mark" := by
   rw [q1_word]; exact q1_ne o
  have wi:(Sn.q1 o x s1).word=Str.ofString "some" \/ (Sn.q1 o x s1).word=Str.ofString "each" := by cases o; exact .inr rfl; exact .inl rfl
  refine ite2 (fun c=>absurd c (in2_no wq.1 wq.2.1)) (fun _=>?_)
  refine ⟨_,rfl,rfl,_,rfl,ite2 (fun c=>absurd c (ne_str wq.2.2)) (fun _=>?_)⟩
  refine ⟨_,rfl,by show 2<=sizeLine; decide,fun z2 hz2=>⟨z2,_,rfl,.inr (SqT.of upd_same),rfl,rfl,_,rfl,?_⟩⟩
  refine ite2 (fun _=>?_) (fun c=>absurd (in2_yes wi) c)
  have g2:=g1.trans (Same.new hz2 (.tup [.str "some", .str "each"]))
  refine ⟨by show 0<=sizeLine; decide,fun vl hvl=>?_⟩
  have fvl:H vl=none:=g2.free hvl
  have g3:=g2.trans (Same.new hvl (.lst []))
  refine ⟨by show 2<=sizeLine; decide,fun z4 hz4=>⟨z4,rfl,⟨_,SqT.of upd_same⟩,?_⟩⟩
  have nv4:vl≠z4:=ne_of_none upd_same hz4
  have g4:=g3.trans (Same.new hz4 (.tup [.int 0,.int 1]))
  obtain ⟨qq,e1',is1⟩:=isp
  have e1:H p=some (.tup [.str (Sn.q1 o x s1).word,.str x,.ref qq]):=by rw [q1_word]; exact e1'
  have dp:s1.depth<=d:=by have:1 + s1.depth<=d + 1:=hd; omega
  generalize hvals:[V.int (((s1.val (fun y=>if y=x then false else envB os (rowBits r) y)).toNat:Nat):Int),V.int (((s1.val (fun y=>if y=x then true else envB os (rowBits r) y)).toNat:Nat):Int)]=vals
  refine for_tup (xs:=[.int 0,.int 1]) (fun i σ H'=>∃ (f1 f2:Option V),Same H H'/\H' z4=some (.tup [.int 0,.int 1])/\H' vl=some (.lst (vals.take i))/\σ=[some (.ref p),some (.ref l),some (.ref rl),some (.str (Sn.q1 o x s1).word),none,none,some (.ref vl),f1,f2])
   ⟨_,_,g4,upd_same,by rw [upd_ne nv4]; exact upd_same,rfl⟩ ?_ ?_ ?_
  ·rintro i σ H' _ ⟨f1,f2,g,h4,_⟩
   exact SqT.of h4
  ·rintro i v σ H' hv ⟨f1,f2,g,h4,hl4,rfl⟩
   obtain ⟨b,rfl,hb⟩:∃ b:Bool,v=.int ((b.toNat:Nat):Int)/\vals.take (i + 1)=vals.take i ++ [V.int (((s1.val (fun y=>if y=x then b else envB os (rowBits r) y)).toNat:Nat):Int)]:=by
    match i,hv with
    | 0,hv=>cases hv; exact ⟨false,rfl,by rw [← hvals]; rfl⟩
    | 1,hv=>cases hv; exact ⟨true,rfl,by rw [← hvals]; rfl⟩
   refine ⟨_,rfl,rl,_,rfl,.inl (g.seq hR),fun t ht=>?_⟩
   have gt:=g.trans (Same.new ht (.lst (rowV r)))
   have ft:H t=none:=g.free ht
   refine ⟨_,rfl,_,rfl,_,rfl,.inl ⟨rfl,_,gt.seq hO⟩,_,rfl,p,_,1,_,rfl,rfl,SqT.of (gt _ _ e1),at1,l,_,.str x,_,rfl,rfl,gt.seq hO,rfl,flat_strs _,i1,t,_,_,ix os x,rfl,rfl,upd_same,?_,?_⟩
   ·show ixN (rowV r).length ((ix os x:Nat):Int)=some (ix os x)
    unfold ixN
    rw [if_pos (by omega),if_pos (by rw [List.length_map,hrl]; omega)]
    rfl
   rw [upd_upd,rowV_set]
   have ntv:t≠vl:=Ne.symm (ne_of_none hl4 ht)
   have nt4:t≠z4:=Ne.symm (ne_of_none h4 ht)
   have g5:Same H (upd H' t (.lst (rowV (r.set (ix os x) b)))):=g.over ft _
   refine ⟨_,rfl,.inl ⟨rfl,_,SqL.of (by rw [upd_ne (Ne.symm ntv)]; exact hl4)⟩,_,rfl,p,_,2,_,rfl,rfl,SqT.of (g5 _ _ e1),at2,_,rfl,_,rfl,qq,l,t,s1,os,r.set (ix os x) b,rfl,is1.mono (Tups.of g5),g5.seq hO,SqL.of upd_same,hs1,h8,by rw [List.length_set]; exact hrl,dp,fun H6 g6=>?_⟩
   have hl6:H6 vl=some (.lst (vals.take i)):=g6 _ _ (by rw [upd_ne (Ne.symm ntv)]; exact hl4)
   have h46:H6 z4=some (.tup [.int 0,.int 1]):=g6 _ _ (by rw [upd_ne (Ne.symm nt4)]; exact h4)
   refine ⟨vl,_,_,rfl,rfl,hl6,?_,?_⟩
   ·have:(vals.take i).length<=2:=by rw [List.length_take,← hvals]; show min i 2<=2; omega
    exact small1000 (by omega)
   ·refine ⟨_,_,(g5.trans g6).over fvl _,by rw [upd_ne (Ne.symm nv4)]; exact h46,?_,rfl⟩
    rw [upd_same,hb,val_set hs1 hx hrl]
  ·rintro σ H' ⟨f1,f2,g,h4,hl4,rfl⟩
   have hl5:H' vl=some (.lst [V.int (((s1.val (fun y=>if y=x then false else envB os (rowBits r) y)).toNat:Nat):Int),V.int (((s1.val (fun y=>if y=x then true else envB os (rowBits r) y)).toNat:Nat):Int)]):=by
    rw [hl4,← hvals]; rfl
   have q':∀ (z:Int),z=((((Sn.q1 o x s1).val (envB os (rowBits r))).toNat:Nat):Int)->Q (.int z) H':=fun z hz=>by rw [hz]; exact q _ g
   clear q
   cases o with
   | true =>
    refine ⟨_,rfl,rfl,_,rfl,ite2 (fun _=>?_) (fun c=>absurd (decide_eq_true rfl) c)⟩
    refine ⟨_,rfl,vl,_,rfl,.inl (SqL.of hl5),rfl,rfl,.inr ⟨_,rfl,q' _ ?_⟩⟩
    show _=(((s1.val (fun y=>if y=x then true else envB os (rowBits r) y) || s1.val (fun y=>if y=x then false else envB os (rowBits r) y)).toNat:Nat):Int)
    cases s1.val (fun y=>if y=x then true else envB os (rowBits r) y) <;> cases s1.val (fun y=>if y=x then false else envB os (rowBits r) y) <;> rfl
   | false =>
    refine ⟨_,rfl,rfl,_,rfl,ite2 (fun c=>absurd c (ne_str (show Str.ofString "each" ≠ Str.ofString "some" by decide +kernel))) (fun _=>?_)⟩
    refine ⟨_,rfl,vl,_,rfl,.inl (SqL.of hl5),rfl,rfl,.inr ⟨_,rfl,q' _ ?_⟩⟩
    show _=(((s1.val (fun y=>if y=x then true else envB os (rowBits r) y) && s1.val (fun y=>if y=x then false else envB os (rowBits r) y)).toNat:Nat):Int)
    cases s1.val (fun y=>if y=x then true else envB os (rowBits r) y) <;> cases s1.val (fun y=>if y=x then false else envB os (rowBits r) y) <;> rfl
theorem ok_value (T:Txt P w K mg a):∀ d:Nat,FnOk P w K mg base CX0 (k + d) a.zf a.zf0 ["sentence", "order", "row"] (spValue K d)
 | 0=>by
  refine ⟨fun vs H Q E h=>?_,fun A outer s H args us vs Q E _ _ _ _ h=>?_⟩
  ·obtain ⟨p,l,rl,sn,os,r,rfl,_⟩:=h
   rfl
  ·obtain ⟨p,l,rl,sn,os,r,_,_,_,_,_,_,_,hd,_⟩:=h
   have:=Sn.depth_pos sn
   omega
 | d + 1=>ok_value_step T (ok_value T d)
theorem ok_law_rows2 (T:Txt P w K mg a):FnOk P w K mg base CX0 (k + 1) a.zk0 a.zk1 ["many"] spLawRows2:=by
 refine T.zv3.ok zm0 (fun vs H Q E h=>?_) (fun cdv A outer s H vs Q E hr h=>?_)
 ·obtain ⟨n,rfl,_⟩:=h
  rfl
 obtain ⟨n,rfl,h1,n8,q⟩:=h
 refine ⟨_,(pss_cons (ps_set (i:=1) zm0.nd rfl (Or.inl rfl) (pe_lst (pa_cons (pe_lst pa_nil) pa_nil)))
   (pss_cons (ps_for PassesOwn.never rfl (pi_range1 rfl T.n_range (pa_cons (pv 0) pa_nil)) (pg_name (i:=2) zm0.nd rfl (Or.inl rfl)) (pss_one (ps_set (i:=1) zm0.nd rfl (Or.inl rfl) (pe_op op_addL (pe_lc0 (osc:=defScope zd8) (js:=[]) rfl (by show LcOk (defScope zd8) _ "row" []; exact ⟨rfl,by decide +kernel,by decide +kernel,rfl,by decide +kernel,by decide +kernel,by decide +kernel⟩) rfl (pi_list (pv 1)) (by show ∀ j∈([]:List Nat),j < 3; decide) (fun cl C s₂ H₂ fp=>(pe_op (op_addLK rfl) (pv 0) (pe_lst (pa_cons pe_int pa_nil))))) (pe_lc0 (osc:=defScope zd8) (js:=[]) rfl (by show LcOk (defScope zd8) _ "row" []; exact ⟨rfl,by decide +kernel,by decide +kernel,rfl,by decide +kernel,by decide +kernel,by decide +kernel⟩) rfl (pi_list (pv 1)) (by show ∀ j∈([]:List Nat),j < 3; decide) (fun cl C s₂ H₂ fp=>(pe_op (op_addLK rfl) (pv 0) (pe_lst (pa_cons pe_int pa_nil)))))))))
   (pss_one (ps_ret (pe_callB (call_sorted_drw (K:=K) rfl (hu9 hr)) rfl T.n_sorted bt_sorted (pa_cons (pv 1) pa_nil)))))),?_⟩
 have dl:∀ i,∀ e∈Bdd.drw i,e.length=i:=fun i e he=>by
  rw [Bdd.drw_eq] at he
  obtain ⟨t,_,rfl⟩:=List.mem_map.mp he
  exact Bdd.rowB_len i t
 have p256:∀ i,i<=n->(Bdd.drw i).length<=256:=fun i hi=>by rw [Bdd.drw_eq,List.length_map,List.length_range]; exact Nat.le_trans (Nat.pow_le_pow_right (n:=2) (by decide) (show i<=8 by omega)) (by decide)
 refine ⟨by show 0<=sizeLine; decide,fun q0 hq0=>⟨by show 1<=sizeLine; decide,fun l0 hl0=>?_⟩⟩
 have g0:=(Same.new hq0 (.lst [])).trans (Same.new hl0 (.lst [.ref q0]))
 have e2:=(Same.new hl0 (.lst [.ref q0])) q0 (.lst []) upd_same
 have fl0:H l0=none:=(Same.new hq0 _).free hl0
 refine ⟨_,rfl,(n:Int),rfl,by omega,by omega,?_⟩
 rw [Int.toNat_natCast]
 refine for_range (fun i σ H'=>∃ (l:Addr) (es:List Addr) (f2:Option V),Same H H'/\H l=none/\H' l=some (.lst (es.map V.ref))/\Paired (RowF H H') es (Bdd.drw i)/\σ=[some (.int (n:Nat)),some (.ref l),f2])
  ⟨l0,[q0],_,g0,fl0,upd_same,.cons ⟨hq0,e2⟩ .nil,rfl⟩ ?_ ?_
 ·rintro i σ H2 hi ⟨l,es,f2,g2,fl,hl,he,rfl⟩
  have el:=pd_len he
  have lt:=p256 (i + 1) (by omega)
  have lt1:(Bdd.drw (i + 1)).length=(Bdd.drw i).length + (Bdd.drw i).length:=by show ((Bdd.drw i).map _ ++ (Bdd.drw i).map _).length=_; rw [List.length_append,List.length_map,List.length_map]
  have gr:Same H2 H2:=Same.refl _
  refine ⟨_,rfl,l,rfl,⟨_,SqL.of (gr _ _ hl)⟩,?_⟩
  refine lc_list (xs:=es.map V.ref) (fun m ys H'=>∃ as:List Addr,ys=as.map V.ref/\Same H2 H'/\Paired (RowF H H') as (((Bdd.drw i).take m).map (· ++ [false]))) ⟨[],rfl,Same.refl _,.nil⟩ (by rw [List.length_map]; exact Nat.le_of_lt (small1000 (by omega))) ?_ ?_ (fun _ _ _ _ h q=>h _ _ q) ?_ ?_
  ·rintro m ys H' hm ⟨as,rfl,gg,hp⟩
   have:=pd_len hp
   rw [List.length_map,List.length_take] at this
   exact ⟨SqL.of ((gr.trans gg) _ _ hl),by rw [List.length_map]; omega⟩
  ·rintro m x ys H' hx ⟨as,rfl,gg,hp⟩
   rw [List.getElem?_map] at hx
   cases hpt:es[m]? with
   | none=>rw [hpt] at hx; cases hx
   | some p =>
    rw [hpt] at hx
    cases hx
    obtain ⟨e,hee,fp,hpe⟩:=pd_at he hpt
    have eln:=dl i e (List.mem_of_getElem? hee)
    have hp2:=(gr.trans gg) _ _ hpe
    refine tyes (iteT ?_)
    refine ⟨_,rfl,by show 1<=sizeLine; decide,fun a0 ha0=>?_⟩
    have ka0:=Same.new ha0 (.lst [.int 0])
    refine ⟨p,a0,_,_,rfl,rfl,SqL.of (ka0 _ _ hp2),SqL.of upd_same,by rw [List.length_map,eln]; exact Nat.le_trans (show i + 1<=9 by omega) (by decide),fun r0 hr0=>?_⟩
    have kb:=ka0.trans (Same.new hr0 (.lst (rowV e ++ [.int 0])))
    have fr0:H r0=none:=((g2.trans gr).trans (gg.trans ka0)).free hr0
    refine ⟨as ++ [r0],by rw [List.map_append]; rfl,gg.trans kb,?_⟩
    rw [take_next hee,List.map_append]
    exact pd_app (pd_imp (fun _ _ r=>⟨r.1,kb _ _ r.2⟩) hp) (.cons ⟨fr0,by rw [upd_same]; unfold rowV; rw [List.map_append]; rfl⟩ .nil)
  ·exact fun _ _ _ _ h ⟨v1,e1,h1,h2⟩=>⟨v1,e1,h1,fun a0 ha0=>by
    obtain ⟨p,q,xs,ys,c1,c2,c3,c4,c5,c6⟩:=h2 a0 ha0
    exact ⟨p,q,xs,ys,c1,c2,c3,c4,c5,fun l hl=>h _ _ (c6 l hl)⟩⟩
  rintro ys H3 p0 ⟨as0,rfl,gg0,hp0⟩ hf0
  rw [List.length_map,el,List.take_length] at hp0
  have gA:=gg0.trans (Same.new hf0 (.lst (as0.map V.ref)))
  have hL0:upd H3 p0 (.lst (as0.map V.ref)) p0=some (.lst (as0.map V.ref)):=upd_same
  have hp0':Paired (RowF H (upd H3 p0 (.lst (as0.map V.ref)))) as0 ((Bdd.drw i).map (· ++ [false])):=pd_imp (fun _ _ r=>⟨r.1,(Same.new hf0 _) _ _ r.2⟩) hp0
  generalize upd H3 p0 (.lst (as0.map V.ref))=H4 at gA hL0 hp0'
  refine ⟨_,rfl,l,rfl,⟨_,SqL.of (gA _ _ hl)⟩,?_⟩
  refine lc_list (xs:=es.map V.ref) (fun m ys H'=>∃ as:List Addr,ys=as.map V.ref/\Same H4 H'/\Paired (RowF H H') as (((Bdd.drw i).take m).map (· ++ [true]))) ⟨[],rfl,Same.refl _,.nil⟩ (by rw [List.length_map]; exact Nat.le_of_lt (small1000 (by omega))) ?_ ?_ (fun _ _ _ _ h q=>h _ _ q) ?_ ?_
  ·rintro m ys H' hm ⟨as,rfl,gg,hp⟩
   have:=pd_len hp
   rw [List.length_map,List.length_take] at this
   exact ⟨SqL.of ((gA.trans gg) _ _ hl),by rw [List.length_map]; omega⟩
  ·rintro m x ys H' hx ⟨as,rfl,gg,hp⟩
   rw [List.getElem?_map] at hx
   cases hpt:es[m]? with
   | none=>rw [hpt] at hx; cases hx
   | some p =>
    rw [hpt] at hx
    cases hx
    obtain ⟨e,hee,fp,hpe⟩:=pd_at he hpt
    have eln:=dl i e (List.mem_of_getElem? hee)
    have hp2:=(gA.trans gg) _ _ hpe
    refine tyes (iteT ?_)
    refine ⟨_,rfl,by show 1<=sizeLine; decide,fun a0 ha0=>?_⟩
    have ka0:=Same.new ha0 (.lst [.int 1])
    refine ⟨p,a0,_,_,rfl,rfl,SqL.of (ka0 _ _ hp2),SqL.of upd_same,by rw [List.length_map,eln]; exact Nat.le_trans (show i + 1<=9 by omega) (by decide),fun r0 hr0=>?_⟩
    have kb:=ka0.trans (Same.new hr0 (.lst (rowV e ++ [.int 1])))
    have fr0:H r0=none:=((g2.trans gA).trans (gg.trans ka0)).free hr0
    refine ⟨as ++ [r0],by rw [List.map_append]; rfl,gg.trans kb,?_⟩
    rw [take_next hee,List.map_append]
    exact pd_app (pd_imp (fun _ _ r=>⟨r.1,kb _ _ r.2⟩) hp) (.cons ⟨fr0,by rw [upd_same]; unfold rowV; rw [List.map_append]; rfl⟩ .nil)
  ·exact fun _ _ _ _ h ⟨v1,e1,h1,h2⟩=>⟨v1,e1,h1,fun a0 ha0=>by
    obtain ⟨p,q,xs,ys,c1,c2,c3,c4,c5,c6⟩:=h2 a0 ha0
    exact ⟨p,q,xs,ys,c1,c2,c3,c4,c5,fun l hl=>h _ _ (c6 l hl)⟩⟩
  rintro ys H5 p1 ⟨as1,rfl,gg1,hp1⟩ hf1
  rw [List.length_map,el,List.take_length] at hp1
  have gB:=gg1.trans (Same.new hf1 (.lst (as1.map V.ref)))
  have l0':=pd_len hp0
  have l1':=pd_len hp1
  rw [List.length_map] at l0' l1'
  refine ⟨p0,p1,_,_,rfl,rfl,SqL.of (gB _ _ hL0),SqL.of upd_same,by rw [List.length_map,List.length_map]; exact Nat.le_of_lt (small1000 (by omega)),fun l2 hl2=>?_⟩
  have gC:=gB.trans (Same.new hl2 (.lst (as0.map V.ref ++ as1.map V.ref)))
  refine ⟨l2,as0 ++ as1,_,(g2.trans gA).trans gC,((g2.trans gA).trans gB).free hl2,by rw [upd_same,List.map_append],?_,rfl⟩
  exact pd_app (pd_imp (fun _ _ r=>⟨r.1,gC _ _ r.2⟩) hp0') (pd_imp (fun _ _ r=>⟨r.1,((Same.new hf1 _).trans (Same.new hl2 _)) _ _ r.2⟩) hp1)
 ·rintro σ H2 ⟨l,es,f2,g2,fl,hl,he,rfl⟩
  refine ⟨_,rfl,l,es,n,rfl,SqL.of hl,pd_imp (fun _ _ r=>r.2) he,h1,n8,fun l2 zs hl2 hz=>?_⟩
  refine q l2 _ zs (g2.trans (Same.new hl2 _)) (g2.free hl2) upd_same ?_
  refine pd_imp (fun z r hzr=>?_) hz
  obtain ⟨t,ht⟩:=List.getElem?_of_mem hzr.1
  obtain ⟨r',_,fr,_⟩:=pd_at he ht
  exact ⟨fr,(Same.new hl2 _) _ _ hzr.2⟩
end
end K42
namespace K42
open PySem L2 Sen
section
variable {P:Program} {w:World} {K:PySem.W.Frag} {mg:Str->Option Value} {base:Heap} {a:Ad} {k:Nat}
theorem ok_first_values (T:Txt P w K mg a) (zh4:FnOk P w K mg base CX0 k a.zn8 a.zn9 ["table", "place", "value", "marks"] spHeldAt):FnOk P w K mg base CX0 (k + 1) a.zk5 a.zk6 ["table", "places", "marks"] (spFirstValues K):=by
 refine T.zq7.ok zc8 (fun vs H Q E h=>?_) (fun cdv A outer s H vs Q E hr h=>?_)
 ·obtain ⟨N,n,f,pl,ps,rfl,_⟩:=h
  rfl
 obtain ⟨N,n,f,pl,ps,rfl,hn,tb,hpl,hps,h1000,q⟩:=h
 refine ⟨_,(pss_cons (ps_set (i:=3) zc8.nd rfl (Or.inl rfl) (pe_lst pa_nil))
   (pss_cons (ps_for PassesOwn.never rfl (pi_list (pv 1)) (pg_name (i:=4) zc8.nd rfl (Or.inl rfl)) (pss_cons (ps_set (i:=5) zc8.nd rfl (Or.inl rfl) (pe_call zh4 hr rfl T.m_held_at T.zo3.2 T.b_held_at .nil pass0 (pa_cons (pv 0) (pa_cons (pv 4) (pa_cons pe_int (pa_cons (pv 2) pa_nil))))))
   (pss_cons (ps_set (i:=6) zc8.nd rfl (Or.inl rfl) (pe_ifExp (pt_cmpR op_ne (pv 5) pe_int (nomark _)) pe_int pe_int))
   (pss_cons (ps_set (i:=0) zc8.nd rfl (Or.inl rfl) (pe_call zh4 hr rfl T.m_held_at T.zo3.2 T.b_held_at .nil pass0 (pa_cons (pv 0) (pa_cons (pv 4) (pa_cons (pv 6) (pa_cons (pv 2) pa_nil))))))
   (pss_one (ps_expr (pe_bm PySem.F.plainAttrs_list PySem.F.slot_list_append PySem.F.type_list_append mt_append (pv 3) (pa_cons (pv 6) pa_nil))))))))
   (pss_one (ps_ret (pv 3))))),?_⟩
 refine ⟨by show 0<=sizeLine; decide,fun l hl=>?_⟩
 have g0:=Same.new hl (.lst [])
 refine ⟨_,rfl,pl,rfl,⟨_,g0.seq hpl⟩,?_⟩
 refine for_list (xs:=ps.map fun p=>V.int (p:Nat)) (fun i σ H'=>∃ (M:Nat) (g:Nat->Bool) (r:List Bool) (f4 f5 f6:Option V),Same H H'/\H' l=some (.lst (rowV r))/\IsTab n M g/\r.length=i/\Bdd.fvP n f ps=r ++ Bdd.fvP n g (ps.drop i)/\σ=[some (.int M),some (.ref pl),some (.int n),some (.ref l),f4,f5,f6])
  ⟨N,f,[],_,_,_,g0,upd_same,tb,rfl,rfl,rfl⟩ ?_ ?_ ?_
 ·rintro i σ H' _ ⟨M,g,r,f4,f5,f6,gg,_⟩
  exact gg.seq hpl
 ·rintro i x σ H' hx ⟨M,g,r,f4,f5,f6,gg,hL,tg,hr',e,rfl⟩
  rw [List.getElem?_map] at hx
  cases hp:ps[i]? with
  | none=>rw [hp] at hx; cases hx
  | some p =>
   rw [hp] at hx
   cases hx
   have hpn:=hps p (List.mem_of_getElem? hp)
   obtain ⟨lt,e'⟩:=List.getElem?_eq_some_iff.mp hp
   rw [List.drop_eq_getElem_cons lt,e'] at e
   refine ⟨_,rfl,_,rfl,_,rfl,M,p,n,false,g,rfl,hpn,hn,tg,fun R tr=>?_⟩
   have tz:=Bdd.tab_zero tr
   refine ⟨_,rfl,rfl,_,rfl,?_⟩
   have ee:(!decide (V.int (R:Nat)=V.int 0))=Bdd.anyB n fun b=>g (putBit b p false):=by
    cases hz:Bdd.anyB n fun b=>g (putBit b p false) with
    | true =>
     rw [hz] at tz
     rw [decide_eq_false fun z=>by injection z with z; exact absurd (decide_eq_true (show R=0 by omega)) (by rw [tz]; exact Bool.false_ne_true)]
     rfl
    | false =>
     rw [hz] at tz
     have z:R=0:=of_decide_eq_true tz
     subst z
     rfl
   rw [ee]
   cases hz:Bdd.anyB n fun b=>g (putBit b p false) with
   | true =>
    refine ite2 (fun _=>?_) (fun c=>absurd rfl c)
    refine ⟨_,rfl,_,rfl,_,rfl,_,rfl,M,p,n,false,g,rfl,hpn,hn,tg,fun R2 t2=>?_⟩
    refine ⟨_,rfl,.inl ⟨rfl,_,SqL.of hL⟩,_,rfl,l,_,_,rfl,rfl,hL,?_,?_⟩
    ·unfold rowV; rw [List.length_map,hr']; exact small1000 (by omega)
    ·refine ⟨R2,_,r ++ [false],_,_,_,gg.over hl _,by rw [upd_same]; unfold rowV; rw [List.map_append]; rfl,t2,by rw [List.length_append,hr']; rfl,?_,rfl⟩
     rw [e,List.append_assoc]
     show r ++ (_ :: _)=r ++ ([false] ++ _)
     rw [hz]
     rfl
   | false =>
    refine ite2 (fun c=>absurd c Bool.false_ne_true) (fun _=>?_)
    refine ⟨_,rfl,_,rfl,_,rfl,_,rfl,M,p,n,true,g,rfl,hpn,hn,tg,fun R2 t2=>?_⟩
    refine ⟨_,rfl,.inl ⟨rfl,_,SqL.of hL⟩,_,rfl,l,_,_,rfl,rfl,hL,?_,?_⟩
    ·unfold rowV; rw [List.length_map,hr']; exact small1000 (by omega)
    ·refine ⟨R2,_,r ++ [true],_,_,_,gg.over hl _,by rw [upd_same]; unfold rowV; rw [List.map_append]; rfl,t2,by rw [List.length_append,hr']; rfl,?_,rfl⟩
     rw [e,List.append_assoc]
     show r ++ (_ :: _)=r ++ ([true] ++ _)
     rw [hz]
     rfl
 ·rintro σ H' ⟨M,g,r,f4,f5,f6,gg,hL,tg,hr',e,rfl⟩
  rw [List.length_map,List.drop_length] at e
  have e1:Bdd.fvP n f ps=r:=by rw [e]; exact List.append_nil _
  refine ⟨_,rfl,q l H' gg hl ?_⟩
  rw [e1]
  exact hL
theorem ok_first_row (T:Txt P w K mg a) (zC5:FnOk P w K mg base CX0 k a.zk5 a.zk6 ["table", "places", "marks"] (spFirstValues K)):FnOk P w K mg base CX0 (k + 1) a.zr1 a.zr2 ["table", "marks"] spFirstRow:=by
 refine T.zw9.ok zD4 (fun vs H Q E h=>?_) (fun cdv A outer s H vs Q E hr h=>?_)
 ·obtain ⟨N,n,f,rfl,_⟩:=h
  rfl
 obtain ⟨N,n,f,rfl,hn,tb,any,q⟩:=h
 refine ⟨_,(pss_one (ps_ret (pe_call zC5 hr rfl T.m_first_values T.zq7.2 T.b_first_values .nil pass0 (pa_cons (pv 0) (pa_cons (pe_listRange rfl rfl T.n_list rfl T.n_range (pa_cons (pv 1) pa_nil)) (pa_cons (pv 1) pa_nil)))))),?_⟩
 refine ⟨_,rfl,_,rfl,n,rfl,by omega,fun pl hpl=>?_⟩
 have g0:=Same.new hpl (.lst (natsV n))
 refine ⟨_,rfl,N,n,f,pl,List.range n,rfl,hn,tb,SqL.of upd_same,fun p hp=>List.mem_range.mp hp,by rw [List.length_range]; omega,fun l H' g hl hl'=>?_⟩
 exact q l H' _ (g0.trans g) (g0.free hl) hl' (Bdd.first_head any)
theorem ok_must_have_one_order (T:Txt P w K mg a)
  (zb7:FnOk P w K mg base CX0 k a.zc5 a.zc6 ["self"] (spBookOrder (BookAt a.za))):FnOk P w K mg base CX0 (k + 1) a.zb5 a.zb6 ["book", "two"] (spOneOrder a.za):=by
 refine T.zc9.ok zw8 (fun vs H Q E h=>?_) (fun cdv A outer s H vs Q E hr h=>?_)
 ·obtain ⟨b,c,os,rs,ts,F,G,rfl,_⟩:=h
  rfl
 obtain ⟨b,c,os,rs,ts,F,G,rfl,hB,hC,q⟩:=h
 refine ⟨_,(pss_one (ps_if (pt_cmpR (op_neD rfl (hu8 hr)) (pe_meth0 (pv 0) T.c_Book T.e_Book_order zb7 hr T.b_Book_order .nil pass0) (pe_meth0 (pv 1) T.c_Book T.e_Book_order zb7 hr T.b_Book_order .nil pass0) (nomark _)) (pss_one ps_never) pss_nil)),?_⟩
 have L:=bookLike a.za
 obtain ⟨dx,fs,hins,hm⟩:=L.ins hB
 refine ⟨_,rfl,b,dx,_,rfl,hins,hm _ (by decide +kernel),b,os,rs,F,rfl,hB,fun l1 H1 g1 f1 e1=>?_⟩
 have hC1:=L.same hC g1
 obtain ⟨dy,fy,hinc,hmc⟩:=L.ins hC1
 refine ⟨_,rfl,c,dy,_,rfl,hinc,hmc _ (by decide +kernel),c,os,ts,G,rfl,hC1,fun l2 H2 g2 f2 e2=>?_⟩
 refine ⟨true,fun z=>absurd z.1 Bool.false_ne_true,eq_ll (SqL.of (g2 _ _ e1)) (SqL.of e2) rfl (fun j x y hx hy=>?_),_,rfl,iteF ?_⟩
 ·rw [hx] at hy
  cases hy
  refine eq_flat ?_
  rw [List.getElem?_map] at hx
  cases ho:os[j]? with
  | none=>rw [ho] at hx; cases hx
  | some z=>rw [ho] at hx; cases hx; rfl
 ·exact q H2 (g1.trans g2)
theorem ok_apart (T:Txt P w K mg a)
  (za6:FnOk P w K mg base CX0 k a.za4 a.za5 ["self", "number"] (spMustRoom a.za))
  (zw0:FnOk P w K mg base CX0 k a.zf6 a.zf7 ["self", "number"] (spTableAt a.za))
  (zb7:FnOk P w K mg base CX0 k a.zc5 a.zc6 ["self"] (spBookOrder (BookAt a.za)))
  (zh3:FnOk P w K mg base CX0 k a.zb5 a.zb6 ["book", "two"] (spOneOrder a.za))
  (zE8:FnOk P w K mg base CX0 k a.zr1 a.zr2 ["table", "marks"] spFirstRow):FnOk P w K mg base CX0 (k + 1) a.zz8 a.zz9 ["book", "one", "two", "other"] (spApart a.za):=by
 refine T.zC3.ok zD5 (fun vs H Q E h=>?_) (fun cdv A outer s H vs Q E hr h=>?_)
 ·obtain ⟨b,c,os,rs,ts,F,G,i,j,rfl,_⟩:=h
  rfl
 obtain ⟨b,c,os,rs,ts,F,G,i,j,rfl,hB,hC,hi,hj,q1,q2⟩:=h
 refine ⟨_,(pss_cons (ps_expr (pe_call zh3 hr rfl T.m_must_have_one_order T.zc9.2 T.b_must_have_one_order .nil pass0 (pa_cons (pv 0) (pa_cons (pv 2) pa_nil))))
   (pss_cons (ps_expr (pe_meth (pv 0) T.c_Book T.e_Book_must_be_room za6 hr T.b_Book_must_be_room .nil pass0 (pa_cons (pv 1) pa_nil)))
   (pss_cons (ps_expr (pe_meth (pv 2) T.c_Book T.e_Book_must_be_room za6 hr T.b_Book_must_be_room .nil pass0 (pa_cons (pv 3) pa_nil)))
   (pss_cons (ps_set (i:=4) zD5.nd rfl (Or.inl rfl) (pe_op op_xorN (pe_meth (pv 0) T.c_Book T.e_Book_table_at zw0 hr T.b_Book_table_at .nil pass0 (pa_cons (pv 1) pa_nil)) (pe_meth (pv 2) T.c_Book T.e_Book_table_at zw0 hr T.b_Book_table_at .nil pass0 (pa_cons (pv 3) pa_nil))))
   (pss_cons (ps_if (pt_cmpR op_eq (pv 4) pe_int (nomark _)) (pss_one (ps_ret pe_non)) pss_nil)
   (pss_one (ps_ret (pe_call zE8 hr rfl T.m_first_row T.zw9.2 T.b_first_row .nil pass0 (pa_cons (pv 4) (pa_cons (pe_callB call_len_seq rfl T.n_len bt_len (pa_cons (pe_meth0 (pv 0) T.c_Book T.e_Book_order zb7 hr T.b_Book_order .nil pass0) pa_nil)) pa_nil)))))))))),?_⟩
 have L:=bookLike a.za
 have BK:=L.bk hB
 have CK:=L.bk hC
 have n8:=(L.ord hB).le
 refine ⟨_,rfl,_,rfl,b,c,os,rs,ts,F,G,rfl,hB,hC,fun H1 g1=>?_⟩
 have hB1:=L.same hB g1
 have hC1:=L.same hC g1
 obtain ⟨dx,ml,rl,tl,nd,rv,tv,kvs,h⟩:=hB1
 obtain ⟨dy,ml',rl',tl',nd',rv',tv',kvs',h'⟩:=hC1
 have hB1:BookAt a.za H1 b os rs F:=⟨dx,ml,rl,tl,nd,rv,tv,kvs,h⟩
 have hC1:BookAt a.za H1 c os ts G:=⟨dy,ml',rl',tl',nd',rv',tv',kvs',h'⟩
 refine ⟨_,rfl,b,dx,_,rfl,h.hb,rfl,_,rfl,b,os,rs,F,i,rfl,hB1,hi,?_⟩
 refine ⟨_,rfl,c,dy,_,rfl,h'.hb,rfl,_,rfl,c,os,ts,G,j,rfl,hC1,hj,?_⟩
 refine ⟨_,rfl,b,dx,_,rfl,h.hb,rfl,_,rfl,b,os,rs,F,i,rfl,hB1,hi,fun t1 tb1=>?_⟩
 refine ⟨_,rfl,c,dy,_,rfl,h'.hb,rfl,_,rfl,c,os,ts,G,j,rfl,hC1,hj,fun t2 tb2=>?_⟩
 refine ⟨t1,t2,rfl,rfl,?_⟩
 have tx:=Sen.tab_xor tb1 tb2
 have tz:=Bdd.tab_zero tx
 refine ⟨_,rfl,rfl,_,rfl,ite2 (fun e=>?_) (fun e=>?_)⟩
 ·refine q1 H1 g1 fun r=>?_
  have e0:t1 ^^^ t2=0:=by
   exact Int.natCast_eq_zero.mp (V.int.inj (of_decide_eq_true e))
  rw [decide_eq_true e0] at tz
  rw [← Bdd.yes_bits BK hi r,← Bdd.yes_bits CK hj r]
  cases hb:(Bdd.yes rs i (Bdd.rowN (Bdd.bits r os.length)) != Bdd.yes ts j (Bdd.rowN (Bdd.bits r os.length))) with
  | false=>exact bne_eq_false_iff_eq.mp hb
  | true =>
   rw [Bdd.anyB_iff.mpr ⟨Bdd.bits r os.length,Bdd.bits_lt _ _,hb⟩] at tz
   cases tz
 ·refine ⟨_,rfl,_,rfl,b,dx,_,rfl,h.hb,rfl,b,os,rs,F,rfl,hB1,fun l H2 g2 fl hl=>?_⟩
  refine ⟨l,_,rfl,.inl (SqL.of hl),?_⟩
  rw [List.length_map]
  refine ⟨t1 ^^^ t2,os.length,_,rfl,n8,tx,?_,fun l2 H3 r g3 fl2 hl2 hd=>?_⟩
  ·cases hz:Bdd.anyB os.length fun b=>Bdd.yes rs i (Bdd.rowN b) != Bdd.yes ts j (Bdd.rowN b) with
   | true=>rfl
   | false =>
    rw [hz] at tz
    exact absurd (decide_eq_true (congrArg (fun z:Nat=>V.int (z:Int)) (of_decide_eq_true tz))) e
  ·refine q2 l2 H3 r (g1.trans (g2.trans g3)) ((g1.trans g2).free fl2) hl2 ?_
   rw [← hd]
   congr 1
   refine List.filter_congr fun r' _=>?_
   show (_ != _)=(_ != _)
   rw [Bdd.rowN_row]
end
end K42
namespace K42
open PySem L2 Sen
section
variable {P:Program} {w:World} {K:PySem.W.Frag} {mg:Str->Option Value} {base:Heap} {a:Ad} {k:Nat}
theorem ok_add_stepA (T:Txt P w K mg a) {m:Nat} (za1:FnOk P w K mg base CX0 k a.za7 a.za8 ["self", "number"] (spPlaceOf a.za)) (zb7:FnOk P w K mg base CX0 k a.zc5 a.zc6 ["self"] (spBookOrder (BookAt a.za))) (zq:FnOk P w K mg base CX0 k a.zp5 a.zp6 ["self", "number", "place", "value"] (spLed a.za)) (zx2:FnOk P w K mg base CX0 k a.zi8 a.zi9 ["book", "one", "two", "other", "found"] (spAddPairsA a.za m)):FnOk P w K mg base CX0 (k + 1) a.zi8 a.zi9 ["book", "one", "two", "other", "found"] (spAddPairsA a.za (m + 1)):=by
 refine T.zs0.ok zu8 (fun vs H Q E h=>?_) (fun cdv A outer s H vs Q E hr h=>?_)
 ·obtain ⟨b1,b2,d,os,r1,r2,F1,F2,p,ps,H0,rfl,_⟩:=h
  rfl
 obtain ⟨b1,b2,d,os,r1,r2,F1,F2,p,ps,H0,rfl,hB1,hB2,g0,fd,hd,p1,p2,hm,hlen,od,q⟩:=h
 refine ⟨_,(pss_cons (ps_if (pt_cmp (pc_din (hu_of hr) (pe_tup (pa_cons (pv 1) (pa_cons (pv 3) pa_nil))) (pv 4))) (pss_one ps_retN) pss_nil)
   (pss_cons (ps_set (i:=5) zu8.nd rfl (Or.inl rfl) (pe_callB (call_min2 rfl) rfl T.n_min bt_min (pa_cons (pe_meth (pv 0) T.c_Book T.e_Book_place_of za1 hr T.b_Book_place_of .nil pass0 (pa_cons (pv 1) pa_nil)) (pa_cons (pe_meth (pv 2) T.c_Book T.e_Book_place_of za1 hr T.b_Book_place_of .nil pass0 (pa_cons (pv 3) pa_nil)) pa_nil))))
   (pss_cons (ps_if (pt_cmpR op_lt (pv 5) (pe_callB call_len_seq rfl T.n_len bt_len (pa_cons (pe_meth0 (pv 0) T.c_Book T.e_Book_order zb7 hr T.b_Book_order .nil pass0) pa_nil)) (nomark _)) (pss_one (ps_for PassesOwn.never rfl (pi_tup (pe_tup (pa_cons pe_int (pa_cons pe_int pa_nil)))) (pg_name (i:=6) zu8.nd rfl (Or.inl rfl)) (pss_one (ps_expr (pe_call zx2 hr rfl T.m_add_pairs T.zs0.2 T.b_add_pairs .nil pass0 (pa_cons (pv 0) (pa_cons (pe_meth (pv 0) T.c_Book T.e_Book_led zq hr T.b_Book_led .nil pass0 (pa_cons (pv 1) (pa_cons (pv 5) (pa_cons (pv 6) pa_nil)))) (pa_cons (pv 2) (pa_cons (pe_meth (pv 2) T.c_Book T.e_Book_led zq hr T.b_Book_led .nil pass0 (pa_cons (pv 3) (pa_cons (pv 5) (pa_cons (pv 6) pa_nil)))) (pa_cons (pv 4) pa_nil)))))))))) pss_nil)
   (pss_one (ps_dput (hu_of hr) (pv 4) (pe_tup (pa_cons (pv 1) (pa_cons (pv 3) pa_nil))) pe_bl rfl))))),?_⟩
 have L:=bookLike a.za
 have B1:=L.bk hB1
 have B2:=L.bk hB2
 have two:2 ^ (m + 1)=2 ^ m + 2 ^ m:=by rw [Nat.pow_succ]; omega
 have pos:1<=2 ^ m:=Nat.one_le_two_pow
 refine ⟨_,rfl,_,rfl,by show 2<=sizeLine; decide,fun t ht=>?_⟩
 have gt:=Same.new ht (.tup [V.int (p.1:Nat),V.int (p.2:Nat)])
 have et:upd H t (.tup [V.int (p.1:Nat),V.int (p.2:Nat)]) t=some (.tup ((pk p).map kV)):=upd_same
 generalize upd H t (.tup [V.int (p.1:Nat),V.int (p.2:Nat)])=H1 at gt et
 have hd1:=gt _ _ hd
 have g1:=g0.trans gt
 refine ⟨_,rfl,d,_,rfl,DGet.t (k:=pk p) hd1 et,_,rfl,?_⟩
 rw [valP]
 by_cases c:p∈ps
 ·rw [if_pos c]
  refine iteT ?_
  exact q _ [] g1 (by rw [List.append_nil]; exact hd1) (by rw [List.append_nil]; exact od) (fun _ h=>by cases h) (fun _ _ h=>by cases h) (by show 0 < _; omega) (.inl ⟨c,rfl⟩)
 rw [if_neg c]
 refine iteF ?_
 obtain ⟨dx1,_,_,_,_,_,_,_,h1⟩:=L.same hB1 g1
 obtain ⟨dx2,_,_,_,_,_,_,_,h2⟩:=L.same hB2 g1
 refine ⟨_,rfl,b1,dx1,_,rfl,h1.hb,rfl,_,rfl,b1,os,r1,F1,p.1,rfl,L.same hB1 g1,p1,_,rfl,b2,dx2,_,rfl,h2.hb,rfl,_,rfl,b2,os,r2,F2,p.2,rfl,L.same hB2 g1,p2,_,_,rfl,?_⟩
 have epl:(if ((Bdd.lev os.length r2 p.2:Nat):Int) < ((Bdd.lev os.length r1 p.1:Nat):Int) then ((Bdd.lev os.length r2 p.2:Nat):Int) else ((Bdd.lev os.length r1 p.1:Nat):Int))=((plm os.length r1 r2 p:Nat):Int):=by
  unfold plm
  split <;> omega
 show gName 5 (V.int (if ((Bdd.lev os.length r2 p.2:Nat):Int) < ((Bdd.lev os.length r1 p.1:Nat):Int) then ((Bdd.lev os.length r2 p.2:Nat):Int) else ((Bdd.lev os.length r1 p.1:Nat):Int))) _ _ _
 rw [epl]
 refine ⟨_,rfl,_,rfl,b1,dx1,_,rfl,h1.hb,rfl,b1,os,r1,F1,rfl,L.same hB1 g1,fun ol H2 g2 fol hol=>?_⟩
 have g02:=g1.trans g2
 have hd2:=g2 _ _ hd1
 refine ⟨ol,_,rfl,.inl (SqL.of hol),_,_,rfl,rfl,_,rfl,ite2 (fun c2=>?_) (fun c2=>?_)⟩
 ·have pn:plm os.length r1 r2 p < os.length:=by
   have:=of_decide_eq_true c2
   rw [List.length_map] at this
   omega
  refine ⟨by show 2<=sizeLine; decide,fun tp htp=>⟨tp,rfl,⟨_,SqT.of upd_same⟩,?_⟩⟩
  have g3:=Same.new htp (.tup [V.int 0,V.int 1])
  have etp:upd H2 tp (.tup [V.int 0,V.int 1]) tp=some (.tup [V.int 0,V.int 1]):=upd_same
  generalize upd H2 tp (.tup [V.int 0,V.int 1])=H3 at g3 etp
  refine for_tup (xs:=[V.int 0,V.int 1]) (fun i σ H'=>∃ (qs:List (Nat × Nat)) (f6:Option V),Same H0 H'/\H' tp=some (.tup [V.int 0,V.int 1])/\H' d=some (.dT (kvP (ps ++ qs)))/\Ordr os.length r1 r2 (ps ++ qs)/\(∀ x∈qs,plm os.length r1 r2 p < plm os.length r1 r2 x)/\(Al r1 r2 p->∀ x∈qs,Al r1 r2 x)/\qs.length<=i * (2 ^ m - 1)/\(∀ v:Bool,v.toNat < i->go2 r1 r2 p (plm os.length r1 r2 p) v∈ps ++ qs)/\σ=[some (.ref b1),some (.int (p.1:Nat)),some (.ref b2),some (.int (p.2:Nat)),some (.ref d),some (.int (plm os.length r1 r2 p:Nat)),f6]) ⟨[],_,g02.trans g3,etp,by rw [List.append_nil]; exact g3 _ _ hd2,by rw [List.append_nil]; exact od,(fun _ h=>by cases h),(fun _ _ h=>by cases h),(by show 0<=_; omega),(fun _ h=>absurd h (Nat.not_lt_zero _)),rfl⟩ (fun i σ H' _ ⟨_,_,_,e,_⟩=>SqT.of e) ?_ ?_
  ·rintro i x σ H4 hx ⟨qs,f6,g4,etp4,hd4,od4,lo4,al4,len4,got4,rfl⟩
   obtain ⟨v,rfl,ev⟩:∃ v:Bool,x=.int (v.toNat:Nat)/\v.toNat=i:=by
    match i,hx with
    | 0,hx=>cases hx; exact ⟨false,rfl,rfl⟩
    | 1,hx=>cases hx; exact ⟨true,rfl,rfl⟩
   have i1:i<=1:=by rw [← ev]; cases v <;> decide
   obtain ⟨dx1,_,_,_,_,_,_,_,h1⟩:=L.same hB1 g4
   obtain ⟨dx2,_,_,_,_,_,_,_,h2⟩:=L.same hB2 g4
   obtain ⟨q1,q2,q3⟩:=plm_go (v:=v) B1 B2 p1 p2 pn
   have gd:Same H0 (del H4 d):=fun x o e=>by
    unfold del
    rw [if_neg (ne_of_none e fd)]
    exact g4 x o e
   refine ⟨_,rfl,_,rfl,b1,dx1,_,rfl,h1.hb,rfl,_,rfl,_,rfl,_,rfl,b1,os,r1,F1,p.1,plm os.length r1 r2 p,v,rfl,L.same hB1 g4,p1,pn,_,rfl,_,rfl,b2,dx2,_,rfl,h2.hb,rfl,_,rfl,_,rfl,_,rfl,b2,os,r2,F2,p.2,plm os.length r1 r2 p,v,rfl,L.same hB2 g4,p2,pn,_,rfl,?_⟩
   have ln1:qs.length<=2 ^ m - 1:=by
    refine Nat.le_trans len4 ?_
    rcases (by omega:i=0\/i=1) with e | e <;> subst e <;> omega
   refine ⟨b1,b2,d,os,r1,r2,F1,F2,go2 r1 r2 p (plm os.length r1 r2 p) v,ps ++ qs,del H4 d,rfl,L.same hB1 gd,L.same hB2 gd,(fun x o e=>del_some e),del_none,hd4,q1,q2,by omega,by rw [List.length_append]; omega,od4,fun H5 rs5 g5 hd5 od5 lo5 al5 len5 last5=>?_⟩
   rw [List.append_assoc] at hd5 od5
   refine ⟨qs ++ rs5,_,gd.trans g5,g5 _ _ ?_,hd5,od5,fun y hy=>?_,fun ap y hy=>?_,?_,fun u hu=>?_,rfl⟩
   ·unfold del
    rw [if_neg (fun e=>by rw [e,hd4] at etp4; cases etp4)]
    exact etp4
   ·rcases List.mem_append.mp hy with z | z
    ·exact lo4 y z
    ·have:=lo5 y z
     omega
   ·rcases List.mem_append.mp hy with z | z
    ·exact al4 ap y z
    ·exact al5 (al_go B1 B2 p1 p2 pn ap v) y z
   ·rw [List.length_append,Nat.add_mul]
    omega
   ·rcases Nat.lt_or_ge u.toNat i with z | z
    ·rw [← List.append_assoc]
     exact List.mem_append_left _ (got4 u z)
    ·have eu:u=v:=by
      have:u.toNat=v.toNat:=by omega
      revert this
      cases u <;> cases v <;> intro e <;> first | rfl | cases e
     rw [eu]
     rcases last5 with ⟨z,_⟩ | ⟨xs,z⟩
     ·rw [← List.append_assoc]
      exact List.mem_append_left _ z
     ·rw [z]
      exact List.mem_append_right _ (List.mem_append_right _ (List.mem_append_right _ (List.mem_singleton.mpr rfl)))
  ·rintro σ H4 ⟨qs,f6,g4,etp4,hd4,od4,lo4,al4,len4,got4,rfl⟩
   have len4:qs.length<=2 * (2 ^ m - 1):=len4
   have np:p ∉ ps ++ qs:=fun z=>by
    rcases List.mem_append.mp z with z | z
    ·exact c z
    ·have:=lo4 p z
     omega
   refine ⟨_,rfl,_,rfl,_,rfl,by show 2<=sizeLine; decide,fun t2 ht2=>?_⟩
   have g9:=Same.new ht2 (.tup [V.int (p.1:Nat),V.int (p.2:Nat)])
   refine ⟨d,_,rfl,DPut.t (k:=pk p) (g9 _ _ hd4) upd_same (by unfold kvP; rw [List.length_map]; exact small1000 (by rw [List.length_append]; omega)),?_⟩
   rw [putP np]
   rw [List.append_assoc]
   refine q _ (qs ++ [p]) ((g4.trans g9).over fd _) upd_same ?_ (fun y hy=>?_) (fun ap y hy=>?_) (by rw [List.length_append,List.length_singleton]; omega) (.inr ⟨qs,rfl⟩)
   ·rw [← List.append_assoc]
    exact od4.snoc p1 p2 fun _ v=>got4 v (by cases v <;> decide)
   ·rcases List.mem_append.mp hy with z | z
    ·exact Nat.le_of_lt (lo4 y z)
    ·rw [List.mem_singleton.mp z]
     exact Nat.le_refl _
   ·rcases List.mem_append.mp hy with z | z
    ·exact al4 ap y z
    ·rw [List.mem_singleton.mp z]; exact ap
 ·have pn:¬ plm os.length r1 r2 p < os.length:=fun z=>c2 (decide_eq_true (by rw [List.length_map]; omega))
  refine ⟨_,rfl,_,rfl,_,rfl,by show 2<=sizeLine; decide,fun t2 ht2=>?_⟩
  have g9:=Same.new ht2 (.tup [V.int (p.1:Nat),V.int (p.2:Nat)])
  refine ⟨d,_,rfl,DPut.t (k:=pk p) (g9 _ _ hd2) upd_same (by unfold kvP; rw [List.length_map]; exact small1000 (by omega)),?_⟩
  rw [putP c]
  refine q _ [p] ((g02.trans g9).over fd _) upd_same (od.snoc p1 p2 fun z=>absurd z pn) (fun y hy=>?_) (fun ap y hy=>by rw [List.mem_singleton.mp hy]; exact ap) (by rw [List.length_singleton]; omega) (.inr ⟨[],rfl⟩)
  rw [List.mem_singleton.mp hy]
  exact Nat.le_refl _
theorem ok_add_pairsA (T:Txt P w K mg a) (za1:FnOk P w K mg base CX0 k a.za7 a.za8 ["self", "number"] (spPlaceOf a.za)) (zb7:FnOk P w K mg base CX0 k a.zc5 a.zc6 ["self"] (spBookOrder (BookAt a.za))) (zq:FnOk P w K mg base CX0 k a.zp5 a.zp6 ["self", "number", "place", "value"] (spLed a.za)) :
  ∀ m:Nat,FnOk P w K mg base CX0 (k + m) a.zi8 a.zi9 ["book", "one", "two", "other", "found"] (spAddPairsA a.za m)
 | 0=>by
  refine ⟨fun vs H Q E h=>?_,fun A outer s H args us vs Q E _ _ _ _ h=>?_⟩
  ·obtain ⟨b1,b2,d,os,r1,r2,F1,F2,p,ps,H0,rfl,_⟩:=h
   rfl
  ·obtain ⟨b1,b2,d,os,r1,r2,F1,F2,p,ps,H0,_,hB1,_,_,_,_,p1,_,hm,_⟩:=h
   have:=Bdd.lev_le ((bookLike a.za).bk hB1) p.1 p1
   have:plm os.length r1 r2 p<=Bdd.lev os.length r1 p.1:=Nat.min_le_left _ _
   omega
 | m + 1=>ok_add_stepA T (za1.mono (Nat.le_add_right _ _)) (zb7.mono (Nat.le_add_right _ _)) (zq.mono (Nat.le_add_right _ _)) (ok_add_pairsA T za1 zb7 zq m)
theorem ok_pairs_fromA (T:Txt P w K mg a) (zx2:FnOk P w K mg base CX0 k a.zi8 a.zi9 ["book", "one", "two", "other", "found"] (spAddPairsA a.za 9)):FnOk P w K mg base CX0 (k + 1) a.zp3 a.zp4 ["book", "one", "two", "other"] (spPairsFromA a.za):=by
 refine T.zv1.ok zy3 (fun vs H Q E h=>?_) (fun cdv A outer s H vs Q E hr h=>?_)
 ·obtain ⟨b1,b2,os,r1,r2,F1,F2,p,rfl,_⟩:=h
  rfl
 obtain ⟨b1,b2,os,r1,r2,F1,F2,p,rfl,hB1,hB2,p1,p2,q⟩:=h
 refine ⟨_,(pss_cons (ps_set (i:=4) zy3.nd rfl (Or.inl rfl) pe_dnewT)
   (pss_cons (ps_expr (pe_call zx2 hr rfl T.m_add_pairs T.zs0.2 T.b_add_pairs .nil pass0 (pa_cons (pv 0) (pa_cons (pv 1) (pa_cons (pv 2) (pa_cons (pv 3) (pa_cons (pv 4) pa_nil)))))))
   (pss_one (ps_ret (pe_callTy (call_list_dT rfl) rfl T.n_list bt_list (pa_cons (pv 4) pa_nil)))))),?_⟩
 have L:=bookLike a.za
 have o8:=(L.ord hB1).le
 refine fun d hd=>?_
 refine ⟨_,rfl,_,rfl,_,rfl,_,rfl,_,rfl,b1,b2,d,os,r1,r2,F1,F2,p,[],H,rfl,hB1,hB2,Same.new hd _,hd,upd_same,p1,p2,by omega,by decide,.nil,fun H1 qs g1 hd1 od lo al len last=>?_⟩
 rcases last with ⟨z,_⟩ | ⟨xs,rfl⟩
 ·cases z
 refine ⟨_,rfl,d,_,rfl,hd1,fun l ts hl pt=>?_⟩
 have g2:=Same.new hl (.lst (ts.map V.ref))
 refine q _ l ts xs (g1.trans g2) (g1.free hl) upd_same ?_ od al ?_
 ·have pt:Paired (fun t (kv:List Key × V)=>H1 t=some (.tup (kv.1.map kV))) ts ((xs ++ [p]).map fun p=>(pk p,V.bl true)):=pt
  refine pd_ext (by have:=pd_len pt; rw [List.length_map] at this; exact this) fun j x y e1 e2=>?_
  obtain ⟨kv,e3,e4⟩:=pd_at pt e1
  rw [List.getElem?_map,e2] at e3
  cases e3
  exact g2 _ _ e4
 ·rw [List.length_append,List.length_singleton] at len
  have:(2:Nat) ^ 9=512:=rfl
  omega
theorem ok_alike (T:Txt P w K mg a) (zF6:FnOk P w K mg base CX0 k a.zz8 a.zz9 ["book", "one", "two", "other"] (spApart a.za)) (zD9:FnOk P w K mg base CX0 k a.zp3 a.zp4 ["book", "one", "two", "other"] (spPairsFromA a.za)):FnOk P w K mg base CX0 (k + 1) a.zA a.zA0 ["book", "one", "two", "other"] (spAlike a.za K):=by
 refine T.zC4.ok zF3 (fun vs H Q E h=>?_) (fun cdv A outer s H vs Q E hr h=>?_)
 ·obtain ⟨b1,b2,os,r1,r2,F1,F2,i,j,rfl,_⟩:=h
  rfl
 obtain ⟨b1,b2,os,r1,r2,F1,F2,i,j,rfl,hB1,hB2,hi,hj,q0,q1⟩:=h
 refine ⟨_,(pss_cons (ps_if (pt_cmpR op_notN (pe_call zF6 hr rfl T.m_apart T.zC3.2 T.b_apart .nil pass0 (pa_cons (pv 0) (pa_cons (pv 1) (pa_cons (pv 2) (pa_cons (pv 3) pa_nil))))) pe_non (nomark _)) (pss_one (ps_ret pe_non)) pss_nil)
   (pss_one (ps_ret (pe_listRev rfl rfl T.n_list rfl T.n_reversed (pa_cons (pe_call zD9 hr rfl T.m_pairs_from T.zv1.2 T.b_pairs_from .nil pass0 (pa_cons (pv 0) (pa_cons (pv 1) (pa_cons (pv 2) (pa_cons (pv 3) pa_nil))))) pa_nil))))),?_⟩
 have L:=bookLike a.za
 have B1:=L.bk hB1
 have B2:=L.bk hB2
 refine ⟨_,rfl,_,rfl,_,rfl,_,rfl,b1,b2,os,r1,r2,F1,F2,i,j,rfl,hB1,hB2,hi,hj,fun H1 g1 same=>?_,fun l H1 r g1 fl hl hd=>?_⟩
 ·refine ⟨rfl,_,rfl,iteF ?_⟩
  refine ⟨_,rfl,_,rfl,_,rfl,_,rfl,b1,b2,os,r1,r2,F1,F2,(i,j),rfl,L.same hB1 g1,L.same hB2 g1,hi,hj,fun H2 pl ts xs g2 fpl hpl hpp od al lx=>?_⟩
  have A0:Al r1 r2 (i,j):=same
  refine ⟨pl,_,rfl,SqL.of hpl,fun l hl=>?_⟩
  have g3:=Same.new hl (.lst (ts.map V.ref).reverse)
  have g12:=g1.trans g2
  refine q1 _ l ts.reverse (xs ++ [(i,j)]).reverse (g12.trans g3) (g12.free hl) (by rw [upd_same,List.map_reverse]) ?_ (fun p hp=>od.rm p (List.mem_reverse.mp hp)) (fun p hp=>al A0 p (List.mem_reverse.mp hp)) (al_list B1 B2 od (al A0) fun p=>List.mem_reverse) (by rw [List.length_reverse,List.length_append,List.length_singleton]; omega) (by rw [List.reverse_append]; rfl) A0
  have e:=pd_len hpp
  refine pd_ext (by rw [List.length_reverse,List.length_reverse,e]) fun m x y hx hy=>?_
  have hm:m < ts.length:=by
   have:=(List.getElem?_eq_some_iff.mp hx).1
   rw [List.length_reverse] at this
   exact this
  rw [List.getElem?_reverse hm] at hx
  rw [List.getElem?_reverse (by omega),← e] at hy
  obtain ⟨y',ey,ry⟩:=pd_at hpp hx
  rw [hy] at ey
  cases ey
  exact g3 _ _ ry
 ·refine ⟨rfl,_,rfl,iteT ?_⟩
  refine q0 _ g1 fun al=>?_
  have hm:=(List.mem_filter.mp (List.mem_of_mem_head? (by rw [hd]; rfl:r∈((Bdd.allR os.length).filter fun r=>Bdd.yes r1 i (Bdd.rowL r) != Bdd.yes r2 j (Bdd.rowL r)).head?))).2
  rw [al (Bdd.rowL r)] at hm
  rw [bne_self_eq_false] at hm
  cases hm
theorem ok_is_alike_by (T:Txt P w K mg a) (za1:FnOk P w K mg base CX0 k a.za7 a.za8 ["self", "number"] (spPlaceOf a.za)) (ze4:FnOk P w K mg base CX0 k a.ze0 a.ze1 ["self", "number", "value"] (spGoing a.za)):FnOk P w K mg base CX0 (k + 1) a.zm3 a.zm4 ["book", "one", "two", "other", "known"] (spIsAlikeBy a.za):=by
 refine T.zt1.ok zC0 (fun vs H Q E h=>?_) (fun cdv A outer s H vs Q E hr h=>?_)
 ·obtain ⟨b1,b2,d,os,r1,r2,F1,F2,p,kvs,ps,rfl,_⟩:=h
  rfl
 obtain ⟨b1,b2,d,os,r1,r2,F1,F2,p,kvs,ps,rfl,hB1,hB2,p1,p2,hd,hk,q⟩:=h
 refine ⟨_,(pss_cons (ps_if (pt_cmpR op_ne (pe_meth (pv 0) T.c_Book T.e_Book_place_of za1 hr T.b_Book_place_of .nil pass0 (pa_cons (pv 1) pa_nil)) (pe_meth (pv 2) T.c_Book T.e_Book_place_of za1 hr T.b_Book_place_of .nil pass0 (pa_cons (pv 3) pa_nil)) (nomark _)) (pss_one (ps_ret pe_bl)) pss_nil)
   (pss_cons (ps_if (pt_cmpR op_in_seq (pv 1) (pe_tup (pa_cons pe_int (pa_cons pe_int pa_nil))) (by with_unfolding_all rfl)) (pss_one (ps_ret (pe_cmpR op_eq (pv 1) (pv 3) (nomark _)))) pss_nil)
   (pss_one (ps_ret (pe_callB (call_all rfl) rfl T.n_all bt_all (pa_cons (pe_lc0 (osc:=defScope zi1) (js:=[4,1,3,0,2]) rfl (by show LcOk (defScope zi1) _ "value" ["known", "one", "other", "book", "two"]; exact ⟨rfl,by decide +kernel,by decide +kernel,rfl,by decide +kernel,by decide +kernel,by decide +kernel⟩) rfl (pi_tup (pe_tup (pa_cons pe_int (pa_cons pe_int pa_nil)))) (by show ∀ j∈([4,1,3,0,2]:List Nat),j < 5; decide) (fun cl C s₂ H₂ fp=>(pe_cmp (pc_din (hu_of hr) (pe_tup (pa_cons (pe_meth (pv 4) T.c_Book T.e_Book_going ze4 hr T.b_Book_going .nil pass0 (pa_cons (pv 2) (pa_cons (pv 0) pa_nil))) (pa_cons (pe_meth (pv 5) T.c_Book T.e_Book_going ze4 hr T.b_Book_going .nil pass0 (pa_cons (pv 3) (pa_cons (pv 0) pa_nil))) pa_nil))) (pv 1))))) pa_nil)))))),?_⟩
 have L:=bookLike a.za
 have B1:=L.bk hB1
 have B2:=L.bk hB2
 have q:∀ bb H',Same H H'->alkB os.length r1 r2 ps p=bb->Q (.bl bb) H':=fun bb H' g e=>by rw [← e]; exact q H' g
 unfold alkB at q
 obtain ⟨dx1,_,_,_,_,_,_,_,h1⟩:=id hB1
 obtain ⟨dx2,_,_,_,_,_,_,_,h2⟩:=id hB2
 refine ⟨_,rfl,b1,dx1,_,rfl,h1.hb,rfl,_,rfl,b1,os,r1,F1,p.1,rfl,hB1,p1,_,rfl,b2,dx2,_,rfl,h2.hb,rfl,_,rfl,b2,os,r2,F2,p.2,rfl,hB2,p2,rfl,_,rfl,?_⟩
 rw [dec_intN]
 by_cases c:Bdd.lev os.length r1 p.1=Bdd.lev os.length r2 p.2
 ·rw [decide_eq_true c]
  refine iteF ?_
  rw [if_pos c] at q
  refine ⟨_,rfl,by show 2<=sizeLine; decide,fun tp htp=>?_⟩
  have g1:=Same.new htp (.tup [V.int 0,V.int 1])
  refine ⟨tp,_,rfl,.inr (SqT.of upd_same),rfl,rfl,_,rfl,?_⟩
  have ein:inV (V.int (p.1:Nat)) [V.int 0,V.int 1]=decide (p.1 < 2):=by
   by_cases t:p.1 < 2
   ·rw [decide_eq_true t]
    rcases (by omega:p.1=0\/p.1=1) with e | e <;> rw [e] <;> rfl
   ·rw [decide_eq_false t]
    cases z:inV (V.int (p.1:Nat)) [V.int 0,V.int 1] with
    | false=>rfl
    | true =>
     exfalso
     have y:(((p.1:Nat):Int) == 0 || (((p.1:Nat):Int) == 1 || false))=true:=by
      first
      | exact z
      | (have z':=z; simp [inV,eqV] at z'; simp; omega)
     simp at y
     omega
  rw [ein]
  by_cases t:p.1 < 2
  ·rw [decide_eq_true t]
   refine iteT ?_
   refine ⟨_,rfl,_,rfl,rfl,?_⟩
   rw [dec_intN]
   exact q _ _ g1 (if_pos t)
  ·rw [decide_eq_false t]
   refine iteF ?_
   rw [if_neg t] at q
   have g1':=g1
   generalize upd H tp (.tup [V.int 0,V.int 1])=H1 at g1'
   refine ⟨by show 2<=sizeLine; decide,fun tq htq=>⟨tq,rfl,⟨_,SqT.of upd_same⟩,?_⟩⟩
   have g2:=Same.new htq (.tup [V.int 0,V.int 1])
   have e2:upd H1 tq (.tup [V.int 0,V.int 1]) tq=some (.tup [V.int 0,V.int 1]):=upd_same
   generalize upd H1 tq (.tup [V.int 0,V.int 1])=H2 at g2 e2
   have G2:=g1'.trans g2
   obtain ⟨i1,lo1,hi1,ex1,in1,_⟩:=B1.rm p.1 (by omega) p1
   have l1:=Bdd.lev_of B1 ex1
   have t2:¬ p.2 < 2:=fun z=>by
    have:Bdd.lev os.length r2 p.2=os.length:=by
     rcases (by omega:p.2=0\/p.2=1) with e | e <;> rw [e]
     ·exact Bdd.lev_no B2
     ·exact Bdd.lev_yes B2
    omega
   obtain ⟨i2,lo2,hi2,ex2,in2,_⟩:=B2.rm p.2 (by omega) p2
   have l2:=Bdd.lev_of B2 ex2
   have E1:∀ v,roomGo p.1 (some (i1,lo1,hi1)) v=Bdd.ledN r1 p.1 (Bdd.lev os.length r1 p.1) v:=fun v=>by
    unfold Bdd.ledN
    rw [ex1,l1]
    show _=if i1=i1 then _ else _
    rw [if_pos rfl]
    rfl
   have E2:∀ v,roomGo p.2 (some (i2,lo2,hi2)) v=Bdd.ledN r2 p.2 (Bdd.lev os.length r1 p.1) v:=fun v=>by
    unfold Bdd.ledN
    rw [ex2,c,l2]
    show _=if i2=i2 then _ else _
    rw [if_pos rfl]
    rfl
   refine lc_tup (xs:=[V.int 0,V.int 1]) (fun m ys H'=>Same H2 H'/\ys=([decide (go2 r1 r2 p (Bdd.lev os.length r1 p.1) false∈ps),decide (go2 r1 r2 p (Bdd.lev os.length r1 p.1) true∈ps)].take m).map V.bl) ⟨Same.refl _,rfl⟩ (by show 2<=sizeLine; decide) ?_ ?_ (fun _ _ _ _ h q=>h _ _ q) ?_ ?_
   ·rintro m ys H' hm ⟨gg,rfl⟩
    exact ⟨SqT.of (gg _ _ e2),by rw [List.length_map,List.length_take]; omega⟩
   ·rintro m x ys H' hx ⟨gg,rfl⟩
    obtain ⟨v,rfl,tz⟩:∃ v:Bool,x=.int (v.toNat:Nat)/\([decide (go2 r1 r2 p (Bdd.lev os.length r1 p.1) false∈ps),decide (go2 r1 r2 p (Bdd.lev os.length r1 p.1) true∈ps)].take (m + 1)).map V.bl=([decide (go2 r1 r2 p (Bdd.lev os.length r1 p.1) false∈ps),decide (go2 r1 r2 p (Bdd.lev os.length r1 p.1) true∈ps)].take m).map V.bl ++ [V.bl (decide (go2 r1 r2 p (Bdd.lev os.length r1 p.1) v∈ps))]:=by
     match m,hx with
     | 0,hx=>cases hx; exact ⟨false,rfl,rfl⟩
     | 1,hx=>cases hx; exact ⟨true,rfl,rfl⟩
    have G3:=G2.trans gg
    have hB1':=L.same hB1 G3
    have hB2':=L.same hB2 G3
    refine tyes (iteT ?_)
    refine ⟨_,rfl,b1,dx1,_,rfl,G3 _ _ h1.hb,rfl,_,rfl,_,rfl,b1,os,r1,F1,p.1,_,v,rfl,hB1',ex1,_,rfl,b2,dx2,_,rfl,G3 _ _ h2.hb,rfl,_,rfl,_,rfl,b2,os,r2,F2,p.2,_,v,rfl,hB2',ex2,by show 2<=sizeLine; decide,fun t ht=>?_⟩
    have g4:=Same.new ht (.tup [V.int (roomGo p.1 (some (i1,lo1,hi1)) v:Nat),V.int (roomGo p.2 (some (i2,lo2,hi2)) v:Nat)])
    have et:upd H' t (.tup [V.int (roomGo p.1 (some (i1,lo1,hi1)) v:Nat),V.int (roomGo p.2 (some (i2,lo2,hi2)) v:Nat)]) t=some (.tup ((pk (go2 r1 r2 p (Bdd.lev os.length r1 p.1) v)).map kV)):=by rw [upd_same,E1,E2]; rfl
    refine ⟨_,rfl,d,_,rfl,DGet.t (k:=pk (go2 r1 r2 p (Bdd.lev os.length r1 p.1) v)) (g4 _ _ (G3 _ _ hd)) et,?_⟩
    rw [hk]
    exact ⟨gg.trans g4,tz.symm⟩
   ·rintro σ' H5 Q1 Q2 hQ ⟨v1,z1,a1,a2,a3,a4,a5,a6,v2,z2,v3,z3,c1,c2,c3,c4,c5,c6,c7,c8,c9,ca,v4,z4,d1,d2,d3,d4,d5,d6,v5,z5,v6,z6,f1,f2,f3,f4,f5,f6,f7,f8,f9,fa,w1,w2⟩
    refine ⟨v1,z1,a1,a2,a3,a4,a5,a6,v2,z2,v3,z3,c1,c2,c3,c4,c5,c6,c7,c8,c9,ca,v4,z4,d1,d2,d3,d4,d5,d6,v5,z5,v6,z6,f1,f2,f3,f4,f5,f6,f7,f8,f9,fa,w1,fun t ht=>?_⟩
    obtain ⟨y1,y2,y3,y4,y5,y6,y7⟩:=w2 t ht
    exact ⟨y1,y2,y3,y4,y5,y6,hQ _ _ y7⟩
   rintro ys H5 l ⟨gg,rfl⟩ hl
   refine ⟨l,[decide (go2 r1 r2 p (Bdd.lev os.length r1 p.1) false∈ps),decide (go2 r1 r2 p (Bdd.lev os.length r1 p.1) true∈ps)],rfl,SqL.of upd_same,?_⟩
   refine q _ _ (G2.trans (gg.trans (Same.new hl _))) ?_
   show _=(id (decide (go2 r1 r2 p (Bdd.lev os.length r1 p.1) false∈ps)) && (id (decide (go2 r1 r2 p (Bdd.lev os.length r1 p.1) true∈ps)) && true))
   rw [Bool.and_true]
   rfl
 ·rw [decide_eq_false c]
  refine iteT ?_
  exact q _ _ (Same.refl _) (if_neg c)
theorem ok_are_alike_by (T:Txt P w K mg a) (za6:FnOk P w K mg base CX0 k a.za4 a.za5 ["self", "number"] (spMustRoom a.za)) (zh3:FnOk P w K mg base CX0 k a.zb5 a.zb6 ["book", "two"] (spOneOrder a.za)) (zD2:FnOk P w K mg base CX0 k a.zm3 a.zm4 ["book", "one", "two", "other", "known"] (spIsAlikeBy a.za)):FnOk P w K mg base CX0 (k + 1) a.zh1 a.zh2 ["book", "two", "pairs"] (spAreAlike a.za K):=by
 refine T.zc4.ok zj1 (fun vs H Q E h=>?_) (fun cdv A outer s H vs Q E hr h=>?_)
 ·obtain ⟨b1,b2,l,os,r1,r2,F1,F2,ts,ps,rfl,_⟩:=h
  rfl
 obtain ⟨b1,b2,l,os,r1,r2,F1,F2,ts,ps,rfl,hB1,hB2,hl,hp,hb,len,q⟩:=h
 refine ⟨_,(pss_cons (ps_expr (pe_call zh3 hr rfl T.m_must_have_one_order T.zc9.2 T.b_must_have_one_order .nil pass0 (pa_cons (pv 0) (pa_cons (pv 1) pa_nil))))
   (pss_cons (ps_set (i:=3) zj1.nd rfl (Or.inr rfl) pe_dnewT)
   (pss_cons (ps_for PassesOwn.never rfl (pi_list (pv 2)) (pg_tup rfl (pgs_cons (pg_name (i:=4) zj1.nd rfl (Or.inl rfl)) (pgs_cons (pg_name (i:=5) zj1.nd rfl (Or.inl rfl)) pgs_nil))) (pss_cons (ps_expr (pe_meth (pv 0) T.c_Book T.e_Book_must_be_room za6 hr T.b_Book_must_be_room .nil pass0 (pa_cons (pv 4) pa_nil)))
   (pss_cons (ps_expr (pe_meth (pv 1) T.c_Book T.e_Book_must_be_room za6 hr T.b_Book_must_be_room .nil pass0 (pa_cons (pv 5) pa_nil)))
   (pss_one (ps_dput (hu_of hr) (pv 3) (pe_tup (pa_cons (pv 4) (pa_cons (pv 5) pa_nil))) pe_bl rfl)))))
   (pss_one (ps_ret (pe_callB (call_all rfl) rfl T.n_all bt_all (pa_cons (pe_lcP (osc:=defScope zg6) (js:=[0,1,3]) rfl (by show LcOkP (defScope zg6) _ "one" "other" ["book", "two", "known"]; exact ⟨⟨rfl,by decide +kernel,by decide +kernel,by decide +kernel,by decide +kernel⟩,by decide +kernel,by decide +kernel,by decide +kernel⟩) rfl (pi_list (pv 2)) (by show ∀ j∈([0,1,3]:List Nat),j < 6; decide) (fun cl C s₂ H₂ fp=>(pe_call zD2 hr rfl T.m_is_alike_by T.zt1.2 T.b_is_alike_by .nil pass0 (pa_cons (pv 2) (pa_cons (pv 0) (pa_cons (pv 3) (pa_cons (pv 1) (pa_cons (pv 4) pa_nil)))))))) pa_nil))))))),?_⟩
 have L:=bookLike a.za
 have el:=pd_len hp
 refine ⟨_,rfl,_,rfl,b1,b2,os,r1,r2,F1,F2,rfl,hB1,hB2,fun H1 g1=>?_⟩
 refine fun d hd=>?_
 have g2:=Same.new hd (.dT [])
 have ed:upd H1 d (.dT []) d=some (.dT []):=upd_same
 generalize upd H1 d (.dT [])=H2 at g2 ed
 have fd:H d=none:=g1.free hd
 have g02:=g1.trans g2
 have hl2:=g02.seq hl
 refine ⟨_,rfl,l,rfl,⟨_,hl2⟩,?_⟩
 refine for_list (xs:=ts.map V.ref) (fun i σ H3=>Same H H3/\∃ (kvs:List (List Key × V)) (f4 f5:Option V),H3 d=some (.dT kvs)/\KnB kvs (ps.take i)/\kvs.length<=i/\σ=[some (.ref b1),some (.ref b2),some (.ref l),some (.ref d),f4,f5]) ⟨g02,[],_,_,ed,(fun q=>rfl),Nat.le_refl _,rfl⟩ (fun i σ H3 _ ⟨g,_⟩=>g.seq hl) ?_ ?_
 ·rintro i x σ H3 hx ⟨g3,kvs,f4,f5,hd3,kn3,len3,rfl⟩
  rw [List.getElem?_map] at hx
  cases ht:ts[i]? with
  | none=>rw [ht] at hx; cases hx
  | some t =>
   rw [ht] at hx
   cases hx
   obtain ⟨p,ep,tp⟩:=pd_at hp ht
   have bp:=hb p (List.mem_of_getElem? ep)
   have hi:=(List.getElem?_eq_some_iff.mp ep).1
   have hB1':=L.same hB1 g3
   have hB2':=L.same hB2 g3
   obtain ⟨dx1,_,_,_,_,_,_,_,h1⟩:=id hB1'
   obtain ⟨dx2,_,_,_,_,_,_,_,h2⟩:=id hB2'
   refine ⟨t,_,rfl,SqT.of (g3 _ _ tp),rfl,_,_,rfl,_,_,rfl,rfl,?_⟩
   refine ⟨_,rfl,b1,dx1,_,rfl,h1.hb,rfl,_,rfl,b1,os,r1,F1,p.1,rfl,hB1',bp.1,?_⟩
   refine ⟨_,rfl,b2,dx2,_,rfl,h2.hb,rfl,_,rfl,b2,os,r2,F2,p.2,rfl,hB2',bp.2,?_⟩
   refine ⟨_,rfl,_,rfl,_,rfl,by show 2<=sizeLine; decide,fun t2 ht2=>?_⟩
   have g5:=Same.new ht2 (.tup [V.int (p.1:Nat),V.int (p.2:Nat)])
   refine ⟨d,_,rfl,DPut.t (k:=pk p) (g5 _ _ hd3) upd_same (small1000 (by omega)),?_⟩
   refine ⟨(g3.trans g5).over fd _,putK kvs (pk p) (V.bl true),_,_,upd_same,?_,?_,rfl⟩
   ·rw [take_next ep]
    exact kn3.put p
   ·have:=length_putK kvs (pk p) (V.bl true)
    omega
 rintro σ H3 ⟨g3,kvs,f4,f5,hd3,kn3,len3,rfl⟩
 rw [List.length_map,el,List.take_length] at kn3
 refine ⟨_,rfl,l,rfl,⟨_,g3.seq hl⟩,?_⟩
 refine lc_pairsL (xs:=ts.map V.ref) (fun m ys H4=>Same H3 H4/\ys=((ps.take m).map (alkB os.length r1 r2 ps)).map V.bl) ⟨Same.refl _,rfl⟩ (by rw [List.length_map]; exact Nat.le_of_lt (small1000 (by omega))) ?_ ?_ (fun _ _ _ _ h q=>h _ _ q) ?_ ?_
 ·rintro m ys H4 hm ⟨gg,rfl⟩
  exact ⟨(g3.trans gg).seq hl,by rw [List.length_map,List.length_map,List.length_take]; omega⟩
 ·rintro m x ys H4 hx ⟨gg,rfl⟩
  rw [List.getElem?_map] at hx
  cases ht:ts[m]? with
  | none=>rw [ht] at hx; cases hx
  | some t =>
   rw [ht] at hx
   cases hx
   obtain ⟨p,ep,tp⟩:=pd_at hp ht
   have bp:=hb p (List.mem_of_getElem? ep)
   have G:=g3.trans gg
   refine ⟨t,_,_,rfl,SqT.of (G _ _ tp),?_⟩
   refine tyes (iteT ?_)
   refine ⟨_,rfl,_,rfl,_,rfl,_,rfl,_,rfl,b1,b2,d,os,r1,r2,F1,F2,p,kvs,ps,rfl,L.same hB1 G,L.same hB2 G,bp.1,bp.2,gg _ _ hd3,kn3,fun H5 g5=>⟨gg.trans g5,?_⟩⟩
   rw [take_next ep,List.map_append,List.map_append]
   rfl
 ·rintro σ' H4 Q1 Q2 hQ ⟨v1,e1,v2,e2,v3,e3,v4,e4,v5,e5,y1,y2,y3,y4,y5,y6,y7,y8,y9,ya,yb,z1,z2,z3,z4,z5,z6,z7,z8⟩
  exact ⟨v1,e1,v2,e2,v3,e3,v4,e4,v5,e5,y1,y2,y3,y4,y5,y6,y7,y8,y9,ya,yb,z1,z2,z3,z4,z5,z6,z7,fun H' g=>hQ _ _ (z8 H' g)⟩
 rintro ys H4 l2 ⟨gg,rfl⟩ hl2
 rw [List.length_map,el,List.take_length]
 refine ⟨l2,ps.map (alkB os.length r1 r2 ps),rfl,SqL.of upd_same,?_⟩
 have z:=q _ (g3.trans (gg.trans (Same.new hl2 (.lst ((ps.map (alkB os.length r1 r2 ps)).map V.bl)))))
 have e:(ps.map (alkB os.length r1 r2 ps)).all id=alkA os.length r1 r2 ps:=by unfold alkA; rw [List.all_map]; rfl
 rw [e]
 exact z
end
end K42
namespace K42
open PySem L2 Sen
section
variable {P:Program} {w:World} {K:PySem.W.Frag} {mg:Str->Option Value} {base:Heap} {a:Ad} {k:Nat}
theorem ok_law_shows42 (T:Txt P w K mg a) (zA7:FnOk P w K mg base CX0 k a.zr8 a.zr9 ["self", "number"] (spBookRoom (BookAt a.za))):FnOk P w K mg base CX0 (k + 1) a.zm9 a.zn ["book", "two", "pairs"] (spShows42 a.za K):=by
 refine T.zn2.ok zg7 (fun vs H Q E h=>?_) (fun cdv A outer s H vs Q E hr h=>?_)
 ·obtain ⟨b1,b2,l,os,r1,r2,F1,F2,ts,ps,rfl,_⟩:=h
  rfl
 obtain ⟨b1,b2,l,os,r1,r2,F1,F2,ts,ps,rfl,hB1,hB2,hl,hp,hb,len,q⟩:=h
 refine ⟨_,(pss_cons (ps_for PassesOwn.never rfl (pi_list (pv 2)) (pg_tup rfl (pgs_cons (pg_name (i:=3) zg7.nd rfl (Or.inl rfl)) (pgs_cons (pg_name (i:=4) zg7.nd rfl (Or.inl rfl)) pgs_nil))) (pss_one (ps_if (PW.pt (pw_or (pt_cmpR op_lt (pv 3) pe_int (nomark _)) (pw_or1 (pt_cmpR op_lt (pv 4) pe_int (nomark _))))) (pss_one (ps_if (pt_cmpR op_ne (pv 3) (pv 4) (nomark _)) (pss_one (ps_ret pe_bl)) pss_nil)) (pss_cons (ps_set (i:=5) zg7.nd rfl (Or.inl rfl) (pe_meth (pv 0) T.c_Book T.e_Book_room zA7 hr T.b_Book_room .nil pass0 (pa_cons (pv 3) pa_nil)))
   (pss_cons (ps_set (i:=6) zg7.nd rfl (Or.inl rfl) (pe_meth (pv 1) T.c_Book T.e_Book_room zA7 hr T.b_Book_room .nil pass0 (pa_cons (pv 4) pa_nil)))
   (pss_one (ps_if (PW.pt (pw_or (pt_cmpR op_ne (pe_ix ix_tup (pv 5) pe_int (fun _ _=>rfl)) (pe_ix ix_tup (pv 6) pe_int (fun _ _=>rfl)) (nomark _)) (pw_or (pt_cmpR (op_notInD rfl (hu9 hr)) (pe_tup (pa_cons (pe_ix ix_tup (pv 5) pe_int (fun _ _=>rfl)) (pa_cons (pe_ix ix_tup (pv 6) pe_int (fun _ _=>rfl)) pa_nil))) (pv 2) (by with_unfolding_all rfl)) (pw_or1 (pt_cmpR (op_notInD rfl (hu9 hr)) (pe_tup (pa_cons (pe_ix ix_tup (pv 5) pe_int (fun _ _=>rfl)) (pa_cons (pe_ix ix_tup (pv 6) pe_int (fun _ _=>rfl)) pa_nil))) (pv 2) (by with_unfolding_all rfl)))))) (pss_one (ps_ret pe_bl)) pss_nil)))))))
   (pss_one (ps_ret pe_bl))),?_⟩
 have L:=bookLike a.za
 have B1:=L.bk hB1
 have B2:=L.bk hB2
 have ho:=L.ord hB1
 have el:=pd_len hp
 refine ⟨_,rfl,l,rfl,⟨_,hl⟩,?_⟩
 refine for_list (xs:=ts.map V.ref) (fun i σ H3=>Same H H3/\(∀ p∈ps.take i,alkB os.length r1 r2 ps p=true)/\∃ (f3 f4 f5 f6:Option V),σ=[some (.ref b1),some (.ref b2),some (.ref l),f3,f4,f5,f6]) ⟨Same.refl _,(fun p h=>by cases h),_,_,_,_,rfl⟩ (fun i σ H3 _ ⟨g,_⟩=>g.seq hl) ?_ ?_
 ·rintro i x σ H3 hx ⟨g3,ok3,f3,f4,f5,f6,rfl⟩
  rw [List.getElem?_map] at hx
  cases ht:ts[i]? with
  | none=>rw [ht] at hx; cases hx
  | some t =>
   rw [ht] at hx
   cases hx
   obtain ⟨p,ep,tp⟩:=pd_at hp ht
   have mp:=List.mem_of_getElem? ep
   have bp:=hb p mp
   have nxt:alkB os.length r1 r2 ps p=true->∀ p'∈ps.take (i + 1),alkB os.length r1 r2 ps p'=true:=fun e p' hp'=>by
    rw [take_next ep] at hp'
    rcases List.mem_append.mp hp' with z | z
    ·exact ok3 p' z
    ·rw [List.mem_singleton.mp z]; exact e
   have bad:∀ H',Same H3 H'->alkB os.length r1 r2 ps p=false->Q (.bl false) H':=fun H' g e=>by
    have ef:alkA os.length r1 r2 ps=false:=by
     cases c:alkA os.length r1 r2 ps with
     | false=>rfl
     | true=>rw [List.all_eq_true.mp c p mp] at e; cases e
    have z:=q _ (g3.trans g)
    rw [ef] at z
    exact z
   refine ⟨t,_,rfl,SqT.of (g3 _ _ tp),rfl,_,_,rfl,_,_,rfl,rfl,?_⟩
   by_cases low:p.1 < 2\/p.2 < 2
   ·have ev:alkB os.length r1 r2 ps p=decide (p.1=p.2):=by
     unfold alkB
     have lv:∀ {rs:List Bdd.Rm} (B:Bdd.Bk os.length rs) {k:Nat},k < rs.length->(Bdd.lev os.length rs k=os.length↔k < 2):=fun {rs} B {k} hk=>⟨fun e=>by
      rcases Nat.lt_or_ge k 2 with z | z
      ·exact z
      ·obtain ⟨i,lo,hi,ex,hin,_⟩:=B.rm k z hk
       rw [Bdd.lev_of B ex] at e
       omega,fun e=>by
      rcases (by omega:k=0\/k=1) with z | z <;> subst z
      ·exact Bdd.lev_no B
      ·exact Bdd.lev_yes B⟩
     have v1:=lv B1 bp.1
     have v2:=lv B2 bp.2
     by_cases c:Bdd.lev os.length r1 p.1=Bdd.lev os.length r2 p.2
     ·rw [if_pos c]
      have c1:p.1 < 2:=by
       rcases low with z | z
       ·exact z
       ·exact v1.mp (c.trans (v2.mpr z))
      rw [if_pos c1]
     ·rw [if_neg c]
      exact (decide_eq_false fun e=>c (by
       have a1:p.1 < 2:=by omega
       have a2:p.2 < 2:=by omega
       rw [v1.mpr a1,v2.mpr a2])).symm
    refine ifs_or2T (i:=3) (j:=4) (a:=((p.1:Nat):Int)) (b:=((p.2:Nat):Int)) rfl rfl (by
     rcases low with z | z
     ·exact .inl (decide_eq_true (by omega))
     ·exact .inr (decide_eq_true (by omega))) ?_
    refine ⟨_,rfl,_,rfl,rfl,_,rfl,?_⟩
    rw [dec_intN]
    cases cd:decide (p.1=p.2) with
    | false=>exact iteT (bad _ (Same.refl _) (ev.trans cd))
    | true=>exact iteF ⟨g3,nxt (ev.trans cd),_,_,_,_,rfl⟩
   ·obtain ⟨i1,lo1,hi1,ex1,in1,_⟩:=B1.rm p.1 (by omega) bp.1
    obtain ⟨i2,lo2,hi2,ex2,in2,_⟩:=B2.rm p.2 (by omega) bp.2
    have l1:=Bdd.lev_of B1 ex1
    have l2:=Bdd.lev_of B2 ex2
    refine ifs_or2F (i:=3) (j:=4) (a:=((p.1:Nat):Int)) (b:=((p.2:Nat):Int)) rfl rfl (decide_eq_false (by omega)) (decide_eq_false (by omega)) ?_
    have hB1':=L.same hB1 g3
    obtain ⟨dx1,fs1,hins1,hm1⟩:=L.ins hB1'
    refine ⟨_,rfl,b1,dx1,fs1,rfl,hins1,hm1 _ (by decide +kernel),_,rfl,b1,os,r1,F1,p.1,_,rfl,hB1',ex1,fun v4 H4 g4 rv4=>?_⟩
    obtain ⟨t4,y4,rfl,hy4,ht4⟩:=rv4
    have hB2':=L.same hB2 (g3.trans g4)
    obtain ⟨dx2,fs2,hins2,hm2⟩:=L.ins hB2'
    refine ⟨_,rfl,b2,dx2,fs2,rfl,hins2,hm2 _ (by decide +kernel),_,rfl,b2,os,r2,F2,p.2,_,rfl,hB2',ex2,fun v5 H5 g5 rv5=>?_⟩
    obtain ⟨t5,y5,rfl,hy5,ht5⟩:=rv5
    have ht4':=g5 _ _ ht4
    have G5:=g4.trans g5
    refine ⟨_,rfl,t4,_,_,_,rfl,rfl,SqT.of ht4',at0,_,rfl,t5,_,_,_,rfl,rfl,SqT.of ht5,at0,rfl,_,rfl,?_⟩
    by_cases c:i1=i2
    ·have ey:y4=y5:=by
      rw [← c,hy4] at hy5
      exact Option.some.inj hy5
     have ev:alkB os.length r1 r2 ps p=(decide ((lo1,lo2)∈ps) && decide ((hi1,hi2)∈ps)):=by
      unfold alkB
      rw [l1,l2,if_pos c,if_neg (by omega)]
      have e1:∀ v,go2 r1 r2 p i1 v=if v then (hi1,hi2) else (lo1,lo2):=fun v=>by
       unfold go2 Bdd.ledN
       rw [ex1,ex2]
       dsimp only
       rw [if_pos rfl,if_pos c.symm]
       cases v <;> rfl
      rw [e1,e1]
      rfl
     rw [decide_eq_true (by rw [ey])]
     refine iteF ?_
     refine ⟨_,rfl,t4,_,_,_,rfl,rfl,SqT.of ht4',at1,_,rfl,t5,_,_,_,rfl,rfl,SqT.of ht5,at1,by show 2<=sizeLine; decide,fun t6 ht6=>?_⟩
     have g6:=Same.new ht6 (.tup [V.int (lo1:Nat),V.int (lo2:Nat)])
     have e6:PairP (upd H5 t6 (.tup [V.int (lo1:Nat),V.int (lo2:Nat)])) t6 (lo1,lo2):=upd_same
     generalize upd H5 t6 (.tup [V.int (lo1:Nat),V.int (lo2:Nat)])=H6 at g6 e6
     have G6:=G5.trans g6
     have hp6:Paired (PairP H6) ts ps:=pd_imp (fun _ _ e=>(g3.trans G6) _ _ e) hp
     have inn:∀ {H6:Hp} {t6:Addr} {z6:Nat × Nat},Paired (PairP H6) ts ps->PairP H6 t6 z6->∀ z∈ts.map V.ref,EqD K H6 8 z (.ref t6) (isPr H6 z6 z):=fun {H6 t6 z6} hp6 e6 z hz=>by
      obtain ⟨t',ht',rfl⟩:=List.mem_map.mp hz
      obtain ⟨m,hm⟩:=List.getElem?_of_mem ht'
      obtain ⟨p',_,hp'⟩:=pd_at hp6 hm
      rw [isPr_eq hp']
      exact eq_pairB (n:=7) hp' e6
     refine ⟨_,rfl,l,_,_,rfl,.inl ((g3.trans G6).seq hl),inn hp6 e6,?_⟩
     rw [any_pr hp6]
     refine ⟨_,rfl,?_⟩
     cases cd:decide ((lo1,lo2)∈ps) with
     | false =>
      refine iteT (iteT (bad _ G6 ?_))
      rw [ev,cd]; rfl
     | true =>
      refine iteF ?_
      refine ⟨_,rfl,t4,_,_,_,rfl,rfl,SqT.of (g6 _ _ ht4'),at2,_,rfl,t5,_,_,_,rfl,rfl,SqT.of (g6 _ _ ht5),at2,by show 2<=sizeLine; decide,fun t7 ht7=>?_⟩
      have g7:=Same.new ht7 (.tup [V.int (hi1:Nat),V.int (hi2:Nat)])
      have e7:PairP (upd H6 t7 (.tup [V.int (hi1:Nat),V.int (hi2:Nat)])) t7 (hi1,hi2):=upd_same
      generalize upd H6 t7 (.tup [V.int (hi1:Nat),V.int (hi2:Nat)])=H7 at g7 e7
      have G7:=G6.trans g7
      have hp7:Paired (PairP H7) ts ps:=pd_imp (fun _ _ e=>g7 _ _ e) hp6
      refine ⟨_,rfl,l,_,_,rfl,.inl ((g3.trans G7).seq hl),inn hp7 e7,?_⟩
      rw [any_pr hp7]
      refine ⟨_,rfl,?_⟩
      cases cd2:decide ((hi1,hi2)∈ps) with
      | false =>
       refine iteT (bad _ G7 ?_)
       rw [ev,cd,cd2]; rfl
      | true =>
       refine iteF ⟨g3.trans G7,nxt ?_,_,_,_,_,rfl⟩
       rw [ev,cd,cd2]; rfl
    ·have ny:y4≠y5:=fun e=>c (by
      rw [← e] at hy5
      exact (List.getElem?_inj (List.getElem?_eq_some_iff.mp hy4).1 ho.nd).mp (hy4.trans hy5.symm))
     rw [decide_eq_false (fun e=>ny (by injection e))]
     refine iteT (iteT (bad _ G5 ?_))
     unfold alkB
     rw [l1,l2,if_neg c]
 rintro σ H3 ⟨g3,ok3,f3,f4,f5,f6,rfl⟩
 rw [List.length_map,el,List.take_length] at ok3
 have z:=q _ g3
 have e:alkA os.length r1 r2 ps=true:=List.all_eq_true.mpr ok3
 rw [e] at z
 exact z
end
end K42
namespace K42
open PySem L2 Sen
section
variable {P:Program} {w:World} {K:PySem.W.Frag} {mg:Str->Option Value} {base:Heap} {a:Ad} {k:Nat}
theorem ok_law_formed42 (T:Txt P w K mg a) (zy5:FnOk P w K mg base CX0 k a.zi5 a.zi6 ["found"] spWhole):FnOk P w K mg base CX0 (k + 1) a.zk9 a.zl0 ["found", "first", "second"] spFormed42:=by
 refine T.zq9.ok zv7 (fun vs H Q E h=>?_) (fun cdv A outer s H vs Q E hr h=>?_)
 ·obtain ⟨l,ts,ps,i,j,rfl,_⟩:=h
  rfl
 obtain ⟨l,ts,ps,i,j,rfl,hl,hp,hd0,q⟩:=h
 refine ⟨_,(pss_cons (ps_if (PW.pt (pw_or (pt_not (pt_truth (pe_callB call_isinst rfl T.n_isinstance bt_isinstance (pa_cons (pv 0) (pa_cons (pe_bltn (v:=.ty "list") rfl T.n_list bt_list rfl) pa_nil))) (fun _=>rfl))) (pw_or1 (pt_cmpR (op_neD rfl (hu8 hr)) (pe_slice sl_list (pv 0) po_none (po_some pe_int)) (pe_lst (pa_cons (pe_tup (pa_cons (pv 1) (pa_cons (pv 2) pa_nil))) pa_nil)) (nomark _))))) (pss_one (ps_ret pe_bl)) pss_nil)
   (pss_cons (ps_for PassesOwn.never rfl (pi_list (pv 0)) (pg_name (i:=3) zv7.nd rfl (Or.inl rfl)) (pss_one (ps_if (PW.pt (pw_or (pt_not (pt_truth (pe_callB call_isinst rfl T.n_isinstance bt_isinstance (pa_cons (pv 3) (pa_cons (pe_bltn (v:=.ty "tuple") rfl T.n_tuple bt_tuple rfl) pa_nil))) (fun _=>rfl))) (pw_or (pt_cmpR op_ne (pe_callB call_len_seq rfl T.n_len bt_len (pa_cons (pv 3) pa_nil)) pe_int (nomark _)) (pw_or (pt_not (pt_truth (pe_call zy5 hr rfl T.m_x_law_whole T.zn0.2 T.b_x_law_whole .nil pass0 (pa_cons (pe_ix ix_tup (pv 3) pe_int (fun _ _=>rfl)) pa_nil)) (fun _=>rfl))) (pw_or1 (pt_not (pt_truth (pe_call zy5 hr rfl T.m_x_law_whole T.zn0.2 T.b_x_law_whole .nil pass0 (pa_cons (pe_ix ix_tup (pv 3) pe_int (fun _ _=>rfl)) pa_nil)) (fun _=>rfl)))))))) (pss_one (ps_ret pe_bl)) pss_nil)))
   (pss_one (ps_ret pe_bl)))),?_⟩
 refine ⟨_,rfl,_,_,_,true,rfl,.lst hl,rfl,_,rfl,ite2 (fun z=>by cases z) (fun _=>?_)⟩
 obtain ⟨t0,ts',ps',rfl,rfl,ht0⟩:∃ (t0:Addr) (ts':List Addr) (ps':List (Nat × Nat)),ts=t0 :: ts'/\ps=(i,j) :: ps'/\PairP H t0 (i,j):=by
  match ts,ps,hp,hd0 with
  | [],_,.nil,e=>cases e
  | t0 :: ts',p0 :: ps',.cons h r,e =>
   have e:p0=(i,j):=Option.some.inj e
   subst e
   exact ⟨t0,ts',ps',rfl,rfl,h⟩
 refine ⟨_,rfl,1,rfl,l,_,rfl,SqL.of hl,fun q1 hq1=>?_⟩
 have ec:cutV ((t0 :: ts').map V.ref) none (some 1)=[V.ref t0]:=(cut_head (n:=1)).trans rfl
 have g1:=Same.new hq1 (.lst (cutV ((t0 :: ts').map V.ref) none (some 1)))
 have e1:upd H q1 (.lst (cutV ((t0 :: ts').map V.ref) none (some 1))) q1=some (.lst [V.ref t0]):=by rw [upd_same,ec]
 generalize upd H q1 (.lst (cutV ((t0 :: ts').map V.ref) none (some 1)))=H1 at g1 e1
 refine ⟨_,rfl,_,rfl,by show 2<=sizeLine; decide,fun t2 ht2=>⟨by show 1<=sizeLine; decide,fun q2 hq2=>?_⟩⟩
 have g2:=Same.new ht2 (.tup [V.int (i:Nat),V.int (j:Nat)])
 have e2:PairP (upd H1 t2 (.tup [V.int (i:Nat),V.int (j:Nat)])) t2 (i,j):=upd_same
 generalize upd H1 t2 (.tup [V.int (i:Nat),V.int (j:Nat)])=H2 at g2 e2 hq2
 have g3:=Same.new hq2 (.lst [V.ref t2])
 have G:=g1.trans (g2.trans g3)
 refine ⟨true,(fun z=>by cases z.1),eq_ll (SqL.of (g3 _ _ (g2 _ _ e1))) (SqL.of upd_same) rfl (fun m x y hx hy=>?_),_,rfl,iteF ?_⟩
 ·match m,hx,hy with
  | 0,hx,hy =>
   cases hx; cases hy
   have z:=eq_pairB (K:=K) (n:=6) (show PairP (upd H2 q2 (.lst [V.ref t2])) t0 (i,j) from G _ _ ht0) (g3 _ _ e2)
   rw [decide_eq_true rfl] at z
   exact z
 generalize upd H2 q2 (.lst [V.ref t2])=H3 at g3 G
 refine ⟨_,rfl,l,rfl,⟨_,SqL.of (G _ _ hl)⟩,?_⟩
 refine for_list (xs:=(t0 :: ts').map V.ref) (fun m σ H'=>Same H3 H'/\∃ f3:Option V,σ=[some (.ref l),some (.int (i:Nat)),some (.int (j:Nat)),f3]) ⟨Same.refl _,_,rfl⟩ (fun m σ H' _ ⟨g,_⟩=>SqL.of (g _ _ (G _ _ hl))) ?_ ?_
 ·rintro m x σ H' hx ⟨g,f3,rfl⟩
  rw [List.getElem?_map] at hx
  cases ht:(t0 :: ts')[m]? with
  | none=>rw [ht] at hx; cases hx
  | some t =>
   rw [ht] at hx
   cases hx
   obtain ⟨w,ew,tw⟩:=pd_at hp ht
   have tw':H' t=some (.tup [.int (w.1:Nat),.int (w.2:Nat)]):=g _ _ (G _ _ tw)
   refine ⟨_,rfl,_,_,_,true,rfl,.tup tw',rfl,_,rfl,ite2 (fun z=>by cases z) (fun _=>?_)⟩
   refine ⟨_,rfl,t,_,rfl,.inr (SqT.of tw'),rfl,_,rfl,iteNe2 rfl ?_⟩
   refine ⟨_,rfl,t,_,_,_,rfl,rfl,SqT.of tw',at0,_,rfl,_,rfl,iteF ?_⟩
   refine ⟨_,rfl,t,_,_,_,rfl,rfl,SqT.of tw',at1,_,rfl,_,rfl,iteF ?_⟩
   exact ⟨g,_,rfl⟩
 ·rintro σ H' ⟨g,f3,rfl⟩
  exact q _ (G.trans g)
theorem ok_law_turn42 (T:Txt P w K mg a)  : FnOk P w K mg base CX0 (k + 1) a.zk2 a.zk3 ["pairs", "cell", "one", "two"] spTurn42:=by
 refine T.zv4.ok zy4 (fun vs H Q E h=>?_) (fun cdv A outer s H vs Q E hr h=>?_)
 ·obtain ⟨l,c,s1,s2,ts,ws,H0,rfl,_⟩:=h
  rfl
 obtain ⟨l,c,s1,s2,ts,ws,H0,rfl,s10,s20,g0,fl,hl,hp,hb,n9,q⟩:=h
 refine ⟨_,(pss_cons (ps_if (PW.pt (pw_and (pt_cmpR op_eq (pe_op op_mod (pv 1) pe_int) pe_int (nomark _)) (pw_and1 (pt_cmpR op_gt (pe_callB call_len_seq rfl T.n_len bt_len (pa_cons (pv 0) pa_nil)) pe_int (nomark _))))) (pss_one (ps_expr (pe_bm PySem.F.plainAttrs_list PySem.F.slot_list_pop PySem.F.type_list_pop mt_popAt (pv 0) (pa_cons (pe_op op_mod (pe_op op_fdiv (pv 1) pe_int) (pe_callB call_len_seq rfl T.n_len bt_len (pa_cons (pv 0) pa_nil))) pa_nil)))) pss_nil)
   (pss_cons (ps_if (pt_cmpR op_eq (pe_op op_mod (pv 1) pe_int) pe_int (nomark _)) (pss_one (ps_expr (pe_bm PySem.F.plainAttrs_list PySem.F.slot_list_append PySem.F.type_list_append mt_append (pv 0) (pa_cons (pe_tup (pa_cons (pe_op op_mod (pe_op op_fdiv (pv 1) pe_int) (pv 2)) (pa_cons (pe_op op_mod (pe_op op_fdiv (pv 1) pe_int) (pv 3)) pa_nil))) pa_nil)))) pss_nil)
   (pss_cons (ps_if (PW.pt (pw_and (pt_cmpR op_eq (pe_op op_mod (pv 1) pe_int) pe_int (nomark _)) (pw_and1 (pt_cmpR op_gt (pe_callB call_len_seq rfl T.n_len bt_len (pa_cons (pv 0) pa_nil)) pe_int (nomark _))))) (pss_cons (ps_set (i:=4) zy4.nd rfl (Or.inl rfl) (pe_op op_mod (pe_op op_fdiv (pv 1) pe_int) (pe_callB call_len_seq rfl T.n_len bt_len (pa_cons (pv 0) pa_nil))))
   (pss_one (ps_asg (pe_tup (pa_cons (pe_ix ix_tup (pe_ix ix_list (pv 0) (pv 4) (fun _ _=>rfl)) pe_int (fun _ _=>rfl)) (pa_cons (pe_op op_mod (pe_op op_fdiv (pv 1) pe_int) (pv 3)) pa_nil))) (pg_sub (pv 0) (pv 4) set_list)))) pss_nil)
   (pss_one (ps_if (pt_cmpR op_eq (pe_op op_mod (pv 1) pe_int) pe_int (nomark _)) (pss_one (ps_expr (pe_bm0 PySem.F.plainAttrs_list PySem.F.slot_list_reverse PySem.F.type_list_reverse mt_reverse (pv 0)))) pss_nil))))),?_⟩
 obtain ⟨zs,rfl,rfl,hz⟩:=pd_zs hp
 have hl:H l=some (.lst (zs.map fun z=>V.ref z.1)):=by rw [hl,List.map_map]; rfl
 rw [List.length_map] at n9 q
 have lm:(zs.map fun z=>V.ref z.1).length=zs.length:=List.length_map _
 have hb:∀ z∈zs,z.2.1 < s1/\z.2.2 < s2:=fun z h=>hb _ (List.mem_map.mpr ⟨z,h,rfl⟩)
 have fin:∀ (H':Hp) (zs':List (Addr × Nat × Nat)),Same H0 H'->(∀ x o,H x=some o->x≠l->H' x=some o)->H' l=some (.lst (zs'.map fun z=>V.ref z.1))->(∀ z∈zs',PairP H' z.1 z.2/\z.2.1 < s1/\z.2.2 < s2)->zs'.length<=zs.length + 1->Q .non H':=fun H' zs' g k e h len=>q H' (zs'.map (·.1)) (zs'.map (·.2)) g k (by rw [List.map_map]; exact e) (pd_maps fun z hz=>(h z hz).1) (fun p hp=>by obtain ⟨z,hz,rfl⟩:=List.mem_map.mp hp; exact (h z hz).2) (by rw [List.length_map]; exact len)
 have ntl:∀ z∈zs,z.1≠l:=fun z h e=>by have:=hz z h; unfold PairP at this; rw [e,hl] at this; cases this
 have sl:zs.length < sizeLine:=small1000 (by omega)
 have keep:∀ (H9:Hp) (o:HO),Same H H9->∀ x o',H x=some o'->x≠l->upd H9 l o x=some o':=fun H9 o g x o' e ne=>by rw [upd_ne ne]; exact g _ _ e
 have p4:(0:Int) < 4:=by decide
 have c0:0<=c % 4:=Int.emod_nonneg _ (by decide)
 have c4:c % 4 < 4:=Int.emod_lt_of_pos _ (by decide)
 have sk:∀ {m:Int} {A B:Prop},c % 4≠m->B->(scal (V.int (c % 4)) (V.int m)=true/\∃ k,V.bl (decide (V.int (c % 4)=V.int m))=V.bl k/\if k=true then A else B):=fun ne b=>⟨rfl,_,rfl,by rw [decide_eq_false (fun e=>ne (by injection e)),if_neg Bool.false_ne_true]; exact b⟩
 have tk:∀ {m:Int} {A B:Prop},c % 4=m->A->(scal (V.int (c % 4)) (V.int m)=true/\∃ k,V.bl (decide (V.int (c % 4)=V.int m))=V.bl k/\if k=true then A else B):=fun e b=>⟨rfl,_,rfl,by rw [decide_eq_true (by rw [e]),if_pos rfl]; exact b⟩
 have stay:Q .non H:=fin H zs g0 (fun x o e _=>e) hl (fun z h=>⟨hz z h,hb z h⟩) (by omega)
 rcases (by omega:c % 4=0\/c % 4=1\/c % 4=2\/c % 4=3) with e | e | e | e
 ·skip
  refine ⟨_,rfl,_,4,rfl,rfl,p4,tk e ?_⟩
  refine ⟨_,rfl,l,_,rfl,.inl (SqL.of hl),_,_,rfl,rfl,_,rfl,ite2 (fun cc=>?_) (fun cc=>?_)⟩
  ·have lp:0 < zs.length:=by
    have:=of_decide_eq_true cc
    rw [lm] at this
    omega
   obtain ⟨at',eat,hm⟩:=nat_mod (c:=c / 4) (n:=zs.length) lp
   have hlt:=hm
   have ez:zs[at']?=some zs[at']:=List.getElem?_eq_getElem hlt
   have mz:zs[at']∈zs:=List.getElem_mem hlt
   generalize zs[at']=z0 at ez mz
   have em:(zs.map fun z=>V.ref z.1)[at']?=some (V.ref z0.1):=by rw [List.getElem?_map,ez]; rfl
   have l63:zs.length < 2 ^ 63:=by omega
   refine ⟨_,rfl,.inl ⟨rfl,_,SqL.of hl⟩,_,rfl,_,4,rfl,rfl,⟨by decide,by decide⟩,_,rfl,l,_,rfl,.inl (SqL.of hl),_,_,rfl,rfl,(by rw [lm]; omega),?_⟩
   dsimp only
   rw [lm,eat]
   refine ⟨l,_,_,_,_,rfl,rfl,hl,by omega,by omega,(ixN_seq (ixN_nat (by rw [lm]; exact hlt))).1,em,?_⟩
   refine ⟨_,rfl,_,4,rfl,rfl,p4,sk (by omega) ?_⟩
   refine ⟨_,rfl,_,4,rfl,rfl,p4,sk (by omega) (iteF ?_)⟩
   refine ⟨_,rfl,_,4,rfl,rfl,p4,sk (by omega) ?_⟩
   refine fin _ (zs.eraseIdx at') (g0.over fl _) (keep _ _ (Same.refl _)) (by rw [upd_same,map_ers]) (fun z h=>?_) (by have:=List.length_eraseIdx_le zs at'; omega)
   have h:=List.mem_of_mem_eraseIdx h
   exact ⟨by unfold PairP; rw [upd_ne (ntl z h)]; exact hz z h,hb z h⟩
  ·skip
   refine ⟨_,rfl,_,4,rfl,rfl,p4,sk (by omega) ?_⟩
   refine ⟨_,rfl,_,4,rfl,rfl,p4,sk (by omega) (iteF ?_)⟩
   refine ⟨_,rfl,_,4,rfl,rfl,p4,sk (by omega) ?_⟩
   exact stay
 ·skip
  refine ⟨_,rfl,_,4,rfl,rfl,p4,sk (by omega) (iteF ?_)⟩
  refine ⟨_,rfl,_,4,rfl,rfl,p4,tk e ?_⟩
  obtain ⟨x,ex,hx⟩:=nat_mod (c:=c / 4) (n:=s1) s10
  obtain ⟨y,ey,hy⟩:=nat_mod (c:=c / 300) (n:=s2) s20
  refine ⟨_,rfl,.inl ⟨rfl,_,SqL.of hl⟩,_,rfl,_,4,rfl,rfl,⟨by decide,by decide⟩,_,rfl,_,(s1:Nat),rfl,rfl,(by show (0:Int) < (s1:Int); omega),_,rfl,_,300,rfl,rfl,⟨by decide,by decide⟩,_,rfl,_,(s2:Nat),rfl,rfl,(by show (0:Int) < (s2:Int); omega),?_⟩
  dsimp only
  rw [ex,ey]
  refine ⟨by show 2<=sizeLine; decide,fun t ht=>?_⟩
  have g1:=Same.new ht (.tup [V.int (x:Nat),V.int (y:Nat)])
  have ntl':t≠l:=fun e=>by rw [e,hl] at ht; cases ht
  refine ⟨l,_,_,rfl,rfl,g1 _ _ hl,by rw [lm]; exact sl,?_⟩
  refine ⟨_,rfl,_,4,rfl,rfl,p4,sk (by omega) (iteF ?_)⟩
  refine ⟨_,rfl,_,4,rfl,rfl,p4,sk (by omega) ?_⟩
  refine fin _ (zs ++ [(t,x,y)]) ((g0.trans g1).over fl _) (keep _ _ g1) (by rw [upd_same,List.map_append]; rfl) (fun z h=>?_) (by rw [List.length_append]; exact Nat.le_refl _)
  rcases List.mem_append.mp h with h | h
  ·exact ⟨by unfold PairP; rw [upd_ne (ntl z h)]; exact g1 _ _ (hz z h),hb z h⟩
  ·rw [List.mem_singleton.mp h]
   exact ⟨by unfold PairP; rw [upd_ne ntl']; exact upd_same,hx,hy⟩
 ·skip
  refine ⟨_,rfl,_,4,rfl,rfl,p4,sk (by omega) (iteF ?_)⟩
  refine ⟨_,rfl,_,4,rfl,rfl,p4,sk (by omega) ?_⟩
  refine ⟨_,rfl,_,4,rfl,rfl,p4,tk e ?_⟩
  refine ⟨_,rfl,l,_,rfl,.inl (SqL.of hl),_,_,rfl,rfl,_,rfl,ite2 (fun cc=>?_) (fun cc=>?_)⟩
  ·have lp:0 < zs.length:=by
    have:=of_decide_eq_true cc
    rw [lm] at this
    omega
   obtain ⟨at',eat,hm⟩:=nat_mod (c:=c / 4) (n:=zs.length) lp
   have hlt:=hm
   have ez:zs[at']?=some zs[at']:=List.getElem?_eq_getElem hlt
   have mz:zs[at']∈zs:=List.getElem_mem hlt
   generalize zs[at']=z0 at ez mz
   have em:(zs.map fun z=>V.ref z.1)[at']?=some (V.ref z0.1):=by rw [List.getElem?_map,ez]; rfl
   have l63:zs.length < 2 ^ 63:=by omega
   obtain ⟨y,ey,hy⟩:=nat_mod (c:=c / 300) (n:=s2) s20
   refine ⟨_,rfl,_,4,rfl,rfl,⟨by decide,by decide⟩,_,rfl,l,_,rfl,.inl (SqL.of hl),_,_,rfl,rfl,(by rw [lm]; omega),?_⟩
   dsimp only
   rw [lm,eat]
   refine ⟨_,rfl,_,rfl,l,_,_,_,rfl,rfl,SqL.of hl,atI_nat em,z0.1,_,0,_,rfl,rfl,SqT.of (hz _ mz),at0,?_⟩
   refine ⟨_,rfl,_,300,rfl,rfl,⟨by decide,by decide⟩,_,rfl,_,(s2:Nat),rfl,rfl,(by show (0:Int) < (s2:Int); omega),?_⟩
   dsimp only
   rw [ey]
   refine ⟨by show 2<=sizeLine; decide,fun t ht=>?_⟩
   have g1:=Same.new ht (.tup [V.int (z0.2.1:Nat),V.int (y:Nat)])
   have ntl':t≠l:=fun e=>by rw [e,hl] at ht; cases ht
   refine ⟨_,rfl,_,rfl,l,_,_,_,rfl,rfl,g1 _ _ hl,ixN_nat (by rw [lm]; exact hlt),?_⟩
   refine ⟨_,rfl,_,4,rfl,rfl,p4,sk (by omega) ?_⟩
   refine fin _ (zs.set at' (t,z0.2.1,y)) ((g0.trans g1).over fl _) (keep _ _ g1) (by rw [upd_same,List.map_set]) (fun z h=>?_) (by rw [List.length_set]; omega)
   rcases List.mem_or_eq_of_mem_set h with h | h
   ·exact ⟨by unfold PairP; rw [upd_ne (ntl z h)]; exact g1 _ _ (hz z h),hb z h⟩
   ·rw [h]
    exact ⟨by unfold PairP; rw [upd_ne ntl']; exact upd_same,(hb _ mz).1,hy⟩
  ·skip
   refine ⟨_,rfl,_,4,rfl,rfl,p4,sk (by omega) ?_⟩
   exact stay
 ·skip
  refine ⟨_,rfl,_,4,rfl,rfl,p4,sk (by omega) (iteF ?_)⟩
  refine ⟨_,rfl,_,4,rfl,rfl,p4,sk (by omega) ?_⟩
  refine ⟨_,rfl,_,4,rfl,rfl,p4,sk (by omega) (iteF ?_)⟩
  refine ⟨_,rfl,_,4,rfl,rfl,p4,tk e ?_⟩
  refine ⟨_,rfl,.inl ⟨rfl,_,SqL.of hl⟩,l,_,rfl,rfl,hl,?_⟩
  refine fin _ zs.reverse (g0.over fl _) (keep _ _ (Same.refl _)) (by rw [upd_same,List.map_reverse]) (fun z h=>?_) (by rw [List.length_reverse]; omega)
  have h:=List.mem_reverse.mp h
  exact ⟨by unfold PairP; rw [upd_ne (ntl z h)]; exact hz z h,hb z h⟩
end
end K42
namespace K42
open PySem L2 Sen
section
variable {P:Program} {w:World} {K:PySem.W.Frag} {mg:Str->Option Value} {base:Heap} {a:Ad} {k:Nat}
theorem ok_law_forged42 (T:Txt P w K mg a) (zc7:FnOk P w K mg base CX0 k a.zj9 a.zk ["self", "sentence"] (spBookEnter (BookAt a.za))) (zd7:FnOk P w K mg base CX0 k a.zh1 a.zh2 ["book", "two", "pairs"] (spAreAlike a.za K)):FnOk P w K mg base CX0 (k + 1) a.ze5 a.ze6 ["book", "two", "order"] (spForged42 a.za K):=by
 refine T.zj0.ok za9 (fun vs H Q E h=>?_) (fun cdv A outer s H vs Q E hr h=>?_)
 ·obtain ⟨b1,b2,ol,os,rs1,rs2,F1,F2,H0,rfl,_⟩:=h
  rfl
 obtain ⟨b1,b2,ol,os,rs1,rs2,F1,F2,H0,rfl,W0,hol,n2,q⟩:=h
 have L:=bookLike a.za
 have ho:=L.ord W0.k1
 obtain ⟨x,hx⟩:∃ x,os[0]?=some x:=⟨_,List.getElem?_eq_getElem (by omega)⟩
 obtain ⟨y,hy⟩:∃ y,os[1]?=some y:=⟨_,List.getElem?_eq_getElem (by omega)⟩
 have ex:ix os x=0:=by
  obtain ⟨s1,s2,s3⟩:=ix_spec (List.mem_of_getElem? hx)
  exact (List.getElem?_inj s2 ho.nd).mp (s3.trans hx.symm)
 have ey:ix os y=1:=by
  obtain ⟨s1,s2,s3⟩:=ix_spec (List.mem_of_getElem? hy)
  exact (List.getElem?_inj s2 ho.nd).mp (s3.trans hy.symm)
 have ax:atI (os.map V.str) 0=some (.str x):=atI_nat (j:=0) (by rw [List.getElem?_map,hx]; rfl)
 have ay:atI (os.map V.str) 1=some (.str y):=atI_nat (j:=1) (by rw [List.getElem?_map,hy]; rfl)
 have rm:∀ {rs:List Bdd.Rm} (B:Bdd.Bk os.length rs) {m t:Nat},t < os.length->Bdd.Means rs m (fun r=>r t)->rs[m]?=some (some (t,0,1)):=fun {rs} B {m t} tn M=>by
  have l2:=Bdd.len2 B
  exact room_by B M.1 (by omega) (by omega) tn (by rw [Bdd.lev_no B]; omega) (by rw [Bdd.lev_yes B]; omega) (by decide) fun r=>by rw [M.2,Bdd.yes_no B,Bdd.yes_yes B]; show r t=_; cases r t <;> rfl
 have rn:∀ {rs:List Bdd.Rm} (B:Bdd.Bk os.length rs) {m t:Nat},t < os.length->Bdd.Means rs m (fun r=>!r t)->rs[m]?=some (some (t,1,0)):=fun {rs} B {m t} tn M=>by
  have l2:=Bdd.len2 B
  exact room_by B M.1 (by omega) (by omega) tn (by rw [Bdd.lev_yes B]; omega) (by rw [Bdd.lev_no B]; omega) (by decide) fun r=>by rw [M.2,Bdd.yes_no B,Bdd.yes_yes B]; show (!r t)=_; cases r t <;> rfl
 refine cut0 ?_
 refine cutK (fun σ H=>∃ (rs1 rs2:List Bdd.Rm) (F1 F2:Foot) (k1 k2 k3 k4:Nat) (f7:Option V),TwoB a.za H0 H b1 b2 os 2000002 rs1 F1 rs2 F2/\rs1[k1]?=some (some (0,0,1))/\rs2[k2]?=some (some (0,0,1))/\rs2[k3]?=some (some (1,0,1))/\rs2[k4]?=some (some (0,1,0))/\σ=[some (.ref b1),some (.ref b2),some (.ref ol),some (.int (k1:Nat)),some (.int (k2:Nat)),some (.int (k3:Nat)),some (.int (k4:Nat)),f7]) (fun t z=>(pss_cons (ps_set (i:=3) za9.nd rfl (Or.inr rfl) (pe_meth (pv 0) T.c_Book T.e_Book_enter zc7 hr T.b_Book_enter .nil pass0 (pa_cons (pe_tup (pa_cons pe_str (pa_cons (pe_ix ix_list (pv 2) pe_int (fun _ _=>rfl)) pa_nil))) pa_nil)))
   (pss_cons (ps_set (i:=4) za9.nd rfl (Or.inl rfl) (pe_meth (pv 1) T.c_Book T.e_Book_enter zc7 hr T.b_Book_enter .nil pass0 (pa_cons (pe_tup (pa_cons pe_str (pa_cons (pe_ix ix_list (pv 2) pe_int (fun _ _=>rfl)) pa_nil))) pa_nil)))
   (pss_cons (ps_set (i:=5) za9.nd rfl (Or.inl rfl) (pe_meth (pv 1) T.c_Book T.e_Book_enter zc7 hr T.b_Book_enter .nil pass0 (pa_cons (pe_tup (pa_cons pe_str (pa_cons (pe_ix ix_list (pv 2) pe_int (fun _ _=>rfl)) pa_nil))) pa_nil)))
   (pss_cons (ps_set (i:=6) za9.nd rfl (Or.inl rfl) (pe_meth (pv 1) T.c_Book T.e_Book_enter zc7 hr T.b_Book_enter .nil pass0 (pa_cons (pe_tup (pa_cons pe_str (pa_cons (pe_tup (pa_cons pe_str (pa_cons (pe_ix ix_list (pv 2) pe_int (fun _ _=>rfl)) pa_nil))) pa_nil))) pa_nil)))
   z))))) ?_ ?_
 ·rintro u hu σ H ⟨rfl,rfl⟩
  obtain ⟨dx0,fs0,hins0,hm0⟩:=L.ins W0.k1
  refine ⟨_,rfl,b1,dx0,fs0,rfl,hins0,hm0 _ (by decide +kernel),_,rfl,ol,_,0,_,rfl,rfl,W0.same.seq hol,ax,by show 2<=sizeLine; decide,fun p1 hp1=>?_⟩
  have g1:=Same.new hp1 (.tup [.str "mark", .str x])
  have W1:=W0.new g1
  refine ⟨b1,p1,os,rs1,F1,.mk x,rfl,W1.k1,Nat.le_trans W1.len1 (by decide),upd_same,List.mem_of_getElem? hx,by show 1<=200; decide,by show 1<=24; decide,fun k1 ra Fa Ha awa tua hBa nfa gra hka hya hba=>?_⟩
  obtain ⟨rb,Fb,Wa,_⟩:=W1.symm.grow awa tua hBa nfa gra hba
  have M1:Bdd.Means ra k1 (fun r=>r 0):=⟨hka,fun r=>by rw [hya]; show r (ix os x)=r 0; rw [ex]⟩
  clear awa tua nfa hya
  obtain ⟨dx1,fs1,hins1,hm1⟩:=L.ins Wa.k1
  refine ⟨_,rfl,b2,dx1,fs1,rfl,hins1,hm1 _ (by decide +kernel),_,rfl,ol,_,0,_,rfl,rfl,Wa.same.seq hol,ax,by show 2<=sizeLine; decide,fun p2 hp2=>?_⟩
  have g2:=Same.new hp2 (.tup [.str "mark", .str x])
  have W2:=(Wa.new g2).symm
  refine ⟨b2,p2,os,rb,Fb,.mk x,rfl,W2.k2,Nat.le_trans W2.len2 (by decide),upd_same,List.mem_of_getElem? hx,by show 1<=200; decide,by show 1<=24; decide,fun k2 rc Fc Hc awc tuc hBc nfc grc hkc hyc hbc=>?_⟩
  obtain ⟨rd,Fd,Wc,grd⟩:=W2.grow awc tuc hBc nfc grc hbc
  have M2:Bdd.Means rc k2 (fun r=>r 0):=⟨hkc,fun r=>by rw [hyc]; show r (ix os x)=r 0; rw [ex]⟩
  have M1:=M1.grown (L.bk W2.k1) grd
  clear awc tuc nfc hyc
  obtain ⟨dx2,fs2,hins2,hm2⟩:=L.ins Wc.k2
  refine ⟨_,rfl,b2,dx2,fs2,rfl,hins2,hm2 _ (by decide +kernel),_,rfl,ol,_,1,_,rfl,rfl,Wc.same.seq hol,ay,by show 2<=sizeLine; decide,fun p3 hp3=>?_⟩
  have g3:=Same.new hp3 (.tup [.str "mark", .str y])
  have W3:=Wc.new g3
  refine ⟨b2,p3,os,rc,Fc,.mk y,rfl,W3.k2,Nat.le_trans W3.len2 (by decide),upd_same,List.mem_of_getElem? hy,by show 1<=200; decide,by show 1<=24; decide,fun k3 re Fe He awe tue hBe nfe gre hke hye hbe=>?_⟩
  obtain ⟨rf,Ff,We,grf⟩:=W3.grow awe tue hBe nfe gre hbe
  have M3:Bdd.Means re k3 (fun r=>r 1):=⟨hke,fun r=>by rw [hye]; show r (ix os y)=r 1; rw [ey]⟩
  have M1:=M1.grown (L.bk W3.k1) grf
  have M2:=M2.grown (L.bk W3.k2) gre
  clear awe tue nfe hye
  obtain ⟨dx3,fs3,hins3,hm3⟩:=L.ins We.k2
  refine ⟨_,rfl,b2,dx3,fs3,rfl,hins3,hm3 _ (by decide +kernel),_,rfl,ol,_,0,_,rfl,rfl,We.same.seq hol,ax,by show 2<=sizeLine; decide,fun p4 hp4=>⟨by show 2<=sizeLine; decide,fun p5 hp5=>?_⟩⟩
  have g4:=Same.new hp4 (.tup [.str "mark", .str x])
  have g5:=Same.new hp5 (.tup [.str "not", .ref p4])
  have W5:=We.new (g4.trans g5)
  refine ⟨b2,p5,os,re,Fe,.nt (.mk x),rfl,W5.k2,Nat.le_trans W5.len2 (by decide),⟨p4,upd_same,g5 _ _ upd_same⟩,List.mem_of_getElem? hx,by show 2<=200; decide,by show 2<=24; decide,fun k4 rg Fg Hg awg tug hBg nfg grg hkg hyg hbg=>?_⟩
  obtain ⟨rh,Fh,Wg,grh⟩:=W5.grow awg tug hBg nfg grg hbg
  have M4:Bdd.Means rg k4 (fun r=>!r 0):=⟨hkg,fun r=>by rw [hyg]; show (!r (ix os x))=!r 0; rw [ex]⟩
  have M1:=M1.grown (L.bk W5.k1) grh
  have M2:=M2.grown (L.bk W5.k2) grg
  have M3:=M3.grown (L.bk W5.k2) grg
  have Bg:=L.bk Wg.k2
  exact hu _ _ ⟨rh,rg,Fh,Fg,k1,k2,k3,k4,_,⟨Wg.same,Wg.aw1,Wg.aw2,Wg.k1,Wg.k2,Wg.sep,Nat.le_trans Wg.len1 (by decide),Nat.le_trans Wg.len2 (by decide)⟩,rm (L.bk Wg.k1) (by omega) M1,rm Bg (by omega) M2,rm Bg (by omega) M3,rn Bg (by omega) M4,rfl⟩
 refine cutK (fun σ H=>∃ (rs1 rs2:List Bdd.Rm) (F1 F2:Foot) (k1 k2 k3 k4:Nat) (tl:Addr),TwoB a.za H0 H b1 b2 os 2000002 rs1 F1 rs2 F2/\rs1[k1]?=some (some (0,0,1))/\rs2[k2]?=some (some (0,0,1))/\rs2[k3]?=some (some (1,0,1))/\rs2[k4]?=some (some (0,1,0))/\H0 tl=none/\¬ F1 tl/\¬ F2 tl/\H tl=some (.lst ([true,false,false].map V.bl))/\σ=[some (.ref b1),some (.ref b2),some (.ref ol),some (.int (k1:Nat)),some (.int (k2:Nat)),some (.int (k3:Nat)),some (.int (k4:Nat)),some (.ref tl)]) (fun t z=>(pss_cons (ps_setLC (tt:=tYes) (i:=7) za9.nd rfl (Or.inl rfl) (.inl rfl) (osc:=defScope zb8) (js:=[0,1,3]) rfl (by show LcOk (defScope zb8) _ "room" ["book", "two", "left"]; exact ⟨rfl,by decide +kernel,by decide +kernel,rfl,by decide +kernel,by decide +kernel,by decide +kernel⟩) rfl (pi_tup (pe_tup (pa_cons (pv 4) (pa_cons (pv 5) (pa_cons (pv 6) pa_nil))))) (by show ∀ j∈([0,1,3]:List Nat),j < 8; decide) (fun cl C s₂ H₂ fp pins s' σ' H' Q I h=>wpAny_pure ⟨H',I,h⟩) (fun cl C s₂ H₂ fp=>(pe_call zd7 hr rfl T.m_are_alike_by T.zc4.2 T.b_are_alike_by .nil pass0 (pa_cons (pv 1) (pa_cons (pv 2) (pa_cons (pe_lst (pa_cons (pe_tup (pa_cons (pv 3) (pa_cons (pv 0) pa_nil))) (pa_cons (pe_tup (pa_cons pe_int (pa_cons pe_int pa_nil))) (pa_cons (pe_tup (pa_cons pe_int (pa_cons pe_int pa_nil))) pa_nil)))) pa_nil))))) rfl)
   z)) ?_ ?_
 ·rintro u hu σ H ⟨rs1,rs2,F1,F2,k1,k2,k3,k4,f7,W,h1,h2,h3,h4,rfl⟩
  have B1:=L.bk W.k1
  have B2:=L.bk W.k2
  have l1:=Bdd.len2 B1
  have l2:=Bdd.len2 B2
  have lk1:=(List.getElem?_eq_some_iff.mp h1).1
  have lk2:=(List.getElem?_eq_some_iff.mp h2).1
  have lk3:=(List.getElem?_eq_some_iff.mp h3).1
  have lk4:=(List.getElem?_eq_some_iff.mp h4).1
  have k10:k1≠0:=fun e=>by rw [e,B1.h0] at h1; cases h1
  have k11:k1≠1:=fun e=>by rw [e,B1.h1] at h1; cases h1
  refine ⟨_,rfl,_,rfl,_,rfl,by show 3<=sizeLine; decide,fun tp htp=>⟨tp,rfl,⟨_,SqT.of upd_same⟩,?_⟩⟩
  have j0:=Same.new htp (.tup [V.int (k2:Nat),V.int (k3:Nat),V.int (k4:Nat)])
  have e0:upd H tp (.tup [V.int (k2:Nat),V.int (k3:Nat),V.int (k4:Nat)]) tp=some (.tup [V.int (k2:Nat),V.int (k3:Nat),V.int (k4:Nat)]):=upd_same
  generalize upd H tp (.tup [V.int (k2:Nat),V.int (k3:Nat),V.int (k4:Nat)])=H8 at j0 e0
  have W8:=W.new j0
  refine lc_tup (xs:=[V.int (k2:Nat),V.int (k3:Nat),V.int (k4:Nat)]) (fun m ys H'=>Same H8 H'/\ys=([true,false,false].take m).map V.bl) ⟨Same.refl _,rfl⟩ (by show 3<=sizeLine; decide) ?_ ?_ (fun _ _ _ _ h q=>h _ _ q) ?_ ?_
  ·rintro m ys H' hm ⟨gg,rfl⟩
   exact ⟨SqT.of (gg _ _ e0),by rw [List.length_map,List.length_take]; omega⟩
  ·rintro m x0 ys H' hx0 ⟨gg,rfl⟩
   obtain ⟨z,bz,rfl,hz,hbz,tz⟩:∃ (z:Nat) (bz:Bool),x0=V.int (z:Nat)/\z < rs2.length/\alkB os.length rs1 rs2 [(k1,z),(0,0),(1,1)] (k1,z)=bz/\([true,false,false].take (m + 1)).map V.bl=([true,false,false].take m).map V.bl ++ [V.bl bz]:=by
    match m,hx0 with
    | 0,hx0=>cases hx0; exact ⟨k2,true,rfl,lk2,by rw [alk_rooms B1 B2 h1 h2]; simp,rfl⟩
    | 1,hx0=>cases hx0; exact ⟨k3,false,rfl,lk3,alk_ne B1 B2 h1 h3 (by decide),rfl⟩
    | 2,hx0=>cases hx0; exact ⟨k4,false,rfl,lk4,by rw [alk_rooms B1 B2 h1 h4]; simp [Ne.symm k10],rfl⟩
   have W9:=W8.new gg
   refine tyes (iteT ?_)
   refine ⟨_,rfl,_,rfl,_,rfl,_,rfl,by show 2<=sizeLine; decide,fun t1 ht1=>⟨by show 2<=sizeLine; decide,fun t2 ht2=>⟨by show 2<=sizeLine; decide,fun t3 ht3=>⟨by show 3<=sizeLine; decide,fun l3 hl3=>?_⟩⟩⟩⟩
   have j1:=Same.new ht1 (.tup [V.int (k1:Nat),V.int (z:Nat)])
   have d1:upd H' t1 (.tup [V.int (k1:Nat),V.int (z:Nat)]) t1=some (.tup [V.int (k1:Nat),V.int (z:Nat)]):=upd_same
   generalize upd H' t1 (.tup [V.int (k1:Nat),V.int (z:Nat)])=Ha at j1 d1 ht2 ht3 hl3
   have j2:=Same.new ht2 (.tup [V.int 0,V.int 0])
   have d2:upd Ha t2 (.tup [V.int 0,V.int 0]) t2=some (.tup [V.int 0,V.int 0]):=upd_same
   generalize upd Ha t2 (.tup [V.int 0,V.int 0])=Hb at j2 d2 ht3 hl3
   have j3:=Same.new ht3 (.tup [V.int 1,V.int 1])
   have d3:upd Hb t3 (.tup [V.int 1,V.int 1]) t3=some (.tup [V.int 1,V.int 1]):=upd_same
   generalize upd Hb t3 (.tup [V.int 1,V.int 1])=Hc at j3 d3 hl3
   have j4:=Same.new hl3 (.lst [V.ref t1,V.ref t2,V.ref t3])
   have gC:=j1.trans (j2.trans (j3.trans j4))
   have WC:=W9.new gC
   refine ⟨b1,b2,l3,os,rs1,rs2,F1,F2,[t1,t2,t3],[(k1,z),(0,0),(1,1)],rfl,WC.k1,WC.k2,SqL.of upd_same,.cons (j4 _ _ (j3 _ _ (j2 _ _ d1))) (.cons (j4 _ _ (j3 _ _ d2)) (.cons (j4 _ _ d3) .nil)),fun w hw=>?_,by show 3<=900; decide,fun H9 g9=>⟨gg.trans (gC.trans g9),?_⟩⟩
   ·simp only [List.mem_cons,List.not_mem_nil,or_false] at hw
    rcases hw with rfl | rfl | rfl
    ·exact ⟨lk1,hz⟩
    ·exact ⟨by show 0 < _; omega,by show 0 < _; omega⟩
    ·exact ⟨by show 1 < _; omega,by show 1 < _; omega⟩
   ·rw [tz]
    congr 2
    show V.bl (alkB os.length rs1 rs2 _ _ && (alkB os.length rs1 rs2 _ _ && (alkB os.length rs1 rs2 _ _ && true)))=_
    rw [hbz,alk_low B1 B2 (p:=(0,0)) (by decide) (by decide),alk_low B1 B2 (p:=(1,1)) (by decide) (by decide)]
    simp
  ·rintro σ' H5 Q1 Q2 hQ ⟨v1,z1,v2,z2,v3,z3,v4,z4,z5,z⟩
   refine ⟨v1,z1,v2,z2,v3,z3,v4,z4,z5,fun t1 ht1=>?_⟩
   obtain ⟨y1,y⟩:=z t1 ht1
   refine ⟨y1,fun t2 ht2=>?_⟩
   obtain ⟨x1,x⟩:=y t2 ht2
   refine ⟨x1,fun t3 ht3=>?_⟩
   obtain ⟨w1,w⟩:=x t3 ht3
   refine ⟨w1,fun l hl=>?_⟩
   obtain ⟨c1,c2,l',os',r1,r2,F',G',ts',ps',p1,p2,p3,p4,p5,p6,p7,p8⟩:=w l hl
   exact ⟨c1,c2,l',os',r1,r2,F',G',ts',ps',p1,p2,p3,p4,p5,p6,p7,fun H' g=>hQ _ _ (p8 H' g)⟩
  rintro ys H5 tl ⟨gg,rfl⟩ htl
  have W9:=W8.new gg
  have j1:=Same.new htl (.lst (([true,false,false].take [V.int (k2:Nat),V.int (k3:Nat),V.int (k4:Nat)].length).map V.bl))
  exact hu _ _ ⟨rs1,rs2,F1,F2,k1,k2,k3,k4,tl,W9.new j1,h1,h2,h3,h4,W9.same.free htl,L.fresh W9.k1 htl,L.fresh W9.k2 htl,upd_same,rfl⟩
 refine cutK (fun σ H=>∃ (rs1 rs2:List Bdd.Rm) (F1 F2:Foot) (k1 k2 k3 k4:Nat) (tl:Addr),TwoB a.za H0 H b1 b2 os 2000002 rs1 F1 rs2 F2/\rs1[k1]?=some (some (0,0,1))/\rs2[k2]?=some (some (0,0,1))/\rs2[k3]?=some (some (1,0,1))/\rs2[k4]?=some (some (0,1,0))/\H0 tl=none/\¬ F1 tl/\¬ F2 tl/\H tl=some (.lst ([true,false,false,false].map V.bl))/\σ=[some (.ref b1),some (.ref b2),some (.ref ol),some (.int (k1:Nat)),some (.int (k2:Nat)),some (.int (k3:Nat)),some (.int (k4:Nat)),some (.ref tl)]) (fun t z=>(pss_cons (ps_expr (pe_bm PySem.F.plainAttrs_list PySem.F.slot_list_append PySem.F.type_list_append mt_append (pv 7) (pa_cons (pe_call zd7 hr rfl T.m_are_alike_by T.zc4.2 T.b_are_alike_by .nil pass0 (pa_cons (pv 0) (pa_cons (pv 1) (pa_cons (pe_lst (pa_cons (pe_tup (pa_cons (pv 3) (pa_cons (pv 4) pa_nil))) (pa_cons (pe_tup (pa_cons pe_int (pa_cons pe_int pa_nil))) pa_nil))) pa_nil)))) pa_nil)))
   z)) ?_ ?_
 ·rintro u hu σ H ⟨rs1,rs2,F1,F2,k1,k2,k3,k4,tl,W,h1,h2,h3,h4,z0,n1,n2,etl,rfl⟩
  have B1:=L.bk W.k1
  have B2:=L.bk W.k2
  have l1:=Bdd.len2 B1
  have l2:=Bdd.len2 B2
  have lk1:=(List.getElem?_eq_some_iff.mp h1).1
  have lk2:=(List.getElem?_eq_some_iff.mp h2).1
  have lk3:=(List.getElem?_eq_some_iff.mp h3).1
  have lk4:=(List.getElem?_eq_some_iff.mp h4).1
  have k10:k1≠0:=fun e=>by rw [e,B1.h0] at h1; cases h1
  have k11:k1≠1:=fun e=>by rw [e,B1.h1] at h1; cases h1
  refine ⟨_,rfl,.inl ⟨rfl,_,SqL.of etl⟩,?_⟩
  refine ⟨_,rfl,_,rfl,_,rfl,_,rfl,by show 2<=sizeLine; decide,fun t1 ht1=>⟨by show 2<=sizeLine; decide,fun t2 ht2=>⟨by show 2<=sizeLine; decide,fun l3 hl3=>?_⟩⟩⟩
  have j1:=Same.new ht1 (.tup [V.int (k1:Nat),V.int (k2:Nat)])
  have d1:upd H t1 (.tup [V.int (k1:Nat),V.int (k2:Nat)]) t1=some (.tup [V.int (k1:Nat),V.int (k2:Nat)]):=upd_same
  generalize upd H t1 (.tup [V.int (k1:Nat),V.int (k2:Nat)])=Ha at j1 d1 ht2 hl3
  have j2:=Same.new ht2 (.tup [V.int 0,V.int 0])
  have d2:upd Ha t2 (.tup [V.int 0,V.int 0]) t2=some (.tup [V.int 0,V.int 0]):=upd_same
  generalize upd Ha t2 (.tup [V.int 0,V.int 0])=Hb at j2 d2 hl3
  have j4:=Same.new hl3 (.lst [V.ref t1,V.ref t2])
  have gC:=j1.trans (j2.trans j4)
  have WC:=W.new gC
  refine ⟨b1,b2,l3,os,rs1,rs2,F1,F2,[t1,t2],[(k1,k2),(0,0)],rfl,WC.k1,WC.k2,SqL.of upd_same,.cons (j4 _ _ (j2 _ _ d1)) (.cons (j4 _ _ d2) .nil),fun w hw=>?_,by show 2<=900; decide,fun H9 g9=>?_⟩
  ·simp only [List.mem_cons,List.not_mem_nil,or_false] at hw
   rcases hw with rfl | rfl <;> exact ⟨by dsimp only; omega,by dsimp only; omega⟩
  have val:alkA os.length rs1 rs2 [(k1,k2),(0,0)]=false:=by
   show (alkB os.length rs1 rs2 _ _ && (alkB os.length rs1 rs2 _ _ && true))=false
   rw [alk_rooms B1 B2 h1 h2]
   simp [Ne.symm k10,Ne.symm k11]
  rw [val]
  have gD:=gC.trans g9
  have etl9:=gD _ _ etl
  have W9:=W.new gD
  refine ⟨tl,_,_,rfl,rfl,etl9,by rw [List.length_map]; show 3 < sizeLine; decide,?_⟩
  exact hu _ _ ⟨rs1,rs2,F1,F2,k1,k2,k3,k4,tl,⟨W9.same.over z0 _,W9.aw1,W9.aw2,L.lst W9.k1 etl9 n1 _,L.lst W9.k2 etl9 n2 _,W9.sep,W9.len1,W9.len2⟩,h1,h2,h3,h4,z0,n1,n2,upd_same,rfl⟩
 refine cutK (fun σ H=>∃ (rs1 rs2:List Bdd.Rm) (F1 F2:Foot) (k1 k2 k3 k4:Nat) (tl:Addr),TwoB a.za H0 H b1 b2 os 2000002 rs1 F1 rs2 F2/\rs1[k1]?=some (some (0,0,1))/\rs2[k2]?=some (some (0,0,1))/\rs2[k3]?=some (some (1,0,1))/\rs2[k4]?=some (some (0,1,0))/\H0 tl=none/\¬ F1 tl/\¬ F2 tl/\H tl=some (.lst ([true,false,false,false,false].map V.bl))/\σ=[some (.ref b1),some (.ref b2),some (.ref ol),some (.int (k1:Nat)),some (.int (k2:Nat)),some (.int (k3:Nat)),some (.int (k4:Nat)),some (.ref tl)]) (fun t z=>(pss_cons (ps_expr (pe_bm PySem.F.plainAttrs_list PySem.F.slot_list_append PySem.F.type_list_append mt_append (pv 7) (pa_cons (pe_call zd7 hr rfl T.m_are_alike_by T.zc4.2 T.b_are_alike_by .nil pass0 (pa_cons (pv 0) (pa_cons (pv 1) (pa_cons (pe_lst (pa_cons (pe_tup (pa_cons (pv 3) (pa_cons (pv 4) pa_nil))) (pa_cons (pe_tup (pa_cons pe_int (pa_cons pe_int pa_nil))) pa_nil))) pa_nil)))) pa_nil)))
   z)) ?_ ?_
 ·rintro u hu σ H ⟨rs1,rs2,F1,F2,k1,k2,k3,k4,tl,W,h1,h2,h3,h4,z0,n1,n2,etl,rfl⟩
  have B1:=L.bk W.k1
  have B2:=L.bk W.k2
  have l1:=Bdd.len2 B1
  have l2:=Bdd.len2 B2
  have lk1:=(List.getElem?_eq_some_iff.mp h1).1
  have lk2:=(List.getElem?_eq_some_iff.mp h2).1
  have lk3:=(List.getElem?_eq_some_iff.mp h3).1
  have lk4:=(List.getElem?_eq_some_iff.mp h4).1
  have k10:k1≠0:=fun e=>by rw [e,B1.h0] at h1; cases h1
  have k11:k1≠1:=fun e=>by rw [e,B1.h1] at h1; cases h1
  refine ⟨_,rfl,.inl ⟨rfl,_,SqL.of etl⟩,?_⟩
  refine ⟨_,rfl,_,rfl,_,rfl,_,rfl,by show 2<=sizeLine; decide,fun t1 ht1=>⟨by show 2<=sizeLine; decide,fun t2 ht2=>⟨by show 2<=sizeLine; decide,fun l3 hl3=>?_⟩⟩⟩
  have j1:=Same.new ht1 (.tup [V.int (k1:Nat),V.int (k2:Nat)])
  have d1:upd H t1 (.tup [V.int (k1:Nat),V.int (k2:Nat)]) t1=some (.tup [V.int (k1:Nat),V.int (k2:Nat)]):=upd_same
  generalize upd H t1 (.tup [V.int (k1:Nat),V.int (k2:Nat)])=Ha at j1 d1 ht2 hl3
  have j2:=Same.new ht2 (.tup [V.int 1,V.int 1])
  have d2:upd Ha t2 (.tup [V.int 1,V.int 1]) t2=some (.tup [V.int 1,V.int 1]):=upd_same
  generalize upd Ha t2 (.tup [V.int 1,V.int 1])=Hb at j2 d2 hl3
  have j4:=Same.new hl3 (.lst [V.ref t1,V.ref t2])
  have gC:=j1.trans (j2.trans j4)
  have WC:=W.new gC
  refine ⟨b1,b2,l3,os,rs1,rs2,F1,F2,[t1,t2],[(k1,k2),(1,1)],rfl,WC.k1,WC.k2,SqL.of upd_same,.cons (j4 _ _ (j2 _ _ d1)) (.cons (j4 _ _ d2) .nil),fun w hw=>?_,by show 2<=900; decide,fun H9 g9=>?_⟩
  ·simp only [List.mem_cons,List.not_mem_nil,or_false] at hw
   rcases hw with rfl | rfl <;> exact ⟨by dsimp only; omega,by dsimp only; omega⟩
  have val:alkA os.length rs1 rs2 [(k1,k2),(1,1)]=false:=by
   show (alkB os.length rs1 rs2 _ _ && (alkB os.length rs1 rs2 _ _ && true))=false
   rw [alk_rooms B1 B2 h1 h2]
   simp [Ne.symm k10,Ne.symm k11]
  rw [val]
  have gD:=gC.trans g9
  have etl9:=gD _ _ etl
  have W9:=W.new gD
  refine ⟨tl,_,_,rfl,rfl,etl9,by rw [List.length_map]; show 4 < sizeLine; decide,?_⟩
  exact hu _ _ ⟨rs1,rs2,F1,F2,k1,k2,k3,k4,tl,⟨W9.same.over z0 _,W9.aw1,W9.aw2,L.lst W9.k1 etl9 n1 _,L.lst W9.k2 etl9 n2 _,W9.sep,W9.len1,W9.len2⟩,h1,h2,h3,h4,z0,n1,n2,upd_same,rfl⟩
 refine cutK (fun σ H=>∃ (rs1 rs2:List Bdd.Rm) (F1 F2:Foot) (k1 k2 k3 k4:Nat) (tl:Addr),TwoB a.za H0 H b1 b2 os 2000002 rs1 F1 rs2 F2/\rs1[k1]?=some (some (0,0,1))/\rs2[k2]?=some (some (0,0,1))/\rs2[k3]?=some (some (1,0,1))/\rs2[k4]?=some (some (0,1,0))/\H0 tl=none/\¬ F1 tl/\¬ F2 tl/\H tl=some (.lst ([true,false,false,false,false,false].map V.bl))/\σ=[some (.ref b1),some (.ref b2),some (.ref ol),some (.int (k1:Nat)),some (.int (k2:Nat)),some (.int (k3:Nat)),some (.int (k4:Nat)),some (.ref tl)]) (fun t z=>(pss_cons (ps_expr (pe_bm PySem.F.plainAttrs_list PySem.F.slot_list_append PySem.F.type_list_append mt_append (pv 7) (pa_cons (pe_call zd7 hr rfl T.m_are_alike_by T.zc4.2 T.b_are_alike_by .nil pass0 (pa_cons (pv 0) (pa_cons (pv 1) (pa_cons (pe_lst (pa_cons (pe_tup (pa_cons pe_int (pa_cons pe_int pa_nil))) (pa_cons (pe_tup (pa_cons pe_int (pa_cons pe_int pa_nil))) pa_nil))) pa_nil)))) pa_nil)))
   z)) ?_ ?_
 ·rintro u hu σ H ⟨rs1,rs2,F1,F2,k1,k2,k3,k4,tl,W,h1,h2,h3,h4,z0,n1,n2,etl,rfl⟩
  have B1:=L.bk W.k1
  have B2:=L.bk W.k2
  have l1:=Bdd.len2 B1
  have l2:=Bdd.len2 B2
  have lk1:=(List.getElem?_eq_some_iff.mp h1).1
  have lk2:=(List.getElem?_eq_some_iff.mp h2).1
  have lk3:=(List.getElem?_eq_some_iff.mp h3).1
  have lk4:=(List.getElem?_eq_some_iff.mp h4).1
  have k10:k1≠0:=fun e=>by rw [e,B1.h0] at h1; cases h1
  have k11:k1≠1:=fun e=>by rw [e,B1.h1] at h1; cases h1
  refine ⟨_,rfl,.inl ⟨rfl,_,SqL.of etl⟩,?_⟩
  refine ⟨_,rfl,_,rfl,by show 2<=sizeLine; decide,fun t1 ht1=>⟨by show 2<=sizeLine; decide,fun t2 ht2=>⟨by show 2<=sizeLine; decide,fun l3 hl3=>?_⟩⟩⟩
  have j1:=Same.new ht1 (.tup [V.int 0,V.int 0])
  have d1:upd H t1 (.tup [V.int 0,V.int 0]) t1=some (.tup [V.int 0,V.int 0]):=upd_same
  generalize upd H t1 (.tup [V.int 0,V.int 0])=Ha at j1 d1 ht2 hl3
  have j2:=Same.new ht2 (.tup [V.int 0,V.int 1])
  have d2:upd Ha t2 (.tup [V.int 0,V.int 1]) t2=some (.tup [V.int 0,V.int 1]):=upd_same
  generalize upd Ha t2 (.tup [V.int 0,V.int 1])=Hb at j2 d2 hl3
  have j4:=Same.new hl3 (.lst [V.ref t1,V.ref t2])
  have gC:=j1.trans (j2.trans j4)
  have WC:=W.new gC
  refine ⟨b1,b2,l3,os,rs1,rs2,F1,F2,[t1,t2],[(0,0),(0,1)],rfl,WC.k1,WC.k2,SqL.of upd_same,.cons (j4 _ _ (j2 _ _ d1)) (.cons (j4 _ _ d2) .nil),fun w hw=>?_,by show 2<=900; decide,fun H9 g9=>?_⟩
  ·simp only [List.mem_cons,List.not_mem_nil,or_false] at hw
   rcases hw with rfl | rfl <;> exact ⟨by dsimp only; omega,by dsimp only; omega⟩
  have val:alkA os.length rs1 rs2 [(0,0),(0,1)]=false:=by
   show (alkB os.length rs1 rs2 _ _ && (alkB os.length rs1 rs2 _ _ && true))=false
   rw [alk_low B1 B2 (p:=(0,0)) (by decide) (by decide),alk_low B1 B2 (p:=(0,1)) (by decide) (by decide)]
   simp [Ne.symm k10,Ne.symm k11]
  rw [val]
  have gD:=gC.trans g9
  have etl9:=gD _ _ etl
  have W9:=W.new gD
  refine ⟨tl,_,_,rfl,rfl,etl9,by rw [List.length_map]; show 5 < sizeLine; decide,?_⟩
  exact hu _ _ ⟨rs1,rs2,F1,F2,k1,k2,k3,k4,tl,⟨W9.same.over z0 _,W9.aw1,W9.aw2,L.lst W9.k1 etl9 n1 _,L.lst W9.k2 etl9 n2 _,W9.sep,W9.len1,W9.len2⟩,h1,h2,h3,h4,z0,n1,n2,upd_same,rfl⟩
 refine ⟨_,(pss_one (ps_ret (pe_cmpR (op_eqD rfl (hu8 hr)) (pv 7) (pe_lst (pa_cons pe_bl (pa_cons pe_bl (pa_cons pe_bl (pa_cons pe_bl (pa_cons pe_bl (pa_cons pe_bl pa_nil))))))) (nomark _)))),?_⟩
 rintro σ H ⟨rs1,rs2,F1,F2,k1,k2,k3,k4,tl,W,h1,h2,h3,h4,z0,n1,n2,etl,rfl⟩
 refine ⟨_,rfl,by show 6<=sizeLine; decide,fun l hl=>?_⟩
 refine ⟨true,(fun z=>by cases z.1),eq_sameB (SqL.of (Same.new hl _ _ _ etl)) (SqL.of upd_same) (fun x hx=>?_),q _⟩
 obtain ⟨y,_,rfl⟩:=List.mem_map.mp hx
 rfl
end
end K42
namespace K42
open PySem L2 Sen
section
variable {P:Program} {w:World} {K:PySem.W.Frag} {mg:Str->Option Value} {base:Heap} {a:Ad} {k:Nat}
theorem al_by_rows {n:Nat} {r1 r2:List Bdd.Rm} (B1:Bdd.Bk n r1) (B2:Bdd.Bk n r2) {k l:Nat} (hk:k < r1.length) (hl:l < r2.length) (h:∀ r∈Bdd.allR n,Bdd.yes r1 k (Bdd.rowL r)=Bdd.yes r2 l (Bdd.rowL r)):Al r1 r2 (k,l):=fun R=>by
 have e1:Bdd.yes r1 k (Bdd.rowL ((List.range n).map R))=Bdd.yes r1 k R:=Bdd.yes_congr B1 k k (Nat.le_refl _) hk fun i _ hi=>Bdd.rowL_range n R i hi
 have e2:Bdd.yes r2 l (Bdd.rowL ((List.range n).map R))=Bdd.yes r2 l R:=Bdd.yes_congr B2 l l (Nat.le_refl _) hl fun i _ hi=>Bdd.rowL_range n R i hi
 show Bdd.yes r1 k R=Bdd.yes r2 l R
 rw [← e1,← e2]
 exact h _ (Bdd.range_in_allR R n)
theorem ok_law (T:Txt P w K mg a)
  (za3:FnOk P w K mg base CX0 (k + 1) a.zb0 a.zb1 ["script", "k"] (spCellF K))
  (zA3:FnOk P w K mg base CX0 (k + 1) a.zg3 a.zg4 ["cell"] spAnyOrder2)
  (zt5:FnOk P w K mg base CX0 (k + 1) a.zm7 a.zm8 ["script", "at", "many", "order"] (spShort K))
  (zE:FnOk P w K mg base CX0 (k + 1) a.zk0 a.zk1 ["many"] spLawRows2)
  (zf1:FnOk P w K mg base CX0 (k + 1) a.zf a.zf0 ["sentence", "order", "row"] (spValue K 22))
  (zA8:FnOk P w K mg base CX0 k a.zl7 a.zr7 ["self", "order"] (spBookInit (BookAt a.za) K a.za))
  (zc7:FnOk P w K mg base CX0 (k + 1) a.zj9 a.zk ["self", "sentence"] (spBookEnter (BookAt a.za)))
  (zs1:FnOk P w K mg base CX0 (k + 1) a.zl8 a.zl9 ["self"] (spBookSize (BookAt a.za)))
  (zF7:FnOk P w K mg base CX0 (k + 1) a.zA a.zA0 ["book", "one", "two", "other"] (spAlike a.za K))
  (zd7:FnOk P w K mg base CX0 (k + 1) a.zh1 a.zh2 ["book", "two", "pairs"] (spAreAlike a.za K))
  (zy6:FnOk P w K mg base CX0 (k + 1) a.zm9 a.zn ["book", "two", "pairs"] (spShows42 a.za K))
  (zC6:FnOk P w K mg base CX0 (k + 1) a.zk9 a.zl0 ["found", "first", "second"] spFormed42)
  (zE0:FnOk P w K mg base CX0 (k + 1) a.zk2 a.zk3 ["pairs", "cell", "one", "two"] spTurn42)
  (zy8:FnOk P w K mg base CX0 (k + 1) a.ze5 a.ze6 ["book", "two", "order"] (spForged42 a.za K)) :
  FnOk P w K mg base CX0 (k + 2) a.zD3 a.zB5 ["script"] (spLaw K):=by
 refine T.zF4.ok zb4 (fun vs H Q E h=>?_) (fun cdv A outer s H vs Q E hr h=>?_)
 ·obtain ⟨a,ns,rfl,_⟩:=h
  rfl
 obtain ⟨sc,ns,rfl,hS,h63,q⟩:=h
 have L:=bookLike a.za
 refine cut0 ?_
 refine cutK (fun σ H=>∃ (ol:Addr) (os:List Str) (p1 p2:Addr) (s1 s2:Sn) (f4 f5 f6 f7 f8 f9 f10 f11 f12 f13 f14 f15:Option V),SqL K H sc (ns.map V.int)/\H ol=some (.lst (os.map V.str))/\IsOrd os/\(os.length<=5\/os.length=8)/\IsS H s1 p1/\s1.inO os/\s1.depth<=21/\s1.count<=62/\IsS H s2 p2/\s2.inO os/\s2.depth<=22/\s2.count<=62/\σ=[some (.ref sc),some (.ref ol),some (.ref p1),some (.ref p2),f4,f5,f6,f7,f8,f9,f10,f11,f12,f13,f14,f15]) (fun t z=>(pss_cons (ps_set (i:=1) zb4.nd rfl (Or.inr rfl) (pe_call zA3 hr rfl T.m_x_law_any_order T.zl6.2 T.b_x_law_any_order .nil pass0 (pa_cons (pe_call za3 hr rfl T.m_x_law_cell_at T.za0.2 T.b_x_law_cell_at .nil pass0 (pa_cons (pv 0) (pa_cons pe_int pa_nil))) pa_nil)))
   (pss_cons (ps_set (i:=2) zb4.nd rfl (Or.inr rfl) (pe_call zt5 hr rfl T.m_x_law_short T.zi7.2 T.b_x_law_short .nil pass0 (pa_cons (pv 0) (pa_cons pe_int (pa_cons (pe_op op_add pe_int (pe_op op_mod (pe_call za3 hr rfl T.m_x_law_cell_at T.za0.2 T.b_x_law_cell_at .nil pass0 (pa_cons (pv 0) (pa_cons pe_int pa_nil))) pe_int)) (pa_cons (pv 1) pa_nil))))))
   (pss_cons (ps_set (i:=3) zb4.nd rfl (Or.inr rfl) (pe_call zt5 hr rfl T.m_x_law_short T.zi7.2 T.b_x_law_short .nil pass0 (pa_cons (pv 0) (pa_cons pe_int (pa_cons (pe_op op_add pe_int (pe_op op_mod (pe_op op_fdiv (pe_call za3 hr rfl T.m_x_law_cell_at T.za0.2 T.b_x_law_cell_at .nil pass0 (pa_cons (pv 0) (pa_cons pe_int pa_nil))) pe_int) pe_int)) (pa_cons (pv 1) pa_nil))))))
   (pss_cons (ps_if (pt_cmpR op_eq (pe_op op_mod (pe_call za3 hr rfl T.m_x_law_cell_at T.za0.2 T.b_x_law_cell_at .nil pass0 (pa_cons (pv 0) (pa_cons pe_int pa_nil))) pe_int) pe_int (nomark _)) (pss_one (ps_set (i:=3) zb4.nd rfl (Or.inr rfl) (pe_tup (pa_cons pe_str (pa_cons (pe_tup (pa_cons pe_str (pa_cons (pv 2) pa_nil))) pa_nil))))) pss_nil)
   z))))) ?_ ?_
 ·rintro u hu σ H ⟨rfl,rfl⟩
  refine ⟨_,rfl,sc,ns,0,rfl,hS,cellF ns 0,rfl,fun ol H1 os g1 hol ho h58=>?_⟩
  have o8:=ho.le
  have hS1:=g1.seq hS
  have m0:0<=cellF ns 1 % 8:=Int.emod_nonneg _ (by decide)
  have m1:cellF ns 1 % 8 < 8:=Int.emod_lt_of_pos _ (by decide)
  have em:(1:Int) + cellF ns 1 % 8=(((1 + cellF ns 1 % 8).toNat:Nat):Int):=by omega
  refine ⟨_,rfl,_,rfl,sc,ns,1,rfl,hS1,cellF ns 1,8,rfl,rfl,(show (0:Int) < 8 by decide),1,_,rfl,rfl,_,rfl,sc,ol,ns,5,(1 + cellF ns 1 % 8).toNat,os,?_,hS1,SqL.of hol,ho.pos,o8,by omega,by omega,by decide,fun p1 H4 s1 g4 is1 in1 d1 c1=>?_⟩
  ·show [V.ref sc,V.int 5,V.int (1 + cellF ns 1 % 8),V.ref ol]=_
   rw [em]; rfl
  have hS4:=g4.seq hS1
  have m2:0<=cellF ns 1 / 8 % 8:=Int.emod_nonneg _ (by decide)
  have m3:cellF ns 1 / 8 % 8 < 8:=Int.emod_lt_of_pos _ (by decide)
  have em2:(1:Int) + cellF ns 1 / 8 % 8=(((1 + cellF ns 1 / 8 % 8).toNat:Nat):Int):=by omega
  refine ⟨_,rfl,_,rfl,sc,ns,1,rfl,hS4,cellF ns 1,8,rfl,rfl,⟨by decide,by decide⟩,_,8,rfl,rfl,(show (0:Int) < 8 by decide),1,_,rfl,rfl,_,rfl,sc,ol,ns,14,(1 + cellF ns 1 / 8 % 8).toNat,os,?_,hS4,SqL.of (g4 _ _ hol),ho.pos,o8,by omega,by omega,by decide,fun p2 H5 s2 g5 is2 in2 d2 c2=>?_⟩
  ·show [V.ref sc,V.int 14,V.int (1 + cellF ns 1 / 8 % 8),V.ref ol]=_
   rw [em2]; rfl
  have g45:=g4.trans g5
  have hS5:=g5.seq hS4
  have is1':=is1.mono (Tups.of g5)
  refine ⟨_,rfl,sc,ns,2,rfl,hS5,_,_,rfl,rfl,(show (0:Int) < 2 by decide),rfl,_,rfl,ite2 (fun _=>?_) (fun _=>?_)⟩
  ·refine ⟨_,rfl,by show 2<=sizeLine; decide,fun q0 hq0=>⟨by show 2<=sizeLine; decide,fun q1 hq1=>?_⟩⟩
   have a1:=Same.new hq0 (.tup [.str "not", .ref p1])
   have a2:=Same.new hq1 (.tup [.str "not", .ref q0])
   have gA:=a1.trans a2
   have is3:IsS (upd (upd H5 q0 (.tup [.str "not", .ref p1])) q1 (.tup [.str "not", .ref q0])) (.nt (.nt s1)) q1:=⟨q0,upd_same,p1,a2 _ _ upd_same,is1'.mono (Tups.of gA)⟩
   refine hu _ _ ⟨ol,os,p1,q1,s1,.nt (.nt s1),_,_,_,_,_,_,_,_,_,_,_,_,gA.seq hS5,(g45.trans gA) _ _ hol,ho,h58,is1'.mono (Tups.of gA),in1,by omega,by omega,is3,in1,?_,?_,rfl⟩
   ·show 1 + (1 + s1.depth)<=22
    omega
   ·show 1 + (1 + s1.count)<=62
    omega
  ·exact hu _ _ ⟨ol,os,p1,p2,s1,s2,_,_,_,_,_,_,_,_,_,_,_,_,hS5,g45 _ _ hol,ho,h58,is1',in1,by omega,by omega,is2,in2,by omega,by omega,rfl⟩
 refine cutK (fun σ H=>∃ (H1:Hp) (ol b1 b2:Addr) (os:List Str) (p1 p2:Addr) (s1 s2:Sn) (rs1 rs2:List Bdd.Rm) (F1 F2:Foot) (f6 f7 f8 f9 f10 f11 f12 f13 f14 f15:Option V),SqL K H1 sc (ns.map V.int)/\H1 ol=some (.lst (os.map V.str))/\(os.length<=5\/os.length=8)/\TwoB a.za H1 H b1 b2 os 200002 rs1 F1 rs2 F2/\IsS H s1 p1/\s1.inO os/\s1.depth<=21/\s1.count<=62/\IsS H s2 p2/\s2.inO os/\s2.depth<=22/\s2.count<=62/\σ=[some (.ref sc),some (.ref ol),some (.ref p1),some (.ref p2),some (.ref b1),some (.ref b2),f6,f7,f8,f9,f10,f11,f12,f13,f14,f15]) (fun t z=>(pss_cons (ps_set (i:=4) zb4.nd rfl (Or.inl rfl) (pe_make T.mk_Book zA8 hr rfl T.m_Book T.b_Book_init .nil pass0 (pa_cons (pv 1) pa_nil)))
   (pss_cons (ps_set (i:=5) zb4.nd rfl (Or.inl rfl) (pv 4))
   (pss_cons (ps_if (pt_cmpR op_eq (pe_op op_mod (pe_op op_fdiv (pe_call za3 hr rfl T.m_x_law_cell_at T.za0.2 T.b_x_law_cell_at .nil pass0 (pa_cons (pv 0) (pa_cons pe_int pa_nil))) pe_int) pe_int) pe_int (nomark _)) (pss_cons (ps_set (i:=5) zb4.nd rfl (Or.inl rfl) (pe_make T.mk_Book zA8 hr rfl T.m_Book T.b_Book_init .nil pass0 (pa_cons (pv 1) pa_nil)))
   (pss_one (ps_expr (pe_meth (pv 5) T.c_Book T.e_Book_enter zc7 hr T.b_Book_enter .nil pass0 (pa_cons (pe_call zt5 hr rfl T.m_x_law_short T.zi7.2 T.b_x_law_short .nil pass0 (pa_cons (pv 0) (pa_cons pe_int (pa_cons pe_int (pa_cons (pv 1) pa_nil))))) pa_nil))))) pss_nil)
   z)))) ?_ ?_
 ·rintro u hu σ H1 ⟨ol,os,p1,p2,s1,s2,f4,f5,f6,f7,f8,f9,f10,f11,f12,f13,f14,f15,hS1,hol,ho,h58,is1,in1,d1,c1,is2,in2,d2,c2,rfl⟩
  have o8:=ho.le
  refine ⟨_,rfl,fun bk dx hbk hdx hne=>⟨bk,dx,ol,os,rfl,upd_same,Ne.symm hne,?_,ho,fun H3 F0 keep hB hF=>⟨rfl,?_⟩⟩⟩
  ·refine SqL.of ?_
   rw [upd_ne (ne_of_none hol hbk),upd_ne (ne_of_none hol hdx)]
   exact hol
  have g13:Same H1 H3:=fun x o e=>keep x o (by rw [upd_ne (ne_of_none e hbk),upd_ne (ne_of_none e hdx)]; exact e) (ne_of_none e hbk)
  have hF1:∀ x,F0 x->H1 x=none:=fun x hx=>by
   rcases hF x hx with z | z | z
   ·rw [z]; exact hbk
   ·rw [z]; exact hdx
   ·by_cases e1:x=bk
    ·rw [e1] at z; rw [upd_same] at z; cases z
    ·by_cases e2:x=dx
     ·rw [e2,upd_ne hne,upd_same] at z; cases z
     ·rw [upd_ne e1,upd_ne e2] at z; exact z
  clear keep hF
  have hS3:=g13.seq hS1
  have hol3:=g13 _ _ hol
  refine ⟨_,rfl,?_⟩
  refine ⟨_,rfl,sc,ns,2,rfl,hS3,_,_,rfl,rfl,⟨by decide,by decide⟩,_,2,rfl,rfl,(show (0:Int) < 2 by decide),rfl,_,rfl,ite2 (fun _=>?_) (fun _=>?_)⟩
  ·refine ⟨_,rfl,fun b2 dx2 hb2 hdx2 hne2=>⟨b2,dx2,ol,os,rfl,upd_same,Ne.symm hne2,?_,ho,fun H4 F4 keep4 hB4 hF4=>⟨rfl,?_⟩⟩⟩
   ·refine SqL.of ?_
    rw [upd_ne (ne_of_none hol3 hb2),upd_ne (ne_of_none hol3 hdx2)]
    exact hol3
   have g34:Same H3 H4:=fun x o e=>keep4 x o (by rw [upd_ne (ne_of_none e hb2),upd_ne (ne_of_none e hdx2)]; exact e) (ne_of_none e hb2)
   have hF3:∀ x,F4 x->H3 x=none:=fun x hx=>by
    rcases hF4 x hx with z | z | z
    ·rw [z]; exact hb2
    ·rw [z]; exact hdx2
    ·by_cases e1:x=b2
     ·rw [e1] at z; rw [upd_same] at z; cases z
     ·by_cases e2:x=dx2
      ·rw [e2,upd_ne hne2,upd_same] at z; cases z
      ·rw [upd_ne e1,upd_ne e2] at z; exact z
   clear keep4 hF4
   have W:TwoB a.za H1 H4 bk b2 os 2 [none,none] F0 [none,none] F4:=⟨g13.trans g34,hF1,fun x hx=>g13.free (hF3 x hx),L.same hB g34,hB4,.inr fun x a b=>L.there hB a (hF3 x b),Nat.le_refl _,Nat.le_refl _⟩
   have hS4:=(g13.trans g34).seq hS1
   obtain ⟨dx0,fs,hins,hm⟩:=L.ins W.k2
   refine ⟨_,rfl,b2,dx0,fs,rfl,hins,hm _ (by decide +kernel),_,rfl,_,rfl,sc,ol,ns,23,6,os,rfl,hS4,SqL.of (W.same _ _ hol),ho.pos,o8,by decide,by decide,by decide,fun p9 H5 s9 g5 is9 in9 d9 c9=>?_⟩
   have W5:=W.new g5
   refine ⟨b2,p9,os,[none,none],F4,s9,rfl,W5.k2,by decide,is9,in9,by omega,by omega,fun k9 rs9 F9 H9 aw tu hB9 nf gr hk hy hbd=>?_⟩
   obtain ⟨rs1',F1',W9,_⟩:=W5.grow aw tu hB9 nf gr hbd
   have T9:=(Tups.of ((g13.trans g34).trans g5)).trans tu
   exact hu _ _ ⟨H1,ol,bk,b2,os,p1,p2,s1,s2,rs1',rs9,F1',F9,_,_,_,_,_,_,_,_,_,_,hS1,hol,h58,W9,is1.mono T9,in1,d1,c1,is2.mono T9,in2,d2,c2,rfl⟩
  ·have W:TwoB a.za H1 H3 bk bk os 200002 [none,none] F0 [none,none] F0:=⟨g13,hF1,hF1,hB,hB,.inl ⟨rfl,rfl,rfl⟩,by decide,by decide⟩
   exact hu _ _ ⟨H1,ol,bk,bk,os,p1,p2,s1,s2,_,_,F0,F0,_,_,_,_,_,_,_,_,_,_,hS1,hol,h58,W,is1.mono (Tups.of g13),in1,d1,c1,is2.mono (Tups.of g13),in2,d2,c2,rfl⟩
 refine cutK (fun σ H=>∃ (H1:Hp) (ol b1 b2:Addr) (os:List Str) (p1 p2:Addr) (s1 s2:Sn) (k1 k2:Nat) (rs1 rs2:List Bdd.Rm) (F1 F2:Foot) (f8 f9 f10 f11 f12 f13 f14 f15:Option V),SqL K H1 sc (ns.map V.int)/\H1 ol=some (.lst (os.map V.str))/\(os.length<=5\/os.length=8)/\TwoB a.za H1 H b1 b2 os 600002 rs1 F1 rs2 F2/\IsS H s1 p1/\s1.inO os/\s1.depth<=21/\IsS H s2 p2/\s2.inO os/\s2.depth<=22/\Bdd.Means rs1 k1 (fun r=>s1.val (envR os r))/\Bdd.Means rs2 k2 (fun r=>s2.val (envR os r))/\σ=[some (.ref sc),some (.ref ol),some (.ref p1),some (.ref p2),some (.ref b1),some (.ref b2),some (.int (k2:Nat)),some (.int (k1:Nat)),f8,f9,f10,f11,f12,f13,f14,f15]) (fun t z=>(pss_cons (ps_set (i:=6) zb4.nd rfl (Or.inl rfl) (pe_meth (pv 5) T.c_Book T.e_Book_enter zc7 hr T.b_Book_enter .nil pass0 (pa_cons (pv 3) pa_nil)))
   (pss_cons (ps_set (i:=7) zb4.nd rfl (Or.inl rfl) (pe_meth (pv 4) T.c_Book T.e_Book_enter zc7 hr T.b_Book_enter .nil pass0 (pa_cons (pv 2) pa_nil)))
   z))) ?_ ?_
 ·rintro u hu σ H ⟨H1,ol,b1,b2,os,p1,p2,s1,s2,rs1,rs2,F1,F2,f6,f7,f8,f9,f10,f11,f12,f13,f14,f15,hS1,hol,h58,W,is1,in1,d1,c1,is2,in2,d2,c2,rfl⟩
  obtain ⟨dx0,fs,hins,hm⟩:=L.ins W.k2
  refine ⟨_,rfl,b2,dx0,fs,rfl,hins,hm _ (by decide +kernel),_,rfl,b2,p2,os,rs2,F2,s2,rfl,W.k2,Nat.le_trans W.len2 (by decide),is2,in2,by omega,by omega,fun k2 rs9 F9 H9 aw tu hB9 nf gr hk hy hbd=>?_⟩
  obtain ⟨rs1',F1',W9,g9⟩:=W.grow aw tu hB9 nf gr hbd
  have M2:Bdd.Means rs9 k2 (fun r=>s2.val (envR os r)):=⟨hk,hy⟩
  have is1':=is1.mono tu
  have is2':=is2.mono tu
  clear aw nf hbd
  obtain ⟨dx1,fs1,hins1,hm1⟩:=L.ins W9.k1
  refine ⟨_,rfl,b1,dx1,fs1,rfl,hins1,hm1 _ (by decide +kernel),_,rfl,b1,p1,os,rs1',F1',s1,rfl,W9.k1,Nat.le_trans W9.len1 (by decide),is1',in1,by omega,by omega,fun k1 rs8 F8 H8 aw8 tu8 hB8 nf8 gr8 hk8 hy8 hbd8=>?_⟩
  obtain ⟨rs2',F2',W8,g8⟩:=W9.symm.grow aw8 tu8 hB8 nf8 gr8 hbd8
  exact hu _ _ ⟨H1,ol,b1,b2,os,p1,p2,s1,s2,k1,k2,rs8,rs2',F8,F2',_,_,_,_,_,_,_,_,hS1,hol,h58,W8.symm,is1'.mono tu8,in1,d1,is2'.mono tu8,in2,d2,⟨hk8,hy8⟩,M2.grown (L.bk W9.k2) g8,rfl⟩
 refine cutK (fun σ H=>∃ (H1:Hp) (ol b1 b2:Addr) (os:List Str) (p1 p2:Addr) (k1 k2:Nat) (rs1 rs2:List Bdd.Rm) (F1 F2:Foot) (sm:Bool) (f8 f10 f11 f12 f13 f14 f15:Option V),SqL K H1 sc (ns.map V.int)/\H1 ol=some (.lst (os.map V.str))/\TwoB a.za H1 H b1 b2 os 600002 rs1 F1 rs2 F2/\k1 < rs1.length/\k2 < rs2.length/\(sm=true↔Al rs1 rs2 (k1,k2))/\σ=[some (.ref sc),some (.ref ol),some (.ref p1),some (.ref p2),some (.ref b1),some (.ref b2),some (.int (k2:Nat)),some (.int (k1:Nat)),f8,some (.bl sm),f10,f11,f12,f13,f14,f15]) (fun t z=>(pss_cons (ps_set (i:=8) zb4.nd rfl (Or.inl rfl) (pe_call zE hr rfl T.m_x_law_rows T.zv3.2 T.b_x_law_rows .nil pass0 (pa_cons (pe_callB call_len_seq rfl T.n_len bt_len (pa_cons (pv 1) pa_nil)) pa_nil)))
   (pss_cons (ps_set (i:=9) zb4.nd rfl (Or.inl rfl) (pe_callB (call_all rfl) rfl T.n_all bt_all (pa_cons (pe_lc0 (osc:=defScope zB3) (js:=[2,1,3]) rfl (by show LcOk (defScope zB3) _ "row" ["one", "order", "other"]; exact ⟨rfl,by decide +kernel,by decide +kernel,rfl,by decide +kernel,by decide +kernel,by decide +kernel⟩) rfl (pi_list (pv 8)) (by show ∀ j∈([2,1,3]:List Nat),j < 16; decide) (fun cl C s₂ H₂ fp=>(pe_cmpR op_eq (pe_call zf1 hr rfl T.m_x_law_value T.zd.2 T.b_x_law_value .nil pass0 (pa_cons (pv 1) (pa_cons (pv 2) (pa_cons (pv 0) pa_nil)))) (pe_call zf1 hr rfl T.m_x_law_value T.zd.2 T.b_x_law_value .nil pass0 (pa_cons (pv 3) (pa_cons (pv 2) (pa_cons (pv 0) pa_nil)))) (nomark _)))) pa_nil)))
   z))) ?_ ?_
 ·rintro u hu σ H ⟨H1,ol,b1,b2,os,p1,p2,s1,s2,k1,k2,rs1,rs2,F1,F2,f8,f9,f10,f11,f12,f13,f14,f15,hS1,hol,h58,W,is1,in1,d1,is2,in2,d2,M1,M2,rfl⟩
  have ho:=L.ord W.k1
  have o8:=ho.le
  have lo5:(os.map V.str).length=os.length:=List.length_map _
  have p256:(Bdd.allR os.length).length<=256:=by rw [Bdd.allR_size]; exact Nat.le_trans (Nat.pow_le_pow_right (n:=2) (by decide) o8) (by decide)
  have hol0:=W.same _ _ hol
  refine ⟨_,rfl,ol,_,rfl,.inl (SqL.of hol0),os.length,by rw [lo5]; rfl,ho.pos,h58,fun al H2 as g2 hal0 hal hpr=>?_⟩
  have hol2:=g2 _ _ hol0
  have el:=pd_len hpr
  have is1':=is1.mono (Tups.of g2)
  have is2':=is2.mono (Tups.of g2)
  refine ⟨_,rfl,al,rfl,⟨_,SqL.of hal⟩,?_⟩
  refine lc_list (xs:=as.map V.ref) (fun m zs H'=>Same H2 H'/\zs=(((Bdd.allR os.length).take m).map (fun r=>decide (s1.val (envB os (rowBits r))=s2.val (envB os (rowBits r))))).map V.bl) ⟨Same.refl _,rfl⟩ (by rw [List.length_map]; exact Nat.le_of_lt (small1000 (by omega))) ?_ ?_ (fun _ _ _ _ h q=>h _ _ q) ?_ ?_
  ·rintro m zs H' hm ⟨gg,rfl⟩
   exact ⟨SqL.of (gg _ _ hal),by rw [List.length_map,List.length_map,List.length_take]; omega⟩
  ·rintro m x zs H' hx ⟨gg,rfl⟩
   rw [List.getElem?_map] at hx
   cases hpt:as[m]? with
   | none=>rw [hpt] at hx; cases hx
   | some p =>
    rw [hpt] at hx
    cases hx
    obtain ⟨r,hrr,fp,hpe⟩:=pd_at hpr hpt
    have rlen:=Bdd.allR_len os.length r (List.mem_of_getElem? hrr)
    refine tyes (iteT ?_)
    refine ⟨_,rfl,_,rfl,_,rfl,p1,ol,p,s1,os,r,rfl,is1'.mono (Tups.of gg),SqL.of (gg _ _ hol2),SqL.of (gg _ _ hpe),in1,o8,rlen,by omega,fun H3 g3=>?_⟩
    have g13:=gg.trans g3
    refine ⟨_,rfl,_,rfl,_,rfl,p2,ol,p,s2,os,r,rfl,is2'.mono (Tups.of g13),SqL.of (g13 _ _ hol2),SqL.of (g13 _ _ hpe),in2,o8,rlen,d2,fun H4 g4=>?_⟩
    refine ⟨rfl,g13.trans g4,?_⟩
    rw [take_next hrr,List.map_append,List.map_append]
    congr 1
    show [V.bl _]=[V.bl _]
    congr 2
    dsimp only
    cases s1.val (envB os (rowBits r)) <;> cases s2.val (envB os (rowBits r)) <;> rfl
  ·rintro σ' H' Q1 Q2 hQ ⟨v1,e1,v2,e2,v3,e3,q'⟩
   refine ⟨v1,e1,v2,e2,v3,e3,?_⟩
   have q2:spValue K 22 [v1,v2,v3] H' (fun x H1=>tCall (spValue K 22) [] E0 (tCons (tVar 3) (tCons (tVar 2) (tCons (tVar 0) tNil))) σ' H1 (fun y H2=>rEq x y H2 Q1)) E0:=q'
   show spValue K 22 [v1,v2,v3] H' (fun x H1=>tCall (spValue K 22) [] E0 (tCons (tVar 3) (tCons (tVar 2) (tCons (tVar 0) tNil))) σ' H1 (fun y H2=>rEq x y H2 Q2)) E0
   refine mono_value 22 [v1,v2,v3] H' _ _ E0 (fun x H1 h1=>?_) q2
   obtain ⟨w1,f1,w2,f2,w3,f3,r⟩:=h1
   refine ⟨w1,f1,w2,f2,w3,f3,?_⟩
   have r2:spValue K 22 [w1,w2,w3] H1 (fun y H2=>rEq x y H2 Q1) E0:=r
   show spValue K 22 [w1,w2,w3] H1 (fun y H2=>rEq x y H2 Q2) E0
   refine mono_value 22 [w1,w2,w3] H1 _ _ E0 (fun y H2 h2=>?_) r2
   exact ⟨h2.1,hQ _ _ h2.2⟩
  rintro ys H3 l3 ⟨gg,rfl⟩ hl3
  rw [List.length_map,el,List.take_length] at *
  have j3:=Same.new hl3 (.lst (((Bdd.allR os.length).map (fun r=>decide (s1.val (envB os (rowBits r))=s2.val (envB os (rowBits r))))).map V.bl))
  refine ⟨l3,_,rfl,SqL.of upd_same,?_⟩
  have W3:=(W.new (g2.trans gg)).new j3
  refine hu _ _ ⟨H1,ol,b1,b2,os,p1,p2,k1,k2,rs1,rs2,F1,F2,_,_,_,_,_,_,_,_,hS1,hol,W3,M1.1,M2.1,?_,rfl⟩
  rw [List.all_map,List.all_eq_true]
  constructor
  ·intro h
   refine al_by_rows (L.bk W.k1) (L.bk W.k2) M1.1 M2.1 fun r hr=>?_
   have z:decide (s1.val (envB os (rowBits r))=s2.val (envB os (rowBits r)))=true:=h r hr
   have z:=of_decide_eq_true z
   rw [env_row] at z
   rw [M1.2,M2.2]
   exact z
  ·intro h r _
   have z:=h (Bdd.rowL r)
   dsimp only at z
   rw [M1.2,M2.2] at z
   refine decide_eq_true ?_
   rw [env_row]
   exact z
 refine cutK (fun σ H=>∃ (H1:Hp) (ol b1 b2 sl pl:Addr) (os:List Str) (p1 p2:Addr) (k1 k2:Nat) (rs1 rs2:List Bdd.Rm) (F1 F2:Foot) (ts:List Addr) (ps:List (Nat × Nat)) (f8 f9 f12 f13 f14 f15:Option V),SqL K H1 sc (ns.map V.int)/\H1 ol=some (.lst (os.map V.str))/\TwoB a.za H1 H b1 b2 os 600002 rs1 F1 rs2 F2/\H1 pl=none/\¬ F1 pl/\¬ F2 pl/\pl≠sl/\H sl=some (.lst [.int (rs1.length:Nat),.int (rs2.length:Nat)])/\H pl=some (.lst (ts.map V.ref))/\Paired (PairP H) ts ps/\(∀ p∈ps,p.1 < rs1.length/\p.2 < rs2.length)/\ps.length<=512/\σ=[some (.ref sc),some (.ref ol),some (.ref p1),some (.ref p2),some (.ref b1),some (.ref b2),some (.int (k2:Nat)),some (.int (k1:Nat)),f8,f9,some (.ref sl),some (.ref pl),f12,f13,f14,f15]) (fun t z=>(pss_cons (ps_set (i:=10) zb4.nd rfl (Or.inl rfl) (pe_lst (pa_cons (pe_meth0 (pv 4) T.c_Book T.e_Book_size zs1 hr T.b_Book_size .nil pass0) (pa_cons (pe_meth0 (pv 5) T.c_Book T.e_Book_size zs1 hr T.b_Book_size .nil pass0) pa_nil))))
   (pss_cons (ps_set (i:=11) zb4.nd rfl (Or.inl rfl) (pe_lst pa_nil))
   (pss_cons (ps_for PassesOwn.never rfl (pi_range1 rfl T.n_range (pa_cons pe_int pa_nil)) (pg_name (i:=12) zb4.nd rfl (Or.inl rfl)) (pss_cons (ps_set (i:=15) zb4.nd rfl (Or.inl rfl) (pe_call zF7 hr rfl T.m_alike T.zC4.2 T.b_alike .nil pass0 (pa_cons (pv 4) (pa_cons (pv 7) (pa_cons (pv 5) (pa_cons (pv 6) pa_nil))))))
   (pss_cons (ps_if (pt_cmpR op_ne (pe_cmpR op_notN (pv 15) pe_non (nomark _)) (pv 9) (nomark _)) (pss_one (ps_ret pe_bl)) pss_nil)
   (pss_one (ps_if (pt_truth (pv 9) (fun _=>rfl)) (pss_cons (ps_if (PW.pt (pw_or (pt_not (pt_truth (pe_call zC6 hr rfl T.m_x_law_formed T.zq9.2 T.b_x_law_formed .nil pass0 (pa_cons (pv 15) (pa_cons (pv 7) (pa_cons (pv 6) pa_nil)))) (fun _=>rfl))) (pw_or1 (pt_not (pt_truth (pe_call zy6 hr rfl T.m_x_law_shows T.zn2.2 T.b_x_law_shows .nil pass0 (pa_cons (pv 4) (pa_cons (pv 5) (pa_cons (pv 15) pa_nil)))) (fun _=>rfl)))))) (pss_one (ps_ret pe_bl)) pss_nil)
   (pss_cons (ps_set (i:=11) zb4.nd rfl (Or.inl rfl) (pe_callTy call_list_of rfl T.n_list bt_list (pa_cons (pv 15) pa_nil)))
   (pss_one (ps_expr (pe_bm PySem.F.plainAttrs_list PySem.F.slot_list_append PySem.F.type_list_append mt_append (pv 15) (pa_cons (pe_tup (pa_cons pe_int (pa_cons pe_int pa_nil))) pa_nil)))))) pss_nil)))))
   z)))) ?_ ?_
 ·rintro u hu σ H ⟨H1,ol,b1,b2,os,p1,p2,k1,k2,rs1,rs2,F1,F2,sm,f8,f10,f11,f12,f13,f14,f15,hS1,hol,W,k1l,k2l,hsm,rfl⟩
  obtain ⟨dx1,fs1,hins1,hm1⟩:=L.ins W.k1
  refine ⟨_,rfl,b1,dx1,fs1,rfl,hins1,hm1 _ (by decide +kernel),b1,os,rs1,F1,rfl,W.k1,fun H5 g5=>?_⟩
  have W5:=W.new g5
  obtain ⟨dx2,fs2,hins2,hm2⟩:=L.ins W5.k2
  refine ⟨_,rfl,b2,dx2,fs2,rfl,hins2,hm2 _ (by decide +kernel),b2,os,rs2,F2,rfl,W5.k2,fun H6 g6=>?_⟩
  refine ⟨by show 2<=sizeLine; decide,fun sl hsl0=>?_⟩
  have g7:=g6.trans (Same.new hsl0 (.lst [.int (rs1.length:Nat),.int (rs2.length:Nat)]))
  have hsl:upd H6 sl (.lst [.int (rs1.length:Nat),.int (rs2.length:Nat)]) sl=some (.lst [.int (rs1.length:Nat),.int (rs2.length:Nat)]):=upd_same
  generalize upd H6 sl (.lst [.int (rs1.length:Nat),.int (rs2.length:Nat)])=H7 at g7 hsl
  have W7:=W5.new g7
  refine ⟨by show 0<=sizeLine; decide,fun pl0 hpl0=>?_⟩
  have g8:=Same.new hpl0 (.lst [])
  have W8:=W7.new g8
  refine ⟨2,rfl,by decide,by decide,?_⟩
  refine for_range (fun i σ H'=>∃ (pl:Addr) (ts:List Addr) (ps:List (Nat × Nat)) (f12 f13 f14 f15:Option V),TwoB a.za H1 H' b1 b2 os 600002 rs1 F1 rs2 F2/\H1 pl=none/\¬ F1 pl/\¬ F2 pl/\pl≠sl/\H' sl=some (.lst [.int (rs1.length:Nat),.int (rs2.length:Nat)])/\H' pl=some (.lst (ts.map V.ref))/\Paired (PairP H') ts ps/\(∀ p∈ps,p.1 < rs1.length/\p.2 < rs2.length)/\ps.length<=512/\σ=[some (.ref sc),some (.ref ol),some (.ref p1),some (.ref p2),some (.ref b1),some (.ref b2),some (.int (k2:Nat)),some (.int (k1:Nat)),f8,some (.bl sm),some (.ref sl),some (.ref pl),f12,f13,f14,f15]) ⟨pl0,[],[],_,_,_,_,W8,W7.same.free hpl0,L.fresh W7.k1 hpl0,L.fresh W7.k2 hpl0,(fun e=>by rw [e,hsl] at hpl0; cases hpl0),g8 _ _ hsl,upd_same,.nil,(fun p hp=>by cases hp),Nat.zero_le _,rfl⟩ ?_ ?_
  ·rintro i σ H' hi ⟨pl,ts,ps,f12,f13,f14,f15,W',bs,n1,n2,nsl,hsl',hpl',hpp',hb',len',rfl⟩
   refine ⟨_,rfl,_,rfl,_,rfl,_,rfl,b1,b2,os,rs1,rs2,F1,F2,k1,k2,rfl,W'.k1,W'.k2,k1l,k2l,fun H3 g3 na=>?_,fun H3 fl us qs g3 ffl hfl hqq hqb al ok lq hd A0=>?_⟩
   ·have e:sm=false:=by
     cases sm with
     | false=>rfl
     | true=>exact absurd (hsm.mp rfl) na
    subst e
    refine ⟨_,rfl,rfl,_,rfl,rfl,_,rfl,iteF ?_⟩
    refine ⟨_,rfl,_,rfl,iteF ?_⟩
    exact ⟨pl,ts,ps,_,_,_,_,W'.new g3,bs,n1,n2,nsl,g3 _ _ hsl',g3 _ _ hpl',pd_imp (fun _ _ e=>g3 _ _ e) hpp',hb',len',rfl⟩
   ·have e:sm=true:=hsm.mpr A0
    subst e
    have W3:=W'.new g3
    refine ⟨_,rfl,rfl,_,rfl,rfl,_,rfl,iteF ?_⟩
    refine ⟨_,rfl,_,rfl,iteT ?_⟩
    refine ⟨_,rfl,_,rfl,_,rfl,fl,us,qs,k1,k2,rfl,hfl,hqq,hd,fun H4 g4=>?_⟩
    refine ⟨_,rfl,iteF ?_⟩
    have W4:=W3.new g4
    refine ⟨_,rfl,_,rfl,_,rfl,b1,b2,fl,os,rs1,rs2,F1,F2,us,qs,rfl,W4.k1,W4.k2,SqL.of (g4 _ _ hfl),pd_imp (fun _ _ e=>g4 _ _ e) hqq,hqb,by omega,fun H5 g5=>?_⟩
    rw [ok]
    refine ⟨_,rfl,iteF ?_⟩
    have W5:=W4.new g5
    have g35:=g4.trans g5
    have hfl5:=g35 _ _ hfl
    have hsl5:=(g3.trans g35) _ _ hsl'
    refine ⟨_,rfl,fl,_,rfl,.inl (SqL.of hfl5),fun nl hnl=>?_⟩
    have j6:=Same.new hnl (.lst (us.map V.ref))
    have enl:upd H5 nl (.lst (us.map V.ref)) nl=some (.lst (us.map V.ref)):=upd_same
    have W6:=W5.new j6
    have bn:=W5.same.free hnl
    have x1:=L.fresh W5.k1 hnl
    have x2:=L.fresh W5.k2 hnl
    have xf:fl≠nl:=fun e=>by rw [e,hnl] at hfl5; cases hfl5
    have xs:nl≠sl:=fun e=>by rw [e,hsl5] at hnl; cases hnl
    generalize upd H5 nl (.lst (us.map V.ref))=H6 at j6 enl W6
    have hfl6:=j6 _ _ hfl5
    refine ⟨_,rfl,.inl ⟨rfl,_,SqL.of hfl6⟩,by show 2<=sizeLine; decide,fun t ht=>?_⟩
    have j7:=Same.new ht (.tup [V.int 0,V.int 1])
    have W7:=W6.new j7
    have hfl7:=j7 _ _ hfl6
    have lu:=pd_len hqq
    refine ⟨fl,_,_,rfl,rfl,hfl7,by rw [List.length_map]; exact small1000 (by omega),?_⟩
    have G7:=g35.trans (j6.trans j7)
    have T7:=fun o=>Tups.lst hfl7 o
    have sf:fl≠sl:=fun e=>by rw [e,hsl'] at ffl; cases ffl
    exact ⟨nl,us,qs,_,_,_,_,⟨W7.same.over (W'.same.free ffl) _,W7.aw1,W7.aw2,L.lst W7.k1 hfl7 (L.fresh W'.k1 ffl) _,L.lst W7.k2 hfl7 (L.fresh W'.k2 ffl) _,W7.sep,W7.len1,W7.len2⟩,bn,x1,x2,xs,by rw [upd_ne (Ne.symm sf)]; exact j7 _ _ (j6 _ _ hsl5),by rw [upd_ne (Ne.symm xf)]; exact j7 _ _ enl,pd_imp (fun _ _ e=>T7 _ _ _ (G7 _ _ e)) hqq,hqb,lq,rfl⟩
  ·rintro σ H' ⟨pl,ts,ps,f12,f13,f14,f15,W',bs,n1,n2,nsl,hsl',hpl',hpp',hb',len',rfl⟩
   exact hu _ _ ⟨H1,ol,b1,b2,sl,pl,os,p1,p2,k1,k2,rs1,rs2,F1,F2,ts,ps,_,_,_,_,_,_,hS1,hol,W',bs,n1,n2,nsl,hsl',hpl',hpp',hb',len',rfl⟩
 refine cutK (fun σ H=>∃ (H1:Hp) (ol b1 b2 sl pl:Addr) (os:List Str) (p1 p2:Addr) (k1 k2:Nat) (rs1 rs2:List Bdd.Rm) (F1 F2:Foot) (ts:List Addr) (ps:List (Nat × Nat)) (f8 f9 f12 f13 f14 f15:Option V),SqL K H1 sc (ns.map V.int)/\H1 ol=some (.lst (os.map V.str))/\TwoB a.za H1 H b1 b2 os 600002 rs1 F1 rs2 F2/\H1 pl=none/\¬ F1 pl/\¬ F2 pl/\pl≠sl/\H sl=some (.lst [.int (rs1.length:Nat),.int (rs2.length:Nat)])/\H pl=some (.lst (ts.map V.ref))/\Paired (PairP H) ts ps/\(∀ p∈ps,p.1 < rs1.length/\p.2 < rs2.length)/\ps.length<=514/\σ=[some (.ref sc),some (.ref ol),some (.ref p1),some (.ref p2),some (.ref b1),some (.ref b2),some (.int (k2:Nat)),some (.int (k1:Nat)),f8,f9,some (.ref sl),some (.ref pl),f12,f13,f14,f15]) (fun t z=>(pss_cons (ps_for PassesOwn.never rfl (pi_range1 rfl T.n_range (pa_cons (pe_op op_mod (pe_op op_fdiv (pe_call za3 hr rfl T.m_x_law_cell_at T.za0.2 T.b_x_law_cell_at .nil pass0 (pa_cons (pv 0) (pa_cons pe_int pa_nil))) pe_int) pe_int) pa_nil)) (pg_name (i:=12) zb4.nd rfl (Or.inl rfl)) (pss_one (ps_expr (pe_call zE0 hr rfl T.m_x_law_turn T.zv4.2 T.b_x_law_turn .nil pass0 (pa_cons (pv 11) (pa_cons (pe_call za3 hr rfl T.m_x_law_cell_at T.za0.2 T.b_x_law_cell_at .nil pass0 (pa_cons (pv 0) (pa_cons (pe_op op_add pe_int (pv 12)) pa_nil))) (pa_cons (pe_ix ix_list (pv 10) pe_int (fun _ _=>rfl)) (pa_cons (pe_ix ix_list (pv 10) pe_int (fun _ _=>rfl)) pa_nil))))))))
   z)) ?_ ?_
 ·rintro u hu σ H ⟨H1,ol,b1,b2,sl,pl,os,p1,p2,k1,k2,rs1,rs2,F1,F2,ts,ps,f8,f9,f12,f13,f14,f15,hS1,hol,W,bs,n1,n2,nsl,hsl,hpl,hpp,hb,len,rfl⟩
  have m0:0<=cellF ns 2 / 4 % 3:=Int.emod_nonneg _ (by decide)
  have m1:cellF ns 2 / 4 % 3 < 3:=Int.emod_lt_of_pos _ (by decide)
  have l1:=Bdd.len2 (L.bk W.k1)
  have l2:=Bdd.len2 (L.bk W.k2)
  refine ⟨_,rfl,sc,ns,2,rfl,W.same.seq hS1,_,4,rfl,rfl,⟨by decide,by decide⟩,_,3,rfl,rfl,(show (0:Int) < 3 by decide),cellF ns 2 / 4 % 3,rfl,by omega,by omega,?_⟩
  refine for_range (fun i σ H'=>∃ (ts:List Addr) (ps:List (Nat × Nat)) (f12 f13 f14 f15:Option V),TwoB a.za H1 H' b1 b2 os 600002 rs1 F1 rs2 F2/\H' sl=some (.lst [.int (rs1.length:Nat),.int (rs2.length:Nat)])/\H' pl=some (.lst (ts.map V.ref))/\Paired (PairP H') ts ps/\(∀ p∈ps,p.1 < rs1.length/\p.2 < rs2.length)/\ps.length<=512 + i/\σ=[some (.ref sc),some (.ref ol),some (.ref p1),some (.ref p2),some (.ref b1),some (.ref b2),some (.int (k2:Nat)),some (.int (k1:Nat)),f8,f9,some (.ref sl),some (.ref pl),f12,f13,f14,f15]) ⟨ts,ps,_,_,_,_,W,hsl,hpl,hpp,hb,len,rfl⟩ ?_ ?_
  ·rintro i σ H' hi ⟨ts,ps,f12,f13,f14,f15,W',hsl',hpl',hpp',hb',len',rfl⟩
   have i4:i < 3:=by omega
   refine ⟨_,rfl,_,rfl,_,rfl,3,_,rfl,rfl,sc,ns,3 + i,?_,W'.same.seq hS1,?_⟩
   ·show [V.ref sc,V.int (3 + (0 + (i:Int)))]=[V.ref sc,V.int ((3 + i:Nat):Int)]
    rw [Int.zero_add]; rfl
   refine ⟨_,rfl,sl,_,0,_,rfl,rfl,SqL.of hsl',at0,_,rfl,sl,_,1,_,rfl,rfl,SqL.of hsl',atI_nat (j:=1) rfl,?_⟩
   refine ⟨pl,_,rs1.length,rs2.length,ts,ps,H1,rfl,by omega,by omega,W'.same,bs,hpl',hpp',hb',by omega,fun H'' ts' ps' s1 kp hpl'' hpp'' hb'' len''=>?_⟩
   have T9:Tups H' H'':=fun x xs e=>kp x _ e fun z=>by rw [z,hpl'] at e; cases e
   exact ⟨ts',ps',_,_,_,_,⟨s1,W'.aw1,W'.aw2,L.frame W'.k1 (fun x o e fx=>kp x o e fun z=>n1 (by rw [← z]; exact fx)) T9,L.frame W'.k2 (fun x o e fx=>kp x o e fun z=>n2 (by rw [← z]; exact fx)) T9,W'.sep,W'.len1,W'.len2⟩,kp _ _ hsl' (Ne.symm nsl),hpl'',hpp'',hb'',by omega,rfl⟩
  ·rintro σ H' ⟨ts,ps,f12,f13,f14,f15,W',hsl',hpl',hpp',hb',len',rfl⟩
   exact hu _ _ ⟨H1,ol,b1,b2,sl,pl,os,p1,p2,k1,k2,rs1,rs2,F1,F2,ts,ps,_,_,_,_,_,_,hS1,hol,W',bs,n1,n2,nsl,hsl',hpl',hpp',hb',by omega,rfl⟩
 refine ⟨_,(pss_cons (ps_set (i:=13) zb4.nd rfl (Or.inl rfl) (pe_callTy call_list_of rfl T.n_list bt_list (pa_cons (pv 11) pa_nil)))
   (pss_cons (ps_set (i:=14) zb4.nd rfl (Or.inl rfl) (pe_call zd7 hr rfl T.m_are_alike_by T.zc4.2 T.b_are_alike_by .nil pass0 (pa_cons (pv 4) (pa_cons (pv 5) (pa_cons (pv 13) pa_nil)))))
   (pss_cons (ps_if (PW.pt (pw_or (pt_not (pt_truth (pe_callB call_isinst rfl T.n_isinstance bt_isinstance (pa_cons (pv 14) (pa_cons (pe_bltn (v:=.ty "bool") rfl T.n_bool bt_bool rfl) pa_nil))) (fun _=>rfl))) (pw_or (pt_cmpR op_ne (pv 14) (pe_call zy6 hr rfl T.m_x_law_shows T.zn2.2 T.b_x_law_shows .nil pass0 (pa_cons (pv 4) (pa_cons (pv 5) (pa_cons (pv 11) pa_nil)))) (nomark _)) (pw_or1 (pt_cmpR (op_neD rfl (hu8 hr)) (pv 13) (pv 11) (nomark _)))))) (pss_one (ps_ret pe_bl)) pss_nil)
   (pss_cons (ps_if (pt_cmpR (op_neD rfl (hu8 hr)) (pe_lst (pa_cons (pe_meth0 (pv 4) T.c_Book T.e_Book_size zs1 hr T.b_Book_size .nil pass0) (pa_cons (pe_meth0 (pv 5) T.c_Book T.e_Book_size zs1 hr T.b_Book_size .nil pass0) pa_nil))) (pv 10) (nomark _)) (pss_one (ps_ret pe_bl)) pss_nil)
   (pss_one (ps_ret (pe_or (pe_cmpR op_lt (pe_callB call_len_seq rfl T.n_len bt_len (pa_cons (pv 1) pa_nil)) pe_int (nomark _)) (pe_one (pe_call zy8 hr rfl T.m_x_law_forged_told T.zj0.2 T.b_x_law_forged_told .nil pass0 (pa_cons (pv 4) (pa_cons (pv 5) (pa_cons (pv 1) pa_nil)))))))))))),?_⟩
 rintro σ H ⟨H1,ol,b1,b2,sl,pl,os,p1,p2,k1,k2,rs1,rs2,F1,F2,ts,ps,f8,f9,f12,f13,f14,f15,hS1,hol,W,bs,n1,n2,nsl,hsl,hpl,hpp,hb,len,rfl⟩
 refine ⟨_,rfl,pl,_,rfl,.inl (SqL.of hpl),fun l2 hl2=>?_⟩
 have j1:=Same.new hl2 (.lst (ts.map V.ref))
 have e2:upd H l2 (.lst (ts.map V.ref)) l2=some (.lst (ts.map V.ref)):=upd_same
 generalize upd H l2 (.lst (ts.map V.ref))=H2 at j1 e2
 have W2:=W.new j1
 refine ⟨_,rfl,_,rfl,_,rfl,b1,b2,l2,os,rs1,rs2,F1,F2,ts,ps,rfl,W2.k1,W2.k2,SqL.of e2,pd_imp (fun _ _ e=>j1 _ _ e) hpp,hb,by omega,fun H3 g3=>?_⟩
 have W3:=W2.new g3
 have g13:=j1.trans g3
 refine ⟨_,rfl,_,_,_,true,rfl,.bl _,rfl,_,rfl,ite2 (fun z=>by cases z) (fun _=>?_)⟩
 refine ⟨_,rfl,_,rfl,_,rfl,_,rfl,b1,b2,pl,os,rs1,rs2,F1,F2,ts,ps,rfl,W3.k1,W3.k2,SqL.of (g13 _ _ hpl),pd_imp (fun _ _ e=>g13 _ _ e) hpp,hb,by omega,fun H4 g4=>?_⟩
 refine ⟨rfl,_,rfl,iteNe2 rfl ?_⟩
 have W4:=W3.new g4
 have g14:=g13.trans g4
 refine ⟨_,rfl,_,rfl,true,(fun z=>by cases z.1),eq_ll (SqL.of (g4 _ _ (g3 _ _ e2))) (SqL.of (g14 _ _ hpl)) rfl (fun j x y hx hy=>?_),_,rfl,iteF ?_⟩
 ·rw [hx] at hy
  cases hy
  rw [List.getElem?_map] at hx
  cases ht:ts[j]? with
  | none=>rw [ht] at hx; cases hx
  | some t =>
   rw [ht] at hx
   cases hx
   obtain ⟨w,ew,tw⟩:=pd_at hpp ht
   have tw':=g14 _ _ tw
   exact eq_tt (SqT.of tw') (SqT.of tw') rfl
 obtain ⟨dx3,fs3,hins3,hm3⟩:=L.ins W4.k1
 refine ⟨_,rfl,b1,dx3,fs3,rfl,hins3,hm3 _ (by decide +kernel),b1,os,rs1,F1,rfl,W4.k1,fun H9 g9=>?_⟩
 have W9:=W4.new g9
 obtain ⟨dx4,fs4,hins4,hm4⟩:=L.ins W9.k2
 refine ⟨_,rfl,b2,dx4,fs4,rfl,hins4,hm4 _ (by decide +kernel),b2,os,rs2,F2,rfl,W9.k2,fun H10 g10=>?_⟩
 refine ⟨by show 2<=sizeLine; decide,fun el2 hel2=>?_⟩
 have gA:=Same.new hel2 (.lst [.int (rs1.length:Nat),.int (rs2.length:Nat)])
 have gB:=g9.trans (g10.trans gA)
 have WB:=W4.new gB
 refine ⟨_,rfl,true,(fun z=>by cases z.1),eq_sameB (SqL.of upd_same) (SqL.of ((g14.trans gB) _ _ hsl)) (by simp [flatV]),_,rfl,iteF ?_⟩
 have lo5:(os.map V.str).length=os.length:=List.length_map _
 refine ⟨_,rfl,ol,_,rfl,.inl (SqL.of (WB.same _ _ hol)),_,_,rfl,rfl,_,rfl,ite2 (fun c=>?_) (fun c=>?_)⟩
 ·exact q _
 ·have nn:2<=os.length:=by
   rcases Nat.lt_or_ge os.length 2 with z | z
   ·exact absurd (decide_eq_true (by rw [lo5]; omega)) c
   ·exact z
  exact ⟨_,rfl,_,rfl,_,rfl,b1,b2,ol,os,rs1,rs2,F1,F2,H1,rfl,⟨WB.same,WB.aw1,WB.aw2,WB.k1,WB.k2,WB.sep,Nat.le_trans WB.len1 (by decide),Nat.le_trans WB.len2 (by decide)⟩,SqL.of hol,nn,fun H'=>q _⟩
end
end K42
namespace K42
open PySem L2 Sen
section
variable {P:Program} {w:World} {K:PySem.W.Frag} {mg:Str->Option Value} {base:Heap} {a:Ad} {k:Nat}
theorem law_all (T:Txt P w K mg a) (base:Heap):FnOk P w K mg base CX0 60 a.zD3 a.zB5 ["script"] (spLaw K):=by
 have cell:FnOk P w K mg base CX0 1 a.zb0 a.zb1 ["script", "k"] (spCellAt K):=ok_cell_at (k:=0) T
 have draw:FnOk P w K mg base CX0 1 a.ze2 a.ze3 ["cell", "k", "bound"] spDraw:=ok_draw (k:=0) T
 have order:=ok_order (k:=1) T draw
 have sentence:=ok_sentence (k:=1) T cell draw
 have cnt:=ok_count (k:=1) (base:=base) T 20
 have short:=ok_short (k:=21) T (sentence.mono (by decide)) cnt
 have allRows:FnOk P w K mg base CX0 2 a.zh5 a.zh6 ["marks"] spAllRows:=ok_all_rows (k:=1) T
 have rowsWith:FnOk P w K mg base CX0 1 a.zd2 a.zd3 ["place", "marks"] spRowsWith:=ok_rows_with (k:=0) T
 have flipped:=ok_flipped (k:=1) T rowsWith
 have isMark:FnOk P w K mg base CX0 1 a.zo a.zo0 ["letter"] spIsMark:=ok_is_mark (k:=0) T
 have isOrder:=ok_is_order (k:=1) T isMark
 have lettersOf:FnOk P w K mg base CX0 1 a.zg8 a.zg9 ["sentence"] spLettersOf:=ok_letters_of (k:=0) T
 have partsOf:FnOk P w K mg base CX0 1 a.zf2 a.zf3 ["sentence"] spPartsOf:=ok_parts_of (k:=0) T
 have partsOfAll:=ok_parts_of_all (k:=1) T partsOf
 have shaped:=ok_is_shaped (k:=1) T isMark lettersOf partsOf
 have isSen:=ok_is_sentence (k:=2) T shaped partsOfAll
 have mustOrder:=ok_must_be_order (k:=2) T isOrder
 have mustSen:=ok_must_be_sentence (k:=3) T isSen
 have tuplesIn:=ok_tuples_in (k:=2) T partsOfAll
 have lettersIn:=ok_letters_in (k:=3) T tuplesIn (lettersOf.mono (by decide))
 have mustMark:FnOk P w K mg base CX0 1 a.zd9 a.ze ["order", "letter"] (spMustMark K):=ok_must_have_mark (k:=0) T
 have mustMarks:=ok_must_have_marks (k:=4) T lettersIn (mustMark.mono (by decide))
 have two:FnOk P w K mg base CX0 2 a.zd5 a.zd6 ["word", "one", "other", "every"] spTwo:=ok_table_of_two (k:=1) T
 have table:=ok_table_of (k:=2) T allRows (rowsWith.mono (by decide)) flipped (partsOf.mono (by decide)) two 24
 have heldAt:=ok_held_at (k:=2) T (rowsWith.mono (by decide)) flipped
 have hangs:=ok_hangs_on (k:=2) T flipped
 have first:=ok_first_place (k:=3) T hangs
 have roomWith:=ok_Book_room_with (k:=4) T first (heldAt.mono (by decide)) 9
 have enter:=ok_Book_enter (k:=26) T (mustSen.mono (by decide)) (mustMarks.mono (by decide)) table (roomWith.mono (by decide))
 have init:=ok_Book_init (k:=3) T mustOrder (allRows.mono (by decide))
 have mbr:FnOk P w K mg base CX0 1 a.za4 a.za5 ["self", "number"] (spMustRoom a.za):=ok_Book_must_be_room (k:=0) T
 have ordr:FnOk P w K mg base CX0 1 a.zc5 a.zc6 ["self"] (spBookOrder (BookAt a.za)):=ok_Book_order (k:=0) T
 have plc:FnOk P w K mg base CX0 1 a.za7 a.za8 ["self", "number"] (spPlaceOf a.za):=ok_Book_place_of (k:=0) T
 have goi:FnOk P w K mg base CX0 1 a.ze0 a.ze1 ["self", "number", "value"] (spGoing a.za):=ok_Book_going (k:=0) T
 have tat:FnOk P w K mg base CX0 1 a.zf6 a.zf7 ["self", "number"] (spTableAt a.za):=ok_Book_table_at (k:=0) T
 have size:FnOk P w K mg base CX0 1 a.zl8 a.zl9 ["self"] (spBookSize (BookAt a.za)):=ok_Book_size (k:=0) T
 have cellF:FnOk P w K mg base CX0 1 a.zb0 a.zb1 ["script", "k"] (spCellF K):=ok_cell_f (k:=0) T
 have led:=ok_Book_led (k:=1) T plc goi
 have fvals:=ok_first_values (k:=3) T heldAt
 have frow:=ok_first_row (k:=4) T fvals
 have oneOrd:=ok_must_have_one_order (k:=1) T ordr
 have apa:=ok_apart (k:=5) T (mbr.mono (by decide)) (tat.mono (by decide)) (ordr.mono (by decide)) (oneOrd.mono (by decide)) frow
 have addP:=ok_add_pairsA (k:=2) T (plc.mono (by decide)) (ordr.mono (by decide)) led 9
 have pairs:=ok_pairs_fromA (k:=11) T addP
 have alike:=ok_alike (k:=12) T (apa.mono (by decide)) pairs
 have isAl:=ok_is_alike_by (k:=1) T plc goi
 have areAl:=ok_are_alike_by (k:=2) T (mbr.mono (by decide)) oneOrd isAl
 have room:=ok_Book_room (k:=1) T mbr plc goi
 have whole:FnOk P w K mg base CX0 1 a.zi5 a.zi6 ["found"] spWhole:=ok_whole (k:=0) T
 have rows2:FnOk P w K mg base CX0 1 a.zk0 a.zk1 ["many"] spLawRows2:=ok_law_rows2 (k:=0) T
 have value:=ok_value (k:=1) (base:=base) (K:=K) T 22
 have anyOrder:=ok_any_order2 (k:=2) T (draw.mono (by decide)) order
 have shows:=ok_law_shows42 (k:=2) (K:=K) T room
 have formed:=ok_law_formed42 (k:=1) T whole
 have turn:FnOk P w K mg base CX0 1 a.zk2 a.zk3 ["pairs", "cell", "one", "two"] spTurn42:=ok_law_turn42 (k:=0) T
 have forged:=ok_law_forged42 (k:=30) (K:=K) T (enter.mono (by decide)) (areAl.mono (by decide))
 exact ok_law (k:=58) T (cellF.mono (by decide)) (anyOrder.mono (by decide)) (short.mono (by decide)) (rows2.mono (by decide)) (value.mono (by decide)) (init.mono (by decide)) (enter.mono (by decide)) (size.mono (by decide)) (alike.mono (by decide)) (areAl.mono (by decide)) (shows.mono (by decide)) (formed.mono (by decide)) (turn.mono (by decide)) (forged.mono (by decide))
end
end K42
def PySem.W.Fast.tw10375693042888174960:Nat:=0
def PySem.W.Fast.tw9437157624660155149:Nat:=0
def PySem.W.Fast.tw11530585449024142467:Nat:=0
def PySem.W.Fast.tw5496226223658622977:Nat:=0
def PySem.W.Fast.tw5263483123788483959:Nat:=0
def PySem.W.Fast.tw15247406371815639938:Nat:=0
def PySem.W.Fast.tw3209572038753093764:Nat:=0
def PySem.W.Fast.tw16267205086685543292:Nat:=0
def PySem.W.Fast.tw3082138683944325230:Nat:=0
def PySem.W.Fast.tw10171414613695639455:Nat:=0
def PySem.W.Fast.tw12807935811547807612:Nat:=0
def PySem.W.Fast.tw13254330923603599254:Nat:=0
def PySem.W.Fast.tw16947378948258993935:Nat:=0
def PySem.W.Fast.tw3621439899353917776:Nat:=0
def PySem.W.Fast.tw17698934457606770966:Nat:=0
def PySem.W.Fast.tw382512859163132538:Nat:=0
def PySem.W.Fast.tw3189933352970539886:Nat:=0
def PySem.W.Fast.tw16406465735637113722:Nat:=0
def PySem.W.Fast.tw3641059809186453267:Nat:=0
def PySem.W.Fast.tw14541147168446050327:Nat:=0
def PySem.W.Fast.tw16957886341309227794:Nat:=0
def PySem.W.Fast.tw2299503158604698944:Nat:=0
def PySem.W.Fast.tw10779286510225715103:Nat:=0
def PySem.W.Fast.tw10512196387677158888:Nat:=0
def PySem.W.Fast.tw9752338004222837480:Nat:=0
def PySem.W.Fast.tw6320021105188479411:Nat:=0
def PySem.W.Fast.tw13794508526357097971:Nat:=0
def PySem.W.Fast.tw16362615907457810315:Nat:=0
def PySem.W.Fast.tw12816083945421184913:Nat:=0
def PySem.W.Fast.tw14902302954790031445:Nat:=0
def PySem.W.Fast.tw6946564554327078196:Nat:=0
def PySem.W.Fast.tw14185167041353908900:Nat:=0
def PySem.W.Fast.tw12811001992323930005:Nat:=0
def PySem.W.Fast.tw15826843110170867232:Nat:=0
def PySem.W.Fast.tw12543671828702589202:Nat:=0
def PySem.W.Fast.tw1105733735022077062:Nat:=0
def PySem.W.Fast.tw6778721360930862773:Nat:=0
def PySem.W.Fast.tw2176469790370539492:Nat:=0
def PySem.W.Fast.tw13535205303000928004:Nat:=0
def PySem.W.Fast.tw1533724497447236785:Nat:=0
def PySem.W.Fast.tw10472686637599251226:Nat:=0
def PySem.W.Fast.tw1054558102674166885:Nat:=0
def PySem.W.Fast.tw12971694271035044310:Nat:=0
def PySem.W.Fast.tw12502975948772323908:Nat:=0
def PySem.W.Fast.tw7109451201623839125:Nat:=0
def PySem.W.Fast.tw18429374087298182184:Nat:=0
def PySem.W.Fast.tw15186280366527632125:Nat:=0
def PySem.W.Fast.tw8483824313354243318:Nat:=0
def PySem.W.Fast.tw3650860926831229703:Nat:=0
def PySem.W.Fast.tw17603309090180454974:Nat:=0
def PySem.W.Fast.tw17231211665783179767:Nat:=0
def PySem.W.Fast.tw2226902919196374475:Nat:=0
def PySem.W.Fast.tw3438515578592991328:Nat:=0
def PySem.W.Fast.tw4725902938816907461:Nat:=0
def PySem.W.Fast.tw4470812095901953682:Nat:=0
def PySem.W.Fast.tw13905316589074430403:Nat:=0
def PySem.W.Fast.tw16617291675749957264:Nat:=0
def PySem.W.Fast.tw10938744570807691938:Nat:=0
def PySem.W.Fast.tw16005705160469622335:Nat:=0
def PySem.W.Fast.tw5425531968125221288:Nat:=0
def PySem.W.Fast.tw2448894543800398543:Nat:=0
def PySem.W.Fast.tw2693792022823041970:Nat:=0
def PySem.W.Fast.tw7221140230700106825:Nat:=0
def PySem.W.Fast.tw2269978896753320553:Nat:=0
def PySem.W.Fast.tw12835148797360455130:Nat:=0
def PySem.W.Fast.tw14275285458907831369:Nat:=0
def PySem.W.Fast.tw16814537130476345744:Nat:=0
def PySem.W.Fast.tw10337721390079443858:Nat:=0
def PySem.W.Fast.tw17116499818635526050:Nat:=0
def PySem.W.Fast.tw12092793588818257789:Nat:=0
def PySem.W.Fast.tw8861315958351633005:Nat:=0
def PySem.W.Fast.tw4484323223688827104:Nat:=0
def PySem.W.Fast.tw16996722916357605833:Nat:=0
def PySem.W.Fast.tw2849548010222102610:Nat:=0
def PySem.W.Fast.tw3364819991313705774:Nat:=0
def PySem.W.Fast.tw12295844447853686626:Nat:=0
def PySem.W.Fast.tw12775586596105918423:Nat:=0
def PySem.W.Fast.tw16947363556992938499:Nat:=0
def PySem.W.Fast.tw9386327336668733890:Nat:=0
def PySem.W.Fast.tw10047724290622883122:Nat:=0
def PySem.W.Fast.tw11940952623246790551:Nat:=0
def PySem.W.Fast.tw1508244739048576136:Nat:=0
def PySem.W.Fast.tw13604752683098247150:Nat:=0
def PySem.W.Fast.tw6452081517452477969:Nat:=0
def PySem.W.Fast.tw13512106233661516645:Nat:=0
def PySem.W.Fast.tw11554643535558305637:Nat:=0
def PySem.W.Fast.tw9807379843663365812:Nat:=0
def PySem.W.Fast.tw855481865801523393:Nat:=0
def PySem.W.Fast.tw6769757663283065745:Nat:=0
def PySem.W.Fast.tw3719500221432831083:Nat:=0
def PySem.W.Fast.tw15832014862530146749:Nat:=0
def PySem.W.Fast.tw9940425925324282149:Nat:=0
def PySem.W.Fast.tw5997644952429140832:Nat:=0
def PySem.W.Fast.tw17870734921636747962:Nat:=0
def PySem.W.Fast.tw3354790136081122233:Nat:=0
def PySem.W.Fast.tw3181319335844534749:Nat:=0
def PySem.W.Fast.tw3638666760619545772:Nat:=0
def PySem.W.Fast.tw1553574229618809155:Nat:=0
def PySem.W.Fast.tw247694293825261772:Nat:=0
def PySem.W.Fast.tw7593530543202335517:Nat:=0
def PySem.W.Fast.tw9367085120999180711:Nat:=0
def PySem.W.Fast.tw4420775708573054337:Nat:=0
def PySem.W.Fast.tw1525285813162215413:Nat:=0
def PySem.W.Fast.tw15683127891115520261:Nat:=0
def PySem.W.Fast.tw5968067544248353960:Nat:=0
def PySem.W.Fast.tw11782028708262322657:Nat:=0
def PySem.W.Fast.tw3537080857705219243:Nat:=0
def PySem.W.Fast.tw7386573241801669510:Nat:=0
open PySem PySem.W PyProof.Rows
set_option maxRecDepth 100000 in
set_option maxHeartbeats 0 in
theorem PySem.Challenge.cw_decidebook_k42_pairs_that_show_one_meani_holds : PySem.Challenge.rw_decidebook_k42_pairs_that_show_one_meani.Holds := by
  w_on; o_law; k_head; (case hw => w_witness2)
  k_fill
  refine L2.walk_ofK (l := PySem.Challenge.rw_decidebook_k42_pairs_that_show_one_meani) (n := 63) (k := 60) (x := "script") (CX := L2.CX0) (sp := Sen.spLaw) rfl (by decide) rfl ⟨rfl, by decide, by decide⟩ (fun w h Y => PySem.W.kIn_of Y) ?F ?S ?C
  case F =>
    intro w mg fa h KX G hmg
    have T : ∃ a, K42.Txt PySem.Challenge.rw_decidebook_k42_pairs_that_show_one_meani.prog w (L2.KOf KX) mg a := by
      dsimp only [L2.KOf]
      refine' K42.txt_mk KX G ?za ?a0 ?F0 ?a1 ?F1 ?a2 ?F2 ?a3 ?F3 ?a4 ?F4 ?a5 ?F5 ?a6 ?F6 ?a7 ?F7 ?a8 ?F8 ?a9 ?F9 ?a10 ?F10 ?a11 ?F11 ?a12 ?F12 ?a13 ?F13 ?a14 ?F14 ?a15 ?F15 ?a16 ?F16 ?a17 ?F17 ?a18 ?F18 ?a19 ?F19 ?a20 ?F20 ?a21 ?F21 ?a22 ?F22 ?a23 ?F23 ?a24 ?F24 ?a25 ?F25 ?a26 ?F26 ?a27 ?F27 ?a28 ?F28 ?a29 ?F29 ?a30 ?i30 ?F30 ?a31 ?i31 ?F31 ?a32 ?i32 ?F32 ?a33 ?i33 ?F33 ?a34 ?i34 ?F34 ?a35 ?i35 ?F35 ?a36 ?i36 ?F36 ?a37 ?i37 ?F37 ?a38 ?i38 ?F38 ?a39 ?i39 ?F39 ?a40 ?i40 ?F40 ?a41 ?F41 ?a42 ?F42 ?a43 ?F43 ?a44 ?F44 ?a45 ?F45 ?a46 ?F46 ?a47 ?F47 ?a48 ?F48 ?a49 ?F49 ?a50 ?F50 ?a51 ?F51 ?a52 ?F52 ?a53 ?F53 ?a54 ?F54 ?a55 ?F55 ?pg_Book ?hd_Book ?po_Book ?sa_Book ?mk_Book ?kc_Book ?na_Book_marks ?na_Book_rooms ?na_Book_tables ?na_Book_numbers ?zo1 ?l_MARKS ?v_MARKS ?zt3 ?zx1 ?zg0 ?l_SHAPES ?e_SHAPES ?s_SHAPES ?lSHAPES_0 ?vSHAPES_0 ?lSHAPES_1 ?vSHAPES_1 ?lSHAPES_2 ?vSHAPES_2 ?lSHAPES_3 ?vSHAPES_3 ?lSHAPES_4 ?vSHAPES_4 ?lSHAPES_5 ?vSHAPES_5 ?lSHAPES_6 ?vSHAPES_6 ?lSHAPES_7 ?vSHAPES_7 ?lSHAPES_8 ?vSHAPES_8 ?lSHAPES_9 ?vSHAPES_9 ?z_all ?z_bool ?z_int ?z_isinstance ?z_len ?z_list ?z_min ?z_range ?z_reversed ?z_set ?z_sorted ?z_str ?z_sum ?z_tuple
      (case za => k_is)
      (case a0 => k_is)
      (case F0 => apply L2.fun_mk; k_is; k_is; k_is)
      (case a1 => k_is)
      (case F1 => apply L2.fun_mk; k_is; k_is; k_is)
      (case a2 => k_is)
      (case F2 => apply L2.fun_mk; k_is; k_is; k_is)
      (case a3 => k_is)
      (case F3 => apply L2.fun_mk; k_is; k_is; k_is)
      (case a4 => k_is)
      (case F4 => apply L2.fun_mk; k_is; k_is; k_is)
      (case a5 => k_is)
      (case F5 => apply L2.fun_mk; k_is; k_is; k_is)
      (case a6 => k_is)
      (case F6 => apply L2.fun_mk; k_is; k_is; k_is)
      (case a7 => k_is)
      (case F7 => apply L2.fun_mk; k_is; k_is; k_is)
      (case a8 => k_is)
      (case F8 => apply L2.fun_mk; k_is; k_is; k_is)
      (case a9 => k_is)
      (case F9 => apply L2.fun_mk; k_is; k_is; k_is)
      (case a10 => k_is)
      (case F10 => apply L2.fun_mk; k_is; k_is; k_is)
      (case a11 => k_is)
      (case F11 => apply L2.fun_mk; k_is; k_is; k_is)
      (case a12 => k_is)
      (case F12 => apply L2.fun_mk; k_is; k_is; k_is)
      (case a13 => k_is)
      (case F13 => apply L2.fun_mk; k_is; k_is; k_is)
      (case a14 => k_is)
      (case F14 => apply L2.fun_mk; k_is; k_is; k_is)
      (case a15 => k_is)
      (case F15 => apply L2.fun_mk; k_is; k_is; k_is)
      (case a16 => k_is)
      (case F16 => apply L2.fun_mk; k_is; k_is; k_is)
      (case a17 => k_is)
      (case F17 => apply L2.fun_mk; k_is; k_is; k_is)
      (case a18 => k_is)
      (case F18 => apply L2.fun_mk; k_is; k_is; k_is)
      (case a19 => k_is)
      (case F19 => apply L2.fun_mk; k_is; k_is; k_is)
      (case a20 => k_is)
      (case F20 => apply L2.fun_mk; k_is; k_is; k_is)
      (case a21 => k_is)
      (case F21 => apply L2.fun_mk; k_is; k_is; k_is)
      (case a22 => k_is)
      (case F22 => apply L2.fun_mk; k_is; k_is; k_is)
      (case a23 => k_is)
      (case F23 => apply L2.fun_mk; k_is; k_is; k_is)
      (case a24 => k_is)
      (case F24 => apply L2.fun_mk; k_is; k_is; k_is)
      (case a25 => k_is)
      (case F25 => apply L2.fun_mk; k_is; k_is; k_is)
      (case a26 => k_is)
      (case F26 => apply L2.fun_mk; k_is; k_is; k_is)
      (case a27 => k_is)
      (case F27 => apply L2.fun_mk; k_is; k_is; k_is)
      (case a28 => k_is)
      (case F28 => apply L2.fun_mk; k_is; k_is; k_is)
      (case a29 => k_is)
      (case F29 => apply L2.fun_mk; k_is; k_is; k_is)
      (case a30 => k_is)
      (case i30 => k_is)
      (case F30 => apply L2.fun_mk; k_is; k_is; k_is)
      (case a31 => k_is)
      (case i31 => k_is)
      (case F31 => apply L2.fun_mk; k_is; k_is; k_is)
      (case a32 => k_is)
      (case i32 => k_is)
      (case F32 => apply L2.fun_mk; k_is; k_is; k_is)
      (case a33 => k_is)
      (case i33 => k_is)
      (case F33 => apply L2.fun_mk; k_is; k_is; k_is)
      (case a34 => k_is)
      (case i34 => k_is)
      (case F34 => apply L2.fun_mk; k_is; k_is; k_is)
      (case a35 => k_is)
      (case i35 => k_is)
      (case F35 => apply L2.fun_mk; k_is; k_is; k_is)
      (case a36 => k_is)
      (case i36 => k_is)
      (case F36 => apply L2.fun_mk; k_is; k_is; k_is)
      (case a37 => k_is)
      (case i37 => k_is)
      (case F37 => apply L2.fun_mk; k_is; k_is; k_is)
      (case a38 => k_is)
      (case i38 => k_is)
      (case F38 => apply L2.fun_mk; k_is; k_is; k_is)
      (case a39 => k_is)
      (case i39 => k_is)
      (case F39 => apply L2.fun_mk; k_is; k_is; k_is)
      (case a40 => k_is)
      (case i40 => k_is)
      (case F40 => apply L2.fun_mk; k_is; k_is; k_is)
      (case a41 => k_is)
      (case F41 => apply L2.fun_mk; k_is; k_is; k_is)
      (case a42 => k_is)
      (case F42 => apply L2.fun_mk; k_is; k_is; k_is)
      (case a43 => k_is)
      (case F43 => apply L2.fun_mk; k_is; k_is; k_is)
      (case a44 => k_is)
      (case F44 => apply L2.fun_mk; k_is; k_is; k_is)
      (case a45 => k_is)
      (case F45 => apply L2.fun_mk; k_is; k_is; k_is)
      (case a46 => k_is)
      (case F46 => apply L2.fun_mk; k_is; k_is; k_is)
      (case a47 => k_is)
      (case F47 => apply L2.fun_mk; k_is; k_is; k_is)
      (case a48 => k_is)
      (case F48 => apply L2.fun_mk; k_is; k_is; k_is)
      (case a49 => k_is)
      (case F49 => apply L2.fun_mk; k_is; k_is; k_is)
      (case a50 => k_is)
      (case F50 => apply L2.fun_mk; k_is; k_is; k_is)
      (case a51 => k_is)
      (case F51 => apply L2.fun_mk; k_is; k_is; k_is)
      (case a52 => k_is)
      (case F52 => apply L2.fun_mk; k_is; k_is; k_is)
      (case a53 => k_is)
      (case F53 => apply L2.fun_mk; k_is; k_is; k_is)
      (case a54 => k_is)
      (case F54 => apply L2.fun_mk; k_is; k_is; k_is)
      (case a55 => k_is)
      (case F55 => apply L2.fun_mk; k_is; k_is; k_is)
      (case pg_Book => k_is)
      (case hd_Book => k_is)
      (case po_Book => k_is)
      (case sa_Book => k_is)
      (case mk_Book => k_is)
      (case kc_Book => k_is)
      (case na_Book_marks => k_is)
      (case na_Book_rooms => k_is)
      (case na_Book_tables => k_is)
      (case na_Book_numbers => k_is)
      (case zo1 => k_is)
      (case l_MARKS => k_is)
      (case v_MARKS => rfl)
      (case zt3 => k_is)
      (case zx1 => k_is)
      (case zg0 => k_is)
      (case l_SHAPES => k_is)
      (case e_SHAPES => rfl)
      (case s_SHAPES => rfl)
      (case lSHAPES_0 => k_is)
      (case vSHAPES_0 => rfl)
      (case lSHAPES_1 => k_is)
      (case vSHAPES_1 => rfl)
      (case lSHAPES_2 => k_is)
      (case vSHAPES_2 => rfl)
      (case lSHAPES_3 => k_is)
      (case vSHAPES_3 => rfl)
      (case lSHAPES_4 => k_is)
      (case vSHAPES_4 => rfl)
      (case lSHAPES_5 => k_is)
      (case vSHAPES_5 => rfl)
      (case lSHAPES_6 => k_is)
      (case vSHAPES_6 => rfl)
      (case lSHAPES_7 => k_is)
      (case vSHAPES_7 => rfl)
      (case lSHAPES_8 => k_is)
      (case vSHAPES_8 => rfl)
      (case lSHAPES_9 => k_is)
      (case vSHAPES_9 => rfl)
      (case z_all => k_is)
      (case z_bool => k_is)
      (case z_int => k_is)
      (case z_isinstance => k_is)
      (case z_len => k_is)
      (case z_list => k_is)
      (case z_min => k_is)
      (case z_range => k_is)
      (case z_reversed => k_is)
      (case z_set => k_is)
      (case z_sorted => k_is)
      (case z_str => k_is)
      (case z_sum => k_is)
      (case z_tuple => k_is)
    obtain ⟨a, T⟩ := T
    have e0 := hmg.symm.trans T.m_law
    cases e0
    exact ⟨_, T.x_law, fun base kb nb => K42.law_all T base⟩
  case S => exact fun K H a ns hl hO hS => ⟨a, ns, rfl, hS, hl, fun _ => rfl⟩
  case C => exact fun _ _ _ _ h => h
