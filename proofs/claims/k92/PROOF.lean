import PyProof.Rows.All
import Wide.All
import OpenK.AllK
import Wide.FinOn
import Lean
import PyProof.EqAt
import PyProof.EqKinds
import PyProof.TupleCall
import KE.KRevIter
import PySem.Challenge.RW_decidebook_k92_whole_worlds_in_other_ord
set_option Elab.async false
set_option linter.all false
set_option maxRecDepth 100000
namespace L2
open PySem PySem.Spec PyProof.Rows
abbrev Key:=Sum Int Str
def La:Key->Value->Bool
 | .inl k,v=>Value.isInt k v
 | .inr x,v=>Value.isStrOf x v
def zjq (w:World):Key->Int
 | .inl k=>hashInt k
 | .inr x=>hashStr w x
theorem vA:∀{k:Key} {v:Value},La k v=true->(∃i t,k=Sum.inl i/\v=Value.int i t)\/(∃x t,k=Sum.inr x/\v=Value.str x t)
 | .inl i,v,h=>by
  obtain⟨t,e⟩:=Value.isInt_shape (k:=i) (v:=v) h
  exact .inl ⟨i,t,rfl,e⟩
 | .inr x,v,h=>by
  obtain⟨t,e⟩:=Value.isStrOf_shape (x:=x) (v:=v) h
  exact .inr ⟨x,t,rfl,e⟩
theorem zft (i:Int) (t:Tok):La (.inl i) (.int i t)=true:=by simp[La,Value.isInt]
theorem zfu (x:Str) (t:Tok):La (.inr x) (.str x t)=true:=by simp[La,Value.isStrOf]
theorem zie (a b:Int):decide ((Sum.inl a:Key)=Sum.inl b)=(a==b):=by
 by_cases e:a=b
 ·subst e; simp
 ·have h:¬(Sum.inl a:Key)=Sum.inl b:=fun q=>e (Sum.inl.inj q)
  rw[decide_eq_false h]
  exact(beq_eq_false_iff_ne.mpr e).symm
theorem zif (a b:Str):decide ((Sum.inr a:Key)=Sum.inr b)=decide (a=b):=by
 by_cases e:a=b
 ·subst e; simp
 ·have h:¬(Sum.inr a:Key)=Sum.inr b:=fun q=>e (Sum.inr.inj q)
  rw[decide_eq_false h,decide_eq_false e]
theorem zig (a:Int) (b:Str):decide ((Sum.inl a:Key)=Sum.inr b)=false:=decide_eq_false (fun q=>nomatch q)
theorem zih (a:Str) (b:Int):decide ((Sum.inr a:Key)=Sum.inl b)=false:=decide_eq_false (fun q=>nomatch q)
def xX (prog:Program) (w:World):PySem.KeyKind prog w Key where
 is:=La
 hash:=zjq w
 inj:=fun v a b ha hb=>by
  rcases vA ha with ⟨i,t,rfl,rfl⟩ | ⟨x,t,rfl,rfl⟩
  ·rcases vA hb with ⟨j,u,rfl,e⟩ | ⟨y,u,rfl,e⟩
   ·injection e with e1 _; rw[e1]
   ·exact nomatch e
  ·rcases vA hb with ⟨j,u,rfl,e⟩ | ⟨y,u,rfl,e⟩
   ·exact nomatch e
   ·injection e with e1 _; rw[e1]
 byValue:=fun k v h=>by
  rcases vA h with ⟨i,t,rfl,rfl⟩ | ⟨x,t,rfl,rfl⟩<;>rfl
 pyHash:=fun hv h=>by
  rcases vA hv with ⟨i,t,rfl,rfl⟩ | ⟨x,t,rfl,rfl⟩
  ·exact wpAny_pyHash_int h
  ·exact wpAny_pyHash_str h
 eqBool:=fun hu hv h=>by
  rcases vA hu with ⟨i,t,rfl,rfl⟩ | ⟨x,t,rfl,rfl⟩
  ·rcases vA hv with ⟨j,u,rfl,rfl⟩ | ⟨y,u,rfl,rfl⟩
   ·rw[zie] at h; exact wpAny_eqBool_int h
   ·rw[zig] at h; exact SeqAt.EqAt.int_str i t y u _ _ _ _ h
  ·rcases vA hv with ⟨j,u,rfl,rfl⟩ | ⟨y,u,rfl,rfl⟩
   ·rw[zih] at h; exact SeqAt.EqAt.str_int x t j u _ _ _ _ h
   ·rw[zif] at h; exact wpAny_eqBool_str h
 «strs»:=fun k x t v h=>by
  rcases vA h with ⟨i,u,rfl,e⟩ | ⟨y,u,rfl,e⟩
  ·exact nomatch e
  ·injection e with e1 _
   subst e1
   cases v<;>rfl
theorem zdM (prog:Program) (w:World) (i:Int) (t:Tok):(xX prog w).is (.inl i) (.int i t)=true:=zft i t
theorem zdN (prog:Program) (w:World) (x:Str) (t:Tok):(xX prog w).is (.inr x) (.str x t)=true:=zfu x t
end L2
namespace L2
open PySem PySem.Spec PyProof.Rows
inductive V where
 | non | bl (b:Bool) | int (i:Int) | str (x:Str) | byt (b:Array UInt8) | flt (b:UInt64) | ref (a:Addr) | ty (n:String)
 deriving DecidableEq
def RelV:V->Value->Prop
 | .non,u=>u=Value.none
 | .bl b,u=>u=Value.bool b
 | .int i,u=>∃t,u=Value.int i t
 | .str x,u=>∃t,u=Value.str x t
 | .byt b,u=>∃t,u=Value.bytes b t
 | .flt b,u=>∃t,u=Value.float b t
 | .ref a,u=>u=Value.ref a
 | .ty n,u=>u=Value.type n
abbrev Vals:List V->List Value->Prop:=Paired RelV
theorem Vals.length {xs:List V} {us:List Value} (r:Vals xs us):xs.length=us.length:=Paired.length r
theorem Vals.get:∀{xs:List V} {us:List Value} {i:Nat} {x:V},Vals xs us->xs[i]?=some x->∃u,us[i]?=some u/\RelV x u
 | _,_,_,_,.nil,e=>by simp at e
 | _,_,0,_,.cons r _,e=>by simp at e; subst e; exact⟨_,rfl,r⟩
 | _,_,i+1,x,.cons _ t,e=>by
  obtain⟨u,h1,h2⟩:=Vals.get (i:=i) (x:=x) t (by simpa using e)
  exact⟨u,by simpa using h1,h2⟩
theorem Vals.append:∀{xs ys:List V} {us ws:List Value},Vals xs us->Vals ys ws->Vals (xs++ys) (us++ws)
 | _,_,_,_,.nil,s=>s
 | _,_,_,_,.cons r t,s=>.cons r (Vals.append t s)
theorem Vals.take:∀{xs:List V} {us:List Value} (n:Nat),Vals xs us->Vals (xs.take n) (us.take n)
 | _,_,0,_=>.nil
 | _,_,_+1,.nil=>.nil
 | _,_,n+1,.cons r t=>.cons r (Vals.take n t)
theorem Vals.drop:∀{xs:List V} {us:List Value} (n:Nat),Vals xs us->Vals (xs.drop n) (us.drop n)
 | _,_,0,r=>r
 | _,_,_+1,.nil=>.nil
 | _,_,n+1,.cons _ t=>Vals.drop n t
def Yq:Option V->Option Value->Prop
 | some v,some u=>RelV v u
 | none,none=>True
 | _,_=>False
def KV {κ:Type}:List (κ×V)->List (κ×Value)->Prop:=Paired fun(p:κ×V) (q:κ×Value)=>p.1=q.1/\RelV p.2 q.2
def kV:Key->V
 | .inl i=>.int i
 | .inr x=>.str x
inductive HO where
 | lst (xs:List V)
 | tup (xs:List V)
 | dK (kvs:List (Key×V)) | dT (kvs:List (List Key×V))
 | set (S:Int->Bool) (n:Nat)
 | ins (C dx:Addr) (fs:List (Str×V))
 | own (x:Addr)
 | xd (fs:List (Str×V))
 | met (f x:Addr)
 | rng (lo hi:Int)
 | frz (o:Obj) (u:HO)
 | tbl (ps:Array Value)
 | ext (φ:Heap->Prop)
abbrev Hp:=Addr->Option HO
def upd (H:Hp) (a:Addr) (o:HO):Hp:=fun b=>if b=a then some o else H b
theorem zq {H:Hp} {a:Addr} {o:HO}:upd H a o a=some o:=by unfold upd; rw[if_pos rfl]
theorem zB {H:Hp} {a b:Addr} {o:HO} (h:b≠a):upd H a o b=H b:=by unfold upd; rw[if_neg h]
theorem zhn {H:Hp} {a:Addr} {o u:HO}:upd (upd H a o) a u=upd H a u:=by
 funext b; unfold upd; split<;>rfl
theorem Wc {H:Hp} {a b:Addr} {o u:HO} (h:H a=some o) (h':H b=some u) (d:o≠u):a≠b:=by
 intro e; subst e; rw[h] at h'; exact d (Option.some.inj h')
theorem zF {H:Hp} {a b:Addr} {o:HO} (h:H a=some o) (h':H b=none):a≠b:=by
 intro e; subst e; rw[h] at h'; cases h'
section
variable (P:Program) (w:World)
def xY (H:Hp) (h:Heap) (a:Addr):HO->Prop
 | .lst xs=>xs.length<=sizeLine/\∃(its:List Value) (n:Nat),Vals xs its/\h.get? a=some { cls:=.type "list", data:=.seq its.toArray n }
 | .tup xs=>xs.length<=sizeLine/\∃its:List Value,Vals xs its/\IsTup h a its.toArray
 | .dK kvs=>kvs.length<=sizeLine/\(a==sysModules)=false/\∃vs,KV kvs vs/\h.DictOf (xX P w) a vs
 | .dT kvs=>kvs.length<=sizeLine/\(a==sysModules)=false/\∃xs:List (List Key×Addr×Value),
   Paired (fun(p:List Key×V) (q:List Key×Addr×Value)=>p.1=q.1/\H q.2.1=some (.tup (p.1.map kV))/\RelV p.2 q.2.2) kvs xs /\
   ∃o es ep,h.get? a=some o/\o.ExactDict/\o.data=.dict es ep/\es.toList=xs.map (entryOfKey (tupleKind (xX P w)))/\(xs.map (·.1)).Nodup
 | .set S n=>h.SetOf (intKind P w) a S n
 | .ins C dx fs=>H dx=some (.own a)/\fs.length<=1000/\dx≠a/\h.get? a=some (PySem.W.instObj C dx) /\
   ∃mA,h.Ns1 dx mA/\(∀f,Yq (fs.lookup f) (mA f))/\PySem.Within mA (fs.map (·.1))
 | .own _=>∃o,h.get? a=some o
 | .xd fs=>∃mA,h.Ns1 a mA/\∀f,Yq (fs.lookup f) (mA f)
 | .rng lo hi=>∃t u v,h.get? a=some { cls:=.type "range", data:=.fields #[.int lo t,.int hi u,.int 1 v] }
 | .frz o u=>h.get? a=some o/\xY H h a u
 | .tbl ps=>h.get? a=some { cls:=.none,data:=.fields ps }
 | .met f x=>h.get? a=some (PySem.W.methodObj (.ref f) (.ref x))
 | .ext φ=>φ h/\(∃o,h.get? a=some o)/\∀h1 h2:Heap,φ h1->(∀o,h1.get? a=some o->h2.get? a=some o)->φ h2
def HOk (H:Hp) (h:Heap):Prop:=∀a o,H a=some o->xY P w H h a o
end
section
variable {P:Program} {w:World} {H H':Hp} {h h':Heap} {a:Addr} {o:HO}
theorem xY.lt (x:xY P w H h a o):a<h.objs.size:=by
 cases o with
 | lst xs=>obtain⟨_,_,_,_,e⟩:=x; exact Heap.lt_size e
 | tup xs=>obtain⟨_,_,_,p⟩:=x; exact p.lt
 | dK kvs=>obtain⟨_,_,_,_,o,_,_,e,_⟩:=x; exact Heap.lt_size e
 | dT kvs=>obtain⟨_,_,_,_,o,_,_,e,_⟩:=x; exact Heap.lt_size e
 | set S n=>obtain⟨o,_,_,_,e,_⟩:=x; exact Heap.lt_size e
 | ins C dx fs=>obtain⟨_,_,_,e,_⟩:=x; exact Heap.lt_size e
 | own y=>obtain⟨_,e⟩:=x; exact Heap.lt_size e
 | xd fs=>obtain⟨_,⟨_,_,_,e,_⟩,_⟩:=x; exact Heap.lt_size e
 | rng lo hi=>obtain⟨_,_,_,e⟩:=x; exact Heap.lt_size e
 | frz ob u=>obtain⟨e,_⟩:=x; exact Heap.lt_size e
 | tbl ps=>exact Heap.lt_size (show h.get? a=some _ from x)
 | met f y=>exact Heap.lt_size (show h.get? a=some _ from x)
 | ext φ=>obtain⟨_,⟨_,e⟩,_⟩:=x; exact Heap.lt_size e
theorem Paired.mapP {α β:Type} {F G:α->β->Prop}:∀{l₁:List α} {l₂:List β},Paired F l₁ l₂->(∀a b,F a b->G a b)->Paired G l₁ l₂
 | _,_,.nil,_=>.nil
 | _,_,.cons r t,f=>.cons (f _ _ r) (Paired.mapP t f)
theorem xY.stay (x:xY P w H h a o) (k:∀b u,(b=a\/H b=some (.own a))->h.get? b=some u->h'.get? b=some u)
  (ho:∀b,H b=some (.own a)->H' b=some (.own a)) (ht:∀b xs,H b=some (.tup xs)->H' b=some (.tup xs)):xY P w H' h' a o:=by
 induction o with
 | lst xs=>obtain⟨z,its,n,r,e⟩:=x; exact⟨z,its,n,r,k _ _ (.inl rfl) e⟩
 | tup xs=>obtain⟨z,its,r,ob,e,c⟩:=x; exact⟨z,its,r,ob,k _ _ (.inl rfl) e,c⟩
 | dK kvs=>obtain⟨z,y,vs,r,ob,es,ep,e,c⟩:=x; exact⟨z,y,vs,r,ob,es,ep,k _ _ (.inl rfl) e,c⟩
 | dT kvs =>
  obtain⟨z,y,xs,r,ob,es,ep,e,c⟩:=x
  exact⟨z,y,xs,Paired.mapP r fun p q z=>⟨z.1,ht _ _ z.2.1,z.2.2⟩,ob,es,ep,k _ _ (.inl rfl) e,c⟩
 | set S n=>obtain⟨ob,es,ep,t,e,c⟩:=x; exact⟨ob,es,ep,t,k _ _ (.inl rfl) e,c⟩
 | ins C dx fs =>
  obtain⟨d,z,ne,e,mA,⟨od,es,ep,e2,c⟩,r⟩:=x
  exact⟨ho _ d,z,ne,k _ _ (.inl rfl) e,mA,⟨od,es,ep,k _ _ (.inr d) e2,c⟩,r⟩
 | own y=>obtain⟨ob,e⟩:=x; exact⟨ob,k _ _ (.inl rfl) e⟩
 | xd fs=>obtain⟨mA,⟨od,es,ep,e,c⟩,r⟩:=x; exact⟨mA,⟨od,es,ep,k _ _ (.inl rfl) e,c⟩,r⟩
 | rng lo hi=>obtain⟨t,u,v,e⟩:=x; exact⟨t,u,v,k _ _ (.inl rfl) e⟩
 | frz ob u ih=>obtain⟨e,q⟩:=x; exact⟨k _ _ (.inl rfl) e,ih q⟩
 | tbl ps =>
  have e:h.get? a=some { cls:=.none,data:=.fields ps }:=x
  show h'.get? a=some { cls:=.none,data:=.fields ps }
  exact k a _ (.inl rfl) e
 | met f y =>
  have e:h.get? a=some (PySem.W.methodObj (.ref f) (.ref y)):=x
  show h'.get? a=some (PySem.W.methodObj (.ref f) (.ref y))
  exact k a _ (.inl rfl) e
 | ext φ=>obtain⟨p,⟨o,e⟩,st⟩:=x; exact⟨st _ _ p fun o q=>k _ _ (.inl rfl) q,⟨o,k _ _ (.inl rfl) e⟩,st⟩
theorem HOk.lt (x:HOk P w H h) (e:H a=some o):a<h.objs.size:=(x a o e).lt
theorem HOk.fresh (x:HOk P w H h) (e:h.objs.size<=a):H a=none:=by
 cases q:H a with
 | none=>rfl
 | some u=>exact absurd (Nat.lt_of_lt_of_le (x.lt q) e) (Nat.lt_irrefl _)
theorem HOk.kept (x:HOk P w H h) (k:∀b u,h.get? b=some u->h'.get? b=some u):HOk P w H h':=fun a o e =>
 (x a o e).stay (fun b u _ q=>k b u q) (fun _ q=>q) fun _ _ q=>q
theorem HOk.laid (x:HOk P w H h) (k:∀b u,h.get? b=some u->h'.get? b=some u) (hp:h.objs.size<=a) (new:xY P w (upd H a o) h' a o):HOk P w (upd H a o) h':=fun b u e=>by
 have hn:=x.fresh hp
 by_cases hb:b=a
 ·subst hb; rw[zq] at e; cases e; exact new
 ·rw[zB hb] at e
  exact(x b u e).stay (fun c v _ q=>k c v q) (fun c q=>by rw[zB (zF q hn)]; exact q) fun c xs q=>by rw[zB (zF q hn)]; exact q
end
def Rd (H:Hp) (a:Addr) (u:HO):Prop:=H a=some u\/∃o,H a=some (.frz o u)
theorem Rd.ok {P:Program} {w:World} {H:Hp} {h:Heap} {a:Addr} {u:HO} (r:Rd H a u) (x:HOk P w H h):xY P w H h a u:=by
 rcases r with r | ⟨o,r⟩
 ·exact x a u r
 ·obtain⟨_,q⟩:=x a _ r
  exact q
def Mut:Option HO->Prop
 | some (.lst _)=>True
 | some (.dK _)=>True
 | some (.dT _)=>True
 | some (.set _ _)=>True
 | some (.ins _ _ _)=>True
 | some (.ext _)=>True
 | _=>False
section
variable {P:Program} {w:World} {H:Hp} {h h':Heap} {x e:Addr} {o':HO}
theorem HOk.write (ok:HOk P w H h) (mu:Mut (H x)) (he:e=x\/H e=some (.own x)) (k:∀b u,b≠e->h.get? b=some u->h'.get? b=some u) (heo:∃u,h'.get? e=some u)
  (new:xY P w (upd H x o') h' x o'):HOk P w (upd H x o') h':=fun b u q=>by
 have nown:∀c y,H c=some (.own y)->c≠x:=fun c y r z=>by subst z; rw[r] at mu; exact mu
 have ntup:∀c xs,H c=some (.tup xs)->c≠x:=fun c xs r z=>by subst z; rw[r] at mu; exact mu
 by_cases hb:b=x
 ·subst hb; rw[zq] at q; cases q; exact new
 ·rw[zB hb] at q
  by_cases hbe:b=e
  ·have q':H b=some (.own x):=by
    rcases he with z | z
    ·exact absurd (hbe.trans z) hb
    ·rw[hbe]; exact z
   rw[q] at q'; cases q'
   obtain⟨v,hv⟩:=heo
   exact⟨v,by rw[hbe]; exact hv⟩
  ·refine(ok b u q).stay (fun c v hc r=>k c v ?_ r) (fun c r=>by rw[zB (nown c b r)]; exact r) fun c xs r=>by rw[zB (ntup c xs r)]; exact r
   rcases hc with rfl | hc
   ·exact hbe
   ·rintro rfl
    rcases he with z | z
    ·exact nown c b hc z
    ·rw[hc] at z; cases z; exact hb rfl
end
structure Un (fs ex:List Addr) (H H':Hp) (h h':Heap):Prop where
 keep:∀b o,h.get? b=some o->H b=none->b∉fs->b∉ex->h'.get? b=some o
 slot:∀b o,h.get? b=some o->H b=none->b∈fs->b∉ex->∃sl,h'.get? b=some { o with slots:=sl }
 free:∀b o,h.get? b=some o->H b=none->b∉ex->H' b=none
 there:∀b o,h.get? b=some o->b∉ex->∃o',h'.get? b=some o'
 tups:∀b xs,H b=some (.tup xs)->H' b=some (.tup xs)
 frzs:∀b o u,H b=some (.frz o u)->H' b=some (.frz o u)
 tbls:∀b ps,H b=some (.tbl ps)->∃more,H' b=some (.tbl (ps++more))
section
variable {fs fs' ex ex':List Addr} {H H1 H2:Hp} {h h1 h2 h':Heap} {a x e:Addr} {o:HO}
theorem Un.any (u:Un fs ex H H1 h h1) {b:Addr} {ob:Obj} (q:h.get? b=some ob) (n:H b=none) (hx:b∉ex):∃sl,h1.get? b=some { ob with slots:=sl }:=by
 by_cases hb:b∈fs
 ·exact u.slot b ob q n hb hx
 ·exact⟨ob.slots,u.keep b ob q n hb hx⟩
theorem Un.kept (k:∀b u,h.get? b=some u->h'.get? b=some u):Un fs ex H H h h' :=
 ⟨fun b ob q _ _ _=>k b ob q,fun b ob q _ _ _=>⟨ob.slots,k b ob q⟩,fun _ _ _ n _=>n,fun b ob q _=>⟨ob,k b ob q⟩,fun _ _ q=>q,fun _ _ _ q=>q,fun _ ps q=>⟨#[],by rw[q]; simp⟩⟩
theorem Un.refl:Un fs ex H H h h:=Un.kept fun _ _ q=>q
theorem Un.laid (k:∀b u,h.get? b=some u->h'.get? b=some u) (hp:h.objs.size<=a) (hn:H a=none):Un fs ex H (upd H a o) h h' where
 keep:=fun b u q _ _ _=>k b u q
 slot:=fun b u q _ _ _=>⟨u.slots,k b u q⟩
 free:=fun b u q n _=>by rw[zB (Nat.ne_of_lt (Nat.lt_of_lt_of_le (Heap.lt_size q) hp))]; exact n
 there:=fun b u q _=>⟨u,k b u q⟩
 tups:=fun b xs q=>by rw[zB (zF q hn)]; exact q
 frzs:=fun b u xs q=>by rw[zB (zF q hn)]; exact q
 tbls:=fun b ps q=>⟨#[],by rw[zB (zF q hn),q]; simp⟩
theorem Un.write (mu:Mut (H x)) (he:e=x\/H e=some (.own x)) (k:∀b u,b≠e->h.get? b=some u->h'.get? b=some u) (heo:∃u,h'.get? e=some u):Un fs ex H (upd H x o) h h':=by
 have hx:∀b,H b=none->b≠x:=fun b n z=>by subst z; rw[n] at mu; exact mu
 have hb:∀b,H b=none->b≠e:=fun b n z=>by
  subst z
  rcases he with r | r
  ·exact hx b n r
  ·rw[n] at r; cases r
 have hm:∀b u,H b=some u->¬Mut (some u)->b≠x:=fun b u q nm z=>by subst z; rw[q] at mu; exact nm mu
 refine⟨fun b u q n _ _=>k b u (hb b n) q,fun b u q n _ _=>⟨u.slots,k b u (hb b n) q⟩,fun b u q n _=>by rw[zB (hx b n)]; exact n,fun b u q _=>?_,
  fun b xs q=>by rw[zB (hm b _ q fun z=>z)]; exact q,fun b u xs q=>by rw[zB (hm b _ q fun z=>z)]; exact q,fun b ps q=>⟨#[],by rw[zB (hm b _ q fun z=>z),q]; simp⟩⟩
 by_cases hbe:b=e
 ·subst hbe; exact heo
 ·exact⟨u,k b u hbe q⟩
end
def trk (h:Heap) (H:Hp):List Addr:=(List.range h.objs.size).filter fun a=>(H a).isSome
def QT (h:Heap) (H:Hp):Heap:=PySem.W.hideAll h (trk h H)
theorem zfv (h:Heap) (H:Hp):(QT h H).objs.size=h.objs.size:=PySem.W.hideAll_size _ _
theorem zgq {h:Heap} {H:Hp} {b:Addr} {o:Obj} (e:h.get? b=some o) (n:H b=none):(QT h H).get? b=some o :=
 PySem.W.hideAll_get _ e fun hm=>by
  have q:(H b).isSome=true:=(List.mem_filter.mp hm).2
  rw[n] at q; simp at q
theorem zho {h:Heap} {H:Hp} {b:Addr} {o:Obj} (e:(QT h H).get? b=some o):h.get? b=some o/\H b=none:=by
 have e':h.get? b=some o:=PySem.W.of_hideAll (trk h H) e
 refine⟨e',?_⟩
 cases q:H b with
 | none=>rfl
 | some x =>
  have hm:b∈trk h H:=List.mem_filter.mpr ⟨List.mem_range.mpr (Heap.lt_size e'),by simp[q]⟩
  have z:(QT h H).get? b=none:=PySem.W.hideAll_none (trk h H) hm
  rw[z] at e; cases e
end L2
namespace L2
open PySem PySem.Spec PyProof.Rows
structure Mod (K:PySem.W.Frag) (mg:Str->Option Value) (base:Heap):Prop where
 kin:K.In base
 glob:base.Ns mainGlobals mg
 blt:∃mb,base.Ns builtinsNs mb/\∀x:Str,x ≠ "__name__" -> mb x=bootBuiltins x
 nolimit:base.NoLimit
structure Cx where
 prog:Program
 w:World
 K:PySem.W.Frag
 mg:Str->Option Value
 base:Heap
 A:Around
 N:List Str
 s₀:Shared
 H₀:Hp
 env:Env
 outer:List Env
 stack:List Env
 ex:List Addr
 fn:Str->Bool
 calm:Bool
 pn:List (Addr×Obj)
 xe:Value->Shared->Prop
def frs (l:List Env):List Addr:=l.filterMap (·.frame)
abbrev Cx.fs (X:Cx):List Addr:=frs X.outer
def Vis (sc:Scope) (x:Str):Prop:=sc.names.lookup x=some .local\/sc.names.lookup x=some .cell\/sc.names.lookup x=some .free
def Loc (sc:Scope) (x:Str):Prop:=sc.names.lookup x=some .local\/sc.names.lookup x=some .cell
def Look (env:Env) (h:Heap) (m:Str->Option Value) (x:Str) (u:Value):Prop :=
 (env.kindOf x=some .local/\m x=some u)\/((env.kindOf x=some .cell\/env.kindOf x=some .free)/\∃c,env.cells.lookup x=some c/\h.IsCell c (some u))
structure Cx.Ok (X:Cx):Prop where
 mod:Mod X.K X.mg X.base
 kind:X.env.scope.kind=.function
 glob:X.env.globals=mainGlobals
 blt:X.env.builtins=builtinsNs
 above:X.s₀.heap.objs.size<=X.env.locals
 inj:∀x y c,X.env.cells.lookup x=some c->X.env.cells.lookup y=some c->x=y
 has:∀x,(X.env.kindOf x=some .cell\/X.env.kindOf x=some .free)->∃c,X.env.cells.lookup x=some c
 cab:∀x c,X.fn x=true->X.env.cells.lookup x=some c->X.s₀.heap.objs.size<=c
 hd:X.calm=true->X.A.handled=none
 frames:X.A.frames=some X.stack
 stk:X.stack=X.outer\/(X.stack=X.env::X.outer/\X.env.frame=some X.env.locals)
 exf:∀b∈X.ex,b≠X.env.locals/\∀x c,X.env.cells.lookup x=some c->c≠b
 bs:∀b o,X.base.get? b=some o->X.s₀.heap.get? b=some o/\X.H₀ b=none
 bsz:X.base.objs.size<=X.s₀.heap.objs.size
 noex:∀b o,X.base.get? b=some o->b∉X.ex
 exfs:∀b∈X.ex,b∉X.fs
 funs:X.s₀.heap.FunFrames X.base X.outer
 frf:∀b∈X.fs,X.H₀ b=none
structure Inv (X:Cx) (pins:List (Addr×Obj)) (σ:List (Option V)) (H:Hp) (s:Shared):Prop where
 ok:X.Ok
 os:s.os=X.s₀.os
 bare:AllBare s.gens
 base:Un X.fs X.ex X.H₀ H X.s₀.heap s.heap
 loc:∃m,s.heap.Ns X.env.locals m/\∀(i:Nat) (x:Str) (v:V),X.N[i]?=some x->σ[i]?=some (some v)->Vis X.env.scope x->∃u,RelV v u/\Look X.env s.heap m x u
 cell:∀x c,X.env.cells.lookup x=some c->∃v,s.heap.IsCell c v
 free:H X.env.locals=none
 freeC:∀x c,X.env.cells.lookup x=some c->H c=none
 pin:∀p∈X.pn++pins,s.heap.get? p.1=some p.2/\H p.1=none/\p.1≠X.env.locals/\p.1∉X.fs/\∀v,p.2.data≠.cell v
 hok:HOk X.prog X.w H s.heap
 len:σ.length=X.N.length
section
variable {X:Cx} {pins:List (Addr×Obj)} {σ:List (Option V)} {H H':Hp} {s:Shared} {h':Heap}
theorem Cx.Ok.nofr (ok:X.Ok) {b:Addr} {o:Obj} (e:X.base.get? b=some o):b∉X.fs:=fun hb=>by
 have:=(ok.funs.mem hb).1
 rw[e] at this; cases this
theorem Inv.bs (I:Inv X pins σ H s):∀b o,X.base.get? b=some o->s.heap.get? b=some o/\H b=none:=fun b o e =>
 ⟨I.base.keep b o (I.ok.bs b o e).1 (I.ok.bs b o e).2 (I.ok.nofr e) (I.ok.noex b o e),I.base.free b o (I.ok.bs b o e).1 (I.ok.bs b o e).2 (I.ok.noex b o e)⟩
theorem Inv.bk (I:Inv X pins σ H s):∀b o,X.base.get? b=some o->s.heap.get? b=some o:=fun b o e=>(I.bs b o e).1
theorem Inv.mod (I:Inv X pins σ H s):Mod X.K X.mg X.base:=I.ok.mod
theorem Inv.kIn (I:Inv X pins σ H s):X.K.In s.heap:=I.ok.mod.kin.keeps I.bk
theorem Inv.lt (I:Inv X pins σ H s):X.env.locals<s.heap.objs.size:=let ⟨_,hn,_⟩:=I.loc; hn.lt
theorem Inv.sz (I:Inv X pins σ H s):X.s₀.heap.objs.size<=s.heap.objs.size:=Nat.le_trans I.ok.above (Nat.le_of_lt I.lt)
theorem Inv.nofs (I:Inv X pins σ H s) {a:Addr} (h:s.heap.objs.size<=a):a∉X.fs:=fun hb=>by
 obtain⟨_,o,ho,_⟩:=I.ok.funs.mem hb
 exact absurd (Nat.lt_of_lt_of_le (Heap.lt_size ho) (Nat.le_trans I.sz h)) (Nat.lt_irrefl _)
theorem Inv.cne (I:Inv X pins σ H s):∀x c,X.env.cells.lookup x=some c->c≠X.env.locals:=fun x c e z=>by
 obtain⟨v,o,ho,hd⟩:=I.cell x c e
 obtain⟨m,⟨o',es,ep,ho',hd',_⟩,_⟩:=I.loc
 rw[z,ho'] at ho; cases ho; rw[hd'] at hd; cases hd
theorem Inv.funs (I:Inv X pins σ H s):s.heap.FunFrames X.base X.outer:=by
 have all:∀(l:List Env),(∀b∈frs l,b∈X.fs)->X.s₀.heap.FunFrames X.base l->s.heap.FunFrames X.base l:=by
  intro l
  induction l with
  | nil=>intro _ _; trivial
  | cons env r ih =>
   intro hs hl
   obtain⟨hk,⟨L,o,hf,hn,ho,hd⟩,hr⟩:=hl
   have hL:L∈X.fs:=hs L (by unfold frs; rw[List.filterMap_cons,hf]; exact List.mem_cons_self)
   obtain⟨sl,e⟩:=I.base.slot L o ho (I.ok.frf L hL) hL fun z=>I.ok.exfs L z hL
   exact⟨hk,⟨L,_,hf,hn,e,hd⟩,ih (fun b hb=>hs b (by unfold frs; rw[List.filterMap_cons,hf]; exact List.mem_cons_of_mem _ hb)) hr⟩
 exact all X.outer (fun _ hb=>hb) I.ok.funs
theorem Inv.stack (I:Inv X pins σ H s):s.heap.FunFrames X.base X.stack:=by
 rcases I.ok.stk with e | ⟨e,hf⟩
 ·rw[e]; exact I.funs
 ·rw[e]
  obtain⟨m,hn,_⟩:=I.loc
  refine .cons (by rw[I.ok.kind]; decide) hf hn ?_ I.funs
  exact Heap.get?_none_of_le (Nat.le_trans I.ok.bsz I.ok.above)
theorem Inv.stkSub (I:Inv X pins σ H s):∀b∈frs X.stack,b∈X.env.locals::X.fs:=fun b hb=>by
 rcases I.ok.stk with e | ⟨e,hf⟩
 ·rw[e] at hb; exact List.mem_cons_of_mem _ hb
 ·rw[e] at hb
  unfold frs at hb
  rw[List.filterMap_cons,hf] at hb
  exact hb
theorem Inv.stkFree (I:Inv X pins σ H s):∀b∈frs X.stack,H b=none:=fun b hb=>by
 rcases List.mem_cons.mp (I.stkSub b hb) with e | hb
 ·rw[e]; exact I.free
 ·obtain⟨_,o,ho,_⟩:=I.ok.funs.mem hb
  exact I.base.free b o ho (I.ok.frf b hb) fun z=>I.ok.exfs b z hb
theorem Inv.step {g':Array GenState} {t':Nat} {d':Drawn} {ch:List Addr} (I:Inv X pins σ H s)
  (hch:∀b∈ch,(b∈X.ex\/X.s₀.heap.objs.size<=b)/\b≠X.env.locals/\(∀x c,X.env.cells.lookup x=some c->c≠b)/\∀p∈X.pn++pins,p.1≠b)
  (keep:∀b o,b≠X.env.locals->b∉X.fs->b∉ch->s.heap.get? b=some o->H b=none->h'.get? b=some o)
  (slot:∀b o,b≠X.env.locals->b∈X.fs->b∉ch->s.heap.get? b=some o->H b=none->∃sl,h'.get? b=some { o with slots:=sl }) (free:∀b o,b∉ch->s.heap.get? b=some o->H b=none->H' b=none)
  (there:∀b o,b∉ch->s.heap.get? b=some o->∃o',h'.get? b=some o')
  (tups:∀b xs,H b=some (.tup xs)->H' b=some (.tup xs)) (frzs:∀b o u,H b=some (.frz o u)->H' b=some (.frz o u)) (tbls:∀b ps,H b=some (.tbl ps)->∃more,H' b=some (.tbl (ps++more)))
  (ns:∀m,s.heap.Ns X.env.locals m->h'.Ns X.env.locals m) (hok:HOk X.prog X.w H' h') (hg:AllBare g') :
  Inv X pins σ H' { s with heap:=h',gens:=g',drawn:=d',toks:=t' }:=by
 have neL:∀b o,X.s₀.heap.get? b=some o->b≠X.env.locals:=fun b o e=>Nat.ne_of_lt (Nat.lt_of_lt_of_le (Heap.lt_size e) I.ok.above)
 have neC:∀b o,X.s₀.heap.get? b=some o->b∉X.ex->b∉ch:=fun b o e hx hb=>by
  rcases (hch b hb).1 with z | z
  ·exact hx z
  ·exact absurd (Nat.lt_of_lt_of_le (Heap.lt_size e) z) (Nat.lt_irrefl _)
 have cellK:∀x c,X.env.cells.lookup x=some c->∀v,s.heap.IsCell c v->h'.IsCell c v:=fun x c e v ⟨o,ho,hd⟩=>by
  have nch:c∉ch:=fun z=>(hch c z).2.2.1 x c e rfl
  by_cases hc:c∈X.fs
  ·obtain⟨sl,q⟩:=slot c o (I.cne x c e) hc nch ho (I.freeC x c e)
   exact⟨_,q,hd⟩
  ·exact⟨o,keep c o (I.cne x c e) hc nch ho (I.freeC x c e),hd⟩
 refine⟨I.ok,I.os,hg,⟨fun b o e n hb hx=>?_,fun b o e n hb hx=>?_,fun b o e n hx=>?_,fun b o e hx=>?_,fun b xs e=>tups b xs (I.base.tups b xs e),fun b o xs e=>frzs b o xs (I.base.frzs b o xs e),fun b ps e=>?_⟩,?_,fun x c e=>?_,?_,fun x c e=>?_,fun p hp=>?_,hok,I.len⟩
 ·exact keep b o (neL b o e) hb (neC b o e hx) (I.base.keep b o e n hb hx) (I.base.free b o e n hx)
 ·obtain⟨sl,e1⟩:=I.base.slot b o e n hb hx
  obtain⟨sl',e2⟩:=slot b _ (neL b o e) hb (neC b o e hx) e1 (I.base.free b o e n hx)
  exact⟨sl',e2⟩
 ·obtain⟨o',e1⟩:=I.base.there b o e hx
  exact free b o' (neC b o e hx) e1 (I.base.free b o e n hx)
 ·obtain⟨o',e1⟩:=I.base.there b o e hx
  exact there b o' (neC b o e hx) e1
 ·obtain⟨m1,e1⟩:=I.base.tbls b ps e
  obtain⟨m2,e2⟩:=tbls b _ e1
  exact⟨m1++m2,by rw[e2,Array.append_assoc]⟩
 ·obtain⟨m,hn,hl⟩:=I.loc
  refine⟨m,ns m hn,fun i x v e1 e2 e3=>?_⟩
  obtain⟨u,r,l⟩:=hl i x v e1 e2 e3
  refine⟨u,r,?_⟩
  rcases l with l | ⟨k,c,e,z⟩
  ·exact .inl l
  ·exact .inr ⟨k,c,e,cellK x c e _ z⟩
 ·obtain⟨v,z⟩:=I.cell x c e
  exact⟨v,cellK x c e v z⟩
 ·obtain⟨m,⟨o,_,_,ho,_⟩,_⟩:=I.loc
  exact free _ o (fun z=>(hch _ z).2.1 rfl) ho I.free
 ·obtain⟨v,o,ho,hd⟩:=I.cell x c e
  exact free c o (fun z=>(hch c z).2.2.1 x c e rfl) ho (I.freeC x c e)
 ·obtain⟨e,n,ne,nf,d⟩:=I.pin p hp
  have nch:p.1∉ch:=fun z=>(hch p.1 z).2.2.2 p hp rfl
  exact⟨keep p.1 p.2 ne nf nch e n,free p.1 p.2 nch e n,ne,nf,d⟩
theorem Inv.un {t':Nat} (I:Inv X pins σ H s) (u:Un X.fs [] H H' s.heap h') (hok:HOk X.prog X.w H' h'):Inv X pins σ H' { s with heap:=h',toks:=t' }:=by
 obtain⟨m,⟨o,es,ep,ho,r⟩,_⟩:=id I.loc
 obtain⟨sl,hL⟩:=u.any ho I.free (by simp)
 exact I.step (g':=s.gens) (d':=s.drawn) (ch:=[]) (fun _ z=>nomatch z) (fun b o _ hb _ e n=>u.keep b o e n hb (by simp)) (fun b o _ hb _ e n=>u.slot b o e n hb (by simp)) (fun b o _ e n=>u.free b o e n (by simp)) (fun b o _ e=>u.there b o e (by simp)) u.tups u.frzs u.tbls (fun m' hm=>by
  obtain⟨o',es',ep',ho',r'⟩:=hm
  rw[ho] at ho'; cases ho'
  exact⟨_,es',ep',hL,r'⟩) hok I.bare
theorem Inv.call {g':Array GenState} {t':Nat} {d':Drawn} {ch:List Addr} (I:Inv X pins σ H s) (u:Un (frs X.stack) ch H H' s.heap h') (hok:HOk X.prog X.w H' h') (hg:AllBare g')
  (hch:∀b∈ch,(b∈X.ex\/X.s₀.heap.objs.size<=b)/\b≠X.env.locals/\(∀x c,X.env.cells.lookup x=some c->c≠b)/\∀p∈X.pn++pins,p.1≠b) :
  Inv X pins σ H' { s with heap:=h',gens:=g',drawn:=d',toks:=t' }:=by
 obtain⟨m,⟨o,es,ep,ho,r⟩,_⟩:=id I.loc
 obtain⟨sl,hL⟩:=u.any ho I.free fun z=>(hch _ z).2.1 rfl
 exact I.step (ch:=ch) hch (fun b o hL hb hc e n=>u.keep b o e n (fun z=>(List.mem_cons.mp (I.stkSub b z)).elim hL hb) hc) (fun b o _ _ hc e n=>u.any e n hc) (fun b o hc e n=>u.free b o e n hc) (fun b o hc e=>u.there b o e hc) u.tups u.frzs u.tbls (fun m' hm=>by
  obtain⟨o',es',ep',ho',r'⟩:=hm
  rw[ho] at ho'; cases ho'
  exact⟨_,es',ep',hL,r'⟩) hok hg
theorem Inv.turned {t':Nat} {it:Addr} (I:Inv X pins σ H s) (k:∀b o,b≠it->s.heap.get? b=some o->h'.get? b=some o) (hn:H it=none) (hL:it≠X.env.locals)
  (h1:it∈X.ex\/X.s₀.heap.objs.size<=it) (h2:∀x c,X.env.cells.lookup x=some c->c≠it) (h3:∀p∈X.pn++pins,p.1≠it):Inv X pins σ H { s with heap:=h',toks:=t' }:=by
 have nit:∀b u,H b=some u->b≠it:=fun b u e z=>by rw[z,hn] at e; cases e
 refine I.step (g':=s.gens) (d':=s.drawn) (ch:=[it]) (fun b hb=>?_) (fun b o _ _ hc e _=>k b o (fun z=>hc (by simp[z])) e) (fun b o _ _ hc e _=>⟨o.slots,k b o (fun z=>hc (by simp[z])) e⟩) (fun _ _ _ _ n=>n)
  (fun b o hc e=>⟨o,k b o (fun z=>hc (by simp[z])) e⟩) (fun _ _ e=>e) (fun _ _ _ e=>e) (fun b ps e=>⟨#[],by rw[e]; simp⟩) (fun m hm=>?_) (fun b u e=>?_) I.bare
 ·have e:b=it:=by simpa using hb
  subst e
  exact⟨h1,hL,h2,h3⟩
 ·obtain⟨o,es,ep,ho,r⟩:=hm
  exact⟨o,es,ep,k _ o (Ne.symm hL) ho,r⟩
 ·refine(I.hok b u e).stay (fun c v hc q=>k c v ?_ q) (fun _ q=>q) fun _ _ q=>q
  rcases hc with z | z
  ·rw[z]; exact nit b u e
  ·exact nit c _ z
theorem Inv.tok (I:Inv X pins σ H s) (t:Nat):Inv X pins σ H { s with toks:=t }:=I.un (h':=s.heap) (t':=t) Un.refl I.hok
theorem Inv.kept {t':Nat} (I:Inv X pins σ H s) (k:∀b u,s.heap.get? b=some u->h'.get? b=some u):Inv X pins σ H { s with heap:=h',toks:=t' }:=I.un (Un.kept k) (I.hok.kept k)
theorem Inv.laid {a:Addr} {o:HO} {t':Nat} (I:Inv X pins σ H s) (k:∀b u,s.heap.get? b=some u->h'.get? b=some u) (hp:s.heap.objs.size<=a) (new:xY X.prog X.w (upd H a o) h' a o) :
  Inv X pins σ (upd H a o) { s with heap:=h',toks:=t' }:=I.un (Un.laid k hp (I.hok.fresh hp)) (I.hok.laid k hp new)
theorem Inv.write {x e:Addr} {o:HO} {t':Nat} (I:Inv X pins σ H s) (mu:Mut (H x)) (he:e=x\/H e=some (.own x)) (k:∀b u,b≠e->s.heap.get? b=some u->h'.get? b=some u) (heo:∃u,h'.get? e=some u)
  (new:xY X.prog X.w (upd H x o) h' x o):Inv X pins σ (upd H x o) { s with heap:=h',toks:=t' }:=I.un (Un.write mu he k heo) (I.hok.write mu he k heo new)
theorem Inv.pins_of {pins':List (Addr×Obj)} (I:Inv X pins σ H s) (h:∀p∈pins',s.heap.get? p.1=some p.2/\H p.1=none/\p.1≠X.env.locals/\p.1∉X.fs/\∀v,p.2.data≠.cell v):Inv X pins' σ H s :=
 ⟨I.ok,I.os,I.bare,I.base,I.loc,I.cell,I.free,I.freeC,fun p hp=>(List.mem_append.mp hp).elim (fun z=>I.pin p (List.mem_append_left _ z)) (h p),I.hok,I.len⟩
theorem zcs {N:List Str} (hN:N.Nodup) {i j:Nat} {x:Str} (a:N[i]?=some x) (b:N[j]?=some x):i=j:=by
 obtain⟨h1,e1⟩:=List.getElem?_eq_some_iff.mp a
 obtain⟨h2,e2⟩:=List.getElem?_eq_some_iff.mp b
 exact(List.getElem_inj hN).mp (e1.trans e2.symm)
theorem zfw {M:Model} {A:Around} {E:Value->Shared->Prop} {i:Nat} {x:Str} {v:V} {u:Value} {Q:Unit->Shared->Prop} (I:Inv X pins σ H s) (hN:X.N.Nodup) (hi:X.N[i]?=some x) (hx:Loc X.env.scope x) (r:RelV v u)
  (h:∀s',Inv X pins (σ.set i (some v)) H s'->(∃a,Heap.SameBut a s.heap s'.heap/\(a=X.env.locals\/X.env.cells.lookup x=some a))->Q () s') (hf:X.fn x=true\/X.env.scope.names.lookup x=some .local:=by first | exact .inl rfl | exact .inr rfl | assumption):wpAny M A (storeName X.env x u) Q E s:=by
 obtain⟨m,hn,hl⟩:=id I.loc
 have hcls:(X.env.scope.kind==.class||(X.env.scope.kind==.module&&X.env.locals != X.env.globals))=false:=by rw[I.ok.kind]; rfl
 have hiσ:i < σ.length:=by rw[I.len]; exact(List.getElem?_eq_some_iff.mp hi).1
 have cne:=I.cne
 have tracked:∀{a:Addr} {h':Heap},(∃o,s.heap.get? a=some o/\H a=none)->Heap.SameBut a s.heap h'->HOk X.prog X.w H h':=fun {a h'} ha hs b ob e=>by
  obtain⟨_,_,hfree⟩:=ha
  refine(I.hok b ob e).stay (fun c w' hc q=>(hs.2 c ?_).trans q) (fun _ q=>q) fun _ _ q=>q
  rintro rfl
  rcases hc with rfl | hc
  ·rw[hfree] at e; cases e
  ·rw[hfree] at hc; cases hc
 rcases hx with hk | hk
 ·refine wpAny_storeName_local hk hn (fun h' hn' hs=>?_) hcls
  obtain⟨oL,_,_,hoL,_⟩:=id hn
  refine h _ ⟨I.ok,I.os,I.bare,⟨fun b o e n hb hx=>?_,fun b o e n hb hx=>?_,I.base.free,fun b o e hx=>?_,I.base.tups,I.base.frzs,I.base.tbls⟩,⟨_,hn',fun j y v' e1 e2 e3=>?_⟩,fun y c e=>?_,I.free,I.freeC,fun p hp=>?_,tracked ⟨oL,hoL,I.free⟩ hs,by simpa using I.len⟩ ⟨_,hs,.inl rfl⟩
  ·exact(hs.2 b (Nat.ne_of_lt (Nat.lt_of_lt_of_le (Heap.lt_size e) I.ok.above))).trans (I.base.keep b o e n hb hx)
  ·obtain⟨sl,e1⟩:=I.base.slot b o e n hb hx
   exact⟨sl,(hs.2 b (Nat.ne_of_lt (Nat.lt_of_lt_of_le (Heap.lt_size e) I.ok.above))).trans e1⟩
  ·obtain⟨o',e1⟩:=I.base.there b o e hx
   exact⟨o',(hs.2 b (Nat.ne_of_lt (Nat.lt_of_lt_of_le (Heap.lt_size e) I.ok.above))).trans e1⟩
  ·by_cases hj:j=i
   ·subst hj
    rw[hi] at e1; cases e1
    rw[List.getElem?_set_self hiσ] at e2
    cases e2
    exact⟨u,r,.inl ⟨hk,by simp⟩⟩
   ·rw[List.getElem?_set_ne (Ne.symm hj)] at e2
    obtain⟨u',r',q⟩:=hl j y v' e1 e2 e3
    refine⟨u',r',?_⟩
    rcases q with ⟨k,e⟩ | ⟨k,c,e,z⟩
    ·refine .inl ⟨k,?_⟩
     have:y≠x:=fun e=>hj (zcs hN e1 (e ▸ hi))
     simp[this,e]
    ·exact .inr ⟨k,c,e,z.sameBut hs (cne y c e)⟩
  ·obtain⟨w',z⟩:=I.cell y c e
   exact⟨w',z.sameBut hs (cne y c e)⟩
  ·obtain⟨e,n,ne,nf,d⟩:=I.pin p hp
   exact⟨(hs.2 p.1 ne).trans e,n,ne,nf,d⟩
 ·have hfn:X.fn x=true:=by
   rcases hf with z | z
   ·exact z
   ·rw[z] at hk; cases hk
  obtain⟨c,hc⟩:=I.ok.has x (.inl hk)
  obtain⟨w',z⟩:=I.cell x c hc
  refine wpAny_storeName_cell I.ok.kind hk hc z (fun h' hc' hs=>?_)
  obtain⟨oc,hoc,hocd⟩:=id z
  refine h { s with heap:=h' } ⟨I.ok,I.os,I.bare,⟨fun b o e n hb hx=>?_,fun b o e n hb hx=>?_,I.base.free,fun b o e hx=>?_,I.base.tups,I.base.frzs,I.base.tbls⟩,⟨m,hn.sameBut hs (Ne.symm (cne x c hc)),fun j y v' e1 e2 e3=>?_⟩,fun y c' e=>?_,I.free,I.freeC,fun p hp=>?_,tracked ⟨oc,hoc,I.freeC x c hc⟩ hs,by simpa using I.len⟩ ⟨c,hs,.inr hc⟩
  ·exact(hs.2 b (Nat.ne_of_lt (Nat.lt_of_lt_of_le (Heap.lt_size e) (I.ok.cab x c hfn hc)))).trans (I.base.keep b o e n hb hx)
  ·obtain⟨sl,e1⟩:=I.base.slot b o e n hb hx
   exact⟨sl,(hs.2 b (Nat.ne_of_lt (Nat.lt_of_lt_of_le (Heap.lt_size e) (I.ok.cab x c hfn hc)))).trans e1⟩
  ·obtain⟨o',e1⟩:=I.base.there b o e hx
   exact⟨o',(hs.2 b (Nat.ne_of_lt (Nat.lt_of_lt_of_le (Heap.lt_size e) (I.ok.cab x c hfn hc)))).trans e1⟩
  ·by_cases hj:j=i
   ·subst hj
    rw[hi] at e1; cases e1
    rw[List.getElem?_set_self hiσ] at e2
    cases e2
    exact⟨u,r,.inr ⟨.inl hk,c,hc,hc'⟩⟩
   ·rw[List.getElem?_set_ne (Ne.symm hj)] at e2
    obtain⟨u',r',q⟩:=hl j y v' e1 e2 e3
    refine⟨u',r',?_⟩
    rcases q with q | ⟨k,c',e,z'⟩
    ·exact .inl q
    ·refine .inr ⟨k,c',e,z'.sameBut hs ?_⟩
     rintro rfl
     exact hj (zcs hN e1 (I.ok.inj _ _ _ e hc ▸ hi))
  ·by_cases hcc:c'=c
   ·subst hcc; exact⟨_,hc'⟩
   ·obtain⟨w2,z2⟩:=I.cell y c' e
    exact⟨w2,z2.sameBut hs hcc⟩
  ·obtain⟨e,n,ne,nf,d⟩:=I.pin p hp
   refine⟨(hs.2 p.1 ?_).trans e,n,ne,nf,d⟩
   intro q
   rw[q,hoc] at e
   have q':oc=p.2:=Option.some.inj e
   exact d w' (by rw[<-q']; exact hocd)
theorem K4 {M:Model} {A:Around} {E:Value->Shared->Prop} {i:Nat} {x:Str} {v:V} {u:Value} {Q:Unit->Shared->Prop} (I:Inv X pins σ H s) (hN:X.N.Nodup) (hi:X.N[i]?=some x) (hx:Loc X.env.scope x) (r:RelV v u)
  (h:∀s',Inv X pins (σ.set i (some v)) H s'->Q () s') (hf:X.fn x=true\/X.env.scope.names.lookup x=some .local:=by first | exact .inl rfl | exact .inr rfl | assumption):wpAny M A (storeName X.env x u) Q E s :=
 zfw I hN hi hx r (fun s' I' _=>h s' I') hf
theorem Inv.call' {s':Shared} {ch:List Addr} (I:Inv X pins σ H s) (ho:s'.os=s.os) (u:Un (frs X.stack) ch H H' s.heap s'.heap) (hok:HOk X.prog X.w H' s'.heap) (hg:AllBare s'.gens)
  (hch:∀b∈ch,(b∈X.ex\/X.s₀.heap.objs.size<=b)/\b≠X.env.locals/\(∀x c,X.env.cells.lookup x=some c->c≠b)/\∀p∈X.pn++pins,p.1≠b):Inv X pins σ H' s':=by
 obtain⟨h',g',d',t',o'⟩:=s'
 have e:o'=s.os:=ho
 subst e
 exact I.call (g':=g') (t':=t') (d':=d') u hok hg hch
end
abbrev XK:=Value->Option Addr->Hp->Prop
abbrev St:=List (Option V)
abbrev VK:=V->Hp->Prop
abbrev TE:=St->Hp->VK->Prop
abbrev TT:=St->Hp->(Bool->Hp->Prop)->Prop
abbrev TA:=St->Hp->(List V->Hp->Prop)->Prop
structure Ends where
 nx:St->Hp->Prop
 rt:VK
 bk:St->Hp->Prop:=fun _ _=>False
 ct:St->Hp->Prop:=fun _ _=>False
abbrev TS:=Ends->St->Hp->Prop
def EP (X:Cx) (pins:List (Addr×Obj)) (σ:St) (Q:VK) (u:Value) (s':Shared):Prop:=∃v H',Inv X pins σ H' s'/\RelV v u/\Q v H'
def TP (X:Cx) (pins:List (Addr×Obj)) (σ:St) (Q:Bool->Hp->Prop) (b:Bool) (s':Shared):Prop:=∃H',Inv X pins σ H' s'/\Q b H'
def AP (X:Cx) (pins:List (Addr×Obj)) (σ:St) (Q:List V->Hp->Prop) (us:List Value) (s':Shared):Prop:=∃vs H',Inv X pins σ H' s'/\Vals vs us/\Q vs H'
def SP (X:Cx) (pins:List (Addr×Obj)) (D:Ends) (f:Flow) (s':Shared):Prop :=
 match f with
 | .next=>∃ σ' H',Inv X pins σ' H' s'/\D.nx σ' H'
 | .brk=>∃ σ' H',Inv X pins σ' H' s'/\D.bk σ' H'
 | .cont=>∃ σ' H',Inv X pins σ' H' s'/\D.ct σ' H'
 | .ret u=>∃v σ' H',Inv X pins σ' H' s'/\RelV v u/\D.rt v H'
def PE (X:Cx) (e:Expr) (t:TE):Prop :=
 ∀(pins:List (Addr×Obj)) (s:Shared) (σ:St) (H:Hp) (Q:VK),Inv X pins σ H s->t σ H Q->wpAny (model X.prog X.w) X.A (eval e X.env) (EP X pins σ Q) X.xe s
def PT (X:Cx) (e:Expr) (t:TT):Prop :=
 ∀(pins:List (Addr×Obj)) (s:Shared) (σ:St) (H:Hp) (Q:Bool->Hp->Prop),Inv X pins σ H s->t σ H Q->wpAny (model X.prog X.w) X.A (isTrue e X.env (eval e X.env)) (TP X pins σ Q) X.xe s
def PW (X:Cx) (e:Expr) (t:TT):Prop :=
 ∀(whole:Sem Value) (pins:List (Addr×Obj)) (s:Shared) (σ:St) (H:Hp) (Q:Bool->Hp->Prop),Inv X pins σ H s->t σ H Q->wpAny (model X.prog X.w) X.A (isTrue e X.env whole) (TP X pins σ Q) X.xe s
theorem PW.pt {X:Cx} {e:Expr} {t:TT} (h:PW X e t):PT X e t:=h _
def PA (X:Cx) (es:List Expr) (t:TA):Prop :=
 ∀(pos:Pos) (pins:List (Addr×Obj)) (s:Shared) (σ:St) (H:Hp) (Q:List V->Hp->Prop),Inv X pins σ H s->t σ H Q->wpAny (model X.prog X.w) X.A (spliced (backTo pos (starEach es X.env))) (AP X pins σ Q) X.xe s
def PS (X:Cx) (st:Stmt) (t:TS):Prop :=
 ∀(pins:List (Addr×Obj)) (s:Shared) (σ:St) (H:Hp) (D:Ends),Inv X pins σ H s->t D σ H->wpAny (model X.prog X.w) X.A (exec st X.env) (SP X pins D) X.xe s
def PSs (X:Cx) (st:List Stmt) (t:TS):Prop :=
 ∀(pins:List (Addr×Obj)) (s:Shared) (σ:St) (H:Hp) (D:Ends),Inv X pins σ H s->t D σ H->wpAny (model X.prog X.w) X.A (execs st X.env) (SP X pins D) X.xe s
theorem thn {α:Type} {t:Sem α} {Q Q':α->Shared->Prop} {M:Model} {A:Around} {E:Value->Shared->Prop} {s:Shared} (h:wpAny M A t Q E s) (hQ:∀a s,Q a s->Q' a s):wpAny M A t Q' E s:=wpAny_mono h hQ fun _ _ x=>x
end L2
namespace L2
open PySem PySem.Spec PyProof.Rows
section
variable {X:Cx}
theorem bin {a b:Expr} {ta tb:TE} (ha:PE X a ta) (hb:PE X b tb) {pins:List (Addr×Obj)} {s:Shared} {σ:St} {H:Hp} {R:V->V->Hp->Prop} (I:Inv X pins σ H s) (h:ta σ H fun x H1=>tb σ H1 fun y H2=>R x y H2)
  {α:Type} {Q:α->Shared->Prop} {f:Value->Value->Sem α}
  (hf:∀v u s2 x y H2,Inv X pins σ H2 s2->RelV x v->RelV y u->R x y H2->wpAny (model X.prog X.w) X.A (f v u) Q X.xe s2) :
  wpAny (model X.prog X.w) X.A (eval a X.env) (fun v s₁=>wpAny (model X.prog X.w) X.A (eval b X.env) (fun u s₂=>wpAny (model X.prog X.w) X.A (f v u) Q X.xe s₂) X.xe s₁) X.xe s:=by
 refine thn (ha pins s σ H _ I h) fun v s1 ⟨x,H1,I1,r1,q1⟩=>?_
 refine thn (hb pins s1 σ H1 _ I1 q1) fun u s2 ⟨y,H2,I2,r2,q2⟩=>?_
 exact hf v u s2 x y H2 I2 r1 r2 q2
def RM (i:Nat):TE:=fun σ H Q=>∃v,σ[i]?=some (some v)/\Q v H
def tC (v:V):TE:=fun _ H Q=>Q v H
theorem zii {i:Nat} {x:Str} {pos:Pos} (hN:X.N[i]?=some x) (hv:Vis X.env.scope x) (hd:(x==("__debug__" : Str))=false:=by decide) (hcd:(x==("__classdict__" : Str))=false:=by decide):PE X (.Name x pos) (RM i):=by
 intro pins s σ H Q I h
 obtain⟨v,e,h⟩:=h
 obtain⟨m,hn,hl⟩:=I.loc
 obtain⟨u,r,l⟩:=hl i x v hN e hv
 have fin:EP X pins σ Q u s:=⟨v,H,I,r,h⟩
 rcases l with ⟨hk,hm⟩ | ⟨hk,c,hc,hcell⟩
 ·exact wpAny_Name (wpAny_loadName_local I.ok.kind hk hn hm fin) hd
 ·rcases hk with hk | hk
  ·exact wpAny_Name (wpAny_loadName_cell I.ok.kind hk hc hcell fin) hd
  ·exact wpAny_Name (wpAny_loadName_free I.ok.kind hk hc hcell fin hcd) hd
theorem zp {i j pos}:PE X (.Constant (.int i) j pos) (tC (.int i)):=fun _ _ _ H _ I h=>wpAny_Constant_int ⟨.int i,H,I.tok _,⟨_,rfl⟩,h⟩
theorem Wd {b j pos}:PE X (.Constant (.bool b) j pos) (tC (.bl b)):=fun _ _ _ H _ I h=>Constant_bool ⟨.bl b,H,I,rfl,h⟩
theorem Tz {j pos}:PE X (.Constant .none j pos) (tC .non):=fun _ _ _ H _ I h=>Constant_none ⟨.non,H,I,rfl,h⟩
theorem xZ {x j pos}:PE X (.Constant (.str x) j pos) (tC (.str x)):=fun _ _ _ H _ I h=>Calls.Constant_str ⟨.str x,H,I.tok _,⟨_,rfl⟩,h⟩
def Gl (X:Cx) (x:Str):Prop:=X.env.kindOf x=some .globalImplicit
theorem zaB {E:Value->Shared->Prop} {pins:List (Addr×Obj)} {s:Shared} {σ:St} {H:Hp} {x:Str} {u:Value} {pos:Pos} {Q:Value->Shared->Prop} (I:Inv X pins σ H s) (hg:Gl X x) (hm:X.mg x=some u) (h:Q u s)
  (hd:(x==("__debug__" : Str))=false:=by decide):wpAny (model X.prog X.w) X.A (eval (.Name x pos) X.env) Q E s :=
 Calls.Name_function_global I.ok.kind hg (Calls.loadGlobal_global (by rw[I.ok.glob]; exact I.mod.glob.keeps I.bk) hm h) hd
theorem Zy {E:Value->Shared->Prop} {pins:List (Addr×Obj)} {s:Shared} {σ:St} {H:Hp} {x:Str} {u:Value} {pos:Pos} {Q:Value->Shared->Prop} (I:Inv X pins σ H s) (hg:Gl X x) (hm:X.mg x=none) (hv:bootBuiltins x=some u) (h:Q u s)
  (hn:x ≠ "__name__" := by decide) (hd:(x==("__debug__" : Str))=false:=by decide):wpAny (model X.prog X.w) X.A (eval (.Name x pos) X.env) Q E s:=by
 obtain⟨mb,h1,h2⟩:=I.mod.blt
 exact Calls.Name_function_global I.ok.kind hg (Calls.loadGlobal_builtin (by rw[I.ok.glob]; exact I.mod.glob.keeps I.bk) hm (by rw[I.ok.blt]; exact h1.keeps I.bk) ((h2 x hn).trans hv) h) hd
theorem ZD {x:Str} {v:V} {u:Value} {pos:Pos} (hg:Gl X x) (hm:X.mg x=some u) (r:RelV v u) (hd:(x==("__debug__" : Str))=false:=by decide):PE X (.Name x pos) (tC v) :=
 fun _ _ _ H _ I h=>zaB I hg hm ⟨v,H,I,r,h⟩ hd
theorem zd4 {x:Str} {v:V} {u:Value} {pos:Pos} (hg:Gl X x) (hm:X.mg x=none) (hv:bootBuiltins x=some u) (r:RelV v u) (hn:x ≠ "__name__" := by decide) (hd:(x==("__debug__" : Str))=false:=by decide):PE X (.Name x pos) (tC v) :=
 fun _ _ _ H _ I h=>Zy I hg hm hv ⟨v,H,I,r,h⟩ hn hd
variable {a b:Expr} {ta tb:TE} {pos:Pos}
def PC (X:Cx) (op:CmpOp) (a b:Expr) (t:TE):Prop :=
 ∀(pins:List (Addr×Obj)) (s:Shared) (σ:St) (H:Hp) (Q:VK),Inv X pins σ H s->t σ H Q ->
  wpAny (model X.prog X.w) X.A (eval a X.env) (fun v s₁=>wpAny (model X.prog X.w) X.A (eval b X.env) (fun u s₂=>wpAny (model X.prog X.w) X.A (compareOp op v u) (EP X pins σ Q) X.xe s₂) X.xe s₁) X.xe s
def tB (t:TE):TT:=fun σ H Q=>t σ H fun x H1=>∃c,x=.bl c/\Q c H1
theorem zij {op:CmpOp} {t:TE} (h:PC X op a b t) (h1:behindInMarks op b=false:=by first | exact nobehind _ (by decide) (by decide) | rfl):PT X (.Compare a [op] [b] pos) (tB t):=by
 intro pins s σ H Q I hw
 refine wpAny_isTrue_Compare1 (thn (h pins s σ H _ I hw) fun v s1 h1=>thn h1 fun u s2 h2=>thn h2 fun c s3 ⟨x,H1,I1,r1,q1⟩=>?_) h1
 obtain⟨d,rfl,q⟩:=q1
 cases r1
 exact wpAny_truthy_bool ⟨H1,I1,q⟩
variable {tA tB':TT} {rest:List Expr}
def zjr (t u:TT):TT:=fun σ H Q=>t σ H fun c H1=>if c=true then u σ H1 Q else Q false H1
def tOr (t u:TT):TT:=fun σ H Q=>t σ H fun c H1=>if c=true then Q true H1 else u σ H1 Q
def zjs (t:TT):TT:=fun σ H Q=>t σ H fun c H1=>Q (!c) H1
theorem zaC (ha:PT X a tA):PW X (.BoolOp .And [a] pos) tA:=by
 intro wh pins s σ H Q I h
 refine isTrue_and (thn (ha pins s σ H Q I h) fun c s1 e=>?_)
 cases c with
 | true=>exact isTrue_and_nil e
 | false=>exact e
theorem Vy (ha:PT X a tA):PW X (.BoolOp .Or [a] pos) tA:=by
 intro wh pins s σ H Q I h
 refine isTrue_or (thn (ha pins s σ H Q I h) fun c s1 e=>?_)
 cases c with
 | false=>exact isTrue_or_nil e
 | true=>exact e
theorem zct (ha:PT X a tA) (hb:PW X (.BoolOp .And (b::rest) pos) tB'):PW X (.BoolOp .And (a::b::rest) pos) (zjr tA tB'):=by
 intro wh pins s σ H Q I h
 refine isTrue_and (thn (ha pins s σ H _ I h) fun c s1 ⟨H1,I1,q1⟩=>?_)
 cases c with
 | true=>exact hb wh pins s1 σ H1 Q I1 q1
 | false=>exact⟨H1,I1,q1⟩
theorem Ur (ha:PT X a tA) (hb:PW X (.BoolOp .Or (b::rest) pos) tB'):PW X (.BoolOp .Or (a::b::rest) pos) (tOr tA tB'):=by
 intro wh pins s σ H Q I h
 refine isTrue_or (thn (ha pins s σ H _ I h) fun c s1 ⟨H1,I1,q1⟩=>?_)
 cases c with
 | true=>exact⟨H1,I1,q1⟩
 | false=>exact hb wh pins s1 σ H1 Q I1 q1
theorem TF (ha:PT X a tA):PT X (.UnaryOp .Not a pos) (zjs tA):=by
 intro pins s σ H Q I h
 exact isTrue_not (ha pins s σ H (fun c H1=>Q (!c) H1) I h)
def ziZ (ta tb:TE):TE:=fun σ H Q=>ta σ H fun x H1=>∃c,x=.bl c/\if c=true then tb σ H1 Q else Q (.bl false) H1
def zjt (ta tb:TE):TE:=fun σ H Q=>ta σ H fun x H1=>∃c,x=.bl c/\if c=true then Q (.bl true) H1 else tb σ H1 Q
theorem zcu {op} {t:TE} (h:PE X a t):PE X (.BoolOp op [a] pos) t:=fun pins s σ H Q I hw=>BoolOp_one (h pins s σ H Q I hw)
theorem zcv (ha:PE X a ta) (hb:PE X (.BoolOp .And (b::rest) pos) tb):PE X (.BoolOp .And (a::b::rest) pos) (ziZ ta tb):=by
 intro pins s σ H Q I h
 refine BoolOp_and (thn (ha pins s σ H _ I h) fun v s1 ⟨x,H1,I1,r1,q1⟩=>?_)
 obtain⟨c,rfl,q1⟩:=q1
 cases r1
 refine wpAny_truthy_bool ?_
 cases c with
 | true=>exact hb pins s1 σ H1 Q I1 q1
 | false=>exact⟨.bl false,H1,I1,rfl,q1⟩
theorem zi0 (ha:PE X a ta) (hb:PE X (.BoolOp .Or (b::rest) pos) tb):PE X (.BoolOp .Or (a::b::rest) pos) (zjt ta tb):=by
 intro pins s σ H Q I h
 refine BoolOp_or (thn (ha pins s σ H _ I h) fun v s1 ⟨x,H1,I1,r1,q1⟩=>?_)
 obtain⟨c,rfl,q1⟩:=q1
 cases r1
 refine wpAny_truthy_bool ?_
 cases c with
 | false=>exact hb pins s1 σ H1 Q I1 q1
 | true=>exact⟨.bl true,H1,I1,rfl,q1⟩
def tIf (t:TT) (ta tb:TE):TE:=fun σ H Q=>t σ H fun c H1=>if c=true then ta σ H1 Q else tb σ H1 Q
theorem K5 {c:Expr} (hc:PT X c tA) (ha:PE X a ta) (hb:PE X b tb):PE X (.IfExp c a b pos) (tIf tA ta tb):=by
 intro pins s σ H Q I h
 refine wpAny_IfExp (thn (hc pins s σ H _ I h) fun d s1 ⟨H1,I1,q1⟩=>?_)
 cases d with
 | true=>exact ha pins s1 σ H1 Q I1 q1
 | false=>exact hb pins s1 σ H1 Q I1 q1
end
end L2
namespace L2
open PySem PySem.Spec PyProof.Rows
def SqL (K:PySem.W.Frag) (H:Hp) (a:Addr) (xs:List V):Prop :=
 Rd H a (.lst xs) \/
  ∃(o:Obj) (its:Array Value) (n:Nat),K.lookup a=some o/\o.cls=.type "list" /\ o.dict=none/\o.data=.seq its n/\its.size<=sizeLine/\Vals xs its.toList
def SqT (K:PySem.W.Frag) (H:Hp) (a:Addr) (xs:List V):Prop :=
 Rd H a (.tup xs) \/
  ∃(o:Obj) (its:Array Value) (n:Nat),K.lookup a=some o/\o.cls=.type "tuple" /\ o.data=.seq its n/\its.size<=sizeLine/\Vals xs its.toList
def u9:Value->Option V
 | .none=>some .non
 | .bool b=>some (.bl b)
 | .int i _=>some (.int i)
 | .str x _=>some (.str x)
 | .bytes b _=>some (.byt b)
 | .float b _=>some (.flt b)
 | .ref a=>some (.ref a)
 | .type n=>some (.ty n)
 | _=>none
theorem RelV.abs {x:V} {u:Value} (r:RelV x u):u9 u=some x:=by
 cases x with
 | non=>cases r; rfl
 | bl _=>cases r; rfl
 | int _=>obtain⟨t,rfl⟩:=r; rfl
 | str _=>obtain⟨t,rfl⟩:=r; rfl
 | byt _=>obtain⟨t,rfl⟩:=r; rfl
 | flt _=>obtain⟨t,rfl⟩:=r; rfl
 | ref _=>cases r; rfl
 | ty _=>cases r; rfl
theorem RelV.inj {x y:V} {u:Value} (r:RelV x u) (q:RelV y u):x=y:=Option.some.inj (r.abs.symm.trans q.abs)
theorem Vals.inj:∀{xs ys:List V} {us:List Value},Vals xs us->Vals ys us->xs=ys
 | _,_,_,.nil,.nil=>rfl
 | _,_,_,.cons r t,.cons r' t'=>by rw[r.inj r',Vals.inj t t']
section
variable {X:Cx} {pins:List (Addr×Obj)} {σ:St} {H:Hp} {s:Shared} {a:Addr} {xs ys:List V}
theorem SqL.of {K:PySem.W.Frag} (h:H a=some (.lst xs)):SqL K H a xs:=.inl (.inl h)
theorem SqT.of {K:PySem.W.Frag} (h:H a=some (.tup xs)):SqT K H a xs:=.inl (.inl h)
theorem Inv.list (I:Inv X pins σ H s) (h:SqL X.K H a xs):∃its:List Value,Vals xs its/\PlainL s.heap a its.toArray/\xs.length<=sizeLine:=by
 rcases h with h | ⟨o,its,n,hk,hc,hd,hs,hz,r⟩
 ·obtain⟨z,its,n,r,e⟩:=h.ok I.hok
  exact⟨its,r,⟨_,n,e,rfl,rfl,rfl⟩,z⟩
 ·refine⟨its.toList,r,⟨o,n,I.kIn a o hk,hc,hd,by simpa using hs⟩,?_⟩
  have e:=r.length
  simp only[Array.length_toList] at e
  omega
theorem Inv.tuple (I:Inv X pins σ H s) (h:SqT X.K H a xs):∃its:List Value,Vals xs its/\IsTup s.heap a its.toArray/\xs.length<=sizeLine:=by
 rcases h with h | ⟨o,its,n,hk,hc,hs,hz,r⟩
 ·obtain⟨z,its,r,p⟩:=h.ok I.hok
  exact⟨its,r,p,z⟩
 ·refine⟨its.toList,r,⟨o,I.kIn a o hk,hc,n,by simpa using hs⟩,?_⟩
  have e:=r.length
  simp only[Array.length_toList] at e
  omega
theorem Inv.list_inj (I:Inv X pins σ H s) (h:SqL X.K H a xs) (h':SqL X.K H a ys):xs=ys:=by
 obtain⟨its,r,⟨o,n,e,_,_,d⟩,_⟩:=I.list h
 obtain⟨its',r',⟨o',n',e',_,_,d'⟩,_⟩:=I.list h'
 rw[e] at e'; cases e'
 rw[d] at d'
 injection d' with d1 _
 have:its=its':=by simpa using congrArg Array.toList d1
 subst this
 exact r.inj r'
theorem Inv.tuple_inj (I:Inv X pins σ H s) (h:SqT X.K H a xs) (h':SqT X.K H a ys):xs=ys:=by
 obtain⟨its,r,⟨o,e,_,n,d⟩,_⟩:=I.tuple h
 obtain⟨its',r',⟨o',e',_,n',d'⟩,_⟩:=I.tuple h'
 rw[e] at e'; cases e'
 rw[d] at d'
 injection d' with d1 _
 have:its=its':=by simpa using congrArg Array.toList d1
 subst this
 exact r.inj r'
end
abbrev Cx.wish (X:Cx) (E:Value->Shared->Prop):Cx:={ X with xe:=E }
abbrev Cx.nox (X:Cx):Cx:=X.wish fun _ _=>False
theorem Cx.Ok.wish {X:Cx} (ok:X.Ok) (E:Value->Shared->Prop):(X.wish E).Ok :=
 ⟨ok.mod,ok.kind,ok.glob,ok.blt,ok.above,ok.inj,ok.has,ok.cab,ok.hd,ok.frames,ok.stk,ok.exf,ok.bs,ok.bsz,ok.noex,ok.exfs,ok.funs,ok.frf⟩
theorem Cx.Ok.unwish {X:Cx} {E:Value->Shared->Prop} (ok:(X.wish E).Ok):X.Ok :=
 ⟨ok.mod,ok.kind,ok.glob,ok.blt,ok.above,ok.inj,ok.has,ok.cab,ok.hd,ok.frames,ok.stk,ok.exf,ok.bs,ok.bsz,ok.noex,ok.exfs,ok.funs,ok.frf⟩
section
variable {X:Cx} {pins:List (Addr×Obj)} {σ:St} {H:Hp} {s:Shared} {E:Value->Shared->Prop}
theorem Inv.wish (I:Inv X pins σ H s) (E:Value->Shared->Prop):Inv (X.wish E) pins σ H s:=⟨I.ok.wish E,I.os,I.bare,I.base,I.loc,I.cell,I.free,I.freeC,I.pin,I.hok,I.len⟩
theorem Inv.unwish (I:Inv (X.wish E) pins σ H s):Inv X pins σ H s:=⟨I.ok.unwish,I.os,I.bare,I.base,I.loc,I.cell,I.free,I.freeC,I.pin,I.hok,I.len⟩
theorem SP.unwish {D:Ends} {f:Flow} {s':Shared} (h:SP (X.wish E) pins D f s'):SP X pins D f s':=by
 cases f with
 | next=>obtain⟨σ',H',I,q⟩:=h; exact⟨σ',H',I.unwish,q⟩
 | brk=>obtain⟨σ',H',I,q⟩:=h; exact⟨σ',H',I.unwish,q⟩
 | cont=>obtain⟨σ',H',I,q⟩:=h; exact⟨σ',H',I.unwish,q⟩
 | ret u=>obtain⟨v,σ',H',I,r,q⟩:=h; exact⟨v,σ',H',I.unwish,r,q⟩
theorem PSs.nox {st:List Stmt} {t:TS} (h:PSs X.nox st t):PSs X st t:=fun pins s σ H D I hw =>
 wpAny_mono (h pins s σ H D (I.wish _) hw) (fun _ _ q=>q.unwish) fun _ _ z=>False.elim z
end
section
variable {X:Cx} {st:Stmt} {rest:List Stmt} {t u:TS} {e:Expr} {te:TE} {pos:Pos}
def zi1:TS:=fun D σ H=>D.nx σ H
def zju (t u:TS):TS:=fun D σ H=>t { D with nx:=u D } σ H
theorem yu:PSs X [] zi1:=fun _ _ σ H _ I h=>wpAny_execs_nil ⟨σ,H,I,h⟩
theorem zj (h1:PS X st t) (h2:PSs X rest u):PSs X (st::rest) (zju t u):=by
 intro pins s σ H D I h
 refine wpAny_execs_cons (thn (h1 pins s σ H { D with nx:=u D } I h) fun f s1 q=>?_)
 cases f with
 | next =>
  obtain⟨σ',H',I',q⟩:=q
  exact h2 pins s1 σ' H' D I' q
 | ret v=>exact q
 | brk=>exact q
 | cont=>exact q
theorem zx (h1:PS X st t):PSs X [st] t:=by
 intro pins s σ H D I h
 refine wpAny_execs_cons (thn (h1 pins s σ H D I h) fun f s1 q=>?_)
 cases f with
 | next=>exact wpAny_execs_nil q
 | ret v=>exact q
 | brk=>exact q
 | cont=>exact q
theorem Inv.quiet {pins:List (Addr×Obj)} {σ:St} {H:Hp} {s:Shared} (I:Inv X pins σ H s):interactive X.env=false:=by simp[interactive,I.ok.kind]
def zi2 (te:TE):TS:=fun D σ H=>te σ H fun _ H1=>D.nx σ H1
theorem yt (he:PE X e te) (hs:swapsWith e none pos.line X.env=pure false:=by rfl):PS X (.Expr e pos) (zi2 te):=by
 intro pins s σ H D I h
 exact wpAny_Expr_any (thn (he pins s σ H _ I h) fun v s1 ⟨x,H1,I1,r1,q1⟩=>⟨σ,H1,I1,q1⟩) I.quiet hs
def zjv (te:TE):TS:=fun D σ H=>te σ H D.rt
theorem zK (he:PE X e te):PS X (.Return (some e) pos) (zjv te):=by
 intro pins s σ H D I h
 exact wpAny_Return_some (thn (he pins s σ H _ I h) fun v s1 ⟨x,H1,I1,r1,q1⟩=>⟨x,σ,H1,I1,r1,q1⟩)
def zjw (c:TT) (t u:TS):TS:=fun D σ H=>c σ H fun b H1=>if b=true then t D σ H1 else u D σ H1
theorem yS {c:Expr} {a b:List Stmt} {tc:TT} (hc:PT X c tc) (ha:PSs X a t) (hb:PSs X b u):PS X (.If c a b pos) (zjw tc t u):=by
 intro pins s σ H D I h
 refine wpAny_If (thn (hc pins s σ H _ I h) fun d s1 ⟨H1,I1,q1⟩=>?_)
 cases d with
 | true=>exact ha pins s1 σ H1 D I1 q1
 | false=>exact hb pins s1 σ H1 D I1 q1
def zik:TS:=fun _ _ _=>False
theorem Z8:PS X st zik:=fun _ _ _ _ _ _ h=>h.elim
end
abbrev TG:=V->St->Hp->(St->Hp->Prop)->Prop
abbrev TGs:=List V->St->Hp->(St->Hp->Prop)->Prop
def PG (X:Cx) (target:Expr) (t:TG):Prop :=
 ∀(pins:List (Addr×Obj)) (s:Shared) (σ:St) (H:Hp) (v:V) (u:Value) (Q:St->Hp->Prop),Inv X pins σ H s->RelV v u->t v σ H Q ->
  wpAny (model X.prog X.w) X.A (assign target X.env u) (fun _ s'=>∃ σ' H',Inv X pins σ' H' s'/\Q σ' H') X.xe s
def PGs (X:Cx) (ts:List Expr) (t:TGs):Prop :=
 ∀(pins:List (Addr×Obj)) (s:Shared) (σ:St) (H:Hp) (vs:List V) (us:List Value) (Q:St->Hp->Prop),Inv X pins σ H s->Vals vs us->t vs σ H Q ->
  wpAny (model X.prog X.w) X.A (assignInOrder ((assignEach ts X.env).map (·.2)) us) (fun _ s'=>∃ σ' H',Inv X pins σ' H' s'/\Q σ' H') X.xe s
abbrev TIp:=V->V->Hp->VK->Prop
def PIp (X:Cx) (op:Operator) (t:TIp):Prop :=
 ∀(pins:List (Addr×Obj)) (s:Shared) (σ:St) (H:Hp) (x y:V) (v u:Value) (Q:VK),Inv X pins σ H s->RelV x v->RelV y u->t x y H Q ->
  wpAny (model X.prog X.w) X.A (inplaceOp op v u) (EP X pins σ Q) X.xe s
section
variable {X:Cx} {pos:Pos}
def Wf (i:Nat):TG:=fun v σ H Q=>Q (σ.set i (some v)) H
theorem yD {i:Nat} {x:Str} (hN:X.N.Nodup) (hi:X.N[i]?=some x) (hx:Loc X.env.scope x) (hf:X.fn x=true\/X.env.scope.names.lookup x=some .local:=by first | exact .inl rfl | exact .inr rfl | assumption):PG X (.Name x pos) (Wf i):=by
 intro pins s σ H v u Q I r h
 exact wpAny_assign_Name (K4 I hN hi hx r (fun s' I'=>⟨_,H,I',h⟩) hf)
def zeK:TGs:=fun vs σ H Q=>vs=[]/\Q σ H
def QV (t:TG) (u:TGs):TGs:=fun vs σ H Q=>∃v r,vs=v::r/\t v σ H fun σ' H'=>u r σ' H' Q
theorem WX:PGs X [] zeK:=by
 intro pins s σ H vs us Q I r h
 obtain⟨e,h⟩:=h
 subst e
 cases r
 exact assignInOrder_nil ⟨σ,H,I,h⟩
theorem wN {e:Expr} {es:List Expr} {t:TG} {u:TGs} (h1:PG X e t) (h2:PGs X es u)
  (hs:(assignEach (e::es) X.env).map (·.2)=assign e X.env::(assignEach es X.env).map (·.2):=by rfl):PGs X (e::es) (QV t u):=by
 intro pins s σ H vs us Q I r h
 obtain⟨v,vr,e1,h⟩:=h
 subst e1
 cases r with
 | cons r rr =>
  rw[hs]
  refine assignInOrder_cons (thn (h1 pins s σ H _ _ _ I r h) fun _ s1 ⟨σ1,H1,I1,q1⟩=>?_)
  exact h2 pins s1 σ1 H1 _ _ Q I1 rr q1
def zeL (K:PySem.W.Frag) (n:Nat) (t:TGs):TG:=fun v σ H Q=>∃a xs,v=.ref a/\SqT K H a xs/\xs.length=n/\t xs σ H Q
theorem TJ {es:List Expr} {k:Nat} {t:TGs} {n:Nat} (hc:X.calm=true) (h:PGs X es t)
  (hn:(assignEach es X.env).length=n:=by rfl) (hst:(assignEach es X.env).findIdx? (·.1)=none:=by rfl):PG X (.Tuple es k pos) (zeL X.K n t):=by
 intro pins s σ H v u Q I r hw
 obtain⟨a,xs,e1,hq,hl,hw⟩:=hw
 subst e1
 cases r
 obtain⟨its,rv,ht,hz⟩:=I.tuple hq
 refine assign_Tuple_tuple (I.ok.hd hc) ht (by simp[hn,<-hl,rv.length]) hst fun h' hx=>?_
 have I1:Inv X pins σ H { s with heap:=h' }:=I.kept (t':=s.toks) fun b o e=>hx b o (Nat.ne_of_lt (Heap.lt_size e)) e
 exact h pins _ σ H xs _ Q I1 (by simpa using rv) hw
def zgr (te:TE) (g:TG):TS:=fun D σ H=>te σ H fun x H1=>g x σ H1 D.nx
theorem zcw {tg e:Expr} {te:TE} {g:TG} (he:PE X e te) (hg:PG X tg g) (hs:swapsWithSole [tg] e pos.line X.env=pure false:=by rfl) (hw:swappedStores [tg] e X.env=pure none:=by rfl)
  (h1:(assignEach [tg] X.env).map (·.2)=[assign tg X.env]:=by rfl):PS X (.Assign [tg] e pos) (zgr te g):=by
 intro pins s σ H D I h
 refine wpAny_Assign_stores (thn (he pins s σ H _ I h) fun v s1 ⟨x,H1,I1,r1,q1⟩=>?_) hs hw
 rw[h1]
 exact thn (hg pins s1 σ H1 x v _ I1 r1 q1) fun _ s2 q=>q
theorem zH {i:Nat} {x:Str} {e:Expr} {te:TE} {pos':Pos} (hN:X.N.Nodup) (hi:X.N[i]?=some x) (hx:Loc X.env.scope x) (he:PE X e te) (hs:swapsWith e (some (.Name x pos')) pos.line X.env=pure false:=by rfl) (hf:X.fn x=true\/X.env.scope.names.lookup x=some .local:=by first | exact .inl rfl | exact .inr rfl | assumption) :
  PS X (.Assign [.Name x pos'] e pos) (zgr te (Wf i)):=by
 intro pins s σ H D I h
 refine wpAny_Assign_Name (thn (he pins s σ H _ I h) fun v s1 ⟨y,H1,I1,r1,q1⟩=>?_) hs
 exact K4 I1 hN hi hx r1 (fun s2 I2=>⟨_,H1,I2,q1⟩) hf
def zjx (i:Nat) (te:TE) (ti:TIp):TS:=fun D σ H=>∃x,σ[i]?=some (some x)/\te σ H fun y H1=>ti x y H1 fun z H2=>D.nx (σ.set i (some z)) H2
theorem zcx {i:Nat} {x:Str} {e:Expr} {te:TE} {op:Operator} {ti:TIp} {pos':Pos} (hN:X.N.Nodup) (hi:X.N[i]?=some x) (hx:Loc X.env.scope x) (he:PE X e te) (ho:PIp X op ti) (hf:X.fn x=true\/X.env.scope.names.lookup x=some .local:=by first | exact .inl rfl | exact .inr rfl | assumption) :
  PS X (.AugAssign (.Name x pos') op e pos) (zjx i te ti):=by
 intro pins s σ H D I h
 obtain⟨v,e1,h⟩:=h
 obtain⟨m,hn,hl⟩:=I.loc
 have vis:Vis X.env.scope x:=by rcases hx with k | k; exact .inl k; exact .inr (.inl k)
 obtain⟨u,r,l⟩:=hl i x v hi e1 vis
 refine wpAny_AugAssign_Name ?_
 have go:wpAny (model X.prog X.w) X.A (eval e X.env) (fun w s₂=>wpAny (model X.prog X.w) X.A (inplaceOp op u w) (fun r s₃=>wpAny (model X.prog X.w) X.A (storeName X.env x r) (fun _=>SP X pins D .next) X.xe s₃) X.xe s₂) X.xe s:=by
  refine thn (he pins s σ H _ I h) fun w s1 ⟨y,H1,I1,r1,q1⟩=>?_
  refine thn (ho pins s1 σ H1 v y u w _ I1 r r1 q1) fun z s2 ⟨zv,H2,I2,r2,q2⟩=>?_
  exact K4 I2 hN hi hx r2 (fun s3 I3=>⟨_,H2,I3,q2⟩) hf
 rcases l with ⟨hk,hm⟩ | ⟨hk,c,hc,hcell⟩
 ·exact wpAny_loadName_local I.ok.kind hk hn hm go
 ·rcases hk with hk | hk
  ·exact wpAny_loadName_cell I.ok.kind hk hc hcell go
  ·rcases hx with k | k
   ·have:X.env.scope.names.lookup x=some .free:=hk
    rw[k] at this; cases this
   ·have:X.env.scope.names.lookup x=some .free:=hk
    rw[k] at this; cases this
end
section
variable {X:Cx} {pos:Pos}
def zil (c:TT) (tb:TS):TS:=fun D σ H=>∃W:Nat->St->Hp->Prop,(∃m,W m σ H)/\∀m σ H,W m σ H ->
 c σ H fun b H1=>if b=true then ∃N:St->Hp->Prop,(∀ σ' H',N σ' H'->∃m',m'<m/\W m' σ' H')/\tb { D with nx:=N,ct:=N,bk:=D.nx } σ H1 else D.nx σ H1
theorem TQ {c:Expr} {body:List Stmt} {tc:TT} {tb:TS} (hp:PassesOwn (model X.prog X.w) X.A X.env X.xe) (hc:PT X c tc) (hb:PSs X body tb):PS X (.While c body [] pos) (zil tc tb):=by
 intro pins s σ H D I h
 obtain⟨W,⟨m0,w0⟩,turn⟩:=h
 refine wpAny_While (codeAny_whileLoop (fun n s'=>∃ σ' H',Inv X pins σ' H' s'/\W n σ' H') ?_ m0 ⟨σ,H,I,w0⟩)
 rintro n s1 ⟨σ1,H1,I1,w1⟩
 refine wpAny_passesOwn hp (thn (hc pins s1 σ1 H1 _ I1 (turn n σ1 H1 w1)) fun b s2 ⟨H2,I2,q2⟩=>?_)
 cases b with
 | true =>
  obtain⟨N,hN,q2⟩:=q2
  rw[if_pos rfl]
  refine wpAny_passesOwn hp (thn (hb pins s2 σ1 H2 _ I2 q2) fun f s3 q3=>?_)
  cases f with
  | next =>
   obtain⟨σ3,H3,I3,n3⟩:=q3
   obtain⟨m',hm,w3⟩:=hN σ3 H3 n3
   exact⟨m',hm,σ3,H3,I3,w3⟩
  | cont =>
   obtain⟨σ3,H3,I3,n3⟩:=q3
   obtain⟨m',hm,w3⟩:=hN σ3 H3 n3
   exact⟨m',hm,σ3,H3,I3,w3⟩
  | brk=>exact q3
  | ret v=>exact q3
 | false =>
  rw[if_neg Bool.false_ne_true]
  exact wpAny_execs_nil ⟨σ1,H2,I2,q2⟩
end
structure It where
 go:Nat->Hp->Prop
 yld:Nat->Hp->V->Hp->Prop
 stop:Nat->Hp->Prop
def RN (X:Cx) (pins:List (Addr×Obj)) (H:Hp) (b:Addr):Prop :=
 H b=none/\b≠X.env.locals/\b∉X.fs/\(b∈X.ex\/X.s₀.heap.objs.size<=b)/\(∀x c,X.env.cells.lookup x=some c->c≠b)/\∀p∈X.pn++pins,p.1≠b
theorem Inv.fpOk {X:Cx} {pins:List (Addr×Obj)} {σ:St} {H H':Hp} {s:Shared} {b:Addr} (I:Inv X pins σ H s) (hb:s.heap.objs.size<=b) (hn:H' b=none):RN X pins H' b:=by
 refine⟨hn,Nat.ne_of_gt (Nat.lt_of_lt_of_le I.lt hb),I.nofs hb,.inr (Nat.le_trans I.sz hb),fun x c e z=>?_,fun p hp z=>?_⟩
 ·obtain⟨v,q⟩:=I.cell x c e
  exact absurd (Nat.lt_of_lt_of_le q.lt (by rw[z]; exact hb)) (Nat.lt_irrefl _)
 ·exact absurd (Nat.lt_of_lt_of_le (Heap.lt_size (I.pin p hp).1) (by rw[z]; exact hb)) (Nat.lt_irrefl _)
structure Turn (P:Program) (w:World) (K:PySem.W.Frag) (tg:Expr) (J:It) (fp:List Addr) (it:Addr) (tn:Nat->Heap->Prop):Prop where
 mem:it∈fp
 obj:∀i h,tn i h->∀b∈fp,∃o,h.get? b=some o/\∀v,o.data≠.cell v
 keep:∀i h h',tn i h->(∀b∈fp,∀o,h.get? b=some o->h'.get? b=some o)->tn i h'
 item:∀(X:Cx),X.prog=P->X.w=w->X.K=K->X.calm=true->∀(i:Nat) (pins:List (Addr×Obj)) (s:Shared) (σ:St) (H:Hp) (E:Value->Shared->Prop),Inv X pins σ H s->(∀b∈fp,RN X pins H b)->tn i s.heap->J.go i H ->
  wpAny (model P w) X.A (pyNext (.ref it)) (fun r s1=>∃u,r=some u /\
   wpAny (model P w) X.A (letOwnedTupleGo tg (.ref it) u) (fun _ s2=>∃x H',Inv X pins σ H' s2/\RelV x u/\J.yld i H x H'/\tn (i+1) s2.heap/\∀b∈fp,H' b=none) E s1) E s
 done:∀(X:Cx),X.prog=P->X.w=w->X.K=K->X.calm=true->∀(i:Nat) (pins:List (Addr×Obj)) (s:Shared) (σ:St) (H:Hp) (E:Value->Shared->Prop),Inv X pins σ H s->(∀b∈fp,RN X pins H b)->tn i s.heap->J.stop i H ->
  wpAny (model P w) X.A (pyNext (.ref it)) (fun r s1=>r=none/\Inv X pins σ H s1) E s
 self:∀(A:Around) (i:Nat) (s:Shared) (Q:Value->Shared->Prop) (E:Value->Shared->Prop),tn i s.heap->Q (.ref it) s->wpAny (model P w) A (pyIter (.ref it)) Q E s
abbrev TI:=St->Hp->(It->Hp->Prop)->Prop
def PIE (X:Cx) (pins:List (Addr×Obj)) (σ:St) (tg:Expr) (R:It->Hp->Prop) (itv:Value) (s2:Shared):Prop :=
 ∃(it:Addr) (fp:List Addr) (tn:Nat->Heap->Prop) (J:It) (H':Hp),itv=.ref it/\Inv X pins σ H' s2/\Turn X.prog X.w X.K tg J fp it tn/\tn 0 s2.heap/\(∀b∈fp,RN X pins H' b)/\R J H'
def PI (X:Cx) (tg iter:Expr) (wi:TI):Prop :=
 ∀(pins:List (Addr×Obj)) (s:Shared) (σ:St) (H:Hp) (R:It->Hp->Prop),Inv X pins σ H s->wi σ H R ->
  wpAny (model X.prog X.w) X.A (eval iter X.env) (fun v s1=>wpAny (model X.prog X.w) X.A (pyIter v) (PIE X pins σ tg R) X.xe s1) X.xe s
theorem JK {M:Model} {A:Around} {E:Value->Shared->Prop} {s:Shared} {tg:Expr} {it:Addr} {u:Value} {o:Obj} {n:String} {vs:Array Value} {Q:Unit->Shared->Prop} (ho:s.heap.get? it=some o) (hc:o.cls=.type n) (hd:o.data=.fields vs)
  (hn:["enumerate", "zip", "dict_itemiterator", "dict_reverseitemiterator", "odict_iterator", "itertools.zip_longest", "itertools.pairwise"].contains n=false) (hQ:Q () s):wpAny M A (letOwnedTupleGo tg (.ref it) u) Q E s:=by
 unfold letOwnedTupleGo
 cases tg<;>first
  | exact wpAny_pure hQ
  | (cases u<;>first
    | exact wpAny_pure hQ
    | (refine wpAny_bind (wpAny_load ho ?_)
       rw[hc,hd]
       show wpAny M A (if (["enumerate", "zip", "dict_itemiterator", "dict_reverseitemiterator", "odict_iterator", "itertools.zip_longest", "itertools.pairwise"].contains n&&vs[0]?==some (rawInt _))=true then _ else _) Q E s
       rw[if_neg (by intro h; rw[hn,Bool.false_and] at h; cases h)]
       exact wpAny_pure hQ))
def Itl (K:PySem.W.Frag) (a:Addr):It :=
 ⟨fun i H=>∃xs x,SqL K H a xs/\xs[i]?=some x,fun i H x H'=>H'=H/\∀xs,SqL K H a xs->xs[i]?=some x,fun i H=>∃xs,SqL K H a xs/\xs.length<=i⟩
def Itt (K:PySem.W.Frag) (a:Addr):It :=
 ⟨fun i H=>∃xs x,SqT K H a xs/\xs[i]?=some x,fun i H x H'=>H'=H/\∀xs,SqT K H a xs->xs[i]?=some x,fun i H=>∃xs,SqT K H a xs/\xs.length<=i⟩
def Itr (lo:Int) (n:Nat):It:=⟨fun i _=>i<n,fun i H x H'=>H'=H/\x=.int (lo+i),fun i _=>n<=i⟩
theorem zfx {P:Program} {w:World} {K:PySem.W.Frag} {tg:Expr} (a it:Addr):Turn P w K tg (Itl K a) [it] it (fun i h=>h.IsListIter it a i) where
 mem:=by simp
 obj:=fun i h st b hb=>by
  have e:b=it:=by simpa using hb
  subst e
  obtain⟨o,e,c,d⟩:=st
  exact⟨o,e,fun v z=>by rw[d] at z; cases z⟩
 keep:=fun i h h' st k=>st.at fun o e=>k it (by simp) o e
 item:=by
  intro X hP hw hK hc i pins s σ H E I hf st hg
  subst hP hw hK
  obtain⟨xs,x,hq,hx⟩:=hg
  obtain⟨its,rv,p,hz⟩:=I.list hq
  obtain⟨u,hu,ru⟩:=rv.get hx
  obtain⟨f0,f1,f2,f3,f4,f5⟩:=hf it (by simp)
  refine wpAny_pyNext_list_item st p.isList (x:=u) (by simpa using hu) fun h' st' sb=>?_
  have I1:Inv X pins σ H { s with heap:=h' }:=I.turned (t':=s.toks) (fun b o hb e=>(sb.2 b hb).trans e) f0 f1 f3 f4 f5
  obtain⟨o,e,c,d⟩:=id st'
  exact⟨u,rfl,JK (s:={ s with heap:=h' }) e c d (by decide) ⟨x,H,I1,ru,⟨rfl,fun ys hy=>by rw[I.list_inj hy hq]; exact hx⟩,st',fun b hb=>(hf b hb).1⟩⟩
 done:=by
  intro X hP hw hK hc i pins s σ H E I hf st hg
  subst hP hw hK
  obtain⟨xs,hq,hx⟩:=hg
  obtain⟨its,rv,p,hz⟩:=I.list hq
  obtain⟨f0,f1,f2,f3,f4,f5⟩:=hf it (by simp)
  have hl:=rv.length
  exact wpAny_pyNext_list_end (I.ok.hd hc) st p.isList (by simp; omega) fun h' eb=>⟨rfl,I.turned (t':=s.toks) (fun b o hb e=>eb b o hb e) f0 f1 f3 f4 f5⟩
 self:=fun _ _ _ _ _ st h=>wpAny_pyIter_listiter st h
theorem zeM {P:Program} {w:World} {K:PySem.W.Frag} {tg:Expr} (a it:Addr):Turn P w K tg (Itt K a) [it] it (fun i h=>h.IsTupleIter it a i) where
 mem:=by simp
 obj:=fun i h st b hb=>by
  have e:b=it:=by simpa using hb
  subst e
  obtain⟨o,e,c,d⟩:=st
  exact⟨o,e,fun v z=>by rw[d] at z; cases z⟩
 keep:=fun i h h' st k=>st.at fun o e=>k it (by simp) o e
 item:=by
  intro X hP hw hK hc i pins s σ H E I hf st hg
  subst hP hw hK
  obtain⟨xs,x,hq,hx⟩:=hg
  obtain⟨its,rv,p,hz⟩:=I.tuple hq
  obtain⟨u,hu,ru⟩:=rv.get hx
  obtain⟨f0,f1,f2,f3,f4,f5⟩:=hf it (by simp)
  refine wpAny_pyNext_tuple_item st (show s.heap.IsTuple a its.toArray from p) (x:=u) (by simpa using hu) fun h' st' sb=>?_
  have I1:Inv X pins σ H { s with heap:=h' }:=I.turned (t':=s.toks) (fun b o hb e=>(sb.2 b hb).trans e) f0 f1 f3 f4 f5
  obtain⟨o,e,c,d⟩:=id st'
  exact⟨u,rfl,JK (s:={ s with heap:=h' }) e c d (by decide) ⟨x,H,I1,ru,⟨rfl,fun ys hy=>by rw[I.tuple_inj hy hq]; exact hx⟩,st',fun b hb=>(hf b hb).1⟩⟩
 done:=by
  intro X hP hw hK hc i pins s σ H E I hf st hg
  subst hP hw hK
  obtain⟨xs,hq,hx⟩:=hg
  obtain⟨its,rv,p,hz⟩:=I.tuple hq
  obtain⟨f0,f1,f2,f3,f4,f5⟩:=hf it (by simp)
  have hl:=rv.length
  exact wpAny_pyNext_tuple_end (I.ok.hd hc) st (show s.heap.IsTuple a its.toArray from p) (by simp; omega) fun h' eb=>⟨rfl,I.turned (t':=s.toks) (fun b o hb e=>eb b o hb e) f0 f1 f3 f4 f5⟩
 self:=fun _ _ _ _ _ st h=>wpAny_pyIter_tupleiter st h
theorem zeN {P:Program} {w:World} {K:PySem.W.Frag} {tg:Expr} (it:Addr) (lo:Int) (n:Nat):Turn P w K tg (Itr lo n) [it] it (fun i h=>IsRangeIter h it (lo+(i:Nat)*1) ((n:Int)-(i:Nat)) 1) where
 mem:=by simp
 obj:=fun i h st b hb=>by
  have e:b=it:=by simpa using hb
  subst e
  exact⟨_,st,fun v z=>by
   have z':Data.fields _=Data.cell v:=z
   cases z'⟩
 keep:=fun i h h' st k=>k it (by simp) _ st
 item:=by
  intro X hP hw hK hc i pins s σ H E I hf st hg
  subst hP hw hK
  obtain⟨f0,f1,f2,f3,f4,f5⟩:=hf it (by simp)
  have W:=Walks.range (prog:=X.prog) (w:=X.w) (I.ok.hd hc) it lo 1 n
  refine W.item i s _ _ hg st fun v h' tk hv st' kk=>?_
  obtain⟨t,rfl⟩:=hv
  have I1:Inv X pins σ H { s with heap:=h',toks:=tk }:=I.turned (fun b o hb e=>kk b o (by simpa using hb) e) f0 f1 f3 f4 f5
  refine⟨_,rfl,JK (s:={ s with heap:=h',toks:=tk }) (n := "range_iterator") st' rfl rfl (by decide) ⟨.int (lo+i),H,I1,⟨t,?_⟩,⟨rfl,rfl⟩,st',fun b hb=>(hf b hb).1⟩⟩
  rw[Int.mul_one]
 done:=by
  intro X hP hw hK hc i pins s σ H E I hf st hg
  subst hP hw hK
  obtain⟨f0,f1,f2,f3,f4,f5⟩:=hf it (by simp)
  exact wpAny_pyNext_range_end (I.ok.hd hc) st (by have:n<=i:=hg; omega) fun h' eb=>⟨rfl,I.turned (t':=s.toks) (fun b o hb e=>eb b o hb e) f0 f1 f3 f4 f5⟩
 self:=fun _ _ _ _ _ st h=>wpAny_pyIter_rangeiter st h
end L2
namespace L2
open PySem PySem.Spec PyProof.Rows
section
variable {X:Cx} {tg:Expr}
def zi3 (K:PySem.W.Frag) (tl:TE):TI:=fun σ H R=>tl σ H fun x H1=>∃a,x=.ref a/\(∃xs,SqL K H1 a xs)/\R (Itl K a) H1
def zjy (K:PySem.W.Frag) (tl:TE):TI:=fun σ H R=>tl σ H fun x H1=>∃a,x=.ref a/\(∃xs,SqT K H1 a xs)/\R (Itt K a) H1
theorem wg {l:Expr} {tl:TE} (hl:PE X l tl):PI X tg l (zi3 X.K tl):=by
 intro pins s σ H R I h
 refine thn (hl pins s σ H _ I h) fun v s1 ⟨x,H1,I1,r1,q1⟩=>?_
 obtain⟨a,e,⟨xs,hq⟩,q⟩:=q1
 subst e
 cases r1
 obtain⟨its,rv,p,hz⟩:=I1.list hq
 refine wpAny_pyIter_list p.isList ?_
 refine⟨s1.heap.objs.size,[s1.heap.objs.size],_,_,H1,rfl,I1.kept (t':=s1.toks) fun b o e=>Heap.get?_push_of_some _ e,zfx a _,⟨_,Heap.get?_push_size _ rfl,rfl,rfl⟩,fun b hb=>?_,q⟩
 have e:b=s1.heap.objs.size:=by simpa using hb
 subst e
 exact I1.fpOk (Nat.le_refl _) (I1.hok.fresh (Nat.le_refl _))
theorem TV {l:Expr} {tl:TE} (hl:PE X l tl):PI X tg l (zjy X.K tl):=by
 intro pins s σ H R I h
 refine thn (hl pins s σ H _ I h) fun v s1 ⟨x,H1,I1,r1,q1⟩=>?_
 obtain⟨a,e,⟨xs,hq⟩,q⟩:=q1
 subst e
 cases r1
 obtain⟨its,rv,p,hz⟩:=I1.tuple hq
 refine wpAny_pyIter_tuple (show s1.heap.IsTuple a its.toArray from p) ?_
 refine⟨s1.heap.objs.size,[s1.heap.objs.size],_,_,H1,rfl,I1.kept (t':=s1.toks) fun b o e=>Heap.get?_push_of_some _ e,zeM a _,⟨_,Heap.get?_push_size _ rfl,rfl,rfl⟩,fun b hb=>?_,q⟩
 have e:b=s1.heap.objs.size:=by simpa using hb
 subst e
 exact I1.fpOk (Nat.le_refl _) (I1.hok.fresh (Nat.le_refl _))
theorem zcy {pins:List (Addr×Obj)} {σ:St} {H:Hp} {s:Shared} {R:It->Hp->Prop} {E:Value->Shared->Prop} {lo hi:Int} {t u v:Tok} {tk:Nat} (I:Inv X pins σ H s) (h1:-(2^62)<=lo) (h2:lo<2^62) (h3:-(2^62)<=hi) (h4:hi<2^62)
  (q:R (Itr lo (hi-lo).toNat) H):wpAny (model X.prog X.w) X.A (pyIter (.ref s.heap.objs.size)) (PIE X pins σ tg R) E { s with heap:=s.heap.push { cls:=.type "range", data:=.fields #[.int lo t,.int hi u,.int 1 v] },toks:=tk }:=by
 refine wpAny_pyIter_range (IsRange.new ..) (small_one h1 h2 h3 h4) ?_
 have I1:Inv X pins σ H { s with heap:=s.heap.push { cls:=.type "range", data:=.fields #[.int lo t,.int hi u,.int 1 v] },toks:=tk }:=I.kept fun b o e=>Heap.get?_push_of_some _ e
 refine⟨(s.heap.push { cls:=.type "range", data:=.fields #[.int lo t,.int hi u,.int 1 v] }).objs.size,[(s.heap.push { cls:=.type "range", data:=.fields #[.int lo t,.int hi u,.int 1 v] }).objs.size],_,_,H,rfl,
  I1.kept (t':=tk) fun b o e=>Heap.get?_push_of_some _ e,zeN _ lo (hi-lo).toNat,?_,fun b hb=>?_,q⟩
 ·have e1:lo+((0:Nat):Int)*1=lo:=by simp
  have e2:(((hi-lo).toNat:Nat):Int)-((0:Nat):Int)=Builtin.Range.rangeSize lo hi 1:=by rw[rangeSize_one]; split<;>omega
  show IsRangeIter _ _ (lo+((0:Nat):Int)*1) ((((hi-lo).toNat:Nat):Int)-((0:Nat):Int)) 1
  rw[e1,e2]
  exact Heap.get?_push_size _ rfl
 ·have e:b=(s.heap.push { cls:=.type "range", data:=.fields #[.int lo t,.int hi u,.int 1 v] }).objs.size:=by simpa using hb
  subst e
  exact I1.fpOk (Nat.le_refl _) (I1.hok.fresh (Nat.le_refl _))
def zi4 (ta:TA):TI:=fun σ H R=>ta σ H fun vs H1=>∃j:Int,vs=[.int j]/\-(2^62)<=j/\j<2^62/\R (Itr 0 j.toNat) H1
def zi5 (ta:TA):TI:=fun σ H R=>ta σ H fun vs H1=>∃i j:Int,vs=[.int i,.int j]/\(-(2^62)<=i/\i<2^62/\-(2^62)<=j/\j<2^62)/\R (Itr i (j-i).toNat) H1
theorem Rh {a:Expr} {ta:TA} {p pos:Pos} (hg:Gl X "range") (hm:X.mg "range"=none) (ha:PA X [a] ta) (hs:starEach [a] X.env=[(false,eval a X.env)]:=by rfl):PI X tg (.Call (.Name "range" p) [a] [] pos) (zi4 ta):=by
 intro pins s σ H R I h
 refine Call_ (Zy I hg hm boot_range (PyProof.Rows.callWith_type1 (thn (ha pos pins s σ H _ I h) fun us s1 ⟨vs,H1,I1,r1,q1⟩=>?_) hs rfl))
 obtain⟨j,e,q1,q2,q⟩:=q1
 subst e
 cases r1 with
 | cons r rr =>
  cases rr
  obtain⟨t,rfl⟩:=r
  exact call_range_1 (zcy I1 (by omega) (by omega) q1 q2 (by simpa using q))
theorem za6 {a b:Expr} {ta:TA} {p pos:Pos} (hg:Gl X "range") (hm:X.mg "range"=none) (ha:PA X [a,b] ta) (hs:starEach [a,b] X.env=[(false,eval a X.env),(false,eval b X.env)]:=by rfl) (hs2:starEach [b] X.env=[(false,eval b X.env)]:=by rfl) :
  PI X tg (.Call (.Name "range" p) [a,b] [] pos) (zi5 ta):=by
 intro pins s σ H R I h
 refine Call_ (Zy I hg hm boot_range (PyProof.Rows.callWith_type1 (thn (ha pos pins s σ H _ I h) fun us s1 ⟨vs,H1,I1,r1,q1⟩=>?_) (by rw[hs,hs2]) (by rw[hs2]; rfl)))
 obtain⟨i,j,e,⟨q1,q2,q3,q4⟩,q⟩:=q1
 subst e
 cases r1 with
 | cons r rr =>
  cases rr with
  | cons r' rr =>
   cases rr
   obtain⟨t,rfl⟩:=r
   obtain⟨t',rfl⟩:=r'
   exact call_range_2 (zcy I1 q1 q2 q3 q4 q)
def zjz (wi:TI) (g:TG) (tb:TS):TS:=fun D σ H=>wi σ H fun J H1=>∃W:Nat->Nat->St->Hp->Prop,(∃m,W 0 m σ H1)/\∀i m σ H,W i m σ H ->
 (J.stop i H/\D.nx σ H)\/(J.go i H/\∃N:St->Hp->Prop,(∀ σ' H',N σ' H'->∃m',m'<m/\W (i+1) m' σ' H')/\∀x H',J.yld i H x H'->g x σ H' fun σ2 H2=>tb { D with nx:=N,ct:=N,bk:=D.nx } σ2 H2)
def TX (fp:List Addr) (h:Heap):List (Addr×Obj):=fp.filterMap fun b=>(h.get? b).map fun o=>(b,o)
theorem Us {fp:List Addr} {h:Heap} {b:Addr} {o:Obj} (hb:b∈fp) (e:h.get? b=some o):(b,o)∈TX fp h:=List.mem_filterMap.mpr ⟨b,hb,by rw[e]; rfl⟩
theorem za7 {fp:List Addr} {h:Heap} {p:Addr×Obj} (hp:p∈TX fp h):p.1∈fp/\h.get? p.1=some p.2:=by
 obtain⟨b,hb,e⟩:=List.mem_filterMap.mp hp
 cases q:h.get? b with
 | none=>rw[q] at e; cases e
 | some o =>
  rw[q] at e
  have e':(b,o)=p:=Option.some.inj e
  subst e'
  exact⟨hb,q⟩
theorem Inv.pinned {pins:List (Addr×Obj)} {σ:St} {H:Hp} {s:Shared} {fp:List Addr} (I:Inv X pins σ H s) (hf:∀b∈fp,RN X pins H b) (ho:∀b∈fp,∃o,s.heap.get? b=some o/\∀v,o.data≠.cell v):Inv X (pins++TX fp s.heap) σ H s :=
 I.pins_of fun p hp=>(List.mem_append.mp hp).elim (fun z=>I.pin p (List.mem_append_right _ z)) fun z=>by
  obtain⟨hb,e⟩:=za7 z
  obtain⟨f0,f1,f2,_⟩:=hf p.1 hb
  obtain⟨o,e',d⟩:=ho p.1 hb
  rw[e] at e'; cases e'
  exact⟨e,f0,f1,f2,d⟩
theorem Inv.unpinned {pins pl:List (Addr×Obj)} {σ:St} {H:Hp} {s:Shared} (I:Inv X (pins++pl) σ H s):Inv X pins σ H s:=I.pins_of fun p hp=>I.pin p (List.mem_append_right _ (List.mem_append_left _ hp))
theorem wO {iter:Expr} {body:List Stmt} {wi:TI} {g:TG} {tb:TS} {pos:Pos} (hp:PassesOwn (model X.prog X.w) X.A X.env X.xe) (hc:X.calm=true) (hi:PI X tg iter wi) (hg:PG X tg g) (hb:PSs X body tb)
  (hs:∀x,foldedSetIterable iter X.env x=pure x:=by intro _; rfl):PS X (.For tg iter body [] pos) (zjz wi g tb):=by
 intro pins s σ H D I h
 refine wpAny_For (thn (hi pins s σ H _ I h) fun v s1 h1=>thn h1 fun itv s2 h2=>?_) hs
 obtain⟨it,fp,tn,J,H2,e,I2,T,st2,f2,W,⟨m0,w0⟩,turn⟩:=h2
 subst e
 have stat:∀{H':Hp},(∀b∈fp,H' b=none)->∀b∈fp,RN X pins H' b:=fun hn b hb=>⟨hn b hb,(f2 b hb).2⟩
 refine codeAny_forLoop_any (fun n s'=>∃i σ' H',Inv X pins σ' H' s'/\tn i s'.heap/\(∀b∈fp,H' b=none)/\W i n σ' H') ?_ m0 ⟨0,σ,H2,I2,st2,fun b hb=>(f2 b hb).1,w0⟩
 rintro n s3 ⟨i,σ3,H3,I3,st3,fr3,w3⟩
 rcases turn i n σ3 H3 w3 with ⟨stop,qn⟩ | ⟨go,N,hN,step⟩
 ·refine wpAny_passesOwn hp (thn (T.done X rfl rfl rfl hc i pins s3 σ3 H3 X.xe I3 (stat fr3) st3 stop) fun r s4 ⟨hr,I4⟩=>?_)
  subst hr
  exact wpAny_execs_nil ⟨σ3,H3,I4,qn⟩
 ·refine wpAny_passesOwn hp (thn (T.item X rfl rfl rfl hc i pins s3 σ3 H3 X.xe I3 (stat fr3) st3 go) fun r s4 ⟨u,hr,h4⟩=>?_)
  subst hr
  refine wpAny_passesOwn hp (thn h4 fun _ s5 ⟨x,H5,I5,r5,y5,st5,fr5⟩=>?_)
  have I5':=I5.pinned (stat fr5) (T.obj _ _ st5)
  refine wpAny_passesOwn hp (thn (hg _ s5 σ3 H5 x u _ I5' r5 (step x H5 y5)) fun _ s6 ⟨σ6,H6,I6,q6⟩=>?_)
  refine wpAny_passesOwn hp (thn (hb _ s6 σ6 H6 _ I6 q6) fun f s7 q7=>?_)
  have again:∀{σ7:St} {H7:Hp},Inv X (pins++TX fp s5.heap) σ7 H7 s7->N σ7 H7->∃m,m<n/\∃i σ' H',Inv X pins σ' H' s7/\tn i s7.heap/\(∀b∈fp,H' b=none)/\W i m σ' H':=fun {σ7 H7} I7 n7=>by
   obtain⟨m',hm,w7⟩:=hN σ7 H7 n7
   refine⟨m',hm,i+1,σ7,H7,I7.unpinned,T.keep _ _ _ st5 fun b hb o e=>(I7.pin (b,o) (List.mem_append_right _ (List.mem_append_right _ (Us hb e)))).1,fun b hb=>?_,w7⟩
   obtain⟨o,e,d⟩:=T.obj _ _ st5 b hb
   exact(I7.pin (b,o) (List.mem_append_right _ (List.mem_append_right _ (Us hb e)))).2.1
  cases f with
  | next=>obtain⟨σ7,H7,I7,n7⟩:=q7; exact again I7 n7
  | cont=>obtain⟨σ7,H7,I7,n7⟩:=q7; exact again I7 n7
  | brk=>obtain⟨σ7,H7,I7,q7⟩:=q7; exact⟨σ7,H7,I7.unpinned,q7⟩
  | ret v=>obtain⟨x7,σ7,H7,I7,r7,q7⟩:=q7; exact⟨x7,σ7,H7,I7.unpinned,r7,q7⟩
end
theorem tD {K:PySem.W.Frag} {a:Addr} {xs:List V} {g:TG} {tb:TS} {D:Ends} {σ:St} {H:Hp} (Pv:Nat->St->Hp->Prop) (h0:Pv 0 σ H) (hl:∀i σ H,i<=xs.length->Pv i σ H->SqL K H a xs)
  (hs:∀i x σ H,xs[i]?=some x->Pv i σ H->g x σ H fun σ2 H2=>tb { D with nx:=Pv (i+1),ct:=Pv (i+1),bk:=D.nx } σ2 H2) (hd:∀ σ H,Pv xs.length σ H->D.nx σ H) :
  ∃W:Nat->Nat->St->Hp->Prop,(∃m,W 0 m σ H)/\∀i m σ H,W i m σ H ->
   ((Itl K a).stop i H/\D.nx σ H)\/((Itl K a).go i H/\∃N:St->Hp->Prop,(∀ σ' H',N σ' H'->∃m',m'<m/\W (i+1) m' σ' H')/\∀x H',(Itl K a).yld i H x H'->g x σ H' fun σ2 H2=>tb { D with nx:=N,ct:=N,bk:=D.nx } σ2 H2):=by
 refine⟨fun i m σ H=>m=xs.length-i/\i<=xs.length/\Pv i σ H,⟨xs.length,by simp,Nat.zero_le _,h0⟩,?_⟩
 rintro i m σ H ⟨rfl,hi,p⟩
 have q:=hl i σ H hi p
 by_cases hlt:i<xs.length
 ·refine .inr ⟨⟨xs,xs[i],q,by simp[hlt]⟩,Pv (i+1),fun σ' H' p'=>⟨xs.length-(i+1),by omega,rfl,hlt,p'⟩,fun x H' y=>?_⟩
  obtain⟨e,y⟩:=y
  subst e
  exact hs i x σ _ (y xs q) p
 ·have e:i=xs.length:=by omega
  subst e
  exact .inl ⟨⟨xs,q,Nat.le_refl _⟩,hd σ H p⟩
theorem zhp {K:PySem.W.Frag} {a:Addr} {xs:List V} {g:TG} {tb:TS} {D:Ends} {σ:St} {H:Hp} (Pv:Nat->St->Hp->Prop) (h0:Pv 0 σ H) (hl:∀i σ H,i<=xs.length->Pv i σ H->SqT K H a xs)
  (hs:∀i x σ H,xs[i]?=some x->Pv i σ H->g x σ H fun σ2 H2=>tb { D with nx:=Pv (i+1),ct:=Pv (i+1),bk:=D.nx } σ2 H2) (hd:∀ σ H,Pv xs.length σ H->D.nx σ H) :
  ∃W:Nat->Nat->St->Hp->Prop,(∃m,W 0 m σ H)/\∀i m σ H,W i m σ H ->
   ((Itt K a).stop i H/\D.nx σ H)\/((Itt K a).go i H/\∃N:St->Hp->Prop,(∀ σ' H',N σ' H'->∃m',m'<m/\W (i+1) m' σ' H')/\∀x H',(Itt K a).yld i H x H'->g x σ H' fun σ2 H2=>tb { D with nx:=N,ct:=N,bk:=D.nx } σ2 H2):=by
 refine⟨fun i m σ H=>m=xs.length-i/\i<=xs.length/\Pv i σ H,⟨xs.length,by simp,Nat.zero_le _,h0⟩,?_⟩
 rintro i m σ H ⟨rfl,hi,p⟩
 have q:=hl i σ H hi p
 by_cases hlt:i<xs.length
 ·refine .inr ⟨⟨xs,xs[i],q,by simp[hlt]⟩,Pv (i+1),fun σ' H' p'=>⟨xs.length-(i+1),by omega,rfl,hlt,p'⟩,fun x H' y=>?_⟩
  obtain⟨e,y⟩:=y
  subst e
  exact hs i x σ _ (y xs q) p
 ·have e:i=xs.length:=by omega
  subst e
  exact .inl ⟨⟨xs,q,Nat.le_refl _⟩,hd σ H p⟩
theorem Vz {lo:Int} {n:Nat} {g:TG} {tb:TS} {D:Ends} {σ:St} {H:Hp} (Pv:Nat->St->Hp->Prop) (h0:Pv 0 σ H)
  (hs:∀i σ H,i<n->Pv i σ H->g (.int (lo+i)) σ H fun σ2 H2=>tb { D with nx:=Pv (i+1),ct:=Pv (i+1),bk:=D.nx } σ2 H2) (hd:∀ σ H,Pv n σ H->D.nx σ H) :
  ∃W:Nat->Nat->St->Hp->Prop,(∃m,W 0 m σ H)/\∀i m σ H,W i m σ H ->
   ((Itr lo n).stop i H/\D.nx σ H)\/((Itr lo n).go i H/\∃N:St->Hp->Prop,(∀ σ' H',N σ' H'->∃m',m'<m/\W (i+1) m' σ' H')/\∀x H',(Itr lo n).yld i H x H'->g x σ H' fun σ2 H2=>tb { D with nx:=N,ct:=N,bk:=D.nx } σ2 H2):=by
 refine⟨fun i m σ H=>m=n-i/\i<=n/\Pv i σ H,⟨n,by simp,Nat.zero_le _,h0⟩,?_⟩
 rintro i m σ H ⟨rfl,hi,p⟩
 by_cases hlt:i<n
 ·refine .inr ⟨hlt,Pv (i+1),fun σ' H' p'=>⟨n-(i+1),by omega,rfl,hlt,p'⟩,fun x H' y=>?_⟩
  obtain⟨e,y⟩:=y
  subst e y
  exact hs i σ _ hlt p
 ·have e:i=n:=by omega
  subst e
  exact .inl ⟨Nat.le_refl _,hd σ H p⟩
end L2
namespace L2
open PySem PySem.Spec PyProof.Rows
abbrev R2:=V->V->Hp->VK->Prop
def OpR (X:Cx) (f:Value->Value->Sem Value) (r:R2):Prop :=
 ∀(pins:List (Addr×Obj)) (s:Shared) (σ:St) (H:Hp) (x y:V) (v u:Value) (Q:VK),Inv X pins σ H s->RelV x v->RelV y u->r x y H Q ->
  wpAny (model X.prog X.w) X.A (f v u) (EP X pins σ Q) X.xe s
def UnR (X:Cx) (f:Value->Sem Value) (r:V->Hp->VK->Prop):Prop :=
 ∀(pins:List (Addr×Obj)) (s:Shared) (σ:St) (H:Hp) (x:V) (v:Value) (Q:VK),Inv X pins σ H s->RelV x v->r x H Q ->
  wpAny (model X.prog X.w) X.A (f v) (EP X pins σ Q) X.xe s
def Y4 (X:Cx) (f:Value) (r:List V->Hp->VK->Prop):Prop :=
 ∀(pins:List (Addr×Obj)) (s:Shared) (σ:St) (H:Hp) (xs:List V) (us:List Value) (Q:VK),Inv X pins σ H s->Vals xs us->r xs H Q ->
  wpAny (model X.prog X.w) X.A (call f us) (EP X pins σ Q) X.xe s
def zjA (X:Cx) (r:V->Hp->(Bool->Hp->Prop)->Prop):Prop :=
 ∀(pins:List (Addr×Obj)) (s:Shared) (σ:St) (H:Hp) (x:V) (v:Value) (Q:Bool->Hp->Prop),Inv X pins σ H s->RelV x v->r x H Q ->
  wpAny (model X.prog X.w) X.A (truthy v) (TP X pins σ Q) X.xe s
def tOp (r:R2) (ta tb:TE):TE:=fun σ H Q=>ta σ H fun x H1=>tb σ H1 fun y H2=>r x y H2 Q
def tUn (r:V->Hp->VK->Prop) (ta:TE):TE:=fun σ H Q=>ta σ H fun x H1=>r x H1 Q
def rI (C:Int->Int->Prop) (g:Int->Int->V):R2:=fun x y H Q=>∃i j,x=.int i/\y=.int j/\C i j/\Q (g i j) H
def rI0 (g:Int->Int->V):R2:=fun x y H Q=>∃i j,x=.int i/\y=.int j/\Q (g i j) H
def rU (g:Int->V):V->Hp->VK->Prop:=fun x H Q=>∃i,x=.int i/\Q (g i) H
section
variable {X:Cx} {a b c:Expr} {ta tb tc:TE} {pos:Pos}
theorem zgs (ha:PE X a ta) (hb:PE X b tb) {pins:List (Addr×Obj)} {s:Shared} {σ:St} {H:Hp} {R:V->V->Hp->Prop} (I:Inv X pins σ H s)
  (h:ta σ H fun x H1=>tb σ H1 fun y H2=>R x y H2) {Q:Value->Shared->Prop} {f:Value->Value->Sem Value}
  (hf:∀v u s2 x y H2,Inv X pins σ H2 s2->RelV x v->RelV y u->R x y H2->wpAny (model X.prog X.w) X.A (f v u) Q X.xe s2) :
  wpAny (model X.prog X.w) X.A (eval a X.env) (fun v s₁=>wpAny (model X.prog X.w) X.A (eval b X.env) (fun u s₂=>wpAny (model X.prog X.w) X.A (f v u) Q X.xe s₂) X.xe s₁) X.xe s:=by
 refine thn (ha pins s σ H _ I h) fun v s1 ⟨x,H1,I1,r1,q1⟩=>?_
 refine thn (hb pins s1 σ H1 _ I1 q1) fun u s2 ⟨y,H2,I2,r2,q2⟩=>?_
 exact hf v u s2 x y H2 I2 r1 r2 q2
theorem zM {op:Operator} {r:R2} (ho:OpR X (binaryOp op) r) (ha:PE X a ta) (hb:PE X b tb):PE X (.BinOp a op b pos) (tOp r ta tb):=by
 intro pins s σ H Q I h
 exact wpAny_BinOp (zgs ha hb I h fun v u s2 x y H2 I2 rx ry q=>ho pins s2 σ H2 x y v u Q I2 rx ry q)
theorem zca {op:UnaryOp} {r:V->Hp->VK->Prop} (ho:UnR X (unaryOp op) r) (ha:PE X a ta):PE X (.UnaryOp op a pos) (tUn r ta):=by
 intro pins s σ H Q I h
 exact UnaryOp_ (thn (ha pins s σ H _ I h) fun v s1 ⟨x,H1,I1,r1,q1⟩=>ho pins s1 σ H1 x v Q I1 r1 q1)
theorem opI {f:Value->Value->Sem Value} {C:Int->Int->Prop} {g:Int->Int->Int}
  (rule:∀(i j:Int) (t u:Tok) (s:Shared) (Q:Value->Shared->Prop) (E:Value->Shared->Prop),C i j->Q (.int (g i j) s.toks) { s with toks:=s.toks+1 }->wpAny (model X.prog X.w) X.A (f (.int i t) (.int j u)) Q E s) :
  OpR X f (rI C fun i j=>.int (g i j)):=by
 intro pins s σ H x y v u Q I rx ry h
 obtain⟨i,j,rfl,rfl,hc,q⟩:=h
 obtain⟨t,rfl⟩:=rx
 obtain⟨t',rfl⟩:=ry
 exact rule i j t t' s _ _ hc ⟨.int (g i j),H,I.tok _,⟨_,rfl⟩,q⟩
theorem zaD {f:Value->Value->Sem Value} {g:Int->Int->Int}
  (rule:∀(i j:Int) (t u:Tok) (s:Shared) (Q:Value->Shared->Prop) (E:Value->Shared->Prop),Q (.int (g i j) s.toks) { s with toks:=s.toks+1 }->wpAny (model X.prog X.w) X.A (f (.int i t) (.int j u)) Q E s) :
  OpR X f (rI0 fun i j=>.int (g i j)):=by
 intro pins s σ H x y v u Q I rx ry h
 obtain⟨i,j,rfl,rfl,q⟩:=h
 obtain⟨t,rfl⟩:=rx
 obtain⟨t',rfl⟩:=ry
 exact rule i j t t' s _ _ ⟨.int (g i j),H,I.tok _,⟨_,rfl⟩,q⟩
theorem zgt {f:Value->Value->Sem Value} {g:Int->Int->Bool}
  (rule:∀(i j:Int) (t u:Tok) (s:Shared) (Q:Value->Shared->Prop) (E:Value->Shared->Prop),Q (.bool (g i j)) s->wpAny (model X.prog X.w) X.A (f (.int i t) (.int j u)) Q E s) :
  OpR X f (rI0 fun i j=>.bl (g i j)):=by
 intro pins s σ H x y v u Q I rx ry h
 obtain⟨i,j,rfl,rfl,q⟩:=h
 obtain⟨t,rfl⟩:=rx
 obtain⟨t',rfl⟩:=ry
 exact rule i j t t' s _ _ ⟨.bl (g i j),H,I,rfl,q⟩
def zjB (i j:Int):Prop:=0<j/\j<1073741824
def zjC (i j:Int):Prop:=0<=j/\j<=1000000/\i.natAbs<2^64
def zgu (i j:Int):Prop:=(-(2^64)<i/\i<2^64)\/(-(2^64)<j/\j<2^64)
theorem zgu.ok {i j:Int} (h:zgu i j):IntMulOk i j:=by
 rcases h with ⟨h1,h2⟩ | ⟨h1,h2⟩
 ·exact .of_left (intBits_le_64 h1 h2)
 ·exact .of_right (intBits_le_64 h1 h2)
theorem zeO (k:Nat):(0:Int)<=2^k:=by
 rw[two_pow_cast]
 exact Int.natCast_nonneg _
theorem wk:OpR X (binaryOp .Add) (rI0 fun i j=>.int (i+j)):=zaD fun _ _ _ _ _ _ _ q=>add_int q
theorem JL:OpR X (binaryOp .Sub) (rI0 fun i j=>.int (i-j)):=zaD fun _ _ _ _ _ _ _ q=>sub_int q
theorem TY:OpR X (binaryOp .Mult) (rI zgu fun i j=>.int (i*j)):=opI fun _ _ _ _ _ _ _ hc q=>mul_int q hc.ok
theorem zd5:OpR X (binaryOp .FloorDiv) (rI zjB fun i j=>.int (i / j)):=opI fun i j _ _ _ _ _ hc q=>by
 have h1:(0:Int)<j:=hc.1
 have h2:j<1073741824:=hc.2
 exact floordiv_int (by omega) (by rw[Int.fdiv_eq_ediv_of_nonneg i (by omega)]; exact q) (.inl (PyProof.noPylong_small (by omega)))
theorem vR:OpR X (binaryOp .Mod) (rI (fun _ j=>0<j) fun i j=>.int (i%j)):=opI fun i j _ _ _ _ _ hc q=>by
 have h1:(0:Int)<j:=hc
 exact mod_int' (by omega) (by rw[Int.fmod_eq_emod_of_nonneg i (by omega)]; exact q)
theorem zim:OpR X (binaryOp .Pow) (rI zjC fun i j=>.int (i^j.toNat)):=opI fun _ _ _ _ _ _ _ hc q=>pow_int_small hc.1 hc.2.1 hc.2.2 q
theorem zin:OpR X (binaryOp .RShift) (rI (fun _ j=>0<=j) fun i j=>.int (i / 2^j.toNat)):=opI fun i j _ _ _ _ _ hc q =>
 rshift_int hc (by rw[Int.fdiv_eq_ediv_of_nonneg i (zeO _)]; exact q)
theorem zcz:OpR X (binaryOp .BitAnd) (rI0 fun i j=>.int (Builtin.bitAnd i j)):=zaD fun _ _ _ _ _ _ _ q=>and_int q
theorem zi6:OpR X (binaryOp .BitOr) (rI0 fun i j=>.int (Builtin.bitOr i j)):=zaD fun _ _ _ _ _ _ _ q=>or_int q
theorem zio:OpR X (binaryOp .BitXor) (rI0 fun i j=>.int (Builtin.bitXor i j)):=zaD fun _ _ _ _ _ _ _ q=>xor_int q
theorem zaE:OpR X (inplaceOp .Add) (rI0 fun i j=>.int (i+j)):=zaD fun _ _ _ _ _ _ _ q=>iadd_int q
theorem unI {f:Value->Sem Value} {g:Int->Int}
  (rule:∀(i:Int) (t:Tok) (s:Shared) (Q:Value->Shared->Prop) (E:Value->Shared->Prop),Q (.int (g i) s.toks) { s with toks:=s.toks+1 }->wpAny (model X.prog X.w) X.A (f (.int i t)) Q E s) :
  UnR X f (rU fun i=>.int (g i)):=by
 intro pins s σ H x v Q I rx h
 obtain⟨i,rfl,q⟩:=h
 obtain⟨t,rfl⟩:=rx
 exact rule i t s _ _ ⟨.int (g i),H,I.tok _,⟨_,rfl⟩,q⟩
theorem JM:UnR X (unaryOp .USub) (rU fun i=>.int (-i)):=unI fun _ _ _ _ _ q=>neg_int q
end
def ziq:V->V->Bool
 | .non,.non=>true | .non,.int _=>true | .int _,.non=>true | .non,.bl _=>true | .bl _,.non=>true | .non,.str _=>true | .str _,.non=>true
 | .int _,.int _=>true | .bl _,.bl _=>true | .str _,.str _=>true | .byt _,.byt _=>true
 | .int _,.str _=>true | .str _,.int _=>true | .bl _,.str _=>true | .str _,.bl _=>true
 | _,_=>false
def rEq:R2:=fun x y H Q=>ziq x y=true/\Q (.bl (decide (x=y))) H
def rNe:R2:=fun x y H Q=>ziq x y=true/\Q (.bl (!decide (x=y))) H
theorem zd6 {i j:Int}:decide (V.int i=V.int j)=(i==j):=by
 rw[Bool.eq_iff_iff]
 simp
theorem zfy {i j:Bool}:decide (V.bl i=V.bl j)=(i==j):=by
 rw[Bool.eq_iff_iff]
 simp
theorem zd7 {i j:Str}:decide (V.str i=V.str j)=(i==j):=by
 rw[Bool.eq_iff_iff]
 simp
theorem zd8 {i j:Array UInt8}:decide (V.byt i=V.byt j)=(i.toList==j.toList):=by
 rw[Bool.eq_iff_iff]
 cases i
 cases j
 simp
section
variable {X:Cx} {a b c:Expr} {ta tb tc:TE} {pos:Pos}
theorem yQ {pins:List (Addr×Obj)} {σ:St} {H:Hp} {s:Shared} {Q:VK} {k k':Bool} (I:Inv X pins σ H s) (q:Q (.bl k) H) (e:k=k'):EP X pins σ Q (.bool k') s:=by
 subst e
 exact⟨.bl k,H,I,rfl,q⟩
theorem wz:OpR X (compareOp .Eq) rEq:=by
 intro pins s σ H x y v u Q I rx ry h
 obtain⟨hs,q⟩:=h
 cases x with
 | non =>
  cases rx
  cases y with
  | non=>cases ry; exact PySem.EqNone.eq_none_none (yQ I q (by simp))
  | bl j=>cases ry; exact PySem.EqNone.eq_none_bool (yQ I q (by simp))
  | int j=>obtain⟨t',rfl⟩:=ry; exact PySem.EqNone.eq_none_int (yQ I q (by simp))
  | str j=>obtain⟨t',rfl⟩:=ry; exact PySem.EqNone.eq_none_str (yQ I q (by simp))
  | _=>exact absurd (show false=true from hs) Bool.false_ne_true
 | bl i =>
  cases rx
  cases y with
  | non=>cases ry; exact PySem.EqNone.eq_bool_none (yQ I q (by simp))
  | bl j=>cases ry; exact eq_bool (yQ I q zfy)
  | str j=>obtain⟨t',rfl⟩:=ry; exact PySem.EqMixed.eq_bool_str (yQ I q (by simp))
  | _=>exact absurd (show false=true from hs) Bool.false_ne_true
 | int i =>
  obtain⟨t,rfl⟩:=rx
  cases y with
  | non=>cases ry; exact PySem.EqNone.eq_int_none (yQ I q (by simp))
  | int j=>obtain⟨t',rfl⟩:=ry; exact eq_int (yQ I q zd6)
  | str j=>obtain⟨t',rfl⟩:=ry; exact PySem.EqMixed.eq_int_str (yQ I q (by simp))
  | _=>exact absurd (show false=true from hs) Bool.false_ne_true
 | str i =>
  obtain⟨t,rfl⟩:=rx
  cases y with
  | non=>cases ry; exact PySem.EqNone.eq_str_none (yQ I q (by simp))
  | bl j=>cases ry; exact PySem.EqMixed.eq_str_bool (yQ I q (by simp))
  | int j=>obtain⟨t',rfl⟩:=ry; exact PySem.EqMixed.eq_str_int (yQ I q (by simp))
  | str j=>obtain⟨t',rfl⟩:=ry; exact eq_str (yQ I q zd7)
  | _=>exact absurd (show false=true from hs) Bool.false_ne_true
 | byt i =>
  obtain⟨t,rfl⟩:=rx
  cases y with
  | byt j=>obtain⟨t',rfl⟩:=ry; exact PySem.W.eq_bytes (yQ I q zd8)
  | _=>exact absurd (show false=true from hs) Bool.false_ne_true
 | _=>cases y<;>exact absurd (show false=true from hs) Bool.false_ne_true
theorem Vm:OpR X (compareOp .NotEq) rNe:=by
 intro pins s σ H x y v u Q I rx ry h
 obtain⟨hs,q⟩:=h
 cases x with
 | non =>
  cases rx
  cases y with
  | non=>cases ry; exact PySem.EqNone.ne_none_none (yQ I q (by simp))
  | bl j=>cases ry; exact PySem.EqNone.ne_none_bool (yQ I q (by simp))
  | int j=>obtain⟨t',rfl⟩:=ry; exact PySem.EqNone.ne_none_int (yQ I q (by simp))
  | str j=>obtain⟨t',rfl⟩:=ry; exact PySem.EqNone.ne_none_str (yQ I q (by simp))
  | _=>exact absurd (show false=true from hs) Bool.false_ne_true
 | bl i =>
  cases rx
  cases y with
  | non=>cases ry; exact PySem.EqNone.ne_bool_none (yQ I q (by simp))
  | bl j=>cases ry; exact ne_bool (yQ I q (congrArg not zfy))
  | str j=>obtain⟨t',rfl⟩:=ry; exact PySem.EqMixed.ne_bool_str (yQ I q (by simp))
  | _=>exact absurd (show false=true from hs) Bool.false_ne_true
 | int i =>
  obtain⟨t,rfl⟩:=rx
  cases y with
  | non=>cases ry; exact PySem.EqNone.ne_int_none (yQ I q (by simp))
  | int j=>obtain⟨t',rfl⟩:=ry; exact ne_int (yQ I q (congrArg not zd6))
  | str j=>obtain⟨t',rfl⟩:=ry; exact PySem.EqMixed.ne_int_str (yQ I q (by simp))
  | _=>exact absurd (show false=true from hs) Bool.false_ne_true
 | str i =>
  obtain⟨t,rfl⟩:=rx
  cases y with
  | non=>cases ry; exact PySem.EqNone.ne_str_none (yQ I q (by simp))
  | bl j=>cases ry; exact PySem.EqMixed.ne_str_bool (yQ I q (by simp))
  | int j=>obtain⟨t',rfl⟩:=ry; exact PySem.EqMixed.ne_str_int (yQ I q (by simp))
  | str j=>obtain⟨t',rfl⟩:=ry; exact ne_str (yQ I q (congrArg not zd7))
  | _=>exact absurd (show false=true from hs) Bool.false_ne_true
 | byt i =>
  obtain⟨t,rfl⟩:=rx
  cases y with
  | byt j=>obtain⟨t',rfl⟩:=ry; exact PySem.W.ne_bytes (yQ I q (congrArg not zd8))
  | _=>exact absurd (show false=true from hs) Bool.false_ne_true
 | _=>cases y<;>exact absurd (show false=true from hs) Bool.false_ne_true
theorem zcb:OpR X (compareOp .Lt) (rI0 fun i j=>.bl (decide (i<j))):=zgt fun _ _ _ _ _ _ _ q=>lt_int q
theorem JN:OpR X (compareOp .Gt) (rI0 fun i j=>.bl (decide (j<i))):=zgt fun _ _ _ _ _ _ _ q=>gt_int q
theorem zhd:OpR X (compareOp .GtE) (rI0 fun i j=>.bl (decide (j<=i))):=zgt fun _ _ _ _ _ _ _ q=>ge_int q
theorem JQ:OpR X (compareOp .Is) (fun x y H Q=>y=.non/\Q (.bl (decide (x=.non))) H):=by
 intro pins s σ H x y v u Q I rx ry h
 obtain⟨rfl,q⟩:=h
 cases ry
 refine is_none_gen (yQ I q ?_)
 cases x<;>first
  | (cases rx; rfl)
  | (obtain⟨t,rfl⟩:=rx; rfl)
theorem zhq:OpR X (compareOp .IsNot) (fun x y H Q=>y=.non/\Q (.bl (!decide (x=.non))) H):=by
 intro pins s σ H x y v u Q I rx ry h
 obtain⟨rfl,q⟩:=h
 cases ry
 refine isnot_none_gen (yQ I q ?_)
 cases x<;>first
  | (cases rx; rfl)
  | (obtain⟨t,rfl⟩:=rx; rfl)
theorem zW (b:Expr) {op:CmpOp} (h:op≠.In:=by decide) (h2:op≠.NotIn:=by decide):behindInMarks op b=false:=by
 have e1:(op==CmpOp.In)=false:=by cases op<;>first | rfl | exact absurd rfl h
 have e2:(op==CmpOp.NotIn)=false:=by cases op<;>first | rfl | exact absurd rfl h2
 cases b<;>simp[behindInMarks,e1,e2]
theorem uf {op:CmpOp} {r:R2} (ho:OpR X (compareOp op) r) (ha:PE X a ta) (hb:PE X b tb) (hm:behindInMarks op b=false):PE X (.Compare a [op] [b] pos) (tOp r ta tb):=by
 intro pins s σ H Q I h
 exact wpAny_Compare1 (zgs ha hb I h fun v u s2 x y H2 I2 rx ry q=>ho pins s2 σ H2 x y v u Q I2 rx ry q) hm
def zi7 (t:TE):TT:=fun σ H Q=>t σ H fun x H'=>∃k,x=.bl k/\Q k H'
theorem zV {op:CmpOp} {r:R2} (ho:OpR X (compareOp op) r) (ha:PE X a ta) (hb:PE X b tb) (hm:behindInMarks op b=false):PT X (.Compare a [op] [b] pos) (zi7 (tOp r ta tb)):=by
 intro pins s σ H Q I h
 refine wpAny_isTrue_Compare1 (thn (ha pins s σ H _ I h) fun v s1 ⟨x,H1,I1,r1,q1⟩=>thn (hb pins s1 σ H1 _ I1 q1) fun u s2 ⟨y,H2,I2,r2,q2⟩ =>
  thn (ho pins s2 σ H2 x y v u _ I2 r1 r2 q2) fun c s3 ⟨z,H3,I3,r3,k,e,q3⟩=>?_) hm
 subst e
 cases r3
 exact wpAny_truthy_bool ⟨H3,I3,q3⟩
def zir (K:PySem.W.Frag) (x:V) (H:Hp) (k:Bool):Prop :=
 match x with
 | .non=>k=false
 | .bl b=>k=b
 | .int i=>k=(i != 0)
 | .str y=>y.length<=sizeLine/\k=((y.length:Int) != 0)
 | .byt y=>y.size<=sizeLine/\k=((y.size:Int) != 0)
 | .ref p=>(∃xs,SqL K H p xs/\k=!xs.isEmpty)\/(∃xs,SqT K H p xs/\k=!xs.isEmpty)\/∃kvs,H p=some (.dK kvs)/\k=!kvs.isEmpty
 | _=>False
theorem zeP {κ:Type} {kvs:List (κ×V)} {vs:List (κ×Value)} (r:KV kvs vs):(!vs.isEmpty)=!kvs.isEmpty:=by
 cases r<;>rfl
theorem JR {xs:List V} {its:List Value} (r:Vals xs its):(!its.toArray.isEmpty)=!xs.isEmpty:=by
 cases r<;>simp
theorem VB:(sizeLine:Nat)<2^63:=by rw[sizeLine_eq]; decide
theorem zis:zjA X (fun x H Q=>∃k,zir X.K x H k/\Q k H):=by
 intro pins s σ H x v Q I rx h
 obtain⟨k,e,q⟩:=h
 have hl:=VB
 have hs:sizeLine=16777216:=sizeLine_eq
 cases x with
 | non =>
  cases rx
  have e':k=false:=e
  subst e'
  exact truthy_none ⟨H,I,q⟩
 | bl b =>
  cases rx
  have e':k=b:=e
  subst e'
  exact wpAny_truthy_bool ⟨H,I,q⟩
 | int i =>
  obtain⟨t,rfl⟩:=rx
  have e':k=(i != 0):=e
  subst e'
  exact PySem.P.truthy_int ⟨H,I,q⟩
 | str y =>
  obtain⟨t,rfl⟩:=rx
  obtain⟨hy,e'⟩:y.length<=sizeLine/\k=((y.length:Int) != 0):=e
  subst e'
  exact PySem.P.truthy_str (by omega) ⟨H,I.tok _,q⟩
 | byt y =>
  obtain⟨t,rfl⟩:=rx
  obtain⟨hy,e'⟩:y.size<=sizeLine/\k=((y.size:Int) != 0):=e
  subst e'
  exact PySem.W.truthy_bytes (by omega) ⟨H,I.tok _,q⟩
 | ref p =>
  cases rx
  have e':(∃xs,SqL X.K H p xs/\k=!xs.isEmpty)\/(∃xs,SqT X.K H p xs/\k=!xs.isEmpty)\/∃kvs,H p=some (.dK kvs)/\k=!kvs.isEmpty:=e
  rcases e' with ⟨xs,hx,e'⟩ | ⟨xs,hx,e'⟩ | ⟨kvs,hx,e'⟩
  ·subst e'
   obtain⟨its,r,pl,hz⟩:=I.list hx
   have hlen:=r.length
   exact wpAny_truthy_list pl.isList (by simp only[List.size_toArray]; omega) ⟨H,I.tok _,by rw[JR r]; exact q⟩
  ·subst e'
   obtain⟨its,r,pl,hz⟩:=I.tuple hx
   have hlen:=r.length
   exact truthy_tuple pl (by simp only[List.size_toArray]; omega) ⟨H,I.tok _,by rw[JR r]; exact q⟩
  ·subst e'
   obtain⟨hz,hS,vs,r,m⟩:kvs.length<=sizeLine/\(p==sysModules)=false/\∃vs,KV kvs vs/\s.heap.DictOf (xX X.prog X.w) p vs:=I.hok p _ hx
   have hlen:kvs.length=vs.length:=Paired.length r
   exact wpAny_truthy_dict hS m (by omega) ⟨H,I.tok _,by rw[zeP r]; exact q⟩
 | _=>exact(show False from e).elim
theorem Z9 (ha:PE X a ta) (he:∀whole,isTrue a X.env whole=(do let v <-whole; standAt a.pos; holding [v] (truthy v))) :
  PT X a (fun σ H Q=>ta σ H fun x H'=>∃k,zir X.K x H' k/\Q k H'):=by
 intro pins s σ H Q I h
 exact isTrue_plain (thn (ha pins s σ H _ I h) fun v s1 ⟨x,H1,I1,r1,q1⟩=>zis pins s1 σ H1 x v Q I1 r1 q1) (he _)
theorem zeQ:OpR X (binaryOp .Add) (fun x y H Q=>∃i j,x=.str i/\y=.str j/\i.length+j.length<=sizeLine/\Q (.str (i++j)) H):=by
 intro pins s σ H x y v u Q I rx ry h
 obtain⟨i,j,rfl,rfl,hz,q⟩:=h
 obtain⟨t,rfl⟩:=rx
 obtain⟨t',rfl⟩:=ry
 exact add_str (fun t' tk=>⟨.str (i++j),H,I.tok _,⟨_,rfl⟩,q⟩) hz
theorem vals1 {x:V} {us:List Value} (r:Vals [x] us):∃u,us=[u]/\RelV x u:=by
 cases r with
 | cons r1 r2=>cases r2; exact⟨_,rfl,r1⟩
theorem vals2 {x y:V} {us:List Value} (r:Vals [x,y] us):∃u w',us=[u,w']/\RelV x u/\RelV y w':=by
 cases r with
 | cons r1 r2 =>
  cases r2 with
  | cons r3 r4=>cases r4; exact⟨_,_,rfl,r1,r3⟩
end
end L2
namespace L2
open PySem PySem.Spec PyProof.Rows
structure K6 (h:Heap) (x dx C:Addr) (mA:Str->Option Value):Prop where
 obj:h.get? x=some (PySem.W.instObj C dx)
 ns:h.Ns1 dx mA
 ne:dx≠x
theorem zfz {h:Heap} {dx:Addr} {mA:Str->Option Value} (n:h.Ns1 dx mA):∃od,h.get? dx=some od/\∀name,PySem.W.lookIn name od=some (mA name):=by
 obtain⟨o,es,ep,ho,hd,hk,_,hm⟩:=n
 refine⟨o,ho,fun name=>?_⟩
 have e:=hm name
 unfold nsFind findBy at e
 rw[<-Array.find?_toList] at e
 unfold PySem.W.lookIn
 rw[hd]
 dsimp only
 split
 ·rename_i y q
  rw[q] at e
  exact congrArg some e
 ·rename_i q
  rw[q] at e
  have a:es.toList.any (·.refKey)=false:=by
   rw[List.any_eq_false]
   intro y hy
   obtain⟨z,t,hkey⟩:=hk y (Array.mem_toList_iff.mp hy)
   simp[DictEntry.refKey,hkey]
  have a':¬es.toList.any (·.refKey)=true:=by rw[a]; exact Bool.false_ne_true
  rw[if_neg a']
  exact congrArg some e
theorem K6.look {h:Heap} {x dx C:Addr} {mA:Str->Option Value} (I:K6 h x dx C mA):∃od,PySem.W.InstAt h x (PySem.W.instObj C dx) C (some od)/\∀name,PySem.W.lookIn name od=some (mA name) :=
 let ⟨od,ho,hl⟩:=zfz I.ns
 ⟨od,⟨I.obj,rfl,rfl,ho⟩,hl⟩
section
variable {prog:Program} {w:World} {A:Around} {E:Value->Shared->Prop} {s:Shared} {K:PySem.W.Frag} {x dx C f:Addr} {mA:Str->Option Value} {name:Str} {v:Value}
theorem get_map {expr:Bool} {Q:Value->Shared->Prop} (X:K.In s.heap) (I:K6 s.heap x dx C mA) (hg:PySem.W.plainGet K C name=true) (hh:PySem.W.hasDictIn K C=true)
  (ha:PySem.W.findIn K (.ref C) name=some none) (hv:mA name=some v) (hv':PySem.W.handedIn v=true) (h:Q v { s with toks:=s.toks+1 }) :
  wpAny (model prog w) A (getAttr (.ref x) name expr) Q E s:=by
 obtain⟨od,J,hl⟩:=I.look
 exact PySem.W.get_value X J (PySem.W.plainGet_of hg).1 (PySem.W.findObj_own hh ha rfl (by rw[hl,hv])) hv' h
theorem zgv {pl:Sem Bool} {Q:Value×List Value->Shared->Prop} (X:K.In s.heap) (I:K6 s.heap x dx C mA) (hg:PySem.W.plainGet K C name=true)
  (hf:PySem.W.findIn K (.ref C) name=some (some (.ref f))) (ht:PySem.W.isFn K (.ref f)=true) (hv:mA name=none) (h:Q (.ref f,[.ref x]) s) :
  wpAny (model prog w) A (getMethod (.ref x) name pl) Q E s:=by
 obtain⟨od,J,hl⟩:=I.look
 exact PySem.W.method_fn X J (PySem.W.plainGet_of hg).1 (PySem.W.plainGet_of hg).2 hf (beq_iff_eq.mp ht) (by show(PySem.W.lookIn name od).map (·.isSome)=some false; rw[hl,hv]; rfl) h
theorem zhr {ns:List Str} {Q:Unit->Shared->Prop} (X:K.In s.heap) (I:K6 s.heap x dx C mA)
  (hs:PySem.W.findIn K (.ref C) "__setattr__"=some (some (.builtin "object.__setattr__"))) (hp:PySem.W.plainOver K C=true) (ht:PySem.W.takerIn K C name=some none) (hh:PySem.W.hasDictIn K C=true)
  (hw:PySem.Within mA ns) (hsz:ns.length<=sizeLine)
  (h:∀h',K6 h' x dx C (fun y=>if y=name then some v else mA y)->Heap.SameBut dx s.heap h'->Q () { s with heap:=h',toks:=s.toks+2 }) :
  wpAny (model prog w) A (setAttr (.ref x) name v) Q E s:=by
 obtain⟨od,J,hl⟩:=I.look
 refine PySem.W.set_plain X J hs (PySem.W.osa_open (s:={ s with toks:=s.toks+1 }) (r:=none) X J hp ht fun b=>?_)
 obtain⟨cd,hc,hd'⟩:=PySem.W.any_some hh
 have hx:s.heap.get? x=some ⟨.ref C,some dx,.plain,#[]⟩:=I.obj
 refine wpAny_bind (wpAny_pure (wpAny_bind (wpAny_bind (wpAny_loadPart hx (wpAny_bind (PySem.W.Looks.here (s:={ s with toks:=s.toks+1 }) (PySem.W.looks_clsIn X hc) ?_))))))
 rw[hd']
 refine wpAny_pure (a:=some dx) (wpAny_bind (wpAny_pure (wpAny_bind ?_)))
 refine wpAny_nsSet1 (s:={ s with toks:=s.toks+1 }) I.ns fun h' hn2 hs2=>?_
 obtain⟨oD,esD,epD,hoD,hdD,hcD⟩:=hn2.count (PySem.Within.cons name v hw)
 refine wpAny_bind (wpAny_lookBehind hoD (by rw[hdD]; exact pastItsLine_dict (Nat.le_trans hcD (by rw[List.length_cons]; omega))) ?_)
 exact wpAny_pure (h _ ⟨(hs2.2 _ (Ne.symm I.ne)).trans I.obj,hn2,I.ne⟩ hs2)
theorem zgw {R:Result->Shared->Prop} {vs:List Value} {kw:List (Str×Value)} (X:K.In s.heap) (hm:PySem.W.makesIn K C=true)
  (hi:PySem.W.findIn K (.ref C) "__init__"=some (some (.ref f))) (hf:PySem.W.typeIn K (.ref f)=some (.type "function"))
  (h:codeAny (model prog w) (A.under (.builtin "type.__call__" ⟨.ref C::vs,kw⟩)) (.call (.ref f) ⟨.ref (s.heap.objs.size+1)::vs,kw⟩) (PySem.W.InitBack (s.heap.objs.size+1) R)
   {s with heap:=(s.heap.push PySem.W.emptyDict).push (PySem.W.instObj C s.heap.objs.size) }) :
  codeAny (model prog w) A (.call (.ref C) ⟨vs,kw⟩) R s:=by
 obtain⟨hh,g,d,t,os⟩:=s
 exact PySem.W.make_core (PySem.W.makes_of X hm) (PySem.W.looks_findIn X hi) (fun self=>PySem.W.bind_fn X self hf) (.inl rfl) h
end
def vh (f:Str) (v:V):List (Str×V)->List (Str×V)
 | []=>[(f,v)]
 | (g,x)::r=>if g=f then (g,v)::r else (g,x)::vh f v r
theorem Kc (f g:Str) (v:V):∀fs:List (Str×V),(vh f v fs).lookup g=if g=f then some v else fs.lookup g
 | []=>by
  show List.lookup g [(f,v)]=_
  by_cases h:g=f
  ·have hb:(g==f)=true:=beq_iff_eq.mpr h
   simp only[List.lookup,hb,if_pos h]
  ·have hb:(g==f)=false:=beq_eq_false_iff_ne.mpr h
   simp only[List.lookup,hb,if_neg h]
 | (k,x)::r=>by
  have ih:=Kc f g v r
  rw[show vh f v ((k,x)::r)=(if k=f then (k,v)::r else (k,x)::vh f v r) from rfl]
  by_cases hk:k=f
  ·rw[if_pos hk]
   by_cases h:g=k
   ·have hb:(g==k)=true:=beq_iff_eq.mpr h
    simp only[List.lookup,hb,if_pos (h.trans hk)]
   ·have hb:(g==k)=false:=beq_eq_false_iff_ne.mpr h
    simp only[List.lookup,hb,if_neg (fun e:g=f=>h (e.trans hk.symm))]
  ·rw[if_neg hk]
   by_cases h:g=k
   ·have hb:(g==k)=true:=beq_iff_eq.mpr h
    simp only[List.lookup,hb,if_neg (fun e:g=f=>hk (h.symm.trans e))]
   ·have hb:(g==k)=false:=beq_eq_false_iff_ne.mpr h
    simp only[List.lookup,hb]
    exact ih
theorem NQ (f:Str) (v:V):∀fs:List (Str×V),f∈(vh f v fs).map (·.1)/\∀g,g∈fs.map (·.1)->g∈(vh f v fs).map (·.1)
 | []=>⟨by simp[vh],fun g h=>by simp at h⟩
 | (k,x)::r=>by
  obtain⟨i1,i2⟩:=NQ f v r
  rw[show vh f v ((k,x)::r)=(if k=f then (k,v)::r else (k,x)::vh f v r) from rfl]
  by_cases hk:k=f
  ·rw[if_pos hk]
   subst hk
   exact⟨by simp,fun g h=>by simpa using h⟩
  ·rw[if_neg hk]
   refine⟨?_,fun g h=>?_⟩
   ·rw[List.map_cons]
    exact List.mem_cons_of_mem _ i1
   ·rw[List.map_cons] at h ⊢
    rcases List.mem_cons.mp h with e | e
    ·exact List.mem_cons.mpr (.inl e)
    ·exact List.mem_cons_of_mem _ (i2 g e)
theorem Kd (f:Str) (v:V):∀fs:List (Str×V),(vh f v fs).length<=fs.length+1
 | []=>by simp[vh]
 | (k,x)::r=>by
  have ih:=Kd f v r
  rw[show vh f v ((k,x)::r)=(if k=f then (k,v)::r else (k,x)::vh f v r) from rfl]
  by_cases hk:k=f
  ·rw[if_pos hk,List.length_cons,List.length_cons]; omega
  ·rw[if_neg hk,List.length_cons,List.length_cons]; omega
theorem Yq.some_of {v:V} {o:Option Value} (r:Yq (some v) o):∃u,o=some u/\RelV v u:=by
 cases o with
 | none=>exact(show False from r).elim
 | some u=>exact⟨u,rfl,r⟩
theorem Yq.none_of {o:Option Value} (r:Yq none o):o=none:=by
 cases o with
 | none=>rfl
 | some u=>exact(show False from r).elim
theorem zfA {v:V} {u:Value} (r:RelV v u):PySem.W.handedIn u=true:=by
 cases v with
 | non=>cases (show u=Value.none from r); rfl
 | bl b=>cases (show u=Value.bool b from r); rfl
 | int i=>obtain⟨t,e⟩:=(show ∃t,u=Value.int i t from r); cases e; rfl
 | str x=>obtain⟨t,e⟩:=(show ∃t,u=Value.str x t from r); cases e; rfl
 | byt b=>obtain⟨t,e⟩:=(show ∃t,u=Value.bytes b t from r); cases e; rfl
 | flt b=>obtain⟨t,e⟩:=(show ∃t,u=Value.float b t from r); cases e; rfl
 | ref a=>cases (show u=Value.ref a from r); rfl
 | ty n=>cases (show u=Value.type n from r); rfl
section
variable {P:Program} {w:World} {H H':Hp} {h h':Heap} {a C dx:Addr} {fs fs':List (Str×V)}
theorem Lb (hok:HOk P w H h) (e:H a=some (.ins C dx fs)):∃mA,K6 h a dx C mA/\(∀f,Yq (fs.lookup f) (mA f))/\PySem.Within mA (fs.map (·.1))/\fs.length<=1000/\H dx=some (.own a):=by
 obtain⟨d,z,ne,ob,mA,n,r,q⟩:=(show xY P w H h a (.ins C dx fs) from hok a _ e)
 exact⟨mA,⟨ob,n,ne⟩,r,q,z,d⟩
end
structure Cls (K:PySem.W.Frag) (C:Addr):Prop where
 pg:PySem.W.plainGet K C Str.empty=true
 hd:PySem.W.hasDictIn K C=true
 po:PySem.W.plainOver K C=true
 sa:PySem.W.findIn K (.ref C) "__setattr__"=some (some (.builtin "object.__setattr__"))
theorem Cls.get {K:PySem.W.Frag} {C:Addr} (c:Cls K C) (f:Str):PySem.W.plainGet K C f=true:=c.pg
def YD (K:PySem.W.Frag) (C:Addr) (f:Str):Prop:=PySem.W.findIn K (.ref C) f=some none
theorem YD.taker {K:PySem.W.Frag} {C:Addr} {f:Str} (n:YD K C f):PySem.W.takerIn K C f=some none:=by
 unfold PySem.W.takerIn
 rw[show PySem.W.findIn K (.ref C) f=some none from n]
 rfl
structure Meth (K:PySem.W.Frag) (C:Addr) (m:Str) (f:Addr):Prop where
 at_:PySem.W.findIn K (.ref C) m=some (some (.ref f))
 fn:PySem.W.isFn K (.ref f)=true
 kp:PySem.W.keepIn K (.ref f)=true
section
variable {X:Cx} {pins:List (Addr×Obj)} {σ:St} {H:Hp} {s:Shared} {a C dx:Addr} {fs:List (Str×V)} {f:Str} {v:V} {A:Around} {E:Value->Shared->Prop}
theorem zeR {b:Bool} {Q:Value->Shared->Prop} (I:Inv X pins σ H s) (e:H a=some (.ins C dx fs)) (c:Cls X.K C) (n:YD X.K C f) (l:fs.lookup f=some v)
  (h:∀u s',Inv X pins σ H s'->RelV v u->Q u s'):wpAny (model X.prog X.w) A (getAttr (.ref a) f b) Q E s:=by
 obtain⟨mA,O,r,_,_,_⟩:=Lb I.hok e
 obtain⟨u,hu,ru⟩:=Yq.some_of (v:=v) (o:=mA f) (by rw[<-l]; exact r f)
 exact get_map I.kIn O (c.get f) c.hd n hu (zfA ru) (h u _ (I.tok _) ru)
theorem QW {m:Str} {g:Addr} {pl:Sem Bool} {Q:Value×List Value->Shared->Prop} (I:Inv X pins σ H s) (e:H a=some (.ins C dx fs)) (c:Cls X.K C) (k:Meth X.K C m g) (l:fs.lookup m=none)
  (h:Q (.ref g,[.ref a]) s):wpAny (model X.prog X.w) A (getMethod (.ref a) m pl) Q E s:=by
 obtain⟨mA,O,r,_,_,_⟩:=Lb I.hok e
 have hn:mA m=none:=Yq.none_of (by rw[<-l]; exact r m)
 exact zgv I.kIn O (c.get m) k.at_ k.fn hn h
theorem zeS {y:V} {u:Value} {Q:Unit->Shared->Prop} (I:Inv X pins σ H s) (e:H a=some (.ins C dx fs)) (c:Cls X.K C) (n:YD X.K C f) (hl:fs.length<1000) (ry:RelV y u)
  (h:∀s',Inv X pins σ (upd H a (.ins C dx (vh f y fs))) s'->Q () s'):wpAny (model X.prog X.w) A (setAttr (.ref a) f u) Q E s:=by
 obtain⟨mA,O,r,wi,_,ho⟩:=Lb I.hok e
 have hz:(fs.map (·.1)).length<=sizeLine:=by rw[List.length_map,sizeLine_eq]; omega
 refine zhr I.kIn O c.sa c.po n.taker c.hd wi hz fun h' O' sb=>h _ ?_
 have hd:∃o,h'.get? dx=some o:=let ⟨o,_,_,e',_⟩:=O'.ns; ⟨o,e'⟩
 refine I.write (x:=a) (e:=dx) (by rw[e]; exact True.intro) (.inr ho) (fun b q hb z=>(sb.2 b hb).trans z) hd ?_
 refine⟨by rw[zB O.ne]; exact ho,?_,O.ne,O'.obj,_,O'.ns,fun g=>?_,fun g hg=>?_⟩
 ·have:=Kd f y fs; omega
 ·show Yq ((vh f y fs).lookup g) (if g=f then some u else mA g)
  rw[Kc]
  by_cases q:g=f
  ·rw[if_pos q,if_pos q]; exact ry
  ·rw[if_neg q,if_neg q]; exact r g
 ·by_cases q:g=f
  ·rw[q]; exact(NQ f y fs).1
  ·refine(NQ f y fs).2 g (wi g fun z=>hg ?_)
   show(if g=f then some u else mA g)=none
   rw[if_neg q]; exact z
theorem Inv.made (I:Inv X pins σ H s):Inv X pins σ (upd (upd H s.heap.objs.size (.own (s.heap.objs.size+1))) (s.heap.objs.size+1) (.ins C s.heap.objs.size []))
  {s with heap:=(s.heap.push PySem.W.emptyDict).push (PySem.W.instObj C s.heap.objs.size) }:=by
 have e1:(s.heap.push PySem.W.emptyDict).get? s.heap.objs.size=some PySem.W.emptyDict:=Heap.get?_push_size s.heap rfl
 have e2:((s.heap.push PySem.W.emptyDict).push (PySem.W.instObj C s.heap.objs.size)).get? (s.heap.objs.size+1)=some (PySem.W.instObj C s.heap.objs.size):=by
  have:=Heap.get?_push_size (s.heap.push PySem.W.emptyDict) (o:=PySem.W.instObj C s.heap.objs.size) rfl
  rwa [Heap.size_push] at this
 have e3:(s.heap.push PySem.W.emptyDict).Ns s.heap.objs.size (fun _=>none):=⟨PySem.W.emptyDict,#[],_,e1,rfl,(fun e he=>absurd he (by simp)),fun _=>rfl⟩
 have I1:=I.laid (a:=s.heap.objs.size) (o:=.own (s.heap.objs.size+1)) (h':=s.heap.push PySem.W.emptyDict) (t':=s.toks) (fun b u q=>Heap.get?_push_of_some _ q) (Nat.le_refl _) ⟨_,e1⟩
 refine I1.laid (a:=s.heap.objs.size+1) (o:=.ins C s.heap.objs.size []) (t':=s.toks) (fun b u q=>Heap.get?_push_of_some _ q) (Nat.le_of_eq (Heap.size_push _ _)) ?_
 have ne:s.heap.objs.size≠s.heap.objs.size+1:=Nat.ne_of_lt (Nat.lt_succ_self _)
 refine⟨by rw[zB ne,zq],Nat.zero_le _,ne,e2,fun _=>none,(Heap.Ns1.of_empty e3).at fun o q=>Heap.get?_push_of_some _ q,fun _=>True.intro,fun y hy=>absurd rfl hy⟩
theorem zhs {prog:Program} {w:World} {env:Env} {e:Expr} {f:Str} {pos:Pos} {s:Shared} {Q:Value->Shared->Prop} (hb:attributeBase e f env (eval e env)=eval e env)
  (h:wpAny (model prog w) A (eval e env) (fun o s₁=>wpAny (model prog w) A (getAttr o f true) Q E s₁) E s):wpAny (model prog w) A (eval (.Attribute e f pos) env) Q E s :=
 Attribute_any_ h (by rw[arm_eval_Attribute,hb])
end
def zjD (K:PySem.W.Frag) (ta:TE) (f:Str):TE:=fun σ H Q=>ta σ H fun x H1=>∃a C dx fs v,x=.ref a/\H1 a=some (.ins C dx fs)/\Cls K C/\YD K C f/\fs.lookup f=some v/\Q v H1
def zjE (K:PySem.W.Frag) (ta tv:TE) (f:Str):TS:=fun D σ H=>tv σ H fun y H1=>ta σ H1 fun x H2=>∃a C dx fs,x=.ref a/\H2 a=some (.ins C dx fs)/\Cls K C/\YD K C f/\fs.length<1000 /\
 D.nx σ (upd H2 a (.ins C dx (vh f y fs)))
section
variable {X:Cx} {o e value:Expr} {f:Str} {pos pos' tpos:Pos} {ta tv:TE}
theorem vU (he:PE X e ta) (hb:attributeBase e f X.env (eval e X.env)=eval e X.env):PE X (.Attribute e f pos) (zjD X.K ta f):=by
 intro pins s σ H Q I h
 refine zhs hb (thn (he pins s σ H _ I h) fun u s1 ⟨x,H1,I1,rx,a,C,dx,fs,v,ex,ea,c,n,l,q⟩=>?_)
 subst ex
 obtain rfl:u=Value.ref a:=rx
 exact zeR I1 ea c n l fun u' s2 I2 ru=>⟨v,H1,I2,ru,q⟩
theorem JT (ha:PE X o ta) (hv:PE X value tv) (hs:swapsWith value (some (.Attribute o f pos')) pos.line X.env=pure false):PS X (.Assign [.Attribute o f pos'] value pos) (zjE X.K ta tv f):=by
 intro pins s σ H D I h
 refine plainObj_wpAny_Assign_Attribute (thn (hv pins s σ H _ I h) fun u s1 ⟨y,H1,I1,ry,q⟩=>thn (ha pins s1 σ H1 _ I1 q) fun ov s2 ⟨x,H2,I2,rx,a,C,dx,fs,ex,ea,c,n,l,q2⟩=>?_) hs
 subst ex
 obtain rfl:ov=Value.ref a:=rx
 exact zeS I2 ea c n l ry fun s3 I3=>⟨σ,_,I3,q2⟩
theorem methcall_of {pl:Sem Bool} {m:Str} {apos:Pos} {args:List Expr} {pins:List (Addr×Obj)} {s:Shared} {σ:St} {H:Hp} {Q:Value->Shared->Prop} {te:TE} (he:PE X e te) (I:Inv X pins σ H s)
  (h:te σ H fun x H1=>∃a C dx fs g,x=.ref a/\H1 a=some (.ins C dx fs)/\Cls X.K C/\Meth X.K C m g/\fs.lookup m=none /\
   ∀s1,Inv X pins σ H1 s1->wpAny (model X.prog X.w) X.A (callWith pos (.ref g) [.ref a] (backTo pos (starEach args X.env)) (backToKw pos (keywordEach [] X.env))) Q X.xe s1)
  (ht:eval (.Call (.Attribute e m apos) args [] pos) X.env=(do
   let ov <-eval e X.env
   standAt apos.atName
   let (f,first) <-holding [ov] (getMethod ov m pl)
   callWith pos f first (backTo pos (starEach args X.env)) (backToKw pos (keywordEach [] X.env)))) :
  wpAny (model X.prog X.w) X.A (eval (.Call (.Attribute e m apos) args [] pos) X.env) Q X.xe s:=by
 refine PySem.W.methodCall_KW (pl:=pl) (thn (he pins s σ H _ I h) fun u s1 ⟨x,H1,I1,rx,a,C,dx,fs,g,ex,ea,c,k,l,q⟩=>?_) ht
 subst ex
 obtain rfl:u=Value.ref a:=rx
 exact QW I1 ea c k l (q s1 I1)
end
section
variable {X:Cx} {pins:List (Addr×Obj)} {σ:St} {H:Hp} {s:Shared} {A:Around} {E:Value->Shared->Prop} {Q:Value->Shared->Prop} {c:Value} {b:Bool}
inductive Wg (K:PySem.W.Frag) (H:Hp):V->Value->Prop where
 | non:Wg K H .non (.type "NoneType")
 | bl (x:Bool):Wg K H (.bl x) (.type "bool")
 | int (i:Int):Wg K H (.int i) (.type "int")
 | str (x:Str):Wg K H (.str x) (.type "str")
 | flt (x:UInt64):Wg K H (.flt x) (.type "float")
 | lst {a:Addr} {xs:List V} (e:H a=some (.lst xs)):Wg K H (.ref a) (.type "list")
 | frz {a:Addr} {o:Obj} {xs:List V} (e:H a=some (.frz o (.lst xs))):Wg K H (.ref a) (.type "list")
 | tup {a:Addr} {xs:List V} (e:H a=some (.tup xs)):Wg K H (.ref a) (.type "tuple")
 | dK {a:Addr} {kvs:List (Key×V)} (e:H a=some (.dK kvs)):Wg K H (.ref a) (.type "dict")
 | dT {a:Addr} {kvs:List (List Key×V)} (e:H a=some (.dT kvs)):Wg K H (.ref a) (.type "dict")
 | ins {a C dx:Addr} {fs:List (Str×V)} (e:H a=some (.ins C dx fs)) (cl:Cls K C) (ha:PySem.W.findIn K (.ref C) "__class__"=some (some (.builtin "object.__class__")))
   (hn:PySem.W.specialIn K (.builtin "object.__class__") "__get__"=some (some (.builtin "getset_descriptor.__get__"))) (htk:PySem.W.takesIn K (.builtin "object.__class__")=some true)
   (hm:PySem.W.mroIn K C (.type "object")=some true):Wg K H (.ref a) (.ref C)
theorem zfB {x:V} {u t:Value} (I:Inv X pins σ H s) (rx:RelV x u) (ty:Wg X.K H x t) (e:PySem.W.kitOne X.K t c=some b) (h:∀tk,Q (.bool b) { s with toks:=tk }) :
  wpAny (model X.prog X.w) A (call (.builtin "isinstance") [u,c]) Q E s:=by
 cases ty with
 | non=>cases (show u=Value.none from rx); exact PySem.W.kia_one PySem.W.kitx_none I.kIn True.intro e (fun z=>nomatch z) h
 | bl y=>cases (show u=Value.bool y from rx); exact PySem.W.kia_one PySem.W.kitx_bool I.kIn True.intro e (fun z=>nomatch z) h
 | int i=>obtain⟨t,q⟩:=(show ∃t,u=Value.int i t from rx); cases q; exact PySem.W.kia_one PySem.W.kitx_int I.kIn True.intro e (fun z=>nomatch z) h
 | str y=>obtain⟨t,q⟩:=(show ∃t,u=Value.str y t from rx); cases q; exact PySem.W.kia_one PySem.W.kitx_str I.kIn True.intro e (fun z=>nomatch z) h
 | flt y=>obtain⟨t,q⟩:=(show ∃t,u=Value.float y t from rx); cases q; exact PySem.W.kia_one PySem.W.kitx_float I.kIn True.intro e (fun z=>nomatch z) h
 | @lst a xs ea =>
  cases (show u=Value.ref a from rx)
  obtain⟨_,_,n,_,h1⟩:=(show xY X.prog X.w H s.heap a (.lst xs) from I.hok a _ ea)
  exact PySem.W.kia_one PySem.W.kitx_list I.kIn ⟨_,h1,rfl⟩ e (fun z=>nomatch z) h
 | @frz a ob xs ea =>
  cases (show u=Value.ref a from rx)
  obtain⟨_,_,_,n,_,h1⟩:=(show xY X.prog X.w H s.heap a (.frz ob (.lst xs)) from I.hok a _ ea)
  exact PySem.W.kia_one PySem.W.kitx_list I.kIn ⟨_,h1,rfl⟩ e (fun z=>nomatch z) h
 | @tup a xs ea =>
  cases (show u=Value.ref a from rx)
  obtain⟨_,_,_,p⟩:=(show xY X.prog X.w H s.heap a (.tup xs) from I.hok a _ ea)
  obtain⟨o,h1,h2,_⟩:=p
  exact PySem.W.kia_one PySem.W.kitx_tuple I.kIn ⟨o,h1,h2⟩ e (fun z=>nomatch z) h
 | @dK a kvs ea =>
  cases (show u=Value.ref a from rx)
  obtain⟨_,_,vs,_,p⟩:=(show xY X.prog X.w H s.heap a (.dK kvs) from I.hok a _ ea)
  obtain⟨o,es,ep,h1,h2,_⟩:=p
  exact PySem.W.kia_one PySem.W.kitx_dict I.kIn ⟨o,h1,h2.1⟩ e (fun z=>nomatch z) h
 | @dT a kvs ea =>
  cases (show u=Value.ref a from rx)
  obtain⟨_,_,xs,_,o,es,ep,h1,h2,_⟩:=(show xY X.prog X.w H s.heap a (.dT kvs) from I.hok a _ ea)
  exact PySem.W.kia_one PySem.W.kitx_dict I.kIn ⟨o,h1,h2.1⟩ e (fun z=>nomatch z) h
 | @ins a C dx fs ea cl ha hn htk hm =>
  cases (show u=Value.ref a from rx)
  obtain⟨mA,O,_⟩:=Lb I.hok ea
  obtain⟨od,J,_⟩:=O.look
  exact PySem.W.kia_one (PySem.W.kitx_own (cl.get _) cl.hd ha hn htk hm) I.kIn J e (fun z=>nomatch z) h
end
end L2
namespace L2
open PySem PySem.Spec PyProof.Rows
structure vm (k:Nat) (A:Around):Prop where
 hd:A.handled=none
 dp:A.depth+3*k+5<recursionLimit
 un:A.units+16*k+200<cLine
theorem vm.mono {j k:Nat} {A:Around} (r:vm k A) (h:j<=k):vm j A:=⟨r.hd,by have:=r.dp; omega,by have:=r.un; omega⟩
theorem vm.deeper {k:Nat} {A:Around} (r:vm (k+1) A) (env:Env):vm k (A.deeper env) :=
 ⟨r.hd,by have:=r.dp; show A.depth+1+3*k+5<_; omega,by have:=r.un; show A.units+3+16*k+200<_; omega⟩
theorem zeT {A:Around} {C:Addr} {us:List Value} {kw:List (Str×Value)}:(A.under (.builtin "type.__call__" ⟨.ref C::us,kw⟩)).depth=A.depth+1:=by
 first | rfl | simp[Around.under,Code.weight,Code.isCreation,Code.isGuard,Code.isCaller,Code.frames,Code.isFrame,guardIds]
theorem zeU {A:Around} {C:Addr} {us:List Value} {kw:List (Str×Value)}:(A.under (.builtin "type.__call__" ⟨.ref C::us,kw⟩)).units=A.units+1:=by
 first | rfl | simp[Around.under,Code.cUnits,Code.frames,Code.isFrame]
theorem vm.make {k:Nat} {A:Around} (r:vm (k+1) A) (C:Addr) (us:List Value) (kw:List (Str×Value)):vm k (A.under (.builtin "type.__call__" ⟨.ref C::us,kw⟩)) :=
 ⟨r.hd,by have:=r.dp; rw[zeT]; omega,by have:=r.un; rw[zeU]; omega⟩
theorem vm.depth {k:Nat} {A:Around} (r:vm k A):A.depth<recursionLimit:=by have:=r.dp; omega
theorem vm.units {k:Nat} {A:Around} (r:vm k A):A.units+64<cLine:=by have:=r.un; omega
def K7:TA:=fun _ H Q=>Q [] H
def Ut (ta:TE) (tr:TA):TA:=fun σ H Q=>ta σ H fun x H1=>tr σ H1 fun xs H2=>Q (x::xs) H2
section
variable {X:Cx} {e:Expr} {es:List Expr} {te:TE} {t:TA} {pos:Pos}
theorem zc:PA X [] K7:=fun _ _ _ _ H Q I h=>Calls.spliced_nil ⟨[],H,I,.nil,h⟩
theorem za (ha:PE X e te) (hr:PA X es t) (hs:starEach (e::es) X.env=(false,eval e X.env)::starEach es X.env:=by rfl):PA X (e::es) (Ut te t):=by
 intro pos pins s σ H Q I h
 rw[hs]
 show wpAny _ _ (spliced ((false,eval e X.env)::backTo pos (starEach es X.env))) _ _ s
 refine Calls.spliced_cons (thn (ha pins s σ H _ I h) fun u s1 ⟨x,H1,I1,r1,q1⟩=>?_)
 exact thn (hr pos pins s1 σ H1 _ I1 q1) fun us s2 ⟨xs,H2,I2,r2,q2⟩=>⟨x::xs,H2,I2,.cons r1 r2,q2⟩
def zjF (t:TA):TE:=fun σ H Q=>t σ H fun xs H1=>xs.length<=sizeLine/\∀p,H1 p=none->Q (.ref p) (upd H1 p (.tup xs))
def zjG (t:TA):TE:=fun σ H Q=>t σ H fun xs H1=>xs.length<=sizeLine/\∀p,H1 p=none->Q (.ref p) (upd H1 p (.lst xs))
theorem vV {x1} (h:PA X es t):PE X (.Tuple es x1 pos) (zjF t):=by
 intro pins s σ H Q I hq
 refine wpAny_Tuple_spliced (thn (h pos pins s σ H _ I hq) fun us s1 ⟨xs,H1,I1,r,z,q⟩=>⟨by rw[<-r.length]; exact z,?_⟩)
 have hf:H1 s1.heap.objs.size=none:=I1.hok.fresh (Nat.le_refl _)
 refine⟨.ref s1.heap.objs.size,upd H1 s1.heap.objs.size (.tup xs),I1.laid (t':=s1.toks) (fun b u e=>Heap.get?_push_of_some _ e) (Nat.le_refl _) ?_,rfl,q _ hf⟩
 exact⟨z,us,r,⟨_,Heap.get?_push_size _ rfl,rfl,_,rfl⟩⟩
theorem xV (h:PA X es t):PE X (.List es pos) (zjG t):=by
 intro pins s σ H Q I hq
 refine wpAny_List_spliced (thn (h pos pins s σ H _ I hq) fun us s1 ⟨xs,H1,I1,r,z,q⟩=>⟨by rw[<-r.length]; exact z,?_⟩)
 have hf:H1 s1.heap.objs.size=none:=I1.hok.fresh (Nat.le_refl _)
 refine⟨.ref s1.heap.objs.size,upd H1 s1.heap.objs.size (.lst xs),I1.laid (t':=s1.toks) (fun b u e=>Heap.get?_push_of_some _ e) (Nat.le_refl _) ?_,rfl,q _ hf⟩
 exact⟨z,us,0,r,Heap.get?_push_size _ rfl⟩
end
abbrev Sp:=List V->Hp->VK->XK->Prop
abbrev CXT:=List Env->Hp->Shared->XK->Value->Shared->Prop
structure K8 (P:Program) (w:World) (K:PySem.W.Frag) (mg:Str->Option Value) (base:Heap) (A:Around) (outer:List Env) (s:Shared) (H:Hp):Prop where
 frames:A.frames=some outer
 mod:Mod K mg base
 bs:∀b o,base.get? b=some o->s.heap.get? b=some o/\H b=none
 bsz:base.objs.size<=s.heap.objs.size
 funs:s.heap.FunFrames base outer
 frf:∀b∈frs outer,H b=none
 hok:HOk P w H s.heap
 bare:AllBare s.gens
def CE (outer:List Env) (P:Program) (w:World) (H:Hp) (s:Shared) (Q:VK) (u:Value) (s':Shared):Prop :=
 ∃v H',s'.os=s.os/\AllBare s'.gens/\Un (frs outer) [] H H' s.heap s'.heap/\HOk P w H' s'.heap/\RelV v u/\Q v H'
def CR (CX:CXT) (outer:List Env) (P:Program) (w:World) (H:Hp) (s:Shared) (Q:VK) (E:XK) (r:Result) (s':Shared):Prop :=
 match r with
 | .ok (.ret u)=>CE outer P w H s Q u s'
 | .ok _=>False
 | .error e=>CX outer H s E e s'
structure zm (P:Program) (w:World) (K:PySem.W.Frag) (mg:Str->Option Value) (base:Heap) (CX:CXT) (k:Nat) (f:Addr) (fd:FuncData) (ps:List Str) (sp:Sp):Prop where
 len:∀vs H Q E,sp vs H Q E->vs.length=ps.length
 run:∀(A:Around) (outer:List Env) (s:Shared) (H:Hp) (args:Args) (us:List Value) (vs:List V) (Q:VK) (E:XK),vm k A->K8 P w K mg base A outer s H->BindsTo s fd args (ps.zip us)->Vals vs us->sp vs H Q E ->
  codeAny (model P w) A (.call (.ref f) args) (CR CX outer P w H s Q E) s
theorem zm.mono {P:Program} {w:World} {K:PySem.W.Frag} {mg:Str->Option Value} {base:Heap} {CX:CXT} {j k:Nat} {f:Addr} {fd:FuncData} {ps:List Str} {sp:Sp} (F:zm P w K mg base CX j f fd ps sp) (h:j<=k) :
  zm P w K mg base CX k f fd ps sp:=⟨F.len,fun A outer s H args us vs Q E hr=>F.run A outer s H args us vs Q E (hr.mono h)⟩
theorem K8.make {P:Program} {w:World} {K:PySem.W.Frag} {mg:Str->Option Value} {base:Heap} {A:Around} {outer:List Env} {s:Shared} {H:Hp} (e:K8 P w K mg base A outer s H) (C:Addr) (us:List Value) (kw:List (Str×Value)) :
  K8 P w K mg base (A.under (.builtin "type.__call__" ⟨.ref C::us,kw⟩)) outer s H:=⟨by first | exact e.frames | (simpa [Around.under,Code.envs,Code.isFrame,pushEnvs] using e.frames),e.mod,e.bs,e.bsz,e.funs,e.frf,e.hok,e.bare⟩
section
variable {X:Cx} {pins:List (Addr×Obj)} {σ:St} {H:Hp} {s s':Shared}
theorem Inv.env0 (I:Inv X pins σ H s):K8 X.prog X.w X.K X.mg X.base X.A X.stack s H :=
 ⟨I.ok.frames,I.ok.mod,I.bs,Nat.le_trans I.ok.bsz I.sz,I.stack,I.stkFree,I.hok,I.bare⟩
theorem Inv.after {Q:VK} {u:Value} (I:Inv X pins σ H s) (h:CE X.stack X.prog X.w H s Q u s'):EP X pins σ Q u s':=by
 obtain⟨v,H',os,bare,un,hok,r,q⟩:=h
 obtain⟨hh,g,d,t,os'⟩:=s'
 obtain rfl:os'=s.os:=os
 exact⟨v,H',I.call (h':=hh) (g':=g) (d':=d) (t':=t) (ch:=[]) un hok bare (fun b z=>absurd z (by simp)),r,q⟩
end
def Ld (sp:Sp) (dvs:List V) (E:XK) (t:TA):TE:=fun σ H Q=>t σ H fun vs H1=>sp (vs++dvs) H1 Q E
def zhe (C:Addr) (m:Str) (sp:Sp) (dvs:List V) (E:XK) (ta:TE) (t:TA):TE:=fun σ H Q=>ta σ H fun x H1=>∃a dx fs,x=.ref a/\H1 a=some (.ins C dx fs)/\fs.lookup m=none /\
 t σ H1 fun vs H2=>sp (x::(vs++dvs)) H2 Q E
def zi8 (C:Addr) (sp:Sp) (dvs:List V) (E:XK) (t:TA):TE:=fun σ H Q=>t σ H fun vs H1=>∀x dx,H1 x=none->H1 dx=none->dx≠x ->
 sp (.ref x::(vs++dvs)) (upd (upd H1 dx (.own x)) x (.ins C dx [])) (fun v H2=>v=.non/\Q (.ref x) H2) E
def Binds (K:PySem.W.Frag) (fd:FuncData) (ps:List Str) (ds:List Value):Prop :=
 ∀(s:Shared) (us:List Value),K.In s.heap->(us++ds).length=ps.length->BindsTo s fd ⟨us,[]⟩ (ps.zip (us++ds))
theorem Binds.all {K:PySem.W.Frag} {fd:FuncData} {ps:List Str} (h:∀us:List Value,us.length=ps.length->bindArgs fd ⟨us,[]⟩=pure (ps.zip us)):Binds K fd ps []:=fun s us _ hl=>by
 rw[List.append_nil] at hl ⊢
 exact .of_eq (h us hl)
def Passes (CX:CXT) (X:Cx) (E:XK):Prop:=∀(pins:List (Addr×Obj)) (σ:St) (H:Hp) (s:Shared) (e:Value) (s':Shared),Inv X pins σ H s->CX X.stack H s E e s'->X.xe e s'
section
variable {X:Cx} {CX:CXT} {k:Nat} {f C:Addr} {fd:FuncData} {ps:List Str} {sp:Sp} {dvs:List V} {ds:List Value} {E:XK} {x m:Str} {p pos apos:Pos} {e o:Expr} {es:List Expr} {ta:TE} {t:TA}
theorem zcA {pins:List (Addr×Obj)} {σ:St} {H:Hp} {s:Shared} {Q:VK} {us:List Value} {vs:List V} (F:zm X.prog X.w X.K X.mg X.base CX k f fd ps sp) (hr:vm k X.A) (hb:Binds X.K fd ps ds) (hd:Vals dvs ds) (hx:Passes CX X E)
  (I:Inv X pins σ H s) (r:Vals vs us) (h:sp (vs++dvs) H Q E):wpAny (model X.prog X.w) X.A (call (.ref f) us) (EP X pins σ Q) X.xe s:=by
 have r2:Vals (vs++dvs) (us++ds):=r.append hd
 have hl:(us++ds).length=ps.length:=by rw[<-r2.length]; exact F.len _ _ _ _ h
 refine wpAny_call (codeAny_mono (F.run X.A X.stack s H ⟨us,[]⟩ (us++ds) (vs++dvs) Q E hr I.env0 (hb s us I.kIn hl) r2 h) fun r s' hq=>?_)
 cases r with
 | error e=>exact hx pins σ H s e s' I hq
 | ok fl =>
  cases fl with
  | ret u=>exact I.after hq
  | next=>exact False.elim hq
  | brk=>exact False.elim hq
  | cont=>exact False.elim hq
theorem zu (F:zm X.prog X.w X.K X.mg X.base CX k f fd ps sp) (hr:vm k X.A) (hg:Gl X x) (hm:X.mg x=some (.ref f)) (hk:PySem.W.keepIn X.K (.ref f)=true) (hb:Binds X.K fd ps ds) (hd:Vals dvs ds) (hx:Passes CX X E)
  (ha:PA X (e::es) t) (hdb:(x==("__debug__" : Str))=false:=by decide) (he:starEach (e::es) X.env=(false,eval e X.env)::starEach es X.env:=by rfl) (hpl:(backTo pos (starEach es X.env)).any (·.1)=false:=by rfl) :
  PE X (.Call (.Name x p) (e::es) [] pos) (Ld sp dvs E t):=by
 intro pins s σ H Q I h
 refine wpAny_Call_Name_kw (zaB I hg hm ?_ hdb)
 refine PySem.W.callWith_K (h₀:=X.base) I.ok.mod.kin hk (thn (ha pos pins s σ H _ I h) fun us s1 ⟨vs,H1,I1,r,q⟩=>⟨I1.kIn,?_⟩) he hpl
 exact zcA F hr hb hd hx I1 r q
theorem yG {pl:Sem Bool} (he:PE X o ta) (c:Cls X.K C) (hm:Meth X.K C m f) (F:zm X.prog X.w X.K X.mg X.base CX k f fd ps sp) (hr:vm k X.A) (hb:Binds X.K fd ps ds) (hd:Vals dvs ds) (hx:Passes CX X E) (ha:PA X (e::es) t)
  (hst:starEach (e::es) X.env=(false,eval e X.env)::starEach es X.env:=by rfl) (hpl:(backTo pos (starEach es X.env)).any (·.1)=false:=by rfl)
  (ht:eval (.Call (.Attribute o m apos) (e::es) [] pos) X.env=(do
   let ov <-eval o X.env
   standAt apos.atName
   let (f,first) <-holding [ov] (getMethod ov m pl)
   callWith pos f first (backTo pos (starEach (e::es) X.env)) (backToKw pos (keywordEach [] X.env))):=by rfl) :
  PE X (.Call (.Attribute o m apos) (e::es) [] pos) (zhe C m sp dvs E ta t):=by
 intro pins s σ H Q I h
 refine PySem.W.methodCall_KW (pl:=pl) (thn (he pins s σ H _ I h) fun u s1 ⟨x,H1,I1,rx,a,dx,fs,ex,ea,l,q⟩=>?_) ht
 subst ex
 obtain rfl:u=Value.ref a:=rx
 refine QW I1 ea c hm l ?_
 refine PySem.W.callWith_K (first:=[.ref a]) (h₀:=X.base) I.ok.mod.kin hm.kp (thn (ha pos pins s1 σ H1 _ I1 q) fun us s2 ⟨vs,H2,I2,r,q2⟩=>⟨I2.kIn,?_⟩) hst hpl
 exact zcA (us:=.ref a::us) (vs:=.ref a::vs) F hr hb hd hx I2 (.cons rfl r) q2
theorem vo {pl:Sem Bool} (he:PE X o ta) (c:Cls X.K C) (hm:Meth X.K C m f) (F:zm X.prog X.w X.K X.mg X.base CX k f fd ps sp) (hr:vm k X.A) (hb:Binds X.K fd ps ds) (hd:Vals dvs ds) (hx:Passes CX X E)
  (ht:eval (.Call (.Attribute o m apos) [] [] pos) X.env=(do
   let ov <-eval o X.env
   standAt apos.atName
   let (f,first) <-holding [ov] (getMethod ov m pl)
   callWith pos f first (backTo pos (starEach [] X.env)) (backToKw pos (keywordEach [] X.env))):=by rfl) :
  PE X (.Call (.Attribute o m apos) [] [] pos) (zhe C m sp dvs E ta K7):=by
 intro pins s σ H Q I h
 refine PySem.W.methodCall_KW (pl:=pl) (thn (he pins s σ H _ I h) fun u s1 ⟨x,H1,I1,rx,a,dx,fs,ex,ea,l,q⟩=>?_) ht
 subst ex
 obtain rfl:u=Value.ref a:=rx
 refine QW I1 ea c hm l ?_
 exact PySem.W.callWith_K0 (first:=[.ref a]) I1.kIn hm.kp (zcA (us:=[.ref a]) (vs:=[.ref a]) F hr hb hd hx I1 (.cons rfl .nil) q)
structure Mk (K:PySem.W.Frag) (C f:Addr):Prop where
 makes:PySem.W.makesIn K C=true
 init:PySem.W.findIn K (.ref C) "__init__"=some (some (.ref f))
 fn:PySem.W.isFn K (.ref f)=true
 kp:PySem.W.keepIn K (.ref C)=true
theorem zgx {pins:List (Addr×Obj)} {σ:St} {H:Hp} {s:Shared} {Q:VK} {us:List Value} {vs:List V} (M:Mk X.K C f) (F:zm X.prog X.w X.K X.mg X.base CX k f fd ps sp) (hr:vm (k+1) X.A) (hb:Binds X.K fd ps ds) (hd:Vals dvs ds)
  (hx:Passes CX X E) (I:Inv X pins σ H s) (r:Vals vs us)
  (h:∀x dx,H x=none->H dx=none->dx≠x->sp (.ref x::(vs++dvs)) (upd (upd H dx (.own x)) x (.ins C dx [])) (fun v H2=>v=.non/\Q (.ref x) H2) E) :
  wpAny (model X.prog X.w) X.A (call (.ref C) us) (EP X pins σ Q) X.xe s:=by
 have hq:=h (s.heap.objs.size+1) s.heap.objs.size (I.hok.fresh (Nat.le_succ _)) (I.hok.fresh (Nat.le_refl _)) (Nat.ne_of_lt (Nat.lt_succ_self _))
 have I2:=Inv.made (C:=C) I
 have r2:Vals (V.ref (s.heap.objs.size+1)::(vs++dvs)) (Value.ref (s.heap.objs.size+1)::(us++ds)):=.cons rfl (r.append hd)
 have hl:(Value.ref (s.heap.objs.size+1)::us++ds).length=ps.length:=by
  have e:=r2.length
  rw[F.len _ _ _ _ hq] at e
  exact e.symm
 refine wpAny_call (zgw (f:=f) I.kIn M.makes M.init (beq_iff_eq.mp M.fn) (codeAny_mono (F.run _ X.stack _ _ ⟨Value.ref (s.heap.objs.size+1)::us,[]⟩ (Value.ref (s.heap.objs.size+1)::(us++ds)) _ _ E (hr.make C us [])
  (I2.env0.make C us []) (hb _ (Value.ref (s.heap.objs.size+1)::us) I2.kIn hl) r2 hq) fun r s' hq'=>?_))
 cases r with
 | error e=>exact hx pins σ _ _ e s' I2 hq'
 | ok fl =>
  cases fl with
  | ret u =>
   obtain⟨v,H',I3,rv,ev,q3⟩:=I2.after hq'
   subst ev
   exact⟨rv,⟨V.ref (s.heap.objs.size+1),H',I3,rfl,q3⟩⟩
  | next=>exact False.elim hq'
  | brk=>exact False.elim hq'
  | cont=>exact False.elim hq'
theorem zd9 (M:Mk X.K C f) (F:zm X.prog X.w X.K X.mg X.base CX k f fd ps sp) (hr:vm (k+1) X.A) (hg:Gl X x) (hm:X.mg x=some (.ref C)) (hb:Binds X.K fd ps ds) (hd:Vals dvs ds) (hx:Passes CX X E)
  (ha:PA X (e::es) t) (hdb:(x==("__debug__" : Str))=false:=by decide) (he:starEach (e::es) X.env=(false,eval e X.env)::starEach es X.env:=by rfl) (hpl:(backTo pos (starEach es X.env)).any (·.1)=false:=by rfl) :
  PE X (.Call (.Name x p) (e::es) [] pos) (zi8 C sp dvs E t):=by
 intro pins s σ H Q I h
 refine wpAny_Call_Name_kw (zaB I hg hm ?_ hdb)
 refine PySem.W.callWith_K (h₀:=X.base) I.ok.mod.kin M.kp (thn (ha pos pins s σ H _ I h) fun us s1 ⟨vs,H1,I1,r,q⟩=>⟨I1.kIn,?_⟩) he hpl
 exact zgx M F hr hb hd hx I1 r q
end
section
variable {X:Cx} {CX:CXT} {k:Nat} {f C:Addr} {fd:FuncData} {ps ks:List Str} {sp:Sp} {E:XK} {x m:Str} {p pos apos kpos:Pos} {e o:Expr} {es:List Expr} {kws:List Keyword} {te ta:TE} {t tk:TA} {nm:Option Str}
variable {g:List Value->List Value->List Value} {gV:List V->List V->List V}
end
structure zJ (N P:List Str) (sc:Scope):Prop where
 kind:sc.kind=.function
 co:sc.isCoroutine=false
 gen:sc.isGenerator=false
 nd:N.Nodup
 pre:N.take P.length=P
 par:∀x∈P,sc.names.lookup x=some .local\/sc.names.lookup x=some .cell
 nofree:∀y∈sc.names,y.2≠.free
theorem za8 {kindOf:Str->Option NameKind} {x:Str}:∀{binds:List (Str×Value)} {m:Str->Option Value},(∀v,(x,v)∉binds)->bindL kindOf binds m x=m x
 | [],_,_=>rfl
 | (n,v)::r,m,h=>by
  unfold bindL
  rw[za8 fun w hw=>h w (List.mem_cons_of_mem _ hw)]
  split
  ·have:x≠n:=by rintro rfl; exact h v List.mem_cons_self
   simp[this]
  ·rfl
theorem za9 {kindOf:Str->Option NameKind} {x:Str}:∀{binds:List (Str×Value)} {m:Str->Option Value},(∀v,(x,v)∉binds)->bindC kindOf binds m x=m x
 | [],_,_=>rfl
 | (n,v)::r,m,h=>by
  unfold bindC
  rw[za9 fun w hw=>h w (List.mem_cons_of_mem _ hw)]
  split
  ·rfl
  ·have:x≠n:=by rintro rfl; exact h v List.mem_cons_self
   simp[this]
theorem zba {kindOf:Str->Option NameKind} {x:Str} {v:Value}:∀{P:List Str} {vs:List Value} {i:Nat} {m:Str->Option Value},P.Nodup->P[i]?=some x->vs[i]?=some v->kindOf x=some .local ->
  bindL kindOf (P.zip vs) m x=some v
 | [],_,_,_,_,h,_,_=>by simp at h
 | _::_,[],_,_,_,_,h,_=>by simp at h
 | p::P,w::vs,0,m,nd,h1,h2,hk=>by
  simp at h1 h2; subst h1; subst h2
  show bindL kindOf ((p,w)::P.zip vs) m p=_
  unfold bindL
  rw[za8 fun v hv=>(List.nodup_cons.mp nd).1 (List.of_mem_zip hv).1,if_pos hk]
  simp
 | p::P,w::vs,i+1,m,nd,h1,h2,hk=>by
  show bindL kindOf ((p,w)::P.zip vs) m x=_
  unfold bindL
  exact zba (i:=i) (List.nodup_cons.mp nd).2 (by simpa using h1) (by simpa using h2) hk
theorem zbb {kindOf:Str->Option NameKind} {x:Str} {v:Value}:∀{P:List Str} {vs:List Value} {i:Nat} {m:Str->Option Value},P.Nodup->P[i]?=some x->vs[i]?=some v->kindOf x≠some .local ->
  bindC kindOf (P.zip vs) m x=some v
 | [],_,_,_,_,h,_,_=>by simp at h
 | _::_,[],_,_,_,_,h,_=>by simp at h
 | p::P,w::vs,0,m,nd,h1,h2,hk=>by
  simp at h1 h2; subst h1; subst h2
  show bindC kindOf ((p,w)::P.zip vs) m p=_
  unfold bindC
  rw[za9 fun v hv=>(List.nodup_cons.mp nd).1 (List.of_mem_zip hv).1,if_neg hk]
  simp
 | p::P,w::vs,i+1,m,nd,h1,h2,hk=>by
  show bindC kindOf ((p,w)::P.zip vs) m x=_
  unfold bindC
  exact zbb (i:=i) (List.nodup_cons.mp nd).2 (by simpa using h1) (by simpa using h2) hk
def start (N:List Str) (vs:List V):St:=vs.map some++List.replicate (N.length-vs.length) none
def zaF (CX:CXT) (P:Program) (w:World) (K:PySem.W.Frag) (mg:Str->Option Value) (base:Heap) (N:List Str) (qual:Str) (scope:Scope) (f:Addr) (cd:Value) (A:Around) (outer:List Env) (s:Shared) (H:Hp) (E:XK):Cx where
 prog:=P
 w:=w
 K:=K
 mg:=mg
 base:=base
 A:=A.deeper (envOfC qual scope s.heap.objs.size f cd)
 N:=N
 s₀:=s
 H₀:=H
 env:=envOfC qual scope s.heap.objs.size f cd
 outer:=outer
 stack:=envOfC qual scope s.heap.objs.size f cd::outer
 ex:=[]
 calm:=true
 fn:=fun _=>true
 pn:=[]
 xe:=fun e s'=>wpAny (model P w) (A.deeper (envOfC qual scope s.heap.objs.size f cd)) (leaving (envOfC qual scope s.heap.objs.size f cd) e) (fun _ s''=>CX outer H s E e s'') (fun e' s''=>CX outer H s E e' s'') s'
theorem zcB {sc:Scope} {n:Nat} {x:Str} (h:sc.names.lookup x=some .cell):∃c,(cellsFrom n sc.names []).lookup x=some c:=by
 have q:=PySem.W.cellsFrom_some sc.names n [] (.inl h)
 exact Option.isSome_iff_exists.mp q
theorem zfC {CX:CXT} {P:Program} {w:World} {K:PySem.W.Frag} {mg:Str->Option Value} {base:Heap} {N ps:List Str} {qual:Str} {scope:Scope} {f:Addr} {cd:Value} {A:Around} {outer:List Env} {s s1:Shared} {H:Hp} {E:XK} {us:List Value} {vs:List V}
  (S:zJ N ps scope) (hd:A.handled=none) (e0:K8 P w K mg base A outer s H) (hl:vs.length=ps.length) (r:Vals vs us)
  (x:InCallC s s.heap.objs.size (bindL (envOfC qual scope s.heap.objs.size f cd).kindOf (ps.zip us) fun _=>none) (cellsFrom (s.heap.objs.size+1) scope.names []) (bindC (envOfC qual scope s.heap.objs.size f cd).kindOf (ps.zip us) fun _=>none) s1) :
  Inv (zaF CX P w K mg base N qual scope f cd A outer s H E) [] (start N vs) H s1:=by
 have hpl:ps.length<=N.length:=by have:=congrArg List.length S.pre; rw[List.length_take] at this; omega
 obtain⟨h1,tk,rfl,hk⟩:=x.done
 have noA:∀b:Addr,b∉(zaF CX P w K mg base N qual scope f cd A outer s H E).ex:=fun b z=>absurd (show b∈([]:List Addr) from z) (by simp)
 refine⟨⟨e0.mod,S.kind,rfl,rfl,Nat.le_refl _,fun y z c h1 h2=>?_,fun y hy=>?_,fun y c _ h=>?_,fun _=>hd,Around.frames_deeper e0.frames,.inr ⟨rfl,rfl⟩,fun b z=>absurd z (noA b),e0.bs,e0.bsz,fun b _ _=>noA b,fun b z=>absurd z (noA b),e0.funs,e0.frf⟩,
  rfl,e0.bare,Un.kept hk,⟨_,x.toInCall.ns,fun i y v h1 h2 h3=>?_⟩,fun y c h=>⟨_,x.cell y c h⟩,e0.hok.fresh (Nat.le_refl _),fun y c h=>?_,fun p hp=>absurd (show p∈([]:List (Addr×Obj)) from hp) (by simp),e0.hok.kept hk,?_⟩
 ·exact name_of_addr x.apart (PySem.mem_of_lookup h1) (PySem.mem_of_lookup h2)
 ·have hy:scope.names.lookup y=some .cell\/scope.names.lookup y=some .free:=hy
  rcases hy with hy | hy
  ·exact zcB hy
  ·exact absurd rfl (S.nofree _ (PySem.mem_of_lookup hy))
 ·exact Nat.le_of_lt (x.above y c (PySem.mem_of_lookup h))
 ·have hi:i<vs.length:=by
   unfold start at h2
   by_cases hi:i<vs.length
   ·exact hi
   ·rw[List.getElem?_append_right (by simpa using hi)] at h2
    rw[List.getElem?_replicate] at h2
    split at h2<;>cases h2
  have ha:vs[i]?=some v:=by
   unfold start at h2
   rw[List.getElem?_append_left (by simpa using hi),List.getElem?_map] at h2
   cases e:vs[i]? with
   | none=>rw[e] at h2; cases h2
   | some a=>rw[e] at h2; cases h2; rfl
  obtain⟨u,hu,rv⟩:=r.get ha
  have hp:ps[i]?=some y:=by
   rw[<-S.pre,List.getElem?_take_of_lt (by omega)]; exact h1
  have ndP:ps.Nodup:=by rw[<-S.pre]; exact S.nd.sublist (List.take_sublist _ _)
  refine⟨u,rv,?_⟩
  rcases S.par y (List.mem_of_getElem? hp) with k | k
  ·exact .inl ⟨k,zba ndP hp hu k⟩
  ·obtain⟨c,e⟩:=zcB (n:=s.heap.objs.size+1) k
   refine .inr ⟨.inl k,c,e,?_⟩
   have q:=x.cell y c e
   rw[zbb ndP hp hu (by show scope.names.lookup y≠_; rw[k]; decide)] at q
   exact q
 ·exact e0.hok.fresh (Nat.le_of_lt (x.above y c (PySem.mem_of_lookup h)))
 ·unfold start
  show _=N.length
  rw[List.length_append,List.length_map,List.length_replicate]
  omega
theorem zi9 {CX:CXT} {P:Program} {w:World} {K:PySem.W.Frag} {mg:Str->Option Value} {base:Heap} {k:Nat} {f:Addr} {name qual:Str} {params:Arguments} {body:List Stmt} {scope:Scope} {dV kV doc pm cdv ct oc:Value} {an od:Option Addr}
  {osl:Array (Option Value)} {N ps:List Str} {sp:Sp} (lk:K.lookup f=some ⟨oc,od,.func (PySem.W.fnOf name qual params body scope dV kV doc pm an cdv ct),osl⟩) (hcd:PySem.W.codeIn K cdv qual=true) (S:zJ N ps scope)
  (len:∀vs H Q E,sp vs H Q E->vs.length=ps.length)
  (hbody:∀(A:Around) (outer:List Env) (s:Shared) (H:Hp) (vs:List V) (Q:VK) (E:XK),vm k (A.deeper (envOfC qual scope s.heap.objs.size f cdv))->sp vs H Q E ->
   ∃t,PSs (zaF CX P w K mg base N qual scope f cdv A outer s H E) body t/\t { nx:=fun _ H'=>Q .non H',rt:=Q } (start N vs) H) :
  zm P w K mg base CX (k+1) f (PySem.W.fnOf name qual params body scope dV kV doc pm an cdv ct) ps sp:=by
 refine⟨len,fun A outer s H args us vs Q E hr e0 hb r hsp=>?_⟩
 have hl:=len _ _ _ _ hsp
 have KX:K.In s.heap:=e0.mod.kin.keeps fun b o e=>(e0.bs b o e).1
 have lim:s.heap.NoLimit:=e0.mod.nolimit.keeps fun b o e=>(e0.bs b o e).1
 have hkind:∀y∈ps.zip us,scope.names.lookup y.1=some .local\/(scope.names.lookup y.1=some .cell/\((cellsFrom (s.heap.objs.size+1) scope.names []).lookup y.1).isSome=true):=fun⟨n,v⟩ hy=>by
  rcases S.par n (List.of_mem_zip hy).1 with q | q
  ·exact .inl q
  ·exact .inr ⟨q,PySem.W.cellsFrom_some _ _ _ (.inl q)⟩
 refine codeAny_call_function hr.depth (KX _ _ lk) rfl S.co S.gen rfl (PySem.W.codeRec_of KX hcd) (hb _ _ _ _ ?_)
 refine wpAny_newFunctionEnv_cells S.kind hkind fun env he s1 x=>?_
 subst he
 refine⟨lim.keeps x.toInCall.keep,codeAny_func ?_⟩
 obtain⟨t,ht,hq⟩:=hbody A outer s H vs Q E (hr.deeper _) hsp
 have I:Inv (zaF CX P w K mg base N qual scope f cdv A outer s H E) [] (start N vs) H s1:=zfC S hr.hd e0 hl r x
 refine wpAny_mono (ht [] s1 (start N vs) H _ I hq) (fun fl s' hs=>?_) fun e s' hs=>hs
 have fin:∀{σ':St} {H':Hp} {v:V} {u:Value},Inv (zaF CX P w K mg base N qual scope f cdv A outer s H E) [] σ' H' s'->RelV v u->Q v H'->CE outer P w H s Q u s' :=
  fun {σ' H' v u} J rv q=>⟨v,H',J.os,J.bare,J.base,J.hok,rv,q⟩
 cases fl with
 | ret u =>
  obtain⟨v,σ',H',J,rv,q⟩:=hs
  exact fin J rv q
 | next =>
  obtain⟨σ',H',J,q⟩:=hs
  exact fin (v:=V.non) (u:=Value.none) J rfl q
 | brk =>
  obtain⟨_,_,_,q⟩:=hs
  exact False.elim q
 | cont =>
  obtain⟨_,_,_,q⟩:=hs
  exact False.elim q
end L2
namespace L2
open PySem PySem.Spec PyProof.Rows
section
variable {X:Cx} {x:Str} {p pos:Pos} {e:Expr} {es:List Expr} {t:TA} {id T:String} {r:List V->Hp->VK->Prop}
def tCB (r:List V->Hp->VK->Prop) (t:TA):TE:=fun σ H Q=>t σ H fun vs H1=>r vs H1 Q
theorem zU (hc:Y4 X (.builtin id) r) (hg:Gl X x) (hm:X.mg x=none) (hv:bootBuiltins x=some (.builtin id)) (ha:PA X (e::es) t) (hn:x ≠ "__name__" := by decide) (hdb:(x==("__debug__" : Str))=false:=by decide)
  (he:starEach (e::es) X.env=(false,eval e X.env)::starEach es X.env:=by rfl) (hpl:(backTo pos (starEach es X.env)).any (·.1)=false:=by rfl):PE X (.Call (.Name x p) (e::es) [] pos) (tCB r t):=by
 intro pins s σ H Q I h
 refine wpAny_Call_Name_kw (Zy I hg hm hv ?_ hn hdb)
 exact PyProof.Rows.callWith_builtin1 (thn (ha pos pins s σ H _ I h) fun us s1 ⟨vs,H1,I1,r1,q1⟩=>hc pins s1 σ H1 vs us Q I1 r1 q1) he hpl
theorem NT (hc:Y4 X (.type T) r) (hg:Gl X x) (hm:X.mg x=none) (hv:bootBuiltins x=some (.type T)) (ha:PA X (e::es) t) (hn:x ≠ "__name__" := by decide) (hdb:(x==("__debug__" : Str))=false:=by decide)
  (he:starEach (e::es) X.env=(false,eval e X.env)::starEach es X.env:=by rfl) (hpl:(backTo pos (starEach es X.env)).any (·.1)=false:=by rfl):PE X (.Call (.Name x p) (e::es) [] pos) (tCB r t):=by
 intro pins s σ H Q I h
 refine wpAny_Call_Name_kw (Zy I hg hm hv ?_ hn hdb)
 exact PyProof.Rows.callWith_type1 (thn (ha pos pins s σ H _ I h) fun us s1 ⟨vs,H1,I1,r1,q1⟩=>hc pins s1 σ H1 vs us Q I1 r1 q1) he hpl
end
end L2
namespace HT
open PySem PyProof.Rows
section
open PySem.SeqAt
open PySem.AutoSeq1 (wpAny_loadPart')
open PySem.MeetsSeq PySem.MeetsSeq2 PySem.MeetsSeq3
end
section
variable {prog:Program} {w:World} {A:Around} {E:Value->Shared->Prop} {s:Shared}
def sIx (n d:Nat):Option Int->Nat
 | none=>d
 | some v=>if v<0 then (v+(n:Int)).toNat else min v.toNat n
theorem zgy (n d:Nat):sIx n d none=d:=rfl
theorem Le (n d k:Nat):sIx n d (some (k:Int))=min k n:=by
 show(if (k:Int)<0 then ((k:Int)+(n:Int)).toNat else min (k:Int).toNat n)=min k n
 rw[if_neg (by omega),Int.toNat_natCast]
theorem zit (n d:Nat) (hd:d<=n) (o:Option Int):sIx n d o<=n:=by
 cases o with
 | none=>exact hd
 | some v =>
  show(if v<0 then (v+(n:Int)).toNat else min v.toNat n)<=n
  by_cases hv:v<0
  ·rw[if_pos hv]; omega
  ·rw[if_neg hv]; exact Nat.min_le_right _ _
theorem zea (v:Int) (n d:Nat):(if v<0 then max (v+(n:Int)) 0 else min v (n:Int))=((sIx n d (some v):Nat):Int):=by
 show(if v<0 then max (v+(n:Int)) 0 else min v (n:Int))=(((if v<0 then (v+(n:Int)).toNat else min v.toNat n):Nat):Int)
 by_cases hv:v<0
 ·simp only[if_pos hv]; omega
 ·simp only[if_neg hv]; omega
theorem zeV (lo hi:Option Int) (n:Nat):Builtin.Slice.sliceAdjust lo hi 1 (n:Int)=(((sIx n 0 lo:Nat):Int),((sIx n n hi:Nat):Int)):=by
 have h1:¬((1:Int)<0):=by omega
 unfold Builtin.Slice.sliceAdjust
 simp only[h1,if_false]
 refine Prod.ext ?_ ?_
 ·cases lo with
  | none=>rfl
  | some v=>exact zea v n 0
 ·cases hi with
  | none=>rfl
  | some v=>exact zea v n n
theorem zeW (i j:Nat):Builtin.Slice.slicePlaces (i:Int) (j:Int) 1=j-i:=by
 unfold Builtin.Slice.slicePlaces
 have h1:(1:Int) > 0:=by omega
 simp only[h1,if_true,Int.ediv_one]
 split<;>omega
theorem JV {v:Value} {o:Option Int} {Q:Option Int->Shared->Prop} (p:IsPart v o) (h:Q o s):wpAny (model prog w) A (Builtin.Slice.slicePartIndex v) Q E s:=by
 cases p with
 | none=>exact slicePart_none h
 | int i t=>exact slicePart_int h
theorem K9 {sl:Addr} {vl vu:Value} {lo hi:Option Int} {n:Nat} {Q:Int×Int×Nat->Shared->Prop} (hs:s.heap.IsSliceOf sl vl vu .none) (pl:IsPart vl lo) (pu:IsPart vu hi)
  (h:Q (((sIx n 0 lo:Nat):Int),1,sIx n n hi-sIx n 0 lo) s):wpAny (model prog w) A (Builtin.Slice.sliceApplied (.ref sl) (pure (n:Int))) Q E s:=by
 obtain⟨os,hos,hcs,hds⟩:=id hs
 unfold Builtin.Slice.sliceApplied Builtin.Slice.sliceFields
 refine wpAny_bind (wpAny_bind (wpAny_field hos hds (x:=vl) rfl (wpAny_bind (wpAny_field hos hds (x:=vu) rfl (wpAny_bind (wpAny_field hos hds (x:=.none) rfl (wpAny_pure ?_)))))))
 refine wpAny_bind (slicePart_none ?_)
 show wpAny _ _ (if ((1:Int)==0)=true then _ else _) _ _ s
 rw[if_neg (by decide)]
 refine wpAny_bind (JV pl (wpAny_bind (JV pu (wpAny_bind (wpAny_pure ?_)))))
 show wpAny _ _ (match Builtin.Slice.sliceAdjust lo hi 1 (n:Int) with | (lo,hi)=>pure (lo,(1:Int),Builtin.Slice.slicePlaces lo hi 1)) _ _ s
 rw[zeV lo hi n]
 show wpAny _ _ (pure (((sIx n 0 lo:Nat):Int),(1:Int),Builtin.Slice.slicePlaces ((sIx n 0 lo:Nat):Int) ((sIx n n hi:Nat):Int) 1)) _ _ s
 rw[zeW]
 exact wpAny_pure h
theorem zgz (xs:Array Value) (i k:Nat):((List.range k).filterMap fun(m:Nat)=>xs[((i:Int)+(m:Int)*1).toNat]?).toArray=((xs.toList.drop i).take k).toArray:=by
 have e:(fun(m:Nat)=>xs[((i:Int)+(m:Int)*1).toNat]?)=fun m=>xs[i+m]?:=by
  funext m
  have:((i:Int)+(m:Int)*1).toNat=i+m:=by omega
  rw[this]
 rw[e]
 have:=pick_run xs i k
 rw[List.filterMap_map] at this
 have e2:((fun x=>xs[x]?) ∘ fun x=>i+x)=fun m=>xs[i+m]?:=rfl
 rw[e2] at this
 rw[this]
theorem Ly {t sl:Addr} {items:Array Value} {vl vu:Value} {lo hi:Option Int} {Q:Value->Shared->Prop} (ht:IsTup s.heap t items) (hs:s.heap.IsSliceOf sl vl vu .none) (pl:IsPart vl lo) (pu:IsPart vu hi)
  (hw:¬(sIx items.size 0 lo=0/\sIx items.size items.size hi=items.size))
  (h:Q (.ref s.heap.objs.size) { s with heap:=s.heap.push { cls:=.type "tuple", data:=.seq ((items.toList.drop (sIx items.size 0 lo)).take (sIx items.size items.size hi-sIx items.size 0 lo)).toArray } })
  (hsz:items.size<=sizeLine):wpAny (model prog w) A (getItem (.ref t) (.ref sl)) Q E s:=by
 have htake:sizeOk (.seq ((items.toList.drop (sIx items.size 0 lo)).take (sIx items.size items.size hi-sIx items.size 0 lo)).toArray):=by
  show((items.toList.drop (sIx items.size 0 lo)).take (sIx items.size items.size hi-sIx items.size 0 lo)).toArray.size<=sizeLine
  rw[List.size_toArray,List.length_take,List.length_drop,Array.length_toList]
  omega
 have hj:sIx items.size items.size hi<=items.size:=zit _ _ (Nat.le_refl _) hi
 obtain⟨os,hos,hcs,hds⟩:=id hs
 have hTs:s.TypeIs (.ref sl) "slice" := ⟨os,hos,hcs⟩
 unfold getItem
 try with_reducible refine wpAny_holding ?_
 first | refine wpAny_bind (wpAny_pure ?_) | skip
 refine wpAny_bind (wpAny_sequenceKey ht.typeIs (by decide) ?_)
 refine wpAny_bind (wpAny_callSpecial?_slot (name:=Str.ofString "__getitem__") ht.typeIs PyProof.Rows.slot_tuple_getitem
  (wpAny_call_entry PyProof.Rows.slot_tuple_getitem ht.typeIs entry_tuple_getitem ?_ (args_tuple_getitem _ _)))
 show wpAny _ _ (Builtin.Tuple.tupleItemsOf (.ref t)>>=_) _ _ s
 refine wpAny_bind (tupleItemsOf_ ht ?_)
 refine wpAny_bind (wpAny_typeOf hTs ?_)
 rw[if_pos (by decide)]
 refine wpAny_bind (K9 hs pl pu ?_)
 have hno:¬((((sIx items.size 0 lo:Nat):Int)==0&&(1:Int)==1&&(sIx items.size items.size hi-sIx items.size 0 lo)==items.size)=true):=by
  intro q
  rw[Bool.and_eq_true,Bool.and_eq_true] at q
  have q1:((sIx items.size 0 lo:Nat):Int)=0:=eq_of_beq q.1.1
  have q2:sIx items.size items.size hi-sIx items.size 0 lo=items.size:=eq_of_beq q.2
  exact hw ⟨by omega,by omega⟩
 show wpAny _ _ (if (((sIx items.size 0 lo:Nat):Int)==0&&(1:Int)==1&&(sIx items.size items.size hi-sIx items.size 0 lo)==items.size)=true then _ else _) _ _ s
 rw[if_neg hno,zgz]
 first
  | exact wpAny_bind (m:=Builtin.Tuple.tupleExact _) (wpAny_newObj_type (wpAny_pure ⟨_,rfl,wpAny_pure h⟩) htake)
  | exact wpAny_bind (m:=Builtin.Tuple.tupleExact _) (wpAny_newObj_type (wpAny_bind (wpAny_pure (wpAny_pure ⟨_,rfl,wpAny_pure h⟩))) htake)
  | exact wpAny_bind (wpAny_bind (m:=Builtin.Tuple.tupleExact _) (wpAny_newObj_type (wpAny_pure (wpAny_pure ⟨_,rfl,wpAny_pure h⟩)) htake))
  | exact wpAny_bind (wpAny_bind (m:=Builtin.Tuple.tupleExact _) (wpAny_newObj_type (wpAny_pure ⟨_,rfl,wpAny_pure h⟩) htake))
end
end HT
namespace L2
open PySem PySem.Spec PyProof.Rows
abbrev TO:=St->Hp->(Option Int->Hp->Prop)->Prop
def PO (X:Cx) (e:Option Expr) (t:TO):Prop :=
 ∀(pins:List (Addr×Obj)) (s:Shared) (σ:St) (H:Hp) (Q:Option Int->Hp->Prop),Inv X pins σ H s->t σ H Q ->
  wpAny (model X.prog X.w) X.A (evalPart e X.env) (fun u s'=>∃o H',Inv X pins σ H' s'/\IsPart u o/\Q o H') X.xe s
def zht:TO:=fun _ H Q=>Q none H
def zja (t:TE):TO:=fun σ H Q=>t σ H fun x H1=>∃i,x=.int i/\Q (some i) H1
theorem intsAre_of {ns:List Int}:∀{us:List Value},Vals (ns.map V.int) us->IntsAre us ns:=by
 induction ns with
 | nil=>intro us r; rw[List.map_nil] at r; cases r; exact .nil
 | cons n ns ih =>
  intro us r
  rw[List.map_cons] at r
  cases r with
  | cons r1 r2 =>
   obtain⟨t,e⟩:=r1
   subst e
   exact .cons n t (ih r2)
section
variable {X:Cx} {e:Expr} {te:TE} {lo hi:Option Expr} {tl th:TO} {pos p2:Pos}
theorem zhu:PO X none zht:=by
 intro pins s σ H Q I h
 rw[evalPart_none]
 exact wpAny_pure ⟨none,H,I,.none,h⟩
theorem R5 (h:PE X e te):PO X (some e) (zja te):=by
 intro pins s σ H Q I hw
 rw[evalPart_some]
 refine thn (h pins s σ H _ I hw) fun u s1 ⟨x,H1,I1,r1,q1⟩=>?_
 obtain⟨i,rfl,q⟩:=q1
 obtain⟨t,rfl⟩:=r1
 exact⟨some i,H1,I1,.int i t,q⟩
def SlR (X:Cx) (r:V->Option Int->Option Int->Hp->VK->Prop):Prop :=
 ∀(pins:List (Addr×Obj)) (s:Shared) (σ:St) (H:Hp) (x:V) (v vl vu:Value) (lo hi:Option Int) (sl:Addr) (Q:VK),Inv X pins σ H s->RelV x v->s.heap.IsSliceOf sl vl vu .none->IsPart vl lo->IsPart vu hi->r x lo hi H Q ->
  ∃T id,typeLookup (.type T) "__getitem__"=pure (some (.builtin id))/\s.TypeIs v T/\wpAny (model X.prog X.w) X.A (getItem v (.ref sl)) (EP X pins σ Q) X.xe s
def tSl (r:V->Option Int->Option Int->Hp->VK->Prop) (te:TE) (tl th:TO):TE:=fun σ H Q=>te σ H fun x H1=>tl σ H1 fun l H2=>th σ H2 fun u H3=>r x l u H3 Q
theorem Ja {r:V->Option Int->Option Int->Hp->VK->Prop} (hr:SlR X r) (he:PE X e te) (hl:PO X lo tl) (hu:PO X hi th):PE X (.Subscript e (.Slice lo hi none p2) pos) (tSl r te tl th):=by
 intro pins s σ H Q I h
 refine Subscript_ (thn (he pins s σ H _ I h) fun v s1 ⟨x,H1,I1,r1,q1⟩=>?_)
 refine wpAny_Slice (thn (hl pins s1 σ H1 _ I1 q1) fun vl s2 ⟨l,H2,I2,pl,q2⟩=>thn (hu pins s2 σ H2 _ I2 q2) fun vu s3 ⟨u,H3,I3,pu,q3⟩=>?_)
 rw[evalPart_none]
 refine wpAny_pure ?_
 have I4:Inv X pins σ H3 { s3 with heap:=s3.heap.push { cls:=.type "slice", data:=.fields #[vl,vu,.none] } }:=I3.kept (t':=s3.toks) fun b ob q=>Heap.get?_push_of_some _ q
 obtain⟨T,id,hT,ht,hg⟩:=hr pins { s3 with heap:=s3.heap.push { cls:=.type "slice", data:=.fields #[vl,vu,.none] } } σ H3 x v vl vu l u s3.heap.objs.size Q I4 r1 (Heap.IsSliceOf.new ..) pl pu q3
 show wpAny (model X.prog X.w) X.A (subscriptTail e (.Slice lo hi none p2) v (.ref s3.heap.objs.size)) (EP X pins σ Q) X.xe { s3 with heap:=s3.heap.push { cls:=.type "slice", data:=.fields #[vl,vu,.none] } }
 exact tail_any (ops:=[.ref s3.heap.objs.size,v]) ht hT hg (by with_unfolding_all rfl)
def RP (xs:List V) (lo hi:Option Int):List V:=(xs.drop (HT.sIx xs.length 0 lo)).take (HT.sIx xs.length xs.length hi-HT.sIx xs.length 0 lo)
theorem Ke (xs:List V) (lo hi:Option Int):(RP xs lo hi).length<=xs.length:=by
 unfold RP
 rw[List.length_take,List.length_drop]
 omega
def zjH (K:PySem.W.Frag):V->Option Int->Option Int->Hp->VK->Prop:=fun x lo hi H Q=>∃a xs,x=.ref a/\SqT K H a xs /\
 ¬(HT.sIx xs.length 0 lo=0/\HT.sIx xs.length xs.length hi=xs.length)/\∀p,H p=none->Q (.ref p) (upd H p (.tup (RP xs lo hi)))
theorem zfD:SlR X (zjH X.K):=by
 intro pins s σ H x v vl vu lo hi sl Q I rx hs pl pu h
 obtain⟨a,xs,rfl,hx,hw,q⟩:=h
 cases rx
 obtain⟨its,r,ht,hz⟩:=I.tuple hx
 have hlen:its.toArray.size=xs.length:=by rw[List.size_toArray]; exact r.length.symm
 refine⟨"tuple", _,PyProof.Rows.slot_tuple_getitem.lookup,ht.typeIs,?_⟩
 refine HT.Ly ht hs pl pu (by rw[hlen]; exact hw) ?_ (by rw[hlen]; exact hz)
 rw[hlen]
 refine⟨.ref s.heap.objs.size,_,I.laid (t':=s.toks) (o:=.tup (RP xs lo hi)) (fun b ob q=>Heap.get?_push_of_some _ q) (Nat.le_refl _) ?_,rfl,q _ (I.hok.fresh (Nat.le_refl _))⟩
 exact⟨Nat.le_trans (Ke xs lo hi) hz,_,(r.drop (HT.sIx xs.length 0 lo)).take (HT.sIx xs.length xs.length hi-HT.sIx xs.length 0 lo),IsTup.new _ _⟩
end
end L2
namespace L2
open PySem PySem.Spec PyProof.Rows
def ixN (n:Nat) (i:Int):Option Nat:=if 0<=i then (if i<n then some i.toNat else none) else if -(n:Int)<=i then some (i+n).toNat else none
def atI {α:Type} (xs:List α) (i:Int):Option α:=(ixN xs.length i).bind fun j=>xs[j]?
theorem zhv {n:Nat} {i:Int} {j:Nat} (h:ixN n i=some j):seqIndex? i n=some j/\j<n/\-(n:Int)<=i/\i<n:=by
 unfold ixN at h
 by_cases h0:0<=i
 ·rw[if_pos h0] at h
  by_cases h1:i<n
  ·rw[if_pos h1] at h
   have e:i.toNat=j:=Option.some.inj h
   exact⟨by rw[seqIndex_of h0 h1,e],by omega,by omega,h1⟩
  ·rw[if_neg h1] at h; cases h
 ·rw[if_neg h0] at h
  by_cases h1:-(n:Int)<=i
  ·rw[if_pos h1] at h
   have e:(i+n).toNat=j:=Option.some.inj h
   exact⟨by rw[seqIndex_neg (by omega) h1,e],by omega,h1,by omega⟩
  ·rw[if_neg h1] at h; cases h
theorem zaG {α:Type} {xs:List α} {i:Int} {v:α} (h:atI xs i=some v):∃j,seqIndex? i xs.length=some j/\xs[j]?=some v/\j<xs.length/\-(xs.length:Int)<=i/\i<xs.length:=by
 unfold atI at h
 cases e:ixN xs.length i with
 | none=>rw[e] at h; cases h
 | some j =>
  rw[e] at h
  obtain⟨h1,h2,h3,h4⟩:=zhv e
  exact⟨j,h1,h,h2,h3,h4⟩
theorem vp {α:Type} {xs:List α} {j:Nat} {v:α} (h:xs[j]?=some v):atI xs (j:Int)=some v:=by
 have hj:j<xs.length:=(List.getElem?_eq_some_iff.mp h).1
 have e:ixN xs.length (j:Int)=some j:=by
  unfold ixN
  rw[if_pos (by omega),if_pos (by omega)]; simp
 unfold atI; rw[e]; exact h
theorem zcC {α:Type} (xs:List α) (v:α):atI (xs++[v]) (-1)=some v:=by
 have hl:(xs++[v]).length=xs.length+1:=by simp
 have e:ixN (xs++[v]).length (-1)=some xs.length:=by
  unfold ixN
  rw[hl,if_neg (by decide),if_pos (by omega)]
  congr 1
  omega
 unfold atI
 rw[e]
 show(xs++[v])[xs.length]?=some v
 simp
def zhw (b:Expr):Prop:=∀o i,subscripted b false o i=operate [o,i] (getItem o i)
def IxR (X:Cx) (r:R2):Prop :=
 ∀(value slice:Expr) (pins:List (Addr×Obj)) (s:Shared) (σ:St) (H:Hp) (x y:V) (v u:Value) (Q:VK),Inv X pins σ H s->RelV x v->RelV y u->r x y H Q ->
  subscripted slice false v u=operate [v,u] (getItem v u)->wpAny (model X.prog X.w) X.A (subscriptTail value slice v u) (EP X pins σ Q) X.xe s
def MtR (X:Cx) (id:String) (r:V->List V->Hp->VK->Prop):Prop :=
 ∀(pins:List (Addr×Obj)) (s:Shared) (σ:St) (H:Hp) (x:V) (xs:List V) (v:Value) (us:List Value) (Q:VK),Inv X pins σ H s->RelV x v->Vals xs us->r x xs H Q ->
  wpAny (model X.prog X.w) X.A (call (.builtin id) (v::us)) (EP X pins σ Q) X.xe s
section
variable {X:Cx} {a b:Expr} {ta tb:TE} {pos:Pos}
theorem zX {r:R2} (hr:IxR X r) (ha:PE X a ta) (hb:PE X b tb) (hs:zhw b):PE X (.Subscript a b pos) (tOp r ta tb):=by
 intro pins s σ H Q I h
 exact Subscript_ (zgs ha hb I h fun v u s2 x y H2 I2 rx ry q=>hr a b pins s2 σ H2 x y v u Q I2 rx ry q (hs _ _))
def ziu (K:PySem.W.Frag):R2:=fun x y H Q=>∃p xs i v,x=.ref p/\y=.int i/\SqL K H p xs/\atI xs i=some v/\Q v H
def zjI (K:PySem.W.Frag):R2:=fun x y H Q=>∃p xs i v,x=.ref p/\y=.int i/\SqT K H p xs/\atI xs i=some v/\Q v H
def zjJ:R2:=fun x y H Q=>∃z i c,x=.str z/\y=.int i/\z.length<=sizeLine/\atI z.cps.toList i=some c/\Q (.str ⟨#[c]⟩) H
theorem yr:IxR X (ziu X.K):=by
 intro value slice pins s σ H x y v u Q I rx ry h hs
 obtain⟨p,xs,i,z,rfl,rfl,hq,he,q⟩:=h
 cases rx
 obtain⟨t,rfl⟩:=ry
 obtain⟨its,r,pl,hz⟩:=I.list hq
 obtain⟨j,h1,h2,h3,h4,h5⟩:=zaG he
 obtain⟨w,ew,rw'⟩:=r.get h2
 have hl:=r.length
 have hn:=VB
 have fin:EP X pins σ Q w s:=⟨z,H,I,rw',q⟩
 by_cases h0:0<=i
 ·have hj:i.toNat=j:=by
   rw[seqIndex_of h0 h5] at h1
   exact Option.some.inj h1
  exact item_listR pl.isList h0 (by omega) (by rw[hj]; simpa using ew) fin hs
 ·have hj:(i+(its.toArray.size:Int)).toNat=j:=by
   rw[seqIndex_neg (by omega) h4] at h1
   rw[List.size_toArray,<-hl]
   exact Option.some.inj h1
  exact subscriptTail_builtinR (x:=w) pl.isList.typeIs slot_list_getitem.lookup
   (wpAny_getItem_list_neg (Q:=fun r s'=>r=w/\EP X pins σ Q r s') pl.isList (by omega) (by rw[List.size_toArray]<;>omega) (by omega) (by rw[hj]; simpa using ew) ⟨rfl,fin⟩) hs
theorem wZ:IxR X (zjI X.K):=by
 intro value slice pins s σ H x y v u Q I rx ry h hs
 obtain⟨p,xs,i,z,rfl,rfl,hq,he,q⟩:=h
 cases rx
 obtain⟨t,rfl⟩:=ry
 obtain⟨its,r,pl,hz⟩:=I.tuple hq
 obtain⟨j,h1,h2,h3,h4,h5⟩:=zaG he
 obtain⟨w,ew,rw'⟩:=r.get h2
 have hl:=r.length
 have hn:=VB
 have fin:EP X pins σ Q w s:=⟨z,H,I,rw',q⟩
 exact subscriptTail_builtinR (x:=w) pl.typeIs slot_tuple_getitem.lookup
  (getItem_tuple (j:=j) (Q:=fun r s'=>r=w/\EP X pins σ Q r s') pl (by omega) (by omega) (by rw[List.size_toArray,<-hl]; exact h1) (by simpa using ew) ⟨rfl,fin⟩) hs
theorem NZ:IxR X zjJ:=by
 intro value slice pins s σ H x y v u Q I rx ry h hs
 obtain⟨z,i,c,rfl,rfl,hz,he,q⟩:=h
 obtain⟨t,rfl⟩:=rx
 obtain⟨t',rfl⟩:=ry
 obtain⟨j,h1,h2,h3,h4,h5⟩:=zaG he
 have hl:z.cps.toList.length=z.length:=by simp[Str.length]
 rw[hl] at h1 h4 h5
 have hn:=VB
 exact tail_any (typeIs_str s z t) slot_str_getitem.lookup (getItem_str (c:=c) (by
  have e1:decide (i < -(2^63:Int))=false:=decide_eq_false (by omega)
  have e2:decide (i >= 2^63)=false:=decide_eq_false (by omega)
  rw[e1,e2,Bool.or_false]) (by rw[h1]; simpa using h2) ⟨.str ⟨#[c]⟩,H,I.tok _,⟨_,rfl⟩,q⟩) hs
theorem zcD (lo hi:Option Int) (n:Nat):(sliceBounds lo hi none n).1=((HT.sIx n 0 lo:Nat):Int)/\(sliceBounds lo hi none n).2.1=((HT.sIx n n hi:Nat):Int)/\(sliceBounds lo hi none n).2.2=1:=by
 refine⟨?_,?_,rfl⟩
 ·cases lo with
  | none=>simp[sliceBounds,HT.sIx]
  | some i =>
   simp only[sliceBounds,HT.sIx,Option.getD_none,show(1:Int) > 0 by decide,if_true]
   by_cases h:i<0
   ·simp only[h,if_true]<;>omega
   ·simp only[h,if_false]<;>omega
 ·cases hi with
  | none=>simp[sliceBounds,HT.sIx]
  | some i =>
   simp only[sliceBounds,HT.sIx,Option.getD_none,show(1:Int) > 0 by decide,if_true]
   by_cases h:i<0
   ·simp only[h,if_true]<;>omega
   ·simp only[h,if_false]<;>omega
theorem zbV (its:List Value) (lo hi:Option Int):slicePick its.toArray lo hi none=((its.drop (HT.sIx its.length 0 lo)).take (HT.sIx its.length its.length hi-HT.sIx its.length 0 lo)).toArray:=by
 obtain⟨h1,h2,h3⟩:=zcD lo hi its.toArray.size
 unfold slicePick
 rw[h1,h2,h3]
 simp only[sliceRange_one,pick_run,List.size_toArray]<;>rfl
def zjK (K:PySem.W.Frag):V->Option Int->Option Int->Hp->VK->Prop:=fun x lo hi H Q=>∃a xs,x=.ref a/\SqL K H a xs/\∀p,H p=none->Q (.ref p) (upd H p (.lst (RP xs lo hi)))
theorem sl_list:SlR X (zjK X.K):=by
 intro pins s σ H x v vl vu lo hi sl Q I rx hs pl pu h
 obtain⟨a,xs,rfl,hx,q⟩:=h
 cases rx
 obtain⟨its,r,ht,hz⟩:=I.list hx
 have hlen:=r.length
 refine⟨"list", _,slot_list_getitem.lookup,ht.isList.typeIs,?_⟩
 refine wpAny_getItem_list_slice ht.isList hs pl pu .none (by simp) ?_ (by rw[List.size_toArray]<;>omega)
 rw[zbV,<-hlen]
 refine⟨.ref s.heap.objs.size,_,I.laid (t':=s.toks) (o:=.lst (RP xs lo hi)) (fun b ob q=>Heap.get?_push_of_some _ q) (Nat.le_refl _) ?_,rfl,q _ (I.hok.fresh (Nat.le_refl _))⟩
 exact⟨Nat.le_trans (Ke xs lo hi) hz,_,0,(r.drop (HT.sIx xs.length 0 lo)).take (HT.sIx xs.length xs.length hi-HT.sIx xs.length 0 lo),Heap.get?_push_size _ rfl⟩
def wA:V->Bool
 | .non=>true
 | .bl _=>true
 | .int _=>true
 | .str _=>true
 | _=>false
def eqV:V->V->Bool
 | .non,.non=>true
 | .bl a,.bl b=>a==b
 | .bl a,.int b=>(if a then 1 else 0)==b
 | .int a,.bl b=>a==(if b then 1 else 0)
 | .int a,.int b=>a==b
 | .str a,.str b=>a==b
 | _,_=>false
theorem zfE {A:Around} {s:Shared} {y x:V} {u v:Value} (ry:RelV y u) (rx:RelV x v) (fy:wA y=true) (fx:wA x=true):SeqAt.EqAt A s u v (eqV y x):=by
 cases y with
 | non =>
  cases ry
  cases x with
  | non=>cases rx; exact SeqAt.EqAt.same _
  | bl b=>cases rx; exact SeqAt.EqAt.none_bool b
  | int b=>obtain⟨t,rfl⟩:=rx; exact SeqAt.EqAt.none_int b t
  | str b=>obtain⟨t,rfl⟩:=rx; exact SeqAt.EqAt.none_str b t
  | _=>exact absurd (show false=true from fx) Bool.false_ne_true
 | bl a =>
  cases ry
  cases x with
  | non=>cases rx; exact SeqAt.EqAt.bool_none a
  | bl b=>cases rx; exact SeqAt.EqAt.bool_bool a b
  | int b=>obtain⟨t,rfl⟩:=rx; exact SeqAt.EqAt.bool_int a b t
  | str b=>obtain⟨t,rfl⟩:=rx; exact SeqAt.EqAt.bool_str a b t
  | _=>exact absurd (show false=true from fx) Bool.false_ne_true
 | int a =>
  obtain⟨t',rfl⟩:=ry
  cases x with
  | non=>cases rx; exact SeqAt.EqAt.int_none a t'
  | bl b=>cases rx; exact SeqAt.EqAt.int_bool a t' b
  | int b=>obtain⟨t,rfl⟩:=rx; exact SeqAt.EqAt.int_int a t' b t
  | str b=>obtain⟨t,rfl⟩:=rx; exact SeqAt.EqAt.int_str a t' b t
  | _=>exact absurd (show false=true from fx) Bool.false_ne_true
 | str a =>
  obtain⟨t',rfl⟩:=ry
  cases x with
  | non=>cases rx; exact SeqAt.EqAt.str_none a t'
  | bl b=>cases rx; exact SeqAt.EqAt.str_bool a t' b
  | int b=>obtain⟨t,rfl⟩:=rx; exact SeqAt.EqAt.str_int a t' b t
  | str b=>obtain⟨t,rfl⟩:=rx; exact SeqAt.EqAt.str_str a t' b t
  | _=>exact absurd (show false=true from fx) Bool.false_ne_true
 | _=>exact absurd (show false=true from fy) Bool.false_ne_true
def eqU (x:V) (u:Value):Bool:=match u with
 | .none=>eqV .non x
 | .bool b=>eqV (.bl b) x
 | .int i _=>eqV (.int i) x
 | .str z _=>eqV (.str z) x
 | _=>false
theorem JW {x y:V} {u:Value} (r:RelV y u) (f:wA y=true):eqU x u=eqV y x:=by
 cases y with
 | non=>cases r; rfl
 | bl b=>cases r; rfl
 | int i=>obtain⟨t,rfl⟩:=r; rfl
 | str z=>obtain⟨t,rfl⟩:=r; rfl
 | _=>exact absurd (show false=true from f) Bool.false_ne_true
theorem R6 {x:V}:∀{xs:List V} {us:List Value},Vals xs us->xs.all wA=true->us.any (eqU x)=xs.any fun y=>eqV y x
 | _,_,.nil,_=>rfl
 | y::xs,u::us,.cons r t,f=>by
  rw[List.all_cons,Bool.and_eq_true] at f
  rw[List.any_cons,List.any_cons,JW r f.1,R6 t f.2]
theorem WY {A:Around} {s:Shared} {x:V} {v:Value} (rx:RelV x v) (fx:wA x=true):∀{xs:List V} {us:List Value},Vals xs us->xs.all wA=true->∀u∈us,SeqAt.EqAt A s u v (eqU x u)
 | _,_,.nil,_=>fun u hu=>by cases hu
 | y::xs,u::us,.cons r t,f=>fun u' hu=>by
  rw[List.all_cons,Bool.and_eq_true] at f
  rcases List.mem_cons.mp hu with rfl | hu
  ·rw[JW r f.1]; exact zfE r rx f.1 fx
  ·exact WY rx fx t f.2 u' hu
def inV (x:V) (xs:List V):Bool:=xs.any fun y=>eqV y x
def rIn (K:PySem.W.Frag) (neg:Bool):R2:=fun x y H Q=>∃p xs,y=.ref p/\(SqL K H p xs\/SqT K H p xs)/\wA x=true/\xs.all wA=true/\Q (.bl (if neg then !inV x xs else inV x xs)) H
theorem VD:OpR X (compareOp .In) (rIn X.K false):=by
 intro pins s σ H x y v u Q I rx ry h
 obtain⟨p,xs,rfl,hq,fx,fs,q⟩:=h
 cases ry
 rcases hq with hq | hq
 ·obtain⟨its,r,pl,hz⟩:=I.list hq
  refine SeqAt.in_listAt (eqU x) pl.isList (fun w hw=>WY rx fx r fs w (by simpa using hw)) ⟨.bl _,H,I,rfl,?_⟩
  rw[show its.toArray.any (eqU x)=its.any (eqU x) by simp,R6 r fs]
  exact q
 ·obtain⟨its,r,pl,hz⟩:=I.tuple hq
  refine SeqAt.in_tupleAt (eqU x) pl (fun w hw=>WY rx fx r fs w (by simpa using hw)) ⟨.bl _,H,I,rfl,?_⟩
  rw[show its.toArray.any (eqU x)=its.any (eqU x) by simp,R6 r fs]
  exact q
theorem zcE:OpR X (compareOp .NotIn) (rIn X.K true):=by
 intro pins s σ H x y v u Q I rx ry h
 obtain⟨p,xs,rfl,hq,fx,fs,q⟩:=h
 cases ry
 rcases hq with hq | hq
 ·obtain⟨its,r,pl,hz⟩:=I.list hq
  refine SeqAt.notIn_listAt (eqU x) pl.isList (fun w hw=>WY rx fx r fs w (by simpa using hw)) ⟨.bl _,H,I,rfl,?_⟩
  rw[show its.toArray.any (eqU x)=its.any (eqU x) by simp,R6 r fs]
  exact q
 ·obtain⟨its,r,pl,hz⟩:=I.tuple hq
  refine SeqAt.notIn_tupleAt (eqU x) pl (fun w hw=>WY rx fx r fs w (by simpa using hw)) ⟨.bl _,H,I,rfl,?_⟩
  rw[show its.toArray.any (eqU x)=its.any (eqU x) by simp,R6 r fs]
  exact q
theorem zQ:Y4 X (.builtin "len") (fun xs H Q=>∃p ys,xs=[.ref p]/\(SqL X.K H p ys\/SqT X.K H p ys)/\Q (.int ys.length) H):=by
 intro pins s σ H xs us Q I r h
 obtain⟨p,ys,rfl,hq,q⟩:=h
 obtain⟨u,rfl,rx⟩:=vals1 r
 cases rx
 have hn:=VB
 rcases hq with hq | hq
 ·obtain⟨its,r',pl,hz⟩:=I.list hq
  have hlen:=r'.length
  exact Calls.call_len_list pl.isList (by simp only[List.size_toArray]<;>omega) ⟨.int ys.length,H,I.tok _,⟨s.toks+1,by rw[List.size_toArray,hlen]⟩,q⟩
 ·obtain⟨its,r',pl,hz⟩:=I.tuple hq
  have hlen:=r'.length
  exact len_tuple pl (by simp only[List.size_toArray]<;>omega) ⟨.int ys.length,H,I.tok _,⟨s.toks+1,by rw[List.size_toArray,hlen]⟩,q⟩
theorem zcF:Y4 X (.builtin "len") (fun xs H Q=>∃z,xs=[.str z]/\z.length<=sizeLine/\Q (.int z.length) H):=by
 intro pins s σ H xs us Q I r h
 obtain⟨z,rfl,hz,q⟩:=h
 obtain⟨u,rfl,t,rfl⟩:=vals1 r
 have hn:=VB
 exact len_str (by omega) ⟨.int z.length,H,I.tok _,⟨_,rfl⟩,q⟩
theorem Ma:Y4 X (.type "list") (fun xs H Q=>∃p ys,xs=[.ref p]/\(SqL X.K H p ys\/SqT X.K H p ys)/\∀l,H l=none->Q (.ref l) (upd H l (.lst ys))):=by
 intro pins s σ H xs us Q I r h
 obtain⟨p,ys,rfl,hq,q⟩:=h
 obtain⟨u,rfl,rx⟩:=vals1 r
 cases rx
 have fin:∀(its:List Value),Vals ys its->ys.length<=sizeLine->∀(h':Heap) (c':Nat),(∀b o',s.heap.get? b=some o'->h'.get? b=some o') ->
   h'.get? s.heap.objs.size=some { cls:=.type "list", dict:=none,data:=.seq its.toArray c',slots:=#[] }->EP X pins σ Q (.ref s.heap.objs.size) { s with heap:=h' }:=fun its r' hz h' c' kp e =>
  ⟨.ref s.heap.objs.size,_,I.laid (t':=s.toks) kp (Nat.le_refl _) (show xY X.prog X.w _ h' _ (.lst ys) from ⟨hz,its,c',r',e⟩),rfl,q _ (I.hok.fresh (Nat.le_refl _))⟩
 rcases hq with hq | hq
 ·obtain⟨its,r',pl,hz⟩:=I.list hq
  have hlen:=r'.length
  obtain⟨o,ho,hc,n,hd⟩:=pl.isList
  exact call_list_seq p (.inl rfl) ho hc hd (fun h' c' kp e=>fin its r' hz h' c' kp e) (by simp only[List.size_toArray]<;>omega)
 ·obtain⟨its,r',pl,hz⟩:=I.tuple hq
  have hlen:=r'.length
  obtain⟨o,ho,hc,n,hd⟩:=pl
  exact call_list_seq p (.inr rfl) ho hc hd (fun h' c' kp e=>fin its r' hz h' c' kp e) (by simp only[List.size_toArray]<;>omega)
def tyV (K:PySem.W.Frag) (T:String) (x:V) (H:Hp):Prop:=match x with
 | .str _=>T="str"
 | .int _=>T="int"
 | .ref p=>(T="list" /\ ∃xs,SqL K H p xs)\/(T="tuple" /\ ∃o,K.lookup p=some o/\o.cls=.type "tuple" /\ o.dict=none) \/
   (T="dict" /\ ((∃kvs,H p=some (.dK kvs))\/∃kvs,H p=some (.dT kvs)))\/(T="set" /\ ∃S n,H p=some (.set S n))
 | _=>False
theorem zfF {pins:List (Addr×Obj)} {σ:St} {H:Hp} {s:Shared} {T:String} {x:V} {v:Value} (I:Inv X pins σ H s) (r:RelV x v) (ty:tyV X.K T x H) :
  s.TypeIs v T/\∀a,v=.ref a->∃ob,s.heap.get? a=some ob/\ob.dict=none:=by
 cases x with
 | str z =>
  obtain⟨t,rfl⟩:=r
  cases (show T="str" from ty)
  exact⟨typeIs_str s z t,fun _ e=>nomatch e⟩
 | int i =>
  obtain⟨t,rfl⟩:=r
  cases (show T="int" from ty)
  exact⟨typeIs_int s i t,fun _ e=>nomatch e⟩
 | ref p =>
  cases r
  rcases ty with ⟨rfl,xs,hq⟩ | ⟨rfl,o,hk,hc,hd⟩ | ⟨rfl,hk⟩ | ⟨rfl,S,n,hk⟩
  ·obtain⟨its,_,pl,_⟩:=I.list hq
   refine⟨pl.isList.typeIs,fun a e=>?_⟩
   cases e
   obtain⟨o,n,e,c,hd,_⟩:=pl
   exact⟨o,e,hd⟩
  ·refine⟨⟨o,I.kIn p o hk,hc⟩,fun a e=>?_⟩
   cases e
   exact⟨o,I.kIn _ o hk,hd⟩
  ·have z:∃o,s.heap.get? p=some o/\o.ExactDict:=by
    rcases hk with ⟨kvs,hk⟩ | ⟨kvs,hk⟩
    ·obtain⟨_,_,_,_,o,_,_,e,ex,_⟩:=I.hok p _ hk
     exact⟨o,e,ex⟩
    ·obtain⟨_,_,_,_,o,_,_,e,ex,_⟩:=I.hok p _ hk
     exact⟨o,e,ex⟩
   obtain⟨o,e,ex⟩:=z
   refine⟨⟨o,e,ex.1⟩,fun a e2=>?_⟩
   cases e2
   exact⟨o,e,ex.2.1⟩
  ·obtain⟨o,_,_,_,e,ex,_⟩:=I.hok p _ hk
   refine⟨⟨o,e,ex.1⟩,fun a e2=>?_⟩
   cases e2
   exact⟨o,e,ex.2.1⟩
 | _=>exact False.elim ty
def tBM (K:PySem.W.Frag) (T:String) (r:V->List V->Hp->VK->Prop) (to:TE) (t:TA):TE:=fun σ H Q=>to σ H fun x H1=>tyV K T x H1/\t σ H1 fun xs H2=>r x xs H2 Q
variable {o e:Expr} {es:List Expr} {to:TE} {t:TA} {name:Str} {apos cpos:Pos} {T id:String} {r:V->List V->Hp->VK->Prop}
theorem wI (pa:PlainAttrs T) (slot:Slot T name id) (hty:typeOf (.builtin id)=pure (.type "method_descriptor")) (hm:MtR X id r) (ho:PE X o to) (ha:PA X (e::es) t)
  (hbase:attributeBase o name X.env (eval o X.env)=eval o X.env:=by rfl)
  (hfew:((backTo cpos (starEach (e::es) X.env)).all (fun x=>!x.1)&&(backToKw cpos (keywordEach [] X.env)).all (fun x=>x.1.isSome)
   && decide ((e::es).length+([]:List Keyword).length+(if ([]:List Keyword).isEmpty then 0 else 1)<30))=true:=by rfl)
  (hline:(apos.endLine==cpos.line)=true:=by rfl) (hs:starEach (e::es) X.env=(false,eval e X.env)::starEach es X.env:=by rfl) (hplain:(backTo cpos (starEach es X.env)).any (·.1)=false:=by rfl) :
  PE X (.Call (.Attribute o name apos) (e::es) [] cpos) (tBM X.K T r to t):=by
 intro pins s σ H Q I h
 refine wpAny_Call_method_late hbase hfew hline rfl (thn (ho pins s σ H _ I h) fun v s1 ⟨x,H1,I1,r1,ty,q1⟩=>?_)
 obtain⟨h1,h2⟩:=zfF I1 r1 ty
 refine⟨T,id,pa,slot,hty,h1,h2,?_⟩
 have hA:=ha cpos pins s1 σ H1 _ I1 q1
 rw[hs] at hA ⊢
 refine Calls.callWith_builtin (by show(false||(backTo cpos (starEach es X.env)).any (·.1))=false; rw[hplain]<;>rfl) (Calls.evalArgs_plain ?_)
 exact thn hA fun us s2 ⟨vs,H2,I2,r2,q2⟩=>hm pins s2 σ H2 x vs v us Q I2 r1 r2 q2
/- xs.append(e),list.index on a module's tuple .. are MtR facts of 06m -/
end
end L2
namespace L2
open PySem PySem.Spec PyProof.Rows
def MtM (X:Cx) (id:String) (r:V->List V->Hp->VK->Prop):Prop :=
 ∀(pins:List (Addr×Obj)) (s:Shared) (σ:St) (H:Hp) (x:V) (xs:List V) (v:Value) (us:List Value) (Q:VK),Inv X pins σ H s->RelV x v->Vals xs us->r x xs H Q ->
  wpAny (model X.prog X.w) X.A (call (.builtin id) (v::us)) (EP X pins σ Q) X.xe s
theorem Vals.one:∀{x:V} {us:List Value},Vals [x] us->∃u,us=[u]/\RelV x u
 | _,_,.cons r .nil=>⟨_,rfl,r⟩
theorem Vals.two:∀{x y:V} {us:List Value},Vals [x,y] us->∃u v,us=[u,v]/\RelV x u/\RelV y v
 | _,_,_,.cons r (.cons q .nil)=>⟨_,_,rfl,r,q⟩
section
variable {X:Cx} {pins:List (Addr×Obj)} {σ:St} {H:Hp} {s:Shared} {l b:Addr} {xs ys zs:List V}
theorem Inv.lset {its its':List Value} {n:Nat} {f:Array Value->Array Value} {t':Nat} (I:Inv X pins σ H s) (hH:H l=some (.lst xs))
  (e:s.heap.get? l=some { cls:=.type "list", data:=.seq its.toArray n }) (hf:f its.toArray=its'.toArray) (hv:Vals ys its') (hz:ys.length<=sizeLine) :
  Inv X pins σ (upd H l (.lst ys)) { s with heap:=s.heap.update l (Obj.mapSeq f),toks:=t' }:=by
 have q:=PySem.IsL.update e f
 rw[hf] at q
 refine I.write (x:=l) (e:=l) (by rw[hH]; exact trivial) (.inl rfl) (fun b' u hb hu=>(Heap.get?_update_other s.heap (Obj.mapSeq f) (Ne.symm hb)).trans hu) ⟨_,q⟩ ?_
 exact⟨hz,its',_,hv,q⟩
theorem Inv.fresh (I:Inv X pins σ H s):H s.heap.objs.size=none:=I.hok.fresh (Nat.le_refl _)
theorem Inv.lstM (I:Inv X pins σ H s) (hH:H l=some (.lst xs)):xs.length<=sizeLine/\∃(its:List Value) (n:Nat),Vals xs its/\xs.length=its.length/\s.heap.get? l=some { cls:=.type "list", data:=.seq its.toArray n }:=by
 obtain⟨z,its,n,r,e⟩:=I.hok l _ hH
 exact⟨z,its,n,r,r.length,e⟩
theorem zcG {n:Nat} (h:n<=sizeLine):Builtin.List.listTooLong n=false:=by
 unfold Builtin.List.listTooLong
 exact decide_eq_false (by omega)
end
section
variable {X:Cx}
def zhx:V->List V->Hp->VK->Prop:=fun x vs H Q=>∃l xs y,x=.ref l/\vs=[y]/\H l=some (.lst xs)/\xs.length<sizeLine/\Q .non (upd H l (.lst (xs++[y])))
theorem wK:MtM X "list.append" zhx:=by
 intro pins s σ H x vs v us Q I rx rv h
 obtain⟨l,xs,y,rfl,rfl,hH,hz,q⟩:=h
 cases rx
 obtain⟨u,rfl,ru⟩:=rv.one
 obtain⟨z,its,n,r,hl,e⟩:=I.lstM hH
 refine call_meets F.slot_list_append ⟨_,e,rfl⟩ F.entry_list_append (F.args_list_append_2 _ _) (PySem.list_append l its.toArray n u (by rw[List.size_toArray]; omega)) ⟨e,?_⟩
 refine⟨.non,_,I.lset (its':=its++[u]) hH e (by simp) (r.append (.cons ru .nil)) ?_,rfl,q⟩
 rw[List.length_append,List.length_singleton]
 omega
def zhy:V->List V->Hp->VK->Prop:=fun x vs H Q=>∃l b xs zs,x=.ref l/\vs=[.ref b]/\H l=some (.lst xs)/\H b=some (.lst zs)/\xs.length+zs.length<=sizeLine/\Q .non (upd H l (.lst (xs++zs)))
theorem zfG:MtM X "list.extend" zhy:=by
 intro pins s σ H x vs v us Q I rx rv h
 obtain⟨l,b,xs,zs,rfl,rfl,hH,hB,hz,q⟩:=h
 cases rx
 obtain⟨u,rfl,ru⟩:=rv.one
 cases ru
 obtain⟨z,its,n,r,hl,e⟩:=I.lstM hH
 obtain⟨z2,its2,n2,r2,hl2,e2⟩:=I.lstM hB
 have hsz:its.toArray.size+its2.toArray.size<=sizeLine:=by rw[List.size_toArray,List.size_toArray]; omega
 have hlong:¬(!its.toArray.isEmpty&&Builtin.List.listTooLong (its.toArray.size+its2.toArray.size))=true:=by
  rw[zcG hsz,Bool.and_false]
  exact Bool.false_ne_true
 refine call_meets F.slot_list_extend ⟨_,e,rfl⟩ F.entry_list_extend (F.args_list_extend_2 _ _)
  (AutoSeq1.list_extend_list_list_0 l its.toArray n b its2.toArray n2 hlong (by rw[List.size_toArray]; omega) (by omega)) ⟨e,e2,?_⟩
 refine⟨.non,_,I.lset (its':=its++its2) hH e (by simp) (r.append r2) ?_,rfl,q⟩
 rw[List.length_append]
 omega
end
section
variable {prog:Program} {w:World} {A:Around} {E:Value->Shared->Prop} {s:Shared}
end
section
variable {X:Cx}
end
end L2
namespace Att
open PySem PySem.W PySem.Calls PyProof.Rows
theorem JX {P:Params} {h:Heap}:∀(ns:List Int) (vs:List Value),WellAll P h vs (ns.map WData.int)->IntsAre vs ns:=by
 intro ns
 induction ns with
 | nil =>
  intro vs w
  rw[List.map_nil] at w
  cases w
  exact .nil
 | cons n ns ih =>
  intro vs w
  rw[List.map_cons] at w
  cases w with
  | cons a b =>
   cases a
   exact .cons _ _ (ih _ b)
theorem zfH {l:OpenLaw} {n:Nat} (hn:l.most=some n) {P:Params} {h:Heap} {args:List WData} {vals:List Value}
  (hpre:l.row.toRowW.claim.pre args=true) (hwl:WellAll P h vals args) :
  ∃a vs ns,vals=[Value.ref a]/\args=[WData.list (ns.map WData.int)]/\h.get? a=some { cls:=.type "list", data:=.seq vs.toArray }/\IntsAre vs ns/\ns.length<=n:=by
 have hsh:WShape.hasAll [] args [.list .int]=true:=(pre_splitW hpre).1
 have hc:l.pre.holds [] { args:=args }=true:=(pre_splitW hpre).2
 obtain⟨d,r,rfl,h1,h2⟩:=hasAllW_cons hsh
 obtain rfl:=hasAllW_nil h2
 obtain⟨xs,rfl,h3⟩:=hasW_list h1
 obtain⟨ns,rfl⟩:=items_int h3
 have hlen:ns.length<=n:=by
  unfold OpenLaw.pre at hc
  have h4:(WTm.not (.lt (.lit (.int (n:Int))) (.len (.arg 0)))).holds [] { args:=[.list (ns.map .int)] }=true:=by
   have h4:=(holds_andW hc).1
   rw[hn] at h4
   exact h4
  have h5:=condW_of h4 (w_not (w_lt w_lit (w_len_list (w_arg rfl))))
  rw[List.length_map] at h5
  refine Nat.le_of_not_lt fun q=>?_
  have q':(n:Int)<((ns.length:Nat):Int):=by omega
  first
   | (rw[decide_eq_true q'] at h5; exact absurd h5 (by decide))
   | (simp at h5; omega)
 cases hwl with
 | cons w1 w2 =>
  cases w2
  cases w1 with
  | list ho hall=>exact⟨_,_,ns,rfl,rfl,ho,JX ns _ hall,hlen⟩
theorem zfI (l:OpenLaw) (args:List WData):l.row.toRowW.claim.post args (.bool true) args=true :=
 postW_of (r:=l.row.toRowW) (X:=(true==true))
  (show WShape.has [] (.bool true) .bool=true by first | rfl | decide | simp[WShape.has,WShape.arms,WShape.armsAll])
  (show(WTm.eq .res (.lit (.bool true))).value [] { args:=args,res:=some (.bool true),after:=args }=some (.bool (true==true)) from w_eq_bool (w_res rfl) w_lit) rfl
theorem zdO {l:OpenLaw} {n:Nat} {q:Program} {loose:List Str} {XP:(Str->Option Value)->Heap->Prop} {YP:World->Heap->Prop} {d:DefRec}
  (hn:l.most=some n) (hdf:d.params.defaults=[])
  (call:∀(w:World) (s₀ s₁:Shared) (mg mb:Str->Option Value) (fa:Addr) (o:Obj) (pm cd doc:Value) (a:Addr) (vs:List Value) (ns:List Int),
   Ground q loose [] XP w s₀ mg mb s₁.heap->YP w s₁.heap ->
   s₁.heap.get? fa=some o->o.data=.func (docDef d.name d.params d.body d.scope pm cd doc)->s₁.heap.CodeRec cd d.name->mg d.name=some (.ref fa) ->
   s₁.heap.get? a=some { cls:=.type "list", data:=.seq vs.toArray }->IntsAre vs ns->ns.length<=n->s₁.gens=#[] ->
   codeAny (model l.prog w) callerA (.call (.ref fa) ⟨[.ref a],[]⟩) (fun r s'=>r=.ok (.ret (.bool true))/\OldK s₁.heap s'.heap/\s'.os=s₁.os/\AllBare s'.gens) s₁) :
  WalkO q loose XP YP l.row.toRowW d [] (fun f vs=>PySem.call f vs):=by
 intro w s₀ s₁ mg mb G Y fa o pm cd doc dV kV ho hd hcd hD hmg hg args vals as hpre hlay hrd hwl hlo
 obtain rfl:dV=.none:=Dflts.none hD hdf
 obtain rfl:kV=.none:=Dflts.noKw hD
 obtain⟨a,vs,ns,rfl,rfl,hobj,hints,hlen⟩:=zfH hn hpre hwl
 refine enter_call (codeAny_mono (call w s₀ s₁ mg mb fa o pm cd doc a vs ns G Y ho (fd_plain hd) hcd hmg hobj hints hlen hg) fun r s' hq=>?_)
 obtain⟨rfl,h2,h3,h4⟩:=hq
 exact⟨.inl ⟨.bool true,.bool true,[],rfl,fun _=>rfl,.bool true,zfI l _,fun _=>⟨List.Pairwise.nil,fun _ hm=>(nomatch hm)⟩⟩,h2,h3,h4⟩
section
variable {prog:Program} {w:World} {A:Around} {E:Value->Shared->Prop} {s:Shared} {K:Frag}
end
end Att
namespace L2
open PySem PySem.Spec PyProof.Rows
theorem zbc:∀{vs:List Value} {ns:List Int},IntsAre vs ns->Vals (ns.map V.int) vs
 | _,_,.nil=>.nil
 | _,_,.cons n t h=>.cons ⟨t,rfl⟩ (zbc h)
def Only (H:Hp):Prop:=∀b,H b=none\/∃o xs,H b=some (.frz o (.lst xs))
theorem zgA {P:Program} {w:World} {K:PySem.W.Frag} {mg mb:Str->Option Value} {CX:CXT} {k:Nat} {fa a:Addr} {fd:FuncData} {x:Str} {sp:Sp} {s₁:Shared} {vs:List Value} {ns:List Int}
  (KX:K.In s₁.heap) (hns:s₁.heap.Ns mainGlobals mg) (hb:s₁.heap.Ns builtinsNs mb) (hbb:∀x:Str,x ≠ "__name__" -> mb x=bootBuiltins x) (hlim:s₁.heap.NoLimit) (hg:s₁.gens=#[])
  (ha:s₁.heap.get? a=some { cls:=.type "list", data:=.seq vs.toArray }) (hi:IntsAre vs ns) (hl:ns.length<=sizeLine) (hr:vm k callerA)
  (F:∀base:Heap,K.In base->base.Ns mainGlobals mg->zm P w K mg base CX k fa fd [x] sp) (hbind:∀(s:Shared) (u:Value),BindsTo s fd ⟨[u],[]⟩ [(x,u)])
  (hsp:∀H:Hp,Only H->SqL K H a (ns.map V.int)->sp [.ref a] H (fun v _=>v=.bl true) fun _ _ _=>False)
  (hCX:∀H e s',CX [] H s₁ (fun _ _ _=>False) e s'->False) :
  codeAny (model P w) callerA (.call (.ref fa) ⟨[.ref a],[]⟩) (fun r s'=>r=.ok (.ret (.bool true))/\OldK s₁.heap s'.heap/\s'.os=s₁.os/\AllBare s'.gens) s₁:=by
 have rv:=zbc hi
 have lenV:=hi.length
 have core:∀H:Hp,Only H->SqL K H a (ns.map V.int)->HOk P w H s₁.heap->(∀b,H b≠none->b=a)->(H a≠none->K.lookup a=none) ->
   codeAny (model P w) callerA (.call (.ref fa) ⟨[.ref a],[]⟩) (fun r s'=>r=.ok (.ret (.bool true))/\OldK s₁.heap s'.heap/\s'.os=s₁.os/\AllBare s'.gens) s₁:=by
  intro H hO hS hok hA hK
  have base_of:∀{b:Addr} {o:Obj},s₁.heap.get? b=some o->H b=none->(QT s₁.heap H).get? b=some o:=fun e n=>zgq e n
  have noA:∀{b:Addr} {o:Obj} {es:Array DictEntry} {ep:Nat},s₁.heap.get? b=some o->o.data=.dict es ep->H b=none:=fun {b o es ep} e d=>by
   cases q:H b with
   | none=>rfl
   | some u =>
    have e':b=a:=hA b (by rw[q]; simp)
    subst e'
    rw[ha] at e; cases e
    have d':Data.seq vs.toArray _=Data.dict es ep:=d
    cases d'
  have nsK:∀{b:Addr} {m:Str->Option Value},s₁.heap.Ns b m->(QT s₁.heap H).Ns b m:=fun {b m} ⟨o,es,ep,e,d,r⟩=>⟨o,es,ep,base_of e (noA e d),d,r⟩
  have hKb:K.In (QT s₁.heap H):=fun b o e=>base_of (KX b o e) (by
   cases q:H b with
   | none=>rfl
   | some u =>
    have e':b=a:=hA b (by rw[q]; simp)
    subst e'
    rw[hK (by rw[q]; simp)] at e; cases e)
  have hM:Mod K mg (QT s₁.heap H):=⟨hKb,nsK hns,⟨mb,nsK hb,hbb⟩,let ⟨mc,h1,h2⟩:=hlim; ⟨mc,nsK h1,h2⟩⟩
  have e0:K8 P w K mg (QT s₁.heap H) callerA [] s₁ H:=⟨rfl,hM,fun b o e=>zho e,Nat.le_of_eq (zfv _ _),trivial,fun b hb=>absurd (show b∈([]:List Addr) from hb) (by simp),hok,.of_eq hg⟩
  refine codeAny_mono ((F _ hKb (nsK hns)).run callerA [] s₁ H ⟨[.ref a],[]⟩ [.ref a] [.ref a] _ _ hr e0 (hbind s₁ (.ref a)) (.cons rfl .nil) (hsp H hO hS)) fun r s' h=>?_
  cases r with
  | error e=>exact(hCX H e s' h).elim
  | ok fl =>
   cases fl with
   | next=>exact False.elim h
   | brk=>exact False.elim h
   | cont=>exact False.elim h
   | ret u =>
    obtain⟨v,H',os,bare,un,hok',r',q⟩:=h
    have q':v=.bl true:=q
    subst q'
    obtain rfl:u=Value.bool true:=r'
    refine⟨rfl,OldK.of_keep fun b o e=>?_,os,bare⟩
    cases q:H b with
    | none=>exact un.keep b o e q (by intro z; exact absurd (show b∈([]:List Addr) from z) (by simp)) (by simp)
    | some u =>
     rcases hO b with z | ⟨ob,xs,z⟩
     ·rw[q] at z; cases z
     ·have z2:=un.frzs b ob _ z
      obtain⟨e1,_⟩:=hok b _ z
      obtain⟨e2,_⟩:=hok' b _ z2
      rw[e] at e1; cases e1
      exact e2
 cases hk:K.lookup a with
 | some o =>
  have e:=KX a o hk
  rw[ha] at e
  cases e
  refine core (fun _=>none) (fun _=>.inl rfl) (.inr ⟨_,vs.toArray,_,hk,rfl,rfl,rfl,by rw[List.size_toArray,lenV]; exact hl,by simpa using rv⟩) (fun b u z=>by have z':(none:Option HO)=some u:=z; cases z') (fun b z=>absurd rfl z) fun z=>absurd rfl z
 | none =>
  refine core (fun b=>if b=a then some (.frz { cls:=.type "list", data:=.seq vs.toArray } (.lst (ns.map V.int))) else none) (fun b=>?_) (.inl (.inr ⟨{ cls:=.type "list", data:=.seq vs.toArray },if_pos rfl⟩)) (fun b u z=>?_) (fun b z=>?_) fun _=>hk
  ·by_cases hb:b=a
   ·exact .inr ⟨_,_,if_pos hb⟩
   ·exact .inl (if_neg hb)
  ·by_cases hb:b=a
   ·have z':=(if_pos hb).symm.trans z
    cases z'
    subst hb
    exact⟨ha,by rw[List.length_map]; exact hl,vs,_,rv,ha⟩
   ·have z':=(if_neg hb).symm.trans z
    cases z'
  ·by_cases hb:b=a
   ·exact hb
   ·exact absurd (if_neg hb) z
end L2
namespace L2
open PySem PySem.Spec PyProof.Rows
abbrev KOf {K:PySem.W.Frag} {h:Heap} (_:K.In h):PySem.W.Frag:=K
theorem zeb {l:PySem.W.OpenLaw} {n k:Nat} {q:Program} {loose:List Str} {XP:(Str->Option Value)->Heap->Prop} {YP:World->Heap->Prop} {d:DefRec} {K:Params->PySem.W.Frag} {CX:World->CXT} {sp:World->Sp} {x:Str}
  (hn:l.most=some n) (hn2:n<=sizeLine) (hdf:d.params.defaults=[]) (hr:vm k callerA)
  (hY:∀(w:World) (h:Heap),YP w h->(K w.params).In h)
  (F:∀(w:World) (mg:Str->Option Value) (fa:Addr) (h:Heap),(K w.params).In h->h.Ns mainGlobals mg->mg d.name=some (.ref fa) ->
   ∃fd:FuncData,(∀(s:Shared) (u:Value),BindsTo s fd ⟨[u],[]⟩ [(x,u)]) /\
    ∀base:Heap,(K w.params).In base->base.Ns mainGlobals mg->zm l.prog w (K w.params) mg base (CX w) k fa fd [x] (sp w))
  (hsp:∀(w:World) (H:Hp) (a:Addr) (ns:List Int),ns.length<=n->Only H->SqL (K w.params) H a (ns.map V.int)->sp w [.ref a] H (fun v _=>v=.bl true) fun _ _ _=>False)
  (hCX:∀(w:World) (H:Hp) (s:Shared) (e:Value) (s':Shared),CX w [] H s (fun _ _ _=>False) e s'->False) :
  PySem.W.WalkO q loose XP YP l.row.toRowW d [] (fun f vs=>PySem.call f vs):=by
 refine Att.zdO hn hdf fun w s₀ s₁ mg mb fa o pm cd doc a vs ns G Y ho hd hcd hmg hobj hints hlen hg=>?_
 have KX:=hY w _ Y
 obtain⟨fd,hb,hF⟩:=F w mg fa _ KX G.T.g hmg
 exact zgA KX G.T.g G.T.b G.T.builtins G.T.nolimit hg hobj hints (Nat.le_trans hlen hn2) hr hF hb (fun H hO hS=>hsp w H a ns hlen hO hS) fun H e s'=>hCX w H s₁ e s'
theorem zgB {l:PySem.W.OpenLaw} {n k:Nat} {q:Program} {loose:List Str} {XP:(Str->Option Value)->Heap->Prop} {YP:World->Heap->Prop} {d:DefRec} {K:Params->PySem.W.Frag} {CX:CXT} {sp:PySem.W.Frag->Sp} {x:Str}
  (hn:l.most=some n) (hn2:n<=sizeLine) (hdf:d.params.defaults=[]) (hr:vm k callerA)
  (hY:∀(w:World) (h:Heap),YP w h->(K w.params).In h)
  (F:∀(w:World) (mg:Str->Option Value) (fa:Addr) (h:Heap),(K w.params).In h->h.Ns mainGlobals mg->mg d.name=some (.ref fa) ->
   ∃fd:FuncData,(∀(s:Shared) (u:Value),BindsTo s fd ⟨[u],[]⟩ [(x,u)]) /\
    ∀base:Heap,(K w.params).In base->base.Ns mainGlobals mg->zm l.prog w (K w.params) mg base CX k fa fd [x] (sp (K w.params)))
  (hsp:∀(K:PySem.W.Frag) (H:Hp) (a:Addr) (ns:List Int),ns.length<=n->Only H->SqL K H a (ns.map V.int)->sp K [.ref a] H (fun v _=>v=.bl true) fun _ _ _=>False)
  (hCX:∀(H:Hp) (s:Shared) (e:Value) (s':Shared),CX [] H s (fun _ _ _=>False) e s'->False) :
  PySem.W.WalkO q loose XP YP l.row.toRowW d [] (fun f vs=>PySem.call f vs) :=
 zeb (K:=K) (CX:=fun _=>CX) (sp:=fun w=>sp (K w.params)) hn hn2 hdf hr hY F (fun w H a ns h1 h2 h3=>hsp (K w.params) H a ns h1 h2 h3) fun _ H s e s'=>hCX H s e s'
end L2
/- THE LAST THEOREM (shape; LID,My.* are yours):
   My.Adr: a structure of the addresses that your layer names (classes,functions); My.Txt K t: a structure (Prop) of the equations over K;
   My.txt_mk:{K} {implicit addresses ..} (e1:nsIn K mainGlobals "law"=some (some (.ref f))) (e2:K.lookup f=some ⟨oc,od,.func (fnOf "law" "law" params body scope dV kV doc pm an cdv ct),sl⟩) (e3:codeIn K cdv "law"=true) ..:∃t,My.Txt K t
set_option maxRecDepth 100000 in
set_option maxHeartbeats 0 in
theorem PySem.Challenge.cw_LID_holds:PySem.Challenge.rw_LID.Holds:=by
 w_on; o_law; k_head; (case hw=>w_witness2)
 k_fill
 refine L2.zeb (l:=PySem.Challenge.rw_LID) (n:=63) (k:=40) (x := "script") (CX:=fun w=>..) (sp:=fun _=>My.sp_law) rfl (by decide) rfl ⟨rfl,by decide,by decide⟩ (fun w h Y=>PySem.W.kIn_of Y) ?F ?S ?C
 case F =>
  intro w mg fa h KX G hmg
  have T:∃t,My.Txt (L2.KOf KX) t:=by
   dsimp only[L2.KOf]                          -- K must stand as «<heap const> w.params» for k_is
   refine' My.txt_mk ?e1 ?e2 ?e3 ..
   (case e1=>PySem.W.k_is)                    -- in the order: a name -> its address -> its object -> its parts
   (case e2=>PySem.W.k_is)
   ..
  obtain⟨t,T⟩:=T
  have e0:=hmg.symm.trans (PySem.W.mg_of KX G T.law)
  cases e0                                       -- fa is the law's own address
  exact⟨_,fun s u=>.of_eq rfl,fun base kb nb=>My.law_fn T kb nb⟩     -- if «.of_eq rfl» comes too early: refine' ⟨_,?b,fun base kb nb=>My.law_fn T kb nb⟩; exact fun s u=>.of_eq rfl
 case S=>exact fun w H a ns hl hO hS=>..
 case C=>exact ..
(the tactic k_is has no namespace: write k_is) -/
namespace L2
open PySem PySem.Spec PyProof.Rows
def inClass (s:Stmt) (j:Nat):Stmt:=match s with
 | .ClassDef _ _ _ body _ _ _ _ _ _ _=>body.getD j (.Pass ⟨0,0,0,0⟩)
 | _=>.Pass ⟨0,0,0,0⟩
def Lf (s:Stmt):Arguments:=match s with
 | .FunctionDef _ a _ _ _ _ _ _ _ _=>a
 | _=>{ posonlyargs:=[],args:=[],vararg:=none,kwonlyargs:=[],kw_defaults:=[],kwarg:=none,defaults:=[] }
def Xk (s:Stmt):List Stmt:=match s with
 | .FunctionDef _ _ b _ _ _ _ _ _ _=>b
 | _=>[]
def zA (s:Stmt):Scope:=match s with
 | .FunctionDef _ _ _ _ _ _ sc _ _ _=>sc
 | _=>{ kind:=.function,names:=[],isGenerator:=false,isCoroutine:=false }
abbrev CX0:CXT:=fun _ _ _ _ _ _=>False
abbrev E0:XK:=fun _ _ _=>False
theorem zy {X:Cx}:Passes CX0 X E0:=fun _ _ _ _ _ _ _ h=>h.elim
structure Fun (K:PySem.W.Frag) (x qual:Str) (st:Stmt) (f:Addr) (fd:FuncData):Prop where
 ex:∃(oc:Value) (od:Option Addr) (kV doc pm:Value) (an:Option Addr) (cdv ct:Value) (osl:Array (Option Value)),
  fd=PySem.W.fnOf x qual (Lf st) (Xk st) (zA st) .none kV doc pm an cdv ct/\K.lookup f=some ⟨oc,od,.func fd,osl⟩/\PySem.W.codeIn K cdv qual=true
 kp:PySem.W.keepIn K (.ref f)=true
section
variable {P:Program} {w:World} {K:PySem.W.Frag} {mg:Str->Option Value} {base:Heap}
theorem Fun.ok {x qual:Str} {st:Stmt} {f:Addr} {fd:FuncData} {N ps:List Str} {k:Nat} {sp:Sp} (F:Fun K x qual st f fd) (S:zJ N ps (zA st)) (len:∀vs H Q E,sp vs H Q E->vs.length=ps.length)
  (hbody:∀(cdv:Value) (A:Around) (outer:List Env) (s:Shared) (H:Hp) (vs:List V) (Q:VK) (E:XK),vm k (A.deeper (envOfC qual (zA st) s.heap.objs.size f cdv))->sp vs H Q E ->
   ∃t,PSs (zaF CX0 P w K mg base N qual (zA st) f cdv A outer s H E).nox (Xk st) t/\t { nx:=fun _ H'=>Q .non H',rt:=Q } (start N vs) H):zm P w K mg base CX0 (k+1) f fd ps sp:=by
 obtain⟨oc,od,kV,doc,pm,an,cdv,ct,osl,rfl,lk,hcd⟩:=F.ex
 refine zi9 lk hcd S len fun A outer s H vs Q E hr hsp=>?_
 obtain⟨t,h,q⟩:=hbody cdv A outer s H vs Q E hr hsp
 exact⟨t,h.nox,q⟩
theorem Fun.binds {x qual:Str} {st:Stmt} {f:Addr} {fd:FuncData} {ps:List Str} (F:Fun K x qual st f fd)
  (h:∀(kV doc pm:Value) (an:Option Addr) (cdv ct:Value) (us:List Value),us.length=ps.length->bindArgs (PySem.W.fnOf x qual (Lf st) (Xk st) (zA st) .none kV doc pm an cdv ct) ⟨us,[]⟩=pure (ps.zip us)):Binds K fd ps []:=by
 obtain⟨oc,od,kV,doc,pm,an,cdv,ct,osl,rfl,lk,hcd⟩:=F.ex
 exact .all (h kV doc pm an cdv ct)
theorem zP {x qual:Str} {st:Stmt} {f:Addr} {oc:Value} {od an:Option Addr} {osl:Array (Option Value)} {kV doc pm cdv ct:Value} (l:K.lookup f=some ⟨oc,od,.func (PySem.W.fnOf x qual (Lf st) (Xk st) (zA st) .none kV doc pm an cdv ct),osl⟩)
  (c:PySem.W.codeIn K cdv qual=true) (k:PySem.W.keepIn K (.ref f)=true):Fun K x qual st f (PySem.W.fnOf x qual (Lf st) (Xk st) (zA st) .none kV doc pm an cdv ct):=⟨⟨oc,od,kV,doc,pm,an,cdv,ct,osl,rfl,l,c⟩,k⟩
end
theorem Lg {A:Around} {k:Nat} (hr:vm k A):A.units+1<cLine:=Nat.lt_of_le_of_lt (Nat.add_le_add_left (by decide:1<=64) _) hr.units
theorem yC {n:Nat} (h:n<=1000):n<sizeLine:=Nat.lt_of_le_of_lt h (by decide)
section
variable {X:Cx}
theorem pv (i:Nat) {x:Str} {pos:Pos} (hN:X.N[i]?=some x:=by rfl) (hv:Vis X.env.scope x:=by first | exact Or.inl rfl | exact Or.inr (Or.inl rfl) | exact Or.inr (Or.inr rfl)) (hd:(x==("__debug__" : Str))=false:=by decide)
  (hcd:(x==("__classdict__" : Str))=false:=by decide):PE X (.Name x pos) (RM i):=zii hN hv hd hcd
end
theorem vN {A B:Prop} (h:B):if false=true then A else B:=by
 rw[if_neg Bool.false_ne_true]
 exact h
theorem Xb {A B:Prop} (h:A):if true=true then A else B:=by
 rw[if_pos rfl]
 exact h
theorem yp {c A B:Prop} [Decidable c] (h1:c->A) (h2:¬c->B):if c then A else B:=by
 by_cases h:c
 ·rw[if_pos h]
  exact h1 h
 ·rw[if_neg h]
  exact h2 h
theorem zhf {c A B:Prop} [Decidable c] (hc:c) (h:B):if (!decide c)=true then A else B:=by
 rw[decide_eq_true hc]
 exact vN h
def Same (H H':Hp):Prop:=∀b o,H b=some o->H' b=some o
theorem Same.refl (H:Hp):Same H H:=fun _ _ h=>h
theorem Same.trans {H H1 H2:Hp} (a:Same H H1) (b:Same H1 H2):Same H H2:=fun c o h=>b c o (a c o h)
theorem Same.free {H H':Hp} (e:Same H H') {l:Addr} (h:H' l=Option.none):H l=Option.none:=by
 cases q:H l with
 | none=>rfl
 | some o =>
  rw[e l o q] at h
  cases h
theorem Same.seq {K:PySem.W.Frag} {H H':Hp} {a:Addr} {xs:List V} (e:Same H H') (h:SqL K H a xs):SqL K H' a xs:=by
 rcases h with (h | ⟨o,h⟩) | h
 ·exact .inl (.inl (e _ _ h))
 ·exact .inl (.inr ⟨o,e _ _ h⟩)
 ·exact .inr h
end L2
set_option maxHeartbeats 8000000
namespace L2
open PySem PySem.Spec PyProof.Rows
section
variable {X:Cx} {pins:List (Addr×Obj)} {σ:St} {H:Hp} {s:Shared}
theorem HOk.track {P:Program} {w:World} {H:Hp} {h:Heap} {a:Addr} {o:HO} (x:HOk P w H h) (hn:H a=none) (new:xY P w (upd H a o) h a o):HOk P w (upd H a o) h:=fun b u e=>by
 by_cases hb:b=a
 ·subst hb
  rw[zq] at e
  cases e
  exact new
 ·rw[zB hb] at e
  refine(x b u e).stay (fun _ _ _ q=>q) (fun c q=>?_) fun c xs q=>?_
  ·rw[zB (zF q hn)]; exact q
  ·rw[zB (zF q hn)]; exact q
theorem Inv.track {a:Addr} {o:HO} (I:Inv X pins σ H s) (hn:H a=none) (hL:a≠X.env.locals) (h0:X.s₀.heap.objs.size<=a) (hc:∀x c,X.env.cells.lookup x=some c->c≠a) (hp:∀p∈X.pn++pins,p.1≠a)
  (new:xY X.prog X.w (upd H a o) s.heap a o):Inv X pins σ (upd H a o) s:=by
 have old:∀b ob,X.s₀.heap.get? b=some ob->b≠a:=fun b ob e=>Nat.ne_of_lt (Nat.lt_of_lt_of_le (Heap.lt_size e) h0)
 refine⟨I.ok,I.os,I.bare,⟨fun b ob e n=>I.base.keep b ob e n,fun b ob e n=>I.base.slot b ob e n,fun b ob e n hx=>?_,fun b ob e hx=>I.base.there b ob e hx,fun b xs e=>?_,fun b ob u e=>?_,fun b ps e=>?_⟩,I.loc,I.cell,?_,fun x c e=>?_,fun p hm=>?_,I.hok.track hn new,I.len⟩
 ·rw[zB (old b ob e)]; exact I.base.free b ob e n hx
 ·have q:=I.base.tups b xs e
  rw[zB (zF q hn)]; exact q
 ·have q:=I.base.frzs b ob u e
  rw[zB (zF q hn)]; exact q
 ·obtain⟨mo,q⟩:=I.base.tbls b ps e
  exact⟨mo,by rw[zB (zF q hn)]; exact q⟩
 ·rw[zB (Ne.symm hL)]; exact I.free
 ·rw[zB (hc x c e)]; exact I.freeC x c e
 ·obtain⟨z1,z2,z3⟩:=I.pin p hm
  exact⟨z1,by rw[zB (hp p hm)]; exact z2,z3⟩
end
def clo:List (Str×NameKind)->List (Str×Addr)->List (Str×Addr)->List (Str×Addr)
 | [],_,acc=>acc
 | (n,k)::r,cells,acc=>clo r cells (if k==.free then (match cells.lookup n with | some c=>(n,c)::acc | none=>acc) else acc)
theorem VF (cells:List (Str×Addr)):∀(names:List (Str×NameKind)) (acc:List (Str×Addr)),(∀y c,acc.lookup y=some c->cells.lookup y=some c)->∀y c,(clo names cells acc).lookup y=some c->cells.lookup y=some c
 | [],acc,h=>h
 | (n,k)::r,acc,h=>by
  refine VF cells r _ fun y c e=>?_
  cases hk:k==NameKind.free with
  | false=>rw[hk] at e; exact h y c e
  | true =>
   rw[hk,if_pos rfl] at e
   cases hc:cells.lookup n with
   | none=>rw[hc] at e; exact h y c e
   | some a =>
    rw[hc] at e
    have e':(((n,a)::acc).lookup y)=some c:=e
    rw[List.lookup_cons] at e'
    cases hy:y==n with
    | true =>
     rw[hy] at e'
     have z:y=n:=by simpa using hy
     subst z
     rw[hc]; exact e'
    | false=>rw[hy] at e'; exact h y c e'
theorem zbd (cells:List (Str×Addr)):∀(names:List (Str×NameKind)) (acc:List (Str×Addr)) (y:Str),(acc.lookup y).isSome=true->((clo names cells acc).lookup y).isSome=true
 | [],_,_,h=>h
 | (n,k)::r,acc,y,h=>by
  refine zbd cells r _ y ?_
  cases hk:k==NameKind.free with
  | false=>exact h
  | true =>
   rw[if_pos rfl]
   cases hc:cells.lookup n with
   | none=>exact h
   | some a =>
    show(((n,a)::acc).lookup y).isSome=true
    rw[List.lookup_cons]
    cases hy:y==n with
    | true=>rfl
    | false=>exact h
theorem zaH (cells:List (Str×Addr)):∀(names:List (Str×NameKind)) (acc:List (Str×Addr)) (y:Str),(y,NameKind.free)∈names->(cells.lookup y).isSome=true->((clo names cells acc).lookup y).isSome=true
 | [],_,_,h,_=>by cases h
 | (n,k)::r,acc,y,h,hs=>by
  rcases List.mem_cons.mp h with e | h
  ·cases e
   refine zbd cells r _ n ?_
   show(((match cells.lookup n with | some c=>(n,c)::acc | none=>acc)).lookup n).isSome=true
   cases hc:cells.lookup n with
   | none=>rw[hc] at hs; cases hs
   | some a =>
    show(((n,a)::acc).lookup n).isSome=true
    rw[List.lookup_cons]
    simp
  ·exact zaH cells r _ y h hs
theorem zec {env:Env}:∀(names:List (Str×NameKind)) (acc:List (Str×Addr)),(∀y,(y,NameKind.free)∈names->(env.cells.lookup y).isSome=true) ->
  (forIn names acc fun(x:Str×NameKind) (cs:List (Str×Addr))=>if (x.2==NameKind.free)=true then do let c <-cellOf env x.1; pure (ForInStep.yield ((x.1,c)::cs)) else pure (ForInStep.yield cs):Sem (List (Str×Addr)))=pure (clo names env.cells acc)
 | [],acc,_=>rfl
 | (n,k)::r,acc,h=>by
  have ih:=fun acc'=>zec (env:=env) r acc' fun y hy=>h y (List.mem_cons_of_mem _ hy)
  rw[List.forIn_cons]
  cases hk:k==NameKind.free with
  | false =>
   show((pure (ForInStep.yield acc):Sem _)>>=_)=_
   rw[pure_bind]
   show(forIn r acc _:Sem _)=_
   rw[ih acc]
   show pure (clo r env.cells acc)=pure (clo r env.cells (if (k==NameKind.free)=true then (match env.cells.lookup n with | some c=>(n,c)::acc | none=>acc) else acc))
   rw[hk]; rfl
  | true =>
   have hkf:k=NameKind.free:=by simpa using hk
   subst hkf
   have hs:=h n List.mem_cons_self
   cases hc:env.cells.lookup n with
   | none=>rw[hc] at hs; cases hs
   | some a =>
    have hcell:cellOf env n=pure a:=by unfold cellOf; rw[hc]
    show((cellOf env n>>=fun c=>(pure (ForInStep.yield ((n,c)::acc)):Sem _))>>=_)=_
    rw[hcell,pure_bind,pure_bind]
    show(forIn r ((n,a)::acc) _:Sem _)=_
    rw[ih]
    show pure (clo r env.cells ((n,a)::acc))=pure (clo r env.cells (match env.cells.lookup n with | some c=>(n,c)::acc | none=>acc))
    rw[hc]
theorem zeX {sc:Scope} {env:Env} (h:∀y,(y,NameKind.free)∈sc.names->(env.cells.lookup y).isSome=true):closureFor sc env=pure (clo sc.names env.cells []):=by
 unfold closureFor
 have:=zec (env:=env) sc.names [] h
 simpa using this
structure tY (osc sc:Scope) (x:Str) (fv:List Str):Prop where
 kind:sc.kind=.function
 nocell:∀y∈sc.names,y.2≠.cell
 names:∀y∈sc.names,y.2=.local->sc.names.lookup y.1=some .local
 hx:sc.names.lookup x=some .local
 fr:∀y∈sc.names,y.2=.free->osc.names.lookup y.1=some .cell\/osc.names.lookup y.1=some .free
 fvs:∀y∈fv,sc.names.lookup y=some .free/\(osc.names.lookup y=some .cell\/osc.names.lookup y=some .free)
 nd:(x::fv).Nodup
abbrev Cx.blk (X:Cx) (sc:Scope) (cl:List (Str×Addr)) (C:Addr) (N:List Str) (s:Shared) (H:Hp) (fp:List Addr):Cx :=
 {X with N:=N,s₀:=s,H₀:=H,env:=compEnvC sc cl C X.env,outer:=X.stack,ex:=fp,fn:=fun _=>false,pn:=[],xe:=fun _ _=>False }
abbrev lcN (X:Cx) (x:Str) (js:List Nat):List Str:=x::js.map fun j=>X.N.getD j ""
abbrev lcS (σ:St) (js:List Nat) (x:Option V):St:=x::js.map fun j=>σ.getD j none
theorem Wh {env:Env}:∀{names:List (Str×NameKind)} {y:Str} {k:NameKind},(names.map fun(n,k)=>if (k==NameKind.free&&env.scope.kind==.function&&env.kindOf n==some .cell) then (n,NameKind.cell) else (n,k)).lookup y=some k->(k=.cell\/k=.free)->(∀z∈names,z.2≠.cell)->(y,NameKind.free)∈names
 | [],_,_,h,_,_=>by simp at h
 | (n,k')::r,y,k,h,hk,hn=>by
  by_cases hc:(k'==NameKind.free&&env.scope.kind==.function&&env.kindOf n==some .cell)=true
  ·have hk':k'=NameKind.free:=by
    rw[Bool.and_eq_true,Bool.and_eq_true] at hc
    simpa using hc.1.1
   subst hk'
   rw[List.map_cons] at h
   cases hy:y==n with
   | true =>
    have z:y=n:=by simpa using hy
    subst z
    exact List.mem_cons_self
   | false =>
    have h':List.lookup y ((if (NameKind.free==NameKind.free&&env.scope.kind==.function&&env.kindOf n==some .cell)=true then (n,NameKind.cell) else (n,NameKind.free))::(r.map fun(n,k)=>if (k==NameKind.free&&env.scope.kind==.function&&env.kindOf n==some .cell) then (n,NameKind.cell) else (n,k)))=some k:=h
    rw[if_pos hc,List.lookup_cons,hy] at h'
    exact List.mem_cons_of_mem _ (Wh h' hk fun z hz=>hn z (List.mem_cons_of_mem _ hz))
  ·have h':List.lookup y ((if (k'==NameKind.free&&env.scope.kind==.function&&env.kindOf n==some .cell)=true then (n,NameKind.cell) else (n,k'))::(r.map fun(n,k)=>if (k==NameKind.free&&env.scope.kind==.function&&env.kindOf n==some .cell) then (n,NameKind.cell) else (n,k)))=some k:=h
   rw[if_neg hc,List.lookup_cons] at h'
   cases hy:y==n with
   | true =>
    rw[hy] at h'
    cases h'
    have z:y=n:=by simpa using hy
    subst z
    rcases hk with e | e
    ·exact absurd e (hn _ List.mem_cons_self)
    ·subst e; exact List.mem_cons_self
   | false =>
    rw[hy] at h'
    exact List.mem_cons_of_mem _ (Wh h' hk fun z hz=>hn z (List.mem_cons_of_mem _ hz))
theorem JZ {env:Env}:∀{names:List (Str×NameKind)} {y:Str},names.lookup y=some .free->(names.map fun(n,k)=>if (k==NameKind.free&&env.scope.kind==.function&&env.kindOf n==some .cell) then (n,NameKind.cell) else (n,k)).lookup y=some .cell\/(names.map fun(n,k)=>if (k==NameKind.free&&env.scope.kind==.function&&env.kindOf n==some .cell) then (n,NameKind.cell) else (n,k)).lookup y=some .free
 | [],_,h=>by simp at h
 | (n,k')::r,y,h=>by
  rw[List.lookup_cons] at h
  rw[List.map_cons]
  cases hy:y==n with
  | true =>
   rw[hy] at h
   cases h
   by_cases hc:(NameKind.free==NameKind.free&&env.scope.kind==.function&&env.kindOf n==some .cell)=true
   ·refine .inl ?_
    show List.lookup y ((if (NameKind.free==NameKind.free&&env.scope.kind==.function&&env.kindOf n==some .cell)=true then (n,NameKind.cell) else (n,NameKind.free))::_)=_
    rw[if_pos hc,List.lookup_cons,hy]
   ·refine .inr ?_
    show List.lookup y ((if (NameKind.free==NameKind.free&&env.scope.kind==.function&&env.kindOf n==some .cell)=true then (n,NameKind.cell) else (n,NameKind.free))::_)=_
    rw[if_neg hc,List.lookup_cons,hy]
  | false =>
   rw[hy] at h
   have ih:=JZ (env:=env) h
   by_cases hc:(k'==NameKind.free&&env.scope.kind==.function&&env.kindOf n==some .cell)=true
   ·show List.lookup y ((if (k'==NameKind.free&&env.scope.kind==.function&&env.kindOf n==some .cell)=true then (n,NameKind.cell) else (n,k'))::_)=_\/List.lookup y ((if (k'==NameKind.free&&env.scope.kind==.function&&env.kindOf n==some .cell)=true then (n,NameKind.cell) else (n,k'))::_)=_
    rw[if_pos hc,List.lookup_cons,hy]
    exact ih
   ·show List.lookup y ((if (k'==NameKind.free&&env.scope.kind==.function&&env.kindOf n==some .cell)=true then (n,NameKind.cell) else (n,k'))::_)=_\/List.lookup y ((if (k'==NameKind.free&&env.scope.kind==.function&&env.kindOf n==some .cell)=true then (n,NameKind.cell) else (n,k'))::_)=_
    rw[if_neg hc,List.lookup_cons,hy]
    exact ih
section
variable {X:Cx} {sc osc:Scope} {x:Str} {js:List Nat}
end
end L2
namespace L2
open PySem PySem.Spec PyProof.Rows
abbrev vd (its:List Value) (n:Nat):Obj:={ cls:=.type "list", data:=.seq its.toArray n }
abbrev Xl (ifs:List Expr) (env:Env):Sem Bool :=
 forIn ifs true fun c r=>if r=true then do let ok <-isTrue c env (eval c env); pure (ForInStep.yield ok) else pure (ForInStep.yield r)
def tLC (wi:TI) (js:List Nat) (tt:TT) (te:TE):TE:=fun σ H Q=>wi σ H fun J H1=>∃W:Nat->Nat->List V->Hp->Prop,(∃m,W 0 m [] H1)/\∀i m ys H,W i m ys H ->
 (J.stop i H/\∀p,H p=none->Q (.ref p) (upd H p (.lst ys))) \/
 (J.go i H/\ys.length<sizeLine/\∀x H',J.yld i H x H'->tt (lcS σ js (some x)) H' fun b H2 =>
  if b=true then te (lcS σ js (some x)) H2 fun v H3=>∃m',m'<m/\W (i+1) m' (ys++[v]) H3 else ∃m',m'<m/\W (i+1) m' ys H2)
section
variable {X:Cx} {sc osc:Scope} {x:Str} {js:List Nat} {elt iter:Expr} {px pos:Pos} {ifs:List Expr} {wi:TI} {tt:TT} {te:TE}
theorem zhz {P:Program} {w:World} {A:Around} {R:Result->Shared->Prop} {st:Shared} {tg it acc} {cenv:Env} (Iv:Nat->Shared->Prop)
  (step:∀k st,Iv k st->wpAny (model P w) A (pyNext it) (fun got s1=>match got with
   | none=>R (.ok .next) s1
   | some v=>wpAny (model P w) A (letOwnedTupleGo tg it v) (fun _ s2=>wpAny (model P w) A (assign tg cenv v) (fun _ s3 =>
     wpAny (model P w) A (Xl ifs cenv) (fun ok s4=>if ok=true then wpAny (model P w) A (eval elt cenv) (fun y s5 =>
       wpAny (model P w) A (call (.builtin "list.append") [acc,y]) (fun _ s6=>∃k',k'<k/\Iv k' s6) (notedBy (model P w) A cenv fun e z=>R (.error e) z) s5) (notedBy (model P w) A cenv fun e z=>R (.error e) z) s4
      else ∃k',k'<k/\Iv k' s4) (notedBy (model P w) A cenv fun e z=>R (.error e) z) s3) (notedBy (model P w) A cenv fun e z=>R (.error e) z) s2) (notedBy (model P w) A cenv fun e z=>R (.error e) z) s1)
   (notedBy (model P w) A cenv fun e z=>R (.error e) z) st) (k0:Nat) (h0:Iv k0 st) :
  codeAny (model P w) A (.compLoop (.ListComp elt [⟨tg,iter,ifs,0⟩] sc pos) 0 it acc cenv) R st:=by
 refine codeAny_loop rfl Iv (fun k st hk=>?_) k0 h0
 show wpAny _ A ((compTurn (.ListComp elt [⟨tg,iter,ifs,0⟩] sc pos) 0 it acc cenv).onRaise (fun e=>do noteFrame e cenv; theTreesLotGoes e)) _ _ st
 refine wpAny_noted ?_
 rw[compTurn_list]
 refine wpAny_bind (wpAny_standAt (wpAny_bind (wpAny_mono (step k st hk) (fun got s1 h1=>?_) fun _ _ z=>z)))
 cases got with
 | none=>exact wpAny_pure h1
 | some v =>
  refine wpAny_bind (wpAny_mono h1 (fun _ s2 h2=>?_) fun _ _ z=>z)
  refine wpAny_bind (wpAny_mono h2 (fun _ s3 h3=>wpAny_bind (wpAny_mono h3 (fun ok s4 h4=>?_) fun _ _ z=>z)) fun _ _ z=>z)
  cases ok with
  | false=>exact wpAny_pure ⟨rfl,h4⟩
  | true=>exact wpAny_bind (wpAny_bind (wpAny_mono h4 (fun y s5 h5=>wpAny_bind (wpAny_mono h5 (fun _ s6 h6=>wpAny_pure (wpAny_pure ⟨rfl,h6⟩)) fun _ _ z=>z)) fun _ _ z=>z))
structure Own (X:Cx) (pins:List (Addr×Obj)) (H:Hp) (a:Addr):Prop where
 free:H a=none
 loc:a≠X.env.locals
 new:X.s₀.heap.objs.size<=a
 cel:∀x c,X.env.cells.lookup x=some c->c≠a
 pin:∀p∈X.pn++pins,p.1≠a
 fs:a∉X.fs
end
structure zcc (osc sc:Scope) (xs:List Str) (fv:List Str):Prop where
 kind:sc.kind=.function
 nocell:∀y∈sc.names,y.2≠.cell
 names:∀y∈sc.names,y.2=.local->sc.names.lookup y.1=some .local
 fr:∀y∈sc.names,y.2=.free->osc.names.lookup y.1=some .cell\/osc.names.lookup y.1=some .free
 fvs:∀y∈fv,sc.names.lookup y=some .free/\(osc.names.lookup y=some .cell\/osc.names.lookup y=some .free)
abbrev lcG (X:Cx) (xs:List Str) (js:List Nat):List Str:=xs++js.map fun j=>X.N.getD j ""
abbrev lcT (σ:St) (js:List Nat) (os:List (Option V)):St:=os++js.map fun j=>σ.getD j none
def ziv (wi:TI) (xs:List Str) (js:List Nat) (g:TG) (tt:TT) (te:TE):TE:=fun σ H Q=>wi σ H fun J H1=>∃W:Nat->Nat->List V->Hp->Prop,(∃m,W 0 m [] H1)/\∀i m ys H,W i m ys H ->
 (J.stop i H/\∀p,H p=none->Q (.ref p) (upd H p (.lst ys))) \/
 (J.go i H/\ys.length<sizeLine/\∀x H',J.yld i H x H'->∀o0:List (Option V),o0.length=xs.length->g x (lcT σ js o0) H' fun σ2 H1=>∃o1,σ2=lcT σ js o1/\o1.length=xs.length/\tt σ2 H1 fun b H2 =>
  if b=true then te σ2 H2 fun v H3=>∃m',m'<m/\W (i+1) m' (ys++[v]) H3 else ∃m',m'<m/\W (i+1) m' ys H2)
section
variable {X:Cx} {sc osc:Scope} {xs:List Str} {js:List Nat}
theorem zhA {pins:List (Addr×Obj)} {σ:St} {H:Hp} {s:Shared} {fp:List Addr} {C:Addr} (I:Inv X pins σ H s) (hosc:X.env.scope=osc) (L:zcc osc sc xs (js.map fun j=>X.N.getD j ""))
  (f2:∀b∈fp,RN X pins H b) (lt:∀b∈fp,b<s.heap.objs.size) (hC:s.heap.objs.size<=C):(X.blk sc (clo sc.names X.env.cells []) C (lcG X xs js) s H fp).Ok where
 mod:=I.ok.mod
 kind:=L.kind
 glob:=I.ok.glob
 blt:=I.ok.blt
 above:=hC
 inj:=fun y z c h1 h2=>I.ok.inj y z c (VF _ _ [] (fun _ _ e=>by simp at e) y c h1) (VF _ _ [] (fun _ _ e=>by simp at e) z c h2)
 has:=fun y hy=>by
  have hy':(relabel sc X.env).names.lookup y=some .cell\/(relabel sc X.env).names.lookup y=some .free:=hy
  have hm:(y,NameKind.free)∈sc.names:=by
   rcases hy' with e | e
   ·exact Wh e (.inl rfl) L.nocell
   ·exact Wh e (.inr rfl) L.nocell
  have ho:X.env.kindOf y=some .cell\/X.env.kindOf y=some .free:=by
   show X.env.scope.names.lookup y=_\/X.env.scope.names.lookup y=_
   rw[hosc]
   exact L.fr _ hm rfl
  obtain⟨c,e⟩:=I.ok.has y ho
  exact Option.isSome_iff_exists.mp (zaH _ _ [] y hm (by rw[e]; rfl))
 cab:=fun y c h=>by cases h
 hd:=I.ok.hd
 frames:=I.ok.frames
 stk:=.inl rfl
 exf:=fun b hb=>⟨Nat.ne_of_lt (Nat.lt_of_lt_of_le (lt b hb) hC),fun y c e=>(f2 b hb).2.2.2.2.1 y c (VF _ _ [] (fun _ _ e=>by simp at e) y c e)⟩
 bs:=I.bs
 bsz:=Nat.le_trans I.ok.bsz I.sz
 noex:=fun b o e hb=>by
  rcases (f2 b hb).2.2.2.1 with z | z
  ·exact I.ok.noex b o e z
  ·exact absurd (Nat.lt_of_lt_of_le (Heap.lt_size (I.ok.bs b o e).1) z) (Nat.lt_irrefl _)
 exfs:=fun b hb hm=>by
  rcases List.mem_cons.mp (I.stkSub b hm) with z | z
  ·exact(f2 b hb).2.1 z
  ·exact(f2 b hb).2.2.1 z
 funs:=I.stack
 frf:=I.stkFree
end
section
variable {X:Cx} {sc osc:Scope} {xs:List Str} {js:List Nat} {tg:Expr} {g:TG} {elt iter:Expr} {px pos:Pos} {ifs:List Expr} {wi:TI} {tt:TT} {te:TE}
theorem zgC {cl:List (Str×Addr)} {C D:Addr} {s₂:Shared} {H₂:Hp} {fp:List Addr} {pl:List (Addr×Obj)} {σ0:St} {H:Hp} {s:Shared} {u:Value} {v:V} {its:List Value} {n:Nat} {o0:List (Option V)} {E:Value->Shared->Prop}
  {Ny:V->Hp->Prop} {Nn:Hp->Prop}
  (hg:PG (X.blk sc cl C (lcG X xs js) s₂ H₂ fp) tg g)
  (I:Inv (X.blk sc cl C (lcG X xs js) s₂ H₂ fp) ((D,vd its n)::pl) (lcT σ0 js o0) H s) (ru:RelV v u)
  (ht:∀(pins:List (Addr×Obj)) (s':Shared) (σ':St) (H':Hp) (Q:Bool->Hp->Prop),Inv (X.blk sc cl C (lcG X xs js) s₂ H₂ fp) pins σ' H' s'->tt σ' H' Q ->
   wpAny (model X.prog X.w) X.A (Xl ifs (compEnvC sc cl C X.env)) (TP (X.blk sc cl C (lcG X xs js) s₂ H₂ fp) pins σ' Q) (fun _ _=>False) s')
  (he:PE (X.blk sc cl C (lcG X xs js) s₂ H₂ fp) elt te)
  (hlen:its.length<sizeLine) (hD0:s₂.heap.objs.size<=D) (hDC:D≠C) (hDc:∀y c,cl.lookup y=some c->c≠D) (hDp:∀p∈pl,p.1≠D)
  (h:g v (lcT σ0 js o0) H fun σ2 H1=>∃o1,σ2=lcT σ0 js o1/\o1.length=xs.length/\tt σ2 H1 fun b H2=>if b=true then te σ2 H2 Ny else Nn H2) :
  wpAny (model X.prog X.w) X.A (assign tg (compEnvC sc cl C X.env) u) (fun _ s2 =>
   wpAny (model X.prog X.w) X.A (Xl ifs (compEnvC sc cl C X.env)) (fun ok s3 =>
    if ok=true then wpAny (model X.prog X.w) X.A (eval elt (compEnvC sc cl C X.env)) (fun y s4 =>
     wpAny (model X.prog X.w) X.A (call (.builtin "list.append") [.ref D,y]) (fun _ s5=>∃z y' H5 o1,o1.length=xs.length/\Ny z H5/\RelV z y'/\Inv (X.blk sc cl C (lcG X xs js) s₂ H₂ fp) ((D,vd (its++[y']) (n+1))::pl) (lcT σ0 js o1) H5 s5) E s4) E s3
    else ∃H5 o1,o1.length=xs.length/\Nn H5/\Inv (X.blk sc cl C (lcG X xs js) s₂ H₂ fp) ((D,vd its n)::pl) (lcT σ0 js o1) H5 s3) E s2) E s:=by
 refine wpAny_mono (hg _ s _ H v u _ I ru h) (fun _ s2 ⟨σ6,H6,I6,o1,e1,l1,h6⟩=>?_) fun _ _ z=>False.elim z
 subst e1
 refine wpAny_mono (ht _ s2 _ _ _ I6 h6) (fun ok s3 ⟨H7,I7,q7⟩=>?_) fun _ _ z=>False.elim z
 cases ok with
 | false =>
  rw[if_neg Bool.false_ne_true] at q7 ⊢
  exact⟨H7,o1,l1,q7,I7⟩
 | true =>
  rw[if_pos rfl] at q7 ⊢
  refine wpAny_mono (he _ s3 _ H7 _ I7 q7) (fun y s4 ⟨z,H8,I8,r8,q8⟩=>?_) fun _ _ z=>False.elim z
  obtain⟨p1,p2,p3,p4,p5⟩:=I8.pin (D,vd its n) (List.mem_append_right _ List.mem_cons_self)
  have p1':s4.heap.get? D=some { cls:=.type "list", data:=.seq its.toArray n }:=p1
  refine call_meets F.slot_list_append ⟨_,p1',rfl⟩ F.entry_list_append (F.args_list_append_2 _ _) (PySem.list_append D its.toArray n y (by rw[List.size_toArray]; omega)) ⟨p1',?_⟩
  have q:=PySem.IsL.update p1' (fun a=>a.push y)
  have sz:((its.toArray.push y).size==its.toArray.size)=false:=by simp
  have e3:(s4.heap.update D (Obj.mapSeq fun a=>a.push y)).get? D=some (vd (its++[y]) (n+1)):=by
   have q':(s4.heap.update D (Obj.mapSeq fun a=>a.push y)).get? D=some { cls:=.type "list", data:=.seq (its.toArray.push y) (if ((its.toArray.push y).size==its.toArray.size)=true then n else n+1) }:=q
   rw[q',sz,if_neg Bool.false_ne_true]
   simp
  have I9:Inv (X.blk sc cl C (lcG X xs js) s₂ H₂ fp) pl (lcT σ0 js o1) H8 s4:=I8.pins_of fun p hp=>I8.pin p (List.mem_append_right _ (List.mem_cons_of_mem _ hp))
  have oth:∀b o,b≠D->s4.heap.get? b=some o->(s4.heap.update D (Obj.mapSeq fun a=>a.push y)).get? b=some o:=fun b o hb e=>(Heap.get?_update_other _ _ (Ne.symm hb)).trans e
  have I10:=I9.turned (t':=s4.toks) (h':=s4.heap.update D (Obj.mapSeq fun a=>a.push y)) (it:=D) oth p2 hDC (.inr hD0) hDc (fun p hp=>hDp p hp)
  refine⟨z,y,H8,o1,l1,q8,r8,I10.pins_of fun p hp=>?_⟩
  rcases List.mem_cons.mp hp with e | e
  ·subst e
   exact⟨e3,p2,p3,p4,fun w hw=>by cases hw⟩
  ·exact I10.pin p (List.mem_append_right _ e)
theorem zcH {use:Option (Value->Sem Unit)} {QQ:Value->Shared->Prop} {Fin:List V->Hp->Prop} {pins:List (Addr×Obj)} {s:Shared} {σ:St} {H:Hp} (hosc:X.env.scope=osc) (L:zcc osc sc xs (js.map fun j=>X.N.getD j "")) (hc:X.calm=true) (hi:PI X tg iter wi) (hg:∀(cl:List (Str×Addr)) (C:Addr) (s₂:Shared) (H₂:Hp) (fp:List Addr),PG (X.blk sc cl C (lcG X xs js) s₂ H₂ fp) tg g) (hjs:∀j∈js,j<X.N.length)
  (ht:∀(cl:List (Str×Addr)) (C:Addr) (s₂:Shared) (H₂:Hp) (fp:List Addr) (pins:List (Addr×Obj)) (s':Shared) (σ':St) (H':Hp) (Q:Bool->Hp->Prop),Inv (X.blk sc cl C (lcG X xs js) s₂ H₂ fp) pins σ' H' s'->tt σ' H' Q ->
   wpAny (model X.prog X.w) X.A (Xl ifs (compEnvC sc cl C X.env)) (TP (X.blk sc cl C (lcG X xs js) s₂ H₂ fp) pins σ' Q) (fun _ _=>False) s')
  (he:∀(cl:List (Str×Addr)) (C:Addr) (s₂:Shared) (H₂:Hp) (fp:List Addr),PE (X.blk sc cl C (lcG X xs js) s₂ H₂ fp) elt te)
  (hs:∀x,foldedSetIterable iter X.env x=pure x) (I:Inv X pins σ H s)
  (h:wi σ H fun J H1=>∃W:Nat->Nat->List V->Hp->Prop,(∃m,W 0 m [] H1)/\∀i m ys H,W i m ys H->(J.stop i H/\Fin ys H) \/
   (J.go i H/\ys.length<sizeLine/\∀x H',J.yld i H x H'->∀o0:List (Option V),o0.length=xs.length->g x (lcT σ js o0) H' fun σ2 H1=>∃o1,σ2=lcT σ js o1/\o1.length=xs.length/\tt σ2 H1 fun b H2 =>
    if b=true then te σ2 H2 fun v H3=>∃m',m'<m/\W (i+1) m' (ys++[v]) H3 else ∃m',m'<m/\W (i+1) m' ys H2))
  (hfin:∀(D C:Addr) (s5:Shared) (H5:Hp) (ys:List V) (its:List Value) (k:Nat) (m5:Str->Option Value),Inv X pins σ H5 s5->Own X pins H5 D->Own X pins H5 C->D≠C->s5.heap.get? D=some (vd its k)->Vals ys its->ys.length<=sizeLine->s5.heap.Ns C m5->Fin ys H5 ->
   compPost (model X.prog X.w) X.A X.xe use QQ (.ref D) C (.ok .next) s5) :
  wpAny (model X.prog X.w) X.A (comprehension (.ListComp elt [⟨tg,iter,ifs,0⟩] sc pos) sc X.env (firstIterPos [⟨tg,iter,ifs,0⟩] pos) (newList []) false (eval iter X.env) use) QQ X.xe s:=by
 have hcl:closureFor sc X.env=pure (clo sc.names X.env.cells []):=zeX fun y hy=>by
  have ho:X.env.kindOf y=some .cell\/X.env.kindOf y=some .free:=by
   show X.env.scope.names.lookup y=_\/X.env.scope.names.lookup y=_
   rw[hosc]
   exact L.fr _ hy rfl
  obtain⟨c,e⟩:=I.ok.has y ho
  rw[e]; rfl
 refine wpAny_comprehension_free (use:=use) rfl hs hcl L.kind L.names (thn (hi pins s σ H _ I h) fun v s1 h1=>thn h1 fun itv s2 h2=>?_)
 obtain⟨it,fp,tn,J,H2,e,I2,T,st2,f2,W,⟨m0,w0⟩,turn⟩:=h2
 subst e
 refine wpAny_newObj_type (wpAny_newFunctionEnv L.nocell (by intro y hy; simp at hy) (fun h₁ hns₁ hsb₁=>?_) L.kind)
 dsimp only at hns₁ hsb₁ ⊢
 generalize hG:s2.heap.push { cls:=.type "list", dict:=none,data:=.seq ([]:List Value).toArray }=G at hns₁ hsb₁ ⊢
 have hGs:G.objs.size=s2.heap.objs.size+1:=by rw[<-hG,Heap.size_push]
 have hCle:s2.heap.objs.size<=G.objs.size:=by rw[hGs]; exact Nat.le_succ _
 have hDC:s2.heap.objs.size≠G.objs.size:=by rw[hGs]; exact Nat.ne_of_lt (Nat.lt_succ_self _)
 have old:∀b o,s2.heap.get? b=some o->h₁.get? b=some o:=fun b o e=>by
  have lt:=Heap.lt_size e
  refine hsb₁.extBut b o (Nat.ne_of_lt (Nat.lt_of_lt_of_le lt hCle)) (Heap.get?_push_of_some _ ?_)
  rw[<-hG]
  exact Heap.get?_push_of_some _ e
 have hacc:h₁.get? s2.heap.objs.size=some (vd [] 0):=by
  refine hsb₁.extBut _ _ hDC (Heap.get?_push_of_some _ ?_)
  rw[<-hG]
  exact Heap.get?_push_size _ rfl
 have lt:∀b∈fp,b<s2.heap.objs.size:=fun b hb=>by
  obtain⟨o,e,_⟩:=T.obj _ _ st2 b hb
  exact Heap.lt_size e
 have clS:∀y c,(clo sc.names X.env.cells []).lookup y=some c->X.env.cells.lookup y=some c:=VF _ _ [] (fun _ _ e=>by simp at e)
 have clLt:∀y c,(clo sc.names X.env.cells []).lookup y=some c->c<s2.heap.objs.size:=fun y c e=>by
  obtain⟨v,o,q,_⟩:=I2.cell y c (clS y c e)
  exact Heap.lt_size q
 have Bok:(X.blk sc (clo sc.names X.env.cells []) G.objs.size (lcG X xs js) s2 H2 fp).Ok:=zhA I2 hosc L f2 lt hCle
 have fresh:∀a,s2.heap.objs.size<=a->H2 a=none:=fun a ha=>I2.hok.fresh ha
 have frs_lt:∀b∈frs X.stack,b<s2.heap.objs.size:=fun b hb=>by
  rcases List.mem_cons.mp (I2.stkSub b hb) with z | z
  ·rw[z]; exact I2.lt
  ·refine Nat.lt_of_not_le fun q=>I2.nofs q z
 have B0:Inv (X.blk sc (clo sc.names X.env.cells []) G.objs.size (lcG X xs js) s2 H2 fp) [(s2.heap.objs.size,vd [] 0)] (lcT σ js (List.replicate xs.length none)) H2 { s2 with heap:=h₁,toks:=s2.toks+([]:List (Str×Value)).length }:=by
  refine⟨Bok,rfl,I2.bare,Un.kept old,⟨_,hns₁,fun i y v e1 e2 e3=>?_⟩,fun y c e=>?_,fresh _ hCle,fun y c e=>I2.freeC y c (clS y c e),fun p hp=>?_,I2.hok.kept old,?_⟩
  ·by_cases hlt:i<xs.length
   ·exfalso
    have e2'':(List.replicate xs.length (none:Option V)++js.map fun j=>σ.getD j none)[i]?=some (some v):=e2
    rw[List.getElem?_append_left (by rw[List.length_replicate]; exact hlt),List.getElem?_replicate,if_pos hlt] at e2''
    cases e2''
   ·have e1':(js.map fun j=>X.N.getD j "")[i-xs.length]?=some y:=by
     have z:(xs++js.map fun j=>X.N.getD j "")[i]?=some y:=e1
     rw[List.getElem?_append_right (by omega)] at z
     exact z
    have e2':(js.map fun j=>σ.getD j none)[i-xs.length]?=some (some v):=by
     have z:(List.replicate xs.length (none:Option V)++js.map fun j=>σ.getD j none)[i]?=some (some v):=e2
     rw[List.getElem?_append_right (by rw[List.length_replicate]; omega),List.length_replicate] at z
     exact z
    have e1s:=e1'
    rw[List.getElem?_map] at e1' e2'
    cases hj:js[i-xs.length]? with
    | none=>rw[hj] at e1'; cases e1'
    | some j =>
     rw[hj] at e1' e2'
     have e4:X.N.getD j ""=y:=Option.some.inj e1'
     have e5:σ.getD j none=some v:=Option.some.inj e2'
     have hjl:=hjs j (List.mem_of_getElem? hj)
     have e6:X.N[j]?=some y:=by
      rw[List.getD_eq_getElem?_getD,List.getElem?_eq_getElem hjl] at e4
      rw[List.getElem?_eq_getElem hjl]
      exact congrArg some e4
     have e7:σ[j]?=some (some v):=by
      rw[List.getD_eq_getElem?_getD] at e5
      cases hq:σ[j]? with
      | none=>rw[hq] at e5; cases e5
      | some w=>rw[hq] at e5; exact congrArg some e5
     obtain⟨hm0,hk⟩:=L.fvs y (List.mem_of_getElem? e1s)
     have hm:(y,NameKind.free)∈sc.names:=PySem.mem_of_lookup hm0
     have hk':X.env.kindOf y=some .cell\/X.env.kindOf y=some .free:=by
      show X.env.scope.names.lookup y=_\/X.env.scope.names.lookup y=_
      rw[hosc]; exact hk
     have hv:Vis X.env.scope y:=by rcases hk' with z | z; exact .inr (.inl z); exact .inr (.inr z)
     obtain⟨m,hn,hl⟩:=I2.loc
     obtain⟨u,r,l⟩:=hl j y v e6 e7 hv
     refine⟨u,r,.inr ?_⟩
     rcases l with ⟨z,_⟩ | ⟨_,c,hc1,hc2⟩
     ·rw[z] at hk'; rcases hk' with q | q<;>cases q
     ·have hs2:((clo sc.names X.env.cells []).lookup y).isSome=true:=zaH _ _ [] y hm (by rw[hc1]; rfl)
      obtain⟨c',hc'⟩:=Option.isSome_iff_exists.mp hs2
      have hcc:c'=c:=by have:=clS y c' hc'; rw[hc1] at this; exact(Option.some.inj this).symm
      subst hcc
      obtain⟨o,ho,hd⟩:=hc2
      exact⟨JZ hm0,c',hc',o,old _ o ho,hd⟩
  ·obtain⟨v,o,q,d⟩:=I2.cell y c (clS y c e)
   exact⟨v,o,old _ o q,d⟩
  ·have e:p=(s2.heap.objs.size,vd [] 0):=by simpa using hp
   subst e
   exact⟨hacc,fresh _ (Nat.le_refl _),hDC,fun z=>Nat.lt_irrefl _ (frs_lt _ z),fun w hw=>by cases hw⟩
  ·show _=(lcG X xs js).length
   simp
 have stat:∀{H':Hp} {pl:List (Addr×Obj)},(∀b∈fp,H' b=none)->(∀p∈pl,p.1=s2.heap.objs.size)->∀b∈fp,RN (X.blk sc (clo sc.names X.env.cells []) G.objs.size (lcG X xs js) s2 H2 fp) pl H' b:=fun hn hp b hb =>
  ⟨hn b hb,(Bok.exf b hb).1,Bok.exfs b hb,.inl hb,(Bok.exf b hb).2,fun p hm=>by
   rw[hp p (by simpa using hm)]
   exact Ne.symm (Nat.ne_of_lt (lt b hb))⟩
 have loop:∀s3:Shared,s3={ s2 with heap:=h₁,toks:=s2.toks+([]:List (Str×Value)).length } ->
   codeAny (model X.prog X.w) X.A (.compLoop (.ListComp elt [⟨tg,iter,ifs,0⟩] sc pos) 0 (.ref it) (.ref s2.heap.objs.size) (compEnvC sc (clo sc.names X.env.cells []) G.objs.size X.env))
    (compPost (model X.prog X.w) X.A X.xe use QQ (.ref s2.heap.objs.size) G.objs.size) s3:=by
  rintro s3 rfl
  refine zhz (fun n s'=>∃i ys its k o0 H',o0.length=xs.length/\Inv (X.blk sc (clo sc.names X.env.cells []) G.objs.size (lcG X xs js) s2 H2 fp) [(s2.heap.objs.size,vd its k)] (lcT σ js o0) H' s'/\tn i s'.heap/\(∀b∈fp,H' b=none)/\Vals ys its/\ys.length<=sizeLine/\W i n ys H') ?_ m0
   ⟨0,[],[],0,List.replicate xs.length none,H2,List.length_replicate,B0,T.keep _ _ _ st2 fun b _ o e=>old b o e,fun b hb=>(f2 b hb).1,.nil,Nat.zero_le _,w0⟩
  rintro n s4 ⟨i,ys,its,k,o0,H4,lo0,I4,st4,fr4,vs4,z4,w4⟩
  have one:∀p∈[(s2.heap.objs.size,vd its k)],p.1=s2.heap.objs.size:=fun p hp=>by
   have e:p=(s2.heap.objs.size,vd its k):=by simpa using hp
   rw[e]
  rcases turn i n ys H4 w4 with ⟨stop,qn⟩ | ⟨go,zl,step⟩
  ·refine thn (T.done (X.blk sc (clo sc.names X.env.cells []) G.objs.size (lcG X xs js) s2 H2 fp) rfl rfl rfl hc i _ s4 _ H4 _ I4 (stat fr4 one) st4 stop) fun r s5 ⟨hr,I5⟩=>?_
   subst hr
   obtain⟨m5,hn5,_⟩:=I5.loc
   obtain⟨p1,p2,p3,p4,p5⟩:=I5.pin (s2.heap.objs.size,vd its k) (by simp)
   have ch:∀b∈fp,(b∈X.ex\/X.s₀.heap.objs.size<=b)/\b≠X.env.locals/\(∀x c,X.env.cells.lookup x=some c->c≠b)/\∀p∈X.pn++pins,p.1≠b:=fun b hb =>
    ⟨(f2 b hb).2.2.2.1,(f2 b hb).2.1,(f2 b hb).2.2.2.2.1,(f2 b hb).2.2.2.2.2⟩
   have J1:Inv X pins σ H4 s5:=I2.call' I5.os I5.base I5.hok I5.bare ch
   have ltp:∀p∈X.pn++pins,p.1<s2.heap.objs.size:=fun p hp=>Heap.lt_size (I2.pin p hp).1
   have ltc:∀y c,X.env.cells.lookup y=some c->c<s2.heap.objs.size:=fun y c e=>by
    obtain⟨v,o,q,_⟩:=I2.cell y c e
    exact Heap.lt_size q
   have s0:X.s₀.heap.objs.size<=s2.heap.objs.size:=I2.sz
   have own:∀a,s2.heap.objs.size<=a->H4 a=none->Own X pins H4 a:=fun a ha hn=>⟨hn,Ne.symm (Nat.ne_of_lt (Nat.lt_of_lt_of_le I2.lt ha)),Nat.le_trans s0 ha,fun y c e=>Nat.ne_of_lt (Nat.lt_of_lt_of_le (ltc y c e) ha),
    fun p hp=>Nat.ne_of_lt (Nat.lt_of_lt_of_le (ltp p hp) ha),I2.nofs ha⟩
   exact hfin _ _ s5 H4 ys its k m5 J1 (own _ (Nat.le_refl _) p2) (own _ hCle I5.free) hDC p1 vs4 z4 hn5 qn
  ·refine thn (T.item (X.blk sc (clo sc.names X.env.cells []) G.objs.size (lcG X xs js) s2 H2 fp) rfl rfl rfl hc i _ s4 _ H4 _ I4 (stat fr4 one) st4 go) fun r s5 ⟨u,hr,h5⟩=>?_
   subst hr
   refine wpAny_mono h5 (fun _ s5' ⟨v,H6,I6,r6,y6,st6,fr6⟩=>?_) fun _ _ z=>z
   have I7:=I6.pinned (stat fr6 one) (T.obj _ _ st6)
   have ndis:∀p∈TX fp s5'.heap,p.1≠s2.heap.objs.size:=fun p hp=>Nat.ne_of_lt (lt _ (za7 hp).1)
   have lenE:=vs4.length
   have back:∀{its':List Value} {k':Nat} {H7:Hp} {s7:Shared} {ys':List V} {m':Nat} {o1:List (Option V)},o1.length=xs.length->Inv (X.blk sc (clo sc.names X.env.cells []) G.objs.size (lcG X xs js) s2 H2 fp) ((s2.heap.objs.size,vd its' k')::TX fp s5'.heap) (lcT σ js o1) H7 s7 ->
     Vals ys' its'->ys'.length<=sizeLine->m'<n->W (i+1) m' ys' H7->∃m,m<n/\∃i ys its k o0 H',o0.length=xs.length/\Inv (X.blk sc (clo sc.names X.env.cells []) G.objs.size (lcG X xs js) s2 H2 fp) [(s2.heap.objs.size,vd its k)] (lcT σ js o0) H' s7/\tn i s7.heap/\(∀b∈fp,H' b=none)/\Vals ys its/\ys.length<=sizeLine/\W i m ys H':=by
    intro its' k' H7 s7 ys' m' o1 l1 J vs' z' hm w'
    refine⟨m',hm,i+1,ys',its',k',o1,H7,l1,J.pins_of fun p hp=>J.pin p (List.mem_append_right _ (by simp at hp; simp[hp])),?_,?_,vs',z',w'⟩
    ·exact T.keep _ _ _ st6 fun b hb o e=>(J.pin (b,o) (List.mem_append_right _ (List.mem_cons_of_mem _ (Us hb e)))).1
    ·intro b hb
     obtain⟨o,e,_⟩:=T.obj _ _ st6 b hb
     exact(J.pin (b,o) (List.mem_append_right _ (List.mem_cons_of_mem _ (Us hb e)))).2.1
   refine wpAny_mono (zgC (X:=X) (sc:=sc) (xs:=xs) (js:=js) (tg:=tg) (g:=g) (elt:=elt) (ifs:=ifs) (tt:=tt) (te:=te) (D:=s2.heap.objs.size) (its:=its) (n:=k) (pl:=TX fp s5'.heap)
    (hg _ _ _ _ _) I7 r6 (ht _ _ _ _ _) (he _ _ _ _ _) (by omega) (Nat.le_refl _) hDC (fun y c e=>Nat.ne_of_lt (clLt y c e)) ndis (step v H6 y6 o0 lo0)) (fun _ s6 h6=>?_) fun _ _ z=>z
   refine wpAny_mono h6 (fun ok s7 h7=>?_) fun _ _ z=>z
   cases ok with
   | false =>
    rw[if_neg Bool.false_ne_true] at h7 ⊢
    obtain⟨H7,o1,l1,⟨m',hm,w'⟩,J⟩:=h7
    exact back l1 J vs4 z4 hm w'
   | true =>
    rw[if_pos rfl] at h7 ⊢
    refine wpAny_mono h7 (fun y s8 h8=>?_) fun _ _ z=>z
    refine wpAny_mono h8 (fun _ s9 h9=>?_) fun _ _ z=>z
    obtain⟨z,y',H9,o1,l1,⟨m',hm,w'⟩,rz,J⟩:=h9
    refine back l1 J (vs4.append (.cons rz .nil)) ?_ hm w'
    rw[List.length_append,List.length_singleton]
    omega
 exact codeAny_compStart_list (loop _ rfl) (T.self _ 0 _ _ _ (T.keep _ _ _ st2 fun b _ o e=>old b o e) (loop _ rfl))
end
section
variable {X:Cx} {sc osc:Scope} {x:Str} {js:List Nat} {elt iter:Expr} {px pos:Pos} {ifs:List Expr} {wi:TI} {tt:TT} {te:TE}
theorem zed {use:Option (Value->Sem Unit)} {QQ:Value->Shared->Prop} {Fin:List V->Hp->Prop} {pins:List (Addr×Obj)} {s:Shared} {σ:St} {H:Hp} (hosc:X.env.scope=osc) (L:tY osc sc x (js.map fun j=>X.N.getD j "")) (hc:X.calm=true) (hi:PI X (.Name x px) iter wi) (hjs:∀j∈js,j<X.N.length)
  (ht:∀(cl:List (Str×Addr)) (C:Addr) (s₂:Shared) (H₂:Hp) (fp:List Addr) (pins:List (Addr×Obj)) (s':Shared) (σ':St) (H':Hp) (Q:Bool->Hp->Prop),Inv (X.blk sc cl C (lcN X x js) s₂ H₂ fp) pins σ' H' s'->tt σ' H' Q ->
   wpAny (model X.prog X.w) X.A (Xl ifs (compEnvC sc cl C X.env)) (TP (X.blk sc cl C (lcN X x js) s₂ H₂ fp) pins σ' Q) (fun _ _=>False) s')
  (he:∀(cl:List (Str×Addr)) (C:Addr) (s₂:Shared) (H₂:Hp) (fp:List Addr),PE (X.blk sc cl C (lcN X x js) s₂ H₂ fp) elt te)
  (hs:∀x,foldedSetIterable iter X.env x=pure x) (I:Inv X pins σ H s)
  (h:wi σ H fun J H1=>∃W:Nat->Nat->List V->Hp->Prop,(∃m,W 0 m [] H1)/\∀i m ys H,W i m ys H->(J.stop i H/\Fin ys H) \/
   (J.go i H/\ys.length<sizeLine/\∀x H',J.yld i H x H'->tt (lcS σ js (some x)) H' fun b H2 =>
    if b=true then te (lcS σ js (some x)) H2 fun v H3=>∃m',m'<m/\W (i+1) m' (ys++[v]) H3 else ∃m',m'<m/\W (i+1) m' ys H2))
  (hfin:∀(D C:Addr) (s5:Shared) (H5:Hp) (ys:List V) (its:List Value) (k:Nat) (m5:Str->Option Value),Inv X pins σ H5 s5->Own X pins H5 D->Own X pins H5 C->D≠C->s5.heap.get? D=some (vd its k)->Vals ys its->ys.length<=sizeLine->s5.heap.Ns C m5->Fin ys H5 ->
   compPost (model X.prog X.w) X.A X.xe use QQ (.ref D) C (.ok .next) s5) :
  wpAny (model X.prog X.w) X.A (comprehension (.ListComp elt [⟨.Name x px,iter,ifs,0⟩] sc pos) sc X.env (firstIterPos [⟨.Name x px,iter,ifs,0⟩] pos) (newList []) false (eval iter X.env) use) QQ X.xe s:=by
 have e:(fun(J:It) (H1:Hp)=>∃W:Nat->Nat->List V->Hp->Prop,(∃m,W 0 m [] H1)/\∀i m ys H,W i m ys H->(J.stop i H/\Fin ys H) \/
   (J.go i H/\ys.length<sizeLine/\∀x H',J.yld i H x H'->tt (lcS σ js (some x)) H' fun b H2 =>
    if b=true then te (lcS σ js (some x)) H2 fun v H3=>∃m',m'<m/\W (i+1) m' (ys++[v]) H3 else ∃m',m'<m/\W (i+1) m' ys H2)) =
   (fun(J:It) (H1:Hp)=>∃W:Nat->Nat->List V->Hp->Prop,(∃m,W 0 m [] H1)/\∀i m ys H,W i m ys H->(J.stop i H/\Fin ys H) \/
   (J.go i H/\ys.length<sizeLine/\∀y H',J.yld i H y H'->∀o0:List (Option V),o0.length=[x].length->Wf 0 y (lcT σ js o0) H' fun σ2 H1=>∃o1,σ2=lcT σ js o1/\o1.length=[x].length/\tt σ2 H1 fun b H2 =>
    if b=true then te σ2 H2 fun v H3=>∃m',m'<m/\W (i+1) m' (ys++[v]) H3 else ∃m',m'<m/\W (i+1) m' ys H2)):=by
  funext J H1
  refine propext ⟨fun⟨W,w0,w1⟩=>⟨W,w0,fun i m ys H hw=>?_⟩,fun⟨W,w0,w1⟩=>⟨W,w0,fun i m ys H hw=>?_⟩⟩
  ·rcases w1 i m ys H hw with a | ⟨a,b,c⟩
   ·exact .inl a
   ·refine .inr ⟨a,b,fun y H' hy o0 ho=>?_⟩
    match o0,ho with
    | [o],_=>exact⟨[some y],rfl,rfl,c y H' hy⟩
  ·rcases w1 i m ys H hw with a | ⟨a,b,c⟩
   ·exact .inl a
   ·refine .inr ⟨a,b,fun y H' hy=>?_⟩
    obtain⟨o1,e1,e2,e3⟩:=c y H' hy [none] rfl
    exact e3
 rw[e] at h
 exact zcH (xs:=[x]) (g:=Wf 0) hosc ⟨L.kind,L.nocell,L.names,L.fr,L.fvs⟩ hc hi (fun cl C s₂ H₂ fp=>yD (X:=X.blk sc cl C (lcG X [x] js) s₂ H₂ fp) L.nd rfl (.inl (lookup_relabel_local L.hx)) (.inr (lookup_relabel_local L.hx))) hjs ht he hs I h hfin
theorem zfJ (hosc:X.env.scope=osc) (L:tY osc sc x (js.map fun j=>X.N.getD j "")) (hc:X.calm=true) (hi:PI X (.Name x px) iter wi) (hjs:∀j∈js,j<X.N.length)
  (ht:∀(cl:List (Str×Addr)) (C:Addr) (s₂:Shared) (H₂:Hp) (fp:List Addr) (pins:List (Addr×Obj)) (s':Shared) (σ':St) (H':Hp) (Q:Bool->Hp->Prop),Inv (X.blk sc cl C (lcN X x js) s₂ H₂ fp) pins σ' H' s'->tt σ' H' Q ->
   wpAny (model X.prog X.w) X.A (Xl ifs (compEnvC sc cl C X.env)) (TP (X.blk sc cl C (lcN X x js) s₂ H₂ fp) pins σ' Q) (fun _ _=>False) s')
  (he:∀(cl:List (Str×Addr)) (C:Addr) (s₂:Shared) (H₂:Hp) (fp:List Addr),PE (X.blk sc cl C (lcN X x js) s₂ H₂ fp) elt te)
  (hs:∀x,foldedSetIterable iter X.env x=pure x:=by intro _; rfl) :
  PE X (.ListComp elt [⟨.Name x px,iter,ifs,0⟩] sc pos) (tLC wi js tt te):=by
 intro pins s σ H Q I h
 rw[eval_ListComp]
 refine zed (use:=none) (Fin:=fun ys H=>∀p,H p=none->Q (.ref p) (upd H p (.lst ys))) hosc L hc hi hjs ht he hs I h fun D C s5 H5 ys its k m5 J oD oC hDC p1 vs z hn fin=>?_
 refine⟨m5,hn,fun h' hsb=>?_⟩
 have J2:Inv X pins σ H5 { s5 with heap:=h',toks:=s5.toks }:=J.turned (it:=C) (fun b o hb e=>hsb.extBut b o hb e) oC.free oC.loc (.inr oC.new) oC.cel oC.pin
 have p1':h'.get? D=some (vd its k):=hsb.extBut _ _ hDC p1
 have J3:Inv X pins σ (upd H5 D (.lst ys)) { s5 with heap:=h',toks:=s5.toks }:=J2.track oD.free oD.loc oD.new oD.cel oD.pin ⟨z,its,k,vs,p1'⟩
 exact⟨.ref D,_,J3,rfl,fin D oD.free⟩
def sLC (i:Nat) (wi:TI) (js:List Nat) (tt:TT) (te:TE):TS:=fun D σ H=>tLC wi js tt te σ H fun v H1=>D.nx (σ.set i (some v)) H1
theorem zcI {i:Nat} {y:Str} {py spos:Pos} (hN:X.N.Nodup) (hy:X.N[i]?=some y) (hl:Loc X.env.scope y) (hf:X.fn y=true\/X.env.scope.names.lookup y=some .local)
  (hosc:X.env.scope=osc) (L:tY osc sc x (js.map fun j=>X.N.getD j "")) (hc:X.calm=true) (hi:PI X (.Name x px) iter wi) (hjs:∀j∈js,j<X.N.length)
  (ht:∀(cl:List (Str×Addr)) (C:Addr) (s₂:Shared) (H₂:Hp) (fp:List Addr) (pins:List (Addr×Obj)) (s':Shared) (σ':St) (H':Hp) (Q:Bool->Hp->Prop),Inv (X.blk sc cl C (lcN X x js) s₂ H₂ fp) pins σ' H' s'->tt σ' H' Q ->
   wpAny (model X.prog X.w) X.A (Xl ifs (compEnvC sc cl C X.env)) (TP (X.blk sc cl C (lcN X x js) s₂ H₂ fp) pins σ' Q) (fun _ _=>False) s')
  (he:∀(cl:List (Str×Addr)) (C:Addr) (s₂:Shared) (H₂:Hp) (fp:List Addr),PE (X.blk sc cl C (lcN X x js) s₂ H₂ fp) elt te)
  (hsw:swapsWith (.ListComp elt [⟨.Name x px,iter,ifs,0⟩] sc pos) (some (.Name y py)) spos.line X.env=pure true) (hs:∀x,foldedSetIterable iter X.env x=pure x:=by intro _; rfl) :
  PS X (.Assign [.Name y py] (.ListComp elt [⟨.Name x px,iter,ifs,0⟩] sc pos) spos) (sLC i wi js tt te):=by
 intro pins s σ H D I h
 rw[exec_Assign_Name_used _ _ _ _ hsw]
 refine wpAny_bind (wpAny_standAt (wpAny_bind ?_))
 show wpAny _ _ (do let _ <-comprehension (.ListComp elt [⟨.Name x px,iter,ifs,0⟩] sc pos) sc X.env _ (newList []) false (eval iter X.env) (some (assign (.Name y py) X.env))) _ _ s
 have pg:=yD (X:=X) (i:=i) (x:=y) (pos:=py) hN hy hl hf
 refine wpAny_bind (wpAny_mono (zed (use:=some (assign (.Name y py) X.env)) (QQ:=fun _ z=>SP X pins D .next z) (Fin:=fun ys H=>∀p,H p=none->D.nx (σ.set i (some (.ref p))) (upd H p (.lst ys))) hosc L hc hi hjs ht he hs I h fun A C s5 H5 ys its k m5 J oD oC hDC p1 vs z hn fin=>?_) (fun _ z hq=>wpAny_pure (wpAny_pure hq)) fun _ _ e=>e)
 have J1:Inv X pins σ (upd H5 A (.lst ys)) s5:=J.track oD.free oD.loc oD.new oD.cel oD.pin ⟨z,its,k,vs,p1⟩
 obtain⟨oc,es,ep,hC,hd,hr⟩:=hn
 have nocell:∀v,oc.data≠.cell v:=fun v q=>by rw[hd] at q; cases q
 have hCA:C≠A:=Ne.symm hDC
 have fC:(upd H5 A (.lst ys)) C=none:=by rw[zB hCA]; exact oC.free
 have J2:Inv X (pins++[(C,oc)]) σ (upd H5 A (.lst ys)) s5:=J1.pins_of fun p hp=>(List.mem_append.mp hp).elim (fun q=>J1.pin p (List.mem_append_right _ q)) fun q=>by
  have e:p=(C,oc):=by simpa using q
  subst e
  exact⟨hC,fC,oC.loc,oC.fs,nocell⟩
 refine wpAny_mono (pg _ s5 σ _ (.ref A) (.ref A) (fun σ6 H6=>σ6=σ.set i (some (.ref A))/\H6=upd H5 A (.lst ys)) J2 rfl ⟨rfl,rfl⟩) (fun _ s6 ⟨σ6,H6,I6,e1,e2⟩=>?_) fun _ _ e=>e
 subst e1 e2
 obtain⟨c1,c2,_⟩:=I6.pin (C,oc) (List.mem_append_right _ (List.mem_append_right _ (by simp)))
 refine⟨m5,⟨oc,es,ep,c1,hd,hr⟩,fun h' hsb=>?_⟩
 have J3:Inv X pins (σ.set i (some (.ref A))) (upd H5 A (.lst ys)) s6:=I6.pins_of fun p hp=>I6.pin p (List.mem_append_right _ (List.mem_append_left _ hp))
 have J4:Inv X pins (σ.set i (some (.ref A))) (upd H5 A (.lst ys)) { s6 with heap:=h',toks:=s6.toks }:=J3.turned (it:=C) (fun b o hb e=>hsb.extBut b o hb e) c2 oC.loc (.inr oC.new) oC.cel oC.pin
 exact⟨_,_,J4,fin A oD.free⟩
end
end L2
namespace L2
open PySem PySem.Spec PyProof.Rows
section
variable {X:Cx}
def Ua:TT:=fun _ H Q=>Q true H
theorem Zz {sc osc:Scope} {x:Str} {js:List Nat} {elt iter:Expr} {px pos:Pos} {wi:TI} {te:TE} (hosc:X.env.scope=osc) (L:tY osc sc x (js.map fun j=>X.N.getD j "")) (hc:X.calm=true) (hi:PI X (.Name x px) iter wi) (hjs:∀j∈js,j<X.N.length)
  (he:∀(cl:List (Str×Addr)) (C:Addr) (s₂:Shared) (H₂:Hp) (fp:List Addr),PE (X.blk sc cl C (lcN X x js) s₂ H₂ fp) elt te)
  (hs:∀x,foldedSetIterable iter X.env x=pure x:=by intro _; rfl) :
  PE X (.ListComp elt [⟨.Name x px,iter,[],0⟩] sc pos) (tLC wi js Ua te) :=
 zfJ hosc L hc hi hjs (fun cl C s₂ H₂ fp pins s' σ' H' Q I h=>wpAny_pure ⟨H',I,h⟩) he hs
theorem ziw {sc osc:Scope} {x:Str} {js:List Nat} {elt iter c:Expr} {px pos:Pos} {wi:TI} {te:TE} {tt:TT} (hosc:X.env.scope=osc) (L:tY osc sc x (js.map fun j=>X.N.getD j "")) (hc:X.calm=true) (hi:PI X (.Name x px) iter wi) (hjs:∀j∈js,j<X.N.length)
  (ht:∀(cl:List (Str×Addr)) (C:Addr) (s₂:Shared) (H₂:Hp) (fp:List Addr),PT (X.blk sc cl C (lcN X x js) s₂ H₂ fp) c tt)
  (he:∀(cl:List (Str×Addr)) (C:Addr) (s₂:Shared) (H₂:Hp) (fp:List Addr),PE (X.blk sc cl C (lcN X x js) s₂ H₂ fp) elt te)
  (hs:∀x,foldedSetIterable iter X.env x=pure x:=by intro _; rfl) :
  PE X (.ListComp elt [⟨.Name x px,iter,[c],0⟩] sc pos) (tLC wi js tt te) :=
 zfJ hosc L hc hi hjs (fun cl C s₂ H₂ fp pins s' σ' H' Q I h=>wpAny_tests_one (ht cl C s₂ H₂ fp pins s' σ' H' Q I h)) he hs
theorem zaI {K:PySem.W.Frag} {a:Addr} {xs:List V} {σ:St} {js:List Nat} {tt:TT} {te:TE} {H:Hp} {Qf:Addr->Hp->List V->Prop} (Pv:Nat->List V->Hp->Prop) (h0:Pv 0 [] H) (hz:xs.length<=sizeLine)
  (hl:∀i ys H,i<=xs.length->Pv i ys H->SqL K H a xs/\ys.length<=i)
  (hs:∀i x ys H,xs[i]?=some x->Pv i ys H->tt (lcS σ js (some x)) H fun b H2=>if b=true then te (lcS σ js (some x)) H2 fun v H3=>Pv (i+1) (ys++[v]) H3 else Pv (i+1) ys H2)
  (mt:∀ σ H Q Q',(∀b H1,Q b H1->Q' b H1)->tt σ H Q->tt σ H Q') (me:∀ σ H Q Q',(∀v H1,Q v H1->Q' v H1)->te σ H Q->te σ H Q')
  (hd:∀ys H p,Pv xs.length ys H->H p=none->Qf p H ys) :
  ∃W:Nat->Nat->List V->Hp->Prop,(∃m,W 0 m [] H)/\∀i m ys H,W i m ys H ->
   ((Itl K a).stop i H/\∀p,H p=none->Qf p H ys) \/
   ((Itl K a).go i H/\ys.length<sizeLine/\∀x H',(Itl K a).yld i H x H'->tt (lcS σ js (some x)) H' fun b H2 =>
    if b=true then te (lcS σ js (some x)) H2 fun v H3=>∃m',m'<m/\W (i+1) m' (ys++[v]) H3 else ∃m',m'<m/\W (i+1) m' ys H2):=by
 refine⟨fun i m ys H=>m=xs.length-i/\i<=xs.length/\Pv i ys H,⟨xs.length,by simp,Nat.zero_le _,h0⟩,?_⟩
 rintro i m ys H ⟨rfl,hi,p⟩
 obtain⟨q,hy⟩:=hl i ys H hi p
 by_cases hlt:i<xs.length
 ·refine .inr ⟨⟨xs,xs[i],q,by simp[hlt]⟩,by omega,fun x H' y=>?_⟩
  obtain⟨e,y⟩:=y
  subst e
  refine mt _ _ _ _ (fun b H2 h2=>?_) (hs i x ys _ (y xs q) p)
  cases b with
  | true =>
   rw[if_pos rfl] at h2 ⊢
   exact me _ _ _ _ (fun v H3 h3=>⟨_,by omega,rfl,hlt,h3⟩) h2
  | false =>
   rw[if_neg Bool.false_ne_true] at h2 ⊢
   exact⟨_,by omega,rfl,hlt,h2⟩
 ·have e:i=xs.length:=by omega
  subst e
  exact .inl ⟨⟨xs,q,Nat.le_refl _⟩,fun pp hp=>hd ys H pp p hp⟩
theorem zfK {K:PySem.W.Frag} {a:Addr} {xs:List V} {σ:St} {js:List Nat} {tt:TT} {te:TE} {H:Hp} {Qf:Addr->Hp->List V->Prop} (Pv:Nat->List V->Hp->Prop) (h0:Pv 0 [] H) (hz:xs.length<=sizeLine)
  (hl:∀i ys H,i<=xs.length->Pv i ys H->SqT K H a xs/\ys.length<=i)
  (hs:∀i x ys H,xs[i]?=some x->Pv i ys H->tt (lcS σ js (some x)) H fun b H2=>if b=true then te (lcS σ js (some x)) H2 fun v H3=>Pv (i+1) (ys++[v]) H3 else Pv (i+1) ys H2)
  (mt:∀ σ H Q Q',(∀b H1,Q b H1->Q' b H1)->tt σ H Q->tt σ H Q') (me:∀ σ H Q Q',(∀v H1,Q v H1->Q' v H1)->te σ H Q->te σ H Q')
  (hd:∀ys H p,Pv xs.length ys H->H p=none->Qf p H ys) :
  ∃W:Nat->Nat->List V->Hp->Prop,(∃m,W 0 m [] H)/\∀i m ys H,W i m ys H ->
   ((Itt K a).stop i H/\∀p,H p=none->Qf p H ys) \/
   ((Itt K a).go i H/\ys.length<sizeLine/\∀x H',(Itt K a).yld i H x H'->tt (lcS σ js (some x)) H' fun b H2 =>
    if b=true then te (lcS σ js (some x)) H2 fun v H3=>∃m',m'<m/\W (i+1) m' (ys++[v]) H3 else ∃m',m'<m/\W (i+1) m' ys H2):=by
 refine⟨fun i m ys H=>m=xs.length-i/\i<=xs.length/\Pv i ys H,⟨xs.length,by simp,Nat.zero_le _,h0⟩,?_⟩
 rintro i m ys H ⟨rfl,hi,p⟩
 obtain⟨q,hy⟩:=hl i ys H hi p
 by_cases hlt:i<xs.length
 ·refine .inr ⟨⟨xs,xs[i],q,by simp[hlt]⟩,by omega,fun x H' y=>?_⟩
  obtain⟨e,y⟩:=y
  subst e
  refine mt _ _ _ _ (fun b H2 h2=>?_) (hs i x ys _ (y xs q) p)
  cases b with
  | true =>
   rw[if_pos rfl] at h2 ⊢
   exact me _ _ _ _ (fun v H3 h3=>⟨_,by omega,rfl,hlt,h3⟩) h2
  | false =>
   rw[if_neg Bool.false_ne_true] at h2 ⊢
   exact⟨_,by omega,rfl,hlt,h2⟩
 ·have e:i=xs.length:=by omega
  subst e
  exact .inl ⟨⟨xs,q,Nat.le_refl _⟩,fun pp hp=>hd ys H pp p hp⟩
theorem J0 {x:V}:∀{xs:List V} {us:List Value},Vals xs us->xs.all wA=true->∀{j:Nat},xs.findIdx? (fun y=>eqV y x)=some j ->
  ∃hj:j<us.length,eqU x us[j]=true/\∀m (hm:m<us.length),m<j->eqU x us[m]=false
 | _,_,.nil,_,j,h=>by simp at h
 | y::xs,u::us,.cons r t,f,j,h=>by
  rw[List.all_cons,Bool.and_eq_true] at f
  rw[List.findIdx?_cons] at h
  by_cases hy:eqV y x=true
  ·rw[if_pos hy] at h
   cases h
   refine⟨by simp,?_,fun m hm hlt=>absurd hlt (Nat.not_lt_zero _)⟩
   show eqU x u=true
   rw[JW r f.1]; exact hy
  ·rw[if_neg hy] at h
   cases hq:xs.findIdx? (fun y=>eqV y x) with
   | none=>rw[hq] at h; cases h
   | some k =>
    rw[hq] at h
    have e:k+1=j:=Option.some.inj h
    subst e
    obtain⟨hk,h1,h2⟩:=J0 t f.2 hq
    refine⟨by rw[List.length_cons]; omega,h1,fun m hm hlt=>?_⟩
    cases m with
    | zero =>
     show eqU x u=false
     rw[JW r f.1]; exact Bool.eq_false_iff.mpr hy
    | succ m=>exact h2 m (by rw[List.length_cons] at hm; omega) (by omega)
def zfL (K:PySem.W.Frag):V->List V->Hp->VK->Prop:=fun x vs H Q=>∃l xs y j,x=.ref l/\vs=[y]/\SqL K H l xs/\wA y=true/\xs.all wA=true/\xs.findIdx? (fun z=>eqV z y)=some j/\Q (.int (j:Nat)) H
theorem T3:MtM X "list.index" (zfL X.K):=by
 intro pins s σ H x vs v us Q I rx rv h
 obtain⟨l,xs,y,j,rfl,rfl,hq,fy,fs,hj,q⟩:=h
 cases rx
 obtain⟨u,rfl,ru⟩:=rv.one
 obtain⟨its,r,⟨o,n,e,hc,hd,hdat⟩,hz⟩:=I.list hq
 obtain⟨cls,dd,dt,sl⟩:=o
 have hc':cls=.type "list" := hc
 have hdat':dt=.seq its.toArray n:=hdat
 subst hc' hdat'
 obtain⟨h1,h2,h3⟩:=J0 r fs hj
 have hl:=r.length
 have hn:=VB
 refine call_meets F.slot_list_index ⟨_,e,rfl⟩ F.entry_list_index (F.args_list_index_2 _ _) (SeqAt.list_indexAt l its.toArray n dd sl u (eqU y) j (by simpa using h1) (by omega) (by simpa using h2) (fun m hm hlt=>by simpa using h3 m (by simpa using hm) hlt)) ⟨e,fun w hw=>WY ru fy r fs w (by simpa using hw),?_⟩
 exact⟨.int (j:Nat),H,I.tok _,⟨_,rfl⟩,q⟩
def zhB:V->List V->Hp->VK->Prop:=fun x vs H Q=>∃l xs i y,x=.ref l/\vs=[.int i,y]/\H l=some (.lst xs)/\0<=i/\i<=(xs.length:Int)/\xs.length<sizeLine/\Q .non (upd H l (.lst (xs.take i.toNat++y::xs.drop i.toNat)))
theorem zeY {A:Around} {s:Shared} {P:Program} {w:World} {E:Value->Shared->Prop} {Q:Value->Shared->Prop} {l:Addr} {its:List Value} {n:Nat} {i:Int} {t:Tok} {u:Value} (e:s.heap.get? l=some { cls:=.type "list", data:=.seq its.toArray n }) (h0:0<=i) (h1:i<=(its.length:Int)) (hz:its.length<=sizeLine)
  (h:∀f:Array Value->Array Value,f its.toArray=(its.take i.toNat++u::its.drop i.toNat).toArray->Q .none { s with heap:=s.heap.update l (Obj.mapSeq f),toks:=s.toks }):wpAny (model P w) A (call (.builtin "list.insert") [.ref l,.int i t,u]) Q E s:=by
 have hn:=VB
 have fit:¬(!Builtin.List.listFitsIndex i)=true:=by
  rw[fitsIndex_both (k:=i) (Int.le_trans (by decide) h0) (by omega)]
  exact Bool.false_ne_true
 have hs3:its.toArray.size<=sizeLine:=by rw[List.size_toArray]; exact hz
 have M:=AutoSeq1.list_insert_list_int_val_1 l its.toArray n i t u fit hs3
 refine call_meets F.slot_list_insert ⟨_,e,rfl⟩ F.entry_list_insert (F.args_list_insert_3 _ _ _) M ⟨e,?_⟩
 refine h _ ?_
 have hk:(if i<0 then (i+(its.toArray.size:Int)).toNat else min i.toNat its.toArray.size)=i.toNat:=by
  rw[if_neg (by omega),List.size_toArray]
  omega
 show(its.toArray.extract 0 (if i<0 then (i+(its.toArray.size:Int)).toNat else min i.toNat its.toArray.size)).push u++its.toArray.extract (if i<0 then (i+(its.toArray.size:Int)).toNat else min i.toNat its.toArray.size)=_
 rw[hk]
 apply Array.toList_inj.mp
 simp[List.take_of_length_le]
theorem Mf:MtM X "list.insert" zhB:=by
 intro pins s σ H x vs v us Q I rx rv h
 obtain⟨l,xs,i,y,rfl,rfl,hH,h0,h1,hz,q⟩:=h
 cases rx
 obtain⟨u,w,rfl,⟨t,rfl⟩,rw'⟩:=rv.two
 obtain⟨z,its,n,r,hl,e⟩:=I.lstM hH
 refine zeY e h0 (by rw[<-hl]; exact h1) (by omega) fun f hf=>?_
 refine⟨.non,_,I.lset (its':=its.take i.toNat++w::its.drop i.toNat) hH e hf ((r.take i.toNat).append (.cons rw' (r.drop i.toNat))) ?_,rfl,q⟩
 rw[List.length_append,List.length_cons,List.length_take,List.length_drop]
 omega
def zgD (K:PySem.W.Frag):V->List V->Hp->VK->Prop:=fun x vs H Q=>∃l b xs zs,x=.ref l/\vs=[.ref b]/\H l=some (.lst xs)/\SqT K H b zs/\xs.length+zs.length<=sizeLine/\Q .non (upd H l (.lst (xs++zs)))
theorem Jb (l:Addr) (its:Array Value) (n:Nat) (b:Addr) (its2:Array Value) (n2:Nat) (dd:Option Addr) (sl:Array (Option Value)) (h0:¬(!its.isEmpty&&Builtin.List.listTooLong (its.size+its2.size))=true) (h1:its.size<=sizeLine) (h2:its.size+its2.size<=sizeLine+1) :
  Meets (Builtin.«list.extend» ⟨[.ref l,.ref b],[]⟩) (fun _ R s=>s.heap.get? l=some { cls:=.type "list", data:=.seq its n }/\s.heap.get? b=some { cls:=.type "tuple", dict:=dd,data:=.seq its2 n2,slots:=sl } /\
   R (.ok (.ret Value.none)) { s with heap:=s.heap.update l (Obj.mapSeq fun x=>x++its2),toks:=s.toks }) :=
 .of_wp fun prog w A R s h=>by
  obtain⟨hp,g,d,tk,os⟩:=s
  obtain⟨hl,hb,h⟩:=h
  have g1:=AutoSeq1.idx_int
  have g2:=AutoSeq1.sub_tuple_tuple
  have g3:=AutoSeq1.sub_list_list
  have g4:=AutoSeq1.sub_tuple_list
  have g5:=AutoSeq1.sub_list_tuple
  have hz:(its++its2).size<=sizeLine+1:=by rw[Array.size_append]; exact h2
  wp_walk using (wpAny_updateSeq hl rfl (hz:=h1) (_hz':=hz)),AutoSeq1.wpAny_loadPart' hl,AutoSeq1.wpAny_loadPart' hb
  exact⟨_,rfl,h⟩
theorem J5:MtM X "list.extend" (zgD X.K):=by
 intro pins s σ H x vs v us Q I rx rv h
 obtain⟨l,b,xs,zs,rfl,rfl,hH,hB,hz,q⟩:=h
 cases rx
 obtain⟨u,rfl,ru⟩:=rv.one
 cases ru
 obtain⟨z,its,n,r,hl,e⟩:=I.lstM hH
 obtain⟨its2,r2,⟨o,e2,hc,n2,hd⟩,z2⟩:=I.tuple hB
 obtain⟨cls,dd,dt,sl⟩:=o
 have hc':cls=.type "tuple" := hc
 have hd':dt=.seq its2.toArray n2:=hd
 subst hc' hd'
 have hl2:=r2.length
 have hsz:its.toArray.size+its2.toArray.size<=sizeLine:=by rw[List.size_toArray,List.size_toArray]; omega
 have hlong:¬(!its.toArray.isEmpty&&Builtin.List.listTooLong (its.toArray.size+its2.toArray.size))=true:=by
  rw[zcG hsz,Bool.and_false]
  exact Bool.false_ne_true
 refine call_meets F.slot_list_extend ⟨_,e,rfl⟩ F.entry_list_extend (F.args_list_extend_2 _ _)
  (Jb l its.toArray n b its2.toArray n2 dd sl hlong (by rw[List.size_toArray]; omega) (by omega)) ⟨e,e2,?_⟩
 refine⟨.non,_,I.lset (its':=its++its2) hH e (by simp) (r.append r2) ?_,rfl,q⟩
 rw[List.length_append]
 omega
theorem zbW (bs:List Bool):((List.range bs.length).all fun i=>(bs[i]?).getD true)=bs.all id:=by
 rw[Bool.eq_iff_iff,List.all_eq_true,List.all_eq_true]
 constructor
 ·intro h b hb
  obtain⟨i,hi,e⟩:=List.getElem_of_mem hb
  have q:=h i (List.mem_range.mpr hi)
  rw[List.getElem?_eq_getElem hi,Option.getD_some,e] at q
  exact q
 ·intro h i hi
  have hi':=List.mem_range.mp hi
  rw[List.getElem?_eq_getElem hi',Option.getD_some]
  exact h _ (List.getElem_mem hi')
theorem W0 (hc:X.calm=true):Y4 X (.builtin "all") (fun xs H Q=>∃(p:Addr) (bs:List Bool),xs=[.ref p]/\SqL X.K H p (bs.map V.bl)/\Q (.bl (bs.all id)) H):=by
 intro pins s σ H xs us Q I r h
 obtain⟨p,bs,rfl,hq,q⟩:=h
 obtain⟨u,rfl,rx⟩:=vals1 r
 cases rx
 obtain⟨its,r',pl,hz⟩:=I.list hq
 have hlen:bs.length=its.length:=by have:=r'.length; rw[List.length_map] at this; exact this
 have hlt:p<s.heap.objs.size:=by obtain⟨_,e,_⟩:=pl.isList; exact Heap.lt_size e
 refine call_all_walk (wpAny_pyIter_list pl.isList ?_)
 refine⟨s.heap.objs.size,[s.heap.objs.size,p],[s.heap.objs.size],its.toArray.size,_,_,fun i=>(bs[i]?).getD true,rfl,Walks.list (A:=X.A.in1) (I.ok.hd hc) _ p (Nat.ne_of_lt hlt) its.toArray,
  ⟨⟨_,Heap.get?_push_size _ rfl,rfl,rfl⟩,pl.isList.push _⟩,fun i v s' Q' E' hP hQ=>?_,fun h' tk hk=>?_⟩
 ·have hP':its[i]?=some v:=by simpa using hP
  have hi:i<bs.length:=by
   have:=(List.getElem?_eq_some_iff.mp hP').1
   omega
  obtain⟨w,hw,rw'⟩:=r'.get (i:=i) (x:=.bl bs[i]) (by rw[List.getElem?_map,List.getElem?_eq_getElem hi]; rfl)
  rw[hP'] at hw
  cases hw
  cases rw'
  simp only[List.getElem?_eq_getElem hi,Option.getD_some] at hQ
  exact wpAny_truthy_bool hQ
 ·have kp:∀b o,s.heap.get? b=some o->h'.get? b=some o:=fun b o e=>hk b o (fun hm=>by
   rw[List.mem_singleton.mp hm] at e
   exact Nat.lt_irrefl _ (Heap.lt_size e)) (Heap.get?_push_of_some _ e)
  refine⟨.bl _,H,I.kept kp,rfl,?_⟩
  rw[List.size_toArray,<-hlen,zbW]
  exact q
theorem zgE (hc:X.calm=true):Y4 X (.builtin "sum") (fun xs H Q=>∃(p:Addr) (ns:List Int),xs=[.ref p]/\SqL X.K H p (ns.map V.int)/\Q (.int ns.sum) H):=by
 intro pins s σ H xs us Q I r h
 obtain⟨p,ns,rfl,hq,q⟩:=h
 obtain⟨u,rfl,rx⟩:=vals1 r
 cases rx
 obtain⟨its,r',pl,hz⟩:=I.list hq
 have hi:IntsAre its ns:=intsAre_of r'
 obtain⟨zs,hx⟩:=hi.allInts.items
 have hl':s.heap.IsList p (intItems zs):=hx ▸ pl.isList
 refine sum_intListG (I.ok.hd hc) hl' fun h' tk t' hk=>?_
 have e1:ns=zs.toList.map (·.1):=by
  rw[<-nums_intItems,<-hx]
  exact(show numsOf its.toArray.toList=ns from hi.numsOf).symm
 have e2:preSum (numAt zs) zs.size=ns.sum:=by
  rw[preSum_eq,List.take_of_length_le (by simp),e1]
 rw[e2]
 exact⟨.int ns.sum,H,I.kept hk,⟨_,rfl⟩,q⟩
theorem Kf:Y4 X (.builtin "isinstance") (fun xs H Q=>∃x T t b,xs=[x,.ty T]/\Wg X.K H x t/\PySem.W.kitOne X.K t (.type T)=some b/\Q (.bl b) H):=by
 intro pins s σ H xs us Q I r h
 obtain⟨x,T,t,b,rfl,ty,e,q⟩:=h
 obtain⟨u,w',rfl,rx,ry⟩:=vals2 r
 cases ry
 exact zfB I rx ty e fun tk=>⟨.bl b,H,I.tok _,rfl,q⟩
end
end L2
namespace L2
open PySem PySem.Spec PyProof.Rows
def met (acc:List Str) (x:Str):List Str:=if acc.any (·==x) then acc else acc++[x]
def dd (xs:List Str):List Str:=xs.foldl met []
theorem zee (xs:List Str) (x:Str):dd (xs++[x])=met (dd xs) x:=by
 unfold dd
 rw[List.foldl_append]
 rfl
theorem Lh (acc:List Str) (x k:Str):(met acc x).any (·==k)=(acc.any (·==k)||decide (k=x)):=by
 unfold met
 by_cases h:acc.any (·==x)=true
 ·rw[if_pos h]
  by_cases e:k=x
  ·subst e; rw[h]; simp
  ·simp[e]
 ·rw[if_neg h,List.any_append]
  by_cases e:k=x
  ·subst e; simp
  ·have hb:(x==k)=false:=by simpa [beq_iff_eq] using (fun z:x=k=>e z.symm)
   simp[hb,e]
theorem Xm (acc:List Str) (x:Str):(met acc x).length=if acc.any (·==x)=true then acc.length else acc.length+1:=by
 unfold met
 split<;>simp
theorem zjb (xs:List Str):(dd xs).length<=xs.length:=by
 suffices h:∀acc:List Str,(xs.foldl met acc).length<=acc.length+xs.length by have:=h []; unfold dd; simpa using this
 induction xs with
 | nil=>intro acc; simp
 | cons x r ih =>
  intro acc
  rw[List.foldl_cons]
  have h1:=ih (met acc x)
  have h2:=Xm acc x
  rw[List.length_cons]
  split at h2<;>omega
theorem zgF {xs:List Str} (h:xs.Nodup):(dd xs).length=xs.length:=by
 suffices g:∀acc:List Str,(∀x∈xs,acc.any (·==x)=false)->(xs.foldl met acc).length=acc.length+xs.length by have:=g [] (fun _ _=>rfl); unfold dd; simpa using this
 induction xs with
 | nil=>intro acc _; simp
 | cons x r ih =>
  intro acc ha
  obtain⟨hx,hr⟩:=List.nodup_cons.mp h
  rw[List.foldl_cons,ih hr (met acc x) (fun y hy=>?_),Xm,ha x List.mem_cons_self]
  ·simp; omega
  ·rw[Lh,ha y (List.mem_cons_of_mem _ hy)]
   have:y≠x:=fun e=>hx (e ▸ hy)
   simp[this]
theorem zix {xs:List Str} (h:¬xs.Nodup):(dd xs).length<xs.length:=by
 suffices g:∀acc:List Str,¬xs.Nodup->(xs.foldl met acc).length<acc.length+xs.length by have:=g [] h; unfold dd; simpa using this
 clear h
 have le:∀(ys acc:List Str),(ys.foldl met acc).length<=acc.length+ys.length:=fun ys=>by
  induction ys with
  | nil=>intro acc; simp
  | cons x r ih =>
   intro acc
   rw[List.foldl_cons]
   have h1:=ih (met acc x)
   have h2:=Xm acc x
   rw[List.length_cons]
   split at h2<;>omega
 have mem:∀(ys acc:List Str) (x:Str),x∈ys->acc.any (·==x)=true->(ys.foldl met acc).length<acc.length+ys.length:=fun ys=>by
  induction ys with
  | nil=>intro acc x hx _; cases hx
  | cons y r ih =>
   intro acc x hx ha
   rw[List.foldl_cons,List.length_cons]
   rcases List.mem_cons.mp hx with e | hx
   ·subst e
    have h1:=le r (met acc x)
    have h2:=Xm acc x
    rw[if_pos ha] at h2
    omega
   ·have h1:=ih (met acc y) x hx (by rw[Lh,ha]; rfl)
    have h2:=Xm acc y
    split at h2<;>omega
 induction xs with
 | nil=>intro acc h; exact absurd List.nodup_nil h
 | cons x r ih =>
  intro acc h
  rw[List.foldl_cons,List.length_cons]
  by_cases hx:x∈r
  ·have h1:=mem r (met acc x) x hx (by rw[Lh]; simp)
   have h2:=Xm acc x
   split at h2<;>omega
  ·have h1:=ih (met acc x) (fun hr=>h (List.nodup_cons.mpr ⟨hx,hr⟩))
   have h2:=Xm acc x
   split at h2<;>omega
abbrev T4 (led:Bool):Obj:={ cls:=.type "set", dict:=none,data:=.set #[] 0 (.fresh 0 0 led) }
section
variable {P:Program} {w:World} {A:Around} {R:Result->Shared->Prop} {E:Value->Shared->Prop} {s:Shared}
theorem zgG {I:Addr} {fp wr:List Addr} {G:Array GenState->Array GenState->Prop} {n:Nat} {Pv:Nat->Value->Prop} {St:Nat->Shared->Prop} (W:WalksS P w A.in1 I fp wr G n Pv St) (S:Addr) (hS:S∉fp) (xs:List Str) (hn:xs.length=n)
  (hv:∀i v,Pv i v->∃t,v=.str (xs.getD i "") t) (hb:n+1<scanBound) :
  ∀(k i:Nat) (z:Shared),n-i=k->i<=n->St i z->z.heap.SetOf (strKind P w) S (fun q=>(dd (xs.take i)).any (·==q)) (dd (xs.take i)).length ->
   (∀z',Moved (S::wr) G z z'->z'.heap.SetOf (strKind P w) S (fun q=>(dd xs).any (·==q)) (dd xs).length->R (.ok (.ret .none)) z') ->
   codeAny (model P w) A (.builtin "set.update.loop" ⟨[.ref S,.ref I],[]⟩) R z:=by
 have notw:S∉wr:=fun h=>hS (W.sub _ h)
 have more:∀b∈wr,b∈S::wr:=fun b h=>List.mem_cons_of_mem _ h
 intro k
 induction k with
 | zero =>
  intro i z hk hi st hset fin
  have ei:i=n:=by omega
  subst ei
  refine codeAny_builtin PyProof.Rows.F.entry_set_update_loop ?_
  rw[Around.under_plainId PyProof.Rows.F.plain_set_update_loop _]
  show wpAny _ A.in1 (pyNext (.ref I)>>=_) _ _ z
  refine wpAny_bind (W.done z _ _ st fun z' mv=>?_)
  show wpAny _ A.in1 (ret Value.none) _ _ z'
  refine wpAny_pure (fin z' (mv.mono more) ?_)
  rw[<-hn,List.take_length] at hset
  obtain⟨o,es,ep,t,ho,more'⟩:=hset
  exact⟨o,es,ep,t,mv.heap S _ notw ho,more'⟩
 | succ k ih =>
  intro i z hk hi st hset fin
  have il:i<n:=by omega
  refine codeAny_builtin PyProof.Rows.F.entry_set_update_loop ?_
  rw[Around.under_plainId PyProof.Rows.F.plain_set_update_loop _]
  show wpAny _ A.in1 (pyNext (.ref I)>>=_) _ _ z
  refine wpAny_bind (W.item i z _ _ il st fun v z' pv st' mv=>?_)
  obtain⟨t,rfl⟩:=hv i v pv
  have hset':z'.heap.SetOf (strKind P w) S (fun q=>(dd (xs.take i)).any (·==q)) (dd (xs.take i)).length:=by
   obtain⟨o,es,ep,tb,ho,more'⟩:=hset
   exact⟨o,es,ep,tb,mv.heap S _ notw ho,more'⟩
  show wpAny _ A.in1 (holding [Value.str (xs.getD i "") t] (setAdd S (.str (xs.getD i "") t))>>=_) _ _ z'
  refine wpAny_bind (wpAny_holding ?_)
  unfold setAdd
  refine wpAny_holding ?_
  refine wpAny_bind ((strKind P w).pyHash (k:=xs.getD i "") (strKind_is _ _ _ _) ?_)
  have hroom:(dd (xs.take i)).length+1<scanBound:=by
   have:=zjb (xs.take i)
   rw[List.length_take] at this
   omega
  have et:xs.take (i+1)=xs.take i++[xs.getD i ""]:=by
   rw[List.take_succ,List.getD_eq_getElem?_getD,List.getElem?_eq_getElem (by omega)]
   rfl
  refine wpAny_setAddHashed_of (knd:=strKind P w) (s:={ z' with toks:=z'.toks+1 }) (strKind_is _ _ _ _) rfl hset' hroom fun h' sb s2=>?_
  have hset2:h'.SetOf (strKind P w) S (fun q=>(dd (xs.take (i+1))).any (·==q)) (dd (xs.take (i+1))).length :=
   SetOf_congr s2 (fun q=>by rw[et,zee,Lh]) (by rw[et,zee,Xm])
  refine wpAny_pure ⟨plainId_quiet PyProof.Rows.F.plain_set_update_loop _,ih (i+1) _ (by omega) il (W.frame _ z' _ _ st' (Nat.le_succ _) fun b hb' o e=>?_) hset2 fun z'' mv2 s3=>?_⟩
  ·rw[sb.2 b (fun h:b=S=>hS (by rw[<-h]; exact hb'))]; exact e
  ·refine fin z'' (Moved.trans W.gtrans ((mv.mono more).then_heap (Nat.le_succ _) fun b o hb' e=>?_) mv2) s3
   rw[sb.2 b (fun h:b=S=>hb' (by rw[h]; exact List.mem_cons_self))]; exact e
theorem zhC {xs:List Str}:∀{us:List Value},Vals (xs.map V.str) us->∀(i:Nat) (v:Value),us[i]?=some v->∃t,v=.str (xs.getD i "") t:=by
 intro us r i v h
 have hl:=r.length
 rw[List.length_map] at hl
 have hi:i<xs.length:=by have:=(List.getElem?_eq_some_iff.mp h).1; omega
 obtain⟨u,hu,t,e⟩:=r.get (i:=i) (x:=.str xs[i]) (by rw[List.getElem?_map,List.getElem?_eq_getElem hi]; rfl)
 rw[h] at hu
 cases hu
 refine⟨t,?_⟩
 rw[e,List.getD_eq_getElem?_getD,List.getElem?_eq_getElem hi]
 rfl
set_option maxHeartbeats 8000000 in
theorem zgH {l:Addr} {us:List Value} {xs:List Str} {Q:Value->Shared->Prop} (hh:A.handled=none) (hl:s.heap.IsList l us.toArray) (r:Vals (xs.map V.str) us) (hb:xs.length+1<scanBound)
  (h:∀(h':Heap) (tk:Nat),h'.SetOf (strKind P w) s.heap.objs.size (fun q=>(dd xs).any (·==q)) (dd xs).length->(∀b o,s.heap.get? b=some o->h'.get? b=some o)->Q (.ref s.heap.objs.size) { s with heap:=h',toks:=tk }) :
  wpAny (model P w) A (call (.type "set") [.ref l]) Q E s:=by
 have hlen:xs.length=us.toArray.size:=by have:=r.length; rw[List.length_map] at this; simpa using this
 obtain⟨cc,tl,hmro⟩:=F.called_set.mro
 have made:=F.called_set.made
 have sub:=F.called_set.sub
 refine wpAny_call (codeAny_of_tree ?_)
 show wpAny _ _ (callAny (.type "set") _) _ _ _
 refine wpAny_pure ⟨Code.quiet_builtin _ (by decide +kernel),codeAny_builtin F.entry_type_call ?_⟩
 rw[Around.under_plain (weight_type_call_type "set" [.ref l] []) rfl]
 have a1:=F.called_set.notType
 have a2:=F.called_set.canCreate
 have a3:=F.typeCall_set_1 (.ref l)
 repeat (any_goals (first | assumption | wp_step))
 refine codeAny_mono (code_set_new_1 (.ref l) (E:=E) (Q₁:=fun ob z=>∃led:Bool,ob=.ref s.heap.objs.size/\z={ s with heap:=s.heap.push { cls:=.type "set", dict:=none,data:=.set #[] 0 (.fresh 0 0 led) } }) fun led=>⟨led,rfl,rfl⟩) fun res z hres=>?_
 cases res with
 | error e=>exact hres
 | ok fl =>
  cases fl with
  | ret ob =>
   obtain⟨led,rfl,rfl⟩:=hres
   have gS:(s.heap.push (T4 led)).get? s.heap.objs.size=some (T4 led):=Heap.get?_push_size _ rfl
   have tS:Shared.TypeIs { s with heap:=s.heap.push (T4 led) } (.ref s.heap.objs.size) "set" := ⟨_,gS,rfl⟩
   have b1:=F.called_set.init.lookup
   have b2:=F.called_set.init.bind (.ref s.heap.objs.size)
   repeat (any_goals (first | assumption | wp_step))
   refine codeAny_mono (codeAny_call_builtin (R:=wants (fun v z=>v=.none/\∃h' tk,z={ s with heap:=h',toks:=tk }/\h'.SetOf (strKind P w) s.heap.objs.size (fun q=>(dd xs).any (·==q)) (dd xs).length/\(∀b o,s.heap.get? b=some o->h'.get? b=some o)) E)
    F.called_set.init.plain F.entry_set_init (check_set_init_1 tS ?_)) fun res2 z2 hres2=>?_
   ·obtain⟨ol,gl,cl,nl,dl⟩:=hl
    obtain⟨ocls,odict,odata,oslots⟩:=ol
    have cl':ocls=.type "list" := cl
    have dl':odata=.seq us.toArray nl:=dl
    subst cl' dl'
    have gl':(s.heap.push (T4 led)).get? l=some { cls:=.type "list", dict:=odict,data:=.seq us.toArray nl,slots:=oslots }:=Heap.get?_push_of_some _ gl
    have c1:=F.sub_list_set
    have c2:=F.sub_list_frozenset
    have c3:(Value.type "list" == Value.type "dict")=false:=by decide
    have isl:(s.heap.push (T4 led)).IsList l us.toArray:=⟨_,gl',rfl,nl,rfl⟩
    unfold Builtin.«set.__init__» noKeywords Builtin.Frozenset.updateFrom
    generalize hit:pyIter=itf
    wp_walk
    subst hit
    refine wpAny_pyIter_list isl ?_
    refine wpAny_bind (wpAny_runValue ?_)
    have ltl:l<s.heap.objs.size:=Heap.lt_size gl
    have hd3:A.in1.in1.in1.handled=none:=by simp[hh]
    have sz1:(s.heap.push (T4 led)).objs.size=s.heap.objs.size+1:=Heap.size_push ..
    have nel:l≠(s.heap.push (T4 led)).objs.size:=by rw[sz1]; exact Nat.ne_of_lt (Nat.lt_succ_of_lt ltl)
    have nin:s.heap.objs.size∉[(s.heap.push (T4 led)).objs.size,l]:=by
     rw[sz1]
     simp only[List.mem_cons,List.not_mem_nil,or_false,not_or]
     exact⟨Nat.ne_of_lt (Nat.lt_succ_self _),Nat.ne_of_gt ltl⟩
    refine zgG ((Walks.list hd3 _ l nel us.toArray).toS) s.heap.objs.size nin xs hlen (fun i v hv=>zhC r i v (by simpa using hv)) (by rw[<-hlen]; exact hb) (us.toArray.size-0) 0 _ (by omega) (Nat.zero_le _)
     ⟨⟨_,Heap.get?_push_size _ rfl,rfl,rfl⟩,isl.push _⟩ ?s0 ?fin
    case s0 =>
     have gg:((s.heap.push (T4 led)).push { cls:=.type "list_iterator", data:=.fields #[.ref l,.int 0 0] }).get? s.heap.objs.size=some (T4 led):=Heap.get?_push_of_some _ gS
     exact SetOf_congr ((setObjOf_fresh (knd:=strKind P w) led).setOf gg (by unfold scanBound; omega)) (fun _=>rfl) rfl
    case fin =>
     intro z mv sz
     obtain⟨h',g',d',tk',os'⟩:=z
     have e1:g'=s.gens:=mv.gens
     have e2:d'=s.drawn:=mv.drawn
     have e3:os'=s.os:=mv.os
     subst e1 e2 e3
     show wpAny _ _ _ _ _ _
     refine wpAny_pure ?_
     show wpAny _ _ (ret Value.none) _ _ _
     refine wpAny_pure ⟨rfl,h',tk',rfl,sz,fun b o e=>?_⟩
     have lb:=Heap.lt_size e
     have n1:b≠s.heap.objs.size:=Nat.ne_of_lt lb
     have n2:b≠(s.heap.push (T4 led)).objs.size:=by rw[sz1]; exact Nat.ne_of_lt (Nat.lt_succ_of_lt lb)
     exact mv.heap b o (by simp only[List.mem_cons,List.not_mem_nil,or_false,not_or]; exact⟨n1,n2⟩) (Heap.get?_push_of_some _ (Heap.get?_push_of_some _ e))
   ·cases res2 with
    | error e=>exact hres2
    | ok fl2 =>
     cases fl2 with
     | ret v =>
      obtain⟨rfl,h',tk,rfl,sS,kk⟩:=hres2
      repeat (any_goals (first | assumption | wp_step))
      exact h _ _ sS kk
     | _=>exact hres2.elim
  | _=>exact hres.elim
end
end L2
namespace L2
open PySem PySem.Spec PyProof.Rows
section
variable {X:Cx}
def zeZ (P:Program) (w:World) (a:Addr) (n:Nat):HO:=.ext fun h=>∃S,h.SetOf (strKind P w) a S n
theorem zgI (hc:X.calm=true):Y4 X (.type "set") (fun xs H Q=>∃(p:Addr) (ts:List Str),xs=[.ref p]/\SqL X.K H p (ts.map V.str)/\ts.length<=100/\∀q,H q=none->Q (.ref q) (upd H q (zeZ X.prog X.w q (dd ts).length))):=by
 intro pins s σ H xs us Q I r h
 obtain⟨p,ts,rfl,hq,h100,q⟩:=h
 obtain⟨u,rfl,rx⟩:=vals1 r
 cases rx
 obtain⟨its,r',pl,hz⟩:=I.list hq
 refine zgH (I.ok.hd hc) pl.isList r' (Nat.lt_of_le_of_lt (Nat.add_le_add_right h100 1) (by decide)) fun h' tk hS hk=>?_
 refine⟨.ref s.heap.objs.size,_,I.laid hk (Nat.le_refl _) (o:=zeZ X.prog X.w s.heap.objs.size (dd ts).length) ?_,rfl,q _ (I.hok.fresh (Nat.le_refl _))⟩
 refine⟨⟨_,hS⟩,?_,?_⟩
 ·obtain⟨o,es,ep,t,ho,_⟩:=hS
  exact⟨o,ho⟩
 ·rintro h1 h2 ⟨S,o,es,ep,t,ho,rest⟩ k
  exact⟨S,o,es,ep,t,k o ho,rest⟩
theorem call_len_set':Y4 X (.builtin "len") (fun xs H Q=>∃(p:Addr) (n:Nat),xs=[.ref p]/\H p=some (zeZ X.prog X.w p n)/\Q (.int n) H):=by
 intro pins s σ H xs us Q I r h
 obtain⟨p,n,rfl,hp,q⟩:=h
 obtain⟨u,rfl,rx⟩:=vals1 r
 cases rx
 obtain⟨⟨S,o,es,ep,t,ho,hex,hd,_,_,hb,hf,hn⟩,_⟩:=I.hok p _ hp
 have h63:(es.size:Int)<2^63:=by
  have h1:scanBound<2^63:=by decide
  omega
 refine call_len_set ho hex hd hf h63 ⟨.int n,H,I.tok _,⟨s.toks+1,?_⟩,q⟩
 rw[hn]
def ze0 (K:PySem.W.Frag) (P:Program) (w:World) (a:Addr) (kvs:List (Str×Value)):Prop:=(a==sysModules)=false/\∃o,K.lookup a=some o/\o.IsDictOf (strKind P w) kvs
theorem zaJ {a:Addr} {kvs:List (Str×Value)} (hd:ze0 X.K X.prog X.w a kvs):IxR X (fun x y H Q=>∃k u v,x=.ref a/\y=.str k/\valueAt kvs k=some u/\RelV v u/\Q v H):=by
 intro value slice pins s σ H x y v u Q I rx ry h hs
 obtain⟨k,z,vv,rfl,rfl,hv,rv,q⟩:=h
 cases rx
 obtain⟨t,rfl⟩:=ry
 obtain⟨_,o,hk,hdd⟩:=hd
 have D:s.heap.DictOf (strKind X.prog X.w) a kvs:=Heap.dictOf_iff.mpr ⟨o,I.kIn a o hk,hdd⟩
 exact tail_any D.typeIs slot_dict_getitem.lookup (wpAny_getItem_of (strKind_is _ _ k t) D.mapOf hv ⟨vv,H,I.tok _,rv,q⟩) hs
theorem zbX {a:Addr} {kvs:List (Str×Value)} (hd:ze0 X.K X.prog X.w a kvs):OpR X (compareOp .NotIn) (fun x y H Q=>∃k,x=.str k/\y=.ref a/\Q (.bl (!(valueAt kvs k).isSome)) H):=by
 intro pins s σ H x y v u Q I rx ry h
 obtain⟨k,rfl,rfl,q⟩:=h
 cases ry
 obtain⟨t,rfl⟩:=rx
 obtain⟨hs,o,hk,hdd⟩:=hd
 have D:s.heap.DictOf (strKind X.prog X.w) a kvs:=Heap.dictOf_iff.mpr ⟨o,I.kIn a o hk,hdd⟩
 exact wpAny_notIn_of (strKind_is _ _ k t) hs D.mapOf ⟨.bl _,H,I.tok _,rfl,q⟩
theorem Inv.turnedL {pins:List (Addr×Obj)} {σ:St} {H:Hp} {s:Shared} {h':Heap} {t':Nat} {fp:List Addr} (I:Inv X pins σ H s) (k:∀b o,b∉fp->s.heap.get? b=some o->h'.get? b=some o) (ex:∀b∈fp,∃o,h'.get? b=some o) (hf:∀b∈fp,RN X pins H b) :
  Inv X pins σ H { s with heap:=h',toks:=t' }:=by
 have nit:∀b u,H b=some u->b∉fp:=fun b u e z=>by rw[(hf b z).1] at e; cases e
 refine I.step (g':=s.gens) (d':=s.drawn) (ch:=fp) (fun b hb=>⟨(hf b hb).2.2.2.1,(hf b hb).2.1,(hf b hb).2.2.2.2.1,(hf b hb).2.2.2.2.2⟩) (fun b o _ _ hc e _=>k b o hc e) (fun b o _ _ hc e _=>⟨o.slots,k b o hc e⟩) (fun _ _ _ _ n=>n)
  (fun b o hc e=>⟨o,k b o hc e⟩) (fun _ _ e=>e) (fun _ _ _ e=>e) (fun b ps e=>⟨#[],by rw[e]; simp⟩) (fun m hm=>?_) (fun b u e=>?_) I.bare
 ·obtain⟨o,es,ep,ho,r⟩:=hm
  exact⟨o,es,ep,k _ o (fun z=>(hf _ z).2.1 rfl) ho,r⟩
 ·refine(I.hok b u e).stay (fun c v hc q=>k c v ?_ q) (fun _ q=>q) fun _ _ q=>q
  rcases hc with z | z
  ·rw[z]; exact nit b u e
  ·exact nit c _ z
end
end L2
namespace L2
open PySem PySem.Spec PyProof.Rows
theorem yH:bootBuiltins "len"=some (.builtin "len"):=by decide +kernel
theorem R7:bootBuiltins "all"=some (.builtin "all"):=by decide +kernel
theorem ziy:bootBuiltins "sum"=some (.builtin "sum"):=by decide +kernel
theorem Pr:bootBuiltins "isinstance"=some (.builtin "isinstance"):=by decide +kernel
theorem ziz:bootBuiltins "str"=some (.type "str"):=by decide +kernel
theorem zgJ:bootBuiltins "tuple"=some (.type "tuple"):=by decide +kernel
theorem R8:bootBuiltins "list"=some (.type "list"):=by decide +kernel
theorem ziA:bootBuiltins "set"=some (.type "set"):=by decide +kernel
theorem ze1 {v:V} {u:Value} (h:u9 u=some v):RelV v u:=by
 cases u<;>simp only[u9,Option.some.injEq,reduceCtorEq] at h<;>subst h<;>first | exact rfl | exact⟨_,rfl⟩
theorem Kg:∀{us:List Value} {xs:List V},us.map u9=xs.map some->Vals xs us
 | [],[],_=>.nil
 | u::us,x::xs,h=>by
  rw[List.map_cons,List.map_cons] at h
  injection h with h1 h2
  exact .cons (ze1 h1) (Kg h2)
 | [],_::_,h=>by cases h
 | _::_,[],h=>by cases h
theorem tL {K:PySem.W.Frag} {H:Hp} {p:Addr} {od:Option Addr} {it:Array Value} {n:Nat} {sl:Array (Option Value)} {xs:List V} (l:K.lookup p=some ⟨.type "tuple", od,.seq it n,sl⟩) (v:it.toList.map u9=xs.map some) (hz:xs.length<=1000):SqT K H p xs:=by
 have r:=Kg v
 refine .inr ⟨_,it,n,l,rfl,rfl,?_,r⟩
 have e:xs.length=it.size:=by have:=r.length; simpa using this
 rw[<-e]
 exact Nat.le_of_lt (yC hz)
theorem ziB {P:Program} {w:World}:Pairs (strKind P w) [] []/\∀e∈([]:List DictEntry),∃k,(strKind P w).is k e.key=true/\e.hash=(strKind P w).hash k:=⟨.nil,fun _ h=>nomatch h⟩
theorem ZF {P:Program} {w:World} {k:Str} {t:Tok} {v:Value} {es:List DictEntry} {kvs:List (Str×Value)} (h:Pairs (strKind P w) es kvs/\∀e∈es,∃k,(strKind P w).is k e.key=true/\e.hash=(strKind P w).hash k) :
  Pairs (strKind P w) (⟨hashStr w k,.str k t,v⟩::es) ((k,v)::kvs)/\∀e∈(⟨hashStr w k,.str k t,v⟩::es:List DictEntry),∃k,(strKind P w).is k e.key=true/\e.hash=(strKind P w).hash k:=by
 refine⟨.cons (strKind_is _ _ k t) rfl h.1,fun e he=>?_⟩
 rcases List.mem_cons.mp he with z | z
 ·subst z; exact⟨k,strKind_is _ _ k t,rfl⟩
 ·exact h.2 e z
theorem zhD {P:Program} {w:World} {K:PySem.W.Frag} {p:Addr} {es:Array DictEntry} {ep:Nat} {el:List DictEntry} {kvs:List (Str×Value)} (l:K.lookup p=some ⟨.type "dict", none,.dict es ep,#[]⟩) (e:es.toList=el) (s:(p==sysModules)=false)
  (h:Pairs (strKind P w) el kvs/\∀e∈el,∃k,(strKind P w).is k e.key=true/\e.hash=(strKind P w).hash k) (nd:(kvs.map (·.1)).Nodup):ze0 K P w p kvs:=by
 subst e
 exact⟨s,_,l,es,ep,⟨rfl,rfl,rfl⟩,rfl,fun x hx=>h.2 x (by simpa using hx),h.1,nd⟩
theorem zfM {kvs:List (Str×Value)} {k:Str} (h:∀e∈kvs,e.1≠k):valueAt kvs k=none:=by
 unfold valueAt
 rw[List.find?_eq_none.mpr fun e he=>by simpa using h e he]
 rfl
end L2
namespace Sen
open PySem
inductive Sn where
 | c0 (y:Bool)
 | mk (x:Str)
 | nt (s:Sn)
 | b2 (o:Fin 4) (s t:Sn)
 | q1 (o:Bool) (x:Str) (s:Sn)
def w2:Fin 4->Str
 | 0 => "and"
 | 1 => "or"
 | 2 => "either"
 | 3 => "if"
namespace Sn
def word:Sn->Str
 | c0 true => "yes"
 | c0 false => "no"
 | mk _ => "mark"
 | nt _ => "not"
 | b2 o _ _=>w2 o
 | q1 true _ _ => "some"
 | q1 false _ _ => "each"
def letters:Sn->List Str
 | mk x=>[x]
 | q1 _ x _=>[x]
 | _=>[]
def parts:Sn->List Sn
 | nt s=>[s]
 | b2 _ s t=>[s,t]
 | q1 _ _ s=>[s]
 | _=>[]
def count:Sn->Nat
 | nt s=>1+s.count
 | b2 _ s t=>1+(s.count+t.count)
 | q1 _ _ s=>1+s.count
 | _=>1
def depth:Sn->Nat
 | nt s=>1+s.depth
 | b2 _ s t=>1+max s.depth t.depth
 | q1 _ _ s=>1+s.depth
 | _=>1
def inO (os:List Str):Sn->Prop
 | c0 _=>True
 | mk x=>x∈os
 | nt s=>s.inO os
 | b2 _ s t=>s.inO os/\t.inO os
 | q1 _ x s=>x∈os/\s.inO os
def op2:Fin 4->Bool->Bool->Bool
 | 0,a,b=>a&&b
 | 1,a,b=>a||b
 | 2,a,b=>a != b
 | 3,a,b=>!a||b
def val:Sn->(Str->Bool)->Bool
 | c0 y,_=>y
 | mk x,e=>e x
 | nt s,e=>!s.val e
 | b2 o s t,e=>op2 o (s.val e) (t.val e)
 | q1 true x s,e=>s.val (fun y=>if y=x then true else e y)||s.val (fun y=>if y=x then false else e y)
 | q1 false x s,e=>s.val (fun y=>if y=x then true else e y)&&s.val (fun y=>if y=x then false else e y)
theorem val_congr {os:List Str}:∀(s:Sn) {e e':Str->Bool},s.inO os->(∀x∈os,e x=e' x)->s.val e=s.val e'
 | c0 _,_,_,_,_=>rfl
 | mk x,_,_,h,q=>q x h
 | nt s,_,_,h,q=>by unfold val; rw[val_congr s h q]
 | b2 o s t,_,_,h,q=>by unfold val; rw[val_congr s h.1 q,val_congr t h.2 q]
 | q1 o x s,e,e',h,q=>by
  have k:∀b:Bool,s.val (fun y=>if y=x then b else e y)=s.val (fun y=>if y=x then b else e' y):=fun b=>val_congr s h.2 fun y hy=>by
   by_cases hx:y=x
   ·rw[if_pos hx,if_pos hx]
   ·rw[if_neg hx,if_neg hx,q y hy]
  cases o<;>(unfold val; rw[k,k])
theorem Mg:∀s:Sn,1<=s.depth
 | c0 _=>Nat.le_refl _
 | mk _=>Nat.le_refl _
 | nt _=>by unfold depth; omega
 | b2 _ _ _=>by unfold depth; omega
 | q1 _ _ _=>by unfold depth; omega
theorem Kh:∀s:Sn,s.count=1+(s.parts.map count).sum
 | c0 _=>rfl
 | mk _=>rfl
 | nt _=>by simp[count,parts]
 | b2 _ _ _=>by simp[count,parts]
 | q1 _ _ _=>by simp[count,parts]
theorem RQ:∀(s:Sn),∀t∈s.parts,t.depth+1<=s.depth
 | c0 _,t,h=>by simp[parts] at h
 | mk _,t,h=>by simp[parts] at h
 | nt s,t,h=>by simp[parts] at h; subst h; show t.depth+1<=1+t.depth; omega
 | b2 _ s u,t,h=>by
  simp[parts] at h
  rcases h with h | h
  ·subst h; show t.depth+1<=1+max t.depth u.depth; omega
  ·subst h; show t.depth+1<=1+max s.depth t.depth; omega
 | q1 _ _ s,t,h=>by simp[parts] at h; subst h; show t.depth+1<=1+t.depth; omega
theorem zbe {os:List Str}:∀(s:Sn),s.inO os->∀t∈s.parts,t.inO os
 | c0 _,_,t,h=>by simp[parts] at h
 | mk _,_,t,h=>by simp[parts] at h
 | nt s,q,t,h=>by simp[parts] at h; subst h; exact q
 | b2 _ s u,q,t,h=>by
  simp[parts] at h
  rcases h with h | h<;>subst h
  ·exact q.1
  ·exact q.2
 | q1 _ _ s,q,t,h=>by simp[parts] at h; subst h; exact q.2
theorem zdP {os:List Str}:∀(s:Sn),s.inO os->∀x∈s.letters,x∈os
 | c0 _,_,t,h=>by simp[letters] at h
 | mk _,q,t,h=>by simp[letters] at h; subst h; exact q
 | nt s,q,t,h=>by simp[letters] at h
 | b2 _ s u,q,t,h=>by simp[letters] at h
 | q1 _ _ s,q,t,h=>by simp[letters] at h; subst h; exact q.1
end Sn
theorem vZ (b p:Nat):(b+2^p).testBit p=!b.testBit p:=by rw[Nat.add_comm]; exact Nat.testBit_two_pow_add_eq b p
theorem Ri {b p j:Nat} (h:j<p):(b+2^p).testBit j=b.testBit j:=by rw[Nat.add_comm]; exact Nat.testBit_two_pow_add_gt h b
theorem zgK {b p:Nat} (h:b.testBit p=false):b%2^(p+1)<2^p:=by
 have e:b%2^(p+1)=b%2^p+2^p*(b / 2^p%2):=by
  rw[Nat.pow_succ]; exact Nat.mod_mul
 have z:b / 2^p%2=0:=by
  rw[Nat.testBit_eq_decide_div_mod_eq] at h
  have:=of_decide_eq_false h
  omega
 rw[e,z,Nat.mul_zero,Nat.add_zero]
 exact Nat.mod_lt b (Nat.two_pow_pos p)
theorem zfN (x i j:Nat):x.testBit (i+j)=(x / 2^i).testBit j:=by
 rw[Nat.testBit_div_two_pow,Nat.add_comm]
theorem zbf {b p j:Nat} (h:p<j) (h0:b.testBit p=false):(b+2^p).testBit j=b.testBit j:=by
 obtain⟨k,rfl⟩:∃k,j=(p+1)+k:=⟨j-(p+1),by omega⟩
 rw[zfN,zfN]
 have hm:=zgK h0
 have e:(b+2^p) / 2^(p+1)=b / 2^(p+1):=by
  have hp:2^(p+1)=2^p+2^p:=by rw[Nat.pow_succ]; omega
  have d:=Nat.div_add_mod b (2^(p+1))
  have pos:=Nat.two_pow_pos (p+1)
  rw[Nat.div_eq_iff pos]
  have c:b / 2^(p+1)*2^(p+1)=2^(p+1)*(b / 2^(p+1)):=Nat.mul_comm _ _
  rw[c]
  omega
 rw[e]
def zE (b p:Nat) (v:Bool):Nat:=if b.testBit p=v then b else if v then b+2^p else b-2^p
theorem zbg {b p:Nat} (h:b.testBit p=true):2^p<=b:=Nat.ge_two_pow_of_testBit h
theorem zT (b p j:Nat) (v:Bool):(zE b p v).testBit j=if j=p then v else b.testBit j:=by
 unfold zE
 by_cases h:b.testBit p=v
 ·rw[if_pos h]
  by_cases hj:j=p
  ·rw[if_pos hj,hj,h]
  ·rw[if_neg hj]
 ·rw[if_neg h]
  cases v with
  | true =>
   have h0:b.testBit p=false:=by simpa using h
   rw[if_pos rfl]
   by_cases hj:j=p
   ·subst hj; rw[if_pos rfl,vZ,h0]; rfl
   ·rw[if_neg hj]
    rcases Nat.lt_or_gt_of_ne hj with q | q
    ·exact Ri q
    ·exact zbf q h0
  | false =>
   have h1:b.testBit p=true:=by simpa using h
   rw[if_neg Bool.false_ne_true]
   have ge:=zbg h1
   obtain⟨c,hc⟩:∃c,b=c+2^p:=⟨b-2^p,by omega⟩
   have h0:c.testBit p=false:=by
    rw[hc,vZ] at h1
    simpa using h1
   have e:b-2^p=c:=by omega
   rw[e,hc]
   by_cases hj:j=p
   ·subst hj; rw[if_pos rfl,h0]
   ·rw[if_neg hj]
    rcases Nat.lt_or_gt_of_ne hj with q | q
    ·exact(Ri q).symm
    ·exact(zbf q h0).symm
theorem yU {b p n:Nat} {v:Bool} (hb:b<2^n) (hp:p<n):zE b p v<2^n:=by
 refine Nat.lt_pow_two_of_testBit _ fun i hi=>?_
 rw[zT,if_neg (by omega)]
 exact Nat.testBit_lt_two_pow (Nat.lt_of_lt_of_le hb (Nat.pow_le_pow_right (by decide) hi))
def zL (n:Nat) (N:Nat) (f:Nat->Bool):Prop:=∀b,N.testBit b=(decide (b<2^n)&&f b)
theorem R9 (n:Nat):zL n (2^2^n-1) (fun _=>true):=fun b=>by
 rw[Nat.testBit_two_pow_sub_one,Bool.and_true]
theorem QX (n:Nat):zL n 0 (fun _=>false):=fun b=>by simp
theorem W2 {n N M:Nat} {f g:Nat->Bool} (h:zL n N f) (k:zL n M g):zL n (N ^^^ M) (fun b=>f b != g b):=fun b=>by
 rw[Nat.testBit_xor,h b,k b]
 show _=(decide (b<2^n)&&(f b != g b))
 cases decide (b<2^n)<;>cases f b<;>cases g b<;>rfl
theorem Ym {n N M:Nat} {f g:Nat->Bool} (h:zL n N f) (k:zL n M g):zL n (N&&&M) (fun b=>f b&&g b):=fun b=>by
 rw[Nat.testBit_and,h b,k b]
 show _=(decide (b<2^n)&&(f b&&g b))
 cases decide (b<2^n)<;>cases f b<;>cases g b<;>rfl
theorem T5 {n N M:Nat} {f g:Nat->Bool} (h:zL n N f) (k:zL n M g):zL n (N|||M) (fun b=>f b||g b):=fun b=>by
 rw[Nat.testBit_or,h b,k b]
 show _=(decide (b<2^n)&&(f b||g b))
 cases decide (b<2^n)<;>cases f b<;>cases g b<;>rfl
theorem wV {n N:Nat} {f g:Nat->Bool} (h:zL n N f) (e:∀b,b<2^n->f b=g b):zL n N g:=fun b=>by
 rw[h b]
 by_cases hb:b<2^n
 ·rw[e b hb]
 ·rw[decide_eq_false hb]; rfl
theorem zfO {n N:Nat} {f:Nat->Bool} (h:zL n N f):N<2^2^n:=Nat.lt_pow_two_of_testBit _ fun i hi=>by
 rw[h i,decide_eq_false (by omega)]; rfl
theorem zfP (p:Nat):zL (p+1) ((2^2^p-1)*2^2^p) (fun b=>b.testBit p):=fun b=>by
 rw[Nat.testBit_mul_two_pow,Nat.testBit_two_pow_sub_one]
 show _=(decide (b<2^(p+1))&&b.testBit p)
 have hp:2^(p+1)=2^p+2^p:=by rw[Nat.pow_succ]; omega
 by_cases h1:2^p<=b
 ·by_cases h2:b<2^(p+1)
  ·have e:b.testBit p=true:=by
    obtain⟨c,rfl⟩:∃c,b=c+2^p:=⟨b-2^p,by omega⟩
    rw[vZ,Nat.testBit_lt_two_pow (by omega)]
    rfl
   rw[e]
   simp[h1,h2]
   omega
  ·simp[h2]
   intro _
   omega
 ·have e:b.testBit p=false:=Nat.testBit_lt_two_pow (by omega)
  rw[e]
  simp[h1]
theorem ze2 {p m N:Nat} (hp:p<m) (h:zL m N (fun b=>b.testBit p)):zL (m+1) (N|||N*2^2^m) (fun b=>b.testBit p):=fun b=>by
 rw[Nat.testBit_or,Nat.testBit_mul_two_pow,h b,h (b-2^m)]
 show(_||(_&&(_&&(b-2^m).testBit p)))=(decide (b<2^(m+1))&&b.testBit p)
 have hm:2^(m+1)=2^m+2^m:=by rw[Nat.pow_succ]; omega
 by_cases h1:b<2^m
 ·have h2:b<2^(m+1):=by omega
  have h3:¬ 2^m<=b:=by omega
  simp[h1,h2,h3]
 ·have h3:2^m<=b:=by omega
  have e:(b-2^m).testBit p=b.testBit p:=by
   obtain⟨c,rfl⟩:∃c,b=c+2^m:=⟨b-2^m,by omega⟩
   rw[Ri hp,Nat.add_sub_cancel]
  rw[e]
  by_cases h2:b<2^(m+1)
  ·have h4:b-2^m<2^m:=by omega
   simp[h1,h2,h3,h4]
  ·have h4:¬b-2^m<2^m:=by omega
   simp[h1,h2,h3,h4]
theorem zgL {n p N R:Nat} {f:Nat->Bool} (hp:p<n) (h:zL n N f) (r:zL n R (fun b=>b.testBit p)) :
  zL n ((N&&&R) / 2^2^p|||(N ^^^ (N&&&R))*2^2^p) (fun b=>f (zE b p (!b.testBit p))):=fun b=>by
 have o:=Ym h r
 have z:=W2 h o
 have pp:=Nat.two_pow_pos p
 rw[Nat.testBit_or,Nat.testBit_mul_two_pow,Nat.testBit_div_two_pow,o,z]
 dsimp only
 by_cases hb:b<2^n
 ·cases hbit:b.testBit p with
  | false =>
   have e:zE b p (!false)=b+2^p:=by
    unfold zE
    rw[hbit,if_neg (by decide),if_pos (by decide)]
   have lt:b+2^p<2^n:=by rw[<-e]; exact yU hb hp
   rw[e,vZ,hbit]
   by_cases h1:2^p<=b
   ·have e2:(b-2^p).testBit p=true:=by
     obtain⟨c,rfl⟩:∃c,b=c+2^p:=⟨b-2^p,by omega⟩
     rw[vZ] at hbit
     rw[Nat.add_sub_cancel]
     simpa using hbit
    rw[e2]
    have h4:b-2^p<2^n:=by omega
    simp[hb,lt,h1,h4]
   ·simp[hb,lt,h1]
  | true =>
   have ge:=zbg hbit
   have e:zE b p (!true)=b-2^p:=by
    unfold zE
    rw[hbit,if_neg (by decide),if_neg (by decide)]
   have e2:(b-2^p).testBit p=false:=by
    obtain⟨c,rfl⟩:∃c,b=c+2^p:=⟨b-2^p,by omega⟩
    rw[vZ] at hbit
    rw[Nat.add_sub_cancel]
    simpa using hbit
   rw[e,vZ,hbit,e2]
   have h4:b-2^p<2^n:=by omega
   simp[hb,ge,h4]
 ·have h3:¬b+2^p<2^n:=by omega
  have h5:(decide (2^p<=b)&&(decide (b-2^p<2^n)&&(f (b-2^p) != (f (b-2^p)&&(b-2^p).testBit p))))=false:=by
   by_cases h1:2^p<=b
   ·by_cases h4:b-2^p<2^n
    ·-- b lies at or beyond 2^n,less 2^p below it: its bit p is 1
     have e:(b-2^p).testBit p=true:=by
      cases q:(b-2^p).testBit p with
      | true=>rfl
      | false =>
       exfalso
       have l:=yU (v:=true) h4 hp
       unfold zE at l
       rw[q,if_neg (by decide),if_pos rfl] at l
       omega
     rw[e]
     cases f (b-2^p)<;>simp
    ·simp[h4]
   ·simp[h1]
  rw[h5]
  simp[hb,h3]
end Sen
namespace Sen
open PySem
theorem tb0 (a:Nat):a%2=(a.testBit 0).toNat:=by
 rw[Nat.testBit_zero]
 have:=Nat.mod_two_eq_zero_or_one a
 rcases this with h | h<;>rw[h]<;>rfl
theorem zef:∀(n a b:Nat),a<=n->(a ^^^ b)+2*(a&&&b)=a+b
 | 0,a,b,h=>by
  have:a=0:=by omega
  subst this; simp
 | n+1,a,b,h=>by
  by_cases h0:a=0
  ·subst h0; simp
  ·have ih:=zef n (a / 2) (b / 2) (by omega)
   have e1:(a ^^^ b) / 2=a / 2 ^^^ b / 2:=Nat.xor_div_two
   have e2:(a&&&b) / 2=a / 2&&&b / 2:=Nat.and_div_two
   have d1:=Nat.div_add_mod (a ^^^ b) 2
   have d2:=Nat.div_add_mod (a&&&b) 2
   have d3:=Nat.div_add_mod a 2
   have d4:=Nat.div_add_mod b 2
   rw[e1] at d1
   rw[e2] at d2
   cases ha:a.testBit 0<;>cases hb:b.testBit 0
   ·have m1:(a ^^^ b)%2=0:=by rw[tb0,Nat.testBit_xor,ha,hb]; rfl
    have m2:(a&&&b)%2=0:=by rw[tb0,Nat.testBit_and,ha,hb]; rfl
    have m3:a%2=0:=by rw[tb0,ha]; rfl
    have m4:b%2=0:=by rw[tb0,hb]; rfl
    omega
   ·have m1:(a ^^^ b)%2=1:=by rw[tb0,Nat.testBit_xor,ha,hb]; rfl
    have m2:(a&&&b)%2=0:=by rw[tb0,Nat.testBit_and,ha,hb]; rfl
    have m3:a%2=0:=by rw[tb0,ha]; rfl
    have m4:b%2=1:=by rw[tb0,hb]; rfl
    omega
   ·have m1:(a ^^^ b)%2=1:=by rw[tb0,Nat.testBit_xor,ha,hb]; rfl
    have m2:(a&&&b)%2=0:=by rw[tb0,Nat.testBit_and,ha,hb]; rfl
    have m3:a%2=1:=by rw[tb0,ha]; rfl
    have m4:b%2=0:=by rw[tb0,hb]; rfl
    omega
   ·have m1:(a ^^^ b)%2=0:=by rw[tb0,Nat.testBit_xor,ha,hb]; rfl
    have m2:(a&&&b)%2=1:=by rw[tb0,Nat.testBit_and,ha,hb]; rfl
    have m3:a%2=1:=by rw[tb0,ha]; rfl
    have m4:b%2=1:=by rw[tb0,hb]; rfl
    omega
theorem zfQ:∀(n a b:Nat),a<=n->(a|||b)+(a&&&b)=a+b
 | 0,a,b,h=>by
  have:a=0:=by omega
  subst this; simp
 | n+1,a,b,h=>by
  by_cases h0:a=0
  ·subst h0; simp
  ·have ih:=zfQ n (a / 2) (b / 2) (by omega)
   have e1:(a|||b) / 2=a / 2|||b / 2:=Nat.or_div_two
   have e2:(a&&&b) / 2=a / 2&&&b / 2:=Nat.and_div_two
   have d1:=Nat.div_add_mod (a|||b) 2
   have d2:=Nat.div_add_mod (a&&&b) 2
   have d3:=Nat.div_add_mod a 2
   have d4:=Nat.div_add_mod b 2
   rw[e1] at d1
   rw[e2] at d2
   cases ha:a.testBit 0<;>cases hb:b.testBit 0
   ·have m1:(a|||b)%2=0:=by rw[tb0,Nat.testBit_or,ha,hb]; rfl
    have m2:(a&&&b)%2=0:=by rw[tb0,Nat.testBit_and,ha,hb]; rfl
    have m3:a%2=0:=by rw[tb0,ha]; rfl
    have m4:b%2=0:=by rw[tb0,hb]; rfl
    omega
   ·have m1:(a|||b)%2=1:=by rw[tb0,Nat.testBit_or,ha,hb]; rfl
    have m2:(a&&&b)%2=0:=by rw[tb0,Nat.testBit_and,ha,hb]; rfl
    have m3:a%2=0:=by rw[tb0,ha]; rfl
    have m4:b%2=1:=by rw[tb0,hb]; rfl
    omega
   ·have m1:(a|||b)%2=1:=by rw[tb0,Nat.testBit_or,ha,hb]; rfl
    have m2:(a&&&b)%2=0:=by rw[tb0,Nat.testBit_and,ha,hb]; rfl
    have m3:a%2=1:=by rw[tb0,ha]; rfl
    have m4:b%2=0:=by rw[tb0,hb]; rfl
    omega
   ·have m1:(a|||b)%2=1:=by rw[tb0,Nat.testBit_or,ha,hb]; rfl
    have m2:(a&&&b)%2=1:=by rw[tb0,Nat.testBit_and,ha,hb]; rfl
    have m3:a%2=1:=by rw[tb0,ha]; rfl
    have m4:b%2=1:=by rw[tb0,hb]; rfl
    omega
theorem zgM (a b:Nat):Builtin.bitAnd (a:Int) (b:Int)=((a&&&b:Nat):Int):=by
 unfold Builtin.bitAnd
 rw[decide_eq_true (Int.natCast_nonneg a),decide_eq_true (Int.natCast_nonneg b)]
 simp
theorem orI (a b:Nat):Builtin.bitOr (a:Int) (b:Int)=((a|||b:Nat):Int):=by
 rw[PyProof.Rows.bitOr_and,zgM]
 have:=zfQ a a b (Nat.le_refl _)
 omega
theorem zjL (a b:Nat):Builtin.bitXor (a:Int) (b:Int)=((a ^^^ b:Nat):Int):=by
 rw[PyProof.Rows.bitXor_and,zgM]
 have:=zef a a b (Nat.le_refl _)
 omega
theorem ziC (n:Nat):(2:Int)^n=((2^n:Nat):Int):=by simp
end Sen
namespace L2
open PySem PySem.Spec PyProof.Rows Sen
section
variable {X:Cx}
def zjc:R2:=fun x y H Q=>∃a n:Nat,x=.int a/\y=.int n/\a<2^10000/\n<=10000/\Q (.int (a*2^n:Nat)) H
theorem ZG:OpR X (binaryOp .LShift) zjc:=by
 intro pins s σ H x y v u Q I rx ry h
 obtain⟨a,n,rfl,rfl,ha,hn,q⟩:=h
 obtain⟨t,rfl⟩:=rx
 obtain⟨t',rfl⟩:=ry
 have hb:Builtin.Int.intBits (a:Int)<=10000:=intBits_le (by simpa using ha)
 refine lshift_int (Int.natCast_nonneg n) ?_ ?_
 ·have e:(2:Int)^27=134217728:=by decide
  rw[e]; omega
 ·rw[Int.toNat_natCast]
  have e:(a:Int)*2^n=((a*2^n:Nat):Int):=by rw[ziC,Int.natCast_mul]
  rw[e]
  exact⟨.int (a*2^n:Nat),H,I.tok _,⟨_,rfl⟩,q⟩
def zjd:R2:=fun x y H Q=>∃a n:Nat,x=.int a/\y=.int n/\Q (.int (a / 2^n:Nat)) H
theorem zhE:OpR X (binaryOp .RShift) zjd:=by
 intro pins s σ H x y v u Q I rx ry h
 obtain⟨a,n,rfl,rfl,q⟩:=h
 refine zin pins s σ H _ _ v u Q I rx ry ⟨_,_,rfl,rfl,Int.natCast_nonneg n,?_⟩
 show Q (.int ((a:Int) / 2^(n:Int).toNat)) H
 rw[Int.toNat_natCast,ziC,<-Int.natCast_ediv]
 exact q
def rN2 (g:Nat->Nat->Nat):R2:=fun x y H Q=>∃a b:Nat,x=.int a/\y=.int b/\Q (.int (g a b:Nat)) H
theorem vM:OpR X (binaryOp .BitAnd) (rN2 (·&&&·)):=by
 intro pins s σ H x y v u Q I rx ry h
 obtain⟨a,b,rfl,rfl,q⟩:=h
 exact zcz pins s σ H _ _ v u Q I rx ry ⟨_,_,rfl,rfl,by show Q (.int (Builtin.bitAnd a b)) H; rw[zgM]; exact q⟩
theorem Wi:OpR X (binaryOp .BitOr) (rN2 (·|||·)):=by
 intro pins s σ H x y v u Q I rx ry h
 obtain⟨a,b,rfl,rfl,q⟩:=h
 exact zi6 pins s σ H _ _ v u Q I rx ry ⟨_,_,rfl,rfl,by show Q (.int (Builtin.bitOr a b)) H; rw[orI]; exact q⟩
theorem Ux:OpR X (binaryOp .BitXor) (rN2 (· ^^^ ·)):=by
 intro pins s σ H x y v u Q I rx ry h
 obtain⟨a,b,rfl,rfl,q⟩:=h
 exact zio pins s σ H _ _ v u Q I rx ry ⟨_,_,rfl,rfl,by show Q (.int (Builtin.bitXor a b)) H; rw[zjL]; exact q⟩
end
end L2
namespace L2
open PySem PySem.Spec PyProof.Rows
def strsOf:List Expr->Option (List Str)
 | []=>some []
 | .Constant (.str x) _ _::r=>(strsOf r).map (x::·)
 | _=>none
theorem zdQ {e:Expr} {r:List Expr} {xs:List Str} (h:strsOf (e::r)=some xs):∃x j p ys,e=.Constant (.str x) j p/\strsOf r=some ys/\xs=x::ys:=by
 cases e with
 | Constant c j p =>
  cases c with
  | str x =>
   have h':(strsOf r).map (x::·)=some xs:=h
   cases hr:strsOf r with
   | none=>rw[hr] at h'; cases h'
   | some ys =>
    rw[hr] at h'
    exact⟨x,j,p,ys,rfl,rfl,(Option.some.inj h').symm⟩
  | _=>cases h
 | _=>cases h
def zje (xs:List Str):TA:=fun _ H Q=>Q (xs.map V.str) H
def zhg (xs:List Str):TE:=fun _ H Q=>xs.length<=sizeLine/\∀p,H p=none->Q (.ref p) (upd H p (.lst (xs.map V.str)))
section
variable {X:Cx}
theorem zhF {es:List Expr}:∀{xs:List Str},strsOf es=some xs->PA X es (zje xs):=by
 induction es with
 | nil =>
  intro xs h
  cases h
  exact fun pos pins s σ H Q I q=>zc pos pins s σ H Q I q
 | cons e r ih =>
  intro xs h
  obtain⟨x,j,p,ys,rfl,hr,rfl⟩:=zdQ h
  exact fun pos pins s σ H Q I q=>za (xZ (x:=x) (j:=j) (pos:=p)) (ih hr) rfl pos pins s σ H Q I q
theorem zhG {es:List Expr} {pos:Pos} {xs:List Str} (h:strsOf es=some xs):PE X (.List es pos) (zhg xs):=by
 intro pins s σ H Q I q
 refine xV (zhF h) pins s σ H Q I ⟨?_,q.2⟩
 rw[List.length_map]; exact q.1
def J6:Stmt->Option (Str×List Str)
 | .Assign [.Name x _] (.List es _) _=>(strsOf es).map (x,·)
 | _=>none
theorem zcJ {st:Stmt} {x:Str} {xs:List Str} (h:J6 st=some (x,xs)):∃p es q r,st=.Assign [.Name x p] (.List es q) r/\strsOf es=some xs:=by
 unfold J6 at h
 split at h
 ·rename_i y p es q r
  cases hs:strsOf es with
  | none=>rw[hs] at h; cases h
  | some ys =>
   rw[hs] at h
   cases h
   exact⟨_,_,_,_,rfl,hs⟩
 ·cases h
theorem zhH {i:Nat} {x:Str} {xs:List Str} {st:Stmt} (h:J6 st=some (x,xs)) (hN:X.N.Nodup) (hi:X.N[i]?=some x) (hx:Loc X.env.scope x) (hf:X.fn x=true\/X.env.scope.names.lookup x=some .local):PS X st (zgr (zhg xs) (Wf i)):=by
 obtain⟨p,es,q,r,rfl,hs⟩:=zcJ h
 exact zH hN hi hx (zhG hs) rfl hf
end
end L2
set_option exponentiation.threshold 20000
namespace Sen
open PySem L2
section
variable {K:PySem.W.Frag}
theorem J7 {a k:Nat} (h:a<2^k) (hk:k<=10000):a<2^10000:=Nat.lt_of_lt_of_le h (Nat.pow_le_pow_right (by decide) hk)
theorem Jc {n:Nat} (hn:n<=8):2^n<=256:=Nat.pow_le_pow_right (n:=2) (by decide) hn
def Xn:Sp:=fun vs H Q _=>∃n:Nat,vs=[.int n]/\n<=8/\Q (.int ((2^2^n-1:Nat):Int)) H
def vW:Sp:=fun vs H Q _=>∃p n:Nat,vs=[.int p,.int n]/\p<n/\n<=8/\∀R:Nat,zL n R (fun b=>b.testBit p)->Q (.int R) H
def Xo:Sp:=fun vs H Q _=>∃(N p n:Nat) (f:Nat->Bool),vs=[.int N,.int p,.int n]/\p<n/\n<=8/\zL n N f/\∀R:Nat,zL n R (fun b=>f (zE b p (!b.testBit p)))->Q (.int R) H
def ZJ:List Bool->Nat
 | []=>0
 | b::r=>b.toNat+2*ZJ r
theorem J8:∀r:List Bool,ZJ r<2^r.length
 | []=>by decide
 | b::r=>by
  have:=J8 r
  show b.toNat+2*ZJ r<2^(r.length+1)
  rw[Nat.pow_succ]
  cases b<;>simp<;>omega
theorem Kl:∀(r:List Bool) (i:Nat),(ZJ r).testBit i=(r[i]?).getD false
 | [],i=>by simp[ZJ]
 | b::r,0=>by
  show(b.toNat+2*ZJ r).testBit 0=b
  rw[Nat.testBit_zero]
  cases b<;>simp<;>omega
 | b::r,i+1=>by
  show(b.toNat+2*ZJ r).testBit (i+1)=(r[i]?).getD false
  rw[Nat.testBit_succ,<-Kl r i]
  have:(b.toNat+2*ZJ r) / 2=ZJ r:=by cases b<;>simp<;>omega
  rw[this]
abbrev Xc (r:List Bool):List V:=r.map fun b=>V.int (b.toNat:Nat)
theorem Jd {H:Hp} {p:Addr} (h:H p=none) (o:HO):Same H (upd H p o):=fun b u q=>by rw[zB (zF q h)]; exact q
def Je (K:PySem.W.Frag):Sp:=fun vs H Q _=>∃(l:Addr) (ns:List Int) (i:Int),vs=[.ref l,.int i]/\SqL K H l (ns.map V.int)/\0<=i/\∀v:Int,Q (.int v) H
def Mh:Sp:=fun vs H Q _=>∃(c:Int) (k:Nat) (b:Int),vs=[.int c,.int k,.int b]/\k<=40/\0<b/\b<1073741824/\∀r:Int,0<=r->r<b->Q (.int r) H
def yN:List Str:=["a", "b", "c", "d", "e", "f", "g", "h"]
structure yZ (os:List Str):Prop where
 nd:os.Nodup
 mem:∀x∈os,x∈yN
 pos:0<os.length
theorem Jf {α:Type} [DecidableEq α]:∀{xs ys:List α},xs.Nodup->(∀x∈xs,x∈ys)->xs.length<=ys.length
 | [],_,_,_=>Nat.zero_le _
 | x::xs,ys,nd,h=>by
  obtain⟨h1,h2⟩:=List.nodup_cons.mp nd
  have hx:=h x List.mem_cons_self
  have ih:=Jf (xs:=xs) (ys:=ys.erase x) h2 fun y hy=>(List.mem_erase_of_ne (fun e:y=x=>h1 (by rw[<-e]; exact hy))).mpr (h y (List.mem_cons_of_mem _ hy))
  rw[List.length_erase_of_mem hx] at ih
  have:=List.length_pos_of_mem hx
  rw[List.length_cons]
  omega
theorem yZ.le {os:List Str} (h:yZ os):os.length<=8:=Jf h.nd h.mem
def IsS (H:Hp):Sn->Addr->Prop
 | .c0 y,p=>H p=some (.tup [.str (Sn.word (.c0 y))])
 | .mk x,p=>H p=some (.tup [.str "mark", .str x])
 | .nt s,p=>∃q,H p=some (.tup [.str "not", .ref q])/\IsS H s q
 | .b2 o s t,p=>∃q r,H p=some (.tup [.str (w2 o),.ref q,.ref r])/\IsS H s q/\IsS H t r
 | .q1 o x s,p=>∃q,H p=some (.tup [.str (if o then "some" else "each"),.str x,.ref q])/\IsS H s q
def yw (H H':Hp):Prop:=∀b xs,H b=some (.tup xs)->H' b=some (.tup xs)
theorem yw.refl (H:Hp):yw H H:=fun _ _ h=>h
theorem yw.trans {H H1 H2:Hp} (a:yw H H1) (b:yw H1 H2):yw H H2:=fun c o h=>b c o (a c o h)
theorem yw.of {H H':Hp} (g:Same H H'):yw H H':=fun b xs h=>g b _ h
theorem yw.new {H:Hp} {p:Addr} (h:H p=none) (o:HO):yw H (upd H p o):=fun b u q=>by rw[zB (zF q h)]; exact q
theorem yw.lst {H:Hp} {p:Addr} {xs:List V} (h:H p=some (.lst xs)) (o:HO):yw H (upd H p o):=fun b u q=>by rw[zB (Wc q h (fun z=>nomatch z))]; exact q
theorem IsS.mono {H H':Hp} (g:yw H H'):∀{s:Sn} {p:Addr},IsS H s p->IsS H' s p
 | .c0 y,p,h=>g _ _ h
 | .mk x,p,h=>g _ _ h
 | .nt s,p,⟨q,h,k⟩=>⟨q,g _ _ h,k.mono g⟩
 | .b2 o s t,p,⟨q,r,h,k,l⟩=>⟨q,r,g _ _ h,k.mono g,l.mono g⟩
 | .q1 o x s,p,⟨q,h,k⟩=>⟨q,g _ _ h,k.mono g⟩
theorem zhI (o:Bool) (x:Str) (s:Sn):Sn.word (.q1 o x s)=if o then Str.ofString "some" else Str.ofString "each" := by cases o<;>rfl
theorem IsS.shape {H:Hp}:∀{s:Sn} {p:Addr},IsS H s p->∃qs:List Addr,H p=some (.tup (.str s.word::(s.letters.map V.str++qs.map V.ref)))/\Paired (IsS H) s.parts qs
 | .c0 y,p,h=>⟨[],h,.nil⟩
 | .mk x,p,h=>⟨[],h,.nil⟩
 | .nt s,p,⟨q,h,k⟩=>⟨[q],h,.cons k .nil⟩
 | .b2 o s t,p,⟨q,r,h,k,l⟩=>⟨[q,r],h,.cons k (.cons l .nil)⟩
 | .q1 o x s,p,⟨q,h,k⟩=>⟨[q],by rw[zhI]; exact h,.cons k .nil⟩
theorem zaK {α:Type} {xs:List α} {i:Int} (h0:-(xs.length:Int)<=i) (h1:i<xs.length):∃(j:Nat) (v:α),atI xs i=some v/\xs[j]?=some v:=by
 by_cases h:0<=i
 ·have hj:i.toNat<xs.length:=by omega
  have q:=vp (xs:=xs) (j:=i.toNat) (List.getElem?_eq_getElem hj)
  have e:((i.toNat:Nat):Int)=i:=by omega
  rw[e] at q
  exact⟨_,_,q,List.getElem?_eq_getElem hj⟩
 ·have hj:(i+xs.length).toNat<xs.length:=by omega
  refine⟨_,_,?_,List.getElem?_eq_getElem hj⟩
  unfold atI ixN
  rw[if_neg h,if_pos h0]
  show xs[(i+xs.length).toNat]?=_
  exact List.getElem?_eq_getElem hj
def T6:List Str:=["mark", "mark", "not", "and", "or", "either", "if", "and", "or", "some", "each", "yes", "no", "mark"]
structure Made (H0 H:Hp) (os:List Str) (m kd:Addr) (ps:List Addr) (d:Nat):Prop where
 old:Same H0 H
 mad:H m=some (.lst (ps.map V.ref))
 kin:H kd=some (.lst (T6.map V.str))
 ne:ps≠[]
 all:∀p∈ps,∃s,IsS H s p/\s.inO os/\s.depth<=d
theorem Made.push {H0 H:Hp} {os:List Str} {m kd p:Addr} {ps:List Addr} {d:Nat} {xs:List V} (M:Made H0 H os m kd ps d) (fm:H0 m=none) (hp:H p=none) {s:Sn} (hs:IsS (upd H p (.tup xs)) s p) (ho:s.inO os) (hd:s.depth<=d+1) (hk:m≠kd) :
  Made H0 (upd (upd H p (.tup xs)) m (.lst ((ps++[p]).map V.ref))) os m kd (ps++[p]) (d+1):=by
 have hm:m≠p:=zF M.mad hp
 have hkp:kd≠p:=zF M.kin hp
 have mad':(upd H p (.tup xs)) m=some (.lst (ps.map V.ref)):=by rw[zB hm]; exact M.mad
 have t1:yw H (upd H p (.tup xs)):=yw.new hp _
 have t2:yw (upd H p (.tup xs)) (upd (upd H p (.tup xs)) m (.lst ((ps++[p]).map V.ref))):=yw.lst mad' _
 refine⟨fun b o h=>?_,zq,?_,by simp,fun q hq=>?_⟩
 ·have h1:=M.old b o h
  rw[zB (zF h fm),zB (zF h1 hp)]
  exact h1
 ·rw[zB (Ne.symm hk),zB hkp]; exact M.kin
 ·rcases List.mem_append.mp hq with z | z
  ·obtain⟨s',q1,q2,q3⟩:=M.all q z
   exact⟨s',(q1.mono t1).mono t2,q2,by omega⟩
  ·have z':q=p:=by simpa using z
   subst z'
   exact⟨s,hs.mono t2,ho,hd⟩
def QZ (K:PySem.W.Frag):Sp:=fun vs H Q _=>∃(sc ol:Addr) (ns:List Int) (t m:Nat) (os:List Str),vs=[.ref sc,.int t,.int m,.ref ol]/\SqL K H sc (ns.map V.int)/\SqL K H ol (os.map V.str)/\0<os.length/\os.length<=8/\0<m/\m<=40/\t<=60 /\
 ∀(p:Addr) (H':Hp) (s:Sn),Same H H'->IsS H' s p->s.inO os->s.depth<=m->Q (.ref p) H'
theorem Km {os:List Str} (h0:0<os.length) (r:Int):∃x,x∈os/\atI (os.map V.str) (r%((os.map V.str).length:Nat))=some (.str x):=by
 have e:(os.map V.str).length=os.length:=List.length_map _
 have m0:0<=r%((os.map V.str).length:Nat):=Int.emod_nonneg _ (by omega)
 have m1:r%((os.map V.str).length:Nat)<((os.map V.str).length:Nat):=Int.emod_lt_of_pos _ (by omega)
 obtain⟨j,v,q1,q2⟩:=zaK (xs:=os.map V.str) (i:=r%((os.map V.str).length:Nat)) (by omega) m1
 rw[List.getElem?_map] at q2
 cases hx:os[j]? with
 | none=>rw[hx] at q2; cases q2
 | some x =>
  rw[hx] at q2
  cases q2
  exact⟨x,List.mem_of_getElem? hx,q1⟩
theorem Mi {ps:List Addr} {i:Int} (h0:-(ps.length:Int)<=i) (h1:i<ps.length):∃p,p∈ps/\atI (ps.map V.ref) i=some (.ref p):=by
 have e:(ps.map V.ref).length=ps.length:=List.length_map _
 obtain⟨j,v,q1,q2⟩:=zaK (xs:=ps.map V.ref) (i:=i) (by omega) (by omega)
 rw[List.getElem?_map] at q2
 cases hx:ps[j]? with
 | none=>rw[hx] at q2; cases q2
 | some x =>
  rw[hx] at q2
  cases q2
  exact⟨x,List.mem_of_getElem? hx,q1⟩
end
end Sen
namespace L2
open PySem
section
variable {α β:Type} {R S:α->β->Prop}
theorem YF:∀{xs ys:List α} {us ws:List β},Paired R xs us->Paired R ys ws->Paired R (xs++ys) (us++ws)
 | _,_,_,_,.nil,s=>s
 | _,_,_,_,.cons r t,s=>.cons r (YF t s)
theorem Yb (f:∀a b,R a b->S a b):∀{xs:List α} {us:List β},Paired R xs us->Paired S xs us
 | _,_,.nil=>.nil
 | _,_,.cons r t=>.cons (f _ _ r) (Yb f t)
theorem wu:∀{xs:List α} {us:List β},Paired R xs us->xs.length=us.length
 | _,_,.nil=>rfl
 | _,_,.cons _ t=>by rw[List.length_cons,List.length_cons,wu t]
theorem Q5:∀{xs:List α} {us:List β} {i:Nat} {x:α},Paired R xs us->xs[i]?=some x->∃u,us[i]?=some u/\R x u
 | _,_,_,_,.nil,e=>by simp at e
 | _,_,0,_,.cons r _,e=>by simp at e; subst e; exact⟨_,rfl,r⟩
 | _,_,i+1,x,.cons _ t,e=>by
  obtain⟨u,h1,h2⟩:=Q5 (i:=i) (x:=x) t (by simpa using e)
  exact⟨u,by simpa using h1,h2⟩
theorem Rj:∀{xs:List α} {us:List β} {i:Nat} {u:β},Paired R xs us->us[i]?=some u->∃x,xs[i]?=some x/\R x u
 | _,_,_,_,.nil,e=>by simp at e
 | _,_,0,_,.cons r _,e=>by simp at e; subst e; exact⟨_,rfl,r⟩
 | _,_,i+1,x,.cons _ t,e=>by
  obtain⟨u,h1,h2⟩:=Rj (i:=i) (u:=x) t (by simpa using e)
  exact⟨u,by simpa using h1,h2⟩
theorem xO {α:Type} {xs:List α} {i:Nat} {x:α} (h:xs[i]?=some x):xs.take (i+1)=xs.take i++[x]:=by
 rw[List.take_succ,h]
 rfl
theorem Same.seqT {K:PySem.W.Frag} {H H':Hp} {a:Addr} {xs:List V} (e:Same H H') (h:SqT K H a xs):SqT K H' a xs:=by
 rcases h with (h | ⟨o,h⟩) | h
 ·exact .inl (.inl (e _ _ h))
 ·exact .inl (.inr ⟨o,e _ _ h⟩)
 ·exact .inr h
theorem Same.new {H:Hp} {p:Addr} (h:H p=none) (o:HO):Same H (upd H p o):=fun b u q=>by rw[zB (zF q h)]; exact q
theorem Same.over {H H':Hp} {p:Addr} (g:Same H H') (h:H p=none) (o:HO):Same H (upd H' p o):=fun b u q=>by rw[zB (zF q h)]; exact g b u q
theorem at0 {α:Type} {x:α} {xs:List α}:atI (x::xs) 0=some x:=vp (j:=0) rfl
theorem at1 {α:Type} {x y:α} {xs:List α}:atI (x::y::xs) 1=some y:=vp (j:=1) rfl
end
section
variable {K:PySem.W.Frag} {a:Addr} {xs:List V} {σ:St} {js:List Nat} {te:TE} {H:Hp} {Qf:Addr->Hp->List V->Prop}
theorem zaL (R:V->V->Prop) (hq:SqL K H a xs) (hz:xs.length<=sizeLine)
  (hs:∀(i:Nat) x H',xs[i]?=some x->Same H H'->te (lcS σ js (some x)) H' fun v H3=>R x v/\Same H H3)
  (me:∀ σ H Q Q',(∀v H1,Q v H1->Q' v H1)->te σ H Q->te σ H Q')
  (hd:∀ys H' p,Paired R xs ys->Same H H'->H' p=none->Qf p H' ys) :
  ∃W:Nat->Nat->List V->Hp->Prop,(∃m,W 0 m [] H)/\∀i m ys H,W i m ys H ->
   ((Itl K a).stop i H/\∀p,H p=none->Qf p H ys) \/
   ((Itl K a).go i H/\ys.length<sizeLine/\∀x H',(Itl K a).yld i H x H'->Ua (lcS σ js (some x)) H' fun b H2 =>
    if b=true then te (lcS σ js (some x)) H2 fun v H3=>∃m',m'<m/\W (i+1) m' (ys++[v]) H3 else ∃m',m'<m/\W (i+1) m' ys H2):=by
 refine zaI (fun i ys H'=>Same H H'/\Paired R (xs.take i) ys) ⟨Same.refl _,.nil⟩ hz ?_ ?_ (fun _ _ _ _ h q=>h _ _ q) me ?_
 ·rintro i ys H' hi ⟨g,r⟩
  have:=wu r
  rw[List.length_take] at this
  exact⟨g.seq hq,by omega⟩
 ·rintro i x ys H' hx ⟨g,r⟩
  show te (lcS σ js (some x)) H' fun v H3=>Same H H3/\Paired R (xs.take (i+1)) (ys++[v])
  refine me _ _ _ _ (fun v H3 h3=>⟨h3.2,?_⟩) (hs i x H' hx g)
  rw[xO hx]
  exact YF r (.cons h3.1 .nil)
 ·rintro ys H' p ⟨g,r⟩ hp
  rw[List.take_length] at r
  exact hd ys H' p r g hp
theorem zaM (R:V->V->Prop) (hq:SqT K H a xs) (hz:xs.length<=sizeLine)
  (hs:∀(i:Nat) x H',xs[i]?=some x->Same H H'->te (lcS σ js (some x)) H' fun v H3=>R x v/\Same H H3)
  (me:∀ σ H Q Q',(∀v H1,Q v H1->Q' v H1)->te σ H Q->te σ H Q')
  (hd:∀ys H' p,Paired R xs ys->Same H H'->H' p=none->Qf p H' ys) :
  ∃W:Nat->Nat->List V->Hp->Prop,(∃m,W 0 m [] H)/\∀i m ys H,W i m ys H ->
   ((Itt K a).stop i H/\∀p,H p=none->Qf p H ys) \/
   ((Itt K a).go i H/\ys.length<sizeLine/\∀x H',(Itt K a).yld i H x H'->Ua (lcS σ js (some x)) H' fun b H2 =>
    if b=true then te (lcS σ js (some x)) H2 fun v H3=>∃m',m'<m/\W (i+1) m' (ys++[v]) H3 else ∃m',m'<m/\W (i+1) m' ys H2):=by
 refine zfK (fun i ys H'=>Same H H'/\Paired R (xs.take i) ys) ⟨Same.refl _,.nil⟩ hz ?_ ?_ (fun _ _ _ _ h q=>h _ _ q) me ?_
 ·rintro i ys H' hi ⟨g,r⟩
  have:=wu r
  rw[List.length_take] at this
  exact⟨g.seqT hq,by omega⟩
 ·rintro i x ys H' hx ⟨g,r⟩
  show te (lcS σ js (some x)) H' fun v H3=>Same H H3/\Paired R (xs.take (i+1)) (ys++[v])
  refine me _ _ _ _ (fun v H3 h3=>⟨h3.2,?_⟩) (hs i x H' hx g)
  rw[xO hx]
  exact YF r (.cons h3.1 .nil)
 ·rintro ys H' p ⟨g,r⟩ hp
  rw[List.take_length] at r
  exact hd ys H' p r g hp
theorem T7 {f:V->V}:∀{xs ys:List V},Paired (fun x v=>v=f x) xs ys->ys=xs.map f
 | _,_,.nil=>rfl
 | _,_,.cons r t=>by rw[List.map_cons,r,T7 t]
end
section
variable {X:Cx} {K:PySem.W.Frag} {a:Expr} {ta:TE}
theorem J9 (h:X.K=K):OpR X (compareOp .In) (rIn K false):=by subst h; exact VD
theorem zcK (h:X.K=K):Y4 X (.builtin "isinstance") (fun xs H Q=>∃x T t b,xs=[x,.ty T]/\Wg K H x t/\PySem.W.kitOne K t (.type T)=some b/\Q (.bl b) H):=by subst h; exact Kf
theorem T8 (h:X.K=K):IxR X (ziu K):=by subst h; exact yr
def Mj (sp:Sp):Prop:=∀vs H Q Q' E,(∀v H1,Q v H1->Q' v H1)->sp vs H Q E->sp vs H Q' E
theorem ze3 {sp:Sp} (m:Mj sp):∀ σ H Q Q',(∀v H1,Q v H1->Q' v H1)->Ld sp [] E0 (Ut (RM 0) K7) σ H Q->Ld sp [] E0 (Ut (RM 0) K7) σ H Q' :=
 fun σ H Q Q' h ⟨v,e,q⟩=>⟨v,e,m _ _ _ _ _ h q⟩
theorem zcL (x:Str) (ts:List Str):inV (.str x) (ts.map V.str)=decide (x∈ts):=by
 induction ts with
 | nil=>rfl
 | cons t r ih =>
  have e:inV (.str x) ((t::r).map V.str)=((t==x)||inV (.str x) (r.map V.str)):=rfl
  rw[e,ih]
  by_cases h:t=x
  ·subst h; simp
  ·have h':¬x=t:=fun z=>h z.symm
   simp[h,h']
theorem wL (ts:List Str):(ts.map V.str).all wA=true:=by
 rw[List.all_map,List.all_eq_true]
 exact fun _ _=>rfl
theorem zgN {w:V} {rest:List V} {m n:Nat} (h:rest.length=m+n):RP (w::rest) (some 1) (some (1+(m:Int)))=rest.take m:=by
 have e1:HT.sIx (w::rest).length 0 (some 1)=min 1 (w::rest).length:=HT.Le _ _ 1
 have e2:HT.sIx (w::rest).length (w::rest).length (some (1+(m:Int)))=min (1+m) (w::rest).length:=by
  have z:(1:Int)+(m:Int)=((1+m:Nat):Int):=by omega
  rw[z]; exact HT.Le _ _ _
 have l:(w::rest).length=m+n+1:=by rw[List.length_cons,h]
 unfold RP
 rw[e1,e2,l,Nat.min_eq_left (by omega),Nat.min_eq_left (by omega),List.drop_one,List.tail_cons]
 congr 1
 omega
theorem zgO {w:V} {rest:List V} {m n:Nat} (h:rest.length=m+n):RP (w::rest) (some (1+(m:Int))) none=rest.drop m:=by
 have e2:HT.sIx (w::rest).length 0 (some (1+(m:Int)))=min (1+m) (w::rest).length:=by
  have z:(1:Int)+(m:Int)=((1+m:Nat):Int):=by omega
  rw[z]; exact HT.Le _ _ _
 have l:(w::rest).length=m+n+1:=by rw[List.length_cons,h]
 unfold RP
 rw[e2,HT.zgy,l,Nat.min_eq_left (by omega),Nat.add_comm 1 m,List.drop_succ_cons,List.take_of_length_le]
 rw[List.length_drop,h]
 omega
theorem zaa {w:V} {rest:List V} {i:Int} {o:Option Int} (h:1<=i):¬(HT.sIx (w::rest).length 0 (some i)=0/\HT.sIx (w::rest).length (w::rest).length o=(w::rest).length):=by
 rintro⟨h1,_⟩
 have e:HT.sIx (w::rest).length 0 (some i)=min i.toNat (w::rest).length:=by
  have z:=HT.Le (w::rest).length 0 i.toNat
  have z2:((i.toNat:Nat):Int)=i:=by omega
  rw[z2] at z
  exact z
 rw[e,List.length_cons] at h1
 omega
end
end L2
namespace Sen
open PySem L2
section
variable {K:PySem.W.Frag}
def Sn.all:Sn->List Str
 | .c0 _=>[]
 | .mk x=>[x]
 | .nt s=>s.all
 | .b2 _ s t=>s.all++t.all
 | .q1 _ x s=>x::s.all
theorem Sn.all_iff:∀(s:Sn) (x:Str),x∈s.all↔x∈s.letters\/∃t∈s.parts,x∈t.all
 | .c0 _,x=>by simp[Sn.all,Sn.letters,Sn.parts]
 | .mk y,x=>by simp[Sn.all,Sn.letters,Sn.parts]
 | .nt s,x=>by simp[Sn.all,Sn.letters,Sn.parts]
 | .b2 _ s t,x=>by simp[Sn.all,Sn.letters,Sn.parts]
 | .q1 _ y s,x=>by simp[Sn.all,Sn.letters,Sn.parts]
theorem Sn.inO_iff {os:List Str}:∀(s:Sn),s.inO os↔∀x∈s.all,x∈os
 | .c0 _=>by simp[Sn.all,Sn.inO]
 | .mk y=>by simp[Sn.all,Sn.inO]
 | .nt s=>by simp only[Sn.all,Sn.inO]; exact Sn.inO_iff s
 | .b2 _ s t=>by
  simp only[Sn.all,Sn.inO,List.mem_append]
  rw[Sn.inO_iff s,Sn.inO_iff t]
  exact⟨fun h x hx=>hx.elim (h.1 x) (h.2 x),fun h=>⟨fun x hx=>h x (.inl hx),fun x hx=>h x (.inr hx)⟩⟩
 | .q1 _ y s=>by
  simp only[Sn.all,Sn.inO,List.mem_cons]
  rw[Sn.inO_iff s]
  exact⟨fun h x hx=>hx.elim (fun e=>by rw[e]; exact h.1) (h.2 x),fun h=>⟨h y (.inl rfl),fun x hx=>h x (.inr hx)⟩⟩
theorem Sn.parts_le:∀s:Sn,s.parts.length<=2
 | .c0 _=>by simp[Sn.parts]
 | .mk _=>by simp[Sn.parts]
 | .nt _=>by simp[Sn.parts]
 | .b2 _ _ _=>by simp[Sn.parts]
 | .q1 _ _ _=>by simp[Sn.parts]
theorem Sn.letters_le:∀s:Sn,s.letters.length<=1
 | .c0 _=>by simp[Sn.letters]
 | .mk _=>by simp[Sn.letters]
 | .nt _=>by simp[Sn.letters]
 | .b2 _ _ _=>by simp[Sn.letters]
 | .q1 _ _ _=>by simp[Sn.letters]
def cnt (ss:List Sn):Nat:=(ss.map Sn.count).sum
theorem cnt_cons (s:Sn) (ss:List Sn):cnt (s::ss)=s.count+cnt ss:=rfl
theorem zhJ (ss ts:List Sn):cnt (ss++ts)=cnt ss+cnt ts:=by
 unfold cnt; rw[List.map_append,List.sum_append]
theorem Rk:∀ss:List Sn,cnt ss=ss.length+cnt (ss.flatMap Sn.parts)
 | []=>rfl
 | s::ss=>by
  rw[cnt_cons,List.flatMap_cons,zhJ,Rk ss,Sn.Kh s,List.length_cons]
  show 1+cnt s.parts+_=_
  omega
theorem zeg (ss:List Sn):ss.length<=cnt ss:=by rw[Rk]; omega
theorem Ml {ss:List Sn} {t:Sn}:t∈ss.flatMap Sn.parts↔∃s∈ss,t∈s.parts:=List.mem_flatMap
def T9:Sp:=fun vs H Q _=>∃x:Str,vs=[.str x]/\Q (.bl (decide (x∈yN))) H
theorem Ko:Mj T9:=fun vs H Q Q' E h ⟨x,e,q⟩=>⟨x,e,h _ _ q⟩
def Q6 (os:List Str):Bool:=decide (0<os.length)&&(os.all (fun x=>decide (x∈yN))&&decide os.Nodup)
theorem zhK {os:List Str} (h:yZ os):Q6 os=true:=by
 unfold Q6
 rw[decide_eq_true h.pos,decide_eq_true h.nd,List.all_eq_true.mpr fun x hx=>decide_eq_true (h.mem x hx)]
 rfl
def zbh (K:PySem.W.Frag):Sp:=fun vs H Q _=>∃(l:Addr) (os:List Str),vs=[.ref l]/\SqL K H l (os.map V.str)/\os.length<=100/\∀H',Same H H'->Q (.bl (Q6 os)) H'
def Mp (n:Nat) (ns:List Int):Bool:=decide (ns.length=n)&&ns.all (fun i=>i==0||i==1)
def zaN (K:PySem.W.Frag):Sp:=fun vs H Q _=>∃(l r:Addr) (xs:List V) (ns:List Int),vs=[.ref l,.ref r]/\SqL K H l xs/\SqL K H r (ns.map V.int)/\ns.length<=1000/\∀H',Same H H'->Q (.bl (Mp xs.length ns)) H'
def wB:List (Str×Int×Int):=[("yes", 0,0),("no", 0,0),("mark", 1,0),("not", 0,1),("and", 0,2),("or", 0,2),("either", 0,2),("if", 0,2),("some", 1,1),("each", 1,1)]
theorem Zm (s:Sn):(s.word,((s.letters.length:Nat):Int),((s.parts.length:Nat):Int))∈wB:=by
 cases s with
 | c0 y =>
  cases y
  ·show((Str.ofString "no", (0:Int),(0:Int)):Str×Int×Int)∈wB
   decide +kernel
  ·show((Str.ofString "yes", (0:Int),(0:Int)):Str×Int×Int)∈wB
   decide +kernel
 | mk x =>
  show((Str.ofString "mark", (1:Int),(0:Int)):Str×Int×Int)∈wB
  decide +kernel
 | nt s =>
  show((Str.ofString "not", (0:Int),(1:Int)):Str×Int×Int)∈wB
  decide +kernel
 | b2 o s t =>
  show((w2 o,(0:Int),(2:Int)):Str×Int×Int)∈wB
  revert o
  decide +kernel
 | q1 o x s =>
  cases o
  ·show((Str.ofString "each", (1:Int),(1:Int)):Str×Int×Int)∈wB
   decide +kernel
  ·show((Str.ofString "some", (1:Int),(1:Int)):Str×Int×Int)∈wB
   decide +kernel
def Vn:Sp:=fun vs H Q _=>∃(p:Addr) (x:Str) (m n:Nat) (rest:List V),vs=[.ref p]/\H p=some (.tup (.str x::rest))/\(x,(m:Int),(n:Int))∈wB/\rest.length=m+n/\∀q,H q=none->Q (.ref q) (upd H q (.tup (rest.take m)))
def Xp:Sp:=fun vs H Q _=>∃(p:Addr) (x:Str) (m n:Nat) (rest:List V),vs=[.ref p]/\H p=some (.tup (.str x::rest))/\(x,(m:Int),(n:Int))∈wB/\rest.length=m+n/\∀q,H q=none->Q (.ref q) (upd H q (.tup (rest.drop m)))
theorem Qa {H:Hp} {s:Sn} {p:Addr} (h:IsS H s p):∃qs:List Addr,H p=some (.tup (.str s.word::(s.letters.map V.str++qs.map V.ref)))/\Paired (IsS H) s.parts qs /\
  (s.letters.map V.str++qs.map V.ref).length=s.letters.length+s.parts.length/\(s.letters.map V.str++qs.map V.ref).take s.letters.length=s.letters.map V.str/\(s.letters.map V.str++qs.map V.ref).drop s.letters.length=qs.map V.ref:=by
 obtain⟨qs,h1,h2⟩:=h.shape
 have l:=wu h2
 refine⟨qs,h1,h2,by simp[l],?_,?_⟩
 ·rw[List.take_append_of_le_length (by simp),List.take_of_length_le (by simp)]
 ·rw[List.drop_append_of_le_length (by simp),List.drop_of_length_le (by simp)]
  rfl
def Sd (K:PySem.W.Frag):Sp:=fun vs H Q _=>∃(l:Addr) (ss:List Sn) (ps:List Addr),vs=[.ref l]/\SqL K H l (ps.map V.ref)/\Paired (IsS H) ss ps/\ss.length<=400 /\
 ∀(l':Addr) (H':Hp) (ps':List Addr),Same H H'->H l'=none->H' l'=some (.lst (ps'.map V.ref))->Paired (IsS H') (ss.flatMap Sn.parts) ps'->Q (.ref l') H'
def Jg:Sp:=fun vs H Q _=>∃(p:Addr) (s:Sn),vs=[.ref p]/\IsS H s p/\(∀x∈s.letters,x∈yN)/\∀H',Same H H'->Q (.bl true) H'
theorem zdR:Mj Jg:=fun vs H Q Q' E h ⟨p,s,e,h1,h2,q⟩=>⟨p,s,e,h1,h2,fun H' g=>h _ _ (q H' g)⟩
abbrev VC (sn:Sn) (zs:List Addr):List V:=V.str sn.word::(sn.letters.map V.str++zs.map V.ref)
def zeh:Sp:=fun vs H Q _=>∃(p:Addr) (s:Sn),vs=[.ref p]/\IsS H s p/\s.inO yN/\s.count<=200/\s.depth<=24/\∀H',Same H H'->Q (.bl true) H'
def Kp (K:PySem.W.Frag):Sp:=fun vs H Q _=>∃(l:Addr) (os:List Str),vs=[.ref l]/\SqL K H l (os.map V.str)/\yZ os/\∀H',Same H H'->Q .non H'
def zbi:Sp:=fun vs H Q _=>∃(p:Addr) (s:Sn),vs=[.ref p]/\IsS H s p/\s.inO yN/\s.count<=200/\s.depth<=24/\∀H',Same H H'->Q .non H'
def zbj (K:PySem.W.Frag):Sp:=fun vs H Q _=>∃(l r:Addr) (xs:List V) (ns:List Int),vs=[.ref l,.ref r]/\SqL K H l xs/\SqL K H r (ns.map V.int)/\ns.length<=1000/\Mp xs.length ns=true/\∀H',Same H H'->Q .non H'
def zab:Sp:=fun vs H Q _=>∃(p:Addr) (s:Sn),vs=[.ref p]/\IsS H s p/\s.count<=400/\∀(l:Addr) (H':Hp) (ts:List Sn) (ps:List Addr),Same H H'->H l=none->H' l=some (.lst (ps.map V.ref))->Paired (IsS H') ts ps ->
 ts.length=s.count->(∀x,(∃t∈ts,x∈t.letters)↔x∈s.all)->Q (.ref l) H'
def Kq:Sp:=fun vs H Q _=>∃(p:Addr) (s:Sn),vs=[.ref p]/\IsS H s p/\s.count<=400/\∀(l:Addr) (H':Hp) (xs:List Str),Same H H'->H l=none->H' l=some (.lst (xs.map V.str))->(∀x,x∈xs↔x∈s.all)->xs.length<=400->Q (.ref l) H'
def Q7 (K:PySem.W.Frag):Sp:=fun vs H Q _=>∃(l:Addr) (x:Str) (os:List Str),vs=[.ref l,.str x]/\SqL K H l (os.map V.str)/\x∈os/\Q .non H
def Kr (K:PySem.W.Frag):Sp:=fun vs H Q _=>∃(l p:Addr) (os:List Str) (s:Sn),vs=[.ref l,.ref p]/\SqL K H l (os.map V.str)/\IsS H s p/\s.count<=400/\s.inO os/\∀H',Same H H'->Q .non H'
end
end Sen
namespace L2
open PySem
section
variable {K:PySem.W.Frag} {a:Addr} {xs:List V} {σ:St} {js:List Nat} {te:TE} {H:Hp} {Qf:Addr->Hp->List V->Prop}
theorem zhL (R:Nat->V->Prop) (hq:SqT K H a xs) (hz:xs.length<=sizeLine)
  (hs:∀(i:Nat) x H',xs[i]?=some x->Same H H'->te (lcS σ js (some x)) H' fun v H3=>R i v/\Same H H3)
  (me:∀ σ H Q Q',(∀v H1,Q v H1->Q' v H1)->te σ H Q->te σ H Q')
  (hd:∀ys H' p,ys.length=xs.length->(∀(j:Nat) v,ys[j]?=some v->R j v)->Same H H'->H' p=none->Qf p H' ys) :
  ∃W:Nat->Nat->List V->Hp->Prop,(∃m,W 0 m [] H)/\∀i m ys H,W i m ys H ->
   ((Itt K a).stop i H/\∀p,H p=none->Qf p H ys) \/
   ((Itt K a).go i H/\ys.length<sizeLine/\∀x H',(Itt K a).yld i H x H'->Ua (lcS σ js (some x)) H' fun b H2 =>
    if b=true then te (lcS σ js (some x)) H2 fun v H3=>∃m',m'<m/\W (i+1) m' (ys++[v]) H3 else ∃m',m'<m/\W (i+1) m' ys H2):=by
 refine zfK (fun i ys H'=>Same H H'/\ys.length=i/\∀(j:Nat) v,ys[j]?=some v->R j v) ⟨Same.refl _,rfl,fun j v h=>by simp at h⟩ hz ?_ ?_ (fun _ _ _ _ h q=>h _ _ q) me ?_
 ·rintro i ys H' hi ⟨g,e,r⟩
  exact⟨g.seqT hq,by omega⟩
 ·rintro i x ys H' hx ⟨g,e,r⟩
  show te (lcS σ js (some x)) H' fun v H3=>Same H H3/\(ys++[v]).length=i+1/\∀(j:Nat) u,(ys++[v])[j]?=some u->R j u
  refine me _ _ _ _ (fun v H3 h3=>⟨h3.2,by rw[List.length_append,e]; rfl,fun j u hj=>?_⟩) (hs i x H' hx g)
  by_cases hlt:j<ys.length
  ·rw[List.getElem?_append_left hlt] at hj
   exact r j u hj
  ·rw[List.getElem?_append_right (by omega)] at hj
   have hj0:j-ys.length=0:=by
    have:=(List.getElem?_eq_some_iff.mp hj).1
    rw[List.length_singleton] at this
    omega
   rw[hj0] at hj
   have ev:v=u:=Option.some.inj hj
   have ej:j=i:=by omega
   rw[<-ev,ej]
   exact h3.1
 ·rintro ys H' p ⟨g,e,r⟩ hp
  exact hd ys H' p e r g hp
theorem zjf {sp:Sp} (m:Mj sp):∀ σ H Q Q',(∀v H1,Q v H1->Q' v H1)->Ld sp [] E0 (Ut (RM 0) (Ut (RM 1) K7)) σ H Q->Ld sp [] E0 (Ut (RM 0) (Ut (RM 1) K7)) σ H Q' :=
 fun σ H Q Q' h ⟨v,e,u,e',q⟩=>⟨v,e,u,e',m _ _ _ _ _ h q⟩
theorem ne_str {x y:Str} (h:x≠y):¬decide (V.str x=V.str y)=true:=fun z=>h (by have:=of_decide_eq_true z; injection this)
theorem len1 {α:Type} {ys:List α} (h:ys.length=1):∃v,ys=[v]:=by
 match ys,h with
 | [v],_=>exact⟨v,rfl⟩
theorem len2 {α:Type} {ys:List α} (h:ys.length=2):∃v u,ys=[v,u]:=by
 match ys,h with
 | [v,u],_=>exact⟨v,u,rfl⟩
end
end L2
namespace Sen
open PySem L2
section
variable {K:PySem.W.Frag}
def ix (os:List Str) (x:Str):Nat:=os.findIdx (·==x)
theorem wU:∀{os:List Str} {x:Str},x∈os->(os.map V.str).findIdx? (fun z=>eqV z (.str x))=some (ix os x)/\ix os x<os.length/\os[ix os x]?=some x
 | t::r,x,h=>by
  unfold ix
  rw[List.map_cons,List.findIdx?_cons,List.findIdx_cons]
  show(if (t==x)=true then some 0 else _)=_/\_
  by_cases e:t=x
  ·subst e
   simp
  ·have hb:(t==x)=false:=by simpa using e
   have hr:x∈r:=by
    rcases List.mem_cons.mp h with z | z
    ·exact absurd z.symm e
    ·exact z
   obtain⟨h1,h2,h3⟩:=wU hr
   rw[hb,h1]
   unfold ix at h2 h3 ⊢
   refine⟨rfl,?_,?_⟩
   ·show(r.findIdx (·==x))+1<(t::r).length
    rw[List.length_cons]; omega
   ·show(t::r)[(r.findIdx (·==x))+1]?=some x
    rw[List.getElem?_cons_succ]; exact h3
theorem zcM {os:List Str} {x y:Str} (hx:x∈os) (hy:y∈os):ix os y=ix os x↔y=x:=by
 constructor
 ·intro e
  have h1:=(wU hx).2.2
  have h2:=(wU hy).2.2
  rw[e,h1] at h2
  exact(Option.some.inj h2).symm
 ·intro e; rw[e]
def Yr (os:List Str) (b:Nat):Str->Bool:=fun x=>b.testBit (ix os x)
theorem Li {os:List Str} {s:Sn} {x:Str} (hs:s.inO os) (hx:x∈os) (b:Nat) (v:Bool):s.val (fun y=>if y=x then v else Yr os b y)=s.val (Yr os (zE b (ix os x) v)):=by
 refine Sn.val_congr s hs fun y hy=>?_
 show _=(zE b (ix os x) v).testBit (ix os y)
 rw[zT]
 by_cases e:y=x
 ·rw[if_pos e,if_pos ((zcM hx hy).mpr e)]
 ·rw[if_neg e,if_neg (fun z=>e ((zcM hx hy).mp z))]
  rfl
theorem xM (b p:Nat):zE b p (b.testBit p)=b:=by unfold zE; rw[if_pos rfl]
theorem zgP {os:List Str} {s:Sn} {x:Str} (hs:s.inO os) (hx:x∈os) (b:Nat):(Sn.q1 true x s).val (Yr os b)=(s.val (Yr os b)||s.val (Yr os (zE b (ix os x) (!b.testBit (ix os x))))):=by
 show(s.val (fun y=>if y=x then true else Yr os b y)||s.val (fun y=>if y=x then false else Yr os b y))=_
 rw[Li hs hx,Li hs hx]
 have z:=xM b (ix os x)
 cases hb:b.testBit (ix os x)
 ·rw[hb] at z; rw[z]; exact Bool.or_comm _ _
 ·rw[hb] at z; rw[z]; rfl
theorem zgQ {os:List Str} {s:Sn} {x:Str} (hs:s.inO os) (hx:x∈os) (b:Nat):(Sn.q1 false x s).val (Yr os b)=(s.val (Yr os b)&&s.val (Yr os (zE b (ix os x) (!b.testBit (ix os x))))):=by
 show(s.val (fun y=>if y=x then true else Yr os b y)&&s.val (fun y=>if y=x then false else Yr os b y))=_
 rw[Li hs hx,Li hs hx]
 have z:=xM b (ix os x)
 cases hb:b.testBit (ix os x)
 ·rw[hb] at z; rw[z]; exact Bool.and_comm _ _
 ·rw[hb] at z; rw[z]; rfl
def TabOf (os:List Str) (s:Sn) (N:Nat):Prop:=zL os.length N (fun b=>s.val (Yr os b))
theorem zjg:∀o,w2 o≠Str.ofString "no" := by decide +kernel
theorem ziD:∀o,w2 o≠Str.ofString "yes" := by decide +kernel
theorem zhM:∀o,w2 o≠Str.ofString "mark" := by decide +kernel
theorem ziE:∀o,w2 o≠Str.ofString "not" := by decide +kernel
theorem zhN:∀o,w2 o≠Str.ofString "some" := by decide +kernel
theorem zhO:∀o,w2 o≠Str.ofString "each" := by decide +kernel
theorem zjM (o:Fin 4):o=0\/o=1\/o=2\/o=3:=by
 match o with
 | 0=>exact .inl rfl
 | 1=>exact .inr (.inl rfl)
 | 2=>exact .inr (.inr (.inl rfl))
 | 3=>exact .inr (.inr (.inr rfl))
def zcd:Sp:=fun vs H Q _=>∃(o:Fin 4) (N M n:Nat) (f g:Nat->Bool),vs=[.str (w2 o),.int N,.int M,.int ((2^2^n-1:Nat):Int)]/\zL n N f/\zL n M g/\∀R:Nat,zL n R (fun b=>Sn.op2 o (f b) (g b))->Q (.int R) H
def Uy (K:PySem.W.Frag) (d:Nat):Sp:=fun vs H Q _=>∃(p l:Addr) (s:Sn) (os:List Str),vs=[.ref p,.ref l]/\IsS H s p/\SqL K H l (os.map V.str)/\s.inO os/\os.length<=8/\s.depth<=d/\∀(N:Nat) (H':Hp),Same H H'->TabOf os s N->Q (.int N) H'
theorem ze4 (d:Nat):Mj (Uy K d):=fun vs H Q Q' E h ⟨p,l,s,os,e,h1,h2,h3,h4,h5,q⟩=>⟨p,l,s,os,e,h1,h2,h3,h4,h5,fun N H' g z=>h _ _ (q N H' g z)⟩
theorem zfR (r:List Bool):Xc r=(r.map fun b=>((b.toNat:Nat):Int)).map V.int:=by rw[List.map_map]; rfl
theorem ze5 (r:List Bool) {n:Nat} (h:r.length=n):Mp n (r.map fun b=>((b.toNat:Nat):Int))=true:=by
 unfold Mp
 rw[List.length_map,decide_eq_true h,List.all_map,Bool.true_and,List.all_eq_true]
 intro b _
 cases b<;>rfl
end
end Sen
namespace L2
open PySem
end L2
namespace Sen
open PySem L2
section
variable {K:PySem.W.Frag}
def ze6 (K:PySem.W.Frag):Sp:=fun vs H Q _=>∃(a:Addr) (ns:List Int),vs=[.ref a]/\SqL K H a (ns.map V.int)/\ns.length<=63/\∀H',Q (.bl true) H'
end
end Sen
namespace L2
open PySem PySem.Spec PyProof.Rows
section
variable {κ:Type} [DecidableEq κ]
def vI (kvs:List (κ×V)) (k:κ):Option V:=(kvs.find? fun kv=>decide (kv.1=k)).map (·.2)
def putK (kvs:List (κ×V)) (k:κ) (v:V):List (κ×V) :=
 if (kvs.any fun kv=>decide (kv.1=k))=true then kvs.map (fun kv=>if kv.1=k then (kv.1,v) else kv) else kvs++[(k,v)]
theorem vO {p:κ×V} {r:List (κ×V)} {k:κ} (e:p.1=k):vI (p::r) k=some p.2:=by simp[vI,List.find?_cons,e]
theorem vP {p:κ×V} {r:List (κ×V)} {k:κ} (e:¬p.1=k):vI (p::r) k=vI r k:=by simp[vI,List.find?_cons,e]
theorem Q8 (k:κ):∀kvs:List (κ×V),(kvs.any fun kv=>decide (kv.1=k))=(vI kvs k).isSome
 | []=>rfl
 | p::r=>by
  rw[List.any_cons]
  by_cases e:p.1=k
  ·simp only[vO e,decide_eq_true e,Bool.true_or,Option.isSome_some]
  ·rw[vP e,decide_eq_false e,Bool.false_or]; exact Q8 k r
theorem zcN (k j:κ) (y:V):∀kvs:List (κ×V),vI (kvs.map fun kv=>if kv.1=k then (kv.1,y) else kv) j=(vI kvs j).map fun x=>if j=k then y else x
 | []=>rfl
 | p::r=>by
  have ih:=zcN k j y r
  rw[List.map_cons]
  by_cases h:p.1=k
  ·rw[if_pos h]
   by_cases e:p.1=j
   ·rw[vO (p:=(p.1,y)) e,vO e,Option.map_some,if_pos (e.symm.trans h)]
   ·rw[vP (p:=(p.1,y)) e,vP e,ih]
  ·rw[if_neg h]
   by_cases e:p.1=j
   ·rw[vO (p:=p) e,vO e,Option.map_some,if_neg (fun z=>h (e.trans z))]
   ·rw[vP (p:=p) e,vP e,ih]
theorem zbk (k j:κ) (y:V):∀kvs:List (κ×V),vI kvs k=none->vI (kvs++[(k,y)]) j=if j=k then some y else vI kvs j
 | [],_=>by
  by_cases e:k=j
  ·rw[if_pos e.symm]; exact vO (p:=(k,y)) e
  ·rw[if_neg (fun z=>e z.symm)]; exact vP (p:=(k,y)) e
 | p::r,hn=>by
  rw[List.cons_append]
  have hk:¬p.1=k:=fun z=>by rw[vO z] at hn; cases hn
  rw[vP hk] at hn
  have ih:=zbk k j y r hn
  by_cases e:p.1=j
  ·rw[vO e,vO e,if_neg (fun z=>hk (e.trans z))]
  ·rw[vP e,vP e,ih]
theorem Jh (kvs:List (κ×V)) (k j:κ) (y:V):vI (putK kvs k y) j=if j=k then some y else vI kvs j:=by
 unfold putK
 by_cases a:(kvs.any fun kv=>decide (kv.1=k))=true
 ·rw[if_pos a,zcN]
  rw[Q8] at a
  by_cases e:j=k
  ·obtain⟨x,hx⟩:=Option.isSome_iff_exists.mp a
   rw[if_pos e,e,hx,Option.map_some,if_pos rfl]
  ·rw[if_neg e]
   cases vI kvs j with
   | none=>rfl
   | some x=>rw[Option.map_some,if_neg e]
 ·rw[if_neg a]
  refine zbk k j y kvs ?_
  rw[Q8] at a
  cases q:vI kvs k with
  | none=>rfl
  | some x=>rw[q] at a; exact(a rfl).elim
theorem Vo (kvs:List (κ×V)) (k:κ) (v:V):(putK kvs k v).length<=kvs.length+1:=by
 unfold putK
 split
 ·rw[List.length_map]; omega
 ·rw[List.length_append,List.length_cons,List.length_nil]; omega
theorem Yq.isSome_eq {o:Option V} {u:Option Value} (r:Yq o u):o.isSome=u.isSome:=by
 cases o with
 | none=>cases u with
  | none=>rfl
  | some _=>exact(show False from r).elim
 | some _=>cases u with
  | none=>exact(show False from r).elim
  | some _=>rfl
theorem KV.val {kvs:List (κ×V)} {vs:List (κ×Value)} (r:KV kvs vs) (k:κ):Yq (vI kvs k) (valueAt vs k):=by
 unfold KV at r
 induction r with
 | nil=>exact True.intro
 | @cons p q ps qs h t ih =>
  obtain⟨h1,h2⟩:=h
  by_cases e:p.1=k
  ·have e':q.1=k:=h1.symm.trans e
   have b:valueAt (q::qs) k=some q.2:=by simp[valueAt,List.find?_cons,e']
   rw[vO e,b]; exact h2
  ·have e':¬q.1=k:=fun z=>e (h1.trans z)
   have b:valueAt (q::qs) k=valueAt qs k:=by simp[valueAt,List.find?_cons,e']
   rw[vP e,b]; exact ih
theorem KV.any {kvs:List (κ×V)} {vs:List (κ×Value)} (r:KV kvs vs) (k:κ):(kvs.any fun kv=>decide (kv.1=k))=vs.any fun kv=>decide (kv.1=k):=by
 unfold KV at r
 induction r with
 | nil=>rfl
 | cons h t ih=>rw[List.any_cons,List.any_cons,ih,h.1]
theorem KV.repl {kvs:List (κ×V)} {vs:List (κ×Value)} (r:KV kvs vs) (k:κ) {y:V} {u:Value} (ry:RelV y u) :
  KV (kvs.map fun kv=>if kv.1=k then (kv.1,y) else kv) (vs.map fun kv=>if kv.1=k then (kv.1,u) else kv):=by
 unfold KV at r ⊢
 induction r with
 | nil=>exact .nil
 | @cons p q ps qs h t ih =>
  rw[List.map_cons,List.map_cons]
  refine .cons ?_ ih
  obtain⟨h1,h2⟩:=h
  by_cases e:p.1=k
  ·rw[if_pos e,if_pos (h1.symm.trans e)]; exact⟨h1,ry⟩
  ·rw[if_neg e,if_neg (fun z=>e (h1.trans z))]; exact⟨h1,h2⟩
theorem KV.put {kvs:List (κ×V)} {vs:List (κ×Value)} (r:KV kvs vs) (k:κ) {y:V} {u:Value} (ry:RelV y u):KV (putK kvs k y) (stored vs k u):=by
 unfold putK stored
 rw[r.any k]
 by_cases e:(vs.any fun kv=>decide (kv.1=k))=true
 ·rw[if_pos e,if_pos e]; exact r.repl k ry
 ·rw[if_neg e,if_neg e]; exact Paired.snoc r ⟨rfl,ry⟩
theorem KV.length {kvs:List (κ×V)} {vs:List (κ×Value)} (r:KV kvs vs):kvs.length=vs.length:=Paired.length r
end
theorem zac {P:Program} {w:World} {k:Key} {u:Value} (r:RelV (kV k) u):(xX P w).is k u=true:=by
 cases k with
 | inl i=>obtain⟨t,e⟩:=(show ∃t,u=Value.int i t from r); subst e; exact zdM P w i t
 | inr x=>obtain⟨t,e⟩:=(show ∃t,u=Value.str x t from r); subst e; exact zdN P w x t
theorem zbl {P:Program} {w:World}:∀{ks:List Key} {us:List Value},Vals (ks.map kV) us->ItemsAre (xX P w) ks us
 | [],_,r=>by rw[List.map_nil] at r; cases r; exact .nil
 | k::ks,_,r=>by
  rw[List.map_cons] at r
  cases r with
  | cons h t=>exact .cons (zac h) (zbl t)
abbrev KT (H:Hp):List (List Key×V)->List (List Key×Addr×Value)->Prop:=Paired fun p q=>p.1=q.1/\H q.2.1=some (.tup (p.1.map kV))/\RelV p.2 q.2.2
theorem KT.val {H:Hp} {kvs:List (List Key×V)} {xs:List (List Key×Addr×Value)} (r:KT H kvs xs) (k:List Key):Yq (vI kvs k) ((atKey xs k).map (·.2)):=by
 induction r with
 | nil=>exact True.intro
 | @cons p q ps qs h t ih =>
  obtain⟨h1,_,h2⟩:=h
  by_cases e:p.1=k
  ·have e':q.1=k:=h1.symm.trans e
   have b:atKey (q::qs) k=some q.2:=by simp[atKey,List.find?_cons,e']
   rw[vO e,b]; exact h2
  ·have e':¬q.1=k:=fun z=>e (h1.trans z)
   have b:atKey (q::qs) k=atKey qs k:=by simp[atKey,List.find?_cons,e']
   rw[vP e,b]; exact ih
theorem KT.repl {H:Hp} {kvs:List (List Key×V)} {xs:List (List Key×Addr×Value)} (r:KT H kvs xs) (k:List Key) {y:V} {u:Value} (ry:RelV y u) :
  KT H (kvs.map fun kv=>if kv.1=k then (kv.1,y) else kv) (xs.map (putAt k u)):=by
 induction r with
 | nil=>exact .nil
 | @cons p q ps qs h t ih =>
  rw[List.map_cons,List.map_cons]
  refine .cons ?_ ih
  obtain⟨h1,h2,h3⟩:=h
  unfold putAt
  by_cases e:p.1=k
  ·rw[if_pos e,if_pos (h1.symm.trans e)]; exact⟨h1,h2,ry⟩
  ·rw[if_neg e,if_neg (fun z=>e (h1.trans z))]; exact⟨h1,h2,h3⟩
theorem KT.put {H:Hp} {kvs:List (List Key×V)} {xs:List (List Key×Addr×Value)} (r:KT H kvs xs) (k:List Key) {b:Addr} {y:V} {u:Value} (hb:H b=some (.tup (k.map kV))) (ry:RelV y u) :
  KT H (putK kvs k y) (storedH xs k b u):=by
 have e:(kvs.any fun kv=>decide (kv.1=k))=(atKey xs k).isSome:=by
  rw[Q8,(r.val k).isSome_eq,Option.isSome_map]
 unfold putK storedH
 rw[e]
 by_cases q:(atKey xs k).isSome=true
 ·rw[if_pos q,if_pos q]; exact r.repl k ry
 ·rw[if_neg q,if_neg q]; exact Paired.snoc r ⟨rfl,hb,ry⟩
theorem KT.keeps {H H':Hp} {kvs:List (List Key×V)} {xs:List (List Key×Addr×Value)} (r:KT H kvs xs) (ht:∀b ys,H b=some (.tup ys)->H' b=some (.tup ys)):KT H' kvs xs :=
 Paired.mapP r fun _ _ z=>⟨z.1,ht _ _ z.2.1,z.2.2⟩
section
variable {P:Program} {w:World} {H:Hp} {h:Heap} {a:Addr}
theorem zhh {u:HO} (ok:HOk P w H h) (e:Rd H a u):xY P w H h a u:=e.ok ok
theorem zce {kvs:List (Key×V)} (ok:HOk P w H h) (e:Rd H a (.dK kvs)):kvs.length<=sizeLine/\(a==sysModules)=false/\∃vs,KV kvs vs/\h.DictOf (xX P w) a vs :=
 show xY P w H h a (.dK kvs) from zhh ok e
theorem zhi {kvs:List (Key×V)} (ok:HOk P w H h) (e:H a=some (.dK kvs)):kvs.length<=sizeLine/\(a==sysModules)=false/\∃vs,KV kvs vs/\h.DictOf (xX P w) a vs:=zce ok (.inl e)
theorem zad {ks:List Key} (ok:HOk P w H h) (e:H a=some (.tup (ks.map kV))):(tupleKind (xX P w)).is h ks a:=by
 obtain⟨_,its,r,o,h1,h2,n,h3⟩:=(show xY P w H h a (.tup (ks.map kV)) from ok a _ e)
 exact⟨o,its.toArray,n,h1,h2,h3,by simpa using zbl r⟩
theorem zcf {kvs:List (List Key×V)} (ok:HOk P w H h) (e:Rd H a (.dT kvs)):kvs.length<=sizeLine/\(a==sysModules)=false /\
  ∃xs,KT H kvs xs/\h.DictOfH (tupleKind (xX P w)) a xs:=by
 obtain⟨z,y,xs,r,o,es,ep,h1,h2,h3,h4,h5⟩:=(show xY P w H h a (.dT kvs) from zhh ok e)
 refine⟨z,y,xs,r,o,es,ep,h1,h2,h3,h4,fun x hx=>?_,h5⟩
 have all:∀{l:List (List Key×V)} {m:List (List Key×Addr×Value)},KT H l m->∀x∈m,(tupleKind (xX P w)).is h x.1 x.2.1:=by
  intro l m q
  induction q with
  | nil=>intro x hx; exact nomatch hx
  | @cons p q ps qs hq t ih =>
   intro x hx
   rcases List.mem_cons.mp hx with e | hx
   ·subst e
    exact zad ok (by rw[<-hq.1]; exact hq.2.1)
   ·exact ih x hx
 exact all r x hx
theorem zjh {kvs:List (List Key×V)} (ok:HOk P w H h) (e:H a=some (.dT kvs)):kvs.length<=sizeLine/\(a==sysModules)=false /\
  ∃xs,KT H kvs xs/\h.DictOfH (tupleKind (xX P w)) a xs:=zcf ok (.inl e)
end
def Ub (H:Hp) (a:Addr) (y:V) (r:Option V):Prop :=
 (∃kvs k,Rd H a (.dK kvs)/\y=kV k/\r=vI kvs k)\/∃kvs k b,Rd H a (.dT kvs)/\y=.ref b/\H b=some (.tup (k.map kV))/\r=vI kvs k
def zaO (H:Hp) (a:Addr) (y v:V) (H':Hp):Prop :=
 (∃kvs k,H a=some (.dK kvs)/\y=kV k/\kvs.length<sizeLine/\H'=upd H a (.dK (putK kvs k v))) \/
 ∃kvs k b,H a=some (.dT kvs)/\y=.ref b/\H b=some (.tup (k.map kV))/\kvs.length<sizeLine/\H'=upd H a (.dT (putK kvs k v))
theorem Ub.k {H:Hp} {a:Addr} {kvs:List (Key×V)} {k:Key} (e:H a=some (.dK kvs)):Ub H a (kV k) (vI kvs k):=.inl ⟨kvs,k,.inl e,rfl,rfl⟩
theorem zaO.k {H:Hp} {a:Addr} {kvs:List (Key×V)} {k:Key} {v:V} (e:H a=some (.dK kvs)) (hl:kvs.length<sizeLine):zaO H a (kV k) v (upd H a (.dK (putK kvs k v))):=.inl ⟨kvs,k,e,rfl,hl,rfl⟩
section
variable {X:Cx} {pins:List (Addr×Obj)} {σ:St} {H:Hp} {s:Shared} {a:Addr} {y v:V} {u r:Value} {o:Option V} {A:Around} {E:Value->Shared->Prop}
theorem Inv.big (I:Inv X pins σ H s):sysModules<s.heap.objs.size:=by
 have h:mainGlobals<s.heap.objs.size:=(I.mod.glob.keeps I.bk).lt
 exact Nat.lt_trans (by decide) h
theorem zfn {Q:Value->Shared->Prop} (hu:A.units+1<cLine) (I:Inv X pins σ H s) (g:Ub H a y (some v)) (ry:RelV y u) (h:∀w' s',Inv X pins σ H s'->RelV v w'->Q w' s') :
  wpAny (model X.prog X.w) A (getItem (.ref a) u) Q E s:=by
 rcases g with ⟨kvs,k,e,ey,l⟩ | ⟨kvs,k,b,e,ey,eb,l⟩
 ·subst ey
  obtain⟨z,hd,vs,rel,dd⟩:=zce I.hok e
  obtain⟨w',hw,rw'⟩:=Yq.some_of (v:=v) (o:=valueAt vs k) (by rw[l]; exact rel.val k)
  exact wpAny_getItem_of (zac ry) dd.mapOf hw (h w' _ (I.tok _) rw')
 ·subst ey
  cases (show u=Value.ref b from ry)
  obtain⟨z,hd,xs,rel,dd⟩:=zcf I.hok e
  obtain⟨w',hw,rw'⟩:=Yq.some_of (v:=v) (o:=(atKey xs k).map (·.2)) (by rw[l]; exact rel.val k)
  obtain⟨p,hp,hp2⟩:=Option.map_eq_some_iff.mp hw
  refine wpAny_getItem_heap (tupleKind_room_in1 hu) (zad I.hok eb) dd hp ?_
  rw[hp2]
  exact h w' _ (I.tok _) rw'
theorem zhl {Q:Value->Shared->Prop} (hu:A.units+1<cLine) (I:Inv X pins σ H s) (g:Ub H a y o) (ry:RelV y u) (h:∀s',Inv X pins σ H s'->Q (.bool (!o.isSome)) s') :
  wpAny (model X.prog X.w) A (compareOp .NotIn u (.ref a)) Q E s:=by
 rcases g with ⟨kvs,k,e,ey,l⟩ | ⟨kvs,k,b,e,ey,eb,l⟩
 ·subst ey
  obtain⟨z,hd,vs,rel,dd⟩:=zce I.hok e
  refine wpAny_notIn_of (zac ry) hd dd.mapOf ?_
  rw[<-(rel.val k).isSome_eq,<-l]
  exact h _ (I.tok _)
 ·subst ey
  cases (show u=Value.ref b from ry)
  obtain⟨z,hd,xs,rel,dd⟩:=zcf I.hok e
  refine wpAny_notIn_heap (tupleKind_room_in1 hu) (zad I.hok eb) hd dd ?_
  have q:=(rel.val k).isSome_eq
  rw[Option.isSome_map] at q
  rw[<-q,<-l]
  exact h _ (I.tok _)
theorem zas {h':Heap} {t':Nat} {ob:HO} (I:Inv X pins σ H s) (mu:Mut (H a)) (hs:Heap.SameBut a s.heap h') (he:∃q,h'.get? a=some q) (new:xY X.prog X.w (upd H a ob) h' a ob) :
  Inv X pins σ (upd H a ob) { s with heap:=h',toks:=t' } :=
 I.write (x:=a) (e:=a) mu (.inl rfl) (fun b q hb z=>(hs.2 b hb).trans z) he new
theorem zfS {P:Program} {w:World} {H':Hp} {h':Heap} {kvs:List (Key×V)} {vs:List (Key×Value)} (z:kvs.length<=sizeLine) (hd:(a==sysModules)=false) (rel:KV kvs vs) (dd:h'.DictOf (xX P w) a vs) :
  xY P w H' h' a (.dK kvs):=⟨z,hd,vs,rel,dd⟩
theorem zfo {H':Hp} {Q:Unit->Shared->Prop} (hu:A.units+1<cLine) (I:Inv X pins σ H s) (g:zaO H a y v H') (ry:RelV y u) (rv:RelV v r) (h:∀s',Inv X pins σ H' s'->Q () s') :
  wpAny (model X.prog X.w) A (setItem (.ref a) u r) Q E s:=by
 rcases g with ⟨kvs,k,e,ey,l,eH⟩ | ⟨kvs,k,b,e,ey,eb,l,eH⟩
 ·subst ey eH
  obtain⟨z,hd,vs,rel,dd⟩:=zhi I.hok e
  have hz:vs.length<=sizeLine:=by rw[<-rel.length]; exact z
  have hl:(putK kvs k v).length<=sizeLine:=by have:=Vo kvs k v; omega
  refine wpAny_setItem_pairs (hsz:=hz) (zac ry) dd fun h' dd' hs=>h _ ?_
  have he:∃q,h'.get? a=some q:=let ⟨q,_,_,hq,_⟩:=dd'; ⟨q,hq⟩
  exact zas I (by rw[e]; exact True.intro) hs he (zfS hl hd (rel.put k rv) dd')
 ·subst ey eH
  cases (show u=Value.ref b from ry)
  obtain⟨z,hd,xs,rel,dd⟩:=zjh I.hok e
  have hz:xs.length<=sizeLine:=by rw[<-Paired.length rel]; exact z
  have hl:(putK kvs k v).length<=sizeLine:=by have:=Vo kvs k v; omega
  refine wpAny_setItem_heap (hsz:=hz) (tupleKind_room_in1 hu) (zad I.hok eb) dd fun h' dd' hs=>h _ ?_
  obtain⟨q,es,ep,hq,h2,h3,h4,_,h5⟩:=dd'
  refine zas I (by rw[e]; exact True.intro) hs ⟨q,hq⟩ ⟨hl,hd,_,(rel.put k eb rv).keeps fun c ys ec=>?_,q,es,ep,hq,h2,h3,h4,h5⟩
  rw[zB (Wc ec e (fun z=>nomatch z))]
  exact ec
end
section
variable {X:Cx} {pins:List (Addr×Obj)} {σ:St} {H:Hp} {s:Shared} {a:Addr} {kvs:List (Key×V)} {k:Key} {u:Value} {A:Around} {E:Value->Shared->Prop}
end
def ziF (i:Expr):Prop:=∀ov iv,subscripted i false ov iv=operate [ov,iv] (getItem ov iv)
theorem zhP {prog:Program} {w:World} {A:Around} {E:Value->Shared->Prop} {s:Shared} {env:Env} {value slice:Expr} {pos:Pos} {T id:String} {Q:Value->Shared->Prop}
  (hl:typeLookup (.type T) "__getitem__"=pure (some (.builtin id))) (hs:ziF slice)
  (h:wpAny (model prog w) A (eval value env) (fun o s₁=>wpAny (model prog w) A (eval slice env) (fun i s₂=>s₂.TypeIs o T/\wpAny (model prog w) A (getItem o i) Q E s₂) E s₁) E s) :
  wpAny (model prog w) A (eval (.Subscript value slice pos) env) Q E s:=by
 refine Subscript_ (wpAny_mono h (fun o s₁ h₁=>wpAny_mono h₁ (fun i s₂ h₂=>?_) fun _ _ x=>x) fun _ _ x=>x)
 obtain⟨hT,h₂⟩:=h₂
 unfold subscriptTail
 refine wpAny_bind ?_
 rw[getitemInPython_of_ne hT.not_modules]
 refine wpAny_bind (wpAny_specialOf hT hl ?_)
 have fin:wpAny (model prog w) A (subscripted slice false o i) (fun r s₃=>wpAny (model prog w) A (letTemporaryGo value o r>>=fun _=>pure r) Q E s₃) E s₂:=by
  rw[hs o i]
  exact wpAny_operating (wpAny_mono h₂ (fun r s₃ h₃=>wpAny_bind (wpAny_letTemporaryGo (wpAny_pure h₃))) fun _ _ x=>x)
 first
  | exact wpAny_pure (wpAny_bind fin)
  | exact wpAny_bind (wpAny_pure (wpAny_bind fin))
  | exact wpAny_bind fin
theorem zdS {X:Cx} {pins:List (Addr×Obj)} {σ:St} {H:Hp} {s:Shared} {a:Addr} {y:V} {o:Option V} (I:Inv X pins σ H s) (g:Ub H a y o):s.TypeIs (.ref a) "dict" := by
 rcases g with ⟨kvs,k,e,_,_⟩ | ⟨kvs,k,b,e,_,_,_⟩
 ·obtain⟨_,_,vs,_,dd⟩:=zce I.hok e
  exact dd.typeIs
 ·obtain⟨_,_,xs,_,dd⟩:=zcf I.hok e
  exact dd.typeIs
def zji (td ty:TE):TE:=fun σ H Q=>td σ H fun x H1=>ty σ H1 fun y H2=>∃a v,x=.ref a/\Ub H2 a y (some v)/\Q v H2
def zhQ (ty td:TE):TE:=fun σ H Q=>ty σ H fun y H1=>td σ H1 fun x H2=>∃a o,x=.ref a/\Ub H2 a y o/\Q (.bl (!o.isSome)) H2
def zjj (td ty tv:TE):TS:=fun D σ H=>tv σ H fun v H1=>td σ H1 fun x H2=>ty σ H2 fun y H3=>∃a H4,x=.ref a/\zaO H3 a y v H4/\D.nx σ H4
section
variable {X:Cx} {o i e value:Expr} {pos pos' tpos:Pos} {td ty tv:TE}
theorem zaP (hu:X.A.units+1<cLine) (ho:PE X o td) (hi:PE X i ty) (hs:ziF i):PE X (.Subscript o i pos) (zji td ty):=by
 intro pins s σ H Q I h
 refine zhP PySem.F.slot_dict_getitem.lookup hs (thn (ho pins s σ H _ I h) fun u s1 ⟨x,H1,I1,rx,q1⟩=>thn (hi pins s1 σ H1 _ I1 q1) fun iv s2 ⟨y,H2,I2,ry,a,v,ex,g,q2⟩=>?_)
 subst ex
 obtain rfl:u=Value.ref a:=rx
 exact⟨zdS I2 g,zfn hu I2 g ry fun w' s3 I3 rw'=>⟨v,H2,I3,rw',q2⟩⟩
theorem zfT (hu:X.A.units+1<cLine) (hi:PE X i ty) (ho:PE X o td):PC X .NotIn i o (zhQ ty td):=by
 intro pins s σ H Q I h
 refine thn (hi pins s σ H _ I h) fun iv s1 ⟨y,H1,I1,ry,q1⟩=>thn (ho pins s1 σ H1 _ I1 q1) fun u s2 ⟨x,H2,I2,rx,a,ov,ex,g,q2⟩=>?_
 subst ex
 obtain rfl:u=Value.ref a:=rx
 exact zhl hu I2 g ry fun s3 I3=>⟨.bl (!ov.isSome),H2,I3,rfl,q2⟩
theorem zei (hu:X.A.units+1<cLine) (ho:PE X o td) (hi:PE X i ty) (hv:PE X value tv) (hs:swapsWith value (some (.Subscript o i pos')) pos.line X.env=pure false) :
  PS X (.Assign [.Subscript o i pos'] value pos) (zjj td ty tv):=by
 intro pins s σ H D I h
 refine wpAny_Assign_Subscript (thn (hv pins s σ H _ I h) fun r s1 ⟨v,H1,I1,rv,q1⟩=>thn (ho pins s1 σ H1 _ I1 q1) fun u s2 ⟨x,H2,I2,rx,q2⟩=>thn (hi pins s2 σ H2 _ I2 q2) fun iv s3 ⟨y,H3,I3,ry,a,H4,ex,g,q3⟩=>?_) hs
 subst ex
 obtain rfl:u=Value.ref a:=rx
 exact zfo hu I3 g ry rv fun s4 I4=>⟨σ,H4,I4,q3⟩
end
theorem zcO {P:Program} {w:World} {H:Hp} (h:Heap) (hb:sysModules<h.objs.size):xY P w H (h.push { cls:=.type "dict", data:=.dict #[] }) h.objs.size (.dK []) :=
 ⟨Nat.zero_le _,beq_eq_false_iff_ne.mpr (Ne.symm (Nat.ne_of_lt hb)),[],.nil,Heap.DictOf.new h⟩
def ziG:TE:=fun _ H Q=>∀p,H p=none->Q (.ref p) (upd H p (.dK []))
section
variable {X:Cx} {pos:Pos}
theorem zgR:PE X (.Dict [] [] pos) ziG:=fun pins s σ H Q I h =>
 wpAny_Dict_empty ⟨.ref s.heap.objs.size,_,I.laid (a:=s.heap.objs.size) (o:=.dK []) (t':=s.toks) (fun _ _ q=>Heap.get?_push_of_some _ q) (Nat.le_refl _) (zcO s.heap I.big),rfl,h _ (I.hok.fresh (Nat.le_refl _))⟩
end
def zcP:List (TE×TE)->St->Hp->(List (V×V)->Hp->Prop)->Prop
 | [],_,H,Q=>Q [] H
 | (tk,tv)::r,σ,H,Q=>tk σ H fun x H1=>tv σ H1 fun y H2=>zcP r σ H2 fun ps H3=>Q ((x,y)::ps) H3
abbrev VV:List (V×V)->List (Value×Value)->Prop:=Paired fun p q=>RelV p.1 q.1/\RelV p.2 q.2
def PPs (X:Cx) (pos:Pos) (keys:List (Option Expr)) (values:List Expr) (trs:List (TE×TE)):Prop :=
 ∀(pins:List (Addr×Obj)) (s:Shared) (σ:St) (H:Hp) (Q:List (V×V)->Hp->Prop),Inv X pins σ H s->zcP trs σ H Q ->
  wpAny (model X.prog X.w) X.A (evalPairs (pairTrees keys values X.env pos)) (fun vs s'=>∃ps H',Inv X pins σ H' s'/\VV ps vs/\Q ps H') X.xe s
theorem zhR {X:Cx} {pos:Pos}:PPs X pos [] [] []:=fun pins s σ H Q I h=>pairTrees_nil_walk ⟨[],H,I,.nil,h⟩
theorem zcQ {X:Cx} {pos:Pos} {k v:Expr} {ks:List (Option Expr)} {vs:List Expr} {tk tv:TE} {trs:List (TE×TE)} (hk:PE X k tk) (hv:PE X v tv) (hr:PPs X pos ks vs trs) :
  PPs X pos (some k::ks) (v::vs) ((tk,tv)::trs):=fun pins s σ H Q I h =>
 pairTrees_cons_walk (thn (hk pins s σ H _ I h) fun u s1 ⟨x,H1,I1,rx,q1⟩=>thn (hv pins s1 σ H1 _ I1 q1) fun w2 s2 ⟨y,H2,I2,ry,q2⟩ =>
  thn (hr pins s2 σ H2 _ I2 q2) fun ws s3 ⟨ps,H3,I3,rel,q3⟩=>⟨(x,y)::ps,H3,I3,.cons ⟨rx,ry⟩ rel,q3⟩)
def YG (kvs more:List (Key×V)):List (Key×V):=more.foldl (fun acc kv=>putK acc kv.1 kv.2) kvs
theorem KV.merge:∀{more:List (Key×V)} {rs:List (Key×Value)} {kvs:List (Key×V)} {vs:List (Key×Value)},KV more rs->KV kvs vs->KV (YG kvs more) (merged vs rs):=by
 intro more rs kvs vs r
 unfold KV at r
 induction r generalizing kvs vs with
 | nil=>intro q; exact q
 | @cons p q ps qs h t ih =>
  intro r0
  have e:KV (putK kvs p.1 p.2) (stored vs q.1 q.2):=by
   have:=r0.put p.1 h.2
   rw[<-h.1]; exact this
  exact ih e
theorem Pu:∀(more kvs:List (Key×V)),(YG kvs more).length<=kvs.length+more.length
 | [],kvs=>by show kvs.length<=kvs.length+0; omega
 | p::r,kvs=>by
  have h1:=Pu r (putK kvs p.1 p.2)
  have h2:=Vo kvs p.1 p.2
  show(YG (putK kvs p.1 p.2) r).length<=_
  rw[List.length_cons]; omega
theorem zae {P:Program} {w:World}:∀{kvs:List (Key×V)} {ws:List (Value×Value)},VV (kvs.map fun kv=>(kV kv.1,kv.2)) ws->∃rs,Carries (xX P w) ws rs/\KV kvs rs
 | [],_,r=>by rw[List.map_nil] at r; cases r; exact⟨[],True.intro,.nil⟩
 | p::kvs,_,r=>by
  rw[List.map_cons] at r
  cases r with
  | @cons a b as bs h t =>
   obtain⟨rs,c,q⟩:=zae (P:=P) (w:=w) t
   obtain⟨b1,b2⟩:=b
   exact⟨(p.1,b2)::rs,⟨zac h.1,rfl,c⟩,.cons ⟨rfl,h.2⟩ q⟩
def zjk (trs:List (TE×TE)):TE:=fun σ H Q=>∀p,H p=none->zcP trs σ (upd H p (.dK [])) fun ps H2=>H2 p=some (.dK [])/\∃kvs:List (Key×V),ps=kvs.map (fun kv=>(kV kv.1,kv.2))/\kvs.length<=15/\Q (.ref p) (upd H2 p (.dK (YG [] kvs)))
theorem zhS {X:Cx} {pos:Pos} {keys:List (Option Expr)} {values:List Expr} {trs:List (TE×TE)} (h:PPs X pos keys values trs) (hall:keys.all (·.isSome)=true) (hl:keys.length=values.length) (h0:keys≠[])
  (h15:keys.length<=15):PE X (.Dict keys values pos) (zjk trs):=by
 intro pins s σ H Q I q
 have hn:=I.hok.fresh (Nat.le_refl s.heap.objs.size)
 have I1:=I.laid (a:=s.heap.objs.size) (o:=.dK []) (h':=s.heap.push { cls:=.type "dict", data:=.dict #[] }) (t':=s.toks) (fun _ _ q=>Heap.get?_push_of_some _ q) (Nat.le_refl _) (zcO s.heap I.big)
 refine wpAny_Dict_walk (knd:=xX X.prog X.w) hall hl h0 h15 (thn (h pins _ σ _ _ I1 (q _ hn)) fun ws s2 ⟨ps,H2,I2,rel,e,kvs,ep,lk,q2⟩=>?_)
 subst ep
 obtain⟨rs,c,rk⟩:=zae (P:=X.prog) (w:=X.w) rel
 obtain⟨z,hd,vs0,r0,dd⟩:=zhi I2.hok e
 cases r0
 refine⟨rs,c,dd,fun h' dd' hs=>⟨.ref s.heap.objs.size,_,?_,rfl,q2⟩⟩
 have hz:(YG [] kvs).length<=sizeLine:=by
  have h1:=Pu kvs []
  rw[List.length_nil] at h1
  rw[sizeLine_eq]; omega
 have he:∃q,h'.get? s.heap.objs.size=some q:=let ⟨q,_,_,hq,_⟩:=dd'; ⟨q,hq⟩
 exact zas I2 (by rw[e]; exact True.intro) hs he (zfS hz hd (rk.merge .nil) dd')
section
variable {X:Cx} {pins:List (Addr×Obj)} {σ:St} {H:Hp} {s:Shared} {a:Addr} {y d:V} {u r:Value} {o:Option V} {A:Around} {E:Value->Shared->Prop}
end
section
variable {X:Cx} {o e f:Expr} {apos cpos:Pos} {td ty tx:TE}
end
section
variable {X:Cx} {pins:List (Addr×Obj)} {σ:St} {H:Hp} {s:Shared} {a:Addr} {kvs:List (Key×V)} {A:Around} {E:Value->Shared->Prop}
end
section
variable {X:Cx} {pins:List (Addr×Obj)} {σ:St} {H:Hp} {s:Shared} {a:Addr} {y:V} {u:Value} {A:Around} {E:Value->Shared->Prop}
end
end L2
namespace L2
open PySem PySem.Spec PyProof.Rows
section
variable {κ:Type} [DecidableEq κ]
end
end L2
namespace L2
open PySem PySem.Spec PyProof.Rows
inductive EqD (K:PySem.W.Frag) (H:Hp):Nat->V->V->Bool->Prop
 | flat {n:Nat} {x y:V} (fx:wA x=true) (fy:wA y=true):EqD K H n x y (eqV x y)
 | tt {n:Nat} {p q:Addr} {xs ys:List V} {e:Nat->Bool} (hp:SqT K H p xs) (hq:SqT K H q ys) (h:∀(j:Nat) x y,xs[j]?=some x->ys[j]?=some y->EqD K H n x y (e j)) :
   EqD K H (n+1) (.ref p) (.ref q) ((List.range (min xs.length ys.length)).all e&&xs.length==ys.length)
 | ll {n:Nat} {p q:Addr} {xs ys:List V} {e:Nat->Bool} (hp:SqL K H p xs) (hq:SqL K H q ys) (hl:xs.length=ys.length) (h:∀(j:Nat) x y,xs[j]?=some x->ys[j]?=some y->EqD K H n x y (e j)) :
   EqD K H (n+1) (.ref p) (.ref q) ((List.range xs.length).all e)
 | ln {n:Nat} {p q:Addr} {xs ys:List V} (hp:SqL K H p xs) (hq:SqL K H q ys) (hl:xs.length≠ys.length):EqD K H (n+1) (.ref p) (.ref q) false
 | lt {n:Nat} {p q:Addr} {xs ys:List V} (hp:SqL K H p xs) (hq:SqT K H q ys):EqD K H (n+1) (.ref p) (.ref q) false
 | tl {n:Nat} {p q:Addr} {xs ys:List V} (hp:SqT K H p xs) (hq:SqL K H q ys):EqD K H (n+1) (.ref p) (.ref q) false
 | lf {n:Nat} {p:Addr} {xs:List V} {y:V} (hp:SqL K H p xs) (fy:wA y=true):EqD K H (n+1) (.ref p) y false
 | fl {n:Nat} {p:Addr} {xs:List V} {y:V} (hp:SqL K H p xs) (fy:wA y=true):EqD K H (n+1) y (.ref p) false
 | tf {n:Nat} {p:Addr} {xs:List V} {y:V} (hp:SqT K H p xs) (fy:wA y=true):EqD K H (n+1) (.ref p) y false
 | ft {n:Nat} {p:Addr} {xs:List V} {y:V} (hp:SqT K H p xs) (fy:wA y=true):EqD K H (n+1) y (.ref p) false
section
variable {X:Cx} {pins:List (Addr×Obj)} {σ:St} {H:Hp} {s:Shared}
theorem zcR {x:V} (f:wA x=true):eqV x x=true:=by
 cases x<;>first | rfl | (simp[eqV]; done) | exact absurd (show false=true from f) Bool.false_ne_true
theorem Qc (I:Inv X pins σ H s) {p:Addr} {xs ys:List V} (h:SqL X.K H p xs) (k:SqT X.K H p ys):False:=by
 obtain⟨_,_,⟨o,n,e,c,_⟩,_⟩:=I.list h
 obtain⟨_,_,⟨o',e',c',_⟩,_⟩:=I.tuple k
 rw[e] at e'
 cases e'
 rw[c] at c'
 injection c' with z
 exact absurd z (by decide)
theorem EqD.refl (I:Inv X pins σ H s) {n:Nat} {x y:V} {b:Bool} (h:EqD X.K H n x y b):x=y->b=true:=by
 induction h with
 | flat fx fy=>intro e; subst e; exact zcR fx
 | tt hp hq h ih =>
  intro e
  cases e
  have ee:=I.tuple_inj hp hq
  subst ee
  rw[Nat.min_self,beq_self_eq_true,Bool.and_true,List.all_eq_true]
  intro j hj
  have hj':=List.mem_range.mp hj
  exact ih j _ _ (List.getElem?_eq_getElem hj') (List.getElem?_eq_getElem hj') rfl
 | ll hp hq hl h ih =>
  intro e
  cases e
  have ee:=I.list_inj hp hq
  subst ee
  rw[List.all_eq_true]
  intro j hj
  have hj':=List.mem_range.mp hj
  exact ih j _ _ (List.getElem?_eq_getElem hj') (List.getElem?_eq_getElem hj') rfl
 | ln hp hq hl =>
  intro e
  cases e
  exact absurd (congrArg List.length (I.list_inj hp hq)) hl
 | lt hp hq=>intro e; cases e; exact(Qc I hp hq).elim
 | tl hp hq=>intro e; cases e; exact(Qc I hq hp).elim
 | lf hp fy=>intro e; subst e; exact absurd (show false=true from fy) Bool.false_ne_true
 | fl hp fy=>intro e; subst e; exact absurd (show false=true from fy) Bool.false_ne_true
 | tf hp fy=>intro e; subst e; exact absurd (show false=true from fy) Bool.false_ne_true
 | ft hp fy=>intro e; subst e; exact absurd (show false=true from fy) Bool.false_ne_true
theorem Rn {A:Around} {u:Value} {y:V} {p:Addr} {its:Array Value} (hl:s.heap.IsList p its) (fy:wA y=true) (ry:RelV y u) (hu:A.units<cLine):SeqAt.RcAt A s (.ref p) u false/\SeqAt.EqAt A s (.ref p) u false/\SeqAt.RcAt A s u (.ref p) false/\SeqAt.EqAt A s u (.ref p) false/\SeqAt.RcNeAt A s (.ref p) u true/\SeqAt.RcNeAt A s u (.ref p) true:=by
 cases y with
 | non=>cases ry; exact⟨.list_none hl hu,.list_none hl hu,.none_list hl hu,.none_list hl hu,.list_none hl hu,.none_list hl hu⟩
 | bl b=>cases ry; exact⟨.list_bool b hl hu,.list_bool b hl hu,.bool_list b hl hu,.bool_list b hl hu,.list_bool b hl hu,.bool_list b hl hu⟩
 | int i=>obtain⟨t,rfl⟩:=ry; exact⟨.list_int i t hl hu,.list_int i t hl hu,.int_list i t hl hu,.int_list i t hl hu,.list_int i t hl hu,.int_list i t hl hu⟩
 | str i=>obtain⟨t,rfl⟩:=ry; exact⟨.list_str i t hl hu,.list_str i t hl hu,.str_list i t hl hu,.str_list i t hl hu,.list_str i t hl hu,.str_list i t hl hu⟩
 | _=>exact absurd (show false=true from fy) Bool.false_ne_true
theorem Uu {A:Around} {u:Value} {y:V} {p:Addr} {its:Array Value} (hl:s.heap.IsTuple p its) (fy:wA y=true) (ry:RelV y u) (hu:A.units<cLine):SeqAt.RcAt A s (.ref p) u false/\SeqAt.EqAt A s (.ref p) u false/\SeqAt.RcAt A s u (.ref p) false/\SeqAt.EqAt A s u (.ref p) false/\SeqAt.RcNeAt A s (.ref p) u true/\SeqAt.RcNeAt A s u (.ref p) true:=by
 cases y with
 | non=>cases ry; exact⟨.tuple_none hl hu,.tuple_none hl hu,.none_tuple hl hu,.none_tuple hl hu,.tuple_none hl hu,.none_tuple hl hu⟩
 | bl b=>cases ry; exact⟨.tuple_bool b hl hu,.tuple_bool b hl hu,.bool_tuple b hl hu,.bool_tuple b hl hu,.tuple_bool b hl hu,.bool_tuple b hl hu⟩
 | int i=>obtain⟨t,rfl⟩:=ry; exact⟨.tuple_int i t hl hu,.tuple_int i t hl hu,.int_tuple i t hl hu,.int_tuple i t hl hu,.tuple_int i t hl hu,.int_tuple i t hl hu⟩
 | str i=>obtain⟨t,rfl⟩:=ry; exact⟨.tuple_str i t hl hu,.tuple_str i t hl hu,.str_tuple i t hl hu,.str_tuple i t hl hu,.tuple_str i t hl hu,.str_tuple i t hl hu⟩
 | _=>exact absurd (show false=true from fy) Bool.false_ne_true
theorem item_at {xs:List V} {us:List Value} (r:Vals xs us) {j:Nat} (h:j<us.toArray.size):∃x,xs[j]?=some x/\RelV x us.toArray[j]:=by
 have hl:=r.length
 have hj:j<xs.length:=by simp at h; omega
 obtain⟨u,hu,ru⟩:=r.get (List.getElem?_eq_getElem hj)
 refine⟨xs[j],List.getElem?_eq_getElem hj,?_⟩
 have e:us.toArray[j]=u:=by
  have:=(List.getElem?_eq_some_iff.mp hu).2
  simpa using this
 rw[e]; exact ru
theorem EqD.at {n:Nat} {x y:V} {b:Bool} (h:EqD X.K H n x y b) (I:Inv X pins σ H s):∀{A:Around} {u v:Value},RelV x u->RelV y v->A.units+n<cLine->SeqAt.EqAt A s u v b:=by
 induction h with
 | flat fx fy=>intro A u v rx ry _; exact zfE rx ry fx fy
 | @tt n p q xs ys e hp hq h ih =>
  intro A u v rx ry hu
  cases rx
  cases ry
  obtain⟨us,r1,t1,_⟩:=I.tuple hp
  obtain⟨ws,r2,t2,_⟩:=I.tuple hq
  have l1:=r1.length
  have l2:=r2.length
  by_cases hne:p=q
  ·subst hne
   have z:=(EqD.tt hp hq h).refl I rfl
   rw[z]
   exact SeqAt.EqAt.same _
  ·refine SeqAt.EqAt.of_refs hne ?_
   have z:=SeqAt.RcAt.tuples (A:=A) (e:=e) t1 t2 (by omega) fun j h1 h2=>by
    obtain⟨x,hx,rx⟩:=item_at r1 h1
    obtain⟨y,hy,ry⟩:=item_at r2 h2
    exact ih j x y hx hy rx ry (by show A.units+1+n<cLine; omega)
   rw[List.size_toArray,List.size_toArray,<-l1,<-l2] at z
   exact z
 | @ll n p q xs ys e hp hq hl h ih =>
  intro A u v rx ry hu
  cases rx
  cases ry
  obtain⟨us,r1,t1,_⟩:=I.list hp
  obtain⟨ws,r2,t2,_⟩:=I.list hq
  have l1:=r1.length
  have l2:=r2.length
  by_cases hne:p=q
  ·subst hne
   have z:=(EqD.ll hp hq hl h).refl I rfl
   rw[z]
   exact SeqAt.EqAt.same _
  ·refine SeqAt.EqAt.of_refs hne ?_
   have z:=SeqAt.RcAt.lists (A:=A) (e:=e) t1.isList t2.isList (by simp; omega) (by omega) fun j h1 h2=>by
    obtain⟨x,hx,rx⟩:=item_at r1 h1
    obtain⟨y,hy,ry⟩:=item_at r2 h2
    exact ih j x y hx hy rx ry (by show A.units+1+n<cLine; omega)
   rw[List.size_toArray,<-l1] at z
   exact z
 | @ln n p q xs ys hp hq hl =>
  intro A u v rx ry hu
  cases rx
  cases ry
  obtain⟨us,r1,t1,_⟩:=I.list hp
  obtain⟨ws,r2,t2,_⟩:=I.list hq
  have l1:=r1.length
  have l2:=r2.length
  have hne:p≠q:=fun e=>by subst e; exact hl (congrArg List.length (I.list_inj hp hq))
  exact SeqAt.EqAt.of_refs hne (SeqAt.RcAt.lists_lengths t1.isList t2.isList (by simp; omega) (by omega))
 | lt hp hq =>
  intro A u v rx ry hu
  cases rx
  cases ry
  obtain⟨us,r1,t1,_⟩:=I.list hp
  obtain⟨ws,r2,t2,_⟩:=I.tuple hq
  exact SeqAt.EqAt.list_tuple t1.isList t2 (by omega)
 | tl hp hq =>
  intro A u v rx ry hu
  cases rx
  cases ry
  obtain⟨us,r1,t1,_⟩:=I.tuple hp
  obtain⟨ws,r2,t2,_⟩:=I.list hq
  exact SeqAt.EqAt.tuple_list t1 t2.isList (by omega)
 | lf hp fy =>
  intro A u v rx ry hu
  cases rx
  obtain⟨us,r1,t1,_⟩:=I.list hp
  exact(Rn t1.isList fy ry (by omega)).2.1
 | fl hp fy =>
  intro A u v rx ry hu
  cases ry
  obtain⟨us,r1,t1,_⟩:=I.list hp
  exact(Rn t1.isList fy rx (by omega)).2.2.2.1
 | tf hp fy =>
  intro A u v rx ry hu
  cases rx
  obtain⟨us,r1,t1,_⟩:=I.tuple hp
  exact(Uu t1 fy ry (by omega)).2.1
 | ft hp fy =>
  intro A u v rx ry hu
  cases ry
  obtain⟨us,r1,t1,_⟩:=I.tuple hp
  exact(Uu t1 fy rx (by omega)).2.2.2.1
theorem EqD.rc {n:Nat} {x y:V} {b:Bool} (h:EqD X.K H n x y b) (I:Inv X pins σ H s) (hn:¬(wA x=true/\wA y=true)) {A:Around} {u v:Value} (rx:RelV x u) (ry:RelV y v) (hu:A.units+n<cLine):SeqAt.RcAt A s u v b/\SeqAt.RcNeAt A s u v (!b):=by
 cases h with
 | flat fx fy=>exact absurd ⟨fx,fy⟩ hn
 | @tt n p q xs ys e hp hq h =>
  cases rx
  cases ry
  obtain⟨us,r1,t1,_⟩:=I.tuple hp
  obtain⟨ws,r2,t2,_⟩:=I.tuple hq
  have l1:=r1.length
  have l2:=r2.length
  have he:∀j (h1:j<us.toArray.size) (h2:j<ws.toArray.size),SeqAt.EqAt A.in1 s us.toArray[j] ws.toArray[j] (e j):=fun j h1 h2=>by
   obtain⟨x,hx,rx⟩:=item_at r1 h1
   obtain⟨y,hy,ry⟩:=item_at r2 h2
   exact(h j x y hx hy).at I rx ry (by show A.units+1+n<cLine; omega)
  have z:=SeqAt.RcAt.tuples (A:=A) (e:=e) t1 t2 (by omega) he
  have z2:=SeqAt.RcNeAt.tuples (A:=A) (e:=e) t1 t2 (by omega) he
  rw[List.size_toArray,List.size_toArray,<-l1,<-l2] at z z2
  exact⟨z,z2⟩
 | @ll n p q xs ys e hp hq hl h =>
  cases rx
  cases ry
  obtain⟨us,r1,t1,_⟩:=I.list hp
  obtain⟨ws,r2,t2,_⟩:=I.list hq
  have l1:=r1.length
  have l2:=r2.length
  have he:∀j (h1:j<us.toArray.size) (h2:j<ws.toArray.size),SeqAt.EqAt A.in1 s us.toArray[j] ws.toArray[j] (e j):=fun j h1 h2=>by
   obtain⟨x,hx,rx⟩:=item_at r1 h1
   obtain⟨y,hy,ry⟩:=item_at r2 h2
   exact(h j x y hx hy).at I rx ry (by show A.units+1+n<cLine; omega)
  have z:=SeqAt.RcAt.lists (A:=A) (e:=e) t1.isList t2.isList (by simp; omega) (by omega) he
  have z2:=SeqAt.RcNeAt.lists (A:=A) (e:=e) t1.isList t2.isList (by simp; omega) (by omega) he
  rw[List.size_toArray,<-l1] at z z2
  exact⟨z,z2⟩
 | @ln n p q xs ys hp hq hl =>
  cases rx
  cases ry
  obtain⟨us,r1,t1,_⟩:=I.list hp
  obtain⟨ws,r2,t2,_⟩:=I.list hq
  have l1:=r1.length
  have l2:=r2.length
  exact⟨SeqAt.RcAt.lists_lengths t1.isList t2.isList (by simp; omega) (by omega),SeqAt.RcNeAt.lists_lengths t1.isList t2.isList (by simp; omega) (by omega)⟩
 | lt hp hq =>
  cases rx
  cases ry
  obtain⟨us,r1,t1,_⟩:=I.list hp
  obtain⟨ws,r2,t2,_⟩:=I.tuple hq
  exact⟨SeqAt.RcAt.list_tuple t1.isList t2 (by omega),SeqAt.RcNeAt.list_tuple t1.isList t2 (by omega)⟩
 | tl hp hq =>
  cases rx
  cases ry
  obtain⟨us,r1,t1,_⟩:=I.tuple hp
  obtain⟨ws,r2,t2,_⟩:=I.list hq
  exact⟨SeqAt.RcAt.tuple_list t1 t2.isList (by omega),SeqAt.RcNeAt.tuple_list t1 t2.isList (by omega)⟩
 | lf hp fy =>
  cases rx
  obtain⟨us,r1,t1,_⟩:=I.list hp
  have z:=Rn (A:=A) t1.isList fy ry (by omega)
  exact⟨z.1,z.2.2.2.2.1⟩
 | fl hp fy =>
  cases ry
  obtain⟨us,r1,t1,_⟩:=I.list hp
  have z:=Rn (A:=A) t1.isList fy rx (by omega)
  exact⟨z.2.2.1,z.2.2.2.2.2⟩
 | tf hp fy =>
  cases rx
  obtain⟨us,r1,t1,_⟩:=I.tuple hp
  have z:=Uu (A:=A) t1 fy ry (by omega)
  exact⟨z.1,z.2.2.2.2.1⟩
 | ft hp fy =>
  cases ry
  obtain⟨us,r1,t1,_⟩:=I.tuple hp
  have z:=Uu (A:=A) t1 fy rx (by omega)
  exact⟨z.2.2.1,z.2.2.2.2.2⟩
end
section
variable {X:Cx}
theorem zcS {K:PySem.W.Frag} (hK:X.K=K) (hu:X.A.units+8<cLine):OpR X (compareOp .NotEq) (fun x y H Q=>∃b,¬(wA x=true/\wA y=true)/\EqD K H 8 x y b/\Q (.bl (!b)) H):=by
 subst hK
 intro pins s σ H x y v u Q I rx ry h
 obtain⟨b,hn,he,q⟩:=h
 exact(he.rc I hn rx ry hu).2 X.prog X.w X.xe _ ⟨.bl (!b),H,I,rfl,q⟩
theorem hu8 {A:Around} {k:Nat} (hr:vm k A):A.units+8<cLine:=by have:=hr.units; omega
end
end L2
namespace L2
open PySem PySem.Spec PyProof.Rows
section
variable {X:Cx}
theorem Ji:∀{xs:List V} {us:List Value},xs.length=us.length->(∀(j:Nat) u,us[j]?=some u->∃x,xs[j]?=some x/\RelV x u)->Vals xs us
 | [],[],_,_=>.nil
 | [],_::_,h,_=>by simp at h
 | _::_,[],h,_=>by simp at h
 | x::xs,u::us,hl,h=>by
  obtain⟨x',e,r⟩:=h 0 u rfl
  cases e
  refine .cons r (Ji (by simpa using hl) fun j v hv=>?_)
  obtain⟨y,e,r⟩:=h (j+1) v (by simpa using hv)
  exact⟨y,by simpa using e,r⟩
end
end L2
namespace Bdd
abbrev Rm:=Option (Nat×Nat×Nat)
def lev (n:Nat) (rs:List Rm) (k:Nat):Nat:=match rs[k]? with
 | some (some (i,_,_))=>i
 | _=>n
structure Bk (n:Nat) (rs:List Rm):Prop where
 h0:rs[0]?=some none
 h1:rs[1]?=some none
 rm:∀k,2<=k->k<rs.length->∃i lo hi,rs[k]?=some (some (i,lo,hi))/\i<n/\lo<k/\hi<k/\lo≠hi/\i<lev n rs lo/\i<lev n rs hi
 uq:∀(k l:Nat) (x:Nat×Nat×Nat),rs[k]?=some (some x)->rs[l]?=some (some x)->k=l
abbrev Row:=Nat->Bool
def put (r:Row) (i:Nat) (v:Bool):Row:=fun j=>if j=i then v else r j
def lead (rs:List Rm) (r:Row):Nat->Nat->Nat
 | 0,k=>k
 | f+1,k=>match rs[k]? with
  | some (some (i,lo,hi))=>lead rs r f (if r i then hi else lo)
  | _=>k
theorem zbm {n:Nat} {rs:List Rm} (B:Bk n rs) (r:Row):∀(f g k:Nat),k<=f->k<=g->k<rs.length->lead rs r f k=lead rs r g k
 | 0,0,k,_,_,_=>rfl
 | 0,g+1,k,h,_,_=>by
  have e:k=0:=by omega
  subst e
  show 0=lead rs r (g+1) 0
  unfold lead
  rw[B.h0]
 | f+1,0,k,_,h,_=>by
  have e:k=0:=by omega
  subst e
  show lead rs r (f+1) 0=0
  unfold lead
  rw[B.h0]
 | f+1,g+1,k,hf,hg,hk=>by
  by_cases h2:2<=k
  ·obtain⟨i,lo,hi,e,_,hlo,hhi,_⟩:=B.rm k h2 hk
   unfold lead
   rw[e]
   show lead rs r f (if r i then hi else lo)=lead rs r g (if r i then hi else lo)
   refine zbm B r f g _ ?_ ?_ ?_<;>(split<;>omega)
  ·have:k=0\/k=1:=by omega
   rcases this with e | e<;>subst e<;>unfold lead
   ·rw[B.h0]
   ·rw[B.h1]
def yes (rs:List Rm) (k:Nat) (r:Row):Bool:=lead rs r k k==1
section
variable {n:Nat} {rs:List Rm} (B:Bk n rs)
include B
theorem len2:2<=rs.length:=by
 have:=(List.getElem?_eq_some_iff.mp B.h1).1
 omega
theorem zfU (r:Row):yes rs 0 r=false:=rfl
theorem Xq (r:Row):yes rs 1 r=true:=by
 unfold yes lead
 rw[B.h1]
 rfl
theorem zfV {k i lo hi:Nat} (e:rs[k]?=some (some (i,lo,hi))) (r:Row):lead rs r k k=lead rs r (if r i then hi else lo) (if r i then hi else lo):=by
 have hk:=(List.getElem?_eq_some_iff.mp e).1
 have k2:2<=k:=by
  by_cases h:2<=k
  ·exact h
  ·exfalso
   have:k=0\/k=1:=by omega
   rcases this with z | z<;>subst z
   ·rw[B.h0] at e; cases e
   ·rw[B.h1] at e; cases e
 obtain⟨i',lo',hi',e',_,hlo,hhi,_⟩:=B.rm k k2 hk
 rw[e] at e'
 cases e'
 obtain⟨m,rfl⟩:∃m,k=m+1:=⟨k-1,by omega⟩
 show(match rs[m+1]? with | some (some (i,lo,hi))=>lead rs r m (if r i then hi else lo) | _=>m+1)=_
 rw[e]
 show lead rs r m (if r i then hi else lo)=_
 refine zbm B r _ _ _ ?_ (Nat.le_refl _) ?_<;>(split<;>omega)
theorem W3 {k i lo hi:Nat} (e:rs[k]?=some (some (i,lo,hi))) (r:Row):yes rs k r=if r i then yes rs hi r else yes rs lo r:=by
 unfold yes
 rw[zfV B e r]
 split<;>rfl
theorem Wj {k i lo hi:Nat} (e:rs[k]?=some (some (i,lo,hi))):lev n rs k=i:=by unfold lev; rw[e]
theorem zcT:lev n rs 0=n:=by unfold lev; rw[B.h0]
theorem zaQ:lev n rs 1=n:=by unfold lev; rw[B.h1]
theorem VG:∀(m k:Nat),k<=m->k<rs.length->∀{r r':Row},(∀i,lev n rs k<=i->i<n->r i=r' i)->yes rs k r=yes rs k r'
 | m,k,hm,hk,r,r',h=>by
  by_cases h2:2<=k
  ·obtain⟨i,lo,hi,e,hin,hlo,hhi,_,l1,l2⟩:=B.rm k h2 hk
   have lk:=Wj B e
   rw[W3 B e,W3 B e,h i (by omega) hin]
   match m,hm with
   | 0,hm=>omega
   | m+1,hm =>
    rw[VG m hi (by omega) (by omega) fun j hj hjn=>h j (by omega) hjn,VG m lo (by omega) (by omega) fun j hj hjn=>h j (by omega) hjn]
  ·have:k=0\/k=1:=by omega
   rcases this with z | z<;>subst z
   ·rfl
   ·rw[Xq B,Xq B]
theorem tZ {k i:Nat} (hk:k<rs.length) (h:i<lev n rs k) (r:Row) (v:Bool):yes rs k (put r i v)=yes rs k r:=by
 refine VG B k k (Nat.le_refl _) hk fun j hj _=>?_
 unfold put
 rw[if_neg (by omega)]
theorem Wk {k i lo hi:Nat} (e:rs[k]?=some (some (i,lo,hi))) (hk:k<rs.length) (r:Row):yes rs k (put r i false)=yes rs lo r/\yes rs k (put r i true)=yes rs hi r:=by
 have k2:2<=k:=by
  by_cases h:2<=k
  ·exact h
  ·exfalso
   have:k=0\/k=1:=by omega
   rcases this with z | z<;>subst z
   ·rw[B.h0] at e; cases e
   ·rw[B.h1] at e; cases e
 obtain⟨i',lo',hi',e',_,hlo,hhi,_,l1,l2⟩:=B.rm k k2 hk
 rw[e] at e'
 cases e'
 constructor
 ·rw[W3 B e]
  have z:put r i false i=false:=by unfold put; rw[if_pos rfl]
  rw[z,if_neg Bool.false_ne_true]
  exact tZ B (by omega) l1 r false
 ·rw[W3 B e]
  have z:put r i true i=true:=by unfold put; rw[if_pos rfl]
  rw[z,if_pos rfl]
  exact tZ B (by omega) l2 r true
theorem Zn:∀(m k l:Nat),(k<=m/\l<=m)->k<rs.length->l<rs.length->(∀r,yes rs k r=yes rs l r)->k=l
 | m,k,l,hm,hk,hl,h=>by
  by_cases k2:2<=k
  ·obtain⟨i,lo,hi,e,hin,hlo,hhi,hne,l1,l2⟩:=B.rm k k2 hk
   by_cases l2':2<=l
   ·obtain⟨j,lo',hi',e',hjn,hlo',hhi',hne',l1',l2''⟩:=B.rm l l2' hl
    match m,hm with
    | 0,hm=>omega
    | m+1,hm =>
     rcases Nat.lt_trichotomy i j with q | q | q
     ·exfalso
      refine hne (Zn m lo hi (by omega) (by omega) (by omega) fun r=>?_)
      have z:=Wk B e hk r
      rw[<-z.1,<-z.2,h,h,tZ B hl (by rw[Wj B e']; exact q),tZ B hl (by rw[Wj B e']; exact q)]
     ·subst q
      have a1:lo=lo':=Zn m lo lo' (by omega) (by omega) (by omega) fun r=>by rw[<-(Wk B e hk r).1,<-(Wk B e' hl r).1,h]
      have a2:hi=hi':=Zn m hi hi' (by omega) (by omega) (by omega) fun r=>by rw[<-(Wk B e hk r).2,<-(Wk B e' hl r).2,h]
      subst a1 a2
      exact B.uq k l _ e e'
     ·exfalso
      refine hne' (Zn m lo' hi' (by omega) (by omega) (by omega) fun r=>?_)
      have z:=Wk B e' hl r
      rw[<-z.1,<-z.2,<-h,<-h,tZ B hk (by rw[Wj B e]; exact q),tZ B hk (by rw[Wj B e]; exact q)]
   ·exfalso
    match m,hm with
    | 0,hm=>omega
    | m+1,hm =>
     have ll:lev n rs l=n:=by
      have:l=0\/l=1:=by omega
      rcases this with z | z<;>subst z
      ·exact zcT B
      ·exact zaQ B
     refine hne (Zn m lo hi (by omega) (by omega) (by omega) fun r=>?_)
     have z:=Wk B e hk r
     rw[<-z.1,<-z.2,h,h,tZ B hl (by omega),tZ B hl (by omega)]
  ·by_cases l2':2<=l
   ·exfalso
    obtain⟨j,lo',hi',e',hjn,hlo',hhi',hne',l1',l2''⟩:=B.rm l l2' hl
    match m,hm with
    | 0,hm=>omega
    | m+1,hm =>
     have ll:lev n rs k=n:=by
      have:k=0\/k=1:=by omega
      rcases this with z | z<;>subst z
      ·exact zcT B
      ·exact zaQ B
     refine hne' (Zn m lo' hi' (by omega) (by omega) (by omega) fun r=>?_)
     have z:=Wk B e' hl r
     rw[<-z.1,<-z.2,<-h,<-h,tZ B hk (by omega),tZ B hk (by omega)]
   ·have a:k=0\/k=1:=by omega
    have b:l=0\/l=1:=by omega
    have z:=h fun _=>false
    rcases a with a | a<;>rcases b with b | b<;>subst a<;>subst b
    ·rfl
    ·rw[zfU B,Xq B] at z; cases z
    ·rw[zfU B,Xq B] at z; cases z
    ·rfl
end
theorem Zo {rs:List Rm} {x:Rm} {k:Nat} (h:k<rs.length):(rs++[x])[k]?=rs[k]?:=List.getElem?_append_left h
theorem Sg {n:Nat} {rs:List Rm} {x:Rm} {k:Nat} (h:k<rs.length):lev n (rs++[x]) k=lev n rs k:=by
 unfold lev; rw[Zo h]
theorem Bk.snoc {n:Nat} {rs:List Rm} (B:Bk n rs) {i lo hi:Nat} (hin:i<n) (hlo:lo<rs.length) (hhi:hi<rs.length) (hne:lo≠hi) (l1:i<lev n rs lo) (l2:i<lev n rs hi) (new:some (i,lo,hi)∉rs):Bk n (rs++[some (i,lo,hi)]) where
 h0:=by rw[Zo (by have:=len2 B; omega)]; exact B.h0
 h1:=by rw[Zo (by have:=len2 B; omega)]; exact B.h1
 rm:=fun k h2 hk=>by
  rw[List.length_append,List.length_singleton] at hk
  by_cases hlt:k<rs.length
  ·obtain⟨i',lo',hi',e,a1,a2,a3,a4,a5,a6⟩:=B.rm k h2 hlt
   exact⟨i',lo',hi',by rw[Zo hlt]; exact e,a1,a2,a3,a4,by rw[Sg (by omega)]; exact a5,by rw[Sg (by omega)]; exact a6⟩
  ·have e:k=rs.length:=by omega
   subst e
   exact⟨i,lo,hi,by simp,hin,hlo,hhi,hne,by rw[Sg hlo]; exact l1,by rw[Sg hhi]; exact l2⟩
 uq:=fun k l x hk hl=>by
  have lk:=(List.getElem?_eq_some_iff.mp hk).1
  have ll:=(List.getElem?_eq_some_iff.mp hl).1
  rw[List.length_append,List.length_singleton] at lk ll
  have last:∀m,m=rs.length->(rs++[some (i,lo,hi)])[m]?=some (some x)->x=(i,lo,hi):=fun m hm h=>by
   subst hm
   simp at h
   exact h.symm
  by_cases h1:k<rs.length
  ·by_cases h2:l<rs.length
   ·rw[Zo h1] at hk
    rw[Zo h2] at hl
    exact B.uq k l x hk hl
   ·exfalso
    have e:=last l (by omega) hl
    subst e
    rw[Zo h1] at hk
    exact new (List.mem_of_getElem? hk)
  ·by_cases h2:l<rs.length
   ·exfalso
    have e:=last k (by omega) hk
    subst e
    rw[Zo h2] at hl
    exact new (List.mem_of_getElem? hl)
   ·omega
theorem zbn {n:Nat} {rs:List Rm} (B:Bk n rs) {x:Rm} (r:Row):∀(f k:Nat),k<rs.length->lead (rs++[x]) r f k=lead rs r f k
 | 0,_,_=>rfl
 | f+1,k,hk=>by
  unfold lead
  rw[Zo hk]
  by_cases h2:2<=k
  ·obtain⟨i,lo,hi,e,_,hlo,hhi,_⟩:=B.rm k h2 hk
   rw[e]
   show lead (rs++[x]) r f (if r i then hi else lo)=lead rs r f (if r i then hi else lo)
   exact zbn B r f _ (by split<;>omega)
  ·have:k=0\/k=1:=by omega
   rcases this with z | z<;>subst z
   ·rw[B.h0]
   ·rw[B.h1]
theorem zcU {n:Nat} {rs:List Rm} (B:Bk n rs) {x:Rm} {k:Nat} (hk:k<rs.length) (r:Row):yes (rs++[x]) k r=yes rs k r:=by
 unfold yes; rw[zbn B r k k hk]
def xr (rs rs':List Rm):Prop:=∃xs,rs'=rs++xs
theorem xr.refl (rs:List Rm):xr rs rs:=⟨[],by simp⟩
theorem xr.trans {a b c:List Rm} (h:xr a b) (k:xr b c):xr a c:=by
 obtain⟨x,rfl⟩:=h
 obtain⟨y,rfl⟩:=k
 exact⟨x++y,by rw[List.append_assoc]⟩
theorem xr.len {a b:List Rm} (h:xr a b):a.length<=b.length:=by
 obtain⟨x,rfl⟩:=h
 rw[List.length_append]; omega
theorem xr.get {a b:List Rm} (h:xr a b) {k:Nat} (hk:k<a.length):b[k]?=a[k]?:=by
 obtain⟨x,rfl⟩:=h
 exact List.getElem?_append_left hk
theorem xr.snoc (rs:List Rm) (x:Rm):xr rs (rs++[x]):=⟨[x],rfl⟩
theorem xr.lev {n:Nat} {a b:List Rm} (h:xr a b) {k:Nat} (hk:k<a.length):lev n b k=lev n a k:=by
 unfold Bdd.lev; rw[h.get hk]
theorem xr.lead {n:Nat} {a b:List Rm} (B:Bk n a) (h:xr a b) (r:Row):∀(f k:Nat),k<a.length->lead b r f k=lead a r f k
 | 0,_,_=>rfl
 | f+1,k,hk=>by
  unfold Bdd.lead
  rw[h.get hk]
  by_cases h2:2<=k
  ·obtain⟨i,lo,hi,e,_,hlo,hhi,_⟩:=B.rm k h2 hk
   rw[e]
   show Bdd.lead b r f (if r i then hi else lo)=Bdd.lead a r f (if r i then hi else lo)
   exact xr.lead B h r f _ (by split<;>omega)
  ·have:k=0\/k=1:=by omega
   rcases this with z | z<;>subst z
   ·rw[B.h0]
   ·rw[B.h1]
theorem xr.yes {n:Nat} {a b:List Rm} (B:Bk n a) (h:xr a b) {k:Nat} (hk:k<a.length) (r:Row):yes b k r=yes a k r:=by
 unfold Bdd.yes; rw[xr.lead B h r k k hk]
end Bdd
namespace L2
end L2
namespace Sen
open PySem L2 Bdd
abbrev zZ:=Addr->Prop
def Xd (F:zZ) (H H':Hp):Prop:=∀x o,H x=some o->¬F x->H' x=some o
def zbo:List Str:=["room", "size", "order", "enter", "worth_at", "below"]
structure Xe (C:Addr) (B:Hp->Addr->List Str->List Rm->zZ->Prop):Prop where
 ins:∀{H b os rs F},B H b os rs F->∃dx fs,H b=some (.ins C dx fs)/\∀m∈zbo,fs.lookup m=none
 frame:∀{H H' b os rs F},B H b os rs F->(∀x o,H x=some o->F x->H' x=some o)->yw H H'->B H' b os rs F
 there:∀{H b os rs F x},B H b os rs F->F x->H x≠none
 bk:∀{H b os rs F},B H b os rs F->Bk os.length rs
 ord:∀{H b os rs F},B H b os rs F->yZ os
theorem Xe.same {C:Addr} {B:Hp->Addr->List Str->List Rm->zZ->Prop} (L:Xe C B) {H H':Hp} {b:Addr} {os:List Str} {rs:List Rm} {F:zZ} (h:B H b os rs F) (g:Same H H'):B H' b os rs F :=
 L.frame h (fun x o e _=>g x o e) (yw.of g)
theorem Xe.fresh {C:Addr} {B:Hp->Addr->List Str->List Rm->zZ->Prop} (L:Xe C B) {H:Hp} {b x:Addr} {os:List Str} {rs:List Rm} {F:zZ} (h:B H b os rs F) (e:H x=none):¬F x:=fun q=>L.there h q e
theorem Xe.lst {C:Addr} {B:Hp->Addr->List Str->List Rm->zZ->Prop} (L:Xe C B) {H:Hp} {b x:Addr} {os:List Str} {rs:List Rm} {F:zZ} {xs:List V} (h:B H b os rs F) (e:H x=some (.lst xs)) (n:¬F x) (o:HO):B (upd H x o) b os rs F :=
 L.frame h (fun y u e' hy=>by rw[zB (fun z=>n (by rw[<-z]; exact hy))]; exact e') (yw.lst e o)
theorem Xd.of_same {F:zZ} {H H':Hp} (g:Same H H'):Xd F H H':=fun x o e _=>g x o e
def zjl (os:List Str) (H:Hp) (x:Rm) (v:V):Prop:=match x with
 | none=>v=.non
 | some (i,lo,hi)=>∃(p:Addr) (y:Str),v=.ref p/\os[i]?=some y/\H p=some (.tup [.str y,.int (lo:Nat),.int (hi:Nat)])
def ziH (os:List Str) (r:Row):Str->Bool:=fun x=>r (ix os x)
section
variable (B:Hp->Addr->List Str->List Rm->zZ->Prop) (K:PySem.W.Frag) (C:Addr)
def Q9:Sp:=fun vs H Q _=>∃(b dx l:Addr) (os:List Str),vs=[.ref b,.ref l]/\H b=some (.ins C dx [])/\b≠dx/\SqL K H l (os.map V.str)/\yZ os /\
 ∀(H':Hp) (F:zZ),(∀x o,H x=some o->x≠b->H' x=some o)->B H' b os [none,none] F->(∀x,F x->x=b\/x=dx\/H x=none)->Q .non H'
def Pa:Sp:=fun vs H Q _=>∃(b:Addr) (os:List Str) (rs:List Rm) (F:zZ),vs=[.ref b]/\B H b os rs F/\∀H',Same H H'->Q (.int (rs.length:Nat)) H'
def xJ:Sp:=fun vs H Q _=>∃(b:Addr) (os:List Str) (rs:List Rm) (F:zZ),vs=[.ref b]/\B H b os rs F/\∀(l:Addr) (H':Hp),Same H H'->H l=none->H' l=some (.lst (os.map V.str))->Q (.ref l) H'
def zaf:Sp:=fun vs H Q _=>∃(b:Addr) (os:List Str) (rs:List Rm) (F:zZ) (k:Nat) (x:Rm),vs=[.ref b,.int k]/\B H b os rs F/\rs[k]?=some x/\∀(v:V) (H':Hp),Same H H'->zjl os H' x v->Q v H'
end
theorem zjm {K:PySem.W.Frag} {H:Hp} {n:Nat} {p q:Addr} {xs ys:List V} (hp:SqL K H p xs) (hq:SqL K H q ys) (hl:xs.length=ys.length) (h:∀(j:Nat) x y,xs[j]?=some x->ys[j]?=some y->EqD K H n x y true):EqD K H (n+1) (.ref p) (.ref q) true:=by
 have z:=EqD.ll (e:=fun _=>true) hp hq hl h
 have e:(List.range xs.length).all (fun _=>true)=true:=by simp
 rw[e] at z
 exact z
theorem zhT {K:PySem.W.Frag} {H:Hp} {n:Nat} {x:V} (f:wA x=true):EqD K H n x x true:=by
 have z:=EqD.flat (K:=K) (H:=H) (n:=n) f f
 rw[zcR f] at z
 exact z
end Sen
namespace L2
open PySem PySem.Spec PyProof.Rows
theorem zbp:bootBuiltins "sorted"=some (.builtin "sorted"):=by decide +kernel
end L2
namespace Bdd
open L2
end Bdd
namespace Sen
open PySem L2 Bdd
section
variable (B:Hp->Addr->List Str->List Rm->zZ->Prop)
end
end Sen
namespace Bdd
def Means (rs:List Rm) (k:Nat) (f:Row->Bool):Prop:=k<rs.length/\∀r,yes rs k r=f r
theorem Means.grown {n:Nat} {a b:List Rm} (B:Bk n a) (g:xr a b) {k:Nat} {f:Row->Bool} (h:Means a k f):Means b k f:=⟨Nat.lt_of_lt_of_le h.1 g.len,fun r=>by rw[g.yes B h.1]; exact h.2 r⟩
end Bdd
namespace L2
open PySem
theorem zcV {X:Cx} {all rest:List Stmt} {D:Ends} {Tf:TS->TS} {Pre:St->Hp->Prop} (Mid:St->Hp->Prop) (h1:∀t,PSs X rest t->PSs X all (Tf t)) (h:∀u:TS,(∀ σ H,Mid σ H->u D σ H)->∀ σ H,Pre σ H->Tf u D σ H)
  (hr:∃t,PSs X rest t/\∀ σ H,Mid σ H->t D σ H):∃t,PSs X all t/\∀ σ H,Pre σ H->t D σ H :=
 let ⟨t,a,b⟩:=hr
 ⟨Tf t,h1 t a,h t b⟩
theorem ziI {X:Cx} {all:List Stmt} {D:Ends} {σ:St} {H:Hp} (h:∃t,PSs X all t/\∀ σ' H',(σ'=σ/\H'=H)->t D σ' H'):∃t,PSs X all t/\t D σ H :=
 let ⟨t,a,b⟩:=h
 ⟨t,a,b _ _ ⟨rfl,rfl⟩⟩
end L2
namespace Sen
open PySem L2 Bdd
section
variable (B:Hp->Addr->List Str->List Rm->zZ->Prop)
end
section
variable {B:Hp->Addr->List Str->List Rm->zZ->Prop} {C:Addr} {H0:Hp} {b:Addr} {os:List Str} {n:Nat} {H:Hp} {rs:List Rm} {F:zZ}
end
end Sen
namespace Bdd
open Sen
def xg (b:Nat):Row:=fun i=>b.testBit i
def bits (r:Row):Nat->Nat
 | 0=>0
 | n+1=>if r n then bits r n+2^n else bits r n
theorem z8 (r:Row):∀n,bits r n<2^n
 | 0=>Nat.zero_lt_one
 | n+1=>by
  have ih:=z8 r n
  unfold bits
  rw[Nat.pow_succ]
  split<;>omega
theorem tE (r:Row):∀{n i:Nat},i<n->(bits r n).testBit i=r i
 | 0,i,h=>by omega
 | n+1,i,h=>by
  have lt:=z8 r n
  have z:(bits r n).testBit n=false:=Nat.testBit_lt_two_pow lt
  unfold bits
  by_cases e:i=n
  ·subst e
   cases hr:r i
   ·rw[if_neg Bool.false_ne_true]; exact z
   ·rw[if_pos rfl,vZ,z]; rfl
  ·have hi:i<n:=by omega
   split
   ·rw[Ri hi]; exact tE r hi
   ·exact tE r hi
theorem W4 {n a b:Nat} (ha:a<2^n) (hb:b<2^n) (h:∀i,i<n->a.testBit i=b.testBit i):a=b :=
 Nat.eq_of_testBit_eq fun i=>by
  by_cases hi:i<n
  ·exact h i hi
  ·have:2^n<=2^i:=Nat.pow_le_pow_right (by decide) (by omega)
   rw[Nat.testBit_lt_two_pow (by omega),Nat.testBit_lt_two_pow (by omega)]
theorem zcW {r:Row} {n i:Nat} (hi:i<n) (v:Bool):bits (put r i v) n=zE (bits r n) i v:=by
 refine W4 (z8 _ _) (yU (z8 _ _) hi) fun j hj=>?_
 rw[tE _ hj,zT,tE _ hj]
 rfl
theorem Zf {n b:Nat} (h:b<2^n):bits (xg b) n=b:=W4 (z8 _ _) h fun i hi=>by rw[tE _ hi]; rfl
theorem Sh {n:Nat} {rs:List Rm} (B:Bk n rs) {k:Nat} (hk:k<rs.length) (r:Row):yes rs k (xg (bits r n))=yes rs k r :=
 VG B k k (Nat.le_refl _) hk fun i _ hi=>tE r hi
theorem Qd {n N M:Nat} {f g:Nat->Bool} (h:zL n N f) (k:zL n M g) (e:∀b,b<2^n->f b=g b):N=M :=
 Nat.eq_of_testBit_eq fun i=>by
  rw[h i,k i]
  by_cases hi:i<2^n
  ·rw[e i hi]
  ·rw[decide_eq_false hi]; rfl
theorem Qe {n N:Nat} {f:Nat->Bool} (h:zL n N f) {b:Nat} (hb:b<2^n):N.testBit b=f b:=by rw[h b,decide_eq_true hb]; rfl
def Free (n:Nat) (f:Nat->Bool) (p:Nat):Prop:=∀b,b<2^n->∀v,f (zE b p v)=f b
theorem xM (b p:Nat):zE b p (b.testBit p)=b:=by unfold zE; rw[if_pos rfl]
theorem Free.of_flip {n p:Nat} {f:Nat->Bool} (h:∀b,b<2^n->f (zE b p (!b.testBit p))=f b):Free n f p:=fun b hb v=>by
 by_cases e:v=b.testBit p
 ·rw[e,xM]
 ·have:v=!b.testBit p:=by cases v<;>cases hh:b.testBit p<;>simp_all
  rw[this]; exact h b hb
theorem zbY {n:Nat} {f:Nat->Bool} (h:∀p,p<n->Free n f p):∀b,b<2^n->f b=f 0:=by
 have key:∀m b,m<=n->b<2^n->(∀i,m<=i->i<n->b.testBit i=false)->f b=f 0:=by
  intro m
  induction m with
  | zero =>
   intro b _ hb hz
   have:b=0:=W4 hb (Nat.two_pow_pos n) fun i hi=>by rw[hz i (Nat.zero_le _) hi,Nat.zero_testBit]
   rw[this]
  | succ m ih =>
   intro b hm hb hz
   rw[<-h m (by omega) b hb false]
   refine ih _ (by omega) (yU hb (by omega)) fun i hi hin=>?_
   rw[zT]
   by_cases e:i=m
   ·rw[if_pos e]
   ·rw[if_neg e]; exact hz i (by omega) hin
 exact fun b hb=>key n b (Nat.le_refl _) hb fun i hi hin=>by omega
theorem ziJ {n:Nat} {rs:List Rm} (B:Bk n rs) {k p:Nat} (hk:k<rs.length) (hp:p<n) (h:∀i,i<=p->∀r v,yes rs k (put r i v)=yes rs k r):p<lev n rs k:=by
 by_cases k2:2<=k
 ·obtain⟨i,lo,hi,e,hin,hlo,hhi,hne,l1,l2⟩:=B.rm k k2 hk
  rw[Wj B e]
  by_cases hip:i<=p
  ·exfalso
   refine hne (Zn B (max lo hi) lo hi ⟨Nat.le_max_left _ _,Nat.le_max_right _ _⟩ (by omega) (by omega) fun r=>?_)
   have z:=Wk B e hk r
   rw[<-z.1,<-z.2,h i hip,h i hip]
  ·omega
 ·have:k=0\/k=1:=by omega
  rcases this with z | z<;>subst z
  ·rw[zcT B]; exact hp
  ·rw[zaQ B]; exact hp
theorem zgS {n m p k0 k1:Nat} {rs:List Rm} {f:Nat->Bool} (B:Bk n rs) (hp:p<n) (m0:k0<rs.length) (m1:k1<rs.length)
  (y0:∀r,yes rs k0 r=f (zE (bits r n) p false)) (y1:∀r,yes rs k1 r=f (zE (bits r n) p true)) (fr:∀i,i<p->Free n f i)
  (dep:∃b,b<2^n/\f (zE b p false)≠f (zE b p true)) (old:∀j,j<m->¬∀r,yes rs j r=f (bits r n)) (hl:∀j,m<=j->j<rs.length->p<lev n rs j) :
  Bk n (rs++[some (p,k0,k1)])/\∀r,yes (rs++[some (p,k0,k1)]) rs.length r=f (bits r n):=by
 have pb:∀(r:Row) v,zE (bits r n) p v<2^n:=fun r v=>yU (z8 _ _) hp
 have low:∀(k:Nat) (w:Bool),k<rs.length->(∀r,yes rs k r=f (zE (bits r n) p w))->p<lev n rs k:=fun k w hk hy=>ziJ B hk hp fun i hi r v=>by
  rw[hy,hy,zcW (by omega)]
  by_cases e:i=p
  ·subst e
   congr 1
   refine W4 (yU (yU (z8 _ _) hp) hp) (pb r w) fun j _=>?_
   rw[zT,zT,zT]
   by_cases e:j=i
   ·rw[if_pos e,if_pos e]
   ·rw[if_neg e,if_neg e,if_neg e]
  ·rw[<-fr i (by omega) _ (pb r w) v]
   congr 1
   refine W4 (yU (yU (z8 _ _) (by omega)) hp) (yU (pb r w) (by omega)) fun j _=>?_
   rw[zT,zT,zT,zT]
   by_cases e1:j=p
   ·rw[if_pos e1,if_pos e1,if_neg (by omega)]
   ·rw[if_neg e1,if_neg e1]
 have ne:k0≠k1:=fun e=>by
  subst e
  obtain⟨b,hb,hne⟩:=dep
  refine hne ?_
  have a:=y0 (xg b)
  have c:=y1 (xg b)
  rw[Zf hb] at a c
  exact a.symm.trans c
 have fin:∀(R:List Rm) (k:Nat),Bk n R->R[k]?=some (some (p,k0,k1))->(∀j,j<rs.length->∀r,yes R j r=yes rs j r)->∀r,yes R k r=f (bits r n):=fun R k BR e same r=>by
  rw[W3 BR e,same _ m1,same _ m0,y0,y1]
  have hb:=tE r hp
  cases hr:r p
  ·rw[if_neg Bool.false_ne_true]
   rw[hr] at hb
   conv=>rhs; rw[<-xM (bits r n) p,hb]
  ·rw[if_pos rfl]
   rw[hr] at hb
   conv=>rhs; rw[<-xM (bits r n) p,hb]
 have new:some (p,k0,k1)∉rs:=fun h=>by
  obtain⟨j,hj,e⟩:=List.getElem_of_mem h
  have e':rs[j]?=some (some (p,k0,k1)):=by rw[List.getElem?_eq_getElem hj,e]
  by_cases hm:j<m
  ·exact old j hm (fin rs j B e' fun _ _ _=>rfl)
  ·have:=hl j (by omega) hj
   rw[Wj B e'] at this
   omega
 have B':=B.snoc hp m0 m1 ne (low k0 false m0 y0) (low k1 true m1 y1) new
 refine⟨B',fin _ _ B' (by simp) fun j hj r=>?_⟩
 exact zcU B hj r
end Bdd
namespace Bdd
open Sen
structure Mq (n:Nat) (rs:List Rm) (ts:List Nat):Prop where
 len:ts.length=rs.length
 tab:∀(j t:Nat),ts[j]?=some t->zL n t (fun b=>yes rs j (xg b))
theorem Mq.snoc {n:Nat} {rs:List Rm} (B:Bk n rs) {ts:List Nat} {x:Rm} {t:Nat} (h:Mq n rs ts) (k:zL n t (fun b=>yes (rs++[x]) rs.length (xg b))):Mq n (rs++[x]) (ts++[t]):=by
 refine⟨by rw[List.length_append,List.length_append,h.len]; rfl,fun j u e=>?_⟩
 by_cases hj:j<ts.length
 ·rw[List.getElem?_append_left hj] at e
  refine wV (h.tab j u e) fun b _=>?_
  rw[zcU B (by rw[<-h.len]; exact hj)]
 ·have lt:=(List.getElem?_eq_some_iff.mp e).1
  rw[List.length_append,List.length_singleton] at lt
  have ej:j=ts.length:=by omega
  subst ej
  simp at e
  subst e
  rw[h.len]
  exact k
theorem Mq.find {n:Nat} {rs:List Rm} (B:Bk n rs) {ts:List Nat} (h:Mq n rs ts) {j t:Nat} {f:Nat->Bool} (e:ts[j]?=some t) (tb:zL n t f) (r:Row):yes rs j r=f (bits r n):=by
 have hj:j<rs.length:=by rw[<-h.len]; exact(List.getElem?_eq_some_iff.mp e).1
 rw[<-Sh B hj,<-Qe tb (z8 r n),Qe (h.tab j t e) (z8 r n)]
theorem Mq.same {n:Nat} {rs:List Rm} {ts:List Nat} (h:Mq n rs ts) {j t:Nat} {f:Nat->Bool} (hj:j<rs.length) (tb:zL n t f) (hy:∀r,yes rs j r=f (bits r n)):ts[j]?=some t:=by
 have lt:j<ts.length:=by rw[h.len]; exact hj
 rw[List.getElem?_eq_getElem lt]
 congr 1
 refine Qd (h.tab j _ (List.getElem?_eq_getElem lt)) tb fun b hb=>?_
 show yes rs j (xg b)=f b
 rw[hy,Zf hb]
end Bdd
namespace Sen
open PySem L2 Bdd
structure Nums (ts:List Nat) (kvs:List (Key×V)):Prop where
 get:∀(j t:Nat),ts[j]?=some t->vI kvs (Sum.inl (t:Int))=some (.int (j:Nat))
 non:∀t:Nat,t∉ts->vI kvs (Sum.inl (t:Int))=none
 len:kvs.length<=ts.length
theorem Nums.snoc {ts:List Nat} {kvs:List (Key×V)} (h:Nums ts kvs) {t:Nat} (ht:t∉ts):Nums (ts++[t]) (putK kvs (Sum.inl (t:Int)) (.int (ts.length:Nat))):=by
 refine⟨fun j u e=>?_,fun u hu=>?_,?_⟩
 ·rw[Jh]
  by_cases hj:j<ts.length
  ·rw[List.getElem?_append_left hj] at e
   have hm:=List.mem_of_getElem? e
   rw[if_neg fun z=>?_]
   ·exact h.get j u e
   ·have:(u:Int)=(t:Int):=Sum.inl.inj z
    have:u=t:=by omega
    exact ht (this ▸ hm)
  ·have lt:=(List.getElem?_eq_some_iff.mp e).1
   rw[List.length_append,List.length_singleton] at lt
   have ej:j=ts.length:=by omega
   subst ej
   simp at e
   subst e
   rw[if_pos rfl]
 ·rw[Jh,if_neg fun z=>?_]
  ·exact h.non u fun z=>hu (List.mem_append_left _ z)
  ·have:(u:Int)=(t:Int):=Sum.inl.inj z
   have:u=t:=by omega
   exact hu (this ▸ List.mem_append_right _ List.mem_cons_self)
 ·have:=Vo kvs (Sum.inl (t:Int)) (.int (ts.length:Nat))
  have:=h.len
  rw[List.length_append,List.length_singleton]
  omega
def zjn (n j:Nat):Rm->List V
 | none=>[.int (n:Nat),.int (j:Nat),.int (j:Nat)]
 | some (i,lo,hi)=>[.int (i:Nat),.int (lo:Nat),.int (hi:Nat)]
def zfW (j:Nat) (x:Rm) (v:Bool):Nat:=match x with
 | none=>j
 | some (_,lo,hi)=>if v then hi else lo
def Qg (ml rl tl nd:Addr):List (Str×V):=[("marks", .ref ml),("rooms", .ref rl),("tables", .ref tl),("numbers", .ref nd)]
structure Parts (C:Addr) (H:Hp) (b:Addr) (os:List Str) (rs:List Rm) (F:zZ) (dx ml rl tl nd:Addr) (rv:List V) (ts:List Nat) (kvs:List (Key×V)):Prop where
 hb:H b=some (.ins C dx (Qg ml rl tl nd))
 hm:H ml=some (.lst (os.map V.str))
 hr:H rl=some (.lst rv)
 ht:H tl=some (.lst (ts.map fun t=>V.int (t:Nat)))
 hd:H nd=some (.dK kvs)
 mr:ml≠rl
 mt:ml≠tl
 rt:rl≠tl
 ord:yZ os
 bk:Bk os.length rs
 len:rv.length=rs.length
 rm:∀(j:Nat) x,rs[j]?=some x->∃p,rv[j]?=some (.ref p)/\H p=some (.tup (zjn os.length j x))
 tabs:Mq os.length rs ts
 nums:Nums ts kvs
 ft:∀x,F x↔(x=b\/x=ml\/x=rl\/x=tl\/x=nd)
def zR (C:Addr) (H:Hp) (b:Addr) (os:List Str) (rs:List Rm) (F:zZ):Prop:=∃dx ml rl tl nd rv ts kvs,Parts C H b os rs F dx ml rl tl nd rv ts kvs
theorem Parts.frame {C:Addr} {H H':Hp} {b:Addr} {os:List Str} {rs:List Rm} {F:zZ} {dx ml rl tl nd:Addr} {rv:List V} {ts:List Nat} {kvs:List (Key×V)} (h:Parts C H b os rs F dx ml rl tl nd rv ts kvs)
  (s:∀x o,H x=some o->F x->H' x=some o) (t:yw H H'):Parts C H' b os rs F dx ml rl tl nd rv ts kvs :=
 {h with
  hb:=s _ _ h.hb ((h.ft _).mpr (.inl rfl))
  hm:=s _ _ h.hm ((h.ft _).mpr (.inr (.inl rfl)))
  hr:=s _ _ h.hr ((h.ft _).mpr (.inr (.inr (.inl rfl))))
  ht:=s _ _ h.ht ((h.ft _).mpr (.inr (.inr (.inr (.inl rfl)))))
  hd:=s _ _ h.hd ((h.ft _).mpr (.inr (.inr (.inr (.inr rfl)))))
  rm:=fun j x e=>let ⟨p,a,c⟩:=h.rm j x e; ⟨p,a,t _ _ c⟩ }
theorem yx (C:Addr):Xe C (zR C) where
 ins:=fun⟨dx,ml,rl,tl,nd,rv,ts,kvs,h⟩=>⟨dx,_,h.hb,fun m hm=>by
  simp only[zbo,List.mem_cons,List.not_mem_nil,or_false] at hm
  rcases hm with z | z | z | z | z | z<;>subst z<;>rfl⟩
 frame:=fun⟨dx,ml,rl,tl,nd,rv,ts,kvs,h⟩ s t=>⟨dx,ml,rl,tl,nd,rv,ts,kvs,h.frame s t⟩
 there:=fun⟨dx,ml,rl,tl,nd,rv,ts,kvs,h⟩ hx=>by
  rcases (h.ft _).mp hx with z | z | z | z | z<;>subst z
  ·rw[h.hb]; exact fun z=>by cases z
  ·rw[h.hm]; exact fun z=>by cases z
  ·rw[h.hr]; exact fun z=>by cases z
  ·rw[h.ht]; exact fun z=>by cases z
  ·rw[h.hd]; exact fun z=>by cases z
 bk:=fun⟨_,_,_,_,_,_,_,_,h⟩=>h.bk
 ord:=fun⟨_,_,_,_,_,_,_,_,h⟩=>h.ord
theorem Parts.more {C:Addr} {H H':Hp} {b:Addr} {os:List Str} {rs:List Rm} {F:zZ} {dx ml rl tl nd:Addr} {rv:List V} {ts:List Nat} {kvs:List (Key×V)} (h:Parts C H b os rs F dx ml rl tl nd rv ts kvs)
  {i lo hi t:Nat} {q:Addr} (t':yw H H') (hb:H' b=H b) (hm:H' ml=H ml) (hr:H' rl=some (.lst (rv++[.ref q]))) (ht:H' tl=some (.lst (ts.map (fun t=>V.int (t:Nat))++[.int (t:Nat)])))
  (hd:H' nd=some (.dK (putK kvs (Sum.inl (t:Int)) (.int (rs.length:Nat))))) (hq:H' q=some (.tup [.int (i:Nat),.int (lo:Nat),.int (hi:Nat)])) (B':Bk os.length (rs++[some (i,lo,hi)])) (hn:t∉ts) (tb:zL os.length t (fun b=>yes (rs++[some (i,lo,hi)]) rs.length (xg b))) :
  Parts C H' b os (rs++[some (i,lo,hi)]) F dx ml rl tl nd (rv++[.ref q]) (ts++[t]) (putK kvs (Sum.inl (t:Int)) (.int (rs.length:Nat))) :=
 {hb:=by rw[hb]; exact h.hb
  hm:=by rw[hm]; exact h.hm
  hr:=hr
  ht:=by rw[ht,List.map_append]; rfl
  hd:=hd
  mr:=h.mr
  mt:=h.mt
  rt:=h.rt
  ord:=h.ord
  bk:=B'
  len:=by rw[List.length_append,List.length_append,h.len]; rfl
  rm:=fun j x e=>by
   by_cases hj:j<rs.length
   ·rw[List.getElem?_append_left hj] at e
    obtain⟨p,a,c⟩:=h.rm j x e
    exact⟨p,by rw[List.getElem?_append_left (by rw[h.len]; exact hj)]; exact a,t' _ _ c⟩
   ·have lt:=(List.getElem?_eq_some_iff.mp e).1
    rw[List.length_append,List.length_singleton] at lt
    have ej:j=rs.length:=by omega
    subst ej
    simp at e
    subst e
    exact⟨q,by rw[<-h.len]; simp,hq⟩
  tabs:=h.tabs.snoc h.bk tb
  nums:=by
   have z:=h.nums.snoc hn
   rw[h.tabs.len] at z
   exact z
  ft:=h.ft }
def Sq:Sp:=fun vs H Q _=>∃(N p n:Nat) (v:Bool) (f:Nat->Bool),vs=[.int N,.int p,.int (v.toNat:Nat),.int n]/\p<n/\n<=8/\zL n N f/\∀R:Nat,zL n R (fun b=>f (zE b p v))->Q (.int R) H
def zaR:Sp:=fun vs H Q _=>∃(N n:Nat) (f:Nat->Bool),vs=[.int N,.int n]/\n<=8/\zL n N f/\∀p:Nat,p<=n->(∀i,i<p->Free n f i)->(p<n->∃b,b<2^n/\f (zE b p false)≠f (zE b p true))->Q (.int p) H
def Wm (C:Addr):Sp:=fun vs H Q _=>∃(b:Addr) (os:List Str) (rs:List Rm) (F:zZ) (k:Nat),vs=[.ref b,.int k]/\zR C H b os rs F/\k<rs.length/\Q .non H
def Mr (C:Addr):Sp:=fun vs H Q _=>∃(b:Addr) (os:List Str) (rs:List Rm) (F:zZ) (k:Nat),vs=[.ref b,.int k]/\zR C H b os rs F/\k<rs.length/\Q (.int (lev os.length rs k:Nat)) H
def zaS (C:Addr):Sp:=fun vs H Q _=>∃(b:Addr) (os:List Str) (rs:List Rm) (F:zZ) (k:Nat) (x:Rm) (v:Bool),vs=[.ref b,.int k,.int (v.toNat:Nat)]/\zR C H b os rs F/\rs[k]?=some x/\Q (.int (zfW k x v:Nat)) H
def wW (C:Addr):Sp:=fun vs H Q _=>∃(b:Addr) (os:List Str) (rs:List Rm) (F:zZ) (k:Nat),vs=[.ref b,.int k]/\zR C H b os rs F/\k<rs.length/\∀t:Nat,zL os.length t (fun b=>yes rs k (xg b))->Q (.int t) H
def zaT:Sp:=fun vs H Q _=>∃(N p n:Nat) (f:Nat->Bool),vs=[.int N,.int p,.int n]/\p<n/\n<=8/\zL n N f/\∀b:Bool,(b=false->Free n f p)->(b=true->∃c,c<2^n/\f (zE c p false)≠f (zE c p true))->Q (.bl b) H
def VH:Sp:=fun vs H Q _=>∃(N M n:Nat) (f g:Nat->Bool),vs=[.int N,.int M]/\zL n N f/\zL n M g/\∀R:Nat,zL n R (fun b=>f b&&!g b)->Q (.int R) H
def Jj:Sp:=fun vs H Q _=>∃(W L M n:Nat) (f g h:Nat->Bool),vs=[.int W,.int L,.int M]/\zL n W f/\zL n L g/\zL n M h/\∀R:Nat,zL n R (fun b=>if f b then h b else g b)->Q (.int R) H
end Sen
namespace L2
open PySem PySem.Spec PyProof.Rows
def Its (x:Str):It:={ go:=fun i _=>i<x.cps.size,yld:=fun i H v H'=>H'=H/\∃c,x.cps[i]?=some c/\v=.str ⟨#[c]⟩,stop:=fun i _=>i=x.cps.size }
theorem zgT {P:Program} {w:World} {K:PySem.W.Frag} {tg:Expr} (it:Addr) (x:Str) (t:Tok):Turn P w K tg (Its x) [it] it (fun i h=>h.IsStrIter it "str_ascii_iterator" x t i) where
 mem:=by simp
 obj:=fun i h st b hb=>by
  have e:b=it:=by simpa using hb
  subst e
  obtain⟨o,e,c,d⟩:=st
  exact⟨o,e,fun v z=>by rw[d] at z; cases z⟩
 keep:=fun i h h' st k=>by
  obtain⟨o,e,c,d⟩:=st
  exact⟨o,k it (by simp) o e,c,d⟩
 item:=by
  intro X hP hw hK hc i pins s σ H E I hf st hg
  subst hP hw hK
  obtain⟨f0,f1,f2,f3,f4,f5⟩:=hf it (by simp)
  have W:=Walks.strAscii (prog:=X.prog) (w:=X.w) (I.ok.hd hc) it x t
  refine W.item i s _ _ hg st fun v h' tk hv st' kk=>?_
  obtain⟨c,u,hc',rfl⟩:=hv
  have I1:Inv X pins σ H { s with heap:=h',toks:=tk }:=I.turned (fun b o hb e=>kk b o (by simpa using hb) e) f0 f1 f3 f4 f5
  obtain⟨o,e,cc,d⟩:=id st'
  exact⟨_,rfl,JK (s:={ s with heap:=h',toks:=tk }) e cc d (by decide) ⟨.str ⟨#[c]⟩,H,I1,⟨u,rfl⟩,⟨rfl,c,hc',rfl⟩,st',fun b hb=>(hf b hb).1⟩⟩
 done:=by
  intro X hP hw hK hc i pins s σ H E I hf st hg
  subst hP hw hK
  obtain⟨f0,f1,f2,f3,f4,f5⟩:=hf it (by simp)
  have W:=Walks.strAscii (prog:=X.prog) (w:=X.w) (I.ok.hd hc) it x t
  have e:i=x.cps.size:=hg
  subst e
  exact W.done s _ _ st fun h' tk kk=>⟨rfl,I.turned (fun b o hb e=>kk b o (by simpa using hb) e) f0 f1 f3 f4 f5⟩
 self:=fun _ _ _ _ _ st h=>wpAny_pyIter_striter_ascii st h
section
variable {X:Cx} {tg:Expr}
def zjN (tl:TE):TI:=fun σ H R=>tl σ H fun x H1=>∃z:Str,x=.str z/\(z.cps.all fun c=>decide (c<128))=true/\R (Its z) H1
theorem ziK {l:Expr} {tl:TE} (hl:PE X l tl):PI X tg l (zjN tl):=by
 intro pins s σ H R I h
 refine thn (hl pins s σ H _ I h) fun v s1 ⟨x,H1,I1,r1,q1⟩=>?_
 obtain⟨z,e,ha,q⟩:=q1
 subst e
 obtain⟨t,rfl⟩:=r1
 refine wpAny_pyIter_ascii ha ?_
 refine⟨s1.heap.objs.size,[s1.heap.objs.size],_,_,H1,rfl,I1.kept (t':=s1.toks) fun b o e=>Heap.get?_push_of_some _ e,zgT _ z t,⟨_,Heap.get?_push_size _ rfl,rfl,rfl⟩,fun b hb=>?_,q⟩
 have e:b=s1.heap.objs.size:=by simpa using hb
 subst e
 exact I1.fpOk (Nat.le_refl _) (I1.hok.fresh (Nat.le_refl _))
end
section
variable {x:Str} {σ:St} {js:List Nat} {te:TE} {H:Hp} {Qf:Addr->Hp->List V->Prop}
end
end L2
namespace Bdd
end Bdd
namespace Sen
open PySem L2 Bdd
theorem zfX {n:Nat} {rs:List Rm} (B:Bk n rs) {k:Nat} {f:Row->Bool} (h:Means rs k f) (r:Row):yes rs k (xg (bits r n))=f r:=(Sh B h.1 r).trans (h.2 r)
end Sen
namespace Bdd
open Sen
def allR:Nat->List (List Bool)
 | 0=>[[]]
 | n+1=>(allR n).flatMap fun r=>[r++[false],r++[true]]
def ziL (r:List Bool):Row:=fun i=>r.getD i false
theorem zbq {α β:Type} (f:α->List β) (h:∀a,(f a).length=2):∀l:List α,(l.flatMap f).length=2*l.length
 | []=>rfl
 | a::l=>by rw[List.flatMap_cons,List.length_append,h a,zbq f h l,List.length_cons]; omega
theorem Mt:∀n,(allR n).length=2^n
 | 0=>rfl
 | n+1=>by
  show((allR n).flatMap _).length=_
  rw[zbq _ (fun _=>rfl),Mt n,Nat.pow_succ]; omega
section
variable {n:Nat} {rs:List Rm} (B:Bk n rs)
include B
end
end Bdd
namespace L2
open PySem PySem.Spec PyProof.Rows
section
variable {X:Cx} {sc osc:Scope} {xs:List Str} {js:List Nat} {tg:Expr} {g:TG} {elt iter:Expr} {px pos:Pos} {ifs:List Expr} {wi:TI} {tt:TT} {te:TE}
theorem ziM (hosc:X.env.scope=osc) (L:zcc osc sc xs (js.map fun j=>X.N.getD j "")) (hc:X.calm=true) (hi:PI X tg iter wi) (hg:∀(cl:List (Str×Addr)) (C:Addr) (s₂:Shared) (H₂:Hp) (fp:List Addr),PG (X.blk sc cl C (lcG X xs js) s₂ H₂ fp) tg g) (hjs:∀j∈js,j<X.N.length)
  (ht:∀(cl:List (Str×Addr)) (C:Addr) (s₂:Shared) (H₂:Hp) (fp:List Addr) (pins:List (Addr×Obj)) (s':Shared) (σ':St) (H':Hp) (Q:Bool->Hp->Prop),Inv (X.blk sc cl C (lcG X xs js) s₂ H₂ fp) pins σ' H' s'->tt σ' H' Q ->
   wpAny (model X.prog X.w) X.A (Xl ifs (compEnvC sc cl C X.env)) (TP (X.blk sc cl C (lcG X xs js) s₂ H₂ fp) pins σ' Q) (fun _ _=>False) s')
  (he:∀(cl:List (Str×Addr)) (C:Addr) (s₂:Shared) (H₂:Hp) (fp:List Addr),PE (X.blk sc cl C (lcG X xs js) s₂ H₂ fp) elt te)
  (hs:∀x,foldedSetIterable iter X.env x=pure x:=by intro _; rfl) :
  PE X (.ListComp elt [⟨tg,iter,ifs,0⟩] sc pos) (ziv wi xs js g tt te):=by
 intro pins s σ H Q I h
 rw[eval_ListComp]
 refine zcH (use:=none) (Fin:=fun ys H=>∀p,H p=none->Q (.ref p) (upd H p (.lst ys))) hosc L hc hi hg hjs ht he hs I h fun D C s5 H5 ys its k m5 J oD oC hDC p1 vs z hn fin=>?_
 refine⟨m5,hn,fun h' hsb=>?_⟩
 have J2:Inv X pins σ H5 { s5 with heap:=h',toks:=s5.toks }:=J.turned (it:=C) (fun b o hb e=>hsb.extBut b o hb e) oC.free oC.loc (.inr oC.new) oC.cel oC.pin
 have p1':h'.get? D=some (vd its k):=hsb.extBut _ _ hDC p1
 have J3:Inv X pins σ (upd H5 D (.lst ys)) { s5 with heap:=h',toks:=s5.toks }:=J2.track oD.free oD.loc oD.new oD.cel oD.pin ⟨z,its,k,vs,p1'⟩
 exact⟨.ref D,_,J3,rfl,fin D oD.free⟩
end
end L2
namespace L2
open PySem PySem.Spec PyProof.Rows
theorem Inv.turnedM {X:Cx} {pins:List (Addr×Obj)} {σ:St} {H:Hp} {s:Shared} {h':Heap} {t':Nat} {fp:List Addr} (I:Inv X pins σ H s) (k:∀b o,b∉fp->s.heap.get? b=some o->h'.get? b=some o) (hf:∀b∈fp,RN X pins H b) :
  Inv X pins σ H { s with heap:=h',toks:=t' }:=by
 have nit:∀b u,H b=some u->b∉fp:=fun b u e z=>by rw[(hf b z).1] at e; cases e
 refine I.step (g':=s.gens) (d':=s.drawn) (ch:=fp) (fun b hb=>⟨(hf b hb).2.2.2.1,(hf b hb).2.1,(hf b hb).2.2.2.2.1,(hf b hb).2.2.2.2.2⟩) (fun b o _ _ hc e _=>k b o hc e) (fun b o _ _ hc e _=>⟨o.slots,k b o hc e⟩) (fun _ _ _ _ n=>n)
  (fun b o hc e=>⟨o,k b o hc e⟩) (fun _ _ e=>e) (fun _ _ _ e=>e) (fun b ps e=>⟨#[],by rw[e]; simp⟩) (fun m hm=>?_) (fun b u e=>?_) I.bare
 ·obtain⟨o,es,ep,ho,r⟩:=hm
  exact⟨o,es,ep,k _ o (fun z=>(hf _ z).2.1 rfl) ho,r⟩
 ·refine(I.hok b u e).stay (fun c v hc q=>k c v ?_ q) (fun _ q=>q) fun _ _ q=>q
  rcases hc with z | z
  ·rw[z]; exact nit b u e
  ·exact nit c _ z
def Itz (K:PySem.W.Frag) (a b:Addr):It :=
 {go:=fun i H=>∃xs ys x y,SqL K H a xs/\SqL K H b ys/\xs[i]?=some x/\ys[i]?=some y
  yld:=fun i H v H'=>∃q x y,(∀xs,SqL K H a xs->xs[i]?=some x)/\(∀ys,SqL K H b ys->ys[i]?=some y)/\v=.ref q/\H q=none/\H'=upd H q (.tup [x,y])
  stop:=fun i H=>∃xs ys,SqL K H a xs/\SqL K H b ys/\(xs.length<=i\/ys.length<=i) }
theorem zgU {P:Program} {w:World} {K:PySem.W.Frag} {els:List Expr} {x1} {pt:Pos} (a b z ti to i1 i2:Addr) (D:ZipApart z ti to i1 i2 a b):Turn P w K (.Tuple els x1 pt) (Itz K a b) [z,ti,to,i1,i2] z
  (fun i h=>IsZip h z ti to .none/\IsPair h ti (.ref i1) (.ref i2)/\(∃u v,IsPair h to u v)/\h.IsListIter i1 a i/\h.IsListIter i2 b i) where
 mem:=by simp
 obj:=fun i h st c hc=>by
  obtain⟨q1,q2,⟨u,v,q3⟩,⟨o4,q4,c4,d4⟩,⟨o5,q5,c5,d5⟩⟩:=st
  simp only[List.mem_cons,List.not_mem_nil,or_false] at hc
  rcases hc with e | e | e | e | e<;>subst e
  ·exact⟨_,q1,fun v hv=>by cases hv⟩
  ·exact⟨_,q2,fun v hv=>by cases hv⟩
  ·exact⟨_,q3,fun v hv=>by cases hv⟩
  ·exact⟨_,q4,fun v hv=>by rw[d4] at hv; cases hv⟩
  ·exact⟨_,q5,fun v hv=>by rw[d5] at hv; cases hv⟩
 keep:=fun i h h' st k=>by
  obtain⟨q1,q2,⟨u,v,q3⟩,q4,q5⟩:=st
  exact⟨k z (by simp) _ q1,k ti (by simp) _ q2,⟨u,v,k to (by simp) _ q3⟩,q4.at fun o e=>k i1 (by simp) o e,q5.at fun o e=>k i2 (by simp) o e⟩
 item:=by
  intro X hP hw hK hc i pins s σ H E I hf st hg
  subst hP hw hK
  obtain⟨xs,ys,x,y,hq1,hq2,hx,hy⟩:=hg
  obtain⟨q1,q2,⟨u0,v0,q3⟩,q4,q5⟩:=st
  obtain⟨its1,rv1,pl1,hz1⟩:=I.list hq1
  obtain⟨its2,rv2,pl2,hz2⟩:=I.list hq2
  obtain⟨u,hu,ru⟩:=rv1.get hx
  obtain⟨v,hv,rv⟩:=rv2.get hy
  refine wpAny_pyNext_zip_item D q1 q2 q3 q4 q5 pl1.isList pl2.isList (x:=u) (y:=v) (by simpa using hu) (by simpa using hv) fun h1 out pto it1 it2 tup sz k1=>?_
  refine⟨.ref s.heap.objs.size,rfl,wpAny_letOwnedTupleGo_zip out fun h2 he2 sb=>?_⟩
  have ltz:=Heap.lt_size q1
  have ltf:∀c∈[z,ti,to,i1,i2],c<s.heap.objs.size:=fun c hc=>by
   simp only[List.mem_cons,List.not_mem_nil,or_false] at hc
   rcases hc with e | e | e | e | e<;>subst e
   ·exact ltz
   ·exact Heap.lt_size q2
   ·exact Heap.lt_size q3
   ·obtain⟨o,e,_⟩:=q4; exact Heap.lt_size e
   ·obtain⟨o,e,_⟩:=q5; exact Heap.lt_size e
  have k2:∀c o,c∉[z,ti,to,i1,i2]->s.heap.get? c=some o->h2.get? c=some o:=fun c o hc q=>by
   simp only[List.mem_cons,List.not_mem_nil,or_false,not_or] at hc
   obtain⟨c1,c2,c3,c4,c5⟩:=hc
   exact(sb.2 c c1).trans (k1 c o c1 c3 c4 c5 q)
  have it1':h2.IsListIter i1 a (i+1):=it1.at fun o e=>(sb.2 i1 D.i1z).trans e
  have it2':h2.IsListIter i2 b (i+1):=it2.at fun o e=>(sb.2 i2 D.i2z).trans e
  have hti:IsPair h2 ti (.ref i1) (.ref i2):=(sb.2 ti D.TIz).trans (k1 ti _ D.TIz D.TITO D.TIi1 D.TIi2 q2)
  have hto:IsPair h2 to u v:=(sb.2 to D.TOz).trans pto
  have J1:Inv X pins σ H { s with heap:=h2,toks:=s.toks }:=I.turnedL (fp:=[z,ti,to,i1,i2]) k2 (fun c hc=>by
   simp only[List.mem_cons,List.not_mem_nil,or_false] at hc
   rcases hc with e | e | e | e | e<;>subst e
   ·exact⟨_,he2⟩
   ·exact⟨_,hti⟩
   ·exact⟨_,hto⟩
   ·obtain⟨o,e,_⟩:=it1'; exact⟨o,e⟩
   ·obtain⟨o,e,_⟩:=it2'; exact⟨o,e⟩) hf
  have tup2:h2.get? s.heap.objs.size=some { cls:=.type "tuple", data:=.seq #[u,v] }:=(sb.2 _ (Nat.ne_of_gt ltz)).trans tup
  have ltc:∀y c,X.env.cells.lookup y=some c->c≠s.heap.objs.size:=fun y c q=>by
   obtain⟨v,o,z,_⟩:=I.cell y c q
   exact Nat.ne_of_lt (Heap.lt_size z)
  have ltp:∀p∈X.pn++pins,p.1≠s.heap.objs.size:=fun p hp=>Nat.ne_of_lt (Heap.lt_size (I.pin p hp).1)
  have J2:=J1.track (a:=s.heap.objs.size) (o:=.tup [x,y]) I.fresh (Ne.symm (Nat.ne_of_lt I.lt)) I.sz ltc ltp ⟨by show 2<=sizeLine; decide,[u,v],.cons ru (.cons rv .nil),⟨_,tup2,rfl,_,rfl⟩⟩
  refine⟨.ref s.heap.objs.size,_,J2,rfl,⟨_,x,y,fun zs hzs=>by rw[I.list_inj hzs hq1]; exact hx,fun zs hzs=>by rw[I.list_inj hzs hq2]; exact hy,rfl,I.fresh,rfl⟩,⟨he2,hti,⟨u,v,hto⟩,it1',it2'⟩,fun c hc=>?_⟩
  rw[zB (Nat.ne_of_lt (ltf c hc))]
  exact(hf c hc).1
 done:=by
  intro X hP hw hK hc i pins s σ H E I hf st hg
  subst hP hw hK
  obtain⟨xs,ys,hq1,hq2,hx⟩:=hg
  obtain⟨q1,q2,⟨u0,v0,q3⟩,q4,q5⟩:=st
  obtain⟨its1,rv1,pl1,hz1⟩:=I.list hq1
  obtain⟨its2,rv2,pl2,hz2⟩:=I.list hq2
  have l1:=rv1.length
  have l2:=rv2.length
  refine wpAny_pyNext_zip_end (I.ok.hd hc) D q1 q2 q3 q4 q5 pl1.isList pl2.isList (by
   rcases hx with e | e
   ·left; simp; omega
   ·right; simp; omega) fun h' k=>⟨rfl,?_⟩
  refine I.turnedM (t':=s.toks) (fp:=[z,to,i1,i2]) (fun c o hc e=>?_) fun c hc=>hf c (by simp only[List.mem_cons,List.not_mem_nil,or_false] at hc ⊢; rcases hc with e | e | e | e<;>simp[e])
  simp only[List.mem_cons,List.not_mem_nil,or_false,not_or] at hc
  exact k c o hc.1 hc.2.1 hc.2.2.1 hc.2.2.2 e
 self:=fun _ _ _ _ _ st h=>wpAny_pyIter_zip st.1 h
section
variable {X:Cx}
def zjO (K:PySem.W.Frag) (ta:TA):TI:=fun σ H R=>ta σ H fun vs H1=>∃a b xs ys,vs=[.ref a,.ref b]/\SqL K H1 a xs/\SqL K H1 b ys/\R (Itz K a b) H1
theorem zfY {l m:Expr} {ta:TA} {p pos:Pos} {els:List Expr} {x1} {pt:Pos} (hg:Gl X "zip") (hm:X.mg "zip"=none) (ha:PA X [l,m] ta) (hs:starEach [l,m] X.env=[(false,eval l X.env),(false,eval m X.env)]:=by rfl) (hs2:starEach [m] X.env=[(false,eval m X.env)]:=by rfl) :
  PI X (.Tuple els x1 pt) (.Call (.Name "zip" p) [l,m] [] pos) (zjO X.K ta):=by
 intro pins s σ H R I h
 refine Call_ (Zy I hg hm boot_zip (PyProof.Rows.callWith_type1 (thn (ha pos pins s σ H _ I h) fun us s1 ⟨vs,H1,I1,r1,q1⟩=>?_) (by rw[hs,hs2]) (by rw[hs2]; rfl)))
 obtain⟨a,b,xs,ys,e,hq1,hq2,q⟩:=q1
 subst e
 obtain⟨u,v,rfl,ru,rv⟩:=vals2 r1
 cases ru
 cases rv
 obtain⟨its1,rv1,pl1,hz1⟩:=I1.list hq1
 obtain⟨its2,rv2,pl2,hz2⟩:=I1.list hq2
 obtain⟨o1,e1,_⟩:=id pl1.isList
 obtain⟨o2,e2,_⟩:=id pl2.isList
 refine call_zip_2 pl1.isList pl2.isList fun h' hz hti hto it1 it2 hsz hk=>?_
 have J:Inv X pins σ H1 { s1 with heap:=h',toks:=s1.toks }:=I1.kept hk
 refine wpAny_pyIter_zip hz ?_
 refine⟨s1.heap.objs.size+4,[s1.heap.objs.size+4,s1.heap.objs.size+2,s1.heap.objs.size+3,s1.heap.objs.size,s1.heap.objs.size+1],_,_,H1,rfl,J,zgU a b _ _ _ _ _ (zipApart_new (Heap.lt_size e1) (Heap.lt_size e2)),⟨hz,hti,⟨_,_,hto⟩,it1,it2⟩,fun c hc=>?_,q⟩
 have gc:s1.heap.objs.size<=c:=by
  simp only[List.mem_cons,List.not_mem_nil,or_false] at hc
  rcases hc with z | z | z | z | z<;>rw[z]<;>omega
 exact I1.fpOk gc (I1.hok.fresh gc)
end
section
variable {X:Cx}
end
end L2
namespace L2
open PySem
section
variable {K:PySem.W.Frag} {a:Addr} {xs:List V} {σ:St} {js:List Nat} {te:TE} {H:Hp} {Qf:Addr->Hp->List V->Prop}
theorem zej (R:Nat->V->Prop) (hq:SqL K H a xs) (hz:xs.length<=sizeLine)
  (hs:∀(i:Nat) x H',xs[i]?=some x->Same H H'->te (lcS σ js (some x)) H' fun v H3=>R i v/\Same H H3)
  (me:∀ σ H Q Q',(∀v H1,Q v H1->Q' v H1)->te σ H Q->te σ H Q')
  (hd:∀ys H' p,ys.length=xs.length->(∀(i:Nat) y,ys[i]?=some y->R i y)->Same H H'->H' p=none->Qf p H' ys) :
  ∃W:Nat->Nat->List V->Hp->Prop,(∃m,W 0 m [] H)/\∀i m ys H,W i m ys H ->
   ((Itl K a).stop i H/\∀p,H p=none->Qf p H ys) \/
   ((Itl K a).go i H/\ys.length<sizeLine/\∀x H',(Itl K a).yld i H x H'->Ua (lcS σ js (some x)) H' fun b H2 =>
    if b=true then te (lcS σ js (some x)) H2 fun v H3=>∃m',m'<m/\W (i+1) m' (ys++[v]) H3 else ∃m',m'<m/\W (i+1) m' ys H2):=by
 refine zaI (fun i ys H'=>Same H H'/\ys.length=i/\∀(j:Nat) y,ys[j]?=some y->R j y) ⟨Same.refl _,rfl,fun j y e=>by simp at e⟩ hz ?_ ?_ (fun _ _ _ _ h q=>h _ _ q) me ?_
 ·rintro i ys H' hi ⟨g,e,r⟩
  exact⟨g.seq hq,by omega⟩
 ·rintro i x ys H' hx ⟨g,e,r⟩
  show te (lcS σ js (some x)) H' fun v H3=>Same H H3/\(ys++[v]).length=i+1/\∀(j:Nat) y,(ys++[v])[j]?=some y->R j y
  refine me _ _ _ _ (fun v H3 h3=>⟨h3.2,by rw[List.length_append,e]; rfl,fun j y ey=>?_⟩) (hs i x H' hx g)
  by_cases hj:j<ys.length
  ·rw[List.getElem?_append_left hj] at ey
   exact r j y ey
  ·have lt:=(List.getElem?_eq_some_iff.mp ey).1
   rw[List.length_append,List.length_singleton] at lt
   have ej:j=ys.length:=by omega
   subst ej
   simp at ey
   subst ey
   rw[e]
   exact h3.1
 ·rintro ys H' p ⟨g,e,r⟩ hp
  exact hd ys H' p e r g hp
end
section
variable {X:Cx} {K:PySem.W.Frag}
end
end L2
namespace Bdd
end Bdd
namespace Sen
open PySem L2 Bdd
end Sen
namespace Sen
open PySem L2 Bdd
end Sen
namespace Bdd
end Bdd
namespace L2
open PySem
theorem zhU {X:Cx} {x y:Str} {px py pt:Pos} {x1:Nat} (hc:X.calm=true) (hN:X.N.Nodup) (h0:X.N[0]?=some x) (h1:X.N[1]?=some y) (hx:X.env.scope.names.lookup x=some .local) (hy:X.env.scope.names.lookup y=some .local):PG X (.Tuple [.Name x px,.Name y py] x1 pt) (zeL X.K 2 (QV (Wf 0) (QV (Wf 1) zeK))) :=
 TJ hc (wN (yD hN h0 (.inl hx) (.inr hx)) (wN (yD hN h1 (.inl hy) (.inr hy)) WX))
end L2
namespace L2
open PySem PySem.Spec PyProof.Rows
structure ze7 (osc sc:Scope) (x y:Str) (fv:List Str):Prop where
 g:zcc osc sc [x,y] fv
 hx:sc.names.lookup x=some .local
 hy:sc.names.lookup y=some .local
 nd:([x,y]++fv).Nodup
end L2
namespace L2
open PySem PySem.Spec PyProof.Rows
section
variable {X:Cx} {K:PySem.W.Frag}
end
end L2
namespace Sen
open PySem L2 Bdd
def wC (ns:List Int) (i:Nat):Int:=(ns[i]?).getD 0
def Lj (K:PySem.W.Frag):Sp:=fun vs H Q _=>∃(l:Addr) (ns:List Int) (i:Nat),vs=[.ref l,.int i]/\SqL K H l (ns.map V.int)/\Q (.int (wC ns i)) H
end Sen
namespace Bdd
end Bdd
namespace Bdd
end Bdd
namespace Sen
open PySem L2 Bdd
end Sen
namespace L2
theorem zjP {σ:St} {H:Hp} {Q:Bool->Hp->Prop} (h:Q true H):Ua σ H Q:=h
end L2
namespace L2
open PySem PySem.Spec PyProof.Rows
section
variable {prog:Program} {w:World} {A:Around} {E:Value->Shared->Prop}
end
section
variable {X:Cx}
end
end L2
namespace Bdd
end Bdd
namespace Sen
open PySem L2 Bdd
theorem Sn.count_depth:∀s:Sn,s.count+1<=2^s.depth:=by
 have key:∀(d:Nat) (s:Sn),s.depth<=d->s.count+1<=2^d:=by
  intro d
  induction d with
  | zero=>intro s h; have:=Sn.Mg s; omega
  | succ d ih =>
   intro s h
   have hp:=Sn.Kh s
   have hl:=Sn.parts_le s
   have hd:=Sn.RQ s
   have hc:∀t∈s.parts,t.count+1<=2^d:=fun t ht=>ih t (by have:=hd t ht; omega)
   have p1:1<=2^d:=Nat.one_le_two_pow
   rw[Nat.pow_succ,hp]
   match hs:s.parts,hl with
   | [],_=>simp; omega
   | [a],_ =>
    have:=hc a (by rw[hs]; simp)
    simp; omega
   | [a,b],_ =>
    have h1:=hc a (by rw[hs]; simp)
    have h2:=hc b (by rw[hs]; simp)
    simp; omega
   | a::b::c::r,h=>simp at h
 exact fun s=>key _ s (Nat.le_refl _)
end Sen
namespace Bdd
open Sen
end Bdd
namespace Sen
open PySem L2 Bdd
end Sen
namespace Sen
open PySem L2 Bdd
end Sen
namespace L2
open PySem
end L2
namespace Sen
open PySem L2 Bdd
end Sen
namespace Sen
open PySem L2 Bdd
end Sen
namespace Sen
open PySem L2 Bdd
end Sen
namespace L2
open PySem PySem.Spec PyProof.Rows
section
variable {X:Cx} {sc osc:Scope} {x:Str} {js:List Nat}
end
section
variable {X:Cx} {sc osc:Scope} {x:Str} {js:List Nat} {elt iter:Expr} {px pos:Pos} {ifs:List Expr} {wi:TI} {tt:TT} {te:TE}
end
end L2
namespace PySem.SeqAt
open AutoSeq1 (wpAny_loadPart')
open MeetsSeq MeetsSeq2 MeetsSeq3 SeqRoads2
section
variable {A:Around} {s:Shared}
end
end PySem.SeqAt
namespace L2
open PySem PySem.Spec PyProof.Rows
section
variable {X:Cx} {pins:List (Addr×Obj)} {σ:St} {H:Hp} {s:Shared}
end
namespace L2
open PySem PySem.Spec PyProof.Rows
end L2
section
variable {prog:Program} {w:World} {A:Around} {R:Result->Shared->Prop} {I:Addr} {fp wr:List Addr} {n:Nat} {V:Nat->Value->Prop} {St:Nat->Heap->Prop} {G:Shared->Prop} {kw:List (Str×Value)}
end
section
variable {X:Cx} {pins:List (Addr×Obj)} {σ:St} {H:Hp} {s:Shared}
end
end L2
namespace L2
open PySem PySem.Spec PyProof.Rows
section
variable {X:Cx} {pins:List (Addr×Obj)} {σ:St} {H:Hp} {s:Shared}
end
section
variable {X:Cx} {x:Str} {p pos kpos:Pos} {e d:Expr} {t:TA} {td:TE}
end
end L2
namespace Bdd
open PySem
end Bdd
namespace Sen
open PySem L2 Bdd
end Sen
namespace L2
open PySem
end L2
namespace Sen
open PySem L2 Bdd
end Sen
namespace L2
open PySem PySem.Spec PyProof.Rows
theorem zjo {x:V} {p q:Prop} (h:q):if (!decide (x=x))=true then p else q:=by
 rw[decide_eq_true rfl]
 exact h
theorem Qh {x y:V} {p q:Prop} (e:x=y) (h:q):if (!decide (x=y))=true then p else q:=by
 subst e
 exact zjo h
section
variable {X:Cx}
theorem Ks:∀{xs:List V} {us:List Value},xs.length=us.length->(∀(i:Nat) x u,xs[i]?=some x->us[i]?=some u->RelV x u)->Vals xs us
 | [],[],_,_=>.nil
 | [],_::_,h,_=>by cases h
 | _::_,[],h,_=>by cases h
 | x::xs,u::us,h,r=>.cons (r 0 x u rfl rfl) (Ks (Nat.succ.inj h) fun i x u hx hu=>r (i+1) x u hx hu)
def Ro (n:Nat):List V:=(List.range n).map fun i=>V.int (i:Nat)
def tLR (ta:TA):TE:=fun σ H Q=>ta σ H fun vs H1=>∃n:Nat,vs=[.int (n:Nat)]/\n<=1000000/\∀l,H1 l=none->Q (.ref l) (upd H1 l (.lst (Ro n)))
theorem zcX {e:Expr} {ta:TA} {p p2 pos pos2:Pos} (hc:X.calm=true) (hg:Gl X "list") (hm:X.mg "list"=none) (hg2:Gl X "range") (hm2:X.mg "range"=none) (ha:PA X [e] ta)
  (hs:starEach [e] X.env=[(false,eval e X.env)]:=by rfl)
  (hs2:starEach [.Call (.Name "range" p2) [e] [] pos2] X.env=[(false,eval (.Call (.Name "range" p2) [e] [] pos2) X.env)]:=by rfl) :
  PE X (.Call (.Name "list" p) [.Call (.Name "range" p2) [e] [] pos2] [] pos) (tLR ta):=by
 intro pins s σ H Q I h
 refine wpAny_Call_Name_kw (Zy I hg hm R8 ?_ (by decide) (by decide))
 refine PyProof.Rows.callWith_type1 ?_ hs2 rfl
 rw[hs2]
 show wpAny _ _ (spliced ((false,eval (.Call (.Name "range" p2) [e] [] pos2) X.env)::[])) _ _ s
 refine Calls.spliced_cons ?_
 refine Call_ (Zy I hg2 hm2 boot_range (PyProof.Rows.callWith_type1 (thn (ha pos2 pins s σ H _ I h) fun us s1 ⟨vs,H1,I1,r1,q1⟩=>?_) hs rfl))
 obtain⟨n,e1,hn,q⟩:=q1
 subst e1
 obtain⟨u,rfl,ru⟩:=vals1 r1
 obtain⟨t,rfl⟩:=ru
 refine call_range_1 (Calls.spliced_nil ?_)
 refine call_list_range (n:=n) (I1.ok.hd hc) (IsRange.new ..) (small_one (by omega) (by omega) (by omega) (by omega)) (by rw[rangeSize_one]; split<;>omega) (by omega) fun h' tk acc' c' kp e0 ac=>?_
 have I2:=I1.kept (t':=s1.toks+1+1) (h':=s1.heap.push { cls:=.type "range", data:=.fields #[.int 0 s1.toks,.int n t,.int 1 (s1.toks+1)] }) fun b o e=>Heap.get?_push_of_some _ e
 have hl:acc'.size=n:=ac.1
 have rv:Vals (Ro n) acc'.toList:=by
  refine Ks (by simp[Ro,hl]) fun i x u hx hu=>?_
  have hi:i<n:=by
   have:=(List.getElem?_eq_some_iff.mp hx).1
   simpa [Ro] using this
  unfold Ro at hx
  rw[List.getElem?_map,List.getElem?_range hi] at hx
  cases hx
  obtain⟨t',rfl⟩:=ac.2 i u (by simpa using hu)
  exact⟨t',by simp⟩
 exact⟨.ref _,_,I2.laid (t':=tk) (o:=.lst (Ro n)) kp (Nat.le_refl _) ⟨by unfold Ro; rw[List.length_map,List.length_range]; exact Nat.le_trans hn (by decide),acc'.toList,c',rv,by simpa using e0⟩,rfl,q _ (I2.hok.fresh (Nat.le_refl _))⟩
end
end L2
namespace Bdd
open Sen
def anyB (n:Nat) (f:Nat->Bool):Bool:=(List.range (2^n)).any f
theorem anyB_iff {n:Nat} {f:Nat->Bool}:anyB n f=true↔∃b,b<2^n/\f b=true:=by
 unfold anyB
 rw[List.any_eq_true]
 exact⟨fun⟨b,h,e⟩=>⟨b,List.mem_range.mp h,e⟩,fun⟨b,h,e⟩=>⟨b,List.mem_range.mpr h,e⟩⟩
theorem QX {n N:Nat} {f:Nat->Bool} (h:zL n N f):decide (N=0)=!anyB n f:=by
 by_cases e:N=0
 ·subst e
  rw[decide_eq_true rfl]
  cases hb:anyB n f with
  | false=>rfl
  | true =>
   obtain⟨b,hb,e⟩:=anyB_iff.mp hb
   have:=Qe h hb
   rw[e,Nat.zero_testBit] at this
   cases this
 ·rw[decide_eq_false e]
  cases hb:anyB n f with
  | true=>rfl
  | false =>
   exfalso
   refine e (Nat.eq_of_testBit_eq fun i=>?_)
   rw[h i,Nat.zero_testBit]
   by_cases hi:i<2^n
   ·cases hf:f i with
    | false=>rw[Bool.and_false]
    | true=>rw[anyB_iff.mpr ⟨i,hi,hf⟩] at hb; cases hb
   ·rw[decide_eq_false hi]; rfl
def fvP (n:Nat):(Nat->Bool)->List Nat->List Bool
 | _,[]=>[]
 | f,p::ps=>(!anyB n fun b=>f (zE b p false))::fvP n (fun b=>f (zE b p (!anyB n fun b=>f (zE b p false)))) ps
end Bdd
namespace Sen
open PySem L2 Bdd
def Px (K:PySem.W.Frag):Sp:=fun vs H Q _=>∃(N n:Nat) (f:Nat->Bool) (pl:Addr) (ps:List Nat),vs=[.int N,.ref pl,.int n]/\n<=8/\zL n N f/\SqL K H pl (ps.map fun p=>V.int (p:Nat))/\(∀p∈ps,p<n)/\ps.length<=1000 /\
 ∀(l:Addr) (H':Hp),Same H H'->H l=none->H' l=some (.lst (Xc (fvP n f ps)))->Q (.ref l) H'
section
variable (C:Addr) (K:PySem.W.Frag)
end
end Sen
namespace L2
open PySem PySem.Spec PyProof.Rows
theorem zag:∀{ss:List Str} {its:List Value},Vals (ss.map V.str) its->StrsAre its ss
 | [],_,.nil=>.nil
 | x::ss,_,.cons r t=>by
  obtain⟨k,rfl⟩:=r
  exact .cons x k (zag t)
theorem zbr:∀{ss:List Str} {its:List Value},StrsAre its ss->Vals (ss.map V.str) its
 | _,_,.nil=>.nil
 | _,_,.cons x t h=>.cons ⟨t,rfl⟩ (zbr h)
section
variable {X:Cx}
theorem Ss {K:PySem.W.Frag} (hK:X.K=K):Y4 X (.builtin "sorted") (fun xs H Q=>∃(p:Addr) (ss:List Str),xs=[.ref p]/\SqL K H p (ss.map V.str)/\ss.length<64/\∀(l:Addr) (ms:List Str),H l=none->ms.Perm ss->sortedS ms=true->Q (.ref l) (upd H l (.lst (ms.map V.str)))):=by
 subst hK
 intro pins s σ H xs us Q I r h
 obtain⟨p,ss,rfl,hq,h64,q⟩:=h
 obtain⟨u,rfl,rx⟩:=vals1 r
 cases rx
 obtain⟨its,r',pl,hz⟩:=I.list hq
 have hi:StrsAre its ss:=zag r'
 have hl:=r'.length
 rw[List.length_map] at hl
 refine sorted_strs pl.isList hi (by omega) fun out ms a1 a2 a3=>?_
 obtain⟨e,he⟩:=sortedAll_at s.heap its out
 have hf:H (s.heap.objs.size+1)=none:=I.hok.fresh (Nat.le_succ _)
 have hlm:=a2.length_eq
 have s64:=yC (n:=ms.length) (by omega)
 refine⟨.ref (s.heap.objs.size+1),_,I.laid (t':=s.toks) (o:=.lst (ms.map V.str)) (fun b o e=>sortedAll_old e) (Nat.le_succ _) ?_,rfl,q _ ms hf a2 a3⟩
 refine⟨by rw[List.length_map]; exact Nat.le_of_lt s64,out.toList,e,zbr a1,?_⟩
 simpa using he
def tLV (to:TE):TE:=fun σ H Q=>to σ H fun x H1=>∃(d:Addr) (kvs:List (Key×V)),x=.ref d/\H1 d=some (.dK kvs)/\∀l,H1 l=none->Q (.ref l) (upd H1 l (.lst (kvs.map (·.2))))
theorem zdT {o:Expr} {to:TE} {p apos cpos pos:Pos} (hc:X.calm=true) (hg:Gl X "list") (hm:X.mg "list"=none) (ho:PE X o to)
  (hbase:attributeBase o "values" X.env (eval o X.env)=eval o X.env:=by rfl) (hline:(apos.endLine==cpos.line)=true:=by rfl)
  (hs2:starEach [.Call (.Attribute o "values" apos) [] [] cpos] X.env=[(false,eval (.Call (.Attribute o "values" apos) [] [] cpos) X.env)]:=by rfl) :
  PE X (.Call (.Name "list" p) [.Call (.Attribute o "values" apos) [] [] cpos] [] pos) (tLV to):=by
 intro pins s σ H Q I h
 refine wpAny_Call_Name_kw (Zy I hg hm R8 ?_ (by decide) (by decide))
 refine PyProof.Rows.callWith_type1 ?_ hs2 rfl
 rw[hs2]
 show wpAny _ _ (spliced ((false,eval (.Call (.Attribute o "values" apos) [] [] cpos) X.env)::[])) _ _ s
 refine Calls.spliced_cons ?_
 refine wpAny_Call_method0_late hbase hline (thn (ho pins s σ H _ I h) fun v s1 ⟨x,H1,I1,r1,q1⟩=>?_)
 obtain⟨d,kvs,rfl,hd,q⟩:=q1
 obtain⟨h1,h2⟩:=zfF (T := "dict") I1 r1 (.inr (.inr (.inl ⟨rfl,.inl ⟨kvs,hd⟩⟩)))
 cases r1
 obtain⟨hz,lo,vs,rv,hD⟩:=(show kvs.length<=sizeLine/\(d==sysModules)=false/\∃vs,KV kvs vs/\s1.heap.DictOf (xX X.prog X.w) d vs from I1.hok d _ hd)
 obtain⟨ep,hat⟩:=hD.dictAt
 have hl:kvs.length=vs.length:=Paired.length rv
 refine⟨"dict", "dict.values", PySem.F.plainAttrs_dict,PySem.F.slot_dict_values,PySem.F.type_dict_values,h1,h2,Calls.callWith_builtin rfl (PySem.evalArgs_none ?_)⟩
 refine call_meetsIn PySem.F.slot_dict_values hD.typeIs PySem.F.entry_dict_values (PySem.F.args_dict_values_1 _) (meets_dict_values (xX X.prog X.w) d lo) ⟨⟨vs,hD⟩,Calls.spliced_nil ?_⟩
 have I2:=I1.kept (t':=s1.toks) (h':=s1.heap.push { cls:=.type "dict_values", data:=.fields #[.ref d] }) fun b o e=>Heap.get?_push_of_some _ e
 obtain⟨hz2,lo2,vs2,rv2,hD2⟩:=(show kvs.length<=sizeLine/\(d==sysModules)=false/\∃vs,KV kvs vs/\(s1.heap.push { cls:=.type "dict_values", data:=.fields #[.ref d] }).DictOf (xX X.prog X.w) d vs from I2.hok d _ hd)
 obtain⟨ep2,hat2⟩:=hD2.dictAt
 have hl2:kvs.length=vs2.length:=Paired.length rv2
 refine PySem.W.kdl_call (PySem.W.kdl_values (knd:=xX X.prog X.w) (r:=s1.heap.objs.size) (d:=d) (kvs:=vs2) (ep:=ep2)) (I1.ok.hd hc) ⟨⟨_,Heap.get?_push_size _ rfl,rfl,rfl⟩,hat2⟩ (by omega) fun h' tk acc c hk hS hacc=>?_
 refine⟨.ref _,_,I2.laid (t':=tk) (o:=.lst (kvs.map (·.2))) hk (Nat.le_refl _) ?_,rfl,q _ (I2.hok.fresh (Nat.le_refl _))⟩
 refine⟨by rw[List.length_map]; exact hz,acc.toList,c,?_,by simpa using hS⟩
 refine Ji (by rw[List.length_map]; have:=hacc.1; simp; omega) fun j v hv=>?_
 obtain⟨k,hx⟩:=hacc.2 j v (by rw[<-Array.getElem?_toList]; exact hv)
 obtain⟨y,hy,e1,e2⟩:=Rj rv2 hx
 exact⟨y.2,by rw[List.getElem?_map,hy]; rfl,e2⟩
end
end L2
namespace Sen
open PySem L2 Bdd PyProof.Rows
theorem zhV:∀x∈yN,∀y∈yN,Spec.ltCps x.cps.toList y.cps.toList=decide (ix yN x<ix yN y):=by decide +kernel
theorem zgV:∀x∈yN,∀y∈yN,ix yN x=ix yN y->x=y:=by decide +kernel
theorem Mu:∀{l:List Str} {p:Str},p∈yN->(∀x∈l,x∈yN)->risingS p l=true->∀x∈l,ix yN p<=ix yN x
 | [],p,_,_,_,x,hx=>by cases hx
 | y::l,p,hp,hl,h,x,hx=>by
  have hy:=hl y List.mem_cons_self
  have h':(!Spec.ltCps y.cps.toList p.cps.toList&&risingS y l)=true:=h
  rw[Bool.and_eq_true,zhV y hy p hp] at h'
  have h1:ix yN p<=ix yN y:=by
   have:=h'.1
   simp at this
   omega
  rcases List.mem_cons.mp hx with e | hx
  ·rw[e]; exact h1
  ·have:=Mu hy (fun z hz=>hl z (List.mem_cons_of_mem _ hz)) h'.2 x hx
   omega
theorem Ku {x:Str} {l:List Str} (h:sortedS (x::l)=true):sortedS l=true:=by
 cases l with
 | nil=>rfl
 | cons y l =>
  have h':(!Spec.ltCps y.cps.toList x.cps.toList&&risingS y l)=true:=h
  exact(Bool.and_eq_true _ _ ▸ h').2
theorem zbs:∀{a b:List Str},(∀x∈a,x∈yN)->a.Perm b->sortedS a=true->sortedS b=true->a=b
 | [],b,_,h,_,_=>(List.nil_perm.mp h).symm
 | x::a,[],_,h,_,_=>by cases (List.perm_nil.mp h)
 | x::a,y::b,hl,h,s1,s2=>by
  have hlb:∀z∈y::b,z∈yN:=fun z hz=>hl z (h.mem_iff.mpr hz)
  have hx:=hl x List.mem_cons_self
  have hy:=hlb y List.mem_cons_self
  have le1:∀z∈x::a,ix yN x<=ix yN z:=fun z hz=>by
   rcases List.mem_cons.mp hz with e | hz
   ·rw[e]; exact Nat.le_refl _
   ·exact Mu hx (fun z hz=>hl z (List.mem_cons_of_mem _ hz)) s1 z hz
  have le2:∀z∈y::b,ix yN y<=ix yN z:=fun z hz=>by
   rcases List.mem_cons.mp hz with e | hz
   ·rw[e]; exact Nat.le_refl _
   ·exact Mu hy (fun z hz=>hlb z (List.mem_cons_of_mem _ hz)) s2 z hz
  have e:x=y:=zgV x hx y hy (Nat.le_antisymm (le1 y (h.mem_iff.mpr List.mem_cons_self)) (le2 x (h.mem_iff.mp List.mem_cons_self)))
  subst e
  rw[zbs (fun z hz=>hl z (List.mem_cons_of_mem _ hz)) h.cons_inv (Ku s1) (Ku s2)]
def trn (os ps:List Str) (r:Row):Row:=fun i=>r (ix ps (os.getD i ⟨#[]⟩))
structure Marks (os ps:List Str):Prop where
 mem:∀x,x∈os↔x∈ps
 len:os.length=ps.length
theorem Marks.perm {os ps:List Str} (h:Marks os ps) (n1:os.Nodup) (n2:ps.Nodup):os.Perm ps:=(List.perm_ext_iff_of_nodup n1 n2).mpr h.mem
section
variable (C:Addr) (K:PySem.W.Frag)
def zhj (rs:List Rm) (ks:List Nat):Prop:=ks.Nodup/\∀(i k:Nat),ks[i]?=some k->k<rs.length/\∀p lo hi,rs[k]?=some (some (p,lo,hi))->lo∈ks.take i/\hi∈ks.take i
end
theorem zhW {n:Nat} {rs:List Rm} (B:Bk n rs) {k:Nat} (h:rs[k]?=some none):k=0\/k=1:=by
 have lt:=(List.getElem?_eq_some_iff.mp h).1
 by_cases k2:2<=k
 ·obtain⟨i,lo,hi,e,_⟩:=B.rm k k2 lt
  rw[e] at h
  cases h
 ·omega
theorem zdU {n:Nat} {rs:List Rm} (B:Bk n rs):zhj rs (List.range rs.length):=by
 refine⟨List.nodup_range,fun i k h=>?_⟩
 have hi:i<rs.length:=by
  have:=(List.getElem?_eq_some_iff.mp h).1
  rw[List.length_range] at this
  exact this
 rw[List.getElem?_range hi] at h
 cases h
 refine⟨hi,fun p lo hi' e=>?_⟩
 have k2:2<=i:=by
  refine Nat.le_of_not_lt fun h2=>?_
  have:i=0\/i=1:=by omega
  rcases this with z | z<;>subst z
  ·rw[B.h0] at e; cases e
  ·rw[B.h1] at e; cases e
 obtain⟨p',lo',hi'',e',_,h1,h2,_⟩:=B.rm i k2 hi
 rw[e] at e'
 cases e'
 have tk:(List.range rs.length).take i=List.range i:=by rw[List.take_range,Nat.min_eq_left (by omega)]
 rw[tk]
 exact⟨List.mem_range.mpr h1,List.mem_range.mpr h2⟩
structure W5 (ks js:List Nat) (kvs:List (Key×V)):Prop where
 eq:kvs=(ks.zip js).map fun e=>((Sum.inl (e.1:Int):Key),V.int (e.2:Nat))
 nd:ks.Nodup
 ln:kvs.length=ks.length
theorem W5.nil:W5 [] [] []:=⟨rfl,List.nodup_nil,rfl⟩
theorem W5.len {ks js:List Nat} {kvs:List (Key×V)} (h:W5 ks js kvs):kvs.length=ks.length:=h.ln
theorem W5.vals {ks js:List Nat} {kvs:List (Key×V)} (h:W5 ks js kvs) (hl:js.length=ks.length):kvs.map (·.2)=js.map fun j=>V.int (j:Nat):=by
 rw[h.eq,List.map_map]
 have e:(ks.zip js).map (·.2)=js:=List.map_snd_zip (by omega)
 conv=>rhs; rw[<-e]
 rw[List.map_map]
 rfl
theorem zcY:∀{ks js:List Nat} {m k j:Nat},ks.Nodup->ks[m]?=some k->js[m]?=some j->vI ((ks.zip js).map fun e=>((Sum.inl (e.1:Int):Key),V.int (e.2:Nat))) (Sum.inl (k:Int))=some (.int (j:Nat))
 | [],_,m,_,_,_,h,_=>by cases h
 | _::_,[],m,_,_,_,_,h=>by cases h
 | k0::ks,j0::js,0,k,j,_,hk,hj=>by
  cases hk
  cases hj
  rw[List.zip_cons_cons,List.map_cons]
  exact vO rfl
 | k0::ks,j0::js,m+1,k,j,nd,hk,hj=>by
  rw[List.nodup_cons] at nd
  have hk':ks[m]?=some k:=hk
  rw[List.zip_cons_cons,List.map_cons,vP]
  ·exact zcY nd.2 hk' hj
  ·intro e
   have e':(k0:Int)=(k:Int):=Sum.inl.inj e
   have:k0=k:=by omega
   exact nd.1 (this ▸ List.mem_of_getElem? hk')
theorem W5.at {ks js:List Nat} {kvs:List (Key×V)} (h:W5 ks js kvs) (hl:js.length=ks.length) {k:Nat} (hk:k∈ks):∃m j:Nat,ks[m]?=some k/\js[m]?=some j/\vI kvs (Sum.inl (k:Int))=some (.int (j:Nat)):=by
 obtain⟨m,hm,e⟩:=List.getElem_of_mem hk
 have e1:ks[m]?=some k:=by rw[List.getElem?_eq_getElem hm,e]
 have e2:js[m]?=some (js[m]'(by omega)):=List.getElem?_eq_getElem (by omega)
 exact⟨m,_,e1,e2,by rw[h.eq]; exact zcY h.nd e1 e2⟩
theorem zgW {kvs:List (Key×V)} {k:Key} {v:V} (h:∀e∈kvs,e.1≠k):putK kvs k v=kvs++[(k,v)]:=by
 unfold putK
 rw[if_neg]
 rw[List.any_eq_true]
 rintro⟨e,he,z⟩
 exact h e he (of_decide_eq_true z)
theorem W5.snoc {ks js:List Nat} {kvs:List (Key×V)} (h:W5 ks js kvs) (hl:js.length=ks.length) {p j:Nat} (np:p∉ks):W5 (ks++[p]) (js++[j]) (putK kvs (Sum.inl (p:Int)) (.int (j:Nat))):=by
 have e:putK kvs (Sum.inl (p:Int)) (.int (j:Nat))=kvs++[((Sum.inl (p:Int):Key),V.int (j:Nat))]:=by
  refine zgW fun e he z=>?_
  rw[h.eq] at he
  obtain⟨q,hq,rfl⟩:=List.mem_map.mp he
  have z':(q.1:Int)=(p:Int):=Sum.inl.inj z
  have:q.1=p:=by omega
  exact np (this ▸ (List.of_mem_zip (a:=q.1) (b:=q.2) hq).1)
 refine⟨?_,?_,?_⟩
 ·rw[e,List.zip_append hl.symm,List.map_append,<-h.eq]
  rfl
 ·rw[List.nodup_append]
  exact⟨h.nd,List.nodup_cons.mpr ⟨fun z=>(List.not_mem_nil z).elim,List.nodup_nil⟩,fun a ha b hb z=>by
   have:b=p:=by simpa using hb
   subst this
   exact np (z ▸ ha)⟩
 ·rw[e,List.length_append,List.length_append,h.ln]
  rfl
theorem zcZ {ks:List Nat} {i p:Nat} (nd:ks.Nodup) (h:ks[i]?=some p):p∉ks.take i:=fun hm=>by
 obtain⟨m,hm1,e⟩:=List.getElem_of_mem hm
 rw[List.length_take] at hm1
 rw[List.getElem_take] at e
 obtain⟨lt,e2⟩:=List.getElem?_eq_some_iff.mp h
 have:=(List.getElem_inj nd).mp (e.trans e2.symm)
 omega
theorem zfZ {H:Hp} {nb dn:Addr} {o p:HO} (hdn:H dn=none) (hnb:H nb=none) (hne:dn≠nb):Same (upd H dn o) (upd (upd H dn o) nb p):=fun x u e=>by
 rw[zB fun z=>?_]
 ·exact e
 ·rw[z,zB (Ne.symm hne),hnb] at e
  cases e
section
variable {C:Addr} {K:PySem.W.Frag} {sc:Addr} {ns:List Int} {H1:Hp} {ol bk p1 p2:Addr} {os:List Str} {s1 s2:Sn} {k1 k2 N:Nat} {H:Hp} {rs:List Rm} {F:zZ}
end
end Sen
namespace L2
open PySem PySem.Spec PyProof.Rows PySem.Builtin PySem.Builtin.Str
section
variable {X:Cx}
end
end L2
namespace L2
open PySem PySem.Spec PyProof.Rows
section
variable {X:Cx}
end
end L2
namespace Bdd
open PySem Sen
end Bdd
namespace Sen
open PySem L2 Bdd
end Sen
namespace Bdd
open PySem Sen L2
end Bdd
namespace Bdd
open PySem Sen
def upR (n:Nat) (x:Rm):Bool:=match x with | some (i,_,_)=>decide (i+2<n) | none=>false
def hiN (n:Nat) (rs:List Rm):Nat:=(rs.filter (upR n)).length
theorem zhX {n:Nat} {rs:List Rm} {p lo hi:Nat}:hiN n (rs++[some (p,lo,hi)])=hiN n rs+if p+2<n then 1 else 0:=by
 unfold hiN
 rw[List.filter_append,List.length_append]
 congr 1
 by_cases h:p+2<n
 ·rw[if_pos h,List.filter_cons_of_pos (show upR n (some (p,lo,hi))=true from decide_eq_true h)]
  rfl
 ·rw[if_neg h,List.filter_cons_of_neg (show ¬upR n (some (p,lo,hi))=true from fun z=>h (of_decide_eq_true z))]
  rfl
def ze8 (n:Nat) (rs:List Rm) (k:Nat):Bool×Bool×Bool×Bool :=
 (yes rs k (fun i=>if i+1=n then false else false),yes rs k (fun i=>if i+1=n then true else false),yes rs k (fun i=>if i+1=n then false else true),yes rs k (fun i=>if i+1=n then true else true))
theorem zhY {n:Nat} {rs:List Rm} (B:Bk n rs) {j k:Nat} (hj:j<rs.length) (hk:k<rs.length) (lj:n<=lev n rs j+2) (lk:n<=lev n rs k+2) (e:ze8 n rs j=ze8 n rs k):j=k:=by
 unfold ze8 at e
 rw[Prod.mk.injEq,Prod.mk.injEq,Prod.mk.injEq] at e
 obtain⟨e0,e1,e2,e3⟩:=e
 have key:∀{m:Nat},m<rs.length->n<=lev n rs m+2->∀r:Row,yes rs m r=yes rs m (fun i=>if i+1=n then r (n-1) else r (n-2)):=fun {m} hm lm r=>by
  refine VG B m m (Nat.le_refl _) hm fun i h1 h2=>?_
  by_cases h:i+1=n
  ·rw[if_pos h,show i=n-1 by omega]
  ·rw[if_neg h,show i=n-2 by omega]
 refine Zn B (max j k) j k ⟨Nat.le_max_left _ _,Nat.le_max_right _ _⟩ hj hk fun r=>?_
 rw[key hj lj r,key hk lk r]
 cases r (n-1)<;>cases r (n-2)
 ·exact e0
 ·exact e2
 ·exact e1
 ·exact e3
def ziN:List (Bool×Bool×Bool×Bool):=[false,true].flatMap fun a=>[false,true].flatMap fun b=>[false,true].flatMap fun c=>[false,true].map fun d=>(a,b,c,d)
theorem zgX:∀x:Bool×Bool×Bool×Bool,x∈ziN:=by
 rintro⟨a,b,c,d⟩
 cases a<;>cases b<;>cases c<;>cases d<;>decide
theorem zc0 {α:Type} (f:α->Bool) (d:α):∀l:List α,(l.filter f).length=((List.range l.length).filter fun i=>f (l.getD i d)).length
 | []=>rfl
 | a::l=>by
  have ih:=zc0 f d l
  rw[List.length_cons,List.range_succ_eq_map,List.filter_cons,List.filter_cons,List.filter_map,]
  have e:((List.range l.length).filter ((fun i=>f ((a::l).getD i d)) ∘ Nat.succ))=((List.range l.length).filter fun i=>f (l.getD i d)):=rfl
  rw[e]
  show(if f a=true then a::l.filter f else l.filter f).length=(if f a=true then 0::_ else _).length
  cases f a
  ·rw[if_neg Bool.false_ne_true,if_neg Bool.false_ne_true,List.length_map]
   exact ih
  ·rw[if_pos rfl,if_pos rfl,List.length_cons,List.length_cons,List.length_map,ih]
theorem zbt {α:Type} (f:α->Bool):∀l:List α,l.length=(l.filter f).length+(l.filter fun a=>!f a).length
 | []=>rfl
 | a::l=>by
  have ih:=zbt f l
  cases h:f a
  ·rw[List.filter_cons_of_neg (by rw[h]; exact Bool.false_ne_true),List.filter_cons_of_pos (p:=fun a=>!f a) (by rw[h]; rfl),List.length_cons,List.length_cons]
   omega
  ·rw[List.filter_cons_of_pos h,List.filter_cons_of_neg (p:=fun a=>!f a) (by rw[h]; exact Bool.false_ne_true),List.length_cons,List.length_cons]
   omega
theorem zf0 {n:Nat} {rs:List Rm} (B:Bk n rs):rs.length<=hiN n rs+16:=by
 have e1:=zbt (fun i=>upR n (rs.getD i none)) (List.range rs.length)
 rw[List.length_range,<-zc0] at e1
 have e2:((List.range rs.length).filter fun i=>!upR n (rs.getD i none)).length<=16:=by
  have nd:(((List.range rs.length).filter fun i=>!upR n (rs.getD i none)).map (ze8 n rs)).Nodup:=by
   have h:=(List.nodup_range (n:=rs.length)).filter (fun i=>!upR n (rs.getD i none))
   show List.Pairwise _ _
   rw[List.pairwise_map]
   refine List.Pairwise.imp_of_mem (fun {j k} hj hk ne e=>ne ?_) h
   obtain⟨j1,j2⟩:=List.mem_filter.mp hj
   obtain⟨k1,k2⟩:=List.mem_filter.mp hk
   have lv:∀m,m<rs.length->(!upR n (rs.getD m none))=true->n<=lev n rs m+2:=fun m hm hu=>by
    unfold lev
    rw[List.getD_eq_getElem?_getD] at hu
    cases hx:rs[m]? with
    | none=>show n<=n+2; omega
    | some x =>
     rw[hx] at hu
     cases x with
     | none=>show n<=n+2; omega
     | some t =>
      obtain⟨i,lo,hi⟩:=t
      have:¬i+2<n:=fun z=>by
       have:upR n (some (i,lo,hi))=true:=decide_eq_true z
       simp[this] at hu
      show n<=i+2
      omega
   exact zhY B (List.mem_range.mp j1) (List.mem_range.mp k1) (lv j (List.mem_range.mp j1) j2) (lv k (List.mem_range.mp k1) k2) e
  have:=Jf nd (ys:=ziN) fun x _=>zgX x
  rw[List.length_map] at this
  exact this
 unfold hiN
 omega
def bH (n u:Nat):Nat:=2^(n-2-u)-1
theorem zhZ {n u p:Nat} (h:u<=p):bH n (p+1)+bH n (p+1)+(if p+2<n then 1 else 0)<=bH n u:=by
 unfold bH
 by_cases hp:p+2<n
 ·rw[if_pos hp]
  have e:n-2-p=(n-2-(p+1))+1:=by omega
  have m:2^(n-2-p)<=2^(n-2-u):=Nat.pow_le_pow_right (by decide) (by omega)
  have p1:1<=2^(n-2-(p+1)):=Nat.one_le_two_pow
  rw[e,Nat.pow_succ] at m
  omega
 ·rw[if_neg hp,show n-2-(p+1)=0 by omega]
  show 1-1+(1-1)+0<=_
  omega
theorem ze9 {n:Nat} (h:n<=8):bH n 0<=63:=by
 have:2^(n-2-0)<=2^6:=Nat.pow_le_pow_right (by decide) (by omega)
 have e:2^6=64:=rfl
 unfold bH
 omega
end Bdd
namespace Sen
open PySem L2 Bdd
section
variable (C:Addr) (K:PySem.W.Frag)
def wH (d:Nat):Sp:=fun vs H Q _=>∃(b:Addr) (os:List Str) (rs:List Rm) (F:zZ) (t u:Nat) (f:Nat->Bool),vs=[.ref b,.int t]/\zR C H b os rs F/\rs.length+2^d<=9000000/\u<=os.length/\os.length+1<=u+d/\zL os.length t f/\(∀i,i<u->Free os.length f i) /\
 ∀(k:Nat) (rs':List Rm) (H':Hp),Xd F H H'->yw H H'->zR C H' b os rs' F->xr rs rs'->k<rs'.length->(∀r,yes rs' k r=f (bits r os.length))->rs'.length+1<=rs.length+2^d->(∀j,rs.length<=j->j<rs'.length->u<=lev os.length rs' j)->hiN os.length rs'<=hiN os.length rs+bH os.length u->Q (.int (k:Nat)) H'
def Pb (b:Addr) (os:List Str) (H:Hp) (rs:List Rm) (F:zZ) (f:Row->Bool) (Q:VK):Prop:=∀(k:Nat) (rs':List Rm) (H':Hp),Xd F H H'->yw H H'->zR C H' b os rs' F->xr rs rs'->Means rs' k f->hiN os.length rs'<=hiN os.length rs+63->Q (.int (k:Nat)) H'
def zc1:Sp:=fun vs H Q _=>∃(b p:Addr) (os:List Str) (rs:List Rm) (F:zZ) (s:Sn),vs=[.ref b,.ref p]/\zR C H b os rs F/\rs.length<=8000000/\IsS H s p/\s.inO os/\s.count<=200/\s.depth<=24/\Pb C b os H rs F (fun r=>s.val (ziH os r)) Q
def zbu:Sp:=fun vs H Q _=>∃(nb b kd:Addr) (os ps:List Str) (ns rs:List Rm) (G F:zZ) (k:Nat) (x:Rm) (kvs:List (Key×V)),vs=[.ref nb,.ref b,.int (k:Nat),.ref kd]/\zR C H nb ps ns G/\zR C H b os rs F/\Marks os ps/\ns.length<=8000000/\rs[k]?=some x/\H kd=some (.dK kvs) /\
 (∀i lo hi,x=some (i,lo,hi)->∃jl jh:Nat,vI kvs (Sum.inl (lo:Int))=some (.int (jl:Nat))/\vI kvs (Sum.inl (hi:Int))=some (.int (jh:Nat))/\Means ns jl (fun r=>yes rs lo (trn os ps r))/\Means ns jh (fun r=>yes rs hi (trn os ps r))) /\
 Pb C nb ps H ns G (fun r=>yes rs k (trn os ps r)) Q
def zah:Sp:=fun vs H Q _=>∃(nb b rl:Addr) (os ps:List Str) (ns rs:List Rm) (G F:zZ) (ks:List Nat),vs=[.ref nb,.ref b,.ref rl]/\zR C H nb ps ns G/\zR C H b os rs F/\Marks os ps/\(∀x,F x->¬G x)/\H rl=some (.lst (ks.map fun k=>V.int (k:Nat)))/\¬G rl/\zhj rs ks/\hiN ps.length ns+63*ks.length+16<=8000000 /\
 ∀(l:Addr) (H':Hp) (ns':List Rm) (js:List Nat),Xd G H H'->yw H H'->zR C H' nb ps ns' G->xr ns ns'->H l=none->H' l=some (.lst (js.map fun j=>V.int (j:Nat)))->js.length=ks.length->(∀(i k j:Nat),ks[i]?=some k->js[i]?=some j->Means ns' j (fun r=>yes rs k (trn os ps r)))->hiN ps.length ns'<=hiN ps.length ns+63*ks.length->Q (.ref l) H'
def Mv:Sp:=fun vs H Q _=>∃(b ol:Addr) (os ps:List Str) (rs:List Rm) (F:zZ),vs=[.ref b,.ref ol]/\zR C H b os rs F/\SqL K H ol (ps.map V.str)/\yZ ps/\Marks os ps/\63*rs.length<=7000000 /\
 ∀(t nb l:Addr) (H':Hp) (ns:List Rm) (G:zZ) (js:List Nat),Same H H'->H t=none->H' t=some (.tup [.ref nb,.ref l])->zR C H' nb ps ns G->(∀x,G x->H x=none)->H l=none->¬G l->H' l=some (.lst (js.map fun j=>V.int (j:Nat)))->js.length=rs.length->(∀(k j:Nat),js[k]?=some j->Means ns j (fun r=>yes rs k (trn os ps r)))->hiN ps.length ns<=63*rs.length->Q (.ref t) H'
end
theorem Yn {C b:Addr} {os:List Str} {H H1:Hp} {rs:List Rm} {F:zZ} {fm:Row->Bool} {Q:VK} {t:Nat} {f:Nat->Bool} (g1:Same H H1) (hB:zR C H1 b os rs F) (hl:rs.length<=8000000) (tb:zL os.length t f) (ef:∀r,f (bits r os.length)=fm r)
  (q:Pb C b os H rs F fm Q):wH C 9 [.ref b,.int t] H1 Q (fun _ _ _=>False):=by
 have ho:=(yx C).ord hB
 refine⟨b,os,rs,F,t,0,f,rfl,hB,by show rs.length+512<=9000000; omega,Nat.zero_le _,by have:=ho.le; omega,tb,fun i hi=>absurd hi (Nat.not_lt_zero _),fun j rs' H' aw tu hB' gr lt y ln _ hh=>?_⟩
 exact q j rs' H' (fun x o e nf=>aw x o (g1 _ _ e) nf) (fun x xs e=>tu _ _ (g1 _ _ e)) hB' gr ⟨lt,fun r=>(y r).trans (ef r)⟩ (Nat.le_trans hh (Nat.add_le_add_left (ze9 ho.le) _))
structure uF (C:Addr) (H0:Hp) (b:Addr) (os:List Str) (m:Nat) (H:Hp) (rs:List Rm) (F:zZ):Prop where
 same:Same H0 H
 away:∀x,F x->H0 x=none
 bk:zR C H b os rs F
 hi:hiN os.length rs<=m
section
variable {C:Addr} {H0:Hp} {b:Addr} {os:List Str} {m:Nat} {H:Hp} {rs:List Rm} {F:zZ}
theorem uF.len (h:uF C H0 b os m H rs F):rs.length<=m+16:=Nat.le_trans (zf0 ((yx C).bk h.bk)) (Nat.add_le_add_right h.hi _)
theorem uF.new (h:uF C H0 b os m H rs F) {H':Hp} (g:Same H H'):uF C H0 b os m H' rs F:=⟨h.same.trans g,h.away,(yx C).same h.bk g,h.hi⟩
theorem uF.grow (h:uF C H0 b os m H rs F) {H':Hp} {rs':List Rm} (aw:Xd F H H') (hB:zR C H' b os rs' F) (hh:hiN os.length rs'<=hiN os.length rs+63):uF C H0 b os (m+63) H' rs' F :=
 ⟨fun x o e=>aw x o (h.same _ _ e) fun z=>(by have:=h.away x z; rw[this] at e; cases e),h.away,hB,Nat.le_trans hh (Nat.add_le_add_right h.hi _)⟩
end
theorem uF.up {C:Addr} {H0:Hp} {b:Addr} {os:List Str} {m m':Nat} {H:Hp} {rs:List Rm} {F:zZ} (h:uF C H0 b os m H rs F) (hm:m<=m'):uF C H0 b os m' H rs F:=⟨h.same,h.away,h.bk,Nat.le_trans h.hi hm⟩
section
variable {C:Addr} {K:PySem.W.Frag} {sc:Addr} {ns:List Int} {H1:Hp} {ol bk:Addr} {os:List Str} {sl rl p0 p1 p2:Addr} {s0 s1 s2:Sn} {k1 k2 m:Nat} {H:Hp} {rs:List Rm} {F:zZ}
end
end Sen
namespace L2
open PySem PySem.Spec PyProof.Rows PySem.W
section
variable {prog:Program} {w:World} {A:Around} {E:Value->Shared->Prop} {κ:SortKind} {it:Array Keyed}
end
section
variable {prog:Program} {w:World} {A:Around} {E:Value->Shared->Prop} {s:Shared}
end
section
variable {A:Around} {s:Shared}
end
section
variable {X:Cx}
end
end L2
namespace L2
open PySem
section
variable {X:Cx}
end
end L2
namespace Bdd
open PySem
end Bdd
namespace Sen
open PySem L2 Bdd
end Sen
namespace Bdd
open PySem
end Bdd
namespace Bdd
open PySem
section
variable {n:Nat} {rs:List Rm} (B:Bk n rs)
include B
end
end Bdd
namespace Sen
open PySem L2 Bdd
theorem Lk {os:List Str} {p:Nat} {x:Str} (nd:os.Nodup) (h:os[p]?=some x):ix os x=p:=by
 have hp:=(List.getElem?_eq_some_iff.mp h).1
 obtain⟨_,h2,h3⟩:=wU (List.mem_of_getElem? h)
 exact(List.getElem?_inj h2 nd).mp (h3.trans h.symm)
section
variable {us vs:List Str} {x y:Str}
end
section
variable (C:Addr) (K:PySem.W.Frag)
end
end Sen
namespace L2
open PySem PySem.Spec PyProof.Rows
theorem zek {K:PySem.W.Frag} {a b:Addr} {xs ys:List V} {g:TG} {tb:TS} {D:Ends} {σ:St} {H:Hp} (hlen:xs.length=ys.length) (Pv:Nat->St->Hp->Prop) (h0:Pv 0 σ H) (hl:∀i σ H,i<=xs.length->Pv i σ H->SqL K H a xs/\SqL K H b ys)
  (hs:∀i x y σ H p,xs[i]?=some x->ys[i]?=some y->Pv i σ H->H p=none->g (.ref p) σ (upd H p (.tup [x,y])) fun σ2 H2=>tb { D with nx:=Pv (i+1),ct:=Pv (i+1),bk:=D.nx } σ2 H2) (hd:∀ σ H,Pv xs.length σ H->D.nx σ H) :
  ∃W:Nat->Nat->St->Hp->Prop,(∃m,W 0 m σ H)/\∀i m σ H,W i m σ H ->
   ((Itz K a b).stop i H/\D.nx σ H)\/((Itz K a b).go i H/\∃N:St->Hp->Prop,(∀ σ' H',N σ' H'->∃m',m'<m/\W (i+1) m' σ' H')/\∀x H',(Itz K a b).yld i H x H'->g x σ H' fun σ2 H2=>tb { D with nx:=N,ct:=N,bk:=D.nx } σ2 H2):=by
 refine⟨fun i m σ H=>m=xs.length-i/\i<=xs.length/\Pv i σ H,⟨xs.length,by simp,Nat.zero_le _,h0⟩,?_⟩
 rintro i m σ H ⟨rfl,hi,p⟩
 obtain⟨q,q'⟩:=hl i σ H hi p
 by_cases hlt:i<xs.length
 ·refine .inr ⟨⟨xs,ys,_,_,q,q',List.getElem?_eq_getElem hlt,List.getElem?_eq_getElem (l:=ys) (i:=i) (by omega)⟩,Pv (i+1),fun σ' H' p'=>⟨xs.length-(i+1),by omega,rfl,hlt,p'⟩,fun x H' y=>?_⟩
  obtain⟨pp,u,v,hu,hv,rfl,hn,rfl⟩:=y
  exact hs i u v σ H pp (hu xs q) (hv ys q') p hn
 ·have e:i=xs.length:=by omega
  subst e
  exact .inl ⟨⟨xs,ys,q,q',.inl (Nat.le_refl _)⟩,hd σ H p⟩
section
variable {X:Cx} {K:PySem.W.Frag} {o e:Expr} {es:List Expr} {to:TE} {t:TA} {name:Str} {apos cpos:Pos} {T id:String} {r:V->List V->Hp->VK->Prop}
theorem zf1 (hK:X.K=K) (pa:PlainAttrs T) (slot:Slot T name id) (hty:typeOf (.builtin id)=pure (.type "method_descriptor")) (hm:MtR X id r) (ho:PE X o to) (ha:PA X (e::es) t)
  (hbase:attributeBase o name X.env (eval o X.env)=eval o X.env:=by rfl)
  (hfew:((backTo cpos (starEach (e::es) X.env)).all (fun x=>!x.1)&&(backToKw cpos (keywordEach [] X.env)).all (fun x=>x.1.isSome)
   && decide ((e::es).length+([]:List Keyword).length+(if ([]:List Keyword).isEmpty then 0 else 1)<30))=true:=by rfl)
  (hline:(apos.endLine==cpos.line)=true:=by rfl) (hs:starEach (e::es) X.env=(false,eval e X.env)::starEach es X.env:=by rfl) (hplain:(backTo cpos (starEach es X.env)).any (·.1)=false:=by rfl) :
  PE X (.Call (.Attribute o name apos) (e::es) [] cpos) (tBM K T r to t):=by
 subst hK
 exact wI pa slot hty hm ho ha hbase hfew hline hs hplain
theorem zbv (hK:X.K=K):MtR X "list.index" (zfL K):=by subst hK; exact T3
end
theorem zel {X:Cx} {sc osc:Scope} {x y:Str} {js:List Nat} {elt iter c:Expr} {px py pt pos:Pos} {x1:Nat} {wi:TI} {te:TE} {tt:TT} (hosc:X.env.scope=osc) (L:ze7 osc sc x y (js.map fun j=>X.N.getD j "")) (hc:X.calm=true) (hi:PI X (.Tuple [.Name x px,.Name y py] x1 pt) iter wi) (hjs:∀j∈js,j<X.N.length)
  (ht:∀(cl:List (Str×Addr)) (C:Addr) (s₂:Shared) (H₂:Hp) (fp:List Addr),PT (X.blk sc cl C (lcG X [x,y] js) s₂ H₂ fp) c tt)
  (he:∀(cl:List (Str×Addr)) (C:Addr) (s₂:Shared) (H₂:Hp) (fp:List Addr),PE (X.blk sc cl C (lcG X [x,y] js) s₂ H₂ fp) elt te)
  (hs:∀x,foldedSetIterable iter X.env x=pure x:=by intro _; rfl) :
  PE X (.ListComp elt [⟨.Tuple [.Name x px,.Name y py] x1 pt,iter,[c],0⟩] sc pos) (ziv wi [x,y] js (zeL X.K 2 (QV (Wf 0) (QV (Wf 1) zeK))) tt te) :=
 ziM hosc L.g hc hi (fun cl C s₂ H₂ fp=>zhU (X:=X.blk sc cl C (lcG X [x,y] js) s₂ H₂ fp) hc L.nd rfl rfl (lookup_relabel_local L.hx) (lookup_relabel_local L.hy)) hjs (fun cl C s₂ H₂ fp pins s' σ' H' Q I h=>wpAny_tests_one (ht cl C s₂ H₂ fp pins s' σ' H' Q I h)) he hs
theorem zc2 {K:PySem.W.Frag} {a:Addr} {xs:List V} {σ:St} {js:List Nat} {tt:TT} {te:TE} {H:Hp} {Qf:Addr->Hp->List V->Prop} {x y:Str} (Pv:Nat->List V->Hp->Prop) (h0:Pv 0 [] H) (hz:xs.length<=sizeLine)
  (hl:∀i ys H,i<=xs.length->Pv i ys H->SqT K H a xs/\ys.length<=i)
  (hs:∀i v ys H,xs[i]?=some v->Pv i ys H->∃(p:Addr) (u w:V),v=.ref p/\SqT K H p [u,w]/\tt (lcT σ js [some u,some w]) H fun b H2=>if b=true then te (lcT σ js [some u,some w]) H2 fun z H3=>Pv (i+1) (ys++[z]) H3 else Pv (i+1) ys H2)
  (mt:∀ σ H Q Q',(∀b H1,Q b H1->Q' b H1)->tt σ H Q->tt σ H Q') (me:∀ σ H Q Q',(∀v H1,Q v H1->Q' v H1)->te σ H Q->te σ H Q')
  (hd:∀ys H p,Pv xs.length ys H->H p=none->Qf p H ys) :
  ∃W:Nat->Nat->List V->Hp->Prop,(∃m,W 0 m [] H)/\∀i m zs H,W i m zs H ->
   ((Itt K a).stop i H/\∀p,H p=none->Qf p H zs) \/
   ((Itt K a).go i H/\zs.length<sizeLine/\∀v H',(Itt K a).yld i H v H'->∀o0:List (Option V),o0.length=[x,y].length->zeL K 2 (QV (Wf 0) (QV (Wf 1) zeK)) v (lcT σ js o0) H' fun σ2 H1=>∃o1,σ2=lcT σ js o1/\o1.length=[x,y].length/\tt σ2 H1 fun b H2 =>
    if b=true then te σ2 H2 fun v H3=>∃m',m'<m/\W (i+1) m' (zs++[v]) H3 else ∃m',m'<m/\W (i+1) m' zs H2):=by
 refine⟨fun i m ys H=>m=xs.length-i/\i<=xs.length/\Pv i ys H,⟨xs.length,by simp,Nat.zero_le _,h0⟩,?_⟩
 rintro i m ys H ⟨rfl,hi,p⟩
 obtain⟨q,hy⟩:=hl i ys H hi p
 by_cases hlt:i<xs.length
 ·refine .inr ⟨⟨xs,xs[i],q,by simp[hlt]⟩,by omega,fun v H' y o0 l0=>?_⟩
  obtain⟨e,y⟩:=y
  subst e
  obtain⟨pp,u,w,rfl,hp,ht⟩:=hs i v ys _ (y xs q) p
  have eσ:((lcT σ js o0).set 0 (some u)).set 1 (some w)=lcT σ js [some u,some w]:=by
   match o0,l0 with
   | [a0,a1],_=>rfl
  refine⟨pp,[u,w],rfl,hp,rfl,u,[w],rfl,w,[],rfl,rfl,[some u,some w],eσ,rfl,?_⟩
  rw[eσ]
  refine mt _ _ _ _ (fun b H2 h2=>?_) ht
  cases b with
  | true =>
   rw[if_pos rfl] at h2 ⊢
   exact me _ _ _ _ (fun v H3 h3=>⟨_,by omega,rfl,hlt,h3⟩) h2
  | false =>
   rw[if_neg Bool.false_ne_true] at h2 ⊢
   exact⟨_,by omega,rfl,hlt,h2⟩
 ·have e:i=xs.length:=by omega
  subst e
  exact .inl ⟨⟨xs,q,Nat.le_refl _⟩,fun r hr=>hd _ _ r p hr⟩
end L2
namespace Sen
open PySem L2 Bdd
def Sv:List Nat->(Nat->Bool)->Nat->Bool
 | [],f=>f
 | p::ps,f=>Sv ps fun c=>f c||f (zE c p (!c.testBit p))
theorem zbw (p:Nat):∀(ps:List Nat) (f:Nat->Bool),Sv (ps++[p]) f=fun c=>Sv ps f c||Sv ps f (zE c p (!c.testBit p))
 | [],_=>rfl
 | q::ps,f=>by show Sv (ps++[p]) _=_; rw[zbw p ps]; rfl
def Sw:List (Nat×Nat)->(Nat->Bool)->Nat->Bool
 | [],f=>f
 | pq::r,f=>Sw r fun c=>if c.testBit pq.2 then f (zE c pq.1 true) else f (zE c pq.1 false)
theorem zbx (pq:Nat×Nat):∀(r:List (Nat×Nat)) (f:Nat->Bool),Sw (r++[pq]) f=fun c=>if c.testBit pq.2 then Sw r f (zE c pq.1 true) else Sw r f (zE c pq.1 false)
 | [],_=>rfl
 | q::r,f=>by show Sw (r++[pq]) _=_; rw[zbx pq r]; rfl
def zN (ps:List Nat):List V:=ps.map fun p=>V.int (p:Nat)
def Jk (K:PySem.W.Frag):Sp:=fun vs H Q _=>∃(N n:Nat) (f:Nat->Bool) (l:Addr) (ps:List Nat),vs=[.int N,.ref l,.int n]/\n<=8/\zL n N f/\SqL K H l (zN ps)/\(∀p∈ps,p<n)/\∀R:Nat,zL n R (Sv ps f)->Q (.int R) H
def zaU (K:PySem.W.Frag):Sp:=fun vs H Q _=>∃(N n:Nat) (f:Nat->Bool) (l m:Addr) (ps qs:List Nat),vs=[.int N,.ref l,.ref m,.int n]/\n<=8/\zL n N f/\SqL K H l (zN ps)/\SqL K H m (zN qs)/\ps.length=qs.length/\ps.length<=8/\(∀p∈ps,p<n)/\(∀p∈qs,p<n)/\∀(R:Nat) (H':Hp),Same H H'->zL n R (Sw (ps.zip qs) f)->Q (.int R) H'
def prs:List (Str×Str):=[("a", "e"),("b", "f"),("c", "g"),("d", "h")]
def yK (os:List Str):List Str:=(prs.filter fun p=>os.contains p.1).map (·.1)
def wX (os:List Str):List Str:=(prs.filter fun p=>os.contains p.2).map (·.2)
def Pg (C:Addr):Sp:=fun vs H Q _=>∃(b:Addr) (os:List Str) (rs:List Rm) (F:zZ),vs=[.ref b]/\zR C H b os rs F/\∀(l:Addr) (H':Hp),Same H H'->H l=none->H' l=some (.lst ((yK os).map V.str))->Q (.ref l) H'
def Kv (C:Addr):Sp:=fun vs H Q _=>∃(b:Addr) (os:List Str) (rs:List Rm) (F:zZ),vs=[.ref b]/\zR C H b os rs F/\∀(l:Addr) (H':Hp),Same H H'->H l=none->H' l=some (.lst ((wX os).map V.str))->Q (.ref l) H'
def YH (C:Addr):Sp:=fun vs H Q _=>∃(b:Addr) (os:List Str) (rs:List Rm) (F:zZ),vs=[.ref b]/\zR C H b os rs F/\∀(l:Addr) (H':Hp),Same H H'->H l=none->H' l=some (.lst (zN ((yK os).map (ix os))))->Q (.ref l) H'
def Wn (C:Addr):Sp:=fun vs H Q _=>∃(b:Addr) (os:List Str) (rs:List Rm) (F:zZ),vs=[.ref b]/\zR C H b os rs F/\∀(l:Addr) (H':Hp),Same H H'->H l=none->H' l=some (.lst (zN ((wX os).map (ix os))))->Q (.ref l) H'
theorem Qi {os:List Str} {x:Str}:inV (.str x) (os.map V.str)=os.contains x:=by
 unfold inV
 rw[List.any_map]
 induction os with
 | nil=>rfl
 | cons a l ih =>
  rw[List.any_cons,List.contains_cons,ih]
  show((a==x)||l.contains x)=((x==a)||l.contains x)
  rw[Bool.beq_comm]
theorem Jl {os:List Str} {x:Str} (h:x∈yK os):x∈os:=by
 obtain⟨p,hp,e⟩:=List.mem_map.mp h
 rw[<-e]
 exact List.contains_iff_mem.mp (List.mem_filter.mp hp).2
theorem Mw {os:List Str} {x:Str} (h:x∈wX os):x∈os:=by
 obtain⟨p,hp,e⟩:=List.mem_map.mp h
 rw[<-e]
 exact List.contains_iff_mem.mp (List.mem_filter.mp hp).2
def z9 (os:List Str):Prop:=∀p∈prs,os.contains p.1=os.contains p.2
theorem z9.len {os:List Str} (h:z9 os):(yK os).length=(wX os).length:=by
 unfold yK wX
 rw[List.length_map,List.length_map,List.filter_congr fun p hp=>h p hp]
theorem W6 (os:List Str):(yK os).length<=4:=by
 show((prs.filter _).map _).length<=4
 rw[List.length_map]
 exact List.length_filter_le _ _
def zO (os:List Str):List Nat:=(yK os).map (ix os)
def zG (os:List Str):List Nat:=(wX os).map (ix os)
theorem vq {os:List Str}:∀p∈zO os,p<os.length:=fun p hp=>by
 obtain⟨x,hx,e⟩:=List.mem_map.mp hp
 rw[<-e]
 exact(wU (Jl hx)).2.1
theorem wJ {os:List Str}:∀p∈zG os,p<os.length:=fun p hp=>by
 obtain⟨x,hx,e⟩:=List.mem_map.mp hp
 rw[<-e]
 exact(wU (Mw hx)).2.1
def wQ (os:List Str) (t f:Nat->Bool):Nat->Bool:=Sw ((zG os).zip (zO os)) (Sv (zO os) fun b=>f b&&t b)
def xu (os:List Str) (t f:Nat->Bool):Nat->Bool:=Sv (zG os) fun b=>Sw ((zO os).zip (zG os)) f b&&t b
def Ln (C:Addr):Sp:=fun vs H Q _=>∃(b:Addr) (os:List Str) (rs:List Rm) (F:zZ) (k N:Nat) (f:Nat->Bool),vs=[.ref b,.int (k:Nat),.int (N:Nat)]/\zR C H b os rs F/\k<rs.length/\z9 os/\zL os.length N f/\∀(R:Nat) (H':Hp),Same H H'->zL os.length R (wQ os (fun b=>yes rs k (xg b)) f)->Q (.int R) H'
def Ph (C:Addr):Sp:=fun vs H Q _=>∃(b:Addr) (os:List Str) (rs:List Rm) (F:zZ) (k N:Nat) (f:Nat->Bool),vs=[.ref b,.int (k:Nat),.int (N:Nat)]/\zR C H b os rs F/\k<rs.length/\z9 os/\zL os.length N f/\∀(R:Nat) (H':Hp),Same H H'->zL os.length R (xu os (fun b=>yes rs k (xg b)) f)->Q (.int R) H'
def Kw (C:Addr):Sp:=fun vs H Q _=>∃(b:Addr) (os:List Str) (rs:List Rm) (F:zZ),vs=[.ref b]/\zR C H b os rs F/\z9 os/\∀H',Same H H'->Q .non H'
def wD (os:List Str) (rs:List Rm) (k:Nat):Prop:=k<rs.length/\∀p∈zG os,Free os.length (fun b=>yes rs k (xg b)) p
def zby (C:Addr):Sp:=fun vs H Q _=>∃(b:Addr) (os:List Str) (rs:List Rm) (F:zZ) (k:Nat),vs=[.ref b,.int (k:Nat)]/\zR C H b os rs F/\wD os rs k/\∀H',Same H H'->Q .non H'
def uX (C:Addr) (K:PySem.W.Frag):Sp:=fun vs H Q _=>∃(b l:Addr) (os:List Str) (rs:List Rm) (F:zZ) (k:Nat) (ks:List Nat),vs=[.ref b,.int (k:Nat),.ref l]/\zR C H b os rs F/\z9 os/\k<rs.length/\SqL K H l (zN ks)/\(∀j∈ks,wD os rs j)/\∀H',Same H H'->Q .non H'
def zem (C:Addr):Sp:=fun vs H Q _=>∃(b:Addr) (os:List Str) (rs:List Rm) (F:zZ) (k j:Nat),vs=[.ref b,.int (k:Nat),.int (j:Nat)]/\zR C H b os rs F/\rs.length<=8000000/\z9 os/\k<rs.length/\wD os rs j/\Pb C b os H rs F (fun r=>wQ os (fun c=>yes rs k (xg c)) (fun c=>yes rs j (xg c)) (bits r os.length)) Q
def zai (C:Addr):Sp:=fun vs H Q _=>∃(b:Addr) (os:List Str) (rs:List Rm) (F:zZ) (k j:Nat),vs=[.ref b,.int (k:Nat),.int (j:Nat)]/\zR C H b os rs F/\rs.length<=8000000/\z9 os/\k<rs.length/\wD os rs j/\Pb C b os H rs F (fun r=>xu os (fun c=>yes rs k (xg c)) (fun c=>yes rs j (xg c)) (bits r os.length)) Q
end Sen
namespace Sen
open PySem L2 Bdd
theorem Za {a b:Nat} (h:∀i,a.testBit i=b.testBit i):a=b:=Nat.eq_of_testBit_eq h
theorem Jm:∀(ps:List Nat) (f:Nat->Bool) (c:Nat),Sv ps f c=true↔∃d,(∀i,i∉ps->d.testBit i=c.testBit i)/\f d=true
 | [],f,c=>by
  constructor
  ·exact fun h=>⟨c,fun _ _=>rfl,h⟩
  ·rintro⟨d,h1,h2⟩
   have e:d=c:=Za fun i=>h1 i (by simp)
   rw[e] at h2
   exact h2
 | p::ps,f,c=>by
  show Sv ps _ c=true↔_
  rw[Jm ps]
  constructor
  ·rintro⟨d,h1,h2⟩
   rcases (Bool.or_eq_true _ _).mp h2 with z | z
   ·exact⟨d,fun i hi=>h1 i (fun y=>hi (List.mem_cons_of_mem _ y)),z⟩
   ·refine⟨_,fun i hi=>?_,z⟩
    rw[zT,if_neg (fun y=>hi (by rw[y]; exact List.mem_cons_self))]
    exact h1 i (fun y=>hi (List.mem_cons_of_mem _ y))
  ·rintro⟨d,h1,h2⟩
   refine⟨zE d p (c.testBit p),fun i hi=>?_,?_⟩
   ·rw[zT]
    by_cases e:i=p
    ·rw[if_pos e,e]
    ·rw[if_neg e]
     exact h1 i (fun y=>(List.mem_cons.mp y).elim e hi)
   ·refine(Bool.or_eq_true _ _).mpr ?_
    by_cases e:c.testBit p=d.testBit p
    ·left
     rw[e,xM]
     exact h2
    ·right
     have e':zE (zE d p (c.testBit p)) p (!(zE d p (c.testBit p)).testBit p)=d:=Za fun i=>by
      rw[zT,zT,zT]
      by_cases y:i=p
      ·rw[if_pos y,if_pos rfl,y]
       cases hc:c.testBit p<;>cases hd:d.testBit p<;>rw[hc,hd] at e<;>first | rfl | exact absurd rfl e
      ·rw[if_neg y,if_neg y]
     rw[e']
     exact h2
def mv:List (Nat×Nat)->Nat->Nat
 | [],c=>c
 | pq::r,c=>zE (mv r c) pq.1 ((mv r c).testBit pq.2)
theorem Qj:∀(r:List (Nat×Nat)) (f:Nat->Bool) (c:Nat),Sw r f c=f (mv r c)
 | [],_,_=>rfl
 | pq::r,f,c=>by
  show Sw r _ c=_
  rw[Qj r]
  show(if (mv r c).testBit pq.2=true then _ else _)=f (zE (mv r c) pq.1 ((mv r c).testBit pq.2))
  cases (mv r c).testBit pq.2<;>simp
theorem Mx:∀(r:List (Nat×Nat)) (c:Nat),(r.map (·.1)).Nodup->(∀x∈r,∀y∈r,x.2≠y.1)->(∀x∈r,(mv r c).testBit x.1=c.testBit x.2)/\∀i,i∉r.map (·.1)->(mv r c).testBit i=c.testBit i
 | [],c,_,_=>⟨fun x hx=>by simp at hx,fun _ _=>rfl⟩
 | pq::r,c,nd,dj=>by
  rw[List.map_cons,List.nodup_cons] at nd
  obtain⟨h1,h2⟩:=Mx r c nd.2 fun x hx y hy=>dj x (List.mem_cons_of_mem _ hx) y (List.mem_cons_of_mem _ hy)
  have e2:(mv r c).testBit pq.2=c.testBit pq.2:=h2 _ fun h=>by
   obtain⟨y,hy,e⟩:=List.mem_map.mp h
   exact dj pq List.mem_cons_self y (List.mem_cons_of_mem _ hy) e.symm
  constructor
  ·intro x hx
   show(zE (mv r c) pq.1 ((mv r c).testBit pq.2)).testBit x.1=_
   rw[zT]
   rcases List.mem_cons.mp hx with z | z
   ·rw[z,if_pos rfl,e2]
   ·rw[if_neg (fun y=>nd.1 (by rw[<-y]; exact List.mem_map.mpr ⟨x,z,rfl⟩))]
    exact h1 x z
  ·intro i hi
   show(zE (mv r c) pq.1 ((mv r c).testBit pq.2)).testBit i=_
   rw[zT,if_neg (fun y=>hi (by rw[List.map_cons,y]; exact List.mem_cons_self))]
   exact h2 i fun y=>hi (by rw[List.map_cons]; exact List.mem_cons_of_mem _ y)
end Sen
namespace L2
open PySem PySem.Spec PyProof.Rows PySem.W
section
variable {prog:Program} {w:World} {A:Around} {E:Value->Shared->Prop} {κ:SortKind} {it:Array Keyed} {s:Shared}
variable {lt:Nat->Nat->Bool} {N:Nat}
end
section
variable {prog:Program} {w:World} {A:Around} {E:Value->Shared->Prop} {κ:SortKind} {it:Array Keyed} {s:Shared}
variable {lt:Nat->Nat->Bool} {N:Nat}
end
section
variable {prog:Program} {w:World} {A:Around} {E:Value->Shared->Prop} {κ:SortKind} {it:Array Keyed} {s:Shared}
variable {lt:Nat->Nat->Bool} {N:Nat}
end
section
variable {prog:Program} {w:World} {A:Around} {E:Value->Shared->Prop} {κ:SortKind} {it:Array Keyed} {s:Shared}
variable {lt:Nat->Nat->Bool}
end
section
variable {prog:Program} {w:World} {A:Around} {E:Value->Shared->Prop} {κ:SortKind} {it:Array Keyed} {s:Shared}
variable {lt:Nat->Nat->Bool}
end
section
variable {prog:Program} {w:World} {A:Around} {E:Value->Shared->Prop} {s:Shared}
end
section
variable {prog:Program} {w:World} {A:Around} {E:Value->Shared->Prop} {κ:SortKind} {it:Array Keyed} {s:Shared}
end
end L2
namespace Bdd
open L2
end Bdd
namespace L2
open PySem PySem.Spec PyProof.Rows PySem.W
section
variable {X:Cx}
end
section
variable {X:Cx}
end
end L2
namespace L2
open PySem
end L2
namespace Sen
open PySem L2 Bdd
section
variable (C:Addr) (K:PySem.W.Frag)
end
noncomputable def outF (F:zZ) (H:Hp):Hp:=fun x=>open Classical in if F x then none else H x
theorem zf2 (F:zZ) (H:Hp):Same (outF F H) H:=fun x o e=>by
 unfold outF at e
 by_cases h:F x
 ·rw[if_pos h] at e; cases e
 ·rw[if_neg h] at e; exact e
theorem zc3 {F:zZ} {H:Hp} {x:Addr} (h:¬F x):outF F H x=H x:=by unfold outF; rw[if_neg h]
theorem zh0 {F:zZ} {H:Hp} {x:Addr} (h:F x):outF F H x=none:=by unfold outF; rw[if_pos h]
section
variable {B:Hp->Addr->List Str->List Rm->zZ->Prop} {C:Addr} {H0 H H':Hp} {b:Addr} {os:List Str} {n:Nat} {rs rs':List Rm} {F F':zZ}
end
section
variable (C:Addr) (K:PySem.W.Frag)
end
end Sen
namespace PySem
open Sem (wp)
namespace F
end F
end PySem
namespace L2
open PySem PySem.Spec PyProof.Rows PySem.W
section
variable {X:Cx}
end
end L2
namespace Bdd
open PySem L2
theorem Py (R:Row):∀n,(List.range n).map R∈allR n
 | 0=>by simp[allR]
 | n+1=>by
  rw[List.range_succ,List.map_append,List.map_singleton]
  refine List.mem_flatMap.mpr ⟨_,Py R n,?_⟩
  cases R n<;>simp
end Bdd
namespace Sen
open PySem L2 Bdd
section
variable {C:Addr} {H0 H:Hp} {b1 b2:Addr} {os:List Str} {n:Nat} {rs1 rs2:List Rm} {F1 F2:zZ}
end
end Sen
namespace L2
open PySem PySem.Spec PyProof.Rows PySem.W
section
variable {prog:Program} {w:World} {A:Around} {E:Value->Shared->Prop} {κ:SortKind} {it:Array Keyed} {s:Shared}
variable {lt:Nat->Nat->Bool} {N:Nat}
end
section
variable {lt:Nat->Nat->Bool} {N:Nat}
variable {X Y O:List Nat} {ia ib:Nat}
end
section
variable {prog:Program} {w:World} {A:Around} {E:Value->Shared->Prop} {κ:SortKind} {it:Array Keyed} {s:Shared}
variable {lt:Nat->Nat->Bool} {N:Nat}
end
section
variable {lt:Nat->Nat->Bool} {N:Nat}
variable {X Y O:List Nat} {na nb:Nat}
end
section
variable {prog:Program} {w:World} {A:Around} {E:Value->Shared->Prop} {κ:SortKind} {it:Array Keyed} {s:Shared}
variable {lt:Nat->Nat->Bool} {N:Nat}
end
section
variable {prog:Program} {w:World} {A:Around} {E:Value->Shared->Prop} {κ:SortKind} {it:Array Keyed} {s:Shared}
variable {lt:Nat->Nat->Bool} {N:Nat}
end
section
variable {prog:Program} {w:World} {A:Around} {E:Value->Shared->Prop} {κ:SortKind} {it:Array Keyed} {s:Shared}
variable {lt:Nat->Nat->Bool} {N:Nat}
end
end L2
namespace L2
open PySem PySem.Spec PyProof.Rows PySem.W
section
variable {prog:Program} {w:World} {A:Around} {E:Value->Shared->Prop} {s:Shared}
end
section
variable {X:Cx}
end
end L2
namespace Bdd
open PySem L2
end Bdd
namespace Bdd
open Sen
section
variable {n d p:Nat} {f c:Nat->Bool}
end
end Bdd
namespace Sen
open PySem L2 Bdd
section
variable (C:Addr)
end
end Sen
namespace Sen
open PySem L2 Bdd
end Sen
namespace Bdd
open L2
end Bdd
namespace Sen
open PySem L2 Bdd
end Sen
namespace Bdd
open PySem Sen
section
variable {n:Nat} {rs:List Rm} (B:Bk n rs)
include B
end
end Bdd
namespace Sen
open PySem L2 Bdd
end Sen
namespace Sen
open PySem L2 Bdd
end Sen
namespace L2
open PySem PySem.Spec PyProof.Rows
section
variable {prog:Program} {w:World} {A:Around} {E:Value->Shared->Prop} {s:Shared}
end
section
variable {X:Cx}
end
end L2
namespace Bdd
section
variable {n:Nat} {rs:List Rm} (B:Bk n rs)
include B
end
end Bdd
namespace Sen
open PySem L2 Bdd
end Sen
namespace L2
open PySem PySem.Spec PyProof.Rows
section
variable {prog:Program} {w:World} {κ:Type} [DecidableEq κ] {knd:KeyKind prog w κ} {A:Around} {E:Value->Shared->Prop} {s:Shared}
end
section
variable {prog:Program} {w:World} {κ:Type} [DecidableEq κ] {knd:KeyKind prog w κ} {A:Around} {E:Value->Shared->Prop} {s:Shared}
end
theorem zf3 {α β:Type} {R:α->β->Prop}:∀{xs:List α} {ys:List β},xs.length=ys.length->(∀(j:Nat) x y,xs[j]?=some x->ys[j]?=some y->R x y)->Paired R xs ys
 | [],[],_,_=>.nil
 | [],_::_,e,_=>by cases e
 | _::_,[],e,_=>by cases e
 | x::xs,y::ys,e,h=>.cons (h 0 x y rfl rfl) (zf3 (Nat.succ.inj e) fun j a b h1 h2=>h (j+1) a b h1 h2)
section
variable {X:Cx}
end
end L2
namespace PySem
open Sem (wp)
section
variable {prog:Program} {w:World} {A:Around} {E:Value->Shared->Prop} {h:Heap} {g:Array GenState} {d:Drawn} {t:Nat} {os:OsState} {a:Addr} {its:Array Value} {n:Nat} {sl:Array (Option Value)}
end
section
variable {prog:Program} {w:World} {κ:Type} [DecidableEq κ] {knd:KeyKind prog w κ} {A:Around} {E:Value->Shared->Prop}
end
end PySem
namespace L2
open PySem PySem.Spec PyProof.Rows
section
variable {X:Cx}
end
end L2
namespace L2
open PySem PySem.Spec PyProof.Rows
section
variable {X:Cx}
end
end L2
namespace Bdd
section
variable {n:Nat} {rs:List Rm} (B:Bk n rs)
include B
end
end Bdd
namespace Sen
open PySem L2 Bdd
section
variable (C:Addr)
end
end Sen
namespace L2
open PySem PySem.Spec PyProof.Rows
section
variable {X:Cx} {pins:List (Addr×Obj)} {σ:St} {H:Hp} {s:Shared}
end
section
variable {X:Cx} {tg:Expr}
end
end L2
namespace L2
open PySem PySem.Spec PyProof.Rows Sen
section
variable {X:Cx}
end
end L2
namespace Sen
open PySem L2 Bdd
section
variable (C:Addr)
end
end Sen
namespace L2
open PySem PySem.Spec PyProof.Rows
section
variable {prog:Program} {w:World} {A:Around} {E:Value->Shared->Prop} {s:Shared} {d it:Addr} {es:Array DictEntry} {ep i:Nat}
end
section
variable {X:Cx}
end
end L2
namespace L2
open PySem PySem.Spec PyProof.Rows
end L2
namespace Sen
open PySem L2 Bdd
section
variable (C:Addr)
end
end Sen
namespace L2
open PySem PySem.Spec PyProof.Rows
theorem ziO {X:Cx}:OpR X (compareOp .Is) (fun x y H Q=>∃a b,x=.bl a/\y=.bl b/\Q (.bl (a==b)) H):=by
 intro pins s σ H x y v u Q I rx ry h
 obtain⟨a,b,rfl,rfl,q⟩:=h
 cases rx
 cases ry
 refine wpAny_pure (yQ I q ?_)
 cases a<;>cases b<;>rfl
end L2
namespace Bdd
end Bdd
namespace Sen
open PySem L2 Bdd
section
variable (n:Nat) (rs:List Rm) (c0 c1 c2 c3:Bool)
end
section
variable {n:Nat} {rs:List Rm} {c0 c1 c2 c3:Bool}
end
section
variable (C:Addr) (K:PySem.W.Frag)
end
end Sen
namespace L2
open PySem PySem.Spec PyProof.Rows
section
variable {X:Cx}
def zjQ:V->Option Int->Option Int->Hp->VK->Prop:=fun x lo hi H Q=>∃z:Str,x=.str z/\z.length<=sizeLine/\Q (.str (Txt.slice z lo hi)) H
theorem ziP:SlR X zjQ:=by
 intro pins s σ H x v vl vu lo hi sl Q I rx hs pl pu h
 obtain⟨z,rfl,hz,q⟩:=h
 obtain⟨t,rfl⟩:=rx
 refine⟨"str", _,PySem.F.slot_str_getitem.lookup,typeIs_str _ _ _,?_⟩
 have fin:∀(t':Tok) (k:Nat),EP X pins σ Q (.str (Txt.slice z lo hi) t') { s with toks:=k }:=fun t' k=>⟨.str (Txt.slice z lo hi),H,I.tok _,⟨t',rfl⟩,q⟩
 cases pl with
 | none=>cases pu with
  | none=>exact wpAny_getItem_str_slice (l:=none) (u:=none) (st:=none) hs rfl (post_val_or_str ⟨Nat.le_trans (Txt.slice_le z _ _) hz,fin⟩)
  | int j uj=>exact wpAny_getItem_str_slice (l:=none) (u:=some (j,uj)) (st:=none) hs rfl (post_val_or_str ⟨Nat.le_trans (Txt.slice_le z _ _) hz,fin⟩)
 | int i ui=>cases pu with
  | none=>exact wpAny_getItem_str_slice (l:=some (i,ui)) (u:=none) (st:=none) hs rfl (post_val_or_str ⟨Nat.le_trans (Txt.slice_le z _ _) hz,fin⟩)
  | int j uj=>exact wpAny_getItem_str_slice (l:=some (i,ui)) (u:=some (j,uj)) (st:=none) hs rfl (post_val_or_str ⟨Nat.le_trans (Txt.slice_le z _ _) hz,fin⟩)
def zh1:V->List V->Hp->VK->Prop:=fun x vs H Q=>∃(y z:Str) (i:Nat) (rest:List Nat),x=.str y/\vs=[.str z]/\Builtin.Str.occurrences y z 0 y.length 1=i::rest/\Q (.int (i:Nat)) H
theorem zf4:MtM X "str.index" zh1:=by
 intro pins s σ H x vs v us Q I rx rv h
 obtain⟨y,z,i,rest,rfl,rfl,ho,q⟩:=h
 obtain⟨t,rfl⟩:=rx
 obtain⟨u,rfl,ru⟩:=rv.one
 obtain⟨t',rfl⟩:=ru
 exact SC.index ho ⟨.int (i:Nat),H,I.tok _,⟨_,rfl⟩,q⟩
end
section
variable {x:Str} {σ:St} {js:List Nat} {tt:TT} {te:TE} {H:Hp} {Qf:Addr->Hp->List V->Prop}
theorem zh2 (Pv:Nat->List V->Hp->Prop) (h0:Pv 0 [] H) (hz:x.cps.size<=sizeLine) (hl:∀i ys H,Pv i ys H->ys.length<=i)
  (hs:∀(i:Nat) c ys H',x.cps[i]?=some c->Pv i ys H'->tt (lcS σ js (some (.str ⟨#[c]⟩))) H' fun b H2=>if b=true then te (lcS σ js (some (.str ⟨#[c]⟩))) H2 fun v H3=>Pv (i+1) (ys++[v]) H3 else Pv (i+1) ys H2)
  (mt:∀ σ H Q Q',(∀b H1,Q b H1->Q' b H1)->tt σ H Q->tt σ H Q') (me:∀ σ H Q Q',(∀v H1,Q v H1->Q' v H1)->te σ H Q->te σ H Q')
  (hd:∀ys H' p,Pv x.cps.size ys H'->H' p=none->Qf p H' ys) :
  ∃W:Nat->Nat->List V->Hp->Prop,(∃m,W 0 m [] H)/\∀i m ys H,W i m ys H ->
   ((Its x).stop i H/\∀p,H p=none->Qf p H ys) \/
   ((Its x).go i H/\ys.length<sizeLine/\∀v H',(Its x).yld i H v H'->tt (lcS σ js (some v)) H' fun b H2 =>
    if b=true then te (lcS σ js (some v)) H2 fun v H3=>∃m',m'<m/\W (i+1) m' (ys++[v]) H3 else ∃m',m'<m/\W (i+1) m' ys H2):=by
 refine⟨fun i m ys H'=>m=x.cps.size-i/\i<=x.cps.size/\Pv i ys H',⟨_,rfl,Nat.zero_le _,h0⟩,?_⟩
 rintro i m ys H1 ⟨rfl,hi,hp⟩
 by_cases hlt:i<x.cps.size
 ·have:=hl _ _ _ hp
  refine .inr ⟨hlt,by omega,fun v H' y=>?_⟩
  obtain⟨rfl,c,hc,rfl⟩:=y
  refine mt _ _ _ _ (fun b H2 h2=>?_) (hs i c ys _ hc hp)
  cases b with
  | true =>
   rw[if_pos rfl] at h2 ⊢
   exact me _ _ _ _ (fun v H3 h3=>⟨_,by omega,rfl,hlt,h3⟩) h2
  | false =>
   rw[if_neg Bool.false_ne_true] at h2 ⊢
   exact⟨_,by omega,rfl,hlt,h2⟩
 ·have e:i=x.cps.size:=by omega
  subst e
  exact .inl ⟨rfl,fun p h=>hd ys H1 p hp h⟩
end
end L2
namespace Sen
open PySem L2 Bdd
def sg (c:Nat):Str:=⟨#[c]⟩
theorem zc4 {a b:Nat} (h:sg a=sg b):a=b:=by
 have e:=congrArg (fun s:Str=>s.cps.toList) h
 have e:[a]=[b]:=e
 injection e
def yq (i:Nat):Str:=sg (97+i)
def wj (i:Nat):Str:=sg (101+i)
def nmS (is:List Nat):Str:=⟨(is.map fun i=>97+i).toArray⟩
theorem zc5 {is:List Nat} {k i:Nat} (h:is[k]?=some i):atI (nmS is).cps.toList (k:Int)=some (97+i):=by
 refine vp ?_
 show((is.map fun i=>97+i).toArray.toList)[k]?=_
 rw[List.getElem?_map,h]; rfl
theorem Qk (is:List Nat):(nmS is).length=is.length:=by
 show(is.map fun i=>97+i).toArray.size=_
 rw[List.size_toArray,List.length_map]
theorem zfa {i:Nat} (h:i<4):∃rest,Builtin.Str.occurrences (Str.ofString "abcd") (sg (97+i)) 0 (Str.ofString "abcd").length 1=i::rest:=by
 match i,h with
 | 0,_=>exact⟨[],by decide +kernel⟩
 | 1,_=>exact⟨[],by decide +kernel⟩
 | 2,_=>exact⟨[],by decide +kernel⟩
 | 3,_=>exact⟨[],by decide +kernel⟩
theorem zh3 {i:Nat} (h:i<4):atI (Str.ofString "efgh").cps.toList (i:Int)=some (101+i):=by
 match i,h with
 | 0,_=>decide +kernel
 | 1,_=>decide +kernel
 | 2,_=>decide +kernel
 | 3,_=>decide +kernel
theorem Sx {i:Nat} (h:i<4):prs[i]?=some (yq i,wj i):=by
 match i,h with
 | 0,_=>decide +kernel
 | 1,_=>decide +kernel
 | 2,_=>decide +kernel
 | 3,_=>decide +kernel
theorem Lp {p:Str×Str} (h:p∈prs):∃i,i<4/\p=(yq i,wj i):=by
 obtain⟨i,hi⟩:=List.getElem?_of_mem h
 have h4:i<4:=(List.getElem?_eq_some_iff.mp hi).1
 rw[Sx h4] at hi
 exact⟨i,h4,(Option.some.inj hi).symm⟩
theorem zf5 {i:Nat} (h:i<4):yq i∈yN:=by
 match i,h with
 | 0,_=>decide +kernel
 | 1,_=>decide +kernel
 | 2,_=>decide +kernel
 | 3,_=>decide +kernel
theorem zf6 {i:Nat} (h:i<4):wj i∈yN:=by
 match i,h with
 | 0,_=>decide +kernel
 | 1,_=>decide +kernel
 | 2,_=>decide +kernel
 | 3,_=>decide +kernel
theorem Wo {i j:Nat} (h:i<4):yq i≠wj j:=fun e=>by have:=zc4 e; omega
def Mks (is:List Nat) (os:List Str):Prop:=os.Nodup/\∀x,x∈os↔∃i∈is,x=yq i\/x=wj i
theorem Mks.has {is:List Nat} {os:List Str} (h:Mks is os) (h4:∀i∈is,i<4) {j:Nat} (hj:j<4):(yq j∈os↔j∈is)/\(wj j∈os↔j∈is):=by
 refine⟨⟨fun z=>?_,fun z=>(h.2 _).mpr ⟨j,z,.inl rfl⟩⟩,⟨fun z=>?_,fun z=>(h.2 _).mpr ⟨j,z,.inr rfl⟩⟩⟩
 ·obtain⟨i,hi,e | e⟩:=(h.2 _).mp z
  ·have:=zc4 e
   have:j=i:=by omega
   rw[this]; exact hi
  ·exact absurd e (Wo hj)
 ·obtain⟨i,hi,e | e⟩:=(h.2 _).mp z
  ·exact absurd e.symm (Wo (h4 i hi))
  ·have:=zc4 e
   have:j=i:=by omega
   rw[this]; exact hi
theorem contains_iff {os:List Str} {x:Str}:os.contains x=decide (x∈os):=List.contains_eq_mem ..
theorem Mks.world {is:List Nat} {os:List Str} (h:Mks is os) (h4:∀i∈is,i<4) (ne:is≠[]):yZ os/\z9 os/\0<(yK os).length:=by
 obtain⟨i0,hi0⟩:∃i,i∈is:=by
  match is,ne with
  | a::r,_=>exact⟨a,List.mem_cons_self⟩
 have m0:yq i0∈os:=(h.2 _).mpr ⟨i0,hi0,.inl rfl⟩
 refine⟨⟨h.1,fun x hx=>?_,List.length_pos_of_mem m0⟩,fun p hp=>?_,?_⟩
 ·obtain⟨i,hi,e | e⟩:=(h.2 x).mp hx
  ·rw[e]; exact zf5 (h4 i hi)
  ·rw[e]; exact zf6 (h4 i hi)
 ·obtain⟨j,hj,rfl⟩:=Lp hp
  obtain⟨a,b⟩:=h.has h4 hj
  rw[contains_iff,contains_iff]
  exact decide_eq_decide.mpr (a.trans b.symm)
 ·refine List.length_pos_of_mem (a:=yq i0) ?_
  unfold yK
  exact List.mem_map.mpr ⟨(yq i0,wj i0),List.mem_filter.mpr ⟨List.mem_of_getElem? (Sx (h4 _ hi0)),by rw[contains_iff]; exact decide_eq_true m0⟩,rfl⟩
theorem mem_mid {α:Type} {x y:α} {os:List α} {j:Nat}:x∈os.take j++y::os.drop j↔x=y\/x∈os:=by
 have e:List.Perm (os.take j++y::os.drop j) (y::os):=(List.perm_middle).trans (by rw[List.take_append_drop])
 rw[e.mem_iff,List.mem_cons]
theorem zbz {α:Type} {y:α} {os:List α} {j:Nat} (nd:os.Nodup) (h:y∉os):(os.take j++y::os.drop j).Nodup:=by
 refine List.perm_middle.nodup_iff.mpr (List.nodup_cons.mpr ⟨?_,?_⟩)
 ·rw[List.take_append_drop]; exact h
 ·rw[List.take_append_drop]; exact nd
theorem zen {α:Type} {y:α} {os:List α} {j:Nat}:(os.take j++y::os.drop j).length=os.length+1:=by
 rw[List.length_append,List.length_cons,List.length_take,List.length_drop]
 omega
structure RT (os:List Str) (H:Hp) (s:Sn) (p:Addr):Prop where
 is_:IsS H s p
 inO:s.inO os
 ct:s.count<=200
 dp:s.depth<=24
theorem RT.mono {os:List Str} {H H':Hp} {s:Sn} {p:Addr} (h:RT os H s p) (t:yw H H'):RT os H' s p:=⟨h.is_.mono t,h.inO,h.ct,h.dp⟩
theorem zh4 {os ps:List Str} (h:∀x∈os,x∈ps):∀{s:Sn},s.inO os->s.inO ps:=fun {s} e=>(Sn.inO_iff s).mpr fun x hx=>h x ((Sn.inO_iff s).mp e x hx)
section
variable (K:PySem.W.Frag)
def zeo:Sp:=fun vs H Q _=>∃c:Int,vs=[.int c]/\∀(l:Addr) (H':Hp) (os:List Str),Same H H'->H' l=some (.lst (os.map V.str))->yZ os->z9 os->0<(yK os).length->Q (.ref l) H'
def zc6:Sp:=fun vs H Q _=>∃(ol:Addr) (os:List Str),vs=[.ref ol]/\SqL K H ol (os.map V.str)/\∀(l:Addr) (H':Hp),Same H H'->H l=none->H' l=some (.lst ((yK os).map V.str))->Q (.ref l) H'
def zf7:Sp:=fun vs H Q _=>∃(sc:Addr) (ns:List Int),vs=[.ref sc]/\SqL K H sc (ns.map V.int)/\∀(t ol p:Addr) (H':Hp) (os:List Str) (s:Sn),Same H H'->H' t=some (.tup [.ref ol,.ref p])->H' ol=some (.lst (os.map V.str))->yZ os->z9 os->0<(yK os).length->RT os H' s p->Q (.ref t) H'
end
section
variable (os:List Str) (t:Nat->Bool)
def rnd (f:Nat->Bool):Nat->(Nat->Bool)×(Nat->Bool)
 | 0=>(f,fun _=>false)
 | i+1=>(fun b=>wQ os t (rnd f i).1 b&&!((rnd f i).2 b||(rnd f i).1 b),fun b=>(rnd f i).2 b||(rnd f i).1 b)
structure Zq (f:Nat->Bool) (Ns:List Nat):Prop where
 tab:∀(i N:Nat),Ns[i]?=some N->zL os.length N (rnd os t f i).1/\N≠0
 fin:zL os.length 0 (rnd os t f Ns.length).1
end
section
variable {os:List Str} {t:Nat->Bool}
theorem Zq.eq {f:Nat->Bool} {Ns Ms:List Nat} (a:Zq os t f Ns) (b:Zq os t f Ms):Ns=Ms:=by
 have key:∀{Ns Ms:List Nat},Zq os t f Ns->Zq os t f Ms->Ns.length<=Ms.length:=fun {Ns Ms} a b=>by
  rcases Nat.lt_or_ge Ms.length Ns.length with z | z
  ·exfalso
   obtain⟨x,y⟩:=a.tab Ms.length Ns[Ms.length] (List.getElem?_eq_getElem z)
   exact y (Qd x b.fin fun _ _=>rfl)
  ·exact z
 have el:Ns.length=Ms.length:=Nat.le_antisymm (key a b) (key b a)
 refine List.ext_getElem? fun i=>?_
 rcases Nat.lt_or_ge i Ns.length with z | z
 ·rw[List.getElem?_eq_getElem z,List.getElem?_eq_getElem (by omega:i<Ms.length)]
  exact congrArg some (Qd (a.tab i _ (List.getElem?_eq_getElem z)).1 (b.tab i _ (List.getElem?_eq_getElem (by omega:i<Ms.length))).1 fun _ _=>rfl)
 ·rw[List.getElem?_eq_none z,List.getElem?_eq_none (by omega)]
theorem zbA (f:Nat->Bool) (i b:Nat) (h:(rnd os t f i).1 b=true):(rnd os t f i).2 b=false:=by
 cases i with
 | zero=>rfl
 | succ i =>
  have h:(wQ os t (rnd os t f i).1 b&&!((rnd os t f i).2 b||(rnd os t f i).1 b))=true:=h
  show((rnd os t f i).2 b||(rnd os t f i).1 b)=false
  cases e:((rnd os t f i).2 b||(rnd os t f i).1 b) with
  | false=>rfl
  | true=>rw[e,Bool.not_true,Bool.and_false] at h; cases h
theorem Uz {α:Type} {p q:α->Bool}:∀{l:List α},(∀a,p a=true->q a=true)->(∃a∈l,q a=true/\p a=false)->(l.filter p).length<(l.filter q).length
 | [],_,h=>by obtain⟨a,ha,_⟩:=h; cases ha
 | x::l,hpq,h=>by
  have le:(l.filter p).length<=(l.filter q).length:=by
   clear h
   induction l with
   | nil=>exact Nat.le_refl _
   | cons y l ih =>
    rw[List.filter_cons,List.filter_cons]
    by_cases c:p y=true
    ·rw[if_pos c,if_pos (hpq y c),List.length_cons,List.length_cons]; omega
    ·rw[if_neg c]
     split
     ·rw[List.length_cons]; omega
     ·exact ih
  rw[List.filter_cons,List.filter_cons]
  by_cases c:p x=true
  ·rw[if_pos c,if_pos (hpq x c),List.length_cons,List.length_cons]
   obtain⟨a,ha,h1,h2⟩:=h
   rcases List.mem_cons.mp ha with e | e
   ·rw[e,c] at h2; cases h2
   ·have:=Uz (l:=l) hpq ⟨a,e,h1,h2⟩
    omega
  ·rw[if_neg c]
   by_cases d:q x=true
   ·rw[if_pos d,List.length_cons]; omega
   ·rw[if_neg d]
    obtain⟨a,ha,h1,h2⟩:=h
    rcases List.mem_cons.mp ha with e | e
    ·rw[e] at h1; exact absurd h1 d
    ·exact Uz (l:=l) hpq ⟨a,e,h1,h2⟩
def zc7 (os:List Str) (t f:Nat->Bool) (i:Nat):Nat:=((List.range (2^os.length)).filter (rnd os t f i).2).length
theorem zep (f:Nat->Bool) (i:Nat):zc7 os t f i<=2^os.length:=Nat.le_trans (List.length_filter_le _ _) (by rw[List.length_range]; exact Nat.le_refl _)
theorem zh5 {f:Nat->Bool} {i N:Nat} (h:zL os.length N (rnd os t f i).1) (ne:N≠0):zc7 os t f i<zc7 os t f (i+1):=by
 unfold zc7
 refine Uz (fun a ha=>by show((rnd os t f i).2 a||(rnd os t f i).1 a)=true; rw[ha]; rfl) ?_
 have hb:∃b,N.testBit b=true:=by
  refine Classical.byContradiction fun no=>ne (Nat.eq_of_testBit_eq fun b=>?_)
  rw[Nat.zero_testBit]
  cases e:N.testBit b with
  | false=>rfl
  | true=>exact absurd ⟨b,e⟩ no
 obtain⟨b,hb⟩:=hb
 have z:=h b
 rw[hb] at z
 have z1:b<2^os.length:=by
  by_cases c:b<2^os.length
  ·exact c
  ·rw[decide_eq_false c,Bool.false_and] at z; cases z
 rw[decide_eq_true z1,Bool.true_and] at z
 refine⟨b,List.mem_range.mpr z1,?_,zbA f i b z.symm⟩
 show((rnd os t f i).2 b||(rnd os t f i).1 b)=true
 rw[<-z,Bool.or_true]
theorem zc8 {n N M:Nat} {f g:Nat->Bool} (a:zL n N f) (b:zL n M g):zL n (N|||M) fun c=>f c||g c:=fun c=>by
 rw[Nat.testBit_or,a c,b c]
 cases decide (c<2^n)<;>rfl
def RV (n:Nat) (rs:List Rm) (j N:Nat):Prop:=j<rs.length/\zL n N fun b=>yes rs j (xg b)
theorem RV.grown {n:Nat} {rs rs':List Rm} (B:Bk n rs) (g:xr rs rs') {j N:Nat} (a:RV n rs j N):RV n rs' j N:=⟨Nat.lt_of_lt_of_le a.1 g.len,fun b=>by rw[a.2 b]; show(_&&yes rs j (xg b))=(_&&yes rs' j (xg b)); rw[g.yes B a.1]⟩
theorem RV.of {n:Nat} {rs:List Rm} {j N:Nat} {g:Nat->Bool} (m:Means rs j fun r=>g (bits r n)) (h:zL n N g):RV n rs j N:=⟨m.1,fun b=>by
 rw[h b]
 by_cases c:b<2^n
 ·show(_&&g b)=(_&&yes rs j (xg b))
  rw[m.2]
  show(_&&g b)=(_&&g (bits (xg b) n))
  rw[Zf c]
 ·rw[decide_eq_false c]; rfl⟩
theorem Xf {os:List Str} {x:Str} (h:x∈yK os):x∈os/\∃i,i<4/\x=yq i:=by
 refine⟨Jl h,?_⟩
 obtain⟨p,hp,rfl⟩:=List.mem_map.mp h
 obtain⟨i,hi,rfl⟩:=Lp (List.mem_filter.mp hp).1
 exact⟨i,hi,rfl⟩
theorem Rp {os:List Str} {x:Str} (h:x∈wX os):x∈os/\∃i,i<4/\x=wj i:=by
 refine⟨Mw h,?_⟩
 obtain⟨p,hp,rfl⟩:=List.mem_map.mp h
 obtain⟨i,hi,rfl⟩:=Lp (List.mem_filter.mp hp).1
 exact⟨i,hi,rfl⟩
theorem ix_inj' {os:List Str} {x y:Str} (hx:x∈os) (hy:y∈os) (e:ix os x=ix os y):x=y:=(zcM hy hx).mp e
theorem zc9 (os:List Str):(wX os).Nodup:=by
 unfold wX
 have e:(prs.map (·.2)).Nodup:=by decide +kernel
 exact List.Nodup.sublist (List.Sublist.map _ (List.filter_sublist)) e
theorem zda {os:List Str} (ho:yZ os):(zG os).Nodup:=by
 unfold zG
 refine List.pairwise_map.mpr ((zc9 os).imp_of_mem fun {a b} ha hb ne e=>ne ?_)
 exact ix_inj' (Rp ha).1 (Rp hb).1 e
theorem vB {os:List Str} (ho:yZ os) {i j:Nat} (hi:i∈zO os) (hj:j∈zG os):i≠j:=fun e=>by
 obtain⟨x,hx,rfl⟩:=List.mem_map.mp hi
 obtain⟨y,hy,rfl⟩:=List.mem_map.mp hj
 obtain⟨h1,a,ha,rfl⟩:=Xf hx
 obtain⟨h2,b,hb,rfl⟩:=Rp hy
 exact Wo ha (ix_inj' h1 h2 e)
theorem zgY (ho:yZ os) (hW:z9 os) (f:Nat->Bool):∀p∈zG os,Free os.length (wQ os t f) p:=by
 intro p hp b hb v
 unfold wQ
 rw[Qj,Qj]
 congr 1
 have e1:((zG os).zip (zO os)).map (·.1)=zG os:=List.map_fst_zip (by unfold zG zO; rw[List.length_map,List.length_map,hW.len]; exact Nat.le_refl _)
 have nd:(((zG os).zip (zO os)).map (·.1)).Nodup:=by rw[e1]; exact zda ho
 have ap:∀x∈(zG os).zip (zO os),∀y∈(zG os).zip (zO os),x.2≠y.1:=fun x hx y hy=>vB ho (List.of_mem_zip hx).2 (List.of_mem_zip hy).1
 obtain⟨a1,a2⟩:=Mx _ (zE b p v) nd ap
 obtain⟨b1,b2⟩:=Mx _ b nd ap
 refine Za fun i=>?_
 by_cases c:i∈((zG os).zip (zO os)).map (·.1)
 ·obtain⟨x,hx,rfl⟩:=List.mem_map.mp c
  rw[a1 x hx,b1 x hx,zT,if_neg]
  exact fun e=>vB ho (List.of_mem_zip hx).2 hp e
 ·rw[a2 i c,b2 i c,zT,if_neg]
  exact fun e=>c (by rw[e1,e]; exact hp)
theorem Jo (ho:yZ os) (hW:z9 os) {f:Nat->Bool} (hf:∀p∈zG os,Free os.length f p):∀i,∀p∈zG os,Free os.length (rnd os t f i).1 p/\Free os.length (rnd os t f i).2 p
 | 0,p,hp=>⟨hf p hp,fun _ _ _=>rfl⟩
 | i+1,p,hp=>by
  obtain⟨a,b⟩:=Jo ho hW hf i p hp
  refine⟨fun c hc v=>?_,fun c hc v=>?_⟩
  ·show(wQ os t (rnd os t f i).1 (zE c p v)&&!((rnd os t f i).2 (zE c p v)||(rnd os t f i).1 (zE c p v)))=_
   rw[zgY ho hW _ p hp c hc v,a c hc v,b c hc v]
   rfl
  ·show((rnd os t f i).2 (zE c p v)||(rnd os t f i).1 (zE c p v))=_
   rw[a c hc v,b c hc v]
   rfl
theorem zgZ {rs:List Rm} {j:Nat} {g:Nat->Bool} (m:Means rs j fun r=>g (bits r os.length)) (h:∀p∈zG os,Free os.length g p):wD os rs j:=⟨m.1,fun p hp b hb v=>by
 have pl:=wJ p hp
 show yes rs j (xg (zE b p v))=yes rs j (xg b)
 rw[m.2,m.2]
 show g (bits (xg (zE b p v)) os.length)=g (bits (xg b) os.length)
 rw[Zf hb,Zf (yU hb pl)]
 exact h p hp b hb v⟩
theorem wD.grown {rs rs':List Rm} (B:Bk os.length rs) (g:xr rs rs') {j:Nat} (h:wD os rs j):wD os rs' j:=⟨Nat.lt_of_lt_of_le h.1 g.len,fun p hp b hb v=>by
 show yes rs' j _=yes rs' j _
 rw[g.yes B h.1,g.yes B h.1]; exact h.2 p hp b hb v⟩
theorem zbB {rs:List Rm} (ho:yZ os) {j:Nat} {s:Sn} (hs:s.inO (yK os)) (m:Means rs j fun r=>s.val (ziH os r)):wD os rs j:=⟨m.1,fun p hp b hb v=>by
 show yes rs j _=yes rs j _
 rw[m.2,m.2]
 refine Sn.val_congr s hs fun x hx=>?_
 show xg (zE b p v) (ix os x)=xg b (ix os x)
 unfold xg
 rw[zT,if_neg]
 exact fun e=>vB ho (List.mem_map_of_mem hx) hp e⟩
theorem Sy {x:List Nat} {j:Nat} {v:V} (h:(zN x)[j]?=some v):∃b,x[j]?=some b/\v=.int (b:Nat):=by
 unfold zN at h
 rw[List.getElem?_map] at h
 cases hx:x[j]? with
 | none=>rw[hx] at h; cases h
 | some b=>rw[hx] at h; exact⟨b,rfl,(Option.some.inj h).symm⟩
theorem wR (x:List Nat):(zN x).length=x.length:=List.length_map _
theorem zdb {K:PySem.W.Frag} {H:Hp} {n:Nat} {p q:Addr} {x y:List Nat} (hp:SqL K H p (zN x)) (hq:SqL K H q (zN y)):EqD K H (n+1) (.ref p) (.ref q) (decide (x=y)):=by
 by_cases hl:x.length=y.length
 ·have z:=EqD.ll (n:=n) (e:=fun j=>x[j]?==y[j]?) hp hq (by rw[wR,wR,hl]) fun j u v hu hv=>by
   obtain⟨b,hb,rfl⟩:=Sy hu
   obtain⟨c,hc,rfl⟩:=Sy hv
   rw[hb,hc]
   have:eqV (.int (b:Nat)) (.int (c:Nat))=(some b==some c):=by
    show(((b:Nat):Int)==((c:Nat):Int))=(some b==some c)
    by_cases e:b=c
    ·subst e; simp
    ·have e':¬((b:Nat):Int)=((c:Nat):Int):=by omega
     rw[beq_eq_false_iff_ne.mpr e',beq_eq_false_iff_ne.mpr (fun z=>e (Option.some.inj z))]
   rw[<-this]
   exact .flat rfl rfl
  have e:((List.range (zN x).length).all fun j=>x[j]?==y[j]?)=decide (x=y):=by
   rw[wR]
   by_cases h:x=y
   ·subst h
    rw[decide_eq_true rfl,List.all_eq_true]
    exact fun j _=>by simp
   ·rw[decide_eq_false h]
    cases hc:(List.range x.length).all fun j=>x[j]?==y[j]? with
    | false=>rfl
    | true =>
     exfalso
     refine h (List.ext_getElem? fun j=>?_)
     by_cases hj:j<x.length
     ·exact eq_of_beq (List.all_eq_true.mp hc j (List.mem_range.mpr hj))
     ·rw[List.getElem?_eq_none (by omega),List.getElem?_eq_none (by omega)]
  rw[e] at z
  exact z
 ·rw[decide_eq_false fun e=>hl (by rw[e])]
  exact .ln hp hq (by rw[wR,wR]; exact hl)
end
section
variable (C:Addr) (K:PySem.W.Frag)
def tB (rs:List Rm) (k:Nat):Nat->Bool:=fun b=>yes rs k (xg b)
def Y5:Sp:=fun vs H Q _=>∃(b:Addr) (os:List Str) (rs:List Rm) (F:zZ) (k j:Nat),vs=[.ref b,.int (k:Nat),.int (j:Nat)]/\zR C H b os rs F/\z9 os/\k<rs.length/\j<rs.length /\
 ∀(l:Addr) (H':Hp) (Ns:List Nat),Same H H'->H l=none->H' l=some (.lst (zN Ns))->Zq os (tB rs k) (tB rs j) Ns->Ns.length<=256->Q (.ref l) H'
def zdc:Sp:=fun vs H Q _=>∃(b:Addr) (os:List Str) (rs:List Rm) (F:zZ) (k j:Nat),vs=[.ref b,.int (k:Nat),.int (j:Nat)]/\zR C H b os rs F/\rs.length<=6000000/\z9 os/\k<rs.length/\wD os rs j /\
 ∀(l:Addr) (H':Hp) (rs':List Rm) (js Ns:List Nat),Xd F H H'->yw H H'->zR C H' b os rs' F->xr rs rs'->hiN os.length rs'<=hiN os.length rs+16128->H l=none->¬F l->H' l=some (.lst (zN js))->Paired (RV os.length rs') js Ns->(∀j∈js,wD os rs' j)->Zq os (tB rs k) (tB rs j) Ns->Ns.length<=256->Q (.ref l) H'
end
theorem yV {n:Nat} {rs rs':List Rm} (B:Bk n rs) (g:xr rs rs') {k:Nat} (h:k<rs.length):tB rs' k=tB rs k:=funext fun b=>g.yes B h _
theorem uF.rise {C:Addr} {H0:Hp} {b:Addr} {os:List Str} {m n:Nat} {H:Hp} {rs:List Rm} {F:zZ} (h:uF C H0 b os m H rs F) {H':Hp} {rs':List Rm} (aw:Xd F H H') (hB:zR C H' b os rs' F) (hh:hiN os.length rs'<=hiN os.length rs+n):uF C H0 b os (m+n) H' rs' F :=
 ⟨fun x o e=>aw x o (h.same _ _ e) fun z=>(by have:=h.away x z; rw[this] at e; cases e),h.away,hB,Nat.le_trans hh (Nat.add_le_add_right h.hi _)⟩
section
variable {C:Addr} {K:PySem.W.Frag} {sc:Addr} {ns:List Int} {H1:Hp} {ol bk:Addr} {os:List Str} {m:Nat} {H H':Hp} {rs rs':List Rm} {F:zZ} {k0 k1 k2:Nat} {dl tl:Addr} {ds Ns js:List Nat}
end
end Sen
namespace PySem
namespace F
theorem zfb:typeLookup (.type "list_reverseiterator") "__len__"=pure none:=by rw[typeLookup_type,builtinLookup_eq_fast]; kernel_rfl
theorem zg0:typeLookup (.type "list_reverseiterator") "__length_hint__"=pure (some (.builtin "list_reverseiterator.__length_hint__")):=by rw[typeLookup_type,builtinLookup_eq_fast]; kernel_rfl
end F
end PySem
namespace L2
open PySem PySem.W PySem.Spec PyProof.Rows PySem.Calls PyProof.V
section
variable {prog:Program} {w:World} {A:Around} {E:Value->Shared->Prop} {s:Shared} {r l:Addr} {items:Array Value}
theorem zg1 {Q:Bool->Shared->Prop} (hT:s.TypeIs (.ref r) "list_reverseiterator") (h:Q false s):wpAny (model prog w) A (Builtin.List.listLengthHint (.ref r)) Q E s:=by
 unfold Builtin.List.listLengthHint
 refine wpAny_bind (wpAny_specialOf hT PySem.F.zfb ?_)
 refine wpAny_ite_split (fun hab=>absurd hab (by decide)) (fun _=>?_)
 refine wpAny_ite_split (fun hab=>absurd hab (by decide)) (fun _=>?_)
 refine wpAny_bind (wpAny_specialOf hT PySem.F.zg0 ?_)
 generalize hid:("list_reverseiterator.__length_hint__" : String)=id0
 wp_delta
 rw[show splitId id0=some ("list_reverseiterator", "__length_hint__") from by subst hid; decide +kernel]
 subst hid
 refine wpAny_bind (wpAny_isInstance (T := "list_reverseiterator") (b:=true) hT (by rw[isSubtype_type]; kernel_rfl) ?_)
 refine wpAny_ite_split (fun hab=>absurd hab (by decide)) (fun _=>?_)
 refine wpAny_ite_split (fun _=>?_) (fun hab=>absurd (by decide +kernel) hab)
 refine wpAny_ite_split (fun hab=>absurd hab (by decide +kernel)) (fun _=>?_)
 exact wpAny_pure h
theorem zfc {R:Result->Shared->Prop} (hh:A.handled=none) (hne:l≠r) (hit:s.heap.IsRevIter r l ((items.size:Int)-1)) (hl:s.heap.IsList l items) (S:Addr) (hSr:S≠r) (hSl:S≠l) (res:Value) (c₀:Nat) (hS:s.heap.get? S=some { cls:=.type "list", data:=.seq #[] c₀ })
  (hR:∀h' tk acc' c',(∀b o,b≠S->b≠r->s.heap.get? b=some o->h'.get? b=some o)->h'.get? S=some { cls:=.type "list", dict:=none,data:=.seq acc' c',slots:=#[] }->ItemsOf (fun i v=>items[items.size-1-i]?=some v) acc' items.size->R (.ok (.ret res)) { s with heap:=h',toks:=tk }) (hn:items.size<=sizeLine) :
  wpAny (model prog w) A.in1 (Builtin.List.listExtendWith (.ref S) (.ref r) res)
   (fun fin s'=>match fin with | .done f=>R (.ok f) s' | .again c'=>c'.quiet=true/\codeAny (model prog w) A c' R s') (fun e s'=>R (.error e) s') s:=by
 have hSf:S∉[r,l]:=by simp only[List.mem_cons,List.not_mem_nil,or_false,not_or]; exact⟨hSr,hSl⟩
 have W:=Walks.listRev (prog:=prog) (w:=w) (A:=A.in1) hh r l hne items
 have st0:(0<=items.size/\s.heap.IsRevIter r l ((items.size:Int)-1-((0:Nat):Int))/\s.heap.IsList l items):=⟨Nat.zero_le _,by rw[show(items.size:Int)-1-((0:Nat):Int)=(items.size:Int)-1 by omega]; exact hit,hl⟩
 unfold Builtin.List.listExtendWith
 refine wpAny_bind (wpAny_typeOf (T := "list_reverseiterator") hit.typeIs ?_)
 have h1:Builtin.List.listSameRef (.ref S) (.ref r)=false:=by simp[Builtin.List.listSameRef,hSr]
 have h2:(Value.type "list_reverseiterator" == Value.type "list")=false:=by decide
 have h3:(Value.type "list_reverseiterator" == Value.type "tuple")=false:=by decide
 simp only[h1,h2,h3,Bool.or_false,Bool.false_eq_true,if_false]
 refine wpAny_bind (wpAny_pyIter_revIter hit ?_)
 refine wpAny_bind (wpAny_holding (zg1 hit.typeIs ?_))
 refine wpAny_ite_split (fun hab=>absurd hab Bool.false_ne_true) (fun _=>wpAny_pure ⟨plainId_quiet PySem.F.plain_extend_loop _,?_⟩)
 refine codeAny_extend_loopS W.toS hn S hSf res items.size 0 _ #[] c₀ rfl (Nat.zero_le _) st0 hS (ItemsOf.nil _) fun s' acc' c' hm hS' hacc=>?_
 rw[Moved.eq_with hm]
 refine hR s'.heap s'.toks acc' c' (fun b o hb hbr e=>hm.heap b o (fun hmem=>?_) e) hS' hacc
 rcases List.mem_cons.mp hmem with e' | hmem
 ·exact hb e'
 ·exact hbr (List.mem_singleton.mp hmem)
theorem zg2 {Q:Value->Shared->Prop} (hh:A.handled=none) (hne:l≠r) (hit:s.heap.IsRevIter r l ((items.size:Int)-1)) (hl:s.heap.IsList l items) (hn:items.size<=sizeLine)
  (hQ:∀h' tk acc' c',(∀b o,b≠r->s.heap.get? b=some o->h'.get? b=some o)->h'.get? s.heap.objs.size=some { cls:=.type "list", dict:=none,data:=.seq acc' c',slots:=#[] }->ItemsOf (fun i v=>items[items.size-1-i]?=some v) acc' items.size->Q (.ref s.heap.objs.size) { s with heap:=h',toks:=tk }) :
  wpAny (model prog w) A (call (.type "list") [.ref r]) Q E s:=by
 refine callType_codes (Q₁:=fun obj s₁=>obj=.ref s.heap.objs.size/\s₁={ s with heap:=s.heap.push { cls:=.type "list", data:=.seq #[] } }) PySem.F.called_list (PySem.F.typeCall_list_1 _) PySem.F.entry_list_init
  (code_list_new _ ⟨rfl,rfl⟩) fun obj s₁ h₁=>?_
 obtain⟨rfl,rfl⟩:=h₁
 have hS:(s.heap.push { cls:=.type "list", data:=.seq #[] }).get? s.heap.objs.size=some { cls:=.type "list", data:=.seq #[] }:=Heap.get?_push_size _ rfl
 obtain⟨o1,ho1,_⟩:=id hit
 obtain⟨o2,ho2,_⟩:=id hl
 have lr:r<s.heap.objs.size:=Heap.lt_size ho1
 have ll:l<s.heap.objs.size:=Heap.lt_size ho2
 refine⟨⟨_,hS,rfl⟩,PySem.F.args_list_init_2 _ _,?_⟩
 show wpAny _ _ (do let old <-Builtin.List.listItems (.ref s.heap.objs.size); Builtin.List.listUpdate (.ref s.heap.objs.size) (fun _=>#[]); letGo old.toList.reverse; Builtin.List.listExtendWith (.ref s.heap.objs.size) (.ref r) .none) _ _ _
 refine wpAny_bind ?_
 unfold Builtin.List.listItems
 refine wpAny_bind (wpAny_seqItems hS rfl (wpAny_pure ?_))
 show wpAny _ _ (updateSeq s.heap.objs.size (fun _=>#[])>>=fun _=>letGo (#[]:Array Value).toList.reverse>>=fun _=>Builtin.List.listExtendWith (.ref s.heap.objs.size) (.ref r) .none) _ _ _
 refine wpAny_bind (wpAny_updateSeq hS rfl ?_)
 have hS₂:=Heap.get?_update_self (Obj.mapSeq (fun _=>(#[]:Array Value))) hS rfl
 have oth:∀b o,b≠s.heap.objs.size->s.heap.get? b=some o->((s.heap.push { cls:=.type "list", data:=.seq #[] }).update s.heap.objs.size (Obj.mapSeq (fun _=>(#[]:Array Value)))).get? b=some o :=
  fun b o hb e=>(Heap.get?_update_other _ _ (Ne.symm hb)).trans (Heap.get?_push_of_some _ e)
 refine wpAny_bind (wpAny_letGo ?_)
 refine zfc (A:=A.in1) hh hne (hit.at fun o e=>oth r o (Nat.ne_of_lt lr) e) (hl.at fun o e=>oth l o (Nat.ne_of_lt ll) e) s.heap.objs.size (Nat.ne_of_gt lr) (Nat.ne_of_gt ll) .none _ hS₂ (fun h' tk acc' c' hk hS' hacc=>?_) hn
 exact⟨rfl,hQ h' tk acc' c' (fun b o hbr e=>hk b o (Nat.ne_of_lt (Heap.lt_size e)) hbr (oth b o (Nat.ne_of_lt (Heap.lt_size e)) e)) hS' hacc⟩
end
section
variable {X:Cx}
def zjp (K:PySem.W.Frag) (ta:TA):TE:=fun σ H Q=>ta σ H fun vs H1=>∃(a:Addr) (xs:List V),vs=[.ref a]/\SqL K H1 a xs/\∀l,H1 l=none->Q (.ref l) (upd H1 l (.lst xs.reverse))
theorem zfd {e:Expr} {ta:TA} {p p2 pos pos2:Pos} (hc:X.calm=true) (hg:Gl X "list") (hm:X.mg "list"=none) (hg2:Gl X "reversed") (hm2:X.mg "reversed"=none) (ha:PA X [e] ta)
  (hs:starEach [e] X.env=[(false,eval e X.env)]:=by rfl)
  (hs2:starEach [.Call (.Name "reversed" p2) [e] [] pos2] X.env=[(false,eval (.Call (.Name "reversed" p2) [e] [] pos2) X.env)]:=by rfl) :
  PE X (.Call (.Name "list" p) [.Call (.Name "reversed" p2) [e] [] pos2] [] pos) (zjp X.K ta):=by
 intro pins s σ H Q I h
 refine wpAny_Call_Name_kw (Zy I hg hm R8 ?_ (by decide) (by decide))
 refine PyProof.Rows.callWith_type1 ?_ hs2 rfl
 rw[hs2]
 show wpAny _ _ (spliced ((false,eval (.Call (.Name "reversed" p2) [e] [] pos2) X.env)::[])) _ _ s
 refine Calls.spliced_cons ?_
 refine Call_ (Zy I hg2 hm2 (by rfl) (PyProof.Rows.callWith_type1 (thn (ha pos2 pins s σ H _ I h) fun us s1 ⟨vs,H1,I1,r1,q1⟩=>?_) hs rfl))
 obtain⟨a,xs,e1,hq,q⟩:=q1
 subst e1
 obtain⟨u,rfl,ru⟩:=vals1 r1
 cases ru
 obtain⟨its,rv,pl,hz⟩:=I1.list hq
 have hlen:=rv.length
 refine call_reversed_list pl.isList (Calls.spliced_nil ?_)
 obtain⟨oa,hoa,_⟩:=id pl.isList
 have la:a<s1.heap.objs.size:=Heap.lt_size hoa
 have es:(s1.heap.push (revObj a ((its.toArray.size:Int)-1))).objs.size=s1.heap.objs.size+1:=Heap.size_push ..
 refine zg2 (s:={ s1 with heap:=s1.heap.push (revObj a ((its.toArray.size:Int)-1)) }) (l:=a) (items:=its.toArray) (I1.ok.hd hc) (Nat.ne_of_lt la) ⟨_,Heap.get?_push_size _ rfl,rfl,rfl⟩ (pl.isList.at fun o e=>Heap.get?_push_of_some _ e) (by rw[List.size_toArray]; omega) fun h' tk acc c kp hD hacc=>?_
 have kk:∀b o,s1.heap.get? b=some o->h'.get? b=some o:=fun b o e=>kp b o (Nat.ne_of_lt (Heap.lt_size e)) (Heap.get?_push_of_some _ e)
 show EP X pins σ Q (.ref (s1.heap.push (revObj a ((its.toArray.size:Int)-1))).objs.size) { s1 with heap:=h',toks:=tk }
 rw[es] at hD ⊢
 refine⟨.ref (s1.heap.objs.size+1),_,I1.laid (t':=tk) (o:=.lst xs.reverse) kk (Nat.le_succ _) ?_,rfl,q _ (I1.hok.fresh (Nat.le_succ _))⟩
 refine⟨by rw[List.length_reverse]; exact hz,acc.toList,c,?_,by simpa using hD⟩
 have hsz:acc.size=xs.length:=by rw[hacc.1,List.size_toArray]; omega
 refine Ji (by rw[List.length_reverse]; simp; omega) fun j v hv=>?_
 have hjl:j<xs.length:=by
  have:=(List.getElem?_eq_some_iff.mp hv).1
  rw[Array.length_toList] at this
  omega
 have hx:=hacc.2 j v (by rw[<-Array.getElem?_toList]; exact hv)
 rw[List.size_toArray,List.getElem?_toArray] at hx
 obtain⟨y,hy⟩:∃y,xs[xs.length-1-j]?=some y:=⟨_,List.getElem?_eq_getElem (by omega)⟩
 obtain⟨u2,hu2,ru2⟩:=rv.get hy
 rw[<-hlen,hu2] at hx
 cases hx
 exact⟨y,by rw[List.getElem?_reverse hjl]; exact hy,ru2⟩
end
end L2
namespace Sen
open PySem L2 Bdd
theorem ziQ:∀(a b:Nat),a&&&b=0->a+b=a|||b:=by
 intro a
 induction a using Nat.strongRecOn with
 | _ a ih =>
  intro b h
  by_cases z:a=0
  ·subst z; simp
  have h2:a / 2&&&b / 2=0:=by
   have:=congrArg (· / 2) h
   simpa [Nat.and_div_two] using this
  have e:=ih (a / 2) (by omega) (b / 2) h2
  have d:(a|||b) / 2=a / 2|||b / 2:=Nat.or_div_two
  have t0:(a.testBit 0&&b.testBit 0)=false:=by
   rw[<-Nat.testBit_and,h]; simp
  have t1:(a|||b).testBit 0=(a.testBit 0||b.testBit 0):=Nat.testBit_or a b 0
  rw[Nat.testBit_zero,Nat.testBit_zero] at t0
  rw[Nat.testBit_zero,Nat.testBit_zero,Nat.testBit_zero] at t1
  have t1':(a|||b)%2=1↔(a%2=1\/b%2=1):=by rw[<-Bool.decide_or] at t1; exact decide_eq_decide.mp t1
  have t0':¬(a%2=1/\b%2=1):=by rw[<-Bool.decide_and] at t0; exact of_decide_eq_false t0
  have m:(a|||b)%2=a%2+b%2:=by omega
  omega
section
variable {os:List Str}
theorem Ql (t f:Nat->Bool) (b:Nat):wQ os t f b=true↔∃d,(∀i,i∉zO os->d.testBit i=(mv ((zG os).zip (zO os)) b).testBit i)/\f d=true/\t d=true:=by
 unfold wQ
 rw[Qj,Jm]
 simp only[Bool.and_eq_true]
theorem W7 (t f:Nat->Bool) (b:Nat):xu os t f b=true↔∃e,(∀i,i∉zG os->e.testBit i=b.testBit i)/\f (mv ((zO os).zip (zG os)) e)=true/\t e=true:=by
 unfold xu
 rw[Jm]
 simp only[Bool.and_eq_true,Qj]
theorem Zb {n b:Nat} (h:∀i,n<=i->b.testBit i=false):b<2^n:=Nat.lt_pow_two_of_testBit b h
theorem z8 {n b i:Nat} (h:b<2^n) (hi:n<=i):b.testBit i=false:=Nat.testBit_lt_two_pow (Nat.lt_of_lt_of_le h (Nat.pow_le_pow_right (by decide) hi))
theorem free_eq {n:Nat}:∀(ps:List Nat) {f:Nat->Bool},(∀p∈ps,p<n/\Free n f p)->∀{b c:Nat},b<2^n->c<2^n->(∀i,i∉ps->b.testBit i=c.testBit i)->f b=f c
 | [],f,_,b,c,_,_,h=>by rw[Za fun i=>h i (by simp)]
 | p::ps,f,hf,b,c,hb,hc,h=>by
  obtain⟨pn,fr⟩:=hf p List.mem_cons_self
  rw[<-fr b hb (c.testBit p)]
  refine free_eq ps (fun q hq=>hf q (List.mem_cons_of_mem _ hq)) (yU hb pn) hc fun i hi=>?_
  rw[zT]
  by_cases e:i=p
  ·rw[if_pos e,e]
  ·rw[if_neg e]; exact h i fun y=>(List.mem_cons.mp y).elim e hi
section
variable (ho:yZ os) (hW:z9 os)
include ho hW
theorem zeq:(yK os).Nodup:=by
 have e:(prs.map (·.1)).Nodup:=by decide +kernel
 exact List.Nodup.sublist (List.Sublist.map _ (List.filter_sublist)) e
theorem zaV:(zO os).Nodup:=by
 unfold zO
 refine List.pairwise_map.mpr ((zeq ho hW).imp_of_mem fun {a b} ha hb ne e=>ne ?_)
 exact ix_inj' (Xf ha).1 (Xf hb).1 e
theorem mvT (b:Nat):(∀x∈(zG os).zip (zO os),(mv ((zG os).zip (zO os)) b).testBit x.1=b.testBit x.2)/\∀i,i∉zG os->(mv ((zG os).zip (zO os)) b).testBit i=b.testBit i:=by
 have e1:((zG os).zip (zO os)).map (·.1)=zG os:=List.map_fst_zip (by unfold zG zO; rw[List.length_map,List.length_map,hW.len]; exact Nat.le_refl _)
 have z:=Mx ((zG os).zip (zO os)) b (by rw[e1]; exact zda ho) fun x hx y hy=>vB ho (List.of_mem_zip hx).2 (List.of_mem_zip hy).1
 rw[e1] at z
 exact z
theorem mvN (b:Nat):(∀x∈(zO os).zip (zG os),(mv ((zO os).zip (zG os)) b).testBit x.1=b.testBit x.2)/\∀i,i∉zO os->(mv ((zO os).zip (zG os)) b).testBit i=b.testBit i:=by
 have e1:((zO os).zip (zG os)).map (·.1)=zO os:=List.map_fst_zip (by unfold zG zO; rw[List.length_map,List.length_map,hW.len]; exact Nat.le_refl _)
 have z:=Mx ((zO os).zip (zG os)) b (by rw[e1]; exact zaV ho hW) fun x hx y hy=>Ne.symm (vB ho (List.of_mem_zip hy).1 (List.of_mem_zip hx).2)
 rw[e1] at z
 exact z
theorem zdd {i:Nat} (h:i∈zG os):∃j,(i,j)∈(zG os).zip (zO os):=by
 obtain⟨m,hm,e⟩:=List.mem_iff_getElem.mp h
 have l:m<(zO os).length:=by
  have:(zO os).length=(zG os).length:=by unfold zG zO; rw[List.length_map,List.length_map,hW.len]
  omega
 refine⟨(zO os)[m],List.mem_iff_getElem.mpr ⟨m,by rw[List.length_zip]; omega,?_⟩⟩
 rw[List.getElem_zip,e]
theorem zer {i:Nat} (h:i∈zO os):∃j,(i,j)∈(zO os).zip (zG os):=by
 obtain⟨m,hm,e⟩:=List.mem_iff_getElem.mp h
 have l:m<(zG os).length:=by
  have:(zO os).length=(zG os).length:=by unfold zG zO; rw[List.length_map,List.length_map,hW.len]
  omega
 refine⟨(zG os)[m],List.mem_iff_getElem.mpr ⟨m,by rw[List.length_zip]; omega,?_⟩⟩
 rw[List.getElem_zip,e]
theorem SJ {i j:Nat}:(i,j)∈(zG os).zip (zO os)↔(j,i)∈(zO os).zip (zG os):=by
 constructor
 ·intro h
  obtain⟨m,hm,e⟩:=List.mem_iff_getElem.mp h
  rw[List.length_zip] at hm
  rw[List.getElem_zip,Prod.mk.injEq] at e
  refine List.mem_iff_getElem.mpr ⟨m,by rw[List.length_zip]; omega,?_⟩
  rw[List.getElem_zip,e.1,e.2]
 ·intro h
  obtain⟨m,hm,e⟩:=List.mem_iff_getElem.mp h
  rw[List.length_zip] at hm
  rw[List.getElem_zip,Prod.mk.injEq] at e
  refine List.mem_iff_getElem.mpr ⟨m,by rw[List.length_zip]; omega,?_⟩
  rw[List.getElem_zip,e.1,e.2]
theorem zes {t f g:Nat->Bool} (hf:∀p∈zG os,Free os.length f p) (hg:∀p∈zG os,Free os.length g p):(∃b,b<2^os.length/\wQ os t f b=true/\g b=true)↔∃b,b<2^os.length/\f b=true/\xu os t g b=true:=by
 have hf':∀p∈zG os,p<os.length/\Free os.length f p:=fun p hp=>⟨wJ p hp,hf p hp⟩
 have hg':∀p∈zG os,p<os.length/\Free os.length g p:=fun p hp=>⟨wJ p hp,hg p hp⟩
 constructor
 ·rintro⟨b,hb,ha,gb⟩
  obtain⟨d,h1,fd,td⟩:=(Ql _ _ _).mp ha
  obtain⟨m1,m2⟩:=mvT ho hW b
  obtain⟨k1,k2⟩:=mvN ho hW d
  have dl:d<2^os.length:=Zb fun i hi=>by
   have a1:i∉zO os:=fun z=>by have:=vq i z; omega
   have a2:i∉zG os:=fun z=>by have:=wJ i z; omega
   rw[h1 i a1,m2 i a2]; exact z8 hb hi
  have ml:mv ((zO os).zip (zG os)) d<2^os.length:=Zb fun i hi=>by
   have a1:i∉zO os:=fun z=>by have:=vq i z; omega
   rw[k2 i a1]; exact z8 dl hi
  refine⟨d,dl,fd,(W7 _ _ _).mpr ⟨d,fun _ _=>rfl,?_,td⟩⟩
  rw[free_eq (zG os) hg' ml hb fun i hi=>?_]
  ·exact gb
  by_cases c:i∈zO os
  ·obtain⟨j,hj⟩:=zer ho hW c
   rw[k1 _ hj]
   have tj:=(List.of_mem_zip hj).2
   have nj:j∉zO os:=fun z=>vB ho z tj rfl
   show d.testBit j=b.testBit i
   rw[h1 j nj,m1 _ ((SJ ho hW).mpr hj)]
  ·rw[k2 i c,h1 i c,m2 i hi]
 ·rintro⟨c,hc,fc,hb⟩
  obtain⟨e,h1,ge,te⟩:=(W7 _ _ _).mp hb
  obtain⟨k1,k2⟩:=mvN ho hW e
  have el:e<2^os.length:=Zb fun i hi=>by
   have a2:i∉zG os:=fun z=>by have:=wJ i z; omega
   rw[h1 i a2]; exact z8 hc hi
  have ml:mv ((zO os).zip (zG os)) e<2^os.length:=Zb fun i hi=>by
   have a1:i∉zO os:=fun z=>by have:=vq i z; omega
   rw[k2 i a1]; exact z8 el hi
  obtain⟨m1,m2⟩:=mvT ho hW (mv ((zO os).zip (zG os)) e)
  refine⟨_,ml,(Ql _ _ _).mpr ⟨e,fun i hi=>?_,?_,te⟩,ge⟩
  ·by_cases z:i∈zG os
   ·obtain⟨j,hj⟩:=zdd ho hW z
    rw[m1 _ hj]
    show e.testBit i=_
    rw[k1 _ ((SJ ho hW).mp hj)]
   ·rw[m2 i z,k2 i hi]
  ·rw[free_eq (zG os) hf' el hc h1]; exact fc
end
theorem zde (t f:Nat->Bool):∀p∈zG os,Free os.length (xu os t f) p:=by
 intro p hp b hb v
 have key:∀{x y:Nat},(∀i,i≠p->x.testBit i=y.testBit i)->xu os t f x=true->xu os t f y=true:=fun {x y} h e=>by
  obtain⟨z,h1,h2⟩:=(W7 _ _ _).mp e
  exact(W7 _ _ _).mpr ⟨z,fun i hi=>by rw[h1 i hi]; exact h i fun q=>hi (by rw[q]; exact hp),h2⟩
 rw[Bool.eq_iff_iff]
 constructor
 ·exact key fun i hi=>by rw[zT,if_neg hi]
 ·exact key fun i hi=>by rw[zT,if_neg hi]
variable {t:Nat->Bool}
theorem Zq.told {f:Nat->Bool} {Ns:List Nat} (h:Zq os t f Ns):∀i,i<=Ns.length->zL os.length (Ns.take i).sum (rnd os t f i).2
 | 0,_=>fun b=>by
  show Nat.testBit 0 b=(_&&false)
  rw[Nat.zero_testBit,Bool.and_false]
 | i+1,hi=>by
  have ih:=Zq.told h i (by omega)
  have e:Ns[i]?=some Ns[i]:=List.getElem?_eq_getElem (by omega)
  obtain⟨tb,_⟩:=h.tab i _ e
  rw[List.take_succ_eq_append_getElem (by omega),List.sum_append]
  have z:(Ns.take i).sum&&&Ns[i]=0:=Za fun b=>by
   rw[Nat.testBit_and,ih b,tb b,Nat.zero_testBit]
   cases c:(rnd os t f i).1 b with
   | false=>rw[Bool.and_false,Bool.and_false]
   | true=>rw[zbA f i b c,Bool.and_false,Bool.false_and]
  rw[show [Ns[i]].sum=Ns[i] by simp,ziQ _ _ z]
  exact zc8 ih tb
theorem Zq.sum {f:Nat->Bool} {Ns:List Nat} (h:Zq os t f Ns):zL os.length Ns.sum (rnd os t f Ns.length).2:=by
 have z:=h.told Ns.length (Nat.le_refl _)
 rwa [List.take_length] at z
theorem bef_mono' (ho:yZ os) (hW:z9 os) {f g:Nat->Bool} {b:Nat} (hb:b<2^os.length) (h:∀c,c<2^os.length->f c=true->g c=true) (e:xu os t f b=true):xu os t g b=true:=by
 obtain⟨x,h1,h2,h3⟩:=(W7 _ _ _).mp e
 have xl:x<2^os.length:=Zb fun i hi=>by
  have a2:i∉zG os:=fun z=>by have:=wJ i z; omega
  rw[h1 i a2]; exact z8 hb hi
 have ml:mv ((zO os).zip (zG os)) x<2^os.length:=Zb fun i hi=>by
  have a1:i∉zO os:=fun z=>by have:=vq i z; omega
  rw[(mvN ho hW x).2 i a1]; exact z8 xl hi
 exact(W7 _ _ _).mpr ⟨x,h1,h _ ml h2,h3⟩
theorem UG {n N M:Nat} {f g:Nat->Bool} (a:zL n N f) (b:zL n M g):zL n (N&&&M) fun c=>f c&&g c:=fun c=>by
 rw[Nat.testBit_and,a c,b c]
 cases decide (c<2^n)<;>simp
theorem zh6 {n N M:Nat} {f g:Nat->Bool} (a:zL n N f) (b:zL n M g) (h:N≠M):∃c,c<2^n/\f c≠g c:=by
 refine Classical.byContradiction fun no=>h (Qd a b fun c hc=>?_)
 exact Classical.byContradiction fun e=>no ⟨c,hc,e⟩
theorem ziR {n N:Nat} {f g:Nat->Bool} (a:zL n N f) (b:zL n N g) {c:Nat} (hc:c<2^n):f c=g c:=by
 have x:=a c
 rw[b c,decide_eq_true hc,Bool.true_and,Bool.true_and] at x
 exact x.symm
theorem zbC:∀Ns:List Nat,(Ns.map fun p=>((p:Nat):Int)).sum=((Ns.sum:Nat):Int)
 | []=>rfl
 | n::Ns=>by
  rw[List.map_cons,List.sum_cons,List.sum_cons,zbC Ns]
  rfl
theorem zf8 (Ns:List Nat):zN Ns=(Ns.map fun p=>((p:Nat):Int)).map V.int:=by
 unfold zN
 rw[List.map_map]
 rfl
end
section
variable (C:Addr)
def zbD:Sp:=fun vs H Q _=>∃(b:Addr) (os:List Str) (rs:List Rm) (F:zZ) (k j:Nat),vs=[.ref b,.int (k:Nat),.int (j:Nat)]/\zR C H b os rs F/\rs.length<=8000000/\z9 os/\k<rs.length/\wD os rs j /\
 ∀Ns:List Nat,Zq os (tB rs k) (tB rs j) Ns->Ns.length<=256->Pb C b os H rs F (fun r=>(rnd os (tB rs k) (tB rs j) Ns.length).2 (bits r os.length)) Q
structure Mz (os:List Str) (t f g:Nat->Bool):Prop where
 sub:∀b,b<2^os.length->g b=true->f b=true
 led:∀b,b<2^os.length->g b=true->xu os t g b=true
 fre:∀p∈zG os,Free os.length g p
 top:∀h:Nat->Bool,(∀b,b<2^os.length->h b=true->f b=true/\xu os t h b=true)->∀b,b<2^os.length->h b=true->g b=true
def zet:Sp:=fun vs H Q _=>∃(b:Addr) (os:List Str) (rs:List Rm) (F:zZ) (k j:Nat),vs=[.ref b,.int (k:Nat),.int (j:Nat)]/\zR C H b os rs F/\rs.length<=8000000/\z9 os/\k<rs.length/\wD os rs j /\
 ∀g:Nat->Bool,Mz os (tB rs k) (tB rs j) g->Pb C b os H rs F (fun r=>g (bits r os.length)) Q
end
end Sen
namespace L2
open PySem PySem.W PySem.Spec PyProof.Rows PySem.Calls PyProof.V
def Itv (K:PySem.W.Frag) (a:Addr) (n:Nat):It :=
 ⟨fun i H=>i<n/\∃xs,SqL K H a xs/\xs.length=n,fun i H x H'=>H'=H/\∀xs,SqL K H a xs->xs[n-1-i]?=some x,fun i H=>n<=i⟩
theorem zg3 {P:Program} {w:World} {K:PySem.W.Frag} {tg:Expr} (a it:Addr) (n:Nat):Turn P w K tg (Itv K a n) [it] it (fun i h=>i<=n/\h.IsRevIter it a ((n:Int)-1-(i:Int))) where
 mem:=by simp
 obj:=fun i h st b hb=>by
  have e:b=it:=by simpa using hb
  subst e
  obtain⟨o,e,c,d⟩:=st.2
  exact⟨o,e,fun v z=>by rw[d] at z; cases z⟩
 keep:=fun i h h' st k=>⟨st.1,st.2.at fun o e=>k it (by simp) o e⟩
 item:=by
  intro X hP hw hK hc i pins s σ H E I hf st hg
  subst hP hw hK
  obtain⟨hi,xs,hq,hn⟩:=hg
  obtain⟨its,rv,p,hz⟩:=I.list hq
  have hx:xs[n-1-i]?=some (xs[n-1-i]'(by omega)):=List.getElem?_eq_getElem (by omega)
  obtain⟨u,hu,ru⟩:=rv.get hx
  obtain⟨f0,f1,f2,f3,f4,f5⟩:=hf it (by simp)
  have e:(n:Int)-1-(i:Int)=((n-1-i:Nat):Int):=by omega
  have st2:=st.2
  rw[e] at st2
  refine wpAny_pyNext_rev_item st2 p.isList (x:=u) (by simpa using hu) fun h' st' sb=>?_
  have I1:Inv X pins σ H { s with heap:=h' }:=I.turned (t':=s.toks) (fun b o hb e=>(sb.2 b hb).trans e) f0 f1 f3 f4 f5
  have e2:((n-1-i:Nat):Int)-1=(n:Int)-1-((i+1:Nat):Int):=by omega
  rw[e2] at st'
  obtain⟨o,e,c,d⟩:=id st'
  exact⟨u,rfl,JK (s:={ s with heap:=h' }) e c d (by decide) ⟨_,H,I1,ru,⟨rfl,fun ys hy=>by rw[I.list_inj hy hq]; exact hx⟩,⟨hi,st'⟩,fun b hb=>(hf b hb).1⟩⟩
 done:=by
  intro X hP hw hK hc i pins s σ H E I hf st hg
  subst hP hw hK
  obtain⟨f0,f1,f2,f3,f4,f5⟩:=hf it (by simp)
  have hg:n<=i:=hg
  have e:(n:Int)-1-(i:Int)=-1:=by have:=st.1; omega
  have st2:=st.2
  rw[e] at st2
  exact wpAny_pyNext_rev_end (I.ok.hd hc) st2 fun h' eb=>⟨rfl,I.turned (t':=s.toks) (fun b o hb e=>eb b o hb e) f0 f1 f3 f4 f5⟩
 self:=fun _ _ _ _ _ st h=>wpAny_pyIter_revIter st.2 h
section
variable {X:Cx} {tg:Expr}
def zjR (K:PySem.W.Frag) (ta:TA):TI:=fun σ H R=>ta σ H fun vs H1=>∃(a:Addr) (xs:List V),vs=[.ref a]/\SqL K H1 a xs/\R (Itv K a xs.length) H1
theorem ziS {e:Expr} {ta:TA} {p pos:Pos} (hg:Gl X "reversed") (hm:X.mg "reversed"=none) (ha:PA X [e] ta) (hs:starEach [e] X.env=[(false,eval e X.env)]:=by rfl):PI X tg (.Call (.Name "reversed" p) [e] [] pos) (zjR X.K ta):=by
 intro pins s σ H R I h
 refine Call_ (Zy I hg hm (by rfl) (PyProof.Rows.callWith_type1 (thn (ha pos pins s σ H _ I h) fun us s1 ⟨vs,H1,I1,r1,q1⟩=>?_) hs rfl))
 obtain⟨a,xs,e1,hq,q⟩:=q1
 subst e1
 obtain⟨u,rfl,ru⟩:=vals1 r1
 cases ru
 obtain⟨its,rv,pl,hz⟩:=I1.list hq
 have hlen:=rv.length
 refine call_reversed_list pl.isList ?_
 have hit:(s1.heap.push (revObj a ((its.toArray.size:Int)-1))).IsRevIter s1.heap.objs.size a ((its.toArray.size:Int)-1):=⟨_,Heap.get?_push_size _ rfl,rfl,rfl⟩
 refine wpAny_pyIter_revIter (s:={ s1 with heap:=s1.heap.push (revObj a ((its.toArray.size:Int)-1)) }) hit ?_
 refine⟨s1.heap.objs.size,[s1.heap.objs.size],_,_,H1,rfl,I1.kept (t':=s1.toks) fun b o e=>Heap.get?_push_of_some _ e,zg3 a _ xs.length,⟨Nat.zero_le _,?_⟩,fun b hb=>?_,q⟩
 ·have e:((its.toArray.size:Nat):Int)-1=(xs.length:Int)-1-((0:Nat):Int):=by rw[List.size_toArray]; omega
  show(s1.heap.push (revObj a ((its.toArray.size:Int)-1))).IsRevIter s1.heap.objs.size a ((xs.length:Int)-1-((0:Nat):Int))
  rw[<-e]
  exact hit
 ·have e:b=s1.heap.objs.size:=by simpa using hb
  subst e
  exact I1.fpOk (Nat.le_refl _) (I1.hok.fresh (Nat.le_refl _))
end
theorem zh7 {K:PySem.W.Frag} {a:Addr} {xs:List V} {g:TG} {tb:TS} {D:Ends} {σ:St} {H:Hp} (Pv:Nat->St->Hp->Prop) (h0:Pv 0 σ H) (hl:∀i σ H,i<=xs.length->Pv i σ H->SqL K H a xs)
  (hs:∀i x σ H,i<xs.length->xs[xs.length-1-i]?=some x->Pv i σ H->g x σ H fun σ2 H2=>tb { D with nx:=Pv (i+1),ct:=Pv (i+1),bk:=D.nx } σ2 H2) (hd:∀ σ H,Pv xs.length σ H->D.nx σ H) :
  ∃W:Nat->Nat->St->Hp->Prop,(∃m,W 0 m σ H)/\∀i m σ H,W i m σ H ->
   ((Itv K a xs.length).stop i H/\D.nx σ H)\/((Itv K a xs.length).go i H/\∃N:St->Hp->Prop,(∀ σ' H',N σ' H'->∃m',m'<m/\W (i+1) m' σ' H')/\∀x H',(Itv K a xs.length).yld i H x H'->g x σ H' fun σ2 H2=>tb { D with nx:=N,ct:=N,bk:=D.nx } σ2 H2):=by
 refine⟨fun i m σ H=>m=xs.length-i/\i<=xs.length/\Pv i σ H,⟨xs.length,by simp,Nat.zero_le _,h0⟩,?_⟩
 rintro i m σ H ⟨rfl,hi,p⟩
 have q:=hl i σ H hi p
 by_cases hlt:i<xs.length
 ·refine .inr ⟨⟨hlt,xs,q,rfl⟩,Pv (i+1),fun σ' H' p'=>⟨xs.length-(i+1),by omega,rfl,hlt,p'⟩,fun x H' y=>?_⟩
  obtain⟨e,y⟩:=y
  subst e
  exact hs i x σ _ hlt (y xs q) p
 ·have e:i=xs.length:=by omega
  subst e
  exact .inl ⟨Nat.le_refl _,hd σ H p⟩
end L2
namespace Sen
open PySem L2 Bdd
def hav (l:List (Nat×Bool)) (b:Nat):Bool:=l.all fun x=>b.testBit x.1==x.2
def Ys (os:List Str) (t:Nat->Bool):List (Nat->Bool)->List Bool->List (List Bool)
 | [],r=>[r]
 | f::fs,r=>r::Ys os t fs (fvP os.length (fun b=>f b&&xu os t (hav ((zO os).zip r)) b) (zO os))
theorem Jp (os:List Str) (t:Nat->Bool):∀(fs:List (Nat->Bool)) (r:List Bool),(Ys os t fs r).length=fs.length+1
 | [],_=>rfl
 | f::fs,r=>by
  show(Ys os t fs _).length+1=_
  rw[Jp os t fs]; rfl
theorem Qm (n:Nat):∀(f:Nat->Bool) (ps:List Nat),(fvP n f ps).length=ps.length
 | _,[]=>rfl
 | f,p::ps=>by
  show(fvP n _ ps).length+1=_
  rw[Qm n _ ps]; rfl
theorem zf9 {α β:Type} {R:α->β->Prop}:∀{xs:List α} {ys:List β},Paired R xs ys->Paired R xs.reverse ys.reverse
 | _,_,.nil=>.nil
 | _,_,.cons h hs=>by
  rw[List.reverse_cons,List.reverse_cons]
  exact YF (zf9 hs) (.cons h .nil)
section
variable (C:Addr) (K:PySem.W.Frag)
def MF:Sp:=fun vs H Q _=>∃(pl rl:Addr) (n:Nat) (ps:List Nat) (r:List Bool),vs=[.ref pl,.ref rl,.int (n:Nat)]/\n<=8/\SqL K H pl (zN ps)/\SqL K H rl (Xc r)/\(∀p∈ps,p<n)/\ps.length=r.length/\ps.length<=8/\∀(R:Nat) (H':Hp),Same H H'->zL n R (hav (ps.zip r))->Q (.int (R:Nat)) H'
def zaj:Sp:=fun vs H Q _=>∃(b:Addr) (os:List Str) (rs:List Rm) (F:zZ) (N:Nat) (f:Nat->Bool),vs=[.ref b,.int (N:Nat)]/\zR C H b os rs F/\zL os.length N f/\∀(l:Addr) (H':Hp),Same H H'->H l=none->H' l=some (.lst (Xc (fvP os.length f (zO os))))->Q (.ref l) H'
def zdf:Sp:=fun vs H Q _=>∃(b rl:Addr) (os:List Str) (rs:List Rm) (F:zZ) (r:List Bool),vs=[.ref b,.ref rl]/\zR C H b os rs F/\SqL K H rl (Xc r)/\(zO os).length=r.length/\∀(R:Nat) (H':Hp),Same H H'->zL os.length R (hav ((zO os).zip r))->Q (.int (R:Nat)) H'
def SM (H:Hp) (p:Addr) (r:List Bool):Prop:=H p=some (.lst (Xc r))
def MJ:Sp:=fun vs H Q _=>∃(b al:Addr) (os:List Str) (rs:List Rm) (F:zZ) (k N:Nat) (Ns:List Nat) (f:Nat->Bool) (fs:List (Nat->Bool)),vs=[.ref b,.int (k:Nat),.ref al,.int (N:Nat)]/\zR C H b os rs F/\z9 os/\k<rs.length/\SqL K H al (zN Ns)/\Ns.length<=256/\Paired (zL os.length) Ns fs/\zL os.length N f /\
 ∀(l:Addr) (H':Hp) (qs:List Addr),Same H H'->H l=none->H' l=some (.lst (qs.map V.ref))->Paired (SM H') qs (Ys os (tB rs k) fs.reverse (fvP os.length f (zO os))).reverse->Q (.ref l) H'
def Meet (os:List Str) (t f g:Nat->Bool) (i:Nat):Prop:=(∃b,b<2^os.length/\(rnd os t f i).1 b=true/\g b=true)/\∀j,j<i->∀b,b<2^os.length->(rnd os t f j).1 b=true->g b=false
def zeu:Sp:=fun vs H Q _=>∃(b:Addr) (os:List Str) (rs:List Rm) (F:zZ) (k i j:Nat),vs=[.ref b,.int (k:Nat),.int (i:Nat),.int (j:Nat)]/\zR C H b os rs F/\z9 os/\k<rs.length/\wD os rs i/\wD os rs j /\
 (∀(H':Hp) (Ns:List Nat),Same H H'->Zq os (tB rs k) (tB rs i) Ns->(∀m,m<Ns.length->∀b,b<2^os.length->(rnd os (tB rs k) (tB rs i) m).1 b=true->tB rs j b=false)->Q .non H') /\
 ∀(l:Addr) (H':Hp) (qs:List Addr) (Ns:List Nat) (m:Nat),Same H H'->H l=none->H' l=some (.lst (qs.map V.ref))->Zq os (tB rs k) (tB rs i) Ns->m<Ns.length->Meet os (tB rs k) (tB rs i) (tB rs j) m ->
  Paired (SM H') qs (Ys os (tB rs k) ((List.range m).map fun d=>(rnd os (tB rs k) (tB rs i) d).1).reverse (fvP os.length (fun b=>(rnd os (tB rs k) (tB rs i) m).1 b&&tB rs j b) (zO os))).reverse->Q (.ref l) H'
end
end Sen
namespace Sen
open PySem L2 Bdd
def RB (os:List Str) (rs:List Rm) (m:Nat) (h:Nat->Bool):Prop:=m<rs.length/\∀b,b<2^os.length->tB rs m b=h b
section
variable {os:List Str} {rs rs':List Rm} {k l i j:Nat} {f g h h' t t':Nat->Bool}
theorem RB.grown (B:Bk os.length rs) (gr:xr rs rs') (x:RB os rs k h):RB os rs' k h:=⟨Nat.lt_of_lt_of_le x.1 gr.len,fun b hb=>by rw[yV B gr x.1]; exact x.2 b hb⟩
theorem RB.means (m:Means rs k fun r=>h (bits r os.length)):RB os rs k h:=⟨m.1,fun b hb=>by
 show yes rs k (xg b)=h b
 rw[m.2]
 show h (bits (xg b) os.length)=h b
 rw[Zf hb]⟩
theorem RB.one (B:Bk os.length rs) (x:RB os rs k h) (y:RB os rs l h') (e:∀b,b<2^os.length->h b=h' b):k=l:=by
 refine Zn B (max k l) k l ⟨Nat.le_max_left _ _,Nat.le_max_right _ _⟩ x.1 y.1 fun r=>?_
 rw[<-Sh B x.1,<-Sh B y.1]
 have a:=x.2 _ (Bdd.z8 r os.length)
 have b:=y.2 _ (Bdd.z8 r os.length)
 rw[e _ (Bdd.z8 r os.length)] at a
 exact a.trans b.symm
section
variable (ho:yZ os) (hW:z9 os)
include ho hW
theorem aft_mono' {b:Nat} (hb:b<2^os.length) (hf:∀c,c<2^os.length->f c=true->g c=true) (ht:∀c,c<2^os.length->t c=true->t' c=true) (e:wQ os t f b=true):wQ os t' g b=true:=by
 obtain⟨d,h1,fd,td⟩:=(Ql _ _ _).mp e
 have dl:d<2^os.length:=Zb fun i hi=>by
  have a1:i∉zO os:=fun z=>by have:=vq i z; omega
  have a2:i∉zG os:=fun z=>by have:=wJ i z; omega
  rw[h1 i a1,(mvT ho hW b).2 i a2]; exact z8 hb hi
 exact(Ql _ _ _).mpr ⟨d,h1,hf d dl fd,ht d dl td⟩
theorem zbE {b:Nat} (hb:b<2^os.length) (hf:∀c,c<2^os.length->f c=g c) (ht:∀c,c<2^os.length->t c=t' c):wQ os t f b=wQ os t' g b:=by
 rw[Bool.eq_iff_iff]
 exact⟨aft_mono' ho hW hb (fun c hc e=>by rw[<-hf c hc]; exact e) (fun c hc e=>by rw[<-ht c hc]; exact e),aft_mono' ho hW hb (fun c hc e=>by rw[hf c hc]; exact e) (fun c hc e=>by rw[ht c hc]; exact e)⟩
theorem zga {b:Nat} (hb:b<2^os.length) (hf:∀c,c<2^os.length->f c=g c):xu os t f b=xu os t g b:=by
 rw[Bool.eq_iff_iff]
 exact⟨bef_mono' ho hW hb fun c hc e=>by rw[<-hf c hc]; exact e,bef_mono' ho hW hb fun c hc e=>by rw[hf c hc]; exact e⟩
end
end
section
variable (C:Addr)
end
section
variable {C:Addr} {K:PySem.W.Frag} {sc:Addr} {ns:List Int} {H1:Hp} {ol bk:Addr} {os:List Str} {m n:Nat} {H H':Hp} {rs rs':List Rm} {F:zZ} {k0 k1 k2:Nat} {t f g:Nat->Bool}
end
theorem zg4 {m:Nat}:(V.int (m:Nat)=V.int 0)↔m=0:=⟨fun e=>by injection e; omega,fun e=>by rw[e]; rfl⟩
end Sen
namespace Sen
open PySem L2 Bdd
section
variable {os:List Str} {t f:Nat->Bool}
theorem zew {x:Str} (h:x∈yN):∃i,i<4/\(x=yq i\/x=wj i):=by
 have key:∀x∈yN,(List.range 4).any (fun i=>decide (x=yq i)||decide (x=wj i))=true:=by decide +kernel
 obtain⟨i,hi,e⟩:=List.any_eq_true.mp (key x h)
 refine⟨i,List.mem_range.mp hi,?_⟩
 rcases (Bool.or_eq_true _ _).mp e with z | z
 ·exact .inl (of_decide_eq_true z)
 ·exact .inr (of_decide_eq_true z)
theorem Zr (hW:z9 os) {i:Nat} (hi:i<4):yq i∈os↔wj i∈os:=by
 have h:=hW (yq i,wj i) (List.mem_of_getElem? (Sx hi))
 dsimp only at h
 rw[contains_iff,contains_iff] at h
 exact decide_eq_decide.mp h
theorem zex (hW:z9 os):(zG os).zip (zO os)=(prs.filter fun p=>os.contains p.1).map fun p=>(ix os p.2,ix os p.1):=by
 have e:(prs.filter fun p=>os.contains p.2)=prs.filter fun p=>os.contains p.1:=List.filter_congr fun p hp=>by rw[hW p hp]
 unfold zG zO wX yK
 rw[e,List.map_map,List.map_map,List.zip_map']
 rfl
theorem zdg (hW:z9 os) {i:Nat} (hi:i<4) (h:yq i∈os):(ix os (wj i),ix os (yq i))∈(zG os).zip (zO os):=by
 rw[zex hW]
 refine List.mem_map.mpr ⟨(yq i,wj i),List.mem_filter.mpr ⟨List.mem_of_getElem? (Sx hi),?_⟩,rfl⟩
 show os.contains (yq i)=true
 rw[contains_iff]; exact decide_eq_true h
theorem zgb (hW:z9 os) {x y:Nat} (h:(x,y)∈(zG os).zip (zO os)):∃i,i<4/\yq i∈os/\x=ix os (wj i)/\y=ix os (yq i):=by
 rw[zex hW] at h
 obtain⟨p,hp,e⟩:=List.mem_map.mp h
 obtain⟨h1,h2⟩:=List.mem_filter.mp hp
 obtain⟨i,hi,rfl⟩:=Lp h1
 rw[Prod.mk.injEq] at e
 rw[contains_iff] at h2
 exact⟨i,hi,of_decide_eq_true h2,e.1.symm,e.2.symm⟩
theorem Pj (ho:yZ os) {i:Nat} (hi:i<os.length):i∈zO os\/i∈zG os:=by
 have hx:os[i]?=some os[i]:=List.getElem?_eq_getElem hi
 have mx:os[i]∈os:=List.getElem_mem hi
 have ei:=Lk ho.nd hx
 obtain⟨j,hj,e⟩:=zew (ho.mem _ mx)
 rcases e with e | e
 ·left
  refine List.mem_map.mpr ⟨os[i],?_,ei⟩
  rw[e] at mx ⊢
  unfold yK
  refine List.mem_map.mpr ⟨(yq j,wj j),List.mem_filter.mpr ⟨List.mem_of_getElem? (Sx hj),?_⟩,rfl⟩
  show os.contains (yq j)=true
  rw[contains_iff]; exact decide_eq_true mx
 ·right
  refine List.mem_map.mpr ⟨os[i],?_,ei⟩
  rw[e] at mx ⊢
  unfold wX
  refine List.mem_map.mpr ⟨(yq j,wj j),List.mem_filter.mpr ⟨List.mem_of_getElem? (Sx hj),?_⟩,rfl⟩
  show os.contains (wj j)=true
  rw[contains_iff]; exact decide_eq_true mx
theorem zey (ho:yZ os) (hW:z9 os) {b:Nat} (hb:b<2^os.length):wQ os t f b=true↔∃d,d<2^os.length/\(∀i,i<4->yq i∈os->d.testBit (ix os (wj i))=b.testBit (ix os (yq i)))/\f d=true/\t d=true:=by
 rw[Ql]
 obtain⟨m1,m2⟩:=mvT ho hW b
 constructor
 ·rintro⟨d,h1,fd,td⟩
  refine⟨d,Zb fun i hi=>?_,fun i hi hn=>?_,fd,td⟩
  ·have a1:i∉zO os:=fun z=>by have:=vq i z; omega
   have a2:i∉zG os:=fun z=>by have:=wJ i z; omega
   rw[h1 i a1,m2 i a2]; exact z8 hb hi
  ·have z:=zdg hW hi hn
   have tj:=(List.of_mem_zip z).1
   rw[h1 _ fun y=>vB ho y tj rfl]
   exact m1 _ z
 ·rintro⟨d,dl,h1,fd,td⟩
  refine⟨d,fun i hi=>?_,fd,td⟩
  by_cases c:i∈zG os
  ·obtain⟨j,hj⟩:=zdd ho hW c
   obtain⟨e,he,hn,rfl,rfl⟩:=zgb hW hj
   rw[h1 e he hn]
   exact(m1 _ hj).symm
  ·rw[m2 i c]
   rcases Nat.lt_or_ge i os.length with z | z
   ·rcases Pj ho z with y | y
    ·exact absurd y hi
    ·exact absurd y c
   ·rw[z8 dl z,z8 hb z]
theorem zaW (ho:yZ os) (hW:z9 os) (hf:∀p∈zG os,Free os.length f p) {b:Nat} (hb:b<2^os.length):xu os t f b=true↔∃d c,d<2^os.length/\c<2^os.length/\(∀i,i<4->yq i∈os->d.testBit (ix os (yq i))=b.testBit (ix os (yq i))/\c.testBit (ix os (yq i))=d.testBit (ix os (wj i)))/\f c=true/\t d=true:=by
 rw[W7]
 have hf':∀p∈zG os,p<os.length/\Free os.length f p:=fun p hp=>⟨wJ p hp,hf p hp⟩
 constructor
 ·rintro⟨d,h1,fd,td⟩
  have dl:d<2^os.length:=Zb fun i hi=>by
   have a2:i∉zG os:=fun z=>by have:=wJ i z; omega
   rw[h1 i a2]; exact z8 hb hi
  have ml:mv ((zO os).zip (zG os)) d<2^os.length:=Zb fun i hi=>by
   have a1:i∉zO os:=fun z=>by have:=vq i z; omega
   rw[(mvN ho hW d).2 i a1]; exact z8 dl hi
  refine⟨d,_,dl,ml,fun i hi hn=>?_,fd,td⟩
  have z:=zdg hW hi hn
  exact⟨h1 _ fun y=>vB ho (List.of_mem_zip z).2 y rfl,(mvN ho hW d).1 _ ((SJ ho hW).mp z)⟩
 ·rintro⟨d,c,dl,cl,h1,fc,td⟩
  have ml:mv ((zO os).zip (zG os)) d<2^os.length:=Zb fun i hi=>by
   have a1:i∉zO os:=fun z=>by have:=vq i z; omega
   rw[(mvN ho hW d).2 i a1]; exact z8 dl hi
  have now:∀{i:Nat},i∈zO os->∃j,j<4/\yq j∈os/\i=ix os (yq j):=fun {i} hi=>by
   obtain⟨y,hy⟩:=zer ho hW hi
   obtain⟨e,he,hn,_,e2⟩:=zgb hW ((SJ ho hW).mpr hy)
   exact⟨e,he,hn,e2⟩
  refine⟨d,fun i hi=>?_,?_,td⟩
  ·rcases Nat.lt_or_ge i os.length with z | z
   ·rcases Pj ho z with y | y
    ·obtain⟨j,hj,hn,rfl⟩:=now y
     exact(h1 j hj hn).1
    ·exact absurd y hi
   ·rw[z8 dl z,z8 hb z]
  ·rw[free_eq (zG os) hf' ml cl fun i hi=>?_]
   ·exact fc
   rcases Nat.lt_or_ge i os.length with z | z
   ·rcases Pj ho z with y | y
    ·obtain⟨j,hj,hn,rfl⟩:=now y
     rw[(mvN ho hW d).1 _ ((SJ ho hW).mp (zdg hW hj hn)),(h1 j hj hn).2]
    ·exact absurd y hi
   ·rw[z8 ml z,z8 cl z]
end
end Sen
namespace Sen
open PySem L2 Bdd
def tw (os ps:List Str) (b:Nat):Nat:=bits (trn os ps (xg b)) os.length
section
variable {os ps:List Str} {t f:Nat->Bool}
theorem xW (b:Nat):tw os ps b<2^os.length:=Bdd.z8 _ _
theorem vJ {b:Nat} {x:Str} (hx:x∈os):(tw os ps b).testBit (ix os x)=b.testBit (ix ps x):=by
 obtain⟨_,h1,h2⟩:=wU hx
 unfold tw
 rw[Bdd.tE _ h1]
 unfold trn xg
 rw[List.getD_eq_getElem?_getD,h2]
 rfl
theorem Xr (hm:Marks os ps) (h2:yZ ps) {b:Nat} (hb:b<2^ps.length):tw ps os (tw os ps b)=b:=by
 refine Za fun i=>?_
 rcases Nat.lt_or_ge i ps.length with z | z
 ·have hx:ps[i]?=some ps[i]:=List.getElem?_eq_getElem z
  have mx:ps[i]∈ps:=List.getElem_mem z
  have ei:=Lk h2.nd hx
  have a:=vJ (os:=ps) (ps:=os) (b:=tw os ps b) mx
  have c:=vJ (os:=os) (ps:=ps) (b:=b) ((hm.mem _).mpr mx)
  rw[ei] at a c
  exact a.trans c
 ·rw[z8 (xW _) z,z8 hb z]
theorem Marks.symm' (hm:Marks os ps):Marks ps os:=⟨fun x=>(hm.mem x).symm,hm.len.symm⟩
section
variable (h1:yZ os) (h2:yZ ps) (hm:Marks os ps) (w1:z9 os) (w2:z9 ps)
include h1 h2 hm w1 w2
theorem zdh {b:Nat} (hb:b<2^ps.length):wQ ps (fun c=>t (tw os ps c)) (fun c=>f (tw os ps c)) b=wQ os t f (tw os ps b):=by
 rw[Bool.eq_iff_iff,zey h2 w2 hb,zey h1 w1 (xW b)]
 constructor
 ·rintro⟨d,dl,e,fd,td⟩
  refine⟨tw os ps d,xW d,fun i hi hn=>?_,fd,td⟩
  rw[vJ ((Zr w1 hi).mp hn),vJ hn]
  exact e i hi ((hm.mem _).mp hn)
 ·rintro⟨d,dl,e,fd,td⟩
  have k:=Xr hm.symm' h1 dl
  refine⟨tw ps os d,xW d,fun i hi hn=>?_,by rw[k]; exact fd,by rw[k]; exact td⟩
  have hn':=(hm.mem _).mpr hn
  rw[vJ ((Zr w2 hi).mp hn),e i hi hn',vJ hn']
theorem zgc (hf:∀p∈zG os,Free os.length f p) (hf':∀p∈zG ps,Free ps.length (fun c=>f (tw os ps c)) p) {b:Nat} (hb:b<2^ps.length):xu ps (fun c=>t (tw os ps c)) (fun c=>f (tw os ps c)) b=xu os t f (tw os ps b):=by
 rw[Bool.eq_iff_iff,zaW h2 w2 hf' hb,zaW h1 w1 hf (xW b)]
 constructor
 ·rintro⟨d,c,dl,cl,e,fc,td⟩
  refine⟨tw os ps d,tw os ps c,xW d,xW c,fun i hi hn=>?_,fc,td⟩
  obtain⟨x,y⟩:=e i hi ((hm.mem _).mp hn)
  rw[vJ hn,vJ hn,vJ hn,vJ ((Zr w1 hi).mp hn)]
  exact⟨x,y⟩
 ·rintro⟨d,c,dl,cl,e,fc,td⟩
  have k:=Xr hm.symm' h1 dl
  have k':=Xr hm.symm' h1 cl
  refine⟨tw ps os d,tw ps os c,xW d,xW c,fun i hi hn=>?_,by rw[k']; exact fc,by rw[k]; exact td⟩
  have hn':=(hm.mem _).mpr hn
  obtain⟨x,y⟩:=e i hi hn'
  rw[vJ hn'] at x
  rw[vJ hn,vJ hn,vJ ((Zr w2 hi).mp hn)]
  exact⟨x,y⟩
theorem Wq:∀(i:Nat) {b:Nat},b<2^ps.length->(rnd ps (fun c=>t (tw os ps c)) (fun c=>f (tw os ps c)) i).1 b=(rnd os t f i).1 (tw os ps b)/\(rnd ps (fun c=>t (tw os ps c)) (fun c=>f (tw os ps c)) i).2 b=(rnd os t f i).2 (tw os ps b)
 | 0,b,_=>⟨rfl,rfl⟩
 | i+1,b,hb=>by
  obtain⟨e1,e2⟩:=Wq i hb
  have e3:wQ ps (fun c=>t (tw os ps c)) (rnd ps (fun c=>t (tw os ps c)) (fun c=>f (tw os ps c)) i).1 b=wQ os t (rnd os t f i).1 (tw os ps b):=by
   rw[<-zdh h1 h2 hm w1 w2 hb]
   exact zbE h2 w2 hb (fun c hc=>(Wq i hc).1) fun _ _=>rfl
  constructor
  ·show(wQ ps _ _ b&&!(_||_))=(wQ os t _ (tw os ps b)&&!(_||_))
   rw[e3,e1,e2]
  ·show(_||_)=(_||_)
   rw[e1,e2]
end
end
end Sen
namespace Sen
open PySem L2 Bdd
theorem zdi {n:Nat}:∀(ps:List Nat) (f:Nat->Bool),ps.Nodup->(∀p∈ps,p<n)->(∃b,b<2^n/\f b=true)->∃b,b<2^n/\f b=true/\hav (ps.zip (fvP n f ps)) b=true
 | [],f,_,_,⟨b,hb,e⟩=>⟨b,hb,e,rfl⟩
 | p::ps,f,nd,hp,⟨b,hb,e⟩=>by
  rw[List.nodup_cons] at nd
  have pn:=hp p List.mem_cons_self
  have go:∀v,(!anyB n fun b=>f (zE b p false))=v->∃b,b<2^n/\f b=true/\hav ((p,v)::ps.zip (fvP n (fun b=>f (zE b p v)) ps)) b=true:=fun v hv=>by
   have ex:∃b,b<2^n/\f (zE b p v)=true:=by
    cases v with
    | false =>
     have z:(anyB n fun b=>f (zE b p false))=true:=by
      cases y:(anyB n fun b=>f (zE b p false)) with
      | true=>rfl
      | false=>rw[y] at hv; cases hv
     exact anyB_iff.mp z
    | true =>
     have z:(anyB n fun b=>f (zE b p false))=false:=by
      cases y:(anyB n fun b=>f (zE b p false)) with
      | false=>rfl
      | true=>rw[y] at hv; cases hv
     cases c:b.testBit p with
     | true =>
      have z2:=Bdd.xM b p
      rw[c] at z2
      exact⟨b,hb,by rw[z2]; exact e⟩
     | false =>
      have y:=anyB_iff.mpr (⟨b,hb,by rw[<-c,Bdd.xM]; exact e⟩:∃b,b<2^n/\f (zE b p false)=true)
      rw[z] at y
      cases y
   obtain⟨d,dl,fd,hd⟩:=zdi ps (fun b=>f (zE b p v)) nd.2 (fun q hq=>hp q (List.mem_cons_of_mem _ hq)) ex
   refine⟨zE d p v,yU dl pn,fd,?_⟩
   unfold hav
   rw[List.all_cons,Bool.and_eq_true]
   constructor
   ·dsimp only
    rw[zT,if_pos rfl]
    exact beq_self_eq_true v
   ·rw[List.all_eq_true]
    intro x hx
    have y:=List.all_eq_true.mp hd x hx
    have xp:x.1≠p:=fun z=>nd.1 (by rw[<-z]; exact(List.of_mem_zip hx).1)
    rw[zT,if_neg xp]
    exact y
  exact go _ rfl
end Sen
namespace Sen
open PySem L2 Bdd
section
variable (os:List Str) (t:Nat->Bool)
def zhk (r r':List Bool):Prop:=∃b,b<2^os.length/\wQ os t (hav ((zO os).zip r)) b=true/\hav ((zO os).zip r') b=true
def zak:List (List Bool)->Prop
 | x::y::L=>zhk os t y x/\zak (y::L)
 | _=>True
end
section
variable {os:List Str} {t f:Nat->Bool}
theorem zdj (ho:yZ os) (r:List Bool):∀p∈zG os,Free os.length (hav ((zO os).zip r)) p:=fun p hp b _ v=>by
 unfold hav
 rw[Bool.eq_iff_iff,List.all_eq_true,List.all_eq_true]
 have key:∀x∈(zO os).zip r,(zE b p v).testBit x.1=b.testBit x.1:=fun x hx=>by
  rw[zT,if_neg]
  exact vB ho (List.of_mem_zip hx).1 hp
 constructor<;>intro h x hx
 ·rw[<-key x hx]; exact h x hx
 ·rw[key x hx]; exact h x hx
theorem zbF (fs:List (Nat->Bool)) (r:List Bool):∃L,Ys os t fs r=r::L:=by
 cases fs with
 | nil=>exact⟨_,rfl⟩
 | cons g fs=>exact⟨_,rfl⟩
theorem zg5 (i b:Nat) (h:(rnd os t f (i+1)).1 b=true):wQ os t (rnd os t f i).1 b=true:=((Bool.and_eq_true _ _).mp (show(wQ os t (rnd os t f i).1 b&&!((rnd os t f i).2 b||(rnd os t f i).1 b))=true from h)).1
theorem zez (ho:yZ os) (hW:z9 os) (hf:∀p∈zG os,Free os.length f p):∀(i:Nat) (r:List Bool),(∃b,b<2^os.length/\(rnd os t f i).1 b=true/\hav ((zO os).zip r) b=true) ->
  zak os t (Ys os t ((List.range i).map fun d=>(rnd os t f d).1).reverse r)/\∃z,(Ys os t ((List.range i).map fun d=>(rnd os t f d).1).reverse r).getLast?=some z/\∃b,b<2^os.length/\f b=true/\hav ((zO os).zip z) b=true
 | 0,r,h=>⟨trivial,r,rfl,h⟩
 | i+1,r,⟨b,hb,h1,h2⟩=>by
  have fi:=fun p hp=>(Jo (t:=t) ho hW hf i p hp).1
  have fr:=zdj ho r
  obtain⟨c,hc,c1,c2⟩:=(zes (t:=t) ho hW fi fr).mp ⟨b,hb,zg5 i b h1,h2⟩
  obtain⟨d,hd,d1,d2⟩:=zdi (zO os) (fun b=>(rnd os t f i).1 b&&xu os t (hav ((zO os).zip r)) b) (zaV ho hW) vq ⟨c,hc,by rw[c1,c2]; rfl⟩
  obtain⟨d3,d4⟩:=(Bool.and_eq_true _ _).mp d1
  have e:((List.range (i+1)).map fun d=>(rnd os t f d).1).reverse=(rnd os t f i).1::((List.range i).map fun d=>(rnd os t f d).1).reverse:=by
   rw[List.range_succ,List.map_append,List.reverse_append]
   rfl
  rw[e]
  obtain⟨a1,z,a2,a3⟩:=zez ho hW hf i _ ⟨d,hd,d3,d2⟩
  obtain⟨L,eL⟩:=zbF (os:=os) (t:=t) ((List.range i).map fun d=>(rnd os t f d).1).reverse (fvP os.length (fun b=>(rnd os t f i).1 b&&xu os t (hav ((zO os).zip r)) b) (zO os))
  show zak os t (r::Ys os t _ _)/\∃z,(r::Ys os t _ _).getLast?=some z/\_
  rw[eL] at a1 a2 ⊢
  refine⟨⟨?_,a1⟩,z,?_,a3⟩
  ·exact(zes (t:=t) ho hW (zdj ho _) fr).mpr ⟨d,hd,d2,d4⟩
  ·rw[List.getLast?_cons_cons]; exact a2
end
end Sen
namespace PySem
open Sem (wp)
section
variable {prog:Program} {w:World} {A:Around} {E:Value->Shared->Prop} {h:Heap} {g:Array GenState} {d:Drawn} {t:Nat} {os:OsState} {a:Addr} {fs:Array Value} {sl:Array (Option Value)}
end
section
variable {prog:Program} {w:World} {A:Around} {E:Value->Shared->Prop} {s:Shared}
end
section
variable {prog:Program} {w:World} {κ:Type} [DecidableEq κ] {knd:KeyKind prog w κ} {A:Around} {E:Value->Shared->Prop}
end
end PySem
namespace L2
open PySem PySem.Spec PyProof.Rows
section
variable {X:Cx}
end
end L2
namespace Sen
open PySem L2 Bdd
def nis (os:List Str):List Nat:=(List.range 4).filter fun i=>os.contains (yq i)
theorem zbG:prs=(List.range 4).map fun i=>(yq i,wj i):=by decide +kernel
theorem zaX {os:List Str} {i:Nat}:i∈nis os↔i<4/\yq i∈os:=by
 unfold nis
 rw[List.mem_filter,List.mem_range,contains_iff,decide_eq_true_iff]
theorem Jq (os:List Str):yK os=(nis os).map yq:=by
 unfold yK nis
 rw[zbG,List.filter_map,List.map_map]
 rfl
theorem zbH {os:List Str} (hW:z9 os):wX os=(nis os).map wj:=by
 have e:(prs.filter fun p=>os.contains p.2)=prs.filter fun p=>os.contains p.1:=List.filter_congr fun p hp=>by rw[hW p hp]
 unfold wX nis
 rw[e,zbG,List.filter_map,List.map_map]
 rfl
def pv (os:List Str) (r s:List Bool) (x:Str):Bool:=if x∈yK os then r.getD (ix (yK os) x) false else s.getD (ix (wX os) x) false
def prR (os:List Str) (r s:List Bool):List Bool:=os.map (pv os r s)
def pB (os:List Str) (r s:List Bool):Nat:=ZJ (prR os r s)
def nb (os:List Str) (d:Nat):List Bool:=(nis os).map fun i=>d.testBit (ix os (yq i))
def lb (os:List Str) (d:Nat):List Bool:=(nis os).map fun i=>d.testBit (ix os (wj i))
theorem zdk (os:List Str) (d:Nat):(nb os d).length=(yK os).length:=by unfold nb; rw[Jq,List.length_map,List.length_map]
theorem ziT (os:List Str) (d:Nat):(lb os d).length=(yK os).length:=by unfold lb; rw[Jq,List.length_map,List.length_map]
theorem zh8 (os:List Str) (r s:List Bool):(prR os r s).length=os.length:=List.length_map _
theorem zfe (os:List Str) (r s:List Bool):pB os r s<2^os.length:=by have:=J8 (prR os r s); rwa [zh8] at this
theorem zdl {os:List Str} {x:Str} (hx:x∈os) (r s:List Bool):(pB os r s).testBit (ix os x)=pv os r s x:=by
 unfold pB prR
 rw[Kl,List.getElem?_map,(wU hx).2.2]
 rfl
section
variable {os:List Str} (ho:yZ os) (hW:z9 os)
include ho hW
theorem zal {j i:Nat} (h:(nis os)[j]?=some i):i<4/\yq i∈os/\wj i∈os/\ix (yK os) (yq i)=j/\ix (wX os) (wj i)=j/\yq i∈yK os/\wj i∉yK os:=by
 obtain⟨i4,hi⟩:=zaX.mp (List.mem_of_getElem? h)
 have e1:(yK os)[j]?=some (yq i):=by rw[Jq,List.getElem?_map,h]; rfl
 have e2:(wX os)[j]?=some (wj i):=by rw[zbH hW,List.getElem?_map,h]; rfl
 refine⟨i4,hi,(Zr hW i4).mp hi,Lk (zeq ho hW) e1,Lk (zc9 os) e2,List.mem_of_getElem? e1,fun z=>?_⟩
 obtain⟨_,k,hk,e⟩:=Xf z
 exact Wo hk e.symm
theorem zgd {j i:Nat} (h:(nis os)[j]?=some i) (r s:List Bool):pv os r s (yq i)=r.getD j false:=by
 obtain⟨_,_,_,e1,_,m1,_⟩:=zal ho hW h
 unfold pv
 rw[if_pos m1,e1]
theorem ziU {j i:Nat} (h:(nis os)[j]?=some i) (r s:List Bool):pv os r s (wj i)=s.getD j false:=by
 obtain⟨_,_,_,_,e2,_,m2⟩:=zal ho hW h
 unfold pv
 rw[if_neg m2,e2]
theorem Lq {i:Nat} (hi:i<4) (h:yq i∈os):∃j:Nat,(nis os)[j]?=some i:=by
 obtain⟨j,hj,e⟩:=List.mem_iff_getElem.mp (zaX.mpr ⟨hi,h⟩)
 exact⟨j,by rw[List.getElem?_eq_getElem hj,e]⟩
theorem zge {d c:Nat} (dl:d<2^os.length) (cl:c<2^os.length) (h:∀i,i<4->yq i∈os->d.testBit (ix os (yq i))=c.testBit (ix os (yq i))/\d.testBit (ix os (wj i))=c.testBit (ix os (wj i))):d=c:=by
 refine Za fun p=>?_
 rcases Nat.lt_or_ge p os.length with z | z
 ·have hx:os[p]?=some os[p]:=List.getElem?_eq_getElem z
  have mx:os[p]∈os:=List.getElem_mem z
  have ei:=Lk ho.nd hx
  obtain⟨i,hi,e⟩:=zew (ho.mem _ mx)
  rcases e with e | e
  ·rw[e] at mx ei
   rw[<-ei]; exact(h i hi mx).1
  ·rw[e] at mx ei
   rw[<-ei]; exact(h i hi ((Zr hW hi).mpr mx)).2
 ·rw[z8 dl z,z8 cl z]
theorem W8 {f:Nat->Bool} (hf:∀p∈zG os,Free os.length f p) {d c:Nat} (dl:d<2^os.length) (cl:c<2^os.length) (h:∀i,i<4->yq i∈os->d.testBit (ix os (yq i))=c.testBit (ix os (yq i))):f d=f c:=by
 refine free_eq (zG os) (fun p hp=>⟨wJ p hp,hf p hp⟩) dl cl fun p hp=>?_
 rcases Nat.lt_or_ge p os.length with z | z
 ·rcases Pj ho z with y | y
  ·obtain⟨x,hx,e⟩:=List.mem_map.mp y
   obtain⟨mx,i,hi,ex⟩:=Xf hx
   rw[ex] at mx e
   rw[<-e]; exact h i hi mx
  ·exact absurd y hp
 ·rw[z8 dl z,z8 cl z]
end
def rwk (os:List Str) (k:Nat):List Bool:=(allR (yK os).length).getD k []
def eb (os:List Str) (k:Nat):Nat:=pB os (rwk os k) (rwk os k)
def nM (os:List Str):Nat:=2^(yK os).length
theorem list_range (r:List Bool):(List.range r.length).map (ziL r)=r:=by
 refine List.ext_getElem? fun i=>?_
 rw[List.getElem?_map]
 rcases Nat.lt_or_ge i r.length with z | z
 ·rw[List.getElem?_range z,List.getElem?_eq_getElem z]
  show some (r.getD i false)=_
  rw[List.getD_eq_getElem?_getD,List.getElem?_eq_getElem z]
  rfl
 ·rw[List.getElem?_eq_none (by rw[List.length_range]; exact z),List.getElem?_eq_none z]
  rfl
theorem zg6 (r:List Bool):r∈allR r.length:=by
 have:=Py (ziL r) r.length
 rwa [list_range] at this
theorem zam {os:List Str} {r:List Bool} (h:r.length=(yK os).length):∃k,k<nM os/\rwk os k=r:=by
 have m:=zg6 r
 rw[h] at m
 obtain⟨k,hk,e⟩:=List.mem_iff_getElem.mp m
 rw[Mt] at hk
 refine⟨k,hk,?_⟩
 unfold rwk
 rw[List.getD_eq_getElem?_getD,List.getElem?_eq_getElem (by rw[Mt]; exact hk),e]
 rfl
theorem Wr (os:List Str) (k:Nat):eb os k<2^os.length:=zfe ..
def gr (os:List Str) (t:Nat->Bool) (j k:Nat):Bool:=t (pB os (rwk os j) (rwk os k))
section
variable {os:List Str} {t f g:Nat->Bool} (ho:yZ os) (hW:z9 os)
include ho hW
theorem SN {k:Nat} {j i:Nat} (h:(nis os)[j]?=some i):(eb os k).testBit (ix os (yq i))=(rwk os k).getD j false:=by
 obtain⟨_,h1,_⟩:=zal ho hW h
 unfold eb
 rw[zdl h1,zgd ho hW h]
theorem zdm {r s:List Bool} {j i:Nat} (h:(nis os)[j]?=some i):(pB os r s).testBit (ix os (yq i))=r.getD j false/\(pB os r s).testBit (ix os (wj i))=s.getD j false:=by
 obtain⟨_,h1,h2,_⟩:=zal ho hW h
 rw[zdl h1,zgd ho hW h,zdl h2,ziU ho hW h]
 exact⟨rfl,rfl⟩
theorem zgf (hf:∀p∈zG os,Free os.length f p) (k:Nat):xu os t f (eb os k)=true↔∃j,j<nM os/\f (eb os j)=true/\gr os t k j=true:=by
 rw[zaW ho hW hf (Wr os k)]
 constructor
 ·rintro⟨d,c,dl,cl,h1,fc,td⟩
  obtain⟨j,hj,ej⟩:=zam (ziT os d)
  refine⟨j,hj,?_,?_⟩
  ·rw[<-fc]
   refine W8 ho hW hf (Wr os j) cl fun i hi hn=>?_
   obtain⟨p,hp⟩:=Lq ho hW hi hn
   rw[SN ho hW hp,ej,(h1 i hi hn).2]
   unfold lb
   rw[List.getD_eq_getElem?_getD,List.getElem?_map,hp]
   rfl
  ·unfold gr
   rw[ej,<-td]
   congr 1
   refine zge ho hW (zfe ..) dl fun i hi hn=>?_
   obtain⟨p,hp⟩:=Lq ho hW hi hn
   obtain⟨a1,a2⟩:=zdm ho hW (r:=rwk os k) (s:=lb os d) hp
   rw[a1,a2,(h1 i hi hn).1,SN ho hW hp]
   refine⟨rfl,?_⟩
   unfold lb
   rw[List.getD_eq_getElem?_getD,List.getElem?_map,hp]
   rfl
 ·rintro⟨j,hj,fj,gj⟩
  refine⟨pB os (rwk os k) (rwk os j),eb os j,zfe ..,Wr os j,fun i hi hn=>?_,fj,gj⟩
  obtain⟨p,hp⟩:=Lq ho hW hi hn
  rw[(zdm ho hW hp).1,(zdm ho hW hp).2,SN ho hW hp,SN ho hW hp]
  exact⟨rfl,rfl⟩
theorem zeA (hf:∀p∈zG os,Free os.length f p) {d:Nat} (dl:d<2^os.length):∃k,k<nM os/\f (eb os k)=f d:=by
 obtain⟨j,hj,ej⟩:=zam (zdk os d)
 refine⟨j,hj,?_⟩
 refine W8 ho hW hf (Wr os j) dl fun i hi hn=>?_
 obtain⟨p,hp⟩:=Lq ho hW hi hn
 rw[SN ho hW hp,ej]
 unfold nb
 rw[List.getD_eq_getElem?_getD,List.getElem?_map,hp]
 rfl
end
end Sen
namespace L2
open PySem
section
variable {K:PySem.W.Frag} {σ:St} {js:List Nat} {tt:TT} {te:TE} {H:Hp} {Qf:Addr->Hp->List V->Prop}
open Sen
theorem zdn {a:Addr} {xs:List V} (Pv:Nat->List V->Hp->Prop) (h0:Pv 0 [] H) (hz:xs.length<=sizeLine)
  (hl:∀i ys H,i<=xs.length->Pv i ys H->SqL K H a xs/\ys.length<=i)
  (hs:∀i x ys H (Q:V->Hp->Prop),xs[i]?=some x->Pv i ys H->(∀v H3,Pv (i+1) (ys++[v]) H3->Q v H3)->te (lcS σ js (some x)) H Q)
  (hd:∀ys H p,Pv xs.length ys H->H p=none->Qf p H ys) :
  ∃W:Nat->Nat->List V->Hp->Prop,(∃m,W 0 m [] H)/\∀i m ys H,W i m ys H ->
   ((Itl K a).stop i H/\∀p,H p=none->Qf p H ys) \/
   ((Itl K a).go i H/\ys.length<sizeLine/\∀x H',(Itl K a).yld i H x H'->Ua (lcS σ js (some x)) H' fun b H2 =>
    if b=true then te (lcS σ js (some x)) H2 fun v H3=>∃m',m'<m/\W (i+1) m' (ys++[v]) H3 else ∃m',m'<m/\W (i+1) m' ys H2):=by
 refine⟨fun i m ys H=>m=xs.length-i/\i<=xs.length/\Pv i ys H,⟨xs.length,by simp,Nat.zero_le _,h0⟩,?_⟩
 rintro i m ys H ⟨rfl,hi,p⟩
 obtain⟨q,hy⟩:=hl i ys H hi p
 by_cases hlt:i<xs.length
 ·refine .inr ⟨⟨xs,xs[i],q,by simp[hlt]⟩,by omega,fun x H' y=>?_⟩
  obtain⟨e,y⟩:=y
  subst e
  show te (lcS σ js (some x)) H' fun v H3=>∃m',m'<xs.length-i/\(m'=xs.length-(i+1)/\i+1<=xs.length/\Pv (i+1) (ys++[v]) H3)
  exact hs i x ys _ _ (y xs q) p fun v H3 h3=>⟨_,Nat.sub_lt_sub_left hlt (Nat.lt_succ_self i),rfl,hlt,h3⟩
 ·have e:i=xs.length:=by omega
  subst e
  exact .inl ⟨⟨xs,q,Nat.le_refl _⟩,fun pp hp=>hd ys H pp p hp⟩
end
end L2
namespace Sen
open PySem L2 Bdd
def chs (os:List Str) (p:Nat->Bool):List Nat:=(List.range (nM os)).filter p
theorem zeB {os:List Str} {p:Nat->Bool} {k:Nat}:k∈chs os p↔k<nM os/\p k=true:=by unfold chs; rw[List.mem_filter,List.mem_range]
theorem zbI {os:List Str} {p q:Nat->Bool} (h:∀k,k<nM os->p k=q k):chs os p=chs os q:=List.filter_congr fun k hk=>h k (List.mem_range.mp hk)
theorem ziV {os:List Str} {p q:Nat->Bool}:chs os p=chs os q↔∀k,k<nM os->p k=q k:=by
 refine⟨fun h k hk=>?_,zbI⟩
 have:=zeB (os:=os) (p:=p) (k:=k)
 rw[h,zeB] at this
 rw[Bool.eq_iff_iff]
 exact⟨fun e=>(this.mpr ⟨hk,e⟩).2,fun e=>(this.mp ⟨hk,e⟩).2⟩
theorem zh9 (os:List Str) (p:Nat->Bool):(chs os p).length<=nM os:=Nat.le_trans (List.length_filter_le _ _) (by rw[List.length_range]; exact Nat.le_refl _)
section
variable (K:PySem.W.Frag)
end
end Sen
namespace Bdd
open Sen
end Bdd
namespace Sen
open PySem L2 Bdd
end Sen
namespace Sen
open PySem L2 Bdd
section
variable {os:List Str} {t t' f:Nat->Bool}
end
structure Gst (C:Addr) (K:PySem.W.Frag) (sc:Addr) (ns:List Int) (H1:Hp) (ol bk:Addr) (os:List Str) (m:Nat) (H:Hp) (rs:List Rm) (F:zZ):Prop where
 led:uF C H1 bk os m H rs F
 hS:SqL K H1 sc (ns.map V.int)
 hol:H1 ol=some (.lst (os.map V.str))
 ho:yZ os
 hW:z9 os
 hn:0<(yK os).length
section
variable {C:Addr} {K:PySem.W.Frag} {sc:Addr} {ns:List Int} {H1:Hp} {ol bk:Addr} {os:List Str} {m:Nat} {H H':Hp} {rs rs':List Rm} {F:zZ}
theorem Gst.new (h:Gst C K sc ns H1 ol bk os m H rs F) (g:Same H H'):Gst C K sc ns H1 ol bk os m H' rs F:=⟨h.led.new g,h.hS,h.hol,h.ho,h.hW,h.hn⟩
theorem Gst.up {m':Nat} (h:Gst C K sc ns H1 ol bk os m H rs F) (g:m<=m'):Gst C K sc ns H1 ol bk os m' H rs F:=⟨h.led.up g,h.hS,h.hol,h.ho,h.hW,h.hn⟩
theorem Gst.B (h:Gst C K sc ns H1 ol bk os m H rs F):Bk os.length rs:=(yx C).bk h.led.bk
theorem Gst.grow {n:Nat} (h:Gst C K sc ns H1 ol bk os m H rs F) (aw:Xd F H H') (hB:zR C H' bk os rs' F) (hh:hiN os.length rs'<=hiN os.length rs+n):Gst C K sc ns H1 ol bk os (m+n) H' rs' F :=
 ⟨h.led.rise aw hB hh,h.hS,h.hol,h.ho,h.hW,h.hn⟩
theorem Gst.olL (h:Gst C K sc ns H1 ol bk os m H rs F):SqL K H ol (os.map V.str):=SqL.of (h.led.same _ _ h.hol)
theorem Gst.scL (h:Gst C K sc ns H1 ol bk os m H rs F):SqL K H sc (ns.map V.int):=h.led.same.seq h.hS
end
theorem uF.made {C:Addr} {H0 H':Hp} {bk dx:Addr} {os:List Str} {F:zZ} {o1 o2:HO} (hbk:H0 bk=none) (hdx:H0 dx=none) (hne:dx≠bk) (keep:∀x o,upd (upd H0 dx o1) bk o2 x=some o->x≠bk->H' x=some o)
  (hB:zR C H' bk os [none,none] F) (hF:∀x,F x->x=bk\/x=dx\/upd (upd H0 dx o1) bk o2 x=none):uF C H0 bk os 0 H' [none,none] F:=by
 refine⟨fun x o e=>keep x o (by rw[zB (zF e hbk),zB (zF e hdx)]; exact e) (zF e hbk),fun x hx=>?_,hB,Nat.le_refl _⟩
 rcases hF x hx with z | z | z
 ·rw[z]; exact hbk
 ·rw[z]; exact hdx
 ·by_cases e1:x=bk
  ·rw[e1] at z; rw[zq] at z; cases z
  ·by_cases e2:x=dx
   ·rw[e2,zB hne,zq] at z; cases z
   ·rw[zB e1,zB e2] at z; exact z
theorem RT.all {os:List Str} {H:Hp} {s:Sn} {p:Addr} (h:RT (yK os) H s p):RT os H s p:=⟨h.is_,zh4 (fun x hx=>(Xf hx).1) h.inO,h.ct,h.dp⟩
end Sen
namespace Sen
open PySem L2 Bdd
section
variable {os:List Str} {t f:Nat->Bool}
end
def stF (os:List Str) (t f:Nat->Bool):Nat->Nat->Bool
 | 0=>f
 | i+1=>fun b=>xu os t (stF os t f i) b&&stF os t f i b
section
variable {os:List Str} {t f g:Nat->Bool}
theorem Pk (hf:∀p∈zG os,Free os.length f p):∀i,∀p∈zG os,Free os.length (stF os t f i) p
 | 0=>hf
 | i+1=>fun p hp b hb v=>by
  show(xu os t _ _&&stF os t f i _)=(xu os t _ _&&stF os t f i _)
  rw[zde t (stF os t f i) p hp b hb v,Pk hf i p hp b hb v]
theorem zg7 (ho:yZ os) (hW:z9 os) (hf:∀p∈zG os,Free os.length f p) (S:Mz os t f g):(chs os fun k=>stF os t f (nM os) (eb os k))=chs os fun k=>g (eb os k):=by
 have fr:=Pk (t:=t) hf
 have up:∀i k,k<nM os->g (eb os k)=true->stF os t f i (eb os k)=true:=by
  intro i
  induction i with
  | zero=>exact fun k _ e=>S.sub _ (Wr os k) e
  | succ i ih =>
   intro k hk e
   show(xu os t (stF os t f i) (eb os k)&&stF os t f i (eb os k))=true
   rw[Bool.and_eq_true]
   refine⟨?_,ih k hk e⟩
   have z:=S.led _ (Wr os k) e
   rw[zgf ho hW S.fre] at z
   obtain⟨j,hj,a,b⟩:=z
   exact(zgf ho hW (fr i) k).mpr ⟨j,hj,ih j hj a,b⟩
 have dn:∀i k,stF os t f (i+1) (eb os k)=true->stF os t f i (eb os k)=true:=fun i k e=>by
  have e:(xu os t (stF os t f i) (eb os k)&&stF os t f i (eb os k))=true:=e
  rw[Bool.and_eq_true] at e
  exact e.2
 have cnt:∀i,(∃j,j<=i/\∀k,k<nM os->stF os t f (j+1) (eb os k)=stF os t f j (eb os k))\/(chs os fun k=>stF os t f (i+1) (eb os k)).length+(i+1)<=nM os:=by
  intro i
  induction i with
  | zero =>
   by_cases c:∀k,k<nM os->stF os t f (0+1) (eb os k)=stF os t f 0 (eb os k)
   ·exact .inl ⟨0,Nat.le_refl _,c⟩
   ·right
    have l0:=zh9 os fun k=>stF os t f 0 (eb os k)
    have:=Uz (l:=List.range (nM os)) (p:=fun k=>stF os t f (0+1) (eb os k)) (q:=fun k=>stF os t f 0 (eb os k)) (fun k e=>dn 0 k e) (by
     refine Classical.byContradiction fun z=>c fun k hk=>?_
     cases e1:stF os t f 0 (eb os k) with
     | false =>
      cases e2:stF os t f (0+1) (eb os k) with
      | false=>rfl
      | true=>rw[dn 0 k e2] at e1; cases e1
     | true =>
      cases e2:stF os t f (0+1) (eb os k) with
      | true=>rfl
      | false=>exact absurd ⟨k,List.mem_range.mpr hk,e1,e2⟩ z)
    unfold chs at l0 ⊢
    omega
  | succ i ih =>
   rcases ih with ⟨j,hj,e⟩ | ih
   ·exact .inl ⟨j,by omega,e⟩
   by_cases c:∀k,k<nM os->stF os t f (i+1+1) (eb os k)=stF os t f (i+1) (eb os k)
   ·exact .inl ⟨i+1,Nat.le_refl _,c⟩
   ·right
    have:=Uz (l:=List.range (nM os)) (p:=fun k=>stF os t f (i+1+1) (eb os k)) (q:=fun k=>stF os t f (i+1) (eb os k)) (fun k e=>dn (i+1) k e) (by
     refine Classical.byContradiction fun z=>c fun k hk=>?_
     cases e1:stF os t f (i+1) (eb os k) with
     | false =>
      cases e2:stF os t f (i+1+1) (eb os k) with
      | false=>rfl
      | true=>rw[dn (i+1) k e2] at e1; cases e1
     | true =>
      cases e2:stF os t f (i+1+1) (eb os k) with
      | true=>rfl
      | false=>exact absurd ⟨k,List.mem_range.mpr hk,e1,e2⟩ z)
    unfold chs at ih ⊢
    omega
 have stop:∃j,j<=nM os/\∀k,k<nM os->stF os t f (j+1) (eb os k)=stF os t f j (eb os k):=by
  rcases cnt (nM os) with z | z
  ·exact z
  ·omega
 obtain⟨j,hj,ej⟩:=stop
 have top:∀k,k<nM os->stF os t f j (eb os k)=true->g (eb os k)=true:=fun k hk e=>by
  refine S.top (stF os t f j) (fun b hb eb'=>?_) _ (Wr os k) e
  obtain⟨k',hk',ek⟩:=zeA ho hW (fr j) hb
  obtain⟨k2,hk2,ek2⟩:=zeA (f:=fun b=>stF os t f (j+1) b) ho hW (fr (j+1)) hb
  refine⟨?_,?_⟩
  ·have:∀i b,stF os t f i b=true->f b=true:=by
    intro i
    induction i with
    | zero=>exact fun b e=>e
    | succ i ih =>
     intro b e
     have e:(xu os t (stF os t f i) b&&stF os t f i b)=true:=e
     rw[Bool.and_eq_true] at e
     exact ih b e.2
   exact this j b eb'
  ·-- the row is one of the k-th
   have z:stF os t f (j+1) b=true:=by
    obtain⟨m,hm,e1,e2⟩:∃m,m<nM os/\stF os t f j (eb os m)=stF os t f j b/\stF os t f (j+1) (eb os m)=stF os t f (j+1) b:=by
     obtain⟨m,hm,em⟩:=zam (zdk os b)
     have same:∀i,i<4->yq i∈os->(eb os m).testBit (ix os (yq i))=b.testBit (ix os (yq i)):=fun i hi hn=>by
      obtain⟨p,hp⟩:=Lq ho hW hi hn
      rw[SN ho hW hp,em]
      unfold nb
      rw[List.getD_eq_getElem?_getD,List.getElem?_map,hp]
      rfl
     exact⟨m,hm,W8 ho hW (fr j) (Wr os m) hb same,W8 ho hW (fr (j+1)) (Wr os m) hb same⟩
    rw[<-e2,ej m hm,e1]
    exact eb'
   have z:(xu os t (stF os t f j) b&&stF os t f j b)=true:=z
   rw[Bool.and_eq_true] at z
   exact z.1
 refine zbI fun k hk=>?_
 have dwn:∀d k,stF os t f (j+d) (eb os k)=true->stF os t f j (eb os k)=true:=by
  intro d
  induction d with
  | zero=>exact fun k e=>e
  | succ d ih=>exact fun k e=>ih k (dn (j+d) k e)
 rw[Bool.eq_iff_iff]
 refine⟨fun e=>top k hk ?_,fun e=>up _ k hk e⟩
 have:nM os=j+(nM os-j):=by omega
 rw[this] at e
 exact dwn _ k e
end
section
variable {os:List Str} {t f g g':Nat->Bool}
end
section
variable {os:List Str} {t f:Nat->Bool}
end
theorem zgg {σ:St} {js:List Nat} {te:TE} {H:Hp} {Qf:Addr->Hp->List V->Prop} {n:Nat} (hz:n<=sizeLine)
  (hte:∀(i:Nat) H' (Q:V->Hp->Prop),i<n->Same H H'->(∀H3,Same H' H3->Q (.bl true) H3)->te (lcS σ js (some (.int ((0:Int)+i)))) H' Q)
  (hd:∀H' p,Same H H'->H' p=none->Qf p H' ((List.replicate n true).map V.bl)) :
  ∃W:Nat->Nat->List V->Hp->Prop,(∃m,W 0 m [] H)/\∀i m ys H,W i m ys H ->
   ((Itr 0 n).stop i H/\∀p,H p=none->Qf p H ys) \/
   ((Itr 0 n).go i H/\ys.length<sizeLine/\∀x H',(Itr 0 n).yld i H x H'->Ua (lcS σ js (some x)) H' fun b H2 =>
    if b=true then te (lcS σ js (some x)) H2 fun v H3=>∃m',m'<m/\W (i+1) m' (ys++[v]) H3 else ∃m',m'<m/\W (i+1) m' ys H2):=by
 refine⟨fun i m ys H'=>m=n-i/\i<=n/\Same H H'/\ys=(List.replicate i true).map V.bl,⟨n,by simp,Nat.zero_le _,Same.refl _,rfl⟩,?_⟩
 rintro i m ys H1 ⟨rfl,hi,g,rfl⟩
 by_cases hlt:i<n
 ·refine .inr ⟨hlt,by rw[List.length_map,List.length_replicate]; omega,fun x H' y=>?_⟩
  obtain⟨e,y⟩:=y
  subst e y
  refine hte i _ _ hlt g fun H3 g3=>⟨_,Nat.sub_lt_sub_left hlt (Nat.lt_succ_self i),rfl,hlt,g.trans g3,?_⟩
  rw[List.replicate_succ',List.map_append]
  rfl
 ·have e:i=n:=by omega
  subst e
  exact .inl ⟨Nat.le_refl _,fun l hl=>hd _ l g hl⟩
theorem zgh (n:Nat):(List.replicate n true).all id=true:=by
 rw[List.all_eq_true]
 intro x hx
 exact(List.mem_replicate.mp hx).2
end Sen
namespace L2
open PySem PySem.Spec PyProof.Rows
section
variable {X:Cx}
end
section
variable {K:PySem.W.Frag} {σ:St} {js:List Nat} {te:TE} {H:Hp} {Qf:Addr->Hp->List V->Prop}
open Sen
theorem zeC {a:Addr} {xs:List V} (f:V->V) (hq:SqL K H a xs) (hz:xs.length<=sizeLine)
  (hs:∀(i:Nat) x H' (Q:V->Hp->Prop),xs[i]?=some x->Same H H'->(∀H3,Same H' H3->Q (f x) H3)->te (lcS σ js (some x)) H' Q)
  (hd:∀H' p,Same H H'->H' p=none->Qf p H' (xs.map f)) :
  ∃W:Nat->Nat->List V->Hp->Prop,(∃m,W 0 m [] H)/\∀i m ys H,W i m ys H ->
   ((Itl K a).stop i H/\∀p,H p=none->Qf p H ys) \/
   ((Itl K a).go i H/\ys.length<sizeLine/\∀x H',(Itl K a).yld i H x H'->Ua (lcS σ js (some x)) H' fun b H2 =>
    if b=true then te (lcS σ js (some x)) H2 fun v H3=>∃m',m'<m/\W (i+1) m' (ys++[v]) H3 else ∃m',m'<m/\W (i+1) m' ys H2):=by
 refine zdn (xs:=xs) (fun i ys H'=>Same H H'/\ys=(xs.take i).map f) ⟨Same.refl _,rfl⟩ hz ?_ ?_ ?_
 ·rintro i ys H' hi ⟨g,rfl⟩
  exact⟨g.seq hq,by rw[List.length_map,List.length_take]; omega⟩
 ·rintro i x ys H' Q0 hx ⟨g,rfl⟩ hQ
  refine hs i x H' Q0 hx g fun H3 g3=>hQ _ _ ⟨g.trans g3,?_⟩
  rw[xO hx,List.map_append]
  rfl
 ·rintro ys H' p ⟨g,rfl⟩ hp
  rw[List.take_length]
  exact hd H' p g hp
end
end L2
namespace Sen
open PySem L2 Bdd
section
variable (C:Addr) (K:PySem.W.Frag)
end
end Sen
namespace Sen
open PySem L2 Bdd
section
variable {os:List Str} {t f:Nat->Bool}
theorem Lr {xs:List Nat} {j x:Nat} (h:xs[j]?=some x):(zN xs)[j]?=some (.int (x:Nat)):=by unfold zN; rw[List.getElem?_map,h]; rfl
end
end Sen
namespace Sen
open PySem L2 Bdd
def hv (os:List Str) (r:List Bool):Nat->Bool:=hav ((zO os).zip r)
def Ky (C:Addr) (K:PySem.W.Frag):Sp:=fun vs H Q _=>∃(b rl:Addr) (os:List Str) (rs:List Rm) (F:zZ) (k i j:Nat) (ps:List Addr) (rr:List (List Bool)),vs=[.ref b,.int (k:Nat),.int (i:Nat),.int (j:Nat),.ref rl]/\zR C H b os rs F/\z9 os/\k<rs.length/\wD os rs i/\wD os rs j/\H rl=some (.lst (ps.map V.ref))/\Paired (SM H) ps rr/\(∀r∈rr,r.length=(yK os).length)/\rr.length<=300 /\
 (∃r,rr[0]?=some r/\∃c,c<2^os.length/\hv os r c=true/\tB rs i c=true)/\(∃r,rr[rr.length-1]?=some r/\∃c,c<2^os.length/\hv os r c=true/\tB rs j c=true) /\
 (∀(x:Nat) r r',rr[x]?=some r->rr[x+1]?=some r'->∃c,c<2^os.length/\wQ os (tB rs k) (hv os r) c=true/\hv os r' c=true)/\∀H',Same H H'->Q (.bl true) H'
theorem zdo {n N M:Nat} {f g:Nat->Bool} (a:zL n N f) (b:zL n M g) (h:∃c,c<2^n/\f c=true/\g c=true):N&&&M≠0:=fun e=>by
 obtain⟨c,hc,x,y⟩:=h
 have z:=UG a b c
 dsimp only at z
 rw[e,Nat.zero_testBit,decide_eq_true hc,x,y] at z
 cases z
end Sen
namespace Sen
open PySem L2 Bdd
section
variable {os ps:List Str}
theorem Marks.yK (hm:Marks os ps):yK ps=yK os:=by
 unfold Sen.yK
 congr 1
 refine List.filter_congr fun p _=>?_
 rw[contains_iff,contains_iff]
 exact decide_eq_decide.mpr (hm.mem p.1).symm
theorem Marks.world (hm:Marks os ps) (hW:z9 os):z9 ps:=fun p hp=>by
 have z:=hW p hp
 rw[contains_iff,contains_iff] at z ⊢
 rw[<-decide_eq_decide.mpr (hm.mem p.1),<-decide_eq_decide.mpr (hm.mem p.2)]
 exact z
theorem Marks.nM (hm:Marks os ps):nM ps=nM os:=by unfold Sen.nM; rw[hm.yK]
theorem ziW {rs ns:List Rm} {k j:Nat} (B:Bk os.length rs) (hk:k<rs.length) (m:Means ns j fun r=>yes rs k (trn os ps r)) (c:Nat):tB ns j c=tB rs k (tw os ps c):=by
 unfold tB tw
 rw[m.2,Sh B hk]
section
variable {t f g:Nat->Bool} (h1:yZ os) (h2:yZ ps) (hm:Marks os ps) (w1:z9 os) (w2:z9 ps)
include h1 h2 hm
theorem ziX {b:Nat} (hb:b<2^ps.length) {x:Str} (hx:x∈os) (v:Bool):tw os ps (zE b (ix ps x) v)=zE (tw os ps b) (ix os x) v:=by
 refine Za fun i=>?_
 rw[zT]
 rcases Nat.lt_or_ge i os.length with z | z
 ·have hy:os[i]?=some os[i]:=List.getElem?_eq_getElem z
  have my:os[i]∈os:=List.getElem_mem z
  have ei:=Lk h1.nd hy
  have a:=vJ (os:=os) (ps:=ps) (b:=zE b (ix ps x) v) my
  have c:=vJ (os:=os) (ps:=ps) (b:=b) my
  rw[ei] at a c
  rw[a,c,zT]
  by_cases e:os[i]=x
  ·rw[e,if_pos rfl,if_pos (by rw[<-ei,e])]
  ·rw[if_neg (fun z=>e (ix_inj' ((hm.mem _).mp my) ((hm.mem _).mp hx) z)),if_neg (fun z=>e (by
    have:=(wU hx).2.2
    rw[<-z,hy] at this
    exact Option.some.inj this))]
 ·rw[z8 (xW _) z,if_neg (by have:=(wU hx).2.1; omega),z8 (xW _) z]
include w1 w2
theorem UJ (hf:∀p∈zG os,Free os.length f p):∀p∈zG ps,Free ps.length (fun c=>f (tw os ps c)) p:=fun p hp b hb v=>by
 obtain⟨x,hx,rfl⟩:=List.mem_map.mp hp
 obtain⟨xp,i,hi,ex⟩:=Rp hx
 have xo:=(hm.mem x).mpr xp
 show f (tw os ps _)=f (tw os ps b)
 rw[ziX h1 h2 hm hb xo v]
 refine hf (ix os x) ?_ _ (xW b) v
 refine List.mem_map.mpr ⟨x,?_,rfl⟩
 rw[ex] at xo ⊢
 rw[zbH w1]
 exact List.mem_map.mpr ⟨i,zaX.mpr ⟨hi,(Zr w1 hi).mpr xo⟩,rfl⟩
theorem zdp (hf:∀p∈zG os,Free os.length f p):∀(i:Nat) {b:Nat},b<2^ps.length->stF ps (fun c=>t (tw os ps c)) (fun c=>f (tw os ps c)) i b=stF os t f i (tw os ps b)
 | 0,b,_=>rfl
 | i+1,b,hb=>by
  have e1:=zdp hf i hb
  have fr:=Pk (t:=t) hf i
  have e3:xu ps (fun c=>t (tw os ps c)) (stF ps (fun c=>t (tw os ps c)) (fun c=>f (tw os ps c)) i) b=xu os t (stF os t f i) (tw os ps b):=by
   rw[<-zgc h1 h2 hm w1 w2 fr (UJ h1 h2 hm w1 w2 fr) hb]
   exact zga h2 w2 hb fun c hc=>zdp hf i hc
  show(xu ps _ _ b&&_)=(xu os t _ (tw os ps b)&&_)
  rw[e3,e1]
omit h1 h2 hm w1 w2
theorem zeD (ho:yZ os) (hW:z9 os) (hf:∀p∈zG os,Free os.length f p) (S:Mz os t f g) {b:Nat} (hb:b<2^os.length):g b=stF os t f (nM os) b:=by
 obtain⟨m,hm',em⟩:=zam (zdk os b)
 have same:∀i,i<4->yq i∈os->(eb os m).testBit (ix os (yq i))=b.testBit (ix os (yq i)):=fun i hi hn=>by
  obtain⟨p,hp⟩:=Lq ho hW hi hn
  rw[SN ho hW hp,em]
  unfold nb
  rw[List.getD_eq_getElem?_getD,List.getElem?_map,hp]
  rfl
 rw[<-W8 ho hW S.fre (Wr os m) hb same,<-W8 ho hW (Pk (t:=t) hf (nM os)) (Wr os m) hb same]
 exact((ziV.mp (zg7 ho hW hf S)) m hm').symm
include h1 h2 hm w1 w2
theorem zia {g':Nat->Bool} (hf:∀p∈zG os,Free os.length f p) (S:Mz os t f g) (S':Mz ps (fun c=>t (tw os ps c)) (fun c=>f (tw os ps c)) g') {b:Nat} (hb:b<2^ps.length):g' b=g (tw os ps b):=by
 rw[zeD h2 w2 (UJ h1 h2 hm w1 w2 hf) S' hb,zeD h1 w1 hf S (xW b),hm.nM]
 exact zdp h1 h2 hm w1 w2 hf (nM os) hb
theorem Qn {Ns Ns':List Nat} (r:Zq os t f Ns) (r':Zq ps (fun c=>t (tw os ps c)) (fun c=>f (tw os ps c)) Ns'):Ns'.length=Ns.length:=by
 rcases Nat.lt_trichotomy Ns'.length Ns.length with z | z | z
 ·exfalso
  obtain⟨x,y⟩:=r.tab Ns'.length Ns[Ns'.length] (List.getElem?_eq_getElem z)
  refine y (Za fun c=>?_)
  rw[x c,Nat.zero_testBit]
  by_cases hc:c<2^os.length
  ·have q:=r'.fin (tw ps os c)
   rw[Nat.zero_testBit,decide_eq_true (xW c),Bool.true_and,(Wq h1 h2 hm w1 w2 Ns'.length (xW c)).1,Xr hm.symm' h1 hc] at q
   rw[<-q,Bool.and_false]
  ·rw[decide_eq_false hc]; rfl
 ·exact z
 ·exfalso
  obtain⟨x,y⟩:=r'.tab Ns.length Ns'[Ns.length] (List.getElem?_eq_getElem z)
  refine y (Za fun c=>?_)
  rw[x c,Nat.zero_testBit]
  by_cases hc:c<2^ps.length
  ·have q:=r.fin (tw os ps c)
   rw[Nat.zero_testBit,decide_eq_true (xW c),Bool.true_and] at q
   rw[(Wq h1 h2 hm w1 w2 Ns.length hc).1,<-q,Bool.and_false]
  ·rw[decide_eq_false hc]; rfl
theorem zcg (r:List Bool) (b:Nat):hv ps r b=hv os r (tw os ps b):=by
 unfold hv hav zO
 rw[hm.yK,List.zip_map_left,List.zip_map_left,List.all_map,List.all_map]
 have key:∀x∈(yK os).zip r,b.testBit (ix ps x.1)=(tw os ps b).testBit (ix os x.1):=fun x hx=>(vJ (Xf (List.of_mem_zip hx).1).1).symm
 rw[Bool.eq_iff_iff,List.all_eq_true,List.all_eq_true]
 constructor
 ·intro h x hx
  have z:=h x hx
  show((tw os ps b).testBit (ix os x.1)==x.2)=true
  rw[<-key x hx]
  exact z
 ·intro h x hx
  have z:=h x hx
  show(b.testBit (ix ps x.1)==x.2)=true
  rw[key x hx]
  exact z
theorem zib {m:Nat} {g:Nat->Bool} (M:Meet ps (fun c=>t (tw os ps c)) (fun c=>f (tw os ps c)) (fun c=>g (tw os ps c)) m):Meet os t f g m:=by
 obtain⟨⟨b,hb,b1,b2⟩,h⟩:=M
 refine⟨⟨tw os ps b,xW b,by rw[<-(Wq h1 h2 hm w1 w2 m hb).1]; exact b1,b2⟩,fun j hj c hc e=>?_⟩
 have z:=h j hj (tw ps os c) (xW c) (by rw[(Wq h1 h2 hm w1 w2 j (xW c)).1,Xr hm.symm' h1 hc]; exact e)
 dsimp only at z
 rw[Xr hm.symm' h1 hc] at z
 exact z
omit h1 h2 hm w1 w2 in
theorem Meet.eq {m m':Nat} {g:Nat->Bool} (a:Meet os t f g m) (b:Meet os t f g m'):m=m':=by
 rcases Nat.lt_trichotomy m m' with z | z | z
 ·obtain⟨⟨c,hc,c1,c2⟩,_⟩:=a
  have:=b.2 m z c hc c1
  rw[c2] at this
  cases this
 ·exact z
 ·obtain⟨⟨c,hc,c1,c2⟩,_⟩:=b
  have:=a.2 m' z c hc c1
  rw[c2] at this
  cases this
theorem ziY {m:Nat} {g:Nat->Bool} (hf:∀p∈zG os,Free os.length f p) (M:Meet ps (fun c=>t (tw os ps c)) (fun c=>f (tw os ps c)) (fun c=>g (tw os ps c)) m) :
  ∃rr,rr=(Ys ps (fun c=>t (tw os ps c)) ((List.range m).map fun d=>(rnd ps (fun c=>t (tw os ps c)) (fun c=>f (tw os ps c)) d).1).reverse (fvP ps.length (fun b=>(rnd ps (fun c=>t (tw os ps c)) (fun c=>f (tw os ps c)) m).1 b&&g (tw os ps b)) (zO ps))).reverse/\rr.length=m+1 /\
   (∃r,rr[0]?=some r/\∃c,c<2^os.length/\hv os r c=true/\f c=true)/\(∃r,rr[rr.length-1]?=some r/\∃c,c<2^os.length/\hv os r c=true/\g c=true) /\
   (∀(x:Nat) r r',rr[x]?=some r->rr[x+1]?=some r'->∃c,c<2^os.length/\wQ os t (hv os r) c=true/\hv os r' c=true):=by
 have hf':=UJ (f:=f) h1 h2 hm w1 w2 hf
 obtain⟨b,hb,b1,b2⟩:=M.1
 obtain⟨d,hd,d1,d2⟩:=zdi (zO ps) (fun b=>(rnd ps (fun c=>t (tw os ps c)) (fun c=>f (tw os ps c)) m).1 b&&g (tw os ps b)) (zaV h2 w2) vq ⟨b,hb,by rw[b1,Bool.true_and]; exact b2⟩
 obtain⟨d3,d4⟩:=(Bool.and_eq_true _ _).mp d1
 obtain⟨a1,z,a2,c0,hc0,f0,v0⟩:=zez h2 w2 hf' m _ ⟨d,hd,d3,d2⟩
 have wl:=Jp ps (fun c=>t (tw os ps c)) ((List.range m).map fun d=>(rnd ps (fun c=>t (tw os ps c)) (fun c=>f (tw os ps c)) d).1).reverse (fvP ps.length (fun b=>(rnd ps (fun c=>t (tw os ps c)) (fun c=>f (tw os ps c)) m).1 b&&g (tw os ps b)) (zO ps))
 obtain⟨L,eL⟩:=zbF (os:=ps) (t:=fun c=>t (tw os ps c)) ((List.range m).map fun d=>(rnd ps (fun c=>t (tw os ps c)) (fun c=>f (tw os ps c)) d).1).reverse (fvP ps.length (fun b=>(rnd ps (fun c=>t (tw os ps c)) (fun c=>f (tw os ps c)) m).1 b&&g (tw os ps b)) (zO ps))
 rw[List.length_reverse,List.length_map,List.length_range] at wl
 refine⟨_,rfl,by rw[List.length_reverse]; exact wl,⟨z,?_,tw os ps c0,xW c0,by rw[<-zcg h1 h2 hm w1 w2]; exact v0,f0⟩,⟨_,?_,tw os ps d,xW d,by rw[<-zcg h1 h2 hm w1 w2]; exact d2,d4⟩,fun x r r' e1 e2=>?_⟩
 ·rw[List.getElem?_reverse (by omega),<-a2,List.getLast?_eq_getElem?]
  rfl
 ·rw[List.length_reverse,List.getElem?_reverse (by omega),eL]
  rw[eL] at wl
  rw[show(fvP ps.length (fun b=>(rnd ps (fun c=>t (tw os ps c)) (fun c=>f (tw os ps c)) m).1 b&&g (tw os ps b)) (zO ps)::L).length-1-((fvP ps.length (fun b=>(rnd ps (fun c=>t (tw os ps c)) (fun c=>f (tw os ps c)) m).1 b&&g (tw os ps b)) (zO ps)::L).length-1)=0 by omega]
  rfl
 ·have back:∀(W:List (List Bool)) (y:Nat) (u v:List Bool),zak ps (fun c=>t (tw os ps c)) W->W[y]?=some u->W[y+1]?=some v->zhk ps (fun c=>t (tw os ps c)) v u:=by
   intro W
   induction W with
   | nil=>intro y u v _ e; simp at e
   | cons w W ih =>
    intro y u v B e e'
    cases W with
    | nil=>simp at e'
    | cons w2 W =>
     cases y with
     | zero =>
      have q1:w=u:=by simpa using e
      have q2:w2=v:=by simpa using e'
      rw[<-q1,<-q2]
      exact B.1
     | succ y=>exact ih y u v B.2 (by simpa using e) (by simpa using e')
  have lx:=(List.getElem?_eq_some_iff.mp e2).1
  rw[List.length_reverse] at lx
  rw[List.getElem?_reverse (by omega)] at e1 e2
  rw[wl] at e1 e2 lx
  obtain⟨c,hc,s1,s2⟩:=back _ _ r' r a1 e2 (by rw[show m+1-1-(x+1)+1=m+1-1-x by omega]; exact e1)
  refine⟨tw os ps c,xW c,?_,by rw[<-zcg h1 h2 hm w1 w2]; exact s2⟩
  rw[<-zdh h1 h2 hm w1 w2 hc,<-s1]
  exact zbE h2 w2 hc (fun e _=>(zcg h1 h2 hm w1 w2 r e).symm) fun _ _=>rfl
end
end
theorem zbJ (os:List Str) (t:Nat->Bool):∀(fs:List (Nat->Bool)) (r:List Bool),r.length=(zO os).length->∀x∈Ys os t fs r,x.length=(zO os).length
 | [],r,h,x,hx=>by
  have:x=r:=by simpa [Ys] using hx
  rw[this]; exact h
 | g::fs,r,h,x,hx=>by
  rcases List.mem_cons.mp (show x∈r::Ys os t fs _ from hx) with z | z
  ·rw[z]; exact h
  ·exact zbJ os t fs _ (Qm _ _ _) x z
end Sen
namespace K92
open PySem L2
def top (i:Nat):Stmt:=PySem.Challenge.pw_decidebook_k92_whole_worlds_in_other_ord.main.body.getD i (.Pass ⟨0,0,0,0⟩)
abbrev Qp:Stmt:=top 9
abbrev Rq:Stmt:=top 10
abbrev PJ:Stmt:=top 11
abbrev PK:Stmt:=top 12
abbrev Qq:Stmt:=top 13
abbrev VL:Stmt:=top 14
abbrev PL:Stmt:=top 15
abbrev VN:Stmt:=top 16
abbrev Wt:Stmt:=top 17
abbrev KC:Stmt:=top 18
abbrev PN:Stmt:=top 24
abbrev Xu:Stmt:=top 25
abbrev UL:Stmt:=top 26
abbrev UW:Stmt:=top 27
abbrev Qs:Stmt:=top 28
abbrev Wu:Stmt:=top 29
abbrev uY:Stmt:=top 30
abbrev Zu:Stmt:=top 31
abbrev Xv:Stmt:=top 32
abbrev ZR:Stmt:=top 33
abbrev Y6:Stmt:=top 34
abbrev Yo:Stmt:=top 35
abbrev VP:Stmt:=top 36
abbrev Rr:Stmt:=top 37
abbrev U0:Stmt:=top 38
abbrev Xw:Stmt:=top 39
abbrev Wv:Stmt:=top 40
abbrev Yt:Stmt:=top 43
abbrev ZS:Stmt:=top 44
abbrev ZV:Stmt:=top 45
abbrev Zv:Stmt:=top 46
abbrev Xx:Stmt:=top 47
abbrev Y7:Stmt:=top 48
abbrev Zg:Stmt:=top 49
abbrev zat:Stmt:=top 50
abbrev Qt:Stmt:=top 51
abbrev zau:Stmt:=top 52
abbrev KD:Stmt:=top 53
abbrev PX:Stmt:=top 54
abbrev zav:Stmt:=top 55
abbrev U3:Stmt:=top 56
abbrev Ww:Stmt:=top 57
abbrev P0:Stmt:=top 58
abbrev zaw:Stmt:=top 59
abbrev KH:Stmt:=top 60
abbrev VR:Stmt:=top 61
abbrev Wx:Stmt:=top 62
abbrev zch:Stmt:=top 63
abbrev uZ:Stmt:=top 64
abbrev Rt:Stmt:=inClass (top 66) 0
abbrev U4:Stmt:=inClass (top 66) 1
abbrev Ru:Stmt:=inClass (top 66) 2
abbrev U5:Stmt:=inClass (top 66) 3
abbrev Rv:Stmt:=inClass (top 66) 4
abbrev ZK:Stmt:=inClass (top 66) 7
abbrev Xy:Stmt:=inClass (top 66) 8
abbrev U6:Stmt:=inClass (top 66) 9
abbrev Jv:Stmt:=inClass (top 66) 10
abbrev Xz:Stmt:=inClass (top 66) 11
abbrev Y8:Stmt:=inClass (top 66) 12
abbrev Rw:Stmt:=top 68
abbrev Qu:Stmt:=top 69
abbrev Nb:Stmt:=top 70
abbrev XC:Stmt:=top 72
abbrev U7:Stmt:=top 73
abbrev vf:Stmt:=top 74
abbrev V0:Stmt:=top 75
abbrev Yu:Stmt:=top 76
abbrev U8:Stmt:=top 77
abbrev Ud:Stmt:=top 78
theorem zdB:zJ ["marks"] ["marks"] (zA Qp):=⟨rfl,rfl,rfl,by decide +kernel,rfl,by decide +kernel,by decide +kernel⟩
theorem ZW:zJ ["place", "marks", "half", "table", "further"] ["place", "marks"] (zA Rq):=⟨rfl,rfl,rfl,by decide +kernel,rfl,by decide +kernel,by decide +kernel⟩
theorem Qv:zJ ["table", "place", "marks", "ones", "noughts"] ["table", "place", "marks"] (zA PJ):=⟨rfl,rfl,rfl,by decide +kernel,rfl,by decide +kernel,by decide +kernel⟩
theorem Qw:zJ ["table", "place", "value", "marks", "ones", "kept"] ["table", "place", "value", "marks"] (zA PK):=⟨rfl,rfl,rfl,by decide +kernel,rfl,by decide +kernel,by decide +kernel⟩
theorem zdC:zJ ["table", "place", "marks"] ["table", "place", "marks"] (zA Qq):=⟨rfl,rfl,rfl,by decide +kernel,rfl,by decide +kernel,by decide +kernel⟩
theorem Wy:zJ ["table", "marks", "place"] ["table", "marks"] (zA VL):=⟨rfl,rfl,rfl,by decide +kernel,rfl,by decide +kernel,by decide +kernel⟩
theorem zeE:zJ ["table", "other"] ["table", "other"] (zA PL):=⟨rfl,rfl,rfl,by decide +kernel,rfl,by decide +kernel,by decide +kernel⟩
theorem v7:zJ ["places", "values", "marks", "table", "place", "value", "ones"] ["places", "values", "marks"] (zA VN):=⟨rfl,rfl,rfl,by decide +kernel,rfl,by decide +kernel,by decide +kernel⟩
theorem vK:zJ ["table", "places", "marks", "values", "place", "low", "value"] ["table", "places", "marks"] (zA Wt):=⟨rfl,rfl,rfl,by decide +kernel,rfl,by decide +kernel,by decide +kernel⟩
theorem zfp:zJ ["where", "low", "high"] ["where", "low", "high"] (zA KC):=⟨rfl,rfl,rfl,by decide +kernel,rfl,by decide +kernel,by decide +kernel⟩
theorem zeF:zJ ["letter"] ["letter"] (zA PN):=⟨rfl,rfl,rfl,by decide +kernel,rfl,by decide +kernel,by decide +kernel⟩
theorem zdD:zJ ["order"] ["order"] (zA Xu):=⟨rfl,rfl,rfl,by decide +kernel,rfl,by decide +kernel,by decide +kernel⟩
theorem zfq:zJ ["order", "row"] ["order", "row"] (zA UL):=⟨rfl,rfl,rfl,by decide +kernel,rfl,by decide +kernel,by decide +kernel⟩
theorem zbK:zJ ["sentence"] ["sentence"] (zA UW):=⟨rfl,rfl,rfl,by decide +kernel,rfl,by decide +kernel,by decide +kernel⟩
theorem zdE:zJ ["sentence"] ["sentence"] (zA Qs):=⟨rfl,rfl,rfl,by decide +kernel,rfl,by decide +kernel,by decide +kernel⟩
theorem XD:zJ ["level", "found", "sentence"] ["level"] (zA Wu):=⟨rfl,rfl,rfl,by decide +kernel,rfl,by decide +kernel,by decide +kernel⟩
theorem Nf:zJ ["some", "shape"] ["some"] (zA uY):=⟨rfl,rfl,rfl,by decide +kernel,rfl,by decide +kernel,by decide +kernel⟩
theorem vg:zJ ["some", "level", "deep", "tuples"] ["some"] (zA Zu):=⟨rfl,rfl,rfl,by decide +kernel,rfl,by decide +kernel,by decide +kernel⟩
theorem KJ:zJ ["order"] ["order"] (zA Xv):=⟨rfl,rfl,rfl,by decide +kernel,rfl,by decide +kernel,by decide +kernel⟩
theorem Pz:zJ ["some"] ["some"] (zA ZR):=⟨rfl,rfl,rfl,by decide +kernel,rfl,by decide +kernel,by decide +kernel⟩
theorem Ls:zJ ["order", "letter"] ["order", "letter"] (zA Y6):=⟨rfl,rfl,rfl,by decide +kernel,rfl,by decide +kernel,by decide +kernel⟩
theorem Vp:zJ ["order", "sentence", "letter"] ["order", "sentence"] (zA Yo):=⟨rfl,rfl,rfl,by decide +kernel,rfl,by decide +kernel,by decide +kernel⟩
theorem zax:zJ ["order", "row"] ["order", "row"] (zA VP):=⟨rfl,rfl,rfl,by decide +kernel,rfl,by decide +kernel,by decide +kernel⟩
theorem XF:zJ ["sentence", "found", "level"] ["sentence"] (zA Rr):=⟨rfl,rfl,rfl,by decide +kernel,rfl,by decide +kernel,by decide +kernel⟩
theorem V1:zJ ["sentence", "found", "part"] ["sentence"] (zA U0):=⟨rfl,rfl,rfl,by decide +kernel,rfl,by decide +kernel,by decide +kernel⟩
theorem W9:zJ ["sentence", "order", "word", "marks", "tables"] ["sentence", "order"] (zA Xw):=⟨rfl,rfl,rfl,by decide +kernel,rfl,by decide +kernel,by decide +kernel⟩
theorem Jw:zJ ["word", "one", "other", "every"] ["word", "one", "other", "every"] (zA Wv):=⟨rfl,rfl,rfl,by decide +kernel,rfl,by decide +kernel,by decide +kernel⟩
theorem zci:zJ ["book"] ["book"] (zA Yt):=⟨rfl,rfl,rfl,by decide +kernel,rfl,by decide +kernel,by decide +kernel⟩
theorem zbL:zJ ["book"] ["book"] (zA ZS):=⟨rfl,rfl,rfl,by decide +kernel,rfl,by decide +kernel,by decide +kernel⟩
theorem zbM:zJ ["book"] ["book"] (zA ZV):=⟨rfl,rfl,rfl,by decide +kernel,rfl,by decide +kernel,by decide +kernel⟩
theorem zay:zJ ["book"] ["book"] (zA Zv):=⟨rfl,rfl,rfl,by decide +kernel,rfl,by decide +kernel,by decide +kernel⟩
theorem Zh:zJ ["book", "order", "now", "then"] ["book"] (zA Xx):=⟨rfl,rfl,rfl,by decide +kernel,rfl,by decide +kernel,by decide +kernel⟩
theorem Uc:zJ ["book", "room", "place"] ["book", "room"] (zA Y7):=⟨rfl,rfl,rfl,by decide +kernel,rfl,by decide +kernel,by decide +kernel⟩
theorem Xg:zJ ["book", "steps", "rooms", "room"] ["book", "steps", "rooms"] (zA Zg):=⟨rfl,rfl,rfl,by decide +kernel,rfl,by decide +kernel,by decide +kernel⟩
theorem zgo:zJ ["book", "steps", "room"] ["book", "steps", "room"] (zA zat):=⟨rfl,rfl,rfl,by decide +kernel,rfl,by decide +kernel,by decide +kernel⟩
theorem zdF:zJ ["book", "steps", "room"] ["book", "steps", "room"] (zA Qt):=⟨rfl,rfl,rfl,by decide +kernel,rfl,by decide +kernel,by decide +kernel⟩
theorem KN:zJ ["book", "steps", "table", "marks", "led"] ["book", "steps", "table"] (zA zau):=⟨rfl,rfl,rfl,by decide +kernel,rfl,by decide +kernel,by decide +kernel⟩
theorem Ng:zJ ["book", "steps", "table", "marks", "goal"] ["book", "steps", "table"] (zA KD):=⟨rfl,rfl,rfl,by decide +kernel,rfl,by decide +kernel,by decide +kernel⟩
theorem Qx:zJ ["table", "places", "marks", "place"] ["table", "places", "marks"] (zA PX):=⟨rfl,rfl,rfl,by decide +kernel,rfl,by decide +kernel,by decide +kernel⟩
theorem Wz:zJ ["table", "places", "others", "marks", "place", "other", "low", "high"] ["table", "places", "others", "marks"] (zA zav):=⟨rfl,rfl,rfl,by decide +kernel,rfl,by decide +kernel,by decide +kernel⟩
theorem zfr:zJ ["book", "steps", "start"] ["book", "steps", "start"] (zA U3):=⟨rfl,rfl,rfl,by decide +kernel,rfl,by decide +kernel,by decide +kernel⟩
theorem vL:zJ ["book", "steps", "start", "found", "table", "told"] ["book", "steps", "start"] (zA Ww):=⟨rfl,rfl,rfl,by decide +kernel,rfl,by decide +kernel,by decide +kernel⟩
theorem zeG:zJ ["book", "steps", "start"] ["book", "steps", "start"] (zA P0):=⟨rfl,rfl,rfl,by decide +kernel,rfl,by decide +kernel,by decide +kernel⟩
theorem U9:zJ ["book", "steps", "room", "table", "staying"] ["book", "steps", "room"] (zA zaw):=⟨rfl,rfl,rfl,by decide +kernel,rfl,by decide +kernel,by decide +kernel⟩
theorem SQ:zJ ["book", "steps", "start", "goal", "ahead", "table", "met"] ["book", "steps", "start", "goal"] (zA KH):=⟨rfl,rfl,rfl,by decide +kernel,rfl,by decide +kernel,by decide +kernel⟩
theorem WD:zJ ["book", "steps", "ahead", "met", "rows", "table"] ["book", "steps", "ahead", "met"] (zA VR):=⟨rfl,rfl,rfl,by decide +kernel,rfl,by decide +kernel,by decide +kernel⟩
theorem Jx:zJ ["book", "table"] ["book", "table"] (zA Wx):=⟨rfl,rfl,rfl,by decide +kernel,rfl,by decide +kernel,by decide +kernel⟩
theorem zhm:zJ ["book", "row"] ["book", "row"] (zA zch):=⟨rfl,rfl,rfl,by decide +kernel,rfl,by decide +kernel,by decide +kernel⟩
theorem Tc:zJ ["book", "steps", "start", "goal", "rows", "row", "tables"] ["book", "steps", "start", "goal", "rows"] (zA uZ):=⟨rfl,rfl,rfl,by decide +kernel,rfl,by decide +kernel,by decide +kernel⟩
theorem Nh:zJ ["self", "order", "marks"] ["self", "order"] (zA Rt):=⟨rfl,rfl,rfl,by decide +kernel,rfl,by decide +kernel,by decide +kernel⟩
theorem zbN:zJ ["self"] ["self"] (zA U4):=⟨rfl,rfl,rfl,by decide +kernel,rfl,by decide +kernel,by decide +kernel⟩
theorem zcj:zJ ["self"] ["self"] (zA Ru):=⟨rfl,rfl,rfl,by decide +kernel,rfl,by decide +kernel,by decide +kernel⟩
theorem zbO:zJ ["self", "sentence"] ["self", "sentence"] (zA U5):=⟨rfl,rfl,rfl,by decide +kernel,rfl,by decide +kernel,by decide +kernel⟩
theorem zck:zJ ["self", "number"] ["self", "number"] (zA Rv):=⟨rfl,rfl,rfl,by decide +kernel,rfl,by decide +kernel,by decide +kernel⟩
theorem Qy:zJ ["self", "number"] ["self", "number"] (zA ZK):=⟨rfl,rfl,rfl,by decide +kernel,rfl,by decide +kernel,by decide +kernel⟩
theorem KQ:zJ ["self", "number"] ["self", "number"] (zA Xy):=⟨rfl,rfl,rfl,by decide +kernel,rfl,by decide +kernel,by decide +kernel⟩
theorem zbP:zJ ["self", "number", "value"] ["self", "number", "value"] (zA U6):=⟨rfl,rfl,rfl,by decide +kernel,rfl,by decide +kernel,by decide +kernel⟩
theorem KR:zJ ["self", "number"] ["self", "number"] (zA Xz):=⟨rfl,rfl,rfl,by decide +kernel,rfl,by decide +kernel,by decide +kernel⟩
theorem vQ:zJ ["self", "table", "marks", "place", "low", "high"] ["self", "table"] (zA Y8):=⟨rfl,rfl,rfl,by decide +kernel,rfl,by decide +kernel,by decide +kernel⟩
theorem Ni:zJ ["book", "order", "new"] ["book", "order"] (zA Rw):=⟨rfl,rfl,rfl,by decide +kernel,rfl,by decide +kernel,by decide +kernel⟩
theorem Rx:zJ ["new", "book", "rooms", "known", "number"] ["new", "book", "rooms"] (zA Qu):=⟨rfl,rfl,rfl,by decide +kernel,rfl,by decide +kernel,by decide +kernel⟩
theorem Ue:zJ ["new", "book", "number", "known", "told", "order", "where"] ["new", "book", "number", "known"] (zA Nb):=⟨rfl,rfl,rfl,by decide +kernel,rfl,by decide +kernel,by decide +kernel⟩
theorem Td:zJ ["script", "k"] ["script", "k"] (zA XC):=⟨rfl,rfl,rfl,by decide +kernel,rfl,by decide +kernel,by decide +kernel⟩
theorem uG:zJ ["cell", "k", "bound", "stir", "left", "j"] ["cell", "k", "bound"] (zA U7):=⟨rfl,rfl,rfl,by decide +kernel,rfl,by decide +kernel,by decide +kernel⟩
theorem xq:zJ ["script", "at", "many", "order", "kinds", "made", "k", "cell", "kind", "one", "other", "letter"] ["script", "at", "many", "order"] (zA vf):=⟨rfl,rfl,rfl,by decide +kernel,rfl,by decide +kernel,by decide +kernel⟩
theorem xK:zJ ["cell", "first", "size", "names", "found", "k", "later"] ["cell"] (zA V0):=⟨rfl,rfl,rfl,by decide +kernel,rfl,by decide +kernel,by decide +kernel⟩
theorem zcl:zJ ["order"] ["order"] (zA Yu):=⟨rfl,rfl,rfl,by decide +kernel,rfl,by decide +kernel,by decide +kernel⟩
theorem V2:zJ ["script", "order", "steps"] ["script"] (zA U8):=⟨rfl,rfl,rfl,by decide +kernel,rfl,by decide +kernel,by decide +kernel⟩
theorem vC:zJ ["script", "book", "steps", "start", "goal", "due", "told", "rows", "other", "k", "there", "found", "more", "order", "sentence", "hall", "places"] ["script"] (zA Ud):=⟨rfl,rfl,rfl,by decide +kernel,rfl,by decide +kernel,by decide +kernel⟩
def wB:List (Str×Int×Int):=[("yes", 0,0),("no", 0,0),("mark", 1,0),("not", 0,1),("and", 0,2),("or", 0,2),("either", 0,2),("if", 0,2),("some", 1,1),("each", 1,1)]
theorem zjS {α:Type} {us:List α} (h:us.length=0):us=[]:=List.length_eq_zero_iff.mp h
theorem zdq {α:Type} {us:List α} {n:Nat} (h:us.length=n+1):∃a vs,us=a::vs/\vs.length=n:=by
 cases us with
 | nil=>cases h
 | cons a vs=>exact⟨a,vs,rfl,by simpa using h⟩
theorem vX {α:Type} {us:List α} (h:us.length=1):∃a,us=[a]:=by
 obtain⟨a,v,e,h⟩:=zdq h
 rw[e,zjS h]
 exact⟨a,rfl⟩
theorem tG {α:Type} {us:List α} (h:us.length=2):∃a b,us=[a,b]:=by
 obtain⟨a,v,e,h⟩:=zdq h
 obtain⟨b,e2⟩:=vX h
 exact⟨a,b,by rw[e,e2]⟩
theorem Zt {α:Type} {us:List α} (h:us.length=3):∃a b c,us=[a,b,c]:=by
 obtain⟨a,v,e,h⟩:=zdq h
 obtain⟨b,c,e2⟩:=tG h
 exact⟨a,b,c,by rw[e,e2]⟩
theorem Pn {α:Type} {us:List α} (h:us.length=4):∃a b c d,us=[a,b,c,d]:=by
 obtain⟨a,v,e,h⟩:=zdq h
 obtain⟨b,c,d,e2⟩:=Zt h
 exact⟨a,b,c,d,by rw[e,e2]⟩
theorem zjT {α:Type} {us:List α} (h:us.length=5):∃a b c d f,us=[a,b,c,d,f]:=by
 obtain⟨a,v,e,h⟩:=zdq h
 obtain⟨b,c,d,f,e2⟩:=Pn h
 exact⟨a,b,c,d,f,by rw[e,e2]⟩
set_option genInjectivity false in
set_option genSizeOf false in
structure Ad where
 uM:Addr
 uN:FuncData
 wF:Addr
 wG:FuncData
 Zc:Addr
 Zd:FuncData
 ZX:Addr
 Z0:FuncData
 XH:Addr
 XJ:FuncData
 Zw:Addr
 Zx:FuncData
 Z1:Addr
 Z2:FuncData
 YJ:Addr
 YK:FuncData
 Yc:Addr
 Yd:FuncData
 Te:Addr
 Tg:FuncData
 Xh:Addr
 Xi:FuncData
 Ug:Addr
 Uh:FuncData
 Ti:Addr
 Tj:FuncData
 tO:Addr
 tQ:FuncData
 uO:Addr
 uP:FuncData
 tU:Addr
 tV:FuncData
 Va:Addr
 Vb:FuncData
 YL:Addr
 YM:FuncData
 ZL:Addr
 ZM:FuncData
 uQ:Addr
 uR:FuncData
 ug:Addr
 uh:FuncData
 tH:Addr
 tK:FuncData
 YQ:Addr
 YS:FuncData
 Vc:Addr
 Vd:FuncData
 XM:Addr
 XQ:FuncData
 Ye:Addr
 Yg:FuncData
 v8:Addr
 v9:FuncData
 Yv:Addr
 Yw:FuncData
 XR:Addr
 XS:FuncData
 uo:Addr
 ur:FuncData
 uH:Addr
 uI:FuncData
 ZP:Addr
 ZQ:FuncData
 Zi:Addr
 Zj:FuncData
 yI:Addr
 yJ:FuncData
 MP:Addr
 M4:FuncData
 Ui:Addr
 Uj:FuncData
 Uv:Addr
 Uw:FuncData
 WK:Addr
 WL:FuncData
 Vq:Addr
 Vr:FuncData
 RW:Addr
 RX:FuncData
 Qz:Addr
 QB:FuncData
 uc:Addr
 ud:FuncData
 SX:Addr
 S5:FuncData
 M5:Addr
 M6:FuncData
 QC:Addr
 QD:FuncData
 YT:Addr
 YW:FuncData
 Yh:Addr
 Yi:FuncData
 Nj:Addr
 Nk:FuncData
 Ve:Addr
 Vf:FuncData
 ZC:Addr
 Yx:FuncData
 yO:Addr
 yP:FuncData
 Yy:Addr
 Yz:FuncData
 X3:Addr
 X4:FuncData
 Vg:Addr
 Vh:FuncData
 xP:Addr
 xQ:FuncData
 uT:Addr
 uU:FuncData
 Z4:Addr
 Z5:FuncData
 Jy:Addr
 Jz:FuncData
 yE:Addr
 yF:FuncData
 yL:Addr
 yM:FuncData
 Vi:Addr
 Vj:FuncData
 Uk:Addr
 Ul:FuncData
 S6:Addr
 S7:FuncData
 xR:Addr
 xT:FuncData
 uw:Addr
 ux:FuncData
 uy:Addr
 uz:FuncData
 YX:Addr
 YZ:FuncData
 YB:Addr
 YC:FuncData
 X5:Addr
 X6:FuncData
 zb9:Addr
 JB:FuncData
 zf:Addr
 Xj:Addr
 t_MOST_TUPLES:Tok
 t_MOST_DEEP:Tok
 u6:Addr
 kv_SHAPES:List (Str×Value)
 uJ:Addr
 Vs:Addr
 Vt:Addr
 Vu:Addr
 Vv:Addr
structure Txt (P:Program) (w:World) (K:PySem.W.Frag) (mg:Str->Option Value) (a:Ad):Prop where
 uV:Fun K "all_rows" "all_rows" Qp a.uM a.uN
 b_all_rows:Binds K a.uN ["marks"] []
 m_all_rows:mg "all_rows"=some (.ref a.uM)
 vY:Fun K "rows_with" "rows_with" Rq a.wF a.wG
 b_rows_with:Binds K a.wG ["place", "marks"] []
 m_rows_with:mg "rows_with"=some (.ref a.wF)
 Z6:Fun K "flipped" "flipped" PJ a.Zc a.Zd
 b_flipped:Binds K a.Zd ["table", "place", "marks"] []
 m_flipped:mg "flipped"=some (.ref a.Zc)
 Ze:Fun K "held_at" "held_at" PK a.ZX a.Z0
 b_held_at:Binds K a.Z0 ["table", "place", "value", "marks"] []
 m_held_at:mg "held_at"=some (.ref a.ZX)
 Um:Fun K "hangs_on" "hangs_on" Qq a.XH a.XJ
 b_hangs_on:Binds K a.XJ ["table", "place", "marks"] []
 m_hangs_on:mg "hangs_on"=some (.ref a.XH)
 V3:Fun K "first_place" "first_place" VL a.Zw a.Zx
 b_first_place:Binds K a.Zx ["table", "marks"] []
 m_first_place:mg "first_place"=some (.ref a.Zw)
 Vw:Fun K "without" "without" PL a.Z1 a.Z2
 b_without:Binds K a.Z2 ["table", "other"] []
 m_without:mg "without"=some (.ref a.Z1)
 V4:Fun K "rows_having" "rows_having" VN a.YJ a.YK
 b_rows_having:Binds K a.YK ["places", "values", "marks"] []
 m_rows_having:mg "rows_having"=some (.ref a.YJ)
 WM:Fun K "first_values" "first_values" Wt a.Yc a.Yd
 b_first_values:Binds K a.Yd ["table", "places", "marks"] []
 m_first_values:mg "first_values"=some (.ref a.Yc)
 QF:Fun K "chosen" "chosen" KC a.Te a.Tg
 b_chosen:Binds K a.Tg ["where", "low", "high"] []
 m_chosen:mg "chosen"=some (.ref a.Te)
 S9:Fun K "is_mark" "is_mark" PN a.Xh a.Xi
 b_is_mark:Binds K a.Xi ["letter"] []
 m_is_mark:mg "is_mark"=some (.ref a.Xh)
 QG:Fun K "is_order" "is_order" Xu a.Ug a.Uh
 b_is_order:Binds K a.Uh ["order"] []
 m_is_order:mg "is_order"=some (.ref a.Ug)
 KY:Fun K "is_row" "is_row" UL a.Ti a.Tj
 b_is_row:Binds K a.Tj ["order", "row"] []
 m_is_row:mg "is_row"=some (.ref a.Ti)
 X7:Fun K "letters_of" "letters_of" UW a.tO a.tQ
 b_letters_of:Binds K a.tQ ["sentence"] []
 m_letters_of:mg "letters_of"=some (.ref a.tO)
 X8:Fun K "parts_of" "parts_of" Qs a.uO a.uP
 b_parts_of:Binds K a.uP ["sentence"] []
 m_parts_of:mg "parts_of"=some (.ref a.uO)
 Yj:Fun K "parts_of_all" "parts_of_all" Wu a.tU a.tV
 b_parts_of_all:Binds K a.tV ["level"] []
 m_parts_of_all:mg "parts_of_all"=some (.ref a.tU)
 Ry:Fun K "is_shaped" "is_shaped" uY a.Va a.Vb
 b_is_shaped:Binds K a.Vb ["some"] []
 m_is_shaped:mg "is_shaped"=some (.ref a.Va)
 V5:Fun K "is_sentence" "is_sentence" Zu a.YL a.YM
 b_is_sentence:Binds K a.YM ["some"] []
 m_is_sentence:mg "is_sentence"=some (.ref a.YL)
 Wa:Fun K "must_be_order" "must_be_order" Xv a.ZL a.ZM
 b_must_be_order:Binds K a.ZM ["order"] []
 m_must_be_order:mg "must_be_order"=some (.ref a.ZL)
 Z7:Fun K "must_be_sentence" "must_be_sentence" ZR a.uQ a.uR
 b_must_be_sentence:Binds K a.uR ["some"] []
 m_must_be_sentence:mg "must_be_sentence"=some (.ref a.uQ)
 Y9:Fun K "must_have_mark" "must_have_mark" Y6 a.ug a.uh
 b_must_have_mark:Binds K a.uh ["order", "letter"] []
 m_must_have_mark:mg "must_have_mark"=some (.ref a.ug)
 Yp:Fun K "must_have_marks" "must_have_marks" Yo a.tH a.tK
 b_must_have_marks:Binds K a.tK ["order", "sentence"] []
 m_must_have_marks:mg "must_have_marks"=some (.ref a.tH)
 V6:Fun K "must_be_row" "must_be_row" VP a.YQ a.YS
 b_must_be_row:Binds K a.YS ["order", "row"] []
 m_must_be_row:mg "must_be_row"=some (.ref a.YQ)
 Rz:Fun K "tuples_in" "tuples_in" Rr a.Vc a.Vd
 b_tuples_in:Binds K a.Vd ["sentence"] []
 m_tuples_in:mg "tuples_in"=some (.ref a.Vc)
 Tn:Fun K "letters_in" "letters_in" U0 a.XM a.XQ
 b_letters_in:Binds K a.XQ ["sentence"] []
 m_letters_in:mg "letters_in"=some (.ref a.XM)
 Uo:Fun K "table_of" "table_of" Xw a.Ye a.Yg
 b_table_of:Binds K a.Yg ["sentence", "order"] []
 m_table_of:mg "table_of"=some (.ref a.Ye)
 WQ:Fun K "table_of_two" "table_of_two" Wv a.v8 a.v9
 b_table_of_two:Binds K a.v9 ["word", "one", "other", "every"] []
 m_table_of_two:mg "table_of_two"=some (.ref a.v8)
 Vk:Fun K "now_marks" "now_marks" Yt a.Yv a.Yw
 b_now_marks:Binds K a.Yw ["book"] []
 m_now_marks:mg "now_marks"=some (.ref a.Yv)
 Tp:Fun K "then_marks" "then_marks" ZS a.XR a.XS
 b_then_marks:Binds K a.XS ["book"] []
 m_then_marks:mg "then_marks"=some (.ref a.XR)
 uD:Fun K "now_places" "now_places" ZV a.uo a.ur
 b_now_places:Binds K a.ur ["book"] []
 m_now_places:mg "now_places"=some (.ref a.uo)
 uK:Fun K "then_places" "then_places" Zv a.uH a.uI
 b_then_places:Binds K a.uI ["book"] []
 m_then_places:mg "then_places"=some (.ref a.uH)
 Wb:Fun K "must_be_world" "must_be_world" Xx a.ZP a.ZQ
 b_must_be_world:Binds K a.ZQ ["book"] []
 m_must_be_world:mg "must_be_world"=some (.ref a.ZP)
 Xa:Fun K "must_be_of_now" "must_be_of_now" Y7 a.Zi a.Zj
 b_must_be_of_now:Binds K a.Zj ["book", "room"] []
 m_must_be_of_now:mg "must_be_of_now"=some (.ref a.Zi)
 yR:Fun K "must_be_world_with" "must_be_world_with" Zg a.yI a.yJ
 b_must_be_world_with:Binds K a.yJ ["book", "steps", "rooms"] []
 m_must_be_world_with:mg "must_be_world_with"=some (.ref a.yI)
 M7:Fun K "image" "image" zat a.MP a.M4
 b_image:Binds K a.M4 ["book", "steps", "room"] []
 m_image:mg "image"=some (.ref a.MP)
 Uq:Fun K "preimage" "preimage" Qt a.Ui a.Uj
 b_preimage:Binds K a.Uj ["book", "steps", "room"] []
 m_preimage:mg "preimage"=some (.ref a.Ui)
 RZ:Fun K "after" "after" zau a.Uv a.Uw
 b_after:Binds K a.Uw ["book", "steps", "table"] []
 m_after:mg "after"=some (.ref a.Uv)
 WR:Fun K "before" "before" KD a.WK a.WL
 b_before:Binds K a.WL ["book", "steps", "table"] []
 m_before:mg "before"=some (.ref a.WK)
 Ra:Fun K "for_any" "for_any" PX a.Vq a.Vr
 b_for_any:Binds K a.Vr ["table", "places", "marks"] []
 m_for_any:mg "for_any"=some (.ref a.Vq)
 M8:Fun K "moved" "moved" zav a.RW a.RX
 b_moved:Binds K a.RX ["table", "places", "others", "marks"] []
 m_moved:mg "moved"=some (.ref a.RW)
 QJ:Fun K "rounds" "rounds" U3 a.Qz a.QB
 b_rounds:Binds K a.QB ["book", "steps", "start"] []
 m_rounds:mg "rounds"=some (.ref a.Qz)
 tW:Fun K "round_tables" "round_tables" Ww a.uc a.ud
 b_round_tables:Binds K a.ud ["book", "steps", "start"] []
 m_round_tables:mg "round_tables"=some (.ref a.uc)
 Rb:Fun K "reached" "reached" P0 a.SX a.S5
 b_reached:Binds K a.S5 ["book", "steps", "start"] []
 m_reached:mg "reached"=some (.ref a.SX)
 M9:Fun K "stays" "stays" zaw a.M5 a.M6
 b_stays:Binds K a.M6 ["book", "steps", "room"] []
 m_stays:mg "stays"=some (.ref a.M5)
 QK:Fun K "way_to" "way_to" KH a.QC a.QD
 b_way_to:Binds K a.QD ["book", "steps", "start", "goal"] []
 m_way_to:mg "way_to"=some (.ref a.QC)
 V7:Fun K "way_through" "way_through" VR a.YT a.YW
 b_way_through:Binds K a.YW ["book", "steps", "ahead", "met"] []
 m_way_through:mg "way_through"=some (.ref a.YT)
 Yk:Fun K "first_of_now" "first_of_now" Wx a.Yh a.Yi
 b_first_of_now:Binds K a.Yi ["book", "table"] []
 m_first_of_now:mg "first_of_now"=some (.ref a.Yh)
 JC:Fun K "only" "only" zch a.Nj a.Nk
 b_only:Binds K a.Nk ["book", "row"] []
 m_only:mg "only"=some (.ref a.Nj)
 RD:Fun K "way_shows" "way_shows" uZ a.Ve a.Vf
 b_way_shows:Binds K a.Vf ["book", "steps", "start", "goal", "rows"] []
 m_way_shows:mg "way_shows"=some (.ref a.Ve)
 LK:Fun K "__init__" "Book.__init__" Rt a.ZC a.Yx
 b_Book_init:Binds K a.Yx ["self", "order"] []
 e_Book_init:Meth K a.zf "__init__" a.ZC
 Np:Fun K "order" "Book.order" U4 a.yO a.yP
 b_Book_order:Binds K a.yP ["self"] []
 e_Book_order:Meth K a.zf "order" a.yO
 LQ:Fun K "size" "Book.size" Ru a.Yy a.Yz
 b_Book_size:Binds K a.Yz ["self"] []
 e_Book_size:Meth K a.zf "size" a.Yy
 Nq:Fun K "enter" "Book.enter" U5 a.X3 a.X4
 b_Book_enter:Binds K a.X4 ["self", "sentence"] []
 e_Book_enter:Meth K a.zf "enter" a.X3
 LR:Fun K "room" "Book.room" Rv a.Vg a.Vh
 b_Book_room:Binds K a.Vh ["self", "number"] []
 e_Book_room:Meth K a.zf "room" a.Vg
 Ws:Fun K "must_be_room" "Book.must_be_room" ZK a.xP a.xQ
 b_Book_must_be_room:Binds K a.xQ ["self", "number"] []
 e_Book_must_be_room:Meth K a.zf "must_be_room" a.xP
 Rf:Fun K "place_of" "Book.place_of" Xy a.uT a.uU
 b_Book_place_of:Binds K a.uU ["self", "number"] []
 e_Book_place_of:Meth K a.zf "place_of" a.uT
 Nr:Fun K "going" "Book.going" U6 a.Z4 a.Z5
 b_Book_going:Binds K a.Z5 ["self", "number", "value"] []
 e_Book_going:Meth K a.zf "going" a.Z4
 zeH:Fun K "led" "Book.led" Jv a.Jy a.Jz
 b_Book_led:Binds K a.Jz ["self", "number", "place", "value"] []
 e_Book_led:Meth K a.zf "led" a.Jy
 Rg:Fun K "table_at" "Book.table_at" Xz a.yE a.yF
 b_Book_table_at:Binds K a.yF ["self", "number"] []
 e_Book_table_at:Meth K a.zf "table_at" a.yE
 Tq:Fun K "room_with" "Book.room_with" Y8 a.yL a.yM
 b_Book_room_with:Binds K a.yM ["self", "table"] []
 e_Book_room_with:Meth K a.zf "room_with" a.yL
 RG:Fun K "reordered" "reordered" Rw a.Vi a.Vj
 b_reordered:Binds K a.Vj ["book", "order"] []
 m_reordered:mg "reordered"=some (.ref a.Vi)
 QL:Fun K "rooms_in" "rooms_in" Qu a.Uk a.Ul
 b_rooms_in:Binds K a.Ul ["new", "book", "rooms"] []
 m_rooms_in:mg "rooms_in"=some (.ref a.Uk)
 Nt:Fun K "room_in" "room_in" Nb a.S6 a.S7
 b_room_in:Binds K a.S7 ["new", "book", "number", "known"] []
 m_room_in:mg "room_in"=some (.ref a.S6)
 xG:Fun K "_law_cell_at" "_law_cell_at" XC a.xR a.xT
 b_x_law_cell_at:Binds K a.xT ["script", "k"] []
 m_x_law_cell_at:mg "_law_cell_at"=some (.ref a.xR)
 yW:Fun K "_law_draw" "_law_draw" U7 a.uw a.ux
 b_x_law_draw:Binds K a.ux ["cell", "k", "bound"] []
 m_x_law_draw:mg "_law_draw"=some (.ref a.uw)
 uE:Fun K "_law_sentence" "_law_sentence" vf a.uy a.uz
 b_x_law_sentence:Binds K a.uz ["script", "at", "many", "order"] []
 m_x_law_sentence:mg "_law_sentence"=some (.ref a.uy)
 V8:Fun K "_law_world" "_law_world" V0 a.YX a.YZ
 b_x_law_world:Binds K a.YZ ["cell"] []
 m_x_law_world:mg "_law_world"=some (.ref a.YX)
 Vl:Fun K "_law_now" "_law_now" Yu a.YB a.YC
 b_x_law_now:Binds K a.YC ["order"] []
 m_x_law_now:mg "_law_now"=some (.ref a.YB)
 Tr:Fun K "_law_both" "_law_both" U8 a.X5 a.X6
 b_x_law_both:Binds K a.X6 ["script"] []
 m_x_law_both:mg "_law_both"=some (.ref a.X5)
 zhc:Fun K "law" "law" Ud a.zb9 a.JB
 b_law:Binds K a.JB ["script"] []
 m_law:mg "law"=some (.ref a.zb9)
 c_Book:Cls K a.zf
 m_Book:mg "Book"=some (.ref a.zf)
 mk_Book:Mk K a.zf a.ZC
 na_Book_marks:YD K a.zf "marks"
 na_Book_rooms:YD K a.zf "rooms"
 na_Book_tables:YD K a.zf "tables"
 na_Book_numbers:YD K a.zf "numbers"
 x_law:∀(s:Shared) (u:Value),BindsTo s a.JB ⟨[u],[]⟩ [("script", u)]
 m_MARKS:mg "MARKS"=some (.ref a.Xj)
 q_MARKS:∀H,SqT K H a.Xj ((["a", "b", "c", "d", "e", "f", "g", "h"]:List Str).map V.str)
 m_MOST_TUPLES:mg "MOST_TUPLES"=some (.int 200 a.t_MOST_TUPLES)
 m_MOST_DEEP:mg "MOST_DEEP"=some (.int 24 a.t_MOST_DEEP)
 m_SHAPES:mg "SHAPES"=some (.ref a.u6)
 Tt:ze0 K P w a.u6 a.kv_SHAPES
 y_SHAPES:∀k m n,(k,m,n)∈wB->∃p,valueAt a.kv_SHAPES k=some (.ref p)/\∀H,SqT K H p [.int m,.int n]
 z_SHAPES:∀k,(∀e∈wB,e.1≠k)->valueAt a.kv_SHAPES k=none
 m_PAIRS:mg "PAIRS"=some (.ref a.uJ)
 q_PAIRS:∀H,SqT K H a.uJ [.ref a.Vs,.ref a.Vt,.ref a.Vu,.ref a.Vv]
 q_PAIRS_0:∀H,SqT K H a.Vs ((["a", "e"]:List Str).map V.str)
 q_PAIRS_1:∀H,SqT K H a.Vt ((["b", "f"]:List Str).map V.str)
 q_PAIRS_2:∀H,SqT K H a.Vu ((["c", "g"]:List Str).map V.str)
 q_PAIRS_3:∀H,SqT K H a.Vv ((["d", "h"]:List Str).map V.str)
 n_all:mg "all"=none
 n_isinstance:mg "isinstance"=none
 n_len:mg "len"=none
 n_list:mg "list"=none
 n_range:mg "range"=none
 n_reversed:mg "reversed"=none
 n_set:mg "set"=none
 n_sorted:mg "sorted"=none
 n_str:mg "str"=none
 n_sum:mg "sum"=none
 n_tuple:mg "tuple"=none
 n_zip:mg "zip"=none
theorem txt_mk {P:Program} {w:World} {K:PySem.W.Frag} {h:Heap} {mg:Str->Option Value} (X:K.In h) (G:h.Ns mainGlobals mg)
  {p_Book:Addr}
  {f0 f1 f2 f3 f4 f5 f6 f7 f8 f9 f10 f11 f12 f13 f14 f15 f16 f17 f18 f19 f20 f21 f22 f23 f24 f25 f26 f27 f28 f29 f30 f31 f32 f33 f34 f35 f36 f37 f38 f39 f40 f41 f42 f43 f44 f45 f46 f47 f48 f49 f50 f51 f52 f53 f54 f55 f56 f57 f58 f59 f60 f61 f62 f63 f64 f65 f66 f67 f68 f69:Addr} {d0 d1 d2 d3 d4 d5 d6 d7 d8 d9 d10 d11 d12 d13 d14 d15 d16 d17 d18 d19 d20 d21 d22 d23 d24 d25 d26 d27 d28 d29 d30 d31 d32 d33 d34 d35 d36 d37 d38 d39 d40 d41 d42 d43 d44 d45 d46 d47 d48 d49 d50 d51 d52 d53 d54 d55 d56 d57 d58 d59 d60 d61 d62 d63 d64 d65 d66 d67 d68 d69:FuncData}
  {p_MARKS:Addr}
  {od_MARKS:Option Addr} {it_MARKS:Array Value} {n_MARKS:Nat} {sl_MARKS:Array (Option Value)}
  {t_MOST_TUPLES:Tok}
  {t_MOST_DEEP:Tok}
  {p_SHAPES:Addr}
  {es_SHAPES:Array DictEntry} {ep_SHAPES:Nat}
  {tSHAPES_0:Tok} {pSHAPES_0:Addr} {odSHAPES_0:Option Addr} {itSHAPES_0:Array Value} {nSHAPES_0:Nat} {slSHAPES_0:Array (Option Value)}
  {tSHAPES_1:Tok} {pSHAPES_1:Addr} {odSHAPES_1:Option Addr} {itSHAPES_1:Array Value} {nSHAPES_1:Nat} {slSHAPES_1:Array (Option Value)}
  {tSHAPES_2:Tok} {pSHAPES_2:Addr} {odSHAPES_2:Option Addr} {itSHAPES_2:Array Value} {nSHAPES_2:Nat} {slSHAPES_2:Array (Option Value)}
  {tSHAPES_3:Tok} {pSHAPES_3:Addr} {odSHAPES_3:Option Addr} {itSHAPES_3:Array Value} {nSHAPES_3:Nat} {slSHAPES_3:Array (Option Value)}
  {tSHAPES_4:Tok} {pSHAPES_4:Addr} {odSHAPES_4:Option Addr} {itSHAPES_4:Array Value} {nSHAPES_4:Nat} {slSHAPES_4:Array (Option Value)}
  {tSHAPES_5:Tok} {pSHAPES_5:Addr} {odSHAPES_5:Option Addr} {itSHAPES_5:Array Value} {nSHAPES_5:Nat} {slSHAPES_5:Array (Option Value)}
  {tSHAPES_6:Tok} {pSHAPES_6:Addr} {odSHAPES_6:Option Addr} {itSHAPES_6:Array Value} {nSHAPES_6:Nat} {slSHAPES_6:Array (Option Value)}
  {tSHAPES_7:Tok} {pSHAPES_7:Addr} {odSHAPES_7:Option Addr} {itSHAPES_7:Array Value} {nSHAPES_7:Nat} {slSHAPES_7:Array (Option Value)}
  {tSHAPES_8:Tok} {pSHAPES_8:Addr} {odSHAPES_8:Option Addr} {itSHAPES_8:Array Value} {nSHAPES_8:Nat} {slSHAPES_8:Array (Option Value)}
  {tSHAPES_9:Tok} {pSHAPES_9:Addr} {odSHAPES_9:Option Addr} {itSHAPES_9:Array Value} {nSHAPES_9:Nat} {slSHAPES_9:Array (Option Value)}
  {p_PAIRS:Addr}
  {od_PAIRS:Option Addr} {it_PAIRS:Array Value} {n_PAIRS:Nat} {sl_PAIRS:Array (Option Value)}
  {p_PAIRS_0:Addr} {od_PAIRS_0:Option Addr} {it_PAIRS_0:Array Value} {n_PAIRS_0:Nat} {sl_PAIRS_0:Array (Option Value)}
  {p_PAIRS_1:Addr} {od_PAIRS_1:Option Addr} {it_PAIRS_1:Array Value} {n_PAIRS_1:Nat} {sl_PAIRS_1:Array (Option Value)}
  {p_PAIRS_2:Addr} {od_PAIRS_2:Option Addr} {it_PAIRS_2:Array Value} {n_PAIRS_2:Nat} {sl_PAIRS_2:Array (Option Value)}
  {p_PAIRS_3:Addr} {od_PAIRS_3:Option Addr} {it_PAIRS_3:Array Value} {n_PAIRS_3:Nat} {sl_PAIRS_3:Array (Option Value)}
  (zf:PySem.W.nsIn K mainGlobals "Book"=some (some (.ref p_Book)))
  (a0:PySem.W.nsIn K mainGlobals "all_rows"=some (some (.ref f0)))
  (F0:Fun K "all_rows" "all_rows" Qp f0 d0)
  (a1:PySem.W.nsIn K mainGlobals "rows_with"=some (some (.ref f1)))
  (F1:Fun K "rows_with" "rows_with" Rq f1 d1)
  (a2:PySem.W.nsIn K mainGlobals "flipped"=some (some (.ref f2)))
  (F2:Fun K "flipped" "flipped" PJ f2 d2)
  (a3:PySem.W.nsIn K mainGlobals "held_at"=some (some (.ref f3)))
  (F3:Fun K "held_at" "held_at" PK f3 d3)
  (a4:PySem.W.nsIn K mainGlobals "hangs_on"=some (some (.ref f4)))
  (F4:Fun K "hangs_on" "hangs_on" Qq f4 d4)
  (a5:PySem.W.nsIn K mainGlobals "first_place"=some (some (.ref f5)))
  (F5:Fun K "first_place" "first_place" VL f5 d5)
  (a6:PySem.W.nsIn K mainGlobals "without"=some (some (.ref f6)))
  (F6:Fun K "without" "without" PL f6 d6)
  (a7:PySem.W.nsIn K mainGlobals "rows_having"=some (some (.ref f7)))
  (F7:Fun K "rows_having" "rows_having" VN f7 d7)
  (a8:PySem.W.nsIn K mainGlobals "first_values"=some (some (.ref f8)))
  (F8:Fun K "first_values" "first_values" Wt f8 d8)
  (a9:PySem.W.nsIn K mainGlobals "chosen"=some (some (.ref f9)))
  (F9:Fun K "chosen" "chosen" KC f9 d9)
  (a10:PySem.W.nsIn K mainGlobals "is_mark"=some (some (.ref f10)))
  (F10:Fun K "is_mark" "is_mark" PN f10 d10)
  (a11:PySem.W.nsIn K mainGlobals "is_order"=some (some (.ref f11)))
  (F11:Fun K "is_order" "is_order" Xu f11 d11)
  (a12:PySem.W.nsIn K mainGlobals "is_row"=some (some (.ref f12)))
  (F12:Fun K "is_row" "is_row" UL f12 d12)
  (a13:PySem.W.nsIn K mainGlobals "letters_of"=some (some (.ref f13)))
  (F13:Fun K "letters_of" "letters_of" UW f13 d13)
  (a14:PySem.W.nsIn K mainGlobals "parts_of"=some (some (.ref f14)))
  (F14:Fun K "parts_of" "parts_of" Qs f14 d14)
  (a15:PySem.W.nsIn K mainGlobals "parts_of_all"=some (some (.ref f15)))
  (F15:Fun K "parts_of_all" "parts_of_all" Wu f15 d15)
  (a16:PySem.W.nsIn K mainGlobals "is_shaped"=some (some (.ref f16)))
  (F16:Fun K "is_shaped" "is_shaped" uY f16 d16)
  (a17:PySem.W.nsIn K mainGlobals "is_sentence"=some (some (.ref f17)))
  (F17:Fun K "is_sentence" "is_sentence" Zu f17 d17)
  (a18:PySem.W.nsIn K mainGlobals "must_be_order"=some (some (.ref f18)))
  (F18:Fun K "must_be_order" "must_be_order" Xv f18 d18)
  (a19:PySem.W.nsIn K mainGlobals "must_be_sentence"=some (some (.ref f19)))
  (F19:Fun K "must_be_sentence" "must_be_sentence" ZR f19 d19)
  (a20:PySem.W.nsIn K mainGlobals "must_have_mark"=some (some (.ref f20)))
  (F20:Fun K "must_have_mark" "must_have_mark" Y6 f20 d20)
  (a21:PySem.W.nsIn K mainGlobals "must_have_marks"=some (some (.ref f21)))
  (F21:Fun K "must_have_marks" "must_have_marks" Yo f21 d21)
  (a22:PySem.W.nsIn K mainGlobals "must_be_row"=some (some (.ref f22)))
  (F22:Fun K "must_be_row" "must_be_row" VP f22 d22)
  (a23:PySem.W.nsIn K mainGlobals "tuples_in"=some (some (.ref f23)))
  (F23:Fun K "tuples_in" "tuples_in" Rr f23 d23)
  (a24:PySem.W.nsIn K mainGlobals "letters_in"=some (some (.ref f24)))
  (F24:Fun K "letters_in" "letters_in" U0 f24 d24)
  (a25:PySem.W.nsIn K mainGlobals "table_of"=some (some (.ref f25)))
  (F25:Fun K "table_of" "table_of" Xw f25 d25)
  (a26:PySem.W.nsIn K mainGlobals "table_of_two"=some (some (.ref f26)))
  (F26:Fun K "table_of_two" "table_of_two" Wv f26 d26)
  (a27:PySem.W.nsIn K mainGlobals "now_marks"=some (some (.ref f27)))
  (F27:Fun K "now_marks" "now_marks" Yt f27 d27)
  (a28:PySem.W.nsIn K mainGlobals "then_marks"=some (some (.ref f28)))
  (F28:Fun K "then_marks" "then_marks" ZS f28 d28)
  (a29:PySem.W.nsIn K mainGlobals "now_places"=some (some (.ref f29)))
  (F29:Fun K "now_places" "now_places" ZV f29 d29)
  (a30:PySem.W.nsIn K mainGlobals "then_places"=some (some (.ref f30)))
  (F30:Fun K "then_places" "then_places" Zv f30 d30)
  (a31:PySem.W.nsIn K mainGlobals "must_be_world"=some (some (.ref f31)))
  (F31:Fun K "must_be_world" "must_be_world" Xx f31 d31)
  (a32:PySem.W.nsIn K mainGlobals "must_be_of_now"=some (some (.ref f32)))
  (F32:Fun K "must_be_of_now" "must_be_of_now" Y7 f32 d32)
  (a33:PySem.W.nsIn K mainGlobals "must_be_world_with"=some (some (.ref f33)))
  (F33:Fun K "must_be_world_with" "must_be_world_with" Zg f33 d33)
  (a34:PySem.W.nsIn K mainGlobals "image"=some (some (.ref f34)))
  (F34:Fun K "image" "image" zat f34 d34)
  (a35:PySem.W.nsIn K mainGlobals "preimage"=some (some (.ref f35)))
  (F35:Fun K "preimage" "preimage" Qt f35 d35)
  (a36:PySem.W.nsIn K mainGlobals "after"=some (some (.ref f36)))
  (F36:Fun K "after" "after" zau f36 d36)
  (a37:PySem.W.nsIn K mainGlobals "before"=some (some (.ref f37)))
  (F37:Fun K "before" "before" KD f37 d37)
  (a38:PySem.W.nsIn K mainGlobals "for_any"=some (some (.ref f38)))
  (F38:Fun K "for_any" "for_any" PX f38 d38)
  (a39:PySem.W.nsIn K mainGlobals "moved"=some (some (.ref f39)))
  (F39:Fun K "moved" "moved" zav f39 d39)
  (a40:PySem.W.nsIn K mainGlobals "rounds"=some (some (.ref f40)))
  (F40:Fun K "rounds" "rounds" U3 f40 d40)
  (a41:PySem.W.nsIn K mainGlobals "round_tables"=some (some (.ref f41)))
  (F41:Fun K "round_tables" "round_tables" Ww f41 d41)
  (a42:PySem.W.nsIn K mainGlobals "reached"=some (some (.ref f42)))
  (F42:Fun K "reached" "reached" P0 f42 d42)
  (a43:PySem.W.nsIn K mainGlobals "stays"=some (some (.ref f43)))
  (F43:Fun K "stays" "stays" zaw f43 d43)
  (a44:PySem.W.nsIn K mainGlobals "way_to"=some (some (.ref f44)))
  (F44:Fun K "way_to" "way_to" KH f44 d44)
  (a45:PySem.W.nsIn K mainGlobals "way_through"=some (some (.ref f45)))
  (F45:Fun K "way_through" "way_through" VR f45 d45)
  (a46:PySem.W.nsIn K mainGlobals "first_of_now"=some (some (.ref f46)))
  (F46:Fun K "first_of_now" "first_of_now" Wx f46 d46)
  (a47:PySem.W.nsIn K mainGlobals "only"=some (some (.ref f47)))
  (F47:Fun K "only" "only" zch f47 d47)
  (a48:PySem.W.nsIn K mainGlobals "way_shows"=some (some (.ref f48)))
  (F48:Fun K "way_shows" "way_shows" uZ f48 d48)
  (a49:PySem.W.findIn K (.ref p_Book) "__init__"=some (some (.ref f49)))
  (i49:PySem.W.isFn K (.ref f49)=true)
  (F49:Fun K "__init__" "Book.__init__" Rt f49 d49)
  (a50:PySem.W.findIn K (.ref p_Book) "order"=some (some (.ref f50)))
  (i50:PySem.W.isFn K (.ref f50)=true)
  (F50:Fun K "order" "Book.order" U4 f50 d50)
  (a51:PySem.W.findIn K (.ref p_Book) "size"=some (some (.ref f51)))
  (i51:PySem.W.isFn K (.ref f51)=true)
  (F51:Fun K "size" "Book.size" Ru f51 d51)
  (a52:PySem.W.findIn K (.ref p_Book) "enter"=some (some (.ref f52)))
  (i52:PySem.W.isFn K (.ref f52)=true)
  (F52:Fun K "enter" "Book.enter" U5 f52 d52)
  (a53:PySem.W.findIn K (.ref p_Book) "room"=some (some (.ref f53)))
  (i53:PySem.W.isFn K (.ref f53)=true)
  (F53:Fun K "room" "Book.room" Rv f53 d53)
  (a54:PySem.W.findIn K (.ref p_Book) "must_be_room"=some (some (.ref f54)))
  (i54:PySem.W.isFn K (.ref f54)=true)
  (F54:Fun K "must_be_room" "Book.must_be_room" ZK f54 d54)
  (a55:PySem.W.findIn K (.ref p_Book) "place_of"=some (some (.ref f55)))
  (i55:PySem.W.isFn K (.ref f55)=true)
  (F55:Fun K "place_of" "Book.place_of" Xy f55 d55)
  (a56:PySem.W.findIn K (.ref p_Book) "going"=some (some (.ref f56)))
  (i56:PySem.W.isFn K (.ref f56)=true)
  (F56:Fun K "going" "Book.going" U6 f56 d56)
  (a57:PySem.W.findIn K (.ref p_Book) "led"=some (some (.ref f57)))
  (i57:PySem.W.isFn K (.ref f57)=true)
  (F57:Fun K "led" "Book.led" Jv f57 d57)
  (a58:PySem.W.findIn K (.ref p_Book) "table_at"=some (some (.ref f58)))
  (i58:PySem.W.isFn K (.ref f58)=true)
  (F58:Fun K "table_at" "Book.table_at" Xz f58 d58)
  (a59:PySem.W.findIn K (.ref p_Book) "room_with"=some (some (.ref f59)))
  (i59:PySem.W.isFn K (.ref f59)=true)
  (F59:Fun K "room_with" "Book.room_with" Y8 f59 d59)
  (a60:PySem.W.nsIn K mainGlobals "reordered"=some (some (.ref f60)))
  (F60:Fun K "reordered" "reordered" Rw f60 d60)
  (a61:PySem.W.nsIn K mainGlobals "rooms_in"=some (some (.ref f61)))
  (F61:Fun K "rooms_in" "rooms_in" Qu f61 d61)
  (a62:PySem.W.nsIn K mainGlobals "room_in"=some (some (.ref f62)))
  (F62:Fun K "room_in" "room_in" Nb f62 d62)
  (a63:PySem.W.nsIn K mainGlobals "_law_cell_at"=some (some (.ref f63)))
  (F63:Fun K "_law_cell_at" "_law_cell_at" XC f63 d63)
  (a64:PySem.W.nsIn K mainGlobals "_law_draw"=some (some (.ref f64)))
  (F64:Fun K "_law_draw" "_law_draw" U7 f64 d64)
  (a65:PySem.W.nsIn K mainGlobals "_law_sentence"=some (some (.ref f65)))
  (F65:Fun K "_law_sentence" "_law_sentence" vf f65 d65)
  (a66:PySem.W.nsIn K mainGlobals "_law_world"=some (some (.ref f66)))
  (F66:Fun K "_law_world" "_law_world" V0 f66 d66)
  (a67:PySem.W.nsIn K mainGlobals "_law_now"=some (some (.ref f67)))
  (F67:Fun K "_law_now" "_law_now" Yu f67 d67)
  (a68:PySem.W.nsIn K mainGlobals "_law_both"=some (some (.ref f68)))
  (F68:Fun K "_law_both" "_law_both" U8 f68 d68)
  (a69:PySem.W.nsIn K mainGlobals "law"=some (some (.ref f69)))
  (F69:Fun K "law" "law" Ud f69 d69)
  (pg_Book:PySem.W.plainGet K p_Book Str.empty=true)
  (hd_Book:PySem.W.hasDictIn K p_Book=true)
  (po_Book:PySem.W.plainOver K p_Book=true)
  (sa_Book:PySem.W.findIn K (.ref p_Book) "__setattr__"=some (some (.builtin "object.__setattr__")))
  (mk_Book:PySem.W.makesIn K p_Book=true)
  (kc_Book:PySem.W.keepIn K (.ref p_Book)=true)
  (na_Book_marks:PySem.W.findIn K (.ref p_Book) "marks"=some none)
  (na_Book_rooms:PySem.W.findIn K (.ref p_Book) "rooms"=some none)
  (na_Book_tables:PySem.W.findIn K (.ref p_Book) "tables"=some none)
  (na_Book_numbers:PySem.W.findIn K (.ref p_Book) "numbers"=some none)
  (Xj:PySem.W.nsIn K mainGlobals "MARKS"=some (some (.ref p_MARKS)))
  (l_MARKS:K.lookup p_MARKS=some ⟨.type "tuple", od_MARKS,.seq it_MARKS n_MARKS,sl_MARKS⟩)
  (v_MARKS:it_MARKS.toList.map u9=((["a", "b", "c", "d", "e", "f", "g", "h"]:List Str).map V.str).map some)
  (V9:PySem.W.nsIn K mainGlobals "MOST_TUPLES"=some (some (.int 200 t_MOST_TUPLES)))
  (RJ:PySem.W.nsIn K mainGlobals "MOST_DEEP"=some (some (.int 24 t_MOST_DEEP)))
  (u6:PySem.W.nsIn K mainGlobals "SHAPES"=some (some (.ref p_SHAPES)))
  (l_SHAPES:K.lookup p_SHAPES=some ⟨.type "dict", none,.dict es_SHAPES ep_SHAPES,#[]⟩)
  (e_SHAPES:es_SHAPES.toList=[⟨hashStr w "yes", .str "yes" tSHAPES_0,.ref pSHAPES_0⟩,⟨hashStr w "no", .str "no" tSHAPES_1,.ref pSHAPES_1⟩,⟨hashStr w "mark", .str "mark" tSHAPES_2,.ref pSHAPES_2⟩,⟨hashStr w "not", .str "not" tSHAPES_3,.ref pSHAPES_3⟩,⟨hashStr w "and", .str "and" tSHAPES_4,.ref pSHAPES_4⟩,⟨hashStr w "or", .str "or" tSHAPES_5,.ref pSHAPES_5⟩,⟨hashStr w "either", .str "either" tSHAPES_6,.ref pSHAPES_6⟩,⟨hashStr w "if", .str "if" tSHAPES_7,.ref pSHAPES_7⟩,⟨hashStr w "some", .str "some" tSHAPES_8,.ref pSHAPES_8⟩,⟨hashStr w "each", .str "each" tSHAPES_9,.ref pSHAPES_9⟩])
  (s_SHAPES:(p_SHAPES==sysModules)=false)
  (lSHAPES_0:K.lookup pSHAPES_0=some ⟨.type "tuple", odSHAPES_0,.seq itSHAPES_0 nSHAPES_0,slSHAPES_0⟩)
  (vSHAPES_0:itSHAPES_0.toList.map u9=[V.int 0,V.int 0].map some)
  (lSHAPES_1:K.lookup pSHAPES_1=some ⟨.type "tuple", odSHAPES_1,.seq itSHAPES_1 nSHAPES_1,slSHAPES_1⟩)
  (vSHAPES_1:itSHAPES_1.toList.map u9=[V.int 0,V.int 0].map some)
  (lSHAPES_2:K.lookup pSHAPES_2=some ⟨.type "tuple", odSHAPES_2,.seq itSHAPES_2 nSHAPES_2,slSHAPES_2⟩)
  (vSHAPES_2:itSHAPES_2.toList.map u9=[V.int 1,V.int 0].map some)
  (lSHAPES_3:K.lookup pSHAPES_3=some ⟨.type "tuple", odSHAPES_3,.seq itSHAPES_3 nSHAPES_3,slSHAPES_3⟩)
  (vSHAPES_3:itSHAPES_3.toList.map u9=[V.int 0,V.int 1].map some)
  (lSHAPES_4:K.lookup pSHAPES_4=some ⟨.type "tuple", odSHAPES_4,.seq itSHAPES_4 nSHAPES_4,slSHAPES_4⟩)
  (vSHAPES_4:itSHAPES_4.toList.map u9=[V.int 0,V.int 2].map some)
  (lSHAPES_5:K.lookup pSHAPES_5=some ⟨.type "tuple", odSHAPES_5,.seq itSHAPES_5 nSHAPES_5,slSHAPES_5⟩)
  (vSHAPES_5:itSHAPES_5.toList.map u9=[V.int 0,V.int 2].map some)
  (lSHAPES_6:K.lookup pSHAPES_6=some ⟨.type "tuple", odSHAPES_6,.seq itSHAPES_6 nSHAPES_6,slSHAPES_6⟩)
  (vSHAPES_6:itSHAPES_6.toList.map u9=[V.int 0,V.int 2].map some)
  (lSHAPES_7:K.lookup pSHAPES_7=some ⟨.type "tuple", odSHAPES_7,.seq itSHAPES_7 nSHAPES_7,slSHAPES_7⟩)
  (vSHAPES_7:itSHAPES_7.toList.map u9=[V.int 0,V.int 2].map some)
  (lSHAPES_8:K.lookup pSHAPES_8=some ⟨.type "tuple", odSHAPES_8,.seq itSHAPES_8 nSHAPES_8,slSHAPES_8⟩)
  (vSHAPES_8:itSHAPES_8.toList.map u9=[V.int 1,V.int 1].map some)
  (lSHAPES_9:K.lookup pSHAPES_9=some ⟨.type "tuple", odSHAPES_9,.seq itSHAPES_9 nSHAPES_9,slSHAPES_9⟩)
  (vSHAPES_9:itSHAPES_9.toList.map u9=[V.int 1,V.int 1].map some)
  (uJ:PySem.W.nsIn K mainGlobals "PAIRS"=some (some (.ref p_PAIRS)))
  (l_PAIRS:K.lookup p_PAIRS=some ⟨.type "tuple", od_PAIRS,.seq it_PAIRS n_PAIRS,sl_PAIRS⟩)
  (v_PAIRS:it_PAIRS.toList.map u9=([.ref p_PAIRS_0,.ref p_PAIRS_1,.ref p_PAIRS_2,.ref p_PAIRS_3]:List V).map some)
  (l_PAIRS_0:K.lookup p_PAIRS_0=some ⟨.type "tuple", od_PAIRS_0,.seq it_PAIRS_0 n_PAIRS_0,sl_PAIRS_0⟩)
  (v_PAIRS_0:it_PAIRS_0.toList.map u9=((["a", "e"]:List Str).map V.str).map some)
  (l_PAIRS_1:K.lookup p_PAIRS_1=some ⟨.type "tuple", od_PAIRS_1,.seq it_PAIRS_1 n_PAIRS_1,sl_PAIRS_1⟩)
  (v_PAIRS_1:it_PAIRS_1.toList.map u9=((["b", "f"]:List Str).map V.str).map some)
  (l_PAIRS_2:K.lookup p_PAIRS_2=some ⟨.type "tuple", od_PAIRS_2,.seq it_PAIRS_2 n_PAIRS_2,sl_PAIRS_2⟩)
  (v_PAIRS_2:it_PAIRS_2.toList.map u9=((["c", "g"]:List Str).map V.str).map some)
  (l_PAIRS_3:K.lookup p_PAIRS_3=some ⟨.type "tuple", od_PAIRS_3,.seq it_PAIRS_3 n_PAIRS_3,sl_PAIRS_3⟩)
  (v_PAIRS_3:it_PAIRS_3.toList.map u9=((["d", "h"]:List Str).map V.str).map some)
  (z_all:PySem.W.nsIn K mainGlobals "all"=some none)
  (z_isinstance:PySem.W.nsIn K mainGlobals "isinstance"=some none)
  (z_len:PySem.W.nsIn K mainGlobals "len"=some none)
  (z_list:PySem.W.nsIn K mainGlobals "list"=some none)
  (z_range:PySem.W.nsIn K mainGlobals "range"=some none)
  (z_reversed:PySem.W.nsIn K mainGlobals "reversed"=some none)
  (z_set:PySem.W.nsIn K mainGlobals "set"=some none)
  (z_sorted:PySem.W.nsIn K mainGlobals "sorted"=some none)
  (z_str:PySem.W.nsIn K mainGlobals "str"=some none)
  (z_sum:PySem.W.nsIn K mainGlobals "sum"=some none)
  (z_tuple:PySem.W.nsIn K mainGlobals "tuple"=some none)
  (z_zip:PySem.W.nsIn K mainGlobals "zip"=some none) :
  ∃a:Ad,Txt P w K mg a:=by
 exact⟨⟨f0,d0,f1,d1,f2,d2,f3,d3,f4,d4,f5,d5,f6,d6,f7,d7,f8,d8,f9,d9,f10,d10,f11,d11,f12,d12,f13,d13,f14,d14,f15,d15,f16,d16,f17,d17,f18,d18,f19,d19,f20,d20,f21,d21,f22,d22,f23,d23,f24,d24,f25,d25,f26,d26,f27,d27,f28,d28,f29,d29,f30,d30,f31,d31,f32,d32,f33,d33,f34,d34,f35,d35,f36,d36,f37,d37,f38,d38,f39,d39,f40,d40,f41,d41,f42,d42,f43,d43,f44,d44,f45,d45,f46,d46,f47,d47,f48,d48,f49,d49,f50,d50,f51,d51,f52,d52,f53,d53,f54,d54,f55,d55,f56,d56,f57,d57,f58,d58,f59,d59,f60,d60,f61,d61,f62,d62,f63,d63,f64,d64,f65,d65,f66,d66,f67,d67,f68,d68,f69,d69,p_Book,p_MARKS,t_MOST_TUPLES,t_MOST_DEEP,p_SHAPES,[("yes", .ref pSHAPES_0),("no", .ref pSHAPES_1),("mark", .ref pSHAPES_2),("not", .ref pSHAPES_3),("and", .ref pSHAPES_4),("or", .ref pSHAPES_5),("either", .ref pSHAPES_6),("if", .ref pSHAPES_7),("some", .ref pSHAPES_8),("each", .ref pSHAPES_9)],p_PAIRS,p_PAIRS_0,p_PAIRS_1,p_PAIRS_2,p_PAIRS_3⟩,{
  m_Book:=PySem.W.mg_of X G zf
  uV:=F0
  b_all_rows:=F0.binds fun _ _ _ _ _ _ us hl=>by obtain⟨_,rfl⟩:=vX hl; rfl
  m_all_rows:=PySem.W.mg_of X G a0
  vY:=F1
  b_rows_with:=F1.binds fun _ _ _ _ _ _ us hl=>by obtain⟨_,_,rfl⟩:=tG hl; rfl
  m_rows_with:=PySem.W.mg_of X G a1
  Z6:=F2
  b_flipped:=F2.binds fun _ _ _ _ _ _ us hl=>by obtain⟨_,_,_,rfl⟩:=Zt hl; rfl
  m_flipped:=PySem.W.mg_of X G a2
  Ze:=F3
  b_held_at:=F3.binds fun _ _ _ _ _ _ us hl=>by obtain⟨_,_,_,_,rfl⟩:=Pn hl; rfl
  m_held_at:=PySem.W.mg_of X G a3
  Um:=F4
  b_hangs_on:=F4.binds fun _ _ _ _ _ _ us hl=>by obtain⟨_,_,_,rfl⟩:=Zt hl; rfl
  m_hangs_on:=PySem.W.mg_of X G a4
  V3:=F5
  b_first_place:=F5.binds fun _ _ _ _ _ _ us hl=>by obtain⟨_,_,rfl⟩:=tG hl; rfl
  m_first_place:=PySem.W.mg_of X G a5
  Vw:=F6
  b_without:=F6.binds fun _ _ _ _ _ _ us hl=>by obtain⟨_,_,rfl⟩:=tG hl; rfl
  m_without:=PySem.W.mg_of X G a6
  V4:=F7
  b_rows_having:=F7.binds fun _ _ _ _ _ _ us hl=>by obtain⟨_,_,_,rfl⟩:=Zt hl; rfl
  m_rows_having:=PySem.W.mg_of X G a7
  WM:=F8
  b_first_values:=F8.binds fun _ _ _ _ _ _ us hl=>by obtain⟨_,_,_,rfl⟩:=Zt hl; rfl
  m_first_values:=PySem.W.mg_of X G a8
  QF:=F9
  b_chosen:=F9.binds fun _ _ _ _ _ _ us hl=>by obtain⟨_,_,_,rfl⟩:=Zt hl; rfl
  m_chosen:=PySem.W.mg_of X G a9
  S9:=F10
  b_is_mark:=F10.binds fun _ _ _ _ _ _ us hl=>by obtain⟨_,rfl⟩:=vX hl; rfl
  m_is_mark:=PySem.W.mg_of X G a10
  QG:=F11
  b_is_order:=F11.binds fun _ _ _ _ _ _ us hl=>by obtain⟨_,rfl⟩:=vX hl; rfl
  m_is_order:=PySem.W.mg_of X G a11
  KY:=F12
  b_is_row:=F12.binds fun _ _ _ _ _ _ us hl=>by obtain⟨_,_,rfl⟩:=tG hl; rfl
  m_is_row:=PySem.W.mg_of X G a12
  X7:=F13
  b_letters_of:=F13.binds fun _ _ _ _ _ _ us hl=>by obtain⟨_,rfl⟩:=vX hl; rfl
  m_letters_of:=PySem.W.mg_of X G a13
  X8:=F14
  b_parts_of:=F14.binds fun _ _ _ _ _ _ us hl=>by obtain⟨_,rfl⟩:=vX hl; rfl
  m_parts_of:=PySem.W.mg_of X G a14
  Yj:=F15
  b_parts_of_all:=F15.binds fun _ _ _ _ _ _ us hl=>by obtain⟨_,rfl⟩:=vX hl; rfl
  m_parts_of_all:=PySem.W.mg_of X G a15
  Ry:=F16
  b_is_shaped:=F16.binds fun _ _ _ _ _ _ us hl=>by obtain⟨_,rfl⟩:=vX hl; rfl
  m_is_shaped:=PySem.W.mg_of X G a16
  V5:=F17
  b_is_sentence:=F17.binds fun _ _ _ _ _ _ us hl=>by obtain⟨_,rfl⟩:=vX hl; rfl
  m_is_sentence:=PySem.W.mg_of X G a17
  Wa:=F18
  b_must_be_order:=F18.binds fun _ _ _ _ _ _ us hl=>by obtain⟨_,rfl⟩:=vX hl; rfl
  m_must_be_order:=PySem.W.mg_of X G a18
  Z7:=F19
  b_must_be_sentence:=F19.binds fun _ _ _ _ _ _ us hl=>by obtain⟨_,rfl⟩:=vX hl; rfl
  m_must_be_sentence:=PySem.W.mg_of X G a19
  Y9:=F20
  b_must_have_mark:=F20.binds fun _ _ _ _ _ _ us hl=>by obtain⟨_,_,rfl⟩:=tG hl; rfl
  m_must_have_mark:=PySem.W.mg_of X G a20
  Yp:=F21
  b_must_have_marks:=F21.binds fun _ _ _ _ _ _ us hl=>by obtain⟨_,_,rfl⟩:=tG hl; rfl
  m_must_have_marks:=PySem.W.mg_of X G a21
  V6:=F22
  b_must_be_row:=F22.binds fun _ _ _ _ _ _ us hl=>by obtain⟨_,_,rfl⟩:=tG hl; rfl
  m_must_be_row:=PySem.W.mg_of X G a22
  Rz:=F23
  b_tuples_in:=F23.binds fun _ _ _ _ _ _ us hl=>by obtain⟨_,rfl⟩:=vX hl; rfl
  m_tuples_in:=PySem.W.mg_of X G a23
  Tn:=F24
  b_letters_in:=F24.binds fun _ _ _ _ _ _ us hl=>by obtain⟨_,rfl⟩:=vX hl; rfl
  m_letters_in:=PySem.W.mg_of X G a24
  Uo:=F25
  b_table_of:=F25.binds fun _ _ _ _ _ _ us hl=>by obtain⟨_,_,rfl⟩:=tG hl; rfl
  m_table_of:=PySem.W.mg_of X G a25
  WQ:=F26
  b_table_of_two:=F26.binds fun _ _ _ _ _ _ us hl=>by obtain⟨_,_,_,_,rfl⟩:=Pn hl; rfl
  m_table_of_two:=PySem.W.mg_of X G a26
  Vk:=F27
  b_now_marks:=F27.binds fun _ _ _ _ _ _ us hl=>by obtain⟨_,rfl⟩:=vX hl; rfl
  m_now_marks:=PySem.W.mg_of X G a27
  Tp:=F28
  b_then_marks:=F28.binds fun _ _ _ _ _ _ us hl=>by obtain⟨_,rfl⟩:=vX hl; rfl
  m_then_marks:=PySem.W.mg_of X G a28
  uD:=F29
  b_now_places:=F29.binds fun _ _ _ _ _ _ us hl=>by obtain⟨_,rfl⟩:=vX hl; rfl
  m_now_places:=PySem.W.mg_of X G a29
  uK:=F30
  b_then_places:=F30.binds fun _ _ _ _ _ _ us hl=>by obtain⟨_,rfl⟩:=vX hl; rfl
  m_then_places:=PySem.W.mg_of X G a30
  Wb:=F31
  b_must_be_world:=F31.binds fun _ _ _ _ _ _ us hl=>by obtain⟨_,rfl⟩:=vX hl; rfl
  m_must_be_world:=PySem.W.mg_of X G a31
  Xa:=F32
  b_must_be_of_now:=F32.binds fun _ _ _ _ _ _ us hl=>by obtain⟨_,_,rfl⟩:=tG hl; rfl
  m_must_be_of_now:=PySem.W.mg_of X G a32
  yR:=F33
  b_must_be_world_with:=F33.binds fun _ _ _ _ _ _ us hl=>by obtain⟨_,_,_,rfl⟩:=Zt hl; rfl
  m_must_be_world_with:=PySem.W.mg_of X G a33
  M7:=F34
  b_image:=F34.binds fun _ _ _ _ _ _ us hl=>by obtain⟨_,_,_,rfl⟩:=Zt hl; rfl
  m_image:=PySem.W.mg_of X G a34
  Uq:=F35
  b_preimage:=F35.binds fun _ _ _ _ _ _ us hl=>by obtain⟨_,_,_,rfl⟩:=Zt hl; rfl
  m_preimage:=PySem.W.mg_of X G a35
  RZ:=F36
  b_after:=F36.binds fun _ _ _ _ _ _ us hl=>by obtain⟨_,_,_,rfl⟩:=Zt hl; rfl
  m_after:=PySem.W.mg_of X G a36
  WR:=F37
  b_before:=F37.binds fun _ _ _ _ _ _ us hl=>by obtain⟨_,_,_,rfl⟩:=Zt hl; rfl
  m_before:=PySem.W.mg_of X G a37
  Ra:=F38
  b_for_any:=F38.binds fun _ _ _ _ _ _ us hl=>by obtain⟨_,_,_,rfl⟩:=Zt hl; rfl
  m_for_any:=PySem.W.mg_of X G a38
  M8:=F39
  b_moved:=F39.binds fun _ _ _ _ _ _ us hl=>by obtain⟨_,_,_,_,rfl⟩:=Pn hl; rfl
  m_moved:=PySem.W.mg_of X G a39
  QJ:=F40
  b_rounds:=F40.binds fun _ _ _ _ _ _ us hl=>by obtain⟨_,_,_,rfl⟩:=Zt hl; rfl
  m_rounds:=PySem.W.mg_of X G a40
  tW:=F41
  b_round_tables:=F41.binds fun _ _ _ _ _ _ us hl=>by obtain⟨_,_,_,rfl⟩:=Zt hl; rfl
  m_round_tables:=PySem.W.mg_of X G a41
  Rb:=F42
  b_reached:=F42.binds fun _ _ _ _ _ _ us hl=>by obtain⟨_,_,_,rfl⟩:=Zt hl; rfl
  m_reached:=PySem.W.mg_of X G a42
  M9:=F43
  b_stays:=F43.binds fun _ _ _ _ _ _ us hl=>by obtain⟨_,_,_,rfl⟩:=Zt hl; rfl
  m_stays:=PySem.W.mg_of X G a43
  QK:=F44
  b_way_to:=F44.binds fun _ _ _ _ _ _ us hl=>by obtain⟨_,_,_,_,rfl⟩:=Pn hl; rfl
  m_way_to:=PySem.W.mg_of X G a44
  V7:=F45
  b_way_through:=F45.binds fun _ _ _ _ _ _ us hl=>by obtain⟨_,_,_,_,rfl⟩:=Pn hl; rfl
  m_way_through:=PySem.W.mg_of X G a45
  Yk:=F46
  b_first_of_now:=F46.binds fun _ _ _ _ _ _ us hl=>by obtain⟨_,_,rfl⟩:=tG hl; rfl
  m_first_of_now:=PySem.W.mg_of X G a46
  JC:=F47
  b_only:=F47.binds fun _ _ _ _ _ _ us hl=>by obtain⟨_,_,rfl⟩:=tG hl; rfl
  m_only:=PySem.W.mg_of X G a47
  RD:=F48
  b_way_shows:=F48.binds fun _ _ _ _ _ _ us hl=>by obtain⟨_,_,_,_,_,rfl⟩:=zjT hl; rfl
  m_way_shows:=PySem.W.mg_of X G a48
  LK:=F49
  b_Book_init:=F49.binds fun _ _ _ _ _ _ us hl=>by obtain⟨_,_,rfl⟩:=tG hl; rfl
  e_Book_init:=⟨a49,i49,F49.2⟩
  mk_Book:=⟨mk_Book,a49,i49,kc_Book⟩
  Np:=F50
  b_Book_order:=F50.binds fun _ _ _ _ _ _ us hl=>by obtain⟨_,rfl⟩:=vX hl; rfl
  e_Book_order:=⟨a50,i50,F50.2⟩
  LQ:=F51
  b_Book_size:=F51.binds fun _ _ _ _ _ _ us hl=>by obtain⟨_,rfl⟩:=vX hl; rfl
  e_Book_size:=⟨a51,i51,F51.2⟩
  Nq:=F52
  b_Book_enter:=F52.binds fun _ _ _ _ _ _ us hl=>by obtain⟨_,_,rfl⟩:=tG hl; rfl
  e_Book_enter:=⟨a52,i52,F52.2⟩
  LR:=F53
  b_Book_room:=F53.binds fun _ _ _ _ _ _ us hl=>by obtain⟨_,_,rfl⟩:=tG hl; rfl
  e_Book_room:=⟨a53,i53,F53.2⟩
  Ws:=F54
  b_Book_must_be_room:=F54.binds fun _ _ _ _ _ _ us hl=>by obtain⟨_,_,rfl⟩:=tG hl; rfl
  e_Book_must_be_room:=⟨a54,i54,F54.2⟩
  Rf:=F55
  b_Book_place_of:=F55.binds fun _ _ _ _ _ _ us hl=>by obtain⟨_,_,rfl⟩:=tG hl; rfl
  e_Book_place_of:=⟨a55,i55,F55.2⟩
  Nr:=F56
  b_Book_going:=F56.binds fun _ _ _ _ _ _ us hl=>by obtain⟨_,_,_,rfl⟩:=Zt hl; rfl
  e_Book_going:=⟨a56,i56,F56.2⟩
  zeH:=F57
  b_Book_led:=F57.binds fun _ _ _ _ _ _ us hl=>by obtain⟨_,_,_,_,rfl⟩:=Pn hl; rfl
  e_Book_led:=⟨a57,i57,F57.2⟩
  Rg:=F58
  b_Book_table_at:=F58.binds fun _ _ _ _ _ _ us hl=>by obtain⟨_,_,rfl⟩:=tG hl; rfl
  e_Book_table_at:=⟨a58,i58,F58.2⟩
  Tq:=F59
  b_Book_room_with:=F59.binds fun _ _ _ _ _ _ us hl=>by obtain⟨_,_,rfl⟩:=tG hl; rfl
  e_Book_room_with:=⟨a59,i59,F59.2⟩
  RG:=F60
  b_reordered:=F60.binds fun _ _ _ _ _ _ us hl=>by obtain⟨_,_,rfl⟩:=tG hl; rfl
  m_reordered:=PySem.W.mg_of X G a60
  QL:=F61
  b_rooms_in:=F61.binds fun _ _ _ _ _ _ us hl=>by obtain⟨_,_,_,rfl⟩:=Zt hl; rfl
  m_rooms_in:=PySem.W.mg_of X G a61
  Nt:=F62
  b_room_in:=F62.binds fun _ _ _ _ _ _ us hl=>by obtain⟨_,_,_,_,rfl⟩:=Pn hl; rfl
  m_room_in:=PySem.W.mg_of X G a62
  xG:=F63
  b_x_law_cell_at:=F63.binds fun _ _ _ _ _ _ us hl=>by obtain⟨_,_,rfl⟩:=tG hl; rfl
  m_x_law_cell_at:=PySem.W.mg_of X G a63
  yW:=F64
  b_x_law_draw:=F64.binds fun _ _ _ _ _ _ us hl=>by obtain⟨_,_,_,rfl⟩:=Zt hl; rfl
  m_x_law_draw:=PySem.W.mg_of X G a64
  uE:=F65
  b_x_law_sentence:=F65.binds fun _ _ _ _ _ _ us hl=>by obtain⟨_,_,_,_,rfl⟩:=Pn hl; rfl
  m_x_law_sentence:=PySem.W.mg_of X G a65
  V8:=F66
  b_x_law_world:=F66.binds fun _ _ _ _ _ _ us hl=>by obtain⟨_,rfl⟩:=vX hl; rfl
  m_x_law_world:=PySem.W.mg_of X G a66
  Vl:=F67
  b_x_law_now:=F67.binds fun _ _ _ _ _ _ us hl=>by obtain⟨_,rfl⟩:=vX hl; rfl
  m_x_law_now:=PySem.W.mg_of X G a67
  Tr:=F68
  b_x_law_both:=F68.binds fun _ _ _ _ _ _ us hl=>by obtain⟨_,rfl⟩:=vX hl; rfl
  m_x_law_both:=PySem.W.mg_of X G a68
  zhc:=F69
  b_law:=F69.binds fun _ _ _ _ _ _ us hl=>by obtain⟨_,rfl⟩:=vX hl; rfl
  m_law:=PySem.W.mg_of X G a69
  c_Book:=⟨pg_Book,hd_Book,po_Book,sa_Book⟩
  na_Book_marks:=na_Book_marks
  na_Book_rooms:=na_Book_rooms
  na_Book_tables:=na_Book_tables
  na_Book_numbers:=na_Book_numbers
  x_law:=by
   obtain⟨_,_,_,_,_,_,_,_,_,rfl,_,_⟩:=F69.ex
   exact fun s u=>.of_eq rfl
  m_MARKS:=PySem.W.mg_of X G Xj
  q_MARKS:=fun H=>tL l_MARKS v_MARKS (by decide)
  m_MOST_TUPLES:=PySem.W.mg_of X G V9
  m_MOST_DEEP:=PySem.W.mg_of X G RJ
  m_SHAPES:=PySem.W.mg_of X G u6
  Tt:=zhD l_SHAPES e_SHAPES s_SHAPES (kvs:=[("yes", .ref pSHAPES_0),("no", .ref pSHAPES_1),("mark", .ref pSHAPES_2),("not", .ref pSHAPES_3),("and", .ref pSHAPES_4),("or", .ref pSHAPES_5),("either", .ref pSHAPES_6),("if", .ref pSHAPES_7),("some", .ref pSHAPES_8),("each", .ref pSHAPES_9)]) (ZF (ZF (ZF (ZF (ZF (ZF (ZF (ZF (ZF (ZF (ziB))))))))))) (by show(["yes", "no", "mark", "not", "and", "or", "either", "if", "some", "each"]:List Str).Nodup; decide +kernel)
  y_SHAPES:=by
   intro k m n h
   simp only[wB,List.mem_cons,List.not_mem_nil,or_false,Prod.mk.injEq] at h
   rcases h with ⟨rfl,rfl,rfl⟩ | ⟨rfl,rfl,rfl⟩ | ⟨rfl,rfl,rfl⟩ | ⟨rfl,rfl,rfl⟩ | ⟨rfl,rfl,rfl⟩ | ⟨rfl,rfl,rfl⟩ | ⟨rfl,rfl,rfl⟩ | ⟨rfl,rfl,rfl⟩ | ⟨rfl,rfl,rfl⟩ | ⟨rfl,rfl,rfl⟩
   ·exact⟨_,rfl,fun H=>tL lSHAPES_0 vSHAPES_0 (by decide)⟩
   ·exact⟨_,rfl,fun H=>tL lSHAPES_1 vSHAPES_1 (by decide)⟩
   ·exact⟨_,rfl,fun H=>tL lSHAPES_2 vSHAPES_2 (by decide)⟩
   ·exact⟨_,rfl,fun H=>tL lSHAPES_3 vSHAPES_3 (by decide)⟩
   ·exact⟨_,rfl,fun H=>tL lSHAPES_4 vSHAPES_4 (by decide)⟩
   ·exact⟨_,rfl,fun H=>tL lSHAPES_5 vSHAPES_5 (by decide)⟩
   ·exact⟨_,rfl,fun H=>tL lSHAPES_6 vSHAPES_6 (by decide)⟩
   ·exact⟨_,rfl,fun H=>tL lSHAPES_7 vSHAPES_7 (by decide)⟩
   ·exact⟨_,rfl,fun H=>tL lSHAPES_8 vSHAPES_8 (by decide)⟩
   ·exact⟨_,rfl,fun H=>tL lSHAPES_9 vSHAPES_9 (by decide)⟩
  z_SHAPES:=by
   intro k h
   refine zfM fun e he=>?_
   simp only[List.mem_cons,List.not_mem_nil,or_false] at he
   rcases he with rfl | rfl | rfl | rfl | rfl | rfl | rfl | rfl | rfl | rfl
   ·exact h ("yes", 0,0) (by decide +kernel)
   ·exact h ("no", 0,0) (by decide +kernel)
   ·exact h ("mark", 1,0) (by decide +kernel)
   ·exact h ("not", 0,1) (by decide +kernel)
   ·exact h ("and", 0,2) (by decide +kernel)
   ·exact h ("or", 0,2) (by decide +kernel)
   ·exact h ("either", 0,2) (by decide +kernel)
   ·exact h ("if", 0,2) (by decide +kernel)
   ·exact h ("some", 1,1) (by decide +kernel)
   ·exact h ("each", 1,1) (by decide +kernel)
  m_PAIRS:=PySem.W.mg_of X G uJ
  q_PAIRS:=fun H=>tL l_PAIRS v_PAIRS (by show 4<=1000; decide)
  q_PAIRS_0:=fun H=>tL l_PAIRS_0 v_PAIRS_0 (by decide)
  q_PAIRS_1:=fun H=>tL l_PAIRS_1 v_PAIRS_1 (by decide)
  q_PAIRS_2:=fun H=>tL l_PAIRS_2 v_PAIRS_2 (by decide)
  q_PAIRS_3:=fun H=>tL l_PAIRS_3 v_PAIRS_3 (by decide)
  n_all:=PySem.W.mg_none_of X G z_all
  n_isinstance:=PySem.W.mg_none_of X G z_isinstance
  n_len:=PySem.W.mg_none_of X G z_len
  n_list:=PySem.W.mg_none_of X G z_list
  n_range:=PySem.W.mg_none_of X G z_range
  n_reversed:=PySem.W.mg_none_of X G z_reversed
  n_set:=PySem.W.mg_none_of X G z_set
  n_sorted:=PySem.W.mg_none_of X G z_sorted
  n_str:=PySem.W.mg_none_of X G z_str
  n_sum:=PySem.W.mg_none_of X G z_sum
  n_tuple:=PySem.W.mg_none_of X G z_tuple
  n_zip:=PySem.W.mg_none_of X G z_zip }⟩
end K92
namespace K92
open PySem L2 Sen
section
variable {P:Program} {w:World} {K:PySem.W.Frag} {mg:Str->Option Value} {base:Heap} {a:Ad} {k:Nat}
theorem zdV (T:Txt P w K mg a):zm P w K mg base CX0 (k+1) a.uM a.uN ["marks"] Xn:=by
 refine T.uV.ok zdB (fun vs H Q E h=>?_) (fun cdv A outer s H vs Q E hr h=>?_)
 ·obtain⟨n,rfl,_⟩:=h
  rfl
 obtain⟨n,rfl,hn,q⟩:=h
 refine⟨_,(zx (zK (zM JL (zM ZG zp (zM ZG zp (pv 0))) zp))),?_⟩
 have h1:=Jc hn
 have one:1<2^10000:=J7 (k:=1) (by decide) (by decide)
 refine⟨_,rfl,1,n,rfl,rfl,one,by omega,1,1*2^n,rfl,rfl,one,by omega,_,1,rfl,rfl,?_⟩
 have e:(((1*2^(1*2^n):Nat):Int)-1)=((2^2^n-1:Nat):Int):=by
  rw[Nat.one_mul,Nat.one_mul]
  have:=Nat.two_pow_pos (2^n)
  omega
 show Q (.int (((1*2^(1*2^n):Nat):Int)-1)) H
 rw[e]
 exact q
theorem zdr (T:Txt P w K mg a):zm P w K mg base CX0 (k+1) a.wF a.wG ["place", "marks"] vW:=by
 refine T.vY.ok ZW (fun vs H Q E h=>?_) (fun cdv A outer s H vs Q E hr h=>?_)
 ·obtain⟨p,n,rfl,_⟩:=h
  rfl
 obtain⟨p,n,rfl,hp,hn,q⟩:=h
 refine⟨_,(zj (zH (i:=2) ZW.nd rfl (Or.inl rfl) (zM ZG zp (pv 0)))
   (zj (zH (i:=3) ZW.nd rfl (Or.inl rfl) (zM ZG (zM JL (zM ZG zp (pv 2)) zp) (pv 2)))
   (zj (wO PassesOwn.never rfl (za6 rfl T.n_range (za (zM wk (pv 0) zp) (za (pv 1) zc))) (yD (i:=4) ZW.nd rfl (Or.inl rfl)) (zx (zH (i:=3) ZW.nd rfl (Or.inl rfl) (zM Wi (pv 3) (zM ZG (pv 3) (zM ZG zp (pv 4)))))))
   (zx (zK (pv 3)))))),?_⟩
 have one:1<2^10000:=J7 (k:=1) (by decide) (by decide)
 have h1:=Jc (n:=p) (by omega)
 have hh:2^p<2^10000:=Nat.pow_lt_pow_right (by decide) (by omega)
 have pp:=Nat.two_pow_pos (2^p)
 have e1:((1*2^(1*2^p):Nat):Int)-1=((2^2^p-1:Nat):Int):=by
  rw[Nat.one_mul,Nat.one_mul]
  omega
 have lt1:2^2^p-1<2^10000:=Nat.lt_of_lt_of_le (Nat.sub_lt pp (by decide)) (Nat.pow_le_pow_right (by decide) (by omega))
 refine⟨_,rfl,1,p,rfl,rfl,one,by omega,?_⟩
 refine⟨_,rfl,1,1*2^p,rfl,rfl,one,by omega,_,1,rfl,rfl,_,rfl,2^2^p-1,1*2^p,congrArg V.int e1,rfl,lt1,by omega,?_⟩
 refine⟨_,rfl,_,1,rfl,rfl,_,rfl,(p:Int)+1,(n:Int),rfl,⟨by omega,by omega,by omega,by omega⟩,?_⟩
 refine Vz (fun i σ H'=>H'=H/\∃(N:Nat) (f:Option V),σ=[some (.int p),some (.int n),some (.int ((1*2^p:Nat):Int)),some (.int N),f]/\zL (p+1+i) N (fun b=>b.testBit p)) ⟨rfl,_,_,rfl,?_⟩ ?_ ?_
 ·rw[Nat.one_mul]
  exact zfP p
 ·rintro i σ H' hi ⟨rfl,N,f,rfl,tb⟩
  have hi':p+1+i<n:=by omega
  have h2:=Jc (n:=p+1+i) (by omega)
  have e2:V.int ((p:Int)+1+(i:Nat))=V.int ((p+1+i:Nat):Int):=congrArg V.int (by omega)
  have lt2:N<2^10000:=J7 (zfO tb) (Nat.le_trans h2 (by decide))
  refine⟨_,rfl,_,rfl,_,rfl,1,p+1+i,rfl,e2,one,by omega,N,1*2^(p+1+i),rfl,rfl,lt2,by omega,N,N*2^(1*2^(p+1+i)),rfl,rfl,?_⟩
  refine⟨rfl,_,_,rfl,?_⟩
  rw[Nat.one_mul]
  exact ze2 (m:=p+1+i) (by omega) tb
 ·rintro σ H' ⟨rfl,N,f,rfl,tb⟩
  have e3:p+1+((n:Int)-((p:Int)+1)).toNat=n:=by omega
  rw[e3] at tb
  exact⟨_,rfl,q N tb⟩
theorem zff (T:Txt P w K mg a) (xH:zm P w K mg base CX0 k a.wF a.wG ["place", "marks"] vW):zm P w K mg base CX0 (k+1) a.Zc a.Zd ["table", "place", "marks"] Xo:=by
 refine T.Z6.ok Qv (fun vs H Q E h=>?_) (fun cdv A outer s H vs Q E hr h=>?_)
 ·obtain⟨N,p,n,f,rfl,_⟩:=h
  rfl
 obtain⟨N,p,n,f,rfl,hp,hn,tb,q⟩:=h
 refine⟨_,(zj (zH (i:=3) Qv.nd rfl (Or.inl rfl) (zM vM (pv 0) (zu xH hr rfl T.m_rows_with T.vY.2 T.b_rows_with .nil zy (za (pv 1) (za (pv 2) zc)))))
   (zj (zH (i:=4) Qv.nd rfl (Or.inl rfl) (zM Ux (pv 0) (pv 3)))
   (zx (zK (zM Wi (zM zhE (pv 3) (zM ZG zp (pv 1))) (zM ZG (pv 4) (zM ZG zp (pv 1)))))))),?_⟩
 have one:1<2^10000:=J7 (k:=1) (by decide) (by decide)
 have h1:=Jc (n:=p) (by omega)
 have h2:=Jc (n:=n) (by omega)
 refine⟨_,rfl,_,rfl,_,rfl,p,n,rfl,hp,hn,fun R tr=>?_⟩
 refine⟨N,R,rfl,rfl,?_⟩
 refine⟨_,rfl,_,rfl,N,N&&&R,rfl,rfl,?_⟩
 have o:=Ym tb tr
 have z:=W2 tb o
 have lt2:N ^^^ (N&&&R)<2^10000:=J7 (zfO z) (Nat.le_trans h2 (by decide))
 refine⟨_,rfl,_,rfl,1,p,rfl,rfl,one,by omega,N&&&R,1*2^p,rfl,rfl,_,rfl,_,rfl,1,p,rfl,rfl,one,by omega,N ^^^ (N&&&R),1*2^p,rfl,rfl,lt2,by omega,_,_,rfl,rfl,?_⟩
 refine q _ ?_
 rw[Nat.one_mul]
 exact zgL hp tb tr
theorem zfg (T:Txt P w K mg a):zm P w K mg base CX0 (k+1) a.xR a.xT ["script", "k"] (Je K):=by
 refine T.xG.ok Td (fun vs H Q E h=>?_) (fun cdv A outer s H vs Q E hr h=>?_)
 ·obtain⟨l,ns,i,rfl,_⟩:=h
  rfl
 obtain⟨l,ns,i,rfl,hS,h0,q⟩:=h
 refine⟨_,(zj (yS (zV zcb (pv 1) (zU zQ rfl T.n_len yH (za (pv 0) zc)) (zW _)) (zx (zK (zX yr (pv 0) (pv 1) (fun _ _=>rfl)))) yu)
   (zx (zK zp))),?_⟩
 refine⟨_,rfl,_,rfl,l,_,rfl,.inl hS,_,_,rfl,rfl,_,rfl,?_⟩
 refine yp (fun c=>?_) (fun c=>?_)
 ·have c':i<(((ns.map V.int).length:Nat):Int):=of_decide_eq_true c
  rw[List.length_map] at c'
  have hi:i.toNat<ns.length:=by omega
  have e:atI (ns.map V.int) i=some (.int ns[i.toNat]):=by
   have q:=vp (xs:=ns.map V.int) (j:=i.toNat) (v:=.int ns[i.toNat]) (by rw[List.getElem?_map,List.getElem?_eq_getElem hi]; rfl)
   have ei:((i.toNat:Nat):Int)=i:=by omega
   rw[ei] at q
   exact q
  exact⟨_,rfl,_,rfl,l,_,i,_,rfl,rfl,hS,e,q _⟩
 ·exact q 0
theorem zic (T:Txt P w K mg a):zm P w K mg base CX0 (k+1) a.uw a.ux ["cell", "k", "bound"] Mh:=by
 refine T.yW.ok uG (fun vs H Q E h=>?_) (fun cdv A outer s H vs Q E hr h=>?_)
 ·obtain⟨c,m,b,rfl,_⟩:=h
  rfl
 obtain⟨c,m,b,rfl,hm,b0,b1,q⟩:=h
 refine⟨_,(zj (yS (zV zhd (pv 0) (zM zim zp zp) (zW _)) (zj (zH (i:=4) uG.nd rfl (Or.inl rfl) (pv 0))
   (zj (wO PassesOwn.never rfl (Rh rfl T.n_range (za (pv 1) zc)) (yD (i:=5) uG.nd rfl (Or.inl rfl)) (zx (zH (i:=4) uG.nd rfl (Or.inl rfl) (zM zd5 (pv 4) (pv 2)))))
   (zx (zK (zM vR (pv 4) (pv 2)))))) yu)
   (zj (zH (i:=3) uG.nd rfl (Or.inl rfl) (zM vR (zM TY (zM wk (zM wk (zM vR (pv 0) zp) (zM TY zp (pv 1))) zp) zp) zp))
   (zj (zH (i:=3) uG.nd rfl (Or.inl rfl) (zM vR (zM wk (zM wk (zM TY (pv 3) (pv 3)) (zM TY zp (pv 1))) zp) zp))
   (zx (zK (zM vR (zM zd5 (zM vR (zM TY (pv 3) zp) zp) zp) (pv 2))))))),?_⟩
 refine⟨_,rfl,10,18,rfl,rfl,⟨by decide,by decide,by decide⟩,_,_,rfl,rfl,_,rfl,?_⟩
 refine yp (fun _=>?_) (fun _=>?_)
 ·refine⟨_,rfl,?_⟩
  refine⟨_,rfl,(m:Int),rfl,by omega,by omega,?_⟩
  refine Vz (fun i σ H'=>H'=H/\∃(x:Int) (f1 f2:Option V),σ=[some (.int c),some (.int m),some (.int b),f1,some (.int x),f2]) ⟨rfl,c,_,_,rfl⟩ ?_ ?_
  ·rintro i σ H' hi ⟨rfl,x,f1,f2,rfl⟩
   refine⟨_,rfl,_,rfl,x,b,rfl,rfl,⟨b0,b1⟩,?_⟩
   exact⟨rfl,x / b,_,_,rfl⟩
  ·rintro σ H' ⟨rfl,x,f1,f2,rfl⟩
   refine⟨_,rfl,_,rfl,x,b,rfl,rfl,b0,?_⟩
   exact q _ (Int.emod_nonneg _ (by omega)) (Int.emod_lt_of_pos _ b0)
 ·have p1:(0:Int)<1000000007:=by decide
  have p2:(0:Int)<2147483647:=by decide
  have p3:(0:Int)<2147483629:=by decide
  refine⟨_,rfl,c,1000000007,rfl,rfl,p1,_,rfl,1009,(m:Int),rfl,rfl,.inl ⟨by decide,by decide⟩,_,_,rfl,rfl,_,17,rfl,rfl,_,69621,rfl,rfl,.inr ⟨by decide,by decide⟩,_,2147483647,rfl,rfl,p2,?_⟩
  have z0:0<=(c%1000000007+1009*(m:Int)+17)*69621%2147483647:=Int.emod_nonneg _ (by decide)
  have z1:(c%1000000007+1009*(m:Int)+17)*69621%2147483647<2147483647:=Int.emod_lt_of_pos _ p2
  refine⟨_,rfl,_,rfl,_,_,rfl,rfl,.inl ⟨Int.lt_of_lt_of_le (by decide) z0,Int.lt_trans z1 (by decide)⟩,_,rfl,40503,(m:Int),rfl,rfl,.inl ⟨by decide,by decide⟩,_,_,rfl,rfl,_,5,rfl,rfl,_,2147483629,rfl,rfl,p3,?_⟩
  refine⟨_,rfl,_,48271,rfl,rfl,.inr ⟨by decide,by decide⟩,_,2147483647,rfl,rfl,p2,_,32,rfl,rfl,⟨by decide,by decide⟩,_,rfl,_,b,rfl,rfl,b0,?_⟩
  exact q _ (Int.emod_nonneg _ (by omega)) (Int.emod_lt_of_pos _ b0)
theorem zdW (T:Txt P w K mg a) (xU:zm P w K mg base CX0 k a.xR a.xT ["script", "k"] (Je K)) (yX:zm P w K mg base CX0 k a.uw a.ux ["cell", "k", "bound"] Mh) :
  zm P w K mg base CX0 (k+1) a.uy a.uz ["script", "at", "many", "order"] (QZ K):=by
 refine T.uE.ok xq (fun vs H Q E h=>?_) (fun cdv A outer s H vs Q E hr h=>?_)
 ·obtain⟨sc,ol,ns,t,m,os,rfl,_⟩:=h
  rfl
 obtain⟨sc,ol,ns,t,m,os,rfl,hS,hO,o0,o8,m0,m40,t60,q⟩:=h
 obtain⟨st0,h0⟩:∃st0,st0=(Xk vf).headD (.Pass ⟨0,0,0,0⟩):=⟨_,rfl⟩
 have hb:Xk vf=st0::(Xk vf).tail:=by rw[h0]; rfl
 rw[hb]
 have hk:J6 st0=some (Str.ofString "kinds", T6):=by rw[h0]; rfl
 refine⟨_,zj (zhH (i:=4) hk xq.nd rfl (Or.inl rfl) (.inl rfl)) (zj (zH (i:=5) xq.nd rfl (Or.inl rfl) (xV (za (vV (za xZ (za (zX yr (pv 3) (zM vR (zu yX hr rfl T.m_x_law_draw T.yW.2 T.b_x_law_draw .nil zy (za (zu xU hr rfl T.m_x_law_cell_at T.xG.2 T.b_x_law_cell_at .nil zy (za (pv 0) (za (pv 1) zc))) (za zp (za zp zc)))) (zU zQ rfl T.n_len yH (za (pv 3) zc))) (fun _ _=>rfl)) zc))) zc)))
   (zj (wO PassesOwn.never rfl (za6 rfl T.n_range (za zp (za (pv 2) zc))) (yD (i:=6) xq.nd rfl (Or.inl rfl)) (zj (zH (i:=7) xq.nd rfl (Or.inl rfl) (zu xU hr rfl T.m_x_law_cell_at T.xG.2 T.b_x_law_cell_at .nil zy (za (pv 0) (za (zM wk (pv 1) (pv 6)) zc))))
   (zj (zH (i:=8) xq.nd rfl (Or.inl rfl) (zX yr (pv 4) (zu yX hr rfl T.m_x_law_draw T.yW.2 T.b_x_law_draw .nil zy (za (pv 7) (za zp (za zp zc)))) (fun _ _=>rfl)))
   (zj (zH (i:=9) xq.nd rfl (Or.inl rfl) (zX yr (pv 5) (zM JL (zca JM zp) (zM vR (zu yX hr rfl T.m_x_law_draw T.yW.2 T.b_x_law_draw .nil zy (za (pv 7) (za zp (za zp zc)))) (zU zQ rfl T.n_len yH (za (pv 5) zc)))) (fun _ _=>rfl)))
   (zj (zH (i:=10) xq.nd rfl (Or.inl rfl) (zX yr (pv 5) (zM vR (zu yX hr rfl T.m_x_law_draw T.yW.2 T.b_x_law_draw .nil zy (za (pv 7) (za zp (za zp zc)))) (zU zQ rfl T.n_len yH (za (pv 5) zc))) (fun _ _=>rfl)))
   (zj (zH (i:=11) xq.nd rfl (Or.inl rfl) (zX yr (pv 3) (zM vR (zu yX hr rfl T.m_x_law_draw T.yW.2 T.b_x_law_draw .nil zy (za (pv 7) (za zp (za zp zc)))) (zU zQ rfl T.n_len yH (za (pv 3) zc))) (fun _ _=>rfl)))
   (zx (yS (PW.pt (Ur (zV wz (pv 8) xZ (zW _)) (Vy (zV wz (pv 8) xZ (zW _))))) (zx (yt (wI PySem.F.plainAttrs_list PySem.F.slot_list_append PySem.F.type_list_append wK (pv 5) (za (vV (za (pv 8) zc)) zc)))) (zx (yS (zV wz (pv 8) xZ (zW _)) (zx (yt (wI PySem.F.plainAttrs_list PySem.F.slot_list_append PySem.F.type_list_append wK (pv 5) (za (vV (za xZ (za (pv 11) zc))) zc)))) (zx (yS (zV wz (pv 8) xZ (zW _)) (zx (yt (wI PySem.F.plainAttrs_list PySem.F.slot_list_append PySem.F.type_list_append wK (pv 5) (za (vV (za xZ (za (pv 9) zc))) zc)))) (zx (yS (PW.pt (Ur (zV wz (pv 8) xZ (zW _)) (Vy (zV wz (pv 8) xZ (zW _))))) (zx (yt (wI PySem.F.plainAttrs_list PySem.F.slot_list_append PySem.F.type_list_append wK (pv 5) (za (vV (za (pv 8) (za (pv 11) (za (pv 9) zc)))) zc)))) (zx (yt (wI PySem.F.plainAttrs_list PySem.F.slot_list_append PySem.F.type_list_append wK (pv 5) (za (vV (za (pv 8) (za (pv 10) (za (pv 9) zc)))) zc))))))))))))))))))
   (zx (zK (zX yr (pv 5) (zca JM zp) (fun _ _=>rfl)))))),?_⟩
 refine⟨by show 14<=sizeLine; decide,fun kd hkd=>?_⟩
 have g1:=Jd hkd (.lst (T6.map V.str))
 have hS1:=g1.seq hS
 have hO1:=g1.seq hO
 refine⟨_,rfl,_,rfl,_,rfl,sc,ns,(t:Int),rfl,hS1,by omega,fun c0=>?_⟩
 refine⟨c0,3,40320,rfl,by decide,by decide,by decide,fun r0 _ _=>?_⟩
 obtain⟨x0,hx0,hx0'⟩:=Km o0 r0
 have pl:(0:Int)<((os.map V.str).length:Nat):=by rw[List.length_map]; omega
 refine⟨_,rfl,ol,_,rfl,.inl hO1,_,_,rfl,rfl,pl,ol,_,_,.str x0,rfl,rfl,hO1,hx0',by show 2<=sizeLine; decide,fun p0 hp0=>?_⟩
 refine⟨by show 1<=sizeLine; decide,fun md hmd=>?_⟩
 have g2:=Jd hp0 (.tup [.str "mark", .str x0])
 have g3:=Jd hmd (.lst [.ref p0])
 have f0:H md=none:=(g1.trans g2).free hmd
 have nk:md≠kd:=Ne.symm (zF (g2 _ _ zq) hmd)
 have M0:Made H (upd (upd (upd H kd (.lst (T6.map V.str))) p0 (.tup [.str "mark", .str x0])) md (.lst [.ref p0])) os md kd [p0] 1:=by
  refine⟨g1.trans (g2.trans g3),zq,g3 _ _ (g2 _ _ zq),by simp,fun p hp=>?_⟩
  have e:p=p0:=by simpa using hp
  subst e
  exact⟨.mk x0,g3 _ _ zq,hx0,Nat.le_refl _⟩
 refine⟨_,rfl,1,(m:Int),rfl,⟨by omega,by omega,by omega,by omega⟩,?_⟩
 refine Vz (fun i σ H'=>∃(ps:List Addr) (f1 f2 f3 f4 f5 f6:Option V),Made H H' os md kd ps (i+1)/\ps.length=i+1/\σ=[some (.ref sc),some (.int t),some (.int m),some (.ref ol),some (.ref kd),some (.ref md),f1,f2,f3,f4,f5,f6])
  ⟨[p0],_,_,_,_,_,_,M0,rfl,rfl⟩ ?_ ?_
 ·rintro i σ H' hi ⟨ps,f1,f2,f3,f4,f5,f6,M,lp,rfl⟩
  have hS2:=M.old.seq hS
  have hO2:=M.old.seq hO
  have e1:(t:Int)+(1+(i:Nat))=((t+(1+i):Nat):Int):=by omega
  refine⟨_,rfl,_,rfl,_,rfl,_,_,rfl,rfl,sc,ns,_,rfl,hS2,by omega,fun c=>?_⟩
  refine⟨_,rfl,_,rfl,c,0,14,rfl,by decide,by decide,by decide,fun d d0 d1=>?_⟩
  obtain⟨jk,vk,qk1,qk2⟩:=zaK (xs:=T6.map V.str) (i:=d) (by show -((14:Nat):Int)<=d; omega) (by show d<((14:Nat):Int); omega)
  obtain⟨kind,hkm,hkv⟩:∃kind,kind∈T6/\vk=.str kind:=by
   rw[List.getElem?_map] at qk2
   cases hx:T6[jk]? with
   | none=>rw[hx] at qk2; cases qk2
   | some x=>rw[hx] at qk2; cases qk2; exact⟨x,List.mem_of_getElem? hx,rfl⟩
  subst hkv
  refine⟨kd,_,_,_,rfl,rfl,SqL.of M.kin,qk1,?_⟩
  have lm:((ps.map V.ref).length:Nat)=i+1:=by rw[List.length_map]; exact lp
  have pm:(0:Int)<((ps.map V.ref).length:Nat):=by rw[lm]; omega
  refine⟨_,rfl,1,rfl,_,rfl,c,1,2,rfl,by decide,by decide,by decide,fun d2 _ _=>?_⟩
  refine⟨_,rfl,md,_,rfl,.inl (SqL.of M.mad),_,_,rfl,rfl,pm,_,_,rfl,rfl,?_⟩
  have a0:=Int.emod_nonneg d2 (show((ps.map V.ref).length:Int)≠0 by omega)
  have a1:=Int.emod_lt_of_pos d2 pm
  obtain⟨q1,hq1,hq1'⟩:=Mi (ps:=ps) (i:=-1-d2%((ps.map V.ref).length:Nat)) (by rw[lm] at a0 a1 ⊢; omega) (by rw[lm] at a0 a1 ⊢; omega)
  refine⟨md,_,_,_,rfl,rfl,SqL.of M.mad,hq1',?_⟩
  refine⟨_,rfl,_,rfl,c,2,60,rfl,by decide,by decide,by decide,fun d3 _ _=>?_⟩
  refine⟨_,rfl,md,_,rfl,.inl (SqL.of M.mad),_,_,rfl,rfl,pm,?_⟩
  have b0:=Int.emod_nonneg d3 (show((ps.map V.ref).length:Int)≠0 by omega)
  have b1:=Int.emod_lt_of_pos d3 pm
  obtain⟨q2,hq2,hq2'⟩:=Mi (ps:=ps) (i:=d3%((ps.map V.ref).length:Nat)) (by rw[lm] at b0 b1 ⊢; omega) (by rw[lm] at b0 b1 ⊢; omega)
  refine⟨md,_,_,_,rfl,rfl,SqL.of M.mad,hq2',?_⟩
  refine⟨_,rfl,_,rfl,c,3,40320,rfl,by decide,by decide,by decide,fun d4 _ _=>?_⟩
  obtain⟨x,hx,hx'⟩:=Km o0 d4
  refine⟨_,rfl,ol,_,rfl,.inl hO2,_,_,rfl,rfl,pl,ol,_,_,.str x,rfl,rfl,hO2,hx',?_⟩
  obtain⟨s1,s1i,s1o,s1d⟩:=M.all q1 hq1
  obtain⟨s2,s2i,s2o,s2d⟩:=M.all q2 hq2
  have big:ps.length<sizeLine:=Nat.lt_of_le_of_lt (show ps.length<=100 by omega) (by decide)
  have bigV:(ps.map V.ref).length<sizeLine:=by rw[List.length_map]; exact big
  have mdu:∀(p:Addr) (o:HO),H' p=none->(upd H' p o) md=some (.lst (ps.map V.ref)):=fun p o hp=>by rw[zB (zF M.mad hp)]; exact M.mad
  have fin:∀(p:Addr) (xs:List V) (s':Sn),H' p=none->IsS (upd H' p (.tup xs)) s' p->s'.inO os->s'.depth<=i+1+1 ->
    ∃(ps':List Addr) (f1 f2 f3 f4 f5 f6:Option V),Made H (upd (upd H' p (.tup xs)) md (.lst (ps.map V.ref++[.ref p]))) os md kd ps' (i+1+1)/\ps'.length=i+1+1 /\
     [some (.ref sc),some (.int t),some (.int m),some (.ref ol),some (.ref kd),some (.ref md),some (.int (1+(i:Nat))),some (.int c),some (.str kind),some (.ref q1),some (.ref q2),some (.str x)]=[some (.ref sc),some (.int t),some (.int m),some (.ref ol),some (.ref kd),some (.ref md),f1,f2,f3,f4,f5,f6]:=fun p xs s' hp hs ho hd=>by
   have:=M.push f0 hp hs ho hd nk
   rw[List.map_append] at this
   exact⟨ps++[p],_,_,_,_,_,_,this,by simp[lp],rfl⟩
  refine⟨_,rfl,rfl,_,rfl,yp (fun c1=>?_) (fun c1=>?_)⟩
  ·have ek:kind="yes" := by have:=of_decide_eq_true c1; cases this; rfl
   subst ek
   refine Xb ⟨_,rfl,.inl ⟨rfl,_,SqL.of M.mad⟩,_,rfl,by show 1<=sizeLine; decide,fun p hp=>⟨md,_,_,rfl,rfl,mdu p _ hp,bigV,?_⟩⟩
   exact fin p _ (.c0 true) hp zq trivial (by show 1<=_; omega)
  have n1:kind ≠ "yes" := fun e=>c1 (decide_eq_true (by rw[e]))
  refine⟨_,rfl,rfl,_,rfl,yp (fun c2=>?_) (fun c2=>?_)⟩
  ·have ek:kind="no" := by have:=of_decide_eq_true c2; cases this; rfl
   subst ek
   refine⟨_,rfl,.inl ⟨rfl,_,SqL.of M.mad⟩,_,rfl,by show 1<=sizeLine; decide,fun p hp=>⟨md,_,_,rfl,rfl,mdu p _ hp,bigV,?_⟩⟩
   exact fin p _ (.c0 false) hp zq trivial (by show 1<=_; omega)
  have n2:kind ≠ "no" := fun e=>c2 (decide_eq_true (by rw[e]))
  refine⟨_,rfl,rfl,_,rfl,yp (fun c3=>?_) (fun c3=>?_)⟩
  ·have ek:kind="mark" := by have:=of_decide_eq_true c3; cases this; rfl
   subst ek
   refine⟨_,rfl,.inl ⟨rfl,_,SqL.of M.mad⟩,_,rfl,by show 2<=sizeLine; decide,fun p hp=>⟨md,_,_,rfl,rfl,mdu p _ hp,bigV,?_⟩⟩
   exact fin p _ (.mk x) hp zq hx (by show 1<=_; omega)
  have n3:kind ≠ "mark" := fun e=>c3 (decide_eq_true (by rw[e]))
  refine⟨_,rfl,rfl,_,rfl,yp (fun c4=>?_) (fun c4=>?_)⟩
  ·have ek:kind="not" := by have:=of_decide_eq_true c4; cases this; rfl
   subst ek
   refine⟨_,rfl,.inl ⟨rfl,_,SqL.of M.mad⟩,_,rfl,by show 2<=sizeLine; decide,fun p hp=>⟨md,_,_,rfl,rfl,mdu p _ hp,bigV,?_⟩⟩
   exact fin p _ (.nt s1) hp ⟨q1,zq,s1i.mono (yw.new hp _)⟩ s1o (by show 1+s1.depth<=_; omega)
  have n4:kind ≠ "not" := fun e=>c4 (decide_eq_true (by rw[e]))
  refine⟨_,rfl,rfl,_,rfl,yp (fun c5=>?_) (fun c5=>?_)⟩
  ·have ek:kind="some" := by have:=of_decide_eq_true c5; cases this; rfl
   subst ek
   refine Xb ⟨_,rfl,.inl ⟨rfl,_,SqL.of M.mad⟩,_,rfl,_,rfl,_,rfl,by show 3<=sizeLine; decide,fun p hp=>⟨md,_,_,rfl,rfl,mdu p _ hp,bigV,?_⟩⟩
   exact fin p _ (.q1 true x s1) hp ⟨q1,zq,s1i.mono (yw.new hp _)⟩ ⟨hx,s1o⟩ (by show 1+s1.depth<=_; omega)
  have n5:kind ≠ "some" := fun e=>c5 (decide_eq_true (by rw[e]))
  refine⟨_,rfl,rfl,_,rfl,yp (fun c6=>?_) (fun c6=>?_)⟩
  ·have ek:kind="each" := by have:=of_decide_eq_true c6; cases this; rfl
   subst ek
   refine⟨_,rfl,.inl ⟨rfl,_,SqL.of M.mad⟩,_,rfl,_,rfl,_,rfl,by show 3<=sizeLine; decide,fun p hp=>⟨md,_,_,rfl,rfl,mdu p _ hp,bigV,?_⟩⟩
   exact fin p _ (.q1 false x s1) hp ⟨q1,zq,s1i.mono (yw.new hp _)⟩ ⟨hx,s1o⟩ (by show 1+s1.depth<=_; omega)
  have n6:kind ≠ "each" := fun e=>c6 (decide_eq_true (by rw[e]))
  obtain⟨o,ho⟩:∃o:Fin 4,kind=w2 o:=by
   have:kind∈([Str.ofString "mark", Str.ofString "mark", Str.ofString "not", Str.ofString "and", Str.ofString "or", Str.ofString "either", Str.ofString "if", Str.ofString "and", Str.ofString "or", Str.ofString "some", Str.ofString "each", Str.ofString "yes", Str.ofString "no", Str.ofString "mark"]:List Str):=hkm
   simp only[List.mem_cons,List.not_mem_nil,or_false] at this
   rcases this with h | h | h | h | h | h | h | h | h | h | h | h | h | h<;>first | exact absurd h n1 | exact absurd h n2 | exact absurd h n3 | exact absurd h n4 | exact absurd h n5 | exact absurd h n6 | exact⟨0,h⟩ | exact⟨1,h⟩ | exact⟨2,h⟩ | exact⟨3,h⟩
  subst ho
  refine⟨_,rfl,.inl ⟨rfl,_,SqL.of M.mad⟩,_,rfl,_,rfl,_,rfl,by show 3<=sizeLine; decide,fun p hp=>⟨md,_,_,rfl,rfl,mdu p _ hp,bigV,?_⟩⟩
  exact fin p _ (.b2 o s2 s1) hp ⟨q2,q1,zq,s2i.mono (yw.new hp _),s1i.mono (yw.new hp _)⟩ ⟨s2o,s1o⟩ (by show 1+max s2.depth s1.depth<=_; omega)
 ·rintro σ H' ⟨ps,f1,f2,f3,f4,f5,f6,M,lp,rfl⟩
  obtain⟨p,hp,hp'⟩:=Mi (ps:=ps) (i:=-1) (by omega) (by omega)
  obtain⟨s',z1,z2,z3⟩:=M.all p hp
  have e:((m:Int)-1).toNat+1=m:=by omega
  rw[e] at z3
  exact⟨_,rfl,1,rfl,md,_,-1,_,rfl,rfl,SqL.of M.mad,hp',q p H' s' M.old z1 z2 z3⟩
theorem zfh (T:Txt P w K mg a):zm P w K mg base CX0 (k+1) a.Xh a.Xi ["letter"] T9:=by
 refine T.S9.ok zeF (fun vs H Q E h=>?_) (fun cdv A outer s H vs Q E hr h=>?_)
 ·obtain⟨x,rfl,_⟩:=h
  rfl
 obtain⟨x,rfl,q⟩:=h
 refine⟨_,(zx (zK (uf VD (pv 0) (ZD (v:=.ref a.Xj) rfl T.m_MARKS rfl) (by with_unfolding_all rfl)))),?_⟩
 refine⟨_,rfl,a.Xj,yN.map V.str,rfl,.inr (T.q_MARKS H),rfl,wL _,?_⟩
 show Q (.bl (inV (.str x) (yN.map V.str))) H
 rw[zcL]
 exact q
theorem zdX (T:Txt P w K mg a) (Nu:zm P w K mg base CX0 k a.Xh a.Xi ["letter"] T9):zm P w K mg base CX0 (k+1) a.Ug a.Uh ["order"] (zbh K):=by
 refine T.QG.ok zdD (fun vs H Q E h=>?_) (fun cdv A outer s H vs Q E hr h=>?_)
 ·obtain⟨l,os,rfl,_⟩:=h
  rfl
 obtain⟨l,os,rfl,hq,h100,q⟩:=h
 refine⟨_,(zx (zK (zcv (uf JN (zU zQ rfl T.n_len yH (za (pv 0) zc)) zp (zW _)) (zcv (zU (W0 rfl) rfl T.n_all R7 (za (Zz (osc:=zA Xu) (js:=[]) rfl (by show tY (zA Xu) _ "letter" []; exact⟨rfl,by decide +kernel,by decide +kernel,rfl,by decide +kernel,by decide +kernel,by decide +kernel⟩) rfl (wg (pv 0)) (by show ∀j∈([]:List Nat),j<1; decide) (fun cl C s₂ H₂ fp=>(zu Nu hr rfl T.m_is_mark T.S9.2 T.b_is_mark .nil zy (za (pv 0) zc)))) zc)) (zcu (uf wz (zU call_len_set' rfl T.n_len yH (za (NT (zgI rfl) rfl T.n_set ziA (za (pv 0) zc)) zc)) (zU zQ rfl T.n_len yH (za (pv 0) zc)) (zW _))))))),?_⟩
 have hlen:(os.map V.str).length=os.length:=List.length_map _
 refine⟨_,rfl,l,_,rfl,.inl hq,_,_,rfl,rfl,_,rfl,yp (fun c=>?_) (fun c=>?_)⟩
 ·have c':0<os.length:=by have:=of_decide_eq_true c; rw[hlen] at this; omega
  refine⟨_,rfl,l,rfl,⟨_,hq⟩,zaL (fun x v=>v=(match x with | .str y=>.bl (decide (y∈yN)) | _=>.non)) hq (by rw[hlen]; exact Nat.le_of_lt (yC (by omega))) ?_ (ze3 Ko) ?_⟩
  ·intro i x H' hx g
   rw[List.getElem?_map] at hx
   cases ho:os[i]? with
   | none=>rw[ho] at hx; cases hx
   | some y =>
    rw[ho] at hx
    cases hx
    exact⟨_,rfl,y,rfl,rfl,g⟩
  ·intro ys H' p hr' g hp
   have e:=T7 (f:=fun x=>match x with | .str y=>.bl (decide (y∈yN)) | _=>.non) hr'
   rw[List.map_map] at e
   have e2:ys=(os.map fun y=>decide (y∈yN)).map V.bl:=by rw[e,List.map_map]; rfl
   subst e2
   have g1:=Same.new hp (.lst ((os.map fun y=>decide (y∈yN)).map V.bl))
   refine⟨p,_,rfl,SqL.of zq,_,rfl,yp (fun c2=>?_) (fun c2=>?_)⟩
   ·have hq2:=(g.trans g1).seq hq
    refine⟨_,rfl,l,os,rfl,hq2,h100,fun z hz=>⟨z,_,rfl,zq,?_⟩⟩
    have g2:=Same.new hz (zeZ P w z (dd os).length)
    refine⟨_,rfl,l,_,rfl,.inl (g2.seq hq2),rfl,?_⟩
    have e3:decide (V.int ((dd os).length:Nat)=V.int ((os.map V.str).length:Nat))=Q6 os:=by
     unfold Q6
     have c2':os.all (fun x=>decide (x∈yN))=true:=by rw[List.all_map] at c2; exact c2
     rw[decide_eq_true c',c2',hlen]
     by_cases nd:os.Nodup
     ·rw[decide_eq_true nd,zgF nd]; simp
     ·have:=zix nd
      rw[decide_eq_false nd,decide_eq_false (fun z=>by injection z with z; omega)]; rfl
    rw[e3]
    exact q _ ((g.trans g1).trans g2)
   ·have e4:Q6 os=false:=by
     unfold Q6
     have c2':os.all (fun x=>decide (x∈yN))=false:=by
      rw[List.all_map] at c2
      exact Bool.eq_false_iff.mpr c2
     rw[c2',Bool.false_and,Bool.and_false]
    rw[<-e4]
    exact q _ (g.trans g1)
 ·have e4:Q6 os=false:=by
   unfold Q6
   rw[decide_eq_false (fun z=>c (decide_eq_true (by rw[hlen]; omega))),Bool.false_and]
  rw[<-e4]
  exact q _ (Same.refl _)
theorem zbZ (T:Txt P w K mg a):zm P w K mg base CX0 (k+1) a.tO a.tQ ["sentence"] Vn:=by
 refine T.X7.ok zbK (fun vs H Q E h=>?_) (fun cdv A outer s H vs Q E hr h=>?_)
 ·obtain⟨p,x,m,n,rest,rfl,_⟩:=h
  rfl
 obtain⟨p,x,m,n,rest,rfl,hp,hm,hl,q⟩:=h
 refine⟨_,(zx (zK (Ja zfD (pv 0) (R5 zp) (R5 (zM wk zp (zX wZ (zX (zaJ T.Tt) (ZD (v:=.ref a.u6) rfl T.m_SHAPES rfl) (zX wZ (pv 0) zp (fun _ _=>rfl)) (fun _ _=>rfl)) zp (fun _ _=>rfl))))))),?_⟩
 obtain⟨pt,hv,hpt⟩:=T.y_SHAPES x m n hm
 refine⟨_,rfl,1,rfl,_,rfl,p,_,0,_,rfl,rfl,SqT.of hp,at0,x,.ref pt,.ref pt,rfl,rfl,hv,rfl,pt,_,0,_,rfl,rfl,hpt H,at0,1,(m:Int),rfl,rfl,_,rfl,p,_,rfl,SqT.of hp,zaa (by decide),fun z hz=>?_⟩
 rw[zgN hl]
 exact q z hz
theorem zdY (T:Txt P w K mg a):zm P w K mg base CX0 (k+1) a.uO a.uP ["sentence"] Xp:=by
 refine T.X8.ok zdE (fun vs H Q E h=>?_) (fun cdv A outer s H vs Q E hr h=>?_)
 ·obtain⟨p,x,m,n,rest,rfl,_⟩:=h
  rfl
 obtain⟨p,x,m,n,rest,rfl,hp,hm,hl,q⟩:=h
 refine⟨_,(zx (zK (Ja zfD (pv 0) (R5 (zM wk zp (zX wZ (zX (zaJ T.Tt) (ZD (v:=.ref a.u6) rfl T.m_SHAPES rfl) (zX wZ (pv 0) zp (fun _ _=>rfl)) (fun _ _=>rfl)) zp (fun _ _=>rfl)))) zhu))),?_⟩
 obtain⟨pt,hv,hpt⟩:=T.y_SHAPES x m n hm
 refine⟨_,rfl,_,rfl,p,_,0,_,rfl,rfl,SqT.of hp,at0,x,.ref pt,.ref pt,rfl,rfl,hv,rfl,pt,_,0,_,rfl,rfl,hpt H,at0,1,(m:Int),rfl,rfl,_,rfl,p,_,rfl,SqT.of hp,zaa (by omega),fun z hz=>?_⟩
 rw[zgO hl]
 exact q z hz
theorem zan (T:Txt P w K mg a) (uW:zm P w K mg base CX0 k a.uO a.uP ["sentence"] Xp):zm P w K mg base CX0 (k+1) a.tU a.tV ["level"] (Sd K):=by
 refine T.Yj.ok XD (fun vs H Q E h=>?_) (fun cdv A outer s H vs Q E hr h=>?_)
 ·obtain⟨l,ss,ps,rfl,_⟩:=h
  rfl
 obtain⟨l,ss,ps,rfl,hl,hp,hz,q⟩:=h
 refine⟨_,(zj (zH (i:=1) XD.nd rfl (Or.inl rfl) (xV zc))
   (zj (wO PassesOwn.never rfl (wg (pv 0)) (yD (i:=2) XD.nd rfl (Or.inl rfl)) (zx (yt (wI PySem.F.plainAttrs_list PySem.F.slot_list_extend PySem.F.type_list_extend J5 (pv 1) (za (zu uW hr rfl T.m_parts_of T.X8.2 T.b_parts_of .nil zy (za (pv 2) zc)) zc)))))
   (zx (zK (pv 1))))),?_⟩
 have pl:=wu hp
 refine⟨by show 0<=sizeLine; decide,fun f hf=>?_⟩
 have g0:=Same.new hf (.lst [])
 refine⟨_,rfl,l,rfl,⟨_,g0.seq hl⟩,?_⟩
 refine tD (xs:=ps.map V.ref) (fun i σ H'=>∃(qs:List Addr) (f1:Option V),Same H H'/\H' f=some (.lst (qs.map V.ref))/\Paired (IsS H') ((ss.take i).flatMap Sn.parts) qs/\qs.length<=2*i/\i<=ss.length/\σ=[some (.ref l),some (.ref f),f1])
  ⟨[],_,g0,zq,.nil,by simp,Nat.zero_le _,rfl⟩ ?_ ?_ ?_
 ·rintro i σ H' _ ⟨qs,f1,g,_⟩
  exact g.seq hl
 ·rintro i x σ H' hx ⟨qs,f1,g,hf',hqs,lq,li,rfl⟩
  rw[List.getElem?_map] at hx
  cases ho:ps[i]? with
  | none=>rw[ho] at hx; cases hx
  | some p =>
   rw[ho] at hx
   cases hx
   obtain⟨sn,hsn,isp⟩:=Rj hp ho
   have hlt:=(List.getElem?_eq_some_iff.mp hsn).1
   obtain⟨zs,c1,c2,c3,c4,c5⟩:=Qa (isp.mono (yw.of g))
   have lz:=wu c2
   have lp2:=Sn.parts_le sn
   refine⟨_,rfl,.inl ⟨rfl,_,SqL.of hf'⟩,_,rfl,p,sn.word,sn.letters.length,sn.parts.length,_,rfl,c1,Zm sn,c3,fun b hb=>?_⟩
   rw[c5]
   have nfb:f≠b:=zF hf' hb
   have hf2:(upd H' b (.tup (zs.map V.ref))) f=some (.lst (qs.map V.ref)):=by rw[zB nfb]; exact hf'
   refine⟨f,b,qs.map V.ref,zs.map V.ref,rfl,rfl,hf2,?_,?_,?_⟩
   ·exact SqT.of zq
   ·rw[List.length_map,List.length_map]
    exact Nat.le_of_lt (yC (by omega))
   ·refine⟨qs++zs,_,(g.trans (Same.new hb _)).over hf _,by rw[zq,List.map_append],?_,?_,hlt,rfl⟩
    ·rw[xO hsn,List.flatMap_append,List.flatMap_singleton]
     have t1:yw H' (upd (upd H' b (.tup (zs.map V.ref))) f (.lst (qs.map V.ref++zs.map V.ref))):=(yw.new hb _).trans (yw.lst hf2 _)
     exact YF (Yb (fun _ _ z=>z.mono t1) hqs) (Yb (fun _ _ z=>z.mono t1) c2)
    ·rw[List.length_append]; omega
 ·rintro σ H' ⟨qs,f1,g,hf',hqs,lq,li,rfl⟩
  rw[List.length_map,<-pl,List.take_length] at hqs
  exact⟨_,rfl,q f H' qs g hf hf' hqs⟩
theorem zds (T:Txt P w K mg a) (Nu:zm P w K mg base CX0 k a.Xh a.Xi ["letter"] T9) (Tv:zm P w K mg base CX0 k a.tO a.tQ ["sentence"] Vn) (uW:zm P w K mg base CX0 k a.uO a.uP ["sentence"] Xp) :
  zm P w K mg base CX0 (k+1) a.Va a.Vb ["some"] Jg:=by
 refine T.Ry.ok Nf (fun vs H Q E h=>?_) (fun cdv A outer s H vs Q E hr h=>?_)
 ·obtain⟨p,s,rfl,_⟩:=h
  rfl
 obtain⟨p,sn,rfl,isp,hle,q⟩:=h
 refine⟨_,(zj (yS (PW.pt (Ur (zV wz (zU zQ rfl T.n_len yH (za (pv 0) zc)) zp (zW _)) (Ur (TF (Z9 (zU Kf rfl T.n_isinstance Pr (za (zX wZ (pv 0) zp (fun _ _=>rfl)) (za (zd4 (v:=.ty "str") rfl T.n_str ziz rfl) zc))) (fun _=>rfl))) (Vy (zV (zbX T.Tt) (zX wZ (pv 0) zp (fun _ _=>rfl)) (ZD (v:=.ref a.u6) rfl T.m_SHAPES rfl) (by with_unfolding_all rfl)))))) (zx (zK Wd)) yu)
   (zj (zH (i:=1) Nf.nd rfl (Or.inl rfl) (zX (zaJ T.Tt) (ZD (v:=.ref a.u6) rfl T.m_SHAPES rfl) (zX wZ (pv 0) zp (fun _ _=>rfl)) (fun _ _=>rfl)))
   (zj (yS (zV Vm (zU zQ rfl T.n_len yH (za (pv 0) zc)) (zM wk (zM wk zp (zX wZ (pv 1) zp (fun _ _=>rfl))) (zX wZ (pv 1) zp (fun _ _=>rfl))) (zW _)) (zx (zK Wd)) yu)
   (zj (yS (TF (Z9 (zU (W0 rfl) rfl T.n_all R7 (za (Zz (osc:=zA uY) (js:=[]) rfl (by show tY (zA uY) _ "letter" []; exact⟨rfl,by decide +kernel,by decide +kernel,rfl,by decide +kernel,by decide +kernel,by decide +kernel⟩) rfl (TV (zu Tv hr rfl T.m_letters_of T.X7.2 T.b_letters_of .nil zy (za (pv 0) zc))) (by show ∀j∈([]:List Nat),j<2; decide) (fun cl C s₂ H₂ fp=>(zu Nu hr rfl T.m_is_mark T.S9.2 T.b_is_mark .nil zy (za (pv 0) zc)))) zc)) (fun _=>rfl))) (zx (zK Wd)) yu)
   (zx (zK (zU (W0 rfl) rfl T.n_all R7 (za (Zz (osc:=zA uY) (js:=[]) rfl (by show tY (zA uY) _ "part" []; exact⟨rfl,by decide +kernel,by decide +kernel,rfl,by decide +kernel,by decide +kernel,by decide +kernel⟩) rfl (TV (zu uW hr rfl T.m_parts_of T.X8.2 T.b_parts_of .nil zy (za (pv 0) zc))) (by show ∀j∈([]:List Nat),j<2; decide) (fun cl C s₂ H₂ fp=>(zU (zcK (K:=K) rfl) rfl T.n_isinstance Pr (za (pv 0) (za (zd4 (v:=.ty "tuple") rfl T.n_tuple zgJ rfl) zc))))) zc)))))))),?_⟩
 obtain⟨zs,c1,c2,c3,c4,c5⟩:=Qa isp
 have lz:=wu c2
 obtain⟨pt,hv,hpt⟩:=T.y_SHAPES _ _ _ (Zm sn)
 have lp2:=Sn.parts_le sn
 have ll1:=Sn.letters_le sn
 refine⟨_,rfl,p,_,rfl,.inr (SqT.of c1),rfl,_,rfl,yp (fun c=>?_) (fun _=>?_)⟩
 ·exfalso
  have:=of_decide_eq_true c
  injection this with this
  rw[List.length_cons] at this
  omega
 refine⟨_,rfl,p,_,0,_,rfl,rfl,SqT.of c1,at0,_,_,_,true,rfl,.str sn.word,rfl,_,rfl,vN ?_⟩
 refine⟨_,rfl,p,_,0,_,rfl,rfl,SqT.of c1,at0,sn.word,rfl,rfl,_,rfl,?_⟩
 rw[hv]
 refine vN ?_
 refine⟨_,rfl,p,_,0,_,rfl,rfl,SqT.of c1,at0,sn.word,.ref pt,.ref pt,rfl,rfl,hv,rfl,?_⟩
 refine⟨_,rfl,p,_,rfl,.inr (SqT.of c1),_,rfl,pt,_,0,_,rfl,rfl,hpt H,at0,1,_,rfl,rfl,_,rfl,pt,_,1,_,rfl,rfl,hpt H,at1,_,_,rfl,rfl,rfl,_,rfl,yp (fun c=>?_) (fun _=>?_)⟩
 ·exfalso
  have z:V.int ((VC sn zs).length:Nat)=V.int (1+((sn.letters.length:Nat):Int)+((sn.parts.length:Nat):Int)):=by
   congr 1
   show(((V.str sn.word::(sn.letters.map V.str++zs.map V.ref)).length:Nat):Int)=_
   rw[List.length_cons,c3]
   omega
  have c':(!decide (V.int ((VC sn zs).length:Nat)=V.int (1+((sn.letters.length:Nat):Int)+((sn.parts.length:Nat):Int))))=true:=c
  rw[decide_eq_true z] at c'
  cases c'
 refine⟨_,rfl,p,sn.word,sn.letters.length,sn.parts.length,_,rfl,c1,Zm sn,c3,fun b hb=>?_⟩
 rw[c4]
 have g1:=Same.new hb (.tup (sn.letters.map V.str))
 refine⟨b,rfl,⟨_,SqT.of zq⟩,zaM (xs:=sn.letters.map V.str) (fun _ v=>v=.bl true) (SqT.of zq) (by rw[List.length_map]; exact Nat.le_of_lt (yC (by omega))) ?_ (ze3 Ko) ?_⟩
 ·intro i x H' hx g
  rw[List.getElem?_map] at hx
  cases ho:sn.letters[i]? with
  | none=>rw[ho] at hx; cases hx
  | some y =>
   rw[ho] at hx
   cases hx
   refine⟨_,rfl,y,rfl,?_,g⟩
   rw[decide_eq_true (hle y (List.mem_of_getElem? ho))]
 intro ys H' p2 hr' g hp2
 have e:=T7 (f:=fun _=>.bl true) hr'
 have e2:ys=(sn.letters.map fun _=>true).map V.bl:=by rw[e,List.map_map,List.map_map]; rfl
 subst e2
 have g2:=Same.new hp2 (.lst ((sn.letters.map fun _=>true).map V.bl))
 have ea:(sn.letters.map fun _=>true).all id=true:=by rw[List.all_map,List.all_eq_true]; exact fun _ _=>rfl
 refine⟨p2,_,rfl,SqL.of zq,_,rfl,?_⟩
 rw[ea]
 refine vN ?_
 have gg:=(g1.trans g).trans g2
 have c1':=gg _ _ c1
 refine⟨_,rfl,p,sn.word,sn.letters.length,sn.parts.length,_,rfl,c1',Zm sn,c3,fun b3 hb3=>?_⟩
 rw[c5]
 have g3:=Same.new hb3 (.tup (zs.map V.ref))
 refine⟨b3,rfl,⟨_,SqT.of zq⟩,zaM (xs:=zs.map V.ref) (fun _ v=>v=.bl true) (SqT.of zq) (by rw[List.length_map]; exact Nat.le_of_lt (yC (by omega))) ?_ ?_ ?_⟩
 ·intro i x H4 hx g4
  rw[List.getElem?_map] at hx
  cases ho:zs[i]? with
  | none=>rw[ho] at hx; cases hx
  | some y =>
   rw[ho] at hx
   cases hx
   obtain⟨sy,_,iy⟩:=Rj c2 ho
   obtain⟨ws,d1,_⟩:=Qa iy
   have d1':=((gg.trans g3).trans g4) _ _ d1
   exact⟨_,rfl,_,_,_,true,rfl,.tup d1',rfl,rfl,g4⟩
 ·rintro σ' H' Q1 Q2 hQ ⟨v,e,x,T',t,b',h1,h2,h3,h4⟩
  exact⟨v,e,x,T',t,b',h1,h2,h3,hQ _ _ h4⟩
 ·intro ys H4 p4 hr4 g4 hp4
  have e:=T7 (f:=fun _=>.bl true) hr4
  have e2:ys=(zs.map fun _=>true).map V.bl:=by rw[e,List.map_map,List.map_map]; rfl
  subst e2
  have ea:(zs.map fun _=>true).all id=true:=by rw[List.all_map,List.all_eq_true]; exact fun _ _=>rfl
  refine⟨p4,_,rfl,SqL.of zq,?_⟩
  rw[ea]
  exact q _ (((gg.trans g3).trans g4).trans (Same.new hp4 _))
theorem zaY (T:Txt P w K mg a) (zdG:zm P w K mg base CX0 k a.Va a.Vb ["some"] Jg) (WT:zm P w K mg base CX0 k a.tU a.tV ["level"] (Sd K)) :
  zm P w K mg base CX0 (k+1) a.YL a.YM ["some"] zeh:=by
 refine T.V5.ok vg (fun vs H Q E h=>?_) (fun cdv A outer s H vs Q E hr h=>?_)
 ·obtain⟨p,s,rfl,_⟩:=h
  rfl
 obtain⟨p,sn,rfl,isp,hin,hc,hd,q⟩:=h
 refine⟨_,(zj (zH (i:=1) vg.nd rfl (Or.inl rfl) (xV (za (pv 0) zc)))
   (zj (zH (i:=2) vg.nd rfl (Or.inl rfl) zp)
   (zj (zH (i:=3) vg.nd rfl (Or.inl rfl) zp)
   (zj (TQ PassesOwn.never (zV JN (zU zQ rfl T.n_len yH (za (pv 1) zc)) zp (zW _)) (zj (zcx (i:=2) vg.nd rfl (Or.inl rfl) zp zaE)
   (zj (zcx (i:=3) vg.nd rfl (Or.inl rfl) (zU zQ rfl T.n_len yH (za (pv 1) zc)) zaE)
   (zj (yS (PW.pt (Ur (zV JN (pv 2) (ZD (v:=.int 24) rfl T.m_MOST_DEEP ⟨_,rfl⟩) (zW _)) (Vy (zV JN (pv 3) (ZD (v:=.int 200) rfl T.m_MOST_TUPLES ⟨_,rfl⟩) (zW _))))) (zx (zK Wd)) yu)
   (zj (yS (TF (Z9 (zU (W0 rfl) rfl T.n_all R7 (za (Zz (osc:=zA Zu) (js:=[]) rfl (by show tY (zA Zu) _ "part" []; exact⟨rfl,by decide +kernel,by decide +kernel,rfl,by decide +kernel,by decide +kernel,by decide +kernel⟩) rfl (wg (pv 1)) (by show ∀j∈([]:List Nat),j<4; decide) (fun cl C s₂ H₂ fp=>(zu zdG hr rfl T.m_is_shaped T.Ry.2 T.b_is_shaped .nil zy (za (pv 0) zc)))) zc)) (fun _=>rfl))) (zx (zK Wd)) yu)
   (zx (zH (i:=1) vg.nd rfl (Or.inl rfl) (zu WT hr rfl T.m_parts_of_all T.Yj.2 T.b_parts_of_all .nil zy (za (pv 1) zc)))))))))
   (zx (zK Wd)))))),?_⟩
 refine⟨_,rfl,by show 1<=sizeLine; decide,fun l0 hl0=>?_⟩
 have g0:=Same.new hl0 (.lst [.ref p])
 refine⟨fun m σ H'=>∃(ss:List Sn) (ps:List Addr) (l:Addr) (d t:Nat),m=cnt ss/\Same H H'/\H' l=some (.lst (ps.map V.ref))/\Paired (IsS H') ss ps/\(∀u∈ss,u.inO yN/\d+u.depth<=24)/\t+cnt ss<=200/\σ=[some (.ref p),some (.ref l),some (.int d),some (.int t)],
  ⟨_,[sn],[p],l0,0,0,rfl,g0,zq,.cons (isp.mono (yw.of g0)) .nil,?_,?_,rfl⟩,?_⟩
 ·intro u hu
  have e:u=sn:=by simpa using hu
  subst e
  exact⟨hin,by omega⟩
 ·show 0+(sn.count+0)<=200
  omega
 rintro m σ H' ⟨ss,ps,l,d,t,rfl,g,hl,hp,hi,ht,rfl⟩
 have lp:=wu hp
 have le:(ps.map V.ref).length=ss.length:=by rw[List.length_map]; exact lp.symm
 have cl:=zeg ss
 refine⟨_,rfl,l,_,rfl,.inl (SqL.of hl),_,_,rfl,rfl,_,rfl,yp (fun c=>?_) (fun c=>?_)⟩
 ·have c':0<ss.length:=by have:=of_decide_eq_true c; rw[le] at this; omega
  have hd1:d+1<=24:=by
   have hm:ss[0]∈ss:=List.getElem_mem c'
   have:=(hi _ hm).2
   have:=Sn.Mg ss[0]
   omega
  refine⟨_,fun σ' H2 h=>h,?_⟩
  refine⟨_,rfl,(d:Int),1,rfl,rfl,?_⟩
  refine⟨_,rfl,_,rfl,l,_,rfl,.inl (SqL.of hl),(t:Int),_,rfl,rfl,?_⟩
  refine⟨_,rfl,_,_,rfl,rfl,_,rfl,yp (fun c2=>?_) (fun _=>?_)⟩
  ·exfalso
   have:=of_decide_eq_true c2
   omega
  refine⟨_,rfl,_,_,rfl,rfl,_,rfl,yp (fun c2=>?_) (fun _=>?_)⟩
  ·exfalso
   have:=of_decide_eq_true c2
   rw[le] at this
   omega
  refine⟨_,rfl,l,rfl,⟨_,SqL.of hl⟩,zaL (fun _ v=>v=.bl true) (SqL.of hl) (by rw[le]; exact Nat.le_of_lt (yC (by omega))) ?_ (ze3 zdR) ?_⟩
  ·intro i x H2 hx g2
   rw[List.getElem?_map] at hx
   cases ho:ps[i]? with
   | none=>rw[ho] at hx; cases hx
   | some y =>
    rw[ho] at hx
    cases hx
    obtain⟨sy,hsy,iy⟩:=Rj hp ho
    exact⟨_,rfl,y,sy,rfl,iy.mono (yw.of g2),Sn.zdP sy (hi sy (List.mem_of_getElem? hsy)).1,fun H3 g3=>⟨rfl,g2.trans g3⟩⟩
  intro ys H2 p2 hr' g2 hp2
  have e:=T7 (f:=fun _=>.bl true) hr'
  have e2:ys=(ps.map fun _=>true).map V.bl:=by rw[e,List.map_map,List.map_map]; rfl
  subst e2
  have g3:=Same.new hp2 (.lst ((ps.map fun _=>true).map V.bl))
  have ea:(ps.map fun _=>true).all id=true:=by rw[List.all_map,List.all_eq_true]; exact fun _ _=>rfl
  refine⟨p2,_,rfl,SqL.of zq,_,rfl,?_⟩
  rw[ea]
  refine vN ?_
  have gg:=g2.trans g3
  refine⟨_,rfl,l,ss,ps,rfl,gg.seq (SqL.of hl),Yb (fun _ _ z=>z.mono (yw.of gg)) hp,by omega,fun l' H4 ps' g4 hn hl' hp'=>?_⟩
  have cp:=Rk ss
  refine⟨cnt (ss.flatMap Sn.parts),by omega,ss.flatMap Sn.parts,ps',l',d+1,t+(ps.map V.ref).length,rfl,(g.trans gg).trans g4,hl',hp',?_,by omega,rfl⟩
  intro u hu
  obtain⟨s',hs',hu'⟩:=Ml.mp hu
  obtain⟨i1,i2⟩:=hi s' hs'
  have:=Sn.RQ s' u hu'
  exact⟨Sn.zbe s' i1 u hu',by omega⟩
 ·exact q _ g
theorem Jr (T:Txt P w K mg a) (zeI:zm P w K mg base CX0 k a.Ug a.Uh ["order"] (zbh K)):zm P w K mg base CX0 (k+1) a.ZL a.ZM ["order"] (Kp K):=by
 refine T.Wa.ok KJ (fun vs H Q E h=>?_) (fun cdv A outer s H vs Q E hr h=>?_)
 ·obtain⟨l,os,rfl,_⟩:=h
  rfl
 obtain⟨l,os,rfl,hq,ho,q⟩:=h
 refine⟨_,(zx (yS (TF (Z9 (zu zeI hr rfl T.m_is_order T.QG.2 T.b_is_order .nil zy (za (pv 0) zc)) (fun _=>rfl))) (zx Z8) yu)),?_⟩
 refine⟨_,rfl,l,os,rfl,hq,Nat.le_trans ho.le (by decide),fun H' g=>⟨_,rfl,?_⟩⟩
 rw[zhK ho]
 exact vN (q H' g)
theorem PB (T:Txt P w K mg a) (zbQ:zm P w K mg base CX0 k a.YL a.YM ["some"] zeh):zm P w K mg base CX0 (k+1) a.uQ a.uR ["some"] zbi:=by
 refine T.Z7.ok Pz (fun vs H Q E h=>?_) (fun cdv A outer s H vs Q E hr h=>?_)
 ·obtain⟨p,s,rfl,_⟩:=h
  rfl
 obtain⟨p,sn,rfl,h1,h2,h3,h4,q⟩:=h
 refine⟨_,(zx (yS (TF (Z9 (zu zbQ hr rfl T.m_is_sentence T.V5.2 T.b_is_sentence .nil zy (za (pv 0) zc)) (fun _=>rfl))) (zx Z8) yu)),?_⟩
 exact⟨_,rfl,p,sn,rfl,h1,h2,h3,h4,fun H' g=>⟨_,rfl,vN (q H' g)⟩⟩
theorem zdu (T:Txt P w K mg a) (WT:zm P w K mg base CX0 k a.tU a.tV ["level"] (Sd K)):zm P w K mg base CX0 (k+1) a.Vc a.Vd ["sentence"] zab:=by
 refine T.Rz.ok XF (fun vs H Q E h=>?_) (fun cdv A outer s H vs Q E hr h=>?_)
 ·obtain⟨p,s,rfl,_⟩:=h
  rfl
 obtain⟨p,sn,rfl,isp,hc,q⟩:=h
 refine⟨_,(zj (zH (i:=1) XF.nd rfl (Or.inl rfl) (xV zc))
   (zj (zH (i:=2) XF.nd rfl (Or.inl rfl) (xV (za (pv 0) zc)))
   (zj (TQ PassesOwn.never (zV JN (zU zQ rfl T.n_len yH (za (pv 2) zc)) zp (zW _)) (zj (yt (wI PySem.F.plainAttrs_list PySem.F.slot_list_extend PySem.F.type_list_extend zfG (pv 1) (za (pv 2) zc)))
   (zx (zH (i:=2) XF.nd rfl (Or.inl rfl) (zu WT hr rfl T.m_parts_of_all T.Yj.2 T.b_parts_of_all .nil zy (za (pv 2) zc))))))
   (zx (zK (pv 1)))))),?_⟩
 refine⟨by show 0<=sizeLine; decide,fun f hf=>?_⟩
 refine⟨_,rfl,by show 1<=sizeLine; decide,fun l0 hl0=>?_⟩
 have g0:=(Same.new hf (.lst [])).trans (Same.new hl0 (.lst [.ref p]))
 have nfl:f≠l0:=zF zq hl0
 refine⟨fun m σ H'=>∃(ts ss:List Sn) (qs ps:List Addr) (l:Addr),m=cnt ss/\Same H H'/\H' f=some (.lst (qs.map V.ref))/\H' l=some (.lst (ps.map V.ref))/\f≠l/\Paired (IsS H') ts qs/\Paired (IsS H') ss ps/\ts.length+cnt ss=sn.count /\
   (∀x,((∃t∈ts,x∈t.letters)\/∃u∈ss,x∈u.all)↔x∈sn.all)/\σ=[some (.ref p),some (.ref f),some (.ref l)],
  ⟨_,[],[sn],[],[p],l0,rfl,g0,by rw[zB nfl]; exact zq,zq,nfl,.nil,.cons (isp.mono (yw.of g0)) .nil,?_,?_,rfl⟩,?_⟩
 ·show 0+(sn.count+0)=sn.count
  omega
 ·intro x
  simp
 rintro m σ H' ⟨ts,ss,qs,ps,l,rfl,g,hf',hl,nfl,hts,hss,hcn,hle,rfl⟩
 have lt:=wu hts
 have lp:=wu hss
 have cl:=zeg ss
 have le:(ps.map V.ref).length=ss.length:=by rw[List.length_map]; exact lp.symm
 refine⟨_,rfl,l,_,rfl,.inl (SqL.of hl),_,_,rfl,rfl,_,rfl,yp (fun c=>?_) (fun c=>?_)⟩
 ·have c':0<ss.length:=by have:=of_decide_eq_true c; rw[le] at this; omega
  refine⟨_,fun σ' H2 h=>h,?_⟩
  refine⟨_,rfl,.inl ⟨rfl,_,SqL.of hf'⟩,_,rfl,f,l,_,_,rfl,rfl,hf',hl,by rw[List.length_map,List.length_map]; exact Nat.le_of_lt (yC (by omega)),?_⟩
  have t1:yw H' (upd H' f (.lst (qs.map V.ref++ps.map V.ref))):=yw.lst hf' _
  have g1:Same H (upd H' f (.lst (qs.map V.ref++ps.map V.ref))):=g.over hf _
  have hl1:(upd H' f (.lst (qs.map V.ref++ps.map V.ref))) l=some (.lst (ps.map V.ref)):=by rw[zB (Ne.symm nfl)]; exact hl
  refine⟨_,rfl,l,ss,ps,rfl,SqL.of hl1,Yb (fun _ _ z=>z.mono t1) hss,by omega,fun l' H3 ps' g3 hn hl' hp'=>?_⟩
  have cp:=Rk ss
  have t3:=t1.trans (yw.of g3)
  refine⟨cnt (ss.flatMap Sn.parts),by omega,ts++ss,ss.flatMap Sn.parts,qs++ps,ps',l',rfl,g1.trans g3,by rw[List.map_append]; exact g3 _ _ zq,hl',zF zq hn,
   YF (Yb (fun _ _ z=>z.mono t3) hts) (Yb (fun _ _ z=>z.mono t3) hss),hp',by rw[List.length_append]; omega,fun x=>?_,rfl⟩
  rw[<-hle x]
  constructor
  ·rintro (⟨t,ht,hx⟩ | ⟨u,hu,hx⟩)
   ·rcases List.mem_append.mp ht with z | z
    ·exact .inl ⟨t,z,hx⟩
    ·exact .inr ⟨t,z,(Sn.all_iff t x).mpr (.inl hx)⟩
   ·obtain⟨s',hs',hu'⟩:=Ml.mp hu
    exact .inr ⟨s',hs',(Sn.all_iff s' x).mpr (.inr ⟨u,hu',hx⟩)⟩
  ·rintro (⟨t,ht,hx⟩ | ⟨u,hu,hx⟩)
   ·exact .inl ⟨t,List.mem_append_left _ ht,hx⟩
   ·rcases (Sn.all_iff u x).mp hx with z | ⟨v,hv,z⟩
    ·exact .inl ⟨u,List.mem_append_right _ hu,z⟩
    ·exact .inr ⟨v,Ml.mpr ⟨u,hu,hv⟩,z⟩
 ·have c':ss=[]:=by
   have:¬ 0<ss.length:=fun z=>c (decide_eq_true (by rw[le]; omega))
   exact List.length_eq_zero_iff.mp (by omega)
  subst c'
  refine⟨_,rfl,q f H' ts qs g hf hf' hts ?_ fun x=>?_⟩
  ·have:cnt []=0:=rfl
   omega
  ·rw[<-hle x]
   constructor
   ·exact fun z=>.inl z
   ·rintro (z | ⟨u,hu,_⟩)
    ·exact z
    ·cases hu
theorem zb0 (T:Txt P w K mg a) (zdH:zm P w K mg base CX0 k a.Vc a.Vd ["sentence"] zab) (Tv:zm P w K mg base CX0 k a.tO a.tQ ["sentence"] Vn):zm P w K mg base CX0 (k+1) a.XM a.XQ ["sentence"] Kq:=by
 refine T.Tn.ok V1 (fun vs H Q E h=>?_) (fun cdv A outer s H vs Q E hr h=>?_)
 ·obtain⟨p,s,rfl,_⟩:=h
  rfl
 obtain⟨p,sn,rfl,isp,hc,q⟩:=h
 refine⟨_,(zj (zH (i:=1) V1.nd rfl (Or.inl rfl) (xV zc))
   (zj (wO PassesOwn.never rfl (wg (zu zdH hr rfl T.m_tuples_in T.Rz.2 T.b_tuples_in .nil zy (za (pv 0) zc))) (yD (i:=2) V1.nd rfl (Or.inl rfl)) (zx (yt (wI PySem.F.plainAttrs_list PySem.F.slot_list_extend PySem.F.type_list_extend J5 (pv 1) (za (zu Tv hr rfl T.m_letters_of T.X7.2 T.b_letters_of .nil zy (za (pv 2) zc)) zc)))))
   (zx (zK (pv 1))))),?_⟩
 refine⟨by show 0<=sizeLine; decide,fun f hf=>?_⟩
 have g0:=Same.new hf (.lst [])
 refine⟨_,rfl,p,sn,rfl,isp.mono (yw.of g0),hc,fun l H1 ts ps g1 hn hl hts htl hle=>?_⟩
 have nfl:f≠l:=zF zq hn
 have lt:=wu hts
 refine⟨l,rfl,⟨_,SqL.of hl⟩,?_⟩
 refine tD (xs:=ps.map V.ref) (fun i σ H'=>∃(f1:Option V),Same H H'/\H' f=some (.lst (((ts.take i).flatMap Sn.letters).map V.str))/\H' l=some (.lst (ps.map V.ref))/\Paired (IsS H') ts ps/\((ts.take i).flatMap Sn.letters).length<=i/\i<=ts.length/\σ=[some (.ref p),some (.ref f),f1])
  ⟨_,g0.trans g1,g1 _ _ zq,hl,hts,by simp,Nat.zero_le _,rfl⟩ ?_ ?_ ?_
 ·rintro i σ H' _ ⟨f1,g,hf',hl',_⟩
  exact SqL.of hl'
 ·rintro i x σ H' hx ⟨f1,g,hf',hl',hts',lq,li,rfl⟩
  rw[List.getElem?_map] at hx
  cases ho:ps[i]? with
  | none=>rw[ho] at hx; cases hx
  | some pp =>
   rw[ho] at hx
   cases hx
   obtain⟨sy,hsy,iy⟩:=Rj hts' ho
   have hlt:=(List.getElem?_eq_some_iff.mp hsy).1
   obtain⟨zs,c1,c2,c3,c4,c5⟩:=Qa iy
   have l1:=Sn.letters_le sy
   refine⟨_,rfl,.inl ⟨rfl,_,SqL.of hf'⟩,_,rfl,pp,sy.word,sy.letters.length,sy.parts.length,_,rfl,c1,Zm sy,c3,fun b hb=>?_⟩
   rw[c4]
   have hf2:(upd H' b (.tup (sy.letters.map V.str))) f=some (.lst (((ts.take i).flatMap Sn.letters).map V.str)):=by rw[zB (zF hf' hb)]; exact hf'
   refine⟨f,b,_,sy.letters.map V.str,rfl,rfl,hf2,SqT.of zq,?_,?_⟩
   ·rw[List.length_map,List.length_map]
    exact Nat.le_of_lt (yC (by omega))
   ·have t1:yw H' (upd (upd H' b (.tup (sy.letters.map V.str))) f (.lst (((ts.take i).flatMap Sn.letters).map V.str++sy.letters.map V.str))):=(yw.new hb _).trans (yw.lst hf2 _)
    have e:(ts.take (i+1)).flatMap Sn.letters=(ts.take i).flatMap Sn.letters++sy.letters:=by rw[xO hsy,List.flatMap_append,List.flatMap_singleton]
    refine⟨_,(g.trans (Same.new hb _)).over hf _,by rw[zq,e,List.map_append],?_,Yb (fun _ _ z=>z.mono t1) hts',by rw[e,List.length_append]; omega,hlt,rfl⟩
    rw[zB (Ne.symm nfl),zB (zF hl' hb)]
    exact hl'
 ·rintro σ H' ⟨f1,g,hf',hl',hts',lq,li,rfl⟩
  rw[List.length_map,<-lt,List.take_length] at hf' lq
  refine⟨_,rfl,q f H' _ g hf hf' (fun x=>?_) (by omega)⟩
  rw[<-hle x,List.mem_flatMap]
theorem Lz (T:Txt P w K mg a):zm P w K mg base CX0 (k+1) a.ug a.uh ["order", "letter"] (Q7 K):=by
 refine T.Y9.ok Ls (fun vs H Q E h=>?_) (fun cdv A outer s H vs Q E hr h=>?_)
 ·obtain⟨l,x,os,rfl,_⟩:=h
  rfl
 obtain⟨l,x,os,rfl,hO,hx,q⟩:=h
 refine⟨_,(zx (yS (zV zcE (pv 1) (pv 0) (by with_unfolding_all rfl)) (zx Z8) yu)),?_⟩
 refine⟨_,rfl,_,rfl,l,_,rfl,.inl hO,rfl,wL _,_,rfl,?_⟩
 have e:(if true=true then !inV (.str x) (os.map V.str) else inV (.str x) (os.map V.str))=false:=by
  rw[if_pos rfl,zcL,decide_eq_true hx]; rfl
 rw[e]
 exact vN q
theorem MK (T:Txt P w K mg a) (zcm:zm P w K mg base CX0 k a.XM a.XQ ["sentence"] Kq) (KZ:zm P w K mg base CX0 k a.ug a.uh ["order", "letter"] (Q7 K)):zm P w K mg base CX0 (k+1) a.tH a.tK ["order", "sentence"] (Kr K):=by
 refine T.Yp.ok Vp (fun vs H Q E h=>?_) (fun cdv A outer s H vs Q E hr h=>?_)
 ·obtain⟨l,p,os,s,rfl,_⟩:=h
  rfl
 obtain⟨l,p,os,sn,rfl,hO,isp,hc,hin,q⟩:=h
 refine⟨_,(zx (wO PassesOwn.never rfl (wg (zu zcm hr rfl T.m_letters_in T.Tn.2 T.b_letters_in .nil zy (za (pv 1) zc))) (yD (i:=2) Vp.nd rfl (Or.inl rfl)) (zx (yt (zu KZ hr rfl T.m_must_have_mark T.Y9.2 T.b_must_have_mark .nil zy (za (pv 0) (za (pv 2) zc))))))),?_⟩
 refine⟨_,rfl,p,sn,rfl,isp,hc,fun f H1 xs g1 hn hl hmem hxl=>?_⟩
 refine⟨f,rfl,⟨_,SqL.of hl⟩,?_⟩
 refine tD (xs:=xs.map V.str) (fun i σ H'=>∃f1:Option V,H'=H1/\σ=[some (.ref l),some (.ref p),f1]) ⟨_,rfl,rfl⟩ ?_ ?_ ?_
 ·rintro i σ H' _ ⟨f1,rfl,_⟩
  exact SqL.of hl
 ·rintro i x σ H' hx ⟨f1,rfl,rfl⟩
  rw[List.getElem?_map] at hx
  cases ho:xs[i]? with
  | none=>rw[ho] at hx; cases hx
  | some y =>
   rw[ho] at hx
   cases hx
   have hy:y∈os:=(Sn.inO_iff sn).mp hin y ((hmem y).mp (List.mem_of_getElem? ho))
   exact⟨_,rfl,_,rfl,l,y,os,rfl,g1.seq hO,hy,_,rfl,rfl⟩
 ·rintro σ H' ⟨f1,rfl,rfl⟩
  exact q _ g1
theorem zao (T:Txt P w K mg a):zm P w K mg base CX0 (k+1) a.v8 a.v9 ["word", "one", "other", "every"] zcd:=by
 refine T.WQ.ok Jw (fun vs H Q E h=>?_) (fun cdv A outer s H vs Q E hr h=>?_)
 ·obtain⟨o,N,M,n,f,g,rfl,_⟩:=h
  rfl
 obtain⟨o,N,M,n,f,g,rfl,hN,hM,q⟩:=h
 refine⟨_,(zj (yS (zV wz (pv 0) xZ (zW _)) (zx (zK (zM vM (pv 1) (pv 2)))) yu)
   (zj (yS (zV wz (pv 0) xZ (zW _)) (zx (zK (zM Wi (pv 1) (pv 2)))) yu)
   (zj (yS (zV wz (pv 0) xZ (zW _)) (zx (zK (zM Ux (pv 1) (pv 2)))) yu)
   (zx (zK (zM Wi (zM Ux (pv 3) (pv 1)) (pv 2))))))),?_⟩
 rcases zjM o with e | e | e | e
 ·subst e
  exact⟨_,rfl,rfl,_,rfl,yp (fun _=>⟨_,rfl,_,rfl,N,M,rfl,rfl,q _ (Ym hN hM)⟩) (fun c=>absurd (decide_eq_true rfl) c)⟩
 ·subst e
  refine⟨_,rfl,rfl,_,rfl,yp (fun c=>absurd c (ne_str (show Str.ofString "or" ≠ Str.ofString "and" by decide +kernel))) (fun _=>?_)⟩
  exact⟨_,rfl,rfl,_,rfl,yp (fun _=>⟨_,rfl,_,rfl,N,M,rfl,rfl,q _ (T5 hN hM)⟩) (fun c=>absurd (decide_eq_true rfl) c)⟩
 ·subst e
  refine⟨_,rfl,rfl,_,rfl,yp (fun c=>absurd c (ne_str (show Str.ofString "either" ≠ Str.ofString "and" by decide +kernel))) (fun _=>?_)⟩
  refine⟨_,rfl,rfl,_,rfl,yp (fun c=>absurd c (ne_str (show Str.ofString "either" ≠ Str.ofString "or" by decide +kernel))) (fun _=>?_)⟩
  exact⟨_,rfl,rfl,_,rfl,yp (fun _=>⟨_,rfl,_,rfl,N,M,rfl,rfl,q _ (W2 hN hM)⟩) (fun c=>absurd (decide_eq_true rfl) c)⟩
 ·subst e
  refine⟨_,rfl,rfl,_,rfl,yp (fun c=>absurd c (ne_str (show Str.ofString "if" ≠ Str.ofString "and" by decide +kernel))) (fun _=>?_)⟩
  refine⟨_,rfl,rfl,_,rfl,yp (fun c=>absurd c (ne_str (show Str.ofString "if" ≠ Str.ofString "or" by decide +kernel))) (fun _=>?_)⟩
  refine⟨_,rfl,rfl,_,rfl,yp (fun c=>absurd c (ne_str (show Str.ofString "if" ≠ Str.ofString "either" by decide +kernel))) (fun _=>?_)⟩
  refine⟨_,rfl,_,rfl,_,N,rfl,rfl,_,rfl,_,M,rfl,rfl,q _ (wV (T5 (W2 (R9 n) hN) hM) fun b _=>?_)⟩
  show((true != f b)||g b)=(!f b||g b)
  cases f b<;>rfl
theorem zb1 {d:Nat} (T:Txt P w K mg a) (wM:zm P w K mg base CX0 k a.uM a.uN ["marks"] Xn) (xH:zm P w K mg base CX0 k a.wF a.wG ["place", "marks"] vW)
  (vD:zm P w K mg base CX0 k a.Zc a.Zd ["table", "place", "marks"] Xo) (uW:zm P w K mg base CX0 k a.uO a.uP ["sentence"] Xp)
  (Yl:zm P w K mg base CX0 k a.v8 a.v9 ["word", "one", "other", "every"] zcd)
  (QM:zm P w K mg base CX0 k a.Ye a.Yg ["sentence", "order"] (Uy K d)):zm P w K mg base CX0 (k+1) a.Ye a.Yg ["sentence", "order"] (Uy K (d+1)):=by
 refine T.Uo.ok W9 (fun vs H Q E h=>?_) (fun cdv A outer s H vs Q E hr h=>?_)
 ·obtain⟨p,l,sn,os,rfl,_⟩:=h
  rfl
 obtain⟨p,l,sn,os,rfl,isp,hO,hin,h8,hd,q⟩:=h
 refine⟨_,(zj (zH (i:=2) W9.nd rfl (Or.inl rfl) (zX wZ (pv 0) zp (fun _ _=>rfl)))
   (zj (zH (i:=3) W9.nd rfl (Or.inl rfl) (zU zQ rfl T.n_len yH (za (pv 1) zc)))
   (zj (yS (zV wz (pv 2) xZ (zW _)) (zx (zK zp)) yu)
   (zj (yS (zV wz (pv 2) xZ (zW _)) (zx (zK (zu wM hr rfl T.m_all_rows T.uV.2 T.b_all_rows .nil zy (za (pv 3) zc)))) yu)
   (zj (yS (zV wz (pv 2) xZ (zW _)) (zx (zK (zu xH hr rfl T.m_rows_with T.vY.2 T.b_rows_with .nil zy (za (wI PySem.F.plainAttrs_list PySem.F.slot_list_index PySem.F.type_list_index T3 (pv 1) (za (zX wZ (pv 0) zp (fun _ _=>rfl)) zc)) (za (pv 3) zc))))) yu)
   (zj (zcI (tt:=Ua) (i:=4) W9.nd rfl (Or.inl rfl) (.inl rfl) (osc:=zA Xw) (js:=[1]) rfl (by show tY (zA Xw) _ "part" ["order"]; exact⟨rfl,by decide +kernel,by decide +kernel,rfl,by decide +kernel,by decide +kernel,by decide +kernel⟩) rfl (TV (zu uW hr rfl T.m_parts_of T.X8.2 T.b_parts_of .nil zy (za (pv 0) zc))) (by show ∀j∈([1]:List Nat),j<5; decide) (fun cl C s₂ H₂ fp pins s' σ' H' Q I h=>wpAny_pure ⟨H',I,h⟩) (fun cl C s₂ H₂ fp=>(zu QM hr rfl T.m_table_of T.Uo.2 T.b_table_of .nil zy (za (pv 0) (za (pv 1) zc)))) rfl)
   (zj (yS (zV wz (pv 2) xZ (zW _)) (zx (zK (zM Ux (zu wM hr rfl T.m_all_rows T.uV.2 T.b_all_rows .nil zy (za (pv 3) zc)) (zX yr (pv 4) zp (fun _ _=>rfl))))) yu)
   (zj (yS (zV wz (pv 2) xZ (zW _)) (zx (zK (zM Wi (zX yr (pv 4) zp (fun _ _=>rfl)) (zu vD hr rfl T.m_flipped T.Z6.2 T.b_flipped .nil zy (za (zX yr (pv 4) zp (fun _ _=>rfl)) (za (wI PySem.F.plainAttrs_list PySem.F.slot_list_index PySem.F.type_list_index T3 (pv 1) (za (zX wZ (pv 0) zp (fun _ _=>rfl)) zc)) (za (pv 3) zc))))))) yu)
   (zj (yS (zV wz (pv 2) xZ (zW _)) (zx (zK (zM vM (zX yr (pv 4) zp (fun _ _=>rfl)) (zu vD hr rfl T.m_flipped T.Z6.2 T.b_flipped .nil zy (za (zX yr (pv 4) zp (fun _ _=>rfl)) (za (wI PySem.F.plainAttrs_list PySem.F.slot_list_index PySem.F.type_list_index T3 (pv 1) (za (zX wZ (pv 0) zp (fun _ _=>rfl)) zc)) (za (pv 3) zc))))))) yu)
   (zx (zK (zu Yl hr rfl T.m_table_of_two T.WQ.2 T.b_table_of_two .nil zy (za (pv 2) (za (zX yr (pv 4) zp (fun _ _=>rfl)) (za (zX yr (pv 4) zp (fun _ _=>rfl)) (za (zu wM hr rfl T.m_all_rows T.uV.2 T.b_all_rows .nil zy (za (pv 3) zc)) zc)))))))))))))))),?_⟩
 have hlen:(os.map V.str).length=os.length:=List.length_map _
 obtain⟨zs,c1,c2,c3,c4,c5⟩:=Qa isp
 have lz:=wu c2
 have lp2:=Sn.parts_le sn
 refine⟨_,rfl,p,_,0,_,rfl,rfl,SqT.of c1,at0,?_⟩
 refine⟨_,rfl,l,_,rfl,.inl hO,?_⟩
 rw[hlen]
 have comp:∀{σ:St} {Q2:Addr->Hp->List V->Prop},σ.getD 1 none=some (.ref l)->(∀(b:Addr) (ys:List V) (H':Hp),Same H H'->H' b=none->ys.length=sn.parts.length->(∀(j:Nat) v,ys[j]?=some v->∃t N,sn.parts[j]?=some t/\v=.int (N:Nat)/\TabOf os t N)->Q2 b H' ys) ->
   ∀b0,H b0=none->∃W:Nat->Nat->List V->Hp->Prop,(∃m,W 0 m [] (upd H b0 (.tup (zs.map V.ref))))/\∀i m ys H,W i m ys H ->
    ((Itt K b0).stop i H/\∀p,H p=none->Q2 p H ys) \/
    ((Itt K b0).go i H/\ys.length<sizeLine/\∀x H',(Itt K b0).yld i H x H'->Ua (lcS σ [1] (some x)) H' fun b H2 =>
     if b=true then Ld (Uy K d) [] E0 (Ut (RM 0) (Ut (RM 1) K7)) (lcS σ [1] (some x)) H2 fun v H3=>∃m',m'<m/\W (i+1) m' (ys++[v]) H3 else ∃m',m'<m/\W (i+1) m' ys H2):=by
  intro σ Q2 hσ hQ2 b0 hb0
  have g0:=Same.new hb0 (.tup (zs.map V.ref))
  refine zhL (fun j v=>∃t N,sn.parts[j]?=some t/\v=.int ((N:Nat):Int)/\TabOf os t N) (SqT.of zq) (by rw[List.length_map]; exact Nat.le_of_lt (yC (by omega))) ?_ (zjf (ze4 d)) ?_
  ·intro i x H' hx g
   rw[List.getElem?_map] at hx
   cases ho:zs[i]? with
   | none=>rw[ho] at hx; cases hx
   | some y =>
    rw[ho] at hx
    cases hx
    obtain⟨t,ht,it⟩:=Rj c2 ho
    have htm:=List.mem_of_getElem? ht
    have dp:=Sn.RQ sn t htm
    refine⟨_,rfl,.ref l,?_,y,l,t,os,rfl,it.mono (yw.of (g0.trans g)),(g0.trans g).seq hO,Sn.zbe sn hin t htm,h8,by omega,fun N H3 g3 hN=>⟨⟨t,N,ht,rfl,hN⟩,g.trans g3⟩⟩
    show some (σ.getD 1 none)=_
    rw[hσ]
  ·intro ys H' pp hl hy g hpp
   exact hQ2 pp ys H' (g0.trans g) hpp (by rw[hl,List.length_map]; exact lz.symm) hy
 cases sn with
 | c0 y =>
  cases y with
  | false=>exact⟨_,rfl,rfl,_,rfl,yp (fun _=>q 0 _ (Same.refl _) (QX _)) (fun c=>absurd (decide_eq_true rfl) c)⟩
  | true =>
   refine⟨_,rfl,rfl,_,rfl,yp (fun c=>absurd c (ne_str (show Str.ofString "yes" ≠ Str.ofString "no" by decide +kernel))) (fun _=>?_)⟩
   exact⟨_,rfl,rfl,_,rfl,yp (fun _=>⟨_,rfl,os.length,rfl,h8,q _ _ (Same.refl _) (R9 _)⟩) (fun c=>absurd (decide_eq_true rfl) c)⟩
 | mk x =>
  refine⟨_,rfl,rfl,_,rfl,yp (fun c=>absurd c (ne_str (show Str.ofString "mark" ≠ Str.ofString "no" by decide +kernel))) (fun _=>?_)⟩
  refine⟨_,rfl,rfl,_,rfl,yp (fun c=>absurd c (ne_str (show Str.ofString "mark" ≠ Str.ofString "yes" by decide +kernel))) (fun _=>?_)⟩
  obtain⟨i1,i2,i3⟩:=wU (show x∈os from hin)
  have isp':H p=some (.tup [.str "mark", .str x]):=isp
  exact⟨_,rfl,rfl,_,rfl,yp (fun _=>⟨_,rfl,.inl ⟨rfl,_,hO⟩,_,rfl,p,_,1,_,rfl,rfl,SqT.of isp',at1,l,_,.str x,_,rfl,rfl,hO,rfl,wL _,i1,_,rfl,ix os x,os.length,rfl,i2,h8,fun R hR=>q R _ (Same.refl _) hR⟩) (fun c=>absurd (decide_eq_true rfl) c)⟩
 | nt s1 =>
  refine⟨_,rfl,rfl,_,rfl,yp (fun c=>absurd c (ne_str (show Str.ofString "not" ≠ Str.ofString "no" by decide +kernel))) (fun _=>?_)⟩
  refine⟨_,rfl,rfl,_,rfl,yp (fun c=>absurd c (ne_str (show Str.ofString "not" ≠ Str.ofString "yes" by decide +kernel))) (fun _=>?_)⟩
  refine⟨_,rfl,rfl,_,rfl,yp (fun c=>absurd c (ne_str (show Str.ofString "not" ≠ Str.ofString "mark" by decide +kernel))) (fun _=>?_)⟩
  refine⟨_,rfl,p,_,_,_,_,rfl,c1,Zm (.nt s1),c3,fun b0 hb0=>?_⟩
  rw[c5]
  refine⟨b0,rfl,⟨_,SqT.of zq⟩,comp rfl (fun b ys H0 g0 hb0' hyl hy=>?_) b0 hb0⟩
  have hb:=zq (H:=H0) (a:=b) (o:=.lst ys)
  have g:=g0.trans (Same.new hb0' (.lst ys))
  obtain⟨v,rfl⟩:=len1 hyl
  obtain⟨t,N,ht,rfl,hN⟩:=hy 0 v rfl
  cases ht
  refine⟨_,rfl,rfl,_,rfl,yp (fun _=>⟨_,rfl,os.length,rfl,h8,_,rfl,b,_,0,_,rfl,rfl,SqL.of hb,at0,_,N,rfl,rfl,q _ _ g (wV (W2 (R9 _) hN) fun z _=>?_)⟩) (fun c=>absurd (decide_eq_true rfl) c)⟩
  show(true != s1.val (Yr os z))=!s1.val (Yr os z)
  cases s1.val (Yr os z)<;>rfl
 | b2 o s1 s2 =>
  have w1:w2 o≠Str.ofString "no" := zjg o
  have w2':w2 o≠Str.ofString "yes" := ziD o
  have w3:w2 o≠Str.ofString "mark" := zhM o
  have w4:w2 o≠Str.ofString "not" := ziE o
  have w5:w2 o≠Str.ofString "some" := zhN o
  have w6:w2 o≠Str.ofString "each" := zhO o
  refine⟨_,rfl,rfl,_,rfl,yp (fun c=>absurd c (ne_str w1)) (fun _=>?_)⟩
  refine⟨_,rfl,rfl,_,rfl,yp (fun c=>absurd c (ne_str w2')) (fun _=>?_)⟩
  refine⟨_,rfl,rfl,_,rfl,yp (fun c=>absurd c (ne_str w3)) (fun _=>?_)⟩
  refine⟨_,rfl,p,_,_,_,_,rfl,c1,Zm (.b2 o s1 s2),c3,fun b0 hb0=>?_⟩
  rw[c5]
  refine⟨b0,rfl,⟨_,SqT.of zq⟩,comp rfl (fun b ys H0 g0 hb0' hyl hy=>?_) b0 hb0⟩
  have hb:=zq (H:=H0) (a:=b) (o:=.lst ys)
  have g:=g0.trans (Same.new hb0' (.lst ys))
  obtain⟨v,u,rfl⟩:=len2 hyl
  obtain⟨t,N,ht,rfl,hN⟩:=hy 0 v rfl
  obtain⟨t',M,ht',rfl,hM⟩:=hy 1 u rfl
  cases ht
  cases ht'
  refine⟨_,rfl,rfl,_,rfl,yp (fun c=>absurd c (ne_str w4)) (fun _=>?_)⟩
  refine⟨_,rfl,rfl,_,rfl,yp (fun c=>absurd c (ne_str w5)) (fun _=>?_)⟩
  refine⟨_,rfl,rfl,_,rfl,yp (fun c=>absurd c (ne_str w6)) (fun _=>?_)⟩
  exact⟨_,rfl,_,rfl,b,_,0,_,rfl,rfl,SqL.of hb,at0,_,rfl,b,_,1,_,rfl,rfl,SqL.of hb,at1,_,rfl,os.length,rfl,h8,o,N,M,os.length,_,_,rfl,hN,hM,fun R hR=>q R _ g hR⟩
 | q1 o x s1 =>
  obtain⟨hx,hs1⟩:=hin
  obtain⟨i1,i2,i3⟩:=wU hx
  cases o with
  | true =>
   refine⟨_,rfl,rfl,_,rfl,yp (fun c=>absurd c (ne_str (show Str.ofString "some" ≠ Str.ofString "no" by decide +kernel))) (fun _=>?_)⟩
   refine⟨_,rfl,rfl,_,rfl,yp (fun c=>absurd c (ne_str (show Str.ofString "some" ≠ Str.ofString "yes" by decide +kernel))) (fun _=>?_)⟩
   refine⟨_,rfl,rfl,_,rfl,yp (fun c=>absurd c (ne_str (show Str.ofString "some" ≠ Str.ofString "mark" by decide +kernel))) (fun _=>?_)⟩
   refine⟨_,rfl,p,_,_,_,_,rfl,c1,Zm (.q1 true x s1),c3,fun b0 hb0=>?_⟩
   rw[c5]
   refine⟨b0,rfl,⟨_,SqT.of zq⟩,comp rfl (fun b ys H0 g0 hb0' hyl hy=>?_) b0 hb0⟩
   have hb:=zq (H:=H0) (a:=b) (o:=.lst ys)
   have g:=g0.trans (Same.new hb0' (.lst ys))
   obtain⟨v,rfl⟩:=len1 hyl
   obtain⟨t,N,ht,rfl,hN⟩:=hy 0 v rfl
   cases ht
   have c1':=g _ _ c1
   refine⟨_,rfl,rfl,_,rfl,yp (fun c=>absurd c (ne_str (show Str.ofString "some" ≠ Str.ofString "not" by decide +kernel))) (fun _=>?_)⟩
   refine⟨_,rfl,rfl,_,rfl,yp (fun _=>?_) (fun c=>absurd (decide_eq_true rfl) c)⟩
   refine⟨_,rfl,b,_,0,_,rfl,rfl,SqL.of hb,at0,_,rfl,b,_,0,_,rfl,rfl,SqL.of hb,at0,_,rfl,.inl ⟨rfl,_,g.seq hO⟩,_,rfl,p,_,1,_,rfl,rfl,SqT.of c1',at1,l,_,.str x,_,rfl,rfl,g.seq hO,rfl,wL _,i1,_,rfl,N,ix os x,os.length,_,rfl,i2,h8,hN,fun R hR=>⟨N,R,rfl,rfl,q _ _ g (wV (T5 hN hR) fun z _=>?_)⟩⟩
   exact(zgP hs1 hx z).symm
  | false =>
   refine⟨_,rfl,rfl,_,rfl,yp (fun c=>absurd c (ne_str (show Str.ofString "each" ≠ Str.ofString "no" by decide +kernel))) (fun _=>?_)⟩
   refine⟨_,rfl,rfl,_,rfl,yp (fun c=>absurd c (ne_str (show Str.ofString "each" ≠ Str.ofString "yes" by decide +kernel))) (fun _=>?_)⟩
   refine⟨_,rfl,rfl,_,rfl,yp (fun c=>absurd c (ne_str (show Str.ofString "each" ≠ Str.ofString "mark" by decide +kernel))) (fun _=>?_)⟩
   refine⟨_,rfl,p,_,_,_,_,rfl,c1,Zm (.q1 false x s1),c3,fun b0 hb0=>?_⟩
   rw[c5]
   refine⟨b0,rfl,⟨_,SqT.of zq⟩,comp rfl (fun b ys H0 g0 hb0' hyl hy=>?_) b0 hb0⟩
   have hb:=zq (H:=H0) (a:=b) (o:=.lst ys)
   have g:=g0.trans (Same.new hb0' (.lst ys))
   obtain⟨v,rfl⟩:=len1 hyl
   obtain⟨t,N,ht,rfl,hN⟩:=hy 0 v rfl
   cases ht
   have c1':=g _ _ c1
   refine⟨_,rfl,rfl,_,rfl,yp (fun c=>absurd c (ne_str (show Str.ofString "each" ≠ Str.ofString "not" by decide +kernel))) (fun _=>?_)⟩
   refine⟨_,rfl,rfl,_,rfl,yp (fun c=>absurd c (ne_str (show Str.ofString "each" ≠ Str.ofString "some" by decide +kernel))) (fun _=>?_)⟩
   refine⟨_,rfl,rfl,_,rfl,yp (fun _=>?_) (fun c=>absurd (decide_eq_true rfl) c)⟩
   refine⟨_,rfl,b,_,0,_,rfl,rfl,SqL.of hb,at0,_,rfl,b,_,0,_,rfl,rfl,SqL.of hb,at0,_,rfl,.inl ⟨rfl,_,g.seq hO⟩,_,rfl,p,_,1,_,rfl,rfl,SqT.of c1',at1,l,_,.str x,_,rfl,rfl,g.seq hO,rfl,wL _,i1,_,rfl,N,ix os x,os.length,_,rfl,i2,h8,hN,fun R hR=>⟨N,R,rfl,rfl,q _ _ g (wV (Ym hN hR) fun z _=>?_)⟩⟩
   exact(zgQ hs1 hx z).symm
theorem Kz (T:Txt P w K mg a) (wM:zm P w K mg base CX0 k a.uM a.uN ["marks"] Xn) (xH:zm P w K mg base CX0 k a.wF a.wG ["place", "marks"] vW)
  (vD:zm P w K mg base CX0 k a.Zc a.Zd ["table", "place", "marks"] Xo) (uW:zm P w K mg base CX0 k a.uO a.uP ["sentence"] Xp)
  (Yl:zm P w K mg base CX0 k a.v8 a.v9 ["word", "one", "other", "every"] zcd):∀d:Nat,zm P w K mg base CX0 (k+d) a.Ye a.Yg ["sentence", "order"] (Uy K d)
 | 0=>by
  refine⟨fun vs H Q E h=>?_,fun A outer s H args us vs Q E _ _ _ _ h=>?_⟩
  ·obtain⟨p,l,sn,os,rfl,_⟩:=h
   rfl
  ·obtain⟨p,l,sn,os,_,_,_,_,_,hd,_⟩:=h
   have:=Sn.Mg sn
   omega
 | d+1=>zb1 T (wM.mono (Nat.le_add_right _ _)) (xH.mono (Nat.le_add_right _ _)) (vD.mono (Nat.le_add_right _ _)) (uW.mono (Nat.le_add_right _ _)) (Yl.mono (Nat.le_add_right _ _)) (Kz T wM xH vD uW Yl d)
end
end K92
namespace K92
open PySem L2 Sen
section
variable {P:Program} {w:World} {K:PySem.W.Frag} {mg:Str->Option Value} {base:Heap} {a:Ad} {k:Nat}
theorem zfi (T:Txt P w K mg a) (xH:zm P w K mg base CX0 k a.wF a.wG ["place", "marks"] vW) (vD:zm P w K mg base CX0 k a.Zc a.Zd ["table", "place", "marks"] Xo):zm P w K mg base CX0 (k+1) a.ZX a.Z0 ["table", "place", "value", "marks"] Sq:=by
 refine T.Ze.ok Qw (fun vs H Q E h=>?_) (fun cdv A outer s H vs Q E hr h=>?_)
 ·obtain⟨N,p,n,v,f,rfl,_⟩:=h
  rfl
 obtain⟨N,p,n,v,f,rfl,hp,hn,tb,q⟩:=h
 refine⟨_,(zj (zH (i:=4) Qw.nd rfl (Or.inl rfl) (zM vM (pv 0) (zu xH hr rfl T.m_rows_with T.vY.2 T.b_rows_with .nil zy (za (pv 1) (za (pv 3) zc)))))
   (zj (zH (i:=5) Qw.nd rfl (Or.inl rfl) (K5 (zV wz (pv 2) zp (zW _)) (pv 4) (zM Ux (pv 0) (pv 4))))
   (zx (zK (zM Wi (pv 5) (zu vD hr rfl T.m_flipped T.Z6.2 T.b_flipped .nil zy (za (pv 5) (za (pv 1) (za (pv 3) zc))))))))),?_⟩
 refine⟨_,rfl,_,rfl,_,rfl,p,n,rfl,hp,hn,fun R tr=>?_⟩
 refine⟨N,R,rfl,rfl,?_⟩
 have o:=Sen.Ym tb tr
 refine⟨_,rfl,rfl,_,rfl,?_⟩
 cases v with
 | true =>
  refine yp (fun _=>?_) (fun c=>absurd (decide_eq_true rfl) c)
  refine⟨_,rfl,?_⟩
  refine⟨_,rfl,_,rfl,_,rfl,_,rfl,N&&&R,p,n,_,rfl,hp,hn,o,fun R2 t2=>?_⟩
  refine⟨_,_,rfl,rfl,q _ (wV (Sen.T5 o t2) fun b hb=>?_)⟩
  show((f b&&b.testBit p)||(f (zE b p (!b.testBit p))&&(zE b p (!b.testBit p)).testBit p))=f (zE b p true)
  rw[zT,if_pos rfl]
  cases e:b.testBit p
  ·simp
  ·rw[<-e,Bdd.xM,e]; simp
 | false =>
  refine yp (fun c=>absurd (of_decide_eq_true c) (fun z=>by injection z with z; revert z; decide)) (fun _=>?_)
  have z:=Sen.W2 tb o
  refine⟨_,rfl,_,rfl,N,N&&&R,rfl,rfl,?_⟩
  refine⟨_,rfl,_,rfl,_,rfl,_,rfl,N ^^^ (N&&&R),p,n,_,rfl,hp,hn,z,fun R2 t2=>?_⟩
  refine⟨_,_,rfl,rfl,q _ (wV (Sen.T5 z t2) fun b hb=>?_)⟩
  show((f b != (f b&&b.testBit p))||(f (zE b p (!b.testBit p)) != (f (zE b p (!b.testBit p))&&(zE b p (!b.testBit p)).testBit p)))=f (zE b p false)
  rw[zT,if_pos rfl]
  cases e:b.testBit p
  ·rw[<-e,Bdd.xM,e]; simp
  ·simp
theorem zdZ (T:Txt P w K mg a) (vD:zm P w K mg base CX0 k a.Zc a.Zd ["table", "place", "marks"] Xo):zm P w K mg base CX0 (k+1) a.XH a.XJ ["table", "place", "marks"] zaT:=by
 refine T.Um.ok zdC (fun vs H Q E h=>?_) (fun cdv A outer s H vs Q E hr h=>?_)
 ·obtain⟨N,p,n,f,rfl,_⟩:=h
  rfl
 obtain⟨N,p,n,f,rfl,hp,hn,tb,q⟩:=h
 refine⟨_,(zx (zK (uf Vm (zu vD hr rfl T.m_flipped T.Z6.2 T.b_flipped .nil zy (za (pv 0) (za (pv 1) (za (pv 2) zc)))) (pv 0) (zW _)))),?_⟩
 refine⟨_,rfl,_,rfl,_,rfl,N,p,n,f,rfl,hp,hn,tb,fun R tr=>?_⟩
 refine⟨_,rfl,rfl,?_⟩
 refine q _ (fun e=>?_) (fun e=>?_)
 ·have e1:R=N:=by
   have z:V.int (R:Nat)=V.int (N:Nat):=of_decide_eq_true (by simpa using e)
   injection z with z
   omega
  subst e1
  refine Bdd.Free.of_flip fun b hb=>?_
  rw[<-Bdd.Qe tr hb,Bdd.Qe tb hb]
 ·refine Classical.byContradiction fun no=>?_
  have e1:R=N:=Bdd.Qd tr tb fun b hb=>by
   refine Classical.byContradiction fun ne=>no ⟨b,hb,fun z=>ne ?_⟩
   show f (zE b p (!b.testBit p))=f b
   cases e:b.testBit p
   ·rw[Bool.not_false,<-z,<-e,Bdd.xM]
   ·rw[Bool.not_true,z,<-e,Bdd.xM]
  subst e1
  rw[decide_eq_true rfl] at e
  cases e
theorem zaZ (T:Txt P w K mg a) (QS:zm P w K mg base CX0 k a.XH a.XJ ["table", "place", "marks"] zaT):zm P w K mg base CX0 (k+1) a.Zw a.Zx ["table", "marks"] zaR:=by
 refine T.V3.ok Wy (fun vs H Q E h=>?_) (fun cdv A outer s H vs Q E hr h=>?_)
 ·obtain⟨N,n,f,rfl,_⟩:=h
  rfl
 obtain⟨N,n,f,rfl,hn,tb,q⟩:=h
 refine⟨_,(zj (zH (i:=2) Wy.nd rfl (Or.inl rfl) zp)
   (zj (TQ PassesOwn.never (PW.pt (zct (zV zcb (pv 2) (pv 1) (zW _)) (zaC (TF (Z9 (zu QS hr rfl T.m_hangs_on T.Um.2 T.b_hangs_on .nil zy (za (pv 0) (za (pv 2) (za (pv 1) zc)))) (fun _=>rfl)))))) (zx (zcx (i:=2) Wy.nd rfl (Or.inl rfl) zp zaE)))
   (zx (zK (pv 2))))),?_⟩
 refine⟨fun m σ H'=>∃p:Nat,m=n-p/\H'=H/\p<=n/\(∀i,i<p->Bdd.Free n f i)/\σ=[some (.int N),some (.int n),some (.int p)],⟨_,0,rfl,rfl,Nat.zero_le _,fun i hi=>absurd hi (Nat.not_lt_zero _),rfl⟩,?_⟩
 rintro m σ H' ⟨p,rfl,rfl,hp,fr,rfl⟩
 refine⟨_,rfl,_,rfl,_,_,rfl,rfl,_,rfl,yp (fun c=>?_) (fun c=>?_)⟩
 ·have hpn:p<n:=by have:=of_decide_eq_true c; omega
  refine⟨_,rfl,_,rfl,_,rfl,N,p,n,f,rfl,hpn,hn,tb,fun b hf ht=>?_⟩
  cases b with
  | false =>
   refine⟨_,rfl,yp (fun c2=>?_) (fun c2=>absurd rfl c2)⟩
   refine⟨_,fun σ' H2 h=>h,?_⟩
   refine⟨_,rfl,_,_,rfl,rfl,n-(p+1),by omega,p+1,rfl,rfl,hpn,fun i hi=>?_,rfl⟩
   by_cases e:i=p
   ·subst e
    exact hf rfl
   ·exact fr i (by omega)
  | true =>
   refine⟨_,rfl,yp (fun c2=>absurd c2 Bool.false_ne_true) (fun c2=>?_)⟩
   exact⟨_,rfl,q p hp fr fun _=>ht rfl⟩
 ·refine⟨_,rfl,q p hp fr fun h=>absurd (decide_eq_true (by omega)) c⟩
theorem MN {d:Nat} (T:Txt P w K mg a) (Y0:zm P w K mg base CX0 k a.Zw a.Zx ["table", "marks"] zaR) (vG:zm P w K mg base CX0 k a.ZX a.Z0 ["table", "place", "value", "marks"] Sq)
  (yj:zm P w K mg base CX0 k a.yL a.yM ["self", "table"] (wH a.zf d)):zm P w K mg base CX0 (k+1) a.yL a.yM ["self", "table"] (wH a.zf (d+1)):=by
 refine T.Tq.ok vQ (fun vs H Q E h=>?_) (fun cdv A outer s H vs Q E hr h=>?_)
 ·obtain⟨b,os,rs,F,t,u,f,rfl,_⟩:=h
  rfl
 obtain⟨b,os,rs,F,t,u,f,rfl,hB,hlen,hu,hd,tb,fr,q⟩:=h
 refine⟨_,(zj (yS (zij (zfT (Lg hr) (pv 1) (vU (pv 0) rfl))) (zj (zH (i:=2) vQ.nd rfl (Or.inl rfl) (zU zQ rfl T.n_len yH (za (vU (pv 0) rfl) zc)))
   (zj (zH (i:=3) vQ.nd rfl (Or.inl rfl) (zu Y0 hr rfl T.m_first_place T.V3.2 T.b_first_place .nil zy (za (pv 1) (za (pv 2) zc))))
   (zj (zH (i:=4) vQ.nd rfl (Or.inl rfl) (yG (pv 0) T.c_Book T.e_Book_room_with yj hr T.b_Book_room_with .nil zy (za (zu vG hr rfl T.m_held_at T.Ze.2 T.b_held_at .nil zy (za (pv 1) (za (pv 3) (za zp (za (pv 2) zc))))) zc)))
   (zj (zH (i:=5) vQ.nd rfl (Or.inl rfl) (yG (pv 0) T.c_Book T.e_Book_room_with yj hr T.b_Book_room_with .nil zy (za (zu vG hr rfl T.m_held_at T.Ze.2 T.b_held_at .nil zy (za (pv 1) (za (pv 3) (za zp (za (pv 2) zc))))) zc)))
   (zj (zei (Lg hr) (vU (pv 0) rfl) (pv 1) (zU zQ rfl T.n_len yH (za (vU (pv 0) rfl) zc)) rfl)
   (zj (yt (wI PySem.F.plainAttrs_list PySem.F.slot_list_append PySem.F.type_list_append wK (vU (pv 0) rfl) (za (vV (za (pv 3) (za (pv 4) (za (pv 5) zc)))) zc)))
   (zx (yt (wI PySem.F.plainAttrs_list PySem.F.slot_list_append PySem.F.type_list_append wK (vU (pv 0) rfl) (za (pv 1) zc)))))))))) yu)
   (zx (zK (zaP (Lg hr) (vU (pv 0) rfl) (pv 1) (fun _ _=>rfl))))),?_⟩
 have hB0:=hB
 obtain⟨dx,ml,rl,tl,nd,rv,ts,kvs,h⟩:=hB
 have n8:os.length<=8:=h.ord.le
 have hml:(os.map V.str).length=os.length:=List.length_map _
 have pw:2^(d+1)=2^d+2^d:=by rw[Nat.pow_succ]; omega
 have pd:1<=2^d:=Nat.one_le_two_pow
 have pn:2^os.length<=256:=Sen.Jc n8
 refine⟨_,rfl,_,rfl,b,a.zf,dx,_,_,rfl,h.hb,T.c_Book,T.na_Book_numbers,rfl,nd,_,rfl,Ub.k (k:=.inl (t:Int)) h.hd,?_⟩
 by_cases hm:t∈ts
 ·obtain⟨j,hj,ej⟩:=List.getElem_of_mem hm
  have ej':ts[j]?=some t:=by rw[List.getElem?_eq_getElem hj,ej]
  have ev:=h.nums.get j t ej'
  have z:=Ub.k (k:=.inl (t:Int)) h.hd
  rw[ev] at z
  rw[ev]
  refine⟨_,rfl,vN ?_⟩
  refine⟨_,rfl,b,a.zf,dx,_,_,rfl,h.hb,T.c_Book,T.na_Book_numbers,rfl,_,rfl,nd,_,rfl,z,?_⟩
  refine q j rs H (fun x o e _=>e) (fun _ _ e=>e) hB0 (.refl _) (by rw[<-h.tabs.len]; exact hj) (h.tabs.find h.bk ej' tb) (by omega) (fun j h1 h2=>by omega) (Nat.le_add_right _ _)
 ·have ev:=h.nums.non t hm
  rw[ev]
  refine⟨_,rfl,Xb ?_⟩
  refine⟨_,rfl,b,a.zf,dx,_,_,rfl,h.hb,T.c_Book,T.na_Book_marks,rfl,ml,_,rfl,.inl (SqL.of h.hm),?_⟩
  rw[hml]
  refine⟨_,rfl,_,rfl,t,os.length,f,rfl,n8,tb,fun p hp0 frp dep=>?_⟩
  have hp:p<os.length:=by
   refine Nat.lt_of_le_of_ne hp0 fun e=>hm ?_
   subst e
   have cs:=Bdd.zbY frp
   have two:=Bdd.len2 h.bk
   cases hf:f 0 with
   | false=>exact List.mem_of_getElem? (h.tabs.same (j:=0) (by omega) tb fun r=>by rw[cs _ (Bdd.z8 _ _),hf]; rfl)
   | true=>exact List.mem_of_getElem? (h.tabs.same (j:=1) (by omega) tb fun r=>by rw[cs _ (Bdd.z8 _ _),hf]; exact Bdd.Xq h.bk r)
  have hup:u<=p:=by
   refine Nat.le_of_not_lt fun hlt=>?_
   obtain⟨c,hc,hne⟩:=dep hp
   exact hne (by rw[fr p hlt c hc,fr p hlt c hc])
  have fre:∀(v:Bool) i,i<p+1->Bdd.Free os.length (fun c=>f (zE c p v)) i:=fun v i hi c hc v'=>by
   show f (zE (zE c i v') p v)=f (zE c p v)
   by_cases e:i=p
   ·subst e
    congr 1
    refine Bdd.W4 (yU (yU hc hp) hp) (yU hc hp) fun j _=>?_
    rw[zT,zT,zT]
    by_cases e:j=i
    ·rw[if_pos e,if_pos e]
    ·rw[if_neg e,if_neg e,if_neg e]
   ·rw[<-frp i (by omega) _ (yU (v:=v) hc hp) v']
    congr 1
    refine Bdd.W4 (yU (yU hc (by omega)) hp) (yU (yU hc hp) (by omega)) fun j _=>?_
    rw[zT,zT,zT,zT]
    by_cases e1:j=p
    ·rw[if_pos e1,if_pos e1,if_neg (by omega)]
    ·rw[if_neg e1,if_neg e1]
  refine⟨_,rfl,b,dx,_,rfl,h.hb,rfl,_,rfl,_,rfl,_,rfl,t,p,os.length,false,f,rfl,hp,n8,tb,fun R0 tr0=>?_⟩
  refine⟨b,os,rs,F,R0,p+1,_,rfl,hB0,by omega,hp,by omega,tr0,fre false,fun k0 rs1 H1 aw1 tu1 hB1 gr1 lt1 y1 ln1 lv1 hh1=>?_⟩
  have hB1':=hB1
  obtain⟨dx1,ml1,rl1,tl1,nd1,rv1,ts1,kvs1,h1⟩:=hB1
  refine⟨_,rfl,b,dx1,_,rfl,h1.hb,rfl,_,rfl,_,rfl,_,rfl,t,p,os.length,true,f,rfl,hp,n8,tb,fun R1 tr1=>?_⟩
  refine⟨b,os,rs1,F,R1,p+1,_,rfl,hB1',by omega,hp,by omega,tr1,fre true,fun k1 rs2 H2 aw2 tu2 hB2 gr2 lt2 y2 ln2 lv2 hh2=>?_⟩
  obtain⟨dx2,ml2,rl2,tl2,nd2,rv2,ts2,kvs2,h2⟩:=hB2
  have lt1':k0<rs2.length:=Nat.lt_of_lt_of_le lt1 gr2.len
  have y1':∀r,Bdd.yes rs2 k0 r=f (zE (Bdd.bits r os.length) p false):=fun r=>by rw[gr2.yes h1.bk lt1]; exact y1 r
  have g02:=gr1.trans gr2
  have lrs:=g02.len
  have lvs:∀j,rs.length<=j->j<rs2.length->p<Bdd.lev os.length rs2 j:=fun j a1 a2=>by
   by_cases hj:j<rs1.length
   ·rw[gr2.lev hj]; exact lv1 j a1 hj
   ·exact lv2 j (by omega) a2
  have old:∀j,j<rs.length->¬∀r,Bdd.yes rs2 j r=f (Bdd.bits r os.length):=fun j hj hy=>hm (List.mem_of_getElem? (h.tabs.same hj tb fun r=>by rw[<-g02.yes h.bk hj]; exact hy r))
  obtain⟨B',yn⟩:=Bdd.zgS h2.bk hp lt1' lt2 y1' y2 frp (dep hp) old lvs
  have hn2:t∉ts2:=fun hm2=>by
   obtain⟨j,hj,ej⟩:=List.getElem_of_mem hm2
   have ej':ts2[j]?=some t:=by rw[List.getElem?_eq_getElem hj,ej]
   have hjr:j<rs2.length:=by rw[<-h2.tabs.len]; exact hj
   have hy:=h2.tabs.find h2.bk ej' tb
   by_cases hjo:j<rs.length
   ·exact old j hjo hy
   ·obtain⟨c,hc,hne⟩:=dep hp
    have lv:=lvs j (by omega) hjr
    refine hne ?_
    have a1:=hy (Bdd.put (Bdd.xg c) p false)
    have a2:=hy (Bdd.put (Bdd.xg c) p true)
    rw[Bdd.tZ h2.bk hjr lv,Bdd.zcW hp,Bdd.Zf hc] at a1 a2
    exact a1.symm.trans a2
  have l2:=h2.len
  have s2:rs2.length<sizeLine:=Nat.lt_of_lt_of_le (show rs2.length<9000001 by omega) (by decide)
  refine⟨_,rfl,b,a.zf,dx2,_,_,rfl,h2.hb,T.c_Book,T.na_Book_rooms,rfl,rl2,_,rfl,.inl (SqL.of h2.hr),?_⟩
  rw[l2]
  refine⟨_,rfl,b,a.zf,dx2,_,_,rfl,h2.hb,T.c_Book,T.na_Book_numbers,rfl,_,rfl,nd2,_,rfl,zaO.k (k:=.inl (t:Int)) h2.hd (by have:=h2.nums.len; have:=h2.tabs.len; omega),?_⟩
  have nb:nd2≠b:=Wc h2.hd h2.hb (by intro z; cases z)
  have nm:nd2≠ml2:=Wc h2.hd h2.hm (by intro z; cases z)
  have nr:nd2≠rl2:=Wc h2.hd h2.hr (by intro z; cases z)
  have nt:nd2≠tl2:=Wc h2.hd h2.ht (by intro z; cases z)
  have br:b≠rl2:=Wc h2.hb h2.hr (by intro z; cases z)
  have bt:b≠tl2:=Wc h2.hb h2.ht (by intro z; cases z)
  generalize hO3:HO.dK (putK kvs2 (Sum.inl (t:Int)) (V.int (rs2.length:Nat)))=o3
  have b3:upd H2 nd2 o3 b=some (.ins a.zf dx2 (Qg ml2 rl2 tl2 nd2)):=by rw[zB (Ne.symm nb)]; exact h2.hb
  have r3:upd H2 nd2 o3 rl2=some (.lst rv2):=by rw[zB (Ne.symm nr)]; exact h2.hr
  refine⟨_,rfl,b,a.zf,dx2,_,_,rfl,b3,T.c_Book,T.na_Book_rooms,rfl,.inl ⟨rfl,_,SqL.of r3⟩,?_⟩
  refine⟨_,rfl,_,rfl,_,rfl,by show 3<=sizeLine; decide,fun q4 hq4=>?_⟩
  generalize hO4:HO.tup [V.int (p:Nat),V.int (k0:Nat),V.int (k1:Nat)]=o4
  have r4:upd (upd H2 nd2 o3) q4 o4 rl2=some (.lst rv2):=by rw[zB (zF r3 hq4)]; exact r3
  refine⟨rl2,_,_,rfl,rfl,r4,by rw[l2]; exact s2,?_⟩
  have b4:upd (upd H2 nd2 o3) q4 o4 b=some (.ins a.zf dx2 (Qg ml2 rl2 tl2 nd2)):=by rw[zB (zF b3 hq4)]; exact b3
  have t3:upd H2 nd2 o3 tl2=some (.lst (ts2.map fun t=>V.int (t:Nat))):=by rw[zB (Ne.symm nt)]; exact h2.ht
  have t4:upd (upd H2 nd2 o3) q4 o4 tl2=some (.lst (ts2.map fun t=>V.int (t:Nat))):=by rw[zB (zF t3 hq4)]; exact t3
  have m3:upd H2 nd2 o3 ml2=some (.lst (os.map V.str)):=by rw[zB (Ne.symm nm)]; exact h2.hm
  have m4:upd (upd H2 nd2 o3) q4 o4 ml2=some (.lst (os.map V.str)):=by rw[zB (zF m3 hq4)]; exact m3
  have n3:upd H2 nd2 o3 nd2=some o3:=zq
  have n4:upd (upd H2 nd2 o3) q4 o4 nd2=some o3:=by rw[zB (zF n3 hq4)]; exact n3
  have qr:q4≠rl2:=Ne.symm (zF r3 hq4)
  have qt:q4≠tl2:=Ne.symm (zF t3 hq4)
  have q4':upd (upd H2 nd2 o3) q4 o4 q4=some o4:=zq
  have tu4:yw H2 (upd (upd H2 nd2 o3) q4 o4):=fun x xs e=>by
   have e3:upd H2 nd2 o3 x=some (.tup xs):=by rw[zB (Wc e h2.hd (by intro z; cases z))]; exact e
   rw[zB (zF e3 hq4)]; exact e3
  have aw4:∀x o,H2 x=some o->¬F x->upd (upd H2 nd2 o3) q4 o4 x=some o:=fun x o e nf=>by
   have e3:upd H2 nd2 o3 x=some o:=by rw[zB (fun z=>nf ((h2.ft x).mpr (.inr (.inr (.inr (.inr z))))))]; exact e
   rw[zB (zF e3 hq4)]; exact e3
  generalize upd (upd H2 nd2 o3) q4 o4=H4 at b4 t4 m4 n4 r4 q4' tu4 aw4
  generalize hO5:HO.lst (rv2++[V.ref q4])=o5
  have b5:upd H4 rl2 o5 b=some (.ins a.zf dx2 (Qg ml2 rl2 tl2 nd2)):=by rw[zB br]; exact b4
  have t5:upd H4 rl2 o5 tl2=some (.lst (ts2.map fun t=>V.int (t:Nat))):=by rw[zB (Ne.symm h2.rt)]; exact t4
  refine⟨_,rfl,b,a.zf,dx2,_,_,rfl,b5,T.c_Book,T.na_Book_tables,rfl,.inl ⟨rfl,_,SqL.of t5⟩,_,rfl,tl2,_,_,rfl,rfl,t5,by rw[List.length_map,h2.tabs.len]; exact s2,?_⟩
  generalize hO6:HO.lst (ts2.map (fun t=>V.int (t:Nat))++[V.int (t:Nat)])=o6
  have b6:upd (upd H4 rl2 o5) tl2 o6 b=some (.ins a.zf dx2 (Qg ml2 rl2 tl2 nd2)):=by rw[zB bt]; exact b5
  have n6:upd (upd H4 rl2 o5) tl2 o6 nd2=some (.dK (putK kvs2 (Sum.inl (t:Int)) (V.int (rs2.length:Nat)))):=by rw[zB nt,zB nr,n4,hO3]
  have z:=Ub.k (k:=.inl (t:Int)) n6
  rw[Jh,if_pos rfl] at z
  refine⟨_,rfl,b,a.zf,dx2,_,_,rfl,b6,T.c_Book,T.na_Book_numbers,rfl,_,rfl,nd2,_,rfl,z,?_⟩
  have tu6:yw H4 (upd (upd H4 rl2 o5) tl2 o6):=fun x xs e=>by
   rw[zB (Wc e t4 (by intro z; cases z)),zB (Wc e r4 (by intro z; cases z))]; exact e
  have parts:=h2.more (H':=upd (upd H4 rl2 o5) tl2 o6) (i:=p) (lo:=k0) (hi:=k1) (t:=t) (q:=q4) (fun x xs e=>tu6 _ _ (tu4 _ _ e)) (b6.trans h2.hb.symm)
   (by rw[zB h2.mt,zB h2.mr,m4,h2.hm]) (by rw[zB h2.rt,zq,hO5]) (by rw[zq,hO6]) n6
   (by rw[zB qt,zB qr,q4',hO4]) B' hn2 (wV tb fun c hc=>by rw[yn,Bdd.Zf hc])
  refine q rs2.length _ _ (fun x o e nf=>?_) (fun x xs e=>tu6 _ _ (tu4 _ _ (tu2 _ _ (tu1 _ _ e)))) ⟨_,_,_,_,_,_,_,_,parts⟩ (g02.trans (Bdd.xr.snoc _ _)) (by simp) yn (by rw[List.length_append,List.length_singleton]; omega) (fun j a1 a2=>?_) ?_
  ·have e2:=aw2 x o (aw1 x o e nf) nf
   rw[zB (fun z=>nf ((h2.ft x).mpr (.inr (.inr (.inr (.inl z)))))),zB (fun z=>nf ((h2.ft x).mpr (.inr (.inr (.inl z)))))]
   exact aw4 x o e2 nf
  ·rw[List.length_append,List.length_singleton] at a2
   by_cases hj:j<rs2.length
   ·rw[Bdd.Sg hj]
    have:=lvs j a1 hj
    omega
   ·have:j=rs2.length:=by omega
    subst this
    rw[Bdd.Wj B' (i:=p) (lo:=k0) (hi:=k1) (by simp)]
    exact hup
  ·rw[Bdd.zhX]
   have:=Bdd.zhZ (n:=os.length) hup
   omega
theorem VJ (T:Txt P w K mg a) (Y0:zm P w K mg base CX0 k a.Zw a.Zx ["table", "marks"] zaR) (vG:zm P w K mg base CX0 k a.ZX a.Z0 ["table", "place", "value", "marks"] Sq) :
  ∀d:Nat,zm P w K mg base CX0 (k+d) a.yL a.yM ["self", "table"] (wH a.zf d)
 | 0=>by
  refine⟨fun vs H Q E h=>?_,fun A outer s H args us vs Q E _ _ _ _ h=>?_⟩
  ·obtain⟨b,os,rs,F,t,u,f,rfl,_⟩:=h
   rfl
  ·obtain⟨b,os,rs,F,t,u,f,_,_,_,hu,hd,_⟩:=h
   omega
 | d+1=>MN T (Y0.mono (Nat.le_add_right _ _)) (vG.mono (Nat.le_add_right _ _)) (VJ T Y0 vG d)
theorem za0 (T:Txt P w K mg a) (Nv:zm P w K mg base CX0 k a.uQ a.uR ["some"] zbi) (Lw:zm P w K mg base CX0 k a.tH a.tK ["order", "sentence"] (Kr K))
  (QM:zm P w K mg base CX0 k a.Ye a.Yg ["sentence", "order"] (Uy K 24)) (yj:zm P w K mg base CX0 k a.yL a.yM ["self", "table"] (wH a.zf 9)) :
  zm P w K mg base CX0 (k+1) a.X3 a.X4 ["self", "sentence"] (zc1 a.zf):=by
 refine T.Nq.ok zbO (fun vs H Q E h=>?_) (fun cdv A outer s H vs Q E hr h=>?_)
 ·obtain⟨b,p,os,rs,F,sn,rfl,_⟩:=h
  rfl
 obtain⟨b,p,os,rs,F,sn,rfl,hB,hlen,isp,hin,hc,hd,q⟩:=h
 refine⟨_,(zj (yt (zu Nv hr rfl T.m_must_be_sentence T.Z7.2 T.b_must_be_sentence .nil zy (za (pv 1) zc)))
   (zj (yt (zu Lw hr rfl T.m_must_have_marks T.Yp.2 T.b_must_have_marks .nil zy (za (vU (pv 0) rfl) (za (pv 1) zc))))
   (zx (zK (yG (pv 0) T.c_Book T.e_Book_room_with yj hr T.b_Book_room_with .nil zy (za (zu QM hr rfl T.m_table_of T.Uo.2 T.b_table_of .nil zy (za (pv 1) (za (vU (pv 0) rfl) zc))) zc)))))),?_⟩
 have L:=yx a.zf
 have ho:=L.ord hB
 have hlt:sn.inO yN:=(Sn.inO_iff sn).mpr fun x hx=>ho.mem x ((Sn.inO_iff sn).mp hin x hx)
 refine⟨_,rfl,p,sn,rfl,isp,hlt,hc,hd,fun H1 g1=>?_⟩
 have hB1:=L.same hB g1
 obtain⟨dx,ml,rl,tl,nd,rv,ts,kvs,h1⟩:=hB1
 refine⟨_,rfl,b,a.zf,dx,_,_,rfl,h1.hb,T.c_Book,T.na_Book_marks,rfl,_,rfl,ml,p,os,sn,rfl,SqL.of h1.hm,isp.mono (yw.of g1),by omega,hin,fun H2 g2=>?_⟩
 have g12:=g1.trans g2
 have h2:=h1.frame (fun x o e _=>g2 x o e) (yw.of g2)
 refine⟨_,rfl,b,dx,_,rfl,h2.hb,rfl,_,rfl,_,rfl,b,a.zf,dx,_,_,rfl,h2.hb,T.c_Book,T.na_Book_marks,rfl,p,ml,sn,os,rfl,isp.mono (yw.of g12),SqL.of h2.hm,hin,ho.le,hd,fun N H3 g3 hN=>?_⟩
 have g13:=g12.trans g3
 have hB3:=L.same hB g13
 refine⟨b,os,rs,F,N,0,_,rfl,hB3,by show rs.length+512<=9000000; omega,Nat.zero_le _,by have:=ho.le; omega,hN,fun i hi=>absurd hi (Nat.not_lt_zero _),fun j rs' H' aw tu hB' gr lt y ln _ hh=>?_⟩
 refine q j rs' H' (fun x o e nf=>aw x o (g13 _ _ e) nf) (fun x xs e=>tu _ _ (g13 _ _ e)) hB' gr ⟨lt,fun r=>?_⟩ (Nat.le_trans hh (Nat.add_le_add_left (Bdd.ze9 ho.le) _))
 rw[y]
 refine Sn.val_congr sn hin fun x hx=>?_
 show(Bdd.bits r os.length).testBit (ix os x)=r (ix os x)
 exact Bdd.tE r (wU hx).2.1
theorem zdv (T:Txt P w K mg a) (JD:zm P w K mg base CX0 k a.ZL a.ZM ["order"] (Kp K)) (wM:zm P w K mg base CX0 k a.uM a.uN ["marks"] Xn) :
  zm P w K mg base CX0 (k+1) a.ZC a.Yx ["self", "order"] (Q9 (zR a.zf) K a.zf):=by
 refine T.LK.ok Nh (fun vs H Q E h=>?_) (fun cdv A outer s H vs Q E hr h=>?_)
 ·obtain⟨b,dx,l,os,rfl,_⟩:=h
  rfl
 obtain⟨b,dx,l,os,rfl,hb,bd,hl,ho,q⟩:=h
 refine⟨_,(zj (yt (zu JD hr rfl T.m_must_be_order T.Wa.2 T.b_must_be_order .nil zy (za (pv 1) zc)))
   (zj (zH (i:=2) Nh.nd rfl (Or.inl rfl) (zU zQ rfl T.n_len yH (za (pv 1) zc)))
   (zj (JT (pv 0) (NT Ma rfl T.n_list R8 (za (pv 1) zc)) rfl)
   (zj (JT (pv 0) (xV (za (vV (za (pv 2) (za zp (za zp zc)))) (za (vV (za (pv 2) (za zp (za zp zc)))) zc))) rfl)
   (zj (JT (pv 0) (xV (za zp (za (zu wM hr rfl T.m_all_rows T.uV.2 T.b_all_rows .nil zy (za (pv 2) zc)) zc))) rfl)
   (zx (JT (pv 0) (zhS (zcQ zp zp (zcQ (zu wM hr rfl T.m_all_rows T.uV.2 T.b_all_rows .nil zy (za (pv 2) zc)) zp zhR)) rfl rfl (List.cons_ne_nil _ _) (Nat.le_of_ble_eq_true rfl)) rfl))))))),?_⟩
 have n8:=ho.le
 have hml:(os.map V.str).length=os.length:=List.length_map _
 refine⟨_,rfl,l,os,rfl,hl,ho,fun H1 g1=>?_⟩
 have hl1:=g1.seq hl
 refine⟨_,rfl,l,_,rfl,.inl hl1,?_⟩
 rw[hml]
 have b1:=g1 _ _ hb
 refine⟨_,rfl,l,_,rfl,.inl hl1,fun ml hm1=>?_⟩
 have bm:b≠ml:=zF b1 hm1
 have b2:upd H1 ml (.lst (os.map V.str)) b=some (.ins a.zf dx []):=by rw[zB bm]; exact b1
 refine⟨_,rfl,b,a.zf,dx,_,rfl,b2,T.c_Book,T.na_Book_marks,by decide,?_⟩
 have s2:∀x o,H x=some o->x≠b->upd (upd H1 ml (.lst (os.map V.str))) b (.ins a.zf dx (vh "marks" (.ref ml) [])) x=some o:=fun x o e nb=>by
  rw[zB nb,zB (zF (g1 _ _ e) hm1)]; exact g1 _ _ e
 have hm2:upd (upd H1 ml (.lst (os.map V.str))) b (.ins a.zf dx (vh "marks" (.ref ml) [])) ml=some (.lst (os.map V.str)):=by rw[zB (Ne.symm bm)]; exact zq
 have f2:∀x,upd (upd H1 ml (.lst (os.map V.str))) b (.ins a.zf dx (vh "marks" (.ref ml) [])) x=none->H x=none:=fun x e=>by
  have nb:x≠b:=fun z=>by rw[z,zq] at e; cases e
  cases hx:H x with
  | none=>rfl
  | some o=>rw[s2 x o hx nb] at e; cases e
 have fm:H ml=none:=g1.free hm1
 have b2':upd (upd H1 ml (.lst (os.map V.str))) b (.ins a.zf dx (vh "marks" (.ref ml) [])) b=some (.ins a.zf dx (vh "marks" (.ref ml) [])):=zq
 generalize upd (upd H1 ml (.lst (os.map V.str))) b (.ins a.zf dx (vh "marks" (.ref ml) []))=H2 at s2 hm2 f2 b2'
 refine⟨_,rfl,by show 3<=sizeLine; decide,fun p0 hp0=>?_⟩
 refine⟨_,rfl,by show 3<=sizeLine; decide,fun p1 hp1=>?_⟩
 refine⟨by show 2<=sizeLine; decide,fun rl hrl=>?_⟩
 have g2:=((Same.new hp0 (.tup [.int (os.length:Nat),.int 0,.int 0])).trans (Same.new hp1 (.tup [.int (os.length:Nat),.int 1,.int 1]))).trans (Same.new hrl (.lst [.ref p0,.ref p1]))
 have hp0':=((Same.new hp1 (.tup [.int (os.length:Nat),.int 1,.int 1])).trans (Same.new hrl (.lst [.ref p0,.ref p1]))) p0 (.tup [.int (os.length:Nat),.int 0,.int 0]) zq
 have hp1':=(Same.new hrl (.lst [.ref p0,.ref p1])) p1 (.tup [.int (os.length:Nat),.int 1,.int 1]) zq
 have hr3:upd (upd (upd H2 p0 (.tup [.int (os.length:Nat),.int 0,.int 0])) p1 (.tup [.int (os.length:Nat),.int 1,.int 1])) rl (.lst [.ref p0,.ref p1]) rl=some (.lst [.ref p0,.ref p1]):=zq
 have frl:H2 rl=none:=((Same.new hp0 _).trans (Same.new hp1 _)).free hrl
 have brl:b≠rl:=zF b2' frl
 have mr:ml≠rl:=zF hm2 frl
 have b0:b≠p0:=zF b2' hp0
 have b1':b≠p1:=zF b2' ((Same.new hp0 _).free hp1)
 generalize upd (upd (upd H2 p0 (.tup [.int (os.length:Nat),.int 0,.int 0])) p1 (.tup [.int (os.length:Nat),.int 1,.int 1])) rl (.lst [.ref p0,.ref p1])=H3 at g2 hp0' hp1' hr3
 refine⟨_,rfl,b,a.zf,dx,_,rfl,g2 _ _ b2',T.c_Book,T.na_Book_rooms,by show 1<1000; decide,?_⟩
 generalize hfs:vh "rooms" (V.ref rl) (vh "marks" (V.ref ml) [])=fs3
 have u3:∀x,x≠b->upd H3 b (.ins a.zf dx fs3) x=H3 x:=fun x nb=>zB nb
 have b3:upd H3 b (.ins a.zf dx fs3) b=some (.ins a.zf dx fs3):=zq
 generalize upd H3 b (.ins a.zf dx fs3)=H4 at u3 b3
 refine⟨_,rfl,os.length,rfl,n8,by show 2<=sizeLine; decide,fun tl htl=>?_⟩
 have btl:b≠tl:=zF b3 htl
 have g4:=Same.new htl (.lst [.int 0,.int ((2^2^os.length-1:Nat):Int)])
 have ht5:upd H4 tl (.lst [.int 0,.int ((2^2^os.length-1:Nat):Int)]) tl=some (.lst [.int 0,.int ((2^2^os.length-1:Nat):Int)]):=zq
 generalize upd H4 tl (.lst [.int 0,.int ((2^2^os.length-1:Nat):Int)])=H5 at g4 ht5
 refine⟨_,rfl,b,a.zf,dx,_,rfl,g4 _ _ b3,T.c_Book,T.na_Book_tables,by rw[<-hfs]; show 2<1000; decide,?_⟩
 generalize hfs4:vh "tables" (V.ref tl) fs3=fs4
 have u5:∀x,x≠b->upd H5 b (.ins a.zf dx fs4) x=H5 x:=fun x nb=>zB nb
 have b5:upd H5 b (.ins a.zf dx fs4) b=some (.ins a.zf dx fs4):=zq
 generalize upd H5 b (.ins a.zf dx fs4)=H6 at u5 b5
 refine fun nd hnd=>?_
 have bnd:b≠nd:=zF b5 hnd
 have g6:=Same.new hnd (.dK [])
 refine⟨_,rfl,os.length,rfl,n8,zq,[(Sum.inl 0,.int 0),(Sum.inl ((2^2^os.length-1:Nat):Int),.int 1)],rfl,(by show 2<=15; decide),?_⟩
 rw[zhn]
 have g7:=Same.new hnd (.dK (YG [] [(Sum.inl 0,.int 0),(Sum.inl ((2^2^os.length-1:Nat):Int),.int 1)]))
 have hn7:upd H6 nd (.dK (YG [] [(Sum.inl 0,.int 0),(Sum.inl ((2^2^os.length-1:Nat):Int),.int 1)])) nd=some (.dK (YG [] [(Sum.inl 0,.int 0),(Sum.inl ((2^2^os.length-1:Nat):Int),.int 1)])):=zq
 generalize upd H6 nd (.dK (YG [] [(Sum.inl 0,.int 0),(Sum.inl ((2^2^os.length-1:Nat):Int),.int 1)]))=H7 at g7 hn7
 refine⟨_,rfl,b,a.zf,dx,_,rfl,g7 _ _ b5,T.c_Book,T.na_Book_numbers,by rw[<-hfs4,<-hfs]; show 3<1000; decide,?_⟩
 have big:2^2^os.length-1≠0:=by
  have:2^1<=2^2^os.length:=Nat.pow_le_pow_right (by decide) Nat.one_le_two_pow
  omega
 have to7:∀x o,H3 x=some o->x≠b->upd H7 b (.ins a.zf dx (vh "numbers" (.ref nd) fs4)) x=some o:=fun x o e nb=>by
  rw[zB nb]
  refine g7 _ _ ?_
  rw[u5 x nb]
  refine g4 _ _ ?_
  rw[u3 x nb]
  exact e
 have tl6:H6 tl=some (.lst [.int 0,.int ((2^2^os.length-1:Nat):Int)]):=by rw[u5 tl (Ne.symm btl)]; exact ht5
 have efs:vh "numbers" (.ref nd) fs4=Qg ml rl tl nd:=by rw[<-hfs4,<-hfs]; rfl
 have up:∀x o,H3 x=some o->x≠b->H4 x=some o:=fun x o e nb=>by rw[u3 x nb]; exact e
 have mt:ml≠tl:=zF (up _ _ (g2 _ _ hm2) (Ne.symm bm)) htl
 have rt:rl≠tl:=zF (up _ _ hr3 (Ne.symm brl)) htl
 have fr4:∀x,H4 x=none->H x=none:=fun x e=>f2 x (by
  cases hx:H2 x with
  | none=>rfl
  | some o =>
   by_cases nb:x=b
   ·rw[nb,b3] at e; cases e
   ·rw[up x o (g2 _ _ hx) nb] at e; cases e)
 have fr6:∀x,H6 x=none->H x=none:=fun x e=>by
  have nb:x≠b:=fun z=>by rw[z,b5] at e; cases e
  rw[u5 x nb] at e
  exact fr4 x (g4.free e)
 have two:∀{j:Nat},j<2->j=0\/j=1:=fun h=>by omega
 have bk0:Bdd.Bk os.length [none,none]:=⟨rfl,rfl,fun k h1 h2=>by simp at h2; omega,fun i j x e _=>by
  have:=(List.getElem?_eq_some_iff.mp e).1
  rcases two (by simpa using this) with z | z<;>subst z<;>cases e⟩
 refine q _ (fun x=>x=b\/x=ml\/x=rl\/x=tl\/x=nd) (fun x o e nb=>to7 x o (g2 _ _ (s2 x o e nb)) nb) ⟨dx,ml,rl,tl,nd,[.ref p0,.ref p1],[0,2^2^os.length-1],YG [] [(Sum.inl 0,.int 0),(Sum.inl ((2^2^os.length-1:Nat):Int),.int 1)],?_⟩ (fun x hx=>?_)
 ·refine { hb:=by rw[zq,efs],hm:=to7 _ _ (g2 _ _ hm2) (Ne.symm bm),hr:=to7 _ _ hr3 (Ne.symm brl),ht:=by rw[zB (Ne.symm btl)]; exact g7 _ _ tl6,hd:=by rw[zB (Ne.symm bnd)]; exact hn7,mr:=mr,mt:=mt,rt:=rt,ord:=ho,bk:=bk0,len:=rfl,rm:=?_,tabs:=?_,nums:=?_,ft:=fun x=>Iff.rfl }
  ·intro j x e
   have:=(List.getElem?_eq_some_iff.mp e).1
   rcases two (by simpa using this) with z | z<;>subst z<;>cases e
   ·exact⟨p0,rfl,to7 _ _ hp0' (Ne.symm b0)⟩
   ·exact⟨p1,rfl,to7 _ _ hp1' (Ne.symm b1')⟩
  ·refine⟨rfl,fun j t e=>?_⟩
   have:=(List.getElem?_eq_some_iff.mp e).1
   rcases two (by simpa using this) with z | z<;>subst z<;>cases e
   ·exact wV (QX _) fun b _=>rfl
   ·exact wV (R9 _) fun b _=>(Bdd.Xq bk0 _).symm
  ·have z0:Nums [] []:=⟨fun j t e=>by simp at e,fun t _=>rfl,Nat.le_refl _⟩
   have z1:=z0.snoc (t:=0) (by simp)
   exact z1.snoc (t:=2^2^os.length-1) (fun hm=>by simp at hm; omega)
 ·rcases hx with z | z | z | z | z<;>subst z
  ·exact .inl rfl
  ·exact .inr (.inr fm)
  ·exact .inr (.inr (f2 _ frl))
  ·exact .inr (.inr (fr4 _ htl))
  ·exact .inr (.inr (fr6 _ hnd))
end
end K92
namespace K92
open PySem L2 Sen
section
variable {P:Program} {w:World} {K:PySem.W.Frag} {mg:Str->Option Value} {base:Heap} {a:Ad} {k:Nat}
theorem zgi (T:Txt P w K mg a):zm P w K mg base CX0 (k+1) a.xR a.xT ["script", "k"] (Lj K):=by
 refine T.xG.ok Td (fun vs H Q E h=>?_) (fun cdv A outer s H vs Q E hr h=>?_)
 ·obtain⟨l,ns,i,rfl,_⟩:=h
  rfl
 obtain⟨l,ns,i,rfl,hS,q⟩:=h
 refine⟨_,(zj (yS (zV zcb (pv 1) (zU zQ rfl T.n_len yH (za (pv 0) zc)) (zW _)) (zx (zK (zX yr (pv 0) (pv 1) (fun _ _=>rfl)))) yu)
   (zx (zK zp))),?_⟩
 refine⟨_,rfl,_,rfl,l,_,rfl,.inl hS,_,_,rfl,rfl,_,rfl,?_⟩
 refine yp (fun c=>?_) (fun c=>?_)
 ·have c':(i:Int)<(((ns.map V.int).length:Nat):Int):=of_decide_eq_true c
  rw[List.length_map] at c'
  have hi:i<ns.length:=by omega
  have ec:wC ns i=ns[i]:=by unfold wC; rw[List.getElem?_eq_getElem hi]; rfl
  rw[ec] at q
  exact⟨_,rfl,_,rfl,l,_,i,_,rfl,rfl,hS,vp (by rw[List.getElem?_map,List.getElem?_eq_getElem hi]; rfl),q⟩
 ·have hi:ns.length<=i:=by
   refine Nat.le_of_not_lt fun hlt=>c (decide_eq_true ?_)
   rw[List.length_map]; omega
  have ec:wC ns i=0:=by unfold wC; rw[List.getElem?_eq_none hi]; rfl
  rw[ec] at q
  exact q
theorem Pq (T:Txt P w K mg a):zm P w K mg base CX0 (k+1) a.xP a.xQ ["self", "number"] (Wm a.zf):=by
 refine T.Ws.ok Qy (fun vs H Q E h=>?_) (fun cdv A outer s H vs Q E hr h=>?_)
 ·obtain⟨b,os,rs,F,j,rfl,_⟩:=h
  rfl
 obtain⟨b,os,rs,F,j,rfl,⟨dx,ml,rl,tl,nd,rv,ts,kvs,h⟩,hk,q⟩:=h
 refine⟨_,(zx (yS (PW.pt (Ur (zV zcb (pv 1) zp (zW _)) (Vy (zV zhd (pv 1) (zU zQ rfl T.n_len yH (za (vU (pv 0) rfl) zc)) (zW _))))) (zx Z8) yu)),?_⟩
 have hl:=h.len
 refine⟨_,rfl,_,_,rfl,rfl,_,rfl,yp (fun c=>absurd (of_decide_eq_true c) (by omega)) (fun _=>?_)⟩
 refine⟨_,rfl,_,rfl,b,a.zf,dx,_,_,rfl,h.hb,T.c_Book,T.na_Book_rooms,rfl,rl,_,rfl,.inl (SqL.of h.hr),_,_,rfl,rfl,_,rfl,yp (fun c=>absurd (of_decide_eq_true c) (by omega)) (fun _=>?_)⟩
 exact q
theorem Js (T:Txt P w K mg a):zm P w K mg base CX0 (k+1) a.yE a.yF ["self", "number"] (wW a.zf):=by
 refine T.Rg.ok KR (fun vs H Q E h=>?_) (fun cdv A outer s H vs Q E hr h=>?_)
 ·obtain⟨b,os,rs,F,j,rfl,_⟩:=h
  rfl
 obtain⟨b,os,rs,F,j,rfl,⟨dx,ml,rl,tl,nd,rv,ts,kvs,h⟩,hk,q⟩:=h
 refine⟨_,(zx (zK (zX yr (vU (pv 0) rfl) (pv 1) (fun _ _=>rfl)))),?_⟩
 have ht:j<ts.length:=by rw[h.tabs.len]; exact hk
 have ex:=List.getElem?_eq_getElem ht
 refine⟨_,rfl,b,a.zf,dx,_,_,rfl,h.hb,T.c_Book,T.na_Book_tables,rfl,_,rfl,tl,_,_,.int (ts[j]:Nat),rfl,rfl,SqL.of h.ht,vp (by rw[List.getElem?_map,ex]; rfl),?_⟩
 exact q _ (h.tabs.tab j _ ex)
theorem zb2 (T:Txt P w K mg a):zm P w K mg base CX0 (k+1) a.yO a.yP ["self"] (xJ (zR a.zf)):=by
 refine T.Np.ok zbN (fun vs H Q E h=>?_) (fun cdv A outer s H vs Q E hr h=>?_)
 ·obtain⟨b,os,rs,F,rfl,_⟩:=h
  rfl
 obtain⟨b,os,rs,F,rfl,⟨dx,ml,rl,tl,nd,rv,ts,kvs,h⟩,q⟩:=h
 refine⟨_,(zx (zK (NT Ma rfl T.n_list R8 (za (vU (pv 0) rfl) zc)))),?_⟩
 exact⟨_,rfl,b,a.zf,dx,_,_,rfl,h.hb,T.c_Book,T.na_Book_marks,rfl,ml,_,rfl,.inl (SqL.of h.hm),fun l hl=>q l _ (Same.new hl _) hl zq⟩
theorem zfj (T:Txt P w K mg a):zm P w K mg base CX0 (k+1) a.Z1 a.Z2 ["table", "other"] VH:=by
 refine T.Vw.ok zeE (fun vs H Q E h=>?_) (fun cdv A outer s H vs Q E hr h=>?_)
 ·obtain⟨N,M,n,f,g,rfl,_⟩:=h
  rfl
 obtain⟨N,M,n,f,g,rfl,tb,tg,q⟩:=h
 refine⟨_,(zx (zK (zM Ux (pv 0) (zM vM (pv 0) (pv 1))))),?_⟩
 refine⟨_,rfl,_,rfl,_,rfl,N,M,rfl,rfl,N,N&&&M,rfl,rfl,q _ (wV (Sen.W2 tb (Sen.Ym tb tg)) fun b _=>?_)⟩
 show(f b != (f b&&g b))=(f b&&!g b)
 cases f b<;>cases g b<;>rfl
theorem zgj (T:Txt P w K mg a) (Vx:zm P w K mg base CX0 k a.Z1 a.Z2 ["table", "other"] VH):zm P w K mg base CX0 (k+1) a.Te a.Tg ["where", "low", "high"] Jj:=by
 refine T.QF.ok zfp (fun vs H Q E h=>?_) (fun cdv A outer s H vs Q E hr h=>?_)
 ·obtain⟨W,L,M,n,f,g,h,rfl,_⟩:=h
  rfl
 obtain⟨W,L,M,n,f,g,h,rfl,tf,tg,th,q⟩:=h
 refine⟨_,(zx (zK (zM Wi (zM vM (pv 2) (pv 0)) (zu Vx hr rfl T.m_without T.Vw.2 T.b_without .nil zy (za (pv 1) (za (pv 0) zc)))))),?_⟩
 refine⟨_,rfl,_,rfl,M,W,rfl,rfl,_,rfl,_,rfl,L,W,n,g,f,rfl,tg,tf,fun R tr=>?_⟩
 refine⟨M&&&W,R,rfl,rfl,q _ (wV (Sen.T5 (Sen.Ym th tf) tr) fun b _=>?_)⟩
 show((h b&&f b)||(g b&&!f b))=if f b then h b else g b
 cases f b<;>simp
theorem Jt (T:Txt P w K mg a):zm P w K mg base CX0 (k+1) a.uT a.uU ["self", "number"] (Mr a.zf):=by
 refine T.Rf.ok KQ (fun vs H Q E h=>?_) (fun cdv A outer s H vs Q E hr h=>?_)
 ·obtain⟨b,os,rs,F,j,rfl,_⟩:=h
  rfl
 obtain⟨b,os,rs,F,j,rfl,⟨dx,ml,rl,tl,nd,rv,ts,kvs,h⟩,hk,q⟩:=h
 refine⟨_,(zx (zK (zX wZ (zX yr (vU (pv 0) rfl) (pv 1) (fun _ _=>rfl)) zp (fun _ _=>rfl)))),?_⟩
 have ex:=List.getElem?_eq_getElem hk
 obtain⟨p,e1,e2⟩:=h.rm j _ ex
 refine⟨_,rfl,b,a.zf,dx,_,_,rfl,h.hb,T.c_Book,T.na_Book_rooms,rfl,_,rfl,rl,_,_,_,rfl,rfl,SqL.of h.hr,vp e1,?_⟩
 refine⟨p,_,0,.int (Bdd.lev os.length rs j:Nat),rfl,rfl,SqT.of e2,?_,q⟩
 unfold Bdd.lev
 rw[ex]
 cases rs[j] with
 | none=>rfl
 | some t=>rfl
theorem zb3 (T:Txt P w K mg a):zm P w K mg base CX0 (k+1) a.Z4 a.Z5 ["self", "number", "value"] (zaS a.zf):=by
 refine T.Nr.ok zbP (fun vs H Q E h=>?_) (fun cdv A outer s H vs Q E hr h=>?_)
 ·obtain⟨b,os,rs,F,j,x,v,rfl,_⟩:=h
  rfl
 obtain⟨b,os,rs,F,j,x,v,rfl,⟨dx,ml,rl,tl,nd,rv,ts,kvs,h⟩,ex,q⟩:=h
 refine⟨_,(zx (zK (zX wZ (zX yr (vU (pv 0) rfl) (pv 1) (fun _ _=>rfl)) (zM wk zp (pv 2)) (fun _ _=>rfl)))),?_⟩
 obtain⟨p,e1,e2⟩:=h.rm j _ ex
 refine⟨_,rfl,b,a.zf,dx,_,_,rfl,h.hb,T.c_Book,T.na_Book_rooms,rfl,_,rfl,rl,_,_,_,rfl,rfl,SqL.of h.hr,vp e1,?_⟩
 refine⟨_,rfl,_,_,rfl,rfl,p,_,_,.int (zfW j x v:Nat),rfl,rfl,SqT.of e2,?_,q⟩
 cases v<;>cases x<;>rfl
theorem zdw (T:Txt P w K mg a):zm P w K mg base CX0 (k+1) a.Yy a.Yz ["self"] (Pa (zR a.zf)):=by
 refine T.LQ.ok zcj (fun vs H Q E h=>?_) (fun cdv A outer s H vs Q E hr h=>?_)
 ·obtain⟨b,os,rs,F,rfl,_⟩:=h
  rfl
 obtain⟨b,os,rs,F,rfl,⟨dx,ml,rl,tl,nd,rv,ts,kvs,h⟩,q⟩:=h
 refine⟨_,(zx (zK (zU zQ rfl T.n_len yH (za (vU (pv 0) rfl) zc)))),?_⟩
 refine⟨_,rfl,b,a.zf,dx,_,_,rfl,h.hb,T.c_Book,T.na_Book_rooms,rfl,rl,_,rfl,.inl (SqL.of h.hr),?_⟩
 rw[h.len]
 exact q H (Same.refl _)
theorem zdx (T:Txt P w K mg a) (wY:zm P w K mg base CX0 k a.xP a.xQ ["self", "number"] (Wm a.zf)) (JF:zm P w K mg base CX0 k a.uT a.uU ["self", "number"] (Mr a.zf)) (Nx:zm P w K mg base CX0 k a.Z4 a.Z5 ["self", "number", "value"] (zaS a.zf)) :
  zm P w K mg base CX0 (k+1) a.Vg a.Vh ["self", "number"] (zaf (zR a.zf)):=by
 refine T.LR.ok zck (fun vs H Q E h=>?_) (fun cdv A outer s H vs Q E hr h=>?_)
 ·obtain⟨b,os,rs,F,j,x,rfl,_⟩:=h
  rfl
 obtain⟨b,os,rs,F,j,x,rfl,hB,ex,q⟩:=h
 refine⟨_,(zj (yt (yG (pv 0) T.c_Book T.e_Book_must_be_room wY hr T.b_Book_must_be_room .nil zy (za (pv 1) zc)))
   (zj (yS (zV VD (pv 1) (vV (za zp (za zp zc))) (by with_unfolding_all rfl)) (zx (zK Tz)) yu)
   (zx (zK (vV (za (zX yr (vU (pv 0) rfl) (yG (pv 0) T.c_Book T.e_Book_place_of JF hr T.b_Book_place_of .nil zy (za (pv 1) zc)) (fun _ _=>rfl)) (za (yG (pv 0) T.c_Book T.e_Book_going Nx hr T.b_Book_going .nil zy (za (pv 1) (za zp zc))) (za (yG (pv 0) T.c_Book T.e_Book_going Nx hr T.b_Book_going .nil zy (za (pv 1) (za zp zc))) zc)))))))),?_⟩
 have hj:=(List.getElem?_eq_some_iff.mp ex).1
 have BK:=(yx a.zf).bk hB
 obtain⟨dx,ml,rl,tl,nd,rv,ts,kvs,h⟩:=hB
 refine⟨_,rfl,b,dx,_,rfl,h.hb,rfl,_,rfl,b,os,rs,F,j,rfl,⟨dx,ml,rl,tl,nd,rv,ts,kvs,h⟩,hj,?_⟩
 refine⟨_,rfl,by show 2<=sizeLine; decide,fun p hp=>⟨p,_,rfl,.inr (SqT.of zq),rfl,rfl,_,rfl,?_⟩⟩
 have g:=Same.new hp (.tup [.int 0,.int 1])
 have h':=h.frame (fun x o e _=>g x o e) (yw.of g)
 have hB':zR a.zf (upd H p (.tup [.int 0,.int 1])) b os rs F:=⟨dx,ml,rl,tl,nd,rv,ts,kvs,h'⟩
 have e0:(if false=true then !inV (V.int (j:Nat)) [.int 0,.int 1] else inV (V.int (j:Nat)) [.int 0,.int 1])=decide (j<2):=by
  rw[if_neg Bool.false_ne_true]
  show(((0:Int)==(j:Nat))||(((1:Int)==(j:Nat))||false))=decide (j<2)
  rw[Bool.eq_iff_iff]
  simp only[Bool.or_eq_true,beq_iff_eq,Bool.or_false,decide_eq_true_eq]
  omega
 rw[e0]
 by_cases j2:j<2
 ·rw[decide_eq_true j2]
  refine Xb (q _ _ g ?_)
  have:x=none:=by
   have:j=0\/j=1:=by omega
   rcases this with z | z<;>subst z
   ·rw[BK.h0] at ex; cases ex; rfl
   ·rw[BK.h1] at ex; cases ex; rfl
  subst this
  rfl
 ·rw[decide_eq_false j2]
  obtain⟨i,lo,hi,e,hin,_⟩:=BK.rm j (by omega) hj
  rw[ex] at e
  cases e
  refine vN ?_
  have el:=Bdd.Wj BK ex
  refine⟨_,rfl,b,a.zf,dx,_,_,rfl,h'.hb,T.c_Book,T.na_Book_marks,rfl,_,rfl,b,dx,_,rfl,h'.hb,rfl,_,rfl,b,os,rs,F,j,rfl,hB',hj,?_⟩
  have ei:=List.getElem?_eq_getElem hin
  refine⟨ml,_,_,.str os[i],rfl,rfl,SqL.of h'.hm,by rw[el]; exact vp (by rw[List.getElem?_map,ei]; rfl),?_⟩
  refine⟨_,rfl,b,dx,_,rfl,h'.hb,rfl,_,rfl,b,os,rs,F,j,_,false,rfl,hB',ex,?_⟩
  refine⟨_,rfl,b,dx,_,rfl,h'.hb,rfl,_,rfl,b,os,rs,F,j,_,true,rfl,hB',ex,?_⟩
  refine⟨by show 3<=sizeLine; decide,fun p2 hp2=>?_⟩
  exact q _ _ (g.trans (Same.new hp2 _)) ⟨p2,os[i],rfl,ei,zq⟩
theorem zgk (T:Txt P w K mg a):zm P w K mg base CX0 (k+1) a.Ti a.Tj ["order", "row"] (zaN K):=by
 refine T.KY.ok zfq (fun vs H Q E h=>?_) (fun cdv A outer s H vs Q E hr h=>?_)
 ·obtain⟨l,r,xs,ns,rfl,_⟩:=h
  rfl
 obtain⟨l,r,xs,ns,rfl,hl,hq,hz,q⟩:=h
 refine⟨_,(zx (zK (zcv (uf wz (zU zQ rfl T.n_len yH (za (pv 1) zc)) (zU zQ rfl T.n_len yH (za (pv 0) zc)) (zW _)) (zcu (zU (W0 rfl) rfl T.n_all R7 (za (Zz (osc:=zA UL) (js:=[]) rfl (by show tY (zA UL) _ "value" []; exact⟨rfl,by decide +kernel,by decide +kernel,rfl,by decide +kernel,by decide +kernel,by decide +kernel⟩) rfl (wg (pv 1)) (by show ∀j∈([]:List Nat),j<2; decide) (fun cl C s₂ H₂ fp=>(uf (J9 (K:=K) rfl) (pv 0) (vV (za zp (za zp zc))) (by with_unfolding_all rfl)))) zc)))))),?_⟩
 have hlen:(ns.map V.int).length=ns.length:=List.length_map _
 refine⟨_,rfl,r,_,rfl,.inl hq,_,rfl,l,_,rfl,.inl hl,rfl,_,rfl,yp (fun c=>?_) (fun c=>?_)⟩
 ·have c':ns.length=xs.length:=by
   have:=of_decide_eq_true c
   injection this with this
   rw[hlen] at this; omega
  refine⟨_,rfl,r,rfl,⟨_,hq⟩,zaL (fun x v=>v=(match x with | .int i=>.bl (i==0||i==1) | _=>.non)) hq (by rw[hlen]; exact Nat.le_of_lt (yC hz)) ?_ ?_ ?_⟩
  ·intro i x H' hx g
   rw[List.getElem?_map] at hx
   cases ho:ns[i]? with
   | none=>rw[ho] at hx; cases hx
   | some y =>
    rw[ho] at hx
    cases hx
    refine⟨_,rfl,by show 2<=sizeLine; decide,fun p hp=>⟨p,_,rfl,.inr (SqT.of zq),rfl,rfl,?_,g.trans (Same.new hp _)⟩⟩
    show V.bl ((0==y)||((1==y)||false))=V.bl (y==0||y==1)
    have e0:((0:Int)==y)=(y==0):=by rw[Bool.eq_iff_iff]; simp; exact eq_comm
    have e1:((1:Int)==y)=(y==1):=by rw[Bool.eq_iff_iff]; simp; exact eq_comm
    rw[e0,e1,Bool.or_false]
  ·rintro σ' H' Q1 Q2 hQ ⟨v,e,z,h2⟩
   exact⟨v,e,z,fun p hp=>let ⟨a1,a2,a3,a4,a5,a6,a7⟩:=h2 p hp; ⟨a1,a2,a3,a4,a5,a6,hQ _ _ a7⟩⟩
  ·intro ys H' p hr' g hp
   have e:=T7 (f:=fun x=>match x with | .int i=>.bl (i==0||i==1) | _=>.non) hr'
   have e2:ys=(ns.map fun i=>(i==0||i==1)).map V.bl:=by rw[e,List.map_map,List.map_map]; rfl
   subst e2
   refine⟨p,_,rfl,SqL.of zq,?_⟩
   have e4:(ns.map fun i=>(i==0||i==1)).all id=Mp xs.length ns:=by
    unfold Mp
    rw[decide_eq_true c',Bool.true_and,List.all_map]
    rfl
   rw[e4]
   exact q _ (g.trans (Same.new hp _))
 ·have e4:Mp xs.length ns=false:=by
   unfold Mp
   rw[decide_eq_false (fun z=>c (decide_eq_true (by rw[hlen,z]))),Bool.false_and]
  rw[<-e4]
  exact q _ (Same.refl _)
theorem za1 (T:Txt P w K mg a) (zgp:zm P w K mg base CX0 k a.Ti a.Tj ["order", "row"] (zaN K)):zm P w K mg base CX0 (k+1) a.YQ a.YS ["order", "row"] (zbj K):=by
 refine T.V6.ok zax (fun vs H Q E h=>?_) (fun cdv A outer s H vs Q E hr h=>?_)
 ·obtain⟨l,r,xs,ns,rfl,_⟩:=h
  rfl
 obtain⟨l,r,xs,ns,rfl,h1,h2,h3,h4,q⟩:=h
 refine⟨_,(zx (yS (TF (Z9 (zu zgp hr rfl T.m_is_row T.KY.2 T.b_is_row .nil zy (za (pv 0) (za (pv 1) zc))) (fun _=>rfl))) (zx Z8) yu)),?_⟩
 refine⟨_,rfl,_,rfl,l,r,xs,ns,rfl,h1,h2,h3,fun H' g=>⟨_,rfl,?_⟩⟩
 rw[h4]
 exact vN (q H' g)
end
end K92
namespace K92
open PySem L2 Sen
section
variable {P:Program} {w:World} {K:PySem.W.Frag} {mg:Str->Option Value} {base:Heap} {a:Ad} {k:Nat}
theorem zfk (T:Txt P w K mg a) (vD:zm P w K mg base CX0 k a.Zc a.Zd ["table", "place", "marks"] Xo):zm P w K mg base CX0 (k+1) a.Vq a.Vr ["table", "places", "marks"] (Jk K):=by
 refine T.Ra.ok Qx (fun vs H Q E h=>?_) (fun cdv A outer s H vs Q E hr h=>?_)
 ·obtain⟨N,n,f,l,ps,rfl,_⟩:=h
  rfl
 obtain⟨N,n,f,l,ps,rfl,n8,tf,hl,hp,q⟩:=h
 refine⟨_,(zj (wO PassesOwn.never rfl (wg (pv 1)) (yD (i:=3) Qx.nd rfl (Or.inl rfl)) (zx (zH (i:=0) Qx.nd rfl (Or.inl rfl) (zM Wi (pv 0) (zu vD hr rfl T.m_flipped T.Z6.2 T.b_flipped .nil zy (za (pv 0) (za (pv 3) (za (pv 2) zc))))))))
   (zx (zK (pv 0)))),?_⟩
 refine⟨_,rfl,l,rfl,⟨_,hl⟩,?_⟩
 refine tD (xs:=zN ps) (fun i σ H'=>H'=H/\∃(M:Nat) (f3:Option V),zL n M (Sv (ps.take i) f)/\σ=[some (.int M),some (.ref l),some (.int (n:Nat)),f3]) ⟨rfl,N,_,tf,rfl⟩ ?_ ?_ ?_
 ·rintro i σ H' _ ⟨rfl,_⟩
  exact hl
 ·rintro i v σ H' hv ⟨rfl,M,f3,tm,rfl⟩
  unfold zN at hv
  rw[List.getElem?_map] at hv
  cases hj:ps[i]? with
  | none=>rw[hj] at hv; cases hv
  | some p =>
   rw[hj] at hv
   cases hv
   refine⟨_,rfl,_,rfl,_,rfl,_,rfl,M,p,n,_,rfl,hp p (List.mem_of_getElem? hj),n8,tm,fun R tr=>?_⟩
   refine⟨M,R,rfl,rfl,rfl,M|||R,some (.int (p:Nat)),?_,rfl⟩
   rw[xO hj,zbw]
   exact Sen.T5 tm tr
 ·rintro σ H' ⟨rfl,M,f3,tm,rfl⟩
  have el:(zN ps).length=ps.length:=List.length_map _
  rw[el,List.take_length] at tm
  exact⟨_,rfl,q M tm⟩
theorem zg8 (T:Txt P w K mg a) (vG:zm P w K mg base CX0 k a.ZX a.Z0 ["table", "place", "value", "marks"] Sq)
  (xH:zm P w K mg base CX0 k a.wF a.wG ["place", "marks"] vW)
  (K1:zm P w K mg base CX0 k a.Te a.Tg ["where", "low", "high"] Jj):zm P w K mg base CX0 (k+1) a.RW a.RX ["table", "places", "others", "marks"] (zaU K):=by
 refine T.M8.ok Wz (fun vs H Q E h=>?_) (fun cdv A outer s H vs Q E hr h=>?_)
 ·obtain⟨N,n,f,l,m,ps,qs,rfl,_⟩:=h
  rfl
 obtain⟨N,n,f,l,m,ps,qs,rfl,n8,tf,hl,hm,le,l8,hp,hq,q⟩:=h
 refine⟨_,(zj (wO PassesOwn.never rfl (zfY rfl T.n_zip (za (pv 1) (za (pv 2) zc))) (TJ rfl (wN (yD (i:=4) Wz.nd rfl (Or.inl rfl)) (wN (yD (i:=5) Wz.nd rfl (Or.inl rfl)) WX))) (zj (zH (i:=6) Wz.nd rfl (Or.inl rfl) (zu vG hr rfl T.m_held_at T.Ze.2 T.b_held_at .nil zy (za (pv 0) (za (pv 4) (za zp (za (pv 3) zc))))))
   (zj (zH (i:=7) Wz.nd rfl (Or.inl rfl) (zu vG hr rfl T.m_held_at T.Ze.2 T.b_held_at .nil zy (za (pv 0) (za (pv 4) (za zp (za (pv 3) zc))))))
   (zx (zH (i:=0) Wz.nd rfl (Or.inl rfl) (zu K1 hr rfl T.m_chosen T.QF.2 T.b_chosen .nil zy (za (zu xH hr rfl T.m_rows_with T.vY.2 T.b_rows_with .nil zy (za (pv 5) (za (pv 3) zc))) (za (pv 6) (za (pv 7) zc)))))))))
   (zx (zK (pv 0)))),?_⟩
 have e1:(zN ps).length=ps.length:=List.length_map _
 have e2:(zN qs).length=qs.length:=List.length_map _
 refine⟨_,rfl,_,rfl,l,m,_,_,rfl,hl,hm,?_⟩
 refine zek (xs:=zN ps) (ys:=zN qs) (by omega) (fun i σ H'=>Same H H'/\∃(M:Nat) (f4 f5 f6 f7:Option V),zL n M (Sw ((ps.zip qs).take i) f)/\σ=[some (.int M),some (.ref l),some (.ref m),some (.int (n:Nat)),f4,f5,f6,f7]) ⟨Same.refl _,N,_,_,_,_,tf,rfl⟩ ?_ ?_ ?_
 ·rintro i σ H' _ ⟨g,_⟩
  exact⟨g.seq hl,g.seq hm⟩
 ·rintro i x y σ H' t hx hy ⟨g,M,f4,f5,f6,f7,tm,rfl⟩ ht
  unfold zN at hx hy
  rw[List.getElem?_map] at hx hy
  cases hj:ps[i]? with
  | none=>rw[hj] at hx; cases hx
  | some p =>
   rw[hj] at hx
   cases hx
   cases hk:qs[i]? with
   | none=>rw[hk] at hy; cases hy
   | some o =>
    rw[hk] at hy
    cases hy
    have hz:(ps.zip qs)[i]?=some (p,o):=List.getElem?_zip_eq_some.mpr ⟨hj,hk⟩
    have pn:=hp p (List.mem_of_getElem? hj)
    have on:=hq o (List.mem_of_getElem? hk)
    refine⟨t,_,rfl,SqT.of zq,rfl,_,_,rfl,_,_,rfl,rfl,?_⟩
    refine⟨_,rfl,_,rfl,_,rfl,M,p,n,false,_,rfl,pn,n8,tm,fun R0 t0=>?_⟩
    refine⟨_,rfl,_,rfl,_,rfl,M,p,n,true,_,rfl,pn,n8,tm,fun R1 t1=>?_⟩
    refine⟨_,rfl,_,rfl,o,n,rfl,on,n8,fun W tw=>?_⟩
    refine⟨_,rfl,_,rfl,W,R0,R1,n,_,_,_,rfl,tw,t0,t1,fun R tr=>?_⟩
    refine⟨g.trans (Same.new ht _),R,_,_,_,_,?_,rfl⟩
    rw[xO hz,zbx]
    exact tr
 ·rintro σ H' ⟨g,M,f4,f5,f6,f7,tm,rfl⟩
  have el:(ps.zip qs).length=(zN ps).length:=by rw[List.length_zip,e1]; omega
  rw[<-el,List.take_length] at tm
  exact⟨_,rfl,q M H' g tm⟩
theorem zdy (T:Txt P w K mg a) (yg:zm P w K mg base CX0 k a.yO a.yP ["self"] (xJ (zR a.zf))):zm P w K mg base CX0 (k+1) a.Yv a.Yw ["book"] (Pg a.zf):=by
 refine T.Vk.ok zci (fun vs H Q E h=>?_) (fun cdv A outer s H vs Q E hr h=>?_)
 ·obtain⟨b,os,rs,F,rfl,_⟩:=h
  rfl
 obtain⟨b,os,rs,F,rfl,hB,q⟩:=h
 refine⟨_,(zx (zK (zel (osc:=zA Yt) (js:=[0]) rfl (by show ze7 (zA Yt) _ "now" "then" ["book"]; exact⟨⟨rfl,by decide +kernel,by decide +kernel,by decide +kernel,by decide +kernel⟩,by decide +kernel,by decide +kernel,by decide +kernel⟩) rfl (TV (ZD (v:=.ref a.uJ) rfl T.m_PAIRS rfl)) (by show ∀j∈([0]:List Nat),j<1; decide) (fun cl C s₂ H₂ fp=>(zV (J9 (K:=K) rfl) (pv 0) (vo (pv 2) T.c_Book T.e_Book_order yg hr T.b_Book_order .nil zy) (by with_unfolding_all rfl))) (fun cl C s₂ H₂ fp=>(pv 0))))),?_⟩
 have L:=yx a.zf
 refine⟨a.uJ,rfl,⟨_,T.q_PAIRS H⟩,?_⟩
 refine zc2 (xs:=[.ref a.Vs,.ref a.Vt,.ref a.Vu,.ref a.Vv]) (fun i zs H'=>Same H H'/\zs=(((prs.take i).filter fun p=>os.contains p.1).map (·.1)).map V.str) ⟨Same.refl _,rfl⟩ (by show 4<=sizeLine; decide) ?_ ?_ ?_ ?_ ?_
 ·rintro i zs H' hi ⟨g,rfl⟩
  refine⟨T.q_PAIRS H',?_⟩
  have:=List.length_filter_le (fun p:Str×Str=>os.contains p.1) (prs.take i)
  rw[List.length_take] at this
  rw[List.length_map,List.length_map]
  omega
 ·rintro i v zs H' hv ⟨g,rfl⟩
  obtain⟨p,pr,rfl,hp,hpr⟩:∃(p:Addr) (pr:Str×Str),v=.ref p/\SqT K H' p [.str pr.1,.str pr.2]/\prs[i]?=some pr:=by
   match i,hv with
   | 0,hv=>cases hv; exact⟨_,("a", "e"),rfl,T.q_PAIRS_0 H',rfl⟩
   | 1,hv=>cases hv; exact⟨_,("b", "f"),rfl,T.q_PAIRS_1 H',rfl⟩
   | 2,hv=>cases hv; exact⟨_,("c", "g"),rfl,T.q_PAIRS_2 H',rfl⟩
   | 3,hv=>cases hv; exact⟨_,("d", "h"),rfl,T.q_PAIRS_3 H',rfl⟩
  refine⟨p,.str pr.1,.str pr.2,rfl,hp,?_⟩
  have hB1:=L.same hB g
  obtain⟨dx,fs,hins,hm⟩:=L.ins hB1
  refine⟨_,rfl,_,rfl,b,dx,_,rfl,hins,hm _ (by decide +kernel),b,os,rs,F,rfl,hB1,fun l1 H1 g1 fl1 hl1=>?_⟩
  refine⟨l1,_,rfl,.inl (SqL.of hl1),rfl,wL os,_,rfl,?_⟩
  rw[xO hpr,List.filter_append]
  show if inV (.str pr.1) (os.map V.str)=true then _ else _
  rw[Qi]
  cases hn:os.contains pr.1
  ·refine vN ⟨g.trans g1,?_⟩
   rw[List.filter_cons_of_neg (p:=fun p:Str×Str=>os.contains p.1) (by rw[hn]; exact Bool.false_ne_true),List.filter_nil,List.append_nil]
  ·refine Xb ⟨_,rfl,g.trans g1,?_⟩
   rw[List.filter_cons_of_pos (p:=fun p:Str×Str=>os.contains p.1) hn,List.filter_nil,List.map_append,List.map_append]
   rfl
 ·rintro σ' H' Q1 Q2 hQ ⟨v1,e1,v2,e2,b',dx',fs',y1,y2,y3,b2,os2,rs2,F2,y4,y5,y6⟩
  refine⟨v1,e1,v2,e2,b',dx',fs',y1,y2,y3,b2,os2,rs2,F2,y4,y5,fun l1 H1 g1 f1 h1=>?_⟩
  obtain⟨p5,xs5,z1,z2,z3,z4,b6,z5,z6⟩:=y6 l1 H1 g1 f1 h1
  exact⟨p5,xs5,z1,z2,z3,z4,b6,z5,hQ _ _ z6⟩
 ·rintro σ' H' Q1 Q2 hQ ⟨v,e,z⟩
  exact⟨v,e,hQ _ _ z⟩
 rintro zs H7 zl ⟨g,rfl⟩ hzl
 exact q zl _ (g.trans (Same.new hzl _)) (g.free hzl) zq
theorem zb4 (T:Txt P w K mg a) (yg:zm P w K mg base CX0 k a.yO a.yP ["self"] (xJ (zR a.zf))):zm P w K mg base CX0 (k+1) a.XR a.XS ["book"] (Kv a.zf):=by
 refine T.Tp.ok zbL (fun vs H Q E h=>?_) (fun cdv A outer s H vs Q E hr h=>?_)
 ·obtain⟨b,os,rs,F,rfl,_⟩:=h
  rfl
 obtain⟨b,os,rs,F,rfl,hB,q⟩:=h
 refine⟨_,(zx (zK (zel (osc:=zA ZS) (js:=[0]) rfl (by show ze7 (zA ZS) _ "now" "then" ["book"]; exact⟨⟨rfl,by decide +kernel,by decide +kernel,by decide +kernel,by decide +kernel⟩,by decide +kernel,by decide +kernel,by decide +kernel⟩) rfl (TV (ZD (v:=.ref a.uJ) rfl T.m_PAIRS rfl)) (by show ∀j∈([0]:List Nat),j<1; decide) (fun cl C s₂ H₂ fp=>(zV (J9 (K:=K) rfl) (pv 1) (vo (pv 2) T.c_Book T.e_Book_order yg hr T.b_Book_order .nil zy) (by with_unfolding_all rfl))) (fun cl C s₂ H₂ fp=>(pv 1))))),?_⟩
 have L:=yx a.zf
 refine⟨a.uJ,rfl,⟨_,T.q_PAIRS H⟩,?_⟩
 refine zc2 (xs:=[.ref a.Vs,.ref a.Vt,.ref a.Vu,.ref a.Vv]) (fun i zs H'=>Same H H'/\zs=(((prs.take i).filter fun p=>os.contains p.2).map (·.2)).map V.str) ⟨Same.refl _,rfl⟩ (by show 4<=sizeLine; decide) ?_ ?_ ?_ ?_ ?_
 ·rintro i zs H' hi ⟨g,rfl⟩
  refine⟨T.q_PAIRS H',?_⟩
  have:=List.length_filter_le (fun p:Str×Str=>os.contains p.2) (prs.take i)
  rw[List.length_take] at this
  rw[List.length_map,List.length_map]
  omega
 ·rintro i v zs H' hv ⟨g,rfl⟩
  obtain⟨p,pr,rfl,hp,hpr⟩:∃(p:Addr) (pr:Str×Str),v=.ref p/\SqT K H' p [.str pr.1,.str pr.2]/\prs[i]?=some pr:=by
   match i,hv with
   | 0,hv=>cases hv; exact⟨_,("a", "e"),rfl,T.q_PAIRS_0 H',rfl⟩
   | 1,hv=>cases hv; exact⟨_,("b", "f"),rfl,T.q_PAIRS_1 H',rfl⟩
   | 2,hv=>cases hv; exact⟨_,("c", "g"),rfl,T.q_PAIRS_2 H',rfl⟩
   | 3,hv=>cases hv; exact⟨_,("d", "h"),rfl,T.q_PAIRS_3 H',rfl⟩
  refine⟨p,.str pr.1,.str pr.2,rfl,hp,?_⟩
  have hB1:=L.same hB g
  obtain⟨dx,fs,hins,hm⟩:=L.ins hB1
  refine⟨_,rfl,_,rfl,b,dx,_,rfl,hins,hm _ (by decide +kernel),b,os,rs,F,rfl,hB1,fun l1 H1 g1 fl1 hl1=>?_⟩
  refine⟨l1,_,rfl,.inl (SqL.of hl1),rfl,wL os,_,rfl,?_⟩
  rw[xO hpr,List.filter_append]
  show if inV (.str pr.2) (os.map V.str)=true then _ else _
  rw[Qi]
  cases hn:os.contains pr.2
  ·refine vN ⟨g.trans g1,?_⟩
   rw[List.filter_cons_of_neg (p:=fun p:Str×Str=>os.contains p.2) (by rw[hn]; exact Bool.false_ne_true),List.filter_nil,List.append_nil]
  ·refine Xb ⟨_,rfl,g.trans g1,?_⟩
   rw[List.filter_cons_of_pos (p:=fun p:Str×Str=>os.contains p.2) hn,List.filter_nil,List.map_append,List.map_append]
   rfl
 ·rintro σ' H' Q1 Q2 hQ ⟨v1,e1,v2,e2,b',dx',fs',y1,y2,y3,b2,os2,rs2,F2,y4,y5,y6⟩
  refine⟨v1,e1,v2,e2,b',dx',fs',y1,y2,y3,b2,os2,rs2,F2,y4,y5,fun l1 H1 g1 f1 h1=>?_⟩
  obtain⟨p5,xs5,z1,z2,z3,z4,b6,z5,z6⟩:=y6 l1 H1 g1 f1 h1
  exact⟨p5,xs5,z1,z2,z3,z4,b6,z5,hQ _ _ z6⟩
 ·rintro σ' H' Q1 Q2 hQ ⟨v,e,z⟩
  exact⟨v,e,hQ _ _ z⟩
 rintro zs H7 zl ⟨g,rfl⟩ hzl
 exact q zl _ (g.trans (Same.new hzl _)) (g.free hzl) zq
theorem zb5 (T:Txt P w K mg a) (yg:zm P w K mg base CX0 k a.yO a.yP ["self"] (xJ (zR a.zf)))
  (RK:zm P w K mg base CX0 k a.Yv a.Yw ["book"] (Pg a.zf)):zm P w K mg base CX0 (k+1) a.uo a.ur ["book"] (YH a.zf):=by
 refine T.uD.ok zbM (fun vs H Q E h=>?_) (fun cdv A outer s H vs Q E hr h=>?_)
 ·obtain⟨b,os,rs,F,rfl,_⟩:=h
  rfl
 obtain⟨b,os,rs,F,rfl,hB,q⟩:=h
 refine⟨_,(zx (zK (Zz (osc:=zA ZV) (js:=[0]) rfl (by show tY (zA ZV) _ "mark" ["book"]; exact⟨rfl,by decide +kernel,by decide +kernel,rfl,by decide +kernel,by decide +kernel,by decide +kernel⟩) rfl (wg (zu RK hr rfl T.m_now_marks T.Vk.2 T.b_now_marks .nil zy (za (pv 0) zc))) (by show ∀j∈([0]:List Nat),j<1; decide) (fun cl C s₂ H₂ fp=>(zf1 (K:=K) rfl PySem.F.plainAttrs_list PySem.F.slot_list_index PySem.F.type_list_index (zbv (K:=K) rfl) (vo (pv 1) T.c_Book T.e_Book_order yg hr T.b_Book_order .nil zy) (za (pv 0) zc)))))),?_⟩
 have L:=yx a.zf
 refine⟨_,rfl,b,os,rs,F,rfl,hB,fun l0 H0 g0 fl0 hl0=>?_⟩
 have hB0:=L.same hB g0
 have l4:(yK os).length<=4:=by
  show((prs.filter _).map _).length<=4
  rw[List.length_map]
  exact List.length_filter_le _ _
 refine⟨l0,rfl,⟨_,SqL.of hl0⟩,zej (fun i v=>∃x,(yK os)[i]?=some x/\v=.int ((ix os x:Nat):Int)) (SqL.of hl0) (by rw[List.length_map]; exact Nat.le_of_lt (yC (by omega))) ?_ ?_ ?_⟩
 ·intro i v H' hv g
  rw[List.getElem?_map] at hv
  cases hj:(yK os)[i]? with
  | none=>rw[hj] at hv; cases hv
  | some x =>
   rw[hj] at hv
   cases hv
   have hx:x∈os:=Jl (List.mem_of_getElem? hj)
   obtain⟨i1,i2,i3⟩:=wU hx
   have hB1:=L.same hB0 g
   obtain⟨dx,fs,hins,hm⟩:=L.ins hB1
   refine⟨_,rfl,b,dx,_,rfl,hins,hm _ (by decide +kernel),b,os,rs,F,rfl,hB1,fun l1 H1 g1 fl1 hl1=>?_⟩
   exact⟨.inl ⟨rfl,_,SqL.of hl1⟩,_,rfl,l1,_,_,_,rfl,rfl,SqL.of hl1,rfl,wL _,i1,⟨x,rfl,rfl⟩,g.trans g1⟩
 ·rintro σ' H' Q1 Q2 hQ ⟨v1,e1,b',dx',fs',y1,y2,y3,b2,os2,rs2,F2,y4,y5,y6⟩
  refine⟨v1,e1,b',dx',fs',y1,y2,y3,b2,os2,rs2,F2,y4,y5,fun l1 H1 g1 f1 h1=>?_⟩
  obtain⟨z0,v2,e2,p5,xs5,w5,j5,z1,z2,z3,z4,z5,z6,z7⟩:=y6 l1 H1 g1 f1 h1
  exact⟨z0,v2,e2,p5,xs5,w5,j5,z1,z2,z3,z4,z5,z6,hQ _ _ z7⟩
 intro us H7 zl hul huv g7 hzl
 rw[List.length_map] at hul
 have eu:us=zN ((yK os).map (ix os)):=by
  refine List.ext_getElem? fun i=>?_
  unfold zN
  by_cases hi:i<us.length
  ·obtain⟨x,hx,e⟩:=huv i _ (List.getElem?_eq_getElem hi)
   rw[List.getElem?_eq_getElem hi,e,List.getElem?_map,List.getElem?_map,hx]
   rfl
  ·rw[List.getElem?_eq_none (by omega),List.getElem?_eq_none (by rw[List.length_map,List.length_map]; omega)]
 subst eu
 exact q zl _ (g0.trans (g7.trans (Same.new hzl _))) (g0.free (g7.free hzl)) zq
theorem za2 (T:Txt P w K mg a) (yg:zm P w K mg base CX0 k a.yO a.yP ["self"] (xJ (zR a.zf)))
  (zcn:zm P w K mg base CX0 k a.XR a.XS ["book"] (Kv a.zf)):zm P w K mg base CX0 (k+1) a.uH a.uI ["book"] (Wn a.zf):=by
 refine T.uK.ok zay (fun vs H Q E h=>?_) (fun cdv A outer s H vs Q E hr h=>?_)
 ·obtain⟨b,os,rs,F,rfl,_⟩:=h
  rfl
 obtain⟨b,os,rs,F,rfl,hB,q⟩:=h
 refine⟨_,(zx (zK (Zz (osc:=zA Zv) (js:=[0]) rfl (by show tY (zA Zv) _ "mark" ["book"]; exact⟨rfl,by decide +kernel,by decide +kernel,rfl,by decide +kernel,by decide +kernel,by decide +kernel⟩) rfl (wg (zu zcn hr rfl T.m_then_marks T.Tp.2 T.b_then_marks .nil zy (za (pv 0) zc))) (by show ∀j∈([0]:List Nat),j<1; decide) (fun cl C s₂ H₂ fp=>(zf1 (K:=K) rfl PySem.F.plainAttrs_list PySem.F.slot_list_index PySem.F.type_list_index (zbv (K:=K) rfl) (vo (pv 1) T.c_Book T.e_Book_order yg hr T.b_Book_order .nil zy) (za (pv 0) zc)))))),?_⟩
 have L:=yx a.zf
 refine⟨_,rfl,b,os,rs,F,rfl,hB,fun l0 H0 g0 fl0 hl0=>?_⟩
 have hB0:=L.same hB g0
 have l4:(wX os).length<=4:=by
  show((prs.filter _).map _).length<=4
  rw[List.length_map]
  exact List.length_filter_le _ _
 refine⟨l0,rfl,⟨_,SqL.of hl0⟩,zej (fun i v=>∃x,(wX os)[i]?=some x/\v=.int ((ix os x:Nat):Int)) (SqL.of hl0) (by rw[List.length_map]; exact Nat.le_of_lt (yC (by omega))) ?_ ?_ ?_⟩
 ·intro i v H' hv g
  rw[List.getElem?_map] at hv
  cases hj:(wX os)[i]? with
  | none=>rw[hj] at hv; cases hv
  | some x =>
   rw[hj] at hv
   cases hv
   have hx:x∈os:=Mw (List.mem_of_getElem? hj)
   obtain⟨i1,i2,i3⟩:=wU hx
   have hB1:=L.same hB0 g
   obtain⟨dx,fs,hins,hm⟩:=L.ins hB1
   refine⟨_,rfl,b,dx,_,rfl,hins,hm _ (by decide +kernel),b,os,rs,F,rfl,hB1,fun l1 H1 g1 fl1 hl1=>?_⟩
   exact⟨.inl ⟨rfl,_,SqL.of hl1⟩,_,rfl,l1,_,_,_,rfl,rfl,SqL.of hl1,rfl,wL _,i1,⟨x,rfl,rfl⟩,g.trans g1⟩
 ·rintro σ' H' Q1 Q2 hQ ⟨v1,e1,b',dx',fs',y1,y2,y3,b2,os2,rs2,F2,y4,y5,y6⟩
  refine⟨v1,e1,b',dx',fs',y1,y2,y3,b2,os2,rs2,F2,y4,y5,fun l1 H1 g1 f1 h1=>?_⟩
  obtain⟨z0,v2,e2,p5,xs5,w5,j5,z1,z2,z3,z4,z5,z6,z7⟩:=y6 l1 H1 g1 f1 h1
  exact⟨z0,v2,e2,p5,xs5,w5,j5,z1,z2,z3,z4,z5,z6,hQ _ _ z7⟩
 intro us H7 zl hul huv g7 hzl
 rw[List.length_map] at hul
 have eu:us=zN ((wX os).map (ix os)):=by
  refine List.ext_getElem? fun i=>?_
  unfold zN
  by_cases hi:i<us.length
  ·obtain⟨x,hx,e⟩:=huv i _ (List.getElem?_eq_getElem hi)
   rw[List.getElem?_eq_getElem hi,e,List.getElem?_map,List.getElem?_map,hx]
   rfl
  ·rw[List.getElem?_eq_none (by omega),List.getElem?_eq_none (by rw[List.length_map,List.length_map]; omega)]
 subst eu
 exact q zl _ (g0.trans (g7.trans (Same.new hzl _))) (g0.free (g7.free hzl)) zq
theorem zg9 (T:Txt P w K mg a) (yg:zm P w K mg base CX0 k a.yO a.yP ["self"] (xJ (zR a.zf))) (zY:zm P w K mg base CX0 k a.yE a.yF ["self", "number"] (wW a.zf))
  (vH:zm P w K mg base CX0 k a.uo a.ur ["book"] (YH a.zf)) (uL:zm P w K mg base CX0 k a.uH a.uI ["book"] (Wn a.zf))
  (NP:zm P w K mg base CX0 k a.Vq a.Vr ["table", "places", "marks"] (Jk K)) (zaz:zm P w K mg base CX0 k a.RW a.RX ["table", "places", "others", "marks"] (zaU K)):zm P w K mg base CX0 (k+1) a.Uv a.Uw ["book", "steps", "table"] (Ln a.zf):=by
 refine T.RZ.ok KN (fun vs H Q E h=>?_) (fun cdv A outer s H vs Q E hr h=>?_)
 ·obtain⟨b,os,rs,F,k0,N,f,rfl,_⟩:=h
  rfl
 obtain⟨b,os,rs,F,k0,N,f,rfl,hB,hk,hW,tf,q⟩:=h
 refine⟨_,(zj (zH (i:=3) KN.nd rfl (Or.inl rfl) (zU zQ rfl T.n_len yH (za (vo (pv 0) T.c_Book T.e_Book_order yg hr T.b_Book_order .nil zy) zc)))
   (zj (zH (i:=4) KN.nd rfl (Or.inl rfl) (zu NP hr rfl T.m_for_any T.Ra.2 T.b_for_any .nil zy (za (zM vM (pv 2) (yG (pv 0) T.c_Book T.e_Book_table_at zY hr T.b_Book_table_at .nil zy (za (pv 1) zc))) (za (zu vH hr rfl T.m_now_places T.uD.2 T.b_now_places .nil zy (za (pv 0) zc)) (za (pv 3) zc)))))
   (zx (zK (zu zaz hr rfl T.m_moved T.M8.2 T.b_moved .nil zy (za (pv 4) (za (zu uL hr rfl T.m_then_places T.uK.2 T.b_then_places .nil zy (za (pv 0) zc)) (za (zu vH hr rfl T.m_now_places T.uD.2 T.b_now_places .nil zy (za (pv 0) zc)) (za (pv 3) zc))))))))),?_⟩
 have L:=yx a.zf
 have o8:=(L.ord hB).le
 have lo5:(os.map V.str).length=os.length:=List.length_map _
 have ln:(zO os).length=(zG os).length:=by unfold zO zG; rw[List.length_map,List.length_map]; exact hW.len
 have l4:(zO os).length<=8:=by unfold zO; rw[List.length_map]; have:=W6 os; omega
 have hB0:=hB
 obtain⟨dx,ml,rl,tl,nd,rv,ts,kvs,h⟩:=hB
 refine⟨_,rfl,b,dx,_,rfl,h.hb,rfl,b,os,rs,F,rfl,hB0,fun l1 H1 g1 fl1 hl1=>?_⟩
 refine⟨l1,_,rfl,.inl (SqL.of hl1),?_⟩
 rw[lo5]
 have hB1:=L.same hB0 g1
 refine⟨_,rfl,_,rfl,b,dx,_,rfl,(g1 _ _ h.hb),rfl,_,rfl,b,os,rs,F,k0,rfl,hB1,hk,fun t tt=>?_⟩
 refine⟨N,t,rfl,rfl,?_⟩
 refine⟨_,rfl,b,os,rs,F,rfl,hB1,fun l2 H2 g2 fl2 hl2=>?_⟩
 have hB2:=L.same hB1 g2
 refine⟨_,rfl,_,os.length,_,l2,zO os,rfl,o8,Sen.Ym tf tt,SqL.of hl2,vq,fun R tr=>?_⟩
 refine⟨_,rfl,_,rfl,b,os,rs,F,rfl,hB2,fun l3 H3 g3 fl3 hl3=>?_⟩
 have hB3:=L.same hB2 g3
 refine⟨_,rfl,b,os,rs,F,rfl,hB3,fun l4' H4 g4 fl4 hl4=>?_⟩
 refine⟨_,rfl,R,os.length,_,l3,l4',zG os,zO os,rfl,o8,tr,SqL.of (g4 _ _ hl3),SqL.of hl4,ln.symm,by omega,wJ,vq,fun R2 H5 g5 t5=>?_⟩
 exact q R2 H5 (g1.trans (g2.trans (g3.trans (g4.trans g5)))) t5
theorem zgl (T:Txt P w K mg a) (yg:zm P w K mg base CX0 k a.yO a.yP ["self"] (xJ (zR a.zf))) (zY:zm P w K mg base CX0 k a.yE a.yF ["self", "number"] (wW a.zf))
  (vH:zm P w K mg base CX0 k a.uo a.ur ["book"] (YH a.zf)) (uL:zm P w K mg base CX0 k a.uH a.uI ["book"] (Wn a.zf))
  (NP:zm P w K mg base CX0 k a.Vq a.Vr ["table", "places", "marks"] (Jk K)) (zaz:zm P w K mg base CX0 k a.RW a.RX ["table", "places", "others", "marks"] (zaU K)):zm P w K mg base CX0 (k+1) a.WK a.WL ["book", "steps", "table"] (Ph a.zf):=by
 refine T.WR.ok Ng (fun vs H Q E h=>?_) (fun cdv A outer s H vs Q E hr h=>?_)
 ·obtain⟨b,os,rs,F,k0,N,f,rfl,_⟩:=h
  rfl
 obtain⟨b,os,rs,F,k0,N,f,rfl,hB,hk,hW,tf,q⟩:=h
 refine⟨_,(zj (zH (i:=3) Ng.nd rfl (Or.inl rfl) (zU zQ rfl T.n_len yH (za (vo (pv 0) T.c_Book T.e_Book_order yg hr T.b_Book_order .nil zy) zc)))
   (zj (zH (i:=4) Ng.nd rfl (Or.inl rfl) (zu zaz hr rfl T.m_moved T.M8.2 T.b_moved .nil zy (za (pv 2) (za (zu vH hr rfl T.m_now_places T.uD.2 T.b_now_places .nil zy (za (pv 0) zc)) (za (zu uL hr rfl T.m_then_places T.uK.2 T.b_then_places .nil zy (za (pv 0) zc)) (za (pv 3) zc))))))
   (zx (zK (zu NP hr rfl T.m_for_any T.Ra.2 T.b_for_any .nil zy (za (zM vM (pv 4) (yG (pv 0) T.c_Book T.e_Book_table_at zY hr T.b_Book_table_at .nil zy (za (pv 1) zc))) (za (zu uL hr rfl T.m_then_places T.uK.2 T.b_then_places .nil zy (za (pv 0) zc)) (za (pv 3) zc)))))))),?_⟩
 have L:=yx a.zf
 have o8:=(L.ord hB).le
 have lo5:(os.map V.str).length=os.length:=List.length_map _
 have ln:(zO os).length=(zG os).length:=by unfold zO zG; rw[List.length_map,List.length_map]; exact hW.len
 have l4:(zO os).length<=8:=by unfold zO; rw[List.length_map]; have:=W6 os; omega
 have hB0:=hB
 obtain⟨dx,ml,rl,tl,nd,rv,ts,kvs,h⟩:=hB
 refine⟨_,rfl,b,dx,_,rfl,h.hb,rfl,b,os,rs,F,rfl,hB0,fun l1 H1 g1 fl1 hl1=>?_⟩
 refine⟨l1,_,rfl,.inl (SqL.of hl1),?_⟩
 rw[lo5]
 have hB1:=L.same hB0 g1
 refine⟨_,rfl,_,rfl,b,os,rs,F,rfl,hB1,fun l2 H2 g2 fl2 hl2=>?_⟩
 have hB2:=L.same hB1 g2
 refine⟨_,rfl,b,os,rs,F,rfl,hB2,fun l3 H3 g3 fl3 hl3=>?_⟩
 refine⟨_,rfl,N,os.length,_,l2,l3,zO os,zG os,rfl,o8,tf,SqL.of (g3 _ _ hl2),SqL.of hl3,ln,by omega,vq,wJ,fun R H4 g4 tr=>?_⟩
 have hB4:=L.same hB2 (g3.trans g4)
 refine⟨_,rfl,_,rfl,b,dx,_,rfl,((g1.trans (g2.trans (g3.trans g4))) _ _ h.hb),rfl,_,rfl,b,os,rs,F,k0,rfl,hB4,hk,fun t tt=>?_⟩
 refine⟨R,t,rfl,rfl,?_⟩
 refine⟨_,rfl,b,os,rs,F,rfl,hB4,fun l5 H5 g5 fl5 hl5=>?_⟩
 refine⟨_,rfl,_,os.length,_,l5,zG os,rfl,o8,Sen.Ym tr tt,SqL.of hl5,wJ,fun R2 t2=>?_⟩
 exact q R2 H5 (g1.trans (g2.trans (g3.trans (g4.trans g5)))) t2
theorem Ju (T:Txt P w K mg a) (yg:zm P w K mg base CX0 k a.yO a.yP ["self"] (xJ (zR a.zf))):zm P w K mg base CX0 (k+1) a.ZP a.ZQ ["book"] (Kw a.zf):=by
 refine T.Wb.ok Zh (fun vs H Q E h=>?_) (fun cdv A outer s H vs Q E hr h=>?_)
 ·obtain⟨b,os,rs,F,rfl,_⟩:=h
  rfl
 obtain⟨b,os,rs,F,rfl,hB,hW,q⟩:=h
 refine⟨_,(zj (zH (i:=1) Zh.nd rfl (Or.inl rfl) (vo (pv 0) T.c_Book T.e_Book_order yg hr T.b_Book_order .nil zy))
   (zx (wO PassesOwn.never rfl (TV (ZD (v:=.ref a.uJ) rfl T.m_PAIRS rfl)) (TJ rfl (wN (yD (i:=2) Zh.nd rfl (Or.inl rfl)) (wN (yD (i:=3) Zh.nd rfl (Or.inl rfl)) WX))) (zx (yS (zV Vm (uf VD (pv 2) (pv 1) (by with_unfolding_all rfl)) (uf VD (pv 3) (pv 1) (by with_unfolding_all rfl)) (zW _)) (zx Z8) yu))))),?_⟩
 have L:=yx a.zf
 obtain⟨dx,fs,hins,hm⟩:=L.ins hB
 refine⟨_,rfl,b,dx,_,rfl,hins,hm _ (by decide +kernel),b,os,rs,F,rfl,hB,fun l1 H1 g1 fl1 hl1=>?_⟩
 refine⟨a.uJ,rfl,⟨_,T.q_PAIRS H1⟩,?_⟩
 refine zhp (xs:=[.ref a.Vs,.ref a.Vt,.ref a.Vu,.ref a.Vv]) (fun i σ H'=>H'=H1/\∃f2 f3:Option V,σ=[some (.ref b),some (.ref l1),f2,f3]) ⟨rfl,_,_,rfl⟩ ?_ ?_ ?_
 ·rintro i σ H' _ ⟨rfl,_⟩
  exact T.q_PAIRS H'
 ·rintro i v σ H' hv ⟨rfl,f2,f3,rfl⟩
  obtain⟨p,pr,rfl,hp,hpr⟩:∃(p:Addr) (pr:Str×Str),v=.ref p/\SqT K H' p [.str pr.1,.str pr.2]/\prs[i]?=some pr:=by
   match i,hv with
   | 0,hv=>cases hv; exact⟨_,("a", "e"),rfl,T.q_PAIRS_0 H',rfl⟩
   | 1,hv=>cases hv; exact⟨_,("b", "f"),rfl,T.q_PAIRS_1 H',rfl⟩
   | 2,hv=>cases hv; exact⟨_,("c", "g"),rfl,T.q_PAIRS_2 H',rfl⟩
   | 3,hv=>cases hv; exact⟨_,("d", "h"),rfl,T.q_PAIRS_3 H',rfl⟩
  have e:=hW pr (List.mem_of_getElem? hpr)
  refine⟨p,_,rfl,hp,rfl,_,_,rfl,_,_,rfl,rfl,?_⟩
  refine⟨_,rfl,_,rfl,l1,_,rfl,.inl (SqL.of hl1),rfl,wL os,?_⟩
  refine⟨_,rfl,_,rfl,l1,_,rfl,.inl (SqL.of hl1),rfl,wL os,rfl,_,rfl,Qh (congrArg V.bl ?_) ⟨rfl,_,_,rfl⟩⟩
  show inV (.str pr.1) (os.map V.str)=inV (.str pr.2) (os.map V.str)
  rw[Qi,Qi,e]
 ·rintro σ H' ⟨rfl,f2,f3,rfl⟩
  exact q _ g1
theorem LC (T:Txt P w K mg a) (yg:zm P w K mg base CX0 k a.yO a.yP ["self"] (xJ (zR a.zf))) (zY:zm P w K mg base CX0 k a.yE a.yF ["self", "number"] (wW a.zf))
  (wY:zm P w K mg base CX0 k a.xP a.xQ ["self", "number"] (Wm a.zf)) (uL:zm P w K mg base CX0 k a.uH a.uI ["book"] (Wn a.zf))
  (QS:zm P w K mg base CX0 k a.XH a.XJ ["table", "place", "marks"] zaT):zm P w K mg base CX0 (k+1) a.Zi a.Zj ["book", "room"] (zby a.zf):=by
 refine T.Xa.ok Uc (fun vs H Q E h=>?_) (fun cdv A outer s H vs Q E hr h=>?_)
 ·obtain⟨b,os,rs,F,k0,rfl,_⟩:=h
  rfl
 obtain⟨b,os,rs,F,k0,rfl,hB,hN,q⟩:=h
 refine⟨_,(zj (yt (yG (pv 0) T.c_Book T.e_Book_must_be_room wY hr T.b_Book_must_be_room .nil zy (za (pv 1) zc)))
   (zx (wO PassesOwn.never rfl (wg (zu uL hr rfl T.m_then_places T.uK.2 T.b_then_places .nil zy (za (pv 0) zc))) (yD (i:=2) Uc.nd rfl (Or.inl rfl)) (zx (yS (Z9 (zu QS hr rfl T.m_hangs_on T.Um.2 T.b_hangs_on .nil zy (za (yG (pv 0) T.c_Book T.e_Book_table_at zY hr T.b_Book_table_at .nil zy (za (pv 1) zc)) (za (pv 2) (za (zU zQ rfl T.n_len yH (za (vo (pv 0) T.c_Book T.e_Book_order yg hr T.b_Book_order .nil zy) zc)) zc)))) (fun _=>rfl)) (zx Z8) yu))))),?_⟩
 have L:=yx a.zf
 have o8:=(L.ord hB).le
 have lo5:(os.map V.str).length=os.length:=List.length_map _
 have hB0:=hB
 obtain⟨dx,ml,rl,tl,nd,rv,ts,kvs,h⟩:=hB
 refine⟨_,rfl,b,dx,_,rfl,h.hb,rfl,_,rfl,b,os,rs,F,k0,rfl,hB0,hN.1,?_⟩
 refine⟨_,rfl,b,os,rs,F,rfl,hB0,fun l1 H1 g1 fl1 hl1=>?_⟩
 refine⟨l1,rfl,⟨_,SqL.of hl1⟩,?_⟩
 refine tD (xs:=zN (zG os)) (fun i σ H'=>Same H1 H'/\∃f2:Option V,σ=[some (.ref b),some (.int (k0:Nat)),f2]) ⟨Same.refl _,_,rfl⟩ ?_ ?_ ?_
 ·rintro i σ H' _ ⟨g,_⟩
  exact SqL.of (g _ _ hl1)
 ·rintro i v σ H' hv ⟨g,f2,rfl⟩
  unfold zN at hv
  rw[List.getElem?_map] at hv
  cases hj:(zG os)[i]? with
  | none=>rw[hj] at hv; cases hv
  | some p =>
   rw[hj] at hv
   cases hv
   have hp:=List.mem_of_getElem? hj
   have hB1:=L.same hB0 (g1.trans g)
   have b1:=(g1.trans g) _ _ h.hb
   refine⟨_,rfl,b,dx,_,rfl,b1,rfl,_,rfl,b,os,rs,F,k0,rfl,hB1,hN.1,fun t tt=>?_⟩
   refine⟨_,rfl,_,rfl,b,dx,_,rfl,b1,rfl,b,os,rs,F,rfl,hB1,fun l2 H2 g2 fl2 hl2=>?_⟩
   refine⟨l2,_,rfl,.inl (SqL.of hl2),?_⟩
   rw[lo5]
   refine⟨t,p,os.length,_,rfl,wJ p hp,o8,tt,fun c cf ct=>?_⟩
   cases c with
   | true =>
    obtain⟨z,z1,z2⟩:=ct rfl
    exact absurd ((hN.2 p hp z z1 false).trans (hN.2 p hp z z1 true).symm) z2
   | false=>exact⟨_,rfl,vN ⟨g.trans g2,_,rfl⟩⟩
 ·rintro σ H' ⟨g,f2,rfl⟩
  exact q _ (g1.trans g)
theorem Qo (T:Txt P w K mg a) (JG:zm P w K mg base CX0 k a.ZP a.ZQ ["book"] (Kw a.zf))
  (wY:zm P w K mg base CX0 k a.xP a.xQ ["self", "number"] (Wm a.zf))
  (K3:zm P w K mg base CX0 k a.Zi a.Zj ["book", "room"] (zby a.zf)):zm P w K mg base CX0 (k+1) a.yI a.yJ ["book", "steps", "rooms"] (uX a.zf K):=by
 refine T.yR.ok Xg (fun vs H Q E h=>?_) (fun cdv A outer s H vs Q E hr h=>?_)
 ·obtain⟨b,l,os,rs,F,k0,ks,rfl,_⟩:=h
  rfl
 obtain⟨b,l,os,rs,F,k0,ks,rfl,hB,hW,hk,hl,hN,q⟩:=h
 refine⟨_,(zj (yt (zu JG hr rfl T.m_must_be_world T.Wb.2 T.b_must_be_world .nil zy (za (pv 0) zc)))
   (zj (yt (yG (pv 0) T.c_Book T.e_Book_must_be_room wY hr T.b_Book_must_be_room .nil zy (za (pv 1) zc)))
   (zx (wO PassesOwn.never rfl (wg (pv 2)) (yD (i:=3) Xg.nd rfl (Or.inl rfl)) (zx (yt (zu K3 hr rfl T.m_must_be_of_now T.Xa.2 T.b_must_be_of_now .nil zy (za (pv 0) (za (pv 3) zc))))))))),?_⟩
 have L:=yx a.zf
 have hB0:=hB
 obtain⟨dx,ml,rl,tl,nd,rv,ts,kvs,h⟩:=hB
 refine⟨_,rfl,b,os,rs,F,rfl,hB0,hW,fun H1 g1=>?_⟩
 refine⟨_,rfl,b,dx,_,rfl,g1 _ _ h.hb,rfl,_,rfl,b,os,rs,F,k0,rfl,L.same hB0 g1,hk,?_⟩
 refine⟨_,rfl,l,rfl,⟨_,g1.seq hl⟩,?_⟩
 refine tD (xs:=zN ks) (fun i σ H'=>Same H H'/\∃f3:Option V,σ=[some (.ref b),some (.int (k0:Nat)),some (.ref l),f3]) ⟨g1,_,rfl⟩ ?_ ?_ ?_
 ·rintro i σ H' _ ⟨g,_⟩
  exact g.seq hl
 ·rintro i v σ H' hv ⟨g,f3,rfl⟩
  unfold zN at hv
  rw[List.getElem?_map] at hv
  cases hj:ks[i]? with
  | none=>rw[hj] at hv; cases hv
  | some j =>
   rw[hj] at hv
   cases hv
   exact⟨_,rfl,_,rfl,b,os,rs,F,j,rfl,L.same hB0 g,hN j (List.mem_of_getElem? hj),fun H2 g2=>⟨g.trans g2,_,rfl⟩⟩
 ·rintro σ H' ⟨g,f3,rfl⟩
  exact q _ g
theorem zha (T:Txt P w K mg a) (yh:zm P w K mg base CX0 k a.yI a.yJ ["book", "steps", "rooms"] (uX a.zf K))
  (yj:zm P w K mg base CX0 k a.yL a.yM ["self", "table"] (wH a.zf 9)) (zY:zm P w K mg base CX0 k a.yE a.yF ["self", "number"] (wW a.zf))
  (R3:zm P w K mg base CX0 k a.Uv a.Uw ["book", "steps", "table"] (Ln a.zf)):zm P w K mg base CX0 (k+1) a.MP a.M4 ["book", "steps", "room"] (zem a.zf):=by
 refine T.M7.ok zgo (fun vs H Q E h=>?_) (fun cdv A outer s H vs Q E hr h=>?_)
 ·obtain⟨b,os,rs,F,k0,j,rfl,_⟩:=h
  rfl
 obtain⟨b,os,rs,F,k0,j,rfl,hB,hlen,hW,hk,hN,q⟩:=h
 refine⟨_,(zj (yt (zu yh hr rfl T.m_must_be_world_with T.yR.2 T.b_must_be_world_with .nil zy (za (pv 0) (za (pv 1) (za (xV (za (pv 2) zc)) zc)))))
   (zx (zK (yG (pv 0) T.c_Book T.e_Book_room_with yj hr T.b_Book_room_with .nil zy (za (zu R3 hr rfl T.m_after T.RZ.2 T.b_after .nil zy (za (pv 0) (za (pv 1) (za (yG (pv 0) T.c_Book T.e_Book_table_at zY hr T.b_Book_table_at .nil zy (za (pv 2) zc)) zc)))) zc))))),?_⟩
 have L:=yx a.zf
 have hB0:=hB
 obtain⟨dx,ml,rl,tl,nd,rv,ts,kvs,h⟩:=hB
 refine⟨_,rfl,_,rfl,_,rfl,by show 1<=sizeLine; decide,fun l0 hl0=>?_⟩
 have g0:=Same.new hl0 (.lst [.int (j:Nat)])
 refine⟨b,l0,os,rs,F,k0,[j],rfl,L.same hB0 g0,hW,hk,SqL.of zq,fun j' hj'=>by rw[List.mem_singleton.mp hj']; exact hN,fun H1 g1=>?_⟩
 have G1:=g0.trans g1
 have hB1:=L.same hB0 G1
 have b1:=G1 _ _ h.hb
 refine⟨_,rfl,b,dx,_,rfl,b1,rfl,_,rfl,_,rfl,_,rfl,b,dx,_,rfl,b1,rfl,_,rfl,b,os,rs,F,j,rfl,hB1,hN.1,fun t tt=>?_⟩
 refine⟨b,os,rs,F,k0,t,_,rfl,hB1,hk,hW,tt,fun R H2 g2 tr=>?_⟩
 exact Yn (G1.trans g2) (L.same hB1 g2) hlen tr (fun r=>rfl) q
theorem zd0 (T:Txt P w K mg a) (yh:zm P w K mg base CX0 k a.yI a.yJ ["book", "steps", "rooms"] (uX a.zf K))
  (yj:zm P w K mg base CX0 k a.yL a.yM ["self", "table"] (wH a.zf 9)) (zY:zm P w K mg base CX0 k a.yE a.yF ["self", "number"] (wW a.zf))
  (WW:zm P w K mg base CX0 k a.WK a.WL ["book", "steps", "table"] (Ph a.zf)):zm P w K mg base CX0 (k+1) a.Ui a.Uj ["book", "steps", "room"] (zai a.zf):=by
 refine T.Uq.ok zdF (fun vs H Q E h=>?_) (fun cdv A outer s H vs Q E hr h=>?_)
 ·obtain⟨b,os,rs,F,k0,j,rfl,_⟩:=h
  rfl
 obtain⟨b,os,rs,F,k0,j,rfl,hB,hlen,hW,hk,hN,q⟩:=h
 refine⟨_,(zj (yt (zu yh hr rfl T.m_must_be_world_with T.yR.2 T.b_must_be_world_with .nil zy (za (pv 0) (za (pv 1) (za (xV (za (pv 2) zc)) zc)))))
   (zx (zK (yG (pv 0) T.c_Book T.e_Book_room_with yj hr T.b_Book_room_with .nil zy (za (zu WW hr rfl T.m_before T.WR.2 T.b_before .nil zy (za (pv 0) (za (pv 1) (za (yG (pv 0) T.c_Book T.e_Book_table_at zY hr T.b_Book_table_at .nil zy (za (pv 2) zc)) zc)))) zc))))),?_⟩
 have L:=yx a.zf
 have hB0:=hB
 obtain⟨dx,ml,rl,tl,nd,rv,ts,kvs,h⟩:=hB
 refine⟨_,rfl,_,rfl,_,rfl,by show 1<=sizeLine; decide,fun l0 hl0=>?_⟩
 have g0:=Same.new hl0 (.lst [.int (j:Nat)])
 refine⟨b,l0,os,rs,F,k0,[j],rfl,L.same hB0 g0,hW,hk,SqL.of zq,fun j' hj'=>by rw[List.mem_singleton.mp hj']; exact hN,fun H1 g1=>?_⟩
 have G1:=g0.trans g1
 have hB1:=L.same hB0 G1
 have b1:=G1 _ _ h.hb
 refine⟨_,rfl,b,dx,_,rfl,b1,rfl,_,rfl,_,rfl,_,rfl,b,dx,_,rfl,b1,rfl,_,rfl,b,os,rs,F,j,rfl,hB1,hN.1,fun t tt=>?_⟩
 refine⟨b,os,rs,F,k0,t,_,rfl,hB1,hk,hW,tt,fun R H2 g2 tr=>?_⟩
 exact Yn (G1.trans g2) (L.same hB1 g2) hlen tr (fun r=>rfl) q
end
end K92
namespace K92
open PySem L2 Sen
section
variable {P:Program} {w:World} {K:PySem.W.Frag} {mg:Str->Option Value} {base:Heap} {a:Ad} {k:Nat}
theorem zap (T:Txt P w K mg a) (zY:zm P w K mg base CX0 k a.yE a.yF ["self", "number"] (wW a.zf)) (R3:zm P w K mg base CX0 k a.Uv a.Uw ["book", "steps", "table"] (Ln a.zf)) (Vx:zm P w K mg base CX0 k a.Z1 a.Z2 ["table", "other"] VH):zm P w K mg base CX0 (k+1) a.uc a.ud ["book", "steps", "start"] (Y5 a.zf):=by
 refine T.tW.ok vL (fun vs H Q E h=>?_) (fun cdv A outer s H vs Q E hr h=>?_)
 ·obtain⟨b,os,rs,F,k0,j,rfl,_⟩:=h
  rfl
 obtain⟨b,os,rs,F,k0,j,rfl,hB,hW,hk,hj,q⟩:=h
 refine⟨_,(zj (zH (i:=3) vL.nd rfl (Or.inl rfl) (xV zc))
   (zj (zH (i:=4) vL.nd rfl (Or.inl rfl) (yG (pv 0) T.c_Book T.e_Book_table_at zY hr T.b_Book_table_at .nil zy (za (pv 2) zc)))
   (zj (zH (i:=5) vL.nd rfl (Or.inl rfl) zp)
   (zj (TQ PassesOwn.never (zV Vm (pv 4) zp (zW _)) (zj (yt (wI PySem.F.plainAttrs_list PySem.F.slot_list_append PySem.F.type_list_append wK (pv 3) (za (pv 4) zc)))
   (zj (zH (i:=5) vL.nd rfl (Or.inl rfl) (zM Wi (pv 5) (pv 4)))
   (zx (zH (i:=4) vL.nd rfl (Or.inl rfl) (zu Vx hr rfl T.m_without T.Vw.2 T.b_without .nil zy (za (zu R3 hr rfl T.m_after T.RZ.2 T.b_after .nil zy (za (pv 0) (za (pv 1) (za (pv 4) zc)))) (za (pv 5) zc))))))))
   (zx (zK (pv 3))))))),?_⟩
 have L:=yx a.zf
 have o8:=(L.ord hB).le
 have p256:2^os.length<=256:=Jc o8
 obtain⟨dx,ml,rl,tl,nd,rv,ts,kvs,h⟩:=id hB
 refine⟨by show 0<=sizeLine; decide,fun l hl=>?_⟩
 have g0:=Same.new hl (.lst [])
 have e0:upd H l (.lst []) l=some (.lst (zN [])):=zq
 generalize upd H l (.lst [])=H1 at g0 e0
 refine⟨_,rfl,b,dx,_,rfl,g0 _ _ h.hb,rfl,_,rfl,b,os,rs,F,j,rfl,L.same hB g0,hj,fun N tN=>?_⟩
 refine⟨fun m σ H'=>∃(Ns:List Nat) (cur told:Nat),m=256-Ns.length/\Ns.length<=zc7 os (tB rs k0) (tB rs j) Ns.length/\Same H H'/\H' l=some (.lst (zN Ns))/\(∀(i N:Nat),Ns[i]?=some N->zL os.length N (rnd os (tB rs k0) (tB rs j) i).1/\N≠0)/\zL os.length cur (rnd os (tB rs k0) (tB rs j) Ns.length).1/\zL os.length told (rnd os (tB rs k0) (tB rs j) Ns.length).2/\σ=[some (.ref b),some (.int (k0:Nat)),some (.int (j:Nat)),some (.ref l),some (.int (cur:Nat)),some (.int (told:Nat))],⟨_,[],N,0,rfl,Nat.zero_le _,g0,e0,(fun i N e=>by cases e),tN,(fun c=>by rw[Nat.zero_testBit]; show false=(_&&false); rw[Bool.and_false]),rfl⟩,?_⟩
 rintro m σ H' ⟨Ns,cur,told,rfl,hc,g,hl',ok,tc,tt,rfl⟩
 refine⟨_,rfl,rfl,_,rfl,?_⟩
 by_cases c0:cur=0
 ·subst c0
  refine Qh rfl ⟨_,rfl,?_⟩
  exact q l H' Ns g hl hl' ⟨ok,tc⟩ (Nat.le_trans hc (Nat.le_trans (zep _ _) p256))
 ·have ct:=zh5 tc c0
  have cl:=zep (os:=os) (t:=tB rs k0) (tB rs j) (Ns.length+1)
  show if (!decide (V.int (cur:Nat)=V.int 0))=true then _ else _
  rw[decide_eq_false (fun e=>c0 (by injection e; omega))]
  refine Xb ⟨_,fun σ' H2 h=>h,?_⟩
  refine⟨_,rfl,.inl ⟨rfl,_,SqL.of hl'⟩,_,rfl,l,_,_,rfl,rfl,hl',by rw[wR]; exact yC (by omega),?_⟩
  have g2:Same H (upd H' l (.lst (zN Ns++[V.int (cur:Nat)]))):=g.over hl _
  have e2:upd H' l (.lst (zN Ns++[V.int (cur:Nat)])) l=some (.lst (zN (Ns++[cur]))):=by rw[zq]; unfold zN; rw[List.map_append]; rfl
  generalize upd H' l (.lst (zN Ns++[V.int (cur:Nat)]))=H2 at g2 e2
  refine⟨_,rfl,_,rfl,told,cur,rfl,rfl,?_⟩
  refine⟨_,rfl,_,rfl,_,rfl,b,os,rs,F,k0,cur,_,rfl,L.same hB g2,hk,hW,tc,fun R H3 g3 tr=>?_⟩
  refine⟨_,rfl,R,told|||cur,os.length,_,_,rfl,tr,zc8 tt tc,fun R2 tr2=>?_⟩
  have el:(Ns++[cur]).length=Ns.length+1:=by rw[List.length_append]; rfl
  refine⟨256-(Ns++[cur]).length,by rw[el]; omega,Ns++[cur],R2,told|||cur,rfl,by rw[el]; omega,g2.trans g3,g3 _ _ e2,fun i N e=>?_,by rw[el]; exact tr2,by rw[el]; exact zc8 tt tc,rfl⟩
  rcases Nat.lt_or_ge i Ns.length with z | z
  ·rw[List.getElem?_append_left z] at e
   exact ok i N e
  ·have hi:=(List.getElem?_eq_some_iff.mp e).1
   have ei:i=Ns.length:=by omega
   subst ei
   rw[List.getElem?_append_right (Nat.le_refl _),Nat.sub_self] at e
   cases e
   exact⟨tc,c0⟩
theorem zgm (T:Txt P w K mg a) (yh:zm P w K mg base CX0 k a.yI a.yJ ["book", "steps", "rooms"] (uX a.zf K)) (tX:zm P w K mg base CX0 k a.uc a.ud ["book", "steps", "start"] (Y5 a.zf)) (yj:zm P w K mg base CX0 k a.yL a.yM ["self", "table"] (wH a.zf 9)):zm P w K mg base CX0 (k+1) a.Qz a.QB ["book", "steps", "start"] (zdc a.zf):=by
 refine T.QJ.ok zfr (fun vs H Q E h=>?_) (fun cdv A outer s H vs Q E hr h=>?_)
 ·obtain⟨b,os,rs,F,k0,j,rfl,_⟩:=h
  rfl
 obtain⟨b,os,rs,F,k0,j,rfl,hB,hlen,hW,hk,hN,q⟩:=h
 refine⟨_,(zj (yt (zu yh hr rfl T.m_must_be_world_with T.yR.2 T.b_must_be_world_with .nil zy (za (pv 0) (za (pv 1) (za (xV (za (pv 2) zc)) zc)))))
   (zx (zK (Zz (osc:=zA U3) (js:=[0]) rfl (by show tY (zA U3) _ "table" ["book"]; exact⟨rfl,by decide +kernel,by decide +kernel,rfl,by decide +kernel,by decide +kernel,by decide +kernel⟩) rfl (wg (zu tX hr rfl T.m_round_tables T.tW.2 T.b_round_tables .nil zy (za (pv 0) (za (pv 1) (za (pv 2) zc))))) (by show ∀j∈([0]:List Nat),j<3; decide) (fun cl C s₂ H₂ fp=>(yG (pv 1) T.c_Book T.e_Book_room_with yj hr T.b_Book_room_with .nil zy (za (pv 0) zc))))))),?_⟩
 have L:=yx a.zf
 have BK:=L.bk hB
 have ho:=L.ord hB
 refine⟨_,rfl,_,rfl,_,rfl,by show 1<=sizeLine; decide,fun l0 hl0=>?_⟩
 have g0:=Same.new hl0 (.lst [.int (j:Nat)])
 refine⟨b,l0,os,rs,F,k0,[j],rfl,L.same hB g0,hW,hk,SqL.of zq,fun j' hj'=>by rw[List.mem_singleton.mp hj']; exact hN,fun H1 g1=>?_⟩
 have G1:=g0.trans g1
 generalize upd H l0 (.lst [.int (j:Nat)])=Hx at g0 g1
 have hB1:=L.same hB G1
 refine⟨_,rfl,_,rfl,_,rfl,b,os,rs,F,k0,j,rfl,hB1,hW,hk,hN.1,fun l H2 Ns g2 fl hl rn ln=>?_⟩
 have G2:=G1.trans g2
 have nF:¬F l:=L.fresh hB1 fl
 have hB2:=L.same hB G2
 have Lx:uF a.zf (outF F H2) b os (Bdd.hiN os.length rs) H2 rs F:=⟨zf2 F H2,fun x hx=>zh0 hx,hB2,Nat.le_refl _⟩
 refine⟨l,rfl,⟨_,SqL.of hl⟩,?_⟩
 refine zaI (xs:=zN Ns) (fun m ys H3=>∃(rs':List Bdd.Rm) (js:List Nat),uF a.zf (outF F H2) b os (Bdd.hiN os.length rs+63*m) H3 rs' F/\yw H2 H3/\Bdd.xr rs rs'/\ys=zN js/\Paired (RV os.length rs') js (Ns.take m)/\∀i∈js,wD os rs' i) ⟨rs,[],Lx,yw.refl _,Bdd.xr.refl _,rfl,.nil,(fun i h=>by cases h)⟩ (by rw[wR]; exact Nat.le_of_lt (yC (by omega))) ?_ ?_ (fun _ _ _ _ h q=>h _ _ q) ?_ ?_
 ·rintro m ys H3 hm ⟨rs',js,L3,tu,gr,rfl,pj,oj⟩
  have:=wu pj
  rw[List.length_take] at this
  exact⟨SqL.of (L3.same _ _ (by rw[zc3 nF]; exact hl)),by rw[wR]; omega⟩
 ·rintro m x ys H3 hx ⟨rs',js,L3,tu,gr,rfl,pj,oj⟩
  obtain⟨N,hi,rfl⟩:=Sy hx
  have hm:=(List.getElem?_eq_some_iff.mp hi).1
  obtain⟨tN,_⟩:=rn.tab m N hi
  have BK3:=L.bk L3.bk
  have l3:=L3.len
  have hil:Bdd.hiN os.length rs<=rs.length:=List.length_filter_le _ _
  refine zjP (Xb ?_)
  obtain⟨dx3,_,_,_,_,_,_,_,h3⟩:=id L3.bk
  refine⟨_,rfl,b,dx3,_,rfl,h3.hb,rfl,_,rfl,?_⟩
  refine⟨b,os,rs',F,N,0,_,rfl,L3.bk,by show rs'.length+512<=9000000; omega,Nat.zero_le _,by have:=ho.le; omega,tN,fun i hi=>absurd hi (Nat.not_lt_zero _),fun kk rs4 H4 aw4 tu4 hB4 gr4 lt4 y4 ln4 _ hh4'=>?_⟩
  have m4:Bdd.Means rs4 kk fun r=>(rnd os (tB rs k0) (tB rs j) m).1 (Bdd.bits r os.length):=⟨lt4,y4⟩
  have hh4:=Nat.le_trans hh4' (Nat.add_le_add_left (Bdd.ze9 ho.le) _)
  refine⟨rs4,js++[kk],(L3.grow aw4 hB4 hh4).up (by rw[Nat.mul_succ]; omega),tu.trans tu4,gr.trans gr4,by unfold zN; rw[List.map_append]; rfl,?_,fun i hi'=>?_⟩
  ·rw[xO hi]
   exact YF (Yb (fun _ _ e=>e.grown BK3 gr4) pj) (.cons (RV.of m4 tN) .nil)
  ·rcases List.mem_append.mp hi' with z | z
   ·exact(oj i z).grown BK3 gr4
   ·rw[List.mem_singleton.mp z]
    exact zgZ m4 fun p hp=>(Jo ho hW (fun p hp=>hN.2 p hp) m p hp).1
 ·rintro σ' H3 Q1 Q2 hQ ⟨v1,e1,b',dx',fs',z1,z2,z3,v2,e2,y1,y2,y3,y4,y5,y6,y7,y8,y9,ya,yb,yc,yd,ye,yf⟩
  exact⟨v1,e1,b',dx',fs',z1,z2,z3,v2,e2,y1,y2,y3,y4,y5,y6,y7,y8,y9,ya,yb,yc,yd,ye,fun a1 a2 a3 a4 a5 a6 a7 a8 a9 b1 b2 b3=>hQ _ _ (yf a1 a2 a3 a4 a5 a6 a7 a8 a9 b1 b2 b3)⟩
 rintro ys H3 l2 ⟨rs',js,L3,tu,gr,rfl,pj,oj⟩ hl2
 rw[wR,List.take_of_length_le (Nat.le_refl _)] at pj
 rw[wR] at L3
 have g3:=Same.new hl2 (.lst (zN js))
 have aw:Xd F H H3:=fun x o e n=>L3.same _ _ (by rw[zc3 n]; exact G2 _ _ e)
 have nl2:¬F l2:=L.fresh L3.bk hl2
 refine q l2 _ rs' js Ns (fun x o e n=>g3 _ _ (aw x o e n)) (fun x xs e=>g3 _ _ (tu _ _ (G2 _ _ e))) (L.same L3.bk g3) gr (Nat.le_trans L3.hi (by omega)) ?_ nl2 zq pj oj rn ln
 cases e:H l2 with
 | none=>rfl
 | some o=>rw[aw l2 o e nl2] at hl2; cases hl2
theorem zfl (T:Txt P w K mg a) (yh:zm P w K mg base CX0 k a.yI a.yJ ["book", "steps", "rooms"] (uX a.zf K)) (tX:zm P w K mg base CX0 k a.uc a.ud ["book", "steps", "start"] (Y5 a.zf)) (yj:zm P w K mg base CX0 k a.yL a.yM ["self", "table"] (wH a.zf 9)):zm P w K mg base CX0 (k+1) a.SX a.S5 ["book", "steps", "start"] (zbD a.zf):=by
 refine T.Rb.ok zeG (fun vs H Q E h=>?_) (fun cdv A outer s H vs Q E hr h=>?_)
 ·obtain⟨b,os,rs,F,k0,j,rfl,_⟩:=h
  rfl
 obtain⟨b,os,rs,F,k0,j,rfl,hB,hlen,hW,hk,hN,q⟩:=h
 refine⟨_,(zj (yt (zu yh hr rfl T.m_must_be_world_with T.yR.2 T.b_must_be_world_with .nil zy (za (pv 0) (za (pv 1) (za (xV (za (pv 2) zc)) zc)))))
   (zx (zK (yG (pv 0) T.c_Book T.e_Book_room_with yj hr T.b_Book_room_with .nil zy (za (zU (zgE rfl) rfl T.n_sum ziy (za (zu tX hr rfl T.m_round_tables T.tW.2 T.b_round_tables .nil zy (za (pv 0) (za (pv 1) (za (pv 2) zc)))) zc)) zc))))),?_⟩
 have L:=yx a.zf
 have hB0:=hB
 obtain⟨dx,ml,rl,tl,nd,rv,ts,kvs,h⟩:=hB
 refine⟨_,rfl,_,rfl,_,rfl,by show 1<=sizeLine; decide,fun l0 hl0=>?_⟩
 have g0:=Same.new hl0 (.lst [.int (j:Nat)])
 refine⟨b,l0,os,rs,F,k0,[j],rfl,L.same hB0 g0,hW,hk,SqL.of zq,fun j' hj'=>by rw[List.mem_singleton.mp hj']; exact hN,fun H1 g1=>?_⟩
 have G1:=g0.trans g1
 have hB1:=L.same hB0 G1
 have b1:=G1 _ _ h.hb
 refine⟨_,rfl,b,dx,_,rfl,b1,rfl,_,rfl,_,rfl,_,rfl,b,os,rs,F,k0,j,rfl,hB1,hW,hk,hN.1,fun l H2 Ns g2 fl hl rn ln=>?_⟩
 refine⟨l,Ns.map (fun p=>((p:Nat):Int)),rfl,by rw[<-zf8]; exact SqL.of hl,?_⟩
 rw[zbC]
 exact Yn (G1.trans g2) (L.same hB1 g2) hlen rn.sum (fun r=>rfl) (q Ns rn ln)
theorem zhb (T:Txt P w K mg a) (yh:zm P w K mg base CX0 k a.yI a.yJ ["book", "steps", "rooms"] (uX a.zf K)) (zY:zm P w K mg base CX0 k a.yE a.yF ["self", "number"] (wW a.zf)) (WW:zm P w K mg base CX0 k a.WK a.WL ["book", "steps", "table"] (Ph a.zf)) (yj:zm P w K mg base CX0 k a.yL a.yM ["self", "table"] (wH a.zf 9)):zm P w K mg base CX0 (k+1) a.M5 a.M6 ["book", "steps", "room"] (zet a.zf):=by
 refine T.M9.ok U9 (fun vs H Q E h=>?_) (fun cdv A outer s H vs Q E hr h=>?_)
 ·obtain⟨b,os,rs,F,k0,j,rfl,_⟩:=h
  rfl
 obtain⟨b,os,rs,F,k0,j,rfl,hB,hlen,hW,hk,hN,q⟩:=h
 refine⟨_,(zj (yt (zu yh hr rfl T.m_must_be_world_with T.yR.2 T.b_must_be_world_with .nil zy (za (pv 0) (za (pv 1) (za (xV (za (pv 2) zc)) zc)))))
   (zj (zH (i:=3) U9.nd rfl (Or.inl rfl) (yG (pv 0) T.c_Book T.e_Book_table_at zY hr T.b_Book_table_at .nil zy (za (pv 2) zc)))
   (zj (zH (i:=4) U9.nd rfl (Or.inl rfl) (zM zcz (pv 3) (zu WW hr rfl T.m_before T.WR.2 T.b_before .nil zy (za (pv 0) (za (pv 1) (za (pv 3) zc))))))
   (zj (TQ PassesOwn.never (zV Vm (pv 4) (pv 3) (zW _)) (zj (zH (i:=3) U9.nd rfl (Or.inl rfl) (pv 4))
   (zx (zH (i:=4) U9.nd rfl (Or.inl rfl) (zM zcz (pv 3) (zu WW hr rfl T.m_before T.WR.2 T.b_before .nil zy (za (pv 0) (za (pv 1) (za (pv 3) zc)))))))))
   (zx (zK (yG (pv 0) T.c_Book T.e_Book_room_with yj hr T.b_Book_room_with .nil zy (za (pv 3) zc)))))))),?_⟩
 have L:=yx a.zf
 have hB0:=hB
 have ho:=L.ord hB
 obtain⟨dx,ml,rl,tl,nd,rv,ts,kvs,h⟩:=hB
 refine⟨_,rfl,_,rfl,_,rfl,by show 1<=sizeLine; decide,fun l0 hl0=>?_⟩
 have g0:=Same.new hl0 (.lst [.int (j:Nat)])
 refine⟨b,l0,os,rs,F,k0,[j],rfl,L.same hB0 g0,hW,hk,SqL.of zq,fun j' hj'=>by rw[List.mem_singleton.mp hj']; exact hN,fun H1 g1=>?_⟩
 have G1:=g0.trans g1
 have hB1:=L.same hB0 G1
 have b1:=G1 _ _ h.hb
 refine⟨_,rfl,b,dx,_,rfl,b1,rfl,_,rfl,b,os,rs,F,j,rfl,hB1,hN.1,fun N tN=>?_⟩
 refine⟨_,rfl,_,rfl,_,rfl,_,rfl,b,os,rs,F,k0,N,_,rfl,hB1,hk,hW,tN,fun R H2 g2 tr=>⟨N,R,rfl,rfl,?_⟩⟩
 refine⟨fun m σ H'=>∃(cur nxt:Nat) (f:Nat->Bool),m=((List.range (2^os.length)).filter f).length/\Same H H'/\zL os.length cur f/\zL os.length nxt (fun c=>f c&&xu os (tB rs k0) f c)/\(∀c,c<2^os.length->f c=true->tB rs j c=true)/\(∀p∈zG os,Bdd.Free os.length f p)/\(∀h:Nat->Bool,(∀c,c<2^os.length->h c=true->tB rs j c=true/\xu os (tB rs k0) h c=true)->∀c,c<2^os.length->h c=true->f c=true)/\σ=[some (.ref b),some (.int (k0:Nat)),some (.int (j:Nat)),some (.int (cur:Nat)),some (.int (nxt:Nat))],⟨_,N,N&&&R,tB rs j,rfl,G1.trans g2,tN,UG tN tr,(fun _ _ e=>e),hN.2,(fun h hh c hc e=>(hh c hc e).1),rfl⟩,?_⟩
 rintro m σ H' ⟨cur,nxt,f,rfl,g,tc,tn,sub,fre,top,rfl⟩
 refine⟨_,rfl,_,rfl,rfl,_,rfl,?_⟩
 by_cases c0:nxt=cur
 ·subst c0
  refine Qh rfl ?_
  refine⟨_,rfl,b,dx,_,rfl,g _ _ h.hb,rfl,_,rfl,?_⟩
  exact Yn g (L.same hB0 g) hlen tc (fun r=>rfl) (q f ⟨sub,fun c hc e=>by
   have z:=ziR tc tn hc
   rw[e,Bool.true_and] at z
   exact z.symm,fre,top⟩)
 ·show if (!decide (V.int (nxt:Nat)=V.int (cur:Nat)))=true then _ else _
  rw[decide_eq_false (fun e=>c0 (by injection e; omega))]
  refine Xb ⟨_,fun σ' H2 h=>h,?_⟩
  have hB':=L.same hB0 g
  refine⟨_,rfl,_,rfl,_,rfl,_,rfl,_,rfl,b,os,rs,F,k0,nxt,_,rfl,hB',hk,hW,tn,fun R2 H3 g3 tr2=>⟨nxt,R2,rfl,rfl,?_⟩⟩
  refine⟨((List.range (2^os.length)).filter (fun c=>f c&&xu os (tB rs k0) f c)).length,?_,nxt,nxt&&&R2,_,rfl,g.trans g3,tn,UG tn tr2,fun c hc e=>sub c hc ((Bool.and_eq_true _ _).mp e).1,fun p hp c hc v=>?_,fun hh hy c hc e=>?_,rfl⟩
  ·obtain⟨c,hc,ne⟩:=zh6 tn tc c0
   refine Uz (fun x e=>((Bool.and_eq_true _ _).mp e).1) ⟨c,List.mem_range.mpr hc,?_⟩
   cases e1:f c with
   | false=>rw[e1] at ne; exact absurd rfl ne
   | true =>
    refine⟨rfl,?_⟩
    rw[e1] at ne
    cases e2:(true&&xu os (tB rs k0) f c) with
    | false=>rfl
    | true=>rw[e2] at ne; exact absurd rfl ne
  ·show(f (zE c p v)&&xu os (tB rs k0) f (zE c p v))=(f c&&xu os (tB rs k0) f c)
   rw[fre p hp c hc v,zde _ _ p hp c hc v]
  ·refine(Bool.and_eq_true _ _).mpr ⟨top hh hy c hc e,?_⟩
   exact bef_mono' ho hW hc (fun d hd e=>top hh hy d hd e) (hy c hc e).2
end
end K92
namespace K92
open PySem L2 Sen
section
variable {P:Program} {w:World} {K:PySem.W.Frag} {mg:Str->Option Value} {base:Heap} {a:Ad} {k:Nat}
theorem zfm (T:Txt P w K mg a)  : zm P w K mg base CX0 (k+1) a.YB a.YC ["order"] (zc6 K):=by
 refine T.Vl.ok zcl (fun vs H Q E h=>?_) (fun cdv A outer s H vs Q E hr h=>?_)
 ·obtain⟨ol,os,rfl,_⟩:=h
  rfl
 obtain⟨ol,os,rfl,hol,q⟩:=h
 refine⟨_,(zx (zK (ziw (osc:=zA Yu) (js:=[0]) rfl (by show tY (zA Yu) _ "mark" ["order"]; exact⟨rfl,by decide +kernel,by decide +kernel,rfl,by decide +kernel,by decide +kernel,by decide +kernel⟩) rfl (ziK xZ) (by show ∀j∈([0]:List Nat),j<1; decide) (fun cl C s₂ H₂ fp=>(zV (J9 (K:=K) rfl) (pv 0) (pv 1) (by with_unfolding_all rfl))) (fun cl C s₂ H₂ fp=>(pv 0))))),?_⟩
 refine⟨_,rfl,by decide +kernel,?_⟩
 refine zh2 (x:=Str.ofString "abcd") (fun i ys H'=>H'=H/\ys=(((prs.take i).filter fun p=>os.contains p.1).map (·.1)).map V.str) ⟨rfl,rfl⟩ (by decide +kernel) ?_ ?_ ?_ (fun _ _ _ _ h ⟨v,e,q⟩=>⟨v,e,h _ _ q⟩) ?_
 ·rintro i ys H' ⟨rfl,rfl⟩
  have:=List.length_filter_le (fun p:Str×Str=>os.contains p.1) (prs.take i)
  rw[List.length_take] at this
  rw[List.length_map,List.length_map]
  omega
 ·rintro i c ys H' hc ⟨rfl,rfl⟩
  have h4:i<4:=by
   have:=(Array.getElem?_eq_some_iff.mp hc).1
   have e:(Str.ofString "abcd").cps.size=4:=by decide +kernel
   omega
  have ec:c=97+i:=by
   match i,h4 with
   | 0,_=>exact(Option.some.inj (hc.symm.trans (by decide +kernel)))
   | 1,_=>exact(Option.some.inj (hc.symm.trans (by decide +kernel)))
   | 2,_=>exact(Option.some.inj (hc.symm.trans (by decide +kernel)))
   | 3,_=>exact(Option.some.inj (hc.symm.trans (by decide +kernel)))
  subst ec
  refine⟨_,rfl,_,rfl,ol,_,rfl,.inl hol,rfl,wL os,_,rfl,?_⟩
  rw[xO (Sx h4),List.filter_append]
  show if inV (.str (yq i)) (os.map V.str)=true then _ else _
  rw[Qi]
  cases e:os.contains (yq i) with
  | true =>
   refine Xb ⟨_,rfl,rfl,?_⟩
   rw[List.filter_cons,if_pos (show os.contains (yq i,wj i).1=true from e),List.map_append,List.map_append]
   rfl
  | false =>
   refine vN ⟨rfl,?_⟩
   rw[List.filter_cons,if_neg (by show ¬os.contains (yq i)=true; rw[e]; exact Bool.false_ne_true),List.filter_nil,List.append_nil]
 ·rintro σ' H' Q1 Q2 hQ ⟨v1,e1,v2,e2,p,xs,z1,z2,z3,z4,z5,z6,z7⟩
  exact⟨v1,e1,v2,e2,p,xs,z1,z2,z3,z4,z5,z6,hQ _ _ z7⟩
 rintro ys H' l ⟨rfl,rfl⟩ hl
 refine q l _ (Same.new hl _) hl ?_
 rw[zq]
 rfl
theorem zdz (T:Txt P w K mg a) (yX:zm P w K mg base CX0 k a.uw a.ux ["cell", "k", "bound"] Mh):zm P w K mg base CX0 (k+1) a.YX a.YZ ["cell"] zeo:=by
 refine T.V8.ok xK (fun vs H Q E h=>?_) (fun cdv A outer s H vs Q E hr h=>?_)
 ·obtain⟨c,rfl,_⟩:=h
  rfl
 obtain⟨c,rfl,q⟩:=h
 refine ziI ?_
 refine zcV (fun σ H'=>Same H H'/\∃(f z:Nat) (f3 f4 f5 f6:Option V),(f,z)∈[(0,1),(0,2),(0,3),(1,1),(1,2),(1,3),(0,4)]/\σ=[some (.int c),some (.int (f:Nat)),some (.int (z:Nat)),f3,f4,f5,f6]) (fun t z=>(zj (zH (i:=1) xK.nd rfl (Or.inl rfl) (zu yX hr rfl T.m_x_law_draw T.yW.2 T.b_x_law_draw .nil zy (za (pv 0) (za zp (za zp zc)))))
   (zj (zH (i:=2) xK.nd rfl (Or.inl rfl) (zM wk zp (zu yX hr rfl T.m_x_law_draw T.yW.2 T.b_x_law_draw .nil zy (za (pv 0) (za zp (za zp zc))))))
   (zj (yS (zV wz (zu yX hr rfl T.m_x_law_draw T.yW.2 T.b_x_law_draw .nil zy (za (pv 0) (za zp (za zp zc)))) zp (zW _)) (zx (zcw (vV (za zp (za zp zc))) (TJ rfl (wN (yD (i:=1) xK.nd rfl (Or.inl rfl)) (wN (yD (i:=2) xK.nd rfl (Or.inl rfl)) WX))))) yu)
   z)))) ?_ ?_
 ·rintro u hu σ H' ⟨rfl,rfl⟩
  refine⟨_,rfl,c,1,2,rfl,by decide,by decide,by decide,fun r1 a0 a1=>?_⟩
  refine⟨_,rfl,c,0,3,rfl,by decide,by decide,by decide,fun r2 b0 b1=>⟨1,r2,rfl,rfl,?_⟩⟩
  refine⟨_,rfl,c,12,8,rfl,by decide,by decide,by decide,fun r3 d0 d1=>⟨rfl,_,rfl,yp (fun _=>?_) (fun _=>?_)⟩⟩
  ·refine⟨by show 2<=sizeLine; decide,fun t ht=>⟨t,_,rfl,SqT.of zq,rfl,_,_,rfl,_,_,rfl,rfl,?_⟩⟩
   exact hu _ _ ⟨Same.new ht _,0,4,_,_,_,_,by decide,rfl⟩
  ·obtain⟨f,rfl⟩:∃f:Nat,r1=(f:Int):=⟨r1.toNat,by omega⟩
   obtain⟨z,rfl⟩:∃z:Nat,r2=(z:Int):=⟨r2.toNat,by omega⟩
   refine hu _ _ ⟨Same.refl _,f,1+z,none,none,none,none,?_,?_⟩
   ·have f2:f=0\/f=1:=by omega
    have z3:z=0\/z=1\/z=2:=by omega
    rcases f2 with rfl | rfl<;>rcases z3 with rfl | rfl | rfl<;>decide
   ·show [some (V.int c),some (V.int (f:Nat)),some (V.int (1+(z:Int))),none,none,none,none]=_
    rw[show(1+(z:Int))=((1+z:Nat):Int) by omega]
 refine zcV (fun σ H'=>Same H H'/\∃(is:List Nat) (v1 v2:Option V) (f4 f5 f6:Option V),is.Nodup/\(∀i∈is,i<4)/\is≠[]/\is.length<=4/\σ=[some (.int c),v1,v2,some (.str (nmS is)),f4,f5,f6]) (fun t z=>(zj (zH (i:=3) xK.nd rfl (Or.inl rfl) (Ja ziP xZ (R5 (pv 1)) (R5 (zM wk (pv 1) (pv 2)))))
   (zj (yS (PW.pt (zct (zV wz (pv 2) zp (zW _)) (zaC (zV wz (zu yX hr rfl T.m_x_law_draw T.yW.2 T.b_x_law_draw .nil zy (za (pv 0) (za zp (za zp zc)))) zp (zW _))))) (zx (zH (i:=3) xK.nd rfl (Or.inl rfl) (zM zeQ (zX NZ (pv 3) zp (fun _ _=>rfl)) (zX NZ (pv 3) zp (fun _ _=>rfl))))) yu)
   z))) ?_ ?_
 ·rintro u hu σ H' ⟨g,f,z,f3,f4,f5,f6,hfz,rfl⟩
  have sl:Txt.slice (Str.ofString "abcd") (some ((f:Nat):Int)) (some (((f:Nat):Int)+((z:Nat):Int)))=nmS (List.range' f z):=by
   simp only[List.mem_cons,Prod.mk.injEq,List.not_mem_nil,or_false] at hfz
   rcases hfz with ⟨rfl,rfl⟩ | ⟨rfl,rfl⟩ | ⟨rfl,rfl⟩ | ⟨rfl,rfl⟩ | ⟨rfl,rfl⟩ | ⟨rfl,rfl⟩ | ⟨rfl,rfl⟩<;>decide +kernel
  have fz:0<z/\f+z<=4/\(z=3->f=0\/f=1):=by
   simp only[List.mem_cons,Prod.mk.injEq,List.not_mem_nil,or_false] at hfz
   omega
  refine⟨_,rfl,_,rfl,_,rfl,_,rfl,_,_,rfl,rfl,_,rfl,_,rfl,by show(Str.ofString "abcd").length<=sizeLine; decide,?_⟩
  rw[sl]
  have nd:(List.range' f z).Nodup:=List.nodup_range'
  have l4:∀i∈List.range' f z,i<4:=fun i hi=>by have:=List.mem_range'_1.mp hi; omega
  have ne:List.range' f z≠[]:=fun e=>by have:=congrArg List.length e; rw[List.length_range'] at this; have:z=0:=this; omega
  have go:u _ [some (.int c),some (.int (f:Nat)),some (.int (z:Nat)),some (.str (nmS (List.range' f z))),f4,f5,f6] H':=hu _ _ ⟨g,List.range' f z,_,_,_,_,_,nd,l4,ne,by rw[List.length_range']; omega,rfl⟩
  refine⟨_,rfl,rfl,_,rfl,yp (fun c3=>?_) (fun _=>vN go)⟩
  have z3:z=3:=by
   have:=of_decide_eq_true c3
   injection this
   omega
  subst z3
  refine⟨_,rfl,c,14,3,rfl,by decide,by decide,by decide,fun r4 _ _=>⟨rfl,_,rfl,yp (fun _=>?_) (fun _=>go)⟩⟩
  have e3:List.range' f 3=[f,f+1,f+2]:=rfl
  rw[e3]
  refine⟨_,rfl,_,_,_,rfl,rfl,by rw[Qk]; show 3<=sizeLine; decide,zc5 (k:=0) rfl,_,rfl,_,_,_,rfl,rfl,by rw[Qk]; show 3<=sizeLine; decide,zc5 (k:=2) rfl,_,_,rfl,rfl,by show 2<=sizeLine; decide,?_⟩
  refine hu _ _ ⟨g,[f,f+2],some (.int (f:Nat)),some (.int (3:Nat)),f4,f5,f6,?_,?_,List.cons_ne_nil _ _,by show 2<=4; decide,?_⟩
  ·rw[List.nodup_cons]; exact⟨fun h=>by have:=List.mem_singleton.mp h; omega,by rw[List.nodup_cons]; exact⟨List.not_mem_nil,List.nodup_nil⟩⟩
  ·intro i hi
   rcases List.mem_cons.mp hi with z | z
   ·omega
   ·have:=List.mem_singleton.mp z; omega
  ·have f01:=fz.2.2 rfl
   rcases f01 with rfl | rfl<;>rfl
 refine⟨_,(zj (zH (i:=4) xK.nd rfl (Or.inl rfl) (xV zc))
   (zj (wO PassesOwn.never rfl (Rh rfl T.n_range (za (zU zcF rfl T.n_len yH (za (pv 3) zc)) zc)) (yD (i:=5) xK.nd rfl (Or.inl rfl)) (zj (zH (i:=6) xK.nd rfl (Or.inl rfl) (zX NZ xZ (wI PySem.F.plainAttrs_str PySem.F.slot_str_index PySem.F.type_str_index zf4 xZ (za (zX NZ (pv 3) (pv 5) (fun _ _=>rfl)) zc)) (fun _ _=>rfl)))
   (zj (yt (wI PySem.F.plainAttrs_list PySem.F.slot_list_insert PySem.F.type_list_insert Mf (pv 4) (za (zM vR (zu yX hr rfl T.m_x_law_draw T.yW.2 T.b_x_law_draw .nil zy (za (pv 0) (za (zM wk zp (zM TY zp (pv 5))) (za zp zc)))) (zM wk (zU zQ rfl T.n_len yH (za (pv 4) zc)) zp)) (za (zX NZ (pv 3) (pv 5) (fun _ _=>rfl)) zc))))
   (zx (yt (wI PySem.F.plainAttrs_list PySem.F.slot_list_insert PySem.F.type_list_insert Mf (pv 4) (za (zM vR (zu yX hr rfl T.m_x_law_draw T.yW.2 T.b_x_law_draw .nil zy (za (pv 0) (za (zM wk zp (zM TY zp (pv 5))) (za zp zc)))) (zM wk (zU zQ rfl T.n_len yH (za (pv 4) zc)) zp)) (za (pv 6) zc))))))))
   (zx (zK (pv 4))))),?_⟩
 rintro σ H' ⟨g0,is,v1,v2,f4,f5,f6,nd,l4,ne,len,rfl⟩
 refine⟨by show 0<=sizeLine; decide,fun l hl=>?_⟩
 have fl:H l=none:=g0.free hl
 refine⟨_,rfl,_,rfl,by rw[Qk]; exact Nat.le_of_lt (yC (by omega)),_,rfl,?_⟩
 rw[Qk]
 refine⟨by omega,by omega,?_⟩
 rw[Int.toNat_natCast]
 refine Vz (fun i σ H'=>Same H H'/\∃(os:List Str) (f5 f6:Option V),H' l=some (.lst (os.map V.str))/\Mks (is.take i) os/\os.length=2*i/\σ=[some (.int c),v1,v2,some (.str (nmS is)),some (.ref l),f5,f6]) ⟨g0.trans (Same.new hl _),[],_,_,zq,⟨List.nodup_nil,fun x=>⟨(fun h=>by cases h),(fun⟨i,h,_⟩=>by cases h)⟩⟩,rfl,rfl⟩ ?_ ?_
 ·rintro i σ H' hi ⟨g,os,f5,f6,hl',mk,lo,rfl⟩
  obtain⟨j,hj⟩:∃j,is[i]?=some j:=⟨_,List.getElem?_eq_getElem hi⟩
  have j4:=l4 j (List.mem_of_getElem? hj)
  obtain⟨rest,hx⟩:=zfa j4
  have t4:∀i'∈is.take i,i'<4:=fun i' h=>l4 i' (List.mem_of_mem_take h)
  have jn:j∉is.take i:=fun h=>by
   have e:=nd
   rw[<-List.take_append_drop i is] at e
   have z:=(List.nodup_append.mp e).2.2 j h j (by
    rw[List.drop_eq_getElem_cons hi]
    have:is[i]=j:=(List.getElem?_eq_some_iff.mp hj).2
    rw[this]; exact List.mem_cons_self)
   exact z rfl
  have e2:(0:Int)+(i:Nat)=((i:Nat):Int):=by omega
  have nam:atI (nmS is).cps.toList ((i:Nat):Int)=some (97+j):=zc5 hj
  have nml:(nmS is).length<=sizeLine:=by rw[Qk]; exact Nat.le_of_lt (yC (by omega))
  refine⟨rfl,_,rfl,_,rfl,_,_,_,rfl,congrArg V.int e2,nml,nam,_,_,j,rest,rfl,rfl,hx,_,_,_,rfl,rfl,by show(Str.ofString "efgh").length<=sizeLine; decide,zh3 j4,?_⟩
  have k1:yq j∉os:=fun h=>jn ((mk.has t4 j4).1.mp h)
  have k2:wj j∉os:=fun h=>jn ((mk.has t4 j4).2.mp h)
  have lmap:(os.map V.str).length=os.length:=List.length_map _
  refine⟨_,rfl,.inl ⟨rfl,_,SqL.of hl'⟩,?_⟩
  refine⟨_,rfl,_,rfl,2,_,rfl,rfl,.inl ⟨by decide,by decide⟩,2,_,rfl,rfl,c,2+2*i,5040,?_,by omega,by decide,by decide,fun r1 a0 a1=>?_⟩
  ·show [V.int c,V.int (2+2*(0+(i:Int))),V.int 5040]=[V.int c,V.int ((2+2*i:Nat):Int),V.int 5040]
   rw[show(2+2*(0+(i:Int)))=((2+2*i:Nat):Int) by omega]
  refine⟨_,rfl,l,_,rfl,.inl (SqL.of hl'),_,1,rfl,rfl,r1,_,rfl,rfl,by show(0:Int)<((os.map V.str).length:Int)+1; omega,?_⟩
  refine⟨_,rfl,_,rfl,_,_,_,rfl,congrArg V.int e2,nml,nam,?_⟩
  have m0:0<=r1%(((os.map V.str).length:Int)+1):=Int.emod_nonneg _ (by omega)
  have m1:r1%(((os.map V.str).length:Int)+1)<((os.map V.str).length:Int)+1:=Int.emod_lt_of_pos _ (by omega)
  generalize hj1:r1%(((os.map V.str).length:Int)+1)=j1 at m0 m1
  refine⟨l,os.map V.str,j1,_,rfl,by rw[<-hj1],hl',m0,by omega,by rw[lmap]; exact yC (by omega),?_⟩
  have G1:Same H (upd H' l (.lst ((os.map V.str).take j1.toNat++V.str (⟨#[97+j]⟩:Str)::(os.map V.str).drop j1.toNat))):=g.over fl _
  have E1:upd H' l (.lst ((os.map V.str).take j1.toNat++V.str (⟨#[97+j]⟩:Str)::(os.map V.str).drop j1.toNat)) l=some (.lst ((os.take j1.toNat++yq j::os.drop j1.toNat).map V.str)):=by
   rw[zq]; simp; rfl
  have n1:(os.take j1.toNat++yq j::os.drop j1.toNat).Nodup:=zbz mk.1 k1
  have l1:(os.take j1.toNat++yq j::os.drop j1.toNat).length=os.length+1:=zen
  have x1:∀x,x∈os.take j1.toNat++yq j::os.drop j1.toNat↔x=yq j\/x∈os:=fun x=>mem_mid
  generalize upd H' l (.lst ((os.map V.str).take j1.toNat++V.str (⟨#[97+j]⟩:Str)::(os.map V.str).drop j1.toNat))=H1 at G1 E1
  generalize os.take j1.toNat++yq j::os.drop j1.toNat=o1 at E1 n1 l1 x1
  have lm1:(o1.map V.str).length=o1.length:=List.length_map _
  refine⟨_,rfl,.inl ⟨rfl,_,SqL.of E1⟩,?_⟩
  refine⟨_,rfl,_,rfl,2,_,rfl,rfl,.inl ⟨by decide,by decide⟩,3,_,rfl,rfl,c,3+2*i,5040,?_,by omega,by decide,by decide,fun r2 b0 b1=>?_⟩
  ·show [V.int c,V.int (3+2*(0+(i:Int))),V.int 5040]=[V.int c,V.int ((3+2*i:Nat):Int),V.int 5040]
   rw[show(3+2*(0+(i:Int)))=((3+2*i:Nat):Int) by omega]
  refine⟨_,rfl,l,_,rfl,.inl (SqL.of E1),_,1,rfl,rfl,r2,_,rfl,rfl,by show(0:Int)<((o1.map V.str).length:Int)+1; omega,_,rfl,?_⟩
  have m2:0<=r2%(((o1.map V.str).length:Int)+1):=Int.emod_nonneg _ (by omega)
  have m3:r2%(((o1.map V.str).length:Int)+1)<((o1.map V.str).length:Int)+1:=Int.emod_lt_of_pos _ (by omega)
  generalize hj2:r2%(((o1.map V.str).length:Int)+1)=j2 at m2 m3
  refine⟨l,o1.map V.str,j2,_,rfl,by rw[<-hj2],E1,m2,by omega,by rw[lm1]; exact yC (by omega),?_⟩
  refine⟨G1.over fl _,o1.take j2.toNat++wj j::o1.drop j2.toNat,_,_,?_,⟨?_,fun x=>?_⟩,?_,rfl⟩
  ·rw[zq]; simp; rfl
  ·exact zbz n1 fun h=>((x1 _).mp h).elim (fun e=>Wo j4 e.symm) k2
  ·rw[mem_mid,x1,mk.2,xO hj]
   constructor
   ·rintro (e | e | ⟨i',hi',e⟩)
    ·exact⟨j,List.mem_append_right _ (List.mem_singleton.mpr rfl),.inr e⟩
    ·exact⟨j,List.mem_append_right _ (List.mem_singleton.mpr rfl),.inl e⟩
    ·exact⟨i',List.mem_append_left _ hi',e⟩
   ·rintro⟨i',hi',e⟩
    rcases List.mem_append.mp hi' with z | z
    ·exact .inr (.inr ⟨i',z,e⟩)
    ·rw[List.mem_singleton.mp z] at e
     rcases e with e | e
     ·exact .inr (.inl e)
     ·exact .inl e
  ·rw[zen,l1]; omega
 ·rintro σ H' ⟨g,os,f5,f6,hl',mk,lo,rfl⟩
  rw[List.take_length] at mk
  obtain⟨w1,w2,w3⟩:=mk.world l4 ne
  exact⟨_,rfl,q l H' os g hl' w1 w2 w3⟩
end
end K92
namespace K92
open PySem L2 Sen
section
variable {P:Program} {w:World} {K:PySem.W.Frag} {mg:Str->Option Value} {base:Heap} {a:Ad} {k:Nat}
theorem zaq (T:Txt P w K mg a) (vG:zm P w K mg base CX0 k a.ZX a.Z0 ["table", "place", "value", "marks"] Sq):zm P w K mg base CX0 (k+1) a.Yc a.Yd ["table", "places", "marks"] (Px K):=by
 refine T.WM.ok vK (fun vs H Q E h=>?_) (fun cdv A outer s H vs Q E hr h=>?_)
 ·obtain⟨N,n,f,pl,ps,rfl,_⟩:=h
  rfl
 obtain⟨N,n,f,pl,ps,rfl,hn,tb,hpl,hps,h1000,q⟩:=h
 refine⟨_,(zj (zH (i:=3) vK.nd rfl (Or.inl rfl) (xV zc))
   (zj (wO PassesOwn.never rfl (wg (pv 1)) (yD (i:=4) vK.nd rfl (Or.inl rfl)) (zj (zH (i:=5) vK.nd rfl (Or.inl rfl) (zu vG hr rfl T.m_held_at T.Ze.2 T.b_held_at .nil zy (za (pv 0) (za (pv 4) (za zp (za (pv 2) zc))))))
   (zj (zH (i:=6) vK.nd rfl (Or.inl rfl) (K5 (zV Vm (pv 5) zp (zW _)) zp zp))
   (zj (zH (i:=0) vK.nd rfl (Or.inl rfl) (zu vG hr rfl T.m_held_at T.Ze.2 T.b_held_at .nil zy (za (pv 0) (za (pv 4) (za (pv 6) (za (pv 2) zc))))))
   (zx (yt (wI PySem.F.plainAttrs_list PySem.F.slot_list_append PySem.F.type_list_append wK (pv 3) (za (pv 6) zc))))))))
   (zx (zK (pv 3))))),?_⟩
 refine⟨by show 0<=sizeLine; decide,fun l hl=>?_⟩
 have g0:=Same.new hl (.lst [])
 refine⟨_,rfl,pl,rfl,⟨_,g0.seq hpl⟩,?_⟩
 refine tD (xs:=ps.map fun p=>V.int (p:Nat)) (fun i σ H'=>∃(M:Nat) (g:Nat->Bool) (r:List Bool) (f4 f5 f6:Option V),Same H H'/\H' l=some (.lst (Xc r))/\zL n M g/\r.length=i/\Bdd.fvP n f ps=r++Bdd.fvP n g (ps.drop i)/\σ=[some (.int M),some (.ref pl),some (.int n),some (.ref l),f4,f5,f6])
  ⟨N,f,[],_,_,_,g0,zq,tb,rfl,rfl,rfl⟩ ?_ ?_ ?_
 ·rintro i σ H' _ ⟨M,g,r,f4,f5,f6,gg,_⟩
  exact gg.seq hpl
 ·rintro i x σ H' hx ⟨M,g,r,f4,f5,f6,gg,hL,tg,hr',e,rfl⟩
  rw[List.getElem?_map] at hx
  cases hp:ps[i]? with
  | none=>rw[hp] at hx; cases hx
  | some p =>
   rw[hp] at hx
   cases hx
   have hpn:=hps p (List.mem_of_getElem? hp)
   obtain⟨lt,e'⟩:=List.getElem?_eq_some_iff.mp hp
   rw[List.drop_eq_getElem_cons lt,e'] at e
   refine⟨_,rfl,_,rfl,_,rfl,M,p,n,false,g,rfl,hpn,hn,tg,fun R tr=>?_⟩
   have tz:=Bdd.QX tr
   refine⟨_,rfl,rfl,_,rfl,?_⟩
   have ee:(!decide (V.int (R:Nat)=V.int 0))=Bdd.anyB n fun b=>g (zE b p false):=by
    cases hz:Bdd.anyB n fun b=>g (zE b p false) with
    | true =>
     rw[hz] at tz
     rw[decide_eq_false fun z=>by injection z with z; exact absurd (decide_eq_true (show R=0 by omega)) (by rw[tz]; exact Bool.false_ne_true)]
     rfl
    | false =>
     rw[hz] at tz
     have z:R=0:=of_decide_eq_true tz
     subst z
     rfl
   rw[ee]
   cases hz:Bdd.anyB n fun b=>g (zE b p false) with
   | true =>
    refine yp (fun _=>?_) (fun c=>absurd rfl c)
    refine⟨_,rfl,_,rfl,_,rfl,_,rfl,M,p,n,false,g,rfl,hpn,hn,tg,fun R2 t2=>?_⟩
    refine⟨_,rfl,.inl ⟨rfl,_,SqL.of hL⟩,_,rfl,l,_,_,rfl,rfl,hL,?_,?_⟩
    ·unfold Xc; rw[List.length_map,hr']; exact yC (by omega)
    ·refine⟨R2,_,r++[false],_,_,_,gg.over hl _,by rw[zq]; unfold Xc; rw[List.map_append]; rfl,t2,by rw[List.length_append,hr']; rfl,?_,rfl⟩
     rw[e,List.append_assoc]
     show r++(_::_)=r++([false]++_)
     rw[hz]
     rfl
   | false =>
    refine yp (fun c=>absurd c Bool.false_ne_true) (fun _=>?_)
    refine⟨_,rfl,_,rfl,_,rfl,_,rfl,M,p,n,true,g,rfl,hpn,hn,tg,fun R2 t2=>?_⟩
    refine⟨_,rfl,.inl ⟨rfl,_,SqL.of hL⟩,_,rfl,l,_,_,rfl,rfl,hL,?_,?_⟩
    ·unfold Xc; rw[List.length_map,hr']; exact yC (by omega)
    ·refine⟨R2,_,r++[true],_,_,_,gg.over hl _,by rw[zq]; unfold Xc; rw[List.map_append]; rfl,t2,by rw[List.length_append,hr']; rfl,?_,rfl⟩
     rw[e,List.append_assoc]
     show r++(_::_)=r++([true]++_)
     rw[hz]
     rfl
 ·rintro σ H' ⟨M,g,r,f4,f5,f6,gg,hL,tg,hr',e,rfl⟩
  rw[List.length_map,List.drop_length] at e
  have e1:Bdd.fvP n f ps=r:=by rw[e]; exact List.append_nil _
  refine⟨_,rfl,q l H' gg hl ?_⟩
  rw[e1]
  exact hL
theorem za3 (T:Txt P w K mg a) (wM:zm P w K mg base CX0 k a.uM a.uN ["marks"] Xn) (xH:zm P w K mg base CX0 k a.wF a.wG ["place", "marks"] vW) (Vx:zm P w K mg base CX0 k a.Z1 a.Z2 ["table", "other"] VH):zm P w K mg base CX0 (k+1) a.YJ a.YK ["places", "values", "marks"] (MF K):=by
 refine T.V4.ok v7 (fun vs H Q E h=>?_) (fun cdv A outer s H vs Q E hr h=>?_)
 ·obtain⟨pl,rl,n,ps,r,rfl,_⟩:=h
  rfl
 obtain⟨pl,rl,n,ps,r,rfl,n8,hl,hm,hp,el,l8,q⟩:=h
 refine⟨_,(zj (zH (i:=3) v7.nd rfl (Or.inl rfl) (zu wM hr rfl T.m_all_rows T.uV.2 T.b_all_rows .nil zy (za (pv 2) zc)))
   (zj (wO PassesOwn.never rfl (zfY rfl T.n_zip (za (pv 0) (za (pv 1) zc))) (TJ rfl (wN (yD (i:=4) v7.nd rfl (Or.inl rfl)) (wN (yD (i:=5) v7.nd rfl (Or.inl rfl)) WX))) (zj (zH (i:=6) v7.nd rfl (Or.inl rfl) (zu xH hr rfl T.m_rows_with T.vY.2 T.b_rows_with .nil zy (za (pv 4) (za (pv 2) zc))))
   (zx (zH (i:=3) v7.nd rfl (Or.inl rfl) (K5 (zV wz (pv 5) zp (zW _)) (zM vM (pv 3) (pv 6)) (zu Vx hr rfl T.m_without T.Vw.2 T.b_without .nil zy (za (pv 3) (za (pv 6) zc))))))))
   (zx (zK (pv 3))))),?_⟩
 refine⟨_,rfl,n,rfl,n8,?_⟩
 refine⟨_,rfl,_,rfl,pl,rl,zN ps,Xc r,rfl,hl,hm,?_⟩
 have e1:(zN ps).length=ps.length:=List.length_map _
 have e2:(Xc r).length=r.length:=List.length_map _
 refine zek (xs:=zN ps) (ys:=Xc r) (by omega) (fun i σ H'=>Same H H'/\∃(M:Nat) (f4 f5 f6:Option V),zL n M (hav ((ps.zip r).take i))/\σ=[some (.ref pl),some (.ref rl),some (.int (n:Nat)),some (.int (M:Nat)),f4,f5,f6]) ⟨Same.refl _,_,_,_,_,R9 n,rfl⟩ ?_ ?_ ?_
 ·rintro i σ H' _ ⟨g,_⟩
  exact⟨g.seq hl,g.seq hm⟩
 ·rintro i x y σ H' t hx hy ⟨g,M,f4,f5,f6,tm,rfl⟩ ht
  unfold zN at hx
  unfold Xc at hy
  rw[List.getElem?_map] at hx hy
  cases hj:ps[i]? with
  | none=>rw[hj] at hx; cases hx
  | some p =>
   rw[hj] at hx
   cases hx
   cases hk:r[i]? with
   | none=>rw[hk] at hy; cases hy
   | some v =>
    rw[hk] at hy
    cases hy
    have hz:(ps.zip r)[i]?=some (p,v):=List.getElem?_zip_eq_some.mpr ⟨hj,hk⟩
    have pn:=hp p (List.mem_of_getElem? hj)
    have nx:hav ((ps.zip r).take (i+1))=fun b=>hav ((ps.zip r).take i) b&&(b.testBit p==v):=funext fun b=>by
     rw[xO hz]
     unfold hav
     rw[List.all_append]
     simp
    refine⟨t,_,rfl,SqT.of zq,rfl,_,_,rfl,_,_,rfl,rfl,?_⟩
    refine⟨_,rfl,_,rfl,p,n,rfl,pn,n8,fun W tw=>?_⟩
    refine⟨_,rfl,rfl,_,rfl,?_⟩
    cases v with
    | true =>
     refine Xb ⟨_,rfl,_,rfl,M,W,rfl,rfl,g.trans (Same.new ht _),_,_,_,_,?_,rfl⟩
     rw[nx]
     have e:(fun b=>hav ((ps.zip r).take i) b&&(b.testBit p==true))=fun b=>hav ((ps.zip r).take i) b&&b.testBit p:=funext fun b=>by simp
     rw[e]
     exact UG tm tw
    | false =>
     refine vN ⟨_,rfl,_,rfl,M,W,n,_,_,rfl,tm,tw,fun R tr=>⟨g.trans (Same.new ht _),R,_,_,_,?_,rfl⟩⟩
     rw[nx]
     have e:(fun b=>hav ((ps.zip r).take i) b&&(b.testBit p==false))=fun b=>hav ((ps.zip r).take i) b&&!b.testBit p:=funext fun b=>by cases b.testBit p<;>rfl
     rw[e]
     exact tr
 ·rintro σ H' ⟨g,M,f4,f5,f6,tm,rfl⟩
  have el:(ps.zip r).length=(zN ps).length:=by rw[List.length_zip,e1]; omega
  rw[<-el,List.take_length] at tm
  exact⟨_,rfl,q M H' g tm⟩
theorem zar (T:Txt P w K mg a) (zaA:zm P w K mg base CX0 k a.Yc a.Yd ["table", "places", "marks"] (Px K)) (vH:zm P w K mg base CX0 k a.uo a.ur ["book"] (YH a.zf)) (yg:zm P w K mg base CX0 k a.yO a.yP ["self"] (xJ (zR a.zf))):zm P w K mg base CX0 (k+1) a.Yh a.Yi ["book", "table"] (zaj a.zf):=by
 refine T.Yk.ok Jx (fun vs H Q E h=>?_) (fun cdv A outer s H vs Q E hr h=>?_)
 ·obtain⟨b,os,rs,F,N,f,rfl,_⟩:=h
  rfl
 obtain⟨b,os,rs,F,N,f,rfl,hB,tf,q⟩:=h
 refine⟨_,(zx (zK (zu zaA hr rfl T.m_first_values T.WM.2 T.b_first_values .nil zy (za (pv 1) (za (zu vH hr rfl T.m_now_places T.uD.2 T.b_now_places .nil zy (za (pv 0) zc)) (za (zU zQ rfl T.n_len yH (za (vo (pv 0) T.c_Book T.e_Book_order yg hr T.b_Book_order .nil zy) zc)) zc)))))),?_⟩
 have L:=yx a.zf
 have o8:=(L.ord hB).le
 have lo5:(os.map V.str).length=os.length:=List.length_map _
 have l4:(zO os).length<=8:=by unfold zO; rw[List.length_map]; have:=W6 os; omega
 have hB0:=hB
 obtain⟨dx,ml,rl,tl,nd,rv,ts,kvs,h⟩:=hB
 refine⟨_,rfl,_,rfl,b,os,rs,F,rfl,hB0,fun l1 H1 g1 fl1 hl1=>?_⟩
 have hB1:=L.same hB0 g1
 refine⟨_,rfl,b,dx,_,rfl,g1 _ _ h.hb,rfl,b,os,rs,F,rfl,hB1,fun l2 H2 g2 fl2 hl2=>?_⟩
 refine⟨l2,_,rfl,.inl (SqL.of hl2),?_⟩
 rw[lo5]
 refine⟨N,os.length,f,l1,zO os,rfl,o8,tf,SqL.of (g2 _ _ hl1),vq,by omega,fun l H' g3 fl hl=>?_⟩
 exact q l H' (g1.trans (g2.trans g3)) (g1.free (g2.free fl)) hl
theorem zid (T:Txt P w K mg a) (zbR:zm P w K mg base CX0 k a.YJ a.YK ["places", "values", "marks"] (MF K)) (vH:zm P w K mg base CX0 k a.uo a.ur ["book"] (YH a.zf)) (yg:zm P w K mg base CX0 k a.yO a.yP ["self"] (xJ (zR a.zf))):zm P w K mg base CX0 (k+1) a.Nj a.Nk ["book", "row"] (zdf a.zf K):=by
 refine T.JC.ok zhm (fun vs H Q E h=>?_) (fun cdv A outer s H vs Q E hr h=>?_)
 ·obtain⟨b,rl,os,rs,F,r,rfl,_⟩:=h
  rfl
 obtain⟨b,rl,os,rs,F,r,rfl,hB,hr',lr,q⟩:=h
 refine⟨_,(zx (zK (zu zbR hr rfl T.m_rows_having T.V4.2 T.b_rows_having .nil zy (za (zu vH hr rfl T.m_now_places T.uD.2 T.b_now_places .nil zy (za (pv 0) zc)) (za (pv 1) (za (zU zQ rfl T.n_len yH (za (vo (pv 0) T.c_Book T.e_Book_order yg hr T.b_Book_order .nil zy) zc)) zc)))))),?_⟩
 have L:=yx a.zf
 have o8:=(L.ord hB).le
 have lo5:(os.map V.str).length=os.length:=List.length_map _
 have l4:(zO os).length<=8:=by unfold zO; rw[List.length_map]; have:=W6 os; omega
 have hB0:=hB
 obtain⟨dx,ml,rl',tl,nd,rv,ts,kvs,h⟩:=hB
 refine⟨_,rfl,b,os,rs,F,rfl,hB0,fun l1 H1 g1 fl1 hl1=>?_⟩
 have hB1:=L.same hB0 g1
 refine⟨_,rfl,_,rfl,b,dx,_,rfl,g1 _ _ h.hb,rfl,b,os,rs,F,rfl,hB1,fun l2 H2 g2 fl2 hl2=>?_⟩
 refine⟨l2,_,rfl,.inl (SqL.of hl2),?_⟩
 rw[lo5]
 refine⟨l1,rl,os.length,zO os,r,rfl,o8,SqL.of (g2 _ _ hl1),(g1.trans g2).seq hr',vq,lr,l4,fun R H' g3 tr=>?_⟩
 exact q R H' (g1.trans (g2.trans g3)) tr
end
end K92
namespace K92
open PySem L2 Sen
section
variable {P:Program} {w:World} {K:PySem.W.Frag} {mg:Str->Option Value} {base:Heap} {a:Ad} {k:Nat}
theorem za4 (T:Txt P w K mg a) (R4:zm P w K mg base CX0 k a.Yh a.Yi ["book", "table"] (zaj a.zf)) (WW:zm P w K mg base CX0 k a.WK a.WL ["book", "steps", "table"] (Ph a.zf)) (zco:zm P w K mg base CX0 k a.Nj a.Nk ["book", "row"] (zdf a.zf K)):zm P w K mg base CX0 (k+1) a.YT a.YW ["book", "steps", "ahead", "met"] (MJ a.zf K):=by
 refine T.V7.ok WD (fun vs H Q E h=>?_) (fun cdv A outer s H vs Q E hr h=>?_)
 ·obtain⟨b,al,os,rs,F,k0,N,Ns,f,fs,rfl,_⟩:=h
  rfl
 obtain⟨b,al,os,rs,F,k0,N,Ns,f,fs,rfl,hB,hW,hk,hal,ln,pf,tf,q⟩:=h
 refine⟨_,(zj (zH (i:=4) WD.nd rfl (Or.inl rfl) (xV (za (zu R4 hr rfl T.m_first_of_now T.Yk.2 T.b_first_of_now .nil zy (za (pv 0) (za (pv 3) zc))) zc)))
   (zj (wO PassesOwn.never rfl (ziS rfl T.n_reversed (za (pv 2) zc)) (yD (i:=5) WD.nd rfl (Or.inl rfl)) (zx (yt (wI PySem.F.plainAttrs_list PySem.F.slot_list_append PySem.F.type_list_append wK (pv 4) (za (zu R4 hr rfl T.m_first_of_now T.Yk.2 T.b_first_of_now .nil zy (za (pv 0) (za (zM vM (pv 5) (zu WW hr rfl T.m_before T.WR.2 T.b_before .nil zy (za (pv 0) (za (pv 1) (za (zu zco hr rfl T.m_only T.JC.2 T.b_only .nil zy (za (pv 0) (za (zX yr (pv 4) (zca JM zp) (fun _ _=>rfl)) zc))) zc))))) zc))) zc)))))
   (zx (zK (zfd rfl rfl T.n_list rfl T.n_reversed (za (pv 4) zc)))))),?_⟩
 have L:=yx a.zf
 have lf:=wu pf
 refine⟨_,rfl,_,rfl,b,os,rs,F,N,f,rfl,hB,tf,fun l0 H1 g1 fl0 hl0=>⟨by show 1<=sizeLine; decide,fun rl hrl=>?_⟩⟩
 have j1:=Same.new hrl (.lst [V.ref l0])
 have e1:upd H1 rl (.lst [V.ref l0]) rl=some (.lst (([]++[l0]).map V.ref)):=zq
 have hl0':=j1 _ _ hl0
 have fr:=g1.free hrl
 have ne0:l0≠rl:=fun e=>by rw[e,hrl] at hl0; cases hl0
 generalize upd H1 rl (.lst [V.ref l0])=H2 at j1 e1 hl0'
 have g2:=g1.trans j1
 refine⟨_,rfl,al,zN Ns,rfl,g2.seq hal,?_⟩
 refine zh7 (xs:=zN Ns) (fun i σ H'=>∃(q0:List Addr) (p:Addr) (w0:List (List Bool)) (r:List Bool) (f5:Option V),Same H H'/\H' rl=some (.lst ((q0++[p]).map V.ref))/\q0.length=i/\Paired (SM H') q0 w0/\SM H' p r/\(zO os).length=r.length/\Ys os (tB rs k0) fs.reverse (Bdd.fvP os.length f (zO os))=w0++Ys os (tB rs k0) (fs.reverse.drop i) r/\σ=[some (.ref b),some (.int (k0:Nat)),some (.ref al),some (.int (N:Nat)),some (.ref rl),f5])
  ⟨[],l0,[],_,_,g2,e1,rfl,.nil,hl0',(Qm _ _ _).symm,rfl,rfl⟩ ?_ ?_ ?_
 ·rintro i σ H' _ ⟨q0,p,w0,r,f5,g,_⟩
  exact g.seq hal
 ·rintro i x σ H' hi hx ⟨q0,p,w0,r,f5,g,hr',lq,pq,pr,lr,ew,rfl⟩
  rw[wR] at hi hx
  obtain⟨M,hM,rfl⟩:=Sy hx
  obtain⟨fm,hfm,tm⟩:=Q5 pf hM
  have hfr:fs.reverse[i]?=some fm:=by
   rw[List.getElem?_reverse (by omega),<-lf]
   exact hfm
  obtain⟨lt,efm⟩:=List.getElem?_eq_some_iff.mp hfr
  have hB':=L.same hB g
  refine⟨_,rfl,.inl ⟨rfl,_,SqL.of hr'⟩,?_⟩
  refine⟨_,rfl,_,rfl,_,rfl,_,rfl,_,rfl,_,rfl,_,rfl,rl,_,-1,_,rfl,rfl,SqL.of hr',by rw[List.map_append]; exact zcC _ _,?_⟩
  refine⟨b,p,os,rs,F,r,rfl,hB',SqL.of pr,lr,fun R H3 g3 tR=>?_⟩
  have hB3:=L.same hB' g3
  refine⟨b,os,rs,F,k0,R,_,rfl,hB3,hk,hW,tR,fun R2 H4 g4 tR2=>⟨M,R2,rfl,rfl,?_⟩⟩
  have hB4:=L.same hB3 g4
  refine⟨b,os,rs,F,_,_,rfl,hB4,UG tm tR2,fun l5 H5 g5 fl5 hl5=>?_⟩
  have G5:=g3.trans (g4.trans g5)
  have hr5:=G5 _ _ hr'
  have lq2:(q0++[p]).length=i+1:=by rw[List.length_append,lq]; rfl
  refine⟨rl,_,_,rfl,rfl,hr5,by rw[List.length_map,lq2]; exact yC (by omega),?_⟩
  have gO:Same H (upd H5 rl (.lst ((q0++[p]).map V.ref++[V.ref l5]))):=(g.trans G5).over fr _
  have keep:∀{y:Addr} {c:List Bool},SM H' y c->y≠rl->SM (upd H5 rl (.lst ((q0++[p]).map V.ref++[V.ref l5]))) y c:=fun {y c} hy ny=>by
   unfold SM
   rw[zB ny]
   exact G5 _ _ hy
  have nrl:∀{y:Addr} {c:List Bool},SM H' y c->y≠rl:=fun {y c} hy e=>by
   unfold SM at hy
   rw[e,hr'] at hy
   injection hy with z
   injection z with z
   cases c with
   | nil=>rw[List.map_append] at z; cases hq:q0.map V.ref with
    | nil=>rw[hq] at z; cases z
    | cons _ _=>rw[hq] at z; cases z
   | cons v c =>
    cases q0 with
    | nil=>injection z with z1 z2; cases z1
    | cons _ _=>injection z with z1 z2; cases z1
  have n5:l5≠rl:=fun e=>by rw[e,(g3.trans g4) _ _ hr'] at fl5; cases fl5
  refine⟨q0++[p],l5,w0++[r],_,_,gO,by rw[zq,List.map_append (l₁:=q0++[p])]; rfl,lq2,YF (Yb (fun _ _ e=>keep e (nrl e)) pq) (.cons (keep pr (nrl pr)) .nil),by unfold SM; rw[zB n5]; exact hl5,(Qm _ _ _).symm,?_,rfl⟩
  rw[ew,List.drop_eq_getElem_cons lt,efm,List.append_assoc]
  rfl
 ·rintro σ H' ⟨q0,p,w0,r,f5,g,hr',lq,pq,pr,lr,ew,rfl⟩
  rw[wR] at ew
  rw[List.drop_eq_nil_of_le (by rw[List.length_reverse]; omega)] at ew
  refine⟨_,rfl,rl,_,rfl,SqL.of hr',fun l hl=>?_⟩
  have gN:=Same.new hl (.lst ((q0++[p]).map V.ref).reverse)
  refine q l _ (q0++[p]).reverse (g.trans gN) (g.free hl) (by rw[zq,List.map_reverse]) ?_
  rw[ew]
  exact zf9 (YF (Yb (fun _ _ e=>gN _ _ e) pq) (.cons (gN _ _ pr) .nil))
end
end K92
namespace K92
open PySem L2 Sen
section
variable {P:Program} {w:World} {K:PySem.W.Frag} {mg:Str->Option Value} {base:Heap} {a:Ad} {k:Nat}
theorem zgn (T:Txt P w K mg a) (yh:zm P w K mg base CX0 k a.yI a.yJ ["book", "steps", "rooms"] (uX a.zf K)) (tX:zm P w K mg base CX0 k a.uc a.ud ["book", "steps", "start"] (Y5 a.zf)) (zY:zm P w K mg base CX0 k a.yE a.yF ["self", "number"] (wW a.zf)) (zbS:zm P w K mg base CX0 k a.YT a.YW ["book", "steps", "ahead", "met"] (MJ a.zf K)):zm P w K mg base CX0 (k+1) a.QC a.QD ["book", "steps", "start", "goal"] (zeu a.zf):=by
 refine T.QK.ok SQ (fun vs H Q E h=>?_) (fun cdv A outer s H vs Q E hr h=>?_)
 ·obtain⟨b,os,rs,F,k0,i0,j0,rfl,_⟩:=h
  rfl
 obtain⟨b,os,rs,F,k0,i0,j0,rfl,hB,hW,hk,hI,hJ,q1,q2⟩:=h
 refine⟨_,(zj (yt (zu yh hr rfl T.m_must_be_world_with T.yR.2 T.b_must_be_world_with .nil zy (za (pv 0) (za (pv 1) (za (xV (za (pv 2) (za (pv 3) zc))) zc)))))
   (zj (zH (i:=4) SQ.nd rfl (Or.inl rfl) (xV zc))
   (zj (wO PassesOwn.never rfl (wg (zu tX hr rfl T.m_round_tables T.tW.2 T.b_round_tables .nil zy (za (pv 0) (za (pv 1) (za (pv 2) zc))))) (yD (i:=5) SQ.nd rfl (Or.inl rfl)) (zj (zH (i:=6) SQ.nd rfl (Or.inl rfl) (zM vM (pv 5) (yG (pv 0) T.c_Book T.e_Book_table_at zY hr T.b_Book_table_at .nil zy (za (pv 3) zc))))
   (zj (yS (zV Vm (pv 6) zp (zW _)) (zx (zK (zu zbS hr rfl T.m_way_through T.V7.2 T.b_way_through .nil zy (za (pv 0) (za (pv 1) (za (pv 4) (za (pv 6) zc))))))) yu)
   (zx (yt (wI PySem.F.plainAttrs_list PySem.F.slot_list_append PySem.F.type_list_append wK (pv 4) (za (pv 5) zc)))))))
   (zx (zK Tz))))),?_⟩
 have L:=yx a.zf
 refine⟨_,rfl,_,rfl,_,rfl,_,rfl,by show 2<=sizeLine; decide,fun l0 hl0=>?_⟩
 have g0:=Same.new hl0 (.lst [.int (i0:Nat),.int (j0:Nat)])
 refine⟨b,l0,os,rs,F,k0,[i0,j0],rfl,L.same hB g0,hW,hk,SqL.of zq,fun j' hj'=>?_,fun H1 g1=>?_⟩
 ·simp only[List.mem_cons,List.not_mem_nil,or_false] at hj'
  rcases hj' with e | e<;>subst e
  ·exact hI
  ·exact hJ
 have G1:=g0.trans g1
 generalize upd H l0 (.lst [.int (i0:Nat),.int (j0:Nat)])=Hx at g0 g1
 refine⟨by show 0<=sizeLine; decide,fun al hal=>?_⟩
 have g2:=Same.new hal (.lst [])
 have e2:upd H1 al (.lst []) al=some (.lst (zN [])):=zq
 have fal:=G1.free hal
 generalize upd H1 al (.lst [])=H2 at g2 e2
 have G2:=G1.trans g2
 refine⟨_,rfl,_,rfl,_,rfl,b,os,rs,F,k0,i0,rfl,L.same hB G2,hW,hk,hI.1,fun l H3 Ns g3 fl hl rn ln=>?_⟩
 have G3:=G2.trans g3
 have nl:l≠al:=fun e=>by rw[e,e2] at fl; cases fl
 have fll:=G2.free fl
 refine⟨l,rfl,⟨_,SqL.of hl⟩,?_⟩
 refine tD (xs:=zN Ns) (fun i σ H'=>∃(f5 f6:Option V),Same H H'/\H' l=some (.lst (zN Ns))/\H' al=some (.lst (zN (Ns.take i)))/\(∀m,m<i->∀c,c<2^os.length->(rnd os (tB rs k0) (tB rs i0) m).1 c=true->tB rs j0 c=false)/\σ=[some (.ref b),some (.int (k0:Nat)),some (.int (i0:Nat)),some (.int (j0:Nat)),some (.ref al),f5,f6])
  ⟨_,_,G3,hl,g3 _ _ e2,(fun m hm=>absurd hm (Nat.not_lt_zero _)),rfl⟩ ?_ ?_ ?_
 ·rintro i σ H' _ ⟨f5,f6,g,h1,_⟩
  exact SqL.of h1
 ·rintro i x σ H' hx ⟨f5,f6,g,h1,h2,no,rfl⟩
  obtain⟨N,hN,rfl⟩:=Sy hx
  have hi:=(List.getElem?_eq_some_iff.mp hN).1
  obtain⟨tN,_⟩:=rn.tab i N hN
  have hB':=L.same hB g
  obtain⟨dx,ml,rl,tl,nd,rv,ts,kvs,h⟩:=id hB'
  refine⟨_,rfl,_,rfl,b,dx,_,rfl,h.hb,rfl,_,rfl,b,os,rs,F,j0,rfl,hB',hJ.1,fun M tM=>⟨N,M,rfl,rfl,?_⟩⟩
  have tNM:=UG tN tM
  refine⟨_,rfl,rfl,_,rfl,?_⟩
  by_cases c0:N&&&M=0
  ·refine Qh (show V.int ((N&&&M:Nat):Int)=V.int 0 by rw[c0]; rfl) ?_
   refine⟨_,rfl,.inl ⟨rfl,_,SqL.of h2⟩,_,rfl,al,_,_,rfl,rfl,h2,by rw[wR,List.length_take]; exact yC (by omega),?_⟩
   refine⟨_,_,g.over fal _,by rw[zB nl]; exact h1,?_,fun m hm c hc e=>?_,rfl⟩
   ·rw[zq,xO hN]
    unfold zN
    rw[List.map_append]
    rfl
   ·rcases (by omega:m<i\/m=i) with z | z
    ·exact no m z c hc e
    ·subst z
     have y:=tNM c
     rw[c0,Nat.zero_testBit,decide_eq_true hc,Bool.true_and] at y
     have y2:((rnd os (tB rs k0) (tB rs i0) m).1 c&&tB rs j0 c)=false:=y.symm
     rw[e,Bool.true_and] at y2
     exact y2
  ·show if (!decide (V.int ((N&&&M:Nat):Int)=V.int 0))=true then _ else _
   rw[decide_eq_false (fun e=>c0 (by injection e; omega))]
   refine Xb ?_
   have pf:Paired (zL os.length) (Ns.take i) ((List.range i).map fun d=>(rnd os (tB rs k0) (tB rs i0) d).1):=by
    refine zf3 (by rw[List.length_take,List.length_map,List.length_range]; omega) fun j x y hx hy=>?_
    rw[List.getElem?_take] at hx
    split at hx
    ·rename_i lt
     rw[List.getElem?_map,List.getElem?_range lt] at hy
     cases hy
     exact(rn.tab j x hx).1
    ·cases hx
   refine⟨_,rfl,_,rfl,_,rfl,_,rfl,b,al,os,rs,F,k0,N&&&M,Ns.take i,_,_,rfl,hB',hW,hk,SqL.of h2,by rw[List.length_take]; omega,pf,tNM,fun l5 H5 qs g5 fl5 hl5 hp5=>?_⟩
   refine q2 l5 H5 qs Ns i (g.trans g5) (g.free fl5) hl5 rn hi ⟨?_,fun j hj c hc e=>no j hj c hc e⟩ hp5
   refine Classical.byContradiction fun nx=>c0 (Za fun c=>?_)
   rw[tNM c,Nat.zero_testBit]
   by_cases hc:c<2^os.length
   ·rw[decide_eq_true hc,Bool.true_and]
    dsimp only
    cases e:((rnd os (tB rs k0) (tB rs i0) i).1 c&&Bdd.yes rs j0 (Bdd.xg c)) with
    | false=>rfl
    | true=>exact absurd ⟨c,hc,((Bool.and_eq_true _ _).mp e).1,((Bool.and_eq_true _ _).mp e).2⟩ nx
   ·rw[decide_eq_false hc,Bool.false_and]
 ·rintro σ H' ⟨f5,f6,g,h1,h2,no,rfl⟩
  rw[wR] at no
  exact q1 H' Ns g rn no
end
end K92
namespace K92
open PySem L2 Sen
section
variable {P:Program} {w:World} {K:PySem.W.Frag} {mg:Str->Option Value} {base:Heap} {a:Ad} {k:Nat}
theorem zb6 (T:Txt P w K mg a) (xU:zm P w K mg base CX0 k a.xR a.xT ["script", "k"] (Lj K)) (Zk:zm P w K mg base CX0 k a.uy a.uz ["script", "at", "many", "order"] (QZ K)) (zbT:zm P w K mg base CX0 k a.YX a.YZ ["cell"] zeo):zm P w K mg base CX0 (k+1) a.X5 a.X6 ["script"] (zf7 K):=by
 refine T.Tr.ok V2 (fun vs H Q E h=>?_) (fun cdv A outer s H vs Q E hr h=>?_)
 ·obtain⟨sc,ns,rfl,_⟩:=h
  rfl
 obtain⟨sc,ns,rfl,hS,q⟩:=h
 refine⟨_,(zj (zH (i:=1) V2.nd rfl (Or.inl rfl) (zu zbT hr rfl T.m_x_law_world T.V8.2 T.b_x_law_world .nil zy (za (zu xU hr rfl T.m_x_law_cell_at T.xG.2 T.b_x_law_cell_at .nil zy (za (pv 0) (za zp zc))) zc)))
   (zj (zH (i:=2) V2.nd rfl (Or.inl rfl) (zu Zk hr rfl T.m_x_law_sentence T.uE.2 T.b_x_law_sentence .nil zy (za (pv 0) (za zp (za (zM wk zp (zM vR (zu xU hr rfl T.m_x_law_cell_at T.xG.2 T.b_x_law_cell_at .nil zy (za (pv 0) (za zp zc))) zp)) (za (pv 1) zc))))))
   (zx (zK (vV (za (pv 1) (za (pv 2) zc))))))),?_⟩
 refine⟨_,rfl,sc,ns,0,rfl,hS,wC ns 0,rfl,fun ol H1 os g1 hol ho hW hn=>?_⟩
 have o8:=ho.le
 have m0:0<=wC ns 1%6:=Int.emod_nonneg _ (by decide)
 have m1:wC ns 1%6<6:=Int.emod_lt_of_pos _ (by decide)
 have em:(2:Int)+wC ns 1%6=(((2+wC ns 1%6).toNat:Nat):Int):=by omega
 have hS1:=g1.seq hS
 refine⟨_,rfl,_,rfl,sc,ns,1,rfl,hS1,wC ns 1,6,rfl,rfl,(show(0:Int)<6 by decide),2,_,rfl,rfl,_,rfl,sc,ol,ns,2,(2+wC ns 1%6).toNat,os,?_,hS1,SqL.of hol,ho.pos,o8,by omega,by omega,by decide,fun p1 H2 s1 g2 is1 in1 d1=>?_⟩
 ·show [V.ref sc,V.int 2,V.int (2+wC ns 1%6),V.ref ol]=_
  rw[em]; rfl
 have c200:s1.count<=200:=by
  have h3:=Sn.count_depth s1
  have h4:2^s1.depth<=2^7:=Nat.pow_le_pow_right (by decide) (by omega)
  have h5:2^7=128:=rfl
  omega
 refine⟨_,rfl,_,rfl,by show 2<=sizeLine; decide,fun t ht=>?_⟩
 have g4:=Same.new ht (.tup [.ref ol,.ref p1])
 exact q t ol p1 _ os s1 (g1.trans (g2.trans g4)) zq (g4 _ _ (g2 _ _ hol)) ho hW hn (RT.mono ⟨is1,in1,c200,by omega⟩ (yw.of g4))
end
end K92
namespace K92
open PySem L2 Sen
section
variable {P:Program} {w:World} {K:PySem.W.Frag} {mg:Str->Option Value} {base:Heap} {a:Ad} {k:Nat}
theorem zb7 (T:Txt P w K mg a) (yh:zm P w K mg base CX0 k a.yI a.yJ ["book", "steps", "rooms"] (uX a.zf K)) (RK:zm P w K mg base CX0 k a.Yv a.Yw ["book"] (Pg a.zf)) (zbU:zm P w K mg base CX0 k a.YQ a.YS ["order", "row"] (zbj K)) (zco:zm P w K mg base CX0 k a.Nj a.Nk ["book", "row"] (zdf a.zf K)) (zY:zm P w K mg base CX0 k a.yE a.yF ["self", "number"] (wW a.zf)) (R3:zm P w K mg base CX0 k a.Uv a.Uw ["book", "steps", "table"] (Ln a.zf)) :
  zm P w K mg base CX0 (k+1) a.Ve a.Vf ["book", "steps", "start", "goal", "rows"] (Ky a.zf K):=by
 refine T.RD.ok Tc (fun vs H Q E h=>?_) (fun cdv A outer s H vs Q E hr h=>?_)
 ·obtain⟨b,rl,os,rs,F,k0,i0,j0,ps,rr,rfl,_⟩:=h
  rfl
 obtain⟨b,rl,os,rs,F,k0,i0,j0,ps,rr,rfl,hB,hW,hk,hI,hJ,hrl,hp,hlen,l300,first,last,step,q⟩:=h
 refine⟨_,(zj (yt (zu yh hr rfl T.m_must_be_world_with T.yR.2 T.b_must_be_world_with .nil zy (za (pv 0) (za (pv 1) (za (xV (za (pv 2) (za (pv 3) zc))) zc)))))
   (zj (wO PassesOwn.never rfl (wg (pv 4)) (yD (i:=5) Tc.nd rfl (Or.inl rfl)) (zx (yt (zu zbU hr rfl T.m_must_be_row T.V6.2 T.b_must_be_row .nil zy (za (zu RK hr rfl T.m_now_marks T.Vk.2 T.b_now_marks .nil zy (za (pv 0) zc)) (za (pv 5) zc))))))
   (zj (yS (zV wz (zU zQ rfl T.n_len yH (za (pv 4) zc)) zp (zW _)) (zx (zK Wd)) yu)
   (zj (zH (i:=6) Tc.nd rfl (Or.inr rfl) (Zz (osc:=zA uZ) (js:=[0]) rfl (by show tY (zA uZ) _ "row" ["book"]; exact⟨rfl,by decide +kernel,by decide +kernel,rfl,by decide +kernel,by decide +kernel,by decide +kernel⟩) rfl (wg (pv 4)) (by show ∀j∈([0]:List Nat),j<7; decide) (fun cl C s₂ H₂ fp=>(zu zco hr rfl T.m_only T.JC.2 T.b_only .nil zy (za (pv 1) (za (pv 0) zc))))))
   (zj (yS (PW.pt (Ur (zV wz (zM vM (zX yr (pv 6) zp (fun _ _=>rfl)) (yG (pv 0) T.c_Book T.e_Book_table_at zY hr T.b_Book_table_at .nil zy (za (pv 2) zc))) zp (zW _)) (Vy (zV wz (zM vM (zX yr (pv 6) (zca JM zp) (fun _ _=>rfl)) (yG (pv 0) T.c_Book T.e_Book_table_at zY hr T.b_Book_table_at .nil zy (za (pv 3) zc))) zp (zW _))))) (zx (zK Wd)) yu)
   (zx (zK (zU (W0 rfl) rfl T.n_all R7 (za (Zz (osc:=zA uZ) (js:=[0,1,6]) rfl (by show tY (zA uZ) _ "at" ["book", "steps", "tables"]; exact⟨rfl,by decide +kernel,by decide +kernel,rfl,by decide +kernel,by decide +kernel,by decide +kernel⟩) rfl (Rh rfl T.n_range (za (zM JL (zU zQ rfl T.n_len yH (za (pv 6) zc)) zp) zc)) (by show ∀j∈([0,1,6]:List Nat),j<7; decide) (fun cl C s₂ H₂ fp=>(uf Vm (zM vM (zu R3 hr rfl T.m_after T.RZ.2 T.b_after .nil zy (za (pv 1) (za (pv 2) (za (zX (T8 (K:=K) rfl) (pv 3) (pv 0) (fun _ _=>rfl)) zc)))) (zX (T8 (K:=K) rfl) (pv 3) (zM wk (pv 0) zp) (fun _ _=>rfl))) zp (zW _)))) zc))))))))),?_⟩
 have L:=yx a.zf
 have ho:=L.ord hB
 have n4:=W6 os
 have pl:=wu hp
 refine⟨_,rfl,_,rfl,_,rfl,_,rfl,by show 2<=sizeLine; decide,fun l0 hl0=>?_⟩
 have g0:=Same.new hl0 (.lst [.int (i0:Nat),.int (j0:Nat)])
 refine⟨b,l0,os,rs,F,k0,[i0,j0],rfl,L.same hB g0,hW,hk,SqL.of zq,fun j' hj'=>?_,fun H1 g1=>?_⟩
 ·simp only[List.mem_cons,List.not_mem_nil,or_false] at hj'
  rcases hj' with e | e<;>subst e
  ·exact hI
  ·exact hJ
 have G1:=g0.trans g1
 generalize upd H l0 (.lst [.int (i0:Nat),.int (j0:Nat)])=Hx at g0 g1
 have hrl1:=G1 _ _ hrl
 refine⟨_,rfl,rl,rfl,⟨_,SqL.of hrl1⟩,?_⟩
 refine tD (xs:=ps.map V.ref) (fun i σ H'=>Same H H'/\∃f5:Option V,σ=[some (.ref b),some (.int (k0:Nat)),some (.int (i0:Nat)),some (.int (j0:Nat)),some (.ref rl),f5,none]) ⟨G1,_,rfl⟩ (fun i σ H' _ ⟨g,_⟩=>SqL.of (g _ _ hrl)) ?_ ?_
 ·rintro i x σ H' hx ⟨g,f5,rfl⟩
  rw[List.getElem?_map] at hx
  cases hpp:ps[i]? with
  | none=>rw[hpp] at hx; cases hx
  | some p =>
   rw[hpp] at hx
   cases hx
   obtain⟨r,hr',hpr⟩:=Q5 hp hpp
   have rl':=hlen r (List.mem_of_getElem? hr')
   refine⟨_,rfl,b,os,rs,F,rfl,L.same hB g,fun nl H2 g2 _ hnl=>⟨_,rfl,nl,p,_,r.map (fun b=>((b.toNat:Nat):Int)),rfl,SqL.of hnl,by rw[<-zfR]; exact SqL.of ((g.trans g2) _ _ hpr),by rw[List.length_map]; omega,by rw[List.length_map]; exact ze5 r rl',fun H3 g3=>?_⟩⟩
   exact⟨g.trans (g2.trans g3),_,rfl⟩
 rintro σ H' ⟨g,f5,rfl⟩
 obtain⟨r0,hr0,m0⟩:=first
 obtain⟨r1,hr1,m1⟩:=last
 have rp:0<rr.length:=(List.getElem?_eq_some_iff.mp hr0).1
 have lpm:(ps.map V.ref).length=rr.length:=by rw[List.length_map]; exact pl
 have hrl':=g _ _ hrl
 refine⟨_,rfl,rl,_,rfl,.inl (SqL.of hrl'),rfl,_,rfl,?_⟩
 rw[lpm]
 refine yp (fun c=>absurd (of_decide_eq_true c) (fun e=>by injection e; omega)) (fun _=>?_)
 refine⟨_,rfl,rl,rfl,⟨_,SqL.of hrl'⟩,?_⟩
 refine zdn (xs:=ps.map V.ref) (fun i ys H2=>Same H H2/\∃Ns:List Nat,ys=zN Ns/\Paired (fun N r=>zL os.length N (hv os r)) Ns (rr.take i)) ⟨g,[],rfl,.nil⟩ (by rw[lpm]; exact Nat.le_of_lt (yC (by omega))) ?_ ?_ ?_
 ·rintro i ys H2 hi ⟨g2,Ns,rfl,pN⟩
  have:=wu pN
  rw[List.length_take] at this
  exact⟨SqL.of (g2 _ _ hrl),by unfold zN; rw[List.length_map]; omega⟩
 ·rintro i x ys H2 Q0 hx ⟨g2,Ns,rfl,pN⟩ hQ
  rw[List.getElem?_map] at hx
  cases hpp:ps[i]? with
  | none=>rw[hpp] at hx; cases hx
  | some p =>
   rw[hpp] at hx
   cases hx
   obtain⟨r,hr',hpr⟩:=Q5 hp hpp
   have rl':=hlen r (List.mem_of_getElem? hr')
   refine⟨_,rfl,_,rfl,b,p,os,rs,F,r,rfl,L.same hB g2,SqL.of (g2 _ _ hpr),by unfold zO; rw[List.length_map]; exact rl'.symm,fun R H3 g3 tR=>hQ _ _ ⟨g2.trans g3,Ns++[R],by unfold zN; rw[List.map_append]; rfl,?_⟩⟩
   rw[xO hr']
   exact YF pN (.cons tR .nil)
 ·rintro ys H2 tl ⟨g2,Ns,rfl,pN⟩ htl
  rw[lpm,List.take_length] at pN
  have g3:=Same.new htl (.lst (zN Ns))
  have e3:upd H2 tl (.lst (zN Ns)) tl=some (.lst (zN Ns)):=zq
  have g23:=g2.trans g3
  generalize upd H2 tl (.lst (zN Ns))=H3 at g3 e3 g23
  have nl:=wu pN
  have tab:∀{x:Nat} {r:List Bool},rr[x]?=some r->∃N,Ns[x]?=some N/\zL os.length N (hv os r):=fun {x r} h=>Rj (R:=fun N r=>zL os.length N (hv os r)) pN h
  obtain⟨N0,hN0,t0⟩:=tab hr0
  obtain⟨N1,hN1,t1⟩:=tab hr1
  have hB3:=L.same hB g23
  obtain⟨dx,ml,rl',tl',nd,rv,ts,kvs,h⟩:=id hB3
  refine⟨_,rfl,tl,_,_,_,rfl,rfl,SqL.of e3,vp (Lr hN0),?_⟩
  refine⟨_,rfl,b,dx,_,rfl,h.hb,rfl,_,rfl,b,os,rs,F,i0,rfl,hB3,hI.1,fun M0 tM0=>⟨N0,M0,rfl,rfl,rfl,_,rfl,?_⟩⟩
  rw[decide_eq_false (fun e=>zdo t0 tM0 m0 (zg4.mp e))]
  refine vN ?_
  have en:zN Ns=zN (Ns.take (rr.length-1))++[V.int (N1:Nat)]:=by
   have e:Ns=Ns.take (rr.length-1)++[N1]:=by
    have z:=xO hN1
    rw[show rr.length-1+1=Ns.length by omega,List.take_length] at z
    exact z
   have e2:zN (Ns.take (rr.length-1)++[N1])=zN (Ns.take (rr.length-1))++[V.int (N1:Nat)]:=by unfold zN; rw[List.map_append]; rfl
   rw[<-e2,<-e]
  have at':atI (zN Ns) (-1)=some (.int (N1:Nat)):=by rw[en]; exact zcC _ _
  refine⟨_,rfl,(1:Int),rfl,tl,_,_,_,rfl,rfl,SqL.of e3,at',_,rfl,b,dx,_,rfl,h.hb,rfl,_,rfl,b,os,rs,F,j0,rfl,hB3,hJ.1,fun M1 tM1=>⟨N1,M1,rfl,rfl,rfl,_,rfl,?_⟩⟩
  rw[decide_eq_false (fun e=>zdo t1 tM1 m1 (zg4.mp e))]
  refine vN ?_
  have lN:(zN Ns).length=rr.length:=by unfold zN; rw[List.length_map]; exact nl
  refine⟨_,rfl,tl,_,rfl,.inl (SqL.of e3),_,_,rfl,rfl,_,rfl,by omega,by omega,?_⟩
  rw[show((((zN Ns).length:Nat):Int)-1).toNat=rr.length-1 by omega]
  refine zgg (Nat.le_of_lt (yC (by omega))) (fun x H4 Q0 hx g4 hQ=>?_) (fun H4 l g4 hl=>?_)
  ·have e2:(0:Int)+(x:Nat)=((x:Nat):Int):=by omega
   obtain⟨r,hr'⟩:∃r,rr[x]?=some r:=⟨_,List.getElem?_eq_getElem (by omega)⟩
   obtain⟨r',hr2⟩:∃r,rr[x+1]?=some r:=⟨_,List.getElem?_eq_getElem (by omega)⟩
   obtain⟨N,hN,tN⟩:=tab hr'
   obtain⟨M,hM,tM⟩:=tab hr2
   have e4:(0:Int)+(x:Nat)+1=((x+1:Nat):Int):=by omega
   refine⟨_,rfl,_,rfl,_,rfl,_,rfl,tl,_,_,_,rfl,congrArg V.int e2,SqL.of (g4 _ _ e3),vp (Lr hN),b,os,rs,F,k0,N,hv os r,rfl,L.same hB3 g4,hk,hW,tN,fun R H5 g5 tR=>?_⟩
   refine⟨_,rfl,_,rfl,_,_,rfl,rfl,tl,_,_,_,rfl,congrArg V.int e4,SqL.of ((g4.trans g5) _ _ e3),vp (Lr hM),R,M,rfl,rfl,rfl,?_⟩
   have ne:=zdo tR tM (step x r r' hr' hr2)
   have z:=hQ _ g5
   have eb:V.bl (!decide (V.int ((R&&&M:Nat):Int)=V.int 0))=V.bl true:=by rw[decide_eq_false (fun e=>ne (zg4.mp e))]; rfl
   rw[<-eb] at z
   exact z
  ·have g5:=Same.new hl (.lst ((List.replicate (rr.length-1) true).map V.bl))
   refine⟨l,_,rfl,SqL.of zq,?_⟩
   rw[zgh]
   exact q _ (g23.trans (g4.trans g5))
end
end K92
namespace K92
open PySem L2 Sen
section
variable {P:Program} {w:World} {K:PySem.W.Frag} {mg:Str->Option Value} {base:Heap} {a:Ad} {k:Nat}
theorem zd1 (T:Txt P w K mg a)
  (zdI:zm P w K mg base CX0 k a.Vg a.Vh ["self", "number"] (zaf (zR a.zf)))
  (yg:zm P w K mg base CX0 k a.yO a.yP ["self"] (xJ (zR a.zf)))
  (xH:zm P w K mg base CX0 k a.wF a.wG ["place", "marks"] vW)
  (K1:zm P w K mg base CX0 k a.Te a.Tg ["where", "low", "high"] Jj)
  (zY:zm P w K mg base CX0 k a.yE a.yF ["self", "number"] (wW a.zf))
  (yj:zm P w K mg base CX0 k a.yL a.yM ["self", "table"] (wH a.zf 9)):zm P w K mg base CX0 (k+1) a.S6 a.S7 ["new", "book", "number", "known"] (zbu a.zf):=by
 refine T.Nt.ok Ue (fun vs H Q E h=>?_) (fun cdv A outer s H vs Q E hr h=>?_)
 ·obtain⟨nb,b,kd,os,ps,ns,rs,G,F,j,x,kvs,rfl,_⟩:=h
  rfl
 obtain⟨nb,b,kd,os,ps,ns,rs,G,F,j,x,kvs,rfl,hN,hB,mk,hlen,hx,hkd,hg,q⟩:=h
 refine⟨_,(zj (zH (i:=4) Ue.nd rfl (Or.inl rfl) (yG (pv 1) T.c_Book T.e_Book_room zdI hr T.b_Book_room .nil zy (za (pv 2) zc)))
   (zj (yS (zV JQ (pv 4) Tz (zW _)) (zx (zK (pv 2))) yu)
   (zj (zH (i:=5) Ue.nd rfl (Or.inl rfl) (vo (pv 0) T.c_Book T.e_Book_order yg hr T.b_Book_order .nil zy))
   (zj (zH (i:=6) Ue.nd rfl (Or.inl rfl) (zu xH hr rfl T.m_rows_with T.vY.2 T.b_rows_with .nil zy (za (wI PySem.F.plainAttrs_list PySem.F.slot_list_index PySem.F.type_list_index T3 (pv 5) (za (zX wZ (pv 4) zp (fun _ _=>rfl)) zc)) (za (zU zQ rfl T.n_len yH (za (pv 5) zc)) zc))))
   (zx (zK (yG (pv 0) T.c_Book T.e_Book_room_with yj hr T.b_Book_room_with .nil zy (za (zu K1 hr rfl T.m_chosen T.QF.2 T.b_chosen .nil zy (za (pv 6) (za (yG (pv 0) T.c_Book T.e_Book_table_at zY hr T.b_Book_table_at .nil zy (za (zaP (Lg hr) (pv 3) (zX wZ (pv 4) zp (fun _ _=>rfl)) (fun _ _=>rfl)) zc)) (za (yG (pv 0) T.c_Book T.e_Book_table_at zY hr T.b_Book_table_at .nil zy (za (zaP (Lg hr) (pv 3) (zX wZ (pv 4) zp (fun _ _=>rfl)) (fun _ _=>rfl)) zc)) zc)))) zc)))))))),?_⟩
 have L:=yx a.zf
 have BK:=L.bk hB
 have NK:=L.bk hN
 have n8:=(L.ord hN).le
 obtain⟨dx,fs,hins,hm⟩:=L.ins hB
 refine⟨_,rfl,b,dx,_,rfl,hins,hm _ (by decide +kernel),_,rfl,b,os,rs,F,j,x,rfl,hB,hx,fun v H1 g1 rv=>?_⟩
 cases x with
 | none =>
  have hv:v=.non:=rv
  subst hv
  refine⟨_,rfl,rfl,_,rfl,Xb ?_⟩
  refine⟨_,rfl,?_⟩
  have l2:=Bdd.len2 NK
  rcases zhW BK hx with z | z<;>subst z
  ·exact q 0 ns H1 (Xd.of_same g1) (yw.of g1) (L.same hN g1) (.refl _) ⟨by omega,fun r=>rfl⟩ (by omega)
  ·exact q 1 ns H1 (Xd.of_same g1) (yw.of g1) (L.same hN g1) (.refl _) ⟨by omega,fun r=>(Bdd.Xq NK r).trans (Bdd.Xq BK _).symm⟩ (by omega)
 | some t =>
  obtain⟨i,lo,hi⟩:=t
  obtain⟨p,y,rfl,hy,hp⟩:=rv
  refine⟨_,rfl,rfl,_,rfl,vN ?_⟩
  have hN1:=L.same hN g1
  obtain⟨dn,ml,rl,tl,nd,rv,ts,kv2,h⟩:=hN1
  have hN1:zR a.zf H1 nb ps ns G:=⟨dn,ml,rl,tl,nd,rv,ts,kv2,h⟩
  obtain⟨jl,jh,v1,v2,m1,m2⟩:=hg i lo hi rfl
  have hyo:y∈os:=List.mem_of_getElem? hy
  have hyp:y∈ps:=(mk.mem y).mp hyo
  obtain⟨i1,i2,i3⟩:=wU hyp
  refine⟨_,rfl,nb,dn,_,rfl,h.hb,rfl,nb,ps,ns,G,rfl,hN1,fun ol H2 g2 fo ho=>?_⟩
  have hp2:=g2 _ _ hp
  have g12:=g1.trans g2
  have hN2:=L.same hN g12
  have hkd2:=g12 _ _ hkd
  refine⟨_,rfl,.inl ⟨rfl,_,SqL.of ho⟩,_,rfl,p,_,_,_,rfl,rfl,SqT.of hp2,rfl,ol,_,_,_,rfl,rfl,SqL.of ho,rfl,wL _,i1,?_⟩
  refine⟨_,rfl,ol,_,rfl,.inl (SqL.of ho),?_⟩
  refine⟨ix ps y,ps.length,by rw[List.length_map]; rfl,i2,n8,fun W tw=>?_⟩
  have z1:=Ub.k (k:=Sum.inl (lo:Int)) hkd2
  rw[v1] at z1
  have z2:=Ub.k (k:=Sum.inl (hi:Int)) hkd2
  rw[v2] at z2
  have hb2:=g2 _ _ h.hb
  refine⟨_,rfl,nb,dn,_,rfl,hb2,rfl,_,rfl,_,rfl,nb,dn,_,rfl,hb2,rfl,_,rfl,_,rfl,p,_,_,_,rfl,rfl,SqT.of hp2,rfl,kd,_,rfl,z1,?_⟩
  refine⟨nb,ps,ns,G,jl,rfl,hN2,m1.1,fun t1 tb1=>?_⟩
  refine⟨_,rfl,nb,dn,_,rfl,hb2,rfl,_,rfl,_,rfl,p,_,_,_,rfl,rfl,SqT.of hp2,rfl,kd,_,rfl,z2,?_⟩
  refine⟨nb,ps,ns,G,jh,rfl,hN2,m2.1,fun t2 tb2=>?_⟩
  refine⟨W,t1,t2,ps.length,_,_,_,rfl,tw,tb1,tb2,fun R tr=>?_⟩
  refine⟨nb,ps,ns,G,R,0,_,rfl,hN2,by show ns.length+512<=9000000; omega,Nat.zero_le _,by omega,tr,fun i hi=>absurd hi (Nat.not_lt_zero _),fun j' ns' H' aw tu hB' gr lt y' ln _ hh=>?_⟩
  refine q j' ns' H' (fun x o e nf=>aw x o (g12 _ _ e) nf) (fun x xs e=>tu _ _ (g12 _ _ e)) hB' gr ⟨lt,fun r=>?_⟩ (Nat.le_trans hh (Nat.add_le_add_left (Bdd.ze9 n8) _))
  have e1:trn os ps r i=r (ix ps y):=by
   unfold trn
   rw[List.getD_eq_getElem?_getD,hy]
   rfl
  rw[y']
  show(if (Bdd.bits r ps.length).testBit (ix ps y) then Bdd.yes ns jh (Bdd.xg (Bdd.bits r ps.length)) else Bdd.yes ns jl (Bdd.xg (Bdd.bits r ps.length)))=Bdd.yes rs j (trn os ps r)
  rw[Bdd.W3 BK hx,Bdd.tE r i2,zfX NK m1,zfX NK m2,e1]
theorem zdA (T:Txt P w K mg a)
  (zfs:zm P w K mg base CX0 k a.S6 a.S7 ["new", "book", "number", "known"] (zbu a.zf)):zm P w K mg base CX0 (k+1) a.Uk a.Ul ["new", "book", "rooms"] (zah a.zf):=by
 refine T.QL.ok Rx (fun vs H Q E h=>?_) (fun cdv A outer s H vs Q E hr h=>?_)
 ·obtain⟨nb,b,rl,os,ps,ns,rs,G,F,ks,rfl,_⟩:=h
  rfl
 obtain⟨nb,b,rl,os,ps,ns,rs,G,F,ks,rfl,hN,hB,mk,dj,hrl,nrl,rise,hlen,q⟩:=h
 refine⟨_,(zj (zH (i:=3) Rx.nd rfl (Or.inl rfl) zgR)
   (zj (wO PassesOwn.never rfl (wg (pv 2)) (yD (i:=4) Rx.nd rfl (Or.inl rfl)) (zx (zei (Lg hr) (pv 3) (pv 4) (zu zfs hr rfl T.m_room_in T.Nt.2 T.b_room_in .nil zy (za (pv 0) (za (pv 1) (za (pv 4) (za (pv 3) zc))))) rfl)))
   (zx (zK (zdT rfl rfl T.n_list (pv 3)))))),?_⟩
 have L:=yx a.zf
 refine fun kd hkd=>?_
 have g0:=Same.new hkd (.dK [])
 have nk:¬G kd:=L.fresh hN hkd
 have nfk:¬F kd:=L.fresh hB hkd
 refine⟨_,rfl,rl,rfl,⟨_,SqL.of (g0 _ _ hrl)⟩,?_⟩
 refine tD (xs:=ks.map fun k=>V.int (k:Nat)) (fun i σ H'=>∃(ns':List Bdd.Rm) (js:List Nat) (kvs:List (Key×V)) (f4:Option V),Xd G H H'/\yw H H'/\zR a.zf H' nb ps ns' G/\Bdd.xr ns ns'/\Bdd.hiN ps.length ns'<=Bdd.hiN ps.length ns+63*i/\H' kd=some (.dK kvs)/\js.length=i/\W5 (ks.take i) js kvs /\
   (∀(m k j:Nat),(ks.take i)[m]?=some k->js[m]?=some j->Bdd.Means ns' j (fun r=>Bdd.yes rs k (trn os ps r)))/\σ=[some (.ref nb),some (.ref b),some (.ref rl),some (.ref kd),f4])
  ⟨ns,[],[],_,Xd.of_same g0,yw.of g0,L.same hN g0,.refl _,by omega,zq,rfl,W5.nil,fun m k j h=>by simp at h,rfl⟩ ?_ ?_ ?_
 ·rintro i σ H' _ ⟨ns',js,kvs,f4,aw,_⟩
  exact SqL.of (aw _ _ hrl nrl)
 ·rintro i x σ H' hx ⟨ns',js,kvs,f4,aw,tu,hN',gr,ln,hk',jl,kj,ms,rfl⟩
  rw[List.getElem?_map] at hx
  cases hp:ks[i]? with
  | none=>rw[hp] at hx; cases hx
  | some p =>
   rw[hp] at hx
   cases hx
   obtain⟨lt,ei⟩:=List.getElem?_eq_some_iff.mp hp
   obtain⟨pl,pg⟩:=rise.2 i p hp
   have hB':zR a.zf H' b os rs F:=L.frame hB (fun x o e hf=>aw x o e (dj x hf)) tu
   have tl:(ks.take i).length=i:=by rw[List.length_take]; omega
   refine⟨_,rfl,_,rfl,_,rfl,_,rfl,nb,b,kd,os,ps,ns',rs,G,F,p,rs[p],kvs,rfl,hN',hB',mk,?_,List.getElem?_eq_getElem pl,hk',fun pi lo hi e=>?_,fun j ns2 H2 aw2 tu2 hN2 gr2 me ln2=>?_⟩
   ·have:63*i<=63*ks.length:=Nat.mul_le_mul_left _ (by omega)
    have:=Bdd.zf0 (L.bk hN')
    omega
   ·obtain⟨c1,c2⟩:=pg pi lo hi (by rw[List.getElem?_eq_getElem pl,e])
    obtain⟨m1,j1,a1,a2,a3⟩:=kj.at (jl.trans tl.symm) c1
    obtain⟨m2,j2,b1,b2,b3⟩:=kj.at (jl.trans tl.symm) c2
    exact⟨j1,j2,a3,b3,ms m1 lo j1 a1 a2,ms m2 hi j2 b1 b2⟩
   ·have hk2:=aw2 _ _ hk' nk
    refine⟨_,rfl,_,rfl,kd,_,rfl,zaO.k (k:=Sum.inl (p:Int)) hk2 ?_,?_⟩
    ·have:=kj.len
     have:kvs.length<=ks.length:=by rw[this,tl]; omega
     have:63*ks.length<=8000000:=by omega
     exact Nat.lt_of_lt_of_le (show kvs.length<1000000 by omega) (by decide)
    have u2:Xd G H (upd H2 kd (.dK (putK kvs (Sum.inl (p:Int)) (.int (j:Nat))))):=fun x o e nx=>by
     have z:=aw2 x o (aw x o e nx) nx
     rw[zB (fun y=>by rw[y,hkd] at e; cases e)]
     exact z
    have np:p∉ks.take i:=zcZ rise.1 hp
    refine⟨ns2,js++[j],putK kvs (Sum.inl (p:Int)) (.int (j:Nat)),some (.int (p:Nat)),u2,fun x xs e=>?_,?_,gr.trans gr2,by rw[Nat.mul_succ]; omega,zq,by rw[List.length_append,jl]; rfl,?_,?_,rfl⟩
    ·have z:=tu2 _ _ (tu _ _ e)
     rw[zB (fun y=>by rw[y,hkd] at e; cases e)]
     exact z
    ·refine L.frame hN2 (fun x o e hx=>?_) (fun x xs e=>?_)
     ·rw[zB (fun y:x=kd=>nk (y ▸ hx))]; exact e
     ·rw[zB (fun y=>by rw[y,hk2] at e; cases e)]; exact e
    ·rw[List.take_succ,hp]
     exact kj.snoc (jl.trans tl.symm) np
    ·intro m k j' hm hj
     rw[List.take_succ,hp] at hm
     by_cases hmi:m<i
     ·rw[show(some p).toList=[p] from rfl,List.getElem?_append_left (by omega)] at hm
      rw[List.getElem?_append_left (by omega)] at hj
      exact(ms m k j' hm hj).grown (L.bk hN') gr2
     ·have hml:=(List.getElem?_eq_some_iff.mp hj).1
      rw[List.length_append,List.length_singleton] at hml
      have em:m=i:=by omega
      subst em
      rw[show(some p).toList=[p] from rfl,List.getElem?_append_right (by omega),tl,Nat.sub_self] at hm
      rw[List.getElem?_append_right (by omega),jl,Nat.sub_self] at hj
      cases hm
      cases hj
      exact me
 ·rintro σ H' ⟨ns',js,kvs,f4,aw,tu,hN',gr,ln,hk',jl,kj,ms,rfl⟩
  rw[List.length_map] at ln jl kj ms
  rw[List.take_length] at kj ms
  refine⟨_,rfl,kd,kvs,rfl,hk',fun l hl=>?_⟩
  have g3:=Same.new hl (.lst (kvs.map (·.2)))
  have fl:H l=none:=by
   cases e:H l with
   | none=>rfl
   | some o =>
    by_cases gl:G l
    ·exact absurd hl (L.there hN' gl)
    ·rw[aw l o e gl] at hl; cases hl
  refine q l _ ns' js (fun x o e nx=>g3 _ _ (aw x o e nx)) (fun x xs e=>g3 _ _ (tu _ _ e)) (L.same hN' g3) gr fl ?_ jl ms ln
  rw[zq,kj.vals jl]
theorem zb8 (T:Txt P w K mg a)
  (yg:zm P w K mg base CX0 (k+1) a.yO a.yP ["self"] (xJ (zR a.zf)))
  (zdJ:zm P w K mg base CX0 (k+1) a.Yy a.Yz ["self"] (Pa (zR a.zf)))
  (RL:zm P w K mg base CX0 k a.ZC a.Yx ["self", "order"] (Q9 (zR a.zf) K a.zf))
  (zeJ:zm P w K mg base CX0 (k+1) a.Uk a.Ul ["new", "book", "rooms"] (zah a.zf)):zm P w K mg base CX0 (k+2) a.Vi a.Vj ["book", "order"] (Mv a.zf K):=by
 refine T.RG.ok Ni (fun vs H Q E h=>?_) (fun cdv A outer s H vs Q E hr h=>?_)
 ·obtain⟨b,ol,os,ps,rs,F,rfl,_⟩:=h
  rfl
 obtain⟨b,ol,os,ps,rs,F,rfl,hB,hO,ho,mk,hlen,q⟩:=h
 refine⟨_,(zj (yS (zV (zcS rfl (hu8 hr)) (zU (Ss (K:=K) rfl) rfl T.n_sorted zbp (za (pv 1) zc)) (zU (Ss (K:=K) rfl) rfl T.n_sorted zbp (za (vo (pv 0) T.c_Book T.e_Book_order yg hr T.b_Book_order .nil zy) zc)) (zW _)) (zx Z8) yu)
   (zj (zH (i:=2) Ni.nd rfl (Or.inl rfl) (zd9 T.mk_Book RL hr rfl T.m_Book T.b_Book_init .nil zy (za (pv 1) zc)))
   (zx (zK (vV (za (pv 2) (za (zu zeJ hr rfl T.m_rooms_in T.QL.2 T.b_rooms_in .nil zy (za (pv 2) (za (pv 0) (za (zcX rfl rfl T.n_list rfl T.n_range (za (vo (pv 0) T.c_Book T.e_Book_size zdJ hr T.b_Book_size .nil zy) zc)) zc)))) zc))))))),?_⟩
 have L:=yx a.zf
 have BK:=L.bk hB
 have ob:=L.ord hB
 have p8:=ho.le
 have b8:=ob.le
 refine⟨_,rfl,ol,ps,rfl,hO,by omega,fun l1 m1 hl1 pm1 so1=>?_⟩
 have g1:=Same.new hl1 (.lst (m1.map V.str))
 have hB1:=L.same hB g1
 obtain⟨dx,fs,hins,hm⟩:=L.ins hB1
 refine⟨_,rfl,b,dx,_,rfl,hins,hm _ (by decide +kernel),b,os,rs,F,rfl,hB1,fun l2 H2 g2 fl2 hl2=>?_⟩
 refine⟨l2,os,rfl,SqL.of hl2,by omega,fun l3 m3 hl3 pm3 so3=>?_⟩
 have g3:=Same.new hl3 (.lst (m3.map V.str))
 have em:m1=m3:=zbs (fun x hx=>ho.mem x (pm1.mem_iff.mp hx)) (pm1.trans ((mk.perm ob.nd ho.nd).symm.trans pm3.symm)) so1 so3
 subst em
 have e1:upd H2 l3 (.lst (m1.map V.str)) l1=some (.lst (m1.map V.str)):=g3 _ _ (g2 _ _ zq)
 refine⟨true,fun z=>absurd z.1 Bool.false_ne_true,zjm (SqL.of e1) (SqL.of zq) rfl (fun j x y hx hy=>?_),_,rfl,vN ?_⟩
 ·rw[hx] at hy
  cases hy
  refine zhT ?_
  rw[List.getElem?_map] at hx
  cases hz:m1[j]? with
  | none=>rw[hz] at hx; cases hx
  | some z=>rw[hz] at hx; cases hx; rfl
 have g4:=(g1.trans g2).trans g3
 generalize upd H2 l3 (.lst (m1.map V.str))=H4 at g4
 have hO4:=g4.seq hO
 refine⟨_,rfl,fun nb dn hnb hdn hne=>⟨nb,dn,ol,ps,rfl,zq,Ne.symm hne,?_,ho,fun H5 G keep hN hG=>⟨rfl,?_⟩⟩⟩
 ·exact((Same.new hdn _).trans (zfZ hdn hnb hne)).seq hO4
 have g5:Same H4 H5:=fun x o e=>keep x o (by rw[zB (zF e hnb),zB (zF e hdn)]; exact e) (zF e hnb)
 have hG4:∀x,G x->H4 x=none:=fun x hx=>by
  rcases hG x hx with z | z | z
  ·rw[z]; exact hnb
  ·rw[z]; exact hdn
  ·by_cases e1:x=nb
   ·rw[e1] at z; rw[zq] at z; cases z
   ·by_cases e2:x=dn
    ·rw[e2,zB hne,zq] at z; cases z
    ·rw[zB e1,zB e2] at z; exact z
 have g45:=g4.trans g5
 have hB5:=L.same hB g45
 obtain⟨dx5,fs5,hins5,hm5⟩:=L.ins hB5
 refine⟨_,rfl,_,rfl,_,rfl,_,rfl,b,dx5,_,rfl,hins5,hm5 _ (by decide +kernel),b,os,rs,F,rfl,hB5,fun H6 g6=>?_⟩
 refine⟨rs.length,rfl,by omega,fun rl hrl=>?_⟩
 have g7:=Same.new hrl (.lst (Ro rs.length))
 have g67:=g6.trans g7
 have hN7:=L.same hN g67
 have hB7:=L.same hB5 g67
 have dj:∀x,F x->¬G x:=fun x hf hg=>L.there hB hf (g4.free (hG4 x hg))
 refine⟨nb,b,rl,os,ps,[none,none],rs,G,F,List.range rs.length,rfl,hN7,hB7,mk,dj,zq,?_,zdU BK,?_,fun l H8 ns js aw tu hN8 gr fl hl jl ms ln=>?_⟩
 ·exact fun hg=>L.there hN hg (g6.free hrl)
 ·rw[List.length_range]; show 0+63*rs.length+16<=8000000; omega
 rw[List.length_range] at jl ln
 have ln:Bdd.hiN ps.length ns<=63*rs.length:=Nat.le_trans ln (by show 0+63*rs.length<=_; omega)
 refine⟨by show 2<=sizeLine; decide,fun t ht=>?_⟩
 have g9:=Same.new ht (.tup [.ref nb,.ref l])
 have S8:Same H H8:=fun x o e=>aw x o (g67 _ _ (g45 _ _ e)) fun hg=>by
  have:=hG4 x hg
  rw[g4 _ _ e] at this; cases this
 refine q t nb l _ ns G js (S8.trans g9) (S8.free ht) zq (L.same hN8 g9) (fun x hx=>g4.free (hG4 x hx)) ((g45.trans g67).free fl) (fun hg=>L.there hN7 hg fl) (g9 _ _ hl) jl (fun k j hj=>?_) ln
 have hk:k<rs.length:=by have:=(List.getElem?_eq_some_iff.mp hj).1; omega
 exact ms k k j (by rw[List.getElem?_range hk]) hj
end
end K92
namespace K92
open PySem L2 Sen
section
variable {P:Program} {w:World} {K:PySem.W.Frag} {mg:Str->Option Value} {base:Heap} {a:Ad} {k:Nat}
theorem ok_law (T:Txt P w K mg a)
  (xU:zm P w K mg base CX0 (k+1) a.xR a.xT ["script", "k"] (Lj K))
  (yX:zm P w K mg base CX0 (k+1) a.uw a.ux ["cell", "k", "bound"] Mh)
  (zcp:zm P w K mg base CX0 (k+1) a.X5 a.X6 ["script"] (zf7 K))
  (Ka:zm P w K mg base CX0 (k+1) a.YB a.YC ["order"] (zc6 K))
  (Zk:zm P w K mg base CX0 (k+1) a.uy a.uz ["script", "at", "many", "order"] (QZ K))
  (RL:zm P w K mg base CX0 k a.ZC a.Yx ["self", "order"] (Q9 (zR a.zf) K a.zf))
  (Tw:zm P w K mg base CX0 (k+1) a.X3 a.X4 ["self", "sentence"] (zc1 a.zf))
  (zd2:zm P w K mg base CX0 (k+1) a.MP a.M4 ["book", "steps", "room"] (zem a.zf))
  (JH:zm P w K mg base CX0 (k+1) a.Ui a.Uj ["book", "steps", "room"] (zai a.zf))
  (za5:zm P w K mg base CX0 (k+1) a.SX a.S5 ["book", "steps", "start"] (zbD a.zf))
  (zd3:zm P w K mg base CX0 (k+1) a.M5 a.M6 ["book", "steps", "room"] (zet a.zf))
  (zcq:zm P w K mg base CX0 (k+1) a.Qz a.QB ["book", "steps", "start"] (zdc a.zf))
  (zcr:zm P w K mg base CX0 (k+1) a.QC a.QD ["book", "steps", "start", "goal"] (zeu a.zf))
  (zdK:zm P w K mg base CX0 (k+1) a.Vi a.Vj ["book", "order"] (Mv a.zf K))
  (zdL:zm P w K mg base CX0 (k+1) a.Ve a.Vf ["book", "steps", "start", "goal", "rows"] (Ky a.zf K)) :
  zm P w K mg base CX0 (k+2) a.zb9 a.JB ["script"] (ze6 K):=by
 refine T.zhc.ok vC (fun vs H Q E h=>?_) (fun cdv A outer s H vs Q E hr h=>?_)
 ·obtain⟨a,ns,rfl,_⟩:=h
  rfl
 obtain⟨sc,ns,rfl,hS,h63,q⟩:=h
 have L:=yx a.zf
 refine ziI ?_
 refine zcV (fun σ H=>∃(H1:Hp) (ol bk p0:Addr) (os:List Str) (rs:List Bdd.Rm) (F:zZ) (k0 k1 k2:Nat),Gst a.zf K sc ns H1 ol bk os 200 H rs F/\k0<rs.length/\wD os rs k1/\wD os rs k2/\σ=[some (.ref sc),some (.ref bk),some (.int (k0:Nat)),some (.int (k1:Nat)),some (.int (k2:Nat)),none,none,none,none,none,none,none,none,some (.ref ol),some (.ref p0),none,none]) (fun t z=>(zj (zcw (zu zcp hr rfl T.m_x_law_both T.Tr.2 T.b_x_law_both .nil zy (za (pv 0) zc)) (TJ rfl (wN (yD (i:=13) vC.nd rfl (Or.inl rfl)) (wN (yD (i:=14) vC.nd rfl (Or.inl rfl)) WX))))
   (zj (zH (i:=1) vC.nd rfl (Or.inl rfl) (zd9 T.mk_Book RL hr rfl T.m_Book T.b_Book_init .nil zy (za (pv 13) zc)))
   (zj (zH (i:=2) vC.nd rfl (Or.inl rfl) (yG (pv 1) T.c_Book T.e_Book_enter Tw hr T.b_Book_enter .nil zy (za (pv 14) zc)))
   (zj (zH (i:=3) vC.nd rfl (Or.inl rfl) (yG (pv 1) T.c_Book T.e_Book_enter Tw hr T.b_Book_enter .nil zy (za (zu Zk hr rfl T.m_x_law_sentence T.uE.2 T.b_x_law_sentence .nil zy (za (pv 0) (za zp (za (zM wk zp (zM vR (zu xU hr rfl T.m_x_law_cell_at T.xG.2 T.b_x_law_cell_at .nil zy (za (pv 0) (za zp zc))) zp)) (za (zu Ka hr rfl T.m_x_law_now T.Vl.2 T.b_x_law_now .nil zy (za (pv 13) zc)) zc))))) zc)))
   (zj (zH (i:=4) vC.nd rfl (Or.inl rfl) (yG (pv 1) T.c_Book T.e_Book_enter Tw hr T.b_Book_enter .nil zy (za (zu Zk hr rfl T.m_x_law_sentence T.uE.2 T.b_x_law_sentence .nil zy (za (pv 0) (za zp (za (zM wk zp (zM vR (zu xU hr rfl T.m_x_law_cell_at T.xG.2 T.b_x_law_cell_at .nil zy (za (pv 0) (za zp zc))) zp)) (za (zu Ka hr rfl T.m_x_law_now T.Vl.2 T.b_x_law_now .nil zy (za (pv 13) zc)) zc))))) zc)))
   z)))))) ?_ ?_
 ·rintro u hu σ H ⟨rfl,rfl⟩
  refine⟨_,rfl,sc,ns,rfl,hS,fun t ol p0 H3 os s0 g0 ht hol0 ho hW hn sp0=>?_⟩
  refine⟨t,_,rfl,SqT.of ht,rfl,_,_,rfl,_,_,rfl,rfl,?_⟩
  refine⟨_,rfl,fun bk dx hbk hdx hne=>⟨bk,dx,ol,os,rfl,zq,Ne.symm hne,?_,ho,fun H4 F0 keep hB hF=>⟨rfl,?_⟩⟩⟩
  ·refine SqL.of ?_
   rw[zB (zF hol0 hbk),zB (zF hol0 hdx)]
   exact hol0
  have L0:=uF.made hbk hdx hne keep hB hF
  clear keep hF
  have G0:Gst a.zf K sc ns H3 ol bk os 0 H4 [none,none] F0:=⟨L0,g0.seq hS,hol0,ho,hW,hn⟩
  have sp04:=sp0.mono (yw.of L0.same)
  obtain⟨dx0,fs,hins,hm⟩:=L.ins G0.led.bk
  refine⟨_,rfl,bk,dx0,fs,rfl,hins,hm _ (by decide +kernel),_,rfl,bk,p0,os,[none,none],F0,s0,rfl,G0.led.bk,by decide,sp04.is_,sp04.inO,sp04.ct,sp04.dp,fun k0 rs1 H5 aw1 tu1 hB1 gr1 mk0 hh1=>?_⟩
  have G1:=G0.grow aw1 hB1 hh1
  obtain⟨dx1,fs1,hins1,hm1⟩:=L.ins G1.led.bk
  have c6:0<=wC ns 11%6/\wC ns 11%6<6:=⟨Int.emod_nonneg _ (by decide),Int.emod_lt_of_pos _ (by decide)⟩
  have n4:=W6 os
  refine⟨_,rfl,bk,dx1,fs1,rfl,hins1,hm1 _ (by decide +kernel),_,rfl,_,rfl,sc,ns,11,rfl,G1.scL,wC ns 11,6,rfl,rfl,(show(0:Int)<6 by decide),1,_,rfl,rfl,_,rfl,ol,os,rfl,G1.olL,fun nl H6 g6 _ hnl=>?_⟩
  have G2:=G1.new g6
  refine⟨sc,nl,ns,12,(1+wC ns 11%6).toNat,yK os,?_,G2.scL,SqL.of hnl,hn,by omega,by omega,by omega,by decide,fun p1 H7 s1 g7 is1 in1 d1=>?_⟩
  ·rw[Int.toNat_of_nonneg (by omega)]
   rfl
  have c200:s1.count<=200:=by
   have h3:=Sn.count_depth s1
   have h4:2^s1.depth<=2^7:=Nat.pow_le_pow_right (by decide) (by omega)
   have h5:2^7=128:=rfl
   omega
  have sp1:RT (yK os) H7 s1 p1:=⟨is1,in1,c200,by omega⟩
  have G3:=G2.new g7
  refine⟨bk,p1,os,rs1,F0,s1,rfl,G3.led.bk,by have:=G3.led.len; omega,sp1.all.is_,sp1.all.inO,sp1.ct,sp1.dp,fun k1 rs2 H8 aw8 tu8 hB8 gr8 mk1 hh8=>?_⟩
  have G4:=G3.grow aw8 hB8 hh8
  have n1:=zbB ho sp1.inO mk1
  have k0':=Nat.lt_of_lt_of_le mk0.1 gr8.len
  obtain⟨dx4,fs4,hins4,hm4⟩:=L.ins G4.led.bk
  have d6:0<=wC ns 19%6/\wC ns 19%6<6:=⟨Int.emod_nonneg _ (by decide),Int.emod_lt_of_pos _ (by decide)⟩
  refine⟨_,rfl,bk,dx4,fs4,rfl,hins4,hm4 _ (by decide +kernel),_,rfl,_,rfl,sc,ns,19,rfl,G4.scL,wC ns 19,6,rfl,rfl,(show(0:Int)<6 by decide),1,_,rfl,rfl,_,rfl,ol,os,rfl,G4.olL,fun nl2 H9 g9 _ hnl2=>?_⟩
  have G5:=G4.new g9
  refine⟨sc,nl2,ns,20,(1+wC ns 19%6).toNat,yK os,?_,G5.scL,SqL.of hnl2,hn,by omega,by omega,by omega,by decide,fun p2 Ha s2 ga is2 in2 e2=>?_⟩
  ·rw[Int.toNat_of_nonneg (by omega)]
   rfl
  have c201:s2.count<=200:=by
   have h3:=Sn.count_depth s2
   have h4:2^s2.depth<=2^7:=Nat.pow_le_pow_right (by decide) (by omega)
   have h5:2^7=128:=rfl
   omega
  have sp2:RT (yK os) Ha s2 p2:=⟨is2,in2,c201,by omega⟩
  have G6:=G5.new ga
  refine⟨bk,p2,os,rs2,F0,s2,rfl,G6.led.bk,by have:=G6.led.len; omega,sp2.all.is_,sp2.all.inO,sp2.ct,sp2.dp,fun k2 rs3 Hb awb tub hBb grb mk2 hhb=>?_⟩
  have G7:=G6.grow awb hBb hhb
  exact hu _ _ ⟨H3,ol,bk,p0,os,rs3,F0,k0,k1,k2,G7.up (by decide),Nat.lt_of_lt_of_le k0' grb.len,n1.grown G4.B grb,zbB ho sp2.inO mk2,rfl⟩
 refine zcV (fun σ H=>∃(H1:Hp) (ol bk p0 dl tl:Addr) (os:List Str) (rs:List Bdd.Rm) (F:zZ) (k0 k1 k2 d0 d1 d2 d3:Nat) (js Ns:List Nat) (g:Nat->Bool) (rv:V),Gst a.zf K sc ns H1 ol bk os 17000 H rs F/\k0<rs.length/\wD os rs k1/\wD os rs k2/\H dl=some (.lst (zN [d0,d1,d2,d3]))/\RB os rs d0 (wQ os (tB rs k0) (tB rs k1))/\RB os rs d1 (xu os (tB rs k0) (tB rs k1))/\RB os rs d2 (rnd os (tB rs k0) (tB rs k1) Ns.length).2/\RB os rs d3 g/\Mz os (tB rs k0) (tB rs k1) g/\H tl=some (.lst (zN js))/\Paired (RV os.length rs) js Ns/\Zq os (tB rs k0) (tB rs k1) Ns/\Ns.length<=256/\((rv=.non/\∀m,m<Ns.length->∀b,b<2^os.length->(rnd os (tB rs k0) (tB rs k1) m).1 b=true->tB rs k2 b=false)\/∃(wl:Addr) (qs:List Addr) (m:Nat),rv=.ref wl/\H wl=some (.lst (qs.map V.ref))/\qs.length=m+1/\m<Ns.length/\Meet os (tB rs k0) (tB rs k1) (tB rs k2) m)/\σ=[some (.ref sc),some (.ref bk),some (.int (k0:Nat)),some (.int (k1:Nat)),some (.int (k2:Nat)),some (.ref dl),some (.ref tl),some rv,none,none,none,none,none,some (.ref ol),some (.ref p0),none,none]) (fun t z=>(zj (zH (i:=5) vC.nd rfl (Or.inl rfl) (xV (za (zu zd2 hr rfl T.m_image T.M7.2 T.b_image .nil zy (za (pv 1) (za (pv 2) (za (pv 3) zc)))) (za (zu JH hr rfl T.m_preimage T.Uq.2 T.b_preimage .nil zy (za (pv 1) (za (pv 2) (za (pv 3) zc)))) (za (zu za5 hr rfl T.m_reached T.Rb.2 T.b_reached .nil zy (za (pv 1) (za (pv 2) (za (pv 3) zc)))) zc)))))
   (zj (yt (wI PySem.F.plainAttrs_list PySem.F.slot_list_append PySem.F.type_list_append wK (pv 5) (za (zu zd3 hr rfl T.m_stays T.M9.2 T.b_stays .nil zy (za (pv 1) (za (pv 2) (za (pv 3) zc)))) zc)))
   (zj (zH (i:=6) vC.nd rfl (Or.inl rfl) (zu zcq hr rfl T.m_rounds T.QJ.2 T.b_rounds .nil zy (za (pv 1) (za (pv 2) (za (pv 3) zc)))))
   (zj (zH (i:=7) vC.nd rfl (Or.inl rfl) (zu zcr hr rfl T.m_way_to T.QK.2 T.b_way_to .nil zy (za (pv 1) (za (pv 2) (za (pv 3) (za (pv 4) zc))))))
   z))))) ?_ ?_
 ·rintro u hu σ H ⟨H1,ol,bk,p0,os,rs,F,k0,k1,k2,G,hk0,hN,hN2,rfl⟩
  have ho:=G.ho
  have hW:=G.hW
  have la:=G.led.len
  refine⟨_,rfl,_,rfl,_,rfl,bk,os,rs,F,k0,k1,rfl,G.led.bk,by omega,hW,hk0,hN,fun d0 rs1 H2 aw1 tu1 hB1 gr1 m0 hh1=>?_⟩
  have G1:=G.grow aw1 hB1 hh1
  have lb:=G1.led.len
  have t1:=yV G.B gr1 hk0
  have f1:=yV G.B gr1 hN.1
  have hk1:=Nat.lt_of_lt_of_le hk0 gr1.len
  have hN1:=hN.grown G.B gr1
  refine⟨_,rfl,_,rfl,_,rfl,bk,os,rs1,F,k0,k1,rfl,G1.led.bk,by omega,hW,hk1,hN1,fun d1 rs2 H3 aw2 tu2 hB2 gr2 m1 hh2=>?_⟩
  have G2:=G1.grow aw2 hB2 hh2
  have lc:=G2.led.len
  have t2:=(yV G1.B gr2 hk1).trans t1
  have f2:=(yV G1.B gr2 hN1.1).trans f1
  have hk2:=Nat.lt_of_lt_of_le hk1 gr2.len
  have hN2':=hN1.grown G1.B gr2
  refine⟨_,rfl,_,rfl,_,rfl,bk,os,rs2,F,k0,k1,rfl,G2.led.bk,by omega,hW,hk2,hN2',fun Na rna nla d2 rs3 H4 aw3 tu3 hB3 gr3 m2 hh3=>?_⟩
  have G3:=G2.grow aw3 hB3 hh3
  have ld:=G3.led.len
  have t3:=(yV G2.B gr3 hk2).trans t2
  have f3:=(yV G2.B gr3 hN2'.1).trans f2
  have hk3:=Nat.lt_of_lt_of_le hk2 gr3.len
  have hN3:=hN2'.grown G2.B gr3
  refine⟨by show 3<=sizeLine; decide,fun dl hdl=>?_⟩
  have g5:=Same.new hdl (.lst [.int (d0:Nat),.int (d1:Nat),.int (d2:Nat)])
  have e5:upd H4 dl (.lst [.int (d0:Nat),.int (d1:Nat),.int (d2:Nat)]) dl=some (.lst (zN [d0,d1,d2])):=zq
  have ndl:¬F dl:=L.fresh G3.led.bk hdl
  have fdl:H1 dl=none:=G3.led.same.free hdl
  generalize upd H4 dl (.lst [.int (d0:Nat),.int (d1:Nat),.int (d2:Nat)])=H5 at g5 e5
  have G5:=G3.new g5
  refine⟨_,rfl,.inl ⟨rfl,_,SqL.of e5⟩,_,rfl,_,rfl,_,rfl,bk,os,rs3,F,k0,k1,rfl,G5.led.bk,by omega,hW,hk3,hN3,fun gS S d3 rs4 H6 aw4 tu4 hB4 gr4 m3 hh4=>?_⟩
  have G6:=G5.grow aw4 hB4 hh4
  have e6:=aw4 _ _ e5 ndl
  have t4:=(yV G3.B gr4 hk3).trans t3
  have f4:=(yV G3.B gr4 hN3.1).trans f3
  have hk4:=Nat.lt_of_lt_of_le hk3 gr4.len
  have hN4:=hN3.grown G3.B gr4
  refine⟨dl,_,_,rfl,rfl,e6,by show 3<sizeLine; decide,?_⟩
  have G7:Gst a.zf K sc ns H1 ol bk os (200+63+63+63+63) (upd H6 dl (.lst (zN [d0,d1,d2]++[.int (d3:Nat)]))) rs4 F:=⟨⟨G6.led.same.over fdl _,G6.led.away,L.lst G6.led.bk e6 ndl _,G6.led.hi⟩,G6.hS,G6.hol,ho,hW,G6.hn⟩
  have e7:upd H6 dl (.lst (zN [d0,d1,d2]++[.int (d3:Nat)])) dl=some (.lst (zN [d0,d1,d2,d3])):=zq
  generalize upd H6 dl (.lst (zN [d0,d1,d2]++[.int (d3:Nat)]))=H7 at G7 e7
  have le:=G7.led.len
  refine⟨_,rfl,_,rfl,_,rfl,bk,os,rs4,F,k0,k1,rfl,G7.led.bk,by omega,hW,hk4,hN4,fun tl H8 rs5 js Ns aw5 tu5 hB5 gr5 hh5 ftl ntl htl pj oj rn ln=>?_⟩
  have G8:=G7.grow aw5 hB5 hh5
  have e8:=aw5 _ _ e7 ndl
  have t5:=(yV G7.B gr5 hk4).trans t4
  have f5:=(yV G7.B gr5 hN4.1).trans f4
  have hk5:=Nat.lt_of_lt_of_le hk4 gr5.len
  have hN5:=hN4.grown G7.B gr5
  have gA:=gr1.trans (gr2.trans (gr3.trans (gr4.trans gr5)))
  have hM5:=hN2.grown G.B gA
  rw[t4,f4,<-t5,<-f5] at rn
  have eN:Na=Ns:=by
   rw[t2,f2,<-t5,<-f5] at rna
   exact rna.eq rn
  have x0:RB os rs5 d0 (wQ os (tB rs5 k0) (tB rs5 k1)):=by
   rw[t5,f5]
   exact((((RB.means m0).grown G1.B gr2).grown G2.B gr3).grown G3.B gr4).grown G7.B gr5
  have x1:RB os rs5 d1 (xu os (tB rs5 k0) (tB rs5 k1)):=by
   rw[t5,f5,<-t1,<-f1]
   exact(((RB.means m1).grown G2.B gr3).grown G3.B gr4).grown G7.B gr5
  have x2:RB os rs5 d2 (rnd os (tB rs5 k0) (tB rs5 k1) Ns.length).2:=by
   rw[<-eN,t5,f5,<-t2,<-f2]
   exact((RB.means m2).grown G3.B gr4).grown G7.B gr5
  have x3:RB os rs5 d3 gS:=(RB.means m3).grown G7.B gr5
  have S':Mz os (tB rs5 k0) (tB rs5 k1) gS:=by
   rw[t5,f5,<-t3,<-f3]
   exact S
  refine⟨_,rfl,_,rfl,_,rfl,_,rfl,bk,os,rs5,F,k0,k1,k2,rfl,G8.led.bk,hW,hk5,hN5,hM5,fun H9 Nz g9 rz no=>?_,fun wl H9 qs Nz m g9 fwl hwl rz mz meet pq=>?_⟩
  ·have ez:Nz=Ns:=rz.eq rn
   subst ez
   exact hu _ _ ⟨H1,ol,bk,p0,dl,tl,os,rs5,F,k0,k1,k2,d0,d1,d2,d3,js,Nz,gS,.non,(G8.new g9).up (by decide),hk5,hN5,hM5,g9 _ _ e8,x0,x1,x2,x3,S',g9 _ _ htl,pj,rn,ln,.inl ⟨rfl,no⟩,rfl⟩
  ·have ez:Nz=Ns:=rz.eq rn
   subst ez
   have lq:=wu pq
   rw[List.length_reverse,Jp,List.length_reverse,List.length_map,List.length_range] at lq
   exact hu _ _ ⟨H1,ol,bk,p0,dl,tl,os,rs5,F,k0,k1,k2,d0,d1,d2,d3,js,Nz,gS,.ref wl,(G8.new g9).up (by decide),hk5,hN5,hM5,g9 _ _ e8,x0,x1,x2,x3,S',g9 _ _ htl,pj,rn,ln,.inr ⟨wl,qs,m,rfl,hwl,lq,mz,meet⟩,rfl⟩
 refine zcV (fun σ H=>∃(H1:Hp) (ol bk p0 dl tl al:Addr) (os ps:List Str) (rs:List Bdd.Rm) (F:zZ) (k0 k1 k2 d0 d1 d2 d3:Nat) (js Ns:List Nat) (g:Nat->Bool) (rv:V) (f9:Option V),Gst a.zf K sc ns H1 ol bk os 17000 H rs F/\k0<rs.length/\wD os rs k1/\wD os rs k2/\H dl=some (.lst (zN [d0,d1,d2,d3]))/\RB os rs d0 (wQ os (tB rs k0) (tB rs k1))/\RB os rs d1 (xu os (tB rs k0) (tB rs k1))/\RB os rs d2 (rnd os (tB rs k0) (tB rs k1) Ns.length).2/\RB os rs d3 g/\Mz os (tB rs k0) (tB rs k1) g/\H tl=some (.lst (zN js))/\Paired (RV os.length rs) js Ns/\Zq os (tB rs k0) (tB rs k1) Ns/\Ns.length<=256/\((rv=.non/\∀m,m<Ns.length->∀b,b<2^os.length->(rnd os (tB rs k0) (tB rs k1) m).1 b=true->tB rs k2 b=false)\/∃(wl:Addr) (qs:List Addr) (m:Nat),rv=.ref wl/\H wl=some (.lst (qs.map V.ref))/\qs.length=m+1/\m<Ns.length/\Meet os (tB rs k0) (tB rs k1) (tB rs k2) m)/\H al=some (.lst (ps.map V.str))/\yZ ps/\Marks os ps/\σ=[some (.ref sc),some (.ref bk),some (.int (k0:Nat)),some (.int (k1:Nat)),some (.int (k2:Nat)),some (.ref dl),some (.ref tl),some rv,some (.ref al),f9,none,none,none,some (.ref ol),some (.ref p0),none,none]) (fun t z=>(zj (zH (i:=8) vC.nd rfl (Or.inl rfl) (xV zc))
   (zj (wO PassesOwn.never rfl (Rh rfl T.n_range (za (zU zQ rfl T.n_len yH (za (pv 13) zc)) zc)) (yD (i:=9) vC.nd rfl (Or.inl rfl)) (zx (yt (wI PySem.F.plainAttrs_list PySem.F.slot_list_insert PySem.F.type_list_insert Mf (pv 8) (za (zM vR (zu yX hr rfl T.m_x_law_draw T.yW.2 T.b_x_law_draw .nil zy (za (zu xU hr rfl T.m_x_law_cell_at T.xG.2 T.b_x_law_cell_at .nil zy (za (pv 0) (za zp zc))) (za (pv 9) (za zp zc)))) (zM wk (pv 9) zp)) (za (zX yr (pv 13) (pv 9) (fun _ _=>rfl)) zc))))))
   z))) ?_ ?_
 ·rintro u hu σ H ⟨H1,ol,bk,p0,dl,tl,os,rs,F,k0,k1,k2,d0,d1,d2,d3,js,Ns,g,rv,G,hk0,hN,hN2,hdl,x0,x1,x2,x3,S,htl,pj,rn,ln,ways,rfl⟩
  have ho:=G.ho
  have o8:=ho.le
  have opos:=ho.pos
  have hol:=G.led.same _ _ G.hol
  have lom:(os.map V.str).length=os.length:=List.length_map _
  refine⟨by show 0<=sizeLine; decide,fun al hal=>?_⟩
  have g1:=Same.new hal (.lst [])
  refine⟨_,rfl,ol,_,rfl,.inl (SqL.of (g1 _ _ hol)),_,rfl,by omega,by omega,?_⟩
  rw[Int.toNat_natCast,lom]
  refine Vz (fun i σ H'=>∃(qs:List Str) (f9:Option V),Same H H'/\H' al=some (.lst (qs.map V.str))/\qs.Nodup/\qs.length=i/\(∀x,x∈qs↔x∈os.take i)/\σ=[some (.ref sc),some (.ref bk),some (.int (k0:Nat)),some (.int (k1:Nat)),some (.int (k2:Nat)),some (.ref dl),some (.ref tl),some rv,some (.ref al),f9,none,none,none,some (.ref ol),some (.ref p0),none,none])
   ⟨[],_,g1,zq,List.nodup_nil,rfl,(fun x=>by simp),rfl⟩ ?_ ?_
  ·rintro i σ H' hi ⟨qs,f7,gg,hq,nd,le,mem,rfl⟩
   have e2:(0:Int)+(i:Nat)=((i:Nat):Int):=by omega
   refine⟨_,rfl,.inl ⟨rfl,_,SqL.of hq⟩,?_⟩
   refine⟨_,rfl,sc,ns,27,rfl,(G.new gg).scL,_,rfl,wC ns 27,i,5040,congrArg (fun z=>[V.int (wC ns 27),V.int z,V.int 5040]) e2,by omega,by decide,by decide,fun r' d0 d1=>?_⟩
   refine⟨_,rfl,_,1,rfl,rfl,r',_,rfl,rfl,by show(0:Int)<0+(i:Nat)+1; omega,?_⟩
   have m0:0<=r'%(0+(i:Nat)+1):=Int.emod_nonneg _ (by omega)
   have m1:r'%(0+(i:Nat)+1)<0+(i:Nat)+1:=Int.emod_lt_of_pos _ (by omega)
   have eo:os[i]?=some os[i]:=List.getElem?_eq_getElem hi
   refine⟨_,rfl,_,rfl,ol,_,_,.str os[i],rfl,rfl,SqL.of (gg _ _ hol),by rw[e2]; exact vp (by rw[List.getElem?_map,eo]; rfl),?_⟩
   generalize hj:r'%(0+((i:Nat):Int)+1)=j at m0 m1
   refine⟨al,qs.map V.str,j,_,rfl,by rw[<-hj],hq,m0,by rw[List.length_map]; omega,by rw[List.length_map]; exact Nat.lt_of_lt_of_le (show qs.length<9 by omega) (by decide),?_⟩
   have nm:os[i]∉qs:=fun hm=>by
    obtain⟨m,hm1,em⟩:=List.getElem_of_mem ((mem _).mp hm)
    rw[List.length_take] at hm1
    rw[List.getElem_take] at em
    have:=(List.getElem_inj ho.nd).mp em
    omega
   refine⟨qs.take j.toNat++os[i]::qs.drop j.toNat,_,gg.over hal _,?_,?_,?_,?_,rfl⟩
   ·rw[zq]
    simp
   ·refine List.perm_middle.nodup_iff.mpr (List.nodup_cons.mpr ⟨?_,?_⟩)
    ·rw[List.take_append_drop]; exact nm
    ·rw[List.take_append_drop]; exact nd
   ·rw[List.length_append,List.length_cons,List.length_take,List.length_drop]
    omega
   ·intro x
    rw[List.perm_middle.mem_iff,List.mem_cons,List.take_append_drop,mem x,List.take_succ,eo,show(some os[i]).toList=[os[i]] from rfl,List.mem_append,List.mem_singleton]
    exact Or.comm
  ·rintro σ H' ⟨qs,f7,gg,hq,nd,le,mem,rfl⟩
   rw[List.take_length] at mem
   refine hu _ _ ⟨H1,ol,bk,p0,dl,tl,al,os,qs,rs,F,k0,k1,k2,d0,d1,d2,d3,js,Ns,g,rv,_,G.new gg,hk0,hN,hN2,gg _ _ hdl,x0,x1,x2,x3,S,gg _ _ htl,pj,rn,ln,?_,hq,⟨nd,fun x hx=>ho.mem x ((mem x).mp hx),by omega⟩,⟨fun x=>(mem x).symm,le.symm⟩,rfl⟩
   rcases ways with z | ⟨wl,ws,m,e,hwl,z⟩
   ·exact .inl z
   ·exact .inr ⟨wl,ws,m,e,gg _ _ hwl,z⟩
 refine⟨_,(zj (zcw (zu zdK hr rfl T.m_reordered T.RG.2 T.b_reordered .nil zy (za (pv 1) (za (pv 8) zc))) (TJ rfl (wN (yD (i:=15) vC.nd rfl (Or.inl rfl)) (wN (yD (i:=16) vC.nd rfl (Or.inr rfl)) WX))))
   (zj (zcI (tt:=Ua) (i:=10) vC.nd rfl (Or.inl rfl) (.inl rfl) (osc:=zA Ud) (js:=[16]) rfl (by show tY (zA Ud) _ "room" ["places"]; exact⟨rfl,by decide +kernel,by decide +kernel,rfl,by decide +kernel,by decide +kernel,by decide +kernel⟩) rfl (TV (vV (za (pv 2) (za (pv 3) (za (pv 4) zc))))) (by show ∀j∈([16]:List Nat),j<17; decide) (fun cl C s₂ H₂ fp pins s' σ' H' Q I h=>wpAny_pure ⟨H',I,h⟩) (fun cl C s₂ H₂ fp=>(zX (T8 (K:=K) rfl) (pv 1) (pv 0) (fun _ _=>rfl))) rfl)
   (zj (zH (i:=11) vC.nd rfl (Or.inl rfl) (xV (za (zu zd2 hr rfl T.m_image T.M7.2 T.b_image .nil zy (za (pv 15) (za (zX yr (pv 10) zp (fun _ _=>rfl)) (za (zX yr (pv 10) zp (fun _ _=>rfl)) zc)))) (za (zu JH hr rfl T.m_preimage T.Uq.2 T.b_preimage .nil zy (za (pv 15) (za (zX yr (pv 10) zp (fun _ _=>rfl)) (za (zX yr (pv 10) zp (fun _ _=>rfl)) zc)))) (za (zu za5 hr rfl T.m_reached T.Rb.2 T.b_reached .nil zy (za (pv 15) (za (zX yr (pv 10) zp (fun _ _=>rfl)) (za (zX yr (pv 10) zp (fun _ _=>rfl)) zc)))) zc)))))
   (zj (yt (wI PySem.F.plainAttrs_list PySem.F.slot_list_append PySem.F.type_list_append wK (pv 11) (za (zu zd3 hr rfl T.m_stays T.M9.2 T.b_stays .nil zy (za (pv 15) (za (zX yr (pv 10) zp (fun _ _=>rfl)) (za (zX yr (pv 10) zp (fun _ _=>rfl)) zc)))) zc)))
   (zj (yS (PW.pt (Ur (zV (zcS rfl (hu8 hr)) (pv 11) (Zz (osc:=zA Ud) (js:=[16]) rfl (by show tY (zA Ud) _ "room" ["places"]; exact⟨rfl,by decide +kernel,by decide +kernel,rfl,by decide +kernel,by decide +kernel,by decide +kernel⟩) rfl (wg (pv 5)) (by show ∀j∈([16]:List Nat),j<17; decide) (fun cl C s₂ H₂ fp=>(zX (T8 (K:=K) rfl) (pv 1) (pv 0) (fun _ _=>rfl)))) (zW _)) (Vy (zV (zcS rfl (hu8 hr)) (zu zcq hr rfl T.m_rounds T.QJ.2 T.b_rounds .nil zy (za (pv 15) (za (zX yr (pv 10) zp (fun _ _=>rfl)) (za (zX yr (pv 10) zp (fun _ _=>rfl)) zc)))) (Zz (osc:=zA Ud) (js:=[16]) rfl (by show tY (zA Ud) _ "room" ["places"]; exact⟨rfl,by decide +kernel,by decide +kernel,rfl,by decide +kernel,by decide +kernel,by decide +kernel⟩) rfl (wg (pv 6)) (by show ∀j∈([16]:List Nat),j<17; decide) (fun cl C s₂ H₂ fp=>(zX (T8 (K:=K) rfl) (pv 1) (pv 0) (fun _ _=>rfl)))) (zW _))))) (zx (zK Wd)) yu)
   (zj (zH (i:=12) vC.nd rfl (Or.inl rfl) (zu zcr hr rfl T.m_way_to T.QK.2 T.b_way_to .nil zy (za (pv 15) (za (zX yr (pv 10) zp (fun _ _=>rfl)) (za (zX yr (pv 10) zp (fun _ _=>rfl)) (za (zX yr (pv 10) zp (fun _ _=>rfl)) zc))))))
   (zj (yS (PW.pt (Ur (zV Vm (uf JQ (pv 12) Tz (zW _)) (uf JQ (pv 7) Tz (zW _)) (zW _)) (Vy (PW.pt (zct (zV zhq (pv 12) Tz (zW _)) (zaC (zV Vm (zU zQ rfl T.n_len yH (za (pv 12) zc)) (zU zQ rfl T.n_len yH (za (pv 7) zc)) (zW _)))))))) (zx (zK Wd)) yu)
   (zx (zK (zi0 (uf JQ (pv 12) Tz (zW _)) (zcu (uf ziO (zu zdL hr rfl T.m_way_shows T.RD.2 T.b_way_shows .nil zy (za (pv 1) (za (pv 2) (za (pv 3) (za (pv 4) (za (pv 12) zc)))))) Wd (zW _))))))))))))),?_⟩
 rintro σ H ⟨H1,ol,bk,p0,dl,tl,al,os,ps,rs,F,k0,k1,k2,d0,d1,d2,d3,js,Ns,g,rv,f9,G,hk0,hN,hN2,hdl,x0,x1,x2,x3,S,htl,pj,rn,ln,ways,hal,hop,mk,rfl⟩
 have ho:=G.ho
 have hW:=G.hW
 have hWp:=mk.world hW
 have BK:=G.B
 have ll:=G.led.len
 refine⟨_,rfl,_,rfl,bk,al,os,ps,rs,F,rfl,G.led.bk,SqL.of hal,hop,mk,by omega,fun t nb pl Hb nw Gf qs Sb ft ht hNb hGf fpl npl hpl ql ms lnw=>?_⟩
 refine⟨t,_,rfl,SqT.of ht,rfl,_,_,rfl,_,_,rfl,rfl,?_⟩
 have Nd:uF a.zf H nb ps (63*17016) Hb nw Gf:=⟨Sb,hGf,hNb,Nat.le_trans lnw (Nat.mul_le_mul_left _ (by omega))⟩
 have ek:∀{k:Nat},k<rs.length->qs[k]?=some (qs.getD k 0):=fun {k} hk=>by rw[List.getD_eq_getElem?_getD,List.getElem?_eq_getElem (by omega)]; rfl
 have tB':∀{k:Nat},k<rs.length->qs.getD k 0<nw.length/\tB nw (qs.getD k 0)=fun c=>tB rs k (tw os ps c):=fun {k} hk=>⟨(ms k _ (ek hk)).1,funext fun c=>ziW BK hk (ms k _ (ek hk)) c⟩
 have at_:∀{k:Nat},k<rs.length->atI (zN qs) ((k:Nat):Int)=some (V.int (qs.getD k 0:Nat)):=fun {k} hk=>vp (Lr (ek hk))
 have hpl':Hb pl=some (.lst (zN qs)):=hpl
 refine⟨_,rfl,_,rfl,_,rfl,by show 3<=sizeLine; decide,fun tp htp=>?_⟩
 have g1:=Same.new htp (.tup [.int (k0:Nat),.int (k1:Nat),.int (k2:Nat)])
 have e1:upd Hb tp (.tup [.int (k0:Nat),.int (k1:Nat),.int (k2:Nat)]) tp=some (.tup [.int (k0:Nat),.int (k1:Nat),.int (k2:Nat)]):=zq
 generalize upd Hb tp (.tup [.int (k0:Nat),.int (k1:Nat),.int (k2:Nat)])=Hc at g1 e1
 have hpl1:=g1 _ _ hpl'
 refine⟨tp,rfl,⟨_,SqT.of e1⟩,?_⟩
 refine zaM (xs:=[.int (k0:Nat),.int (k1:Nat),.int (k2:Nat)]) (fun x v=>v=(match x with | .int k=>V.int ((qs.getD k.toNat 0:Nat):Int) | _=>V.non)) (SqT.of e1) (by show 3<=sizeLine; decide) (fun i x H' hx g'=>?_) (fun _ _ _ _ h ⟨v1,z1,v2,z2,a0,b0,c0,d0,y1,y2,y3,y4,y5⟩=>⟨v1,z1,v2,z2,a0,b0,c0,d0,y1,y2,y3,y4,h _ _ y5⟩) (fun ys Hd thl hp gd hthl=>?_)
 ·have key:∃kk:Nat,x=.int (kk:Nat)/\kk<rs.length:=by
   match i,hx with
   | 0,hx=>cases hx; exact⟨k0,rfl,hk0⟩
   | 1,hx=>cases hx; exact⟨k1,rfl,hN.1⟩
   | 2,hx=>cases hx; exact⟨k2,rfl,hN2.1⟩
  obtain⟨kk,rfl,hkk⟩:=key
  exact⟨_,rfl,_,rfl,pl,_,_,_,rfl,rfl,SqL.of (g' _ _ hpl1),at_ hkk,rfl,g'⟩
 have ey:ys=zN [qs.getD k0 0,qs.getD k1 0,qs.getD k2 0]:=by
  rw[T7 hp]
  show [V.int ((qs.getD ((k0:Nat):Int).toNat 0:Nat):Int),V.int ((qs.getD ((k1:Nat):Int).toNat 0:Nat):Int),V.int ((qs.getD ((k2:Nat):Int).toNat 0:Nat):Int)]=_
  rw[Int.toNat_natCast,Int.toNat_natCast,Int.toNat_natCast]
  rfl
 rw[ey]
 have gth:=Same.new hthl (.lst (zN [qs.getD k0 0,qs.getD k1 0,qs.getD k2 0]))
 have eth:upd Hd thl (.lst (zN [qs.getD k0 0,qs.getD k1 0,qs.getD k2 0])) thl=some (.lst [.int (qs.getD k0 0:Nat),.int (qs.getD k1 0:Nat),.int (qs.getD k2 0:Nat)]):=zq
 have N1:=Nd.new (g1.trans gd)
 have nth:¬Gf thl:=L.fresh N1.bk hthl
 have hplE:=(gd.trans gth) _ _ hpl1
 have N2:=N1.new gth
 generalize upd Hd thl (.lst (zN [qs.getD k0 0,qs.getD k1 0,qs.getD k2 0]))=He at gth eth hplE N2
 have NB:=L.bk N2.bk
 obtain⟨jl0,te⟩:=tB' hk0
 obtain⟨jl1,fe⟩:=tB' hN.1
 obtain⟨jl2,ge⟩:=tB' hN2.1
 have hf:∀p∈zG os,Bdd.Free os.length (tB rs k1) p:=hN.2
 have hg:∀p∈zG os,Bdd.Free os.length (tB rs k2) p:=hN2.2
 have o1:wD ps nw (qs.getD k1 0):=⟨jl1,by
  have z:=UJ ho hop mk hW hWp hf
  rw[<-fe] at z
  exact z⟩
 have o2:wD ps nw (qs.getD k2 0):=⟨jl2,by
  have z:=UJ ho hop mk hW hWp hg
  rw[<-ge] at z
  exact z⟩
 generalize hj0:qs.getD k0 0=j0 at eth te jl0
 generalize hj1:qs.getD k1 0=j1 at eth fe jl1 o1
 generalize hj2:qs.getD k2 0=j2 at eth ge jl2 o2
 have b0:=N2.len
 have at2:atI [V.int (j0:Nat),.int (j1:Nat),.int (j2:Nat)] 2=some (.int (j2:Nat)):=rfl
 refine⟨_,rfl,_,rfl,thl,_,_,_,rfl,rfl,SqL.of eth,at0,_,rfl,thl,_,_,_,rfl,rfl,SqL.of eth,at1,nb,ps,nw,Gf,j0,j1,rfl,N2.bk,by omega,hWp,jl0,o1,fun i0 nw1 Hf aw1 tu1 hB1 gr1 m0 hh1=>?_⟩
 have N3:=N2.rise aw1 hB1 hh1
 have eth1:=aw1 _ _ eth nth
 have b1:=N3.len
 have NB1:=L.bk hB1
 have jl01:=Nat.lt_of_lt_of_le jl0 gr1.len
 have o11:=o1.grown NB gr1
 have te1:=(yV NB gr1 jl0).trans te
 have fe1:=(yV NB gr1 jl1).trans fe
 refine⟨_,rfl,_,rfl,thl,_,_,_,rfl,rfl,SqL.of eth1,at0,_,rfl,thl,_,_,_,rfl,rfl,SqL.of eth1,at1,nb,ps,nw1,Gf,j0,j1,rfl,N3.bk,by omega,hWp,jl01,o11,fun i1 nw2 Hg aw2 tu2 hB2 gr2 m1 hh2=>?_⟩
 have N4:=N3.rise aw2 hB2 hh2
 have eth2:=aw2 _ _ eth1 nth
 have b2:=N4.len
 have NB2:=L.bk hB2
 have jl02:=Nat.lt_of_lt_of_le jl01 gr2.len
 have o12:=o11.grown NB1 gr2
 have te2:=(yV NB1 gr2 jl01).trans te1
 have fe2:=(yV NB1 gr2 o11.1).trans fe1
 refine⟨_,rfl,_,rfl,thl,_,_,_,rfl,rfl,SqL.of eth2,at0,_,rfl,thl,_,_,_,rfl,rfl,SqL.of eth2,at1,nb,ps,nw2,Gf,j0,j1,rfl,N4.bk,by omega,hWp,jl02,o12,fun Na rna nla i2 nw3 Hh aw3 tu3 hB3 gr3 m2 hh3=>?_⟩
 rw[te2,fe2] at rna m2
 rw[Qn ho hop mk hW hWp rn rna] at m2
 have N5:=N4.rise aw3 hB3 hh3
 have eth3:=aw3 _ _ eth2 nth
 have b3:=N5.len
 have NB3:=L.bk hB3
 have jl03:=Nat.lt_of_lt_of_le jl02 gr3.len
 have o13:=o12.grown NB2 gr3
 have te3:=(yV NB2 gr3 jl02).trans te2
 have fe3:=(yV NB2 gr3 o12.1).trans fe2
 refine⟨by show 3<=sizeLine; decide,fun fl hfl=>?_⟩
 have g4:=Same.new hfl (.lst [.int (i0:Nat),.int (i1:Nat),.int (i2:Nat)])
 have e4:upd Hh fl (.lst [.int (i0:Nat),.int (i1:Nat),.int (i2:Nat)]) fl=some (.lst (zN [i0,i1,i2])):=zq
 have nfl:¬Gf fl:=L.fresh N5.bk hfl
 have ffl:H fl=none:=N5.same.free hfl
 generalize upd Hh fl (.lst [.int (i0:Nat),.int (i1:Nat),.int (i2:Nat)])=Hi at g4 e4
 have N6:=N5.new g4
 have eth4:=g4 _ _ eth3
 refine⟨_,rfl,.inl ⟨rfl,_,SqL.of e4⟩,_,rfl,_,rfl,thl,_,_,_,rfl,rfl,SqL.of eth4,at0,_,rfl,thl,_,_,_,rfl,rfl,SqL.of eth4,at1,nb,ps,nw3,Gf,j0,j1,rfl,N6.bk,by omega,hWp,jl03,o13,fun gS S2 i3 nw4 Hj aw4 tu4 hB4 gr4 m3 hh4=>?_⟩
 rw[te3,fe3] at S2
 have N7:=N6.rise aw4 hB4 hh4
 have e7:=aw4 _ _ e4 nfl
 have eth5:=aw4 _ _ eth4 nth
 have NB4:=L.bk hB4
 have jl04:=Nat.lt_of_lt_of_le jl03 gr4.len
 have o14:=o13.grown NB3 gr4
 have te4:=(yV NB3 gr4 jl03).trans te3
 have fe4:=(yV NB3 gr4 o13.1).trans fe3
 have hplJ:=aw4 _ _ (g4 _ _ (aw3 _ _ (aw2 _ _ (aw1 _ _ hplE npl) npl) npl)) npl
 refine⟨fl,_,_,rfl,rfl,e7,by show 3<sizeLine; decide,?_⟩
 have N8:uF a.zf H nb ps (63*17016+63+63+63+63) (upd Hj fl (.lst (zN [i0,i1,i2]++[.int (i3:Nat)]))) nw4 Gf:=⟨N7.same.over ffl _,N7.away,L.lst N7.bk e7 nfl _,N7.hi⟩
 have e8:upd Hj fl (.lst (zN [i0,i1,i2]++[.int (i3:Nat)])) fl=some (.lst (zN [i0,i1,i2,i3])):=zq
 have nfp:fl≠pl:=fun z=>by
  rw[z] at ffl
  rw[z] at hfl
  rw[(aw3 _ _ (aw2 _ _ (aw1 _ _ hplE npl) npl) npl)] at hfl
  cases hfl
 have nft':thl≠fl:=fun z=>by
  rw[<-z,eth3] at hfl
  cases hfl
 have eth8:upd Hj fl (.lst (zN [i0,i1,i2]++[.int (i3:Nat)])) thl=some (.lst [.int (j0:Nat),.int (j1:Nat),.int (j2:Nat)]):=by rw[zB nft']; exact eth5
 have pl8:upd Hj fl (.lst (zN [i0,i1,i2]++[.int (i3:Nat)])) pl=some (.lst (zN qs)):=by rw[zB (Ne.symm nfp)]; exact hplJ
 generalize upd Hj fl (.lst (zN [i0,i1,i2]++[.int (i3:Nat)]))=Hk at N8 e8 eth8 pl8
 have hdlK:=N8.same _ _ hdl
 have htlK:=N8.same _ _ htl
 have g14:=gr1.trans (gr2.trans (gr3.trans gr4))
 have pr:∀{d:Nat},d<rs.length->RB ps nw (qs.getD d 0) (fun c=>tB rs d (tw os ps c)):=fun {d} hd=>⟨(tB' hd).1,fun b _=>by rw[(tB' hd).2]⟩
 have E0:i0=qs.getD d0 0:=RB.one NB4 (((((RB.means m0).grown NB1 gr2).grown NB2 gr3).grown NB3 gr4)) ((pr x0.1).grown NB g14) fun b hb=>by
  have te':(fun c=>Bdd.yes nw j0 (Bdd.xg c))=fun c=>tB rs k0 (tw os ps c):=te
  have fe':(fun c=>Bdd.yes nw j1 (Bdd.xg c))=fun c=>tB rs k1 (tw os ps c):=fe
  rw[te',fe',zdh ho hop mk hW hWp hb,x0.2 _ (xW b)]
 have E1:i1=qs.getD d1 0:=RB.one NB4 ((((RB.means m1).grown NB2 gr3).grown NB3 gr4)) ((pr x1.1).grown NB g14) fun b hb=>by
  have te':(fun c=>Bdd.yes nw1 j0 (Bdd.xg c))=fun c=>tB rs k0 (tw os ps c):=te1
  have fe':(fun c=>Bdd.yes nw1 j1 (Bdd.xg c))=fun c=>tB rs k1 (tw os ps c):=fe1
  rw[te',fe',zgc ho hop mk hW hWp hf (UJ ho hop mk hW hWp hf) hb,x1.2 _ (xW b)]
 have E2:i2=qs.getD d2 0:=RB.one NB4 ((RB.means m2).grown NB3 gr4) ((pr x2.1).grown NB g14) fun b hb=>by
  rw[(Wq ho hop mk hW hWp Ns.length hb).2,x2.2 _ (xW b)]
 have E3:i3=qs.getD d3 0:=RB.one NB4 (RB.means m3) ((pr x3.1).grown NB g14) fun b hb=>by
  rw[zia ho hop mk hW hWp hf S S2 hb,x3.2 _ (xW b)]
 have mapq:∀(Hz:Hp) (ks:List Nat) (kl:Addr),Hz pl=some (.lst (zN qs))->(∀x∈ks,x<rs.length)->∀(x:Nat),x∈ks->atI (zN qs) ((x:Nat):Int)=some (V.int (qs.getD x 0:Nat)):=fun Hz ks kl _ h x hx=>at_ (h x hx)
 refine⟨_,rfl,_,rfl,dl,rfl,⟨_,SqL.of hdlK⟩,?_⟩
 refine zeC (xs:=zN [d0,d1,d2,d3]) (fun x=>match x with | .int k=>V.int ((qs.getD k.toNat 0:Nat):Int) | _=>V.non) (SqL.of hdlK) (by show 4<=sizeLine; decide) (fun i x H' Q0 hx g' hQ=>?_) (fun H' el g' hel=>?_)
 ·obtain⟨xx,hxx,rfl⟩:=Sy hx
  have hxr:xx<rs.length:=by
   have:=List.mem_of_getElem? hxx
   simp only[List.mem_cons,List.not_mem_nil,or_false] at this
   rcases this with e | e | e | e<;>subst e
   ·exact x0.1
   ·exact x1.1
   ·exact x2.1
   ·exact x3.1
  exact⟨_,rfl,_,rfl,pl,_,_,_,rfl,rfl,SqL.of (g' _ _ pl8),at_ hxr,hQ _ (Same.refl _)⟩
 have gel:=Same.new hel (.lst ((zN [d0,d1,d2,d3]).map fun x=>match x with | .int k=>V.int ((qs.getD k.toNat 0:Nat):Int) | _=>V.non))
 have eel:upd H' el (.lst ((zN [d0,d1,d2,d3]).map fun x=>match x with | .int k=>V.int ((qs.getD k.toNat 0:Nat):Int) | _=>V.non)) el=some (.lst (zN [qs.getD d0 0,qs.getD d1 0,qs.getD d2 0,qs.getD d3 0])):=by rw[zq]; rfl
 have gk:=g'.trans gel
 generalize upd H' el (.lst ((zN [d0,d1,d2,d3]).map fun x=>match x with | .int k=>V.int ((qs.getD k.toNat 0:Nat):Int) | _=>V.non))=Hl at gel eel gk
 refine⟨_,(by rintro⟨z,_⟩; cases z),zdb (SqL.of (gk _ _ e8)) (SqL.of eel),_,rfl,?_⟩
 rw[decide_eq_true (show [i0,i1,i2,i3]=[qs.getD d0 0,qs.getD d1 0,qs.getD d2 0,qs.getD d3 0] by rw[E0,E1,E2,E3])]
 refine vN ?_
 have N9:=N8.new gk
 have b9:=N9.len
 have ethL:=gk _ _ eth8
 have plL:=gk _ _ pl8
 refine⟨_,rfl,_,rfl,thl,_,_,_,rfl,rfl,SqL.of ethL,at0,_,rfl,thl,_,_,_,rfl,rfl,SqL.of ethL,at1,nb,ps,nw4,Gf,j0,j1,rfl,N9.bk,by omega,hWp,jl04,o14,fun rl Hm nw5 js5 Nm awm tum hBm grm hhm frl nrl hrl pjm ojm rnm lnm=>?_⟩
 rw[te4,fe4] at rnm
 have en:=Qn ho hop mk hW hWp rn rnm
 have N10:=N9.rise awm hBm hhm
 have NB5:=L.bk hBm
 have ethM:=awm _ _ ethL nth
 have plM:=awm _ _ plL npl
 have htlM:=N10.same _ _ htl
 have jsl:∀x∈js,x<rs.length:=fun x hx=>by
  obtain⟨i,hi,e⟩:=List.mem_iff_getElem.mp hx
  obtain⟨N,_,z⟩:=Q5 pj (List.getElem?_eq_getElem hi)
  rw[<-e]
  exact z.1
 have ljs:js.length<=256:=by rw[wu pj]; exact ln
 refine⟨_,rfl,tl,rfl,⟨_,SqL.of htlM⟩,?_⟩
 refine zeC (xs:=zN js) (fun x=>match x with | .int k=>V.int ((qs.getD k.toNat 0:Nat):Int) | _=>V.non) (SqL.of htlM) (by unfold zN; rw[List.length_map]; exact Nat.le_of_lt (yC (by omega))) (fun i x H' Q0 hx g' hQ=>?_) (fun H' el2 g' hel2=>?_)
 ·obtain⟨xx,hxx,rfl⟩:=Sy hx
  exact⟨_,rfl,_,rfl,pl,_,_,_,rfl,rfl,SqL.of (g' _ _ plM),at_ (jsl xx (List.mem_of_getElem? hxx)),hQ _ (Same.refl _)⟩
 have ge2:=Same.new hel2 (.lst ((zN js).map fun x=>match x with | .int k=>V.int ((qs.getD k.toNat 0:Nat):Int) | _=>V.non))
 have ee2:upd H' el2 (.lst ((zN js).map fun x=>match x with | .int k=>V.int ((qs.getD k.toNat 0:Nat):Int) | _=>V.non)) el2=some (.lst (zN (js.map fun x=>qs.getD x 0))):=by
  rw[zq]
  unfold zN
  rw[List.map_map,List.map_map]
  rfl
 have gm:=g'.trans ge2
 generalize upd H' el2 (.lst ((zN js).map fun x=>match x with | .int k=>V.int ((qs.getD k.toNat 0:Nat):Int) | _=>V.non))=Hn at ge2 ee2 gm
 have EJ:js5=js.map fun x=>qs.getD x 0:=by
  refine List.ext_getElem? fun i=>?_
  have l5:=wu pjm
  have lj:=wu pj
  rw[List.getElem?_map]
  rcases Nat.lt_or_ge i js.length with z | z
  ·obtain⟨y,hy⟩:∃y,js[i]?=some y:=⟨_,List.getElem?_eq_getElem z⟩
   obtain⟨y5,hy5⟩:∃y,js5[i]?=some y:=⟨_,List.getElem?_eq_getElem (by omega)⟩
   rw[hy,hy5]
   obtain⟨N,hNn,tab⟩:=Q5 pj hy
   obtain⟨N5,hN5,tab5⟩:=Q5 pjm hy5
   refine congrArg some (RB.one NB5 (h:=(rnd ps (fun c=>tB rs k0 (tw os ps c)) (fun c=>tB rs k1 (tw os ps c)) i).1) ⟨tab5.1,fun b hb=>?_⟩ (((pr tab.1).grown NB g14).grown NB4 grm) fun b hb=>?_)
   ·have a1:=tab5.2 b
    have a2:=(rnm.tab i N5 hN5).1 b
    rw[decide_eq_true hb,Bool.true_and] at a1 a2
    exact a1.symm.trans a2
   ·rw[(Wq ho hop mk hW hWp i hb).1]
    have a1:=tab.2 (tw os ps b)
    have a2:=(rn.tab i N hNn).1 (tw os ps b)
    rw[decide_eq_true (xW b),Bool.true_and] at a1 a2
    exact a2.symm.trans a1
  ·rw[List.getElem?_eq_none z,List.getElem?_eq_none (by omega)]
   rfl
 refine⟨_,(by rintro⟨z,_⟩; cases z),zdb (SqL.of (gm _ _ hrl)) (SqL.of ee2),_,rfl,?_⟩
 rw[decide_eq_true EJ]
 refine vN ?_
 have N11:=N10.new gm
 have ethN:=gm _ _ ethM
 have jl05:=Nat.lt_of_lt_of_le jl04 grm.len
 have o15:=o14.grown NB4 grm
 have o25:=(o2.grown NB g14).grown NB4 grm
 have te5:=(yV NB4 grm jl04).trans te4
 have fe5:=(yV NB4 grm o14.1).trans fe4
 have ge5:tB nw5 j2=fun c=>tB rs k2 (tw os ps c):=(yV NB4 grm (o2.grown NB g14).1).trans ((yV NB g14 jl2).trans ge)
 have GN:=G.new N11.same
 refine⟨_,rfl,_,rfl,thl,_,_,_,rfl,rfl,SqL.of ethN,at0,_,rfl,thl,_,_,_,rfl,rfl,SqL.of ethN,at1,_,rfl,thl,_,_,_,rfl,rfl,SqL.of ethN,at2,nb,ps,nw5,Gf,j0,j1,j2,rfl,N11.bk,hWp,jl05,o15,o25,fun Ho Nz go rz no=>?_,fun wl2 Ho ws2 Nz m2' go fwl2 hwl2 rz mz meet pq=>?_⟩
 ·rw[te5,fe5] at rz
  rw[te5,fe5,ge5] at no
  rcases ways with ⟨rfl,_⟩ | ⟨wl,ws,m,_,_,_,hm,hM⟩
  ·refine⟨_,rfl,rfl,_,rfl,rfl,rfl,_,rfl,Qh rfl ?_⟩
   refine⟨_,rfl,rfl,_,rfl,zhf rfl (vN ?_)⟩
   exact⟨_,rfl,rfl,_,rfl,Xb (q _)⟩
  ·exfalso
   obtain⟨⟨b,hb,c1,c2⟩,_⟩:=hM
   have z:=no m (by rw[Qn ho hop mk hW hWp rn rz]; exact hm) (tw ps os b) (xW b) (by rw[(Wq ho hop mk hW hWp m (xW b)).1,Xr mk.symm' ho hb]; exact c1)
   dsimp only at z
   rw[Xr mk.symm' ho hb,c2] at z
   cases z
 ·rw[te5,fe5] at rz
  rw[te5,fe5,ge5] at meet pq
  have hM:=zib ho hop mk hW hWp meet
  rcases ways with ⟨_,nm⟩ | ⟨wl,ws,m,rfl,hwl,lws,hm,hM'⟩
  ·exfalso
   obtain⟨⟨b,hb,c1,c2⟩,_⟩:=hM
   rw[nm m2' (by rw[<-Qn ho hop mk hW hWp rn rz]; exact mz) b hb c1] at c2
   cases c2
  ·have em:m2'=m:=hM.eq hM'
   obtain⟨rr,er,lr,first,last,step⟩:=ziY (f:=tB rs k1) ho hop mk hW hWp hf meet
   rw[<-er] at pq
   have hwlO:=(GN.new go).led.same
   have hwl':Ho wl=some (.lst (ws.map V.ref)):=go _ _ (N11.same _ _ hwl)
   have lw2:ws2.length=m2'+1:=by rw[wu pq]; exact lr
   have nn:∀x:Addr,decide (V.ref x=V.non)=false:=fun x=>decide_eq_false (fun z=>nomatch z)
   refine⟨_,rfl,rfl,_,rfl,rfl,rfl,_,rfl,Qh (by rw[nn,nn]) ?_⟩
   refine⟨_,rfl,rfl,_,rfl,?_⟩
   rw[nn]
   refine Xb ?_
   refine⟨_,rfl,wl2,_,rfl,.inl (SqL.of hwl2),_,rfl,wl,_,rfl,.inl (SqL.of hwl'),rfl,_,rfl,zhf (by rw[List.length_map,List.length_map,lw2,lws,em]) ?_⟩
   refine⟨_,rfl,rfl,_,rfl,?_⟩
   rw[nn]
   refine vN ?_
   have lens:∀r∈rr,r.length=(yK os).length:=fun r hr=>by
    rw[er] at hr
    have z:=zbJ ps _ _ _ (Qm _ _ _) r (List.mem_reverse.mp hr)
    unfold zO at z
    rw[List.length_map,mk.yK] at z
    exact z
   have enz:=Qn ho hop mk hW hWp rn rz
   refine⟨_,rfl,_,rfl,_,rfl,_,rfl,_,rfl,bk,wl2,os,rs,F,k0,k1,k2,ws2,rr,rfl,(GN.new go).led.bk,hW,hk0,hN,hN2,hwl2,pq,lens,by omega,first,last,step,fun Hz gz=>⟨true,true,rfl,rfl,q _⟩⟩
end
end K92
namespace K92
open PySem L2 Sen
section
variable {P:Program} {w:World} {K:PySem.W.Frag} {mg:Str->Option Value} {base:Heap} {a:Ad} {k:Nat}
theorem law_all (T:Txt P w K mg a) (base:Heap):zm P w K mg base CX0 60 a.zb9 a.JB ["script"] (ze6 K):=by
 have cell:zm P w K mg base CX0 1 a.xR a.xT ["script", "k"] (Je K):=zfg (k:=0) T
 have draw:zm P w K mg base CX0 1 a.uw a.ux ["cell", "k", "bound"] Mh:=zic (k:=0) T
 have sentence:=zdW (k:=1) T cell draw
 have allRows:zm P w K mg base CX0 2 a.uM a.uN ["marks"] Xn:=zdV (k:=1) T
 have rowsWith:zm P w K mg base CX0 1 a.wF a.wG ["place", "marks"] vW:=zdr (k:=0) T
 have flipped:=zff (k:=1) T rowsWith
 have isMark:zm P w K mg base CX0 1 a.Xh a.Xi ["letter"] T9:=zfh (k:=0) T
 have isOrder:=zdX (k:=1) T isMark
 have lettersOf:zm P w K mg base CX0 1 a.tO a.tQ ["sentence"] Vn:=zbZ (k:=0) T
 have partsOf:zm P w K mg base CX0 1 a.uO a.uP ["sentence"] Xp:=zdY (k:=0) T
 have partsOfAll:=zan (k:=1) T partsOf
 have shaped:=zds (k:=1) T isMark lettersOf partsOf
 have isSen:=zaY (k:=2) T shaped partsOfAll
 have mustOrder:=Jr (k:=2) T isOrder
 have mustSen:=PB (k:=3) T isSen
 have tuplesIn:=zdu (k:=2) T partsOfAll
 have lettersIn:=zb0 (k:=3) T tuplesIn (lettersOf.mono (by decide))
 have mustMark:zm P w K mg base CX0 1 a.ug a.uh ["order", "letter"] (Q7 K):=Lz (k:=0) T
 have mustMarks:=MK (k:=4) T lettersIn (mustMark.mono (by decide))
 have two:zm P w K mg base CX0 2 a.v8 a.v9 ["word", "one", "other", "every"] zcd:=zao (k:=1) T
 have table:=Kz (k:=2) T allRows (rowsWith.mono (by decide)) flipped (partsOf.mono (by decide)) two 24
 have heldAt:=zfi (k:=2) T (rowsWith.mono (by decide)) flipped
 have hangs:=zdZ (k:=2) T flipped
 have first:=zaZ (k:=3) T hangs
 have roomWith:=VJ (k:=4) T first (heldAt.mono (by decide)) 9
 have enter:=za0 (k:=26) T (mustSen.mono (by decide)) (mustMarks.mono (by decide)) table (roomWith.mono (by decide))
 have init:=zdv (k:=3) T mustOrder (allRows.mono (by decide))
 have mbr:zm P w K mg base CX0 1 a.xP a.xQ ["self", "number"] (Wm a.zf):=Pq (k:=0) T
 have tat:zm P w K mg base CX0 1 a.yE a.yF ["self", "number"] (wW a.zf):=Js (k:=0) T
 have ordr:zm P w K mg base CX0 1 a.yO a.yP ["self"] (xJ (zR a.zf)):=zb2 (k:=0) T
 have withoutF:zm P w K mg base CX0 1 a.Z1 a.Z2 ["table", "other"] VH:=zfj (k:=0) T
 have chosenF:=zgj (k:=1) T withoutF
 have wC:zm P w K mg base CX0 1 a.xR a.xT ["script", "k"] (Lj K):=zgi (k:=0) T
 have forAny:=zfk (k:=2) T flipped
 have moved:=zg8 (k:=3) T heldAt (rowsWith.mono (by decide)) (chosenF.mono (by decide))
 have yK:=zdy (k:=1) T ordr
 have wX:=zb4 (k:=1) T ordr
 have nowPl:=zb5 (k:=2) T (ordr.mono (by decide)) yK
 have thenPl:=za2 (k:=2) T (ordr.mono (by decide)) wX
 have after:=zg9 (k:=4) T (ordr.mono (by decide)) (tat.mono (by decide)) (nowPl.mono (by decide)) (thenPl.mono (by decide)) (forAny.mono (by decide)) moved
 have before:=zgl (k:=4) T (ordr.mono (by decide)) (tat.mono (by decide)) (nowPl.mono (by decide)) (thenPl.mono (by decide)) (forAny.mono (by decide)) moved
 have mWorld:=Ju (k:=1) T ordr
 have mNow:=LC (k:=3) T (ordr.mono (by decide)) (tat.mono (by decide)) (mbr.mono (by decide)) thenPl hangs
 have mWith:=Qo (k:=4) T (mWorld.mono (by decide)) (mbr.mono (by decide)) mNow
 have image:=zha (k:=13) T (mWith.mono (by decide)) roomWith (tat.mono (by decide)) (after.mono (by decide))
 have preimage:=zd0 (k:=13) T (mWith.mono (by decide)) roomWith (tat.mono (by decide)) (before.mono (by decide))
 have rTabs:=zap (k:=5) T (tat.mono (by decide)) after (withoutF.mono (by decide))
 have rounds:=zgm (k:=13) T (mWith.mono (by decide)) (rTabs.mono (by decide)) roomWith
 have lnow:zm P w K mg base CX0 1 a.YB a.YC ["order"] (zc6 K):=zfm (k:=0) T
 have lworld:=zdz (k:=1) T draw
 have reached:=zfl (k:=13) T (mWith.mono (by decide)) (rTabs.mono (by decide)) roomWith
 have stays:=zhb (k:=13) T (mWith.mono (by decide)) (tat.mono (by decide)) (before.mono (by decide)) roomWith
 have plc:zm P w K mg base CX0 1 a.uT a.uU ["self", "number"] (Mr a.zf):=Jt (k:=0) T
 have goi:zm P w K mg base CX0 1 a.Z4 a.Z5 ["self", "number", "value"] (zaS a.zf):=zb3 (k:=0) T
 have size:zm P w K mg base CX0 1 a.Yy a.Yz ["self"] (Pa (zR a.zf)):=zdw (k:=0) T
 have room:=zdx (k:=1) T mbr plc goi
 have isRow:zm P w K mg base CX0 1 a.Ti a.Tj ["order", "row"] (zaN K):=zgk (k:=0) T
 have mustRow:=za1 (k:=1) T isRow
 have lboth:=zb6 (k:=2) T (wC.mono (by decide)) sentence lworld
 have fvals:=zaq (k:=3) (K:=K) T heldAt
 have having:=za3 (k:=2) (K:=K) T allRows (rowsWith.mono (by decide)) (withoutF.mono (by decide))
 have fnow:=zar (k:=4) (K:=K) T fvals (nowPl.mono (by decide)) (ordr.mono (by decide))
 have only:=zid (k:=3) (K:=K) T having nowPl (ordr.mono (by decide))
 have through:=za4 (k:=5) (K:=K) T fnow before (only.mono (by decide))
 have wayTo:=zgn (k:=6) (K:=K) T (mWith.mono (by decide)) rTabs (tat.mono (by decide)) through
 have shows:=zb7 (k:=6) (K:=K) T (mWith.mono (by decide)) (yK.mono (by decide)) (mustRow.mono (by decide)) (only.mono (by decide)) (tat.mono (by decide)) (after.mono (by decide))
 have roomIn:=zd1 (k:=13) T (room.mono (by decide)) (ordr.mono (by decide)) (rowsWith.mono (by decide)) (chosenF.mono (by decide)) (tat.mono (by decide)) roomWith
 have roomsIn:=zdA (k:=14) T roomIn
 have reord:=zb8 (k:=14) (K:=K) T (ordr.mono (by decide)) (size.mono (by decide)) (init.mono (by decide)) roomsIn
 exact ok_law (k:=58) T (wC.mono (by decide)) (draw.mono (by decide)) (lboth.mono (by decide)) (lnow.mono (by decide)) (sentence.mono (by decide)) (init.mono (by decide)) (enter.mono (by decide)) (image.mono (by decide)) (preimage.mono (by decide)) (reached.mono (by decide)) (stays.mono (by decide)) (rounds.mono (by decide)) (wayTo.mono (by decide)) (reord.mono (by decide)) (shows.mono (by decide))
end
end K92
def PySem.W.Fast.tw12496515105044966774:Nat:=0
def PySem.W.Fast.tw11278100427243578508:Nat:=0
def PySem.W.Fast.tw5243548238911722981:Nat:=0
def PySem.W.Fast.tw11678623044622362500:Nat:=0
def PySem.W.Fast.tw6508341820523096263:Nat:=0
def PySem.W.Fast.tw7957011060438907035:Nat:=0
def PySem.W.Fast.tw15826209286187087570:Nat:=0
def PySem.W.Fast.tw2228855714968878284:Nat:=0
def PySem.W.Fast.tw7926395501555911581:Nat:=0
def PySem.W.Fast.tw13794594903966591463:Nat:=0
def PySem.W.Fast.tw1781617895875090747:Nat:=0
def PySem.W.Fast.tw10305226160790981288:Nat:=0
def PySem.W.Fast.tw2292475587679060517:Nat:=0
def PySem.W.Fast.tw3364245598551743669:Nat:=0
def PySem.W.Fast.tw12185993671636956998:Nat:=0
def PySem.W.Fast.tw4351977385630505449:Nat:=0
def PySem.W.Fast.tw8597379859129980760:Nat:=0
def PySem.W.Fast.tw6828405923062504665:Nat:=0
def PySem.W.Fast.tw10552386389162768439:Nat:=0
def PySem.W.Fast.tw513166587844673689:Nat:=0
def PySem.W.Fast.tw13343898340612833227:Nat:=0
def PySem.W.Fast.tw5574616788425139364:Nat:=0
def PySem.W.Fast.tw2055129745837913960:Nat:=0
def PySem.W.Fast.tw3162517771730409608:Nat:=0
def PySem.W.Fast.tw17603326006808503640:Nat:=0
def PySem.W.Fast.tw18147795798209839078:Nat:=0
def PySem.W.Fast.tw3289028859897963033:Nat:=0
def PySem.W.Fast.tw7394450540804189453:Nat:=0
def PySem.W.Fast.tw17147499823282323253:Nat:=0
def PySem.W.Fast.tw14750066818720612840:Nat:=0
def PySem.W.Fast.tw14910430889337738533:Nat:=0
def PySem.W.Fast.tw5265020611696915265:Nat:=0
def PySem.W.Fast.tw7081091455794762284:Nat:=0
def PySem.W.Fast.tw11658577964582007739:Nat:=0
def PySem.W.Fast.tw11536007896893635835:Nat:=0
def PySem.W.Fast.tw3446462871801565675:Nat:=0
def PySem.W.Fast.tw5528083162528719363:Nat:=0
def PySem.W.Fast.tw16543816628630475852:Nat:=0
def PySem.W.Fast.tw9900255283390441667:Nat:=0
def PySem.W.Fast.tw9071155215122195938:Nat:=0
def PySem.W.Fast.tw11753742641921391358:Nat:=0
def PySem.W.Fast.tw2072518102510198148:Nat:=0
def PySem.W.Fast.tw14388232608402993378:Nat:=0
def PySem.W.Fast.tw4742105376627566955:Nat:=0
def PySem.W.Fast.tw3221760133027504898:Nat:=0
def PySem.W.Fast.tw9411335403441252830:Nat:=0
def PySem.W.Fast.tw781046664669864546:Nat:=0
def PySem.W.Fast.tw324545803958699978:Nat:=0
def PySem.W.Fast.tw341391399903201317:Nat:=0
def PySem.W.Fast.tw6570781233864810486:Nat:=0
def PySem.W.Fast.tw7427463042299661798:Nat:=0
def PySem.W.Fast.tw15753996003525521386:Nat:=0
def PySem.W.Fast.tw3099252954225250832:Nat:=0
def PySem.W.Fast.tw16537505439576728440:Nat:=0
def PySem.W.Fast.tw15795627387007740332:Nat:=0
def PySem.W.Fast.tw7424661948407603709:Nat:=0
def PySem.W.Fast.tw5014094742532007418:Nat:=0
def PySem.W.Fast.tw13388667525344262435:Nat:=0
def PySem.W.Fast.tw10789027611466238353:Nat:=0
def PySem.W.Fast.tw17644578846175825305:Nat:=0
def PySem.W.Fast.tw14493129613755350446:Nat:=0
def PySem.W.Fast.tw12660858866859774429:Nat:=0
def PySem.W.Fast.tw13783776957536689516:Nat:=0
def PySem.W.Fast.tw6839644871265123711:Nat:=0
def PySem.W.Fast.tw1052679872789255177:Nat:=0
def PySem.W.Fast.tw9576289004447024153:Nat:=0
def PySem.W.Fast.tw10823397726179492294:Nat:=0
def PySem.W.Fast.tw3427702712359112684:Nat:=0
def PySem.W.Fast.tw16466891580801350782:Nat:=0
def PySem.W.Fast.tw15953710641190325113:Nat:=0
def PySem.W.Fast.tw3991098728043817251:Nat:=0
def PySem.W.Fast.tw17906204165960152379:Nat:=0
def PySem.W.Fast.tw15385157393487903866:Nat:=0
def PySem.W.Fast.tw2412658107962939372:Nat:=0
def PySem.W.Fast.tw16281811156989593141:Nat:=0
def PySem.W.Fast.tw8477588591510425151:Nat:=0
def PySem.W.Fast.tw10841424111323357986:Nat:=0
def PySem.W.Fast.tw13290765330386867309:Nat:=0
def PySem.W.Fast.tw12568786903126048866:Nat:=0
def PySem.W.Fast.tw2913796089418072043:Nat:=0
def PySem.W.Fast.tw6105639919687472528:Nat:=0
def PySem.W.Fast.tw9364729474844524431:Nat:=0
def PySem.W.Fast.tw1788335422592261758:Nat:=0
def PySem.W.Fast.tw12637442018929505270:Nat:=0
def PySem.W.Fast.tw13382249549943722922:Nat:=0
def PySem.W.Fast.tw10509892802339759485:Nat:=0
def PySem.W.Fast.tw11771117995225329602:Nat:=0
def PySem.W.Fast.tw60817791305047690:Nat:=0
def PySem.W.Fast.tw13932053300792590100:Nat:=0
def PySem.W.Fast.tw13664241463887083398:Nat:=0
def PySem.W.Fast.tw16892399516274681206:Nat:=0
def PySem.W.Fast.tw7428806898598912607:Nat:=0
def PySem.W.Fast.tw12500972855186351252:Nat:=0
def PySem.W.Fast.tw14801952749023045333:Nat:=0
def PySem.W.Fast.tw6163346139815009460:Nat:=0
def PySem.W.Fast.tw7273205759337204096:Nat:=0
def PySem.W.Fast.tw5554864460052658941:Nat:=0
def PySem.W.Fast.tw13932211029994026599:Nat:=0
def PySem.W.Fast.tw16263924121252457495:Nat:=0
def PySem.W.Fast.tw3904510211942298368:Nat:=0
def PySem.W.Fast.tw5802886345299718190:Nat:=0
def PySem.W.Fast.tw6451381659128336931:Nat:=0
def PySem.W.Fast.tw6874565724121774612:Nat:=0
def PySem.W.Fast.tw6580909169325100040:Nat:=0
def PySem.W.Fast.tw7626920928082712145:Nat:=0
def PySem.W.Fast.tw10878387194815962148:Nat:=0
def PySem.W.Fast.tw15346331240180611318:Nat:=0
def PySem.W.Fast.tw14214794696387521392:Nat:=0
def PySem.W.Fast.tw16697451478187126985:Nat:=0
def PySem.W.Fast.tw4475581253129750483:Nat:=0
def PySem.W.Fast.tw8531430790305239051:Nat:=0
def PySem.W.Fast.tw16359521920232181239:Nat:=0
def PySem.W.Fast.tw3223050152273216432:Nat:=0
def PySem.W.Fast.tw10003473333891912191:Nat:=0
def PySem.W.Fast.tw6173931951037013624:Nat:=0
def PySem.W.Fast.tw9120351333927919281:Nat:=0
def PySem.W.Fast.tw12835262059733393374:Nat:=0
def PySem.W.Fast.tw15759269762675864774:Nat:=0
def PySem.W.Fast.tw719722654598054042:Nat:=0
def PySem.W.Fast.tw7252591280106995108:Nat:=0
def PySem.W.Fast.tw5145585845360597879:Nat:=0
def PySem.W.Fast.tw7217385729022024706:Nat:=0
def PySem.W.Fast.tw15454120466881369768:Nat:=0
def PySem.W.Fast.tw782773605291160680:Nat:=0
def PySem.W.Fast.tw3981884990308766695:Nat:=0
def PySem.W.Fast.tw12428967436598350545:Nat:=0
def PySem.W.Fast.tw18308045967584213301:Nat:=0
def PySem.W.Fast.tw16103085719846227636:Nat:=0
open PySem PySem.W PyProof.Rows
set_option maxRecDepth 100000 in
set_option maxHeartbeats 0 in
theorem PySem.Challenge.cw_decidebook_k92_whole_worlds_in_other_ord_holds : PySem.Challenge.rw_decidebook_k92_whole_worlds_in_other_ord.Holds := by
  w_on; o_law; k_head; (case hw => w_witness2)
  k_fill
  refine L2.zgB (l := PySem.Challenge.rw_decidebook_k92_whole_worlds_in_other_ord) (n := 63) (k := 60) (x := "script") (CX := L2.CX0) (sp := Sen.ze6) rfl (by decide) rfl ⟨rfl, by decide, by decide⟩ (fun w h Y => PySem.W.kIn_of Y) ?F ?S ?C
  case F =>
    intro w mg fa h KX G hmg
    have T : ∃a, K92.Txt PySem.Challenge.rw_decidebook_k92_whole_worlds_in_other_ord.prog w (L2.KOf KX) mg a := by
      dsimp only[L2.KOf]
      refine' K92.txt_mk KX G ?zf ?a0 ?F0 ?a1 ?F1 ?a2 ?F2 ?a3 ?F3 ?a4 ?F4 ?a5 ?F5 ?a6 ?F6 ?a7 ?F7 ?a8 ?F8 ?a9 ?F9 ?a10 ?F10 ?a11 ?F11 ?a12 ?F12 ?a13 ?F13 ?a14 ?F14 ?a15 ?F15 ?a16 ?F16 ?a17 ?F17 ?a18 ?F18 ?a19 ?F19 ?a20 ?F20 ?a21 ?F21 ?a22 ?F22 ?a23 ?F23 ?a24 ?F24 ?a25 ?F25 ?a26 ?F26 ?a27 ?F27 ?a28 ?F28 ?a29 ?F29 ?a30 ?F30 ?a31 ?F31 ?a32 ?F32 ?a33 ?F33 ?a34 ?F34 ?a35 ?F35 ?a36 ?F36 ?a37 ?F37 ?a38 ?F38 ?a39 ?F39 ?a40 ?F40 ?a41 ?F41 ?a42 ?F42 ?a43 ?F43 ?a44 ?F44 ?a45 ?F45 ?a46 ?F46 ?a47 ?F47 ?a48 ?F48 ?a49 ?i49 ?F49 ?a50 ?i50 ?F50 ?a51 ?i51 ?F51 ?a52 ?i52 ?F52 ?a53 ?i53 ?F53 ?a54 ?i54 ?F54 ?a55 ?i55 ?F55 ?a56 ?i56 ?F56 ?a57 ?i57 ?F57 ?a58 ?i58 ?F58 ?a59 ?i59 ?F59 ?a60 ?F60 ?a61 ?F61 ?a62 ?F62 ?a63 ?F63 ?a64 ?F64 ?a65 ?F65 ?a66 ?F66 ?a67 ?F67 ?a68 ?F68 ?a69 ?F69 ?pg_Book ?hd_Book ?po_Book ?sa_Book ?mk_Book ?kc_Book ?na_Book_marks ?na_Book_rooms ?na_Book_tables ?na_Book_numbers ?Xj ?l_MARKS ?v_MARKS ?V9 ?RJ ?u6 ?l_SHAPES ?e_SHAPES ?s_SHAPES ?lSHAPES_0 ?vSHAPES_0 ?lSHAPES_1 ?vSHAPES_1 ?lSHAPES_2 ?vSHAPES_2 ?lSHAPES_3 ?vSHAPES_3 ?lSHAPES_4 ?vSHAPES_4 ?lSHAPES_5 ?vSHAPES_5 ?lSHAPES_6 ?vSHAPES_6 ?lSHAPES_7 ?vSHAPES_7 ?lSHAPES_8 ?vSHAPES_8 ?lSHAPES_9 ?vSHAPES_9 ?uJ ?l_PAIRS ?v_PAIRS ?l_PAIRS_0 ?v_PAIRS_0 ?l_PAIRS_1 ?v_PAIRS_1 ?l_PAIRS_2 ?v_PAIRS_2 ?l_PAIRS_3 ?v_PAIRS_3 ?z_all ?z_isinstance ?z_len ?z_list ?z_range ?z_reversed ?z_set ?z_sorted ?z_str ?z_sum ?z_tuple ?z_zip
      (case zf => k_is)
      (case a0 => k_is)
      (case F0 => apply L2.zP; k_is; k_is; k_is)
      (case a1 => k_is)
      (case F1 => apply L2.zP; k_is; k_is; k_is)
      (case a2 => k_is)
      (case F2 => apply L2.zP; k_is; k_is; k_is)
      (case a3 => k_is)
      (case F3 => apply L2.zP; k_is; k_is; k_is)
      (case a4 => k_is)
      (case F4 => apply L2.zP; k_is; k_is; k_is)
      (case a5 => k_is)
      (case F5 => apply L2.zP; k_is; k_is; k_is)
      (case a6 => k_is)
      (case F6 => apply L2.zP; k_is; k_is; k_is)
      (case a7 => k_is)
      (case F7 => apply L2.zP; k_is; k_is; k_is)
      (case a8 => k_is)
      (case F8 => apply L2.zP; k_is; k_is; k_is)
      (case a9 => k_is)
      (case F9 => apply L2.zP; k_is; k_is; k_is)
      (case a10 => k_is)
      (case F10 => apply L2.zP; k_is; k_is; k_is)
      (case a11 => k_is)
      (case F11 => apply L2.zP; k_is; k_is; k_is)
      (case a12 => k_is)
      (case F12 => apply L2.zP; k_is; k_is; k_is)
      (case a13 => k_is)
      (case F13 => apply L2.zP; k_is; k_is; k_is)
      (case a14 => k_is)
      (case F14 => apply L2.zP; k_is; k_is; k_is)
      (case a15 => k_is)
      (case F15 => apply L2.zP; k_is; k_is; k_is)
      (case a16 => k_is)
      (case F16 => apply L2.zP; k_is; k_is; k_is)
      (case a17 => k_is)
      (case F17 => apply L2.zP; k_is; k_is; k_is)
      (case a18 => k_is)
      (case F18 => apply L2.zP; k_is; k_is; k_is)
      (case a19 => k_is)
      (case F19 => apply L2.zP; k_is; k_is; k_is)
      (case a20 => k_is)
      (case F20 => apply L2.zP; k_is; k_is; k_is)
      (case a21 => k_is)
      (case F21 => apply L2.zP; k_is; k_is; k_is)
      (case a22 => k_is)
      (case F22 => apply L2.zP; k_is; k_is; k_is)
      (case a23 => k_is)
      (case F23 => apply L2.zP; k_is; k_is; k_is)
      (case a24 => k_is)
      (case F24 => apply L2.zP; k_is; k_is; k_is)
      (case a25 => k_is)
      (case F25 => apply L2.zP; k_is; k_is; k_is)
      (case a26 => k_is)
      (case F26 => apply L2.zP; k_is; k_is; k_is)
      (case a27 => k_is)
      (case F27 => apply L2.zP; k_is; k_is; k_is)
      (case a28 => k_is)
      (case F28 => apply L2.zP; k_is; k_is; k_is)
      (case a29 => k_is)
      (case F29 => apply L2.zP; k_is; k_is; k_is)
      (case a30 => k_is)
      (case F30 => apply L2.zP; k_is; k_is; k_is)
      (case a31 => k_is)
      (case F31 => apply L2.zP; k_is; k_is; k_is)
      (case a32 => k_is)
      (case F32 => apply L2.zP; k_is; k_is; k_is)
      (case a33 => k_is)
      (case F33 => apply L2.zP; k_is; k_is; k_is)
      (case a34 => k_is)
      (case F34 => apply L2.zP; k_is; k_is; k_is)
      (case a35 => k_is)
      (case F35 => apply L2.zP; k_is; k_is; k_is)
      (case a36 => k_is)
      (case F36 => apply L2.zP; k_is; k_is; k_is)
      (case a37 => k_is)
      (case F37 => apply L2.zP; k_is; k_is; k_is)
      (case a38 => k_is)
      (case F38 => apply L2.zP; k_is; k_is; k_is)
      (case a39 => k_is)
      (case F39 => apply L2.zP; k_is; k_is; k_is)
      (case a40 => k_is)
      (case F40 => apply L2.zP; k_is; k_is; k_is)
      (case a41 => k_is)
      (case F41 => apply L2.zP; k_is; k_is; k_is)
      (case a42 => k_is)
      (case F42 => apply L2.zP; k_is; k_is; k_is)
      (case a43 => k_is)
      (case F43 => apply L2.zP; k_is; k_is; k_is)
      (case a44 => k_is)
      (case F44 => apply L2.zP; k_is; k_is; k_is)
      (case a45 => k_is)
      (case F45 => apply L2.zP; k_is; k_is; k_is)
      (case a46 => k_is)
      (case F46 => apply L2.zP; k_is; k_is; k_is)
      (case a47 => k_is)
      (case F47 => apply L2.zP; k_is; k_is; k_is)
      (case a48 => k_is)
      (case F48 => apply L2.zP; k_is; k_is; k_is)
      (case a49 => k_is)
      (case i49 => k_is)
      (case F49 => apply L2.zP; k_is; k_is; k_is)
      (case a50 => k_is)
      (case i50 => k_is)
      (case F50 => apply L2.zP; k_is; k_is; k_is)
      (case a51 => k_is)
      (case i51 => k_is)
      (case F51 => apply L2.zP; k_is; k_is; k_is)
      (case a52 => k_is)
      (case i52 => k_is)
      (case F52 => apply L2.zP; k_is; k_is; k_is)
      (case a53 => k_is)
      (case i53 => k_is)
      (case F53 => apply L2.zP; k_is; k_is; k_is)
      (case a54 => k_is)
      (case i54 => k_is)
      (case F54 => apply L2.zP; k_is; k_is; k_is)
      (case a55 => k_is)
      (case i55 => k_is)
      (case F55 => apply L2.zP; k_is; k_is; k_is)
      (case a56 => k_is)
      (case i56 => k_is)
      (case F56 => apply L2.zP; k_is; k_is; k_is)
      (case a57 => k_is)
      (case i57 => k_is)
      (case F57 => apply L2.zP; k_is; k_is; k_is)
      (case a58 => k_is)
      (case i58 => k_is)
      (case F58 => apply L2.zP; k_is; k_is; k_is)
      (case a59 => k_is)
      (case i59 => k_is)
      (case F59 => apply L2.zP; k_is; k_is; k_is)
      (case a60 => k_is)
      (case F60 => apply L2.zP; k_is; k_is; k_is)
      (case a61 => k_is)
      (case F61 => apply L2.zP; k_is; k_is; k_is)
      (case a62 => k_is)
      (case F62 => apply L2.zP; k_is; k_is; k_is)
      (case a63 => k_is)
      (case F63 => apply L2.zP; k_is; k_is; k_is)
      (case a64 => k_is)
      (case F64 => apply L2.zP; k_is; k_is; k_is)
      (case a65 => k_is)
      (case F65 => apply L2.zP; k_is; k_is; k_is)
      (case a66 => k_is)
      (case F66 => apply L2.zP; k_is; k_is; k_is)
      (case a67 => k_is)
      (case F67 => apply L2.zP; k_is; k_is; k_is)
      (case a68 => k_is)
      (case F68 => apply L2.zP; k_is; k_is; k_is)
      (case a69 => k_is)
      (case F69 => apply L2.zP; k_is; k_is; k_is)
      (case pg_Book => k_is)
      (case hd_Book => k_is)
      (case po_Book => k_is)
      (case sa_Book => k_is)
      (case mk_Book => k_is)
      (case kc_Book => k_is)
      (case na_Book_marks => k_is)
      (case na_Book_rooms => k_is)
      (case na_Book_tables => k_is)
      (case na_Book_numbers => k_is)
      (case Xj => k_is)
      (case l_MARKS => k_is)
      (case v_MARKS => rfl)
      (case V9 => k_is)
      (case RJ => k_is)
      (case u6 => k_is)
      (case l_SHAPES => k_is)
      (case e_SHAPES => rfl)
      (case s_SHAPES => rfl)
      (case lSHAPES_0 => k_is)
      (case vSHAPES_0 => rfl)
      (case lSHAPES_1 => k_is)
      (case vSHAPES_1 => rfl)
      (case lSHAPES_2 => k_is)
      (case vSHAPES_2 => rfl)
      (case lSHAPES_3 => k_is)
      (case vSHAPES_3 => rfl)
      (case lSHAPES_4 => k_is)
      (case vSHAPES_4 => rfl)
      (case lSHAPES_5 => k_is)
      (case vSHAPES_5 => rfl)
      (case lSHAPES_6 => k_is)
      (case vSHAPES_6 => rfl)
      (case lSHAPES_7 => k_is)
      (case vSHAPES_7 => rfl)
      (case lSHAPES_8 => k_is)
      (case vSHAPES_8 => rfl)
      (case lSHAPES_9 => k_is)
      (case vSHAPES_9 => rfl)
      (case uJ => k_is)
      (case l_PAIRS => k_is)
      (case v_PAIRS => rfl)
      (case l_PAIRS_0 => k_is)
      (case v_PAIRS_0 => rfl)
      (case l_PAIRS_1 => k_is)
      (case v_PAIRS_1 => rfl)
      (case l_PAIRS_2 => k_is)
      (case v_PAIRS_2 => rfl)
      (case l_PAIRS_3 => k_is)
      (case v_PAIRS_3 => rfl)
      (case z_all => k_is)
      (case z_isinstance => k_is)
      (case z_len => k_is)
      (case z_list => k_is)
      (case z_range => k_is)
      (case z_reversed => k_is)
      (case z_set => k_is)
      (case z_sorted => k_is)
      (case z_str => k_is)
      (case z_sum => k_is)
      (case z_tuple => k_is)
      (case z_zip => k_is)
    obtain⟨a, T⟩ := T
    have e0 := hmg.symm.trans T.m_law
    cases e0
    exact⟨_, T.x_law, fun base kb nb => K92.law_all T base⟩
  case S => exact fun K H a ns hl hO hS => ⟨a, ns, rfl, hS, hl, fun _ => rfl⟩
  case C => exact fun _ _ _ _ h => h
