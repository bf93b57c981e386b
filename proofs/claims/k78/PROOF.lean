import PyProof.Rows.All
import Wide.All
import OpenK.AllK
import Wide.FinOn
import Lean
import PyProof.EqAt
import PyProof.EqKinds
import PyProof.TupleCall
import KE.KRevIter
import OpenK.KOwn
import PySem.Challenge.RW_decidebook_k78_worlds_refused
open PySem.W (Frag nsIn mg_of findIn mg_none_of)
def zuc:=@List.length_map
def zud:=@List.getElem?_eq_getElem
def zue:=@List.getElem?_map
def zuf:=@List.getElem?_eq_some_iff
def zug:=@Bool.false_ne_true
def zuh:=@List.mem_of_getElem?
def zui:=@PySem.Heap.get?_push_of_some
def zuj:=@PySem.Heap.lt_size
def zuk:=@List.length_append
def zul:=@Nat.lt_of_lt_of_le
def zum:=@List.size_toArray
def zun:=@List.mem_cons_of_mem
def zuo:=@List.length_cons
def zup:=@List.getD_eq_getElem?_getD
def zuq:=@List.map_append
def zur:=@Nat.ne_of_lt
def zus:=@Nat.le_refl
def zut:=@List.mem_append_right
def zuu:=@Nat.le_of_lt
def zuv:=@List.mem_cons_self
def zuw:=@PySem.Heap.get?_push_size
def zux:=@Nat.le_trans
def zuy:=@Nat.zero_le
def zuz:=@List.length_take
def zuA:=@List.map_cons
def zuB:=@List.lookup_cons
def zuC:=@List.not_mem_nil
def zuD:=@Bool.and_eq_true
def zuE:=@List.take_length
def zuF:=@List.all_eq_true
def zuG:=@Option.some.inj
def zuH:=@Nat.pow_le_pow_right
def zuI:=@List.getElem?_append_left
def zuJ:=@List.length_singleton
def zuK:=@List.length_filter_le
def zuL:=@List.getElem?_eq_none
def zuM:=@Nat.le_add_right
def zuN:=@List.map_map
def zuO:=@List.of_mem_zip
def zuP:=@List.filter_append
def zuQ:=@Int.emod_lt_of_pos
def zuR:=@Bool.eq_iff_iff
def zuS:=@List.getElem_of_mem
def zuT:=@Int.emod_nonneg
set_option Elab.async false
set_option linter.all false
set_option maxRecDepth 100000
namespace L2
open PySem PySem.Spec PyProof.Rows
abbrev Key:=Sum Int Str
def zcP:Key->Value->Bool
 | .inl k,v=>Value.isInt k v
 | .inr x,v=>Value.isStrOf x v
def zqp (w:World):Key->Int
 | .inl k=>hashInt k
 | .inr x=>hashStr w x
theorem vY:∀{k:Key} {v:Value},zcP k v=true->(∃i t,k=Sum.inl i/\v=Value.int i t)\/(∃x t,k=Sum.inr x/\v=Value.str x t)
 | .inl i,v,h=>by
  obtain⟨t,e⟩:=Value.isInt_shape (k:=i) (v:=v) h
  exact .inl ⟨i,t,rfl,e⟩
 | .inr x,v,h=>by
  obtain⟨t,e⟩:=Value.isStrOf_shape (x:=x) (v:=v) h
  exact .inr ⟨x,t,rfl,e⟩
theorem zik (i:Int)(t:Tok):zcP (.inl i) (.int i t)=true:=by simp[zcP,Value.isInt]
theorem zil (x:Str)(t:Tok):zcP (.inr x) (.str x t)=true:=by simp[zcP,Value.isStrOf]
theorem zna (a b:Int):decide ((Sum.inl a:Key)=Sum.inl b)=(a==b):=by
 by_cases e:a=b
 ·subst e;simp
 ·have h:¬(Sum.inl a:Key)=Sum.inl b:=fun q=>e (Sum.inl.inj q)
  rw[decide_eq_false h]
  exact(beq_eq_false_iff_ne.mpr e).symm
theorem znb (a b:Str):decide ((Sum.inr a:Key)=Sum.inr b)=decide (a=b):=by
 by_cases e:a=b
 ·subst e;simp
 ·have h:¬(Sum.inr a:Key)=Sum.inr b:=fun q=>e (Sum.inr.inj q)
  rw[decide_eq_false h,decide_eq_false e]
theorem znc (a:Int)(b:Str):decide ((Sum.inl a:Key)=Sum.inr b)=false:=decide_eq_false (fun q=>nomatch q)
theorem znd (a:Str)(b:Int):decide ((Sum.inr a:Key)=Sum.inl b)=false:=decide_eq_false (fun q=>nomatch q)
def ug (prog:Program)(w:World):PySem.KeyKind prog w Key where
 is:=zcP
 hash:=zqp w
 inj:=fun v a b ha hb=>by
  rcases vY ha with ⟨i,t,rfl,rfl⟩ | ⟨x,t,rfl,rfl⟩
  ·rcases vY hb with ⟨j,u,rfl,e⟩ | ⟨y,u,rfl,e⟩
   ·injection e with e1 _;rw[e1]
   ·exact nomatch e
  ·rcases vY hb with ⟨j,u,rfl,e⟩ | ⟨y,u,rfl,e⟩
   ·exact nomatch e
   ·injection e with e1 _;rw[e1]
 byValue:=fun k v h=>by
  rcases vY h with ⟨i,t,rfl,rfl⟩ | ⟨x,t,rfl,rfl⟩<;>rfl
 pyHash:=fun hv h=>by
  rcases vY hv with ⟨i,t,rfl,rfl⟩ | ⟨x,t,rfl,rfl⟩
  ·exact wpAny_pyHash_int h
  ·exact wpAny_pyHash_str h
 eqBool:=fun hu hv h=>by
  rcases vY hu with ⟨i,t,rfl,rfl⟩ | ⟨x,t,rfl,rfl⟩
  ·rcases vY hv with ⟨j,u,rfl,rfl⟩ | ⟨y,u,rfl,rfl⟩
   ·rw[zna] at h;exact wpAny_eqBool_int h
   ·rw[znc] at h;exact SeqAt.EqAt.int_str i t y u _ _ _ _ h
  ·rcases vY hv with ⟨j,u,rfl,rfl⟩ | ⟨y,u,rfl,rfl⟩
   ·rw[znd] at h;exact SeqAt.EqAt.str_int x t j u _ _ _ _ h
   ·rw[znb] at h;exact wpAny_eqBool_str h
 «strs»:=fun k x t v h=>by
  rcases vY h with ⟨i,u,rfl,e⟩ | ⟨y,u,rfl,e⟩
  ·exact nomatch e
  ·injection e with e1 _
   subst e1
   cases v<;>rfl
theorem zeQ (prog:Program)(w:World)(i:Int)(t:Tok):(ug prog w).is (.inl i) (.int i t)=true:=zik i t
theorem zeR (prog:Program)(w:World)(x:Str)(t:Tok):(ug prog w).is (.inr x) (.str x t)=true:=zil x t
inductive V where
 | non | bl (b:Bool) | int (i:Int) | str (x:Str) | byt (b:Array UInt8) | flt (b:UInt64) | ref (a:Addr) | ty (n:String)
 deriving DecidableEq
def RelV:V->Value->Prop
 | .non,u=>u=Value.none
 | .bl b,u=>u=Value.bool b
 | .int i,u=>∃t,u=Value.int i t
 | .str x,u=>∃t,u=Value.str x t
 | .byt b,u=>∃t,u=Value.bytes b t
 | .flt b,u=>∃t,u=Value.float b t
 | .ref a,u=>u=Value.ref a
 | .ty n,u=>u=Value.type n
abbrev Vals:List V->List Value->Prop:=Paired RelV
theorem Vals.length {xs:List V}{us:List Value}(r:Vals xs us):xs.length=us.length:=Paired.length r
theorem Vals.get:∀{xs:List V} {us:List Value} {i:Nat} {x:V},Vals xs us->xs[i]?=some x->∃u,us[i]?=some u/\RelV x u
 | _,_,_,_,.nil,e=>by simp at e
 | _,_,0,_,.cons r _,e=>by simp at e;subst e;exact⟨_,rfl,r⟩
 | _,_,i+1,x,.cons _ t,e=>by
  obtain⟨u,h1,h2⟩:=Vals.get (i:=i) (x:=x) t (by simpa using e)
  exact⟨u,by simpa using h1,h2⟩
theorem Vals.set {x:V}{u:Value}(r:RelV x u):∀{xs:List V} {us:List Value} (i:Nat),Vals xs us->Vals (xs.set i x) (us.set i u)
 | _,_,_,.nil=>.nil
 | _,_,0,.cons _ t=>.cons r t
 | _,_,i+1,.cons q t=>.cons q (Vals.set r i t)
theorem Vals.append:∀{xs ys:List V} {us ws:List Value},Vals xs us->Vals ys ws->Vals (xs++ys) (us++ws)
 | _,_,_,_,.nil,s=>s
 | _,_,_,_,.cons r t,s=>.cons r (Vals.append t s)
theorem Vals.take:∀{xs:List V} {us:List Value} (n:Nat),Vals xs us->Vals (xs.take n) (us.take n)
 | _,_,0,_=>.nil
 | _,_,_+1,.nil=>.nil
 | _,_,n+1,.cons r t=>.cons r (Vals.take n t)
theorem Vals.drop:∀{xs:List V} {us:List Value} (n:Nat),Vals xs us->Vals (xs.drop n) (us.drop n)
 | _,_,0,r=>r
 | _,_,_+1,.nil=>.nil
 | _,_,n+1,.cons _ t=>Vals.drop n t
def Q7:Option V->Option Value->Prop
 | some v,some u=>RelV v u
 | none,none=>True
 | _,_=>False
def KV {κ:Type}:List (κ×V)->List (κ×Value)->Prop:=Paired fun(p:κ×V) (q:κ×Value)=>p.1=q.1/\RelV p.2 q.2
def kV:Key->V
 | .inl i=>.int i
 | .inr x=>.str x
inductive HO where
 | lst (xs:List V)
 | tup (xs:List V)
 | dK (kvs:List (Key×V)) | dT (kvs:List (List Key×V))
 | set (S:Int->Bool) (n:Nat)
 | ins (C dx:Addr) (fs:List (Str×V))
 | own (x:Addr)
 | xd (fs:List (Str×V))
 | met (f x:Addr)
 | rng (lo hi:Int)
 | frz (o:Obj) (u:HO)
 | tbl (ps:Array Value)
 | ext (φ:Heap->Prop)
abbrev Hp:=Addr->Option HO
def upd (H:Hp)(a:Addr)(o:HO):Hp:=fun b=>if b=a then some o else H b
theorem zm {H:Hp}{a:Addr}{o:HO}:upd H a o a=some o:=by unfold upd;rw[if_pos rfl]
theorem zE {H:Hp}{a b:Addr}{o:HO}(h:b≠a):upd H a o b=H b:=by unfold upd;rw[if_neg h]
theorem zld {H:Hp}{a:Addr}{o u:HO}:upd (upd H a o) a u=upd H a u:=by
 funext b;unfold upd;split<;>rfl
theorem Rw {H:Hp}{a b:Addr}{o u:HO}(h:H a=some o)(h':H b=some u)(d:o≠u):a≠b:=by
 intro e;subst e;rw[h] at h';exact d (zuG h')
theorem zF {H:Hp}{a b:Addr}{o:HO}(h:H a=some o)(h':H b=none):a≠b:=by
 intro e;subst e;rw[h] at h';cases h'
section
variable (P:Program)(w:World)
def vG (H:Hp)(h:Heap)(a:Addr):HO->Prop
 | .lst xs=>xs.length<=sizeLine/\∃(its:List Value) (n:Nat),Vals xs its/\h.get? a=some { cls:=.type "list", data:=.seq its.toArray n }
 | .tup xs=>xs.length<=sizeLine/\∃its:List Value,Vals xs its/\IsTup h a its.toArray
 | .dK kvs=>kvs.length<=sizeLine/\(a==sysModules)=false/\∃vs,KV kvs vs/\h.DictOf (ug P w) a vs
 | .dT kvs=>kvs.length<=sizeLine/\(a==sysModules)=false/\∃xs:List (List Key×Addr×Value),
   Paired (fun(p:List Key×V) (q:List Key×Addr×Value)=>p.1=q.1/\H q.2.1=some (.tup (p.1.map kV))/\RelV p.2 q.2.2) kvs xs /\
   ∃o es ep,h.get? a=some o/\o.ExactDict/\o.data=.dict es ep/\es.toList=xs.map (entryOfKey (tupleKind (ug P w)))/\(xs.map (·.1)).Nodup
 | .set S n=>h.SetOf (intKind P w) a S n
 | .ins C dx fs=>H dx=some (.own a)/\fs.length<=1000/\dx≠a/\h.get? a=some (PySem.W.instObj C dx) /\
   ∃mA,h.Ns1 dx mA/\(∀f,Q7 (fs.lookup f) (mA f))/\PySem.Within mA (fs.map (·.1))
 | .own _=>∃o,h.get? a=some o
 | .xd fs=>∃mA,h.Ns1 a mA/\∀f,Q7 (fs.lookup f) (mA f)
 | .rng lo hi=>∃t u v,h.get? a=some { cls:=.type "range", data:=.fields #[.int lo t,.int hi u,.int 1 v] }
 | .frz o u=>h.get? a=some o/\vG H h a u
 | .tbl ps=>h.get? a=some { cls:=.none,data:=.fields ps }
 | .met f x=>h.get? a=some (PySem.W.methodObj (.ref f) (.ref x))
 | .ext φ=>φ h/\(∃o,h.get? a=some o)/\∀h1 h2:Heap,φ h1->(∀o,h1.get? a=some o->h2.get? a=some o)->φ h2
def Rh (H:Hp)(h:Heap):Prop:=∀a o,H a=some o->vG P w H h a o
end
section
variable {P:Program}{w:World}{H H':Hp}{h h':Heap}{a:Addr}{o:HO}
theorem vG.lt (x:vG P w H h a o):a<h.objs.size:=by
 cases o with
 | lst xs=>obtain⟨_,_,_,_,e⟩:=x;exact zuj e
 | tup xs=>obtain⟨_,_,_,p⟩:=x;exact p.lt
 | dK kvs=>obtain⟨_,_,_,_,o,_,_,e,_⟩:=x;exact zuj e
 | dT kvs=>obtain⟨_,_,_,_,o,_,_,e,_⟩:=x;exact zuj e
 | set S n=>obtain⟨o,_,_,_,e,_⟩:=x;exact zuj e
 | ins C dx fs=>obtain⟨_,_,_,e,_⟩:=x;exact zuj e
 | own y=>obtain⟨_,e⟩:=x;exact zuj e
 | xd fs=>obtain⟨_,⟨_,_,_,e,_⟩,_⟩:=x;exact zuj e
 | rng lo hi=>obtain⟨_,_,_,e⟩:=x;exact zuj e
 | frz ob u=>obtain⟨e,_⟩:=x;exact zuj e
 | tbl ps=>exact zuj (show h.get? a=some _ from x)
 | met f y=>exact zuj (show h.get? a=some _ from x)
 | ext φ=>obtain⟨_,⟨_,e⟩,_⟩:=x;exact zuj e
theorem Paired.zne {α β:Type}{F G:α->β->Prop}:∀{l₁:List α} {l₂:List β},Paired F l₁ l₂->(∀a b,F a b->G a b)->Paired G l₁ l₂
 | _,_,.nil,_=>.nil
 | _,_,.cons r t,f=>.cons (f _ _ r) (Paired.zne t f)
theorem vG.stay (x:vG P w H h a o)(k:∀b u,(b=a\/H b=some (.own a))->h.get? b=some u->h'.get? b=some u)
  (ho:∀b,H b=some (.own a)->H' b=some (.own a))(ht:∀b xs,H b=some (.tup xs)->H' b=some (.tup xs)):vG P w H' h' a o:=by
 induction o with
 | lst xs=>obtain⟨z,its,n,r,e⟩:=x;exact⟨z,its,n,r,k _ _ (.inl rfl) e⟩
 | tup xs=>obtain⟨z,its,r,ob,e,c⟩:=x;exact⟨z,its,r,ob,k _ _ (.inl rfl) e,c⟩
 | dK kvs=>obtain⟨z,y,vs,r,ob,es,ep,e,c⟩:=x;exact⟨z,y,vs,r,ob,es,ep,k _ _ (.inl rfl) e,c⟩
 | dT kvs =>
  obtain⟨z,y,xs,r,ob,es,ep,e,c⟩:=x
  exact⟨z,y,xs,Paired.zne r fun p q z=>⟨z.1,ht _ _ z.2.1,z.2.2⟩,ob,es,ep,k _ _ (.inl rfl) e,c⟩
 | set S n=>obtain⟨ob,es,ep,t,e,c⟩:=x;exact⟨ob,es,ep,t,k _ _ (.inl rfl) e,c⟩
 | ins C dx fs =>
  obtain⟨d,z,ne,e,mA,⟨od,es,ep,e2,c⟩,r⟩:=x
  exact⟨ho _ d,z,ne,k _ _ (.inl rfl) e,mA,⟨od,es,ep,k _ _ (.inr d) e2,c⟩,r⟩
 | own y=>obtain⟨ob,e⟩:=x;exact⟨ob,k _ _ (.inl rfl) e⟩
 | xd fs=>obtain⟨mA,⟨od,es,ep,e,c⟩,r⟩:=x;exact⟨mA,⟨od,es,ep,k _ _ (.inl rfl) e,c⟩,r⟩
 | rng lo hi=>obtain⟨t,u,v,e⟩:=x;exact⟨t,u,v,k _ _ (.inl rfl) e⟩
 | frz ob u ih=>obtain⟨e,q⟩:=x;exact⟨k _ _ (.inl rfl) e,ih q⟩
 | tbl ps =>
  have e:h.get? a=some { cls:=.none,data:=.fields ps }:=x
  show h'.get? a=some { cls:=.none,data:=.fields ps }
  exact k a _ (.inl rfl) e
 | met f y =>
  have e:h.get? a=some (PySem.W.methodObj (.ref f) (.ref y)):=x
  show h'.get? a=some (PySem.W.methodObj (.ref f) (.ref y))
  exact k a _ (.inl rfl) e
 | ext φ=>obtain⟨p,⟨o,e⟩,st⟩:=x;exact⟨st _ _ p fun o q=>k _ _ (.inl rfl) q,⟨o,k _ _ (.inl rfl) e⟩,st⟩
theorem Rh.lt (x:Rh P w H h)(e:H a=some o):a<h.objs.size:=(x a o e).lt
theorem Rh.fresh (x:Rh P w H h)(e:h.objs.size<=a):H a=none:=by
 cases q:H a with
 | none=>rfl
 | some u=>exact absurd (zul (x.lt q) e) (Nat.lt_irrefl _)
theorem Rh.kept (x:Rh P w H h)(k:∀b u,h.get? b=some u->h'.get? b=some u):Rh P w H h':=fun a o e =>
 (x a o e).stay (fun b u _ q=>k b u q) (fun _ q=>q) fun _ _ q=>q
theorem Rh.laid (x:Rh P w H h)(k:∀b u,h.get? b=some u->h'.get? b=some u)(hp:h.objs.size<=a)(new:vG P w (upd H a o) h' a o):Rh P w (upd H a o) h':=fun b u e=>by
 have hn:=x.fresh hp
 by_cases hb:b=a
 ·subst hb;rw[zm] at e;cases e;exact new
 ·rw[zE hb] at e
  exact(x b u e).stay (fun c v _ q=>k c v q) (fun c q=>by rw[zE (zF q hn)];exact q) fun c xs q=>by rw[zE (zF q hn)];exact q
end
def Rd (H:Hp)(a:Addr)(u:HO):Prop:=H a=some u\/∃o,H a=some (.frz o u)
theorem Rd.ok {P:Program}{w:World}{H:Hp}{h:Heap}{a:Addr}{u:HO}(r:Rd H a u)(x:Rh P w H h):vG P w H h a u:=by
 rcases r with r | ⟨o,r⟩
 ·exact x a u r
 ·obtain⟨_,q⟩:=x a _ r
  exact q
def Mut:Option HO->Prop
 | some (.lst _)=>True
 | some (.dK _)=>True
 | some (.dT _)=>True
 | some (.set _ _)=>True
 | some (.ins _ _ _)=>True
 | some (.ext _)=>True
 | _=>False
section
variable {P:Program}{w:World}{H:Hp}{h h':Heap}{x e:Addr}{o':HO}
theorem Rh.write (ok:Rh P w H h)(mu:Mut (H x))(he:e=x\/H e=some (.own x))(k:∀b u,b≠e->h.get? b=some u->h'.get? b=some u)(heo:∃u,h'.get? e=some u)
  (new:vG P w (upd H x o') h' x o'):Rh P w (upd H x o') h':=fun b u q=>by
 have zoy:∀c y,H c=some (.own y)->c≠x:=fun c y r z=>by subst z;rw[r] at mu;exact mu
 have zqq:∀c xs,H c=some (.tup xs)->c≠x:=fun c xs r z=>by subst z;rw[r] at mu;exact mu
 by_cases hb:b=x
 ·subst hb;rw[zm] at q;cases q;exact new
 ·rw[zE hb] at q
  by_cases hbe:b=e
  ·have q':H b=some (.own x):=by
    rcases he with z | z
    ·exact absurd (hbe.trans z) hb
    ·rw[hbe];exact z
   rw[q] at q';cases q'
   obtain⟨v,hv⟩:=heo
   exact⟨v,by rw[hbe];exact hv⟩
  ·refine(ok b u q).stay (fun c v hc r=>k c v ?_ r) (fun c r=>by rw[zE (zoy c b r)];exact r) fun c xs r=>by rw[zE (zqq c xs r)];exact r
   rcases hc with rfl | hc
   ·exact hbe
   ·rintro rfl
    rcases he with z | z
    ·exact zoy c b hc z
    ·rw[hc] at z;cases z;exact hb rfl
end
structure Un (fs ex:List Addr)(H H':Hp)(h h':Heap):Prop where
 keep:∀b o,h.get? b=some o->H b=none->b∉fs->b∉ex->h'.get? b=some o
 slot:∀b o,h.get? b=some o->H b=none->b∈fs->b∉ex->∃sl,h'.get? b=some { o with slots:=sl }
 free:∀b o,h.get? b=some o->H b=none->b∉ex->H' b=none
 there:∀b o,h.get? b=some o->b∉ex->∃o',h'.get? b=some o'
 tups:∀b xs,H b=some (.tup xs)->H' b=some (.tup xs)
 Mp:∀b o u,H b=some (.frz o u)->H' b=some (.frz o u)
 KY:∀b ps,H b=some (.tbl ps)->∃more,H' b=some (.tbl (ps++more))
section
variable {fs fs' ex ex':List Addr}{H H1 H2:Hp}{h h1 h2 h':Heap}{a x e:Addr}{o:HO}
theorem Un.any (u:Un fs ex H H1 h h1){b:Addr}{ob:Obj}(q:h.get? b=some ob)(n:H b=none)(hx:b∉ex):∃sl,h1.get? b=some { ob with slots:=sl }:=by
 by_cases hb:b∈fs
 ·exact u.slot b ob q n hb hx
 ·exact⟨ob.slots,u.keep b ob q n hb hx⟩
theorem Un.kept (k:∀b u,h.get? b=some u->h'.get? b=some u):Un fs ex H H h h' :=
 ⟨fun b ob q _ _ _=>k b ob q,fun b ob q _ _ _=>⟨ob.slots,k b ob q⟩,fun _ _ _ n _=>n,fun b ob q _=>⟨ob,k b ob q⟩,fun _ _ q=>q,fun _ _ _ q=>q,fun _ ps q=>⟨#[],by rw[q];simp⟩⟩
theorem Un.refl:Un fs ex H H h h:=Un.kept fun _ _ q=>q
theorem Un.laid (k:∀b u,h.get? b=some u->h'.get? b=some u)(hp:h.objs.size<=a)(hn:H a=none):Un fs ex H (upd H a o) h h' where
 keep:=fun b u q _ _ _=>k b u q
 slot:=fun b u q _ _ _=>⟨u.slots,k b u q⟩
 free:=fun b u q n _=>by rw[zE (zur (zul (zuj q) hp))];exact n
 there:=fun b u q _=>⟨u,k b u q⟩
 tups:=fun b xs q=>by rw[zE (zF q hn)];exact q
 Mp:=fun b u xs q=>by rw[zE (zF q hn)];exact q
 KY:=fun b ps q=>⟨#[],by rw[zE (zF q hn),q];simp⟩
theorem Un.write (mu:Mut (H x))(he:e=x\/H e=some (.own x))(k:∀b u,b≠e->h.get? b=some u->h'.get? b=some u)(heo:∃u,h'.get? e=some u):Un fs ex H (upd H x o) h h':=by
 have hx:∀b,H b=none->b≠x:=fun b n z=>by subst z;rw[n] at mu;exact mu
 have hb:∀b,H b=none->b≠e:=fun b n z=>by
  subst z
  rcases he with r | r
  ·exact hx b n r
  ·rw[n] at r;cases r
 have hm:∀b u,H b=some u->¬Mut (some u)->b≠x:=fun b u q nm z=>by subst z;rw[q] at mu;exact nm mu
 refine⟨fun b u q n _ _=>k b u (hb b n) q,fun b u q n _ _=>⟨u.slots,k b u (hb b n) q⟩,fun b u q n _=>by rw[zE (hx b n)];exact n,fun b u q _=>?_,
  fun b xs q=>by rw[zE (hm b _ q fun z=>z)];exact q,fun b u xs q=>by rw[zE (hm b _ q fun z=>z)];exact q,fun b ps q=>⟨#[],by rw[zE (hm b _ q fun z=>z),q];simp⟩⟩
 by_cases hbe:b=e
 ·subst hbe;exact heo
 ·exact⟨u,k b u hbe q⟩
end
def trk (h:Heap)(H:Hp):List Addr:=(List.range h.objs.size).filter fun a=>(H a).isSome
def zdF (h:Heap)(H:Hp):Heap:=PySem.W.hideAll h (trk h H)
theorem zim (h:Heap)(H:Hp):(zdF h H).objs.size=h.objs.size:=PySem.W.hideAll_size _ _
theorem zja {h:Heap}{H:Hp}{b:Addr}{o:Obj}(e:h.get? b=some o)(n:H b=none):(zdF h H).get? b=some o :=
 PySem.W.hideAll_get _ e fun hm=>by
  have q:(H b).isSome=true:=(List.mem_filter.mp hm).2
  rw[n] at q;simp at q
theorem zlf {h:Heap}{H:Hp}{b:Addr}{o:Obj}(e:(zdF h H).get? b=some o):h.get? b=some o/\H b=none:=by
 have e':h.get? b=some o:=PySem.W.of_hideAll (trk h H) e
 refine⟨e',?_⟩
 cases q:H b with
 | none=>rfl
 | some x =>
  have hm:b∈trk h H:=List.mem_filter.mpr ⟨List.mem_range.mpr (zuj e'),by simp[q]⟩
  have z:(zdF h H).get? b=none:=PySem.W.hideAll_none (trk h H) hm
  rw[z] at e;cases e
structure Mod (K:Frag)(mg:Str->Option Value)(base:Heap):Prop where
 kin:K.In base
 glob:base.Ns mainGlobals mg
 blt:∃mb,base.Ns builtinsNs mb/\∀x:Str,x ≠ "__name__" -> mb x=bootBuiltins x
 nolimit:base.NoLimit
structure Cx where
 prog:Program
 w:World
 K:Frag
 mg:Str->Option Value
 base:Heap
 A:Around
 N:List Str
 s₀:Shared
 H₀:Hp
 env:Env
 outer:List Env
 stack:List Env
 ex:List Addr
 fn:Str->Bool
 calm:Bool
 pn:List (Addr×Obj)
 xe:Value->Shared->Prop
def frs (l:List Env):List Addr:=l.filterMap (·.frame)
abbrev Cx.fs (X:Cx):List Addr:=frs X.outer
def Vis (sc:Scope)(x:Str):Prop:=sc.names.lookup x=some .local\/sc.names.lookup x=some .cell\/sc.names.lookup x=some .free
def Loc (sc:Scope)(x:Str):Prop:=sc.names.lookup x=some .local\/sc.names.lookup x=some .cell
def Look (env:Env)(h:Heap)(m:Str->Option Value)(x:Str)(u:Value):Prop :=
 (env.kindOf x=some .local/\m x=some u)\/((env.kindOf x=some .cell\/env.kindOf x=some .free)/\∃c,env.cells.lookup x=some c/\h.IsCell c (some u))
structure Cx.Ok (X:Cx):Prop where
 mod:Mod X.K X.mg X.base
 kind:X.env.scope.kind=.function
 glob:X.env.globals=mainGlobals
 blt:X.env.builtins=builtinsNs
 above:X.s₀.heap.objs.size<=X.env.locals
 inj:∀x y c,X.env.cells.lookup x=some c->X.env.cells.lookup y=some c->x=y
 has:∀x,(X.env.kindOf x=some .cell\/X.env.kindOf x=some .free)->∃c,X.env.cells.lookup x=some c
 cab:∀x c,X.fn x=true->X.env.cells.lookup x=some c->X.s₀.heap.objs.size<=c
 hd:X.calm=true->X.A.handled=none
 frames:X.A.frames=some X.stack
 stk:X.stack=X.outer\/(X.stack=X.env::X.outer/\X.env.frame=some X.env.locals)
 exf:∀b∈X.ex,b≠X.env.locals/\∀x c,X.env.cells.lookup x=some c->c≠b
 bs:∀b o,X.base.get? b=some o->X.s₀.heap.get? b=some o/\X.H₀ b=none
 bsz:X.base.objs.size<=X.s₀.heap.objs.size
 zeS:∀b o,X.base.get? b=some o->b∉X.ex
 zeT:∀b∈X.ex,b∉X.fs
 Q8:X.s₀.heap.FunFrames X.base X.outer
 frf:∀b∈X.fs,X.H₀ b=none
structure Inv (X:Cx)(pins:List (Addr×Obj))(σ:List (Option V))(H:Hp)(s:Shared):Prop where
 ok:X.Ok
 os:s.os=X.s₀.os
 bare:AllBare s.gens
 base:Un X.fs X.ex X.H₀ H X.s₀.heap s.heap
 loc:∃m,s.heap.Ns X.env.locals m/\∀(i:Nat) (x:Str) (v:V),X.N[i]?=some x->σ[i]?=some (some v)->Vis X.env.scope x->∃u,RelV v u/\Look X.env s.heap m x u
 cell:∀x c,X.env.cells.lookup x=some c->∃v,s.heap.IsCell c v
 free:H X.env.locals=none
 Xi:∀x c,X.env.cells.lookup x=some c->H c=none
 pin:∀p∈X.pn++pins,s.heap.get? p.1=some p.2/\H p.1=none/\p.1≠X.env.locals/\p.1∉X.fs/\∀v,p.2.data≠.cell v
 hok:Rh X.prog X.w H s.heap
 len:σ.length=X.N.length
section
variable {X:Cx}{pins:List (Addr×Obj)}{σ:List (Option V)}{H H':Hp}{s:Shared}{h':Heap}
theorem Cx.Ok.zqr (ok:X.Ok){b:Addr}{o:Obj}(e:X.base.get? b=some o):b∉X.fs:=fun hb=>by
 have:=(ok.Q8.mem hb).1
 rw[e] at this;cases this
theorem Inv.bs (I:Inv X pins σ H s):∀b o,X.base.get? b=some o->s.heap.get? b=some o/\H b=none:=fun b o e =>
 ⟨I.base.keep b o (I.ok.bs b o e).1 (I.ok.bs b o e).2 (I.ok.zqr e) (I.ok.zeS b o e),I.base.free b o (I.ok.bs b o e).1 (I.ok.bs b o e).2 (I.ok.zeS b o e)⟩
theorem Inv.bk (I:Inv X pins σ H s):∀b o,X.base.get? b=some o->s.heap.get? b=some o:=fun b o e=>(I.bs b o e).1
theorem Inv.mod (I:Inv X pins σ H s):Mod X.K X.mg X.base:=I.ok.mod
theorem Inv.Q9 (I:Inv X pins σ H s):X.K.In s.heap:=I.ok.mod.kin.keeps I.bk
theorem Inv.lt (I:Inv X pins σ H s):X.env.locals<s.heap.objs.size:=let ⟨_,hn,_⟩:=I.loc;hn.lt
theorem Inv.sz (I:Inv X pins σ H s):X.s₀.heap.objs.size<=s.heap.objs.size:=zux I.ok.above (zuu I.lt)
theorem Inv.zng (I:Inv X pins σ H s){a:Addr}(h:s.heap.objs.size<=a):a∉X.fs:=fun hb=>by
 obtain⟨_,o,ho,_⟩:=I.ok.Q8.mem hb
 exact absurd (zul (zuj ho) (zux I.sz h)) (Nat.lt_irrefl _)
theorem Inv.cne (I:Inv X pins σ H s):∀x c,X.env.cells.lookup x=some c->c≠X.env.locals:=fun x c e z=>by
 obtain⟨v,o,ho,hd⟩:=I.cell x c e
 obtain⟨m,⟨o',es,ep,ho',hd',_⟩,_⟩:=I.loc
 rw[z,ho'] at ho;cases ho;rw[hd'] at hd;cases hd
theorem Inv.Q8 (I:Inv X pins σ H s):s.heap.FunFrames X.base X.outer:=by
 have all:∀(l:List Env),(∀b∈frs l,b∈X.fs)->X.s₀.heap.FunFrames X.base l->s.heap.FunFrames X.base l:=by
  intro l
  induction l with
  | nil=>intro _ _;trivial
  | cons env r ih =>
   intro hs hl
   obtain⟨hk,⟨L,o,hf,hn,ho,hd⟩,hr⟩:=hl
   have hL:L∈X.fs:=hs L (by unfold frs;rw[List.filterMap_cons,hf];exact zuv)
   obtain⟨sl,e⟩:=I.base.slot L o ho (I.ok.frf L hL) hL fun z=>I.ok.zeT L z hL
   exact⟨hk,⟨L,_,hf,hn,e,hd⟩,ih (fun b hb=>hs b (by unfold frs;rw[List.filterMap_cons,hf];exact zun _ hb)) hr⟩
 exact all X.outer (fun _ hb=>hb) I.ok.Q8
theorem Inv.stack (I:Inv X pins σ H s):s.heap.FunFrames X.base X.stack:=by
 rcases I.ok.stk with e | ⟨e,hf⟩
 ·rw[e];exact I.Q8
 ·rw[e]
  obtain⟨m,hn,_⟩:=I.loc
  refine .cons (by rw[I.ok.kind];decide) hf hn ?_ I.Q8
  exact Heap.get?_none_of_le (zux I.ok.bsz I.ok.above)
theorem Inv.zaT (I:Inv X pins σ H s):∀b∈frs X.stack,b∈X.env.locals::X.fs:=fun b hb=>by
 rcases I.ok.stk with e | ⟨e,hf⟩
 ·rw[e] at hb;exact zun _ hb
 ·rw[e] at hb
  unfold frs at hb
  rw[List.filterMap_cons,hf] at hb
  exact hb
theorem Inv.zaz (I:Inv X pins σ H s):∀b∈frs X.stack,H b=none:=fun b hb=>by
 rcases List.mem_cons.mp (I.zaT b hb) with e | hb
 ·rw[e];exact I.free
 ·obtain⟨_,o,ho,_⟩:=I.ok.Q8.mem hb
  exact I.base.free b o ho (I.ok.frf b hb) fun z=>I.ok.zeT b z hb
theorem Inv.step {g':Array GenState}{t':Nat}{d':Drawn}{ch:List Addr}(I:Inv X pins σ H s)
  (hch:∀b∈ch,(b∈X.ex\/X.s₀.heap.objs.size<=b)/\b≠X.env.locals/\(∀x c,X.env.cells.lookup x=some c->c≠b)/\∀p∈X.pn++pins,p.1≠b)
  (keep:∀b o,b≠X.env.locals->b∉X.fs->b∉ch->s.heap.get? b=some o->H b=none->h'.get? b=some o)
  (slot:∀b o,b≠X.env.locals->b∈X.fs->b∉ch->s.heap.get? b=some o->H b=none->∃sl,h'.get? b=some { o with slots:=sl })(free:∀b o,b∉ch->s.heap.get? b=some o->H b=none->H' b=none)
  (there:∀b o,b∉ch->s.heap.get? b=some o->∃o',h'.get? b=some o')
  (tups:∀b xs,H b=some (.tup xs)->H' b=some (.tup xs))(Mp:∀b o u,H b=some (.frz o u)->H' b=some (.frz o u))(KY:∀b ps,H b=some (.tbl ps)->∃more,H' b=some (.tbl (ps++more)))
  (ns:∀m,s.heap.Ns X.env.locals m->h'.Ns X.env.locals m)(hok:Rh X.prog X.w H' h')(hg:AllBare g') :
  Inv X pins σ H' { s with heap:=h',gens:=g',drawn:=d',toks:=t' }:=by
 have neL:∀b o,X.s₀.heap.get? b=some o->b≠X.env.locals:=fun b o e=>zur (zul (zuj e) I.ok.above)
 have neC:∀b o,X.s₀.heap.get? b=some o->b∉X.ex->b∉ch:=fun b o e hx hb=>by
  rcases (hch b hb).1 with z | z
  ·exact hx z
  ·exact absurd (zul (zuj e) z) (Nat.lt_irrefl _)
 have cellK:∀x c,X.env.cells.lookup x=some c->∀v,s.heap.IsCell c v->h'.IsCell c v:=fun x c e v ⟨o,ho,hd⟩=>by
  have nch:c∉ch:=fun z=>(hch c z).2.2.1 x c e rfl
  by_cases hc:c∈X.fs
  ·obtain⟨sl,q⟩:=slot c o (I.cne x c e) hc nch ho (I.Xi x c e)
   exact⟨_,q,hd⟩
  ·exact⟨o,keep c o (I.cne x c e) hc nch ho (I.Xi x c e),hd⟩
 refine⟨I.ok,I.os,hg,⟨fun b o e n hb hx=>?_,fun b o e n hb hx=>?_,fun b o e n hx=>?_,fun b o e hx=>?_,fun b xs e=>tups b xs (I.base.tups b xs e),fun b o xs e=>Mp b o xs (I.base.Mp b o xs e),fun b ps e=>?_⟩,?_,fun x c e=>?_,?_,fun x c e=>?_,fun p hp=>?_,hok,I.len⟩
 ·exact keep b o (neL b o e) hb (neC b o e hx) (I.base.keep b o e n hb hx) (I.base.free b o e n hx)
 ·obtain⟨sl,e1⟩:=I.base.slot b o e n hb hx
  obtain⟨sl',e2⟩:=slot b _ (neL b o e) hb (neC b o e hx) e1 (I.base.free b o e n hx)
  exact⟨sl',e2⟩
 ·obtain⟨o',e1⟩:=I.base.there b o e hx
  exact free b o' (neC b o e hx) e1 (I.base.free b o e n hx)
 ·obtain⟨o',e1⟩:=I.base.there b o e hx
  exact there b o' (neC b o e hx) e1
 ·obtain⟨m1,e1⟩:=I.base.KY b ps e
  obtain⟨m2,e2⟩:=KY b _ e1
  exact⟨m1++m2,by rw[e2,Array.append_assoc]⟩
 ·obtain⟨m,hn,hl⟩:=I.loc
  refine⟨m,ns m hn,fun i x v e1 e2 e3=>?_⟩
  obtain⟨u,r,l⟩:=hl i x v e1 e2 e3
  refine⟨u,r,?_⟩
  rcases l with l | ⟨k,c,e,z⟩
  ·exact .inl l
  ·exact .inr ⟨k,c,e,cellK x c e _ z⟩
 ·obtain⟨v,z⟩:=I.cell x c e
  exact⟨v,cellK x c e v z⟩
 ·obtain⟨m,⟨o,_,_,ho,_⟩,_⟩:=I.loc
  exact free _ o (fun z=>(hch _ z).2.1 rfl) ho I.free
 ·obtain⟨v,o,ho,hd⟩:=I.cell x c e
  exact free c o (fun z=>(hch c z).2.2.1 x c e rfl) ho (I.Xi x c e)
 ·obtain⟨e,n,ne,nf,d⟩:=I.pin p hp
  have nch:p.1∉ch:=fun z=>(hch p.1 z).2.2.2 p hp rfl
  exact⟨keep p.1 p.2 ne nf nch e n,free p.1 p.2 nch e n,ne,nf,d⟩
theorem Inv.un {t':Nat}(I:Inv X pins σ H s)(u:Un X.fs [] H H' s.heap h')(hok:Rh X.prog X.w H' h'):Inv X pins σ H' { s with heap:=h',toks:=t' }:=by
 obtain⟨m,⟨o,es,ep,ho,r⟩,_⟩:=id I.loc
 obtain⟨sl,hL⟩:=u.any ho I.free (by simp)
 exact I.step (g':=s.gens) (d':=s.drawn) (ch:=[]) (fun _ z=>nomatch z) (fun b o _ hb _ e n=>u.keep b o e n hb (by simp)) (fun b o _ hb _ e n=>u.slot b o e n hb (by simp)) (fun b o _ e n=>u.free b o e n (by simp)) (fun b o _ e=>u.there b o e (by simp)) u.tups u.Mp u.KY (fun m' hm=>by
  obtain⟨o',es',ep',ho',r'⟩:=hm
  rw[ho] at ho';cases ho'
  exact⟨_,es',ep',hL,r'⟩) hok I.bare
theorem Inv.call {g':Array GenState}{t':Nat}{d':Drawn}{ch:List Addr}(I:Inv X pins σ H s)(u:Un (frs X.stack) ch H H' s.heap h')(hok:Rh X.prog X.w H' h')(hg:AllBare g')
  (hch:∀b∈ch,(b∈X.ex\/X.s₀.heap.objs.size<=b)/\b≠X.env.locals/\(∀x c,X.env.cells.lookup x=some c->c≠b)/\∀p∈X.pn++pins,p.1≠b) :
  Inv X pins σ H' { s with heap:=h',gens:=g',drawn:=d',toks:=t' }:=by
 obtain⟨m,⟨o,es,ep,ho,r⟩,_⟩:=id I.loc
 obtain⟨sl,hL⟩:=u.any ho I.free fun z=>(hch _ z).2.1 rfl
 exact I.step (ch:=ch) hch (fun b o hL hb hc e n=>u.keep b o e n (fun z=>(List.mem_cons.mp (I.zaT b z)).elim hL hb) hc) (fun b o _ _ hc e n=>u.any e n hc) (fun b o hc e n=>u.free b o e n hc) (fun b o hc e=>u.there b o e hc) u.tups u.Mp u.KY (fun m' hm=>by
  obtain⟨o',es',ep',ho',r'⟩:=hm
  rw[ho] at ho';cases ho'
  exact⟨_,es',ep',hL,r'⟩) hok hg
theorem Inv.turned {t':Nat}{it:Addr}(I:Inv X pins σ H s)(k:∀b o,b≠it->s.heap.get? b=some o->h'.get? b=some o)(hn:H it=none)(hL:it≠X.env.locals)
  (h1:it∈X.ex\/X.s₀.heap.objs.size<=it)(h2:∀x c,X.env.cells.lookup x=some c->c≠it)(h3:∀p∈X.pn++pins,p.1≠it):Inv X pins σ H { s with heap:=h',toks:=t' }:=by
 have nit:∀b u,H b=some u->b≠it:=fun b u e z=>by rw[z,hn] at e;cases e
 refine I.step (g':=s.gens) (d':=s.drawn) (ch:=[it]) (fun b hb=>?_) (fun b o _ _ hc e _=>k b o (fun z=>hc (by simp[z])) e) (fun b o _ _ hc e _=>⟨o.slots,k b o (fun z=>hc (by simp[z])) e⟩) (fun _ _ _ _ n=>n)
  (fun b o hc e=>⟨o,k b o (fun z=>hc (by simp[z])) e⟩) (fun _ _ e=>e) (fun _ _ _ e=>e) (fun b ps e=>⟨#[],by rw[e];simp⟩) (fun m hm=>?_) (fun b u e=>?_) I.bare
 ·have e:b=it:=by simpa using hb
  subst e
  exact⟨h1,hL,h2,h3⟩
 ·obtain⟨o,es,ep,ho,r⟩:=hm
  exact⟨o,es,ep,k _ o (Ne.symm hL) ho,r⟩
 ·refine(I.hok b u e).stay (fun c v hc q=>k c v ?_ q) (fun _ q=>q) fun _ _ q=>q
  rcases hc with z | z
  ·rw[z];exact nit b u e
  ·exact nit c _ z
theorem Inv.tok (I:Inv X pins σ H s)(t:Nat):Inv X pins σ H { s with toks:=t }:=I.un (h':=s.heap) (t':=t) Un.refl I.hok
theorem Inv.kept {t':Nat}(I:Inv X pins σ H s)(k:∀b u,s.heap.get? b=some u->h'.get? b=some u):Inv X pins σ H { s with heap:=h',toks:=t' }:=I.un (Un.kept k) (I.hok.kept k)
theorem Inv.laid {a:Addr}{o:HO}{t':Nat}(I:Inv X pins σ H s)(k:∀b u,s.heap.get? b=some u->h'.get? b=some u)(hp:s.heap.objs.size<=a)(new:vG X.prog X.w (upd H a o) h' a o) :
  Inv X pins σ (upd H a o) { s with heap:=h',toks:=t' }:=I.un (Un.laid k hp (I.hok.fresh hp)) (I.hok.laid k hp new)
theorem Inv.write {x e:Addr}{o:HO}{t':Nat}(I:Inv X pins σ H s)(mu:Mut (H x))(he:e=x\/H e=some (.own x))(k:∀b u,b≠e->s.heap.get? b=some u->h'.get? b=some u)(heo:∃u,h'.get? e=some u)
  (new:vG X.prog X.w (upd H x o) h' x o):Inv X pins σ (upd H x o) { s with heap:=h',toks:=t' }:=I.un (Un.write mu he k heo) (I.hok.write mu he k heo new)
theorem Inv.Td {pins':List (Addr×Obj)}(I:Inv X pins σ H s)(h:∀p∈pins',s.heap.get? p.1=some p.2/\H p.1=none/\p.1≠X.env.locals/\p.1∉X.fs/\∀v,p.2.data≠.cell v):Inv X pins' σ H s :=
 ⟨I.ok,I.os,I.bare,I.base,I.loc,I.cell,I.free,I.Xi,fun p hp=>(List.mem_append.mp hp).elim (fun z=>I.pin p (List.mem_append_left _ z)) (h p),I.hok,I.len⟩
theorem zaU {N:List Str}(hN:N.Nodup){i j:Nat}{x:Str}(a:N[i]?=some x)(b:N[j]?=some x):i=j:=by
 obtain⟨h1,e1⟩:=zuf.mp a
 obtain⟨h2,e2⟩:=zuf.mp b
 exact(List.getElem_inj hN).mp (e1.trans e2.symm)
theorem zio {M:Model}{A:Around}{E:Value->Shared->Prop}{i:Nat}{x:Str}{v:V}{u:Value}{Q:Unit->Shared->Prop}(I:Inv X pins σ H s)(hN:X.N.Nodup)(hi:X.N[i]?=some x)(hx:Loc X.env.scope x)(r:RelV v u)
  (h:∀s',Inv X pins (σ.set i (some v)) H s'->(∃a,Heap.SameBut a s.heap s'.heap/\(a=X.env.locals\/X.env.cells.lookup x=some a))->Q () s')(hf:X.fn x=true\/X.env.scope.names.lookup x=some .local:=by first | exact .inl rfl | exact .inr rfl | assumption):wpAny M A (storeName X.env x u) Q E s:=by
 obtain⟨m,hn,hl⟩:=id I.loc
 have hcls:(X.env.scope.kind==.class||(X.env.scope.kind==.module&&X.env.locals != X.env.globals))=false:=by rw[I.ok.kind];rfl
 have hiσ:i < σ.length:=by rw[I.len];exact(zuf.mp hi).1
 have cne:=I.cne
 have tracked:∀{a:Addr} {h':Heap},(∃o,s.heap.get? a=some o/\H a=none)->Heap.SameBut a s.heap h'->Rh X.prog X.w H h':=fun {a h'} ha hs b ob e=>by
  obtain⟨_,_,hfree⟩:=ha
  refine(I.hok b ob e).stay (fun c w' hc q=>(hs.2 c ?_).trans q) (fun _ q=>q) fun _ _ q=>q
  rintro rfl
  rcases hc with rfl | hc
  ·rw[hfree] at e;cases e
  ·rw[hfree] at hc;cases hc
 rcases hx with hk | hk
 ·refine wpAny_storeName_local hk hn (fun h' hn' hs=>?_) hcls
  obtain⟨oL,_,_,hoL,_⟩:=id hn
  refine h _ ⟨I.ok,I.os,I.bare,⟨fun b o e n hb hx=>?_,fun b o e n hb hx=>?_,I.base.free,fun b o e hx=>?_,I.base.tups,I.base.Mp,I.base.KY⟩,⟨_,hn',fun j y v' e1 e2 e3=>?_⟩,fun y c e=>?_,I.free,I.Xi,fun p hp=>?_,tracked ⟨oL,hoL,I.free⟩ hs,by simpa using I.len⟩ ⟨_,hs,.inl rfl⟩
  ·exact(hs.2 b (zur (zul (zuj e) I.ok.above))).trans (I.base.keep b o e n hb hx)
  ·obtain⟨sl,e1⟩:=I.base.slot b o e n hb hx
   exact⟨sl,(hs.2 b (zur (zul (zuj e) I.ok.above))).trans e1⟩
  ·obtain⟨o',e1⟩:=I.base.there b o e hx
   exact⟨o',(hs.2 b (zur (zul (zuj e) I.ok.above))).trans e1⟩
  ·by_cases hj:j=i
   ·subst hj
    rw[hi] at e1;cases e1
    rw[List.getElem?_set_self hiσ] at e2
    cases e2
    exact⟨u,r,.inl ⟨hk,by simp⟩⟩
   ·rw[List.getElem?_set_ne (Ne.symm hj)] at e2
    obtain⟨u',r',q⟩:=hl j y v' e1 e2 e3
    refine⟨u',r',?_⟩
    rcases q with ⟨k,e⟩ | ⟨k,c,e,z⟩
    ·refine .inl ⟨k,?_⟩
     have:y≠x:=fun e=>hj (zaU hN e1 (e ▸ hi))
     simp[this,e]
    ·exact .inr ⟨k,c,e,z.sameBut hs (cne y c e)⟩
  ·obtain⟨w',z⟩:=I.cell y c e
   exact⟨w',z.sameBut hs (cne y c e)⟩
  ·obtain⟨e,n,ne,nf,d⟩:=I.pin p hp
   exact⟨(hs.2 p.1 ne).trans e,n,ne,nf,d⟩
 ·have hfn:X.fn x=true:=by
   rcases hf with z | z
   ·exact z
   ·rw[z] at hk;cases hk
  obtain⟨c,hc⟩:=I.ok.has x (.inl hk)
  obtain⟨w',z⟩:=I.cell x c hc
  refine wpAny_storeName_cell I.ok.kind hk hc z (fun h' hc' hs=>?_)
  obtain⟨oc,hoc,zqs⟩:=id z
  refine h { s with heap:=h' } ⟨I.ok,I.os,I.bare,⟨fun b o e n hb hx=>?_,fun b o e n hb hx=>?_,I.base.free,fun b o e hx=>?_,I.base.tups,I.base.Mp,I.base.KY⟩,⟨m,hn.sameBut hs (Ne.symm (cne x c hc)),fun j y v' e1 e2 e3=>?_⟩,fun y c' e=>?_,I.free,I.Xi,fun p hp=>?_,tracked ⟨oc,hoc,I.Xi x c hc⟩ hs,by simpa using I.len⟩ ⟨c,hs,.inr hc⟩
  ·exact(hs.2 b (zur (zul (zuj e) (I.ok.cab x c hfn hc)))).trans (I.base.keep b o e n hb hx)
  ·obtain⟨sl,e1⟩:=I.base.slot b o e n hb hx
   exact⟨sl,(hs.2 b (zur (zul (zuj e) (I.ok.cab x c hfn hc)))).trans e1⟩
  ·obtain⟨o',e1⟩:=I.base.there b o e hx
   exact⟨o',(hs.2 b (zur (zul (zuj e) (I.ok.cab x c hfn hc)))).trans e1⟩
  ·by_cases hj:j=i
   ·subst hj
    rw[hi] at e1;cases e1
    rw[List.getElem?_set_self hiσ] at e2
    cases e2
    exact⟨u,r,.inr ⟨.inl hk,c,hc,hc'⟩⟩
   ·rw[List.getElem?_set_ne (Ne.symm hj)] at e2
    obtain⟨u',r',q⟩:=hl j y v' e1 e2 e3
    refine⟨u',r',?_⟩
    rcases q with q | ⟨k,c',e,z'⟩
    ·exact .inl q
    ·refine .inr ⟨k,c',e,z'.sameBut hs ?_⟩
     rintro rfl
     exact hj (zaU hN e1 (I.ok.inj _ _ _ e hc ▸ hi))
  ·by_cases hcc:c'=c
   ·subst hcc;exact⟨_,hc'⟩
   ·obtain⟨w2,z2⟩:=I.cell y c' e
    exact⟨w2,z2.sameBut hs hcc⟩
  ·obtain⟨e,n,ne,nf,d⟩:=I.pin p hp
   refine⟨(hs.2 p.1 ?_).trans e,n,ne,nf,d⟩
   intro q
   rw[q,hoc] at e
   have q':oc=p.2:=zuG e
   exact d w' (by rw[<-q'];exact zqs)
theorem Mq {M:Model}{A:Around}{E:Value->Shared->Prop}{i:Nat}{x:Str}{v:V}{u:Value}{Q:Unit->Shared->Prop}(I:Inv X pins σ H s)(hN:X.N.Nodup)(hi:X.N[i]?=some x)(hx:Loc X.env.scope x)(r:RelV v u)
  (h:∀s',Inv X pins (σ.set i (some v)) H s'->Q () s')(hf:X.fn x=true\/X.env.scope.names.lookup x=some .local:=by first | exact .inl rfl | exact .inr rfl | assumption):wpAny M A (storeName X.env x u) Q E s :=
 zio I hN hi hx r (fun s' I' _=>h s' I') hf
theorem Inv.call' {s':Shared}{ch:List Addr}(I:Inv X pins σ H s)(ho:s'.os=s.os)(u:Un (frs X.stack) ch H H' s.heap s'.heap)(hok:Rh X.prog X.w H' s'.heap)(hg:AllBare s'.gens)
  (hch:∀b∈ch,(b∈X.ex\/X.s₀.heap.objs.size<=b)/\b≠X.env.locals/\(∀x c,X.env.cells.lookup x=some c->c≠b)/\∀p∈X.pn++pins,p.1≠b):Inv X pins σ H' s':=by
 obtain⟨h',g',d',t',o'⟩:=s'
 have e:o'=s.os:=ho
 subst e
 exact I.call (g':=g') (t':=t') (d':=d') u hok hg hch
end
abbrev XK:=Value->Option Addr->Hp->Prop
abbrev St:=List (Option V)
abbrev VK:=V->Hp->Prop
abbrev TE:=St->Hp->VK->Prop
abbrev TT:=St->Hp->(Bool->Hp->Prop)->Prop
abbrev TA:=St->Hp->(List V->Hp->Prop)->Prop
structure Ends where
 nx:St->Hp->Prop
 rt:VK
 bk:St->Hp->Prop:=fun _ _=>False
 ct:St->Hp->Prop:=fun _ _=>False
abbrev TS:=Ends->St->Hp->Prop
def EP (X:Cx)(pins:List (Addr×Obj))(σ:St)(Q:VK)(u:Value)(s':Shared):Prop:=∃v H',Inv X pins σ H' s'/\RelV v u/\Q v H'
def TP (X:Cx)(pins:List (Addr×Obj))(σ:St)(Q:Bool->Hp->Prop)(b:Bool)(s':Shared):Prop:=∃H',Inv X pins σ H' s'/\Q b H'
def AP (X:Cx)(pins:List (Addr×Obj))(σ:St)(Q:List V->Hp->Prop)(us:List Value)(s':Shared):Prop:=∃vs H',Inv X pins σ H' s'/\Vals vs us/\Q vs H'
def SP (X:Cx)(pins:List (Addr×Obj))(D:Ends)(f:Flow)(s':Shared):Prop :=
 match f with
 | .next=>∃ σ' H',Inv X pins σ' H' s'/\D.nx σ' H'
 | .brk=>∃ σ' H',Inv X pins σ' H' s'/\D.bk σ' H'
 | .cont=>∃ σ' H',Inv X pins σ' H' s'/\D.ct σ' H'
 | .ret u=>∃v σ' H',Inv X pins σ' H' s'/\RelV v u/\D.rt v H'
def PE (X:Cx)(e:Expr)(t:TE):Prop :=
 ∀(pins:List (Addr×Obj)) (s:Shared) (σ:St) (H:Hp) (Q:VK),Inv X pins σ H s->t σ H Q->wpAny (model X.prog X.w) X.A (eval e X.env) (EP X pins σ Q) X.xe s
def PT (X:Cx)(e:Expr)(t:TT):Prop :=
 ∀(pins:List (Addr×Obj)) (s:Shared) (σ:St) (H:Hp) (Q:Bool->Hp->Prop),Inv X pins σ H s->t σ H Q->wpAny (model X.prog X.w) X.A (isTrue e X.env (eval e X.env)) (TP X pins σ Q) X.xe s
def PW (X:Cx)(e:Expr)(t:TT):Prop :=
 ∀(whole:Sem Value) (pins:List (Addr×Obj)) (s:Shared) (σ:St) (H:Hp) (Q:Bool->Hp->Prop),Inv X pins σ H s->t σ H Q->wpAny (model X.prog X.w) X.A (isTrue e X.env whole) (TP X pins σ Q) X.xe s
theorem PW.pt {X:Cx}{e:Expr}{t:TT}(h:PW X e t):PT X e t:=h _
def PA (X:Cx)(es:List Expr)(t:TA):Prop :=
 ∀(pos:Pos) (pins:List (Addr×Obj)) (s:Shared) (σ:St) (H:Hp) (Q:List V->Hp->Prop),Inv X pins σ H s->t σ H Q->wpAny (model X.prog X.w) X.A (spliced (backTo pos (starEach es X.env))) (AP X pins σ Q) X.xe s
def PS (X:Cx)(st:Stmt)(t:TS):Prop :=
 ∀(pins:List (Addr×Obj)) (s:Shared) (σ:St) (H:Hp) (D:Ends),Inv X pins σ H s->t D σ H->wpAny (model X.prog X.w) X.A (exec st X.env) (SP X pins D) X.xe s
def PSs (X:Cx)(st:List Stmt)(t:TS):Prop :=
 ∀(pins:List (Addr×Obj)) (s:Shared) (σ:St) (H:Hp) (D:Ends),Inv X pins σ H s->t D σ H->wpAny (model X.prog X.w) X.A (execs st X.env) (SP X pins D) X.xe s
theorem vM {α:Type}{t:Sem α}{Q Q':α->Shared->Prop}{M:Model}{A:Around}{E:Value->Shared->Prop}{s:Shared}(h:wpAny M A t Q E s)(hQ:∀a s,Q a s->Q' a s):wpAny M A t Q' E s:=wpAny_mono h hQ fun _ _ x=>x
section
variable {X:Cx}
theorem bin {a b:Expr}{ta tb:TE}(ha:PE X a ta)(hb:PE X b tb){pins:List (Addr×Obj)}{s:Shared}{σ:St}{H:Hp}{R:V->V->Hp->Prop}(I:Inv X pins σ H s)(h:ta σ H fun x H1=>tb σ H1 fun y H2=>R x y H2)
  {α:Type}{Q:α->Shared->Prop}{f:Value->Value->Sem α}
  (hf:∀v u s2 x y H2,Inv X pins σ H2 s2->RelV x v->RelV y u->R x y H2->wpAny (model X.prog X.w) X.A (f v u) Q X.xe s2) :
  wpAny (model X.prog X.w) X.A (eval a X.env) (fun v s₁=>wpAny (model X.prog X.w) X.A (eval b X.env) (fun u s₂=>wpAny (model X.prog X.w) X.A (f v u) Q X.xe s₂) X.xe s₁) X.xe s:=by
 refine vM (ha pins s σ H _ I h) fun v s1 ⟨x,H1,I1,r1,q1⟩=>?_
 refine vM (hb pins s1 σ H1 _ I1 q1) fun u s2 ⟨y,H2,I2,r2,q2⟩=>?_
 exact hf v u s2 x y H2 I2 r1 r2 q2
def zb8 (i:Nat):TE:=fun σ H Q=>∃v,σ[i]?=some (some v)/\Q v H
def tC (v:V):TE:=fun _ H Q=>Q v H
theorem znh {i:Nat}{x:Str}{pos:Pos}(hN:X.N[i]?=some x)(hv:Vis X.env.scope x)(hd:(x==("__debug__" : Str))=false:=by decide)(hcd:(x==("__classdict__" : Str))=false:=by decide):PE X (.Name x pos) (zb8 i):=by
 intro pins s σ H Q I h
 obtain⟨v,e,h⟩:=h
 obtain⟨m,hn,hl⟩:=I.loc
 obtain⟨u,r,l⟩:=hl i x v hN e hv
 have fin:EP X pins σ Q u s:=⟨v,H,I,r,h⟩
 rcases l with ⟨hk,hm⟩ | ⟨hk,c,hc,hcell⟩
 ·exact wpAny_Name (wpAny_loadName_local I.ok.kind hk hn hm fin) hd
 ·rcases hk with hk | hk
  ·exact wpAny_Name (wpAny_loadName_cell I.ok.kind hk hc hcell fin) hd
  ·exact wpAny_Name (wpAny_loadName_free I.ok.kind hk hc hcell fin hcd) hd
theorem zq {i j pos}:PE X (.Constant (.int i) j pos) (tC (.int i)):=fun _ _ _ H _ I h=>wpAny_Constant_int ⟨.int i,H,I.tok _,⟨_,rfl⟩,h⟩
theorem Pj {b j pos}:PE X (.Constant (.bool b) j pos) (tC (.bl b)):=fun _ _ _ H _ I h=>Constant_bool ⟨.bl b,H,I,rfl,h⟩
theorem zni {j pos}:PE X (.Constant .none j pos) (tC .non):=fun _ _ _ H _ I h=>Constant_none ⟨.non,H,I,rfl,h⟩
theorem xT {x j pos}:PE X (.Constant (.str x) j pos) (tC (.str x)):=fun _ _ _ H _ I h=>Calls.Constant_str ⟨.str x,H,I.tok _,⟨_,rfl⟩,h⟩
def Gl (X:Cx)(x:Str):Prop:=X.env.kindOf x=some .globalImplicit
theorem Te {E:Value->Shared->Prop}{pins:List (Addr×Obj)}{s:Shared}{σ:St}{H:Hp}{x:Str}{u:Value}{pos:Pos}{Q:Value->Shared->Prop}(I:Inv X pins σ H s)(hg:Gl X x)(hm:X.mg x=some u)(h:Q u s)
  (hd:(x==("__debug__" : Str))=false:=by decide):wpAny (model X.prog X.w) X.A (eval (.Name x pos) X.env) Q E s :=
 Calls.Name_function_global I.ok.kind hg (Calls.loadGlobal_global (by rw[I.ok.glob];exact I.mod.glob.keeps I.bk) hm h) hd
theorem VP {E:Value->Shared->Prop}{pins:List (Addr×Obj)}{s:Shared}{σ:St}{H:Hp}{x:Str}{u:Value}{pos:Pos}{Q:Value->Shared->Prop}(I:Inv X pins σ H s)(hg:Gl X x)(hm:X.mg x=none)(hv:bootBuiltins x=some u)(h:Q u s)
  (hn:x ≠ "__name__" := by decide)(hd:(x==("__debug__" : Str))=false:=by decide):wpAny (model X.prog X.w) X.A (eval (.Name x pos) X.env) Q E s:=by
 obtain⟨mb,h1,h2⟩:=I.mod.blt
 exact Calls.Name_function_global I.ok.kind hg (Calls.loadGlobal_builtin (by rw[I.ok.glob];exact I.mod.glob.keeps I.bk) hm (by rw[I.ok.blt];exact h1.keeps I.bk) ((h2 x hn).trans hv) h) hd
theorem vd {x:Str}{v:V}{u:Value}{pos:Pos}(hg:Gl X x)(hm:X.mg x=some u)(r:RelV v u)(hd:(x==("__debug__" : Str))=false:=by decide):PE X (.Name x pos) (tC v) :=
 fun _ _ _ H _ I h=>Te I hg hm ⟨v,H,I,r,h⟩ hd
theorem zaA {x:Str}{v:V}{u:Value}{pos:Pos}(hg:Gl X x)(hm:X.mg x=none)(hv:bootBuiltins x=some u)(r:RelV v u)(hn:x ≠ "__name__" := by decide)(hd:(x==("__debug__" : Str))=false:=by decide):PE X (.Name x pos) (tC v) :=
 fun _ _ _ H _ I h=>VP I hg hm hv ⟨v,H,I,r,h⟩ hn hd
variable {a b:Expr}{ta tb:TE}{pos:Pos}
def PC (X:Cx)(op:CmpOp)(a b:Expr)(t:TE):Prop :=
 ∀(pins:List (Addr×Obj)) (s:Shared) (σ:St) (H:Hp) (Q:VK),Inv X pins σ H s->t σ H Q ->
  wpAny (model X.prog X.w) X.A (eval a X.env) (fun v s₁=>wpAny (model X.prog X.w) X.A (eval b X.env) (fun u s₂=>wpAny (model X.prog X.w) X.A (compareOp op v u) (EP X pins σ Q) X.xe s₂) X.xe s₁) X.xe s
def tB (t:TE):TT:=fun σ H Q=>t σ H fun x H1=>∃c,x=.bl c/\Q c H1
theorem znj {op:CmpOp}{t:TE}(h:PC X op a b t)(h1:behindInMarks op b=false:=by first | exact zoB _ (by decide) (by decide) | rfl):PT X (.Compare a [op] [b] pos) (tB t):=by
 intro pins s σ H Q I hw
 refine wpAny_isTrue_Compare1 (vM (h pins s σ H _ I hw) fun v s1 h1=>vM h1 fun u s2 h2=>vM h2 fun c s3 ⟨x,H1,I1,r1,q1⟩=>?_) h1
 obtain⟨d,rfl,q⟩:=q1
 cases r1
 exact wpAny_truthy_bool ⟨H1,I1,q⟩
variable {tA tB':TT}{rest:List Expr}
def zqt (t u:TT):TT:=fun σ H Q=>t σ H fun c H1=>if c=true then u σ H1 Q else Q false H1
def tOr (t u:TT):TT:=fun σ H Q=>t σ H fun c H1=>if c=true then Q true H1 else u σ H1 Q
def zqu (t:TT):TT:=fun σ H Q=>t σ H fun c H1=>Q (!c) H1
theorem Tg (ha:PT X a tA):PW X (.BoolOp .And [a] pos) tA:=by
 intro wh pins s σ H Q I h
 refine isTrue_and (vM (ha pins s σ H Q I h) fun c s1 e=>?_)
 cases c with
 | true=>exact isTrue_and_nil e
 | false=>exact e
theorem Ti (ha:PT X a tA):PW X (.BoolOp .Or [a] pos) tA:=by
 intro wh pins s σ H Q I h
 refine isTrue_or (vM (ha pins s σ H Q I h) fun c s1 e=>?_)
 cases c with
 | false=>exact isTrue_or_nil e
 | true=>exact e
theorem Nj (ha:PT X a tA)(hb:PW X (.BoolOp .And (b::rest) pos) tB'):PW X (.BoolOp .And (a::b::rest) pos) (zqt tA tB'):=by
 intro wh pins s σ H Q I h
 refine isTrue_and (vM (ha pins s σ H _ I h) fun c s1 ⟨H1,I1,q1⟩=>?_)
 cases c with
 | true=>exact hb wh pins s1 σ H1 Q I1 q1
 | false=>exact⟨H1,I1,q1⟩
theorem Pk (ha:PT X a tA)(hb:PW X (.BoolOp .Or (b::rest) pos) tB'):PW X (.BoolOp .Or (a::b::rest) pos) (tOr tA tB'):=by
 intro wh pins s σ H Q I h
 refine isTrue_or (vM (ha pins s σ H _ I h) fun c s1 ⟨H1,I1,q1⟩=>?_)
 cases c with
 | true=>exact⟨H1,I1,q1⟩
 | false=>exact hb wh pins s1 σ H1 Q I1 q1
theorem Tj (ha:PT X a tA):PT X (.UnaryOp .Not a pos) (zqu tA):=by
 intro pins s σ H Q I h
 exact isTrue_not (ha pins s σ H (fun c H1=>Q (!c) H1) I h)
def zoC (ta tb:TE):TE:=fun σ H Q=>ta σ H fun x H1=>∃c,x=.bl c/\if c=true then tb σ H1 Q else Q (.bl false) H1
theorem zjd {op}{t:TE}(h:PE X a t):PE X (.BoolOp op [a] pos) t:=fun pins s σ H Q I hw=>BoolOp_one (h pins s σ H Q I hw)
theorem zdG (ha:PE X a ta)(hb:PE X (.BoolOp .And (b::rest) pos) tb):PE X (.BoolOp .And (a::b::rest) pos) (zoC ta tb):=by
 intro pins s σ H Q I h
 refine BoolOp_and (vM (ha pins s σ H _ I h) fun v s1 ⟨x,H1,I1,r1,q1⟩=>?_)
 obtain⟨c,rfl,q1⟩:=q1
 cases r1
 refine wpAny_truthy_bool ?_
 cases c with
 | true=>exact hb pins s1 σ H1 Q I1 q1
 | false=>exact⟨.bl false,H1,I1,rfl,q1⟩
def tIf (t:TT)(ta tb:TE):TE:=fun σ H Q=>t σ H fun c H1=>if c=true then ta σ H1 Q else tb σ H1 Q
theorem Mr {c:Expr}(hc:PT X c tA)(ha:PE X a ta)(hb:PE X b tb):PE X (.IfExp c a b pos) (tIf tA ta tb):=by
 intro pins s σ H Q I h
 refine wpAny_IfExp (vM (hc pins s σ H _ I h) fun d s1 ⟨H1,I1,q1⟩=>?_)
 cases d with
 | true=>exact ha pins s1 σ H1 Q I1 q1
 | false=>exact hb pins s1 σ H1 Q I1 q1
end
def zB (K:Frag)(H:Hp)(a:Addr)(xs:List V):Prop :=
 Rd H a (.lst xs) \/
  ∃(o:Obj) (its:Array Value) (n:Nat),K.lookup a=some o/\o.cls=.type "list" /\ o.dict=none/\o.data=.seq its n/\its.size<=sizeLine/\Vals xs its.toList
def vf (K:Frag)(H:Hp)(a:Addr)(xs:List V):Prop :=
 Rd H a (.tup xs) \/
  ∃(o:Obj) (its:Array Value) (n:Nat),K.lookup a=some o/\o.cls=.type "tuple" /\ o.data=.seq its n/\its.size<=sizeLine/\Vals xs its.toList
def zgg:Value->Option V
 | .none=>some .non
 | .bool b=>some (.bl b)
 | .int i _=>some (.int i)
 | .str x _=>some (.str x)
 | .bytes b _=>some (.byt b)
 | .float b _=>some (.flt b)
 | .ref a=>some (.ref a)
 | .type n=>some (.ty n)
 | _=>none
theorem RelV.abs {x:V}{u:Value}(r:RelV x u):zgg u=some x:=by
 cases x with
 | non=>cases r;rfl
 | bl _=>cases r;rfl
 | int _=>obtain⟨t,rfl⟩:=r;rfl
 | str _=>obtain⟨t,rfl⟩:=r;rfl
 | byt _=>obtain⟨t,rfl⟩:=r;rfl
 | flt _=>obtain⟨t,rfl⟩:=r;rfl
 | ref _=>cases r;rfl
 | ty _=>cases r;rfl
theorem RelV.inj {x y:V}{u:Value}(r:RelV x u)(q:RelV y u):x=y:=zuG (r.abs.symm.trans q.abs)
theorem Vals.inj:∀{xs ys:List V} {us:List Value},Vals xs us->Vals ys us->xs=ys
 | _,_,_,.nil,.nil=>rfl
 | _,_,_,.cons r t,.cons r' t'=>by rw[r.inj r',Vals.inj t t']
section
variable {X:Cx}{pins:List (Addr×Obj)}{σ:St}{H:Hp}{s:Shared}{a:Addr}{xs ys:List V}
theorem zB.of {K:Frag}(h:H a=some (.lst xs)):zB K H a xs:=.inl (.inl h)
theorem vf.of {K:Frag}(h:H a=some (.tup xs)):vf K H a xs:=.inl (.inl h)
theorem Inv.list (I:Inv X pins σ H s)(h:zB X.K H a xs):∃its:List Value,Vals xs its/\PlainL s.heap a its.toArray/\xs.length<=sizeLine:=by
 rcases h with h | ⟨o,its,n,hk,hc,hd,hs,hz,r⟩
 ·obtain⟨z,its,n,r,e⟩:=h.ok I.hok
  exact⟨its,r,⟨_,n,e,rfl,rfl,rfl⟩,z⟩
 ·refine⟨its.toList,r,⟨o,n,I.Q9 a o hk,hc,hd,by simpa using hs⟩,?_⟩
  have e:=r.length
  simp only[Array.length_toList] at e
  omega
theorem Inv.tuple (I:Inv X pins σ H s)(h:vf X.K H a xs):∃its:List Value,Vals xs its/\IsTup s.heap a its.toArray/\xs.length<=sizeLine:=by
 rcases h with h | ⟨o,its,n,hk,hc,hs,hz,r⟩
 ·obtain⟨z,its,r,p⟩:=h.ok I.hok
  exact⟨its,r,p,z⟩
 ·refine⟨its.toList,r,⟨o,I.Q9 a o hk,hc,n,by simpa using hs⟩,?_⟩
  have e:=r.length
  simp only[Array.length_toList] at e
  omega
theorem Inv.Wy (I:Inv X pins σ H s)(h:zB X.K H a xs)(h':zB X.K H a ys):xs=ys:=by
 obtain⟨its,r,⟨o,n,e,_,_,d⟩,_⟩:=I.list h
 obtain⟨its',r',⟨o',n',e',_,_,d'⟩,_⟩:=I.list h'
 rw[e] at e';cases e'
 rw[d] at d'
 injection d' with d1 _
 have:its=its':=by simpa using congrArg Array.toList d1
 subst this
 exact r.inj r'
theorem Inv.zcQ (I:Inv X pins σ H s)(h:vf X.K H a xs)(h':vf X.K H a ys):xs=ys:=by
 obtain⟨its,r,⟨o,e,_,n,d⟩,_⟩:=I.tuple h
 obtain⟨its',r',⟨o',e',_,n',d'⟩,_⟩:=I.tuple h'
 rw[e] at e';cases e'
 rw[d] at d'
 injection d' with d1 _
 have:its=its':=by simpa using congrArg Array.toList d1
 subst this
 exact r.inj r'
end
abbrev Cx.wish (X:Cx)(E:Value->Shared->Prop):Cx:={ X with xe:=E }
abbrev Cx.nox (X:Cx):Cx:=X.wish fun _ _=>False
theorem Cx.Ok.wish {X:Cx}(ok:X.Ok)(E:Value->Shared->Prop):(X.wish E).Ok :=
 ⟨ok.mod,ok.kind,ok.glob,ok.blt,ok.above,ok.inj,ok.has,ok.cab,ok.hd,ok.frames,ok.stk,ok.exf,ok.bs,ok.bsz,ok.zeS,ok.zeT,ok.Q8,ok.frf⟩
theorem Cx.Ok.Tn {X:Cx}{E:Value->Shared->Prop}(ok:(X.wish E).Ok):X.Ok :=
 ⟨ok.mod,ok.kind,ok.glob,ok.blt,ok.above,ok.inj,ok.has,ok.cab,ok.hd,ok.frames,ok.stk,ok.exf,ok.bs,ok.bsz,ok.zeS,ok.zeT,ok.Q8,ok.frf⟩
section
variable {X:Cx}{pins:List (Addr×Obj)}{σ:St}{H:Hp}{s:Shared}{E:Value->Shared->Prop}
theorem Inv.wish (I:Inv X pins σ H s)(E:Value->Shared->Prop):Inv (X.wish E) pins σ H s:=⟨I.ok.wish E,I.os,I.bare,I.base,I.loc,I.cell,I.free,I.Xi,I.pin,I.hok,I.len⟩
theorem Inv.Tn (I:Inv (X.wish E) pins σ H s):Inv X pins σ H s:=⟨I.ok.Tn,I.os,I.bare,I.base,I.loc,I.cell,I.free,I.Xi,I.pin,I.hok,I.len⟩
theorem SP.Tn {D:Ends}{f:Flow}{s':Shared}(h:SP (X.wish E) pins D f s'):SP X pins D f s':=by
 cases f with
 | next=>obtain⟨σ',H',I,q⟩:=h;exact⟨σ',H',I.Tn,q⟩
 | brk=>obtain⟨σ',H',I,q⟩:=h;exact⟨σ',H',I.Tn,q⟩
 | cont=>obtain⟨σ',H',I,q⟩:=h;exact⟨σ',H',I.Tn,q⟩
 | ret u=>obtain⟨v,σ',H',I,r,q⟩:=h;exact⟨v,σ',H',I.Tn,r,q⟩
theorem PSs.nox {st:List Stmt}{t:TS}(h:PSs X.nox st t):PSs X st t:=fun pins s σ H D I hw =>
 wpAny_mono (h pins s σ H D (I.wish _) hw) (fun _ _ q=>q.Tn) fun _ _ z=>False.elim z
end
section
variable {X:Cx}{st:Stmt}{rest:List Stmt}{t u:TS}{e:Expr}{te:TE}{pos:Pos}
def zoD:TS:=fun D σ H=>D.nx σ H
def zqv (t u:TS):TS:=fun D σ H=>t { D with nx:=u D } σ H
theorem yC:PSs X [] zoD:=fun _ _ σ H _ I h=>wpAny_execs_nil ⟨σ,H,I,h⟩
theorem zf (h1:PS X st t)(h2:PSs X rest u):PSs X (st::rest) (zqv t u):=by
 intro pins s σ H D I h
 refine wpAny_execs_cons (vM (h1 pins s σ H { D with nx:=u D } I h) fun f s1 q=>?_)
 cases f with
 | next =>
  obtain⟨σ',H',I',q⟩:=q
  exact h2 pins s1 σ' H' D I' q
 | ret v=>exact q
 | brk=>exact q
 | cont=>exact q
theorem zp (h1:PS X st t):PSs X [st] t:=by
 intro pins s σ H D I h
 refine wpAny_execs_cons (vM (h1 pins s σ H D I h) fun f s1 q=>?_)
 cases f with
 | next=>exact wpAny_execs_nil q
 | ret v=>exact q
 | brk=>exact q
 | cont=>exact q
theorem Inv.quiet {pins:List (Addr×Obj)}{σ:St}{H:Hp}{s:Shared}(I:Inv X pins σ H s):interactive X.env=false:=by simp[interactive,I.ok.kind]
def zoE (te:TE):TS:=fun D σ H=>te σ H fun _ H1=>D.nx σ H1
theorem zX (he:PE X e te)(hs:swapsWith e none pos.line X.env=pure false:=by rfl):PS X (.Expr e pos) (zoE te):=by
 intro pins s σ H D I h
 exact wpAny_Expr_any (vM (he pins s σ H _ I h) fun v s1 ⟨x,H1,I1,r1,q1⟩=>⟨σ,H1,I1,q1⟩) I.quiet hs
def zqw (te:TE):TS:=fun D σ H=>te σ H D.rt
theorem zV (he:PE X e te):PS X (.Return (some e) pos) (zqw te):=by
 intro pins s σ H D I h
 exact wpAny_Return_some (vM (he pins s σ H _ I h) fun v s1 ⟨x,H1,I1,r1,q1⟩=>⟨x,σ,H1,I1,r1,q1⟩)
def zqx (c:TT)(t u:TS):TS:=fun D σ H=>c σ H fun b H1=>if b=true then t D σ H1 else u D σ H1
theorem yZ {c:Expr}{a b:List Stmt}{tc:TT}(hc:PT X c tc)(ha:PSs X a t)(hb:PSs X b u):PS X (.If c a b pos) (zqx tc t u):=by
 intro pins s σ H D I h
 refine wpAny_If (vM (hc pins s σ H _ I h) fun d s1 ⟨H1,I1,q1⟩=>?_)
 cases d with
 | true=>exact ha pins s1 σ H1 D I1 q1
 | false=>exact hb pins s1 σ H1 D I1 q1
def zje:TS:=fun _ _ _=>False
theorem Ul:PS X st zje:=fun _ _ _ _ _ _ h=>h.elim
theorem Z2 {sts:List Stmt}:PSs X sts zje:=fun _ _ _ _ _ _ h=>h.elim
end
abbrev TG:=V->St->Hp->(St->Hp->Prop)->Prop
abbrev TGs:=List V->St->Hp->(St->Hp->Prop)->Prop
def PG (X:Cx)(target:Expr)(t:TG):Prop :=
 ∀(pins:List (Addr×Obj)) (s:Shared) (σ:St) (H:Hp) (v:V) (u:Value) (Q:St->Hp->Prop),Inv X pins σ H s->RelV v u->t v σ H Q ->
  wpAny (model X.prog X.w) X.A (assign target X.env u) (fun _ s'=>∃ σ' H',Inv X pins σ' H' s'/\Q σ' H') X.xe s
def PGs (X:Cx)(ts:List Expr)(t:TGs):Prop :=
 ∀(pins:List (Addr×Obj)) (s:Shared) (σ:St) (H:Hp) (vs:List V) (us:List Value) (Q:St->Hp->Prop),Inv X pins σ H s->Vals vs us->t vs σ H Q ->
  wpAny (model X.prog X.w) X.A (assignInOrder ((assignEach ts X.env).map (·.2)) us) (fun _ s'=>∃ σ' H',Inv X pins σ' H' s'/\Q σ' H') X.xe s
abbrev znl:=V->V->V->Hp->(Hp->Prop)->Prop
def zoF (X:Cx)(t:znl):Prop :=
 ∀(pins:List (Addr×Obj)) (s:Shared) (σ:St) (H:Hp) (o i v:V) (ov iv u:Value) (Q:Hp->Prop),Inv X pins σ H s->RelV o ov->RelV i iv->RelV v u->t o i v H Q ->
  wpAny (model X.prog X.w) X.A (setItem ov iv u) (fun _ s'=>∃H',Inv X pins σ H' s'/\Q H') X.xe s
abbrev TIp:=V->V->Hp->VK->Prop
def PIp (X:Cx)(op:Operator)(t:TIp):Prop :=
 ∀(pins:List (Addr×Obj)) (s:Shared) (σ:St) (H:Hp) (x y:V) (v u:Value) (Q:VK),Inv X pins σ H s->RelV x v->RelV y u->t x y H Q ->
  wpAny (model X.prog X.w) X.A (inplaceOp op v u) (EP X pins σ Q) X.xe s
section
variable {X:Cx}{pos:Pos}
def Ri (i:Nat):TG:=fun v σ H Q=>Q (σ.set i (some v)) H
theorem yS {i:Nat}{x:Str}(hN:X.N.Nodup)(hi:X.N[i]?=some x)(hx:Loc X.env.scope x)(hf:X.fn x=true\/X.env.scope.names.lookup x=some .local:=by first | exact .inl rfl | exact .inr rfl | assumption):PG X (.Name x pos) (Ri i):=by
 intro pins s σ H v u Q I r h
 exact wpAny_assign_Name (Mq I hN hi hx r (fun s' I'=>⟨_,H,I',h⟩) hf)
def zlg:TGs:=fun vs σ H Q=>vs=[]/\Q σ H
def zaV (t:TG)(u:TGs):TGs:=fun vs σ H Q=>∃v r,vs=v::r/\t v σ H fun σ' H'=>u r σ' H' Q
theorem Tp:PGs X [] zlg:=by
 intro pins s σ H vs us Q I r h
 obtain⟨e,h⟩:=h
 subst e
 cases r
 exact assignInOrder_nil ⟨σ,H,I,h⟩
theorem vZ {e:Expr}{es:List Expr}{t:TG}{u:TGs}(h1:PG X e t)(h2:PGs X es u)
  (hs:(assignEach (e::es) X.env).map (·.2)=assign e X.env::(assignEach es X.env).map (·.2):=by rfl):PGs X (e::es) (zaV t u):=by
 intro pins s σ H vs us Q I r h
 obtain⟨v,vr,e1,h⟩:=h
 subst e1
 cases r with
 | cons r rr =>
  rw[hs]
  refine assignInOrder_cons (vM (h1 pins s σ H _ _ _ I r h) fun _ s1 ⟨σ1,H1,I1,q1⟩=>?_)
  exact h2 pins s1 σ1 H1 _ _ Q I1 rr q1
def zlh (K:Frag)(n:Nat)(t:TGs):TG:=fun v σ H Q=>∃a xs,v=.ref a/\vf K H a xs/\xs.length=n/\t xs σ H Q
theorem Nk {es:List Expr}{k:Nat}{t:TGs}{n:Nat}(hc:X.calm=true)(h:PGs X es t)
  (hn:(assignEach es X.env).length=n:=by rfl)(hst:(assignEach es X.env).findIdx? (·.1)=none:=by rfl):PG X (.Tuple es k pos) (zlh X.K n t):=by
 intro pins s σ H v u Q I r hw
 obtain⟨a,xs,e1,hq,hl,hw⟩:=hw
 subst e1
 cases r
 obtain⟨its,rv,ht,hz⟩:=I.tuple hq
 refine assign_Tuple_tuple (I.ok.hd hc) ht (by simp[hn,<-hl,rv.length]) hst fun h' hx=>?_
 have I1:Inv X pins σ H { s with heap:=h' }:=I.kept (t':=s.toks) fun b o e=>hx b o (zur (zuj e)) e
 exact h pins _ σ H xs _ Q I1 (by simpa using rv) hw
def zqz (to ti:TE)(t:znl):TG:=fun v σ H Q=>to σ H fun o H1=>ti σ H1 fun i H2=>t o i v H2 fun H3=>Q σ H3
theorem zdH {o i:Expr}{to ti:TE}{t:znl}(ho:PE X o to)(hi:PE X i ti)(hs:zoF X t)
  (ha:∀v,assign (.Subscript o i pos) X.env v=(do
   let ov <-holding [v] (eval o X.env)
   let iv <-holding [v,ov] (eval i X.env)
   standAt pos
   holding [v,ov,iv] (setItem ov iv v)
   release [v,ov,iv] []):=by intro _;rfl):PG X (.Subscript o i pos) (zqz to ti t):=by
 intro pins s σ H v u Q I r h
 rw[ha]
 refine wpAny_bind (wpAny_holding (vM (ho pins s σ H _ I h) fun ov s1 ⟨x,H1,I1,r1,q1⟩=>?_))
 refine wpAny_bind (wpAny_holding (vM (hi pins s1 σ H1 _ I1 q1) fun iv s2 ⟨y,H2,I2,r2,q2⟩=>?_))
 refine wpAny_bind (wpAny_standAt (wpAny_bind (wpAny_holding (vM (hs pins s2 σ H2 x y v ov iv u _ I2 r1 r2 r q2) fun _ s3 ⟨H3,I3,q3⟩=>?_))))
 exact wpAny_release ⟨σ,H3,I3,q3⟩
def zli (te:TE)(g:TG):TS:=fun D σ H=>te σ H fun x H1=>g x σ H1 D.nx
theorem KZ {tg e:Expr}{te:TE}{g:TG}(he:PE X e te)(hg:PG X tg g)(hs:swapsWithSole [tg] e pos.line X.env=pure false:=by rfl)(hw:swappedStores [tg] e X.env=pure none:=by rfl)
  (h1:(assignEach [tg] X.env).map (·.2)=[assign tg X.env]:=by rfl):PS X (.Assign [tg] e pos) (zli te g):=by
 intro pins s σ H D I h
 refine wpAny_Assign_stores (vM (he pins s σ H _ I h) fun v s1 ⟨x,H1,I1,r1,q1⟩=>?_) hs hw
 rw[h1]
 exact vM (hg pins s1 σ H1 x v _ I1 r1 q1) fun _ s2 q=>q
theorem zQ {i:Nat}{x:Str}{e:Expr}{te:TE}{pos':Pos}(hN:X.N.Nodup)(hi:X.N[i]?=some x)(hx:Loc X.env.scope x)(he:PE X e te)(hs:swapsWith e (some (.Name x pos')) pos.line X.env=pure false:=by rfl)(hf:X.fn x=true\/X.env.scope.names.lookup x=some .local:=by first | exact .inl rfl | exact .inr rfl | assumption) :
  PS X (.Assign [.Name x pos'] e pos) (zli te (Ri i)):=by
 intro pins s σ H D I h
 refine wpAny_Assign_Name (vM (he pins s σ H _ I h) fun v s1 ⟨y,H1,I1,r1,q1⟩=>?_) hs
 exact Mq I1 hN hi hx r1 (fun s2 I2=>⟨_,H1,I2,q1⟩) hf
def zqA (i:Nat)(te:TE)(ti:TIp):TS:=fun D σ H=>∃x,σ[i]?=some (some x)/\te σ H fun y H1=>ti x y H1 fun z H2=>D.nx (σ.set i (some z)) H2
theorem zgh {i:Nat}{x:Str}{e:Expr}{te:TE}{op:Operator}{ti:TIp}{pos':Pos}(hN:X.N.Nodup)(hi:X.N[i]?=some x)(hx:Loc X.env.scope x)(he:PE X e te)(ho:PIp X op ti)(hf:X.fn x=true\/X.env.scope.names.lookup x=some .local:=by first | exact .inl rfl | exact .inr rfl | assumption) :
  PS X (.AugAssign (.Name x pos') op e pos) (zqA i te ti):=by
 intro pins s σ H D I h
 obtain⟨v,e1,h⟩:=h
 obtain⟨m,hn,hl⟩:=I.loc
 have vis:Vis X.env.scope x:=by rcases hx with k | k;exact .inl k;exact .inr (.inl k)
 obtain⟨u,r,l⟩:=hl i x v hi e1 vis
 refine wpAny_AugAssign_Name ?_
 have go:wpAny (model X.prog X.w) X.A (eval e X.env) (fun w s₂=>wpAny (model X.prog X.w) X.A (inplaceOp op u w) (fun r s₃=>wpAny (model X.prog X.w) X.A (storeName X.env x r) (fun _=>SP X pins D .next) X.xe s₃) X.xe s₂) X.xe s:=by
  refine vM (he pins s σ H _ I h) fun w s1 ⟨y,H1,I1,r1,q1⟩=>?_
  refine vM (ho pins s1 σ H1 v y u w _ I1 r r1 q1) fun z s2 ⟨zv,H2,I2,r2,q2⟩=>?_
  exact Mq I2 hN hi hx r2 (fun s3 I3=>⟨_,H2,I3,q2⟩) hf
 rcases l with ⟨hk,hm⟩ | ⟨hk,c,hc,hcell⟩
 ·exact wpAny_loadName_local I.ok.kind hk hn hm go
 ·rcases hk with hk | hk
  ·exact wpAny_loadName_cell I.ok.kind hk hc hcell go
  ·rcases hx with k | k
   ·have:X.env.scope.names.lookup x=some .free:=hk
    rw[k] at this;cases this
   ·have:X.env.scope.names.lookup x=some .free:=hk
    rw[k] at this;cases this
def znm (c:TT)(tb:TS):TS:=fun D σ H=>∃W:Nat->St->Hp->Prop,(∃m,W m σ H)/\∀m σ H,W m σ H ->
 c σ H fun b H1=>if b=true then ∃N:St->Hp->Prop,(∀ σ' H',N σ' H'->∃m',m'<m/\W m' σ' H')/\tb { D with nx:=N,ct:=N,bk:=D.nx } σ H1 else D.nx σ H1
theorem Rx {c:Expr}{body:List Stmt}{tc:TT}{tb:TS}(hp:PassesOwn (model X.prog X.w) X.A X.env X.xe)(hc:PT X c tc)(hb:PSs X body tb):PS X (.While c body [] pos) (znm tc tb):=by
 intro pins s σ H D I h
 obtain⟨W,⟨m0,w0⟩,turn⟩:=h
 refine wpAny_While (codeAny_whileLoop (fun n s'=>∃ σ' H',Inv X pins σ' H' s'/\W n σ' H') ?_ m0 ⟨σ,H,I,w0⟩)
 rintro n s1 ⟨σ1,H1,I1,w1⟩
 refine wpAny_passesOwn hp (vM (hc pins s1 σ1 H1 _ I1 (turn n σ1 H1 w1)) fun b s2 ⟨H2,I2,q2⟩=>?_)
 cases b with
 | true =>
  obtain⟨N,hN,q2⟩:=q2
  rw[if_pos rfl]
  refine wpAny_passesOwn hp (vM (hb pins s2 σ1 H2 _ I2 q2) fun f s3 q3=>?_)
  cases f with
  | next =>
   obtain⟨σ3,H3,I3,n3⟩:=q3
   obtain⟨m',hm,w3⟩:=hN σ3 H3 n3
   exact⟨m',hm,σ3,H3,I3,w3⟩
  | cont =>
   obtain⟨σ3,H3,I3,n3⟩:=q3
   obtain⟨m',hm,w3⟩:=hN σ3 H3 n3
   exact⟨m',hm,σ3,H3,I3,w3⟩
  | brk=>exact q3
  | ret v=>exact q3
 | false =>
  rw[if_neg zug]
  exact wpAny_execs_nil ⟨σ1,H2,I2,q2⟩
end
structure It where
 go:Nat->Hp->Prop
 KQ:Nat->Hp->V->Hp->Prop
 stop:Nat->Hp->Prop
def zb9 (X:Cx)(pins:List (Addr×Obj))(H:Hp)(b:Addr):Prop :=
 H b=none/\b≠X.env.locals/\b∉X.fs/\(b∈X.ex\/X.s₀.heap.objs.size<=b)/\(∀x c,X.env.cells.lookup x=some c->c≠b)/\∀p∈X.pn++pins,p.1≠b
theorem Inv.zgi {X:Cx}{pins:List (Addr×Obj)}{σ:St}{H H':Hp}{s:Shared}{b:Addr}(I:Inv X pins σ H s)(hb:s.heap.objs.size<=b)(hn:H' b=none):zb9 X pins H' b:=by
 refine⟨hn,Nat.ne_of_gt (zul I.lt hb),I.zng hb,.inr (zux I.sz hb),fun x c e z=>?_,fun p hp z=>?_⟩
 ·obtain⟨v,q⟩:=I.cell x c e
  exact absurd (zul q.lt (by rw[z];exact hb)) (Nat.lt_irrefl _)
 ·exact absurd (zul (zuj (I.pin p hp).1) (by rw[z];exact hb)) (Nat.lt_irrefl _)
abbrev Calm (X:Cx):Prop:=X.calm=true
structure Turn (P:Program)(w:World)(K:Frag)(tg:Expr)(J:It)(fp:List Addr)(it:Addr)(tn:Nat->Heap->Prop)(rd:Cx->Prop:=Calm):Prop where
 mem:it∈fp
 obj:∀i h,tn i h->∀b∈fp,∃o,h.get? b=some o/\∀v,o.data≠.cell v
 keep:∀i h h',tn i h->(∀b∈fp,∀o,h.get? b=some o->h'.get? b=some o)->tn i h'
 item:∀(X:Cx),X.prog=P->X.w=w->X.K=K->rd X->∀(i:Nat) (pins:List (Addr×Obj)) (s:Shared) (σ:St) (H:Hp) (E:Value->Shared->Prop),Inv X pins σ H s->(∀b∈fp,zb9 X pins H b)->tn i s.heap->J.go i H ->
  wpAny (model P w) X.A (pyNext (.ref it)) (fun r s1=>∃u,r=some u /\
   wpAny (model P w) X.A (letOwnedTupleGo tg (.ref it) u) (fun _ s2=>∃x H',Inv X pins σ H' s2/\RelV x u/\J.KQ i H x H'/\tn (i+1) s2.heap/\∀b∈fp,H' b=none) E s1) E s
 done:∀(X:Cx),X.prog=P->X.w=w->X.K=K->rd X->∀(i:Nat) (pins:List (Addr×Obj)) (s:Shared) (σ:St) (H:Hp) (E:Value->Shared->Prop),Inv X pins σ H s->(∀b∈fp,zb9 X pins H b)->tn i s.heap->J.stop i H ->
  wpAny (model P w) X.A (pyNext (.ref it)) (fun r s1=>r=none/\Inv X pins σ H s1) E s
 self:∀(A:Around) (i:Nat) (s:Shared) (Q:Value->Shared->Prop) (E:Value->Shared->Prop),tn i s.heap->Q (.ref it) s->wpAny (model P w) A (pyIter (.ref it)) Q E s
abbrev TI:=St->Hp->(It->Hp->Prop)->Prop
def znn (rd:Cx->Prop)(X:Cx)(pins:List (Addr×Obj))(σ:St)(tg:Expr)(R:It->Hp->Prop)(itv:Value)(s2:Shared):Prop :=
 ∃(it:Addr) (fp:List Addr) (tn:Nat->Heap->Prop) (J:It) (H':Hp),itv=.ref it/\Inv X pins σ H' s2/\Turn X.prog X.w X.K tg J fp it tn rd/\tn 0 s2.heap/\(∀b∈fp,zb9 X pins H' b)/\R J H'
abbrev PIE:=znn Calm
def PIr (rd:Cx->Prop)(X:Cx)(tg iter:Expr)(wi:TI):Prop :=
 ∀(pins:List (Addr×Obj)) (s:Shared) (σ:St) (H:Hp) (R:It->Hp->Prop),Inv X pins σ H s->wi σ H R ->
  wpAny (model X.prog X.w) X.A (eval iter X.env) (fun v s1=>wpAny (model X.prog X.w) X.A (pyIter v) (znn rd X pins σ tg R) X.xe s1) X.xe s
abbrev PI:=PIr Calm
theorem zcR {M:Model}{A:Around}{E:Value->Shared->Prop}{s:Shared}{tg:Expr}{it:Addr}{u:Value}{o:Obj}{n:String}{vs:Array Value}{Q:Unit->Shared->Prop}(ho:s.heap.get? it=some o)(hc:o.cls=.type n)(hd:o.data=.fields vs)
  (hn:["enumerate", "zip", "dict_itemiterator", "dict_reverseitemiterator", "odict_iterator", "itertools.zip_longest", "itertools.pairwise"].contains n=false)(hQ:Q () s):wpAny M A (letOwnedTupleGo tg (.ref it) u) Q E s:=by
 unfold letOwnedTupleGo
 cases tg<;>first
  | exact wpAny_pure hQ
  | (cases u<;>first
    | exact wpAny_pure hQ
    | (refine wpAny_bind (wpAny_load ho ?_)
       rw[hc,hd]
       show wpAny M A (if (["enumerate", "zip", "dict_itemiterator", "dict_reverseitemiterator", "odict_iterator", "itertools.zip_longest", "itertools.pairwise"].contains n&&vs[0]?==some (rawInt _))=true then _ else _) Q E s
       rw[if_neg (by intro h;rw[hn,Bool.false_and] at h;cases h)]
       exact wpAny_pure hQ))
def Itl (K:Frag)(a:Addr):It :=
 ⟨fun i H=>∃xs x,zB K H a xs/\xs[i]?=some x,fun i H x H'=>H'=H/\∀xs,zB K H a xs->xs[i]?=some x,fun i H=>∃xs,zB K H a xs/\xs.length<=i⟩
def Itt (K:Frag)(a:Addr):It :=
 ⟨fun i H=>∃xs x,vf K H a xs/\xs[i]?=some x,fun i H x H'=>H'=H/\∀xs,vf K H a xs->xs[i]?=some x,fun i H=>∃xs,vf K H a xs/\xs.length<=i⟩
def Itr (lo:Int)(n:Nat):It:=⟨fun i _=>i<n,fun i H x H'=>H'=H/\x=.int (lo+i),fun i _=>n<=i⟩
theorem ziq {P:Program}{w:World}{K:Frag}{tg:Expr}(a it:Addr):Turn P w K tg (Itl K a) [it] it (fun i h=>h.IsListIter it a i) where
 mem:=by simp
 obj:=fun i h st b hb=>by
  have e:b=it:=by simpa using hb
  subst e
  obtain⟨o,e,c,d⟩:=st
  exact⟨o,e,fun v z=>by rw[d] at z;cases z⟩
 keep:=fun i h h' st k=>st.at fun o e=>k it (by simp) o e
 item:=by
  intro X hP hw hK hc i pins s σ H E I hf st hg
  subst hP hw hK
  obtain⟨xs,x,hq,hx⟩:=hg
  obtain⟨its,rv,p,hz⟩:=I.list hq
  obtain⟨u,hu,ru⟩:=rv.get hx
  obtain⟨f0,f1,f2,f3,f4,f5⟩:=hf it (by simp)
  refine wpAny_pyNext_list_item st p.isList (x:=u) (by simpa using hu) fun h' st' sb=>?_
  have I1:Inv X pins σ H { s with heap:=h' }:=I.turned (t':=s.toks) (fun b o hb e=>(sb.2 b hb).trans e) f0 f1 f3 f4 f5
  obtain⟨o,e,c,d⟩:=id st'
  exact⟨u,rfl,zcR (s:={ s with heap:=h' }) e c d (by decide) ⟨x,H,I1,ru,⟨rfl,fun ys hy=>by rw[I.Wy hy hq];exact hx⟩,st',fun b hb=>(hf b hb).1⟩⟩
 done:=by
  intro X hP hw hK hc i pins s σ H E I hf st hg
  subst hP hw hK
  obtain⟨xs,hq,hx⟩:=hg
  obtain⟨its,rv,p,hz⟩:=I.list hq
  obtain⟨f0,f1,f2,f3,f4,f5⟩:=hf it (by simp)
  have hl:=rv.length
  exact wpAny_pyNext_list_end (I.ok.hd hc) st p.isList (by simp;omega) fun h' eb=>⟨rfl,I.turned (t':=s.toks) (fun b o hb e=>eb b o hb e) f0 f1 f3 f4 f5⟩
 self:=fun _ _ _ _ _ st h=>wpAny_pyIter_listiter st h
theorem zgj {P:Program}{w:World}{K:Frag}{tg:Expr}(a it:Addr):Turn P w K tg (Itt K a) [it] it (fun i h=>h.IsTupleIter it a i) where
 mem:=by simp
 obj:=fun i h st b hb=>by
  have e:b=it:=by simpa using hb
  subst e
  obtain⟨o,e,c,d⟩:=st
  exact⟨o,e,fun v z=>by rw[d] at z;cases z⟩
 keep:=fun i h h' st k=>st.at fun o e=>k it (by simp) o e
 item:=by
  intro X hP hw hK hc i pins s σ H E I hf st hg
  subst hP hw hK
  obtain⟨xs,x,hq,hx⟩:=hg
  obtain⟨its,rv,p,hz⟩:=I.tuple hq
  obtain⟨u,hu,ru⟩:=rv.get hx
  obtain⟨f0,f1,f2,f3,f4,f5⟩:=hf it (by simp)
  refine wpAny_pyNext_tuple_item st (show s.heap.IsTuple a its.toArray from p) (x:=u) (by simpa using hu) fun h' st' sb=>?_
  have I1:Inv X pins σ H { s with heap:=h' }:=I.turned (t':=s.toks) (fun b o hb e=>(sb.2 b hb).trans e) f0 f1 f3 f4 f5
  obtain⟨o,e,c,d⟩:=id st'
  exact⟨u,rfl,zcR (s:={ s with heap:=h' }) e c d (by decide) ⟨x,H,I1,ru,⟨rfl,fun ys hy=>by rw[I.zcQ hy hq];exact hx⟩,st',fun b hb=>(hf b hb).1⟩⟩
 done:=by
  intro X hP hw hK hc i pins s σ H E I hf st hg
  subst hP hw hK
  obtain⟨xs,hq,hx⟩:=hg
  obtain⟨its,rv,p,hz⟩:=I.tuple hq
  obtain⟨f0,f1,f2,f3,f4,f5⟩:=hf it (by simp)
  have hl:=rv.length
  exact wpAny_pyNext_tuple_end (I.ok.hd hc) st (show s.heap.IsTuple a its.toArray from p) (by simp;omega) fun h' eb=>⟨rfl,I.turned (t':=s.toks) (fun b o hb e=>eb b o hb e) f0 f1 f3 f4 f5⟩
 self:=fun _ _ _ _ _ st h=>wpAny_pyIter_tupleiter st h
theorem zgk {P:Program}{w:World}{K:Frag}{tg:Expr}(it:Addr)(lo:Int)(n:Nat):Turn P w K tg (Itr lo n) [it] it (fun i h=>IsRangeIter h it (lo+(i:Nat)*1) ((n:Int)-(i:Nat)) 1) where
 mem:=by simp
 obj:=fun i h st b hb=>by
  have e:b=it:=by simpa using hb
  subst e
  exact⟨_,st,fun v z=>by
   have z':Data.fields _=Data.cell v:=z
   cases z'⟩
 keep:=fun i h h' st k=>k it (by simp) _ st
 item:=by
  intro X hP hw hK hc i pins s σ H E I hf st hg
  subst hP hw hK
  obtain⟨f0,f1,f2,f3,f4,f5⟩:=hf it (by simp)
  have W:=Walks.range (prog:=X.prog) (w:=X.w) (I.ok.hd hc) it lo 1 n
  refine W.item i s _ _ hg st fun v h' tk hv st' kk=>?_
  obtain⟨t,rfl⟩:=hv
  have I1:Inv X pins σ H { s with heap:=h',toks:=tk }:=I.turned (fun b o hb e=>kk b o (by simpa using hb) e) f0 f1 f3 f4 f5
  refine⟨_,rfl,zcR (s:={ s with heap:=h',toks:=tk }) (n := "range_iterator") st' rfl rfl (by decide) ⟨.int (lo+i),H,I1,⟨t,?_⟩,⟨rfl,rfl⟩,st',fun b hb=>(hf b hb).1⟩⟩
  rw[Int.mul_one]
 done:=by
  intro X hP hw hK hc i pins s σ H E I hf st hg
  subst hP hw hK
  obtain⟨f0,f1,f2,f3,f4,f5⟩:=hf it (by simp)
  exact wpAny_pyNext_range_end (I.ok.hd hc) st (by have:n<=i:=hg;omega) fun h' eb=>⟨rfl,I.turned (t':=s.toks) (fun b o hb e=>eb b o hb e) f0 f1 f3 f4 f5⟩
 self:=fun _ _ _ _ _ st h=>wpAny_pyIter_rangeiter st h
section
variable {X:Cx}{tg:Expr}
def zoH (K:Frag)(tl:TE):TI:=fun σ H R=>tl σ H fun x H1=>∃a,x=.ref a/\(∃xs,zB K H1 a xs)/\R (Itl K a) H1
def zqB (K:Frag)(tl:TE):TI:=fun σ H R=>tl σ H fun x H1=>∃a,x=.ref a/\(∃xs,vf K H1 a xs)/\R (Itt K a) H1
theorem vg {l:Expr}{tl:TE}(hl:PE X l tl):PI X tg l (zoH X.K tl):=by
 intro pins s σ H R I h
 refine vM (hl pins s σ H _ I h) fun v s1 ⟨x,H1,I1,r1,q1⟩=>?_
 obtain⟨a,e,⟨xs,hq⟩,q⟩:=q1
 subst e
 cases r1
 obtain⟨its,rv,p,hz⟩:=I1.list hq
 refine wpAny_pyIter_list p.isList ?_
 refine⟨s1.heap.objs.size,[s1.heap.objs.size],_,_,H1,rfl,I1.kept (t':=s1.toks) fun b o e=>zui _ e,ziq a _,⟨_,zuw _ rfl,rfl,rfl⟩,fun b hb=>?_,q⟩
 have e:b=s1.heap.objs.size:=by simpa using hb
 subst e
 exact I1.zgi (zus _) (I1.hok.fresh (zus _))
theorem Ry {l:Expr}{tl:TE}(hl:PE X l tl):PI X tg l (zqB X.K tl):=by
 intro pins s σ H R I h
 refine vM (hl pins s σ H _ I h) fun v s1 ⟨x,H1,I1,r1,q1⟩=>?_
 obtain⟨a,e,⟨xs,hq⟩,q⟩:=q1
 subst e
 cases r1
 obtain⟨its,rv,p,hz⟩:=I1.tuple hq
 refine wpAny_pyIter_tuple (show s1.heap.IsTuple a its.toArray from p) ?_
 refine⟨s1.heap.objs.size,[s1.heap.objs.size],_,_,H1,rfl,I1.kept (t':=s1.toks) fun b o e=>zui _ e,zgj a _,⟨_,zuw _ rfl,rfl,rfl⟩,fun b hb=>?_,q⟩
 have e:b=s1.heap.objs.size:=by simpa using hb
 subst e
 exact I1.zgi (zus _) (I1.hok.fresh (zus _))
theorem zeV {pins:List (Addr×Obj)}{σ:St}{H:Hp}{s:Shared}{R:It->Hp->Prop}{E:Value->Shared->Prop}{lo hi:Int}{t u v:Tok}{tk:Nat}(I:Inv X pins σ H s)(h1:-(2^62)<=lo)(h2:lo<2^62)(h3:-(2^62)<=hi)(h4:hi<2^62)
  (q:R (Itr lo (hi-lo).toNat) H):wpAny (model X.prog X.w) X.A (pyIter (.ref s.heap.objs.size)) (PIE X pins σ tg R) E { s with heap:=s.heap.push { cls:=.type "range", data:=.fields #[.int lo t,.int hi u,.int 1 v] },toks:=tk }:=by
 refine wpAny_pyIter_range (IsRange.new ..) (small_one h1 h2 h3 h4) ?_
 have I1:Inv X pins σ H { s with heap:=s.heap.push { cls:=.type "range", data:=.fields #[.int lo t,.int hi u,.int 1 v] },toks:=tk }:=I.kept fun b o e=>zui _ e
 refine⟨(s.heap.push { cls:=.type "range", data:=.fields #[.int lo t,.int hi u,.int 1 v] }).objs.size,[(s.heap.push { cls:=.type "range", data:=.fields #[.int lo t,.int hi u,.int 1 v] }).objs.size],_,_,H,rfl,
  I1.kept (t':=tk) fun b o e=>zui _ e,zgk _ lo (hi-lo).toNat,?_,fun b hb=>?_,q⟩
 ·have e1:lo+((0:Nat):Int)*1=lo:=by simp
  have e2:(((hi-lo).toNat:Nat):Int)-((0:Nat):Int)=Builtin.Range.rangeSize lo hi 1:=by rw[rangeSize_one];split<;>omega
  show IsRangeIter _ _ (lo+((0:Nat):Int)*1) ((((hi-lo).toNat:Nat):Int)-((0:Nat):Int)) 1
  rw[e1,e2]
  exact zuw _ rfl
 ·have e:b=(s.heap.push { cls:=.type "range", data:=.fields #[.int lo t,.int hi u,.int 1 v] }).objs.size:=by simpa using hb
  subst e
  exact I1.zgi (zus _) (I1.hok.fresh (zus _))
def zoI (ta:TA):TI:=fun σ H R=>ta σ H fun vs H1=>∃j:Int,vs=[.int j]/\-(2^62)<=j/\j<2^62/\R (Itr 0 j.toNat) H1
def zoJ (ta:TA):TI:=fun σ H R=>ta σ H fun vs H1=>∃i j:Int,vs=[.int i,.int j]/\(-(2^62)<=i/\i<2^62/\-(2^62)<=j/\j<2^62)/\R (Itr i (j-i).toNat) H1
theorem Um {a:Expr}{ta:TA}{p pos:Pos}(hg:Gl X "range")(hm:X.mg "range"=none)(ha:PA X [a] ta)(hs:starEach [a] X.env=[(false,eval a X.env)]:=by rfl):PI X tg (.Call (.Name "range" p) [a] [] pos) (zoI ta):=by
 intro pins s σ H R I h
 refine Call_ (VP I hg hm boot_range (PyProof.Rows.callWith_type1 (vM (ha pos pins s σ H _ I h) fun us s1 ⟨vs,H1,I1,r1,q1⟩=>?_) hs rfl))
 obtain⟨j,e,q1,q2,q⟩:=q1
 subst e
 cases r1 with
 | cons r rr =>
  cases rr
  obtain⟨t,rfl⟩:=r
  exact call_range_1 (zeV I1 (by omega) (by omega) q1 q2 (by simpa using q))
theorem zcT {a b:Expr}{ta:TA}{p pos:Pos}(hg:Gl X "range")(hm:X.mg "range"=none)(ha:PA X [a,b] ta)(hs:starEach [a,b] X.env=[(false,eval a X.env),(false,eval b X.env)]:=by rfl)(hs2:starEach [b] X.env=[(false,eval b X.env)]:=by rfl) :
  PI X tg (.Call (.Name "range" p) [a,b] [] pos) (zoJ ta):=by
 intro pins s σ H R I h
 refine Call_ (VP I hg hm boot_range (PyProof.Rows.callWith_type1 (vM (ha pos pins s σ H _ I h) fun us s1 ⟨vs,H1,I1,r1,q1⟩=>?_) (by rw[hs,hs2]) (by rw[hs2];rfl)))
 obtain⟨i,j,e,⟨q1,q2,q3,q4⟩,q⟩:=q1
 subst e
 cases r1 with
 | cons r rr =>
  cases rr with
  | cons r' rr =>
   cases rr
   obtain⟨t,rfl⟩:=r
   obtain⟨t',rfl⟩:=r'
   exact call_range_2 (zeV I1 q1 q2 q3 q4 q)
def zqC (wi:TI)(g:TG)(tb:TS):TS:=fun D σ H=>wi σ H fun J H1=>∃W:Nat->Nat->St->Hp->Prop,(∃m,W 0 m σ H1)/\∀i m σ H,W i m σ H ->
 (J.stop i H/\D.nx σ H)\/(J.go i H/\∃N:St->Hp->Prop,(∀ σ' H',N σ' H'->∃m',m'<m/\W (i+1) m' σ' H')/\∀x H',J.KQ i H x H'->g x σ H' fun σ2 H2=>tb { D with nx:=N,ct:=N,bk:=D.nx } σ2 H2)
def Nm (fp:List Addr)(h:Heap):List (Addr×Obj):=fp.filterMap fun b=>(h.get? b).map fun o=>(b,o)
theorem Tq {fp:List Addr}{h:Heap}{b:Addr}{o:Obj}(hb:b∈fp)(e:h.get? b=some o):(b,o)∈Nm fp h:=List.mem_filterMap.mpr ⟨b,hb,by rw[e];rfl⟩
theorem zcU {fp:List Addr}{h:Heap}{p:Addr×Obj}(hp:p∈Nm fp h):p.1∈fp/\h.get? p.1=some p.2:=by
 obtain⟨b,hb,e⟩:=List.mem_filterMap.mp hp
 cases q:h.get? b with
 | none=>rw[q] at e;cases e
 | some o =>
  rw[q] at e
  have e':(b,o)=p:=zuG e
  subst e'
  exact⟨hb,q⟩
theorem Inv.pinned {pins:List (Addr×Obj)}{σ:St}{H:Hp}{s:Shared}{fp:List Addr}(I:Inv X pins σ H s)(hf:∀b∈fp,zb9 X pins H b)(ho:∀b∈fp,∃o,s.heap.get? b=some o/\∀v,o.data≠.cell v):Inv X (pins++Nm fp s.heap) σ H s :=
 I.Td fun p hp=>(List.mem_append.mp hp).elim (fun z=>I.pin p (zut _ z)) fun z=>by
  obtain⟨hb,e⟩:=zcU z
  obtain⟨f0,f1,f2,_⟩:=hf p.1 hb
  obtain⟨o,e',d⟩:=ho p.1 hb
  rw[e] at e';cases e'
  exact⟨e,f0,f1,f2,d⟩
theorem Inv.zaW {pins pl:List (Addr×Obj)}{σ:St}{H:Hp}{s:Shared}(I:Inv X (pins++pl) σ H s):Inv X pins σ H s:=I.Td fun p hp=>I.pin p (zut _ (List.mem_append_left _ hp))
theorem vO {iter:Expr}{body:List Stmt}{wi:TI}{g:TG}{tb:TS}{pos:Pos}(hp:PassesOwn (model X.prog X.w) X.A X.env X.xe)(hc:X.calm=true)(hi:PI X tg iter wi)(hg:PG X tg g)(hb:PSs X body tb)
  (hs:∀x,foldedSetIterable iter X.env x=pure x:=by intro _;rfl):PS X (.For tg iter body [] pos) (zqC wi g tb):=by
 intro pins s σ H D I h
 refine wpAny_For (vM (hi pins s σ H _ I h) fun v s1 h1=>vM h1 fun itv s2 h2=>?_) hs
 obtain⟨it,fp,tn,J,H2,e,I2,T,st2,f2,W,⟨m0,w0⟩,turn⟩:=h2
 subst e
 have stat:∀{H':Hp},(∀b∈fp,H' b=none)->∀b∈fp,zb9 X pins H' b:=fun hn b hb=>⟨hn b hb,(f2 b hb).2⟩
 refine codeAny_forLoop_any (fun n s'=>∃i σ' H',Inv X pins σ' H' s'/\tn i s'.heap/\(∀b∈fp,H' b=none)/\W i n σ' H') ?_ m0 ⟨0,σ,H2,I2,st2,fun b hb=>(f2 b hb).1,w0⟩
 rintro n s3 ⟨i,σ3,H3,I3,st3,fr3,w3⟩
 rcases turn i n σ3 H3 w3 with ⟨stop,qn⟩ | ⟨go,N,hN,step⟩
 ·refine wpAny_passesOwn hp (vM (T.done X rfl rfl rfl hc i pins s3 σ3 H3 X.xe I3 (stat fr3) st3 stop) fun r s4 ⟨hr,I4⟩=>?_)
  subst hr
  exact wpAny_execs_nil ⟨σ3,H3,I4,qn⟩
 ·refine wpAny_passesOwn hp (vM (T.item X rfl rfl rfl hc i pins s3 σ3 H3 X.xe I3 (stat fr3) st3 go) fun r s4 ⟨u,hr,h4⟩=>?_)
  subst hr
  refine wpAny_passesOwn hp (vM h4 fun _ s5 ⟨x,H5,I5,r5,y5,st5,fr5⟩=>?_)
  have I5':=I5.pinned (stat fr5) (T.obj _ _ st5)
  refine wpAny_passesOwn hp (vM (hg _ s5 σ3 H5 x u _ I5' r5 (step x H5 y5)) fun _ s6 ⟨σ6,H6,I6,q6⟩=>?_)
  refine wpAny_passesOwn hp (vM (hb _ s6 σ6 H6 _ I6 q6) fun f s7 q7=>?_)
  have again:∀{σ7:St} {H7:Hp},Inv X (pins++Nm fp s5.heap) σ7 H7 s7->N σ7 H7->∃m,m<n/\∃i σ' H',Inv X pins σ' H' s7/\tn i s7.heap/\(∀b∈fp,H' b=none)/\W i m σ' H':=fun {σ7 H7} I7 n7=>by
   obtain⟨m',hm,w7⟩:=hN σ7 H7 n7
   refine⟨m',hm,i+1,σ7,H7,I7.zaW,T.keep _ _ _ st5 fun b hb o e=>(I7.pin (b,o) (zut _ (zut _ (Tq hb e)))).1,fun b hb=>?_,w7⟩
   obtain⟨o,e,d⟩:=T.obj _ _ st5 b hb
   exact(I7.pin (b,o) (zut _ (zut _ (Tq hb e)))).2.1
  cases f with
  | next=>obtain⟨σ7,H7,I7,n7⟩:=q7;exact again I7 n7
  | cont=>obtain⟨σ7,H7,I7,n7⟩:=q7;exact again I7 n7
  | brk=>obtain⟨σ7,H7,I7,q7⟩:=q7;exact⟨σ7,H7,I7.zaW,q7⟩
  | ret v=>obtain⟨x7,σ7,H7,I7,r7,q7⟩:=q7;exact⟨x7,σ7,H7,I7.zaW,r7,q7⟩
end
theorem tO {K:Frag}{a:Addr}{xs:List V}{g:TG}{tb:TS}{D:Ends}{σ:St}{H:Hp}(Pv:Nat->St->Hp->Prop)(h0:Pv 0 σ H)(hl:∀i σ H,i<=xs.length->Pv i σ H->zB K H a xs)
  (hs:∀i x σ H,xs[i]?=some x->Pv i σ H->g x σ H fun σ2 H2=>tb { D with nx:=Pv (i+1),ct:=Pv (i+1),bk:=D.nx } σ2 H2)(hd:∀ σ H,Pv xs.length σ H->D.nx σ H) :
  ∃W:Nat->Nat->St->Hp->Prop,(∃m,W 0 m σ H)/\∀i m σ H,W i m σ H ->
   ((Itl K a).stop i H/\D.nx σ H)\/((Itl K a).go i H/\∃N:St->Hp->Prop,(∀ σ' H',N σ' H'->∃m',m'<m/\W (i+1) m' σ' H')/\∀x H',(Itl K a).KQ i H x H'->g x σ H' fun σ2 H2=>tb { D with nx:=N,ct:=N,bk:=D.nx } σ2 H2):=by
 refine⟨fun i m σ H=>m=xs.length-i/\i<=xs.length/\Pv i σ H,⟨xs.length,by simp,zuy _,h0⟩,?_⟩
 rintro i m σ H ⟨rfl,hi,p⟩
 have q:=hl i σ H hi p
 by_cases hlt:i<xs.length
 ·refine .inr ⟨⟨xs,xs[i],q,by simp[hlt]⟩,Pv (i+1),fun σ' H' p'=>⟨xs.length-(i+1),by omega,rfl,hlt,p'⟩,fun x H' y=>?_⟩
  obtain⟨e,y⟩:=y
  subst e
  exact hs i x σ _ (y xs q) p
 ·have e:i=xs.length:=by omega
  subst e
  exact .inl ⟨⟨xs,q,zus _⟩,hd σ H p⟩
theorem zdI {K:Frag}{a:Addr}{xs:List V}{g:TG}{tb:TS}{D:Ends}{σ:St}{H:Hp}(Pv:Nat->St->Hp->Prop)(h0:Pv 0 σ H)(hl:∀i σ H,i<=xs.length->Pv i σ H->vf K H a xs)
  (hs:∀i x σ H,xs[i]?=some x->Pv i σ H->g x σ H fun σ2 H2=>tb { D with nx:=Pv (i+1),ct:=Pv (i+1),bk:=D.nx } σ2 H2)(hd:∀ σ H,Pv xs.length σ H->D.nx σ H) :
  ∃W:Nat->Nat->St->Hp->Prop,(∃m,W 0 m σ H)/\∀i m σ H,W i m σ H ->
   ((Itt K a).stop i H/\D.nx σ H)\/((Itt K a).go i H/\∃N:St->Hp->Prop,(∀ σ' H',N σ' H'->∃m',m'<m/\W (i+1) m' σ' H')/\∀x H',(Itt K a).KQ i H x H'->g x σ H' fun σ2 H2=>tb { D with nx:=N,ct:=N,bk:=D.nx } σ2 H2):=by
 refine⟨fun i m σ H=>m=xs.length-i/\i<=xs.length/\Pv i σ H,⟨xs.length,by simp,zuy _,h0⟩,?_⟩
 rintro i m σ H ⟨rfl,hi,p⟩
 have q:=hl i σ H hi p
 by_cases hlt:i<xs.length
 ·refine .inr ⟨⟨xs,xs[i],q,by simp[hlt]⟩,Pv (i+1),fun σ' H' p'=>⟨xs.length-(i+1),by omega,rfl,hlt,p'⟩,fun x H' y=>?_⟩
  obtain⟨e,y⟩:=y
  subst e
  exact hs i x σ _ (y xs q) p
 ·have e:i=xs.length:=by omega
  subst e
  exact .inl ⟨⟨xs,q,zus _⟩,hd σ H p⟩
theorem Uo {lo:Int}{n:Nat}{g:TG}{tb:TS}{D:Ends}{σ:St}{H:Hp}(Pv:Nat->St->Hp->Prop)(h0:Pv 0 σ H)
  (hs:∀i σ H,i<n->Pv i σ H->g (.int (lo+i)) σ H fun σ2 H2=>tb { D with nx:=Pv (i+1),ct:=Pv (i+1),bk:=D.nx } σ2 H2)(hd:∀ σ H,Pv n σ H->D.nx σ H) :
  ∃W:Nat->Nat->St->Hp->Prop,(∃m,W 0 m σ H)/\∀i m σ H,W i m σ H ->
   ((Itr lo n).stop i H/\D.nx σ H)\/((Itr lo n).go i H/\∃N:St->Hp->Prop,(∀ σ' H',N σ' H'->∃m',m'<m/\W (i+1) m' σ' H')/\∀x H',(Itr lo n).KQ i H x H'->g x σ H' fun σ2 H2=>tb { D with nx:=N,ct:=N,bk:=D.nx } σ2 H2):=by
 refine⟨fun i m σ H=>m=n-i/\i<=n/\Pv i σ H,⟨n,by simp,zuy _,h0⟩,?_⟩
 rintro i m σ H ⟨rfl,hi,p⟩
 by_cases hlt:i<n
 ·refine .inr ⟨hlt,Pv (i+1),fun σ' H' p'=>⟨n-(i+1),by omega,rfl,hlt,p'⟩,fun x H' y=>?_⟩
  obtain⟨e,y⟩:=y
  subst e y
  exact hs i σ _ hlt p
 ·have e:i=n:=by omega
  subst e
  exact .inl ⟨zus _,hd σ H p⟩
abbrev R2:=V->V->Hp->VK->Prop
def Uj (X:Cx)(f:Value->Value->Sem Value)(r:R2):Prop :=
 ∀(pins:List (Addr×Obj)) (s:Shared) (σ:St) (H:Hp) (x y:V) (v u:Value) (Q:VK),Inv X pins σ H s->RelV x v->RelV y u->r x y H Q ->
  wpAny (model X.prog X.w) X.A (f v u) (EP X pins σ Q) X.xe s
def UnR (X:Cx)(f:Value->Sem Value)(r:V->Hp->VK->Prop):Prop :=
 ∀(pins:List (Addr×Obj)) (s:Shared) (σ:St) (H:Hp) (x:V) (v:Value) (Q:VK),Inv X pins σ H s->RelV x v->r x H Q ->
  wpAny (model X.prog X.w) X.A (f v) (EP X pins σ Q) X.xe s
def Rj (X:Cx)(f:Value)(r:List V->Hp->VK->Prop):Prop :=
 ∀(pins:List (Addr×Obj)) (s:Shared) (σ:St) (H:Hp) (xs:List V) (us:List Value) (Q:VK),Inv X pins σ H s->Vals xs us->r xs H Q ->
  wpAny (model X.prog X.w) X.A (call f us) (EP X pins σ Q) X.xe s
def zqF (X:Cx)(r:V->Hp->(Bool->Hp->Prop)->Prop):Prop :=
 ∀(pins:List (Addr×Obj)) (s:Shared) (σ:St) (H:Hp) (x:V) (v:Value) (Q:Bool->Hp->Prop),Inv X pins σ H s->RelV x v->r x H Q ->
  wpAny (model X.prog X.w) X.A (truthy v) (TP X pins σ Q) X.xe s
def tOp (r:R2)(ta tb:TE):TE:=fun σ H Q=>ta σ H fun x H1=>tb σ H1 fun y H2=>r x y H2 Q
def tUn (r:V->Hp->VK->Prop)(ta:TE):TE:=fun σ H Q=>ta σ H fun x H1=>r x H1 Q
def rI (C:Int->Int->Prop)(g:Int->Int->V):R2:=fun x y H Q=>∃i j,x=.int i/\y=.int j/\C i j/\Q (g i j) H
def rI0 (g:Int->Int->V):R2:=fun x y H Q=>∃i j,x=.int i/\y=.int j/\Q (g i j) H
def rU (g:Int->V):V->Hp->VK->Prop:=fun x H Q=>∃i,x=.int i/\Q (g i) H
section
variable {X:Cx}{a b c:Expr}{ta tb tc:TE}{pos:Pos}
theorem zno (ha:PE X a ta)(hb:PE X b tb){pins:List (Addr×Obj)}{s:Shared}{σ:St}{H:Hp}{R:V->V->Hp->Prop}(I:Inv X pins σ H s)
  (h:ta σ H fun x H1=>tb σ H1 fun y H2=>R x y H2){Q:Value->Shared->Prop}{f:Value->Value->Sem Value}
  (hf:∀v u s2 x y H2,Inv X pins σ H2 s2->RelV x v->RelV y u->R x y H2->wpAny (model X.prog X.w) X.A (f v u) Q X.xe s2) :
  wpAny (model X.prog X.w) X.A (eval a X.env) (fun v s₁=>wpAny (model X.prog X.w) X.A (eval b X.env) (fun u s₂=>wpAny (model X.prog X.w) X.A (f v u) Q X.xe s₂) X.xe s₁) X.xe s:=by
 refine vM (ha pins s σ H _ I h) fun v s1 ⟨x,H1,I1,r1,q1⟩=>?_
 refine vM (hb pins s1 σ H1 _ I1 q1) fun u s2 ⟨y,H2,I2,r2,q2⟩=>?_
 exact hf v u s2 x y H2 I2 r1 r2 q2
theorem zW {op:Operator}{r:R2}(ho:Uj X (binaryOp op) r)(ha:PE X a ta)(hb:PE X b tb):PE X (.BinOp a op b pos) (tOp r ta tb):=by
 intro pins s σ H Q I h
 exact wpAny_BinOp (zno ha hb I h fun v u s2 x y H2 I2 rx ry q=>ho pins s2 σ H2 x y v u Q I2 rx ry q)
theorem zcV {op:UnaryOp}{r:V->Hp->VK->Prop}(ho:UnR X (unaryOp op) r)(ha:PE X a ta):PE X (.UnaryOp op a pos) (tUn r ta):=by
 intro pins s σ H Q I h
 exact UnaryOp_ (vM (ha pins s σ H _ I h) fun v s1 ⟨x,H1,I1,r1,q1⟩=>ho pins s1 σ H1 x v Q I1 r1 q1)
theorem opI {f:Value->Value->Sem Value}{C:Int->Int->Prop}{g:Int->Int->Int}
  (rule:∀(i j:Int) (t u:Tok) (s:Shared) (Q:Value->Shared->Prop) (E:Value->Shared->Prop),C i j->Q (.int (g i j) s.toks) { s with toks:=s.toks+1 }->wpAny (model X.prog X.w) X.A (f (.int i t) (.int j u)) Q E s) :
  Uj X f (rI C fun i j=>.int (g i j)):=by
 intro pins s σ H x y v u Q I rx ry h
 obtain⟨i,j,rfl,rfl,hc,q⟩:=h
 obtain⟨t,rfl⟩:=rx
 obtain⟨t',rfl⟩:=ry
 exact rule i j t t' s _ _ hc ⟨.int (g i j),H,I.tok _,⟨_,rfl⟩,q⟩
theorem zir {f:Value->Value->Sem Value}{g:Int->Int->Int}
  (rule:∀(i j:Int) (t u:Tok) (s:Shared) (Q:Value->Shared->Prop) (E:Value->Shared->Prop),Q (.int (g i j) s.toks) { s with toks:=s.toks+1 }->wpAny (model X.prog X.w) X.A (f (.int i t) (.int j u)) Q E s) :
  Uj X f (rI0 fun i j=>.int (g i j)):=by
 intro pins s σ H x y v u Q I rx ry h
 obtain⟨i,j,rfl,rfl,q⟩:=h
 obtain⟨t,rfl⟩:=rx
 obtain⟨t',rfl⟩:=ry
 exact rule i j t t' s _ _ ⟨.int (g i j),H,I.tok _,⟨_,rfl⟩,q⟩
theorem znp {f:Value->Value->Sem Value}{g:Int->Int->Bool}
  (rule:∀(i j:Int) (t u:Tok) (s:Shared) (Q:Value->Shared->Prop) (E:Value->Shared->Prop),Q (.bool (g i j)) s->wpAny (model X.prog X.w) X.A (f (.int i t) (.int j u)) Q E s) :
  Uj X f (rI0 fun i j=>.bl (g i j)):=by
 intro pins s σ H x y v u Q I rx ry h
 obtain⟨i,j,rfl,rfl,q⟩:=h
 obtain⟨t,rfl⟩:=rx
 obtain⟨t',rfl⟩:=ry
 exact rule i j t t' s _ _ ⟨.bl (g i j),H,I,rfl,q⟩
def zqG (i j:Int):Prop:=0<j/\j<1073741824
def zqH (i j:Int):Prop:=0<=j/\j<=1000000/\i.natAbs<2^64
def znq (i j:Int):Prop:=(-(2^64)<i/\i<2^64)\/(-(2^64)<j/\j<2^64)
theorem znq.ok {i j:Int}(h:znq i j):IntMulOk i j:=by
 rcases h with ⟨h1,h2⟩ | ⟨h1,h2⟩
 ·exact .of_left (intBits_le_64 h1 h2)
 ·exact .of_right (intBits_le_64 h1 h2)
theorem zgl (k:Nat):(0:Int)<=2^k:=by
 rw[two_pow_cast]
 exact Int.natCast_nonneg _
theorem vP:Uj X (binaryOp .Add) (rI0 fun i j=>.int (i+j)):=zir fun _ _ _ _ _ _ _ q=>add_int q
theorem zaX:Uj X (binaryOp .Sub) (rI0 fun i j=>.int (i-j)):=zir fun _ _ _ _ _ _ _ q=>sub_int q
theorem Np:Uj X (binaryOp .Mult) (rI znq fun i j=>.int (i*j)):=opI fun _ _ _ _ _ _ _ hc q=>mul_int q hc.ok
theorem zhv:Uj X (binaryOp .FloorDiv) (rI zqG fun i j=>.int (i / j)):=opI fun i j _ _ _ _ _ hc q=>by
 have h1:(0:Int)<j:=hc.1
 have h2:j<1073741824:=hc.2
 exact floordiv_int (by omega) (by rw[Int.fdiv_eq_ediv_of_nonneg i (by omega)];exact q) (.inl (PyProof.noPylong_small (by omega)))
theorem tD:Uj X (binaryOp .Mod) (rI (fun _ j=>0<j) fun i j=>.int (i%j)):=opI fun i j _ _ _ _ _ hc q=>by
 have h1:(0:Int)<j:=hc
 exact mod_int' (by omega) (by rw[Int.fmod_eq_emod_of_nonneg i (by omega)];exact q)
theorem zjg:Uj X (binaryOp .Pow) (rI zqH fun i j=>.int (i^j.toNat)):=opI fun _ _ _ _ _ _ _ hc q=>pow_int_small hc.1 hc.2.1 hc.2.2 q
theorem znr:Uj X (binaryOp .RShift) (rI (fun _ j=>0<=j) fun i j=>.int (i / 2^j.toNat)):=opI fun i j _ _ _ _ _ hc q =>
 rshift_int hc (by rw[Int.fdiv_eq_ediv_of_nonneg i (zgl _)];exact q)
theorem zgm:Uj X (binaryOp .BitAnd) (rI0 fun i j=>.int (Builtin.bitAnd i j)):=zir fun _ _ _ _ _ _ _ q=>and_int q
theorem zoL:Uj X (binaryOp .BitOr) (rI0 fun i j=>.int (Builtin.bitOr i j)):=zir fun _ _ _ _ _ _ _ q=>or_int q
theorem zns:Uj X (binaryOp .BitXor) (rI0 fun i j=>.int (Builtin.bitXor i j)):=zir fun _ _ _ _ _ _ _ q=>xor_int q
theorem zdJ:Uj X (inplaceOp .Add) (rI0 fun i j=>.int (i+j)):=zir fun _ _ _ _ _ _ _ q=>iadd_int q
theorem unI {f:Value->Sem Value}{g:Int->Int}
  (rule:∀(i:Int) (t:Tok) (s:Shared) (Q:Value->Shared->Prop) (E:Value->Shared->Prop),Q (.int (g i) s.toks) { s with toks:=s.toks+1 }->wpAny (model X.prog X.w) X.A (f (.int i t)) Q E s) :
  UnR X f (rU fun i=>.int (g i)):=by
 intro pins s σ H x v Q I rx h
 obtain⟨i,rfl,q⟩:=h
 obtain⟨t,rfl⟩:=rx
 exact rule i t s _ _ ⟨.int (g i),H,I.tok _,⟨_,rfl⟩,q⟩
theorem K1:UnR X (unaryOp .USub) (rU fun i=>.int (-i)):=unI fun _ _ _ _ _ q=>neg_int q
end
def zoM:V->V->Bool
 | .non,.non=>true | .non,.int _=>true | .int _,.non=>true | .non,.bl _=>true | .bl _,.non=>true | .non,.str _=>true | .str _,.non=>true
 | .int _,.int _=>true | .bl _,.bl _=>true | .str _,.str _=>true | .byt _,.byt _=>true
 | .int _,.str _=>true | .str _,.int _=>true | .bl _,.str _=>true | .str _,.bl _=>true
 | _,_=>false
def rEq:R2:=fun x y H Q=>zoM x y=true/\Q (.bl (decide (x=y))) H
def rNe:R2:=fun x y H Q=>zoM x y=true/\Q (.bl (!decide (x=y))) H
theorem zhw {i j:Int}:decide (V.int i=V.int j)=(i==j):=by
 rw[zuR]
 simp
theorem zjh {i j:Bool}:decide (V.bl i=V.bl j)=(i==j):=by
 rw[zuR]
 simp
theorem zhx {i j:Str}:decide (V.str i=V.str j)=(i==j):=by
 rw[zuR]
 simp
theorem zhy {i j:Array UInt8}:decide (V.byt i=V.byt j)=(i.toList==j.toList):=by
 rw[zuR]
 cases i
 cases j
 simp
section
variable {X:Cx}{a b c:Expr}{ta tb tc:TE}{pos:Pos}
theorem wH {pins:List (Addr×Obj)}{σ:St}{H:Hp}{s:Shared}{Q:VK}{k k':Bool}(I:Inv X pins σ H s)(q:Q (.bl k) H)(e:k=k'):EP X pins σ Q (.bool k') s:=by
 subst e
 exact⟨.bl k,H,I,rfl,q⟩
theorem wW:Uj X (compareOp .Eq) rEq:=by
 intro pins s σ H x y v u Q I rx ry h
 obtain⟨hs,q⟩:=h
 cases x with
 | non =>
  cases rx
  cases y with
  | non=>cases ry;exact PySem.EqNone.eq_none_none (wH I q (by simp))
  | bl j=>cases ry;exact PySem.EqNone.eq_none_bool (wH I q (by simp))
  | int j=>obtain⟨t',rfl⟩:=ry;exact PySem.EqNone.eq_none_int (wH I q (by simp))
  | str j=>obtain⟨t',rfl⟩:=ry;exact PySem.EqNone.eq_none_str (wH I q (by simp))
  | _=>exact absurd (show false=true from hs) zug
 | bl i =>
  cases rx
  cases y with
  | non=>cases ry;exact PySem.EqNone.eq_bool_none (wH I q (by simp))
  | bl j=>cases ry;exact eq_bool (wH I q zjh)
  | str j=>obtain⟨t',rfl⟩:=ry;exact PySem.EqMixed.eq_bool_str (wH I q (by simp))
  | _=>exact absurd (show false=true from hs) zug
 | int i =>
  obtain⟨t,rfl⟩:=rx
  cases y with
  | non=>cases ry;exact PySem.EqNone.eq_int_none (wH I q (by simp))
  | int j=>obtain⟨t',rfl⟩:=ry;exact eq_int (wH I q zhw)
  | str j=>obtain⟨t',rfl⟩:=ry;exact PySem.EqMixed.eq_int_str (wH I q (by simp))
  | _=>exact absurd (show false=true from hs) zug
 | str i =>
  obtain⟨t,rfl⟩:=rx
  cases y with
  | non=>cases ry;exact PySem.EqNone.eq_str_none (wH I q (by simp))
  | bl j=>cases ry;exact PySem.EqMixed.eq_str_bool (wH I q (by simp))
  | int j=>obtain⟨t',rfl⟩:=ry;exact PySem.EqMixed.eq_str_int (wH I q (by simp))
  | str j=>obtain⟨t',rfl⟩:=ry;exact eq_str (wH I q zhx)
  | _=>exact absurd (show false=true from hs) zug
 | byt i =>
  obtain⟨t,rfl⟩:=rx
  cases y with
  | byt j=>obtain⟨t',rfl⟩:=ry;exact PySem.W.eq_bytes (wH I q zhy)
  | _=>exact absurd (show false=true from hs) zug
 | _=>cases y<;>exact absurd (show false=true from hs) zug
theorem Pn:Uj X (compareOp .NotEq) rNe:=by
 intro pins s σ H x y v u Q I rx ry h
 obtain⟨hs,q⟩:=h
 cases x with
 | non =>
  cases rx
  cases y with
  | non=>cases ry;exact PySem.EqNone.ne_none_none (wH I q (by simp))
  | bl j=>cases ry;exact PySem.EqNone.ne_none_bool (wH I q (by simp))
  | int j=>obtain⟨t',rfl⟩:=ry;exact PySem.EqNone.ne_none_int (wH I q (by simp))
  | str j=>obtain⟨t',rfl⟩:=ry;exact PySem.EqNone.ne_none_str (wH I q (by simp))
  | _=>exact absurd (show false=true from hs) zug
 | bl i =>
  cases rx
  cases y with
  | non=>cases ry;exact PySem.EqNone.ne_bool_none (wH I q (by simp))
  | bl j=>cases ry;exact ne_bool (wH I q (congrArg not zjh))
  | str j=>obtain⟨t',rfl⟩:=ry;exact PySem.EqMixed.ne_bool_str (wH I q (by simp))
  | _=>exact absurd (show false=true from hs) zug
 | int i =>
  obtain⟨t,rfl⟩:=rx
  cases y with
  | non=>cases ry;exact PySem.EqNone.ne_int_none (wH I q (by simp))
  | int j=>obtain⟨t',rfl⟩:=ry;exact ne_int (wH I q (congrArg not zhw))
  | str j=>obtain⟨t',rfl⟩:=ry;exact PySem.EqMixed.ne_int_str (wH I q (by simp))
  | _=>exact absurd (show false=true from hs) zug
 | str i =>
  obtain⟨t,rfl⟩:=rx
  cases y with
  | non=>cases ry;exact PySem.EqNone.ne_str_none (wH I q (by simp))
  | bl j=>cases ry;exact PySem.EqMixed.ne_str_bool (wH I q (by simp))
  | int j=>obtain⟨t',rfl⟩:=ry;exact PySem.EqMixed.ne_str_int (wH I q (by simp))
  | str j=>obtain⟨t',rfl⟩:=ry;exact ne_str (wH I q (congrArg not zhx))
  | _=>exact absurd (show false=true from hs) zug
 | byt i =>
  obtain⟨t,rfl⟩:=rx
  cases y with
  | byt j=>obtain⟨t',rfl⟩:=ry;exact PySem.W.ne_bytes (wH I q (congrArg not zhy))
  | _=>exact absurd (show false=true from hs) zug
 | _=>cases y<;>exact absurd (show false=true from hs) zug
theorem zcW:Uj X (compareOp .Lt) (rI0 fun i j=>.bl (decide (i<j))):=znp fun _ _ _ _ _ _ _ q=>lt_int q
theorem Mt:Uj X (compareOp .Gt) (rI0 fun i j=>.bl (decide (j<i))):=znp fun _ _ _ _ _ _ _ q=>gt_int q
theorem zji:Uj X (compareOp .GtE) (rI0 fun i j=>.bl (decide (j<=i))):=znp fun _ _ _ _ _ _ _ q=>ge_int q
theorem Uj.or {f:Value->Value->Sem Value}{r r':R2}(h:Uj X f r)(h':Uj X f r'):Uj X f (fun x y H Q=>r x y H Q\/r' x y H Q):=by
 intro pins s σ H x y v u Q I rx ry q
 rcases q with q | q
 ·exact h pins s σ H x y v u Q I rx ry q
 ·exact h' pins s σ H x y v u Q I rx ry q
theorem yg (b:Expr){op:CmpOp}(h:op≠.In:=by decide)(h2:op≠.NotIn:=by decide):behindInMarks op b=false:=by
 have e1:(op==CmpOp.In)=false:=by cases op<;>first | rfl | exact absurd rfl h
 have e2:(op==CmpOp.NotIn)=false:=by cases op<;>first | rfl | exact absurd rfl h2
 cases b<;>simp[behindInMarks,e1,e2]
theorem Zd {op:CmpOp}{r:R2}(ho:Uj X (compareOp op) r)(ha:PE X a ta)(hb:PE X b tb)(hm:behindInMarks op b=false):PE X (.Compare a [op] [b] pos) (tOp r ta tb):=by
 intro pins s σ H Q I h
 exact wpAny_Compare1 (zno ha hb I h fun v u s2 x y H2 I2 rx ry q=>ho pins s2 σ H2 x y v u Q I2 rx ry q) hm
def zoN (t:TE):TT:=fun σ H Q=>t σ H fun x H'=>∃k,x=.bl k/\Q k H'
theorem zP {op:CmpOp}{r:R2}(ho:Uj X (compareOp op) r)(ha:PE X a ta)(hb:PE X b tb)(hm:behindInMarks op b=false):PT X (.Compare a [op] [b] pos) (zoN (tOp r ta tb)):=by
 intro pins s σ H Q I h
 refine wpAny_isTrue_Compare1 (vM (ha pins s σ H _ I h) fun v s1 ⟨x,H1,I1,r1,q1⟩=>vM (hb pins s1 σ H1 _ I1 q1) fun u s2 ⟨y,H2,I2,r2,q2⟩ =>
  vM (ho pins s2 σ H2 x y v u _ I2 r1 r2 q2) fun c s3 ⟨z,H3,I3,r3,k,e,q3⟩=>?_) hm
 subst e
 cases r3
 exact wpAny_truthy_bool ⟨H3,I3,q3⟩
def znt (K:Frag)(x:V)(H:Hp)(k:Bool):Prop :=
 match x with
 | .non=>k=false
 | .bl b=>k=b
 | .int i=>k=(i != 0)
 | .str y=>y.length<=sizeLine/\k=((y.length:Int) != 0)
 | .byt y=>y.size<=sizeLine/\k=((y.size:Int) != 0)
 | .ref p=>(∃xs,zB K H p xs/\k=!xs.isEmpty)\/(∃xs,vf K H p xs/\k=!xs.isEmpty)\/∃kvs,H p=some (.dK kvs)/\k=!kvs.isEmpty
 | _=>False
theorem zgn {κ:Type}{kvs:List (κ×V)}{vs:List (κ×Value)}(r:KV kvs vs):(!vs.isEmpty)=!kvs.isEmpty:=by
 cases r<;>rfl
theorem zaY {xs:List V}{its:List Value}(r:Vals xs its):(!its.toArray.isEmpty)=!xs.isEmpty:=by
 cases r<;>simp
theorem Tr:(sizeLine:Nat)<2^63:=by rw[sizeLine_eq];decide
theorem znu:zqF X (fun x H Q=>∃k,znt X.K x H k/\Q k H):=by
 intro pins s σ H x v Q I rx h
 obtain⟨k,e,q⟩:=h
 have hl:=Tr
 have hs:sizeLine=16777216:=sizeLine_eq
 cases x with
 | non =>
  cases rx
  have e':k=false:=e
  subst e'
  exact truthy_none ⟨H,I,q⟩
 | bl b =>
  cases rx
  have e':k=b:=e
  subst e'
  exact wpAny_truthy_bool ⟨H,I,q⟩
 | int i =>
  obtain⟨t,rfl⟩:=rx
  have e':k=(i != 0):=e
  subst e'
  exact PySem.P.truthy_int ⟨H,I,q⟩
 | str y =>
  obtain⟨t,rfl⟩:=rx
  obtain⟨hy,e'⟩:y.length<=sizeLine/\k=((y.length:Int) != 0):=e
  subst e'
  exact PySem.P.truthy_str (by omega) ⟨H,I.tok _,q⟩
 | byt y =>
  obtain⟨t,rfl⟩:=rx
  obtain⟨hy,e'⟩:y.size<=sizeLine/\k=((y.size:Int) != 0):=e
  subst e'
  exact PySem.W.truthy_bytes (by omega) ⟨H,I.tok _,q⟩
 | ref p =>
  cases rx
  have e':(∃xs,zB X.K H p xs/\k=!xs.isEmpty)\/(∃xs,vf X.K H p xs/\k=!xs.isEmpty)\/∃kvs,H p=some (.dK kvs)/\k=!kvs.isEmpty:=e
  rcases e' with ⟨xs,hx,e'⟩ | ⟨xs,hx,e'⟩ | ⟨kvs,hx,e'⟩
  ·subst e'
   obtain⟨its,r,pl,hz⟩:=I.list hx
   have hlen:=r.length
   exact wpAny_truthy_list pl.isList (by simp only[zum];omega) ⟨H,I.tok _,by rw[zaY r];exact q⟩
  ·subst e'
   obtain⟨its,r,pl,hz⟩:=I.tuple hx
   have hlen:=r.length
   exact truthy_tuple pl (by simp only[zum];omega) ⟨H,I.tok _,by rw[zaY r];exact q⟩
  ·subst e'
   obtain⟨hz,hS,vs,r,m⟩:kvs.length<=sizeLine/\(p==sysModules)=false/\∃vs,KV kvs vs/\s.heap.DictOf (ug X.prog X.w) p vs:=I.hok p _ hx
   have hlen:kvs.length=vs.length:=Paired.length r
   exact wpAny_truthy_dict hS m (by omega) ⟨H,I.tok _,by rw[zgn r];exact q⟩
 | _=>exact(show False from e).elim
theorem wR (ha:PE X a ta)(he:∀whole,isTrue a X.env whole=(do let v <-whole;standAt a.pos;holding [v] (truthy v))) :
  PT X a (fun σ H Q=>ta σ H fun x H'=>∃k,znt X.K x H' k/\Q k H'):=by
 intro pins s σ H Q I h
 exact isTrue_plain (vM (ha pins s σ H _ I h) fun v s1 ⟨x,H1,I1,r1,q1⟩=>znu pins s1 σ H1 x v Q I1 r1 q1) (he _)
theorem zgo:Uj X (binaryOp .Add) (fun x y H Q=>∃i j,x=.str i/\y=.str j/\i.length+j.length<=sizeLine/\Q (.str (i++j)) H):=by
 intro pins s σ H x y v u Q I rx ry h
 obtain⟨i,j,rfl,rfl,hz,q⟩:=h
 obtain⟨t,rfl⟩:=rx
 obtain⟨t',rfl⟩:=ry
 exact add_str (fun t' tk=>⟨.str (i++j),H,I.tok _,⟨_,rfl⟩,q⟩) hz
theorem vals1 {x:V}{us:List Value}(r:Vals [x] us):∃u,us=[u]/\RelV x u:=by
 cases r with
 | cons r1 r2=>cases r2;exact⟨_,rfl,r1⟩
theorem vals2 {x y:V}{us:List Value}(r:Vals [x,y] us):∃u w',us=[u,w']/\RelV x u/\RelV y w':=by
 cases r with
 | cons r1 r2 =>
  cases r2 with
  | cons r3 r4=>cases r4;exact⟨_,_,rfl,r1,r3⟩
end
structure zgp (h:Heap)(x dx C:Addr)(mA:Str->Option Value):Prop where
 obj:h.get? x=some (PySem.W.instObj C dx)
 ns:h.Ns1 dx mA
 ne:dx≠x
theorem zis {h:Heap}{dx:Addr}{mA:Str->Option Value}(n:h.Ns1 dx mA):∃od,h.get? dx=some od/\∀name,PySem.W.lookIn name od=some (mA name):=by
 obtain⟨o,es,ep,ho,hd,hk,_,hm⟩:=n
 refine⟨o,ho,fun name=>?_⟩
 have e:=hm name
 unfold nsFind findBy at e
 rw[<-Array.find?_toList] at e
 unfold PySem.W.lookIn
 rw[hd]
 dsimp only
 split
 ·rename_i y q
  rw[q] at e
  exact congrArg some e
 ·rename_i q
  rw[q] at e
  have a:es.toList.any (·.refKey)=false:=by
   rw[List.any_eq_false]
   intro y hy
   obtain⟨z,t,hkey⟩:=hk y (Array.mem_toList_iff.mp hy)
   simp[DictEntry.refKey,hkey]
  have a':¬es.toList.any (·.refKey)=true:=by rw[a];exact zug
  rw[if_neg a']
  exact congrArg some e
theorem zgp.look {h:Heap}{x dx C:Addr}{mA:Str->Option Value}(I:zgp h x dx C mA):∃od,PySem.W.InstAt h x (PySem.W.instObj C dx) C (some od)/\∀name,PySem.W.lookIn name od=some (mA name) :=
 let ⟨od,ho,hl⟩:=zis I.ns
 ⟨od,⟨I.obj,rfl,rfl,ho⟩,hl⟩
section
variable {prog:Program}{w:World}{A:Around}{E:Value->Shared->Prop}{s:Shared}{K:Frag}{x dx C f:Addr}{mA:Str->Option Value}{name:Str}{v:Value}
theorem get_map {expr:Bool}{Q:Value->Shared->Prop}(X:K.In s.heap)(I:zgp s.heap x dx C mA)(hg:PySem.W.plainGet K C name=true)(hh:PySem.W.hasDictIn K C=true)
  (ha:findIn K (.ref C) name=some none)(hv:mA name=some v)(hv':PySem.W.handedIn v=true)(h:Q v { s with toks:=s.toks+1 }) :
  wpAny (model prog w) A (getAttr (.ref x) name expr) Q E s:=by
 obtain⟨od,J,hl⟩:=I.look
 exact PySem.W.get_value X J (PySem.W.plainGet_of hg).1 (PySem.W.findObj_own hh ha rfl (by rw[hl,hv])) hv' h
theorem zjj {pl:Sem Bool}{Q:Value×List Value->Shared->Prop}(X:K.In s.heap)(I:zgp s.heap x dx C mA)(hg:PySem.W.plainGet K C name=true)
  (hf:findIn K (.ref C) name=some (some (.ref f)))(ht:PySem.W.isFn K (.ref f)=true)(hv:mA name=none)(h:Q (.ref f,[.ref x]) s) :
  wpAny (model prog w) A (getMethod (.ref x) name pl) Q E s:=by
 obtain⟨od,J,hl⟩:=I.look
 exact PySem.W.method_fn X J (PySem.W.plainGet_of hg).1 (PySem.W.plainGet_of hg).2 hf (beq_iff_eq.mp ht) (by show(PySem.W.lookIn name od).map (·.isSome)=some false;rw[hl,hv];rfl) h
theorem zlj {ns:List Str}{Q:Unit->Shared->Prop}(X:K.In s.heap)(I:zgp s.heap x dx C mA)
  (hs:findIn K (.ref C) "__setattr__"=some (some (.builtin "object.__setattr__")))(hp:PySem.W.plainOver K C=true)(ht:PySem.W.takerIn K C name=some none)(hh:PySem.W.hasDictIn K C=true)
  (hw:PySem.Within mA ns)(hsz:ns.length<=sizeLine)
  (h:∀h',zgp h' x dx C (fun y=>if y=name then some v else mA y)->Heap.SameBut dx s.heap h'->Q () { s with heap:=h',toks:=s.toks+2 }) :
  wpAny (model prog w) A (setAttr (.ref x) name v) Q E s:=by
 obtain⟨od,J,hl⟩:=I.look
 refine PySem.W.set_plain X J hs (PySem.W.osa_open (s:={ s with toks:=s.toks+1 }) (r:=none) X J hp ht fun b=>?_)
 obtain⟨cd,hc,hd'⟩:=PySem.W.any_some hh
 have hx:s.heap.get? x=some ⟨.ref C,some dx,.plain,#[]⟩:=I.obj
 refine wpAny_bind (wpAny_pure (wpAny_bind (wpAny_bind (wpAny_loadPart hx (wpAny_bind (PySem.W.Looks.here (s:={ s with toks:=s.toks+1 }) (PySem.W.looks_clsIn X hc) ?_))))))
 rw[hd']
 refine wpAny_pure (a:=some dx) (wpAny_bind (wpAny_pure (wpAny_bind ?_)))
 refine wpAny_nsSet1 (s:={ s with toks:=s.toks+1 }) I.ns fun h' hn2 hs2=>?_
 obtain⟨oD,esD,epD,hoD,hdD,hcD⟩:=hn2.count (PySem.Within.cons name v hw)
 refine wpAny_bind (wpAny_lookBehind hoD (by rw[hdD];exact pastItsLine_dict (zux hcD (by rw[zuo];omega))) ?_)
 exact wpAny_pure (h _ ⟨(hs2.2 _ (Ne.symm I.ne)).trans I.obj,hn2,I.ne⟩ hs2)
theorem zjk {R:Result->Shared->Prop}{vs:List Value}{kw:List (Str×Value)}(X:K.In s.heap)(hm:PySem.W.makesIn K C=true)
  (hi:findIn K (.ref C) "__init__"=some (some (.ref f)))(hf:PySem.W.typeIn K (.ref f)=some (.type "function"))
  (h:codeAny (model prog w) (A.under (.builtin "type.__call__" ⟨.ref C::vs,kw⟩)) (.call (.ref f) ⟨.ref (s.heap.objs.size+1)::vs,kw⟩) (PySem.W.InitBack (s.heap.objs.size+1) R)
   {s with heap:=(s.heap.push PySem.W.emptyDict).push (PySem.W.instObj C s.heap.objs.size) }) :
  codeAny (model prog w) A (.call (.ref C) ⟨vs,kw⟩) R s:=by
 obtain⟨hh,g,d,t,os⟩:=s
 exact PySem.W.make_core (PySem.W.makes_of X hm) (PySem.W.looks_findIn X hi) (fun self=>PySem.W.bind_fn X self hf) (.inl rfl) h
end
def Yv (f:Str)(v:V):List (Str×V)->List (Str×V)
 | []=>[(f,v)]
 | (g,x)::r=>if g=f then (g,v)::r else (g,x)::Yv f v r
theorem JB (f g:Str)(v:V):∀fs:List (Str×V),(Yv f v fs).lookup g=if g=f then some v else fs.lookup g
 | []=>by
  show List.lookup g [(f,v)]=_
  by_cases h:g=f
  ·have hb:(g==f)=true:=beq_iff_eq.mpr h
   simp only[List.lookup,hb,if_pos h]
  ·have hb:(g==f)=false:=beq_eq_false_iff_ne.mpr h
   simp only[List.lookup,hb,if_neg h]
 | (k,x)::r=>by
  have ih:=JB f g v r
  rw[show Yv f v ((k,x)::r)=(if k=f then (k,v)::r else (k,x)::Yv f v r) from rfl]
  by_cases hk:k=f
  ·rw[if_pos hk]
   by_cases h:g=k
   ·have hb:(g==k)=true:=beq_iff_eq.mpr h
    simp only[List.lookup,hb,if_pos (h.trans hk)]
   ·have hb:(g==k)=false:=beq_eq_false_iff_ne.mpr h
    simp only[List.lookup,hb,if_neg (fun e:g=f=>h (e.trans hk.symm))]
  ·rw[if_neg hk]
   by_cases h:g=k
   ·have hb:(g==k)=true:=beq_iff_eq.mpr h
    simp only[List.lookup,hb,if_neg (fun e:g=f=>hk (h.symm.trans e))]
   ·have hb:(g==k)=false:=beq_eq_false_iff_ne.mpr h
    simp only[List.lookup,hb]
    exact ih
theorem K3 (f:Str)(v:V):∀fs:List (Str×V),f∈(Yv f v fs).map (·.1)/\∀g,g∈fs.map (·.1)->g∈(Yv f v fs).map (·.1)
 | []=>⟨by simp[Yv],fun g h=>by simp at h⟩
 | (k,x)::r=>by
  obtain⟨i1,i2⟩:=K3 f v r
  rw[show Yv f v ((k,x)::r)=(if k=f then (k,v)::r else (k,x)::Yv f v r) from rfl]
  by_cases hk:k=f
  ·rw[if_pos hk]
   subst hk
   exact⟨by simp,fun g h=>by simpa using h⟩
  ·rw[if_neg hk]
   refine⟨?_,fun g h=>?_⟩
   ·rw[zuA]
    exact zun _ i1
   ·rw[zuA] at h ⊢
    rcases List.mem_cons.mp h with e | e
    ·exact List.mem_cons.mpr (.inl e)
    ·exact zun _ (i2 g e)
theorem JC (f:Str)(v:V):∀fs:List (Str×V),(Yv f v fs).length<=fs.length+1
 | []=>by simp[Yv]
 | (k,x)::r=>by
  have ih:=JC f v r
  rw[show Yv f v ((k,x)::r)=(if k=f then (k,v)::r else (k,x)::Yv f v r) from rfl]
  by_cases hk:k=f
  ·rw[if_pos hk,zuo,zuo];omega
  ·rw[if_neg hk,zuo,zuo];omega
theorem Q7.some_of {v:V}{o:Option Value}(r:Q7 (some v) o):∃u,o=some u/\RelV v u:=by
 cases o with
 | none=>exact(show False from r).elim
 | some u=>exact⟨u,rfl,r⟩
theorem Q7.none_of {o:Option Value}(r:Q7 none o):o=none:=by
 cases o with
 | none=>rfl
 | some u=>exact(show False from r).elim
theorem zit {v:V}{u:Value}(r:RelV v u):PySem.W.handedIn u=true:=by
 cases v with
 | non=>cases (show u=Value.none from r);rfl
 | bl b=>cases (show u=Value.bool b from r);rfl
 | int i=>obtain⟨t,e⟩:=(show ∃t,u=Value.int i t from r);cases e;rfl
 | str x=>obtain⟨t,e⟩:=(show ∃t,u=Value.str x t from r);cases e;rfl
 | byt b=>obtain⟨t,e⟩:=(show ∃t,u=Value.bytes b t from r);cases e;rfl
 | flt b=>obtain⟨t,e⟩:=(show ∃t,u=Value.float b t from r);cases e;rfl
 | ref a=>cases (show u=Value.ref a from r);rfl
 | ty n=>cases (show u=Value.type n from r);rfl
section
variable {P:Program}{w:World}{H H':Hp}{h h':Heap}{a C dx:Addr}{fs fs':List (Str×V)}
theorem zaB (hok:Rh P w H h)(e:H a=some (.ins C dx fs)):∃mA,zgp h a dx C mA/\(∀f,Q7 (fs.lookup f) (mA f))/\PySem.Within mA (fs.map (·.1))/\fs.length<=1000/\H dx=some (.own a):=by
 obtain⟨d,z,ne,ob,mA,n,r,q⟩:=(show vG P w H h a (.ins C dx fs) from hok a _ e)
 exact⟨mA,⟨ob,n,ne⟩,r,q,z,d⟩
end
structure Cls (K:Frag)(C:Addr):Prop where
 pg:PySem.W.plainGet K C Str.empty=true
 hd:PySem.W.hasDictIn K C=true
 po:PySem.W.plainOver K C=true
 sa:findIn K (.ref C) "__setattr__"=some (some (.builtin "object.__setattr__"))
theorem Cls.get {K:Frag}{C:Addr}(c:Cls K C)(f:Str):PySem.W.plainGet K C f=true:=c.pg
def Wz (K:Frag)(C:Addr)(f:Str):Prop:=findIn K (.ref C) f=some none
theorem Wz.taker {K:Frag}{C:Addr}{f:Str}(n:Wz K C f):PySem.W.takerIn K C f=some none:=by
 unfold PySem.W.takerIn
 rw[show findIn K (.ref C) f=some none from n]
 rfl
structure Meth (K:Frag)(C:Addr)(m:Str)(f:Addr):Prop where
 at_:findIn K (.ref C) m=some (some (.ref f))
 fn:PySem.W.isFn K (.ref f)=true
 kp:PySem.W.keepIn K (.ref f)=true
section
variable {X:Cx}{pins:List (Addr×Obj)}{σ:St}{H:Hp}{s:Shared}{a C dx:Addr}{fs:List (Str×V)}{f:Str}{v:V}{A:Around}{E:Value->Shared->Prop}
theorem zgq {b:Bool}{Q:Value->Shared->Prop}(I:Inv X pins σ H s)(e:H a=some (.ins C dx fs))(c:Cls X.K C)(n:Wz X.K C f)(l:fs.lookup f=some v)
  (h:∀u s',Inv X pins σ H s'->RelV v u->Q u s'):wpAny (model X.prog X.w) A (getAttr (.ref a) f b) Q E s:=by
 obtain⟨mA,O,r,_,_,_⟩:=zaB I.hok e
 obtain⟨u,hu,ru⟩:=Q7.some_of (v:=v) (o:=mA f) (by rw[<-l];exact r f)
 exact get_map I.Q9 O (c.get f) c.hd n hu (zit ru) (h u _ (I.tok _) ru)
theorem Nq {m:Str}{g:Addr}{pl:Sem Bool}{Q:Value×List Value->Shared->Prop}(I:Inv X pins σ H s)(e:H a=some (.ins C dx fs))(c:Cls X.K C)(k:Meth X.K C m g)(l:fs.lookup m=none)
  (h:Q (.ref g,[.ref a]) s):wpAny (model X.prog X.w) A (getMethod (.ref a) m pl) Q E s:=by
 obtain⟨mA,O,r,_,_,_⟩:=zaB I.hok e
 have hn:mA m=none:=Q7.none_of (by rw[<-l];exact r m)
 exact zjj I.Q9 O (c.get m) k.at_ k.fn hn h
theorem zgr {y:V}{u:Value}{Q:Unit->Shared->Prop}(I:Inv X pins σ H s)(e:H a=some (.ins C dx fs))(c:Cls X.K C)(n:Wz X.K C f)(hl:fs.length<1000)(ry:RelV y u)
  (h:∀s',Inv X pins σ (upd H a (.ins C dx (Yv f y fs))) s'->Q () s'):wpAny (model X.prog X.w) A (setAttr (.ref a) f u) Q E s:=by
 obtain⟨mA,O,r,wi,_,ho⟩:=zaB I.hok e
 have hz:(fs.map (·.1)).length<=sizeLine:=by rw[zuc,sizeLine_eq];omega
 refine zlj I.Q9 O c.sa c.po n.taker c.hd wi hz fun h' O' sb=>h _ ?_
 have hd:∃o,h'.get? dx=some o:=let ⟨o,_,_,e',_⟩:=O'.ns;⟨o,e'⟩
 refine I.write (x:=a) (e:=dx) (by rw[e];exact True.intro) (.inr ho) (fun b q hb z=>(sb.2 b hb).trans z) hd ?_
 refine⟨by rw[zE O.ne];exact ho,?_,O.ne,O'.obj,_,O'.ns,fun g=>?_,fun g hg=>?_⟩
 ·have:=JC f y fs;omega
 ·show Q7 ((Yv f y fs).lookup g) (if g=f then some u else mA g)
  rw[JB]
  by_cases q:g=f
  ·rw[if_pos q,if_pos q];exact ry
  ·rw[if_neg q,if_neg q];exact r g
 ·by_cases q:g=f
  ·rw[q];exact(K3 f y fs).1
  ·refine(K3 f y fs).2 g (wi g fun z=>hg ?_)
   show(if g=f then some u else mA g)=none
   rw[if_neg q];exact z
theorem Inv.made (I:Inv X pins σ H s):Inv X pins σ (upd (upd H s.heap.objs.size (.own (s.heap.objs.size+1))) (s.heap.objs.size+1) (.ins C s.heap.objs.size []))
  {s with heap:=(s.heap.push PySem.W.emptyDict).push (PySem.W.instObj C s.heap.objs.size) }:=by
 have e1:(s.heap.push PySem.W.emptyDict).get? s.heap.objs.size=some PySem.W.emptyDict:=zuw s.heap rfl
 have e2:((s.heap.push PySem.W.emptyDict).push (PySem.W.instObj C s.heap.objs.size)).get? (s.heap.objs.size+1)=some (PySem.W.instObj C s.heap.objs.size):=by
  have:=zuw (s.heap.push PySem.W.emptyDict) (o:=PySem.W.instObj C s.heap.objs.size) rfl
  rwa [Heap.size_push] at this
 have e3:(s.heap.push PySem.W.emptyDict).Ns s.heap.objs.size (fun _=>none):=⟨PySem.W.emptyDict,#[],_,e1,rfl,(fun e he=>absurd he (by simp)),fun _=>rfl⟩
 have I1:=I.laid (a:=s.heap.objs.size) (o:=.own (s.heap.objs.size+1)) (h':=s.heap.push PySem.W.emptyDict) (t':=s.toks) (fun b u q=>zui _ q) (zus _) ⟨_,e1⟩
 refine I1.laid (a:=s.heap.objs.size+1) (o:=.ins C s.heap.objs.size []) (t':=s.toks) (fun b u q=>zui _ q) (Nat.le_of_eq (Heap.size_push _ _)) ?_
 have ne:s.heap.objs.size≠s.heap.objs.size+1:=zur (Nat.lt_succ_self _)
 refine⟨by rw[zE ne,zm],zuy _,ne,e2,fun _=>none,(Heap.Ns1.of_empty e3).at fun o q=>zui _ q,fun _=>True.intro,fun y hy=>absurd rfl hy⟩
theorem zlk {prog:Program}{w:World}{env:Env}{e:Expr}{f:Str}{pos:Pos}{s:Shared}{Q:Value->Shared->Prop}(hb:attributeBase e f env (eval e env)=eval e env)
  (h:wpAny (model prog w) A (eval e env) (fun o s₁=>wpAny (model prog w) A (getAttr o f true) Q E s₁) E s):wpAny (model prog w) A (eval (.Attribute e f pos) env) Q E s :=
 Attribute_any_ h (by rw[arm_eval_Attribute,hb])
end
def zqI (K:Frag)(ta:TE)(f:Str):TE:=fun σ H Q=>ta σ H fun x H1=>∃a C dx fs v,x=.ref a/\H1 a=some (.ins C dx fs)/\Cls K C/\Wz K C f/\fs.lookup f=some v/\Q v H1
def zqJ (K:Frag)(ta tv:TE)(f:Str):TS:=fun D σ H=>tv σ H fun y H1=>ta σ H1 fun x H2=>∃a C dx fs,x=.ref a/\H2 a=some (.ins C dx fs)/\Cls K C/\Wz K C f/\fs.length<1000 /\
 D.nx σ (upd H2 a (.ins C dx (Yv f y fs)))
section
variable {X:Cx}{o e value:Expr}{f:Str}{pos pos' tpos:Pos}{ta tv:TE}
theorem Yw (he:PE X e ta)(hb:attributeBase e f X.env (eval e X.env)=eval e X.env):PE X (.Attribute e f pos) (zqI X.K ta f):=by
 intro pins s σ H Q I h
 refine zlk hb (vM (he pins s σ H _ I h) fun u s1 ⟨x,H1,I1,rx,a,C,dx,fs,v,ex,ea,c,n,l,q⟩=>?_)
 subst ex
 obtain rfl:u=Value.ref a:=rx
 exact zgq I1 ea c n l fun u' s2 I2 ru=>⟨v,H1,I2,ru,q⟩
theorem zdK (ha:PE X o ta)(hv:PE X value tv)(hs:swapsWith value (some (.Attribute o f pos')) pos.line X.env=pure false):PS X (.Assign [.Attribute o f pos'] value pos) (zqJ X.K ta tv f):=by
 intro pins s σ H D I h
 refine plainObj_wpAny_Assign_Attribute (vM (hv pins s σ H _ I h) fun u s1 ⟨y,H1,I1,ry,q⟩=>vM (ha pins s1 σ H1 _ I1 q) fun ov s2 ⟨x,H2,I2,rx,a,C,dx,fs,ex,ea,c,n,l,q2⟩=>?_) hs
 subst ex
 obtain rfl:ov=Value.ref a:=rx
 exact zgr I2 ea c n l ry fun s3 I3=>⟨σ,_,I3,q2⟩
theorem zmL {pl:Sem Bool}{m:Str}{apos:Pos}{args:List Expr}{pins:List (Addr×Obj)}{s:Shared}{σ:St}{H:Hp}{Q:Value->Shared->Prop}{te:TE}(he:PE X e te)(I:Inv X pins σ H s)
  (h:te σ H fun x H1=>∃a C dx fs g,x=.ref a/\H1 a=some (.ins C dx fs)/\Cls X.K C/\Meth X.K C m g/\fs.lookup m=none /\
   ∀s1,Inv X pins σ H1 s1->wpAny (model X.prog X.w) X.A (callWith pos (.ref g) [.ref a] (backTo pos (starEach args X.env)) (backToKw pos (keywordEach [] X.env))) Q X.xe s1)
  (ht:eval (.Call (.Attribute e m apos) args [] pos) X.env=(do
   let ov <-eval e X.env
   standAt apos.atName
   let (f,first) <-holding [ov] (getMethod ov m pl)
   callWith pos f first (backTo pos (starEach args X.env)) (backToKw pos (keywordEach [] X.env)))) :
  wpAny (model X.prog X.w) X.A (eval (.Call (.Attribute e m apos) args [] pos) X.env) Q X.xe s:=by
 refine PySem.W.methodCall_KW (pl:=pl) (vM (he pins s σ H _ I h) fun u s1 ⟨x,H1,I1,rx,a,C,dx,fs,g,ex,ea,c,k,l,q⟩=>?_) ht
 subst ex
 obtain rfl:u=Value.ref a:=rx
 exact Nq I1 ea c k l (q s1 I1)
end
section
variable {X:Cx}{pins:List (Addr×Obj)}{σ:St}{H:Hp}{s:Shared}{A:Around}{E:Value->Shared->Prop}{Q:Value->Shared->Prop}{c:Value}{b:Bool}
inductive Mu (K:Frag)(H:Hp):V->Value->Prop where
 | non:Mu K H .non (.type "NoneType")
 | bl (x:Bool):Mu K H (.bl x) (.type "bool")
 | int (i:Int):Mu K H (.int i) (.type "int")
 | str (x:Str):Mu K H (.str x) (.type "str")
 | flt (x:UInt64):Mu K H (.flt x) (.type "float")
 | lst {a:Addr} {xs:List V} (e:H a=some (.lst xs)):Mu K H (.ref a) (.type "list")
 | frz {a:Addr} {o:Obj} {xs:List V} (e:H a=some (.frz o (.lst xs))):Mu K H (.ref a) (.type "list")
 | tup {a:Addr} {xs:List V} (e:H a=some (.tup xs)):Mu K H (.ref a) (.type "tuple")
 | dK {a:Addr} {kvs:List (Key×V)} (e:H a=some (.dK kvs)):Mu K H (.ref a) (.type "dict")
 | dT {a:Addr} {kvs:List (List Key×V)} (e:H a=some (.dT kvs)):Mu K H (.ref a) (.type "dict")
 | ins {a C dx:Addr} {fs:List (Str×V)} (e:H a=some (.ins C dx fs)) (cl:Cls K C) (ha:findIn K (.ref C) "__class__"=some (some (.builtin "object.__class__")))
   (hn:PySem.W.specialIn K (.builtin "object.__class__") "__get__"=some (some (.builtin "getset_descriptor.__get__"))) (htk:PySem.W.takesIn K (.builtin "object.__class__")=some true)
   (hm:PySem.W.mroIn K C (.type "object")=some true):Mu K H (.ref a) (.ref C)
theorem ziu {x:V}{u t:Value}(I:Inv X pins σ H s)(rx:RelV x u)(ty:Mu X.K H x t)(e:PySem.W.kitOne X.K t c=some b)(h:∀tk,Q (.bool b) { s with toks:=tk }) :
  wpAny (model X.prog X.w) A (call (.builtin "isinstance") [u,c]) Q E s:=by
 cases ty with
 | non=>cases (show u=Value.none from rx);exact PySem.W.kia_one PySem.W.kitx_none I.Q9 True.intro e (fun z=>nomatch z) h
 | bl y=>cases (show u=Value.bool y from rx);exact PySem.W.kia_one PySem.W.kitx_bool I.Q9 True.intro e (fun z=>nomatch z) h
 | int i=>obtain⟨t,q⟩:=(show ∃t,u=Value.int i t from rx);cases q;exact PySem.W.kia_one PySem.W.kitx_int I.Q9 True.intro e (fun z=>nomatch z) h
 | str y=>obtain⟨t,q⟩:=(show ∃t,u=Value.str y t from rx);cases q;exact PySem.W.kia_one PySem.W.kitx_str I.Q9 True.intro e (fun z=>nomatch z) h
 | flt y=>obtain⟨t,q⟩:=(show ∃t,u=Value.float y t from rx);cases q;exact PySem.W.kia_one PySem.W.kitx_float I.Q9 True.intro e (fun z=>nomatch z) h
 | @lst a xs ea =>
  cases (show u=Value.ref a from rx)
  obtain⟨_,_,n,_,h1⟩:=(show vG X.prog X.w H s.heap a (.lst xs) from I.hok a _ ea)
  exact PySem.W.kia_one PySem.W.kitx_list I.Q9 ⟨_,h1,rfl⟩ e (fun z=>nomatch z) h
 | @frz a ob xs ea =>
  cases (show u=Value.ref a from rx)
  obtain⟨_,_,_,n,_,h1⟩:=(show vG X.prog X.w H s.heap a (.frz ob (.lst xs)) from I.hok a _ ea)
  exact PySem.W.kia_one PySem.W.kitx_list I.Q9 ⟨_,h1,rfl⟩ e (fun z=>nomatch z) h
 | @tup a xs ea =>
  cases (show u=Value.ref a from rx)
  obtain⟨_,_,_,p⟩:=(show vG X.prog X.w H s.heap a (.tup xs) from I.hok a _ ea)
  obtain⟨o,h1,h2,_⟩:=p
  exact PySem.W.kia_one PySem.W.kitx_tuple I.Q9 ⟨o,h1,h2⟩ e (fun z=>nomatch z) h
 | @dK a kvs ea =>
  cases (show u=Value.ref a from rx)
  obtain⟨_,_,vs,_,p⟩:=(show vG X.prog X.w H s.heap a (.dK kvs) from I.hok a _ ea)
  obtain⟨o,es,ep,h1,h2,_⟩:=p
  exact PySem.W.kia_one PySem.W.kitx_dict I.Q9 ⟨o,h1,h2.1⟩ e (fun z=>nomatch z) h
 | @dT a kvs ea =>
  cases (show u=Value.ref a from rx)
  obtain⟨_,_,xs,_,o,es,ep,h1,h2,_⟩:=(show vG X.prog X.w H s.heap a (.dT kvs) from I.hok a _ ea)
  exact PySem.W.kia_one PySem.W.kitx_dict I.Q9 ⟨o,h1,h2.1⟩ e (fun z=>nomatch z) h
 | @ins a C dx fs ea cl ha hn htk hm =>
  cases (show u=Value.ref a from rx)
  obtain⟨mA,O,_⟩:=zaB I.hok ea
  obtain⟨od,J,_⟩:=O.look
  exact PySem.W.kia_one (PySem.W.kitx_own (cl.get _) cl.hd ha hn htk hm) I.Q9 J e (fun z=>nomatch z) h
end
structure tE (k:Nat)(A:Around):Prop where
 hd:A.handled=none
 gd:A.guards=some []
 dp:A.depth+3*k+5<recursionLimit
 un:A.units+16*k+200<cLine
theorem tE.mono {j k:Nat}{A:Around}(r:tE k A)(h:j<=k):tE j A:=⟨r.hd,r.gd,by have:=r.dp;omega,by have:=r.un;omega⟩
theorem tE.deeper {k:Nat}{A:Around}(r:tE (k+1) A)(env:Env):tE k (A.deeper env) :=
 ⟨r.hd,r.gd,by have:=r.dp;show A.depth+1+3*k+5<_;omega,by have:=r.un;show A.units+3+16*k+200<_;omega⟩
theorem zgs {A:Around}{C:Addr}{us:List Value}{kw:List (Str×Value)}:(A.under (.builtin "type.__call__" ⟨.ref C::us,kw⟩)).depth=A.depth+1:=by
 first | rfl | simp[Around.under,Code.weight,Code.isCreation,Code.isGuard,Code.isCaller,Code.frames,Code.isFrame,guardIds]
theorem zgt {A:Around}{C:Addr}{us:List Value}{kw:List (Str×Value)}:(A.under (.builtin "type.__call__" ⟨.ref C::us,kw⟩)).units=A.units+1:=by
 first | rfl | simp[Around.under,Code.cUnits,Code.frames,Code.isFrame]
theorem tE.make {k:Nat}{A:Around}(r:tE (k+1) A)(C:Addr)(us:List Value)(kw:List (Str×Value)):tE k (A.under (.builtin "type.__call__" ⟨.ref C::us,kw⟩)) :=
 ⟨r.hd,(by
  have e:(Code.builtin "type.__call__" ⟨.ref C::us,kw⟩).guards=[]:=by first | rfl | simp[Code.guards,Code.isGuard,guardIds]
  unfold Around.under
  simp only[e,pushGuards]
  exact r.gd),by have:=r.dp;rw[zgs];omega,by have:=r.un;rw[zgt];omega⟩
theorem tE.depth {k:Nat}{A:Around}(r:tE k A):A.depth<recursionLimit:=by have:=r.dp;omega
theorem tE.units {k:Nat}{A:Around}(r:tE k A):A.units+64<cLine:=by have:=r.un;omega
def zdL:TA:=fun _ H Q=>Q [] H
def Mv (ta:TE)(tr:TA):TA:=fun σ H Q=>ta σ H fun x H1=>tr σ H1 fun xs H2=>Q (x::xs) H2
section
variable {X:Cx}{e:Expr}{es:List Expr}{te:TE}{t:TA}{pos:Pos}
theorem zc:PA X [] zdL:=fun _ _ _ _ H Q I h=>Calls.spliced_nil ⟨[],H,I,.nil,h⟩
theorem za (ha:PE X e te)(hr:PA X es t)(hs:starEach (e::es) X.env=(false,eval e X.env)::starEach es X.env:=by rfl):PA X (e::es) (Mv te t):=by
 intro pos pins s σ H Q I h
 rw[hs]
 show wpAny _ _ (spliced ((false,eval e X.env)::backTo pos (starEach es X.env))) _ _ s
 refine Calls.spliced_cons (vM (ha pins s σ H _ I h) fun u s1 ⟨x,H1,I1,r1,q1⟩=>?_)
 exact vM (hr pos pins s1 σ H1 _ I1 q1) fun us s2 ⟨xs,H2,I2,r2,q2⟩=>⟨x::xs,H2,I2,.cons r1 r2,q2⟩
def zqK (t:TA):TE:=fun σ H Q=>t σ H fun xs H1=>xs.length<=sizeLine/\∀p,H1 p=none->Q (.ref p) (upd H1 p (.tup xs))
def zqL (t:TA):TE:=fun σ H Q=>t σ H fun xs H1=>xs.length<=sizeLine/\∀p,H1 p=none->Q (.ref p) (upd H1 p (.lst xs))
theorem uN {x1}(h:PA X es t):PE X (.Tuple es x1 pos) (zqK t):=by
 intro pins s σ H Q I hq
 refine wpAny_Tuple_spliced (vM (h pos pins s σ H _ I hq) fun us s1 ⟨xs,H1,I1,r,z,q⟩=>⟨by rw[<-r.length];exact z,?_⟩)
 have hf:H1 s1.heap.objs.size=none:=I1.hok.fresh (zus _)
 refine⟨.ref s1.heap.objs.size,upd H1 s1.heap.objs.size (.tup xs),I1.laid (t':=s1.toks) (fun b u e=>zui _ e) (zus _) ?_,rfl,q _ hf⟩
 exact⟨z,us,r,⟨_,zuw _ rfl,rfl,_,rfl⟩⟩
theorem xg (h:PA X es t):PE X (.List es pos) (zqL t):=by
 intro pins s σ H Q I hq
 refine wpAny_List_spliced (vM (h pos pins s σ H _ I hq) fun us s1 ⟨xs,H1,I1,r,z,q⟩=>⟨by rw[<-r.length];exact z,?_⟩)
 have hf:H1 s1.heap.objs.size=none:=I1.hok.fresh (zus _)
 refine⟨.ref s1.heap.objs.size,upd H1 s1.heap.objs.size (.lst xs),I1.laid (t':=s1.toks) (fun b u e=>zui _ e) (zus _) ?_,rfl,q _ hf⟩
 exact⟨z,us,0,r,zuw _ rfl⟩
end
abbrev Sp:=List V->Hp->VK->XK->Prop
abbrev CXT:=List Env->Hp->Shared->XK->Value->Shared->Prop
structure zdM (P:Program)(w:World)(K:Frag)(mg:Str->Option Value)(base:Heap)(A:Around)(outer:List Env)(s:Shared)(H:Hp):Prop where
 frames:A.frames=some outer
 mod:Mod K mg base
 bs:∀b o,base.get? b=some o->s.heap.get? b=some o/\H b=none
 bsz:base.objs.size<=s.heap.objs.size
 Q8:s.heap.FunFrames base outer
 frf:∀b∈frs outer,H b=none
 hok:Rh P w H s.heap
 bare:AllBare s.gens
def CE (outer:List Env)(P:Program)(w:World)(H:Hp)(s:Shared)(Q:VK)(u:Value)(s':Shared):Prop :=
 ∃v H',s'.os=s.os/\AllBare s'.gens/\Un (frs outer) [] H H' s.heap s'.heap/\Rh P w H' s'.heap/\RelV v u/\Q v H'
def CR (CX:CXT)(outer:List Env)(P:Program)(w:World)(H:Hp)(s:Shared)(Q:VK)(E:XK)(r:Result)(s':Shared):Prop :=
 match r with
 | .ok (.ret u)=>CE outer P w H s Q u s'
 | .ok _=>False
 | .error e=>CX outer H s E e s'
structure zy (P:Program)(w:World)(K:Frag)(mg:Str->Option Value)(base:Heap)(CX:CXT)(k:Nat)(f:Addr)(fd:FuncData)(ps:List Str)(sp:Sp):Prop where
 len:∀vs H Q E,sp vs H Q E->vs.length=ps.length
 run:∀(A:Around) (outer:List Env) (s:Shared) (H:Hp) (args:Args) (us:List Value) (vs:List V) (Q:VK) (E:XK),tE k A->zdM P w K mg base A outer s H->BindsTo s fd args (ps.zip us)->Vals vs us->sp vs H Q E ->
  codeAny (model P w) A (.call (.ref f) args) (CR CX outer P w H s Q E) s
theorem zy.mono {P:Program}{w:World}{K:Frag}{mg:Str->Option Value}{base:Heap}{CX:CXT}{j k:Nat}{f:Addr}{fd:FuncData}{ps:List Str}{sp:Sp}(F:zy P w K mg base CX j f fd ps sp)(h:j<=k) :
  zy P w K mg base CX k f fd ps sp:=⟨F.len,fun A outer s H args us vs Q E hr=>F.run A outer s H args us vs Q E (hr.mono h)⟩
theorem zy.imp {P:Program}{w:World}{K:Frag}{mg:Str->Option Value}{base:Heap}{CX:CXT}{k:Nat}{f:Addr}{fd:FuncData}{ps:List Str}{sp sp':Sp}(F:zy P w K mg base CX k f fd ps sp)
  (h:∀vs H Q E,sp' vs H Q E->sp vs H Q E):zy P w K mg base CX k f fd ps sp' :=
 ⟨fun vs H Q E q=>F.len vs H Q E (h _ _ _ _ q),fun A outer s H args us vs Q E hr he hb hv hs=>F.run A outer s H args us vs Q E hr he hb hv (h _ _ _ _ hs)⟩
theorem zdM.make {P:Program}{w:World}{K:Frag}{mg:Str->Option Value}{base:Heap}{A:Around}{outer:List Env}{s:Shared}{H:Hp}(e:zdM P w K mg base A outer s H)(C:Addr)(us:List Value)(kw:List (Str×Value)) :
  zdM P w K mg base (A.under (.builtin "type.__call__" ⟨.ref C::us,kw⟩)) outer s H:=⟨by first | exact e.frames | (simpa [Around.under,Code.envs,Code.isFrame,pushEnvs] using e.frames),e.mod,e.bs,e.bsz,e.Q8,e.frf,e.hok,e.bare⟩
section
variable {X:Cx}{pins:List (Addr×Obj)}{σ:St}{H:Hp}{s s':Shared}
theorem Inv.env0 (I:Inv X pins σ H s):zdM X.prog X.w X.K X.mg X.base X.A X.stack s H :=
 ⟨I.ok.frames,I.ok.mod,I.bs,zux I.ok.bsz I.sz,I.stack,I.zaz,I.hok,I.bare⟩
theorem Inv.after {Q:VK}{u:Value}(I:Inv X pins σ H s)(h:CE X.stack X.prog X.w H s Q u s'):EP X pins σ Q u s':=by
 obtain⟨v,H',os,bare,un,hok,r,q⟩:=h
 obtain⟨hh,g,d,t,os'⟩:=s'
 obtain rfl:os'=s.os:=os
 exact⟨v,H',I.call (h':=hh) (g':=g) (d':=d) (t':=t) (ch:=[]) un hok bare (fun b z=>absurd z (by simp)),r,q⟩
end
def Mw (sp:Sp)(Rz:List V)(E:XK)(t:TA):TE:=fun σ H Q=>t σ H fun vs H1=>sp (vs++Rz) H1 Q E
def zcX (C:Addr)(m:Str)(sp:Sp)(Rz:List V)(E:XK)(ta:TE)(t:TA):TE:=fun σ H Q=>ta σ H fun x H1=>∃a dx fs,x=.ref a/\H1 a=some (.ins C dx fs)/\fs.lookup m=none /\
 t σ H1 fun vs H2=>sp (x::(vs++Rz)) H2 Q E
def zoO (C:Addr)(sp:Sp)(Rz:List V)(E:XK)(t:TA):TE:=fun σ H Q=>t σ H fun vs H1=>∀x dx,H1 x=none->H1 dx=none->dx≠x ->
 sp (.ref x::(vs++Rz)) (upd (upd H1 dx (.own x)) x (.ins C dx [])) (fun v H2=>v=.non/\Q (.ref x) H2) E
def Binds (K:Frag)(fd:FuncData)(ps:List Str)(ds:List Value):Prop :=
 ∀(s:Shared) (us:List Value),K.In s.heap->(us++ds).length=ps.length->BindsTo s fd ⟨us,[]⟩ (ps.zip (us++ds))
theorem Binds.all {K:Frag}{fd:FuncData}{ps:List Str}(h:∀us:List Value,us.length=ps.length->bindArgs fd ⟨us,[]⟩=pure (ps.zip us)):Binds K fd ps []:=fun s us _ hl=>by
 rw[List.append_nil] at hl ⊢
 exact .of_eq (h us hl)
def Passes (CX:CXT)(X:Cx)(E:XK):Prop:=∀(pins:List (Addr×Obj)) (σ:St) (H:Hp) (s:Shared) (e:Value) (s':Shared),Inv X pins σ H s->CX X.stack H s E e s'->X.xe e s'
section
variable {X:Cx}{CX:CXT}{k:Nat}{f C:Addr}{fd:FuncData}{ps:List Str}{sp:Sp}{Rz:List V}{ds:List Value}{E:XK}{x m:Str}{p pos apos:Pos}{e o:Expr}{es:List Expr}{ta:TE}{t:TA}
theorem zgu {pins:List (Addr×Obj)}{σ:St}{H:Hp}{s:Shared}{Q:VK}{us:List Value}{vs:List V}(F:zy X.prog X.w X.K X.mg X.base CX k f fd ps sp)(hr:tE k X.A)(hb:Binds X.K fd ps ds)(hd:Vals Rz ds)(hx:Passes CX X E)
  (I:Inv X pins σ H s)(r:Vals vs us)(h:sp (vs++Rz) H Q E):wpAny (model X.prog X.w) X.A (call (.ref f) us) (EP X pins σ Q) X.xe s:=by
 have r2:Vals (vs++Rz) (us++ds):=r.append hd
 have hl:(us++ds).length=ps.length:=by rw[<-r2.length];exact F.len _ _ _ _ h
 refine wpAny_call (codeAny_mono (F.run X.A X.stack s H ⟨us,[]⟩ (us++ds) (vs++Rz) Q E hr I.env0 (hb s us I.Q9 hl) r2 h) fun r s' hq=>?_)
 cases r with
 | error e=>exact hx pins σ H s e s' I hq
 | ok fl =>
  cases fl with
  | ret u=>exact I.after hq
  | next=>exact False.elim hq
  | brk=>exact False.elim hq
  | cont=>exact False.elim hq
theorem zhz (F:zy X.prog X.w X.K X.mg X.base CX k f fd ps sp)(hr:tE k X.A)(hg:Gl X x)(hm:X.mg x=some (.ref f))(hk:PySem.W.keepIn X.K (.ref f)=true)(hb:Binds X.K fd ps ds)(hd:Vals Rz ds)(hx:Passes CX X E)
  (ha:PA X (e::es) t)(hdb:(x==("__debug__" : Str))=false:=by decide)(he:starEach (e::es) X.env=(false,eval e X.env)::starEach es X.env:=by rfl)(hpl:(backTo pos (starEach es X.env)).any (·.1)=false:=by rfl) :
  PE X (.Call (.Name x p) (e::es) [] pos) (Mw sp Rz E t):=by
 intro pins s σ H Q I h
 refine wpAny_Call_Name_kw (Te I hg hm ?_ hdb)
 refine PySem.W.callWith_K (h₀:=X.base) I.ok.mod.kin hk (vM (ha pos pins s σ H _ I h) fun us s1 ⟨vs,H1,I1,r,q⟩=>⟨I1.Q9,?_⟩) he hpl
 exact zgu F hr hb hd hx I1 r q
theorem zhA {pl:Sem Bool}(he:PE X o ta)(c:Cls X.K C)(hm:Meth X.K C m f)(F:zy X.prog X.w X.K X.mg X.base CX k f fd ps sp)(hr:tE k X.A)(hb:Binds X.K fd ps ds)(hd:Vals Rz ds)(hx:Passes CX X E)(ha:PA X (e::es) t)
  (hst:starEach (e::es) X.env=(false,eval e X.env)::starEach es X.env:=by rfl)(hpl:(backTo pos (starEach es X.env)).any (·.1)=false:=by rfl)
  (ht:eval (.Call (.Attribute o m apos) (e::es) [] pos) X.env=(do
   let ov <-eval o X.env
   standAt apos.atName
   let (f,first) <-holding [ov] (getMethod ov m pl)
   callWith pos f first (backTo pos (starEach (e::es) X.env)) (backToKw pos (keywordEach [] X.env))):=by rfl) :
  PE X (.Call (.Attribute o m apos) (e::es) [] pos) (zcX C m sp Rz E ta t):=by
 intro pins s σ H Q I h
 refine PySem.W.methodCall_KW (pl:=pl) (vM (he pins s σ H _ I h) fun u s1 ⟨x,H1,I1,rx,a,dx,fs,ex,ea,l,q⟩=>?_) ht
 subst ex
 obtain rfl:u=Value.ref a:=rx
 refine Nq I1 ea c hm l ?_
 refine PySem.W.callWith_K (first:=[.ref a]) (h₀:=X.base) I.ok.mod.kin hm.kp (vM (ha pos pins s1 σ H1 _ I1 q) fun us s2 ⟨vs,H2,I2,r,q2⟩=>⟨I2.Q9,?_⟩) hst hpl
 exact zgu (us:=.ref a::us) (vs:=.ref a::vs) F hr hb hd hx I2 (.cons rfl r) q2
theorem zeW {pl:Sem Bool}(he:PE X o ta)(c:Cls X.K C)(hm:Meth X.K C m f)(F:zy X.prog X.w X.K X.mg X.base CX k f fd ps sp)(hr:tE k X.A)(hb:Binds X.K fd ps ds)(hd:Vals Rz ds)(hx:Passes CX X E)
  (ht:eval (.Call (.Attribute o m apos) [] [] pos) X.env=(do
   let ov <-eval o X.env
   standAt apos.atName
   let (f,first) <-holding [ov] (getMethod ov m pl)
   callWith pos f first (backTo pos (starEach [] X.env)) (backToKw pos (keywordEach [] X.env))):=by rfl) :
  PE X (.Call (.Attribute o m apos) [] [] pos) (zcX C m sp Rz E ta zdL):=by
 intro pins s σ H Q I h
 refine PySem.W.methodCall_KW (pl:=pl) (vM (he pins s σ H _ I h) fun u s1 ⟨x,H1,I1,rx,a,dx,fs,ex,ea,l,q⟩=>?_) ht
 subst ex
 obtain rfl:u=Value.ref a:=rx
 refine Nq I1 ea c hm l ?_
 exact PySem.W.callWith_K0 (first:=[.ref a]) I1.Q9 hm.kp (zgu (us:=[.ref a]) (vs:=[.ref a]) F hr hb hd hx I1 (.cons rfl .nil) q)
structure Mk (K:Frag)(C f:Addr):Prop where
 makes:PySem.W.makesIn K C=true
 init:findIn K (.ref C) "__init__"=some (some (.ref f))
 fn:PySem.W.isFn K (.ref f)=true
 kp:PySem.W.keepIn K (.ref C)=true
theorem zjl {pins:List (Addr×Obj)}{σ:St}{H:Hp}{s:Shared}{Q:VK}{us:List Value}{vs:List V}(M:Mk X.K C f)(F:zy X.prog X.w X.K X.mg X.base CX k f fd ps sp)(hr:tE (k+1) X.A)(hb:Binds X.K fd ps ds)(hd:Vals Rz ds)
  (hx:Passes CX X E)(I:Inv X pins σ H s)(r:Vals vs us)
  (h:∀x dx,H x=none->H dx=none->dx≠x->sp (.ref x::(vs++Rz)) (upd (upd H dx (.own x)) x (.ins C dx [])) (fun v H2=>v=.non/\Q (.ref x) H2) E) :
  wpAny (model X.prog X.w) X.A (call (.ref C) us) (EP X pins σ Q) X.xe s:=by
 have hq:=h (s.heap.objs.size+1) s.heap.objs.size (I.hok.fresh (Nat.le_succ _)) (I.hok.fresh (zus _)) (zur (Nat.lt_succ_self _))
 have I2:=Inv.made (C:=C) I
 have r2:Vals (V.ref (s.heap.objs.size+1)::(vs++Rz)) (Value.ref (s.heap.objs.size+1)::(us++ds)):=.cons rfl (r.append hd)
 have hl:(Value.ref (s.heap.objs.size+1)::us++ds).length=ps.length:=by
  have e:=r2.length
  rw[F.len _ _ _ _ hq] at e
  exact e.symm
 refine wpAny_call (zjk (f:=f) I.Q9 M.makes M.init (beq_iff_eq.mp M.fn) (codeAny_mono (F.run _ X.stack _ _ ⟨Value.ref (s.heap.objs.size+1)::us,[]⟩ (Value.ref (s.heap.objs.size+1)::(us++ds)) _ _ E (hr.make C us [])
  (I2.env0.make C us []) (hb _ (Value.ref (s.heap.objs.size+1)::us) I2.Q9 hl) r2 hq) fun r s' hq'=>?_))
 cases r with
 | error e=>exact hx pins σ _ _ e s' I2 hq'
 | ok fl =>
  cases fl with
  | ret u =>
   obtain⟨v,H',I3,rv,ev,q3⟩:=I2.after hq'
   subst ev
   exact⟨rv,⟨V.ref (s.heap.objs.size+1),H',I3,rfl,q3⟩⟩
  | next=>exact False.elim hq'
  | brk=>exact False.elim hq'
  | cont=>exact False.elim hq'
theorem zll (M:Mk X.K C f)(F:zy X.prog X.w X.K X.mg X.base CX k f fd ps sp)(hr:tE (k+1) X.A)(hg:Gl X x)(hm:X.mg x=some (.ref C))(hb:Binds X.K fd ps ds)(hd:Vals Rz ds)(hx:Passes CX X E)
  (ha:PA X (e::es) t)(hdb:(x==("__debug__" : Str))=false:=by decide)(he:starEach (e::es) X.env=(false,eval e X.env)::starEach es X.env:=by rfl)(hpl:(backTo pos (starEach es X.env)).any (·.1)=false:=by rfl) :
  PE X (.Call (.Name x p) (e::es) [] pos) (zoO C sp Rz E t):=by
 intro pins s σ H Q I h
 refine wpAny_Call_Name_kw (Te I hg hm ?_ hdb)
 refine PySem.W.callWith_K (h₀:=X.base) I.ok.mod.kin M.kp (vM (ha pos pins s σ H _ I h) fun us s1 ⟨vs,H1,I1,r,q⟩=>⟨I1.Q9,?_⟩) he hpl
 exact zjl M F hr hb hd hx I1 r q
end
structure zK (N P:List Str)(sc:Scope):Prop where
 kind:sc.kind=.function
 co:sc.isCoroutine=false
 gen:sc.isGenerator=false
 nd:N.Nodup
 pre:N.take P.length=P
 par:∀x∈P,sc.names.lookup x=some .local\/sc.names.lookup x=some .cell
 znv:∀y∈sc.names,y.2≠.free
theorem zcY {kindOf:Str->Option NameKind}{x:Str}:∀{binds:List (Str×Value)} {m:Str->Option Value},(∀v,(x,v)∉binds)->bindL kindOf binds m x=m x
 | [],_,_=>rfl
 | (n,v)::r,m,h=>by
  unfold bindL
  rw[zcY fun w hw=>h w (zun _ hw)]
  split
  ·have:x≠n:=by rintro rfl;exact h v zuv
   simp[this]
  ·rfl
theorem zcZ {kindOf:Str->Option NameKind}{x:Str}:∀{binds:List (Str×Value)} {m:Str->Option Value},(∀v,(x,v)∉binds)->bindC kindOf binds m x=m x
 | [],_,_=>rfl
 | (n,v)::r,m,h=>by
  unfold bindC
  rw[zcZ fun w hw=>h w (zun _ hw)]
  split
  ·rfl
  ·have:x≠n:=by rintro rfl;exact h v zuv
   simp[this]
theorem zc0 {kindOf:Str->Option NameKind}{x:Str}{v:Value}:∀{P:List Str} {vs:List Value} {i:Nat} {m:Str->Option Value},P.Nodup->P[i]?=some x->vs[i]?=some v->kindOf x=some .local ->
  bindL kindOf (P.zip vs) m x=some v
 | [],_,_,_,_,h,_,_=>by simp at h
 | _::_,[],_,_,_,_,h,_=>by simp at h
 | p::P,w::vs,0,m,nd,h1,h2,hk=>by
  simp at h1 h2;subst h1;subst h2
  show bindL kindOf ((p,w)::P.zip vs) m p=_
  unfold bindL
  rw[zcY fun v hv=>(List.nodup_cons.mp nd).1 (zuO hv).1,if_pos hk]
  simp
 | p::P,w::vs,i+1,m,nd,h1,h2,hk=>by
  show bindL kindOf ((p,w)::P.zip vs) m x=_
  unfold bindL
  exact zc0 (i:=i) (List.nodup_cons.mp nd).2 (by simpa using h1) (by simpa using h2) hk
theorem zc1 {kindOf:Str->Option NameKind}{x:Str}{v:Value}:∀{P:List Str} {vs:List Value} {i:Nat} {m:Str->Option Value},P.Nodup->P[i]?=some x->vs[i]?=some v->kindOf x≠some .local ->
  bindC kindOf (P.zip vs) m x=some v
 | [],_,_,_,_,h,_,_=>by simp at h
 | _::_,[],_,_,_,_,h,_=>by simp at h
 | p::P,w::vs,0,m,nd,h1,h2,hk=>by
  simp at h1 h2;subst h1;subst h2
  show bindC kindOf ((p,w)::P.zip vs) m p=_
  unfold bindC
  rw[zcZ fun v hv=>(List.nodup_cons.mp nd).1 (zuO hv).1,if_neg hk]
  simp
 | p::P,w::vs,i+1,m,nd,h1,h2,hk=>by
  show bindC kindOf ((p,w)::P.zip vs) m x=_
  unfold bindC
  exact zc1 (i:=i) (List.nodup_cons.mp nd).2 (by simpa using h1) (by simpa using h2) hk
def start (N:List Str)(vs:List V):St:=vs.map some++List.replicate (N.length-vs.length) none
def K4 (CX:CXT)(P:Program)(w:World)(K:Frag)(mg:Str->Option Value)(base:Heap)(N:List Str)(qual:Str)(scope:Scope)(f:Addr)(cd:Value)(A:Around)(outer:List Env)(s:Shared)(H:Hp)(E:XK):Cx where
 prog:=P
 w:=w
 K:=K
 mg:=mg
 base:=base
 A:=A.deeper (envOfC qual scope s.heap.objs.size f cd)
 N:=N
 s₀:=s
 H₀:=H
 env:=envOfC qual scope s.heap.objs.size f cd
 outer:=outer
 stack:=envOfC qual scope s.heap.objs.size f cd::outer
 ex:=[]
 calm:=true
 fn:=fun _=>true
 pn:=[]
 xe:=fun e s'=>wpAny (model P w) (A.deeper (envOfC qual scope s.heap.objs.size f cd)) (leaving (envOfC qual scope s.heap.objs.size f cd) e) (fun _ s''=>CX outer H s E e s'') (fun e' s''=>CX outer H s E e' s'') s'
theorem zeX {sc:Scope}{n:Nat}{x:Str}(h:sc.names.lookup x=some .cell):∃c,(cellsFrom n sc.names []).lookup x=some c:=by
 have q:=PySem.W.cellsFrom_some sc.names n [] (.inl h)
 exact Option.isSome_iff_exists.mp q
theorem zc2 {CX:CXT}{P:Program}{w:World}{K:Frag}{mg:Str->Option Value}{base:Heap}{N ps:List Str}{qual:Str}{scope:Scope}{f:Addr}{cd:Value}{A:Around}{outer:List Env}{s s1:Shared}{H:Hp}{E:XK}{us:List Value}{vs:List V}
  (S:zK N ps scope)(hd:A.handled=none)(e0:zdM P w K mg base A outer s H)(hl:vs.length=ps.length)(r:Vals vs us)
  (x:InCallC s s.heap.objs.size (bindL (envOfC qual scope s.heap.objs.size f cd).kindOf (ps.zip us) fun _=>none) (cellsFrom (s.heap.objs.size+1) scope.names []) (bindC (envOfC qual scope s.heap.objs.size f cd).kindOf (ps.zip us) fun _=>none) s1) :
  Inv (K4 CX P w K mg base N qual scope f cd A outer s H E) [] (start N vs) H s1:=by
 have hpl:ps.length<=N.length:=by have:=congrArg List.length S.pre;rw[zuz] at this;omega
 obtain⟨h1,tk,rfl,hk⟩:=x.done
 have noA:∀b:Addr,b∉(K4 CX P w K mg base N qual scope f cd A outer s H E).ex:=fun b z=>absurd (show b∈([]:List Addr) from z) (by simp)
 refine⟨⟨e0.mod,S.kind,rfl,rfl,zus _,fun y z c h1 h2=>?_,fun y hy=>?_,fun y c _ h=>?_,fun _=>hd,Around.frames_deeper e0.frames,.inr ⟨rfl,rfl⟩,fun b z=>absurd z (noA b),e0.bs,e0.bsz,fun b _ _=>noA b,fun b z=>absurd z (noA b),e0.Q8,e0.frf⟩,
  rfl,e0.bare,Un.kept hk,⟨_,x.toInCall.ns,fun i y v h1 h2 h3=>?_⟩,fun y c h=>⟨_,x.cell y c h⟩,e0.hok.fresh (zus _),fun y c h=>?_,fun p hp=>absurd (show p∈([]:List (Addr×Obj)) from hp) (by simp),e0.hok.kept hk,?_⟩
 ·exact name_of_addr x.apart (PySem.mem_of_lookup h1) (PySem.mem_of_lookup h2)
 ·have hy:scope.names.lookup y=some .cell\/scope.names.lookup y=some .free:=hy
  rcases hy with hy | hy
  ·exact zeX hy
  ·exact absurd rfl (S.znv _ (PySem.mem_of_lookup hy))
 ·exact zuu (x.above y c (PySem.mem_of_lookup h))
 ·have hi:i<vs.length:=by
   unfold start at h2
   by_cases hi:i<vs.length
   ·exact hi
   ·rw[List.getElem?_append_right (by simpa using hi)] at h2
    rw[List.getElem?_replicate] at h2
    split at h2<;>cases h2
  have ha:vs[i]?=some v:=by
   unfold start at h2
   rw[zuI (by simpa using hi),zue] at h2
   cases e:vs[i]? with
   | none=>rw[e] at h2;cases h2
   | some a=>rw[e] at h2;cases h2;rfl
  obtain⟨u,hu,rv⟩:=r.get ha
  have hp:ps[i]?=some y:=by
   rw[<-S.pre,List.getElem?_take_of_lt (by omega)];exact h1
  have ndP:ps.Nodup:=by rw[<-S.pre];exact S.nd.sublist (List.take_sublist _ _)
  refine⟨u,rv,?_⟩
  rcases S.par y (zuh hp) with k | k
  ·exact .inl ⟨k,zc0 ndP hp hu k⟩
  ·obtain⟨c,e⟩:=zeX (n:=s.heap.objs.size+1) k
   refine .inr ⟨.inl k,c,e,?_⟩
   have q:=x.cell y c e
   rw[zc1 ndP hp hu (by show scope.names.lookup y≠_;rw[k];decide)] at q
   exact q
 ·exact e0.hok.fresh (zuu (x.above y c (PySem.mem_of_lookup h)))
 ·unfold start
  show _=N.length
  rw[zuk,zuc,List.length_replicate]
  omega
theorem zmM {CX:CXT}{P:Program}{w:World}{K:Frag}{mg:Str->Option Value}{base:Heap}{k:Nat}{f:Addr}{name qual:Str}{params:Arguments}{body:List Stmt}{scope:Scope}{dV kV doc pm cdv ct oc:Value}{an od:Option Addr}
  {osl:Array (Option Value)}{N ps:List Str}{sp:Sp}(lk:K.lookup f=some ⟨oc,od,.func (PySem.W.fnOf name qual params body scope dV kV doc pm an cdv ct),osl⟩)(hcd:PySem.W.codeIn K cdv qual=true)(S:zK N ps scope)
  (len:∀vs H Q E,sp vs H Q E->vs.length=ps.length)
  (hbody:∀(A:Around) (outer:List Env) (s:Shared) (H:Hp) (vs:List V) (Q:VK) (E:XK),tE k (A.deeper (envOfC qual scope s.heap.objs.size f cdv))->sp vs H Q E ->
   ∃t,PSs (K4 CX P w K mg base N qual scope f cdv A outer s H E) body t/\t { nx:=fun _ H'=>Q .non H',rt:=Q } (start N vs) H) :
  zy P w K mg base CX (k+1) f (PySem.W.fnOf name qual params body scope dV kV doc pm an cdv ct) ps sp:=by
 refine⟨len,fun A outer s H args us vs Q E hr e0 hb r hsp=>?_⟩
 have hl:=len _ _ _ _ hsp
 have KX:K.In s.heap:=e0.mod.kin.keeps fun b o e=>(e0.bs b o e).1
 have lim:s.heap.NoLimit:=e0.mod.nolimit.keeps fun b o e=>(e0.bs b o e).1
 have hkind:∀y∈ps.zip us,scope.names.lookup y.1=some .local\/(scope.names.lookup y.1=some .cell/\((cellsFrom (s.heap.objs.size+1) scope.names []).lookup y.1).isSome=true):=fun⟨n,v⟩ hy=>by
  rcases S.par n (zuO hy).1 with q | q
  ·exact .inl q
  ·exact .inr ⟨q,PySem.W.cellsFrom_some _ _ _ (.inl q)⟩
 refine codeAny_call_function hr.depth (KX _ _ lk) rfl S.co S.gen rfl (PySem.W.codeRec_of KX hcd) (hb _ _ _ _ ?_)
 refine wpAny_newFunctionEnv_cells S.kind hkind fun env he s1 x=>?_
 subst he
 refine⟨lim.keeps x.toInCall.keep,codeAny_func ?_⟩
 obtain⟨t,ht,hq⟩:=hbody A outer s H vs Q E (hr.deeper _) hsp
 have I:Inv (K4 CX P w K mg base N qual scope f cdv A outer s H E) [] (start N vs) H s1:=zc2 S hr.hd e0 hl r x
 refine wpAny_mono (ht [] s1 (start N vs) H _ I hq) (fun fl s' hs=>?_) fun e s' hs=>hs
 have fin:∀{σ':St} {H':Hp} {v:V} {u:Value},Inv (K4 CX P w K mg base N qual scope f cdv A outer s H E) [] σ' H' s'->RelV v u->Q v H'->CE outer P w H s Q u s' :=
  fun {σ' H' v u} J rv q=>⟨v,H',J.os,J.bare,J.base,J.hok,rv,q⟩
 cases fl with
 | ret u =>
  obtain⟨v,σ',H',J,rv,q⟩:=hs
  exact fin J rv q
 | next =>
  obtain⟨σ',H',J,q⟩:=hs
  exact fin (v:=V.non) (u:=Value.none) J rfl q
 | brk =>
  obtain⟨_,_,_,q⟩:=hs
  exact False.elim q
 | cont =>
  obtain⟨_,_,_,q⟩:=hs
  exact False.elim q
section
variable {X:Cx}{x:Str}{p pos:Pos}{e:Expr}{es:List Expr}{t:TA}{id T:String}{r:List V->Hp->VK->Prop}
def tCB (r:List V->Hp->VK->Prop)(t:TA):TE:=fun σ H Q=>t σ H fun vs H1=>r vs H1 Q
theorem zR (hc:Rj X (.builtin id) r)(hg:Gl X x)(hm:X.mg x=none)(hv:bootBuiltins x=some (.builtin id))(ha:PA X (e::es) t)(hn:x ≠ "__name__" := by decide)(hdb:(x==("__debug__" : Str))=false:=by decide)
  (he:starEach (e::es) X.env=(false,eval e X.env)::starEach es X.env:=by rfl)(hpl:(backTo pos (starEach es X.env)).any (·.1)=false:=by rfl):PE X (.Call (.Name x p) (e::es) [] pos) (tCB r t):=by
 intro pins s σ H Q I h
 refine wpAny_Call_Name_kw (VP I hg hm hv ?_ hn hdb)
 exact PyProof.Rows.callWith_builtin1 (vM (ha pos pins s σ H _ I h) fun us s1 ⟨vs,H1,I1,r1,q1⟩=>hc pins s1 σ H1 vs us Q I1 r1 q1) he hpl
theorem K5 (hc:Rj X (.type T) r)(hg:Gl X x)(hm:X.mg x=none)(hv:bootBuiltins x=some (.type T))(ha:PA X (e::es) t)(hn:x ≠ "__name__" := by decide)(hdb:(x==("__debug__" : Str))=false:=by decide)
  (he:starEach (e::es) X.env=(false,eval e X.env)::starEach es X.env:=by rfl)(hpl:(backTo pos (starEach es X.env)).any (·.1)=false:=by rfl):PE X (.Call (.Name x p) (e::es) [] pos) (tCB r t):=by
 intro pins s σ H Q I h
 refine wpAny_Call_Name_kw (VP I hg hm hv ?_ hn hdb)
 exact PyProof.Rows.callWith_type1 (vM (ha pos pins s σ H _ I h) fun us s1 ⟨vs,H1,I1,r1,q1⟩=>hc pins s1 σ H1 vs us Q I1 r1 q1) he hpl
end
end L2
namespace HT
open PySem PyProof.Rows
section
variable {prog:Program}{w:World}{A:Around}{E:Value->Shared->Prop}{s:Shared}
def Z8 (n d:Nat):Option Int->Nat
 | none=>d
 | some v=>if v<0 then (v+(n:Int)).toNat else min v.toNat n
theorem zeY (n d:Nat):Z8 n d none=d:=rfl
theorem Mx (n d k:Nat):Z8 n d (some (k:Int))=min k n:=by
 show(if (k:Int)<0 then ((k:Int)+(n:Int)).toNat else min (k:Int).toNat n)=min k n
 rw[if_neg (by omega),Int.toNat_natCast]
theorem znw (n d:Nat)(hd:d<=n)(o:Option Int):Z8 n d o<=n:=by
 cases o with
 | none=>exact hd
 | some v =>
  show(if v<0 then (v+(n:Int)).toNat else min v.toNat n)<=n
  by_cases hv:v<0
  ·rw[if_pos hv];omega
  ·rw[if_neg hv];exact Nat.min_le_right _ _
theorem zhB (v:Int)(n d:Nat):(if v<0 then max (v+(n:Int)) 0 else min v (n:Int))=((Z8 n d (some v):Nat):Int):=by
 show(if v<0 then max (v+(n:Int)) 0 else min v (n:Int))=(((if v<0 then (v+(n:Int)).toNat else min v.toNat n):Nat):Int)
 by_cases hv:v<0
 ·simp only[if_pos hv];omega
 ·simp only[if_neg hv];omega
theorem zgv (lo hi:Option Int)(n:Nat):Builtin.Slice.sliceAdjust lo hi 1 (n:Int)=(((Z8 n 0 lo:Nat):Int),((Z8 n n hi:Nat):Int)):=by
 have h1:¬((1:Int)<0):=by omega
 unfold Builtin.Slice.sliceAdjust
 simp only[h1,if_false]
 refine Prod.ext ?_ ?_
 ·cases lo with
  | none=>rfl
  | some v=>exact zhB v n 0
 ·cases hi with
  | none=>rfl
  | some v=>exact zhB v n n
theorem zgw (i j:Nat):Builtin.Slice.slicePlaces (i:Int) (j:Int) 1=j-i:=by
 unfold Builtin.Slice.slicePlaces
 have h1:(1:Int) > 0:=by omega
 simp only[h1,if_true,Int.ediv_one]
 split<;>omega
theorem zaZ {v:Value}{o:Option Int}{Q:Option Int->Shared->Prop}(p:IsPart v o)(h:Q o s):wpAny (model prog w) A (Builtin.Slice.slicePartIndex v) Q E s:=by
 cases p with
 | none=>exact slicePart_none h
 | int i t=>exact slicePart_int h
theorem K6 {sl:Addr}{vl vu:Value}{lo hi:Option Int}{n:Nat}{Q:Int×Int×Nat->Shared->Prop}(hs:s.heap.IsSliceOf sl vl vu .none)(pl:IsPart vl lo)(pu:IsPart vu hi)
  (h:Q (((Z8 n 0 lo:Nat):Int),1,Z8 n n hi-Z8 n 0 lo) s):wpAny (model prog w) A (Builtin.Slice.sliceApplied (.ref sl) (pure (n:Int))) Q E s:=by
 obtain⟨os,hos,hcs,hds⟩:=id hs
 unfold Builtin.Slice.sliceApplied Builtin.Slice.sliceFields
 refine wpAny_bind (wpAny_bind (wpAny_field hos hds (x:=vl) rfl (wpAny_bind (wpAny_field hos hds (x:=vu) rfl (wpAny_bind (wpAny_field hos hds (x:=.none) rfl (wpAny_pure ?_)))))))
 refine wpAny_bind (slicePart_none ?_)
 show wpAny _ _ (if ((1:Int)==0)=true then _ else _) _ _ s
 rw[if_neg (by decide)]
 refine wpAny_bind (zaZ pl (wpAny_bind (zaZ pu (wpAny_bind (wpAny_pure ?_)))))
 show wpAny _ _ (match Builtin.Slice.sliceAdjust lo hi 1 (n:Int) with | (lo,hi)=>pure (lo,(1:Int),Builtin.Slice.slicePlaces lo hi 1)) _ _ s
 rw[zgv lo hi n]
 show wpAny _ _ (pure (((Z8 n 0 lo:Nat):Int),(1:Int),Builtin.Slice.slicePlaces ((Z8 n 0 lo:Nat):Int) ((Z8 n n hi:Nat):Int) 1)) _ _ s
 rw[zgw]
 exact wpAny_pure h
theorem zjm (xs:Array Value)(i k:Nat):((List.range k).filterMap fun(m:Nat)=>xs[((i:Int)+(m:Int)*1).toNat]?).toArray=((xs.toList.drop i).take k).toArray:=by
 have e:(fun(m:Nat)=>xs[((i:Int)+(m:Int)*1).toNat]?)=fun m=>xs[i+m]?:=by
  funext m
  have:((i:Int)+(m:Int)*1).toNat=i+m:=by omega
  rw[this]
 rw[e]
 have:=pick_run xs i k
 rw[List.filterMap_map] at this
 have e2:((fun x=>xs[x]?) ∘ fun x=>i+x)=fun m=>xs[i+m]?:=rfl
 rw[e2] at this
 rw[this]
theorem Mz {t sl:Addr}{items:Array Value}{vl vu:Value}{lo hi:Option Int}{Q:Value->Shared->Prop}(ht:IsTup s.heap t items)(hs:s.heap.IsSliceOf sl vl vu .none)(pl:IsPart vl lo)(pu:IsPart vu hi)
  (hw:¬(Z8 items.size 0 lo=0/\Z8 items.size items.size hi=items.size))
  (h:Q (.ref s.heap.objs.size) { s with heap:=s.heap.push { cls:=.type "tuple", data:=.seq ((items.toList.drop (Z8 items.size 0 lo)).take (Z8 items.size items.size hi-Z8 items.size 0 lo)).toArray } })
  (hsz:items.size<=sizeLine):wpAny (model prog w) A (getItem (.ref t) (.ref sl)) Q E s:=by
 have zhC:sizeOk (.seq ((items.toList.drop (Z8 items.size 0 lo)).take (Z8 items.size items.size hi-Z8 items.size 0 lo)).toArray):=by
  show((items.toList.drop (Z8 items.size 0 lo)).take (Z8 items.size items.size hi-Z8 items.size 0 lo)).toArray.size<=sizeLine
  rw[zum,zuz,List.length_drop,Array.length_toList]
  omega
 have hj:Z8 items.size items.size hi<=items.size:=znw _ _ (zus _) hi
 obtain⟨os,hos,hcs,hds⟩:=id hs
 have hTs:s.TypeIs (.ref sl) "slice" := ⟨os,hos,hcs⟩
 unfold getItem
 try with_reducible refine wpAny_holding ?_
 first | refine wpAny_bind (wpAny_pure ?_) | skip
 refine wpAny_bind (wpAny_sequenceKey ht.typeIs (by decide) ?_)
 refine wpAny_bind (wpAny_callSpecial?_slot (name:=Str.ofString "__getitem__") ht.typeIs PyProof.Rows.slot_tuple_getitem
  (wpAny_call_entry PyProof.Rows.slot_tuple_getitem ht.typeIs entry_tuple_getitem ?_ (args_tuple_getitem _ _)))
 show wpAny _ _ (Builtin.Tuple.tupleItemsOf (.ref t)>>=_) _ _ s
 refine wpAny_bind (tupleItemsOf_ ht ?_)
 refine wpAny_bind (wpAny_typeOf hTs ?_)
 rw[if_pos (by decide)]
 refine wpAny_bind (K6 hs pl pu ?_)
 have hno:¬((((Z8 items.size 0 lo:Nat):Int)==0&&(1:Int)==1&&(Z8 items.size items.size hi-Z8 items.size 0 lo)==items.size)=true):=by
  intro q
  rw[zuD,zuD] at q
  have q1:((Z8 items.size 0 lo:Nat):Int)=0:=eq_of_beq q.1.1
  have q2:Z8 items.size items.size hi-Z8 items.size 0 lo=items.size:=eq_of_beq q.2
  exact hw ⟨by omega,by omega⟩
 show wpAny _ _ (if (((Z8 items.size 0 lo:Nat):Int)==0&&(1:Int)==1&&(Z8 items.size items.size hi-Z8 items.size 0 lo)==items.size)=true then _ else _) _ _ s
 rw[if_neg hno,zjm]
 first
  | exact wpAny_bind (m:=Builtin.Tuple.tupleExact _) (wpAny_newObj_type (wpAny_pure ⟨_,rfl,wpAny_pure h⟩) zhC)
  | exact wpAny_bind (m:=Builtin.Tuple.tupleExact _) (wpAny_newObj_type (wpAny_bind (wpAny_pure (wpAny_pure ⟨_,rfl,wpAny_pure h⟩))) zhC)
  | exact wpAny_bind (wpAny_bind (m:=Builtin.Tuple.tupleExact _) (wpAny_newObj_type (wpAny_pure (wpAny_pure ⟨_,rfl,wpAny_pure h⟩)) zhC))
  | exact wpAny_bind (wpAny_bind (m:=Builtin.Tuple.tupleExact _) (wpAny_newObj_type (wpAny_pure ⟨_,rfl,wpAny_pure h⟩) zhC))
end
end HT
namespace L2
open PySem PySem.Spec PyProof.Rows
abbrev TO:=St->Hp->(Option Int->Hp->Prop)->Prop
def PO (X:Cx)(e:Option Expr)(t:TO):Prop :=
 ∀(pins:List (Addr×Obj)) (s:Shared) (σ:St) (H:Hp) (Q:Option Int->Hp->Prop),Inv X pins σ H s->t σ H Q ->
  wpAny (model X.prog X.w) X.A (evalPart e X.env) (fun u s'=>∃o H',Inv X pins σ H' s'/\IsPart u o/\Q o H') X.xe s
def zlm:TO:=fun _ H Q=>Q none H
def zoQ (t:TE):TO:=fun σ H Q=>t σ H fun x H1=>∃i,x=.int i/\Q (some i) H1
theorem intsAre_of {ns:List Int}:∀{us:List Value},Vals (ns.map V.int) us->IntsAre us ns:=by
 induction ns with
 | nil=>intro us r;rw[List.map_nil] at r;cases r;exact .nil
 | cons n ns ih =>
  intro us r
  rw[zuA] at r
  cases r with
  | cons r1 r2 =>
   obtain⟨t,e⟩:=r1
   subst e
   exact .cons n t (ih r2)
section
variable {X:Cx}{e:Expr}{te:TE}{lo hi:Option Expr}{tl th:TO}{pos p2:Pos}
theorem zaC:PO X none zlm:=by
 intro pins s σ H Q I h
 rw[evalPart_none]
 exact wpAny_pure ⟨none,H,I,.none,h⟩
theorem Vj (h:PE X e te):PO X (some e) (zoQ te):=by
 intro pins s σ H Q I hw
 rw[evalPart_some]
 refine vM (h pins s σ H _ I hw) fun u s1 ⟨x,H1,I1,r1,q1⟩=>?_
 obtain⟨i,rfl,q⟩:=q1
 obtain⟨t,rfl⟩:=r1
 exact⟨some i,H1,I1,.int i t,q⟩
def SlR (X:Cx)(r:V->Option Int->Option Int->Hp->VK->Prop):Prop :=
 ∀(pins:List (Addr×Obj)) (s:Shared) (σ:St) (H:Hp) (x:V) (v vl vu:Value) (lo hi:Option Int) (sl:Addr) (Q:VK),Inv X pins σ H s->RelV x v->s.heap.IsSliceOf sl vl vu .none->IsPart vl lo->IsPart vu hi->r x lo hi H Q ->
  ∃T id,typeLookup (.type T) "__getitem__"=pure (some (.builtin id))/\s.TypeIs v T/\wpAny (model X.prog X.w) X.A (getItem v (.ref sl)) (EP X pins σ Q) X.xe s
def tSl (r:V->Option Int->Option Int->Hp->VK->Prop)(te:TE)(tl th:TO):TE:=fun σ H Q=>te σ H fun x H1=>tl σ H1 fun l H2=>th σ H2 fun u H3=>r x l u H3 Q
theorem Uq {r:V->Option Int->Option Int->Hp->VK->Prop}(hr:SlR X r)(he:PE X e te)(hl:PO X lo tl)(hu:PO X hi th):PE X (.Subscript e (.Slice lo hi none p2) pos) (tSl r te tl th):=by
 intro pins s σ H Q I h
 refine Subscript_ (vM (he pins s σ H _ I h) fun v s1 ⟨x,H1,I1,r1,q1⟩=>?_)
 refine wpAny_Slice (vM (hl pins s1 σ H1 _ I1 q1) fun vl s2 ⟨l,H2,I2,pl,q2⟩=>vM (hu pins s2 σ H2 _ I2 q2) fun vu s3 ⟨u,H3,I3,pu,q3⟩=>?_)
 rw[evalPart_none]
 refine wpAny_pure ?_
 have I4:Inv X pins σ H3 { s3 with heap:=s3.heap.push { cls:=.type "slice", data:=.fields #[vl,vu,.none] } }:=I3.kept (t':=s3.toks) fun b ob q=>zui _ q
 obtain⟨T,id,hT,ht,hg⟩:=hr pins { s3 with heap:=s3.heap.push { cls:=.type "slice", data:=.fields #[vl,vu,.none] } } σ H3 x v vl vu l u s3.heap.objs.size Q I4 r1 (Heap.IsSliceOf.new ..) pl pu q3
 show wpAny (model X.prog X.w) X.A (subscriptTail e (.Slice lo hi none p2) v (.ref s3.heap.objs.size)) (EP X pins σ Q) X.xe { s3 with heap:=s3.heap.push { cls:=.type "slice", data:=.fields #[vl,vu,.none] } }
 exact tail_any (ops:=[.ref s3.heap.objs.size,v]) ht hT hg (by with_unfolding_all rfl)
def Tt (xs:List V)(lo hi:Option Int):List V:=(xs.drop (HT.Z8 xs.length 0 lo)).take (HT.Z8 xs.length xs.length hi-HT.Z8 xs.length 0 lo)
theorem JD (xs:List V)(lo hi:Option Int):(Tt xs lo hi).length<=xs.length:=by
 unfold Tt
 rw[zuz,List.length_drop]
 omega
def zqM (K:Frag):V->Option Int->Option Int->Hp->VK->Prop:=fun x lo hi H Q=>∃a xs,x=.ref a/\vf K H a xs /\
 ¬(HT.Z8 xs.length 0 lo=0/\HT.Z8 xs.length xs.length hi=xs.length)/\∀p,H p=none->Q (.ref p) (upd H p (.tup (Tt xs lo hi)))
theorem zgx:SlR X (zqM X.K):=by
 intro pins s σ H x v vl vu lo hi sl Q I rx hs pl pu h
 obtain⟨a,xs,rfl,hx,hw,q⟩:=h
 cases rx
 obtain⟨its,r,ht,hz⟩:=I.tuple hx
 have hlen:its.toArray.size=xs.length:=by rw[zum];exact r.length.symm
 refine⟨"tuple", _,PyProof.Rows.slot_tuple_getitem.lookup,ht.typeIs,?_⟩
 refine HT.Mz ht hs pl pu (by rw[hlen];exact hw) ?_ (by rw[hlen];exact hz)
 rw[hlen]
 refine⟨.ref s.heap.objs.size,_,I.laid (t':=s.toks) (o:=.tup (Tt xs lo hi)) (fun b ob q=>zui _ q) (zus _) ?_,rfl,q _ (I.hok.fresh (zus _))⟩
 exact⟨zux (JD xs lo hi) hz,_,(r.drop (HT.Z8 xs.length 0 lo)).take (HT.Z8 xs.length xs.length hi-HT.Z8 xs.length 0 lo),IsTup.new _ _⟩
end
def ixN (n:Nat)(i:Int):Option Nat:=if 0<=i then (if i<n then some i.toNat else none) else if -(n:Int)<=i then some (i+n).toNat else none
def atI {α:Type}(xs:List α)(i:Int):Option α:=(ixN xs.length i).bind fun j=>xs[j]?
theorem zhD {n:Nat}{i:Int}{j:Nat}(h:ixN n i=some j):seqIndex? i n=some j/\j<n/\-(n:Int)<=i/\i<n:=by
 unfold ixN at h
 by_cases h0:0<=i
 ·rw[if_pos h0] at h
  by_cases h1:i<n
  ·rw[if_pos h1] at h
   have e:i.toNat=j:=zuG h
   exact⟨by rw[seqIndex_of h0 h1,e],by omega,by omega,h1⟩
  ·rw[if_neg h1] at h;cases h
 ·rw[if_neg h0] at h
  by_cases h1:-(n:Int)<=i
  ·rw[if_pos h1] at h
   have e:(i+n).toNat=j:=zuG h
   exact⟨by rw[seqIndex_neg (by omega) h1,e],by omega,h1,by omega⟩
  ·rw[if_neg h1] at h;cases h
theorem zdN {α:Type}{xs:List α}{i:Int}{v:α}(h:atI xs i=some v):∃j,seqIndex? i xs.length=some j/\xs[j]?=some v/\j<xs.length/\-(xs.length:Int)<=i/\i<xs.length:=by
 unfold atI at h
 cases e:ixN xs.length i with
 | none=>rw[e] at h;cases h
 | some j =>
  rw[e] at h
  obtain⟨h1,h2,h3,h4⟩:=zhD e
  exact⟨j,h1,h,h2,h3,h4⟩
theorem XH {α:Type}{xs:List α}{j:Nat}{v:α}(h:xs[j]?=some v):atI xs (j:Int)=some v:=by
 have hj:j<xs.length:=(zuf.mp h).1
 have e:ixN xs.length (j:Int)=some j:=by
  unfold ixN
  rw[if_pos (by omega),if_pos (by omega)];simp
 unfold atI;rw[e];exact h
theorem zjn {α:Type}(xs:List α)(v:α):atI (xs++[v]) (-1)=some v:=by
 have hl:(xs++[v]).length=xs.length+1:=by simp
 have e:ixN (xs++[v]).length (-1)=some xs.length:=by
  unfold ixN
  rw[hl,if_neg (by decide),if_pos (by omega)]
  congr 1
  omega
 unfold atI
 rw[e]
 show(xs++[v])[xs.length]?=some v
 simp
def zln (b:Expr):Prop:=∀o i,subscripted b false o i=operate [o,i] (getItem o i)
def IxR (X:Cx)(r:R2):Prop :=
 ∀(value slice:Expr) (pins:List (Addr×Obj)) (s:Shared) (σ:St) (H:Hp) (x y:V) (v u:Value) (Q:VK),Inv X pins σ H s->RelV x v->RelV y u->r x y H Q ->
  subscripted slice false v u=operate [v,u] (getItem v u)->wpAny (model X.prog X.w) X.A (subscriptTail value slice v u) (EP X pins σ Q) X.xe s
def MtR (X:Cx)(id:String)(r:V->List V->Hp->VK->Prop):Prop :=
 ∀(pins:List (Addr×Obj)) (s:Shared) (σ:St) (H:Hp) (x:V) (xs:List V) (v:Value) (us:List Value) (Q:VK),Inv X pins σ H s->RelV x v->Vals xs us->r x xs H Q ->
  wpAny (model X.prog X.w) X.A (call (.builtin id) (v::us)) (EP X pins σ Q) X.xe s
section
variable {X:Cx}{a b:Expr}{ta tb:TE}{pos:Pos}
theorem yO {r:R2}(hr:IxR X r)(ha:PE X a ta)(hb:PE X b tb)(hs:zln b):PE X (.Subscript a b pos) (tOp r ta tb):=by
 intro pins s σ H Q I h
 exact Subscript_ (zno ha hb I h fun v u s2 x y H2 I2 rx ry q=>hr a b pins s2 σ H2 x y v u Q I2 rx ry q (hs _ _))
def zoR (K:Frag):R2:=fun x y H Q=>∃p xs i v,x=.ref p/\y=.int i/\zB K H p xs/\atI xs i=some v/\Q v H
def zqO (K:Frag):R2:=fun x y H Q=>∃p xs i v,x=.ref p/\y=.int i/\vf K H p xs/\atI xs i=some v/\Q v H
def zqP:R2:=fun x y H Q=>∃z i c,x=.str z/\y=.int i/\z.length<=sizeLine/\atI z.cps.toList i=some c/\Q (.str ⟨#[c]⟩) H
theorem yP:IxR X (zoR X.K):=by
 intro value slice pins s σ H x y v u Q I rx ry h hs
 obtain⟨p,xs,i,z,rfl,rfl,hq,he,q⟩:=h
 cases rx
 obtain⟨t,rfl⟩:=ry
 obtain⟨its,r,pl,hz⟩:=I.list hq
 obtain⟨j,h1,h2,h3,h4,h5⟩:=zdN he
 obtain⟨w,ew,rw'⟩:=r.get h2
 have hl:=r.length
 have hn:=Tr
 have fin:EP X pins σ Q w s:=⟨z,H,I,rw',q⟩
 by_cases h0:0<=i
 ·have hj:i.toNat=j:=by
   rw[seqIndex_of h0 h5] at h1
   exact zuG h1
  exact item_listR pl.isList h0 (by omega) (by rw[hj];simpa using ew) fin hs
 ·have hj:(i+(its.toArray.size:Int)).toNat=j:=by
   rw[seqIndex_neg (by omega) h4] at h1
   rw[zum,<-hl]
   exact zuG h1
  exact subscriptTail_builtinR (x:=w) pl.isList.typeIs slot_list_getitem.lookup
   (wpAny_getItem_list_neg (Q:=fun r s'=>r=w/\EP X pins σ Q r s') pl.isList (by omega) (by rw[zum]<;>omega) (by omega) (by rw[hj];simpa using ew) ⟨rfl,fin⟩) hs
theorem Z9:IxR X (zqO X.K):=by
 intro value slice pins s σ H x y v u Q I rx ry h hs
 obtain⟨p,xs,i,z,rfl,rfl,hq,he,q⟩:=h
 cases rx
 obtain⟨t,rfl⟩:=ry
 obtain⟨its,r,pl,hz⟩:=I.tuple hq
 obtain⟨j,h1,h2,h3,h4,h5⟩:=zdN he
 obtain⟨w,ew,rw'⟩:=r.get h2
 have hl:=r.length
 have hn:=Tr
 have fin:EP X pins σ Q w s:=⟨z,H,I,rw',q⟩
 exact subscriptTail_builtinR (x:=w) pl.typeIs slot_tuple_getitem.lookup
  (getItem_tuple (j:=j) (Q:=fun r s'=>r=w/\EP X pins σ Q r s') pl (by omega) (by omega) (by rw[zum,<-hl];exact h1) (by simpa using ew) ⟨rfl,fin⟩) hs
theorem za0:IxR X zqP:=by
 intro value slice pins s σ H x y v u Q I rx ry h hs
 obtain⟨z,i,c,rfl,rfl,hz,he,q⟩:=h
 obtain⟨t,rfl⟩:=rx
 obtain⟨t',rfl⟩:=ry
 obtain⟨j,h1,h2,h3,h4,h5⟩:=zdN he
 have hl:z.cps.toList.length=z.length:=by simp[Str.length]
 rw[hl] at h1 h4 h5
 have hn:=Tr
 exact tail_any (typeIs_str s z t) slot_str_getitem.lookup (getItem_str (c:=c) (by
  have e1:decide (i < -(2^63:Int))=false:=decide_eq_false (by omega)
  have e2:decide (i >= 2^63)=false:=decide_eq_false (by omega)
  rw[e1,e2,Bool.or_false]) (by rw[h1];simpa using h2) ⟨.str ⟨#[c]⟩,H,I.tok _,⟨_,rfl⟩,q⟩) hs
theorem zgy (its:List Value)(n j:Nat)(u:Value):Obj.mapSeq (·.setIfInBounds j u) { cls:=.type "list", data:=.seq its.toArray n }={ cls:=.type "list", data:=.seq (its.set j u).toArray n }:=by
 simp[Obj.mapSeq]
theorem Inv.lst {pins:List (Addr×Obj)}{σ:St}{H:Hp}{s:Shared}{p:Addr}{xs:List V}(I:Inv X pins σ H s)(h:H p=some (.lst xs)) :
  ∃(its:List Value) (n:Nat),Vals xs its/\s.heap.get? p=some { cls:=.type "list", data:=.seq its.toArray n }/\xs.length<=sizeLine:=by
 obtain⟨z,its,n,r,e⟩:=I.hok p _ h
 exact⟨its,n,r,e,z⟩
theorem Inv.znx {pins:List (Addr×Obj)}{σ:St}{H:Hp}{s:Shared}{p:Addr}{xs ys:List V}{its its':List Value}{n n':Nat}{f:Obj->Obj}(I:Inv X pins σ H s)(h:H p=some (.lst xs))
  (ho:s.heap.get? p=some { cls:=.type "list", data:=.seq its.toArray n })(hf:f { cls:=.type "list", data:=.seq its.toArray n }={ cls:=.type "list", data:=.seq its'.toArray n' })(r:Vals ys its')(hz:ys.length<=sizeLine)(t:Nat) :
  Inv X pins σ (upd H p (.lst ys)) { s with heap:=s.heap.update p f,toks:=t }:=by
 have e:(s.heap.update p f).get? p=some { cls:=.type "list", data:=.seq its'.toArray n' }:=by
  rw[Heap.get?_update_self f ho (by rw[hf]<;>rfl),hf]
 refine I.write (x:=p) (e:=p) (by rw[h];trivial) (.inl rfl) (fun b u hb q=>(Heap.get?_update_other _ _ (Ne.symm hb)).trans q) ⟨_,e⟩ ?_
 exact⟨hz,its',n',r,e⟩
def zoS:V->V->V->Hp->(Hp->Prop)->Prop:=fun o i v H Q=>∃p xs k j,o=.ref p/\i=.int k/\H p=some (.lst xs)/\ixN xs.length k=some j/\Q (upd H p (.lst (xs.set j v)))
theorem set_list:zoF X zoS:=by
 intro pins s σ H o i v ov iv u Q I ro ri rv h
 obtain⟨p,xs,k,j,rfl,rfl,hp,hj,q⟩:=h
 cases ro
 obtain⟨t,rfl⟩:=ri
 obtain⟨its,n,r,ho,hz⟩:=I.lst hp
 obtain⟨h1,h2,h3,h4⟩:=zhD hj
 have hl:=r.length
 have hn:=Tr
 have I':Inv X pins σ (upd H p (.lst (xs.set j v))) { s with heap:=s.heap.update p (Obj.mapSeq (·.setIfInBounds j u)) } :=
  I.znx hp ho (zgy its n j u) (r.set rv j) (by rw[List.length_set];exact hz) s.toks
 by_cases h0:0<=k
 ·have hk:k.toNat=j:=by
   rw[seqIndex_of h0 h4] at h1
   exact zuG h1
  exact PySem.W.ki_setAt ho h0 (by omega) (by rw[zum,<-hl];exact h4) (by rw[hk];exact⟨_,I',q⟩)
 ·have hk:(k+(its.toArray.size:Int)).toNat=j:=by
   rw[seqIndex_neg (by omega) h3] at h1
   rw[zum,<-hl]
   exact zuG h1
  exact PySem.W.ki_setBack ho (by omega) (by rw[zum,<-hl];exact h3) (by omega) (by rw[hk];exact⟨_,I',q⟩)
theorem zdO (lo hi:Option Int)(n:Nat):(sliceBounds lo hi none n).1=((HT.Z8 n 0 lo:Nat):Int)/\(sliceBounds lo hi none n).2.1=((HT.Z8 n n hi:Nat):Int)/\(sliceBounds lo hi none n).2.2=1:=by
 refine⟨?_,?_,rfl⟩
 ·cases lo with
  | none=>simp[sliceBounds,HT.Z8]
  | some i =>
   simp only[sliceBounds,HT.Z8,Option.getD_none,show(1:Int) > 0 by decide,if_true]
   by_cases h:i<0
   ·simp only[h,if_true]<;>omega
   ·simp only[h,if_false]<;>omega
 ·cases hi with
  | none=>simp[sliceBounds,HT.Z8]
  | some i =>
   simp only[sliceBounds,HT.Z8,Option.getD_none,show(1:Int) > 0 by decide,if_true]
   by_cases h:i<0
   ·simp only[h,if_true]<;>omega
   ·simp only[h,if_false]<;>omega
theorem zca (its:List Value)(lo hi:Option Int):slicePick its.toArray lo hi none=((its.drop (HT.Z8 its.length 0 lo)).take (HT.Z8 its.length its.length hi-HT.Z8 its.length 0 lo)).toArray:=by
 obtain⟨h1,h2,h3⟩:=zdO lo hi its.toArray.size
 unfold slicePick
 rw[h1,h2,h3]
 simp only[sliceRange_one,pick_run,zum]<;>rfl
def zqQ (K:Frag):V->Option Int->Option Int->Hp->VK->Prop:=fun x lo hi H Q=>∃a xs,x=.ref a/\zB K H a xs/\∀p,H p=none->Q (.ref p) (upd H p (.lst (Tt xs lo hi)))
theorem zhE:SlR X (zqQ X.K):=by
 intro pins s σ H x v vl vu lo hi sl Q I rx hs pl pu h
 obtain⟨a,xs,rfl,hx,q⟩:=h
 cases rx
 obtain⟨its,r,ht,hz⟩:=I.list hx
 have hlen:=r.length
 refine⟨"list", _,slot_list_getitem.lookup,ht.isList.typeIs,?_⟩
 refine wpAny_getItem_list_slice ht.isList hs pl pu .none (by simp) ?_ (by rw[zum]<;>omega)
 rw[zca,<-hlen]
 refine⟨.ref s.heap.objs.size,_,I.laid (t':=s.toks) (o:=.lst (Tt xs lo hi)) (fun b ob q=>zui _ q) (zus _) ?_,rfl,q _ (I.hok.fresh (zus _))⟩
 exact⟨zux (JD xs lo hi) hz,_,0,(r.drop (HT.Z8 xs.length 0 lo)).take (HT.Z8 xs.length xs.length hi-HT.Z8 xs.length 0 lo),zuw _ rfl⟩
def v7:V->Bool
 | .non=>true
 | .bl _=>true
 | .int _=>true
 | .str _=>true
 | _=>false
def eqV:V->V->Bool
 | .non,.non=>true
 | .bl a,.bl b=>a==b
 | .bl a,.int b=>(if a then 1 else 0)==b
 | .int a,.bl b=>a==(if b then 1 else 0)
 | .int a,.int b=>a==b
 | .str a,.str b=>a==b
 | _,_=>false
theorem zjo {A:Around}{s:Shared}{y x:V}{u v:Value}(ry:RelV y u)(rx:RelV x v)(fy:v7 y=true)(fx:v7 x=true):SeqAt.EqAt A s u v (eqV y x):=by
 cases y with
 | non =>
  cases ry
  cases x with
  | non=>cases rx;exact SeqAt.EqAt.same _
  | bl b=>cases rx;exact SeqAt.EqAt.none_bool b
  | int b=>obtain⟨t,rfl⟩:=rx;exact SeqAt.EqAt.none_int b t
  | str b=>obtain⟨t,rfl⟩:=rx;exact SeqAt.EqAt.none_str b t
  | _=>exact absurd (show false=true from fx) zug
 | bl a =>
  cases ry
  cases x with
  | non=>cases rx;exact SeqAt.EqAt.bool_none a
  | bl b=>cases rx;exact SeqAt.EqAt.bool_bool a b
  | int b=>obtain⟨t,rfl⟩:=rx;exact SeqAt.EqAt.bool_int a b t
  | str b=>obtain⟨t,rfl⟩:=rx;exact SeqAt.EqAt.bool_str a b t
  | _=>exact absurd (show false=true from fx) zug
 | int a =>
  obtain⟨t',rfl⟩:=ry
  cases x with
  | non=>cases rx;exact SeqAt.EqAt.int_none a t'
  | bl b=>cases rx;exact SeqAt.EqAt.int_bool a t' b
  | int b=>obtain⟨t,rfl⟩:=rx;exact SeqAt.EqAt.int_int a t' b t
  | str b=>obtain⟨t,rfl⟩:=rx;exact SeqAt.EqAt.int_str a t' b t
  | _=>exact absurd (show false=true from fx) zug
 | str a =>
  obtain⟨t',rfl⟩:=ry
  cases x with
  | non=>cases rx;exact SeqAt.EqAt.str_none a t'
  | bl b=>cases rx;exact SeqAt.EqAt.str_bool a t' b
  | int b=>obtain⟨t,rfl⟩:=rx;exact SeqAt.EqAt.str_int a t' b t
  | str b=>obtain⟨t,rfl⟩:=rx;exact SeqAt.EqAt.str_str a t' b t
  | _=>exact absurd (show false=true from fx) zug
 | _=>exact absurd (show false=true from fy) zug
def eqU (x:V)(u:Value):Bool:=match u with
 | .none=>eqV .non x
 | .bool b=>eqV (.bl b) x
 | .int i _=>eqV (.int i) x
 | .str z _=>eqV (.str z) x
 | _=>false
theorem zdP {x y:V}{u:Value}(r:RelV y u)(f:v7 y=true):eqU x u=eqV y x:=by
 cases y with
 | non=>cases r;rfl
 | bl b=>cases r;rfl
 | int i=>obtain⟨t,rfl⟩:=r;rfl
 | str z=>obtain⟨t,rfl⟩:=r;rfl
 | _=>exact absurd (show false=true from f) zug
theorem MF {x:V}:∀{xs:List V} {us:List Value},Vals xs us->xs.all v7=true->us.any (eqU x)=xs.any fun y=>eqV y x
 | _,_,.nil,_=>rfl
 | y::xs,u::us,.cons r t,f=>by
  rw[List.all_cons,zuD] at f
  rw[List.any_cons,List.any_cons,zdP r f.1,MF t f.2]
theorem Ur {A:Around}{s:Shared}{x:V}{v:Value}(rx:RelV x v)(fx:v7 x=true):∀{xs:List V} {us:List Value},Vals xs us->xs.all v7=true->∀u∈us,SeqAt.EqAt A s u v (eqU x u)
 | _,_,.nil,_=>fun u hu=>by cases hu
 | y::xs,u::us,.cons r t,f=>fun u' hu=>by
  rw[List.all_cons,zuD] at f
  rcases List.mem_cons.mp hu with rfl | hu
  ·rw[zdP r f.1];exact zjo r rx f.1 fx
  ·exact Ur rx fx t f.2 u' hu
def inV (x:V)(xs:List V):Bool:=xs.any fun y=>eqV y x
def rIn (K:Frag)(neg:Bool):R2:=fun x y H Q=>∃p xs,y=.ref p/\(zB K H p xs\/vf K H p xs)/\v7 x=true/\xs.all v7=true/\Q (.bl (if neg then !inV x xs else inV x xs)) H
theorem Yx:Uj X (compareOp .In) (rIn X.K false):=by
 intro pins s σ H x y v u Q I rx ry h
 obtain⟨p,xs,rfl,hq,fx,fs,q⟩:=h
 cases ry
 rcases hq with hq | hq
 ·obtain⟨its,r,pl,hz⟩:=I.list hq
  refine SeqAt.in_listAt (eqU x) pl.isList (fun w hw=>Ur rx fx r fs w (by simpa using hw)) ⟨.bl _,H,I,rfl,?_⟩
  rw[show its.toArray.any (eqU x)=its.any (eqU x) by simp,MF r fs]
  exact q
 ·obtain⟨its,r,pl,hz⟩:=I.tuple hq
  refine SeqAt.in_tupleAt (eqU x) pl (fun w hw=>Ur rx fx r fs w (by simpa using hw)) ⟨.bl _,H,I,rfl,?_⟩
  rw[show its.toArray.any (eqU x)=its.any (eqU x) by simp,MF r fs]
  exact q
theorem MJ:Uj X (compareOp .NotIn) (rIn X.K true):=by
 intro pins s σ H x y v u Q I rx ry h
 obtain⟨p,xs,rfl,hq,fx,fs,q⟩:=h
 cases ry
 rcases hq with hq | hq
 ·obtain⟨its,r,pl,hz⟩:=I.list hq
  refine SeqAt.notIn_listAt (eqU x) pl.isList (fun w hw=>Ur rx fx r fs w (by simpa using hw)) ⟨.bl _,H,I,rfl,?_⟩
  rw[show its.toArray.any (eqU x)=its.any (eqU x) by simp,MF r fs]
  exact q
 ·obtain⟨its,r,pl,hz⟩:=I.tuple hq
  refine SeqAt.notIn_tupleAt (eqU x) pl (fun w hw=>Ur rx fx r fs w (by simpa using hw)) ⟨.bl _,H,I,rfl,?_⟩
  rw[show its.toArray.any (eqU x)=its.any (eqU x) by simp,MF r fs]
  exact q
theorem zO:Rj X (.builtin "len") (fun xs H Q=>∃p ys,xs=[.ref p]/\(zB X.K H p ys\/vf X.K H p ys)/\Q (.int ys.length) H):=by
 intro pins s σ H xs us Q I r h
 obtain⟨p,ys,rfl,hq,q⟩:=h
 obtain⟨u,rfl,rx⟩:=vals1 r
 cases rx
 have hn:=Tr
 rcases hq with hq | hq
 ·obtain⟨its,r',pl,hz⟩:=I.list hq
  have hlen:=r'.length
  exact Calls.call_len_list pl.isList (by simp only[zum]<;>omega) ⟨.int ys.length,H,I.tok _,⟨s.toks+1,by rw[zum,hlen]⟩,q⟩
 ·obtain⟨its,r',pl,hz⟩:=I.tuple hq
  have hlen:=r'.length
  exact len_tuple pl (by simp only[zum]<;>omega) ⟨.int ys.length,H,I.tok _,⟨s.toks+1,by rw[zum,hlen]⟩,q⟩
theorem zdQ:Rj X (.builtin "len") (fun xs H Q=>∃z,xs=[.str z]/\z.length<=sizeLine/\Q (.int z.length) H):=by
 intro pins s σ H xs us Q I r h
 obtain⟨z,rfl,hz,q⟩:=h
 obtain⟨u,rfl,t,rfl⟩:=vals1 r
 have hn:=Tr
 exact len_str (by omega) ⟨.int z.length,H,I.tok _,⟨_,rfl⟩,q⟩
theorem MK:Rj X (.type "list") (fun xs H Q=>∃p ys,xs=[.ref p]/\(zB X.K H p ys\/vf X.K H p ys)/\∀l,H l=none->Q (.ref l) (upd H l (.lst ys))):=by
 intro pins s σ H xs us Q I r h
 obtain⟨p,ys,rfl,hq,q⟩:=h
 obtain⟨u,rfl,rx⟩:=vals1 r
 cases rx
 have fin:∀(its:List Value),Vals ys its->ys.length<=sizeLine->∀(h':Heap) (c':Nat),(∀b o',s.heap.get? b=some o'->h'.get? b=some o') ->
   h'.get? s.heap.objs.size=some { cls:=.type "list", dict:=none,data:=.seq its.toArray c',slots:=#[] }->EP X pins σ Q (.ref s.heap.objs.size) { s with heap:=h' }:=fun its r' hz h' c' kp e =>
  ⟨.ref s.heap.objs.size,_,I.laid (t':=s.toks) kp (zus _) (show vG X.prog X.w _ h' _ (.lst ys) from ⟨hz,its,c',r',e⟩),rfl,q _ (I.hok.fresh (zus _))⟩
 rcases hq with hq | hq
 ·obtain⟨its,r',pl,hz⟩:=I.list hq
  have hlen:=r'.length
  obtain⟨o,ho,hc,n,hd⟩:=pl.isList
  exact call_list_seq p (.inl rfl) ho hc hd (fun h' c' kp e=>fin its r' hz h' c' kp e) (by simp only[zum]<;>omega)
 ·obtain⟨its,r',pl,hz⟩:=I.tuple hq
  have hlen:=r'.length
  obtain⟨o,ho,hc,n,hd⟩:=pl
  exact call_list_seq p (.inr rfl) ho hc hd (fun h' c' kp e=>fin its r' hz h' c' kp e) (by simp only[zum]<;>omega)
def tyV (K:Frag)(T:String)(x:V)(H:Hp):Prop:=match x with
 | .str _=>T="str"
 | .int _=>T="int"
 | .ref p=>(T="list" /\ ∃xs,zB K H p xs)\/(T="tuple" /\ ∃o,K.lookup p=some o/\o.cls=.type "tuple" /\ o.dict=none) \/
   (T="dict" /\ ((∃kvs,H p=some (.dK kvs))\/∃kvs,H p=some (.dT kvs)))\/(T="set" /\ ∃S n,H p=some (.set S n))
 | _=>False
theorem zny {pins:List (Addr×Obj)}{σ:St}{H:Hp}{s:Shared}{T:String}{x:V}{v:Value}(I:Inv X pins σ H s)(r:RelV x v)(ty:tyV X.K T x H) :
  s.TypeIs v T/\∀a,v=.ref a->∃ob,s.heap.get? a=some ob/\ob.dict=none:=by
 cases x with
 | str z =>
  obtain⟨t,rfl⟩:=r
  cases (show T="str" from ty)
  exact⟨typeIs_str s z t,fun _ e=>nomatch e⟩
 | int i =>
  obtain⟨t,rfl⟩:=r
  cases (show T="int" from ty)
  exact⟨typeIs_int s i t,fun _ e=>nomatch e⟩
 | ref p =>
  cases r
  rcases ty with ⟨rfl,xs,hq⟩ | ⟨rfl,o,hk,hc,hd⟩ | ⟨rfl,hk⟩ | ⟨rfl,S,n,hk⟩
  ·obtain⟨its,_,pl,_⟩:=I.list hq
   refine⟨pl.isList.typeIs,fun a e=>?_⟩
   cases e
   obtain⟨o,n,e,c,hd,_⟩:=pl
   exact⟨o,e,hd⟩
  ·refine⟨⟨o,I.Q9 p o hk,hc⟩,fun a e=>?_⟩
   cases e
   exact⟨o,I.Q9 _ o hk,hd⟩
  ·have z:∃o,s.heap.get? p=some o/\o.ExactDict:=by
    rcases hk with ⟨kvs,hk⟩ | ⟨kvs,hk⟩
    ·obtain⟨_,_,_,_,o,_,_,e,ex,_⟩:=I.hok p _ hk
     exact⟨o,e,ex⟩
    ·obtain⟨_,_,_,_,o,_,_,e,ex,_⟩:=I.hok p _ hk
     exact⟨o,e,ex⟩
   obtain⟨o,e,ex⟩:=z
   refine⟨⟨o,e,ex.1⟩,fun a e2=>?_⟩
   cases e2
   exact⟨o,e,ex.2.1⟩
  ·obtain⟨o,_,_,_,e,ex,_⟩:=I.hok p _ hk
   refine⟨⟨o,e,ex.1⟩,fun a e2=>?_⟩
   cases e2
   exact⟨o,e,ex.2.1⟩
 | _=>exact False.elim ty
def tBM (K:Frag)(T:String)(r:V->List V->Hp->VK->Prop)(to:TE)(t:TA):TE:=fun σ H Q=>to σ H fun x H1=>tyV K T x H1/\t σ H1 fun xs H2=>r x xs H2 Q
variable {o e:Expr}{es:List Expr}{to:TE}{t:TA}{name:Str}{apos cpos:Pos}{T id:String}{r:V->List V->Hp->VK->Prop}
theorem Zw (pa:PlainAttrs T)(slot:Slot T name id)(hty:typeOf (.builtin id)=pure (.type "method_descriptor"))(hm:MtR X id r)(ho:PE X o to)(ha:PA X (e::es) t)
  (hbase:attributeBase o name X.env (eval o X.env)=eval o X.env:=by rfl)
  (hfew:((backTo cpos (starEach (e::es) X.env)).all (fun x=>!x.1)&&(backToKw cpos (keywordEach [] X.env)).all (fun x=>x.1.isSome)
   && decide ((e::es).length+([]:List Keyword).length+(if ([]:List Keyword).isEmpty then 0 else 1)<30))=true:=by rfl)
  (hline:(apos.endLine==cpos.line)=true:=by rfl)(hs:starEach (e::es) X.env=(false,eval e X.env)::starEach es X.env:=by rfl)(hplain:(backTo cpos (starEach es X.env)).any (·.1)=false:=by rfl) :
  PE X (.Call (.Attribute o name apos) (e::es) [] cpos) (tBM X.K T r to t):=by
 intro pins s σ H Q I h
 refine wpAny_Call_method_late hbase hfew hline rfl (vM (ho pins s σ H _ I h) fun v s1 ⟨x,H1,I1,r1,ty,q1⟩=>?_)
 obtain⟨h1,h2⟩:=zny I1 r1 ty
 refine⟨T,id,pa,slot,hty,h1,h2,?_⟩
 have hA:=ha cpos pins s1 σ H1 _ I1 q1
 rw[hs] at hA ⊢
 refine Calls.callWith_builtin (by show(false||(backTo cpos (starEach es X.env)).any (·.1))=false;rw[hplain]<;>rfl) (Calls.evalArgs_plain ?_)
 exact vM hA fun us s2 ⟨vs,H2,I2,r2,q2⟩=>hm pins s2 σ H2 x vs v us Q I2 r1 r2 q2
end
def MtM (X:Cx)(id:String)(r:V->List V->Hp->VK->Prop):Prop :=
 ∀(pins:List (Addr×Obj)) (s:Shared) (σ:St) (H:Hp) (x:V) (xs:List V) (v:Value) (us:List Value) (Q:VK),Inv X pins σ H s->RelV x v->Vals xs us->r x xs H Q ->
  wpAny (model X.prog X.w) X.A (call (.builtin id) (v::us)) (EP X pins σ Q) X.xe s
theorem Vals.one:∀{x:V} {us:List Value},Vals [x] us->∃u,us=[u]/\RelV x u
 | _,_,.cons r .nil=>⟨_,rfl,r⟩
theorem Vals.two:∀{x y:V} {us:List Value},Vals [x,y] us->∃u v,us=[u,v]/\RelV x u/\RelV y v
 | _,_,_,.cons r (.cons q .nil)=>⟨_,_,rfl,r,q⟩
section
variable {X:Cx}{pins:List (Addr×Obj)}{σ:St}{H:Hp}{s:Shared}{l b:Addr}{xs ys zs:List V}
theorem Inv.zlo {its its':List Value}{n:Nat}{f:Array Value->Array Value}{t':Nat}(I:Inv X pins σ H s)(hH:H l=some (.lst xs))
  (e:s.heap.get? l=some { cls:=.type "list", data:=.seq its.toArray n })(hf:f its.toArray=its'.toArray)(hv:Vals ys its')(hz:ys.length<=sizeLine) :
  Inv X pins σ (upd H l (.lst ys)) { s with heap:=s.heap.update l (Obj.mapSeq f),toks:=t' }:=by
 have q:=PySem.IsL.update e f
 rw[hf] at q
 refine I.write (x:=l) (e:=l) (by rw[hH];exact trivial) (.inl rfl) (fun b' u hb hu=>(Heap.get?_update_other s.heap (Obj.mapSeq f) (Ne.symm hb)).trans hu) ⟨_,q⟩ ?_
 exact⟨hz,its',_,hv,q⟩
theorem Inv.fresh (I:Inv X pins σ H s):H s.heap.objs.size=none:=I.hok.fresh (zus _)
theorem Inv.zjp (I:Inv X pins σ H s)(hH:H l=some (.lst xs)):xs.length<=sizeLine/\∃(its:List Value) (n:Nat),Vals xs its/\xs.length=its.length/\s.heap.get? l=some { cls:=.type "list", data:=.seq its.toArray n }:=by
 obtain⟨z,its,n,r,e⟩:=I.hok l _ hH
 exact⟨z,its,n,r,r.length,e⟩
theorem zeZ {n:Nat}(h:n<=sizeLine):Builtin.List.listTooLong n=false:=by
 unfold Builtin.List.listTooLong
 exact decide_eq_false (by omega)
end
section
variable {X:Cx}
def zlp:V->List V->Hp->VK->Prop:=fun x vs H Q=>∃l xs y,x=.ref l/\vs=[y]/\H l=some (.lst xs)/\xs.length<sizeLine/\Q .non (upd H l (.lst (xs++[y])))
theorem vQ:MtM X "list.append" zlp:=by
 intro pins s σ H x vs v us Q I rx rv h
 obtain⟨l,xs,y,rfl,rfl,hH,hz,q⟩:=h
 cases rx
 obtain⟨u,rfl,ru⟩:=rv.one
 obtain⟨z,its,n,r,hl,e⟩:=I.zjp hH
 refine call_meets F.slot_list_append ⟨_,e,rfl⟩ F.entry_list_append (F.args_list_append_2 _ _) (PySem.list_append l its.toArray n u (by rw[zum];omega)) ⟨e,?_⟩
 refine⟨.non,_,I.zlo (its':=its++[u]) hH e (by simp) (r.append (.cons ru .nil)) ?_,rfl,q⟩
 rw[zuk,zuJ]
 omega
def zlq:V->List V->Hp->VK->Prop:=fun x vs H Q=>∃l b xs zs,x=.ref l/\vs=[.ref b]/\H l=some (.lst xs)/\H b=some (.lst zs)/\xs.length+zs.length<=sizeLine/\Q .non (upd H l (.lst (xs++zs)))
theorem ziv:MtM X "list.extend" zlq:=by
 intro pins s σ H x vs v us Q I rx rv h
 obtain⟨l,b,xs,zs,rfl,rfl,hH,hB,hz,q⟩:=h
 cases rx
 obtain⟨u,rfl,ru⟩:=rv.one
 cases ru
 obtain⟨z,its,n,r,hl,e⟩:=I.zjp hH
 obtain⟨z2,its2,n2,r2,hl2,e2⟩:=I.zjp hB
 have hsz:its.toArray.size+its2.toArray.size<=sizeLine:=by rw[zum,zum];omega
 have zjq:¬(!its.toArray.isEmpty&&Builtin.List.listTooLong (its.toArray.size+its2.toArray.size))=true:=by
  rw[zeZ hsz,Bool.and_false]
  exact zug
 refine call_meets F.slot_list_extend ⟨_,e,rfl⟩ F.entry_list_extend (F.args_list_extend_2 _ _)
  (AutoSeq1.list_extend_list_list_0 l its.toArray n b its2.toArray n2 zjq (by rw[zum];omega) (by omega)) ⟨e,e2,?_⟩
 refine⟨.non,_,I.zlo (its':=its++its2) hH e (by simp) (r.append r2) ?_,rfl,q⟩
 rw[zuk]
 omega
end
end L2
namespace Att
open PySem PySem.W PySem.Calls PyProof.Rows
theorem zae {P:Params}{h:Heap}:∀(ns:List Int) (vs:List Value),WellAll P h vs (ns.map WData.int)->IntsAre vs ns:=by
 intro ns
 induction ns with
 | nil =>
  intro vs w
  rw[List.map_nil] at w
  cases w
  exact .nil
 | cons n ns ih =>
  intro vs w
  rw[zuA] at w
  cases w with
  | cons a b =>
   cases a
   exact .cons _ _ (ih _ b)
theorem ziw {l:OpenLaw}{n:Nat}(hn:l.most=some n){P:Params}{h:Heap}{args:List WData}{vals:List Value}
  (hpre:l.row.toRowW.claim.pre args=true)(hwl:WellAll P h vals args) :
  ∃a vs ns,vals=[Value.ref a]/\args=[WData.list (ns.map WData.int)]/\h.get? a=some { cls:=.type "list", data:=.seq vs.toArray }/\IntsAre vs ns/\ns.length<=n:=by
 have hsh:WShape.hasAll [] args [.list .int]=true:=(pre_splitW hpre).1
 have hc:l.pre.holds [] { args:=args }=true:=(pre_splitW hpre).2
 obtain⟨d,r,rfl,h1,h2⟩:=hasAllW_cons hsh
 obtain rfl:=hasAllW_nil h2
 obtain⟨xs,rfl,h3⟩:=hasW_list h1
 obtain⟨ns,rfl⟩:=items_int h3
 have hlen:ns.length<=n:=by
  unfold OpenLaw.pre at hc
  have h4:(WTm.not (.lt (.lit (.int (n:Int))) (.len (.arg 0)))).holds [] { args:=[.list (ns.map .int)] }=true:=by
   have h4:=(holds_andW hc).1
   rw[hn] at h4
   exact h4
  have h5:=condW_of h4 (w_not (w_lt w_lit (w_len_list (w_arg rfl))))
  rw[zuc] at h5
  refine Nat.le_of_not_lt fun q=>?_
  have q':(n:Int)<((ns.length:Nat):Int):=by omega
  first
   | (rw[decide_eq_true q'] at h5;exact absurd h5 (by decide))
   | (simp at h5;omega)
 cases hwl with
 | cons w1 w2 =>
  cases w2
  cases w1 with
  | list ho hall=>exact⟨_,_,ns,rfl,rfl,ho,zae ns _ hall,hlen⟩
theorem zix (l:OpenLaw)(args:List WData):l.row.toRowW.claim.post args (.bool true) args=true :=
 postW_of (r:=l.row.toRowW) (X:=(true==true))
  (show WShape.has [] (.bool true) .bool=true by first | rfl | decide | simp[WShape.has,WShape.arms,WShape.armsAll])
  (show(WTm.eq .res (.lit (.bool true))).value [] { args:=args,res:=some (.bool true),after:=args }=some (.bool (true==true)) from w_eq_bool (w_res rfl) w_lit) rfl
theorem ze0 {l:OpenLaw}{n:Nat}{q:Program}{loose:List Str}{XP:(Str->Option Value)->Heap->Prop}{YP:World->Heap->Prop}{d:DefRec}
  (hn:l.most=some n)(hdf:d.params.defaults=[])
  (call:∀(w:World) (s₀ s₁:Shared) (mg mb:Str->Option Value) (fa:Addr) (o:Obj) (pm cd doc:Value) (a:Addr) (vs:List Value) (ns:List Int),
   Ground q loose [] XP w s₀ mg mb s₁.heap->YP w s₁.heap ->
   s₁.heap.get? fa=some o->o.data=.func (docDef d.name d.params d.body d.scope pm cd doc)->s₁.heap.CodeRec cd d.name->mg d.name=some (.ref fa) ->
   s₁.heap.get? a=some { cls:=.type "list", data:=.seq vs.toArray }->IntsAre vs ns->ns.length<=n->s₁.gens=#[] ->
   codeAny (model l.prog w) callerA (.call (.ref fa) ⟨[.ref a],[]⟩) (fun r s'=>r=.ok (.ret (.bool true))/\OldK s₁.heap s'.heap/\s'.os=s₁.os/\AllBare s'.gens) s₁) :
  WalkO q loose XP YP l.row.toRowW d [] (fun f vs=>PySem.call f vs):=by
 intro w s₀ s₁ mg mb G Y fa o pm cd doc dV kV ho hd hcd hD hmg hg args vals as hpre hlay hrd hwl hlo
 obtain rfl:dV=.none:=Dflts.none hD hdf
 obtain rfl:kV=.none:=Dflts.noKw hD
 obtain⟨a,vs,ns,rfl,rfl,hobj,hints,hlen⟩:=ziw hn hpre hwl
 refine enter_call (codeAny_mono (call w s₀ s₁ mg mb fa o pm cd doc a vs ns G Y ho (fd_plain hd) hcd hmg hobj hints hlen hg) fun r s' hq=>?_)
 obtain⟨rfl,h2,h3,h4⟩:=hq
 exact⟨.inl ⟨.bool true,.bool true,[],rfl,fun _=>rfl,.bool true,zix l _,fun _=>⟨List.Pairwise.nil,fun _ hm=>(nomatch hm)⟩⟩,h2,h3,h4⟩
end Att
namespace L2
open PySem PySem.Spec PyProof.Rows
theorem zc5:∀{vs:List Value} {ns:List Int},IntsAre vs ns->Vals (ns.map V.int) vs
 | _,_,.nil=>.nil
 | _,_,.cons n t h=>.cons ⟨t,rfl⟩ (zc5 h)
def Only (H:Hp):Prop:=∀b,H b=none\/∃o xs,H b=some (.frz o (.lst xs))
theorem zjr {P:Program}{w:World}{K:Frag}{mg mb:Str->Option Value}{CX:CXT}{k:Nat}{fa a:Addr}{fd:FuncData}{x:Str}{sp:Sp}{s₁:Shared}{vs:List Value}{ns:List Int}
  (KX:K.In s₁.heap)(hns:s₁.heap.Ns mainGlobals mg)(hb:s₁.heap.Ns builtinsNs mb)(hbb:∀x:Str,x ≠ "__name__" -> mb x=bootBuiltins x)(hlim:s₁.heap.NoLimit)(hg:s₁.gens=#[])
  (ha:s₁.heap.get? a=some { cls:=.type "list", data:=.seq vs.toArray })(hi:IntsAre vs ns)(hl:ns.length<=sizeLine)(hr:tE k callerA)
  (F:∀base:Heap,K.In base->base.Ns mainGlobals mg->zy P w K mg base CX k fa fd [x] sp)(hbind:∀(s:Shared) (u:Value),BindsTo s fd ⟨[u],[]⟩ [(x,u)])
  (hsp:∀H:Hp,Only H->zB K H a (ns.map V.int)->sp [.ref a] H (fun v _=>v=.bl true) fun _ _ _=>False)
  (hCX:∀H e s',CX [] H s₁ (fun _ _ _=>False) e s'->False) :
  codeAny (model P w) callerA (.call (.ref fa) ⟨[.ref a],[]⟩) (fun r s'=>r=.ok (.ret (.bool true))/\OldK s₁.heap s'.heap/\s'.os=s₁.os/\AllBare s'.gens) s₁:=by
 have rv:=zc5 hi
 have lenV:=hi.length
 have core:∀H:Hp,Only H->zB K H a (ns.map V.int)->Rh P w H s₁.heap->(∀b,H b≠none->b=a)->(H a≠none->K.lookup a=none) ->
   codeAny (model P w) callerA (.call (.ref fa) ⟨[.ref a],[]⟩) (fun r s'=>r=.ok (.ret (.bool true))/\OldK s₁.heap s'.heap/\s'.os=s₁.os/\AllBare s'.gens) s₁:=by
  intro H hO hS hok hA hK
  have zhF:∀{b:Addr} {o:Obj},s₁.heap.get? b=some o->H b=none->(zdF s₁.heap H).get? b=some o:=fun e n=>zja e n
  have noA:∀{b:Addr} {o:Obj} {es:Array DictEntry} {ep:Nat},s₁.heap.get? b=some o->o.data=.dict es ep->H b=none:=fun {b o es ep} e d=>by
   cases q:H b with
   | none=>rfl
   | some u =>
    have e':b=a:=hA b (by rw[q];simp)
    subst e'
    rw[ha] at e;cases e
    have d':Data.seq vs.toArray _=Data.dict es ep:=d
    cases d'
  have nsK:∀{b:Addr} {m:Str->Option Value},s₁.heap.Ns b m->(zdF s₁.heap H).Ns b m:=fun {b m} ⟨o,es,ep,e,d,r⟩=>⟨o,es,ep,zhF e (noA e d),d,r⟩
  have hKb:K.In (zdF s₁.heap H):=fun b o e=>zhF (KX b o e) (by
   cases q:H b with
   | none=>rfl
   | some u =>
    have e':b=a:=hA b (by rw[q];simp)
    subst e'
    rw[hK (by rw[q];simp)] at e;cases e)
  have hM:Mod K mg (zdF s₁.heap H):=⟨hKb,nsK hns,⟨mb,nsK hb,hbb⟩,let ⟨mc,h1,h2⟩:=hlim;⟨mc,nsK h1,h2⟩⟩
  have e0:zdM P w K mg (zdF s₁.heap H) callerA [] s₁ H:=⟨rfl,hM,fun b o e=>zlf e,Nat.le_of_eq (zim _ _),trivial,fun b hb=>absurd (show b∈([]:List Addr) from hb) (by simp),hok,.of_eq hg⟩
  refine codeAny_mono ((F _ hKb (nsK hns)).run callerA [] s₁ H ⟨[.ref a],[]⟩ [.ref a] [.ref a] _ _ hr e0 (hbind s₁ (.ref a)) (.cons rfl .nil) (hsp H hO hS)) fun r s' h=>?_
  cases r with
  | error e=>exact(hCX H e s' h).elim
  | ok fl =>
   cases fl with
   | next=>exact False.elim h
   | brk=>exact False.elim h
   | cont=>exact False.elim h
   | ret u =>
    obtain⟨v,H',os,bare,un,hok',r',q⟩:=h
    have q':v=.bl true:=q
    subst q'
    obtain rfl:u=Value.bool true:=r'
    refine⟨rfl,OldK.of_keep fun b o e=>?_,os,bare⟩
    cases q:H b with
    | none=>exact un.keep b o e q (by intro z;exact absurd (show b∈([]:List Addr) from z) (by simp)) (by simp)
    | some u =>
     rcases hO b with z | ⟨ob,xs,z⟩
     ·rw[q] at z;cases z
     ·have z2:=un.Mp b ob _ z
      obtain⟨e1,_⟩:=hok b _ z
      obtain⟨e2,_⟩:=hok' b _ z2
      rw[e] at e1;cases e1
      exact e2
 cases hk:K.lookup a with
 | some o =>
  have e:=KX a o hk
  rw[ha] at e
  cases e
  refine core (fun _=>none) (fun _=>.inl rfl) (.inr ⟨_,vs.toArray,_,hk,rfl,rfl,rfl,by rw[zum,lenV];exact hl,by simpa using rv⟩) (fun b u z=>by have z':(none:Option HO)=some u:=z;cases z') (fun b z=>absurd rfl z) fun z=>absurd rfl z
 | none =>
  refine core (fun b=>if b=a then some (.frz { cls:=.type "list", data:=.seq vs.toArray } (.lst (ns.map V.int))) else none) (fun b=>?_) (.inl (.inr ⟨{ cls:=.type "list", data:=.seq vs.toArray },if_pos rfl⟩)) (fun b u z=>?_) (fun b z=>?_) fun _=>hk
  ·by_cases hb:b=a
   ·exact .inr ⟨_,_,if_pos hb⟩
   ·exact .inl (if_neg hb)
  ·by_cases hb:b=a
   ·have z':=(if_pos hb).symm.trans z
    cases z'
    subst hb
    exact⟨ha,by rw[zuc];exact hl,vs,_,rv,ha⟩
   ·have z':=(if_neg hb).symm.trans z
    cases z'
  ·by_cases hb:b=a
   ·exact hb
   ·exact absurd (if_neg hb) z
abbrev KOf {K:Frag}{h:Heap}(_:K.In h):Frag:=K
theorem zlr {l:PySem.W.OpenLaw}{n k:Nat}{q:Program}{loose:List Str}{XP:(Str->Option Value)->Heap->Prop}{YP:World->Heap->Prop}{d:DefRec}{K:Params->Frag}{CX:World->CXT}{sp:World->Sp}{x:Str}
  (hn:l.most=some n)(hn2:n<=sizeLine)(hdf:d.params.defaults=[])(hr:tE k callerA)
  (hY:∀(w:World) (h:Heap),YP w h->(K w.params).In h)
  (F:∀(w:World) (mg:Str->Option Value) (fa:Addr) (h:Heap),(K w.params).In h->h.Ns mainGlobals mg->mg d.name=some (.ref fa) ->
   ∃fd:FuncData,(∀(s:Shared) (u:Value),BindsTo s fd ⟨[u],[]⟩ [(x,u)]) /\
    ∀base:Heap,(K w.params).In base->base.Ns mainGlobals mg->zy l.prog w (K w.params) mg base (CX w) k fa fd [x] (sp w))
  (hsp:∀(w:World) (H:Hp) (a:Addr) (ns:List Int),ns.length<=n->Only H->zB (K w.params) H a (ns.map V.int)->sp w [.ref a] H (fun v _=>v=.bl true) fun _ _ _=>False)
  (hCX:∀(w:World) (H:Hp) (s:Shared) (e:Value) (s':Shared),CX w [] H s (fun _ _ _=>False) e s'->False) :
  PySem.W.WalkO q loose XP YP l.row.toRowW d [] (fun f vs=>PySem.call f vs):=by
 refine Att.ze0 hn hdf fun w s₀ s₁ mg mb fa o pm cd doc a vs ns G Y ho hd hcd hmg hobj hints hlen hg=>?_
 have KX:=hY w _ Y
 obtain⟨fd,hb,hF⟩:=F w mg fa _ KX G.T.g hmg
 exact zjr KX G.T.g G.T.b G.T.builtins G.T.nolimit hg hobj hints (zux hlen hn2) hr hF hb (fun H hO hS=>hsp w H a ns hlen hO hS) fun H e s'=>hCX w H s₁ e s'
theorem zjs {l:PySem.W.OpenLaw}{n k:Nat}{q:Program}{loose:List Str}{XP:(Str->Option Value)->Heap->Prop}{YP:World->Heap->Prop}{d:DefRec}{K:Params->Frag}{CX:CXT}{sp:Frag->Sp}{x:Str}
  (hn:l.most=some n)(hn2:n<=sizeLine)(hdf:d.params.defaults=[])(hr:tE k callerA)
  (hY:∀(w:World) (h:Heap),YP w h->(K w.params).In h)
  (F:∀(w:World) (mg:Str->Option Value) (fa:Addr) (h:Heap),(K w.params).In h->h.Ns mainGlobals mg->mg d.name=some (.ref fa) ->
   ∃fd:FuncData,(∀(s:Shared) (u:Value),BindsTo s fd ⟨[u],[]⟩ [(x,u)]) /\
    ∀base:Heap,(K w.params).In base->base.Ns mainGlobals mg->zy l.prog w (K w.params) mg base CX k fa fd [x] (sp (K w.params)))
  (hsp:∀(K:Frag) (H:Hp) (a:Addr) (ns:List Int),ns.length<=n->Only H->zB K H a (ns.map V.int)->sp K [.ref a] H (fun v _=>v=.bl true) fun _ _ _=>False)
  (hCX:∀(H:Hp) (s:Shared) (e:Value) (s':Shared),CX [] H s (fun _ _ _=>False) e s'->False) :
  PySem.W.WalkO q loose XP YP l.row.toRowW d [] (fun f vs=>PySem.call f vs) :=
 zlr (K:=K) (CX:=fun _=>CX) (sp:=fun w=>sp (K w.params)) hn hn2 hdf hr hY F (fun w H a ns h1 h2 h3=>hsp (K w.params) H a ns h1 h2 h3) fun _ H s e s'=>hCX H s e s'
def inClass (s:Stmt)(j:Nat):Stmt:=match s with
 | .ClassDef _ _ _ body _ _ _ _ _ _ _=>body.getD j (.Pass ⟨0,0,0,0⟩)
 | _=>.Pass ⟨0,0,0,0⟩
def YL (s:Stmt):Arguments:=match s with
 | .FunctionDef _ a _ _ _ _ _ _ _ _=>a
 | _=>{ posonlyargs:=[],args:=[],vararg:=none,kwonlyargs:=[],kw_defaults:=[],kwarg:=none,defaults:=[] }
def uh (s:Stmt):List Stmt:=match s with
 | .FunctionDef _ _ b _ _ _ _ _ _ _=>b
 | _=>[]
def zx (s:Stmt):Scope:=match s with
 | .FunctionDef _ _ _ _ _ _ sc _ _ _=>sc
 | _=>{ kind:=.function,names:=[],isGenerator:=false,isCoroutine:=false }
abbrev yq:CXT:=fun _ _ _ _ _ _=>False
abbrev E0:XK:=fun _ _ _=>False
theorem zhG {X:Cx}:Passes yq X E0:=fun _ _ _ _ _ _ _ h=>h.elim
structure Fun (K:Frag)(x qual:Str)(st:Stmt)(f:Addr)(fd:FuncData):Prop where
 ex:∃(oc:Value) (od:Option Addr) (kV doc pm:Value) (an:Option Addr) (cdv ct:Value) (osl:Array (Option Value)),
  fd=PySem.W.fnOf x qual (YL st) (uh st) (zx st) .none kV doc pm an cdv ct/\K.lookup f=some ⟨oc,od,.func fd,osl⟩/\PySem.W.codeIn K cdv qual=true
 kp:PySem.W.keepIn K (.ref f)=true
section
variable {P:Program}{w:World}{K:Frag}{mg:Str->Option Value}{base:Heap}
theorem Fun.ok {x qual:Str}{st:Stmt}{f:Addr}{fd:FuncData}{N ps:List Str}{k:Nat}{sp:Sp}(F:Fun K x qual st f fd)(S:zK N ps (zx st))(len:∀vs H Q E,sp vs H Q E->vs.length=ps.length)
  (hbody:∀(cdv:Value) (A:Around) (outer:List Env) (s:Shared) (H:Hp) (vs:List V) (Q:VK) (E:XK),tE k (A.deeper (envOfC qual (zx st) s.heap.objs.size f cdv))->sp vs H Q E ->
   ∃t,PSs (K4 yq P w K mg base N qual (zx st) f cdv A outer s H E).nox (uh st) t/\t { nx:=fun _ H'=>Q .non H',rt:=Q } (start N vs) H):zy P w K mg base yq (k+1) f fd ps sp:=by
 obtain⟨oc,od,kV,doc,pm,an,cdv,ct,osl,rfl,lk,hcd⟩:=F.ex
 refine zmM lk hcd S len fun A outer s H vs Q E hr hsp=>?_
 obtain⟨t,h,q⟩:=hbody cdv A outer s H vs Q E hr hsp
 exact⟨t,h.nox,q⟩
theorem Fun.binds {x qual:Str}{st:Stmt}{f:Addr}{fd:FuncData}{ps:List Str}(F:Fun K x qual st f fd)
  (h:∀(kV doc pm:Value) (an:Option Addr) (cdv ct:Value) (us:List Value),us.length=ps.length->bindArgs (PySem.W.fnOf x qual (YL st) (uh st) (zx st) .none kV doc pm an cdv ct) ⟨us,[]⟩=pure (ps.zip us)):Binds K fd ps []:=by
 obtain⟨oc,od,kV,doc,pm,an,cdv,ct,osl,rfl,lk,hcd⟩:=F.ex
 exact .all (h kV doc pm an cdv ct)
theorem zdR {x qual:Str}{st:Stmt}{f:Addr}{oc:Value}{od an:Option Addr}{osl:Array (Option Value)}{kV doc pm cdv ct:Value}(l:K.lookup f=some ⟨oc,od,.func (PySem.W.fnOf x qual (YL st) (uh st) (zx st) .none kV doc pm an cdv ct),osl⟩)
  (c:PySem.W.codeIn K cdv qual=true)(k:PySem.W.keepIn K (.ref f)=true):Fun K x qual st f (PySem.W.fnOf x qual (YL st) (uh st) (zx st) .none kV doc pm an cdv ct):=⟨⟨oc,od,kV,doc,pm,an,cdv,ct,osl,rfl,l,c⟩,k⟩
end
theorem zju {A:Around}{k:Nat}(hr:tE k A):A.units+1<cLine:=Nat.lt_of_le_of_lt (Nat.add_le_add_left (by decide:1<=64) _) hr.units
theorem yI {n:Nat}(h:n<=1000):n<sizeLine:=Nat.lt_of_le_of_lt h (by decide)
section
variable {X:Cx}
theorem pv (i:Nat){x:Str}{pos:Pos}(hN:X.N[i]?=some x:=by rfl)(hv:Vis X.env.scope x:=by first | exact Or.inl rfl | exact Or.inr (Or.inl rfl) | exact Or.inr (Or.inr rfl))(hd:(x==("__debug__" : Str))=false:=by decide)
  (hcd:(x==("__classdict__" : Str))=false:=by decide):PE X (.Name x pos) (zb8 i):=znh hN hv hd hcd
end
theorem yD {A B:Prop}(h:B):if false=true then A else B:=by
 rw[if_neg zug]
 exact h
theorem xH {A B:Prop}(h:A):if true=true then A else B:=by
 rw[if_pos rfl]
 exact h
theorem xQ {c A B:Prop}[Decidable c](h1:c->A)(h2:¬c->B):if c then A else B:=by
 by_cases h:c
 ·rw[if_pos h]
  exact h1 h
 ·rw[if_neg h]
  exact h2 h
def Same (H H':Hp):Prop:=∀b o,H b=some o->H' b=some o
theorem Same.refl (H:Hp):Same H H:=fun _ _ h=>h
theorem Same.trans {H H1 H2:Hp}(a:Same H H1)(b:Same H1 H2):Same H H2:=fun c o h=>b c o (a c o h)
theorem Same.free {H H':Hp}(e:Same H H'){l:Addr}(h:H' l=Option.none):H l=Option.none:=by
 cases q:H l with
 | none=>rfl
 | some o =>
  rw[e l o q] at h
  cases h
theorem Same.seq {K:Frag}{H H':Hp}{a:Addr}{xs:List V}(e:Same H H')(h:zB K H a xs):zB K H' a xs:=by
 rcases h with (h | ⟨o,h⟩) | h
 ·exact .inl (.inl (e _ _ h))
 ·exact .inl (.inr ⟨o,e _ _ h⟩)
 ·exact .inr h
end L2
set_option maxHeartbeats 8000000
namespace L2
open PySem PySem.Spec PyProof.Rows
section
variable {X:Cx}{pins:List (Addr×Obj)}{σ:St}{H:Hp}{s:Shared}
theorem Rh.track {P:Program}{w:World}{H:Hp}{h:Heap}{a:Addr}{o:HO}(x:Rh P w H h)(hn:H a=none)(new:vG P w (upd H a o) h a o):Rh P w (upd H a o) h:=fun b u e=>by
 by_cases hb:b=a
 ·subst hb
  rw[zm] at e
  cases e
  exact new
 ·rw[zE hb] at e
  refine(x b u e).stay (fun _ _ _ q=>q) (fun c q=>?_) fun c xs q=>?_
  ·rw[zE (zF q hn)];exact q
  ·rw[zE (zF q hn)];exact q
theorem Inv.track {a:Addr}{o:HO}(I:Inv X pins σ H s)(hn:H a=none)(hL:a≠X.env.locals)(h0:X.s₀.heap.objs.size<=a)(hc:∀x c,X.env.cells.lookup x=some c->c≠a)(hp:∀p∈X.pn++pins,p.1≠a)
  (new:vG X.prog X.w (upd H a o) s.heap a o):Inv X pins σ (upd H a o) s:=by
 have old:∀b ob,X.s₀.heap.get? b=some ob->b≠a:=fun b ob e=>zur (zul (zuj e) h0)
 refine⟨I.ok,I.os,I.bare,⟨fun b ob e n=>I.base.keep b ob e n,fun b ob e n=>I.base.slot b ob e n,fun b ob e n hx=>?_,fun b ob e hx=>I.base.there b ob e hx,fun b xs e=>?_,fun b ob u e=>?_,fun b ps e=>?_⟩,I.loc,I.cell,?_,fun x c e=>?_,fun p hm=>?_,I.hok.track hn new,I.len⟩
 ·rw[zE (old b ob e)];exact I.base.free b ob e n hx
 ·have q:=I.base.tups b xs e
  rw[zE (zF q hn)];exact q
 ·have q:=I.base.Mp b ob u e
  rw[zE (zF q hn)];exact q
 ·obtain⟨mo,q⟩:=I.base.KY b ps e
  exact⟨mo,by rw[zE (zF q hn)];exact q⟩
 ·rw[zE (Ne.symm hL)];exact I.free
 ·rw[zE (hc x c e)];exact I.Xi x c e
 ·obtain⟨z1,z2,z3⟩:=I.pin p hm
  exact⟨z1,by rw[zE (hp p hm)];exact z2,z3⟩
end
def clo:List (Str×NameKind)->List (Str×Addr)->List (Str×Addr)->List (Str×Addr)
 | [],_,acc=>acc
 | (n,k)::r,cells,acc=>clo r cells (if k==.free then (match cells.lookup n with | some c=>(n,c)::acc | none=>acc) else acc)
theorem Us (cells:List (Str×Addr)):∀(names:List (Str×NameKind)) (acc:List (Str×Addr)),(∀y c,acc.lookup y=some c->cells.lookup y=some c)->∀y c,(clo names cells acc).lookup y=some c->cells.lookup y=some c
 | [],acc,h=>h
 | (n,k)::r,acc,h=>by
  refine Us cells r _ fun y c e=>?_
  cases hk:k==NameKind.free with
  | false=>rw[hk] at e;exact h y c e
  | true =>
   rw[hk,if_pos rfl] at e
   cases hc:cells.lookup n with
   | none=>rw[hc] at e;exact h y c e
   | some a =>
    rw[hc] at e
    have e':(((n,a)::acc).lookup y)=some c:=e
    rw[zuB] at e'
    cases hy:y==n with
    | true =>
     rw[hy] at e'
     have z:y=n:=by simpa using hy
     subst z
     rw[hc];exact e'
    | false=>rw[hy] at e';exact h y c e'
theorem zc6 (cells:List (Str×Addr)):∀(names:List (Str×NameKind)) (acc:List (Str×Addr)) (y:Str),(acc.lookup y).isSome=true->((clo names cells acc).lookup y).isSome=true
 | [],_,_,h=>h
 | (n,k)::r,acc,y,h=>by
  refine zc6 cells r _ y ?_
  cases hk:k==NameKind.free with
  | false=>exact h
  | true =>
   rw[if_pos rfl]
   cases hc:cells.lookup n with
   | none=>exact h
   | some a =>
    show(((n,a)::acc).lookup y).isSome=true
    rw[zuB]
    cases hy:y==n with
    | true=>rfl
    | false=>exact h
theorem zdS (cells:List (Str×Addr)):∀(names:List (Str×NameKind)) (acc:List (Str×Addr)) (y:Str),(y,NameKind.free)∈names->(cells.lookup y).isSome=true->((clo names cells acc).lookup y).isSome=true
 | [],_,_,h,_=>by cases h
 | (n,k)::r,acc,y,h,hs=>by
  rcases List.mem_cons.mp h with e | h
  ·cases e
   refine zc6 cells r _ n ?_
   show(((match cells.lookup n with | some c=>(n,c)::acc | none=>acc)).lookup n).isSome=true
   cases hc:cells.lookup n with
   | none=>rw[hc] at hs;cases hs
   | some a =>
    show(((n,a)::acc).lookup n).isSome=true
    rw[zuB]
    simp
  ·exact zdS cells r _ y h hs
theorem zhH {env:Env}:∀(names:List (Str×NameKind)) (acc:List (Str×Addr)),(∀y,(y,NameKind.free)∈names->(env.cells.lookup y).isSome=true) ->
  (forIn names acc fun(x:Str×NameKind) (cs:List (Str×Addr))=>if (x.2==NameKind.free)=true then do let c <-cellOf env x.1;pure (ForInStep.yield ((x.1,c)::cs)) else pure (ForInStep.yield cs):Sem (List (Str×Addr)))=pure (clo names env.cells acc)
 | [],acc,_=>rfl
 | (n,k)::r,acc,h=>by
  have ih:=fun acc'=>zhH (env:=env) r acc' fun y hy=>h y (zun _ hy)
  rw[List.forIn_cons]
  cases hk:k==NameKind.free with
  | false =>
   show((pure (ForInStep.yield acc):Sem _)>>=_)=_
   rw[pure_bind]
   show(forIn r acc _:Sem _)=_
   rw[ih acc]
   show pure (clo r env.cells acc)=pure (clo r env.cells (if (k==NameKind.free)=true then (match env.cells.lookup n with | some c=>(n,c)::acc | none=>acc) else acc))
   rw[hk];rfl
  | true =>
   have hkf:k=NameKind.free:=by simpa using hk
   subst hkf
   have hs:=h n zuv
   cases hc:env.cells.lookup n with
   | none=>rw[hc] at hs;cases hs
   | some a =>
    have hcell:cellOf env n=pure a:=by unfold cellOf;rw[hc]
    show((cellOf env n>>=fun c=>(pure (ForInStep.yield ((n,c)::acc)):Sem _))>>=_)=_
    rw[hcell,pure_bind,pure_bind]
    show(forIn r ((n,a)::acc) _:Sem _)=_
    rw[ih]
    show pure (clo r env.cells ((n,a)::acc))=pure (clo r env.cells (match env.cells.lookup n with | some c=>(n,c)::acc | none=>acc))
    rw[hc]
theorem zgz {sc:Scope}{env:Env}(h:∀y,(y,NameKind.free)∈sc.names->(env.cells.lookup y).isSome=true):closureFor sc env=pure (clo sc.names env.cells []):=by
 unfold closureFor
 have:=zhH (env:=env) sc.names [] h
 simpa using this
structure XJ (Zx sc:Scope)(x:Str)(fv:List Str):Prop where
 kind:sc.kind=.function
 Nr:∀y∈sc.names,y.2≠.cell
 names:∀y∈sc.names,y.2=.local->sc.names.lookup y.1=some .local
 hx:sc.names.lookup x=some .local
 fr:∀y∈sc.names,y.2=.free->Zx.names.lookup y.1=some .cell\/Zx.names.lookup y.1=some .free
 fvs:∀y∈fv,sc.names.lookup y=some .free/\(Zx.names.lookup y=some .cell\/Zx.names.lookup y=some .free)
 nd:(x::fv).Nodup
abbrev Cx.blk (X:Cx)(sc:Scope)(cl:List (Str×Addr))(C:Addr)(N:List Str)(s:Shared)(H:Hp)(fp:List Addr):Cx :=
 {X with N:=N,s₀:=s,H₀:=H,env:=compEnvC sc cl C X.env,outer:=X.stack,ex:=fp,fn:=fun _=>false,pn:=[],xe:=fun _ _=>False }
abbrev lcN (X:Cx)(x:Str)(js:List Nat):List Str:=x::js.map fun j=>X.N.getD j ""
abbrev Xu (σ:St)(js:List Nat)(x:Option V):St:=x::js.map fun j=>σ.getD j none
theorem XM {env:Env}:∀{names:List (Str×NameKind)} {y:Str} {k:NameKind},(names.map fun(n,k)=>if (k==NameKind.free&&env.scope.kind==.function&&env.kindOf n==some .cell) then (n,NameKind.cell) else (n,k)).lookup y=some k->(k=.cell\/k=.free)->(∀z∈names,z.2≠.cell)->(y,NameKind.free)∈names
 | [],_,_,h,_,_=>by simp at h
 | (n,k')::r,y,k,h,hk,hn=>by
  by_cases hc:(k'==NameKind.free&&env.scope.kind==.function&&env.kindOf n==some .cell)=true
  ·have hk':k'=NameKind.free:=by
    rw[zuD,zuD] at hc
    simpa using hc.1.1
   subst hk'
   rw[zuA] at h
   cases hy:y==n with
   | true =>
    have z:y=n:=by simpa using hy
    subst z
    exact zuv
   | false =>
    have h':List.lookup y ((if (NameKind.free==NameKind.free&&env.scope.kind==.function&&env.kindOf n==some .cell)=true then (n,NameKind.cell) else (n,NameKind.free))::(r.map fun(n,k)=>if (k==NameKind.free&&env.scope.kind==.function&&env.kindOf n==some .cell) then (n,NameKind.cell) else (n,k)))=some k:=h
    rw[if_pos hc,zuB,hy] at h'
    exact zun _ (XM h' hk fun z hz=>hn z (zun _ hz))
  ·have h':List.lookup y ((if (k'==NameKind.free&&env.scope.kind==.function&&env.kindOf n==some .cell)=true then (n,NameKind.cell) else (n,k'))::(r.map fun(n,k)=>if (k==NameKind.free&&env.scope.kind==.function&&env.kindOf n==some .cell) then (n,NameKind.cell) else (n,k)))=some k:=h
   rw[if_neg hc,zuB] at h'
   cases hy:y==n with
   | true =>
    rw[hy] at h'
    cases h'
    have z:y=n:=by simpa using hy
    subst z
    rcases hk with e | e
    ·exact absurd e (hn _ zuv)
    ·subst e;exact zuv
   | false =>
    rw[hy] at h'
    exact zun _ (XM h' hk fun z hz=>hn z (zun _ hz))
theorem za1 {env:Env}:∀{names:List (Str×NameKind)} {y:Str},names.lookup y=some .free->(names.map fun(n,k)=>if (k==NameKind.free&&env.scope.kind==.function&&env.kindOf n==some .cell) then (n,NameKind.cell) else (n,k)).lookup y=some .cell\/(names.map fun(n,k)=>if (k==NameKind.free&&env.scope.kind==.function&&env.kindOf n==some .cell) then (n,NameKind.cell) else (n,k)).lookup y=some .free
 | [],_,h=>by simp at h
 | (n,k')::r,y,h=>by
  rw[zuB] at h
  rw[zuA]
  cases hy:y==n with
  | true =>
   rw[hy] at h
   cases h
   by_cases hc:(NameKind.free==NameKind.free&&env.scope.kind==.function&&env.kindOf n==some .cell)=true
   ·refine .inl ?_
    show List.lookup y ((if (NameKind.free==NameKind.free&&env.scope.kind==.function&&env.kindOf n==some .cell)=true then (n,NameKind.cell) else (n,NameKind.free))::_)=_
    rw[if_pos hc,zuB,hy]
   ·refine .inr ?_
    show List.lookup y ((if (NameKind.free==NameKind.free&&env.scope.kind==.function&&env.kindOf n==some .cell)=true then (n,NameKind.cell) else (n,NameKind.free))::_)=_
    rw[if_neg hc,zuB,hy]
  | false =>
   rw[hy] at h
   have ih:=za1 (env:=env) h
   by_cases hc:(k'==NameKind.free&&env.scope.kind==.function&&env.kindOf n==some .cell)=true
   ·show List.lookup y ((if (k'==NameKind.free&&env.scope.kind==.function&&env.kindOf n==some .cell)=true then (n,NameKind.cell) else (n,k'))::_)=_\/List.lookup y ((if (k'==NameKind.free&&env.scope.kind==.function&&env.kindOf n==some .cell)=true then (n,NameKind.cell) else (n,k'))::_)=_
    rw[if_pos hc,zuB,hy]
    exact ih
   ·show List.lookup y ((if (k'==NameKind.free&&env.scope.kind==.function&&env.kindOf n==some .cell)=true then (n,NameKind.cell) else (n,k'))::_)=_\/List.lookup y ((if (k'==NameKind.free&&env.scope.kind==.function&&env.kindOf n==some .cell)=true then (n,NameKind.cell) else (n,k'))::_)=_
    rw[if_neg hc,zuB,hy]
    exact ih
abbrev tG (its:List Value)(n:Nat):Obj:={ cls:=.type "list", data:=.seq its.toArray n }
abbrev YM (ifs:List Expr)(env:Env):Sem Bool :=
 forIn ifs true fun c r=>if r=true then do let ok <-isTrue c env (eval c env);pure (ForInStep.yield ok) else pure (ForInStep.yield r)
def tLC (wi:TI)(js:List Nat)(tt:TT)(te:TE):TE:=fun σ H Q=>wi σ H fun J H1=>∃W:Nat->Nat->List V->Hp->Prop,(∃m,W 0 m [] H1)/\∀i m ys H,W i m ys H ->
 (J.stop i H/\∀p,H p=none->Q (.ref p) (upd H p (.lst ys))) \/
 (J.go i H/\ys.length<sizeLine/\∀x H',J.KQ i H x H'->tt (Xu σ js (some x)) H' fun b H2 =>
  if b=true then te (Xu σ js (some x)) H2 fun v H3=>∃m',m'<m/\W (i+1) m' (ys++[v]) H3 else ∃m',m'<m/\W (i+1) m' ys H2)
section
variable {X:Cx}{sc Zx:Scope}{x:Str}{js:List Nat}{elt iter:Expr}{px pos:Pos}{ifs:List Expr}{wi:TI}{tt:TT}{te:TE}
theorem zls {P:Program}{w:World}{A:Around}{R:Result->Shared->Prop}{st:Shared}{tg it acc}{cenv:Env}(Iv:Nat->Shared->Prop)
  (step:∀k st,Iv k st->wpAny (model P w) A (pyNext it) (fun got s1=>match got with
   | none=>R (.ok .next) s1
   | some v=>wpAny (model P w) A (letOwnedTupleGo tg it v) (fun _ s2=>wpAny (model P w) A (assign tg cenv v) (fun _ s3 =>
     wpAny (model P w) A (YM ifs cenv) (fun ok s4=>if ok=true then wpAny (model P w) A (eval elt cenv) (fun y s5 =>
       wpAny (model P w) A (call (.builtin "list.append") [acc,y]) (fun _ s6=>∃k',k'<k/\Iv k' s6) (notedBy (model P w) A cenv fun e z=>R (.error e) z) s5) (notedBy (model P w) A cenv fun e z=>R (.error e) z) s4
      else ∃k',k'<k/\Iv k' s4) (notedBy (model P w) A cenv fun e z=>R (.error e) z) s3) (notedBy (model P w) A cenv fun e z=>R (.error e) z) s2) (notedBy (model P w) A cenv fun e z=>R (.error e) z) s1)
   (notedBy (model P w) A cenv fun e z=>R (.error e) z) st)(k0:Nat)(h0:Iv k0 st) :
  codeAny (model P w) A (.compLoop (.ListComp elt [⟨tg,iter,ifs,0⟩] sc pos) 0 it acc cenv) R st:=by
 refine codeAny_loop rfl Iv (fun k st hk=>?_) k0 h0
 show wpAny _ A ((compTurn (.ListComp elt [⟨tg,iter,ifs,0⟩] sc pos) 0 it acc cenv).onRaise (fun e=>do noteFrame e cenv;theTreesLotGoes e)) _ _ st
 refine wpAny_noted ?_
 rw[compTurn_list]
 refine wpAny_bind (wpAny_standAt (wpAny_bind (wpAny_mono (step k st hk) (fun got s1 h1=>?_) fun _ _ z=>z)))
 cases got with
 | none=>exact wpAny_pure h1
 | some v =>
  refine wpAny_bind (wpAny_mono h1 (fun _ s2 h2=>?_) fun _ _ z=>z)
  refine wpAny_bind (wpAny_mono h2 (fun _ s3 h3=>wpAny_bind (wpAny_mono h3 (fun ok s4 h4=>?_) fun _ _ z=>z)) fun _ _ z=>z)
  cases ok with
  | false=>exact wpAny_pure ⟨rfl,h4⟩
  | true=>exact wpAny_bind (wpAny_bind (wpAny_mono h4 (fun y s5 h5=>wpAny_bind (wpAny_mono h5 (fun _ s6 h6=>wpAny_pure (wpAny_pure ⟨rfl,h6⟩)) fun _ _ z=>z)) fun _ _ z=>z))
structure Own (X:Cx)(pins:List (Addr×Obj))(H:Hp)(a:Addr):Prop where
 free:H a=none
 loc:a≠X.env.locals
 new:X.s₀.heap.objs.size<=a
 cel:∀x c,X.env.cells.lookup x=some c->c≠a
 pin:∀p∈X.pn++pins,p.1≠a
 fs:a∉X.fs
end
structure zhI (Zx sc:Scope)(xs:List Str)(fv:List Str):Prop where
 kind:sc.kind=.function
 Nr:∀y∈sc.names,y.2≠.cell
 names:∀y∈sc.names,y.2=.local->sc.names.lookup y.1=some .local
 fr:∀y∈sc.names,y.2=.free->Zx.names.lookup y.1=some .cell\/Zx.names.lookup y.1=some .free
 fvs:∀y∈fv,sc.names.lookup y=some .free/\(Zx.names.lookup y=some .cell\/Zx.names.lookup y=some .free)
abbrev Ml (X:Cx)(xs:List Str)(js:List Nat):List Str:=xs++js.map fun j=>X.N.getD j ""
abbrev lcT (σ:St)(js:List Nat)(os:List (Option V)):St:=os++js.map fun j=>σ.getD j none
def zoV (wi:TI)(xs:List Str)(js:List Nat)(g:TG)(tt:TT)(te:TE):TE:=fun σ H Q=>wi σ H fun J H1=>∃W:Nat->Nat->List V->Hp->Prop,(∃m,W 0 m [] H1)/\∀i m ys H,W i m ys H ->
 (J.stop i H/\∀p,H p=none->Q (.ref p) (upd H p (.lst ys))) \/
 (J.go i H/\ys.length<sizeLine/\∀x H',J.KQ i H x H'->∀o0:List (Option V),o0.length=xs.length->g x (lcT σ js o0) H' fun σ2 H1=>∃o1,σ2=lcT σ js o1/\o1.length=xs.length/\tt σ2 H1 fun b H2 =>
  if b=true then te σ2 H2 fun v H3=>∃m',m'<m/\W (i+1) m' (ys++[v]) H3 else ∃m',m'<m/\W (i+1) m' ys H2)
section
variable {X:Cx}{sc Zx:Scope}{xs:List Str}{js:List Nat}
theorem zlt {pins:List (Addr×Obj)}{σ:St}{H:Hp}{s:Shared}{fp:List Addr}{C:Addr}(I:Inv X pins σ H s)(VR:X.env.scope=Zx)(L:zhI Zx sc xs (js.map fun j=>X.N.getD j ""))
  (f2:∀b∈fp,zb9 X pins H b)(lt:∀b∈fp,b<s.heap.objs.size)(hC:s.heap.objs.size<=C):(X.blk sc (clo sc.names X.env.cells []) C (Ml X xs js) s H fp).Ok where
 mod:=I.ok.mod
 kind:=L.kind
 glob:=I.ok.glob
 blt:=I.ok.blt
 above:=hC
 inj:=fun y z c h1 h2=>I.ok.inj y z c (Us _ _ [] (fun _ _ e=>by simp at e) y c h1) (Us _ _ [] (fun _ _ e=>by simp at e) z c h2)
 has:=fun y hy=>by
  have hy':(relabel sc X.env).names.lookup y=some .cell\/(relabel sc X.env).names.lookup y=some .free:=hy
  have hm:(y,NameKind.free)∈sc.names:=by
   rcases hy' with e | e
   ·exact XM e (.inl rfl) L.Nr
   ·exact XM e (.inr rfl) L.Nr
  have ho:X.env.kindOf y=some .cell\/X.env.kindOf y=some .free:=by
   show X.env.scope.names.lookup y=_\/X.env.scope.names.lookup y=_
   rw[VR]
   exact L.fr _ hm rfl
  obtain⟨c,e⟩:=I.ok.has y ho
  exact Option.isSome_iff_exists.mp (zdS _ _ [] y hm (by rw[e];rfl))
 cab:=fun y c h=>by cases h
 hd:=I.ok.hd
 frames:=I.ok.frames
 stk:=.inl rfl
 exf:=fun b hb=>⟨zur (zul (lt b hb) hC),fun y c e=>(f2 b hb).2.2.2.2.1 y c (Us _ _ [] (fun _ _ e=>by simp at e) y c e)⟩
 bs:=I.bs
 bsz:=zux I.ok.bsz I.sz
 zeS:=fun b o e hb=>by
  rcases (f2 b hb).2.2.2.1 with z | z
  ·exact I.ok.zeS b o e z
  ·exact absurd (zul (zuj (I.ok.bs b o e).1) z) (Nat.lt_irrefl _)
 zeT:=fun b hb hm=>by
  rcases List.mem_cons.mp (I.zaT b hm) with z | z
  ·exact(f2 b hb).2.1 z
  ·exact(f2 b hb).2.2.1 z
 Q8:=I.stack
 frf:=I.zaz
end
section
variable {X:Cx}{sc Zx:Scope}{xs:List Str}{js:List Nat}{tg:Expr}{g:TG}{elt iter:Expr}{px pos:Pos}{ifs:List Expr}{wi:TI}{tt:TT}{te:TE}
theorem zjv {cl:List (Str×Addr)}{C D:Addr}{s₂:Shared}{H₂:Hp}{fp:List Addr}{pl:List (Addr×Obj)}{σ0:St}{H:Hp}{s:Shared}{u:Value}{v:V}{its:List Value}{n:Nat}{o0:List (Option V)}{E:Value->Shared->Prop}
  {Ny:V->Hp->Prop}{Nn:Hp->Prop}
  (hg:PG (X.blk sc cl C (Ml X xs js) s₂ H₂ fp) tg g)
  (I:Inv (X.blk sc cl C (Ml X xs js) s₂ H₂ fp) ((D,tG its n)::pl) (lcT σ0 js o0) H s)(ru:RelV v u)
  (ht:∀(pins:List (Addr×Obj)) (s':Shared) (σ':St) (H':Hp) (Q:Bool->Hp->Prop),Inv (X.blk sc cl C (Ml X xs js) s₂ H₂ fp) pins σ' H' s'->tt σ' H' Q ->
   wpAny (model X.prog X.w) X.A (YM ifs (compEnvC sc cl C X.env)) (TP (X.blk sc cl C (Ml X xs js) s₂ H₂ fp) pins σ' Q) (fun _ _=>False) s')
  (he:PE (X.blk sc cl C (Ml X xs js) s₂ H₂ fp) elt te)
  (hlen:its.length<sizeLine)(hD0:s₂.heap.objs.size<=D)(hDC:D≠C)(hDc:∀y c,cl.lookup y=some c->c≠D)(hDp:∀p∈pl,p.1≠D)
  (h:g v (lcT σ0 js o0) H fun σ2 H1=>∃o1,σ2=lcT σ0 js o1/\o1.length=xs.length/\tt σ2 H1 fun b H2=>if b=true then te σ2 H2 Ny else Nn H2) :
  wpAny (model X.prog X.w) X.A (assign tg (compEnvC sc cl C X.env) u) (fun _ s2 =>
   wpAny (model X.prog X.w) X.A (YM ifs (compEnvC sc cl C X.env)) (fun ok s3 =>
    if ok=true then wpAny (model X.prog X.w) X.A (eval elt (compEnvC sc cl C X.env)) (fun y s4 =>
     wpAny (model X.prog X.w) X.A (call (.builtin "list.append") [.ref D,y]) (fun _ s5=>∃z y' H5 o1,o1.length=xs.length/\Ny z H5/\RelV z y'/\Inv (X.blk sc cl C (Ml X xs js) s₂ H₂ fp) ((D,tG (its++[y']) (n+1))::pl) (lcT σ0 js o1) H5 s5) E s4) E s3
    else ∃H5 o1,o1.length=xs.length/\Nn H5/\Inv (X.blk sc cl C (Ml X xs js) s₂ H₂ fp) ((D,tG its n)::pl) (lcT σ0 js o1) H5 s3) E s2) E s:=by
 refine wpAny_mono (hg _ s _ H v u _ I ru h) (fun _ s2 ⟨σ6,H6,I6,o1,e1,l1,h6⟩=>?_) fun _ _ z=>False.elim z
 subst e1
 refine wpAny_mono (ht _ s2 _ _ _ I6 h6) (fun ok s3 ⟨H7,I7,q7⟩=>?_) fun _ _ z=>False.elim z
 cases ok with
 | false =>
  rw[if_neg zug] at q7 ⊢
  exact⟨H7,o1,l1,q7,I7⟩
 | true =>
  rw[if_pos rfl] at q7 ⊢
  refine wpAny_mono (he _ s3 _ H7 _ I7 q7) (fun y s4 ⟨z,H8,I8,r8,q8⟩=>?_) fun _ _ z=>False.elim z
  obtain⟨p1,p2,p3,p4,p5⟩:=I8.pin (D,tG its n) (zut _ zuv)
  have p1':s4.heap.get? D=some { cls:=.type "list", data:=.seq its.toArray n }:=p1
  refine call_meets F.slot_list_append ⟨_,p1',rfl⟩ F.entry_list_append (F.args_list_append_2 _ _) (PySem.list_append D its.toArray n y (by rw[zum];omega)) ⟨p1',?_⟩
  have q:=PySem.IsL.update p1' (fun a=>a.push y)
  have sz:((its.toArray.push y).size==its.toArray.size)=false:=by simp
  have e3:(s4.heap.update D (Obj.mapSeq fun a=>a.push y)).get? D=some (tG (its++[y]) (n+1)):=by
   have q':(s4.heap.update D (Obj.mapSeq fun a=>a.push y)).get? D=some { cls:=.type "list", data:=.seq (its.toArray.push y) (if ((its.toArray.push y).size==its.toArray.size)=true then n else n+1) }:=q
   rw[q',sz,if_neg zug]
   simp
  have I9:Inv (X.blk sc cl C (Ml X xs js) s₂ H₂ fp) pl (lcT σ0 js o1) H8 s4:=I8.Td fun p hp=>I8.pin p (zut _ (zun _ hp))
  have oth:∀b o,b≠D->s4.heap.get? b=some o->(s4.heap.update D (Obj.mapSeq fun a=>a.push y)).get? b=some o:=fun b o hb e=>(Heap.get?_update_other _ _ (Ne.symm hb)).trans e
  have I10:=I9.turned (t':=s4.toks) (h':=s4.heap.update D (Obj.mapSeq fun a=>a.push y)) (it:=D) oth p2 hDC (.inr hD0) hDc (fun p hp=>hDp p hp)
  refine⟨z,y,H8,o1,l1,q8,r8,I10.Td fun p hp=>?_⟩
  rcases List.mem_cons.mp hp with e | e
  ·subst e
   exact⟨e3,p2,p3,p4,fun w hw=>by cases hw⟩
  ·exact I10.pin p (zut _ e)
theorem ze1 {use:Option (Value->Sem Unit)}{QQ:Value->Shared->Prop}{Fin:List V->Hp->Prop}{pins:List (Addr×Obj)}{s:Shared}{σ:St}{H:Hp}(VR:X.env.scope=Zx)(L:zhI Zx sc xs (js.map fun j=>X.N.getD j "")){rd:Cx->Prop}(hc:∀sc cl C N s H fp,rd (X.blk sc cl C N s H fp))(hi:PIr rd X tg iter wi)(hg:∀(cl:List (Str×Addr)) (C:Addr) (s₂:Shared) (H₂:Hp) (fp:List Addr),PG (X.blk sc cl C (Ml X xs js) s₂ H₂ fp) tg g)(hjs:∀j∈js,j<X.N.length)
  (ht:∀(cl:List (Str×Addr)) (C:Addr) (s₂:Shared) (H₂:Hp) (fp:List Addr) (pins:List (Addr×Obj)) (s':Shared) (σ':St) (H':Hp) (Q:Bool->Hp->Prop),Inv (X.blk sc cl C (Ml X xs js) s₂ H₂ fp) pins σ' H' s'->tt σ' H' Q ->
   wpAny (model X.prog X.w) X.A (YM ifs (compEnvC sc cl C X.env)) (TP (X.blk sc cl C (Ml X xs js) s₂ H₂ fp) pins σ' Q) (fun _ _=>False) s')
  (he:∀(cl:List (Str×Addr)) (C:Addr) (s₂:Shared) (H₂:Hp) (fp:List Addr),PE (X.blk sc cl C (Ml X xs js) s₂ H₂ fp) elt te)
  (hs:∀x,foldedSetIterable iter X.env x=pure x)(I:Inv X pins σ H s)
  (h:wi σ H fun J H1=>∃W:Nat->Nat->List V->Hp->Prop,(∃m,W 0 m [] H1)/\∀i m ys H,W i m ys H->(J.stop i H/\Fin ys H) \/
   (J.go i H/\ys.length<sizeLine/\∀x H',J.KQ i H x H'->∀o0:List (Option V),o0.length=xs.length->g x (lcT σ js o0) H' fun σ2 H1=>∃o1,σ2=lcT σ js o1/\o1.length=xs.length/\tt σ2 H1 fun b H2 =>
    if b=true then te σ2 H2 fun v H3=>∃m',m'<m/\W (i+1) m' (ys++[v]) H3 else ∃m',m'<m/\W (i+1) m' ys H2))
  (hfin:∀(D C:Addr) (s5:Shared) (H5:Hp) (ys:List V) (its:List Value) (k:Nat) (m5:Str->Option Value),Inv X pins σ H5 s5->Own X pins H5 D->Own X pins H5 C->D≠C->s5.heap.get? D=some (tG its k)->Vals ys its->ys.length<=sizeLine->s5.heap.Ns C m5->Fin ys H5 ->
   compPost (model X.prog X.w) X.A X.xe use QQ (.ref D) C (.ok .next) s5) :
  wpAny (model X.prog X.w) X.A (comprehension (.ListComp elt [⟨tg,iter,ifs,0⟩] sc pos) sc X.env (firstIterPos [⟨tg,iter,ifs,0⟩] pos) (newList []) false (eval iter X.env) use) QQ X.xe s:=by
 have hcl:closureFor sc X.env=pure (clo sc.names X.env.cells []):=zgz fun y hy=>by
  have ho:X.env.kindOf y=some .cell\/X.env.kindOf y=some .free:=by
   show X.env.scope.names.lookup y=_\/X.env.scope.names.lookup y=_
   rw[VR]
   exact L.fr _ hy rfl
  obtain⟨c,e⟩:=I.ok.has y ho
  rw[e];rfl
 refine wpAny_comprehension_free (use:=use) rfl hs hcl L.kind L.names (vM (hi pins s σ H _ I h) fun v s1 h1=>vM h1 fun itv s2 h2=>?_)
 obtain⟨it,fp,tn,J,H2,e,I2,T,st2,f2,W,⟨m0,w0⟩,turn⟩:=h2
 subst e
 refine wpAny_newObj_type (wpAny_newFunctionEnv L.Nr (by intro y hy;simp at hy) (fun h₁ hns₁ hsb₁=>?_) L.kind)
 dsimp only at hns₁ hsb₁ ⊢
 generalize hG:s2.heap.push { cls:=.type "list", dict:=none,data:=.seq ([]:List Value).toArray }=G at hns₁ hsb₁ ⊢
 have hGs:G.objs.size=s2.heap.objs.size+1:=by rw[<-hG,Heap.size_push]
 have hCle:s2.heap.objs.size<=G.objs.size:=by rw[hGs];exact Nat.le_succ _
 have hDC:s2.heap.objs.size≠G.objs.size:=by rw[hGs];exact zur (Nat.lt_succ_self _)
 have old:∀b o,s2.heap.get? b=some o->h₁.get? b=some o:=fun b o e=>by
  have lt:=zuj e
  refine hsb₁.extBut b o (zur (zul lt hCle)) (zui _ ?_)
  rw[<-hG]
  exact zui _ e
 have hacc:h₁.get? s2.heap.objs.size=some (tG [] 0):=by
  refine hsb₁.extBut _ _ hDC (zui _ ?_)
  rw[<-hG]
  exact zuw _ rfl
 have lt:∀b∈fp,b<s2.heap.objs.size:=fun b hb=>by
  obtain⟨o,e,_⟩:=T.obj _ _ st2 b hb
  exact zuj e
 have clS:∀y c,(clo sc.names X.env.cells []).lookup y=some c->X.env.cells.lookup y=some c:=Us _ _ [] (fun _ _ e=>by simp at e)
 have zqR:∀y c,(clo sc.names X.env.cells []).lookup y=some c->c<s2.heap.objs.size:=fun y c e=>by
  obtain⟨v,o,q,_⟩:=I2.cell y c (clS y c e)
  exact zuj q
 have Bok:(X.blk sc (clo sc.names X.env.cells []) G.objs.size (Ml X xs js) s2 H2 fp).Ok:=zlt I2 VR L f2 lt hCle
 have fresh:∀a,s2.heap.objs.size<=a->H2 a=none:=fun a ha=>I2.hok.fresh ha
 have znz:∀b∈frs X.stack,b<s2.heap.objs.size:=fun b hb=>by
  rcases List.mem_cons.mp (I2.zaT b hb) with z | z
  ·rw[z];exact I2.lt
  ·refine Nat.lt_of_not_le fun q=>I2.zng q z
 have B0:Inv (X.blk sc (clo sc.names X.env.cells []) G.objs.size (Ml X xs js) s2 H2 fp) [(s2.heap.objs.size,tG [] 0)] (lcT σ js (List.replicate xs.length none)) H2 { s2 with heap:=h₁,toks:=s2.toks+([]:List (Str×Value)).length }:=by
  refine⟨Bok,rfl,I2.bare,Un.kept old,⟨_,hns₁,fun i y v e1 e2 e3=>?_⟩,fun y c e=>?_,fresh _ hCle,fun y c e=>I2.Xi y c (clS y c e),fun p hp=>?_,I2.hok.kept old,?_⟩
  ·by_cases hlt:i<xs.length
   ·exfalso
    have e2'':(List.replicate xs.length (none:Option V)++js.map fun j=>σ.getD j none)[i]?=some (some v):=e2
    rw[zuI (by rw[List.length_replicate];exact hlt),List.getElem?_replicate,if_pos hlt] at e2''
    cases e2''
   ·have e1':(js.map fun j=>X.N.getD j "")[i-xs.length]?=some y:=by
     have z:(xs++js.map fun j=>X.N.getD j "")[i]?=some y:=e1
     rw[List.getElem?_append_right (by omega)] at z
     exact z
    have e2':(js.map fun j=>σ.getD j none)[i-xs.length]?=some (some v):=by
     have z:(List.replicate xs.length (none:Option V)++js.map fun j=>σ.getD j none)[i]?=some (some v):=e2
     rw[List.getElem?_append_right (by rw[List.length_replicate];omega),List.length_replicate] at z
     exact z
    have e1s:=e1'
    rw[zue] at e1' e2'
    cases hj:js[i-xs.length]? with
    | none=>rw[hj] at e1';cases e1'
    | some j =>
     rw[hj] at e1' e2'
     have e4:X.N.getD j ""=y:=zuG e1'
     have e5:σ.getD j none=some v:=zuG e2'
     have hjl:=hjs j (zuh hj)
     have e6:X.N[j]?=some y:=by
      rw[zup,zud hjl] at e4
      rw[zud hjl]
      exact congrArg some e4
     have e7:σ[j]?=some (some v):=by
      rw[zup] at e5
      cases hq:σ[j]? with
      | none=>rw[hq] at e5;cases e5
      | some w=>rw[hq] at e5;exact congrArg some e5
     obtain⟨hm0,hk⟩:=L.fvs y (zuh e1s)
     have hm:(y,NameKind.free)∈sc.names:=PySem.mem_of_lookup hm0
     have hk':X.env.kindOf y=some .cell\/X.env.kindOf y=some .free:=by
      show X.env.scope.names.lookup y=_\/X.env.scope.names.lookup y=_
      rw[VR];exact hk
     have hv:Vis X.env.scope y:=by rcases hk' with z | z;exact .inr (.inl z);exact .inr (.inr z)
     obtain⟨m,hn,hl⟩:=I2.loc
     obtain⟨u,r,l⟩:=hl j y v e6 e7 hv
     refine⟨u,r,.inr ?_⟩
     rcases l with ⟨z,_⟩ | ⟨_,c,hc1,hc2⟩
     ·rw[z] at hk';rcases hk' with q | q<;>cases q
     ·have hs2:((clo sc.names X.env.cells []).lookup y).isSome=true:=zdS _ _ [] y hm (by rw[hc1];rfl)
      obtain⟨c',hc'⟩:=Option.isSome_iff_exists.mp hs2
      have hcc:c'=c:=by have:=clS y c' hc';rw[hc1] at this;exact(zuG this).symm
      subst hcc
      obtain⟨o,ho,hd⟩:=hc2
      exact⟨za1 hm0,c',hc',o,old _ o ho,hd⟩
  ·obtain⟨v,o,q,d⟩:=I2.cell y c (clS y c e)
   exact⟨v,o,old _ o q,d⟩
  ·have e:p=(s2.heap.objs.size,tG [] 0):=by simpa using hp
   subst e
   exact⟨hacc,fresh _ (zus _),hDC,fun z=>Nat.lt_irrefl _ (znz _ z),fun w hw=>by cases hw⟩
  ·show _=(Ml X xs js).length
   simp
 have stat:∀{H':Hp} {pl:List (Addr×Obj)},(∀b∈fp,H' b=none)->(∀p∈pl,p.1=s2.heap.objs.size)->∀b∈fp,zb9 (X.blk sc (clo sc.names X.env.cells []) G.objs.size (Ml X xs js) s2 H2 fp) pl H' b:=fun hn hp b hb =>
  ⟨hn b hb,(Bok.exf b hb).1,Bok.zeT b hb,.inl hb,(Bok.exf b hb).2,fun p hm=>by
   rw[hp p (by simpa using hm)]
   exact Ne.symm (zur (lt b hb))⟩
 have loop:∀s3:Shared,s3={ s2 with heap:=h₁,toks:=s2.toks+([]:List (Str×Value)).length } ->
   codeAny (model X.prog X.w) X.A (.compLoop (.ListComp elt [⟨tg,iter,ifs,0⟩] sc pos) 0 (.ref it) (.ref s2.heap.objs.size) (compEnvC sc (clo sc.names X.env.cells []) G.objs.size X.env))
    (compPost (model X.prog X.w) X.A X.xe use QQ (.ref s2.heap.objs.size) G.objs.size) s3:=by
  rintro s3 rfl
  refine zls (fun n s'=>∃i ys its k o0 H',o0.length=xs.length/\Inv (X.blk sc (clo sc.names X.env.cells []) G.objs.size (Ml X xs js) s2 H2 fp) [(s2.heap.objs.size,tG its k)] (lcT σ js o0) H' s'/\tn i s'.heap/\(∀b∈fp,H' b=none)/\Vals ys its/\ys.length<=sizeLine/\W i n ys H') ?_ m0
   ⟨0,[],[],0,List.replicate xs.length none,H2,List.length_replicate,B0,T.keep _ _ _ st2 fun b _ o e=>old b o e,fun b hb=>(f2 b hb).1,.nil,zuy _,w0⟩
  rintro n s4 ⟨i,ys,its,k,o0,H4,lo0,I4,st4,fr4,vs4,z4,w4⟩
  have one:∀p∈[(s2.heap.objs.size,tG its k)],p.1=s2.heap.objs.size:=fun p hp=>by
   have e:p=(s2.heap.objs.size,tG its k):=by simpa using hp
   rw[e]
  rcases turn i n ys H4 w4 with ⟨stop,qn⟩ | ⟨go,zl,step⟩
  ·refine vM (T.done (X.blk sc (clo sc.names X.env.cells []) G.objs.size (Ml X xs js) s2 H2 fp) rfl rfl rfl (hc _ _ _ _ _ _ _) i _ s4 _ H4 _ I4 (stat fr4 one) st4 stop) fun r s5 ⟨hr,I5⟩=>?_
   subst hr
   obtain⟨m5,hn5,_⟩:=I5.loc
   obtain⟨p1,p2,p3,p4,p5⟩:=I5.pin (s2.heap.objs.size,tG its k) (by simp)
   have ch:∀b∈fp,(b∈X.ex\/X.s₀.heap.objs.size<=b)/\b≠X.env.locals/\(∀x c,X.env.cells.lookup x=some c->c≠b)/\∀p∈X.pn++pins,p.1≠b:=fun b hb =>
    ⟨(f2 b hb).2.2.2.1,(f2 b hb).2.1,(f2 b hb).2.2.2.2.1,(f2 b hb).2.2.2.2.2⟩
   have J1:Inv X pins σ H4 s5:=I2.call' I5.os I5.base I5.hok I5.bare ch
   have ltp:∀p∈X.pn++pins,p.1<s2.heap.objs.size:=fun p hp=>zuj (I2.pin p hp).1
   have ltc:∀y c,X.env.cells.lookup y=some c->c<s2.heap.objs.size:=fun y c e=>by
    obtain⟨v,o,q,_⟩:=I2.cell y c e
    exact zuj q
   have s0:X.s₀.heap.objs.size<=s2.heap.objs.size:=I2.sz
   have own:∀a,s2.heap.objs.size<=a->H4 a=none->Own X pins H4 a:=fun a ha hn=>⟨hn,Ne.symm (zur (zul I2.lt ha)),zux s0 ha,fun y c e=>zur (zul (ltc y c e) ha),
    fun p hp=>zur (zul (ltp p hp) ha),I2.zng ha⟩
   exact hfin _ _ s5 H4 ys its k m5 J1 (own _ (zus _) p2) (own _ hCle I5.free) hDC p1 vs4 z4 hn5 qn
  ·refine vM (T.item (X.blk sc (clo sc.names X.env.cells []) G.objs.size (Ml X xs js) s2 H2 fp) rfl rfl rfl (hc _ _ _ _ _ _ _) i _ s4 _ H4 _ I4 (stat fr4 one) st4 go) fun r s5 ⟨u,hr,h5⟩=>?_
   subst hr
   refine wpAny_mono h5 (fun _ s5' ⟨v,H6,I6,r6,y6,st6,fr6⟩=>?_) fun _ _ z=>z
   have I7:=I6.pinned (stat fr6 one) (T.obj _ _ st6)
   have zqV:∀p∈Nm fp s5'.heap,p.1≠s2.heap.objs.size:=fun p hp=>zur (lt _ (zcU hp).1)
   have zsO:=vs4.length
   have back:∀{its':List Value} {k':Nat} {H7:Hp} {s7:Shared} {ys':List V} {m':Nat} {o1:List (Option V)},o1.length=xs.length->Inv (X.blk sc (clo sc.names X.env.cells []) G.objs.size (Ml X xs js) s2 H2 fp) ((s2.heap.objs.size,tG its' k')::Nm fp s5'.heap) (lcT σ js o1) H7 s7 ->
     Vals ys' its'->ys'.length<=sizeLine->m'<n->W (i+1) m' ys' H7->∃m,m<n/\∃i ys its k o0 H',o0.length=xs.length/\Inv (X.blk sc (clo sc.names X.env.cells []) G.objs.size (Ml X xs js) s2 H2 fp) [(s2.heap.objs.size,tG its k)] (lcT σ js o0) H' s7/\tn i s7.heap/\(∀b∈fp,H' b=none)/\Vals ys its/\ys.length<=sizeLine/\W i m ys H':=by
    intro its' k' H7 s7 ys' m' o1 l1 J vs' z' hm w'
    refine⟨m',hm,i+1,ys',its',k',o1,H7,l1,J.Td fun p hp=>J.pin p (zut _ (by simp at hp;simp[hp])),?_,?_,vs',z',w'⟩
    ·exact T.keep _ _ _ st6 fun b hb o e=>(J.pin (b,o) (zut _ (zun _ (Tq hb e)))).1
    ·intro b hb
     obtain⟨o,e,_⟩:=T.obj _ _ st6 b hb
     exact(J.pin (b,o) (zut _ (zun _ (Tq hb e)))).2.1
   refine wpAny_mono (zjv (X:=X) (sc:=sc) (xs:=xs) (js:=js) (tg:=tg) (g:=g) (elt:=elt) (ifs:=ifs) (tt:=tt) (te:=te) (D:=s2.heap.objs.size) (its:=its) (n:=k) (pl:=Nm fp s5'.heap)
    (hg _ _ _ _ _) I7 r6 (ht _ _ _ _ _) (he _ _ _ _ _) (by omega) (zus _) hDC (fun y c e=>zur (zqR y c e)) zqV (step v H6 y6 o0 lo0)) (fun _ s6 h6=>?_) fun _ _ z=>z
   refine wpAny_mono h6 (fun ok s7 h7=>?_) fun _ _ z=>z
   cases ok with
   | false =>
    rw[if_neg zug] at h7 ⊢
    obtain⟨H7,o1,l1,⟨m',hm,w'⟩,J⟩:=h7
    exact back l1 J vs4 z4 hm w'
   | true =>
    rw[if_pos rfl] at h7 ⊢
    refine wpAny_mono h7 (fun y s8 h8=>?_) fun _ _ z=>z
    refine wpAny_mono h8 (fun _ s9 h9=>?_) fun _ _ z=>z
    obtain⟨z,y',H9,o1,l1,⟨m',hm,w'⟩,rz,J⟩:=h9
    refine back l1 J (vs4.append (.cons rz .nil)) ?_ hm w'
    rw[zuk,zuJ]
    omega
 exact codeAny_compStart_list (loop _ rfl) (T.self _ 0 _ _ _ (T.keep _ _ _ st2 fun b _ o e=>old b o e) (loop _ rfl))
end
section
variable {X:Cx}{sc Zx:Scope}{x:Str}{js:List Nat}{elt iter:Expr}{px pos:Pos}{ifs:List Expr}{wi:TI}{tt:TT}{te:TE}
theorem zhJ {use:Option (Value->Sem Unit)}{QQ:Value->Shared->Prop}{Fin:List V->Hp->Prop}{pins:List (Addr×Obj)}{s:Shared}{σ:St}{H:Hp}(VR:X.env.scope=Zx)(L:XJ Zx sc x (js.map fun j=>X.N.getD j "")){rd:Cx->Prop}(hc:∀sc cl C N s H fp,rd (X.blk sc cl C N s H fp))(hi:PIr rd X (.Name x px) iter wi)(hjs:∀j∈js,j<X.N.length)
  (ht:∀(cl:List (Str×Addr)) (C:Addr) (s₂:Shared) (H₂:Hp) (fp:List Addr) (pins:List (Addr×Obj)) (s':Shared) (σ':St) (H':Hp) (Q:Bool->Hp->Prop),Inv (X.blk sc cl C (lcN X x js) s₂ H₂ fp) pins σ' H' s'->tt σ' H' Q ->
   wpAny (model X.prog X.w) X.A (YM ifs (compEnvC sc cl C X.env)) (TP (X.blk sc cl C (lcN X x js) s₂ H₂ fp) pins σ' Q) (fun _ _=>False) s')
  (he:∀(cl:List (Str×Addr)) (C:Addr) (s₂:Shared) (H₂:Hp) (fp:List Addr),PE (X.blk sc cl C (lcN X x js) s₂ H₂ fp) elt te)
  (hs:∀x,foldedSetIterable iter X.env x=pure x)(I:Inv X pins σ H s)
  (h:wi σ H fun J H1=>∃W:Nat->Nat->List V->Hp->Prop,(∃m,W 0 m [] H1)/\∀i m ys H,W i m ys H->(J.stop i H/\Fin ys H) \/
   (J.go i H/\ys.length<sizeLine/\∀x H',J.KQ i H x H'->tt (Xu σ js (some x)) H' fun b H2 =>
    if b=true then te (Xu σ js (some x)) H2 fun v H3=>∃m',m'<m/\W (i+1) m' (ys++[v]) H3 else ∃m',m'<m/\W (i+1) m' ys H2))
  (hfin:∀(D C:Addr) (s5:Shared) (H5:Hp) (ys:List V) (its:List Value) (k:Nat) (m5:Str->Option Value),Inv X pins σ H5 s5->Own X pins H5 D->Own X pins H5 C->D≠C->s5.heap.get? D=some (tG its k)->Vals ys its->ys.length<=sizeLine->s5.heap.Ns C m5->Fin ys H5 ->
   compPost (model X.prog X.w) X.A X.xe use QQ (.ref D) C (.ok .next) s5) :
  wpAny (model X.prog X.w) X.A (comprehension (.ListComp elt [⟨.Name x px,iter,ifs,0⟩] sc pos) sc X.env (firstIterPos [⟨.Name x px,iter,ifs,0⟩] pos) (newList []) false (eval iter X.env) use) QQ X.xe s:=by
 have e:(fun(J:It) (H1:Hp)=>∃W:Nat->Nat->List V->Hp->Prop,(∃m,W 0 m [] H1)/\∀i m ys H,W i m ys H->(J.stop i H/\Fin ys H) \/
   (J.go i H/\ys.length<sizeLine/\∀x H',J.KQ i H x H'->tt (Xu σ js (some x)) H' fun b H2 =>
    if b=true then te (Xu σ js (some x)) H2 fun v H3=>∃m',m'<m/\W (i+1) m' (ys++[v]) H3 else ∃m',m'<m/\W (i+1) m' ys H2)) =
   (fun(J:It) (H1:Hp)=>∃W:Nat->Nat->List V->Hp->Prop,(∃m,W 0 m [] H1)/\∀i m ys H,W i m ys H->(J.stop i H/\Fin ys H) \/
   (J.go i H/\ys.length<sizeLine/\∀y H',J.KQ i H y H'->∀o0:List (Option V),o0.length=[x].length->Ri 0 y (lcT σ js o0) H' fun σ2 H1=>∃o1,σ2=lcT σ js o1/\o1.length=[x].length/\tt σ2 H1 fun b H2 =>
    if b=true then te σ2 H2 fun v H3=>∃m',m'<m/\W (i+1) m' (ys++[v]) H3 else ∃m',m'<m/\W (i+1) m' ys H2)):=by
  funext J H1
  refine propext ⟨fun⟨W,w0,w1⟩=>⟨W,w0,fun i m ys H hw=>?_⟩,fun⟨W,w0,w1⟩=>⟨W,w0,fun i m ys H hw=>?_⟩⟩
  ·rcases w1 i m ys H hw with a | ⟨a,b,c⟩
   ·exact .inl a
   ·refine .inr ⟨a,b,fun y H' hy o0 ho=>?_⟩
    match o0,ho with
    | [o],_=>exact⟨[some y],rfl,rfl,c y H' hy⟩
  ·rcases w1 i m ys H hw with a | ⟨a,b,c⟩
   ·exact .inl a
   ·refine .inr ⟨a,b,fun y H' hy=>?_⟩
    obtain⟨o1,e1,e2,e3⟩:=c y H' hy [none] rfl
    exact e3
 rw[e] at h
 exact ze1 (xs:=[x]) (g:=Ri 0) VR ⟨L.kind,L.Nr,L.names,L.fr,L.fvs⟩ hc hi (fun cl C s₂ H₂ fp=>yS (X:=X.blk sc cl C (Ml X [x] js) s₂ H₂ fp) L.nd rfl (.inl (lookup_relabel_local L.hx)) (.inr (lookup_relabel_local L.hx))) hjs ht he hs I h hfin
theorem zhK (VR:X.env.scope=Zx)(L:XJ Zx sc x (js.map fun j=>X.N.getD j "")){rd:Cx->Prop}(hc:∀sc cl C N s H fp,rd (X.blk sc cl C N s H fp))(hi:PIr rd X (.Name x px) iter wi)(hjs:∀j∈js,j<X.N.length)
  (ht:∀(cl:List (Str×Addr)) (C:Addr) (s₂:Shared) (H₂:Hp) (fp:List Addr) (pins:List (Addr×Obj)) (s':Shared) (σ':St) (H':Hp) (Q:Bool->Hp->Prop),Inv (X.blk sc cl C (lcN X x js) s₂ H₂ fp) pins σ' H' s'->tt σ' H' Q ->
   wpAny (model X.prog X.w) X.A (YM ifs (compEnvC sc cl C X.env)) (TP (X.blk sc cl C (lcN X x js) s₂ H₂ fp) pins σ' Q) (fun _ _=>False) s')
  (he:∀(cl:List (Str×Addr)) (C:Addr) (s₂:Shared) (H₂:Hp) (fp:List Addr),PE (X.blk sc cl C (lcN X x js) s₂ H₂ fp) elt te)
  (hs:∀x,foldedSetIterable iter X.env x=pure x:=by intro _;rfl) :
  PE X (.ListComp elt [⟨.Name x px,iter,ifs,0⟩] sc pos) (tLC wi js tt te):=by
 intro pins s σ H Q I h
 rw[eval_ListComp]
 refine zhJ (use:=none) (Fin:=fun ys H=>∀p,H p=none->Q (.ref p) (upd H p (.lst ys))) VR L hc hi hjs ht he hs I h fun D C s5 H5 ys its k m5 J oD oC hDC p1 vs z hn fin=>?_
 refine⟨m5,hn,fun h' hsb=>?_⟩
 have J2:Inv X pins σ H5 { s5 with heap:=h',toks:=s5.toks }:=J.turned (it:=C) (fun b o hb e=>hsb.extBut b o hb e) oC.free oC.loc (.inr oC.new) oC.cel oC.pin
 have p1':h'.get? D=some (tG its k):=hsb.extBut _ _ hDC p1
 have J3:Inv X pins σ (upd H5 D (.lst ys)) { s5 with heap:=h',toks:=s5.toks }:=J2.track oD.free oD.loc oD.new oD.cel oD.pin ⟨z,its,k,vs,p1'⟩
 exact⟨.ref D,_,J3,rfl,fin D oD.free⟩
theorem zjw (VR:X.env.scope=Zx)(L:XJ Zx sc x (js.map fun j=>X.N.getD j ""))(hc:X.calm=true)(hi:PI X (.Name x px) iter wi)(hjs:∀j∈js,j<X.N.length)
  (ht:∀(cl:List (Str×Addr)) (C:Addr) (s₂:Shared) (H₂:Hp) (fp:List Addr) (pins:List (Addr×Obj)) (s':Shared) (σ':St) (H':Hp) (Q:Bool->Hp->Prop),Inv (X.blk sc cl C (lcN X x js) s₂ H₂ fp) pins σ' H' s'->tt σ' H' Q ->
   wpAny (model X.prog X.w) X.A (YM ifs (compEnvC sc cl C X.env)) (TP (X.blk sc cl C (lcN X x js) s₂ H₂ fp) pins σ' Q) (fun _ _=>False) s')
  (he:∀(cl:List (Str×Addr)) (C:Addr) (s₂:Shared) (H₂:Hp) (fp:List Addr),PE (X.blk sc cl C (lcN X x js) s₂ H₂ fp) elt te)
  (hs:∀x,foldedSetIterable iter X.env x=pure x:=by intro _;rfl) :
  PE X (.ListComp elt [⟨.Name x px,iter,ifs,0⟩] sc pos) (tLC wi js tt te) :=
 zhK VR L (rd:=Calm) (fun _ _ _ _ _ _ _=>hc) hi hjs ht he hs
def sLC (i:Nat)(wi:TI)(js:List Nat)(tt:TT)(te:TE):TS:=fun D σ H=>tLC wi js tt te σ H fun v H1=>D.nx (σ.set i (some v)) H1
theorem MN {i:Nat}{y:Str}{py spos:Pos}(hN:X.N.Nodup)(hy:X.N[i]?=some y)(hl:Loc X.env.scope y)(hf:X.fn y=true\/X.env.scope.names.lookup y=some .local)
  (VR:X.env.scope=Zx)(L:XJ Zx sc x (js.map fun j=>X.N.getD j ""))(hc:X.calm=true)(hi:PI X (.Name x px) iter wi)(hjs:∀j∈js,j<X.N.length)
  (ht:∀(cl:List (Str×Addr)) (C:Addr) (s₂:Shared) (H₂:Hp) (fp:List Addr) (pins:List (Addr×Obj)) (s':Shared) (σ':St) (H':Hp) (Q:Bool->Hp->Prop),Inv (X.blk sc cl C (lcN X x js) s₂ H₂ fp) pins σ' H' s'->tt σ' H' Q ->
   wpAny (model X.prog X.w) X.A (YM ifs (compEnvC sc cl C X.env)) (TP (X.blk sc cl C (lcN X x js) s₂ H₂ fp) pins σ' Q) (fun _ _=>False) s')
  (he:∀(cl:List (Str×Addr)) (C:Addr) (s₂:Shared) (H₂:Hp) (fp:List Addr),PE (X.blk sc cl C (lcN X x js) s₂ H₂ fp) elt te)
  (hsw:swapsWith (.ListComp elt [⟨.Name x px,iter,ifs,0⟩] sc pos) (some (.Name y py)) spos.line X.env=pure true)(hs:∀x,foldedSetIterable iter X.env x=pure x:=by intro _;rfl) :
  PS X (.Assign [.Name y py] (.ListComp elt [⟨.Name x px,iter,ifs,0⟩] sc pos) spos) (sLC i wi js tt te):=by
 intro pins s σ H D I h
 rw[exec_Assign_Name_used _ _ _ _ hsw]
 refine wpAny_bind (wpAny_standAt (wpAny_bind ?_))
 show wpAny _ _ (do let _ <-comprehension (.ListComp elt [⟨.Name x px,iter,ifs,0⟩] sc pos) sc X.env _ (newList []) false (eval iter X.env) (some (assign (.Name y py) X.env))) _ _ s
 have pg:=yS (X:=X) (i:=i) (x:=y) (pos:=py) hN hy hl hf
 refine wpAny_bind (wpAny_mono (zhJ (use:=some (assign (.Name y py) X.env)) (QQ:=fun _ z=>SP X pins D .next z) (Fin:=fun ys H=>∀p,H p=none->D.nx (σ.set i (some (.ref p))) (upd H p (.lst ys))) VR L (rd:=Calm) (fun _ _ _ _ _ _ _=>hc) hi hjs ht he hs I h fun A C s5 H5 ys its k m5 J oD oC hDC p1 vs z hn fin=>?_) (fun _ z hq=>wpAny_pure (wpAny_pure hq)) fun _ _ e=>e)
 have J1:Inv X pins σ (upd H5 A (.lst ys)) s5:=J.track oD.free oD.loc oD.new oD.cel oD.pin ⟨z,its,k,vs,p1⟩
 obtain⟨oc,es,ep,hC,hd,hr⟩:=hn
 have Nr:∀v,oc.data≠.cell v:=fun v q=>by rw[hd] at q;cases q
 have hCA:C≠A:=Ne.symm hDC
 have fC:(upd H5 A (.lst ys)) C=none:=by rw[zE hCA];exact oC.free
 have J2:Inv X (pins++[(C,oc)]) σ (upd H5 A (.lst ys)) s5:=J1.Td fun p hp=>(List.mem_append.mp hp).elim (fun q=>J1.pin p (zut _ q)) fun q=>by
  have e:p=(C,oc):=by simpa using q
  subst e
  exact⟨hC,fC,oC.loc,oC.fs,Nr⟩
 refine wpAny_mono (pg _ s5 σ _ (.ref A) (.ref A) (fun σ6 H6=>σ6=σ.set i (some (.ref A))/\H6=upd H5 A (.lst ys)) J2 rfl ⟨rfl,rfl⟩) (fun _ s6 ⟨σ6,H6,I6,e1,e2⟩=>?_) fun _ _ e=>e
 subst e1 e2
 obtain⟨c1,c2,_⟩:=I6.pin (C,oc) (zut _ (zut _ (by simp)))
 refine⟨m5,⟨oc,es,ep,c1,hd,hr⟩,fun h' hsb=>?_⟩
 have J3:Inv X pins (σ.set i (some (.ref A))) (upd H5 A (.lst ys)) s6:=I6.Td fun p hp=>I6.pin p (zut _ (List.mem_append_left _ hp))
 have J4:Inv X pins (σ.set i (some (.ref A))) (upd H5 A (.lst ys)) { s6 with heap:=h',toks:=s6.toks }:=J3.turned (it:=C) (fun b o hb e=>hsb.extBut b o hb e) c2 oC.loc (.inr oC.new) oC.cel oC.pin
 exact⟨_,_,J4,fin A oD.free⟩
end
section
variable {X:Cx}
def zcb:TT:=fun _ H Q=>Q true H
theorem V0 {sc Zx:Scope}{x:Str}{js:List Nat}{elt iter:Expr}{px pos:Pos}{wi:TI}{te:TE}(VR:X.env.scope=Zx)(L:XJ Zx sc x (js.map fun j=>X.N.getD j ""))(hc:X.calm=true)(hi:PI X (.Name x px) iter wi)(hjs:∀j∈js,j<X.N.length)
  (he:∀(cl:List (Str×Addr)) (C:Addr) (s₂:Shared) (H₂:Hp) (fp:List Addr),PE (X.blk sc cl C (lcN X x js) s₂ H₂ fp) elt te)
  (hs:∀x,foldedSetIterable iter X.env x=pure x:=by intro _;rfl) :
  PE X (.ListComp elt [⟨.Name x px,iter,[],0⟩] sc pos) (tLC wi js zcb te) :=
 zjw VR L hc hi hjs (fun cl C s₂ H₂ fp pins s' σ' H' Q I h=>wpAny_pure ⟨H',I,h⟩) he hs
theorem zjx {sc Zx:Scope}{x:Str}{js:List Nat}{elt iter c:Expr}{px pos:Pos}{wi:TI}{te:TE}{tt:TT}(VR:X.env.scope=Zx)(L:XJ Zx sc x (js.map fun j=>X.N.getD j ""))(hc:X.calm=true)(hi:PI X (.Name x px) iter wi)(hjs:∀j∈js,j<X.N.length)
  (ht:∀(cl:List (Str×Addr)) (C:Addr) (s₂:Shared) (H₂:Hp) (fp:List Addr),PT (X.blk sc cl C (lcN X x js) s₂ H₂ fp) c tt)
  (he:∀(cl:List (Str×Addr)) (C:Addr) (s₂:Shared) (H₂:Hp) (fp:List Addr),PE (X.blk sc cl C (lcN X x js) s₂ H₂ fp) elt te)
  (hs:∀x,foldedSetIterable iter X.env x=pure x:=by intro _;rfl) :
  PE X (.ListComp elt [⟨.Name x px,iter,[c],0⟩] sc pos) (tLC wi js tt te) :=
 zjw VR L hc hi hjs (fun cl C s₂ H₂ fp pins s' σ' H' Q I h=>wpAny_tests_one (ht cl C s₂ H₂ fp pins s' σ' H' Q I h)) he hs
theorem zaD {K:Frag}{a:Addr}{xs:List V}{σ:St}{js:List Nat}{tt:TT}{te:TE}{H:Hp}{Qf:Addr->Hp->List V->Prop}(Pv:Nat->List V->Hp->Prop)(h0:Pv 0 [] H)(hz:xs.length<=sizeLine)
  (hl:∀i ys H,i<=xs.length->Pv i ys H->zB K H a xs/\ys.length<=i)
  (hs:∀i x ys H,xs[i]?=some x->Pv i ys H->tt (Xu σ js (some x)) H fun b H2=>if b=true then te (Xu σ js (some x)) H2 fun v H3=>Pv (i+1) (ys++[v]) H3 else Pv (i+1) ys H2)
  (mt:∀ σ H Q Q',(∀b H1,Q b H1->Q' b H1)->tt σ H Q->tt σ H Q')(me:∀ σ H Q Q',(∀v H1,Q v H1->Q' v H1)->te σ H Q->te σ H Q')
  (hd:∀ys H p,Pv xs.length ys H->H p=none->Qf p H ys) :
  ∃W:Nat->Nat->List V->Hp->Prop,(∃m,W 0 m [] H)/\∀i m ys H,W i m ys H ->
   ((Itl K a).stop i H/\∀p,H p=none->Qf p H ys) \/
   ((Itl K a).go i H/\ys.length<sizeLine/\∀x H',(Itl K a).KQ i H x H'->tt (Xu σ js (some x)) H' fun b H2 =>
    if b=true then te (Xu σ js (some x)) H2 fun v H3=>∃m',m'<m/\W (i+1) m' (ys++[v]) H3 else ∃m',m'<m/\W (i+1) m' ys H2):=by
 refine⟨fun i m ys H=>m=xs.length-i/\i<=xs.length/\Pv i ys H,⟨xs.length,by simp,zuy _,h0⟩,?_⟩
 rintro i m ys H ⟨rfl,hi,p⟩
 obtain⟨q,hy⟩:=hl i ys H hi p
 by_cases hlt:i<xs.length
 ·refine .inr ⟨⟨xs,xs[i],q,by simp[hlt]⟩,by omega,fun x H' y=>?_⟩
  obtain⟨e,y⟩:=y
  subst e
  refine mt _ _ _ _ (fun b H2 h2=>?_) (hs i x ys _ (y xs q) p)
  cases b with
  | true =>
   rw[if_pos rfl] at h2 ⊢
   exact me _ _ _ _ (fun v H3 h3=>⟨_,by omega,rfl,hlt,h3⟩) h2
  | false =>
   rw[if_neg zug] at h2 ⊢
   exact⟨_,by omega,rfl,hlt,h2⟩
 ·have e:i=xs.length:=by omega
  subst e
  exact .inl ⟨⟨xs,q,zus _⟩,fun pp hp=>hd ys H pp p hp⟩
theorem zjy {K:Frag}{a:Addr}{xs:List V}{σ:St}{js:List Nat}{tt:TT}{te:TE}{H:Hp}{Qf:Addr->Hp->List V->Prop}(Pv:Nat->List V->Hp->Prop)(h0:Pv 0 [] H)(hz:xs.length<=sizeLine)
  (hl:∀i ys H,i<=xs.length->Pv i ys H->vf K H a xs/\ys.length<=i)
  (hs:∀i x ys H,xs[i]?=some x->Pv i ys H->tt (Xu σ js (some x)) H fun b H2=>if b=true then te (Xu σ js (some x)) H2 fun v H3=>Pv (i+1) (ys++[v]) H3 else Pv (i+1) ys H2)
  (mt:∀ σ H Q Q',(∀b H1,Q b H1->Q' b H1)->tt σ H Q->tt σ H Q')(me:∀ σ H Q Q',(∀v H1,Q v H1->Q' v H1)->te σ H Q->te σ H Q')
  (hd:∀ys H p,Pv xs.length ys H->H p=none->Qf p H ys) :
  ∃W:Nat->Nat->List V->Hp->Prop,(∃m,W 0 m [] H)/\∀i m ys H,W i m ys H ->
   ((Itt K a).stop i H/\∀p,H p=none->Qf p H ys) \/
   ((Itt K a).go i H/\ys.length<sizeLine/\∀x H',(Itt K a).KQ i H x H'->tt (Xu σ js (some x)) H' fun b H2 =>
    if b=true then te (Xu σ js (some x)) H2 fun v H3=>∃m',m'<m/\W (i+1) m' (ys++[v]) H3 else ∃m',m'<m/\W (i+1) m' ys H2):=by
 refine⟨fun i m ys H=>m=xs.length-i/\i<=xs.length/\Pv i ys H,⟨xs.length,by simp,zuy _,h0⟩,?_⟩
 rintro i m ys H ⟨rfl,hi,p⟩
 obtain⟨q,hy⟩:=hl i ys H hi p
 by_cases hlt:i<xs.length
 ·refine .inr ⟨⟨xs,xs[i],q,by simp[hlt]⟩,by omega,fun x H' y=>?_⟩
  obtain⟨e,y⟩:=y
  subst e
  refine mt _ _ _ _ (fun b H2 h2=>?_) (hs i x ys _ (y xs q) p)
  cases b with
  | true =>
   rw[if_pos rfl] at h2 ⊢
   exact me _ _ _ _ (fun v H3 h3=>⟨_,by omega,rfl,hlt,h3⟩) h2
  | false =>
   rw[if_neg zug] at h2 ⊢
   exact⟨_,by omega,rfl,hlt,h2⟩
 ·have e:i=xs.length:=by omega
  subst e
  exact .inl ⟨⟨xs,q,zus _⟩,fun pp hp=>hd ys H pp p hp⟩
theorem za2 {x:V}:∀{xs:List V} {us:List Value},Vals xs us->xs.all v7=true->∀{j:Nat},xs.findIdx? (fun y=>eqV y x)=some j ->
  ∃hj:j<us.length,eqU x us[j]=true/\∀m (hm:m<us.length),m<j->eqU x us[m]=false
 | _,_,.nil,_,j,h=>by simp at h
 | y::xs,u::us,.cons r t,f,j,h=>by
  rw[List.all_cons,zuD] at f
  rw[List.findIdx?_cons] at h
  by_cases hy:eqV y x=true
  ·rw[if_pos hy] at h
   cases h
   refine⟨by simp,?_,fun m hm hlt=>absurd hlt (Nat.not_lt_zero _)⟩
   show eqU x u=true
   rw[zdP r f.1];exact hy
  ·rw[if_neg hy] at h
   cases hq:xs.findIdx? (fun y=>eqV y x) with
   | none=>rw[hq] at h;cases h
   | some k =>
    rw[hq] at h
    have e:k+1=j:=zuG h
    subst e
    obtain⟨hk,h1,h2⟩:=za2 t f.2 hq
    refine⟨by rw[zuo];omega,h1,fun m hm hlt=>?_⟩
    cases m with
    | zero =>
     show eqU x u=false
     rw[zdP r f.1];exact Bool.eq_false_iff.mpr hy
    | succ m=>exact h2 m (by rw[zuo] at hm;omega) (by omega)
def zjz (K:Frag):V->List V->Hp->VK->Prop:=fun x vs H Q=>∃l xs y j,x=.ref l/\vs=[y]/\zB K H l xs/\v7 y=true/\xs.all v7=true/\xs.findIdx? (fun z=>eqV z y)=some j/\Q (.int (j:Nat)) H
theorem MP:MtM X "list.index" (zjz X.K):=by
 intro pins s σ H x vs v us Q I rx rv h
 obtain⟨l,xs,y,j,rfl,rfl,hq,fy,fs,hj,q⟩:=h
 cases rx
 obtain⟨u,rfl,ru⟩:=rv.one
 obtain⟨its,r,⟨o,n,e,hc,hd,hdat⟩,hz⟩:=I.list hq
 obtain⟨cls,dd,dt,sl⟩:=o
 have hc':cls=.type "list" := hc
 have hdat':dt=.seq its.toArray n:=hdat
 subst hc' hdat'
 obtain⟨h1,h2,h3⟩:=za2 r fs hj
 have hl:=r.length
 have hn:=Tr
 refine call_meets F.slot_list_index ⟨_,e,rfl⟩ F.entry_list_index (F.args_list_index_2 _ _) (SeqAt.list_indexAt l its.toArray n dd sl u (eqU y) j (by simpa using h1) (by omega) (by simpa using h2) (fun m hm hlt=>by simpa using h3 m (by simpa using hm) hlt)) ⟨e,fun w hw=>Ur ru fy r fs w (by simpa using hw),?_⟩
 exact⟨.int (j:Nat),H,I.tok _,⟨_,rfl⟩,q⟩
def zlu:V->List V->Hp->VK->Prop:=fun x vs H Q=>∃l xs i y,x=.ref l/\vs=[.int i,y]/\H l=some (.lst xs)/\0<=i/\i<=(xs.length:Int)/\xs.length<sizeLine/\Q .non (upd H l (.lst (xs.take i.toNat++y::xs.drop i.toNat)))
theorem zgB {A:Around}{s:Shared}{P:Program}{w:World}{E:Value->Shared->Prop}{Q:Value->Shared->Prop}{l:Addr}{its:List Value}{n:Nat}{i:Int}{t:Tok}{u:Value}(e:s.heap.get? l=some { cls:=.type "list", data:=.seq its.toArray n })(h0:0<=i)(h1:i<=(its.length:Int))(hz:its.length<=sizeLine)
  (h:∀f:Array Value->Array Value,f its.toArray=(its.take i.toNat++u::its.drop i.toNat).toArray->Q .none { s with heap:=s.heap.update l (Obj.mapSeq f),toks:=s.toks }):wpAny (model P w) A (call (.builtin "list.insert") [.ref l,.int i t,u]) Q E s:=by
 have hn:=Tr
 have fit:¬(!Builtin.List.listFitsIndex i)=true:=by
  rw[fitsIndex_both (k:=i) (Int.le_trans (by decide) h0) (by omega)]
  exact zug
 have hs3:its.toArray.size<=sizeLine:=by rw[zum];exact hz
 have M:=AutoSeq1.list_insert_list_int_val_1 l its.toArray n i t u fit hs3
 refine call_meets F.slot_list_insert ⟨_,e,rfl⟩ F.entry_list_insert (F.args_list_insert_3 _ _ _) M ⟨e,?_⟩
 refine h _ ?_
 have hk:(if i<0 then (i+(its.toArray.size:Int)).toNat else min i.toNat its.toArray.size)=i.toNat:=by
  rw[if_neg (by omega),zum]
  omega
 show(its.toArray.extract 0 (if i<0 then (i+(its.toArray.size:Int)).toNat else min i.toNat its.toArray.size)).push u++its.toArray.extract (if i<0 then (i+(its.toArray.size:Int)).toNat else min i.toNat its.toArray.size)=_
 rw[hk]
 apply Array.toList_inj.mp
 simp[List.take_of_length_le]
theorem zc7:MtM X "list.insert" zlu:=by
 intro pins s σ H x vs v us Q I rx rv h
 obtain⟨l,xs,i,y,rfl,rfl,hH,h0,h1,hz,q⟩:=h
 cases rx
 obtain⟨u,w,rfl,⟨t,rfl⟩,rw'⟩:=rv.two
 obtain⟨z,its,n,r,hl,e⟩:=I.zjp hH
 refine zgB e h0 (by rw[<-hl];exact h1) (by omega) fun f hf=>?_
 refine⟨.non,_,I.zlo (its':=its.take i.toNat++w::its.drop i.toNat) hH e hf ((r.take i.toNat).append (.cons rw' (r.drop i.toNat))) ?_,rfl,q⟩
 rw[zuk,zuo,zuz,List.length_drop]
 omega
def zjA (K:Frag):V->List V->Hp->VK->Prop:=fun x vs H Q=>∃l b xs zs,x=.ref l/\vs=[.ref b]/\H l=some (.lst xs)/\vf K H b zs/\xs.length+zs.length<=sizeLine/\Q .non (upd H l (.lst (xs++zs)))
theorem K7 (l:Addr)(its:Array Value)(n:Nat)(b:Addr)(its2:Array Value)(n2:Nat)(dd:Option Addr)(sl:Array (Option Value))(h0:¬(!its.isEmpty&&Builtin.List.listTooLong (its.size+its2.size))=true)(h1:its.size<=sizeLine)(h2:its.size+its2.size<=sizeLine+1) :
  Meets (Builtin.«list.extend» ⟨[.ref l,.ref b],[]⟩) (fun _ R s=>s.heap.get? l=some { cls:=.type "list", data:=.seq its n }/\s.heap.get? b=some { cls:=.type "tuple", dict:=dd,data:=.seq its2 n2,slots:=sl } /\
   R (.ok (.ret Value.none)) { s with heap:=s.heap.update l (Obj.mapSeq fun x=>x++its2),toks:=s.toks }) :=
 .of_wp fun prog w A R s h=>by
  obtain⟨hp,g,d,tk,os⟩:=s
  obtain⟨hl,hb,h⟩:=h
  have g1:=AutoSeq1.idx_int
  have g2:=AutoSeq1.sub_tuple_tuple
  have g3:=AutoSeq1.sub_list_list
  have g4:=AutoSeq1.sub_tuple_list
  have g5:=AutoSeq1.sub_list_tuple
  have hz:(its++its2).size<=sizeLine+1:=by rw[Array.size_append];exact h2
  wp_walk using (wpAny_updateSeq hl rfl (hz:=h1) (_hz':=hz)),AutoSeq1.wpAny_loadPart' hl,AutoSeq1.wpAny_loadPart' hb
  exact⟨_,rfl,h⟩
theorem za3:MtM X "list.extend" (zjA X.K):=by
 intro pins s σ H x vs v us Q I rx rv h
 obtain⟨l,b,xs,zs,rfl,rfl,hH,hB,hz,q⟩:=h
 cases rx
 obtain⟨u,rfl,ru⟩:=rv.one
 cases ru
 obtain⟨z,its,n,r,hl,e⟩:=I.zjp hH
 obtain⟨its2,r2,⟨o,e2,hc,n2,hd⟩,z2⟩:=I.tuple hB
 obtain⟨cls,dd,dt,sl⟩:=o
 have hc':cls=.type "tuple" := hc
 have hd':dt=.seq its2.toArray n2:=hd
 subst hc' hd'
 have hl2:=r2.length
 have hsz:its.toArray.size+its2.toArray.size<=sizeLine:=by rw[zum,zum];omega
 have zjq:¬(!its.toArray.isEmpty&&Builtin.List.listTooLong (its.toArray.size+its2.toArray.size))=true:=by
  rw[zeZ hsz,Bool.and_false]
  exact zug
 refine call_meets F.slot_list_extend ⟨_,e,rfl⟩ F.entry_list_extend (F.args_list_extend_2 _ _)
  (K7 l its.toArray n b its2.toArray n2 dd sl zjq (by rw[zum];omega) (by omega)) ⟨e,e2,?_⟩
 refine⟨.non,_,I.zlo (its':=its++its2) hH e (by simp) (r.append r2) ?_,rfl,q⟩
 rw[zuk]
 omega
theorem zcc (bs:List Bool):((List.range bs.length).all fun i=>(bs[i]?).getD true)=bs.all id:=by
 rw[zuR,zuF,zuF]
 constructor
 ·intro h b hb
  obtain⟨i,hi,e⟩:=zuS hb
  have q:=h i (List.mem_range.mpr hi)
  rw[zud hi,Option.getD_some,e] at q
  exact q
 ·intro h i hi
  have hi':=List.mem_range.mp hi
  rw[zud hi',Option.getD_some]
  exact h _ (List.getElem_mem hi')
theorem RB (hc:X.calm=true):Rj X (.builtin "all") (fun xs H Q=>∃(p:Addr) (bs:List Bool),xs=[.ref p]/\zB X.K H p (bs.map V.bl)/\Q (.bl (bs.all id)) H):=by
 intro pins s σ H xs us Q I r h
 obtain⟨p,bs,rfl,hq,q⟩:=h
 obtain⟨u,rfl,rx⟩:=vals1 r
 cases rx
 obtain⟨its,r',pl,hz⟩:=I.list hq
 have hlen:bs.length=its.length:=by have:=r'.length;rw[zuc] at this;exact this
 have hlt:p<s.heap.objs.size:=by obtain⟨_,e,_⟩:=pl.isList;exact zuj e
 refine call_all_walk (wpAny_pyIter_list pl.isList ?_)
 refine⟨s.heap.objs.size,[s.heap.objs.size,p],[s.heap.objs.size],its.toArray.size,_,_,fun i=>(bs[i]?).getD true,rfl,Walks.list (A:=X.A.in1) (I.ok.hd hc) _ p (zur hlt) its.toArray,
  ⟨⟨_,zuw _ rfl,rfl,rfl⟩,pl.isList.push _⟩,fun i v s' Q' E' hP hQ=>?_,fun h' tk hk=>?_⟩
 ·have hP':its[i]?=some v:=by simpa using hP
  have hi:i<bs.length:=by
   have:=(zuf.mp hP').1
   omega
  obtain⟨w,hw,rw'⟩:=r'.get (i:=i) (x:=.bl bs[i]) (by rw[zue,zud hi];rfl)
  rw[hP'] at hw
  cases hw
  cases rw'
  simp only[zud hi,Option.getD_some] at hQ
  exact wpAny_truthy_bool hQ
 ·have kp:∀b o,s.heap.get? b=some o->h'.get? b=some o:=fun b o e=>hk b o (fun hm=>by
   rw[List.mem_singleton.mp hm] at e
   exact Nat.lt_irrefl _ (zuj e)) (zui _ e)
  refine⟨.bl _,H,I.kept kp,rfl,?_⟩
  rw[zum,<-hlen,zcc]
  exact q
theorem zjB (hc:X.calm=true):Rj X (.builtin "sum") (fun xs H Q=>∃(p:Addr) (ns:List Int),xs=[.ref p]/\zB X.K H p (ns.map V.int)/\Q (.int ns.sum) H):=by
 intro pins s σ H xs us Q I r h
 obtain⟨p,ns,rfl,hq,q⟩:=h
 obtain⟨u,rfl,rx⟩:=vals1 r
 cases rx
 obtain⟨its,r',pl,hz⟩:=I.list hq
 have hi:IntsAre its ns:=intsAre_of r'
 obtain⟨zs,hx⟩:=hi.allInts.items
 have hl':s.heap.IsList p (intItems zs):=hx ▸ pl.isList
 refine sum_intListG (I.ok.hd hc) hl' fun h' tk t' hk=>?_
 have e1:ns=zs.toList.map (·.1):=by
  rw[<-nums_intItems,<-hx]
  exact(show numsOf its.toArray.toList=ns from hi.numsOf).symm
 have e2:preSum (numAt zs) zs.size=ns.sum:=by
  rw[preSum_eq,List.take_of_length_le (by simp),e1]
 rw[e2]
 exact⟨.int ns.sum,H,I.kept hk,⟨_,rfl⟩,q⟩
theorem RD:Rj X (.builtin "isinstance") (fun xs H Q=>∃x T t b,xs=[x,.ty T]/\Mu X.K H x t/\PySem.W.kitOne X.K t (.type T)=some b/\Q (.bl b) H):=by
 intro pins s σ H xs us Q I r h
 obtain⟨x,T,t,b,rfl,ty,e,q⟩:=h
 obtain⟨u,w',rfl,rx,ry⟩:=vals2 r
 cases ry
 exact ziu I rx ty e fun tk=>⟨.bl b,H,I.tok _,rfl,q⟩
end
def met (acc:List Str)(x:Str):List Str:=if acc.any (·==x) then acc else acc++[x]
def dd (xs:List Str):List Str:=xs.foldl met []
theorem zhL (xs:List Str)(x:Str):dd (xs++[x])=met (dd xs) x:=by
 unfold dd
 rw[List.foldl_append]
 rfl
theorem zaE (acc:List Str)(x k:Str):(met acc x).any (·==k)=(acc.any (·==k)||decide (k=x)):=by
 unfold met
 by_cases h:acc.any (·==x)=true
 ·rw[if_pos h]
  by_cases e:k=x
  ·subst e;rw[h];simp
  ·simp[e]
 ·rw[if_neg h,List.any_append]
  by_cases e:k=x
  ·subst e;simp
  ·have hb:(x==k)=false:=by simpa [beq_iff_eq] using (fun z:x=k=>e z.symm)
   simp[hb,e]
theorem Vk (acc:List Str)(x:Str):(met acc x).length=if acc.any (·==x)=true then acc.length else acc.length+1:=by
 unfold met
 split<;>simp
theorem zoX (xs:List Str):(dd xs).length<=xs.length:=by
 suffices h:∀acc:List Str,(xs.foldl met acc).length<=acc.length+xs.length by have:=h [];unfold dd;simpa using this
 induction xs with
 | nil=>intro acc;simp
 | cons x r ih =>
  intro acc
  rw[List.foldl_cons]
  have h1:=ih (met acc x)
  have h2:=Vk acc x
  rw[zuo]
  split at h2<;>omega
theorem zjC {xs:List Str}(h:xs.Nodup):(dd xs).length=xs.length:=by
 suffices g:∀acc:List Str,(∀x∈xs,acc.any (·==x)=false)->(xs.foldl met acc).length=acc.length+xs.length by have:=g [] (fun _ _=>rfl);unfold dd;simpa using this
 induction xs with
 | nil=>intro acc _;simp
 | cons x r ih =>
  intro acc ha
  obtain⟨hx,hr⟩:=List.nodup_cons.mp h
  rw[List.foldl_cons,ih hr (met acc x) (fun y hy=>?_),Vk,ha x zuv]
  ·simp;omega
  ·rw[zaE,ha y (zun _ hy)]
   have:y≠x:=fun e=>hx (e ▸ hy)
   simp[this]
theorem znB {xs:List Str}(h:¬xs.Nodup):(dd xs).length<xs.length:=by
 suffices g:∀acc:List Str,¬xs.Nodup->(xs.foldl met acc).length<acc.length+xs.length by have:=g [] h;unfold dd;simpa using this
 clear h
 have le:∀(ys acc:List Str),(ys.foldl met acc).length<=acc.length+ys.length:=fun ys=>by
  induction ys with
  | nil=>intro acc;simp
  | cons x r ih =>
   intro acc
   rw[List.foldl_cons]
   have h1:=ih (met acc x)
   have h2:=Vk acc x
   rw[zuo]
   split at h2<;>omega
 have mem:∀(ys acc:List Str) (x:Str),x∈ys->acc.any (·==x)=true->(ys.foldl met acc).length<acc.length+ys.length:=fun ys=>by
  induction ys with
  | nil=>intro acc x hx _;cases hx
  | cons y r ih =>
   intro acc x hx ha
   rw[List.foldl_cons,zuo]
   rcases List.mem_cons.mp hx with e | hx
   ·subst e
    have h1:=le r (met acc x)
    have h2:=Vk acc x
    rw[if_pos ha] at h2
    omega
   ·have h1:=ih (met acc y) x hx (by rw[zaE,ha];rfl)
    have h2:=Vk acc y
    split at h2<;>omega
 induction xs with
 | nil=>intro acc h;exact absurd List.nodup_nil h
 | cons x r ih =>
  intro acc h
  rw[List.foldl_cons,zuo]
  by_cases hx:x∈r
  ·have h1:=mem r (met acc x) x hx (by rw[zaE];simp)
   have h2:=Vk acc x
   split at h2<;>omega
  ·have h1:=ih (met acc x) (fun hr=>h (List.nodup_cons.mpr ⟨hx,hr⟩))
   have h2:=Vk acc x
   split at h2<;>omega
abbrev za4 (led:Bool):Obj:={ cls:=.type "set", dict:=none,data:=.set #[] 0 (.fresh 0 0 led) }
section
variable {P:Program}{w:World}{A:Around}{R:Result->Shared->Prop}{E:Value->Shared->Prop}{s:Shared}
theorem zjD {I:Addr}{fp wr:List Addr}{G:Array GenState->Array GenState->Prop}{n:Nat}{Pv:Nat->Value->Prop}{St:Nat->Shared->Prop}(W:WalksS P w A.in1 I fp wr G n Pv St)(S:Addr)(hS:S∉fp)(xs:List Str)(hn:xs.length=n)
  (hv:∀i v,Pv i v->∃t,v=.str (xs.getD i "") t)(hb:n+1<scanBound) :
  ∀(k i:Nat) (z:Shared),n-i=k->i<=n->St i z->z.heap.SetOf (strKind P w) S (fun q=>(dd (xs.take i)).any (·==q)) (dd (xs.take i)).length ->
   (∀z',Moved (S::wr) G z z'->z'.heap.SetOf (strKind P w) S (fun q=>(dd xs).any (·==q)) (dd xs).length->R (.ok (.ret .none)) z') ->
   codeAny (model P w) A (.builtin "set.update.loop" ⟨[.ref S,.ref I],[]⟩) R z:=by
 have zoY:S∉wr:=fun h=>hS (W.sub _ h)
 have more:∀b∈wr,b∈S::wr:=fun b h=>zun _ h
 intro k
 induction k with
 | zero =>
  intro i z hk hi st zlv fin
  have ei:i=n:=by omega
  subst ei
  refine codeAny_builtin PyProof.Rows.F.entry_set_update_loop ?_
  rw[Around.under_plainId PyProof.Rows.F.plain_set_update_loop _]
  show wpAny _ A.in1 (pyNext (.ref I)>>=_) _ _ z
  refine wpAny_bind (W.done z _ _ st fun z' mv=>?_)
  show wpAny _ A.in1 (ret Value.none) _ _ z'
  refine wpAny_pure (fin z' (mv.mono more) ?_)
  rw[<-hn,zuE] at zlv
  obtain⟨o,es,ep,t,ho,more'⟩:=zlv
  exact⟨o,es,ep,t,mv.heap S _ zoY ho,more'⟩
 | succ k ih =>
  intro i z hk hi st zlv fin
  have il:i<n:=by omega
  refine codeAny_builtin PyProof.Rows.F.entry_set_update_loop ?_
  rw[Around.under_plainId PyProof.Rows.F.plain_set_update_loop _]
  show wpAny _ A.in1 (pyNext (.ref I)>>=_) _ _ z
  refine wpAny_bind (W.item i z _ _ il st fun v z' pv st' mv=>?_)
  obtain⟨t,rfl⟩:=hv i v pv
  have hset':z'.heap.SetOf (strKind P w) S (fun q=>(dd (xs.take i)).any (·==q)) (dd (xs.take i)).length:=by
   obtain⟨o,es,ep,tb,ho,more'⟩:=zlv
   exact⟨o,es,ep,tb,mv.heap S _ zoY ho,more'⟩
  show wpAny _ A.in1 (holding [Value.str (xs.getD i "") t] (setAdd S (.str (xs.getD i "") t))>>=_) _ _ z'
  refine wpAny_bind (wpAny_holding ?_)
  unfold setAdd
  refine wpAny_holding ?_
  refine wpAny_bind ((strKind P w).pyHash (k:=xs.getD i "") (strKind_is _ _ _ _) ?_)
  have hroom:(dd (xs.take i)).length+1<scanBound:=by
   have:=zoX (xs.take i)
   rw[zuz] at this
   omega
  have et:xs.take (i+1)=xs.take i++[xs.getD i ""]:=by
   rw[List.take_succ,zup,zud (by omega)]
   rfl
  refine wpAny_setAddHashed_of (knd:=strKind P w) (s:={ z' with toks:=z'.toks+1 }) (strKind_is _ _ _ _) rfl hset' hroom fun h' sb s2=>?_
  have zoZ:h'.SetOf (strKind P w) S (fun q=>(dd (xs.take (i+1))).any (·==q)) (dd (xs.take (i+1))).length :=
   SetOf_congr s2 (fun q=>by rw[et,zhL,zaE]) (by rw[et,zhL,Vk])
  refine wpAny_pure ⟨plainId_quiet PyProof.Rows.F.plain_set_update_loop _,ih (i+1) _ (by omega) il (W.frame _ z' _ _ st' (Nat.le_succ _) fun b hb' o e=>?_) zoZ fun z'' mv2 s3=>?_⟩
  ·rw[sb.2 b (fun h:b=S=>hS (by rw[<-h];exact hb'))];exact e
  ·refine fin z'' (Moved.trans W.gtrans ((mv.mono more).then_heap (Nat.le_succ _) fun b o hb' e=>?_) mv2) s3
   rw[sb.2 b (fun h:b=S=>hb' (by rw[h];exact zuv))];exact e
theorem zlw {xs:List Str}:∀{us:List Value},Vals (xs.map V.str) us->∀(i:Nat) (v:Value),us[i]?=some v->∃t,v=.str (xs.getD i "") t:=by
 intro us r i v h
 have hl:=r.length
 rw[zuc] at hl
 have hi:i<xs.length:=by have:=(zuf.mp h).1;omega
 obtain⟨u,hu,t,e⟩:=r.get (i:=i) (x:=.str xs[i]) (by rw[zue,zud hi];rfl)
 rw[h] at hu
 cases hu
 refine⟨t,?_⟩
 rw[e,zup,zud hi]
 rfl
set_option maxHeartbeats 8000000 in
theorem zjE {l:Addr}{us:List Value}{xs:List Str}{Q:Value->Shared->Prop}(hh:A.handled=none)(hl:s.heap.IsList l us.toArray)(r:Vals (xs.map V.str) us)(hb:xs.length+1<scanBound)
  (h:∀(h':Heap) (tk:Nat),h'.SetOf (strKind P w) s.heap.objs.size (fun q=>(dd xs).any (·==q)) (dd xs).length->(∀b o,s.heap.get? b=some o->h'.get? b=some o)->Q (.ref s.heap.objs.size) { s with heap:=h',toks:=tk }) :
  wpAny (model P w) A (call (.type "set") [.ref l]) Q E s:=by
 have hlen:xs.length=us.toArray.size:=by have:=r.length;rw[zuc] at this;simpa using this
 obtain⟨cc,tl,hmro⟩:=F.called_set.mro
 have made:=F.called_set.made
 have sub:=F.called_set.sub
 refine wpAny_call (codeAny_of_tree ?_)
 show wpAny _ _ (callAny (.type "set") _) _ _ _
 refine wpAny_pure ⟨Code.quiet_builtin _ (by decide +kernel),codeAny_builtin F.entry_type_call ?_⟩
 rw[Around.under_plain (weight_type_call_type "set" [.ref l] []) rfl]
 have a1:=F.called_set.notType
 have a2:=F.called_set.canCreate
 have a3:=F.typeCall_set_1 (.ref l)
 repeat (any_goals (first | assumption | wp_step))
 refine codeAny_mono (code_set_new_1 (.ref l) (E:=E) (Q₁:=fun ob z=>∃led:Bool,ob=.ref s.heap.objs.size/\z={ s with heap:=s.heap.push { cls:=.type "set", dict:=none,data:=.set #[] 0 (.fresh 0 0 led) } }) fun led=>⟨led,rfl,rfl⟩) fun res z hres=>?_
 cases res with
 | error e=>exact hres
 | ok fl =>
  cases fl with
  | ret ob =>
   obtain⟨led,rfl,rfl⟩:=hres
   have gS:(s.heap.push (za4 led)).get? s.heap.objs.size=some (za4 led):=zuw _ rfl
   have tS:Shared.TypeIs { s with heap:=s.heap.push (za4 led) } (.ref s.heap.objs.size) "set" := ⟨_,gS,rfl⟩
   have b1:=F.called_set.init.lookup
   have b2:=F.called_set.init.bind (.ref s.heap.objs.size)
   repeat (any_goals (first | assumption | wp_step))
   refine codeAny_mono (codeAny_call_builtin (R:=wants (fun v z=>v=.none/\∃h' tk,z={ s with heap:=h',toks:=tk }/\h'.SetOf (strKind P w) s.heap.objs.size (fun q=>(dd xs).any (·==q)) (dd xs).length/\(∀b o,s.heap.get? b=some o->h'.get? b=some o)) E)
    F.called_set.init.plain F.entry_set_init (check_set_init_1 tS ?_)) fun res2 z2 zjF=>?_
   ·obtain⟨ol,gl,cl,nl,dl⟩:=hl
    obtain⟨ocls,odict,odata,oslots⟩:=ol
    have cl':ocls=.type "list" := cl
    have dl':odata=.seq us.toArray nl:=dl
    subst cl' dl'
    have gl':(s.heap.push (za4 led)).get? l=some { cls:=.type "list", dict:=odict,data:=.seq us.toArray nl,slots:=oslots }:=zui _ gl
    have c1:=F.sub_list_set
    have c2:=F.sub_list_frozenset
    have c3:(Value.type "list" == Value.type "dict")=false:=by decide
    have isl:(s.heap.push (za4 led)).IsList l us.toArray:=⟨_,gl',rfl,nl,rfl⟩
    unfold Builtin.«set.__init__» noKeywords Builtin.Frozenset.updateFrom
    generalize hit:pyIter=itf
    wp_walk
    subst hit
    refine wpAny_pyIter_list isl ?_
    refine wpAny_bind (wpAny_runValue ?_)
    have ltl:l<s.heap.objs.size:=zuj gl
    have hd3:A.in1.in1.in1.handled=none:=by simp[hh]
    have sz1:(s.heap.push (za4 led)).objs.size=s.heap.objs.size+1:=Heap.size_push ..
    have nel:l≠(s.heap.push (za4 led)).objs.size:=by rw[sz1];exact zur (Nat.lt_succ_of_lt ltl)
    have nin:s.heap.objs.size∉[(s.heap.push (za4 led)).objs.size,l]:=by
     rw[sz1]
     simp only[List.mem_cons,zuC,or_false,not_or]
     exact⟨zur (Nat.lt_succ_self _),Nat.ne_of_gt ltl⟩
    refine zjD ((Walks.list hd3 _ l nel us.toArray).toS) s.heap.objs.size nin xs hlen (fun i v hv=>zlw r i v (by simpa using hv)) (by rw[<-hlen];exact hb) (us.toArray.size-0) 0 _ (by omega) (zuy _)
     ⟨⟨_,zuw _ rfl,rfl,rfl⟩,isl.push _⟩ ?s0 ?fin
    case s0 =>
     have gg:((s.heap.push (za4 led)).push { cls:=.type "list_iterator", data:=.fields #[.ref l,.int 0 0] }).get? s.heap.objs.size=some (za4 led):=zui _ gS
     exact SetOf_congr ((setObjOf_fresh (knd:=strKind P w) led).setOf gg (by unfold scanBound;omega)) (fun _=>rfl) rfl
    case fin =>
     intro z mv sz
     obtain⟨h',g',d',tk',os'⟩:=z
     have e1:g'=s.gens:=mv.gens
     have e2:d'=s.drawn:=mv.drawn
     have e3:os'=s.os:=mv.os
     subst e1 e2 e3
     show wpAny _ _ _ _ _ _
     refine wpAny_pure ?_
     show wpAny _ _ (ret Value.none) _ _ _
     refine wpAny_pure ⟨rfl,h',tk',rfl,sz,fun b o e=>?_⟩
     have lb:=zuj e
     have n1:b≠s.heap.objs.size:=zur lb
     have n2:b≠(s.heap.push (za4 led)).objs.size:=by rw[sz1];exact zur (Nat.lt_succ_of_lt lb)
     exact mv.heap b o (by simp only[List.mem_cons,zuC,or_false,not_or];exact⟨n1,n2⟩) (zui _ (zui _ e))
   ·cases res2 with
    | error e=>exact zjF
    | ok K8 =>
     cases K8 with
     | ret v =>
      obtain⟨rfl,h',tk,rfl,sS,kk⟩:=zjF
      repeat (any_goals (first | assumption | wp_step))
      exact h _ _ sS kk
     | _=>exact zjF.elim
  | _=>exact hres.elim
end
section
variable {X:Cx}
def zlx (P:Program)(w:World)(a:Addr)(n:Nat):HO:=.ext fun h=>∃S,h.SetOf (strKind P w) a S n
theorem zjG (hc:X.calm=true):Rj X (.type "set") (fun xs H Q=>∃(p:Addr) (ts:List Str),xs=[.ref p]/\zB X.K H p (ts.map V.str)/\ts.length<=100/\∀q,H q=none->Q (.ref q) (upd H q (zlx X.prog X.w q (dd ts).length))):=by
 intro pins s σ H xs us Q I r h
 obtain⟨p,ts,rfl,hq,h100,q⟩:=h
 obtain⟨u,rfl,rx⟩:=vals1 r
 cases rx
 obtain⟨its,r',pl,hz⟩:=I.list hq
 refine zjE (I.ok.hd hc) pl.isList r' (Nat.lt_of_le_of_lt (Nat.add_le_add_right h100 1) (by decide)) fun h' tk hS hk=>?_
 refine⟨.ref s.heap.objs.size,_,I.laid hk (zus _) (o:=zlx X.prog X.w s.heap.objs.size (dd ts).length) ?_,rfl,q _ (I.hok.fresh (zus _))⟩
 refine⟨⟨_,hS⟩,?_,?_⟩
 ·obtain⟨o,es,ep,t,ho,_⟩:=hS
  exact⟨o,ho⟩
 ·rintro h1 h2 ⟨S,o,es,ep,t,ho,rest⟩ k
  exact⟨S,o,es,ep,t,k o ho,rest⟩
theorem call_len_set':Rj X (.builtin "len") (fun xs H Q=>∃(p:Addr) (n:Nat),xs=[.ref p]/\H p=some (zlx X.prog X.w p n)/\Q (.int n) H):=by
 intro pins s σ H xs us Q I r h
 obtain⟨p,n,rfl,hp,q⟩:=h
 obtain⟨u,rfl,rx⟩:=vals1 r
 cases rx
 obtain⟨⟨S,o,es,ep,t,ho,hex,hd,_,_,hb,hf,hn⟩,_⟩:=I.hok p _ hp
 have h63:(es.size:Int)<2^63:=by
  have h1:scanBound<2^63:=by decide
  omega
 refine call_len_set ho hex hd hf h63 ⟨.int n,H,I.tok _,⟨s.toks+1,?_⟩,q⟩
 rw[hn]
def zly (K:Frag)(P:Program)(w:World)(a:Addr)(kvs:List (Str×Value)):Prop:=(a==sysModules)=false/\∃o,K.lookup a=some o/\o.IsDictOf (strKind P w) kvs
theorem zdT {a:Addr}{kvs:List (Str×Value)}(hd:zly X.K X.prog X.w a kvs):IxR X (fun x y H Q=>∃k u v,x=.ref a/\y=.str k/\valueAt kvs k=some u/\RelV v u/\Q v H):=by
 intro value slice pins s σ H x y v u Q I rx ry h hs
 obtain⟨k,z,vv,rfl,rfl,hv,rv,q⟩:=h
 cases rx
 obtain⟨t,rfl⟩:=ry
 obtain⟨_,o,hk,hdd⟩:=hd
 have D:s.heap.DictOf (strKind X.prog X.w) a kvs:=Heap.dictOf_iff.mpr ⟨o,I.Q9 a o hk,hdd⟩
 exact tail_any D.typeIs slot_dict_getitem.lookup (wpAny_getItem_of (strKind_is _ _ k t) D.mapOf hv ⟨vv,H,I.tok _,rv,q⟩) hs
theorem zcd {a:Addr}{kvs:List (Str×Value)}(hd:zly X.K X.prog X.w a kvs):Uj X (compareOp .NotIn) (fun x y H Q=>∃k,x=.str k/\y=.ref a/\Q (.bl (!(valueAt kvs k).isSome)) H):=by
 intro pins s σ H x y v u Q I rx ry h
 obtain⟨k,rfl,rfl,q⟩:=h
 cases ry
 obtain⟨t,rfl⟩:=rx
 obtain⟨hs,o,hk,hdd⟩:=hd
 have D:s.heap.DictOf (strKind X.prog X.w) a kvs:=Heap.dictOf_iff.mpr ⟨o,I.Q9 a o hk,hdd⟩
 exact wpAny_notIn_of (strKind_is _ _ k t) hs D.mapOf ⟨.bl _,H,I.tok _,rfl,q⟩
theorem Inv.zlz {pins:List (Addr×Obj)}{σ:St}{H:Hp}{s:Shared}{h':Heap}{t':Nat}{fp:List Addr}(I:Inv X pins σ H s)(k:∀b o,b∉fp->s.heap.get? b=some o->h'.get? b=some o)(ex:∀b∈fp,∃o,h'.get? b=some o)(hf:∀b∈fp,zb9 X pins H b) :
  Inv X pins σ H { s with heap:=h',toks:=t' }:=by
 have nit:∀b u,H b=some u->b∉fp:=fun b u e z=>by rw[(hf b z).1] at e;cases e
 refine I.step (g':=s.gens) (d':=s.drawn) (ch:=fp) (fun b hb=>⟨(hf b hb).2.2.2.1,(hf b hb).2.1,(hf b hb).2.2.2.2.1,(hf b hb).2.2.2.2.2⟩) (fun b o _ _ hc e _=>k b o hc e) (fun b o _ _ hc e _=>⟨o.slots,k b o hc e⟩) (fun _ _ _ _ n=>n)
  (fun b o hc e=>⟨o,k b o hc e⟩) (fun _ _ e=>e) (fun _ _ _ e=>e) (fun b ps e=>⟨#[],by rw[e];simp⟩) (fun m hm=>?_) (fun b u e=>?_) I.bare
 ·obtain⟨o,es,ep,ho,r⟩:=hm
  exact⟨o,es,ep,k _ o (fun z=>(hf _ z).2.1 rfl) ho,r⟩
 ·refine(I.hok b u e).stay (fun c v hc q=>k c v ?_ q) (fun _ q=>q) fun _ _ q=>q
  rcases hc with z | z
  ·rw[z];exact nit b u e
  ·exact nit c _ z
end
theorem xV:bootBuiltins "len"=some (.builtin "len"):=by decide +kernel
theorem za5:bootBuiltins "all"=some (.builtin "all"):=by decide +kernel
theorem znC:bootBuiltins "sum"=some (.builtin "sum"):=by decide +kernel
theorem xJ:bootBuiltins "isinstance"=some (.builtin "isinstance"):=by decide +kernel
theorem znD:bootBuiltins "str"=some (.type "str"):=by decide +kernel
theorem ze2:bootBuiltins "tuple"=some (.type "tuple"):=by decide +kernel
theorem zdU:bootBuiltins "list"=some (.type "list"):=by decide +kernel
theorem znE:bootBuiltins "set"=some (.type "set"):=by decide +kernel
theorem zgC {v:V}{u:Value}(h:zgg u=some v):RelV v u:=by
 cases u<;>simp only[zgg,Option.some.injEq,reduceCtorEq] at h<;>subst h<;>first | exact rfl | exact⟨_,rfl⟩
theorem JF:∀{us:List Value} {xs:List V},us.map zgg=xs.map some->Vals xs us
 | [],[],_=>.nil
 | u::us,x::xs,h=>by
  rw[zuA,zuA] at h
  injection h with h1 h2
  exact .cons (zgC h1) (JF h2)
 | [],_::_,h=>by cases h
 | _::_,[],h=>by cases h
theorem zmN {K:Frag}{H:Hp}{p:Addr}{od:Option Addr}{it:Array Value}{n:Nat}{sl:Array (Option Value)}{xs:List V}(l:K.lookup p=some ⟨.type "tuple", od,.seq it n,sl⟩)(v:it.toList.map zgg=xs.map some)(hz:xs.length<=1000):vf K H p xs:=by
 have r:=JF v
 refine .inr ⟨_,it,n,l,rfl,rfl,?_,r⟩
 have e:xs.length=it.size:=by have:=r.length;simpa using this
 rw[<-e]
 exact zuu (yI hz)
theorem znF {P:Program}{w:World}:Pairs (strKind P w) [] []/\∀e∈([]:List DictEntry),∃k,(strKind P w).is k e.key=true/\e.hash=(strKind P w).hash k:=⟨.nil,fun _ h=>nomatch h⟩
theorem zlA {P:Program}{w:World}{k:Str}{t:Tok}{v:Value}{es:List DictEntry}{kvs:List (Str×Value)}(h:Pairs (strKind P w) es kvs/\∀e∈es,∃k,(strKind P w).is k e.key=true/\e.hash=(strKind P w).hash k) :
  Pairs (strKind P w) (⟨hashStr w k,.str k t,v⟩::es) ((k,v)::kvs)/\∀e∈(⟨hashStr w k,.str k t,v⟩::es:List DictEntry),∃k,(strKind P w).is k e.key=true/\e.hash=(strKind P w).hash k:=by
 refine⟨.cons (strKind_is _ _ k t) rfl h.1,fun e he=>?_⟩
 rcases List.mem_cons.mp he with z | z
 ·subst z;exact⟨k,strKind_is _ _ k t,rfl⟩
 ·exact h.2 e z
theorem zlB {P:Program}{w:World}{K:Frag}{p:Addr}{es:Array DictEntry}{ep:Nat}{el:List DictEntry}{kvs:List (Str×Value)}(l:K.lookup p=some ⟨.type "dict", none,.dict es ep,#[]⟩)(e:es.toList=el)(s:(p==sysModules)=false)
  (h:Pairs (strKind P w) el kvs/\∀e∈el,∃k,(strKind P w).is k e.key=true/\e.hash=(strKind P w).hash k)(nd:(kvs.map (·.1)).Nodup):zly K P w p kvs:=by
 subst e
 exact⟨s,_,l,es,ep,⟨rfl,rfl,rfl⟩,rfl,fun x hx=>h.2 x (by simpa using hx),h.1,nd⟩
end L2
namespace Xv
open PySem
inductive Sn where
 | c0 (y:Bool)
 | mk (x:Str)
 | nt (s:Sn)
 | b2 (o:Fin 4) (s t:Sn)
 | q1 (o:Bool) (x:Str) (s:Sn)
def w2:Fin 4->Str
 | 0 => "and"
 | 1 => "or"
 | 2 => "either"
 | 3 => "if"
namespace Sn
def word:Sn->Str
 | c0 true => "yes"
 | c0 false => "no"
 | mk _ => "mark"
 | nt _ => "not"
 | b2 o _ _=>w2 o
 | q1 true _ _ => "some"
 | q1 false _ _ => "each"
def letters:Sn->List Str
 | mk x=>[x]
 | q1 _ x _=>[x]
 | _=>[]
def parts:Sn->List Sn
 | nt s=>[s]
 | b2 _ s t=>[s,t]
 | q1 _ _ s=>[s]
 | _=>[]
def count:Sn->Nat
 | nt s=>1+s.count
 | b2 _ s t=>1+(s.count+t.count)
 | q1 _ _ s=>1+s.count
 | _=>1
def depth:Sn->Nat
 | nt s=>1+s.depth
 | b2 _ s t=>1+max s.depth t.depth
 | q1 _ _ s=>1+s.depth
 | _=>1
def V1 (os:List Str):Sn->Prop
 | c0 _=>True
 | mk x=>x∈os
 | nt s=>s.V1 os
 | b2 _ s t=>s.V1 os/\t.V1 os
 | q1 _ x s=>x∈os/\s.V1 os
def op2:Fin 4->Bool->Bool->Bool
 | 0,a,b=>a&&b
 | 1,a,b=>a||b
 | 2,a,b=>a != b
 | 3,a,b=>!a||b
def val:Sn->(Str->Bool)->Bool
 | c0 y,_=>y
 | mk x,e=>e x
 | nt s,e=>!s.val e
 | b2 o s t,e=>op2 o (s.val e) (t.val e)
 | q1 true x s,e=>s.val (fun y=>if y=x then true else e y)||s.val (fun y=>if y=x then false else e y)
 | q1 false x s,e=>s.val (fun y=>if y=x then true else e y)&&s.val (fun y=>if y=x then false else e y)
theorem val_congr {os:List Str}:∀(s:Sn) {e e':Str->Bool},s.V1 os->(∀x∈os,e x=e' x)->s.val e=s.val e'
 | c0 _,_,_,_,_=>rfl
 | mk x,_,_,h,q=>q x h
 | nt s,_,_,h,q=>by unfold val;rw[val_congr s h q]
 | b2 o s t,_,_,h,q=>by unfold val;rw[val_congr s h.1 q,val_congr t h.2 q]
 | q1 o x s,e,e',h,q=>by
  have k:∀b:Bool,s.val (fun y=>if y=x then b else e y)=s.val (fun y=>if y=x then b else e' y):=fun b=>val_congr s h.2 fun y hy=>by
   by_cases hx:y=x
   ·rw[if_pos hx,if_pos hx]
   ·rw[if_neg hx,if_neg hx,q y hy]
  cases o<;>(unfold val;rw[k,k])
theorem K9:∀s:Sn,1<=s.depth
 | c0 _=>zus _
 | mk _=>zus _
 | nt _=>by unfold depth;omega
 | b2 _ _ _=>by unfold depth;omega
 | q1 _ _ _=>by unfold depth;omega
theorem JG:∀s:Sn,s.count=1+(s.parts.map count).sum
 | c0 _=>rfl
 | mk _=>rfl
 | nt _=>by simp[count,parts]
 | b2 _ _ _=>by simp[count,parts]
 | q1 _ _ _=>by simp[count,parts]
theorem RG:∀(s:Sn),∀t∈s.parts,t.depth+1<=s.depth
 | c0 _,t,h=>by simp[parts] at h
 | mk _,t,h=>by simp[parts] at h
 | nt s,t,h=>by simp[parts] at h;subst h;show t.depth+1<=1+t.depth;omega
 | b2 _ s u,t,h=>by
  simp[parts] at h
  rcases h with h | h
  ·subst h;show t.depth+1<=1+max t.depth u.depth;omega
  ·subst h;show t.depth+1<=1+max s.depth t.depth;omega
 | q1 _ _ s,t,h=>by simp[parts] at h;subst h;show t.depth+1<=1+t.depth;omega
theorem zc8 {os:List Str}:∀(s:Sn),s.V1 os->∀t∈s.parts,t.V1 os
 | c0 _,_,t,h=>by simp[parts] at h
 | mk _,_,t,h=>by simp[parts] at h
 | nt s,q,t,h=>by simp[parts] at h;subst h;exact q
 | b2 _ s u,q,t,h=>by
  simp[parts] at h
  rcases h with h | h<;>subst h
  ·exact q.1
  ·exact q.2
 | q1 _ _ s,q,t,h=>by simp[parts] at h;subst h;exact q.2
theorem ze3 {os:List Str}:∀(s:Sn),s.V1 os->∀x∈s.letters,x∈os
 | c0 _,_,t,h=>by simp[letters] at h
 | mk _,q,t,h=>by simp[letters] at h;subst h;exact q
 | nt s,q,t,h=>by simp[letters] at h
 | b2 _ s u,q,t,h=>by simp[letters] at h
 | q1 _ _ s,q,t,h=>by simp[letters] at h;subst h;exact q.1
end Sn
theorem uH (b p:Nat):(b+2^p).testBit p=!b.testBit p:=by rw[Nat.add_comm];exact Nat.testBit_two_pow_add_eq b p
theorem Qw {b p j:Nat}(h:j<p):(b+2^p).testBit j=b.testBit j:=by rw[Nat.add_comm];exact Nat.testBit_two_pow_add_gt h b
theorem zjH {b p:Nat}(h:b.testBit p=false):b%2^(p+1)<2^p:=by
 have e:b%2^(p+1)=b%2^p+2^p*(b / 2^p%2):=by
  rw[Nat.pow_succ];exact Nat.mod_mul
 have z:b / 2^p%2=0:=by
  rw[Nat.testBit_eq_decide_div_mod_eq] at h
  have:=of_decide_eq_false h
  omega
 rw[e,z,Nat.mul_zero,Nat.add_zero]
 exact Nat.mod_lt b (Nat.two_pow_pos p)
theorem zjI (x i j:Nat):x.testBit (i+j)=(x / 2^i).testBit j:=by
 rw[Nat.testBit_div_two_pow,Nat.add_comm]
theorem zc9 {b p j:Nat}(h:p<j)(h0:b.testBit p=false):(b+2^p).testBit j=b.testBit j:=by
 obtain⟨k,rfl⟩:∃k,j=(p+1)+k:=⟨j-(p+1),by omega⟩
 rw[zjI,zjI]
 have hm:=zjH h0
 have e:(b+2^p) / 2^(p+1)=b / 2^(p+1):=by
  have hp:2^(p+1)=2^p+2^p:=by rw[Nat.pow_succ];omega
  have d:=Nat.div_add_mod b (2^(p+1))
  have pos:=Nat.two_pow_pos (p+1)
  rw[Nat.div_eq_iff pos]
  have c:b / 2^(p+1)*2^(p+1)=2^(p+1)*(b / 2^(p+1)):=Nat.mul_comm _ _
  rw[c]
  omega
 rw[e]
def zU (b p:Nat)(v:Bool):Nat:=if b.testBit p=v then b else if v then b+2^p else b-2^p
theorem zda {b p:Nat}(h:b.testBit p=true):2^p<=b:=Nat.ge_two_pow_of_testBit h
theorem zY (b p j:Nat)(v:Bool):(zU b p v).testBit j=if j=p then v else b.testBit j:=by
 unfold zU
 by_cases h:b.testBit p=v
 ·rw[if_pos h]
  by_cases hj:j=p
  ·rw[if_pos hj,hj,h]
  ·rw[if_neg hj]
 ·rw[if_neg h]
  cases v with
  | true =>
   have h0:b.testBit p=false:=by simpa using h
   rw[if_pos rfl]
   by_cases hj:j=p
   ·subst hj;rw[if_pos rfl,uH,h0];rfl
   ·rw[if_neg hj]
    rcases Nat.lt_or_gt_of_ne hj with q | q
    ·exact Qw q
    ·exact zc9 q h0
  | false =>
   have h1:b.testBit p=true:=by simpa using h
   rw[if_neg zug]
   have ge:=zda h1
   obtain⟨c,hc⟩:∃c,b=c+2^p:=⟨b-2^p,by omega⟩
   have h0:c.testBit p=false:=by
    rw[hc,uH] at h1
    simpa using h1
   have e:b-2^p=c:=by omega
   rw[e,hc]
   by_cases hj:j=p
   ·subst hj;rw[if_pos rfl,h0]
   ·rw[if_neg hj]
    rcases Nat.lt_or_gt_of_ne hj with q | q
    ·exact(Qw q).symm
    ·exact(zc9 q h0).symm
theorem xU {b p n:Nat}{v:Bool}(hb:b<2^n)(hp:p<n):zU b p v<2^n:=by
 refine Nat.lt_pow_two_of_testBit _ fun i hi=>?_
 rw[zY,if_neg (by omega)]
 exact Nat.testBit_lt_two_pow (zul hb (zuH (by decide) hi))
def z8 (n:Nat)(N:Nat)(f:Nat->Bool):Prop:=∀b,N.testBit b=(decide (b<2^n)&&f b)
theorem M4 (n:Nat):z8 n (2^2^n-1) (fun _=>true):=fun b=>by
 rw[Nat.testBit_two_pow_sub_one,Bool.and_true]
theorem M5 (n:Nat):z8 n 0 (fun _=>false):=fun b=>by simp
theorem Tv {n N M:Nat}{f g:Nat->Bool}(h:z8 n N f)(k:z8 n M g):z8 n (N ^^^ M) (fun b=>f b != g b):=fun b=>by
 rw[Nat.testBit_xor,h b,k b]
 show _=(decide (b<2^n)&&(f b != g b))
 cases decide (b<2^n)<;>cases f b<;>cases g b<;>rfl
theorem XQ {n N M:Nat}{f g:Nat->Bool}(h:z8 n N f)(k:z8 n M g):z8 n (N&&&M) (fun b=>f b&&g b):=fun b=>by
 rw[Nat.testBit_and,h b,k b]
 show _=(decide (b<2^n)&&(f b&&g b))
 cases decide (b<2^n)<;>cases f b<;>cases g b<;>rfl
theorem Nt {n N M:Nat}{f g:Nat->Bool}(h:z8 n N f)(k:z8 n M g):z8 n (N|||M) (fun b=>f b||g b):=fun b=>by
 rw[Nat.testBit_or,h b,k b]
 show _=(decide (b<2^n)&&(f b||g b))
 cases decide (b<2^n)<;>cases f b<;>cases g b<;>rfl
theorem vR {n N:Nat}{f g:Nat->Bool}(h:z8 n N f)(e:∀b,b<2^n->f b=g b):z8 n N g:=fun b=>by
 rw[h b]
 by_cases hb:b<2^n
 ·rw[e b hb]
 ·rw[decide_eq_false hb];rfl
theorem zjJ {n N:Nat}{f:Nat->Bool}(h:z8 n N f):N<2^2^n:=Nat.lt_pow_two_of_testBit _ fun i hi=>by
 rw[h i,decide_eq_false (by omega)];rfl
theorem ziy (p:Nat):z8 (p+1) ((2^2^p-1)*2^2^p) (fun b=>b.testBit p):=fun b=>by
 rw[Nat.testBit_mul_two_pow,Nat.testBit_two_pow_sub_one]
 show _=(decide (b<2^(p+1))&&b.testBit p)
 have hp:2^(p+1)=2^p+2^p:=by rw[Nat.pow_succ];omega
 by_cases h1:2^p<=b
 ·by_cases h2:b<2^(p+1)
  ·have e:b.testBit p=true:=by
    obtain⟨c,rfl⟩:∃c,b=c+2^p:=⟨b-2^p,by omega⟩
    rw[uH,Nat.testBit_lt_two_pow (by omega)]
    rfl
   rw[e]
   simp[h1,h2]
   omega
  ·simp[h2]
   intro _
   omega
 ·have e:b.testBit p=false:=Nat.testBit_lt_two_pow (by omega)
  rw[e]
  simp[h1]
theorem zgD {p m N:Nat}(hp:p<m)(h:z8 m N (fun b=>b.testBit p)):z8 (m+1) (N|||N*2^2^m) (fun b=>b.testBit p):=fun b=>by
 rw[Nat.testBit_or,Nat.testBit_mul_two_pow,h b,h (b-2^m)]
 show(_||(_&&(_&&(b-2^m).testBit p)))=(decide (b<2^(m+1))&&b.testBit p)
 have hm:2^(m+1)=2^m+2^m:=by rw[Nat.pow_succ];omega
 by_cases h1:b<2^m
 ·have h2:b<2^(m+1):=by omega
  have h3:¬ 2^m<=b:=by omega
  simp[h1,h2,h3]
 ·have h3:2^m<=b:=by omega
  have e:(b-2^m).testBit p=b.testBit p:=by
   obtain⟨c,rfl⟩:∃c,b=c+2^m:=⟨b-2^m,by omega⟩
   rw[Qw hp,Nat.add_sub_cancel]
  rw[e]
  by_cases h2:b<2^(m+1)
  ·have h4:b-2^m<2^m:=by omega
   simp[h1,h2,h3,h4]
  ·have h4:¬b-2^m<2^m:=by omega
   simp[h1,h2,h3,h4]
theorem zjK {n p N R:Nat}{f:Nat->Bool}(hp:p<n)(h:z8 n N f)(r:z8 n R (fun b=>b.testBit p)) :
  z8 n ((N&&&R) / 2^2^p|||(N ^^^ (N&&&R))*2^2^p) (fun b=>f (zU b p (!b.testBit p))):=fun b=>by
 have o:=XQ h r
 have z:=Tv h o
 have pp:=Nat.two_pow_pos p
 rw[Nat.testBit_or,Nat.testBit_mul_two_pow,Nat.testBit_div_two_pow,o,z]
 dsimp only
 by_cases hb:b<2^n
 ·cases hbit:b.testBit p with
  | false =>
   have e:zU b p (!false)=b+2^p:=by
    unfold zU
    rw[hbit,if_neg (by decide),if_pos (by decide)]
   have lt:b+2^p<2^n:=by rw[<-e];exact xU hb hp
   rw[e,uH,hbit]
   by_cases h1:2^p<=b
   ·have e2:(b-2^p).testBit p=true:=by
     obtain⟨c,rfl⟩:∃c,b=c+2^p:=⟨b-2^p,by omega⟩
     rw[uH] at hbit
     rw[Nat.add_sub_cancel]
     simpa using hbit
    rw[e2]
    have h4:b-2^p<2^n:=by omega
    simp[hb,lt,h1,h4]
   ·simp[hb,lt,h1]
  | true =>
   have ge:=zda hbit
   have e:zU b p (!true)=b-2^p:=by
    unfold zU
    rw[hbit,if_neg (by decide),if_neg (by decide)]
   have e2:(b-2^p).testBit p=false:=by
    obtain⟨c,rfl⟩:∃c,b=c+2^p:=⟨b-2^p,by omega⟩
    rw[uH] at hbit
    rw[Nat.add_sub_cancel]
    simpa using hbit
   rw[e,uH,hbit,e2]
   have h4:b-2^p<2^n:=by omega
   simp[hb,ge,h4]
 ·have h3:¬b+2^p<2^n:=by omega
  have h5:(decide (2^p<=b)&&(decide (b-2^p<2^n)&&(f (b-2^p) != (f (b-2^p)&&(b-2^p).testBit p))))=false:=by
   by_cases h1:2^p<=b
   ·by_cases h4:b-2^p<2^n
    ·
     have e:(b-2^p).testBit p=true:=by
      cases q:(b-2^p).testBit p with
      | true=>rfl
      | false =>
       exfalso
       have l:=xU (v:=true) h4 hp
       unfold zU at l
       rw[q,if_neg (by decide),if_pos rfl] at l
       omega
     rw[e]
     cases f (b-2^p)<;>simp
    ·simp[h4]
   ·simp[h1]
  rw[h5]
  simp[hb,h3]
theorem Pq (a:Nat):a%2=(a.testBit 0).toNat:=by
 rw[Nat.testBit_zero]
 have:=Nat.mod_two_eq_zero_or_one a
 rcases this with h | h<;>rw[h]<;>rfl
theorem zhM:∀(n a b:Nat),a<=n->(a ^^^ b)+2*(a&&&b)=a+b
 | 0,a,b,h=>by
  have:a=0:=by omega
  subst this;simp
 | n+1,a,b,h=>by
  by_cases h0:a=0
  ·subst h0;simp
  ·have ih:=zhM n (a / 2) (b / 2) (by omega)
   have e1:(a ^^^ b) / 2=a / 2 ^^^ b / 2:=Nat.xor_div_two
   have e2:(a&&&b) / 2=a / 2&&&b / 2:=Nat.and_div_two
   have d1:=Nat.div_add_mod (a ^^^ b) 2
   have d2:=Nat.div_add_mod (a&&&b) 2
   have d3:=Nat.div_add_mod a 2
   have d4:=Nat.div_add_mod b 2
   rw[e1] at d1
   rw[e2] at d2
   cases ha:a.testBit 0<;>cases hb:b.testBit 0
   ·have m1:(a ^^^ b)%2=0:=by rw[Pq,Nat.testBit_xor,ha,hb];rfl
    have m2:(a&&&b)%2=0:=by rw[Pq,Nat.testBit_and,ha,hb];rfl
    have m3:a%2=0:=by rw[Pq,ha];rfl
    have m4:b%2=0:=by rw[Pq,hb];rfl
    omega
   ·have m1:(a ^^^ b)%2=1:=by rw[Pq,Nat.testBit_xor,ha,hb];rfl
    have m2:(a&&&b)%2=0:=by rw[Pq,Nat.testBit_and,ha,hb];rfl
    have m3:a%2=0:=by rw[Pq,ha];rfl
    have m4:b%2=1:=by rw[Pq,hb];rfl
    omega
   ·have m1:(a ^^^ b)%2=1:=by rw[Pq,Nat.testBit_xor,ha,hb];rfl
    have m2:(a&&&b)%2=0:=by rw[Pq,Nat.testBit_and,ha,hb];rfl
    have m3:a%2=1:=by rw[Pq,ha];rfl
    have m4:b%2=0:=by rw[Pq,hb];rfl
    omega
   ·have m1:(a ^^^ b)%2=0:=by rw[Pq,Nat.testBit_xor,ha,hb];rfl
    have m2:(a&&&b)%2=1:=by rw[Pq,Nat.testBit_and,ha,hb];rfl
    have m3:a%2=1:=by rw[Pq,ha];rfl
    have m4:b%2=1:=by rw[Pq,hb];rfl
    omega
theorem zjL:∀(n a b:Nat),a<=n->(a|||b)+(a&&&b)=a+b
 | 0,a,b,h=>by
  have:a=0:=by omega
  subst this;simp
 | n+1,a,b,h=>by
  by_cases h0:a=0
  ·subst h0;simp
  ·have ih:=zjL n (a / 2) (b / 2) (by omega)
   have e1:(a|||b) / 2=a / 2|||b / 2:=Nat.or_div_two
   have e2:(a&&&b) / 2=a / 2&&&b / 2:=Nat.and_div_two
   have d1:=Nat.div_add_mod (a|||b) 2
   have d2:=Nat.div_add_mod (a&&&b) 2
   have d3:=Nat.div_add_mod a 2
   have d4:=Nat.div_add_mod b 2
   rw[e1] at d1
   rw[e2] at d2
   cases ha:a.testBit 0<;>cases hb:b.testBit 0
   ·have m1:(a|||b)%2=0:=by rw[Pq,Nat.testBit_or,ha,hb];rfl
    have m2:(a&&&b)%2=0:=by rw[Pq,Nat.testBit_and,ha,hb];rfl
    have m3:a%2=0:=by rw[Pq,ha];rfl
    have m4:b%2=0:=by rw[Pq,hb];rfl
    omega
   ·have m1:(a|||b)%2=1:=by rw[Pq,Nat.testBit_or,ha,hb];rfl
    have m2:(a&&&b)%2=0:=by rw[Pq,Nat.testBit_and,ha,hb];rfl
    have m3:a%2=0:=by rw[Pq,ha];rfl
    have m4:b%2=1:=by rw[Pq,hb];rfl
    omega
   ·have m1:(a|||b)%2=1:=by rw[Pq,Nat.testBit_or,ha,hb];rfl
    have m2:(a&&&b)%2=0:=by rw[Pq,Nat.testBit_and,ha,hb];rfl
    have m3:a%2=1:=by rw[Pq,ha];rfl
    have m4:b%2=0:=by rw[Pq,hb];rfl
    omega
   ·have m1:(a|||b)%2=1:=by rw[Pq,Nat.testBit_or,ha,hb];rfl
    have m2:(a&&&b)%2=1:=by rw[Pq,Nat.testBit_and,ha,hb];rfl
    have m3:a%2=1:=by rw[Pq,ha];rfl
    have m4:b%2=1:=by rw[Pq,hb];rfl
    omega
theorem znG (a b:Nat):Builtin.bitAnd (a:Int) (b:Int)=((a&&&b:Nat):Int):=by
 unfold Builtin.bitAnd
 rw[decide_eq_true (Int.natCast_nonneg a),decide_eq_true (Int.natCast_nonneg b)]
 simp
theorem orI (a b:Nat):Builtin.bitOr (a:Int) (b:Int)=((a|||b:Nat):Int):=by
 rw[PyProof.Rows.bitOr_and,znG]
 have:=zjL a a b (zus _)
 omega
theorem zqX (a b:Nat):Builtin.bitXor (a:Int) (b:Int)=((a ^^^ b:Nat):Int):=by
 rw[PyProof.Rows.bitXor_and,znG]
 have:=zhM a a b (zus _)
 omega
theorem zo1 (n:Nat):(2:Int)^n=((2^n:Nat):Int):=by simp
end Xv
namespace L2
open PySem PySem.Spec PyProof.Rows Xv
section
variable {X:Cx}
def zo2:R2:=fun x y H Q=>∃a n:Nat,x=.int a/\y=.int n/\a<2^10000/\n<=10000/\Q (.int (a*2^n:Nat)) H
theorem YQ:Uj X (binaryOp .LShift) zo2:=by
 intro pins s σ H x y v u Q I rx ry h
 obtain⟨a,n,rfl,rfl,ha,hn,q⟩:=h
 obtain⟨t,rfl⟩:=rx
 obtain⟨t',rfl⟩:=ry
 have hb:Builtin.Int.intBits (a:Int)<=10000:=intBits_le (by simpa using ha)
 refine lshift_int (Int.natCast_nonneg n) ?_ ?_
 ·have e:(2:Int)^27=134217728:=by decide
  rw[e];omega
 ·rw[Int.toNat_natCast]
  have e:(a:Int)*2^n=((a*2^n:Nat):Int):=by rw[zo1,Int.natCast_mul]
  rw[e]
  exact⟨.int (a*2^n:Nat),H,I.tok _,⟨_,rfl⟩,q⟩
def zo3:R2:=fun x y H Q=>∃a n:Nat,x=.int a/\y=.int n/\Q (.int (a / 2^n:Nat)) H
theorem zlC:Uj X (binaryOp .RShift) zo3:=by
 intro pins s σ H x y v u Q I rx ry h
 obtain⟨a,n,rfl,rfl,q⟩:=h
 refine znr pins s σ H _ _ v u Q I rx ry ⟨_,_,rfl,rfl,Int.natCast_nonneg n,?_⟩
 show Q (.int ((a:Int) / 2^(n:Int).toNat)) H
 rw[Int.toNat_natCast,zo1,<-Int.natCast_ediv]
 exact q
def rN2 (g:Nat->Nat->Nat):R2:=fun x y H Q=>∃a b:Nat,x=.int a/\y=.int b/\Q (.int (g a b:Nat)) H
theorem tH:Uj X (binaryOp .BitAnd) (rN2 (·&&&·)):=by
 intro pins s σ H x y v u Q I rx ry h
 obtain⟨a,b,rfl,rfl,q⟩:=h
 exact zgm pins s σ H _ _ v u Q I rx ry ⟨_,_,rfl,rfl,by show Q (.int (Builtin.bitAnd a b)) H;rw[znG];exact q⟩
theorem Tw:Uj X (binaryOp .BitOr) (rN2 (·|||·)):=by
 intro pins s σ H x y v u Q I rx ry h
 obtain⟨a,b,rfl,rfl,q⟩:=h
 exact zoL pins s σ H _ _ v u Q I rx ry ⟨_,_,rfl,rfl,by show Q (.int (Builtin.bitOr a b)) H;rw[orI];exact q⟩
theorem Qx:Uj X (binaryOp .BitXor) (rN2 (· ^^^ ·)):=by
 intro pins s σ H x y v u Q I rx ry h
 obtain⟨a,b,rfl,rfl,q⟩:=h
 exact zns pins s σ H _ _ v u Q I rx ry ⟨_,_,rfl,rfl,by show Q (.int (Builtin.bitXor a b)) H;rw[zqX];exact q⟩
end
end L2
namespace L2
open PySem PySem.Spec PyProof.Rows
def strsOf:List Expr->Option (List Str)
 | []=>some []
 | .Constant (.str x) _ _::r=>(strsOf r).map (x::·)
 | _=>none
theorem ze4 {e:Expr}{r:List Expr}{xs:List Str}(h:strsOf (e::r)=some xs):∃x j p ys,e=.Constant (.str x) j p/\strsOf r=some ys/\xs=x::ys:=by
 cases e with
 | Constant c j p =>
  cases c with
  | str x =>
   have h':(strsOf r).map (x::·)=some xs:=h
   cases hr:strsOf r with
   | none=>rw[hr] at h';cases h'
   | some ys =>
    rw[hr] at h'
    exact⟨x,j,p,ys,rfl,rfl,(zuG h').symm⟩
  | _=>cases h
 | _=>cases h
def zo4 (xs:List Str):TA:=fun _ H Q=>Q (xs.map V.str) H
def zmO (xs:List Str):TE:=fun _ H Q=>xs.length<=sizeLine/\∀p,H p=none->Q (.ref p) (upd H p (.lst (xs.map V.str)))
section
variable {X:Cx}
theorem zlD {es:List Expr}:∀{xs:List Str},strsOf es=some xs->PA X es (zo4 xs):=by
 induction es with
 | nil =>
  intro xs h
  cases h
  exact fun pos pins s σ H Q I q=>zc pos pins s σ H Q I q
 | cons e r ih =>
  intro xs h
  obtain⟨x,j,p,ys,rfl,hr,rfl⟩:=ze4 h
  exact fun pos pins s σ H Q I q=>za (xT (x:=x) (j:=j) (pos:=p)) (ih hr) rfl pos pins s σ H Q I q
theorem zhN {es:List Expr}{pos:Pos}{xs:List Str}(h:strsOf es=some xs):PE X (.List es pos) (zmO xs):=by
 intro pins s σ H Q I q
 refine xg (zlD h) pins s σ H Q I ⟨?_,q.2⟩
 rw[zuc];exact q.1
def zdV:Stmt->Option (Str×List Str)
 | .Assign [.Name x _] (.List es _) _=>(strsOf es).map (x,·)
 | _=>none
theorem zdW {st:Stmt}{x:Str}{xs:List Str}(h:zdV st=some (x,xs)):∃p es q r,st=.Assign [.Name x p] (.List es q) r/\strsOf es=some xs:=by
 unfold zdV at h
 split at h
 ·rename_i y p es q r
  cases hs:strsOf es with
  | none=>rw[hs] at h;cases h
  | some ys =>
   rw[hs] at h
   cases h
   exact⟨_,_,_,_,rfl,hs⟩
 ·cases h
theorem zlE {i:Nat}{x:Str}{xs:List Str}{st:Stmt}(h:zdV st=some (x,xs))(hN:X.N.Nodup)(hi:X.N[i]?=some x)(hx:Loc X.env.scope x)(hf:X.fn x=true\/X.env.scope.names.lookup x=some .local):PS X st (zli (zmO xs) (Ri i)):=by
 obtain⟨p,es,q,r,rfl,hs⟩:=zdW h
 exact zQ hN hi hx (zhN hs) rfl hf
end
end L2
set_option exponentiation.threshold 20000
namespace Xv
open PySem L2
section
variable {K:Frag}
theorem ze5 {a k:Nat}(h:a<2^k)(hk:k<=10000):a<2^10000:=zul h (zuH (by decide) hk)
theorem zgE {n:Nat}(hn:n<=8):2^n<=256:=zuH (n:=2) (by decide) hn
def Wj:Sp:=fun vs H Q _=>∃n:Nat,vs=[.int n]/\n<=8/\Q (.int ((2^2^n-1:Nat):Int)) H
def tQ:Sp:=fun vs H Q _=>∃p n:Nat,vs=[.int p,.int n]/\p<n/\n<=8/\∀R:Nat,z8 n R (fun b=>b.testBit p)->Q (.int R) H
def Wk:Sp:=fun vs H Q _=>∃(N p n:Nat) (f:Nat->Bool),vs=[.int N,.int p,.int n]/\p<n/\n<=8/\z8 n N f/\∀R:Nat,z8 n R (fun b=>f (zU b p (!b.testBit p)))->Q (.int R) H
abbrev M6 (r:List Bool):List V:=r.map fun b=>V.int (b.toNat:Nat)
theorem za6 {H:Hp}{p:Addr}(h:H p=none)(o:HO):Same H (upd H p o):=fun b u q=>by rw[zE (zF q h)];exact q
def za7 (K:Frag):Sp:=fun vs H Q _=>∃(l:Addr) (ns:List Int) (i:Int),vs=[.ref l,.int i]/\zB K H l (ns.map V.int)/\0<=i/\∀v:Int,Q (.int v) H
def za8:Sp:=fun vs H Q _=>∃(c:Int) (k:Nat) (b:Int),vs=[.int c,.int k,.int b]/\k<=40/\0<b/\b<1073741824/\∀r:Int,0<=r->r<b->Q (.int r) H
def uI:List Str:=["a", "b", "c", "d", "e", "f", "g", "h"]
structure uJ (os:List Str):Prop where
 nd:os.Nodup
 mem:∀x∈os,x∈uI
 pos:0<os.length
theorem M7 {α:Type}[DecidableEq α]:∀{xs ys:List α},xs.Nodup->(∀x∈xs,x∈ys)->xs.length<=ys.length
 | [],_,_,_=>zuy _
 | x::xs,ys,nd,h=>by
  obtain⟨h1,h2⟩:=List.nodup_cons.mp nd
  have hx:=h x zuv
  have ih:=M7 (xs:=xs) (ys:=ys.erase x) h2 fun y hy=>(List.mem_erase_of_ne (fun e:y=x=>h1 (by rw[<-e];exact hy))).mpr (h y (zun _ hy))
  rw[List.length_erase_of_mem hx] at ih
  have:=List.length_pos_of_mem hx
  rw[zuo]
  omega
theorem uJ.le {os:List Str}(h:uJ os):os.length<=8:=M7 h.nd h.mem
def RJ (H:Hp):Sn->Addr->Prop
 | .c0 y,p=>H p=some (.tup [.str (Sn.word (.c0 y))])
 | .mk x,p=>H p=some (.tup [.str "mark", .str x])
 | .nt s,p=>∃q,H p=some (.tup [.str "not", .ref q])/\RJ H s q
 | .b2 o s t,p=>∃q r,H p=some (.tup [.str (w2 o),.ref q,.ref r])/\RJ H s q/\RJ H t r
 | .q1 o x s,p=>∃q,H p=some (.tup [.str (if o then "some" else "each"),.str x,.ref q])/\RJ H s q
def wz (H H':Hp):Prop:=∀b xs,H b=some (.tup xs)->H' b=some (.tup xs)
theorem wz.refl (H:Hp):wz H H:=fun _ _ h=>h
theorem wz.trans {H H1 H2:Hp}(a:wz H H1)(b:wz H1 H2):wz H H2:=fun c o h=>b c o (a c o h)
theorem wz.of {H H':Hp}(g:Same H H'):wz H H':=fun b xs h=>g b _ h
theorem wz.new {H:Hp}{p:Addr}(h:H p=none)(o:HO):wz H (upd H p o):=fun b u q=>by rw[zE (zF q h)];exact q
theorem wz.lst {H:Hp}{p:Addr}{xs:List V}(h:H p=some (.lst xs))(o:HO):wz H (upd H p o):=fun b u q=>by rw[zE (Rw q h (fun z=>nomatch z))];exact q
theorem RJ.mono {H H':Hp}(g:wz H H'):∀{s:Sn} {p:Addr},RJ H s p->RJ H' s p
 | .c0 y,p,h=>g _ _ h
 | .mk x,p,h=>g _ _ h
 | .nt s,p,⟨q,h,k⟩=>⟨q,g _ _ h,k.mono g⟩
 | .b2 o s t,p,⟨q,r,h,k,l⟩=>⟨q,r,g _ _ h,k.mono g,l.mono g⟩
 | .q1 o x s,p,⟨q,h,k⟩=>⟨q,g _ _ h,k.mono g⟩
theorem zlF (o:Bool)(x:Str)(s:Sn):Sn.word (.q1 o x s)=if o then Str.ofString "some" else Str.ofString "each" := by cases o<;>rfl
theorem RJ.shape {H:Hp}:∀{s:Sn} {p:Addr},RJ H s p->∃qs:List Addr,H p=some (.tup (.str s.word::(s.letters.map V.str++qs.map V.ref)))/\Paired (RJ H) s.parts qs
 | .c0 y,p,h=>⟨[],h,.nil⟩
 | .mk x,p,h=>⟨[],h,.nil⟩
 | .nt s,p,⟨q,h,k⟩=>⟨[q],h,.cons k .nil⟩
 | .b2 o s t,p,⟨q,r,h,k,l⟩=>⟨[q,r],h,.cons k (.cons l .nil)⟩
 | .q1 o x s,p,⟨q,h,k⟩=>⟨[q],by rw[zlF];exact h,.cons k .nil⟩
theorem Tz {α:Type}{xs:List α}{i:Int}(h0:-(xs.length:Int)<=i)(h1:i<xs.length):∃(j:Nat) (v:α),atI xs i=some v/\xs[j]?=some v:=by
 by_cases h:0<=i
 ·have hj:i.toNat<xs.length:=by omega
  have q:=XH (xs:=xs) (j:=i.toNat) (zud hj)
  have e:((i.toNat:Nat):Int)=i:=by omega
  rw[e] at q
  exact⟨_,_,q,zud hj⟩
 ·have hj:(i+xs.length).toNat<xs.length:=by omega
  refine⟨_,_,?_,zud hj⟩
  unfold atI ixN
  rw[if_neg h,if_pos h0]
  show xs[(i+xs.length).toNat]?=_
  exact zud hj
def Nu:List Str:=["mark", "mark", "not", "and", "or", "either", "if", "and", "or", "some", "each", "yes", "no", "mark"]
structure Made (H0 H:Hp)(os:List Str)(m kd:Addr)(ps:List Addr)(d:Nat):Prop where
 old:Same H0 H
 mad:H m=some (.lst (ps.map V.ref))
 kin:H kd=some (.lst (Nu.map V.str))
 ne:ps≠[]
 all:∀p∈ps,∃s,RJ H s p/\s.V1 os/\s.depth<=d
theorem Made.push {H0 H:Hp}{os:List Str}{m kd p:Addr}{ps:List Addr}{d:Nat}{xs:List V}(M:Made H0 H os m kd ps d)(fm:H0 m=none)(hp:H p=none){s:Sn}(hs:RJ (upd H p (.tup xs)) s p)(ho:s.V1 os)(hd:s.depth<=d+1)(hk:m≠kd) :
  Made H0 (upd (upd H p (.tup xs)) m (.lst ((ps++[p]).map V.ref))) os m kd (ps++[p]) (d+1):=by
 have hm:m≠p:=zF M.mad hp
 have hkp:kd≠p:=zF M.kin hp
 have mad':(upd H p (.tup xs)) m=some (.lst (ps.map V.ref)):=by rw[zE hm];exact M.mad
 have t1:wz H (upd H p (.tup xs)):=wz.new hp _
 have t2:wz (upd H p (.tup xs)) (upd (upd H p (.tup xs)) m (.lst ((ps++[p]).map V.ref))):=wz.lst mad' _
 refine⟨fun b o h=>?_,zm,?_,by simp,fun q hq=>?_⟩
 ·have h1:=M.old b o h
  rw[zE (zF h fm),zE (zF h1 hp)]
  exact h1
 ·rw[zE (Ne.symm hk),zE hkp];exact M.kin
 ·rcases List.mem_append.mp hq with z | z
  ·obtain⟨s',q1,q2,q3⟩:=M.all q z
   exact⟨s',(q1.mono t1).mono t2,q2,by omega⟩
  ·have z':q=p:=by simpa using z
   subst z'
   exact⟨s,hs.mono t2,ho,hd⟩
def Nv (K:Frag):Sp:=fun vs H Q _=>∃(sc ol:Addr) (ns:List Int) (t m:Nat) (os:List Str),vs=[.ref sc,.int t,.int m,.ref ol]/\zB K H sc (ns.map V.int)/\zB K H ol (os.map V.str)/\0<os.length/\os.length<=8/\0<m/\m<=40/\t<=60 /\
 ∀(p:Addr) (H':Hp) (s:Sn),Same H H'->RJ H' s p->s.V1 os->s.depth<=m->Q (.ref p) H'
theorem JH {os:List Str}(h0:0<os.length)(r:Int):∃x,x∈os/\atI (os.map V.str) (r%((os.map V.str).length:Nat))=some (.str x):=by
 have e:(os.map V.str).length=os.length:=zuc _
 have m0:0<=r%((os.map V.str).length:Nat):=zuT _ (by omega)
 have m1:r%((os.map V.str).length:Nat)<((os.map V.str).length:Nat):=zuQ _ (by omega)
 obtain⟨j,v,q1,q2⟩:=Tz (xs:=os.map V.str) (i:=r%((os.map V.str).length:Nat)) (by omega) m1
 rw[zue] at q2
 cases hx:os[j]? with
 | none=>rw[hx] at q2;cases q2
 | some x =>
  rw[hx] at q2
  cases q2
  exact⟨x,zuh hx,q1⟩
theorem Ja {ps:List Addr}{i:Int}(h0:-(ps.length:Int)<=i)(h1:i<ps.length):∃p,p∈ps/\atI (ps.map V.ref) i=some (.ref p):=by
 have e:(ps.map V.ref).length=ps.length:=zuc _
 obtain⟨j,v,q1,q2⟩:=Tz (xs:=ps.map V.ref) (i:=i) (by omega) (by omega)
 rw[zue] at q2
 cases hx:ps[j]? with
 | none=>rw[hx] at q2;cases q2
 | some x =>
  rw[hx] at q2
  cases q2
  exact⟨x,zuh hx,q1⟩
end
end Xv
namespace L2
open PySem
section
variable {α β:Type}{R S:α->β->Prop}
theorem V2:∀{xs ys:List α} {us ws:List β},Paired R xs us->Paired R ys ws->Paired R (xs++ys) (us++ws)
 | _,_,_,_,.nil,s=>s
 | _,_,_,_,.cons r t,s=>.cons r (V2 t s)
theorem WD (f:∀a b,R a b->S a b):∀{xs:List α} {us:List β},Paired R xs us->Paired S xs us
 | _,_,.nil=>.nil
 | _,_,.cons r t=>.cons (f _ _ r) (WD f t)
theorem ZP:∀{xs:List α} {us:List β},Paired R xs us->xs.length=us.length
 | _,_,.nil=>rfl
 | _,_,.cons _ t=>by rw[zuo,zuo,ZP t]
theorem zmP:∀{xs:List α} {us:List β} {i:Nat} {x:α},Paired R xs us->xs[i]?=some x->∃u,us[i]?=some u/\R x u
 | _,_,_,_,.nil,e=>by simp at e
 | _,_,0,_,.cons r _,e=>by simp at e;subst e;exact⟨_,rfl,r⟩
 | _,_,i+1,x,.cons _ t,e=>by
  obtain⟨u,h1,h2⟩:=zmP (i:=i) (x:=x) t (by simpa using e)
  exact⟨u,by simpa using h1,h2⟩
theorem zdb:∀{xs:List α} {us:List β} {i:Nat} {u:β},Paired R xs us->us[i]?=some u->∃x,xs[i]?=some x/\R x u
 | _,_,_,_,.nil,e=>by simp at e
 | _,_,0,_,.cons r _,e=>by simp at e;subst e;exact⟨_,rfl,r⟩
 | _,_,i+1,x,.cons _ t,e=>by
  obtain⟨u,h1,h2⟩:=zdb (i:=i) (u:=x) t (by simpa using e)
  exact⟨u,by simpa using h1,h2⟩
theorem xK {α:Type}{xs:List α}{i:Nat}{x:α}(h:xs[i]?=some x):xs.take (i+1)=xs.take i++[x]:=by
 rw[List.take_succ,h]
 rfl
theorem Same.zo5 {K:Frag}{H H':Hp}{a:Addr}{xs:List V}(e:Same H H')(h:vf K H a xs):vf K H' a xs:=by
 rcases h with (h | ⟨o,h⟩) | h
 ·exact .inl (.inl (e _ _ h))
 ·exact .inl (.inr ⟨o,e _ _ h⟩)
 ·exact .inr h
theorem Same.new {H:Hp}{p:Addr}(h:H p=none)(o:HO):Same H (upd H p o):=fun b u q=>by rw[zE (zF q h)];exact q
theorem Same.over {H H':Hp}{p:Addr}(g:Same H H')(h:H p=none)(o:HO):Same H (upd H' p o):=fun b u q=>by rw[zE (zF q h)];exact g b u q
theorem at0 {α:Type}{x:α}{xs:List α}:atI (x::xs) 0=some x:=XH (j:=0) rfl
theorem at1 {α:Type}{x y:α}{xs:List α}:atI (x::y::xs) 1=some y:=XH (j:=1) rfl
end
section
variable {K:Frag}{a:Addr}{xs:List V}{σ:St}{js:List Nat}{te:TE}{H:Hp}{Qf:Addr->Hp->List V->Prop}
theorem zhO (R:V->V->Prop)(hq:zB K H a xs)(hz:xs.length<=sizeLine)
  (hs:∀(i:Nat) x H',xs[i]?=some x->Same H H'->te (Xu σ js (some x)) H' fun v H3=>R x v/\Same H H3)
  (me:∀ σ H Q Q',(∀v H1,Q v H1->Q' v H1)->te σ H Q->te σ H Q')
  (hd:∀ys H' p,Paired R xs ys->Same H H'->H' p=none->Qf p H' ys) :
  ∃W:Nat->Nat->List V->Hp->Prop,(∃m,W 0 m [] H)/\∀i m ys H,W i m ys H ->
   ((Itl K a).stop i H/\∀p,H p=none->Qf p H ys) \/
   ((Itl K a).go i H/\ys.length<sizeLine/\∀x H',(Itl K a).KQ i H x H'->zcb (Xu σ js (some x)) H' fun b H2 =>
    if b=true then te (Xu σ js (some x)) H2 fun v H3=>∃m',m'<m/\W (i+1) m' (ys++[v]) H3 else ∃m',m'<m/\W (i+1) m' ys H2):=by
 refine zaD (fun i ys H'=>Same H H'/\Paired R (xs.take i) ys) ⟨Same.refl _,.nil⟩ hz ?_ ?_ (fun _ _ _ _ h q=>h _ _ q) me ?_
 ·rintro i ys H' hi ⟨g,r⟩
  have:=ZP r
  rw[zuz] at this
  exact⟨g.seq hq,by omega⟩
 ·rintro i x ys H' hx ⟨g,r⟩
  show te (Xu σ js (some x)) H' fun v H3=>Same H H3/\Paired R (xs.take (i+1)) (ys++[v])
  refine me _ _ _ _ (fun v H3 h3=>⟨h3.2,?_⟩) (hs i x H' hx g)
  rw[xK hx]
  exact V2 r (.cons h3.1 .nil)
 ·rintro ys H' p ⟨g,r⟩ hp
  rw[zuE] at r
  exact hd ys H' p r g hp
theorem zhP (R:V->V->Prop)(hq:vf K H a xs)(hz:xs.length<=sizeLine)
  (hs:∀(i:Nat) x H',xs[i]?=some x->Same H H'->te (Xu σ js (some x)) H' fun v H3=>R x v/\Same H H3)
  (me:∀ σ H Q Q',(∀v H1,Q v H1->Q' v H1)->te σ H Q->te σ H Q')
  (hd:∀ys H' p,Paired R xs ys->Same H H'->H' p=none->Qf p H' ys) :
  ∃W:Nat->Nat->List V->Hp->Prop,(∃m,W 0 m [] H)/\∀i m ys H,W i m ys H ->
   ((Itt K a).stop i H/\∀p,H p=none->Qf p H ys) \/
   ((Itt K a).go i H/\ys.length<sizeLine/\∀x H',(Itt K a).KQ i H x H'->zcb (Xu σ js (some x)) H' fun b H2 =>
    if b=true then te (Xu σ js (some x)) H2 fun v H3=>∃m',m'<m/\W (i+1) m' (ys++[v]) H3 else ∃m',m'<m/\W (i+1) m' ys H2):=by
 refine zjy (fun i ys H'=>Same H H'/\Paired R (xs.take i) ys) ⟨Same.refl _,.nil⟩ hz ?_ ?_ (fun _ _ _ _ h q=>h _ _ q) me ?_
 ·rintro i ys H' hi ⟨g,r⟩
  have:=ZP r
  rw[zuz] at this
  exact⟨g.zo5 hq,by omega⟩
 ·rintro i x ys H' hx ⟨g,r⟩
  show te (Xu σ js (some x)) H' fun v H3=>Same H H3/\Paired R (xs.take (i+1)) (ys++[v])
  refine me _ _ _ _ (fun v H3 h3=>⟨h3.2,?_⟩) (hs i x H' hx g)
  rw[xK hx]
  exact V2 r (.cons h3.1 .nil)
 ·rintro ys H' p ⟨g,r⟩ hp
  rw[zuE] at r
  exact hd ys H' p r g hp
theorem za9 {f:V->V}:∀{xs ys:List V},Paired (fun x v=>v=f x) xs ys->ys=xs.map f
 | _,_,.nil=>rfl
 | _,_,.cons r t=>by rw[zuA,r,za9 t]
end
section
variable {X:Cx}{K:Frag}{a:Expr}{ta:TE}
theorem zgF (h:X.K=K):Uj X (compareOp .In) (rIn K false):=by subst h;exact Yx
theorem zdc (h:X.K=K):Uj X (compareOp .NotIn) (rIn K true):=by subst h;exact MJ
theorem zdX (h:X.K=K):Rj X (.builtin "isinstance") (fun xs H Q=>∃x T t b,xs=[x,.ty T]/\Mu K H x t/\PySem.W.kitOne K t (.type T)=some b/\Q (.bl b) H):=by subst h;exact RD
theorem M8 (h:X.K=K):IxR X (zoR K):=by subst h;exact yP
theorem zdd (h:X.K=K)(ha:PE X a ta)(he:∀whole,isTrue a X.env whole=(do let v <-whole;standAt a.pos;holding [v] (truthy v))):PT X a (fun σ H Q=>ta σ H fun x H'=>∃k,znt K x H' k/\Q k H'):=by subst h;exact wR ha he
def zba (sp:Sp):Prop:=∀vs H Q Q' E,(∀v H1,Q v H1->Q' v H1)->sp vs H Q E->sp vs H Q' E
theorem zjM {sp:Sp}(m:zba sp):∀ σ H Q Q',(∀v H1,Q v H1->Q' v H1)->Mw sp [] E0 (Mv (zb8 0) zdL) σ H Q->Mw sp [] E0 (Mv (zb8 0) zdL) σ H Q' :=
 fun σ H Q Q' h ⟨v,e,q⟩=>⟨v,e,m _ _ _ _ _ h q⟩
theorem ze6 (x:Str)(ts:List Str):inV (.str x) (ts.map V.str)=decide (x∈ts):=by
 induction ts with
 | nil=>rfl
 | cons t r ih =>
  have e:inV (.str x) ((t::r).map V.str)=((t==x)||inV (.str x) (r.map V.str)):=rfl
  rw[e,ih]
  by_cases h:t=x
  ·subst h;simp
  ·have h':¬x=t:=fun z=>h z.symm
   simp[h,h']
theorem wD (ts:List Str):(ts.map V.str).all v7=true:=by
 rw[List.all_map,zuF]
 exact fun _ _=>rfl
theorem zjN {w:V}{rest:List V}{m n:Nat}(h:rest.length=m+n):Tt (w::rest) (some 1) (some (1+(m:Int)))=rest.take m:=by
 have e1:HT.Z8 (w::rest).length 0 (some 1)=min 1 (w::rest).length:=HT.Mx _ _ 1
 have e2:HT.Z8 (w::rest).length (w::rest).length (some (1+(m:Int)))=min (1+m) (w::rest).length:=by
  have z:(1:Int)+(m:Int)=((1+m:Nat):Int):=by omega
  rw[z];exact HT.Mx _ _ _
 have l:(w::rest).length=m+n+1:=by rw[zuo,h]
 unfold Tt
 rw[e1,e2,l,Nat.min_eq_left (by omega),Nat.min_eq_left (by omega),List.drop_one,List.tail_cons]
 congr 1
 omega
theorem ze7 {w:V}{rest:List V}{m n:Nat}(h:rest.length=m+n):Tt (w::rest) (some (1+(m:Int))) none=rest.drop m:=by
 have e2:HT.Z8 (w::rest).length 0 (some (1+(m:Int)))=min (1+m) (w::rest).length:=by
  have z:(1:Int)+(m:Int)=((1+m:Nat):Int):=by omega
  rw[z];exact HT.Mx _ _ _
 have l:(w::rest).length=m+n+1:=by rw[zuo,h]
 unfold Tt
 rw[e2,HT.zeY,l,Nat.min_eq_left (by omega),Nat.add_comm 1 m,List.drop_succ_cons,List.take_of_length_le]
 rw[List.length_drop,h]
 omega
theorem zjO {w:V}{rest:List V}:Tt (w::rest) (some 1) none=rest:=by
 have:=ze7 (w:=w) (rest:=rest) (m:=0) (n:=rest.length) (by omega)
 simpa using this
theorem zbb {w:V}{rest:List V}{i:Int}{o:Option Int}(h:1<=i):¬(HT.Z8 (w::rest).length 0 (some i)=0/\HT.Z8 (w::rest).length (w::rest).length o=(w::rest).length):=by
 rintro⟨h1,_⟩
 have e:HT.Z8 (w::rest).length 0 (some i)=min i.toNat (w::rest).length:=by
  have z:=HT.Mx (w::rest).length 0 i.toNat
  have z2:((i.toNat:Nat):Int)=i:=by omega
  rw[z2] at z
  exact z
 rw[e,zuo] at h1
 omega
end
end L2
namespace Xv
open PySem L2
section
variable {K:Frag}
def Sn.all:Sn->List Str
 | .c0 _=>[]
 | .mk x=>[x]
 | .nt s=>s.all
 | .b2 _ s t=>s.all++t.all
 | .q1 _ x s=>x::s.all
theorem Sn.zdY:∀(s:Sn) (x:Str),x∈s.all↔x∈s.letters\/∃t∈s.parts,x∈t.all
 | .c0 _,x=>by simp[Sn.all,Sn.letters,Sn.parts]
 | .mk y,x=>by simp[Sn.all,Sn.letters,Sn.parts]
 | .nt s,x=>by simp[Sn.all,Sn.letters,Sn.parts]
 | .b2 _ s t,x=>by simp[Sn.all,Sn.letters,Sn.parts]
 | .q1 _ y s,x=>by simp[Sn.all,Sn.letters,Sn.parts]
theorem Sn.XS {os:List Str}:∀(s:Sn),s.V1 os↔∀x∈s.all,x∈os
 | .c0 _=>by simp[Sn.all,Sn.V1]
 | .mk y=>by simp[Sn.all,Sn.V1]
 | .nt s=>by simp only[Sn.all,Sn.V1];exact Sn.XS s
 | .b2 _ s t=>by
  simp only[Sn.all,Sn.V1,List.mem_append]
  rw[Sn.XS s,Sn.XS t]
  exact⟨fun h x hx=>hx.elim (h.1 x) (h.2 x),fun h=>⟨fun x hx=>h x (.inl hx),fun x hx=>h x (.inr hx)⟩⟩
 | .q1 _ y s=>by
  simp only[Sn.all,Sn.V1,List.mem_cons]
  rw[Sn.XS s]
  exact⟨fun h x hx=>hx.elim (fun e=>by rw[e];exact h.1) (h.2 x),fun h=>⟨h y (.inl rfl),fun x hx=>h x (.inr hx)⟩⟩
theorem Sn.M9:∀s:Sn,s.parts.length<=2
 | .c0 _=>by simp[Sn.parts]
 | .mk _=>by simp[Sn.parts]
 | .nt _=>by simp[Sn.parts]
 | .b2 _ _ _=>by simp[Sn.parts]
 | .q1 _ _ _=>by simp[Sn.parts]
theorem Sn.zbc:∀s:Sn,s.letters.length<=1
 | .c0 _=>by simp[Sn.letters]
 | .mk _=>by simp[Sn.letters]
 | .nt _=>by simp[Sn.letters]
 | .b2 _ _ _=>by simp[Sn.letters]
 | .q1 _ _ _=>by simp[Sn.letters]
def cnt (ss:List Sn):Nat:=(ss.map Sn.count).sum
theorem cnt_cons (s:Sn)(ss:List Sn):cnt (s::ss)=s.count+cnt ss:=rfl
theorem zlG (ss ts:List Sn):cnt (ss++ts)=cnt ss+cnt ts:=by
 unfold cnt;rw[zuq,List.sum_append]
theorem Qy:∀ss:List Sn,cnt ss=ss.length+cnt (ss.flatMap Sn.parts)
 | []=>rfl
 | s::ss=>by
  rw[cnt_cons,List.flatMap_cons,zlG,Qy ss,Sn.JG s,zuo]
  show 1+cnt s.parts+_=_
  omega
theorem zhQ (ss:List Sn):ss.length<=cnt ss:=by rw[Qy];omega
theorem Jb {ss:List Sn}{t:Sn}:t∈ss.flatMap Sn.parts↔∃s∈ss,t∈s.parts:=List.mem_flatMap
def RK:Sp:=fun vs H Q _=>∃x:Str,vs=[.str x]/\Q (.bl (decide (x∈uI))) H
theorem JK:zba RK:=fun vs H Q Q' E h ⟨x,e,q⟩=>⟨x,e,h _ _ q⟩
def zdZ (os:List Str):Bool:=decide (0<os.length)&&(os.all (fun x=>decide (x∈uI))&&decide os.Nodup)
theorem zlH {os:List Str}(h:uJ os):zdZ os=true:=by
 unfold zdZ
 rw[decide_eq_true h.pos,decide_eq_true h.nd,zuF.mpr fun x hx=>decide_eq_true (h.mem x hx)]
 rfl
def zde (K:Frag):Sp:=fun vs H Q _=>∃(l:Addr) (os:List Str),vs=[.ref l]/\zB K H l (os.map V.str)/\os.length<=100/\∀H',Same H H'->Q (.bl (zdZ os)) H'
def vh:List (Str×Int×Int):=[("yes", 0,0),("no", 0,0),("mark", 1,0),("not", 0,1),("and", 0,2),("or", 0,2),("either", 0,2),("if", 0,2),("some", 1,1),("each", 1,1)]
theorem Yb (s:Sn):(s.word,((s.letters.length:Nat):Int),((s.parts.length:Nat):Int))∈vh:=by
 cases s with
 | c0 y =>
  cases y
  ·show((Str.ofString "no", (0:Int),(0:Int)):Str×Int×Int)∈vh
   decide +kernel
  ·show((Str.ofString "yes", (0:Int),(0:Int)):Str×Int×Int)∈vh
   decide +kernel
 | mk x =>
  show((Str.ofString "mark", (1:Int),(0:Int)):Str×Int×Int)∈vh
  decide +kernel
 | nt s =>
  show((Str.ofString "not", (0:Int),(1:Int)):Str×Int×Int)∈vh
  decide +kernel
 | b2 o s t =>
  show((w2 o,(0:Int),(2:Int)):Str×Int×Int)∈vh
  revert o
  decide +kernel
 | q1 o x s =>
  cases o
  ·show((Str.ofString "each", (1:Int),(1:Int)):Str×Int×Int)∈vh
   decide +kernel
  ·show((Str.ofString "some", (1:Int),(1:Int)):Str×Int×Int)∈vh
   decide +kernel
def Vl:Sp:=fun vs H Q _=>∃(p:Addr) (x:Str) (m n:Nat) (rest:List V),vs=[.ref p]/\H p=some (.tup (.str x::rest))/\(x,(m:Int),(n:Int))∈vh/\rest.length=m+n/\∀q,H q=none->Q (.ref q) (upd H q (.tup (rest.take m)))
def Wm:Sp:=fun vs H Q _=>∃(p:Addr) (x:Str) (m n:Nat) (rest:List V),vs=[.ref p]/\H p=some (.tup (.str x::rest))/\(x,(m:Int),(n:Int))∈vh/\rest.length=m+n/\∀q,H q=none->Q (.ref q) (upd H q (.tup (rest.drop m)))
theorem La {H:Hp}{s:Sn}{p:Addr}(h:RJ H s p):∃qs:List Addr,H p=some (.tup (.str s.word::(s.letters.map V.str++qs.map V.ref)))/\Paired (RJ H) s.parts qs /\
  (s.letters.map V.str++qs.map V.ref).length=s.letters.length+s.parts.length/\(s.letters.map V.str++qs.map V.ref).take s.letters.length=s.letters.map V.str/\(s.letters.map V.str++qs.map V.ref).drop s.letters.length=qs.map V.ref:=by
 obtain⟨qs,h1,h2⟩:=h.shape
 have l:=ZP h2
 refine⟨qs,h1,h2,by simp[l],?_,?_⟩
 ·rw[List.take_append_of_le_length (by simp),List.take_of_length_le (by simp)]
 ·rw[List.drop_append_of_le_length (by simp),List.drop_of_length_le (by simp)]
  rfl
def TJ (K:Frag):Sp:=fun vs H Q _=>∃(l:Addr) (ss:List Sn) (ps:List Addr),vs=[.ref l]/\zB K H l (ps.map V.ref)/\Paired (RJ H) ss ps/\ss.length<=400 /\
 ∀(l':Addr) (H':Hp) (ps':List Addr),Same H H'->H l'=none->H' l'=some (.lst (ps'.map V.ref))->Paired (RJ H') (ss.flatMap Sn.parts) ps'->Q (.ref l') H'
def zbd:Sp:=fun vs H Q _=>∃(p:Addr) (s:Sn),vs=[.ref p]/\RJ H s p/\(∀x∈s.letters,x∈uI)/\∀H',Same H H'->Q (.bl true) H'
theorem ze8:zba zbd:=fun vs H Q Q' E h ⟨p,s,e,h1,h2,q⟩=>⟨p,s,e,h1,h2,fun H' g=>h _ _ (q H' g)⟩
abbrev VC (sn:Sn)(zs:List Addr):List V:=V.str sn.word::(sn.letters.map V.str++zs.map V.ref)
def zhR:Sp:=fun vs H Q _=>∃(p:Addr) (s:Sn),vs=[.ref p]/\RJ H s p/\s.V1 uI/\s.count<=200/\s.depth<=24/\∀H',Same H H'->Q (.bl true) H'
def JL (K:Frag):Sp:=fun vs H Q _=>∃(l:Addr) (os:List Str),vs=[.ref l]/\zB K H l (os.map V.str)/\uJ os/\∀H',Same H H'->Q .non H'
def zdf:Sp:=fun vs H Q _=>∃(p:Addr) (s:Sn),vs=[.ref p]/\RJ H s p/\s.V1 uI/\s.count<=200/\s.depth<=24/\∀H',Same H H'->Q .non H'
def zbe:Sp:=fun vs H Q _=>∃(p:Addr) (s:Sn),vs=[.ref p]/\RJ H s p/\s.count<=400/\∀(l:Addr) (H':Hp) (ts:List Sn) (ps:List Addr),Same H H'->H l=none->H' l=some (.lst (ps.map V.ref))->Paired (RJ H') ts ps ->
 ts.length=s.count->(∀x,(∃t∈ts,x∈t.letters)↔x∈s.all)->Q (.ref l) H'
def JM:Sp:=fun vs H Q _=>∃(p:Addr) (s:Sn),vs=[.ref p]/\RJ H s p/\s.count<=400/\∀(l:Addr) (H':Hp) (xs:List Str),Same H H'->H l=none->H' l=some (.lst (xs.map V.str))->(∀x,x∈xs↔x∈s.all)->xs.length<=400->Q (.ref l) H'
def Nx (K:Frag):Sp:=fun vs H Q _=>∃(l:Addr) (x:Str) (os:List Str),vs=[.ref l,.str x]/\zB K H l (os.map V.str)/\x∈os/\Q .non H
def JN (K:Frag):Sp:=fun vs H Q _=>∃(l p:Addr) (os:List Str) (s:Sn),vs=[.ref l,.ref p]/\zB K H l (os.map V.str)/\RJ H s p/\s.count<=400/\s.V1 os/\∀H',Same H H'->Q .non H'
end
end Xv
namespace L2
open PySem
section
variable {K:Frag}{a:Addr}{xs:List V}{σ:St}{js:List Nat}{te:TE}{H:Hp}{Qf:Addr->Hp->List V->Prop}
theorem zlI (R:Nat->V->Prop)(hq:vf K H a xs)(hz:xs.length<=sizeLine)
  (hs:∀(i:Nat) x H',xs[i]?=some x->Same H H'->te (Xu σ js (some x)) H' fun v H3=>R i v/\Same H H3)
  (me:∀ σ H Q Q',(∀v H1,Q v H1->Q' v H1)->te σ H Q->te σ H Q')
  (hd:∀ys H' p,ys.length=xs.length->(∀(j:Nat) v,ys[j]?=some v->R j v)->Same H H'->H' p=none->Qf p H' ys) :
  ∃W:Nat->Nat->List V->Hp->Prop,(∃m,W 0 m [] H)/\∀i m ys H,W i m ys H ->
   ((Itt K a).stop i H/\∀p,H p=none->Qf p H ys) \/
   ((Itt K a).go i H/\ys.length<sizeLine/\∀x H',(Itt K a).KQ i H x H'->zcb (Xu σ js (some x)) H' fun b H2 =>
    if b=true then te (Xu σ js (some x)) H2 fun v H3=>∃m',m'<m/\W (i+1) m' (ys++[v]) H3 else ∃m',m'<m/\W (i+1) m' ys H2):=by
 refine zjy (fun i ys H'=>Same H H'/\ys.length=i/\∀(j:Nat) v,ys[j]?=some v->R j v) ⟨Same.refl _,rfl,fun j v h=>by simp at h⟩ hz ?_ ?_ (fun _ _ _ _ h q=>h _ _ q) me ?_
 ·rintro i ys H' hi ⟨g,e,r⟩
  exact⟨g.zo5 hq,by omega⟩
 ·rintro i x ys H' hx ⟨g,e,r⟩
  show te (Xu σ js (some x)) H' fun v H3=>Same H H3/\(ys++[v]).length=i+1/\∀(j:Nat) u,(ys++[v])[j]?=some u->R j u
  refine me _ _ _ _ (fun v H3 h3=>⟨h3.2,by rw[zuk,e];rfl,fun j u hj=>?_⟩) (hs i x H' hx g)
  by_cases hlt:j<ys.length
  ·rw[zuI hlt] at hj
   exact r j u hj
  ·rw[List.getElem?_append_right (by omega)] at hj
   have hj0:j-ys.length=0:=by
    have:=(zuf.mp hj).1
    rw[zuJ] at this
    omega
   rw[hj0] at hj
   have ev:v=u:=zuG hj
   have ej:j=i:=by omega
   rw[<-ev,ej]
   exact h3.1
 ·rintro ys H' p ⟨g,e,r⟩ hp
  exact hd ys H' p e r g hp
theorem zo6 {sp:Sp}(m:zba sp):∀ σ H Q Q',(∀v H1,Q v H1->Q' v H1)->Mw sp [] E0 (Mv (zb8 0) (Mv (zb8 1) zdL)) σ H Q->Mw sp [] E0 (Mv (zb8 0) (Mv (zb8 1) zdL)) σ H Q' :=
 fun σ H Q Q' h ⟨v,e,u,e',q⟩=>⟨v,e,u,e',m _ _ _ _ _ h q⟩
theorem ne_str {x y:Str}(h:x≠y):¬decide (V.str x=V.str y)=true:=fun z=>h (by have:=of_decide_eq_true z;injection this)
theorem len1 {α:Type}{ys:List α}(h:ys.length=1):∃v,ys=[v]:=by
 match ys,h with
 | [v],_=>exact⟨v,rfl⟩
theorem len2 {α:Type}{ys:List α}(h:ys.length=2):∃v u,ys=[v,u]:=by
 match ys,h with
 | [v,u],_=>exact⟨v,u,rfl⟩
end
end L2
namespace Xv
open PySem L2
section
variable {K:Frag}
def ix (os:List Str)(x:Str):Nat:=os.findIdx (·==x)
theorem Ze:∀{os:List Str} {x:Str},x∈os->(os.map V.str).findIdx? (fun z=>eqV z (.str x))=some (ix os x)/\ix os x<os.length/\os[ix os x]?=some x
 | t::r,x,h=>by
  unfold ix
  rw[zuA,List.findIdx?_cons,List.findIdx_cons]
  show(if (t==x)=true then some 0 else _)=_/\_
  by_cases e:t=x
  ·subst e
   simp
  ·have hb:(t==x)=false:=by simpa using e
   have hr:x∈r:=by
    rcases List.mem_cons.mp h with z | z
    ·exact absurd z.symm e
    ·exact z
   obtain⟨h1,h2,h3⟩:=Ze hr
   rw[hb,h1]
   unfold ix at h2 h3 ⊢
   refine⟨rfl,?_,?_⟩
   ·show(r.findIdx (·==x))+1<(t::r).length
    rw[zuo];omega
   ·show(t::r)[(r.findIdx (·==x))+1]?=some x
    rw[List.getElem?_cons_succ];exact h3
theorem zgG {os:List Str}{x y:Str}(hx:x∈os)(hy:y∈os):ix os y=ix os x↔y=x:=by
 constructor
 ·intro e
  have h1:=(Ze hx).2.2
  have h2:=(Ze hy).2.2
  rw[e,h1] at h2
  exact(zuG h2).symm
 ·intro e;rw[e]
def Pa (os:List Str)(b:Nat):Str->Bool:=fun x=>b.testBit (ix os x)
theorem zaF {os:List Str}{s:Sn}{x:Str}(hs:s.V1 os)(hx:x∈os)(b:Nat)(v:Bool):s.val (fun y=>if y=x then v else Pa os b y)=s.val (Pa os (zU b (ix os x) v)):=by
 refine Sn.val_congr s hs fun y hy=>?_
 show _=(zU b (ix os x) v).testBit (ix os y)
 rw[zY]
 by_cases e:y=x
 ·rw[if_pos e,if_pos ((zgG hx hy).mpr e)]
 ·rw[if_neg e,if_neg (fun z=>e ((zgG hx hy).mp z))]
  rfl
theorem wX (b p:Nat):zU b p (b.testBit p)=b:=by unfold zU;rw[if_pos rfl]
theorem zjP {os:List Str}{s:Sn}{x:Str}(hs:s.V1 os)(hx:x∈os)(b:Nat):(Sn.q1 true x s).val (Pa os b)=(s.val (Pa os b)||s.val (Pa os (zU b (ix os x) (!b.testBit (ix os x))))):=by
 show(s.val (fun y=>if y=x then true else Pa os b y)||s.val (fun y=>if y=x then false else Pa os b y))=_
 rw[zaF hs hx,zaF hs hx]
 have z:=wX b (ix os x)
 cases hb:b.testBit (ix os x)
 ·rw[hb] at z;rw[z];exact Bool.or_comm _ _
 ·rw[hb] at z;rw[z];rfl
theorem zjQ {os:List Str}{s:Sn}{x:Str}(hs:s.V1 os)(hx:x∈os)(b:Nat):(Sn.q1 false x s).val (Pa os b)=(s.val (Pa os b)&&s.val (Pa os (zU b (ix os x) (!b.testBit (ix os x))))):=by
 show(s.val (fun y=>if y=x then true else Pa os b y)&&s.val (fun y=>if y=x then false else Pa os b y))=_
 rw[zaF hs hx,zaF hs hx]
 have z:=wX b (ix os x)
 cases hb:b.testBit (ix os x)
 ·rw[hb] at z;rw[z];exact Bool.and_comm _ _
 ·rw[hb] at z;rw[z];rfl
def TabOf (os:List Str)(s:Sn)(N:Nat):Prop:=z8 os.length N (fun b=>s.val (Pa os b))
theorem zo7:∀o,w2 o≠Str.ofString "no" := by decide +kernel
theorem znH:∀o,w2 o≠Str.ofString "yes" := by decide +kernel
theorem zlJ:∀o,w2 o≠Str.ofString "mark" := by decide +kernel
theorem znI:∀o,w2 o≠Str.ofString "not" := by decide +kernel
theorem zlK:∀o,w2 o≠Str.ofString "some" := by decide +kernel
theorem zlL:∀o,w2 o≠Str.ofString "each" := by decide +kernel
theorem zqZ (o:Fin 4):o=0\/o=1\/o=2\/o=3:=by
 match o with
 | 0=>exact .inl rfl
 | 1=>exact .inr (.inl rfl)
 | 2=>exact .inr (.inr (.inl rfl))
 | 3=>exact .inr (.inr (.inr rfl))
def zhS:Sp:=fun vs H Q _=>∃(o:Fin 4) (N M n:Nat) (f g:Nat->Bool),vs=[.str (w2 o),.int N,.int M,.int ((2^2^n-1:Nat):Int)]/\z8 n N f/\z8 n M g/\∀R:Nat,z8 n R (fun b=>Sn.op2 o (f b) (g b))->Q (.int R) H
def Qz (K:Frag)(d:Nat):Sp:=fun vs H Q _=>∃(p l:Addr) (s:Sn) (os:List Str),vs=[.ref p,.ref l]/\RJ H s p/\zB K H l (os.map V.str)/\s.V1 os/\os.length<=8/\s.depth<=d/\∀(N:Nat) (H':Hp),Same H H'->TabOf os s N->Q (.int N) H'
theorem zgH (d:Nat):zba (Qz K d):=fun vs H Q Q' E h ⟨p,l,s,os,e,h1,h2,h3,h4,h5,q⟩=>⟨p,l,s,os,e,h1,h2,h3,h4,h5,fun N H' g z=>h _ _ (q N H' g z)⟩
theorem Lb {os:List Str}{i:Int}(h0:-(os.length:Int)<=i)(h1:i<os.length):∃x,x∈os/\atI (os.map V.str) i=some (.str x):=by
 have e:(os.map V.str).length=os.length:=zuc _
 obtain⟨j,v,q1,q2⟩:=Tz (xs:=os.map V.str) (i:=i) (by omega) (by omega)
 rw[zue] at q2
 cases hx:os[j]? with
 | none=>rw[hx] at q2;cases q2
 | some x =>
  rw[hx] at q2
  cases q2
  exact⟨x,zuh hx,q1⟩
def zjR (K:Frag):Sp:=fun vs H Q _=>∃(a:Addr) (ns:List Int),vs=[.ref a]/\zB K H a (ns.map V.int)/\ns.length<=63/\∀H',Q (.bl true) H'
end
end Xv
namespace L2
open PySem PySem.Spec PyProof.Rows
theorem Pb {α:Type}{us:List α}(h:us.length=0):us=[]:=List.length_eq_zero_iff.mp h
theorem Ld {α:Type}{us:List α}{n:Nat}(h:us.length=n+1):∃a vs,us=a::vs/\vs.length=n:=by
 cases us with
 | nil=>cases h
 | cons a vs=>exact⟨a,vs,rfl,by simpa using h⟩
def zo8 (N P:List Str)(sc:Scope):Bool:=(match sc.kind with | .function=>true | _=>false)&&!sc.isCoroutine&&!sc.isGenerator&&decide N.Nodup&&decide (N.take P.length=P)&&P.all (fun x=>decide (sc.names.lookup x=some .local\/sc.names.lookup x=some .cell))&&sc.names.all (fun y=>decide (y.2≠.free))
theorem fsc {N P:List Str}{sc:Scope}(h:zo8 N P sc=true):zK N P sc:=by
 unfold zo8 at h
 simp only[zuD,Bool.not_eq_true',decide_eq_true_eq,zuF] at h
 obtain⟨⟨⟨⟨⟨⟨h1,h2⟩,h3⟩,h4⟩,h5⟩,h6⟩,h7⟩:=h
 refine⟨?_,h2,h3,h4,h5,h6,h7⟩
 revert h1
 cases sc.kind<;>simp
structure Df (K:Frag)(mg:Str->Option Value)(x:Str)(st:Stmt)(f:Addr)(d:FuncData)(ps:List Str):Prop where
 F:Fun K x x st f d
 b:Binds K d ps []
 m:mg x=some (.ref f)
structure Dm (K:Frag)(C:Addr)(x q:Str)(st:Stmt)(f:Addr)(d:FuncData)(ps:List Str):Prop where
 F:Fun K x q st f d
 b:Binds K d ps []
 e:Meth K C x f
section
variable {K:Frag}{h:Heap}{mg:Str->Option Value}{x q:Str}{st:Stmt}{f C:Addr}{oc:Value}{od an:Option Addr}{osl:Array (Option Value)}{kV doc pm cdv ct:Value}{ps:List Str}
theorem dfm (X:K.In h)(G:h.Ns mainGlobals mg)(n:nsIn K mainGlobals x=some (some (.ref f)))(l:K.lookup f=some ⟨oc,od,.func (PySem.W.fnOf x x (YL st) (uh st) (zx st) .none kV doc pm an cdv ct),osl⟩)
  (c:PySem.W.codeIn K cdv x=true)(k:PySem.W.keepIn K (.ref f)=true)
  (b:∀(kV doc pm:Value) (an:Option Addr) (cdv ct:Value) (us:List Value),us.length=ps.length->bindArgs (PySem.W.fnOf x x (YL st) (uh st) (zx st) .none kV doc pm an cdv ct) ⟨us,[]⟩=pure (ps.zip us)) :
  Df K mg x st f (PySem.W.fnOf x x (YL st) (uh st) (zx st) .none kV doc pm an cdv ct) ps:=⟨zdR l c k,(zdR l c k).binds b,mg_of X G n⟩
theorem dmm (n:findIn K (.ref C) x=some (some (.ref f)))(i:PySem.W.isFn K (.ref f)=true)(l:K.lookup f=some ⟨oc,od,.func (PySem.W.fnOf x q (YL st) (uh st) (zx st) .none kV doc pm an cdv ct),osl⟩)
  (c:PySem.W.codeIn K cdv q=true)(k:PySem.W.keepIn K (.ref f)=true)
  (b:∀(kV doc pm:Value) (an:Option Addr) (cdv ct:Value) (us:List Value),us.length=ps.length->bindArgs (PySem.W.fnOf x q (YL st) (uh st) (zx st) .none kV doc pm an cdv ct) ⟨us,[]⟩=pure (ps.zip us)) :
  Dm K C x q st f (PySem.W.fnOf x q (YL st) (uh st) (zx st) .none kV doc pm an cdv ct) ps:=⟨zdR l c k,(zdR l c k).binds b,⟨n,i,k⟩⟩
theorem zd0 {p:Addr}{it:Array Value}{n:Nat}{od:Option Addr}{sl:Array (Option Value)}{xs:List V}(l:K.lookup p=some ⟨.type "tuple", od,.seq it n,sl⟩)(v:it.toList.map zgg=xs.map some)(h:xs.length<=1000):∀H,vf K H p xs:=fun H=>zmN l v h
end
section
variable {X:Cx}{CX:CXT}{k:Nat}{f C:Addr}{fd:FuncData}{ps:List Str}{sp:Sp}{st:Stmt}{x q m:Str}{p pos apos:Pos}{e o:Expr}{es:List Expr}{t:TA}{ta:TE}{E:XK}
theorem zu (F:zy X.prog X.w X.K X.mg X.base yq k f fd ps sp)(hr:tE k X.A)(D:Df X.K X.mg x st f fd ps)(ha:PA X (e::es) t)(hg:Gl X x:=by rfl)(hdb:(x==("__debug__" : Str))=false:=by decide)(he:starEach (e::es) X.env=(false,eval e X.env)::starEach es X.env:=by rfl)(hpl:(backTo pos (starEach es X.env)).any (·.1)=false:=by rfl) :
  PE X (.Call (.Name x p) (e::es) [] pos) (Mw sp [] E0 t):=zhz F hr hg D.m D.F.2 D.b .nil zhG ha hdb he hpl
theorem xM (hx:Passes CX X E)(F:zy X.prog X.w X.K X.mg X.base CX k f fd ps sp)(hr:tE k X.A)(D:Df X.K X.mg x st f fd ps)(ha:PA X (e::es) t)(hg:Gl X x:=by rfl)(hdb:(x==("__debug__" : Str))=false:=by decide)(he:starEach (e::es) X.env=(false,eval e X.env)::starEach es X.env:=by rfl)(hpl:(backTo pos (starEach es X.env)).any (·.1)=false:=by rfl) :
  PE X (.Call (.Name x p) (e::es) [] pos) (Mw sp [] E t):=zhz F hr hg D.m D.F.2 D.b .nil hx ha hdb he hpl
theorem xu {pl:Sem Bool}(he:PE X o ta)(c:Cls X.K C)(D:Dm X.K C m q st f fd ps)(F:zy X.prog X.w X.K X.mg X.base yq k f fd ps sp)(hr:tE k X.A)(ha:PA X (e::es) t)
  (hst:starEach (e::es) X.env=(false,eval e X.env)::starEach es X.env:=by rfl)(hpl:(backTo pos (starEach es X.env)).any (·.1)=false:=by rfl)
  (ht:eval (.Call (.Attribute o m apos) (e::es) [] pos) X.env=(do
   let ov <-eval o X.env
   standAt apos.atName
   let (f,first) <-holding [ov] (getMethod ov m pl)
   callWith pos f first (backTo pos (starEach (e::es) X.env)) (backToKw pos (keywordEach [] X.env))):=by rfl) :
  PE X (.Call (.Attribute o m apos) (e::es) [] pos) (zcX C m sp [] E0 ta t):=zhA he c D.e F hr D.b .nil zhG ha hst hpl ht
theorem Jc (hx:Passes CX X E){pl:Sem Bool}(he:PE X o ta)(c:Cls X.K C)(D:Dm X.K C m q st f fd ps)(F:zy X.prog X.w X.K X.mg X.base CX k f fd ps sp)(hr:tE k X.A)(ha:PA X (e::es) t)
  (hst:starEach (e::es) X.env=(false,eval e X.env)::starEach es X.env:=by rfl)(hpl:(backTo pos (starEach es X.env)).any (·.1)=false:=by rfl)
  (ht:eval (.Call (.Attribute o m apos) (e::es) [] pos) X.env=(do
   let ov <-eval o X.env
   standAt apos.atName
   let (f,first) <-holding [ov] (getMethod ov m pl)
   callWith pos f first (backTo pos (starEach (e::es) X.env)) (backToKw pos (keywordEach [] X.env))):=by rfl) :
  PE X (.Call (.Attribute o m apos) (e::es) [] pos) (zcX C m sp [] E ta t):=zhA he c D.e F hr D.b .nil hx ha hst hpl ht
theorem uW {pl:Sem Bool}(he:PE X o ta)(c:Cls X.K C)(D:Dm X.K C m q st f fd ps)(F:zy X.prog X.w X.K X.mg X.base yq k f fd ps sp)(hr:tE k X.A)
  (ht:eval (.Call (.Attribute o m apos) [] [] pos) X.env=(do
   let ov <-eval o X.env
   standAt apos.atName
   let (f,first) <-holding [ov] (getMethod ov m pl)
   callWith pos f first (backTo pos (starEach [] X.env)) (backToKw pos (keywordEach [] X.env))):=by rfl) :
  PE X (.Call (.Attribute o m apos) [] [] pos) (zcX C m sp [] E0 ta zdL):=zeW he c D.e F hr D.b .nil zhG ht
theorem zbf (hx:Passes CX X E){pl:Sem Bool}(he:PE X o ta)(c:Cls X.K C)(D:Dm X.K C m q st f fd ps)(F:zy X.prog X.w X.K X.mg X.base CX k f fd ps sp)(hr:tE k X.A)
  (ht:eval (.Call (.Attribute o m apos) [] [] pos) X.env=(do
   let ov <-eval o X.env
   standAt apos.atName
   let (f,first) <-holding [ov] (getMethod ov m pl)
   callWith pos f first (backTo pos (starEach [] X.env)) (backToKw pos (keywordEach [] X.env))):=by rfl) :
  PE X (.Call (.Attribute o m apos) [] [] pos) (zcX C m sp [] E ta zdL):=zeW he c D.e F hr D.b .nil hx ht
end
inductive Ent (K:Frag)(w:World):List DictEntry->List (Str×Int×Int)->List (Str×Value)->Prop
 | nil:Ent K w [] [] []
 | cons {k:Str} {tk:Tok} {p:Addr} {m n:Int} {od:Option Addr} {it:Array Value} {z:Nat} {sl:Array (Option Value)} {es:List DictEntry} {tb:List (Str×Int×Int)} {kvs:List (Str×Value)} (l:K.lookup p=some ⟨.type "tuple", od,.seq it z,sl⟩) (v:it.toList.map zgg=[V.int m,V.int n].map some) (t:Ent K w es tb kvs) :
   Ent K w (⟨hashStr w k,.str k tk,.ref p⟩::es) ((k,m,n)::tb) ((k,.ref p)::kvs)
structure Shp (K:Frag)(P:Program)(w:World)(a:Addr)(kvs:List (Str×Value))(tb:List (Str×Int×Int)):Prop where
 d:zly K P w a kvs
 y:∀k m n,(k,m,n)∈tb->∃p,valueAt kvs k=some (.ref p)/\∀H,vf K H p [.int m,.int n]
 z:∀k,(∀e∈tb,e.1≠k)->valueAt kvs k=none
theorem Ent.keys {K:Frag}{w:World}{es:List DictEntry}{tb:List (Str×Int×Int)}{kvs:List (Str×Value)}(h:Ent K w es tb kvs):kvs.map (·.1)=tb.map (·.1):=by
 induction h with
 | nil=>rfl
 | cons _ _ _ ih=>rw[zuA,zuA,ih]
theorem znJ {K:Frag}{P:Program}{w:World}{a:Addr}{es:Array DictEntry}{ep:Nat}{kvs:List (Str×Value)}{tb:List (Str×Int×Int)}(l:K.lookup a=some ⟨.type "dict", none,.dict es ep,#[]⟩)(s:(a==sysModules)=false)(nd:decide (tb.map (·.1)).Nodup=true)(h:Ent K w es.toList tb kvs):Shp K P w a kvs tb:=by
 have nk:(kvs.map (·.1)).Nodup:=by rw[h.keys];exact of_decide_eq_true nd
 obtain⟨el,hel⟩:∃el,es.toList=el:=⟨_,rfl⟩
 rw[hel] at h
 refine⟨zlB l hel s ?_ nk,?_,?_⟩
 ·clear nd nk l s hel
  induction h with
  | nil=>exact znF
  | cons _ _ _ ih=>exact zlA ih
 ·clear nd l s hel
  induction h with
  | nil=>intro k m n hm;cases hm
  | @cons k0 tk p m0 n0 od it z sl es tb kvs l v t ih =>
   intro k m n hm
   rw[zuA,List.nodup_cons] at nk
   rcases List.mem_cons.mp hm with e | e
   ·cases e
    refine⟨p,?_,fun H=>zmN l v (by show 2<=1000;decide)⟩
    simp[valueAt]
   ·obtain⟨q,hq,sq⟩:=ih nk.2 k m n e
    refine⟨q,?_,sq⟩
    have ne:k0≠k:=fun z=>nk.1 (by rw[z,t.keys];exact List.mem_map.mpr ⟨_,e,rfl⟩)
    simp[valueAt,ne] at hq ⊢
    exact hq
 ·clear nd nk l s hel
  induction h with
  | nil=>intro k _;rfl
  | @cons k0 tk p m0 n0 od it z sl es tb kvs l v t ih =>
   intro k hk
   have ne:=hk (k0,m0,n0) (zuv ..)
   have:=ih k fun e he=>hk e (zun _ he)
   simp[valueAt] at this ⊢
   exact⟨ne,this⟩
theorem Zf {X:Cx}{pos:Pos}(i:Nat){x:Str}{e:Expr}{te:TE}{pos':Pos}(hN:X.N.Nodup)(he:PE X e te)(hi:X.N[i]?=some x:=by rfl)(hx:Loc X.env.scope x:=by exact Or.inl rfl)(hs:swapsWith e (some (.Name x pos')) pos.line X.env=pure false:=by rfl)(hf:X.fn x=true\/X.env.scope.names.lookup x=some .local:=by first | exact .inl rfl | exact .inr rfl | assumption) :
  PS X (.Assign [.Name x pos'] e pos) (zli te (Ri i)):=zQ hN hi hx he hs hf
def lcB (Zx sc:Scope)(x:Str)(fv:List Str):Bool:=(match sc.kind with | .function=>true | _=>false)&&sc.names.all (fun y=>decide (y.2≠.cell))&&sc.names.all (fun y=>decide (y.2=.local->sc.names.lookup y.1=some .local))&&decide (sc.names.lookup x=some .local)&&sc.names.all (fun y=>decide (y.2=.free->Zx.names.lookup y.1=some .cell\/Zx.names.lookup y.1=some .free))&&fv.all (fun y=>decide (sc.names.lookup y=some .free/\(Zx.names.lookup y=some .cell\/Zx.names.lookup y=some .free)))&&decide (x::fv).Nodup
theorem lco {Zx sc:Scope}{x:Str}{fv:List Str}(h:lcB Zx sc x fv=true):XJ Zx sc x fv:=by
 unfold lcB at h
 simp only[zuD,decide_eq_true_eq,zuF] at h
 obtain⟨⟨⟨⟨⟨⟨h1,h2⟩,h3⟩,h4⟩,h5⟩,h6⟩,h7⟩:=h
 refine⟨?_,h2,h3,h4,h5,h6,h7⟩
 revert h1
 cases sc.kind<;>simp
section
variable {κ:Type}[DecidableEq κ]
def Vh (kvs:List (κ×V))(k:κ):Option V:=(kvs.find? fun kv=>decide (kv.1=k)).map (·.2)
def putK (kvs:List (κ×V))(k:κ)(v:V):List (κ×V) :=
 if (kvs.any fun kv=>decide (kv.1=k))=true then kvs.map (fun kv=>if kv.1=k then (kv.1,v) else kv) else kvs++[(k,v)]
theorem tU {p:κ×V}{r:List (κ×V)}{k:κ}(e:p.1=k):Vh (p::r) k=some p.2:=by simp[Vh,List.find?_cons,e]
theorem tV {p:κ×V}{r:List (κ×V)}{k:κ}(e:¬p.1=k):Vh (p::r) k=Vh r k:=by simp[Vh,List.find?_cons,e]
theorem Le (k:κ):∀kvs:List (κ×V),(kvs.any fun kv=>decide (kv.1=k))=(Vh kvs k).isSome
 | []=>rfl
 | p::r=>by
  rw[List.any_cons]
  by_cases e:p.1=k
  ·simp only[tU e,decide_eq_true e,Bool.true_or,Option.isSome_some]
  ·rw[tV e,decide_eq_false e,Bool.false_or];exact Le k r
theorem ze9 (k j:κ)(y:V):∀kvs:List (κ×V),Vh (kvs.map fun kv=>if kv.1=k then (kv.1,y) else kv) j=(Vh kvs j).map fun x=>if j=k then y else x
 | []=>rfl
 | p::r=>by
  have ih:=ze9 k j y r
  rw[zuA]
  by_cases h:p.1=k
  ·rw[if_pos h]
   by_cases e:p.1=j
   ·rw[tU (p:=(p.1,y)) e,tU e,Option.map_some,if_pos (e.symm.trans h)]
   ·rw[tV (p:=(p.1,y)) e,tV e,ih]
  ·rw[if_neg h]
   by_cases e:p.1=j
   ·rw[tU (p:=p) e,tU e,Option.map_some,if_neg (fun z=>h (e.trans z))]
   ·rw[tV (p:=p) e,tV e,ih]
theorem zdg (k j:κ)(y:V):∀kvs:List (κ×V),Vh kvs k=none->Vh (kvs++[(k,y)]) j=if j=k then some y else Vh kvs j
 | [],_=>by
  by_cases e:k=j
  ·rw[if_pos e.symm];exact tU (p:=(k,y)) e
  ·rw[if_neg (fun z=>e z.symm)];exact tV (p:=(k,y)) e
 | p::r,hn=>by
  rw[List.cons_append]
  have hk:¬p.1=k:=fun z=>by rw[tU z] at hn;cases hn
  rw[tV hk] at hn
  have ih:=zdg k j y r hn
  by_cases e:p.1=j
  ·rw[tU e,tU e,if_neg (fun z=>hk (e.trans z))]
  ·rw[tV e,tV e,ih]
theorem zbg (kvs:List (κ×V))(k j:κ)(y:V):Vh (putK kvs k y) j=if j=k then some y else Vh kvs j:=by
 unfold putK
 by_cases a:(kvs.any fun kv=>decide (kv.1=k))=true
 ·rw[if_pos a,ze9]
  rw[Le] at a
  by_cases e:j=k
  ·obtain⟨x,hx⟩:=Option.isSome_iff_exists.mp a
   rw[if_pos e,e,hx,Option.map_some,if_pos rfl]
  ·rw[if_neg e]
   cases Vh kvs j with
   | none=>rfl
   | some x=>rw[Option.map_some,if_neg e]
 ·rw[if_neg a]
  refine zdg k j y kvs ?_
  rw[Le] at a
  cases q:Vh kvs k with
  | none=>rfl
  | some x=>rw[q] at a;exact(a rfl).elim
theorem Vm (kvs:List (κ×V))(k:κ)(v:V):(putK kvs k v).length<=kvs.length+1:=by
 unfold putK
 split
 ·rw[zuc];omega
 ·rw[zuk,zuo,List.length_nil];omega
theorem Q7.Jd {o:Option V}{u:Option Value}(r:Q7 o u):o.isSome=u.isSome:=by
 cases o with
 | none=>cases u with
  | none=>rfl
  | some _=>exact(show False from r).elim
 | some _=>cases u with
  | none=>exact(show False from r).elim
  | some _=>rfl
theorem KV.val {kvs:List (κ×V)}{vs:List (κ×Value)}(r:KV kvs vs)(k:κ):Q7 (Vh kvs k) (valueAt vs k):=by
 unfold KV at r
 induction r with
 | nil=>exact True.intro
 | @cons p q ps qs h t ih =>
  obtain⟨h1,h2⟩:=h
  by_cases e:p.1=k
  ·have e':q.1=k:=h1.symm.trans e
   have b:valueAt (q::qs) k=some q.2:=by simp[valueAt,List.find?_cons,e']
   rw[tU e,b];exact h2
  ·have e':¬q.1=k:=fun z=>e (h1.trans z)
   have b:valueAt (q::qs) k=valueAt qs k:=by simp[valueAt,List.find?_cons,e']
   rw[tV e,b];exact ih
theorem KV.any {kvs:List (κ×V)}{vs:List (κ×Value)}(r:KV kvs vs)(k:κ):(kvs.any fun kv=>decide (kv.1=k))=vs.any fun kv=>decide (kv.1=k):=by
 unfold KV at r
 induction r with
 | nil=>rfl
 | cons h t ih=>rw[List.any_cons,List.any_cons,ih,h.1]
theorem KV.repl {kvs:List (κ×V)}{vs:List (κ×Value)}(r:KV kvs vs)(k:κ){y:V}{u:Value}(ry:RelV y u) :
  KV (kvs.map fun kv=>if kv.1=k then (kv.1,y) else kv) (vs.map fun kv=>if kv.1=k then (kv.1,u) else kv):=by
 unfold KV at r ⊢
 induction r with
 | nil=>exact .nil
 | @cons p q ps qs h t ih =>
  rw[zuA,zuA]
  refine .cons ?_ ih
  obtain⟨h1,h2⟩:=h
  by_cases e:p.1=k
  ·rw[if_pos e,if_pos (h1.symm.trans e)];exact⟨h1,ry⟩
  ·rw[if_neg e,if_neg (fun z=>e (h1.trans z))];exact⟨h1,h2⟩
theorem KV.put {kvs:List (κ×V)}{vs:List (κ×Value)}(r:KV kvs vs)(k:κ){y:V}{u:Value}(ry:RelV y u):KV (putK kvs k y) (stored vs k u):=by
 unfold putK stored
 rw[r.any k]
 by_cases e:(vs.any fun kv=>decide (kv.1=k))=true
 ·rw[if_pos e,if_pos e];exact r.repl k ry
 ·rw[if_neg e,if_neg e];exact Paired.snoc r ⟨rfl,ry⟩
theorem KV.length {kvs:List (κ×V)}{vs:List (κ×Value)}(r:KV kvs vs):kvs.length=vs.length:=Paired.length r
end
theorem zfa {P:Program}{w:World}{k:Key}{u:Value}(r:RelV (kV k) u):(ug P w).is k u=true:=by
 cases k with
 | inl i=>obtain⟨t,e⟩:=(show ∃t,u=Value.int i t from r);subst e;exact zeQ P w i t
 | inr x=>obtain⟨t,e⟩:=(show ∃t,u=Value.str x t from r);subst e;exact zeR P w x t
theorem zdh {P:Program}{w:World}:∀{ks:List Key} {us:List Value},Vals (ks.map kV) us->ItemsAre (ug P w) ks us
 | [],_,r=>by rw[List.map_nil] at r;cases r;exact .nil
 | k::ks,_,r=>by
  rw[zuA] at r
  cases r with
  | cons h t=>exact .cons (zfa h) (zdh t)
abbrev KT (H:Hp):List (List Key×V)->List (List Key×Addr×Value)->Prop:=Paired fun p q=>p.1=q.1/\H q.2.1=some (.tup (p.1.map kV))/\RelV p.2 q.2.2
theorem KT.val {H:Hp}{kvs:List (List Key×V)}{xs:List (List Key×Addr×Value)}(r:KT H kvs xs)(k:List Key):Q7 (Vh kvs k) ((atKey xs k).map (·.2)):=by
 induction r with
 | nil=>exact True.intro
 | @cons p q ps qs h t ih =>
  obtain⟨h1,_,h2⟩:=h
  by_cases e:p.1=k
  ·have e':q.1=k:=h1.symm.trans e
   have b:atKey (q::qs) k=some q.2:=by simp[atKey,List.find?_cons,e']
   rw[tU e,b];exact h2
  ·have e':¬q.1=k:=fun z=>e (h1.trans z)
   have b:atKey (q::qs) k=atKey qs k:=by simp[atKey,List.find?_cons,e']
   rw[tV e,b];exact ih
theorem KT.repl {H:Hp}{kvs:List (List Key×V)}{xs:List (List Key×Addr×Value)}(r:KT H kvs xs)(k:List Key){y:V}{u:Value}(ry:RelV y u) :
  KT H (kvs.map fun kv=>if kv.1=k then (kv.1,y) else kv) (xs.map (putAt k u)):=by
 induction r with
 | nil=>exact .nil
 | @cons p q ps qs h t ih =>
  rw[zuA,zuA]
  refine .cons ?_ ih
  obtain⟨h1,h2,h3⟩:=h
  unfold putAt
  by_cases e:p.1=k
  ·rw[if_pos e,if_pos (h1.symm.trans e)];exact⟨h1,h2,ry⟩
  ·rw[if_neg e,if_neg (fun z=>e (h1.trans z))];exact⟨h1,h2,h3⟩
theorem KT.put {H:Hp}{kvs:List (List Key×V)}{xs:List (List Key×Addr×Value)}(r:KT H kvs xs)(k:List Key){b:Addr}{y:V}{u:Value}(hb:H b=some (.tup (k.map kV)))(ry:RelV y u) :
  KT H (putK kvs k y) (storedH xs k b u):=by
 have e:(kvs.any fun kv=>decide (kv.1=k))=(atKey xs k).isSome:=by
  rw[Le,(r.val k).Jd,Option.isSome_map]
 unfold putK storedH
 rw[e]
 by_cases q:(atKey xs k).isSome=true
 ·rw[if_pos q,if_pos q];exact r.repl k ry
 ·rw[if_neg q,if_neg q];exact Paired.snoc r ⟨rfl,hb,ry⟩
theorem KT.keeps {H H':Hp}{kvs:List (List Key×V)}{xs:List (List Key×Addr×Value)}(r:KT H kvs xs)(ht:∀b ys,H b=some (.tup ys)->H' b=some (.tup ys)):KT H' kvs xs :=
 Paired.zne r fun _ _ z=>⟨z.1,ht _ _ z.2.1,z.2.2⟩
section
variable {P:Program}{w:World}{H:Hp}{h:Heap}{a:Addr}
theorem zmQ {u:HO}(ok:Rh P w H h)(e:Rd H a u):vG P w H h a u:=e.ok ok
theorem zhT {kvs:List (Key×V)}(ok:Rh P w H h)(e:Rd H a (.dK kvs)):kvs.length<=sizeLine/\(a==sysModules)=false/\∃vs,KV kvs vs/\h.DictOf (ug P w) a vs :=
 show vG P w H h a (.dK kvs) from zmQ ok e
theorem zmR {kvs:List (Key×V)}(ok:Rh P w H h)(e:H a=some (.dK kvs)):kvs.length<=sizeLine/\(a==sysModules)=false/\∃vs,KV kvs vs/\h.DictOf (ug P w) a vs:=zhT ok (.inl e)
theorem zd1 {ks:List Key}(ok:Rh P w H h)(e:H a=some (.tup (ks.map kV))):(tupleKind (ug P w)).is h ks a:=by
 obtain⟨_,its,r,o,h1,h2,n,h3⟩:=(show vG P w H h a (.tup (ks.map kV)) from ok a _ e)
 exact⟨o,its.toArray,n,h1,h2,h3,by simpa using zdh r⟩
theorem zhU {kvs:List (List Key×V)}(ok:Rh P w H h)(e:Rd H a (.dT kvs)):kvs.length<=sizeLine/\(a==sysModules)=false /\
  ∃xs,KT H kvs xs/\h.DictOfH (tupleKind (ug P w)) a xs:=by
 obtain⟨z,y,xs,r,o,es,ep,h1,h2,h3,h4,h5⟩:=(show vG P w H h a (.dT kvs) from zmQ ok e)
 refine⟨z,y,xs,r,o,es,ep,h1,h2,h3,h4,fun x hx=>?_,h5⟩
 have all:∀{l:List (List Key×V)} {m:List (List Key×Addr×Value)},KT H l m->∀x∈m,(tupleKind (ug P w)).is h x.1 x.2.1:=by
  intro l m q
  induction q with
  | nil=>intro x hx;exact nomatch hx
  | @cons p q ps qs hq t ih =>
   intro x hx
   rcases List.mem_cons.mp hx with e | hx
   ·subst e
    exact zd1 ok (by rw[<-hq.1];exact hq.2.1)
   ·exact ih x hx
 exact all r x hx
theorem zo9 {kvs:List (List Key×V)}(ok:Rh P w H h)(e:H a=some (.dT kvs)):kvs.length<=sizeLine/\(a==sysModules)=false /\
  ∃xs,KT H kvs xs/\h.DictOfH (tupleKind (ug P w)) a xs:=zhU ok (.inl e)
end
def zce (H:Hp)(a:Addr)(y:V)(r:Option V):Prop :=
 (∃kvs k,Rd H a (.dK kvs)/\y=kV k/\r=Vh kvs k)\/∃kvs k b,Rd H a (.dT kvs)/\y=.ref b/\H b=some (.tup (k.map kV))/\r=Vh kvs k
def zjS (H:Hp)(a:Addr)(y v:V)(H':Hp):Prop :=
 (∃kvs k,H a=some (.dK kvs)/\y=kV k/\kvs.length<sizeLine/\H'=upd H a (.dK (putK kvs k v))) \/
 ∃kvs k b,H a=some (.dT kvs)/\y=.ref b/\H b=some (.tup (k.map kV))/\kvs.length<sizeLine/\H'=upd H a (.dT (putK kvs k v))
theorem zce.k {H:Hp}{a:Addr}{kvs:List (Key×V)}{k:Key}(e:H a=some (.dK kvs)):zce H a (kV k) (Vh kvs k):=.inl ⟨kvs,k,.inl e,rfl,rfl⟩
theorem zjS.k {H:Hp}{a:Addr}{kvs:List (Key×V)}{k:Key}{v:V}(e:H a=some (.dK kvs))(hl:kvs.length<sizeLine):zjS H a (kV k) v (upd H a (.dK (putK kvs k v))):=.inl ⟨kvs,k,e,rfl,hl,rfl⟩
section
variable {X:Cx}{pins:List (Addr×Obj)}{σ:St}{H:Hp}{s:Shared}{a:Addr}{y v:V}{u r:Value}{o:Option V}{A:Around}{E:Value->Shared->Prop}
theorem Inv.big (I:Inv X pins σ H s):sysModules<s.heap.objs.size:=by
 have h:mainGlobals<s.heap.objs.size:=(I.mod.glob.keeps I.bk).lt
 exact Nat.lt_trans (by decide) h
theorem ziz {Q:Value->Shared->Prop}(hu:A.units+1<cLine)(I:Inv X pins σ H s)(g:zce H a y (some v))(ry:RelV y u)(h:∀w' s',Inv X pins σ H s'->RelV v w'->Q w' s') :
  wpAny (model X.prog X.w) A (getItem (.ref a) u) Q E s:=by
 rcases g with ⟨kvs,k,e,ey,l⟩ | ⟨kvs,k,b,e,ey,eb,l⟩
 ·subst ey
  obtain⟨z,hd,vs,rel,dd⟩:=zhT I.hok e
  obtain⟨w',hw,rw'⟩:=Q7.some_of (v:=v) (o:=valueAt vs k) (by rw[l];exact rel.val k)
  exact wpAny_getItem_of (zfa ry) dd.mapOf hw (h w' _ (I.tok _) rw')
 ·subst ey
  cases (show u=Value.ref b from ry)
  obtain⟨z,hd,xs,rel,dd⟩:=zhU I.hok e
  obtain⟨w',hw,rw'⟩:=Q7.some_of (v:=v) (o:=(atKey xs k).map (·.2)) (by rw[l];exact rel.val k)
  obtain⟨p,hp,hp2⟩:=Option.map_eq_some_iff.mp hw
  refine wpAny_getItem_heap (tupleKind_room_in1 hu) (zd1 I.hok eb) dd hp ?_
  rw[hp2]
  exact h w' _ (I.tok _) rw'
theorem zlM {Q:Value->Shared->Prop}(hu:A.units+1<cLine)(I:Inv X pins σ H s)(g:zce H a y o)(ry:RelV y u)(h:∀s',Inv X pins σ H s'->Q (.bool (!o.isSome)) s') :
  wpAny (model X.prog X.w) A (compareOp .NotIn u (.ref a)) Q E s:=by
 rcases g with ⟨kvs,k,e,ey,l⟩ | ⟨kvs,k,b,e,ey,eb,l⟩
 ·subst ey
  obtain⟨z,hd,vs,rel,dd⟩:=zhT I.hok e
  refine wpAny_notIn_of (zfa ry) hd dd.mapOf ?_
  rw[<-(rel.val k).Jd,<-l]
  exact h _ (I.tok _)
 ·subst ey
  cases (show u=Value.ref b from ry)
  obtain⟨z,hd,xs,rel,dd⟩:=zhU I.hok e
  refine wpAny_notIn_heap (tupleKind_room_in1 hu) (zd1 I.hok eb) hd dd ?_
  have q:=(rel.val k).Jd
  rw[Option.isSome_map] at q
  rw[<-q,<-l]
  exact h _ (I.tok _)
theorem zd2 {h':Heap}{t':Nat}{ob:HO}(I:Inv X pins σ H s)(mu:Mut (H a))(hs:Heap.SameBut a s.heap h')(he:∃q,h'.get? a=some q)(new:vG X.prog X.w (upd H a ob) h' a ob) :
  Inv X pins σ (upd H a ob) { s with heap:=h',toks:=t' } :=
 I.write (x:=a) (e:=a) mu (.inl rfl) (fun b q hb z=>(hs.2 b hb).trans z) he new
theorem zjT {P:Program}{w:World}{H':Hp}{h':Heap}{kvs:List (Key×V)}{vs:List (Key×Value)}(z:kvs.length<=sizeLine)(hd:(a==sysModules)=false)(rel:KV kvs vs)(dd:h'.DictOf (ug P w) a vs) :
  vG P w H' h' a (.dK kvs):=⟨z,hd,vs,rel,dd⟩
theorem ziA {H':Hp}{Q:Unit->Shared->Prop}(hu:A.units+1<cLine)(I:Inv X pins σ H s)(g:zjS H a y v H')(ry:RelV y u)(rv:RelV v r)(h:∀s',Inv X pins σ H' s'->Q () s') :
  wpAny (model X.prog X.w) A (setItem (.ref a) u r) Q E s:=by
 rcases g with ⟨kvs,k,e,ey,l,eH⟩ | ⟨kvs,k,b,e,ey,eb,l,eH⟩
 ·subst ey eH
  obtain⟨z,hd,vs,rel,dd⟩:=zmR I.hok e
  have hz:vs.length<=sizeLine:=by rw[<-rel.length];exact z
  have hl:(putK kvs k v).length<=sizeLine:=by have:=Vm kvs k v;omega
  refine wpAny_setItem_pairs (hsz:=hz) (zfa ry) dd fun h' dd' hs=>h _ ?_
  have he:∃q,h'.get? a=some q:=let ⟨q,_,_,hq,_⟩:=dd';⟨q,hq⟩
  exact zd2 I (by rw[e];exact True.intro) hs he (zjT hl hd (rel.put k rv) dd')
 ·subst ey eH
  cases (show u=Value.ref b from ry)
  obtain⟨z,hd,xs,rel,dd⟩:=zo9 I.hok e
  have hz:xs.length<=sizeLine:=by rw[<-Paired.length rel];exact z
  have hl:(putK kvs k v).length<=sizeLine:=by have:=Vm kvs k v;omega
  refine wpAny_setItem_heap (hsz:=hz) (tupleKind_room_in1 hu) (zd1 I.hok eb) dd fun h' dd' hs=>h _ ?_
  obtain⟨q,es,ep,hq,h2,h3,h4,_,h5⟩:=dd'
  refine zd2 I (by rw[e];exact True.intro) hs ⟨q,hq⟩ ⟨hl,hd,_,(rel.put k eb rv).keeps fun c ys ec=>?_,q,es,ep,hq,h2,h3,h4,h5⟩
  rw[zE (Rw ec e (fun z=>nomatch z))]
  exact ec
end
def zpa (i:Expr):Prop:=∀ov iv,subscripted i false ov iv=operate [ov,iv] (getItem ov iv)
theorem zlN {prog:Program}{w:World}{A:Around}{E:Value->Shared->Prop}{s:Shared}{env:Env}{value slice:Expr}{pos:Pos}{T id:String}{Q:Value->Shared->Prop}
  (hl:typeLookup (.type T) "__getitem__"=pure (some (.builtin id)))(hs:zpa slice)
  (h:wpAny (model prog w) A (eval value env) (fun o s₁=>wpAny (model prog w) A (eval slice env) (fun i s₂=>s₂.TypeIs o T/\wpAny (model prog w) A (getItem o i) Q E s₂) E s₁) E s) :
  wpAny (model prog w) A (eval (.Subscript value slice pos) env) Q E s:=by
 refine Subscript_ (wpAny_mono h (fun o s₁ h₁=>wpAny_mono h₁ (fun i s₂ h₂=>?_) fun _ _ x=>x) fun _ _ x=>x)
 obtain⟨hT,h₂⟩:=h₂
 unfold subscriptTail
 refine wpAny_bind ?_
 rw[getitemInPython_of_ne hT.not_modules]
 refine wpAny_bind (wpAny_specialOf hT hl ?_)
 have fin:wpAny (model prog w) A (subscripted slice false o i) (fun r s₃=>wpAny (model prog w) A (letTemporaryGo value o r>>=fun _=>pure r) Q E s₃) E s₂:=by
  rw[hs o i]
  exact wpAny_operating (wpAny_mono h₂ (fun r s₃ h₃=>wpAny_bind (wpAny_letTemporaryGo (wpAny_pure h₃))) fun _ _ x=>x)
 first
  | exact wpAny_pure (wpAny_bind fin)
  | exact wpAny_bind (wpAny_pure (wpAny_bind fin))
  | exact wpAny_bind fin
theorem zfb {X:Cx}{pins:List (Addr×Obj)}{σ:St}{H:Hp}{s:Shared}{a:Addr}{y:V}{o:Option V}(I:Inv X pins σ H s)(g:zce H a y o):s.TypeIs (.ref a) "dict" := by
 rcases g with ⟨kvs,k,e,_,_⟩ | ⟨kvs,k,b,e,_,_,_⟩
 ·obtain⟨_,_,vs,_,dd⟩:=zhT I.hok e
  exact dd.typeIs
 ·obtain⟨_,_,xs,_,dd⟩:=zhU I.hok e
  exact dd.typeIs
def zpb (td ty:TE):TE:=fun σ H Q=>td σ H fun x H1=>ty σ H1 fun y H2=>∃a v,x=.ref a/\zce H2 a y (some v)/\Q v H2
def zlO (ty td:TE):TE:=fun σ H Q=>ty σ H fun y H1=>td σ H1 fun x H2=>∃a o,x=.ref a/\zce H2 a y o/\Q (.bl (!o.isSome)) H2
def zpc (td ty tv:TE):TS:=fun D σ H=>tv σ H fun v H1=>td σ H1 fun x H2=>ty σ H2 fun y H3=>∃a H4,x=.ref a/\zjS H3 a y v H4/\D.nx σ H4
section
variable {X:Cx}{o i e value:Expr}{pos pos' tpos:Pos}{td ty tv:TE}
theorem zlP (hu:X.A.units+1<cLine)(ho:PE X o td)(hi:PE X i ty)(hs:zpa i):PE X (.Subscript o i pos) (zpb td ty):=by
 intro pins s σ H Q I h
 refine zlN PySem.F.slot_dict_getitem.lookup hs (vM (ho pins s σ H _ I h) fun u s1 ⟨x,H1,I1,rx,q1⟩=>vM (hi pins s1 σ H1 _ I1 q1) fun iv s2 ⟨y,H2,I2,ry,a,v,ex,g,q2⟩=>?_)
 subst ex
 obtain rfl:u=Value.ref a:=rx
 exact⟨zfb I2 g,ziz hu I2 g ry fun w' s3 I3 rw'=>⟨v,H2,I3,rw',q2⟩⟩
theorem ziB (hu:X.A.units+1<cLine)(hi:PE X i ty)(ho:PE X o td):PC X .NotIn i o (zlO ty td):=by
 intro pins s σ H Q I h
 refine vM (hi pins s σ H _ I h) fun iv s1 ⟨y,H1,I1,ry,q1⟩=>vM (ho pins s1 σ H1 _ I1 q1) fun u s2 ⟨x,H2,I2,rx,a,ov,ex,g,q2⟩=>?_
 subst ex
 obtain rfl:u=Value.ref a:=rx
 exact zlM hu I2 g ry fun s3 I3=>⟨.bl (!ov.isSome),H2,I3,rfl,q2⟩
theorem zlQ (hu:X.A.units+1<cLine)(ho:PE X o td)(hi:PE X i ty)(hv:PE X value tv)(hs:swapsWith value (some (.Subscript o i pos')) pos.line X.env=pure false) :
  PS X (.Assign [.Subscript o i pos'] value pos) (zpc td ty tv):=by
 intro pins s σ H D I h
 refine wpAny_Assign_Subscript (vM (hv pins s σ H _ I h) fun r s1 ⟨v,H1,I1,rv,q1⟩=>vM (ho pins s1 σ H1 _ I1 q1) fun u s2 ⟨x,H2,I2,rx,q2⟩=>vM (hi pins s2 σ H2 _ I2 q2) fun iv s3 ⟨y,H3,I3,ry,a,H4,ex,g,q3⟩=>?_) hs
 subst ex
 obtain rfl:u=Value.ref a:=rx
 exact ziA hu I3 g ry rv fun s4 I4=>⟨σ,H4,I4,q3⟩
end
theorem zjU {P:Program}{w:World}{H:Hp}(h:Heap)(hb:sysModules<h.objs.size):vG P w H (h.push { cls:=.type "dict", data:=.dict #[] }) h.objs.size (.dK []) :=
 ⟨zuy _,beq_eq_false_iff_ne.mpr (Ne.symm (zur hb)),[],.nil,Heap.DictOf.new h⟩
def zgI:List (TE×TE)->St->Hp->(List (V×V)->Hp->Prop)->Prop
 | [],_,H,Q=>Q [] H
 | (tk,tv)::r,σ,H,Q=>tk σ H fun x H1=>tv σ H1 fun y H2=>zgI r σ H2 fun ps H3=>Q ((x,y)::ps) H3
abbrev VV:List (V×V)->List (Value×Value)->Prop:=Paired fun p q=>RelV p.1 q.1/\RelV p.2 q.2
def PPs (X:Cx)(pos:Pos)(keys:List (Option Expr))(values:List Expr)(trs:List (TE×TE)):Prop :=
 ∀(pins:List (Addr×Obj)) (s:Shared) (σ:St) (H:Hp) (Q:List (V×V)->Hp->Prop),Inv X pins σ H s->zgI trs σ H Q ->
  wpAny (model X.prog X.w) X.A (evalPairs (pairTrees keys values X.env pos)) (fun vs s'=>∃ps H',Inv X pins σ H' s'/\VV ps vs/\Q ps H') X.xe s
theorem zlS {X:Cx}{pos:Pos}:PPs X pos [] [] []:=fun pins s σ H Q I h=>pairTrees_nil_walk ⟨[],H,I,.nil,h⟩
theorem zfc {X:Cx}{pos:Pos}{k v:Expr}{ks:List (Option Expr)}{vs:List Expr}{tk tv:TE}{trs:List (TE×TE)}(hk:PE X k tk)(hv:PE X v tv)(hr:PPs X pos ks vs trs) :
  PPs X pos (some k::ks) (v::vs) ((tk,tv)::trs):=fun pins s σ H Q I h =>
 pairTrees_cons_walk (vM (hk pins s σ H _ I h) fun u s1 ⟨x,H1,I1,rx,q1⟩=>vM (hv pins s1 σ H1 _ I1 q1) fun w2 s2 ⟨y,H2,I2,ry,q2⟩ =>
  vM (hr pins s2 σ H2 _ I2 q2) fun ws s3 ⟨ps,H3,I3,rel,q3⟩=>⟨(x,y)::ps,H3,I3,.cons ⟨rx,ry⟩ rel,q3⟩)
def V3 (kvs more:List (Key×V)):List (Key×V):=more.foldl (fun acc kv=>putK acc kv.1 kv.2) kvs
theorem KV.merge:∀{more:List (Key×V)} {rs:List (Key×Value)} {kvs:List (Key×V)} {vs:List (Key×Value)},KV more rs->KV kvs vs->KV (V3 kvs more) (merged vs rs):=by
 intro more rs kvs vs r
 unfold KV at r
 induction r generalizing kvs vs with
 | nil=>intro q;exact q
 | @cons p q ps qs h t ih =>
  intro r0
  have e:KV (putK kvs p.1 p.2) (stored vs q.1 q.2):=by
   have:=r0.put p.1 h.2
   rw[<-h.1];exact this
  exact ih e
theorem Pr:∀(more kvs:List (Key×V)),(V3 kvs more).length<=kvs.length+more.length
 | [],kvs=>by show kvs.length<=kvs.length+0;omega
 | p::r,kvs=>by
  have h1:=Pr r (putK kvs p.1 p.2)
  have h2:=Vm kvs p.1 p.2
  show(V3 (putK kvs p.1 p.2) r).length<=_
  rw[zuo];omega
theorem zbh {P:Program}{w:World}:∀{kvs:List (Key×V)} {ws:List (Value×Value)},VV (kvs.map fun kv=>(kV kv.1,kv.2)) ws->∃rs,Carries (ug P w) ws rs/\KV kvs rs
 | [],_,r=>by rw[List.map_nil] at r;cases r;exact⟨[],True.intro,.nil⟩
 | p::kvs,_,r=>by
  rw[zuA] at r
  cases r with
  | @cons a b as bs h t =>
   obtain⟨rs,c,q⟩:=zbh (P:=P) (w:=w) t
   obtain⟨b1,b2⟩:=b
   exact⟨(p.1,b2)::rs,⟨zfa h.1,rfl,c⟩,.cons ⟨rfl,h.2⟩ q⟩
def zpd (trs:List (TE×TE)):TE:=fun σ H Q=>∀p,H p=none->zgI trs σ (upd H p (.dK [])) fun ps H2=>H2 p=some (.dK [])/\∃kvs:List (Key×V),ps=kvs.map (fun kv=>(kV kv.1,kv.2))/\kvs.length<=15/\Q (.ref p) (upd H2 p (.dK (V3 [] kvs)))
theorem zlT {X:Cx}{pos:Pos}{keys:List (Option Expr)}{values:List Expr}{trs:List (TE×TE)}(h:PPs X pos keys values trs)(hall:keys.all (·.isSome)=true)(hl:keys.length=values.length)(h0:keys≠[])
  (h15:keys.length<=15):PE X (.Dict keys values pos) (zpd trs):=by
 intro pins s σ H Q I q
 have hn:=I.hok.fresh (zus s.heap.objs.size)
 have I1:=I.laid (a:=s.heap.objs.size) (o:=.dK []) (h':=s.heap.push { cls:=.type "dict", data:=.dict #[] }) (t':=s.toks) (fun _ _ q=>zui _ q) (zus _) (zjU s.heap I.big)
 refine wpAny_Dict_walk (knd:=ug X.prog X.w) hall hl h0 h15 (vM (h pins _ σ _ _ I1 (q _ hn)) fun ws s2 ⟨ps,H2,I2,rel,e,kvs,ep,lk,q2⟩=>?_)
 subst ep
 obtain⟨rs,c,rk⟩:=zbh (P:=X.prog) (w:=X.w) rel
 obtain⟨z,hd,vs0,r0,dd⟩:=zmR I2.hok e
 cases r0
 refine⟨rs,c,dd,fun h' dd' hs=>⟨.ref s.heap.objs.size,_,?_,rfl,q2⟩⟩
 have hz:(V3 [] kvs).length<=sizeLine:=by
  have h1:=Pr kvs []
  rw[List.length_nil] at h1
  rw[sizeLine_eq];omega
 have he:∃q,h'.get? s.heap.objs.size=some q:=let ⟨q,_,_,hq,_⟩:=dd';⟨q,hq⟩
 exact zd2 I2 (by rw[e];exact True.intro) hs he (zjT hz hd (rk.merge .nil) dd')
inductive JQ (K:Frag)(H:Hp):Nat->V->V->Bool->Prop
 | flat {n:Nat} {x y:V} (fx:v7 x=true) (fy:v7 y=true):JQ K H n x y (eqV x y)
 | tt {n:Nat} {p q:Addr} {xs ys:List V} {e:Nat->Bool} (hp:vf K H p xs) (hq:vf K H q ys) (h:∀(j:Nat) x y,xs[j]?=some x->ys[j]?=some y->JQ K H n x y (e j)) :
   JQ K H (n+1) (.ref p) (.ref q) ((List.range (min xs.length ys.length)).all e&&xs.length==ys.length)
 | ll {n:Nat} {p q:Addr} {xs ys:List V} {e:Nat->Bool} (hp:zB K H p xs) (hq:zB K H q ys) (hl:xs.length=ys.length) (h:∀(j:Nat) x y,xs[j]?=some x->ys[j]?=some y->JQ K H n x y (e j)) :
   JQ K H (n+1) (.ref p) (.ref q) ((List.range xs.length).all e)
 | ln {n:Nat} {p q:Addr} {xs ys:List V} (hp:zB K H p xs) (hq:zB K H q ys) (hl:xs.length≠ys.length):JQ K H (n+1) (.ref p) (.ref q) false
 | lt {n:Nat} {p q:Addr} {xs ys:List V} (hp:zB K H p xs) (hq:vf K H q ys):JQ K H (n+1) (.ref p) (.ref q) false
 | tl {n:Nat} {p q:Addr} {xs ys:List V} (hp:vf K H p xs) (hq:zB K H q ys):JQ K H (n+1) (.ref p) (.ref q) false
 | lf {n:Nat} {p:Addr} {xs:List V} {y:V} (hp:zB K H p xs) (fy:v7 y=true):JQ K H (n+1) (.ref p) y false
 | fl {n:Nat} {p:Addr} {xs:List V} {y:V} (hp:zB K H p xs) (fy:v7 y=true):JQ K H (n+1) y (.ref p) false
 | tf {n:Nat} {p:Addr} {xs:List V} {y:V} (hp:vf K H p xs) (fy:v7 y=true):JQ K H (n+1) (.ref p) y false
 | ft {n:Nat} {p:Addr} {xs:List V} {y:V} (hp:vf K H p xs) (fy:v7 y=true):JQ K H (n+1) y (.ref p) false
section
variable {X:Cx}{pins:List (Addr×Obj)}{σ:St}{H:Hp}{s:Shared}
theorem zbi {x:V}(f:v7 x=true):eqV x x=true:=by
 cases x<;>first | rfl | (simp[eqV];done) | exact absurd (show false=true from f) zug
theorem RL (I:Inv X pins σ H s){p:Addr}{xs ys:List V}(h:zB X.K H p xs)(k:vf X.K H p ys):False:=by
 obtain⟨_,_,⟨o,n,e,c,_⟩,_⟩:=I.list h
 obtain⟨_,_,⟨o',e',c',_⟩,_⟩:=I.tuple k
 rw[e] at e'
 cases e'
 rw[c] at c'
 injection c' with z
 exact absurd z (by decide)
theorem JQ.refl (I:Inv X pins σ H s){n:Nat}{x y:V}{b:Bool}(h:JQ X.K H n x y b):x=y->b=true:=by
 induction h with
 | flat fx fy=>intro e;subst e;exact zbi fx
 | tt hp hq h ih =>
  intro e
  cases e
  have ee:=I.zcQ hp hq
  subst ee
  rw[Nat.min_self,beq_self_eq_true,Bool.and_true,zuF]
  intro j hj
  have hj':=List.mem_range.mp hj
  exact ih j _ _ (zud hj') (zud hj') rfl
 | ll hp hq hl h ih =>
  intro e
  cases e
  have ee:=I.Wy hp hq
  subst ee
  rw[zuF]
  intro j hj
  have hj':=List.mem_range.mp hj
  exact ih j _ _ (zud hj') (zud hj') rfl
 | ln hp hq hl =>
  intro e
  cases e
  exact absurd (congrArg List.length (I.Wy hp hq)) hl
 | lt hp hq=>intro e;cases e;exact(RL I hp hq).elim
 | tl hp hq=>intro e;cases e;exact(RL I hq hp).elim
 | lf hp fy=>intro e;subst e;exact absurd (show false=true from fy) zug
 | fl hp fy=>intro e;subst e;exact absurd (show false=true from fy) zug
 | tf hp fy=>intro e;subst e;exact absurd (show false=true from fy) zug
 | ft hp fy=>intro e;subst e;exact absurd (show false=true from fy) zug
theorem QB {A:Around}{u:Value}{y:V}{p:Addr}{its:Array Value}(hl:s.heap.IsList p its)(fy:v7 y=true)(ry:RelV y u)(hu:A.units<cLine):SeqAt.RcAt A s (.ref p) u false/\SeqAt.EqAt A s (.ref p) u false/\SeqAt.RcAt A s u (.ref p) false/\SeqAt.EqAt A s u (.ref p) false/\SeqAt.RcNeAt A s (.ref p) u true/\SeqAt.RcNeAt A s u (.ref p) true:=by
 cases y with
 | non=>cases ry;exact⟨.list_none hl hu,.list_none hl hu,.none_list hl hu,.none_list hl hu,.list_none hl hu,.none_list hl hu⟩
 | bl b=>cases ry;exact⟨.list_bool b hl hu,.list_bool b hl hu,.bool_list b hl hu,.bool_list b hl hu,.list_bool b hl hu,.bool_list b hl hu⟩
 | int i=>obtain⟨t,rfl⟩:=ry;exact⟨.list_int i t hl hu,.list_int i t hl hu,.int_list i t hl hu,.int_list i t hl hu,.list_int i t hl hu,.int_list i t hl hu⟩
 | str i=>obtain⟨t,rfl⟩:=ry;exact⟨.list_str i t hl hu,.list_str i t hl hu,.str_list i t hl hu,.str_list i t hl hu,.list_str i t hl hu,.str_list i t hl hu⟩
 | _=>exact absurd (show false=true from fy) zug
theorem TQ {A:Around}{u:Value}{y:V}{p:Addr}{its:Array Value}(hl:s.heap.IsTuple p its)(fy:v7 y=true)(ry:RelV y u)(hu:A.units<cLine):SeqAt.RcAt A s (.ref p) u false/\SeqAt.EqAt A s (.ref p) u false/\SeqAt.RcAt A s u (.ref p) false/\SeqAt.EqAt A s u (.ref p) false/\SeqAt.RcNeAt A s (.ref p) u true/\SeqAt.RcNeAt A s u (.ref p) true:=by
 cases y with
 | non=>cases ry;exact⟨.tuple_none hl hu,.tuple_none hl hu,.none_tuple hl hu,.none_tuple hl hu,.tuple_none hl hu,.none_tuple hl hu⟩
 | bl b=>cases ry;exact⟨.tuple_bool b hl hu,.tuple_bool b hl hu,.bool_tuple b hl hu,.bool_tuple b hl hu,.tuple_bool b hl hu,.bool_tuple b hl hu⟩
 | int i=>obtain⟨t,rfl⟩:=ry;exact⟨.tuple_int i t hl hu,.tuple_int i t hl hu,.int_tuple i t hl hu,.int_tuple i t hl hu,.tuple_int i t hl hu,.int_tuple i t hl hu⟩
 | str i=>obtain⟨t,rfl⟩:=ry;exact⟨.tuple_str i t hl hu,.tuple_str i t hl hu,.str_tuple i t hl hu,.str_tuple i t hl hu,.tuple_str i t hl hu,.str_tuple i t hl hu⟩
 | _=>exact absurd (show false=true from fy) zug
theorem item_at {xs:List V}{us:List Value}(r:Vals xs us){j:Nat}(h:j<us.toArray.size):∃x,xs[j]?=some x/\RelV x us.toArray[j]:=by
 have hl:=r.length
 have hj:j<xs.length:=by simp at h;omega
 obtain⟨u,hu,ru⟩:=r.get (zud hj)
 refine⟨xs[j],zud hj,?_⟩
 have e:us.toArray[j]=u:=by
  have:=(zuf.mp hu).2
  simpa using this
 rw[e];exact ru
theorem JQ.at {n:Nat}{x y:V}{b:Bool}(h:JQ X.K H n x y b)(I:Inv X pins σ H s):∀{A:Around} {u v:Value},RelV x u->RelV y v->A.units+n<cLine->SeqAt.EqAt A s u v b:=by
 induction h with
 | flat fx fy=>intro A u v rx ry _;exact zjo rx ry fx fy
 | @tt n p q xs ys e hp hq h ih =>
  intro A u v rx ry hu
  cases rx
  cases ry
  obtain⟨us,r1,t1,_⟩:=I.tuple hp
  obtain⟨ws,r2,t2,_⟩:=I.tuple hq
  have l1:=r1.length
  have l2:=r2.length
  by_cases hne:p=q
  ·subst hne
   have z:=(JQ.tt hp hq h).refl I rfl
   rw[z]
   exact SeqAt.EqAt.same _
  ·refine SeqAt.EqAt.of_refs hne ?_
   have z:=SeqAt.RcAt.tuples (A:=A) (e:=e) t1 t2 (by omega) fun j h1 h2=>by
    obtain⟨x,hx,rx⟩:=item_at r1 h1
    obtain⟨y,hy,ry⟩:=item_at r2 h2
    exact ih j x y hx hy rx ry (by show A.units+1+n<cLine;omega)
   rw[zum,zum,<-l1,<-l2] at z
   exact z
 | @ll n p q xs ys e hp hq hl h ih =>
  intro A u v rx ry hu
  cases rx
  cases ry
  obtain⟨us,r1,t1,_⟩:=I.list hp
  obtain⟨ws,r2,t2,_⟩:=I.list hq
  have l1:=r1.length
  have l2:=r2.length
  by_cases hne:p=q
  ·subst hne
   have z:=(JQ.ll hp hq hl h).refl I rfl
   rw[z]
   exact SeqAt.EqAt.same _
  ·refine SeqAt.EqAt.of_refs hne ?_
   have z:=SeqAt.RcAt.lists (A:=A) (e:=e) t1.isList t2.isList (by simp;omega) (by omega) fun j h1 h2=>by
    obtain⟨x,hx,rx⟩:=item_at r1 h1
    obtain⟨y,hy,ry⟩:=item_at r2 h2
    exact ih j x y hx hy rx ry (by show A.units+1+n<cLine;omega)
   rw[zum,<-l1] at z
   exact z
 | @ln n p q xs ys hp hq hl =>
  intro A u v rx ry hu
  cases rx
  cases ry
  obtain⟨us,r1,t1,_⟩:=I.list hp
  obtain⟨ws,r2,t2,_⟩:=I.list hq
  have l1:=r1.length
  have l2:=r2.length
  have hne:p≠q:=fun e=>by subst e;exact hl (congrArg List.length (I.Wy hp hq))
  exact SeqAt.EqAt.of_refs hne (SeqAt.RcAt.lists_lengths t1.isList t2.isList (by simp;omega) (by omega))
 | lt hp hq =>
  intro A u v rx ry hu
  cases rx
  cases ry
  obtain⟨us,r1,t1,_⟩:=I.list hp
  obtain⟨ws,r2,t2,_⟩:=I.tuple hq
  exact SeqAt.EqAt.list_tuple t1.isList t2 (by omega)
 | tl hp hq =>
  intro A u v rx ry hu
  cases rx
  cases ry
  obtain⟨us,r1,t1,_⟩:=I.tuple hp
  obtain⟨ws,r2,t2,_⟩:=I.list hq
  exact SeqAt.EqAt.tuple_list t1 t2.isList (by omega)
 | lf hp fy =>
  intro A u v rx ry hu
  cases rx
  obtain⟨us,r1,t1,_⟩:=I.list hp
  exact(QB t1.isList fy ry (by omega)).2.1
 | fl hp fy =>
  intro A u v rx ry hu
  cases ry
  obtain⟨us,r1,t1,_⟩:=I.list hp
  exact(QB t1.isList fy rx (by omega)).2.2.2.1
 | tf hp fy =>
  intro A u v rx ry hu
  cases rx
  obtain⟨us,r1,t1,_⟩:=I.tuple hp
  exact(TQ t1 fy ry (by omega)).2.1
 | ft hp fy =>
  intro A u v rx ry hu
  cases ry
  obtain⟨us,r1,t1,_⟩:=I.tuple hp
  exact(TQ t1 fy rx (by omega)).2.2.2.1
theorem JQ.rc {n:Nat}{x y:V}{b:Bool}(h:JQ X.K H n x y b)(I:Inv X pins σ H s)(hn:¬(v7 x=true/\v7 y=true)){A:Around}{u v:Value}(rx:RelV x u)(ry:RelV y v)(hu:A.units+n<cLine):SeqAt.RcAt A s u v b/\SeqAt.RcNeAt A s u v (!b):=by
 cases h with
 | flat fx fy=>exact absurd ⟨fx,fy⟩ hn
 | @tt n p q xs ys e hp hq h =>
  cases rx
  cases ry
  obtain⟨us,r1,t1,_⟩:=I.tuple hp
  obtain⟨ws,r2,t2,_⟩:=I.tuple hq
  have l1:=r1.length
  have l2:=r2.length
  have he:∀j (h1:j<us.toArray.size) (h2:j<ws.toArray.size),SeqAt.EqAt A.in1 s us.toArray[j] ws.toArray[j] (e j):=fun j h1 h2=>by
   obtain⟨x,hx,rx⟩:=item_at r1 h1
   obtain⟨y,hy,ry⟩:=item_at r2 h2
   exact(h j x y hx hy).at I rx ry (by show A.units+1+n<cLine;omega)
  have z:=SeqAt.RcAt.tuples (A:=A) (e:=e) t1 t2 (by omega) he
  have z2:=SeqAt.RcNeAt.tuples (A:=A) (e:=e) t1 t2 (by omega) he
  rw[zum,zum,<-l1,<-l2] at z z2
  exact⟨z,z2⟩
 | @ll n p q xs ys e hp hq hl h =>
  cases rx
  cases ry
  obtain⟨us,r1,t1,_⟩:=I.list hp
  obtain⟨ws,r2,t2,_⟩:=I.list hq
  have l1:=r1.length
  have l2:=r2.length
  have he:∀j (h1:j<us.toArray.size) (h2:j<ws.toArray.size),SeqAt.EqAt A.in1 s us.toArray[j] ws.toArray[j] (e j):=fun j h1 h2=>by
   obtain⟨x,hx,rx⟩:=item_at r1 h1
   obtain⟨y,hy,ry⟩:=item_at r2 h2
   exact(h j x y hx hy).at I rx ry (by show A.units+1+n<cLine;omega)
  have z:=SeqAt.RcAt.lists (A:=A) (e:=e) t1.isList t2.isList (by simp;omega) (by omega) he
  have z2:=SeqAt.RcNeAt.lists (A:=A) (e:=e) t1.isList t2.isList (by simp;omega) (by omega) he
  rw[zum,<-l1] at z z2
  exact⟨z,z2⟩
 | @ln n p q xs ys hp hq hl =>
  cases rx
  cases ry
  obtain⟨us,r1,t1,_⟩:=I.list hp
  obtain⟨ws,r2,t2,_⟩:=I.list hq
  have l1:=r1.length
  have l2:=r2.length
  exact⟨SeqAt.RcAt.lists_lengths t1.isList t2.isList (by simp;omega) (by omega),SeqAt.RcNeAt.lists_lengths t1.isList t2.isList (by simp;omega) (by omega)⟩
 | lt hp hq =>
  cases rx
  cases ry
  obtain⟨us,r1,t1,_⟩:=I.list hp
  obtain⟨ws,r2,t2,_⟩:=I.tuple hq
  exact⟨SeqAt.RcAt.list_tuple t1.isList t2 (by omega),SeqAt.RcNeAt.list_tuple t1.isList t2 (by omega)⟩
 | tl hp hq =>
  cases rx
  cases ry
  obtain⟨us,r1,t1,_⟩:=I.tuple hp
  obtain⟨ws,r2,t2,_⟩:=I.list hq
  exact⟨SeqAt.RcAt.tuple_list t1 t2.isList (by omega),SeqAt.RcNeAt.tuple_list t1 t2.isList (by omega)⟩
 | lf hp fy =>
  cases rx
  obtain⟨us,r1,t1,_⟩:=I.list hp
  have z:=QB (A:=A) t1.isList fy ry (by omega)
  exact⟨z.1,z.2.2.2.2.1⟩
 | fl hp fy =>
  cases ry
  obtain⟨us,r1,t1,_⟩:=I.list hp
  have z:=QB (A:=A) t1.isList fy rx (by omega)
  exact⟨z.2.2.1,z.2.2.2.2.2⟩
 | tf hp fy =>
  cases rx
  obtain⟨us,r1,t1,_⟩:=I.tuple hp
  have z:=TQ (A:=A) t1 fy ry (by omega)
  exact⟨z.1,z.2.2.2.2.1⟩
 | ft hp fy =>
  cases ry
  obtain⟨us,r1,t1,_⟩:=I.tuple hp
  have z:=TQ (A:=A) t1 fy rx (by omega)
  exact⟨z.2.2.1,z.2.2.2.2.2⟩
end
section
variable {X:Cx}
theorem zjV {K:Frag}(hK:X.K=K)(hu:X.A.units+8<cLine):Uj X (compareOp .Eq) (fun x y H Q=>∃b,¬(v7 x=true/\v7 y=true)/\JQ K H 8 x y b/\Q (.bl b) H):=by
 subst hK
 intro pins s σ H x y v u Q I rx ry h
 obtain⟨b,hn,he,q⟩:=h
 exact(he.rc I hn rx ry hu).1 X.prog X.w X.xe _ ⟨.bl b,H,I,rfl,q⟩
theorem zjW {K:Frag}(hK:X.K=K)(hu:X.A.units+8<cLine):Uj X (compareOp .NotEq) (fun x y H Q=>∃b,¬(v7 x=true/\v7 y=true)/\JQ K H 8 x y b/\Q (.bl (!b)) H):=by
 subst hK
 intro pins s σ H x y v u Q I rx ry h
 obtain⟨b,hn,he,q⟩:=h
 exact(he.rc I hn rx ry hu).2 X.prog X.w X.xe _ ⟨.bl (!b),H,I,rfl,q⟩
theorem hu8 {A:Around}{k:Nat}(hr:tE k A):A.units+8<cLine:=by have:=hr.units;omega
theorem zfd:∀{xs:List V} {us:List Value},xs.length=us.length->(∀(j:Nat) u,us[j]?=some u->∃x,xs[j]?=some x/\RelV x u)->Vals xs us
 | [],[],_,_=>.nil
 | [],_::_,h,_=>by simp at h
 | _::_,[],h,_=>by simp at h
 | x::xs,u::us,hl,h=>by
  obtain⟨x',e,r⟩:=h 0 u rfl
  cases e
  refine .cons r (zfd (by simpa using hl) fun j v hv=>?_)
  obtain⟨y,e,r⟩:=h (j+1) v (by simpa using hv)
  exact⟨y,by simpa using e,r⟩
end
end L2
namespace vp
abbrev Rm:=Option (Nat×Nat×Nat)
def Pu (n:Nat)(rs:List Rm)(k:Nat):Nat:=match rs[k]? with
 | some (some (i,_,_))=>i
 | _=>n
structure Bk (n:Nat)(rs:List Rm):Prop where
 h0:rs[0]?=some none
 h1:rs[1]?=some none
 rm:∀k,2<=k->k<rs.length->∃i lo hi,rs[k]?=some (some (i,lo,hi))/\i<n/\lo<k/\hi<k/\lo≠hi/\i<Pu n rs lo/\i<Pu n rs hi
 uq:∀(k l:Nat) (x:Nat×Nat×Nat),rs[k]?=some (some x)->rs[l]?=some (some x)->k=l
abbrev Row:=Nat->Bool
def put (r:Row)(i:Nat)(v:Bool):Row:=fun j=>if j=i then v else r j
def lead (rs:List Rm)(r:Row):Nat->Nat->Nat
 | 0,k=>k
 | f+1,k=>match rs[k]? with
  | some (some (i,lo,hi))=>lead rs r f (if r i then hi else lo)
  | _=>k
theorem zdi {n:Nat}{rs:List Rm}(B:Bk n rs)(r:Row):∀(f g k:Nat),k<=f->k<=g->k<rs.length->lead rs r f k=lead rs r g k
 | 0,0,k,_,_,_=>rfl
 | 0,g+1,k,h,_,_=>by
  have e:k=0:=by omega
  subst e
  show 0=lead rs r (g+1) 0
  unfold lead
  rw[B.h0]
 | f+1,0,k,_,h,_=>by
  have e:k=0:=by omega
  subst e
  show lead rs r (f+1) 0=0
  unfold lead
  rw[B.h0]
 | f+1,g+1,k,hf,hg,hk=>by
  by_cases h2:2<=k
  ·obtain⟨i,lo,hi,e,_,hlo,hhi,_⟩:=B.rm k h2 hk
   unfold lead
   rw[e]
   show lead rs r f (if r i then hi else lo)=lead rs r g (if r i then hi else lo)
   refine zdi B r f g _ ?_ ?_ ?_<;>(split<;>omega)
  ·have:k=0\/k=1:=by omega
   rcases this with e | e<;>subst e<;>unfold lead
   ·rw[B.h0]
   ·rw[B.h1]
def yes (rs:List Rm)(k:Nat)(r:Row):Bool:=lead rs r k k==1
section
variable {n:Nat}{rs:List Rm}(B:Bk n rs)
include B
theorem len2:2<=rs.length:=by
 have:=(zuf.mp B.h1).1
 omega
theorem zjX (r:Row):yes rs 0 r=false:=rfl
theorem QC (r:Row):yes rs 1 r=true:=by
 unfold yes lead
 rw[B.h1]
 rfl
theorem ziC {k i lo hi:Nat}(e:rs[k]?=some (some (i,lo,hi)))(r:Row):lead rs r k k=lead rs r (if r i then hi else lo) (if r i then hi else lo):=by
 have hk:=(zuf.mp e).1
 have k2:2<=k:=by
  by_cases h:2<=k
  ·exact h
  ·exfalso
   have:k=0\/k=1:=by omega
   rcases this with z | z<;>subst z
   ·rw[B.h0] at e;cases e
   ·rw[B.h1] at e;cases e
 obtain⟨i',lo',hi',e',_,hlo,hhi,_⟩:=B.rm k k2 hk
 rw[e] at e'
 cases e'
 obtain⟨m,rfl⟩:∃m,k=m+1:=⟨k-1,by omega⟩
 show(match rs[m+1]? with | some (some (i,lo,hi))=>lead rs r m (if r i then hi else lo) | _=>m+1)=_
 rw[e]
 show lead rs r m (if r i then hi else lo)=_
 refine zdi B r _ _ _ ?_ (zus _) ?_<;>(split<;>omega)
theorem RM {k i lo hi:Nat}(e:rs[k]?=some (some (i,lo,hi)))(r:Row):yes rs k r=if r i then yes rs hi r else yes rs lo r:=by
 unfold yes
 rw[ziC B e r]
 split<;>rfl
theorem RN {k i lo hi:Nat}(e:rs[k]?=some (some (i,lo,hi))):Pu n rs k=i:=by unfold Pu;rw[e]
theorem zgJ:Pu n rs 0=n:=by unfold Pu;rw[B.h0]
theorem zd3:Pu n rs 1=n:=by unfold Pu;rw[B.h1]
theorem Ut:∀(m k:Nat),k<=m->k<rs.length->∀{r r':Row},(∀i,Pu n rs k<=i->i<n->r i=r' i)->yes rs k r=yes rs k r'
 | m,k,hm,hk,r,r',h=>by
  by_cases h2:2<=k
  ·obtain⟨i,lo,hi,e,hin,hlo,hhi,_,l1,l2⟩:=B.rm k h2 hk
   have lk:=RN B e
   rw[RM B e,RM B e,h i (by omega) hin]
   match m,hm with
   | 0,hm=>omega
   | m+1,hm =>
    rw[Ut m hi (by omega) (by omega) fun j hj hjn=>h j (by omega) hjn,Ut m lo (by omega) (by omega) fun j hj hjn=>h j (by omega) hjn]
  ·have:k=0\/k=1:=by omega
   rcases this with z | z<;>subst z
   ·rfl
   ·rw[QC B,QC B]
theorem Yc {k i:Nat}(hk:k<rs.length)(h:i<Pu n rs k)(r:Row)(v:Bool):yes rs k (put r i v)=yes rs k r:=by
 refine Ut B k k (zus _) hk fun j hj _=>?_
 unfold put
 rw[if_neg (by omega)]
theorem TV {k i lo hi:Nat}(e:rs[k]?=some (some (i,lo,hi)))(hk:k<rs.length)(r:Row):yes rs k (put r i false)=yes rs lo r/\yes rs k (put r i true)=yes rs hi r:=by
 have k2:2<=k:=by
  by_cases h:2<=k
  ·exact h
  ·exfalso
   have:k=0\/k=1:=by omega
   rcases this with z | z<;>subst z
   ·rw[B.h0] at e;cases e
   ·rw[B.h1] at e;cases e
 obtain⟨i',lo',hi',e',_,hlo,hhi,_,l1,l2⟩:=B.rm k k2 hk
 rw[e] at e'
 cases e'
 constructor
 ·rw[RM B e]
  have z:put r i false i=false:=by unfold put;rw[if_pos rfl]
  rw[z,if_neg zug]
  exact Yc B (by omega) l1 r false
 ·rw[RM B e]
  have z:put r i true i=true:=by unfold put;rw[if_pos rfl]
  rw[z,if_pos rfl]
  exact Yc B (by omega) l2 r true
theorem Xj:∀(m k l:Nat),(k<=m/\l<=m)->k<rs.length->l<rs.length->(∀r,yes rs k r=yes rs l r)->k=l
 | m,k,l,hm,hk,hl,h=>by
  by_cases k2:2<=k
  ·obtain⟨i,lo,hi,e,hin,hlo,hhi,hne,l1,l2⟩:=B.rm k k2 hk
   by_cases l2':2<=l
   ·obtain⟨j,lo',hi',e',hjn,hlo',hhi',hne',l1',l2''⟩:=B.rm l l2' hl
    match m,hm with
    | 0,hm=>omega
    | m+1,hm =>
     rcases Nat.lt_trichotomy i j with q | q | q
     ·exfalso
      refine hne (Xj m lo hi (by omega) (by omega) (by omega) fun r=>?_)
      have z:=TV B e hk r
      rw[<-z.1,<-z.2,h,h,Yc B hl (by rw[RN B e'];exact q),Yc B hl (by rw[RN B e'];exact q)]
     ·subst q
      have a1:lo=lo':=Xj m lo lo' (by omega) (by omega) (by omega) fun r=>by rw[<-(TV B e hk r).1,<-(TV B e' hl r).1,h]
      have a2:hi=hi':=Xj m hi hi' (by omega) (by omega) (by omega) fun r=>by rw[<-(TV B e hk r).2,<-(TV B e' hl r).2,h]
      subst a1 a2
      exact B.uq k l _ e e'
     ·exfalso
      refine hne' (Xj m lo' hi' (by omega) (by omega) (by omega) fun r=>?_)
      have z:=TV B e' hl r
      rw[<-z.1,<-z.2,<-h,<-h,Yc B hk (by rw[RN B e];exact q),Yc B hk (by rw[RN B e];exact q)]
   ·exfalso
    match m,hm with
    | 0,hm=>omega
    | m+1,hm =>
     have ll:Pu n rs l=n:=by
      have:l=0\/l=1:=by omega
      rcases this with z | z<;>subst z
      ·exact zgJ B
      ·exact zd3 B
     refine hne (Xj m lo hi (by omega) (by omega) (by omega) fun r=>?_)
     have z:=TV B e hk r
     rw[<-z.1,<-z.2,h,h,Yc B hl (by omega),Yc B hl (by omega)]
  ·by_cases l2':2<=l
   ·exfalso
    obtain⟨j,lo',hi',e',hjn,hlo',hhi',hne',l1',l2''⟩:=B.rm l l2' hl
    match m,hm with
    | 0,hm=>omega
    | m+1,hm =>
     have ll:Pu n rs k=n:=by
      have:k=0\/k=1:=by omega
      rcases this with z | z<;>subst z
      ·exact zgJ B
      ·exact zd3 B
     refine hne' (Xj m lo' hi' (by omega) (by omega) (by omega) fun r=>?_)
     have z:=TV B e' hl r
     rw[<-z.1,<-z.2,<-h,<-h,Yc B hk (by omega),Yc B hk (by omega)]
   ·have a:k=0\/k=1:=by omega
    have b:l=0\/l=1:=by omega
    have z:=h fun _=>false
    rcases a with a | a<;>rcases b with b | b<;>subst a<;>subst b
    ·rfl
    ·rw[zjX B,QC B] at z;cases z
    ·rw[zjX B,QC B] at z;cases z
    ·rfl
end
theorem Yd {rs:List Rm}{x:Rm}{k:Nat}(h:k<rs.length):(rs++[x])[k]?=rs[k]?:=zuI h
theorem RP {n:Nat}{rs:List Rm}{x:Rm}{k:Nat}(h:k<rs.length):Pu n (rs++[x]) k=Pu n rs k:=by
 unfold Pu;rw[Yd h]
theorem Bk.snoc {n:Nat}{rs:List Rm}(B:Bk n rs){i lo hi:Nat}(hin:i<n)(hlo:lo<rs.length)(hhi:hi<rs.length)(hne:lo≠hi)(l1:i<Pu n rs lo)(l2:i<Pu n rs hi)(new:some (i,lo,hi)∉rs):Bk n (rs++[some (i,lo,hi)]) where
 h0:=by rw[Yd (by have:=len2 B;omega)];exact B.h0
 h1:=by rw[Yd (by have:=len2 B;omega)];exact B.h1
 rm:=fun k h2 hk=>by
  rw[zuk,zuJ] at hk
  by_cases hlt:k<rs.length
  ·obtain⟨i',lo',hi',e,a1,a2,a3,a4,a5,a6⟩:=B.rm k h2 hlt
   exact⟨i',lo',hi',by rw[Yd hlt];exact e,a1,a2,a3,a4,by rw[RP (by omega)];exact a5,by rw[RP (by omega)];exact a6⟩
  ·have e:k=rs.length:=by omega
   subst e
   exact⟨i,lo,hi,by simp,hin,hlo,hhi,hne,by rw[RP hlo];exact l1,by rw[RP hhi];exact l2⟩
 uq:=fun k l x hk hl=>by
  have lk:=(zuf.mp hk).1
  have ll:=(zuf.mp hl).1
  rw[zuk,zuJ] at lk ll
  have last:∀m,m=rs.length->(rs++[some (i,lo,hi)])[m]?=some (some x)->x=(i,lo,hi):=fun m hm h=>by
   subst hm
   simp at h
   exact h.symm
  by_cases h1:k<rs.length
  ·by_cases h2:l<rs.length
   ·rw[Yd h1] at hk
    rw[Yd h2] at hl
    exact B.uq k l x hk hl
   ·exfalso
    have e:=last l (by omega) hl
    subst e
    rw[Yd h1] at hk
    exact new (zuh hk)
  ·by_cases h2:l<rs.length
   ·exfalso
    have e:=last k (by omega) hk
    subst e
    rw[Yd h2] at hl
    exact new (zuh hl)
   ·omega
theorem zdj {n:Nat}{rs:List Rm}(B:Bk n rs){x:Rm}(r:Row):∀(f k:Nat),k<rs.length->lead (rs++[x]) r f k=lead rs r f k
 | 0,_,_=>rfl
 | f+1,k,hk=>by
  unfold lead
  rw[Yd hk]
  by_cases h2:2<=k
  ·obtain⟨i,lo,hi,e,_,hlo,hhi,_⟩:=B.rm k h2 hk
   rw[e]
   show lead (rs++[x]) r f (if r i then hi else lo)=lead rs r f (if r i then hi else lo)
   exact zdj B r f _ (by split<;>omega)
  ·have:k=0\/k=1:=by omega
   rcases this with z | z<;>subst z
   ·rw[B.h0]
   ·rw[B.h1]
theorem zfe {n:Nat}{rs:List Rm}(B:Bk n rs){x:Rm}{k:Nat}(hk:k<rs.length)(r:Row):yes (rs++[x]) k r=yes rs k r:=by
 unfold yes;rw[zdj B r k k hk]
def wU (rs rs':List Rm):Prop:=∃xs,rs'=rs++xs
theorem wU.refl (rs:List Rm):wU rs rs:=⟨[],by simp⟩
theorem wU.trans {a b c:List Rm}(h:wU a b)(k:wU b c):wU a c:=by
 obtain⟨x,rfl⟩:=h
 obtain⟨y,rfl⟩:=k
 exact⟨x++y,by rw[List.append_assoc]⟩
theorem wU.len {a b:List Rm}(h:wU a b):a.length<=b.length:=by
 obtain⟨x,rfl⟩:=h
 rw[zuk];omega
theorem wU.get {a b:List Rm}(h:wU a b){k:Nat}(hk:k<a.length):b[k]?=a[k]?:=by
 obtain⟨x,rfl⟩:=h
 exact zuI hk
theorem wU.snoc (rs:List Rm)(x:Rm):wU rs (rs++[x]):=⟨[x],rfl⟩
theorem wU.Pu {n:Nat}{a b:List Rm}(h:wU a b){k:Nat}(hk:k<a.length):Pu n b k=Pu n a k:=by
 unfold vp.Pu;rw[h.get hk]
theorem wU.lead {n:Nat}{a b:List Rm}(B:Bk n a)(h:wU a b)(r:Row):∀(f k:Nat),k<a.length->lead b r f k=lead a r f k
 | 0,_,_=>rfl
 | f+1,k,hk=>by
  unfold vp.lead
  rw[h.get hk]
  by_cases h2:2<=k
  ·obtain⟨i,lo,hi,e,_,hlo,hhi,_⟩:=B.rm k h2 hk
   rw[e]
   show vp.lead b r f (if r i then hi else lo)=vp.lead a r f (if r i then hi else lo)
   exact wU.lead B h r f _ (by split<;>omega)
  ·have:k=0\/k=1:=by omega
   rcases this with z | z<;>subst z
   ·rw[B.h0]
   ·rw[B.h1]
theorem wU.yes {n:Nat}{a b:List Rm}(B:Bk n a)(h:wU a b){k:Nat}(hk:k<a.length)(r:Row):yes b k r=yes a k r:=by
 unfold vp.yes;rw[wU.lead B h r k k hk]
end vp
namespace Xv
open PySem L2 vp
abbrev yX:=Addr->Prop
def zd4 (F:yX)(H H':Hp):Prop:=∀x o,H x=some o->¬F x->H' x=some o
def zdk:List Str:=["room", "size", "order", "enter", "worth_at", "below"]
structure WK (C:Addr)(B:Hp->Addr->List Str->List Rm->yX->Prop):Prop where
 ins:∀{H b os rs F},B H b os rs F->∃dx fs,H b=some (.ins C dx fs)/\∀m∈zdk,fs.lookup m=none
 frame:∀{H H' b os rs F},B H b os rs F->(∀x o,H x=some o->F x->H' x=some o)->wz H H'->B H' b os rs F
 there:∀{H b os rs F x},B H b os rs F->F x->H x≠none
 bk:∀{H b os rs F},B H b os rs F->Bk os.length rs
 ord:∀{H b os rs F},B H b os rs F->uJ os
theorem WK.same {C:Addr}{B:Hp->Addr->List Str->List Rm->yX->Prop}(L:WK C B){H H':Hp}{b:Addr}{os:List Str}{rs:List Rm}{F:yX}(h:B H b os rs F)(g:Same H H'):B H' b os rs F :=
 L.frame h (fun x o e _=>g x o e) (wz.of g)
theorem WK.fresh {C:Addr}{B:Hp->Addr->List Str->List Rm->yX->Prop}(L:WK C B){H:Hp}{b x:Addr}{os:List Str}{rs:List Rm}{F:yX}(h:B H b os rs F)(e:H x=none):¬F x:=fun q=>L.there h q e
theorem WK.lst {C:Addr}{B:Hp->Addr->List Str->List Rm->yX->Prop}(L:WK C B){H:Hp}{b x:Addr}{os:List Str}{rs:List Rm}{F:yX}{xs:List V}(h:B H b os rs F)(e:H x=some (.lst xs))(n:¬F x)(o:HO):B (upd H x o) b os rs F :=
 L.frame h (fun y u e' hy=>by rw[zE (fun z=>n (by rw[<-z];exact hy))];exact e') (wz.lst e o)
def zgK (os:List Str)(r:Row):Str->Bool:=fun x=>r (ix os x)
section
variable (B:Hp->Addr->List Str->List Rm->yX->Prop)(K:Frag)(C:Addr)
def zbj:Sp:=fun vs H Q _=>∃(b dx l:Addr) (os:List Str),vs=[.ref b,.ref l]/\H b=some (.ins C dx [])/\b≠dx/\zB K H l (os.map V.str)/\uJ os /\
 ∀(H':Hp) (F:yX),(∀x o,H x=some o->x≠b->H' x=some o)->B H' b os [none,none] F->(∀x,F x->x=b\/x=dx\/H x=none)->Q .non H'
def wk:Sp:=fun vs H Q _=>∃(b:Addr) (os:List Str) (rs:List Rm) (F:yX),vs=[.ref b]/\B H b os rs F/\∀(l:Addr) (H':Hp),Same H H'->H l=none->H' l=some (.lst (os.map V.str))->Q (.ref l) H'
end
theorem zjY {xs:List V}{n:Nat}:Tt xs none (some (n:Int))=xs.take n:=by
 unfold Tt
 rw[HT.zeY,HT.Mx,List.drop_zero,Nat.sub_zero]
 by_cases h:n<=xs.length
 ·rw[Nat.min_eq_left h]
 ·rw[Nat.min_eq_right (by omega),zuE,List.take_of_length_le (by omega)]
end Xv
namespace vp
def Means (rs:List Rm)(k:Nat)(f:Row->Bool):Prop:=k<rs.length/\∀r,yes rs k r=f r
end vp
namespace L2
open PySem
theorem zff {X:Cx}{all rest:List Stmt}{D:Ends}{Tf:TS->TS}{Pre:St->Hp->Prop}(Mid:St->Hp->Prop)(h1:∀t,PSs X rest t->PSs X all (Tf t))(h:∀u:TS,(∀ σ H,Mid σ H->u D σ H)->∀ σ H,Pre σ H->Tf u D σ H)
  (hr:∃t,PSs X rest t/\∀ σ H,Mid σ H->t D σ H):∃t,PSs X all t/\∀ σ H,Pre σ H->t D σ H :=
 let ⟨t,a,b⟩:=hr
 ⟨Tf t,h1 t a,h t b⟩
theorem zpe {X:Cx}{all:List Stmt}{D:Ends}{σ:St}{H:Hp}(h:∃t,PSs X all t/\∀ σ' H',(σ'=σ/\H'=H)->t D σ' H'):∃t,PSs X all t/\t D σ H :=
 let ⟨t,a,b⟩:=h
 ⟨t,a,b _ _ ⟨rfl,rfl⟩⟩
end L2
namespace vp
open Xv
def uO (b:Nat):Row:=fun i=>b.testBit i
def bits (r:Row):Nat->Nat
 | 0=>0
 | n+1=>if r n then bits r n+2^n else bits r n
theorem vm (r:Row):∀n,bits r n<2^n
 | 0=>Nat.zero_lt_one
 | n+1=>by
  have ih:=vm r n
  unfold bits
  rw[Nat.pow_succ]
  split<;>omega
theorem Ye (r:Row):∀{n i:Nat},i<n->(bits r n).testBit i=r i
 | 0,i,h=>by omega
 | n+1,i,h=>by
  have lt:=vm r n
  have z:(bits r n).testBit n=false:=Nat.testBit_lt_two_pow lt
  unfold bits
  by_cases e:i=n
  ·subst e
   cases hr:r i
   ·rw[if_neg zug];exact z
   ·rw[if_pos rfl,uH,z];rfl
  ·have hi:i<n:=by omega
   split
   ·rw[Qw hi];exact Ye r hi
   ·exact Ye r hi
theorem TX {n a b:Nat}(ha:a<2^n)(hb:b<2^n)(h:∀i,i<n->a.testBit i=b.testBit i):a=b :=
 Nat.eq_of_testBit_eq fun i=>by
  by_cases hi:i<n
  ·exact h i hi
  ·have:2^n<=2^i:=zuH (by decide) (by omega)
   rw[Nat.testBit_lt_two_pow (by omega),Nat.testBit_lt_two_pow (by omega)]
theorem zfg {r:Row}{n i:Nat}(hi:i<n)(v:Bool):bits (put r i v) n=zU (bits r n) i v:=by
 refine TX (vm _ _) (xU (vm _ _) hi) fun j hj=>?_
 rw[Ye _ hj,zY,Ye _ hj]
 rfl
theorem Yy {n b:Nat}(h:b<2^n):bits (uO b) n=b:=TX (vm _ _) h fun i hi=>by rw[Ye _ hi];rfl
theorem zjZ {n:Nat}{rs:List Rm}(B:Bk n rs){k:Nat}(hk:k<rs.length)(r:Row):yes rs k (uO (bits r n))=yes rs k r :=
 Ut B k k (zus _) hk fun i _ hi=>Ye r hi
theorem zd5 {n N M:Nat}{f g:Nat->Bool}(h:z8 n N f)(k:z8 n M g)(e:∀b,b<2^n->f b=g b):N=M :=
 Nat.eq_of_testBit_eq fun i=>by
  rw[h i,k i]
  by_cases hi:i<2^n
  ·rw[e i hi]
  ·rw[decide_eq_false hi];rfl
theorem Lf {n N:Nat}{f:Nat->Bool}(h:z8 n N f){b:Nat}(hb:b<2^n):N.testBit b=f b:=by rw[h b,decide_eq_true hb];rfl
def Free (n:Nat)(f:Nat->Bool)(p:Nat):Prop:=∀b,b<2^n->∀v,f (zU b p v)=f b
theorem wX (b p:Nat):zU b p (b.testBit p)=b:=by unfold zU;rw[if_pos rfl]
theorem Free.zlU {n p:Nat}{f:Nat->Bool}(h:∀b,b<2^n->f (zU b p (!b.testBit p))=f b):Free n f p:=fun b hb v=>by
 by_cases e:v=b.testBit p
 ·rw[e,wX]
 ·have:v=!b.testBit p:=by cases v<;>cases hh:b.testBit p<;>simp_all
  rw[this];exact h b hb
theorem zcf {n:Nat}{f:Nat->Bool}(h:∀p,p<n->Free n f p):∀b,b<2^n->f b=f 0:=by
 have key:∀m b,m<=n->b<2^n->(∀i,m<=i->i<n->b.testBit i=false)->f b=f 0:=by
  intro m
  induction m with
  | zero =>
   intro b _ hb hz
   have:b=0:=TX hb (Nat.two_pow_pos n) fun i hi=>by rw[hz i (zuy _) hi,Nat.zero_testBit]
   rw[this]
  | succ m ih =>
   intro b hm hb hz
   rw[<-h m (by omega) b hb false]
   refine ih _ (by omega) (xU hb (by omega)) fun i hi hin=>?_
   rw[zY]
   by_cases e:i=m
   ·rw[if_pos e]
   ·rw[if_neg e];exact hz i (by omega) hin
 exact fun b hb=>key n b (zus _) hb fun i hi hin=>by omega
theorem znK {n:Nat}{rs:List Rm}(B:Bk n rs){k p:Nat}(hk:k<rs.length)(hp:p<n)(h:∀i,i<=p->∀r v,yes rs k (put r i v)=yes rs k r):p<Pu n rs k:=by
 by_cases k2:2<=k
 ·obtain⟨i,lo,hi,e,hin,hlo,hhi,hne,l1,l2⟩:=B.rm k k2 hk
  rw[RN B e]
  by_cases hip:i<=p
  ·exfalso
   refine hne (Xj B (max lo hi) lo hi ⟨Nat.le_max_left _ _,Nat.le_max_right _ _⟩ (by omega) (by omega) fun r=>?_)
   have z:=TV B e hk r
   rw[<-z.1,<-z.2,h i hip,h i hip]
  ·omega
 ·have:k=0\/k=1:=by omega
  rcases this with z | z<;>subst z
  ·rw[zgJ B];exact hp
  ·rw[zd3 B];exact hp
theorem zj0 {n m p k0 k1:Nat}{rs:List Rm}{f:Nat->Bool}(B:Bk n rs)(hp:p<n)(m0:k0<rs.length)(m1:k1<rs.length)
  (y0:∀r,yes rs k0 r=f (zU (bits r n) p false))(y1:∀r,yes rs k1 r=f (zU (bits r n) p true))(fr:∀i,i<p->Free n f i)
  (dep:∃b,b<2^n/\f (zU b p false)≠f (zU b p true))(old:∀j,j<m->¬∀r,yes rs j r=f (bits r n))(hl:∀j,m<=j->j<rs.length->p<Pu n rs j) :
  Bk n (rs++[some (p,k0,k1)])/\∀r,yes (rs++[some (p,k0,k1)]) rs.length r=f (bits r n):=by
 have pb:∀(r:Row) v,zU (bits r n) p v<2^n:=fun r v=>xU (vm _ _) hp
 have low:∀(k:Nat) (w:Bool),k<rs.length->(∀r,yes rs k r=f (zU (bits r n) p w))->p<Pu n rs k:=fun k w hk hy=>znK B hk hp fun i hi r v=>by
  rw[hy,hy,zfg (by omega)]
  by_cases e:i=p
  ·subst e
   congr 1
   refine TX (xU (xU (vm _ _) hp) hp) (pb r w) fun j _=>?_
   rw[zY,zY,zY]
   by_cases e:j=i
   ·rw[if_pos e,if_pos e]
   ·rw[if_neg e,if_neg e,if_neg e]
  ·rw[<-fr i (by omega) _ (pb r w) v]
   congr 1
   refine TX (xU (xU (vm _ _) (by omega)) hp) (xU (pb r w) (by omega)) fun j _=>?_
   rw[zY,zY,zY,zY]
   by_cases e1:j=p
   ·rw[if_pos e1,if_pos e1,if_neg (by omega)]
   ·rw[if_neg e1,if_neg e1]
 have ne:k0≠k1:=fun e=>by
  subst e
  obtain⟨b,hb,hne⟩:=dep
  refine hne ?_
  have a:=y0 (uO b)
  have c:=y1 (uO b)
  rw[Yy hb] at a c
  exact a.symm.trans c
 have fin:∀(R:List Rm) (k:Nat),Bk n R->R[k]?=some (some (p,k0,k1))->(∀j,j<rs.length->∀r,yes R j r=yes rs j r)->∀r,yes R k r=f (bits r n):=fun R k BR e same r=>by
  rw[RM BR e,same _ m1,same _ m0,y0,y1]
  have hb:=Ye r hp
  cases hr:r p
  ·rw[if_neg zug]
   rw[hr] at hb
   conv=>rhs;rw[<-wX (bits r n) p,hb]
  ·rw[if_pos rfl]
   rw[hr] at hb
   conv=>rhs;rw[<-wX (bits r n) p,hb]
 have new:some (p,k0,k1)∉rs:=fun h=>by
  obtain⟨j,hj,e⟩:=zuS h
  have e':rs[j]?=some (some (p,k0,k1)):=by rw[zud hj,e]
  by_cases hm:j<m
  ·exact old j hm (fin rs j B e' fun _ _ _=>rfl)
  ·have:=hl j (by omega) hj
   rw[RN B e'] at this
   omega
 have B':=B.snoc hp m0 m1 ne (low k0 false m0 y0) (low k1 true m1 y1) new
 refine⟨B',fin _ _ B' (by simp) fun j hj r=>?_⟩
 exact zfe B hj r
structure zfh (n:Nat)(rs:List Rm)(ts:List Nat):Prop where
 len:ts.length=rs.length
 tab:∀(j t:Nat),ts[j]?=some t->z8 n t (fun b=>yes rs j (uO b))
theorem zfh.snoc {n:Nat}{rs:List Rm}(B:Bk n rs){ts:List Nat}{x:Rm}{t:Nat}(h:zfh n rs ts)(k:z8 n t (fun b=>yes (rs++[x]) rs.length (uO b))):zfh n (rs++[x]) (ts++[t]):=by
 refine⟨by rw[zuk,zuk,h.len];rfl,fun j u e=>?_⟩
 by_cases hj:j<ts.length
 ·rw[zuI hj] at e
  refine vR (h.tab j u e) fun b _=>?_
  rw[zfe B (by rw[<-h.len];exact hj)]
 ·have lt:=(zuf.mp e).1
  rw[zuk,zuJ] at lt
  have ej:j=ts.length:=by omega
  subst ej
  simp at e
  subst e
  rw[h.len]
  exact k
theorem zfh.find {n:Nat}{rs:List Rm}(B:Bk n rs){ts:List Nat}(h:zfh n rs ts){j t:Nat}{f:Nat->Bool}(e:ts[j]?=some t)(tb:z8 n t f)(r:Row):yes rs j r=f (bits r n):=by
 have hj:j<rs.length:=by rw[<-h.len];exact(zuf.mp e).1
 rw[<-zjZ B hj,<-Lf tb (vm r n),Lf (h.tab j t e) (vm r n)]
theorem zfh.same {n:Nat}{rs:List Rm}{ts:List Nat}(h:zfh n rs ts){j t:Nat}{f:Nat->Bool}(hj:j<rs.length)(tb:z8 n t f)(hy:∀r,yes rs j r=f (bits r n)):ts[j]?=some t:=by
 have lt:j<ts.length:=by rw[h.len];exact hj
 rw[zud lt]
 congr 1
 refine zd5 (h.tab j _ (zud lt)) tb fun b hb=>?_
 show yes rs j (uO b)=f b
 rw[hy,Yy hb]
end vp
namespace Xv
open PySem L2 vp
structure Nums (ts:List Nat)(kvs:List (Key×V)):Prop where
 get:∀(j t:Nat),ts[j]?=some t->Vh kvs (Sum.inl (t:Int))=some (.int (j:Nat))
 non:∀t:Nat,t∉ts->Vh kvs (Sum.inl (t:Int))=none
 len:kvs.length<=ts.length
theorem Nums.snoc {ts:List Nat}{kvs:List (Key×V)}(h:Nums ts kvs){t:Nat}(ht:t∉ts):Nums (ts++[t]) (putK kvs (Sum.inl (t:Int)) (.int (ts.length:Nat))):=by
 refine⟨fun j u e=>?_,fun u hu=>?_,?_⟩
 ·rw[zbg]
  by_cases hj:j<ts.length
  ·rw[zuI hj] at e
   have hm:=zuh e
   rw[if_neg fun z=>?_]
   ·exact h.get j u e
   ·have:(u:Int)=(t:Int):=Sum.inl.inj z
    have:u=t:=by omega
    exact ht (this ▸ hm)
  ·have lt:=(zuf.mp e).1
   rw[zuk,zuJ] at lt
   have ej:j=ts.length:=by omega
   subst ej
   simp at e
   subst e
   rw[if_pos rfl]
 ·rw[zbg,if_neg fun z=>?_]
  ·exact h.non u fun z=>hu (List.mem_append_left _ z)
  ·have:(u:Int)=(t:Int):=Sum.inl.inj z
   have:u=t:=by omega
   exact hu (this ▸ zut _ zuv)
 ·have:=Vm kvs (Sum.inl (t:Int)) (.int (ts.length:Nat))
  have:=h.len
  rw[zuk,zuJ]
  omega
def zpf (n j:Nat):Rm->List V
 | none=>[.int (n:Nat),.int (j:Nat),.int (j:Nat)]
 | some (i,lo,hi)=>[.int (i:Nat),.int (lo:Nat),.int (hi:Nat)]
def Je (ml rl tl nd:Addr):List (Str×V):=[("marks", .ref ml),("rooms", .ref rl),("tables", .ref tl),("numbers", .ref nd)]
structure Parts (C:Addr)(H:Hp)(b:Addr)(os:List Str)(rs:List Rm)(F:yX)(dx ml rl tl nd:Addr)(rv:List V)(ts:List Nat)(kvs:List (Key×V)):Prop where
 hb:H b=some (.ins C dx (Je ml rl tl nd))
 hm:H ml=some (.lst (os.map V.str))
 hr:H rl=some (.lst rv)
 ht:H tl=some (.lst (ts.map fun t=>V.int (t:Nat)))
 hd:H nd=some (.dK kvs)
 mr:ml≠rl
 mt:ml≠tl
 rt:rl≠tl
 ord:uJ os
 bk:Bk os.length rs
 len:rv.length=rs.length
 rm:∀(j:Nat) x,rs[j]?=some x->∃p,rv[j]?=some (.ref p)/\H p=some (.tup (zpf os.length j x))
 tabs:zfh os.length rs ts
 nums:Nums ts kvs
 ft:∀x,F x↔(x=b\/x=ml\/x=rl\/x=tl\/x=nd)
def yh (C:Addr)(H:Hp)(b:Addr)(os:List Str)(rs:List Rm)(F:yX):Prop:=∃dx ml rl tl nd rv ts kvs,Parts C H b os rs F dx ml rl tl nd rv ts kvs
theorem Parts.frame {C:Addr}{H H':Hp}{b:Addr}{os:List Str}{rs:List Rm}{F:yX}{dx ml rl tl nd:Addr}{rv:List V}{ts:List Nat}{kvs:List (Key×V)}(h:Parts C H b os rs F dx ml rl tl nd rv ts kvs)
  (s:∀x o,H x=some o->F x->H' x=some o)(t:wz H H'):Parts C H' b os rs F dx ml rl tl nd rv ts kvs :=
 {h with
  hb:=s _ _ h.hb ((h.ft _).mpr (.inl rfl))
  hm:=s _ _ h.hm ((h.ft _).mpr (.inr (.inl rfl)))
  hr:=s _ _ h.hr ((h.ft _).mpr (.inr (.inr (.inl rfl))))
  ht:=s _ _ h.ht ((h.ft _).mpr (.inr (.inr (.inr (.inl rfl)))))
  hd:=s _ _ h.hd ((h.ft _).mpr (.inr (.inr (.inr (.inr rfl)))))
  rm:=fun j x e=>let ⟨p,a,c⟩:=h.rm j x e;⟨p,a,t _ _ c⟩ }
theorem z9 (C:Addr):WK C (yh C) where
 ins:=fun⟨dx,ml,rl,tl,nd,rv,ts,kvs,h⟩=>⟨dx,_,h.hb,fun m hm=>by
  simp only[zdk,List.mem_cons,zuC,or_false] at hm
  rcases hm with z | z | z | z | z | z<;>subst z<;>rfl⟩
 frame:=fun⟨dx,ml,rl,tl,nd,rv,ts,kvs,h⟩ s t=>⟨dx,ml,rl,tl,nd,rv,ts,kvs,h.frame s t⟩
 there:=fun⟨dx,ml,rl,tl,nd,rv,ts,kvs,h⟩ hx=>by
  rcases (h.ft _).mp hx with z | z | z | z | z<;>subst z
  ·rw[h.hb];exact fun z=>by cases z
  ·rw[h.hm];exact fun z=>by cases z
  ·rw[h.hr];exact fun z=>by cases z
  ·rw[h.ht];exact fun z=>by cases z
  ·rw[h.hd];exact fun z=>by cases z
 bk:=fun⟨_,_,_,_,_,_,_,_,h⟩=>h.bk
 ord:=fun⟨_,_,_,_,_,_,_,_,h⟩=>h.ord
theorem Parts.more {C:Addr}{H H':Hp}{b:Addr}{os:List Str}{rs:List Rm}{F:yX}{dx ml rl tl nd:Addr}{rv:List V}{ts:List Nat}{kvs:List (Key×V)}(h:Parts C H b os rs F dx ml rl tl nd rv ts kvs)
  {i lo hi t:Nat}{q:Addr}(t':wz H H')(hb:H' b=H b)(hm:H' ml=H ml)(hr:H' rl=some (.lst (rv++[.ref q])))(ht:H' tl=some (.lst (ts.map (fun t=>V.int (t:Nat))++[.int (t:Nat)])))
  (hd:H' nd=some (.dK (putK kvs (Sum.inl (t:Int)) (.int (rs.length:Nat)))))(hq:H' q=some (.tup [.int (i:Nat),.int (lo:Nat),.int (hi:Nat)]))(B':Bk os.length (rs++[some (i,lo,hi)]))(hn:t∉ts)(tb:z8 os.length t (fun b=>yes (rs++[some (i,lo,hi)]) rs.length (uO b))) :
  Parts C H' b os (rs++[some (i,lo,hi)]) F dx ml rl tl nd (rv++[.ref q]) (ts++[t]) (putK kvs (Sum.inl (t:Int)) (.int (rs.length:Nat))) :=
 {hb:=by rw[hb];exact h.hb
  hm:=by rw[hm];exact h.hm
  hr:=hr
  ht:=by rw[ht,zuq];rfl
  hd:=hd
  mr:=h.mr
  mt:=h.mt
  rt:=h.rt
  ord:=h.ord
  bk:=B'
  len:=by rw[zuk,zuk,h.len];rfl
  rm:=fun j x e=>by
   by_cases hj:j<rs.length
   ·rw[zuI hj] at e
    obtain⟨p,a,c⟩:=h.rm j x e
    exact⟨p,by rw[zuI (by rw[h.len];exact hj)];exact a,t' _ _ c⟩
   ·have lt:=(zuf.mp e).1
    rw[zuk,zuJ] at lt
    have ej:j=rs.length:=by omega
    subst ej
    simp at e
    subst e
    exact⟨q,by rw[<-h.len];simp,hq⟩
  tabs:=h.tabs.snoc h.bk tb
  nums:=by
   have z:=h.nums.snoc hn
   rw[h.tabs.len] at z
   exact z
  ft:=h.ft }
def RQ:Sp:=fun vs H Q _=>∃(N p n:Nat) (v:Bool) (f:Nat->Bool),vs=[.int N,.int p,.int (v.toNat:Nat),.int n]/\p<n/\n<=8/\z8 n N f/\∀R:Nat,z8 n R (fun b=>f (zU b p v))->Q (.int R) H
def zd6:Sp:=fun vs H Q _=>∃(N n:Nat) (f:Nat->Bool),vs=[.int N,.int n]/\n<=8/\z8 n N f/\∀p:Nat,p<=n->(∀i,i<p->Free n f i)->(p<n->∃b,b<2^n/\f (zU b p false)≠f (zU b p true))->Q (.int p) H
def WL (C:Addr):Sp:=fun vs H Q _=>∃(b:Addr) (os:List Str) (rs:List Rm) (F:yX) (k:Nat),vs=[.ref b,.int k]/\yh C H b os rs F/\k<rs.length/\Q .non H
def vB (C:Addr):Sp:=fun vs H Q _=>∃(b:Addr) (os:List Str) (rs:List Rm) (F:yX) (k:Nat),vs=[.ref b,.int k]/\yh C H b os rs F/\k<rs.length/\∀t:Nat,z8 os.length t (fun b=>yes rs k (uO b))->Q (.int t) H
def zaG:Sp:=fun vs H Q _=>∃(N p n:Nat) (f:Nat->Bool),vs=[.int N,.int p,.int n]/\p<n/\n<=8/\z8 n N f/\∀b:Bool,(b=false->Free n f p)->(b=true->∃c,c<2^n/\f (zU c p false)≠f (zU c p true))->Q (.bl b) H
def Uu:Sp:=fun vs H Q _=>∃(N M n:Nat) (f g:Nat->Bool),vs=[.int N,.int M]/\z8 n N f/\z8 n M g/\∀R:Nat,z8 n R (fun b=>f b&&!g b)->Q (.int R) H
def zfi:Sp:=fun vs H Q _=>∃(W L M n:Nat) (f g h:Nat->Bool),vs=[.int W,.int L,.int M]/\z8 n W f/\z8 n L g/\z8 n M h/\∀R:Nat,z8 n R (fun b=>if f b then h b else g b)->Q (.int R) H
end Xv
namespace L2
open PySem PySem.Spec PyProof.Rows
def Its (x:Str):It:={ go:=fun i _=>i<x.cps.size,KQ:=fun i H v H'=>H'=H/\∃c,x.cps[i]?=some c/\v=.str ⟨#[c]⟩,stop:=fun i _=>i=x.cps.size }
theorem zj1 {P:Program}{w:World}{K:Frag}{tg:Expr}(it:Addr)(x:Str)(t:Tok):Turn P w K tg (Its x) [it] it (fun i h=>h.IsStrIter it "str_ascii_iterator" x t i) where
 mem:=by simp
 obj:=fun i h st b hb=>by
  have e:b=it:=by simpa using hb
  subst e
  obtain⟨o,e,c,d⟩:=st
  exact⟨o,e,fun v z=>by rw[d] at z;cases z⟩
 keep:=fun i h h' st k=>by
  obtain⟨o,e,c,d⟩:=st
  exact⟨o,k it (by simp) o e,c,d⟩
 item:=by
  intro X hP hw hK hc i pins s σ H E I hf st hg
  subst hP hw hK
  obtain⟨f0,f1,f2,f3,f4,f5⟩:=hf it (by simp)
  have W:=Walks.strAscii (prog:=X.prog) (w:=X.w) (I.ok.hd hc) it x t
  refine W.item i s _ _ hg st fun v h' tk hv st' kk=>?_
  obtain⟨c,u,hc',rfl⟩:=hv
  have I1:Inv X pins σ H { s with heap:=h',toks:=tk }:=I.turned (fun b o hb e=>kk b o (by simpa using hb) e) f0 f1 f3 f4 f5
  obtain⟨o,e,cc,d⟩:=id st'
  exact⟨_,rfl,zcR (s:={ s with heap:=h',toks:=tk }) e cc d (by decide) ⟨.str ⟨#[c]⟩,H,I1,⟨u,rfl⟩,⟨rfl,c,hc',rfl⟩,st',fun b hb=>(hf b hb).1⟩⟩
 done:=by
  intro X hP hw hK hc i pins s σ H E I hf st hg
  subst hP hw hK
  obtain⟨f0,f1,f2,f3,f4,f5⟩:=hf it (by simp)
  have W:=Walks.strAscii (prog:=X.prog) (w:=X.w) (I.ok.hd hc) it x t
  have e:i=x.cps.size:=hg
  subst e
  exact W.done s _ _ st fun h' tk kk=>⟨rfl,I.turned (fun b o hb e=>kk b o (by simpa using hb) e) f0 f1 f3 f4 f5⟩
 self:=fun _ _ _ _ _ st h=>wpAny_pyIter_striter_ascii st h
section
variable {X:Cx}{tg:Expr}
def zq0 (tl:TE):TI:=fun σ H R=>tl σ H fun x H1=>∃z:Str,x=.str z/\(z.cps.all fun c=>decide (c<128))=true/\R (Its z) H1
theorem zj2 {l:Expr}{tl:TE}(hl:PE X l tl):PI X tg l (zq0 tl):=by
 intro pins s σ H R I h
 refine vM (hl pins s σ H _ I h) fun v s1 ⟨x,H1,I1,r1,q1⟩=>?_
 obtain⟨z,e,ha,q⟩:=q1
 subst e
 obtain⟨t,rfl⟩:=r1
 refine wpAny_pyIter_ascii ha ?_
 refine⟨s1.heap.objs.size,[s1.heap.objs.size],_,_,H1,rfl,I1.kept (t':=s1.toks) fun b o e=>zui _ e,zj1 _ z t,⟨_,zuw _ rfl,rfl,rfl⟩,fun b hb=>?_,q⟩
 have e:b=s1.heap.objs.size:=by simpa using hb
 subst e
 exact I1.zgi (zus _) (I1.hok.fresh (zus _))
end
section
variable {X:Cx}{sc Zx:Scope}{xs:List Str}{js:List Nat}{tg:Expr}{g:TG}{elt iter:Expr}{px pos:Pos}{ifs:List Expr}{wi:TI}{tt:TT}{te:TE}
theorem znL (VR:X.env.scope=Zx)(L:zhI Zx sc xs (js.map fun j=>X.N.getD j ""))(hc:X.calm=true)(hi:PI X tg iter wi)(hg:∀(cl:List (Str×Addr)) (C:Addr) (s₂:Shared) (H₂:Hp) (fp:List Addr),PG (X.blk sc cl C (Ml X xs js) s₂ H₂ fp) tg g)(hjs:∀j∈js,j<X.N.length)
  (ht:∀(cl:List (Str×Addr)) (C:Addr) (s₂:Shared) (H₂:Hp) (fp:List Addr) (pins:List (Addr×Obj)) (s':Shared) (σ':St) (H':Hp) (Q:Bool->Hp->Prop),Inv (X.blk sc cl C (Ml X xs js) s₂ H₂ fp) pins σ' H' s'->tt σ' H' Q ->
   wpAny (model X.prog X.w) X.A (YM ifs (compEnvC sc cl C X.env)) (TP (X.blk sc cl C (Ml X xs js) s₂ H₂ fp) pins σ' Q) (fun _ _=>False) s')
  (he:∀(cl:List (Str×Addr)) (C:Addr) (s₂:Shared) (H₂:Hp) (fp:List Addr),PE (X.blk sc cl C (Ml X xs js) s₂ H₂ fp) elt te)
  (hs:∀x,foldedSetIterable iter X.env x=pure x:=by intro _;rfl) :
  PE X (.ListComp elt [⟨tg,iter,ifs,0⟩] sc pos) (zoV wi xs js g tt te):=by
 intro pins s σ H Q I h
 rw[eval_ListComp]
 refine ze1 (use:=none) (Fin:=fun ys H=>∀p,H p=none->Q (.ref p) (upd H p (.lst ys))) VR L (rd:=Calm) (fun _ _ _ _ _ _ _=>hc) hi hg hjs ht he hs I h fun D C s5 H5 ys its k m5 J oD oC hDC p1 vs z hn fin=>?_
 refine⟨m5,hn,fun h' hsb=>?_⟩
 have J2:Inv X pins σ H5 { s5 with heap:=h',toks:=s5.toks }:=J.turned (it:=C) (fun b o hb e=>hsb.extBut b o hb e) oC.free oC.loc (.inr oC.new) oC.cel oC.pin
 have p1':h'.get? D=some (tG its k):=hsb.extBut _ _ hDC p1
 have J3:Inv X pins σ (upd H5 D (.lst ys)) { s5 with heap:=h',toks:=s5.toks }:=J2.track oD.free oD.loc oD.new oD.cel oD.pin ⟨z,its,k,vs,p1'⟩
 exact⟨.ref D,_,J3,rfl,fin D oD.free⟩
end
theorem Inv.zlV {X:Cx}{pins:List (Addr×Obj)}{σ:St}{H:Hp}{s:Shared}{h':Heap}{t':Nat}{fp:List Addr}(I:Inv X pins σ H s)(k:∀b o,b∉fp->s.heap.get? b=some o->h'.get? b=some o)(hf:∀b∈fp,zb9 X pins H b) :
  Inv X pins σ H { s with heap:=h',toks:=t' }:=by
 have nit:∀b u,H b=some u->b∉fp:=fun b u e z=>by rw[(hf b z).1] at e;cases e
 refine I.step (g':=s.gens) (d':=s.drawn) (ch:=fp) (fun b hb=>⟨(hf b hb).2.2.2.1,(hf b hb).2.1,(hf b hb).2.2.2.2.1,(hf b hb).2.2.2.2.2⟩) (fun b o _ _ hc e _=>k b o hc e) (fun b o _ _ hc e _=>⟨o.slots,k b o hc e⟩) (fun _ _ _ _ n=>n)
  (fun b o hc e=>⟨o,k b o hc e⟩) (fun _ _ e=>e) (fun _ _ _ e=>e) (fun b ps e=>⟨#[],by rw[e];simp⟩) (fun m hm=>?_) (fun b u e=>?_) I.bare
 ·obtain⟨o,es,ep,ho,r⟩:=hm
  exact⟨o,es,ep,k _ o (fun z=>(hf _ z).2.1 rfl) ho,r⟩
 ·refine(I.hok b u e).stay (fun c v hc q=>k c v ?_ q) (fun _ q=>q) fun _ _ q=>q
  rcases hc with z | z
  ·rw[z];exact nit b u e
  ·exact nit c _ z
def Itz (K:Frag)(a b:Addr):It :=
 {go:=fun i H=>∃xs ys x y,zB K H a xs/\zB K H b ys/\xs[i]?=some x/\ys[i]?=some y
  KQ:=fun i H v H'=>∃q x y,(∀xs,zB K H a xs->xs[i]?=some x)/\(∀ys,zB K H b ys->ys[i]?=some y)/\v=.ref q/\H q=none/\H'=upd H q (.tup [x,y])
  stop:=fun i H=>∃xs ys,zB K H a xs/\zB K H b ys/\(xs.length<=i\/ys.length<=i) }
theorem zj3 {P:Program}{w:World}{K:Frag}{els:List Expr}{x1}{pt:Pos}(a b z ti to i1 i2:Addr)(D:ZipApart z ti to i1 i2 a b):Turn P w K (.Tuple els x1 pt) (Itz K a b) [z,ti,to,i1,i2] z
  (fun i h=>IsZip h z ti to .none/\IsPair h ti (.ref i1) (.ref i2)/\(∃u v,IsPair h to u v)/\h.IsListIter i1 a i/\h.IsListIter i2 b i) where
 mem:=by simp
 obj:=fun i h st c hc=>by
  obtain⟨q1,q2,⟨u,v,q3⟩,⟨o4,q4,c4,d4⟩,⟨o5,q5,c5,d5⟩⟩:=st
  simp only[List.mem_cons,zuC,or_false] at hc
  rcases hc with e | e | e | e | e<;>subst e
  ·exact⟨_,q1,fun v hv=>by cases hv⟩
  ·exact⟨_,q2,fun v hv=>by cases hv⟩
  ·exact⟨_,q3,fun v hv=>by cases hv⟩
  ·exact⟨_,q4,fun v hv=>by rw[d4] at hv;cases hv⟩
  ·exact⟨_,q5,fun v hv=>by rw[d5] at hv;cases hv⟩
 keep:=fun i h h' st k=>by
  obtain⟨q1,q2,⟨u,v,q3⟩,q4,q5⟩:=st
  exact⟨k z (by simp) _ q1,k ti (by simp) _ q2,⟨u,v,k to (by simp) _ q3⟩,q4.at fun o e=>k i1 (by simp) o e,q5.at fun o e=>k i2 (by simp) o e⟩
 item:=by
  intro X hP hw hK hc i pins s σ H E I hf st hg
  subst hP hw hK
  obtain⟨xs,ys,x,y,hq1,hq2,hx,hy⟩:=hg
  obtain⟨q1,q2,⟨u0,v0,q3⟩,q4,q5⟩:=st
  obtain⟨zgL,rv1,pl1,hz1⟩:=I.list hq1
  obtain⟨its2,rv2,pl2,hz2⟩:=I.list hq2
  obtain⟨u,hu,ru⟩:=rv1.get hx
  obtain⟨v,hv,rv⟩:=rv2.get hy
  refine wpAny_pyNext_zip_item D q1 q2 q3 q4 q5 pl1.isList pl2.isList (x:=u) (y:=v) (by simpa using hu) (by simpa using hv) fun h1 out pto it1 it2 tup sz k1=>?_
  refine⟨.ref s.heap.objs.size,rfl,wpAny_letOwnedTupleGo_zip out fun h2 he2 sb=>?_⟩
  have ltz:=zuj q1
  have ltf:∀c∈[z,ti,to,i1,i2],c<s.heap.objs.size:=fun c hc=>by
   simp only[List.mem_cons,zuC,or_false] at hc
   rcases hc with e | e | e | e | e<;>subst e
   ·exact ltz
   ·exact zuj q2
   ·exact zuj q3
   ·obtain⟨o,e,_⟩:=q4;exact zuj e
   ·obtain⟨o,e,_⟩:=q5;exact zuj e
  have k2:∀c o,c∉[z,ti,to,i1,i2]->s.heap.get? c=some o->h2.get? c=some o:=fun c o hc q=>by
   simp only[List.mem_cons,zuC,or_false,not_or] at hc
   obtain⟨c1,c2,c3,c4,c5⟩:=hc
   exact(sb.2 c c1).trans (k1 c o c1 c3 c4 c5 q)
  have it1':h2.IsListIter i1 a (i+1):=it1.at fun o e=>(sb.2 i1 D.i1z).trans e
  have it2':h2.IsListIter i2 b (i+1):=it2.at fun o e=>(sb.2 i2 D.i2z).trans e
  have hti:IsPair h2 ti (.ref i1) (.ref i2):=(sb.2 ti D.TIz).trans (k1 ti _ D.TIz D.TITO D.TIi1 D.TIi2 q2)
  have hto:IsPair h2 to u v:=(sb.2 to D.TOz).trans pto
  have J1:Inv X pins σ H { s with heap:=h2,toks:=s.toks }:=I.zlz (fp:=[z,ti,to,i1,i2]) k2 (fun c hc=>by
   simp only[List.mem_cons,zuC,or_false] at hc
   rcases hc with e | e | e | e | e<;>subst e
   ·exact⟨_,he2⟩
   ·exact⟨_,hti⟩
   ·exact⟨_,hto⟩
   ·obtain⟨o,e,_⟩:=it1';exact⟨o,e⟩
   ·obtain⟨o,e,_⟩:=it2';exact⟨o,e⟩) hf
  have zq3:h2.get? s.heap.objs.size=some { cls:=.type "tuple", data:=.seq #[u,v] }:=(sb.2 _ (Nat.ne_of_gt ltz)).trans tup
  have ltc:∀y c,X.env.cells.lookup y=some c->c≠s.heap.objs.size:=fun y c q=>by
   obtain⟨v,o,z,_⟩:=I.cell y c q
   exact zur (zuj z)
  have ltp:∀p∈X.pn++pins,p.1≠s.heap.objs.size:=fun p hp=>zur (zuj (I.pin p hp).1)
  have J2:=J1.track (a:=s.heap.objs.size) (o:=.tup [x,y]) I.fresh (Ne.symm (zur I.lt)) I.sz ltc ltp ⟨by show 2<=sizeLine;decide,[u,v],.cons ru (.cons rv .nil),⟨_,zq3,rfl,_,rfl⟩⟩
  refine⟨.ref s.heap.objs.size,_,J2,rfl,⟨_,x,y,fun zs hzs=>by rw[I.Wy hzs hq1];exact hx,fun zs hzs=>by rw[I.Wy hzs hq2];exact hy,rfl,I.fresh,rfl⟩,⟨he2,hti,⟨u,v,hto⟩,it1',it2'⟩,fun c hc=>?_⟩
  rw[zE (zur (ltf c hc))]
  exact(hf c hc).1
 done:=by
  intro X hP hw hK hc i pins s σ H E I hf st hg
  subst hP hw hK
  obtain⟨xs,ys,hq1,hq2,hx⟩:=hg
  obtain⟨q1,q2,⟨u0,v0,q3⟩,q4,q5⟩:=st
  obtain⟨zgL,rv1,pl1,hz1⟩:=I.list hq1
  obtain⟨its2,rv2,pl2,hz2⟩:=I.list hq2
  have l1:=rv1.length
  have l2:=rv2.length
  refine wpAny_pyNext_zip_end (I.ok.hd hc) D q1 q2 q3 q4 q5 pl1.isList pl2.isList (by
   rcases hx with e | e
   ·left;simp;omega
   ·right;simp;omega) fun h' k=>⟨rfl,?_⟩
  refine I.zlV (t':=s.toks) (fp:=[z,to,i1,i2]) (fun c o hc e=>?_) fun c hc=>hf c (by simp only[List.mem_cons,zuC,or_false] at hc ⊢;rcases hc with e | e | e | e<;>simp[e])
  simp only[List.mem_cons,zuC,or_false,not_or] at hc
  exact k c o hc.1 hc.2.1 hc.2.2.1 hc.2.2.2 e
 self:=fun _ _ _ _ _ st h=>wpAny_pyIter_zip st.1 h
section
variable {X:Cx}
def zq4 (K:Frag)(ta:TA):TI:=fun σ H R=>ta σ H fun vs H1=>∃a b xs ys,vs=[.ref a,.ref b]/\zB K H1 a xs/\zB K H1 b ys/\R (Itz K a b) H1
theorem zj5 {l m:Expr}{ta:TA}{p pos:Pos}{els:List Expr}{x1}{pt:Pos}(hg:Gl X "zip")(hm:X.mg "zip"=none)(ha:PA X [l,m] ta)(hs:starEach [l,m] X.env=[(false,eval l X.env),(false,eval m X.env)]:=by rfl)(hs2:starEach [m] X.env=[(false,eval m X.env)]:=by rfl) :
  PI X (.Tuple els x1 pt) (.Call (.Name "zip" p) [l,m] [] pos) (zq4 X.K ta):=by
 intro pins s σ H R I h
 refine Call_ (VP I hg hm boot_zip (PyProof.Rows.callWith_type1 (vM (ha pos pins s σ H _ I h) fun us s1 ⟨vs,H1,I1,r1,q1⟩=>?_) (by rw[hs,hs2]) (by rw[hs2];rfl)))
 obtain⟨a,b,xs,ys,e,hq1,hq2,q⟩:=q1
 subst e
 obtain⟨u,v,rfl,ru,rv⟩:=vals2 r1
 cases ru
 cases rv
 obtain⟨zgL,rv1,pl1,hz1⟩:=I1.list hq1
 obtain⟨its2,rv2,pl2,hz2⟩:=I1.list hq2
 obtain⟨o1,e1,_⟩:=id pl1.isList
 obtain⟨o2,e2,_⟩:=id pl2.isList
 refine call_zip_2 pl1.isList pl2.isList fun h' hz hti hto it1 it2 hsz hk=>?_
 have J:Inv X pins σ H1 { s1 with heap:=h',toks:=s1.toks }:=I1.kept hk
 refine wpAny_pyIter_zip hz ?_
 refine⟨s1.heap.objs.size+4,[s1.heap.objs.size+4,s1.heap.objs.size+2,s1.heap.objs.size+3,s1.heap.objs.size,s1.heap.objs.size+1],_,_,H1,rfl,J,zj3 a b _ _ _ _ _ (zipApart_new (zuj e1) (zuj e2)),⟨hz,hti,⟨_,_,hto⟩,it1,it2⟩,fun c hc=>?_,q⟩
 have gc:s1.heap.objs.size<=c:=by
  simp only[List.mem_cons,zuC,or_false] at hc
  rcases hc with z | z | z | z | z<;>rw[z]<;>omega
 exact I1.zgi gc (I1.hok.fresh gc)
def zph (K:Frag):R2:=fun x y H Q=>∃p q xs ys,x=.ref p/\y=.ref q/\zB K H p xs/\zB K H q ys/\xs.length+ys.length<=sizeLine/\∀l,H l=none->Q (.ref l) (upd H l (.lst (xs++ys)))
theorem zaH:Uj X (binaryOp .Add) (zph X.K):=by
 intro pins s σ H x y v u Q I rx ry h
 obtain⟨p,q,xs,ys,rfl,rfl,hp,hq,hz,h⟩:=h
 cases rx
 cases ry
 obtain⟨zgL,rv1,pl1,hz1⟩:=I.list hp
 obtain⟨its2,rv2,pl2,hz2⟩:=I.list hq
 obtain⟨⟨cls,dd,data,sl⟩,ho,hc,n,hd⟩:=id pl1.isList
 obtain⟨⟨cls2,dd2,data2,sl2⟩,ho2,hc2,n2,hd2⟩:=id pl2.isList
 simp only at hc hd hc2 hd2
 subst hc hd hc2 hd2
 have l1:=rv1.length
 have l2:=rv2.length
 have e:zgL.toArray++its2.toArray=(zgL++its2).toArray:=by simp
 refine concat_meets ⟨_,ho,rfl⟩ ⟨_,ho2,rfl⟩ noFill_list_add seq_list_add PySem.F.slot_list_add PySem.F.entry_list_add (PySem.F.args_list_add_2 _ _) (list_addW p q zgL.toArray its2.toArray n n2 dd dd2 sl sl2 (by simp;omega)) ⟨ho,ho2,?_⟩
 rw[e]
 refine⟨.ref s.heap.objs.size,_,I.laid (t':=s.toks) (o:=.lst (xs++ys)) (fun b o e=>zui _ e) (zus _) ?_,rfl,h _ (I.hok.fresh (zus _))⟩
 exact⟨by rw[zuk];exact hz,zgL++its2,0,rv1.append rv2,zuw _ rfl⟩
end
end L2
namespace L2
open PySem
section
variable {K:Frag}{a:Addr}{xs:List V}{σ:St}{js:List Nat}{te:TE}{H:Hp}{Qf:Addr->Hp->List V->Prop}
theorem zhV (R:Nat->V->Prop)(hq:zB K H a xs)(hz:xs.length<=sizeLine)
  (hs:∀(i:Nat) x H',xs[i]?=some x->Same H H'->te (Xu σ js (some x)) H' fun v H3=>R i v/\Same H H3)
  (me:∀ σ H Q Q',(∀v H1,Q v H1->Q' v H1)->te σ H Q->te σ H Q')
  (hd:∀ys H' p,ys.length=xs.length->(∀(i:Nat) y,ys[i]?=some y->R i y)->Same H H'->H' p=none->Qf p H' ys) :
  ∃W:Nat->Nat->List V->Hp->Prop,(∃m,W 0 m [] H)/\∀i m ys H,W i m ys H ->
   ((Itl K a).stop i H/\∀p,H p=none->Qf p H ys) \/
   ((Itl K a).go i H/\ys.length<sizeLine/\∀x H',(Itl K a).KQ i H x H'->zcb (Xu σ js (some x)) H' fun b H2 =>
    if b=true then te (Xu σ js (some x)) H2 fun v H3=>∃m',m'<m/\W (i+1) m' (ys++[v]) H3 else ∃m',m'<m/\W (i+1) m' ys H2):=by
 refine zaD (fun i ys H'=>Same H H'/\ys.length=i/\∀(j:Nat) y,ys[j]?=some y->R j y) ⟨Same.refl _,rfl,fun j y e=>by simp at e⟩ hz ?_ ?_ (fun _ _ _ _ h q=>h _ _ q) me ?_
 ·rintro i ys H' hi ⟨g,e,r⟩
  exact⟨g.seq hq,by omega⟩
 ·rintro i x ys H' hx ⟨g,e,r⟩
  show te (Xu σ js (some x)) H' fun v H3=>Same H H3/\(ys++[v]).length=i+1/\∀(j:Nat) y,(ys++[v])[j]?=some y->R j y
  refine me _ _ _ _ (fun v H3 h3=>⟨h3.2,by rw[zuk,e];rfl,fun j y ey=>?_⟩) (hs i x H' hx g)
  by_cases hj:j<ys.length
  ·rw[zuI hj] at ey
   exact r j y ey
  ·have lt:=(zuf.mp ey).1
   rw[zuk,zuJ] at lt
   have ej:j=ys.length:=by omega
   subst ej
   simp at ey
   subst ey
   rw[e]
   exact h3.1
 ·rintro ys H' p ⟨g,e,r⟩ hp
  exact hd ys H' p e r g hp
end
theorem zlW {X:Cx}{x y:Str}{px py pt:Pos}{x1:Nat}(hc:X.calm=true)(hN:X.N.Nodup)(h0:X.N[0]?=some x)(h1:X.N[1]?=some y)(hx:X.env.scope.names.lookup x=some .local)(hy:X.env.scope.names.lookup y=some .local):PG X (.Tuple [.Name x px,.Name y py] x1 pt) (zlh X.K 2 (zaV (Ri 0) (zaV (Ri 1) zlg))) :=
 Nk hc (vZ (yS hN h0 (.inl hx) (.inr hx)) (vZ (yS hN h1 (.inl hy) (.inr hy)) Tp))
end L2
namespace L2
open PySem PySem.Spec PyProof.Rows
structure zj6 (Zx sc:Scope)(x y:Str)(fv:List Str):Prop where
 g:zhI Zx sc [x,y] fv
 hx:sc.names.lookup x=some .local
 hy:sc.names.lookup y=some .local
 nd:([x,y]++fv).Nodup
end L2
namespace Xv
open PySem L2 vp
def uK (ns:List Int)(i:Nat):Int:=(ns[i]?).getD 0
def zaI (K:Frag):Sp:=fun vs H Q _=>∃(l:Addr) (ns:List Int) (i:Nat),vs=[.ref l,.int i]/\zB K H l (ns.map V.int)/\Q (.int (uK ns i)) H
end Xv
namespace L2
theorem zpi {σ:St}{H:Hp}{Q:Bool->Hp->Prop}(h:Q true H):zcb σ H Q:=h
end L2
namespace Xv
open PySem L2 vp
theorem Sn.RT:∀s:Sn,s.count+1<=2^s.depth:=by
 have key:∀(d:Nat) (s:Sn),s.depth<=d->s.count+1<=2^d:=by
  intro d
  induction d with
  | zero=>intro s h;have:=Sn.K9 s;omega
  | succ d ih =>
   intro s h
   have hp:=Sn.JG s
   have hl:=Sn.M9 s
   have hd:=Sn.RG s
   have hc:∀t∈s.parts,t.count+1<=2^d:=fun t ht=>ih t (by have:=hd t ht;omega)
   have p1:1<=2^d:=Nat.one_le_two_pow
   rw[Nat.pow_succ,hp]
   match hs:s.parts,hl with
   | [],_=>simp;omega
   | [a],_ =>
    have:=hc a (by rw[hs];simp)
    simp;omega
   | [a,b],_ =>
    have h1:=hc a (by rw[hs];simp)
    have h2:=hc b (by rw[hs];simp)
    simp;omega
   | a::b::c::r,h=>simp at h
 exact fun s=>key _ s (zus _)
end Xv
namespace L2
open PySem PySem.Spec PyProof.Rows
theorem zpj {x:V}{p q:Prop}(h:q):if (!decide (x=x))=true then p else q:=by
 rw[decide_eq_true rfl]
 exact h
theorem wQ {x y:V}{p q:Prop}(e:x=y)(h:q):if (!decide (x=y))=true then p else q:=by
 subst e
 exact zpj h
end L2
namespace vp
open Xv
def anyB (n:Nat)(f:Nat->Bool):Bool:=(List.range (2^n)).any f
theorem anyB_iff {n:Nat}{f:Nat->Bool}:anyB n f=true↔∃b,b<2^n/\f b=true:=by
 unfold anyB
 rw[List.any_eq_true]
 exact⟨fun⟨b,h,e⟩=>⟨b,List.mem_range.mp h,e⟩,fun⟨b,h,e⟩=>⟨b,List.mem_range.mpr h,e⟩⟩
theorem M5 {n N:Nat}{f:Nat->Bool}(h:z8 n N f):decide (N=0)=!anyB n f:=by
 by_cases e:N=0
 ·subst e
  rw[decide_eq_true rfl]
  cases hb:anyB n f with
  | false=>rfl
  | true =>
   obtain⟨b,hb,e⟩:=anyB_iff.mp hb
   have:=Lf h hb
   rw[e,Nat.zero_testBit] at this
   cases this
 ·rw[decide_eq_false e]
  cases hb:anyB n f with
  | true=>rfl
  | false =>
   exfalso
   refine e (Nat.eq_of_testBit_eq fun i=>?_)
   rw[h i,Nat.zero_testBit]
   by_cases hi:i<2^n
   ·cases hf:f i with
    | false=>rw[Bool.and_false]
    | true=>rw[anyB_iff.mpr ⟨i,hi,hf⟩] at hb;cases hb
   ·rw[decide_eq_false hi];rfl
def fvP (n:Nat):(Nat->Bool)->List Nat->List Bool
 | _,[]=>[]
 | f,p::ps=>(!anyB n fun b=>f (zU b p false))::fvP n (fun b=>f (zU b p (!anyB n fun b=>f (zU b p false)))) ps
end vp
namespace Xv
open PySem L2 vp
def Px (K:Frag):Sp:=fun vs H Q _=>∃(N n:Nat) (f:Nat->Bool) (pl:Addr) (ps:List Nat),vs=[.int N,.ref pl,.int n]/\n<=8/\z8 n N f/\zB K H pl (ps.map fun p=>V.int (p:Nat))/\(∀p∈ps,p<n)/\ps.length<=1000 /\
 ∀(l:Addr) (H':Hp),Same H H'->H l=none->H' l=some (.lst (M6 (fvP n f ps)))->Q (.ref l) H'
end Xv
namespace vp
open PySem Xv
def upR (n:Nat)(x:Rm):Bool:=match x with | some (i,_,_)=>decide (i+2<n) | none=>false
def JR (n:Nat)(rs:List Rm):Nat:=(rs.filter (upR n)).length
theorem zlY {n:Nat}{rs:List Rm}{p lo hi:Nat}:JR n (rs++[some (p,lo,hi)])=JR n rs+if p+2<n then 1 else 0:=by
 unfold JR
 rw[zuP,zuk]
 congr 1
 by_cases h:p+2<n
 ·rw[if_pos h,List.filter_cons_of_pos (show upR n (some (p,lo,hi))=true from decide_eq_true h)]
  rfl
 ·rw[if_neg h,List.filter_cons_of_neg (show ¬upR n (some (p,lo,hi))=true from fun z=>h (of_decide_eq_true z))]
  rfl
def zlZ (n:Nat)(rs:List Rm)(k:Nat):Bool×Bool×Bool×Bool :=
 (yes rs k (fun i=>if i+1=n then false else false),yes rs k (fun i=>if i+1=n then true else false),yes rs k (fun i=>if i+1=n then false else true),yes rs k (fun i=>if i+1=n then true else true))
theorem zl0 {n:Nat}{rs:List Rm}(B:Bk n rs){j k:Nat}(hj:j<rs.length)(hk:k<rs.length)(lj:n<=Pu n rs j+2)(lk:n<=Pu n rs k+2)(e:zlZ n rs j=zlZ n rs k):j=k:=by
 unfold zlZ at e
 rw[Prod.mk.injEq,Prod.mk.injEq,Prod.mk.injEq] at e
 obtain⟨e0,e1,e2,e3⟩:=e
 have key:∀{m:Nat},m<rs.length->n<=Pu n rs m+2->∀r:Row,yes rs m r=yes rs m (fun i=>if i+1=n then r (n-1) else r (n-2)):=fun {m} hm lm r=>by
  refine Ut B m m (zus _) hm fun i h1 h2=>?_
  by_cases h:i+1=n
  ·rw[if_pos h,show i=n-1 by omega]
  ·rw[if_neg h,show i=n-2 by omega]
 refine Xj B (max j k) j k ⟨Nat.le_max_left _ _,Nat.le_max_right _ _⟩ hj hk fun r=>?_
 rw[key hj lj r,key hk lk r]
 cases r (n-1)<;>cases r (n-2)
 ·exact e0
 ·exact e2
 ·exact e1
 ·exact e3
def zpk:List (Bool×Bool×Bool×Bool):=[false,true].flatMap fun a=>[false,true].flatMap fun b=>[false,true].flatMap fun c=>[false,true].map fun d=>(a,b,c,d)
theorem zj7:∀x:Bool×Bool×Bool×Bool,x∈zpk:=by
 rintro⟨a,b,c,d⟩
 cases a<;>cases b<;>cases c<;>cases d<;>decide
theorem zfj {α:Type}(f:α->Bool)(d:α):∀l:List α,(l.filter f).length=((List.range l.length).filter fun i=>f (l.getD i d)).length
 | []=>rfl
 | a::l=>by
  have ih:=zfj f d l
  rw[zuo,List.range_succ_eq_map,List.filter_cons,List.filter_cons,List.filter_map,]
  have e:((List.range l.length).filter ((fun i=>f ((a::l).getD i d)) ∘ Nat.succ))=((List.range l.length).filter fun i=>f (l.getD i d)):=rfl
  rw[e]
  show(if f a=true then a::l.filter f else l.filter f).length=(if f a=true then 0::_ else _).length
  cases f a
  ·rw[if_neg zug,if_neg zug,zuc]
   exact ih
  ·rw[if_pos rfl,if_pos rfl,zuo,zuo,zuc,ih]
theorem zdl {α:Type}(f:α->Bool):∀l:List α,l.length=(l.filter f).length+(l.filter fun a=>!f a).length
 | []=>rfl
 | a::l=>by
  have ih:=zdl f l
  cases h:f a
  ·rw[List.filter_cons_of_neg (by rw[h];exact zug),List.filter_cons_of_pos (p:=fun a=>!f a) (by rw[h];rfl),zuo,zuo]
   omega
  ·rw[List.filter_cons_of_pos h,List.filter_cons_of_neg (p:=fun a=>!f a) (by rw[h];exact zug),zuo,zuo]
   omega
theorem zj8 {n:Nat}{rs:List Rm}(B:Bk n rs):rs.length<=JR n rs+16:=by
 have e1:=zdl (fun i=>upR n (rs.getD i none)) (List.range rs.length)
 rw[List.length_range,<-zfj] at e1
 have e2:((List.range rs.length).filter fun i=>!upR n (rs.getD i none)).length<=16:=by
  have nd:(((List.range rs.length).filter fun i=>!upR n (rs.getD i none)).map (zlZ n rs)).Nodup:=by
   have h:=(List.nodup_range (n:=rs.length)).filter (fun i=>!upR n (rs.getD i none))
   show List.Pairwise _ _
   rw[List.pairwise_map]
   refine List.Pairwise.imp_of_mem (fun {j k} hj hk ne e=>ne ?_) h
   obtain⟨j1,j2⟩:=List.mem_filter.mp hj
   obtain⟨k1,k2⟩:=List.mem_filter.mp hk
   have lv:∀m,m<rs.length->(!upR n (rs.getD m none))=true->n<=Pu n rs m+2:=fun m hm hu=>by
    unfold Pu
    rw[zup] at hu
    cases hx:rs[m]? with
    | none=>show n<=n+2;omega
    | some x =>
     rw[hx] at hu
     cases x with
     | none=>show n<=n+2;omega
     | some t =>
      obtain⟨i,lo,hi⟩:=t
      have:¬i+2<n:=fun z=>by
       have:upR n (some (i,lo,hi))=true:=decide_eq_true z
       simp[this] at hu
      show n<=i+2
      omega
   exact zl0 B (List.mem_range.mp j1) (List.mem_range.mp k1) (lv j (List.mem_range.mp j1) j2) (lv k (List.mem_range.mp k1) k2) e
  have:=M7 nd (ys:=zpk) fun x _=>zj7 x
  rw[zuc] at this
  exact this
 unfold JR
 omega
def bH (n u:Nat):Nat:=2^(n-2-u)-1
theorem zl1 {n u p:Nat}(h:u<=p):bH n (p+1)+bH n (p+1)+(if p+2<n then 1 else 0)<=bH n u:=by
 unfold bH
 by_cases hp:p+2<n
 ·rw[if_pos hp]
  have e:n-2-p=(n-2-(p+1))+1:=by omega
  have m:2^(n-2-p)<=2^(n-2-u):=zuH (by decide) (by omega)
  have p1:1<=2^(n-2-(p+1)):=Nat.one_le_two_pow
  rw[e,Nat.pow_succ] at m
  omega
 ·rw[if_neg hp,show n-2-(p+1)=0 by omega]
  show 1-1+(1-1)+0<=_
  omega
theorem znM {n:Nat}(h:n<=8):bH n 0<=63:=by
 have:2^(n-2-0)<=2^6:=zuH (by decide) (by omega)
 have e:2^6=64:=rfl
 unfold bH
 omega
end vp
namespace Xv
open PySem L2 vp
section
variable (C:Addr)(K:Frag)
def vq (d:Nat):Sp:=fun vs H Q _=>∃(b:Addr) (os:List Str) (rs:List Rm) (F:yX) (t u:Nat) (f:Nat->Bool),vs=[.ref b,.int t]/\yh C H b os rs F/\rs.length+2^d<=9000000/\u<=os.length/\os.length+1<=u+d/\z8 os.length t f/\(∀i,i<u->Free os.length f i) /\
 ∀(k:Nat) (rs':List Rm) (H':Hp),zd4 F H H'->wz H H'->yh C H' b os rs' F->wU rs rs'->k<rs'.length->(∀r,yes rs' k r=f (bits r os.length))->rs'.length+1<=rs.length+2^d->(∀j,rs.length<=j->j<rs'.length->u<=Pu os.length rs' j)->JR os.length rs'<=JR os.length rs+bH os.length u->Q (.int (k:Nat)) H'
def zbk (b:Addr)(os:List Str)(H:Hp)(rs:List Rm)(F:yX)(f:Row->Bool)(Q:VK):Prop:=∀(k:Nat) (rs':List Rm) (H':Hp),zd4 F H H'->wz H H'->yh C H' b os rs' F->wU rs rs'->Means rs' k f->JR os.length rs'<=JR os.length rs+63->Q (.int (k:Nat)) H'
def zfk:Sp:=fun vs H Q _=>∃(b p:Addr) (os:List Str) (rs:List Rm) (F:yX) (s:Sn),vs=[.ref b,.ref p]/\yh C H b os rs F/\rs.length<=8000000/\RJ H s p/\s.V1 os/\s.count<=200/\s.depth<=24/\zbk C b os H rs F (fun r=>s.val (zgK os r)) Q
end
theorem Yg {C b:Addr}{os:List Str}{H H1:Hp}{rs:List Rm}{F:yX}{fm:Row->Bool}{Q:VK}{t:Nat}{f:Nat->Bool}(g1:Same H H1)(hB:yh C H1 b os rs F)(hl:rs.length<=8000000)(tb:z8 os.length t f)(ef:∀r,f (bits r os.length)=fm r)
  (q:zbk C b os H rs F fm Q):vq C 9 [.ref b,.int t] H1 Q (fun _ _ _=>False):=by
 have ho:=(z9 C).ord hB
 refine⟨b,os,rs,F,t,0,f,rfl,hB,by show rs.length+512<=9000000;omega,zuy _,by have:=ho.le;omega,tb,fun i hi=>absurd hi (Nat.not_lt_zero _),fun j rs' H' aw tu hB' gr lt y ln _ hh=>?_⟩
 exact q j rs' H' (fun x o e nf=>aw x o (g1 _ _ e) nf) (fun x xs e=>tu _ _ (g1 _ _ e)) hB' gr ⟨lt,fun r=>(y r).trans (ef r)⟩ (zux hh (Nat.add_le_add_left (znM ho.le) _))
structure Uv (C:Addr)(H0:Hp)(b:Addr)(os:List Str)(m:Nat)(H:Hp)(rs:List Rm)(F:yX):Prop where
 same:Same H0 H
 away:∀x,F x->H0 x=none
 bk:yh C H b os rs F
 hi:JR os.length rs<=m
section
variable {C:Addr}{H0:Hp}{b:Addr}{os:List Str}{m:Nat}{H:Hp}{rs:List Rm}{F:yX}
theorem Uv.len (h:Uv C H0 b os m H rs F):rs.length<=m+16:=zux (zj8 ((z9 C).bk h.bk)) (Nat.add_le_add_right h.hi _)
theorem Uv.new (h:Uv C H0 b os m H rs F){H':Hp}(g:Same H H'):Uv C H0 b os m H' rs F:=⟨h.same.trans g,h.away,(z9 C).same h.bk g,h.hi⟩
theorem Uv.grow (h:Uv C H0 b os m H rs F){H':Hp}{rs':List Rm}(aw:zd4 F H H')(hB:yh C H' b os rs' F)(hh:JR os.length rs'<=JR os.length rs+63):Uv C H0 b os (m+63) H' rs' F :=
 ⟨fun x o e=>aw x o (h.same _ _ e) fun z=>(by have:=h.away x z;rw[this] at e;cases e),h.away,hB,zux hh (Nat.add_le_add_right h.hi _)⟩
end
theorem Uv.up {C:Addr}{H0:Hp}{b:Addr}{os:List Str}{m m':Nat}{H:Hp}{rs:List Rm}{F:yX}(h:Uv C H0 b os m H rs F)(hm:m<=m'):Uv C H0 b os m' H rs F:=⟨h.same,h.away,h.bk,zux h.hi hm⟩
end Xv
namespace L2
open PySem PySem.Spec PyProof.Rows
theorem zhW {K:Frag}{a b:Addr}{xs ys:List V}{g:TG}{tb:TS}{D:Ends}{σ:St}{H:Hp}(hlen:xs.length=ys.length)(Pv:Nat->St->Hp->Prop)(h0:Pv 0 σ H)(hl:∀i σ H,i<=xs.length->Pv i σ H->zB K H a xs/\zB K H b ys)
  (hs:∀i x y σ H p,xs[i]?=some x->ys[i]?=some y->Pv i σ H->H p=none->g (.ref p) σ (upd H p (.tup [x,y])) fun σ2 H2=>tb { D with nx:=Pv (i+1),ct:=Pv (i+1),bk:=D.nx } σ2 H2)(hd:∀ σ H,Pv xs.length σ H->D.nx σ H) :
  ∃W:Nat->Nat->St->Hp->Prop,(∃m,W 0 m σ H)/\∀i m σ H,W i m σ H ->
   ((Itz K a b).stop i H/\D.nx σ H)\/((Itz K a b).go i H/\∃N:St->Hp->Prop,(∀ σ' H',N σ' H'->∃m',m'<m/\W (i+1) m' σ' H')/\∀x H',(Itz K a b).KQ i H x H'->g x σ H' fun σ2 H2=>tb { D with nx:=N,ct:=N,bk:=D.nx } σ2 H2):=by
 refine⟨fun i m σ H=>m=xs.length-i/\i<=xs.length/\Pv i σ H,⟨xs.length,by simp,zuy _,h0⟩,?_⟩
 rintro i m σ H ⟨rfl,hi,p⟩
 obtain⟨q,q'⟩:=hl i σ H hi p
 by_cases hlt:i<xs.length
 ·refine .inr ⟨⟨xs,ys,_,_,q,q',zud hlt,zud (l:=ys) (i:=i) (by omega)⟩,Pv (i+1),fun σ' H' p'=>⟨xs.length-(i+1),by omega,rfl,hlt,p'⟩,fun x H' y=>?_⟩
  obtain⟨pp,u,v,hu,hv,rfl,hn,rfl⟩:=y
  exact hs i u v σ H pp (hu xs q) (hv ys q') p hn
 ·have e:i=xs.length:=by omega
  subst e
  exact .inl ⟨⟨xs,ys,q,q',.inl (zus _)⟩,hd σ H p⟩
section
variable {X:Cx}{K:Frag}{o e:Expr}{es:List Expr}{to:TE}{t:TA}{name:Str}{apos cpos:Pos}{T id:String}{r:V->List V->Hp->VK->Prop}
theorem zj9 (hK:X.K=K)(pa:PlainAttrs T)(slot:Slot T name id)(hty:typeOf (.builtin id)=pure (.type "method_descriptor"))(hm:MtR X id r)(ho:PE X o to)(ha:PA X (e::es) t)
  (hbase:attributeBase o name X.env (eval o X.env)=eval o X.env:=by rfl)
  (hfew:((backTo cpos (starEach (e::es) X.env)).all (fun x=>!x.1)&&(backToKw cpos (keywordEach [] X.env)).all (fun x=>x.1.isSome)
   && decide ((e::es).length+([]:List Keyword).length+(if ([]:List Keyword).isEmpty then 0 else 1)<30))=true:=by rfl)
  (hline:(apos.endLine==cpos.line)=true:=by rfl)(hs:starEach (e::es) X.env=(false,eval e X.env)::starEach es X.env:=by rfl)(hplain:(backTo cpos (starEach es X.env)).any (·.1)=false:=by rfl) :
  PE X (.Call (.Attribute o name apos) (e::es) [] cpos) (tBM K T r to t):=by
 subst hK
 exact Zw pa slot hty hm ho ha hbase hfew hline hs hplain
theorem zdm (hK:X.K=K):MtR X "list.index" (zjz K):=by subst hK;exact MP
end
theorem zhX {X:Cx}{sc Zx:Scope}{x y:Str}{js:List Nat}{elt iter c:Expr}{px py pt pos:Pos}{x1:Nat}{wi:TI}{te:TE}{tt:TT}(VR:X.env.scope=Zx)(L:zj6 Zx sc x y (js.map fun j=>X.N.getD j ""))(hc:X.calm=true)(hi:PI X (.Tuple [.Name x px,.Name y py] x1 pt) iter wi)(hjs:∀j∈js,j<X.N.length)
  (ht:∀(cl:List (Str×Addr)) (C:Addr) (s₂:Shared) (H₂:Hp) (fp:List Addr),PT (X.blk sc cl C (Ml X [x,y] js) s₂ H₂ fp) c tt)
  (he:∀(cl:List (Str×Addr)) (C:Addr) (s₂:Shared) (H₂:Hp) (fp:List Addr),PE (X.blk sc cl C (Ml X [x,y] js) s₂ H₂ fp) elt te)
  (hs:∀x,foldedSetIterable iter X.env x=pure x:=by intro _;rfl) :
  PE X (.ListComp elt [⟨.Tuple [.Name x px,.Name y py] x1 pt,iter,[c],0⟩] sc pos) (zoV wi [x,y] js (zlh X.K 2 (zaV (Ri 0) (zaV (Ri 1) zlg))) tt te) :=
 znL VR L.g hc hi (fun cl C s₂ H₂ fp=>zlW (X:=X.blk sc cl C (Ml X [x,y] js) s₂ H₂ fp) hc L.nd rfl rfl (lookup_relabel_local L.hx) (lookup_relabel_local L.hy)) hjs (fun cl C s₂ H₂ fp pins s' σ' H' Q I h=>wpAny_tests_one (ht cl C s₂ H₂ fp pins s' σ' H' Q I h)) he hs
theorem zfl {K:Frag}{a:Addr}{xs:List V}{σ:St}{js:List Nat}{tt:TT}{te:TE}{H:Hp}{Qf:Addr->Hp->List V->Prop}{x y:Str}(Pv:Nat->List V->Hp->Prop)(h0:Pv 0 [] H)(hz:xs.length<=sizeLine)
  (hl:∀i ys H,i<=xs.length->Pv i ys H->vf K H a xs/\ys.length<=i)
  (hs:∀i v ys H,xs[i]?=some v->Pv i ys H->∃(p:Addr) (u w:V),v=.ref p/\vf K H p [u,w]/\tt (lcT σ js [some u,some w]) H fun b H2=>if b=true then te (lcT σ js [some u,some w]) H2 fun z H3=>Pv (i+1) (ys++[z]) H3 else Pv (i+1) ys H2)
  (mt:∀ σ H Q Q',(∀b H1,Q b H1->Q' b H1)->tt σ H Q->tt σ H Q')(me:∀ σ H Q Q',(∀v H1,Q v H1->Q' v H1)->te σ H Q->te σ H Q')
  (hd:∀ys H p,Pv xs.length ys H->H p=none->Qf p H ys) :
  ∃W:Nat->Nat->List V->Hp->Prop,(∃m,W 0 m [] H)/\∀i m zs H,W i m zs H ->
   ((Itt K a).stop i H/\∀p,H p=none->Qf p H zs) \/
   ((Itt K a).go i H/\zs.length<sizeLine/\∀v H',(Itt K a).KQ i H v H'->∀o0:List (Option V),o0.length=[x,y].length->zlh K 2 (zaV (Ri 0) (zaV (Ri 1) zlg)) v (lcT σ js o0) H' fun σ2 H1=>∃o1,σ2=lcT σ js o1/\o1.length=[x,y].length/\tt σ2 H1 fun b H2 =>
    if b=true then te σ2 H2 fun v H3=>∃m',m'<m/\W (i+1) m' (zs++[v]) H3 else ∃m',m'<m/\W (i+1) m' zs H2):=by
 refine⟨fun i m ys H=>m=xs.length-i/\i<=xs.length/\Pv i ys H,⟨xs.length,by simp,zuy _,h0⟩,?_⟩
 rintro i m ys H ⟨rfl,hi,p⟩
 obtain⟨q,hy⟩:=hl i ys H hi p
 by_cases hlt:i<xs.length
 ·refine .inr ⟨⟨xs,xs[i],q,by simp[hlt]⟩,by omega,fun v H' y o0 l0=>?_⟩
  obtain⟨e,y⟩:=y
  subst e
  obtain⟨pp,u,w,rfl,hp,ht⟩:=hs i v ys _ (y xs q) p
  have eσ:((lcT σ js o0).set 0 (some u)).set 1 (some w)=lcT σ js [some u,some w]:=by
   match o0,l0 with
   | [a0,a1],_=>rfl
  refine⟨pp,[u,w],rfl,hp,rfl,u,[w],rfl,w,[],rfl,rfl,[some u,some w],eσ,rfl,?_⟩
  rw[eσ]
  refine mt _ _ _ _ (fun b H2 h2=>?_) ht
  cases b with
  | true =>
   rw[if_pos rfl] at h2 ⊢
   exact me _ _ _ _ (fun v H3 h3=>⟨_,by omega,rfl,hlt,h3⟩) h2
  | false =>
   rw[if_neg zug] at h2 ⊢
   exact⟨_,by omega,rfl,hlt,h2⟩
 ·have e:i=xs.length:=by omega
  subst e
  exact .inl ⟨⟨xs,q,zus _⟩,fun r hr=>hd _ _ r p hr⟩
end L2
namespace Xv
open PySem L2 vp
def zbl:List Nat->(Nat->Bool)->Nat->Bool
 | [],f=>f
 | p::ps,f=>zbl ps fun c=>f c||f (zU c p (!c.testBit p))
theorem zdn (p:Nat):∀(ps:List Nat) (f:Nat->Bool),zbl (ps++[p]) f=fun c=>zbl ps f c||zbl ps f (zU c p (!c.testBit p))
 | [],_=>rfl
 | q::ps,f=>by show zbl (ps++[p]) _=_;rw[zdn p ps];rfl
def zbm:List (Nat×Nat)->(Nat->Bool)->Nat->Bool
 | [],f=>f
 | pq::r,f=>zbm r fun c=>if c.testBit pq.2 then f (zU c pq.1 true) else f (zU c pq.1 false)
theorem zdo (pq:Nat×Nat):∀(r:List (Nat×Nat)) (f:Nat->Bool),zbm (r++[pq]) f=fun c=>if c.testBit pq.2 then zbm r f (zU c pq.1 true) else zbm r f (zU c pq.1 false)
 | [],_=>rfl
 | q::r,f=>by show zbm (r++[pq]) _=_;rw[zdo pq r];rfl
def wg (ps:List Nat):List V:=ps.map fun p=>V.int (p:Nat)
def zbn (K:Frag):Sp:=fun vs H Q _=>∃(N n:Nat) (f:Nat->Bool) (l:Addr) (ps:List Nat),vs=[.int N,.ref l,.int n]/\n<=8/\z8 n N f/\zB K H l (wg ps)/\(∀p∈ps,p<n)/\∀R:Nat,z8 n R (zbl ps f)->Q (.int R) H
def zd7 (K:Frag):Sp:=fun vs H Q _=>∃(N n:Nat) (f:Nat->Bool) (l m:Addr) (ps qs:List Nat),vs=[.int N,.ref l,.ref m,.int n]/\n<=8/\z8 n N f/\zB K H l (wg ps)/\zB K H m (wg qs)/\ps.length=qs.length/\ps.length<=8/\(∀p∈ps,p<n)/\(∀p∈qs,p<n)/\∀(R:Nat) (H':Hp),Same H H'->z8 n R (zbm (ps.zip qs) f)->Q (.int R) H'
def prs:List (Str×Str):=[("a", "e"),("b", "f"),("c", "g"),("d", "h")]
def wZ (os:List Str):List Str:=(prs.filter fun p=>os.contains p.1).map (·.1)
def uL (os:List Str):List Str:=(prs.filter fun p=>os.contains p.2).map (·.2)
def zbo (C:Addr):Sp:=fun vs H Q _=>∃(b:Addr) (os:List Str) (rs:List Rm) (F:yX),vs=[.ref b]/\yh C H b os rs F/\∀(l:Addr) (H':Hp),Same H H'->H l=none->H' l=some (.lst ((wZ os).map V.str))->Q (.ref l) H'
def JT (C:Addr):Sp:=fun vs H Q _=>∃(b:Addr) (os:List Str) (rs:List Rm) (F:yX),vs=[.ref b]/\yh C H b os rs F/\∀(l:Addr) (H':Hp),Same H H'->H l=none->H' l=some (.lst ((uL os).map V.str))->Q (.ref l) H'
def Xk (C:Addr):Sp:=fun vs H Q _=>∃(b:Addr) (os:List Str) (rs:List Rm) (F:yX),vs=[.ref b]/\yh C H b os rs F/\∀(l:Addr) (H':Hp),Same H H'->H l=none->H' l=some (.lst (wg ((wZ os).map (ix os))))->Q (.ref l) H'
def Yh (C:Addr):Sp:=fun vs H Q _=>∃(b:Addr) (os:List Str) (rs:List Rm) (F:yX),vs=[.ref b]/\yh C H b os rs F/\∀(l:Addr) (H':Hp),Same H H'->H l=none->H' l=some (.lst (wg ((uL os).map (ix os))))->Q (.ref l) H'
theorem X3 {os:List Str}{x:Str}:inV (.str x) (os.map V.str)=os.contains x:=by
 unfold inV
 rw[List.any_map]
 induction os with
 | nil=>rfl
 | cons a l ih =>
  rw[List.any_cons,List.contains_cons,ih]
  show((a==x)||l.contains x)=((x==a)||l.contains x)
  rw[Bool.beq_comm]
theorem zbp {os:List Str}{x:Str}(h:x∈wZ os):x∈os:=by
 obtain⟨p,hp,e⟩:=List.mem_map.mp h
 rw[<-e]
 exact List.contains_iff_mem.mp (List.mem_filter.mp hp).2
theorem Jf {os:List Str}{x:Str}(h:x∈uL os):x∈os:=by
 obtain⟨p,hp,e⟩:=List.mem_map.mp h
 rw[<-e]
 exact List.contains_iff_mem.mp (List.mem_filter.mp hp).2
def yG (os:List Str):Prop:=∀p∈prs,os.contains p.1=os.contains p.2
theorem yG.len {os:List Str}(h:yG os):(wZ os).length=(uL os).length:=by
 unfold wZ uL
 rw[zuc,zuc,List.filter_congr fun p hp=>h p hp]
theorem RV (os:List Str):(wZ os).length<=4:=by
 show((prs.filter _).map _).length<=4
 rw[zuc]
 exact zuK _ _
def xG (os:List Str):List Nat:=(wZ os).map (ix os)
def yp (os:List Str):List Nat:=(uL os).map (ix os)
theorem X4 {os:List Str}:∀p∈xG os,p<os.length:=fun p hp=>by
 obtain⟨x,hx,e⟩:=List.mem_map.mp hp
 rw[<-e]
 exact(Ze (zbp hx)).2.1
theorem uU {os:List Str}:∀p∈yp os,p<os.length:=fun p hp=>by
 obtain⟨x,hx,e⟩:=List.mem_map.mp hp
 rw[<-e]
 exact(Ze (Jf hx)).2.1
def zcg (os:List Str)(t f:Nat->Bool):Nat->Bool:=zbm ((yp os).zip (xG os)) (zbl (xG os) fun b=>f b&&t b)
def TY (os:List Str)(t f:Nat->Bool):Nat->Bool:=zbl (yp os) fun b=>zbm ((xG os).zip (yp os)) f b&&t b
def zd8 (C:Addr):Sp:=fun vs H Q _=>∃(b:Addr) (os:List Str) (rs:List Rm) (F:yX) (k N:Nat) (f:Nat->Bool),vs=[.ref b,.int (k:Nat),.int (N:Nat)]/\yh C H b os rs F/\k<rs.length/\yG os/\z8 os.length N f/\∀(R:Nat) (H':Hp),Same H H'->z8 os.length R (zcg os (fun b=>yes rs k (uO b)) f)->Q (.int R) H'
def Lg (C:Addr):Sp:=fun vs H Q _=>∃(b:Addr) (os:List Str) (rs:List Rm) (F:yX) (k N:Nat) (f:Nat->Bool),vs=[.ref b,.int (k:Nat),.int (N:Nat)]/\yh C H b os rs F/\k<rs.length/\yG os/\z8 os.length N f/\∀(R:Nat) (H':Hp),Same H H'->z8 os.length R (TY os (fun b=>yes rs k (uO b)) f)->Q (.int R) H'
def RW (C:Addr):Sp:=fun vs H Q _=>∃(b:Addr) (os:List Str) (rs:List Rm) (F:yX),vs=[.ref b]/\yh C H b os rs F/\yG os/\∀H',Same H H'->Q .non H'
def vN (os:List Str)(rs:List Rm)(k:Nat):Prop:=k<rs.length/\∀p∈yp os,Free os.length (fun b=>yes rs k (uO b)) p
def Jg (C:Addr):Sp:=fun vs H Q _=>∃(b:Addr) (os:List Str) (rs:List Rm) (F:yX) (k:Nat),vs=[.ref b,.int (k:Nat)]/\yh C H b os rs F/\vN os rs k/\∀H',Same H H'->Q .non H'
def uP (C:Addr)(K:Frag):Sp:=fun vs H Q _=>∃(b l:Addr) (os:List Str) (rs:List Rm) (F:yX) (k:Nat) (ks:List Nat),vs=[.ref b,.int (k:Nat),.ref l]/\yh C H b os rs F/\yG os/\k<rs.length/\zB K H l (wg ks)/\(∀j∈ks,vN os rs j)/\∀H',Same H H'->Q .non H'
def zl2 (C:Addr):Sp:=fun vs H Q _=>∃(b:Addr) (os:List Str) (rs:List Rm) (F:yX) (k j:Nat),vs=[.ref b,.int (k:Nat),.int (j:Nat)]/\yh C H b os rs F/\rs.length<=8000000/\yG os/\k<rs.length/\vN os rs j/\zbk C b os H rs F (fun r=>zcg os (fun c=>yes rs k (uO c)) (fun c=>yes rs j (uO c)) (bits r os.length)) Q
def zgM (C:Addr):Sp:=fun vs H Q _=>∃(b:Addr) (os:List Str) (rs:List Rm) (F:yX) (k j:Nat),vs=[.ref b,.int (k:Nat),.int (j:Nat)]/\yh C H b os rs F/\rs.length<=8000000/\yG os/\k<rs.length/\vN os rs j/\zbk C b os H rs F (fun r=>TY os (fun c=>yes rs k (uO c)) (fun c=>yes rs j (uO c)) (bits r os.length)) Q
theorem QD {a b:Nat}(h:∀i,a.testBit i=b.testBit i):a=b:=Nat.eq_of_testBit_eq h
theorem zbq:∀(ps:List Nat) (f:Nat->Bool) (c:Nat),zbl ps f c=true↔∃d,(∀i,i∉ps->d.testBit i=c.testBit i)/\f d=true
 | [],f,c=>by
  constructor
  ·exact fun h=>⟨c,fun _ _=>rfl,h⟩
  ·rintro⟨d,h1,h2⟩
   have e:d=c:=QD fun i=>h1 i (by simp)
   rw[e] at h2
   exact h2
 | p::ps,f,c=>by
  show zbl ps _ c=true↔_
  rw[zbq ps]
  constructor
  ·rintro⟨d,h1,h2⟩
   rcases (Bool.or_eq_true _ _).mp h2 with z | z
   ·exact⟨d,fun i hi=>h1 i (fun y=>hi (zun _ y)),z⟩
   ·refine⟨_,fun i hi=>?_,z⟩
    rw[zY,if_neg (fun y=>hi (by rw[y];exact zuv))]
    exact h1 i (fun y=>hi (zun _ y))
  ·rintro⟨d,h1,h2⟩
   refine⟨zU d p (c.testBit p),fun i hi=>?_,?_⟩
   ·rw[zY]
    by_cases e:i=p
    ·rw[if_pos e,e]
    ·rw[if_neg e]
     exact h1 i (fun y=>(List.mem_cons.mp y).elim e hi)
   ·refine(Bool.or_eq_true _ _).mpr ?_
    by_cases e:c.testBit p=d.testBit p
    ·left
     rw[e,wX]
     exact h2
    ·right
     have e':zU (zU d p (c.testBit p)) p (!(zU d p (c.testBit p)).testBit p)=d:=QD fun i=>by
      rw[zY,zY,zY]
      by_cases y:i=p
      ·rw[if_pos y,if_pos rfl,y]
       cases hc:c.testBit p<;>cases hd:d.testBit p<;>rw[hc,hd] at e<;>first | rfl | exact absurd rfl e
      ·rw[if_neg y,if_neg y]
     rw[e']
     exact h2
def mv:List (Nat×Nat)->Nat->Nat
 | [],c=>c
 | pq::r,c=>zU (mv r c) pq.1 ((mv r c).testBit pq.2)
theorem Lh:∀(r:List (Nat×Nat)) (f:Nat->Bool) (c:Nat),zbm r f c=f (mv r c)
 | [],_,_=>rfl
 | pq::r,f,c=>by
  show zbm r _ c=_
  rw[Lh r]
  show(if (mv r c).testBit pq.2=true then _ else _)=f (zU (mv r c) pq.1 ((mv r c).testBit pq.2))
  cases (mv r c).testBit pq.2<;>simp
theorem zbr:∀(r:List (Nat×Nat)) (c:Nat),(r.map (·.1)).Nodup->(∀x∈r,∀y∈r,x.2≠y.1)->(∀x∈r,(mv r c).testBit x.1=c.testBit x.2)/\∀i,i∉r.map (·.1)->(mv r c).testBit i=c.testBit i
 | [],c,_,_=>⟨fun x hx=>by simp at hx,fun _ _=>rfl⟩
 | pq::r,c,nd,dj=>by
  rw[zuA,List.nodup_cons] at nd
  obtain⟨h1,h2⟩:=zbr r c nd.2 fun x hx y hy=>dj x (zun _ hx) y (zun _ hy)
  have e2:(mv r c).testBit pq.2=c.testBit pq.2:=h2 _ fun h=>by
   obtain⟨y,hy,e⟩:=List.mem_map.mp h
   exact dj pq zuv y (zun _ hy) e.symm
  constructor
  ·intro x hx
   show(zU (mv r c) pq.1 ((mv r c).testBit pq.2)).testBit x.1=_
   rw[zY]
   rcases List.mem_cons.mp hx with z | z
   ·rw[z,if_pos rfl,e2]
   ·rw[if_neg (fun y=>nd.1 (by rw[<-y];exact List.mem_map.mpr ⟨x,z,rfl⟩))]
    exact h1 x z
  ·intro i hi
   show(zU (mv r c) pq.1 ((mv r c).testBit pq.2)).testBit i=_
   rw[zY,if_neg (fun y=>hi (by rw[zuA,y];exact zuv))]
   exact h2 i fun y=>hi (by rw[zuA];exact zun _ y)
noncomputable def outF (F:yX) (H:Hp):Hp:=fun x=>open Classical in if F x then none else H x
theorem ziD (F:yX)(H:Hp):Same (outF F H) H:=fun x o e=>by
 unfold outF at e
 by_cases h:F x
 ·rw[if_pos h] at e;cases e
 ·rw[if_neg h] at e;exact e
theorem zfm {F:yX}{H:Hp}{x:Addr}(h:¬F x):outF F H x=H x:=by unfold outF;rw[if_neg h]
theorem zl3 {F:yX}{H:Hp}{x:Addr}(h:F x):outF F H x=none:=by unfold outF;rw[if_pos h]
end Xv
namespace L2
open PySem PySem.Spec PyProof.Rows PySem.W
theorem zka {X:Cx}{c:Expr}{t:TT}{pins:List (Addr×Obj)}{s:Shared}{σ:St}{H:Hp}{Q:Bool->Hp->Prop}(I:Inv X pins σ H s)(h:t σ H Q)(hp:PT X c t):wpAny (model X.prog X.w) X.A (YM [c] X.env) (TP X pins σ Q) X.xe s:=wpAny_tests_one (hp pins s σ H Q I h)
end L2
namespace L2
open PySem PySem.Spec PyProof.Rows
theorem zkb {α β:Type}{R:α->β->Prop}:∀{xs:List α} {ys:List β},xs.length=ys.length->(∀(j:Nat) x y,xs[j]?=some x->ys[j]?=some y->R x y)->Paired R xs ys
 | [],[],_,_=>.nil
 | [],_::_,e,_=>by cases e
 | _::_,[],e,_=>by cases e
 | x::xs,y::ys,e,h=>.cons (h 0 x y rfl rfl) (zkb (Nat.succ.inj e) fun j a b h1 h2=>h (j+1) a b h1 h2)
def Jh (h:Heap)(e:Addr)(cls:Value):Prop:=∃oe vs,h.get? e=some oe/\oe.cls=cls/\oe.dict=none/\oe.data=.fields vs/\vs[2]?=some .none/\(vs[1]?=some .none\/∃T oT ts,vs[1]?=some (.ref T)/\T≠e/\h.get? T=some oT/\oT.data=.fields ts/\ts[3]?=some .none)
structure zhY (l:List Env)(e:Addr)(cls:Value)(h h':Heap):Prop where
 keep:∀b o,h.get? b=some o->b∉frs l->b≠e->h'.get? b=some o
 slot:∀b o,h.get? b=some o->b∈frs l->b≠e->∃sl,h'.get? b=some { o with slots:=sl }
 exc:Jh h' e cls
section
variable {M:Model}{A:Around}{E:Value->Shared->Prop}{s:Shared}
theorem zbs (f:Array Value->Array Value)(o:Obj):(Obj.mapFields f o).dict=o.dict:=by
 obtain⟨c,dd,dt,sl⟩:=o
 cases dt<;>rfl
theorem zdp {base:Heap}{env:Env}{outer:List Env}{L e:Addr}{oe:Obj}{vs:Array Value}{head:Value}{hadNext:Bool}{Q:Unit->Shared->Prop}(hfr:A.frames=some (env::outer))(hl:s.heap.FunFrames base (env::outer))(hf:env.frame=some L)
  (he:s.heap.get? e=some oe)(hdn:oe.dict=none)(hd:oe.data=.fields vs)(h2:vs[2]?=some .none)(sz:1<vs.size)(h:∀h',zhY (env::outer) e oe.cls s.heap h'->Q () { s with heap:=h' }) :
  wpAny M A (do let a <-frameOf env;let pl <-entryPlaceOf L hadNext;let b <-EntryCells.newEntry head a .none (rawInt L) .none pl;setField (.ref e) 1 b) (fun _ s'=>wpAny M A (setFlight (.ref e) none) Q E s') E s:=by
 have ne:e∉frs (env::outer):=fun hm=>by
  obtain⟨_,o,ho,hnf⟩:=hl.mem hm
  rw[he] at ho;injection ho with ho;subst ho;exact hnf vs hd
 refine wpAny_bind (wpAny_frameOf_fun hfr hl hf fun h1 hs1=>wpAny_bind (wpAny_entryPlaceOf fun pl hpl=>?_))
 unfold EntryCells.newEntry newFields;refine wpAny_bind (wpAny_newObj_type ?_ (hpl.sizeOk5 _ _ _ _ _))
 have he1:h1.get? e=some oe:=(hs1.2.1 e ne).trans he
 have he2:=zui (h:=h1) { cls:=.type "traceback", dict:=none,data:=.fields ([head,.ref L,.none,rawInt L,.none]++(if pl.isEmpty then List.replicate 6 Value.none else pl)).toArray } he1
 refine wpAny_setField he2 hd sz ?_
 have nT:h1.objs.size≠e:=Nat.ne_of_gt (zuj he1)
 have hd3:=Obj.data_mapFields hd (·.setIfInBounds 1 (Value.ref h1.objs.size))
 have he3:=Heap.get?_update_self (Obj.mapFields (·.setIfInBounds 1 (Value.ref h1.objs.size))) he2 (Obj.isFreed_of_fields hd3)
 have hT3:=(Heap.get?_update_other (h1.push { cls:=.type "traceback", dict:=none,data:=.fields ([head,.ref L,.none,rawInt L,.none]++(if pl.isEmpty then List.replicate 6 Value.none else pl)).toArray }) (Obj.mapFields (·.setIfInBounds 1 (Value.ref h1.objs.size))) (Ne.symm nT)).trans (zuw h1 rfl)
 unfold setFlight;refine wpAny_bind (wpAny_field he3 hd3 (x:=.ref h1.objs.size) (by simp[sz]) ?_)
 rw[if_pos (show(Value.ref h1.objs.size != Value.none)=true from by simp)]
 refine wpAny_setField hT3 rfl (by simp only[zum,zuk,zuo,List.length_nil]<;>omega) (h _ ?_)
 have keep:∀b o,b≠e->h1.get? b=some o->(((h1.push { cls:=.type "traceback", dict:=none,data:=.fields ([head,.ref L,.none,rawInt L,.none]++(if pl.isEmpty then List.replicate 6 Value.none else pl)).toArray }).update e (Obj.mapFields (·.setIfInBounds 1 (Value.ref h1.objs.size)))).update h1.objs.size (Obj.mapFields (·.setIfInBounds 3 ((none:Option Addr).elim Value.none fun f=>rawInt f)))).get? b=some o:=fun b o hbe hb=>by
  have hbT:h1.objs.size≠b:=Nat.ne_of_gt (zuj hb)
  rw[Heap.get?_update_other _ _ hbT,Heap.get?_update_other _ _ (Ne.symm hbe)];exact zui _ hb
 refine⟨fun b o hb hnf hbe=>keep b o hbe ((hs1.2.1 b hnf).trans hb),fun b o hb _ hbe=>?_,?_⟩
 ·obtain⟨sl,hs⟩:=hs1.2.2 b o hb
  exact⟨sl,keep b _ hbe hs⟩
 ·refine⟨_,_,?_,Obj.cls_mapFields _ _,(by rw[zbs];exact hdn),hd3,(by rw[Array.getElem?_setIfInBounds_ne (by decide)];exact h2),.inr ⟨h1.objs.size,_,_,by simp[sz],nT,Heap.get?_update_self _ hT3 (Obj.isFreed_of_fields (Obj.data_mapFields rfl _)),Obj.data_mapFields rfl _,by first | (simp;done) | (rcases hpl with rfl | ⟨_,_,_,_,_,_,_,rfl⟩<;>simp)⟩⟩
  rw[Heap.get?_update_other _ _ nT];exact he3
theorem zkc {base:Heap}{env:Env}{outer:List Env}{L e:Addr}{cls:Value}{Q:Unit->Shared->Prop}(hfr:A.frames=some (env::outer))(hl:s.heap.FunFrames base (env::outer))(hf:env.frame=some L)(hx:Jh s.heap e cls)
  (h:∀h',zhY (env::outer) e cls s.heap h'->Q () { s with heap:=h' }):wpAny M A (noteFrame (.ref e) env) (fun _ s1=>wpAny M A (setFlight (.ref e) none) Q E s1) E s:=by
 obtain⟨oe,vs,he,rfl,hdn,hd,h2,h1 | ⟨T,oT,ts,h1,nT,hT,hdT,h3⟩⟩:=hx
 ·unfold noteFrame
  simp only[hf];refine wpAny_bind (wpAny_field he hd h1 ?_)
  rw[if_neg (by decide)]
  exact zdp hfr hl hf he hdn hd h2 (Array.getElem?_eq_some_iff.mp h1).1 h
 ·unfold noteFrame
  simp only[hf];refine wpAny_bind (wpAny_field he hd h1 ?_)
  rw[if_pos (show(Value.ref T != Value.none)=true from by simp)];refine wpAny_bind (wpAny_field hT hdT h3 ?_)
  rw[if_neg (show ¬((Value.none==rawInt L)=true) from by simp[rawInt])];refine wpAny_bind (wpAny_setField hT hdT (Array.getElem?_eq_some_iff.mp h3).1 ?_)
  have same:∀b,(s.heap.update T (Obj.mapFields (·.setIfInBounds 3 Value.none))).get? b=s.heap.get? b:=fun b=>by
   by_cases z:b=T
   ·subst z
    rw[Heap.get?_update_self _ hT (Obj.isFreed_of_fields (Obj.data_mapFields hdT _)),hT]
    have et:ts.setIfInBounds 3 Value.none=ts:=by
     obtain⟨q1,q2⟩:=Array.getElem?_eq_some_iff.mp h3
     rw[Array.setIfInBounds,dif_pos q1]
     rw[<-q2]
     exact Array.set_getElem_self ..
    obtain⟨c,dd,dt,sl⟩:=oT
    cases hdT
    show some _=some _
    refine congrArg some ?_
    show Obj.mapFields _ _=_
    simp only[Obj.mapFields,et]
   ·exact Heap.get?_update_other _ _ (Ne.symm z)
  refine zdp (base:=base) (s:={ s with heap:=s.heap.update T (Obj.mapFields (·.setIfInBounds 3 Value.none)) }) hfr (hl.of_keeps fun b o hb hnf=>⟨o,(same b).trans hb,rfl⟩) hf ((same e).trans he) hdn hd h2 (Array.getElem?_eq_some_iff.mp h1).1 fun h' x=>h h' ⟨fun b o hb=>x.keep b o ((same b).trans hb),fun b o hb=>x.slot b o ((same b).trans hb),x.exc⟩
theorem zl4 {base:Heap}{env:Env}{outer:List Env}{L e:Addr}{cls:Value}{Q:Unit->Shared->Prop}(hfr:A.frames=some (env::outer))(hl:s.heap.FunFrames base (env::outer))(hf:env.frame=some L)(hx:Jh s.heap e cls)
  (h:∀h',zhY (env::outer) e cls s.heap h'->Q () { s with heap:=h' }):wpAny M A (leaving env (.ref e)) Q E s:=by
 unfold leaving
 exact wpAny_bind (zkc hfr hl hf hx h)
theorem znN {e:Addr}{cls:Value}{Q:Unit->Shared->Prop}(hx:Jh s.heap e cls)(h:∀h',(∀b,h'.get? b=s.heap.get? b)->Q () { s with heap:=h' }):wpAny M A (setFlight (.ref e) none) Q E s:=by
 obtain⟨oe,vs,he,rfl,hdn,hd,h2,h1 | ⟨T,oT,ts,h1,nT,hT,hdT,h3⟩⟩:=hx
 ·unfold setFlight
  refine wpAny_bind (wpAny_field he hd h1 ?_)
  rw[if_neg (by decide)]
  exact wpAny_pure (h s.heap fun _=>rfl)
 ·unfold setFlight
  refine wpAny_bind (wpAny_field he hd h1 ?_)
  rw[if_pos (show(Value.ref T != Value.none)=true from by simp)]
  refine wpAny_setField hT hdT (Array.getElem?_eq_some_iff.mp h3).1 (h _ fun b=>?_)
  by_cases z:b=T
  ·subst z
   rw[Heap.get?_update_self _ hT (Obj.isFreed_of_fields (Obj.data_mapFields hdT _)),hT]
   have et:ts.setIfInBounds 3 Value.none=ts:=by
    obtain⟨q1,q2⟩:=Array.getElem?_eq_some_iff.mp h3
    rw[Array.setIfInBounds,dif_pos q1]
    rw[<-q2]
    exact Array.set_getElem_self ..
   obtain⟨c,dd,dt,sl⟩:=oT
   cases hdT
   refine congrArg some ?_
   show Obj.mapFields _ _=_
   simp only[Obj.mapFields,Option.elim,et]
  ·exact Heap.get?_update_other _ _ (Ne.symm z)
theorem Jh.same {h h':Heap}{e:Addr}{cls:Value}(x:Jh h e cls)(k:∀b,h'.get? b=h.get? b):Jh h' e cls:=by
 obtain⟨oe,vs,he,hc,hdn,hd,h2,h1 | ⟨T,oT,ts,h1,nT,hT,hdT,h3⟩⟩:=x
 ·exact⟨oe,vs,(k e).trans he,hc,hdn,hd,h2,.inl h1⟩
 ·exact⟨oe,vs,(k e).trans he,hc,hdn,hd,h2,.inr ⟨T,oT,ts,h1,nT,(k T).trans hT,hdT,h3⟩⟩
end
theorem Inv.fresh0 {X:Cx}{pins:List (Addr×Obj)}{σ:St}{H:Hp}{s:Shared}{a:Addr}(I:Inv X pins σ H s)(hex:X.ex=[])(hn:s.heap.get? a=none):X.s₀.heap.get? a=none:=by
 cases q:X.s₀.heap.get? a with
 | none=>rfl
 | some o =>
  obtain⟨o',e⟩:=I.base.there a o q (by rw[hex];simp)
  rw[hn] at e;cases e
def ZK (P:Program)(w:World):CXT:=fun outer H s E e s'=>∃(a:Addr) (cls:Value) (H':Hp),e=.ref a/\s'.os=s.os/\AllBare s'.gens/\Un (frs outer) [] H H' s.heap s'.heap/\Rh P w H' s'.heap/\s.heap.get? a=none/\H' a=none/\Jh s'.heap a cls/\E cls none H'
section
variable {P:Program}{w:World}{K:Frag}{mg:Str->Option Value}{base:Heap}{N:List Str}{qual:Str}{scope:Scope}{f:Addr}{cd:Value}{A:Around}{outer:List Env}{s0:Shared}{H0:Hp}{E:XK}
theorem zmV {pins:List (Addr×Obj)}{σ:St}{H:Hp}{s:Shared}{a:Addr}{cls:Value}(I:Inv (K4 (ZK P w) P w K mg base N qual scope f cd A outer s0 H0 E) pins σ H s)(hx:Jh s.heap a cls)(ha:s0.heap.get? a=none)(hn:H a=none)(hE:E cls none H) :
  (K4 (ZK P w) P w K mg base N qual scope f cd A outer s0 H0 E).xe (.ref a) s:=by
 show wpAny (model P w) (A.deeper (envOfC qual scope s0.heap.objs.size f cd)) (leaving (envOfC qual scope s0.heap.objs.size f cd) (.ref a)) _ _ s
 refine zl4 (base:=base) (outer:=outer) (L:=s0.heap.objs.size) I.ok.frames I.stack rfl hx fun h' lf=>?_
 have fr:∀b,b∈frs (envOfC qual scope s0.heap.objs.size f cd::outer)->b=s0.heap.objs.size\/b∈frs outer:=fun b hb=>List.mem_cons.mp hb
 have nfr:∀b,b<s0.heap.objs.size->b∉frs outer->b∉frs (envOfC qual scope s0.heap.objs.size f cd::outer):=fun b hb hn z=>(fr b z).elim (zur hb) hn
 have trk:∀b u,H b=some u->b∉frs (envOfC qual scope s0.heap.objs.size f cd::outer)/\b≠a:=fun b u e=>⟨(fun z=>by rw[I.zaz b z] at e;cases e),(fun z=>by rw[z,hn] at e;cases e)⟩
 refine⟨a,cls,H,rfl,I.os,I.bare,⟨fun b o q n hb hx=>?_,fun b o q n hb hx=>?_,I.base.free,fun b o q hx=>?_,I.base.tups,I.base.Mp,I.base.KY⟩,fun b u e=>?_,ha,hn,lf.exc,hE⟩
 ·exact lf.keep b o (I.base.keep b o q n hb hx) (nfr b (zuj q) hb) (fun z=>by rw[z,ha] at q;cases q)
 ·obtain⟨sl,e1⟩:=I.base.slot b o q n hb hx
  obtain⟨sl2,e2⟩:=lf.slot b _ e1 (zun _ hb) (fun z=>by rw[z,ha] at q;cases q)
  exact⟨sl2,e2⟩
 ·obtain⟨o',e1⟩:=I.base.there b o q hx
  have ne:b≠a:=fun z=>by rw[z,ha] at q;cases q
  by_cases z:b∈frs (envOfC qual scope s0.heap.objs.size f cd::outer)
  ·obtain⟨sl,e2⟩:=lf.slot b o' e1 z ne
   exact⟨_,e2⟩
  ·exact⟨_,lf.keep b o' e1 z ne⟩
 ·refine(I.hok b u e).stay (fun c v hc q=>?_) (fun c q=>q) fun c xs q=>q
  rcases hc with rfl | hc
  ·exact lf.keep _ v q (trk _ u e).1 (trk _ u e).2
  ·exact lf.keep _ v q (trk _ _ hc).1 (trk _ _ hc).2
theorem uM:Passes (ZK P w) (K4 (ZK P w) P w K mg base N qual scope f cd A outer s0 H0 E) E:=by
 intro pins σ H s e s' I h
 obtain⟨a,cls,H',rfl,os,bare,un,hok,ha,hn,hx,hE⟩:=h
 have I':=I.call' (s':=s') (ch:=[]) os un hok bare (fun b z=>absurd z (by simp))
 exact zmV I' hx (I.fresh0 rfl ha) hn hE
end
theorem zy.lift {P:Program}{w:World}{K:Frag}{mg:Str->Option Value}{base:Heap}{CX:CXT}{k:Nat}{f:Addr}{fd:FuncData}{ps:List Str}{sp:Sp}(F:zy P w K mg base yq k f fd ps sp):zy P w K mg base CX k f fd ps sp :=
 ⟨F.len,fun A outer s H args us vs Q E hr e0 hb r h=>codeAny_mono (F.run A outer s H args us vs Q E hr e0 hb r h) fun r s' hq=>by
  cases r with
  | error e=>exact hq.elim
  | ok fl =>
   cases fl with
   | ret u=>exact hq
   | next=>exact hq
   | brk=>exact hq
   | cont=>exact hq⟩
theorem zy.orE {P:Program}{w:World}{K:Frag}{mg:Str->Option Value}{base:Heap}{CX:CXT}{k:Nat}{f:Addr}{fd:FuncData}{ps:List Str}{sp sp':Sp}(F:zy P w K mg base CX k f fd ps sp)(G:zy P w K mg base CX k f fd ps sp'):zy P w K mg base CX k f fd ps (fun vs H Q E=>sp vs H Q E\/sp' vs H Q E) :=
 ⟨fun vs H Q E h=>h.elim (F.len vs H Q E) (G.len vs H Q E),fun A outer s H args us vs Q E hr e0 hb r h=>h.elim (F.run A outer s H args us vs Q E hr e0 hb r) (G.run A outer s H args us vs Q E hr e0 hb r)⟩
section
variable {P:Program}{w:World}{K:Frag}{mg:Str->Option Value}{base:Heap}
theorem Fun.okE {x qual:Str}{st:Stmt}{f:Addr}{fd:FuncData}{N ps:List Str}{k:Nat}{sp:Sp}(F:Fun K x qual st f fd)(S:zK N ps (zx st))(len:∀vs H Q E,sp vs H Q E->vs.length=ps.length)
  (hbody:∀(cdv:Value) (A:Around) (outer:List Env) (s:Shared) (H:Hp) (vs:List V) (Q:VK) (E:XK),tE k (A.deeper (envOfC qual (zx st) s.heap.objs.size f cdv))->sp vs H Q E ->
   ∃t,PSs (K4 (ZK P w) P w K mg base N qual (zx st) f cdv A outer s H E) (uh st) t/\t { nx:=fun _ H'=>Q .non H',rt:=Q } (start N vs) H):zy P w K mg base (ZK P w) (k+1) f fd ps sp:=by
 obtain⟨oc,od,kV,doc,pm,an,cdv,ct,osl,rfl,lk,hcd⟩:=F.ex
 exact zmM lk hcd S len fun A outer s H vs Q E hr hsp=>hbody cdv A outer s H vs Q E hr hsp
end
section
variable {X:Cx}
def zq5:V->Option Int->Option Int->Hp->VK->Prop:=fun x lo hi H Q=>∃z:Str,x=.str z/\z.length<=sizeLine/\Q (.str (Txt.slice z lo hi)) H
theorem znP:SlR X zq5:=by
 intro pins s σ H x v vl vu lo hi sl Q I rx hs pl pu h
 obtain⟨z,rfl,hz,q⟩:=h
 obtain⟨t,rfl⟩:=rx
 refine⟨"str", _,PySem.F.slot_str_getitem.lookup,typeIs_str _ _ _,?_⟩
 have fin:∀(t':Tok) (k:Nat),EP X pins σ Q (.str (Txt.slice z lo hi) t') { s with toks:=k }:=fun t' k=>⟨.str (Txt.slice z lo hi),H,I.tok _,⟨t',rfl⟩,q⟩
 cases pl with
 | none=>cases pu with
  | none=>exact wpAny_getItem_str_slice (l:=none) (u:=none) (st:=none) hs rfl (post_val_or_str ⟨zux (Txt.slice_le z _ _) hz,fin⟩)
  | int j uj=>exact wpAny_getItem_str_slice (l:=none) (u:=some (j,uj)) (st:=none) hs rfl (post_val_or_str ⟨zux (Txt.slice_le z _ _) hz,fin⟩)
 | int i ui=>cases pu with
  | none=>exact wpAny_getItem_str_slice (l:=some (i,ui)) (u:=none) (st:=none) hs rfl (post_val_or_str ⟨zux (Txt.slice_le z _ _) hz,fin⟩)
  | int j uj=>exact wpAny_getItem_str_slice (l:=some (i,ui)) (u:=some (j,uj)) (st:=none) hs rfl (post_val_or_str ⟨zux (Txt.slice_le z _ _) hz,fin⟩)
def zl5:V->List V->Hp->VK->Prop:=fun x vs H Q=>∃(y z:Str) (i:Nat) (rest:List Nat),x=.str y/\vs=[.str z]/\Builtin.Str.occurrences y z 0 y.length 1=i::rest/\Q (.int (i:Nat)) H
theorem ziF:MtM X "str.index" zl5:=by
 intro pins s σ H x vs v us Q I rx rv h
 obtain⟨y,z,i,rest,rfl,rfl,ho,q⟩:=h
 obtain⟨t,rfl⟩:=rx
 obtain⟨u,rfl,ru⟩:=rv.one
 obtain⟨t',rfl⟩:=ru
 exact SC.index ho ⟨.int (i:Nat),H,I.tok _,⟨_,rfl⟩,q⟩
end
section
variable {x:Str}{σ:St}{js:List Nat}{tt:TT}{te:TE}{H:Hp}{Qf:Addr->Hp->List V->Prop}
theorem zl6 (Pv:Nat->List V->Hp->Prop)(h0:Pv 0 [] H)(hz:x.cps.size<=sizeLine)(hl:∀i ys H,Pv i ys H->ys.length<=i)
  (hs:∀(i:Nat) c ys H',x.cps[i]?=some c->Pv i ys H'->tt (Xu σ js (some (.str ⟨#[c]⟩))) H' fun b H2=>if b=true then te (Xu σ js (some (.str ⟨#[c]⟩))) H2 fun v H3=>Pv (i+1) (ys++[v]) H3 else Pv (i+1) ys H2)
  (mt:∀ σ H Q Q',(∀b H1,Q b H1->Q' b H1)->tt σ H Q->tt σ H Q')(me:∀ σ H Q Q',(∀v H1,Q v H1->Q' v H1)->te σ H Q->te σ H Q')
  (hd:∀ys H' p,Pv x.cps.size ys H'->H' p=none->Qf p H' ys) :
  ∃W:Nat->Nat->List V->Hp->Prop,(∃m,W 0 m [] H)/\∀i m ys H,W i m ys H ->
   ((Its x).stop i H/\∀p,H p=none->Qf p H ys) \/
   ((Its x).go i H/\ys.length<sizeLine/\∀v H',(Its x).KQ i H v H'->tt (Xu σ js (some v)) H' fun b H2 =>
    if b=true then te (Xu σ js (some v)) H2 fun v H3=>∃m',m'<m/\W (i+1) m' (ys++[v]) H3 else ∃m',m'<m/\W (i+1) m' ys H2):=by
 refine⟨fun i m ys H'=>m=x.cps.size-i/\i<=x.cps.size/\Pv i ys H',⟨_,rfl,zuy _,h0⟩,?_⟩
 rintro i m ys H1 ⟨rfl,hi,hp⟩
 by_cases hlt:i<x.cps.size
 ·have:=hl _ _ _ hp
  refine .inr ⟨hlt,by omega,fun v H' y=>?_⟩
  obtain⟨rfl,c,hc,rfl⟩:=y
  refine mt _ _ _ _ (fun b H2 h2=>?_) (hs i c ys _ hc hp)
  cases b with
  | true =>
   rw[if_pos rfl] at h2 ⊢
   exact me _ _ _ _ (fun v H3 h3=>⟨_,by omega,rfl,hlt,h3⟩) h2
  | false =>
   rw[if_neg zug] at h2 ⊢
   exact⟨_,by omega,rfl,hlt,h2⟩
 ·have e:i=x.cps.size:=by omega
  subst e
  exact .inl ⟨rfl,fun p h=>hd ys H1 p hp h⟩
end
end L2
namespace Xv
open PySem L2 vp
def sg (c:Nat):Str:=⟨#[c]⟩
theorem zgN {a b:Nat}(h:sg a=sg b):a=b:=by
 have e:=congrArg (fun s:Str=>s.cps.toList) h
 have e:[a]=[b]:=e
 injection e
def V4 (i:Nat):Str:=sg (97+i)
def zbt (i:Nat):Str:=sg (101+i)
def nmS (is:List Nat):Str:=⟨(is.map fun i=>97+i).toArray⟩
theorem zgO {is:List Nat}{k i:Nat}(h:is[k]?=some i):atI (nmS is).cps.toList (k:Int)=some (97+i):=by
 refine XH ?_
 show((is.map fun i=>97+i).toArray.toList)[k]?=_
 rw[zue,h];rfl
theorem Li (is:List Nat):(nmS is).length=is.length:=by
 show(is.map fun i=>97+i).toArray.size=_
 rw[zum,zuc]
theorem zgP {i:Nat}(h:i<4):∃rest,Builtin.Str.occurrences (Str.ofString "abcd") (sg (97+i)) 0 (Str.ofString "abcd").length 1=i::rest:=by
 match i,h with
 | 0,_=>exact⟨[],by decide +kernel⟩
 | 1,_=>exact⟨[],by decide +kernel⟩
 | 2,_=>exact⟨[],by decide +kernel⟩
 | 3,_=>exact⟨[],by decide +kernel⟩
theorem zl7 {i:Nat}(h:i<4):atI (Str.ofString "efgh").cps.toList (i:Int)=some (101+i):=by
 match i,h with
 | 0,_=>decide +kernel
 | 1,_=>decide +kernel
 | 2,_=>decide +kernel
 | 3,_=>decide +kernel
theorem zgQ {i:Nat}(h:i<4):prs[i]?=some (V4 i,zbt i):=by
 match i,h with
 | 0,_=>decide +kernel
 | 1,_=>decide +kernel
 | 2,_=>decide +kernel
 | 3,_=>decide +kernel
theorem zd9 {p:Str×Str}(h:p∈prs):∃i,i<4/\p=(V4 i,zbt i):=by
 obtain⟨i,hi⟩:=List.getElem?_of_mem h
 have h4:i<4:=(zuf.mp hi).1
 rw[zgQ h4] at hi
 exact⟨i,h4,(zuG hi).symm⟩
theorem ziG {i:Nat}(h:i<4):V4 i∈uI:=by
 match i,h with
 | 0,_=>decide +kernel
 | 1,_=>decide +kernel
 | 2,_=>decide +kernel
 | 3,_=>decide +kernel
theorem ziH {i:Nat}(h:i<4):zbt i∈uI:=by
 match i,h with
 | 0,_=>decide +kernel
 | 1,_=>decide +kernel
 | 2,_=>decide +kernel
 | 3,_=>decide +kernel
theorem T3 {i j:Nat}(h:i<4):V4 i≠zbt j:=fun e=>by have:=zgN e;omega
def Mks (is:List Nat)(os:List Str):Prop:=os.Nodup/\∀x,x∈os↔∃i∈is,x=V4 i\/x=zbt i
theorem Mks.has {is:List Nat}{os:List Str}(h:Mks is os)(h4:∀i∈is,i<4){j:Nat}(hj:j<4):(V4 j∈os↔j∈is)/\(zbt j∈os↔j∈is):=by
 refine⟨⟨fun z=>?_,fun z=>(h.2 _).mpr ⟨j,z,.inl rfl⟩⟩,⟨fun z=>?_,fun z=>(h.2 _).mpr ⟨j,z,.inr rfl⟩⟩⟩
 ·obtain⟨i,hi,e | e⟩:=(h.2 _).mp z
  ·have:=zgN e
   have:j=i:=by omega
   rw[this];exact hi
  ·exact absurd e (T3 hj)
 ·obtain⟨i,hi,e | e⟩:=(h.2 _).mp z
  ·exact absurd e.symm (T3 (h4 i hi))
  ·have:=zgN e
   have:j=i:=by omega
   rw[this];exact hi
theorem contains_iff {os:List Str}{x:Str}:os.contains x=decide (x∈os):=List.contains_eq_mem ..
theorem Mks.world {is:List Nat}{os:List Str}(h:Mks is os)(h4:∀i∈is,i<4)(ne:is≠[]):uJ os/\yG os/\0<(wZ os).length:=by
 obtain⟨i0,hi0⟩:∃i,i∈is:=by
  match is,ne with
  | a::r,_=>exact⟨a,zuv⟩
 have m0:V4 i0∈os:=(h.2 _).mpr ⟨i0,hi0,.inl rfl⟩
 refine⟨⟨h.1,fun x hx=>?_,List.length_pos_of_mem m0⟩,fun p hp=>?_,?_⟩
 ·obtain⟨i,hi,e | e⟩:=(h.2 x).mp hx
  ·rw[e];exact ziG (h4 i hi)
  ·rw[e];exact ziH (h4 i hi)
 ·obtain⟨j,hj,rfl⟩:=zd9 hp
  obtain⟨a,b⟩:=h.has h4 hj
  rw[contains_iff,contains_iff]
  exact decide_eq_decide.mpr (a.trans b.symm)
 ·refine List.length_pos_of_mem (a:=V4 i0) ?_
  unfold wZ
  exact List.mem_map.mpr ⟨(V4 i0,zbt i0),List.mem_filter.mpr ⟨zuh (zgQ (h4 _ hi0)),by rw[contains_iff];exact decide_eq_true m0⟩,rfl⟩
theorem mem_mid {α:Type}{x y:α}{os:List α}{j:Nat}:x∈os.take j++y::os.drop j↔x=y\/x∈os:=by
 have e:List.Perm (os.take j++y::os.drop j) (y::os):=(List.perm_middle).trans (by rw[List.take_append_drop])
 rw[e.mem_iff,List.mem_cons]
theorem zdq {α:Type}{y:α}{os:List α}{j:Nat}(nd:os.Nodup)(h:y∉os):(os.take j++y::os.drop j).Nodup:=by
 refine List.perm_middle.nodup_iff.mpr (List.nodup_cons.mpr ⟨?_,?_⟩)
 ·rw[List.take_append_drop];exact h
 ·rw[List.take_append_drop];exact nd
theorem zhZ {α:Type}{y:α}{os:List α}{j:Nat}:(os.take j++y::os.drop j).length=os.length+1:=by
 rw[zuk,zuo,zuz,List.length_drop]
 omega
structure zaf (os:List Str)(H:Hp)(s:Sn)(p:Addr):Prop where
 is_:RJ H s p
 V1:s.V1 os
 ct:s.count<=200
 dp:s.depth<=24
theorem zaf.mono {os:List Str}{H H':Hp}{s:Sn}{p:Addr}(h:zaf os H s p)(t:wz H H'):zaf os H' s p:=⟨h.is_.mono t,h.V1,h.ct,h.dp⟩
theorem zl8 {os ps:List Str}(h:∀x∈os,x∈ps):∀{s:Sn},s.V1 os->s.V1 ps:=fun {s} e=>(Sn.XS s).mpr fun x hx=>h x ((Sn.XS s).mp e x hx)
section
variable (K:Frag)
def zh0:Sp:=fun vs H Q _=>∃c:Int,vs=[.int c]/\∀(l:Addr) (H':Hp) (os:List Str),Same H H'->H' l=some (.lst (os.map V.str))->uJ os->yG os->0<(wZ os).length->Q (.ref l) H'
def zgR:Sp:=fun vs H Q _=>∃(ol:Addr) (os:List Str),vs=[.ref ol]/\zB K H ol (os.map V.str)/\∀(l:Addr) (H':Hp),Same H H'->H l=none->H' l=some (.lst ((wZ os).map V.str))->Q (.ref l) H'
def zkd:Sp:=fun vs H Q _=>∃(sc:Addr) (ns:List Int),vs=[.ref sc]/\zB K H sc (ns.map V.int)/\∀(t ol p:Addr) (H':Hp) (os:List Str) (s:Sn),Same H H'->H' t=some (.tup [.ref ol,.ref p])->H' ol=some (.lst (os.map V.str))->uJ os->yG os->0<(wZ os).length->zaf os H' s p->Q (.ref t) H'
end
section
variable (os:List Str)(t:Nat->Bool)
def Vg (f:Nat->Bool):Nat->(Nat->Bool)×(Nat->Bool)
 | 0=>(f,fun _=>false)
 | i+1=>(fun b=>zcg os t (Vg f i).1 b&&!((Vg f i).2 b||(Vg f i).1 b),fun b=>(Vg f i).2 b||(Vg f i).1 b)
structure zbu (f:Nat->Bool)(Ns:List Nat):Prop where
 tab:∀(i N:Nat),Ns[i]?=some N->z8 os.length N (Vg os t f i).1/\N≠0
 fin:z8 os.length 0 (Vg os t f Ns.length).1
end
section
variable {os:List Str}{t:Nat->Bool}
theorem zdr (f:Nat->Bool)(i b:Nat)(h:(Vg os t f i).1 b=true):(Vg os t f i).2 b=false:=by
 cases i with
 | zero=>rfl
 | succ i =>
  have h:(zcg os t (Vg os t f i).1 b&&!((Vg os t f i).2 b||(Vg os t f i).1 b))=true:=h
  show((Vg os t f i).2 b||(Vg os t f i).1 b)=false
  cases e:((Vg os t f i).2 b||(Vg os t f i).1 b) with
  | false=>rfl
  | true=>rw[e,Bool.not_true,Bool.and_false] at h;cases h
theorem zaJ {α:Type}{p q:α->Bool}:∀{l:List α},(∀a,p a=true->q a=true)->(∃a∈l,q a=true/\p a=false)->(l.filter p).length<(l.filter q).length
 | [],_,h=>by obtain⟨a,ha,_⟩:=h;cases ha
 | x::l,hpq,h=>by
  have le:(l.filter p).length<=(l.filter q).length:=by
   clear h
   induction l with
   | nil=>exact zus _
   | cons y l ih =>
    rw[List.filter_cons,List.filter_cons]
    by_cases c:p y=true
    ·rw[if_pos c,if_pos (hpq y c),zuo,zuo];omega
    ·rw[if_neg c]
     split
     ·rw[zuo];omega
     ·exact ih
  rw[List.filter_cons,List.filter_cons]
  by_cases c:p x=true
  ·rw[if_pos c,if_pos (hpq x c),zuo,zuo]
   obtain⟨a,ha,h1,h2⟩:=h
   rcases List.mem_cons.mp ha with e | e
   ·rw[e,c] at h2;cases h2
   ·have:=zaJ (l:=l) hpq ⟨a,e,h1,h2⟩
    omega
  ·rw[if_neg c]
   by_cases d:q x=true
   ·rw[if_pos d,zuo];omega
   ·rw[if_neg d]
    obtain⟨a,ha,h1,h2⟩:=h
    rcases List.mem_cons.mp ha with e | e
    ·rw[e] at h1;exact absurd h1 d
    ·exact zaJ (l:=l) hpq ⟨a,e,h1,h2⟩
def zke (os:List Str)(t f:Nat->Bool)(i:Nat):Nat:=((List.range (2^os.length)).filter (Vg os t f i).2).length
theorem zh1 (f:Nat->Bool)(i:Nat):zke os t f i<=2^os.length:=zux (zuK _ _) (by rw[List.length_range];exact zus _)
theorem zl9 {f:Nat->Bool}{i N:Nat}(h:z8 os.length N (Vg os t f i).1)(ne:N≠0):zke os t f i<zke os t f (i+1):=by
 unfold zke
 refine zaJ (fun a ha=>by show((Vg os t f i).2 a||(Vg os t f i).1 a)=true;rw[ha];rfl) ?_
 have hb:∃b,N.testBit b=true:=by
  refine Classical.byContradiction fun no=>ne (Nat.eq_of_testBit_eq fun b=>?_)
  rw[Nat.zero_testBit]
  cases e:N.testBit b with
  | false=>rfl
  | true=>exact absurd ⟨b,e⟩ no
 obtain⟨b,hb⟩:=hb
 have z:=h b
 rw[hb] at z
 have z1:b<2^os.length:=by
  by_cases c:b<2^os.length
  ·exact c
  ·rw[decide_eq_false c,Bool.false_and] at z;cases z
 rw[decide_eq_true z1,Bool.true_and] at z
 refine⟨b,List.mem_range.mpr z1,?_,zdr f i b z.symm⟩
 show((Vg os t f i).2 b||(Vg os t f i).1 b)=true
 rw[<-z,Bool.or_true]
theorem zgS {n N M:Nat}{f g:Nat->Bool}(a:z8 n N f)(b:z8 n M g):z8 n (N|||M) fun c=>f c||g c:=fun c=>by
 rw[Nat.testBit_or,a c,b c]
 cases decide (c<2^n)<;>rfl
def zbv (n:Nat)(rs:List Rm)(j N:Nat):Prop:=j<rs.length/\z8 n N fun b=>yes rs j (uO b)
theorem zbv.grown {n:Nat}{rs rs':List Rm}(B:Bk n rs)(g:wU rs rs'){j N:Nat}(a:zbv n rs j N):zbv n rs' j N:=⟨zul a.1 g.len,fun b=>by rw[a.2 b];show(_&&yes rs j (uO b))=(_&&yes rs' j (uO b));rw[g.yes B a.1]⟩
theorem zbv.of {n:Nat}{rs:List Rm}{j N:Nat}{g:Nat->Bool}(m:Means rs j fun r=>g (bits r n))(h:z8 n N g):zbv n rs j N:=⟨m.1,fun b=>by
 rw[h b]
 by_cases c:b<2^n
 ·show(_&&g b)=(_&&yes rs j (uO b))
  rw[m.2]
  show(_&&g b)=(_&&g (bits (uO b) n))
  rw[Yy c]
 ·rw[decide_eq_false c];rfl⟩
theorem Lj {os:List Str}{x:Str}(h:x∈wZ os):x∈os/\∃i,i<4/\x=V4 i:=by
 refine⟨zbp h,?_⟩
 obtain⟨p,hp,rfl⟩:=List.mem_map.mp h
 obtain⟨i,hi,rfl⟩:=zd9 (List.mem_filter.mp hp).1
 exact⟨i,hi,rfl⟩
theorem Ji {os:List Str}{x:Str}(h:x∈uL os):x∈os/\∃i,i<4/\x=zbt i:=by
 refine⟨Jf h,?_⟩
 obtain⟨p,hp,rfl⟩:=List.mem_map.mp h
 obtain⟨i,hi,rfl⟩:=zd9 (List.mem_filter.mp hp).1
 exact⟨i,hi,rfl⟩
theorem ix_inj' {os:List Str}{x y:Str}(hx:x∈os)(hy:y∈os)(e:ix os x=ix os y):x=y:=(zgG hy hx).mp e
theorem zkf (os:List Str):(uL os).Nodup:=by
 unfold uL
 have e:(prs.map (·.2)).Nodup:=by decide +kernel
 exact List.Nodup.sublist (List.Sublist.map _ (List.filter_sublist)) e
theorem zfn {os:List Str}(ho:uJ os):(yp os).Nodup:=by
 unfold yp
 refine List.pairwise_map.mpr ((zkf os).imp_of_mem fun {a b} ha hb ne e=>ne ?_)
 exact ix_inj' (Ji ha).1 (Ji hb).1 e
theorem Z4 {os:List Str}(ho:uJ os){i j:Nat}(hi:i∈xG os)(hj:j∈yp os):i≠j:=fun e=>by
 obtain⟨x,hx,rfl⟩:=List.mem_map.mp hi
 obtain⟨y,hy,rfl⟩:=List.mem_map.mp hj
 obtain⟨h1,a,ha,rfl⟩:=Lj hx
 obtain⟨h2,b,hb,rfl⟩:=Ji hy
 exact T3 ha (ix_inj' h1 h2 e)
theorem zkg (ho:uJ os)(hW:yG os)(f:Nat->Bool):∀p∈yp os,Free os.length (zcg os t f) p:=by
 intro p hp b hb v
 unfold zcg
 rw[Lh,Lh]
 congr 1
 have e1:((yp os).zip (xG os)).map (·.1)=yp os:=List.map_fst_zip (by unfold yp xG;rw[zuc,zuc,hW.len];exact zus _)
 have nd:(((yp os).zip (xG os)).map (·.1)).Nodup:=by rw[e1];exact zfn ho
 have ap:∀x∈(yp os).zip (xG os),∀y∈(yp os).zip (xG os),x.2≠y.1:=fun x hx y hy=>Z4 ho (zuO hx).2 (zuO hy).1
 obtain⟨a1,a2⟩:=zbr _ (zU b p v) nd ap
 obtain⟨b1,b2⟩:=zbr _ b nd ap
 refine QD fun i=>?_
 by_cases c:i∈((yp os).zip (xG os)).map (·.1)
 ·obtain⟨x,hx,rfl⟩:=List.mem_map.mp c
  rw[a1 x hx,b1 x hx,zY,if_neg]
  exact fun e=>Z4 ho (zuO hx).2 hp e
 ·rw[a2 i c,b2 i c,zY,if_neg]
  exact fun e=>c (by rw[e1,e];exact hp)
theorem zfo (ho:uJ os)(hW:yG os){f:Nat->Bool}(hf:∀p∈yp os,Free os.length f p):∀i,∀p∈yp os,Free os.length (Vg os t f i).1 p/\Free os.length (Vg os t f i).2 p
 | 0,p,hp=>⟨hf p hp,fun _ _ _=>rfl⟩
 | i+1,p,hp=>by
  obtain⟨a,b⟩:=zfo ho hW hf i p hp
  refine⟨fun c hc v=>?_,fun c hc v=>?_⟩
  ·show(zcg os t (Vg os t f i).1 (zU c p v)&&!((Vg os t f i).2 (zU c p v)||(Vg os t f i).1 (zU c p v)))=_
   rw[zkg ho hW _ p hp c hc v,a c hc v,b c hc v]
   rfl
  ·show((Vg os t f i).2 (zU c p v)||(Vg os t f i).1 (zU c p v))=_
   rw[a c hc v,b c hc v]
   rfl
theorem zkh {rs:List Rm}{j:Nat}{g:Nat->Bool}(m:Means rs j fun r=>g (bits r os.length))(h:∀p∈yp os,Free os.length g p):vN os rs j:=⟨m.1,fun p hp b hb v=>by
 have pl:=uU p hp
 show yes rs j (uO (zU b p v))=yes rs j (uO b)
 rw[m.2,m.2]
 show g (bits (uO (zU b p v)) os.length)=g (bits (uO b) os.length)
 rw[Yy hb,Yy (xU hb pl)]
 exact h p hp b hb v⟩
theorem vN.grown {rs rs':List Rm}(B:Bk os.length rs)(g:wU rs rs'){j:Nat}(h:vN os rs j):vN os rs' j:=⟨zul h.1 g.len,fun p hp b hb v=>by
 show yes rs' j _=yes rs' j _
 rw[g.yes B h.1,g.yes B h.1];exact h.2 p hp b hb v⟩
theorem zds {rs:List Rm}(ho:uJ os){j:Nat}{s:Sn}(hs:s.V1 (wZ os))(m:Means rs j fun r=>s.val (zgK os r)):vN os rs j:=⟨m.1,fun p hp b hb v=>by
 show yes rs j _=yes rs j _
 rw[m.2,m.2]
 refine Sn.val_congr s hs fun x hx=>?_
 show uO (zU b p v) (ix os x)=uO b (ix os x)
 unfold uO
 rw[zY,if_neg]
 exact fun e=>Z4 ho (List.mem_map_of_mem hx) hp e⟩
theorem Jj {x:List Nat}{j:Nat}{v:V}(h:(wg x)[j]?=some v):∃b,x[j]?=some b/\v=.int (b:Nat):=by
 unfold wg at h
 rw[zue] at h
 cases hx:x[j]? with
 | none=>rw[hx] at h;cases h
 | some b=>rw[hx] at h;exact⟨b,rfl,(zuG h).symm⟩
theorem wJ (x:List Nat):(wg x).length=x.length:=zuc _
theorem zki {K:Frag}{H:Hp}{n:Nat}{p q:Addr}{x y:List Nat}(hp:zB K H p (wg x))(hq:zB K H q (wg y)):JQ K H (n+1) (.ref p) (.ref q) (decide (x=y)):=by
 by_cases hl:x.length=y.length
 ·have z:=JQ.ll (n:=n) (e:=fun j=>x[j]?==y[j]?) hp hq (by rw[wJ,wJ,hl]) fun j u v hu hv=>by
   obtain⟨b,hb,rfl⟩:=Jj hu
   obtain⟨c,hc,rfl⟩:=Jj hv
   rw[hb,hc]
   have:eqV (.int (b:Nat)) (.int (c:Nat))=(some b==some c):=by
    show(((b:Nat):Int)==((c:Nat):Int))=(some b==some c)
    by_cases e:b=c
    ·subst e;simp
    ·have e':¬((b:Nat):Int)=((c:Nat):Int):=by omega
     rw[beq_eq_false_iff_ne.mpr e',beq_eq_false_iff_ne.mpr (fun z=>e (zuG z))]
   rw[<-this]
   exact .flat rfl rfl
  have e:((List.range (wg x).length).all fun j=>x[j]?==y[j]?)=decide (x=y):=by
   rw[wJ]
   by_cases h:x=y
   ·subst h
    rw[decide_eq_true rfl,zuF]
    exact fun j _=>by simp
   ·rw[decide_eq_false h]
    cases hc:(List.range x.length).all fun j=>x[j]?==y[j]? with
    | false=>rfl
    | true =>
     exfalso
     refine h (List.ext_getElem? fun j=>?_)
     by_cases hj:j<x.length
     ·exact eq_of_beq (zuF.mp hc j (List.mem_range.mpr hj))
     ·rw[zuL (by omega),zuL (by omega)]
  rw[e] at z
  exact z
 ·rw[decide_eq_false fun e=>hl (by rw[e])]
  exact .ln hp hq (by rw[wJ,wJ];exact hl)
end
section
variable (C:Addr)(K:Frag)
def tB (rs:List Rm)(k:Nat):Nat->Bool:=fun b=>yes rs k (uO b)
def Zy:Sp:=fun vs H Q _=>∃(b:Addr) (os:List Str) (rs:List Rm) (F:yX) (k j:Nat),vs=[.ref b,.int (k:Nat),.int (j:Nat)]/\yh C H b os rs F/\yG os/\k<rs.length/\j<rs.length /\
 ∀(l:Addr) (H':Hp) (Ns:List Nat),Same H H'->H l=none->H' l=some (.lst (wg Ns))->zbu os (tB rs k) (tB rs j) Ns->Ns.length<=256->Q (.ref l) H'
def zkj:Sp:=fun vs H Q _=>∃(b:Addr) (os:List Str) (rs:List Rm) (F:yX) (k j:Nat),vs=[.ref b,.int (k:Nat),.int (j:Nat)]/\yh C H b os rs F/\rs.length<=6000000/\yG os/\k<rs.length/\vN os rs j /\
 ∀(l:Addr) (H':Hp) (rs':List Rm) (js Ns:List Nat),zd4 F H H'->wz H H'->yh C H' b os rs' F->wU rs rs'->JR os.length rs'<=JR os.length rs+16128->H l=none->¬F l->H' l=some (.lst (wg js))->Paired (zbv os.length rs') js Ns->(∀j∈js,vN os rs' j)->zbu os (tB rs k) (tB rs j) Ns->Ns.length<=256->Q (.ref l) H'
def Lk:Sp:=fun vs H Q _=>∃(b tl:Addr) (os:List Str) (rs:List Rm) (F:yX) (k j:Nat) (js:List Nat),vs=[.ref b,.int (k:Nat),.int (j:Nat),.ref tl]/\yh C H b os rs F/\yG os/\k<rs.length/\vN os rs j/\zB K H tl (wg js)/\(∀i∈js,vN os rs i)/\js.length<=800 /\
 ∀(H':Hp) (Ms Ns:List Nat),Same H H'->Paired (zbv os.length rs) js Ms->zbu os (tB rs k) (tB rs j) Ns->Q (.bl (decide (Ms=Ns))) H'
end
theorem Uv.rise {C:Addr}{H0:Hp}{b:Addr}{os:List Str}{m n:Nat}{H:Hp}{rs:List Rm}{F:yX}(h:Uv C H0 b os m H rs F){H':Hp}{rs':List Rm}(aw:zd4 F H H')(hB:yh C H' b os rs' F)(hh:JR os.length rs'<=JR os.length rs+n):Uv C H0 b os (m+n) H' rs' F :=
 ⟨fun x o e=>aw x o (h.same _ _ e) fun z=>(by have:=h.away x z;rw[this] at e;cases e),h.away,hB,zux hh (Nat.add_le_add_right h.hi _)⟩
end Xv
namespace PySem
namespace F
theorem zgT:typeLookup (.type "list_reverseiterator") "__len__"=pure none:=by rw[typeLookup_type,builtinLookup_eq_fast];kernel_rfl
theorem zkk:typeLookup (.type "list_reverseiterator") "__length_hint__"=pure (some (.builtin "list_reverseiterator.__length_hint__")):=by rw[typeLookup_type,builtinLookup_eq_fast];kernel_rfl
end F
end PySem
namespace L2
open PySem PySem.W PySem.Spec PyProof.Rows PySem.Calls PyProof.V
section
variable {prog:Program}{w:World}{A:Around}{E:Value->Shared->Prop}{s:Shared}{r l:Addr}{items:Array Value}
theorem zkl {Q:Bool->Shared->Prop}(hT:s.TypeIs (.ref r) "list_reverseiterator")(h:Q false s):wpAny (model prog w) A (Builtin.List.listLengthHint (.ref r)) Q E s:=by
 unfold Builtin.List.listLengthHint
 refine wpAny_bind (wpAny_specialOf hT PySem.F.zgT ?_)
 refine wpAny_ite_split (fun hab=>absurd hab (by decide)) (fun _=>?_)
 refine wpAny_ite_split (fun hab=>absurd hab (by decide)) (fun _=>?_)
 refine wpAny_bind (wpAny_specialOf hT PySem.F.zkk ?_)
 generalize hid:("list_reverseiterator.__length_hint__" : String)=id0
 wp_delta
 rw[show splitId id0=some ("list_reverseiterator", "__length_hint__") from by subst hid;decide +kernel]
 subst hid
 refine wpAny_bind (wpAny_isInstance (T := "list_reverseiterator") (b:=true) hT (by rw[isSubtype_type];kernel_rfl) ?_)
 refine wpAny_ite_split (fun hab=>absurd hab (by decide)) (fun _=>?_)
 refine wpAny_ite_split (fun _=>?_) (fun hab=>absurd (by decide +kernel) hab)
 refine wpAny_ite_split (fun hab=>absurd hab (by decide +kernel)) (fun _=>?_)
 exact wpAny_pure h
theorem zgU {R:Result->Shared->Prop}(hh:A.handled=none)(hne:l≠r)(hit:s.heap.IsRevIter r l ((items.size:Int)-1))(hl:s.heap.IsList l items)(S:Addr)(hSr:S≠r)(hSl:S≠l)(res:Value)(c₀:Nat)(hS:s.heap.get? S=some { cls:=.type "list", data:=.seq #[] c₀ })
  (hR:∀h' tk acc' c',(∀b o,b≠S->b≠r->s.heap.get? b=some o->h'.get? b=some o)->h'.get? S=some { cls:=.type "list", dict:=none,data:=.seq acc' c',slots:=#[] }->ItemsOf (fun i v=>items[items.size-1-i]?=some v) acc' items.size->R (.ok (.ret res)) { s with heap:=h',toks:=tk })(hn:items.size<=sizeLine) :
  wpAny (model prog w) A.in1 (Builtin.List.listExtendWith (.ref S) (.ref r) res)
   (fun fin s'=>match fin with | .done f=>R (.ok f) s' | .again c'=>c'.quiet=true/\codeAny (model prog w) A c' R s') (fun e s'=>R (.error e) s') s:=by
 have hSf:S∉[r,l]:=by simp only[List.mem_cons,zuC,or_false,not_or];exact⟨hSr,hSl⟩
 have W:=Walks.listRev (prog:=prog) (w:=w) (A:=A.in1) hh r l hne items
 have st0:(0<=items.size/\s.heap.IsRevIter r l ((items.size:Int)-1-((0:Nat):Int))/\s.heap.IsList l items):=⟨zuy _,by rw[show(items.size:Int)-1-((0:Nat):Int)=(items.size:Int)-1 by omega];exact hit,hl⟩
 unfold Builtin.List.listExtendWith
 refine wpAny_bind (wpAny_typeOf (T := "list_reverseiterator") hit.typeIs ?_)
 have h1:Builtin.List.listSameRef (.ref S) (.ref r)=false:=by simp[Builtin.List.listSameRef,hSr]
 have h2:(Value.type "list_reverseiterator" == Value.type "list")=false:=by decide
 have h3:(Value.type "list_reverseiterator" == Value.type "tuple")=false:=by decide
 simp only[h1,h2,h3,Bool.or_false,Bool.false_eq_true,if_false]
 refine wpAny_bind (wpAny_pyIter_revIter hit ?_)
 refine wpAny_bind (wpAny_holding (zkl hit.typeIs ?_))
 refine wpAny_ite_split (fun hab=>absurd hab zug) (fun _=>wpAny_pure ⟨plainId_quiet PySem.F.plain_extend_loop _,?_⟩)
 refine codeAny_extend_loopS W.toS hn S hSf res items.size 0 _ #[] c₀ rfl (zuy _) st0 hS (ItemsOf.nil _) fun s' acc' c' hm hS' hacc=>?_
 rw[Moved.eq_with hm]
 refine hR s'.heap s'.toks acc' c' (fun b o hb hbr e=>hm.heap b o (fun hmem=>?_) e) hS' hacc
 rcases List.mem_cons.mp hmem with e' | hmem
 ·exact hb e'
 ·exact hbr (List.mem_singleton.mp hmem)
theorem zkm {Q:Value->Shared->Prop}(hh:A.handled=none)(hne:l≠r)(hit:s.heap.IsRevIter r l ((items.size:Int)-1))(hl:s.heap.IsList l items)(hn:items.size<=sizeLine)
  (hQ:∀h' tk acc' c',(∀b o,b≠r->s.heap.get? b=some o->h'.get? b=some o)->h'.get? s.heap.objs.size=some { cls:=.type "list", dict:=none,data:=.seq acc' c',slots:=#[] }->ItemsOf (fun i v=>items[items.size-1-i]?=some v) acc' items.size->Q (.ref s.heap.objs.size) { s with heap:=h',toks:=tk }) :
  wpAny (model prog w) A (call (.type "list") [.ref r]) Q E s:=by
 refine callType_codes (Q₁:=fun obj s₁=>obj=.ref s.heap.objs.size/\s₁={ s with heap:=s.heap.push { cls:=.type "list", data:=.seq #[] } }) PySem.F.called_list (PySem.F.typeCall_list_1 _) PySem.F.entry_list_init
  (code_list_new _ ⟨rfl,rfl⟩) fun obj s₁ h₁=>?_
 obtain⟨rfl,rfl⟩:=h₁
 have hS:(s.heap.push { cls:=.type "list", data:=.seq #[] }).get? s.heap.objs.size=some { cls:=.type "list", data:=.seq #[] }:=zuw _ rfl
 obtain⟨o1,ho1,_⟩:=id hit
 obtain⟨o2,ho2,_⟩:=id hl
 have lr:r<s.heap.objs.size:=zuj ho1
 have ll:l<s.heap.objs.size:=zuj ho2
 refine⟨⟨_,hS,rfl⟩,PySem.F.args_list_init_2 _ _,?_⟩
 show wpAny _ _ (do let old <-Builtin.List.listItems (.ref s.heap.objs.size);Builtin.List.listUpdate (.ref s.heap.objs.size) (fun _=>#[]);letGo old.toList.reverse;Builtin.List.listExtendWith (.ref s.heap.objs.size) (.ref r) .none) _ _ _
 refine wpAny_bind ?_
 unfold Builtin.List.listItems
 refine wpAny_bind (wpAny_seqItems hS rfl (wpAny_pure ?_))
 show wpAny _ _ (updateSeq s.heap.objs.size (fun _=>#[])>>=fun _=>letGo (#[]:Array Value).toList.reverse>>=fun _=>Builtin.List.listExtendWith (.ref s.heap.objs.size) (.ref r) .none) _ _ _
 refine wpAny_bind (wpAny_updateSeq hS rfl ?_)
 have hS₂:=Heap.get?_update_self (Obj.mapSeq (fun _=>(#[]:Array Value))) hS rfl
 have oth:∀b o,b≠s.heap.objs.size->s.heap.get? b=some o->((s.heap.push { cls:=.type "list", data:=.seq #[] }).update s.heap.objs.size (Obj.mapSeq (fun _=>(#[]:Array Value)))).get? b=some o :=
  fun b o hb e=>(Heap.get?_update_other _ _ (Ne.symm hb)).trans (zui _ e)
 refine wpAny_bind (wpAny_letGo ?_)
 refine zgU (A:=A.in1) hh hne (hit.at fun o e=>oth r o (zur lr) e) (hl.at fun o e=>oth l o (zur ll) e) s.heap.objs.size (Nat.ne_of_gt lr) (Nat.ne_of_gt ll) .none _ hS₂ (fun h' tk acc' c' hk hS' hacc=>?_) hn
 exact⟨rfl,hQ h' tk acc' c' (fun b o hbr e=>hk b o (zur (zuj e)) hbr (oth b o (zur (zuj e)) e)) hS' hacc⟩
end
section
variable {X:Cx}
def zpm (K:Frag)(ta:TA):TE:=fun σ H Q=>ta σ H fun vs H1=>∃(a:Addr) (xs:List V),vs=[.ref a]/\zB K H1 a xs/\∀l,H1 l=none->Q (.ref l) (upd H1 l (.lst xs.reverse))
theorem zgV {e:Expr}{ta:TA}{p p2 pos pos2:Pos}(hc:X.calm=true)(hg:Gl X "list")(hm:X.mg "list"=none)(hg2:Gl X "reversed")(hm2:X.mg "reversed"=none)(ha:PA X [e] ta)
  (hs:starEach [e] X.env=[(false,eval e X.env)]:=by rfl)
  (hs2:starEach [.Call (.Name "reversed" p2) [e] [] pos2] X.env=[(false,eval (.Call (.Name "reversed" p2) [e] [] pos2) X.env)]:=by rfl) :
  PE X (.Call (.Name "list" p) [.Call (.Name "reversed" p2) [e] [] pos2] [] pos) (zpm X.K ta):=by
 intro pins s σ H Q I h
 refine wpAny_Call_Name_kw (VP I hg hm zdU ?_ (by decide) (by decide))
 refine PyProof.Rows.callWith_type1 ?_ hs2 rfl
 rw[hs2]
 show wpAny _ _ (spliced ((false,eval (.Call (.Name "reversed" p2) [e] [] pos2) X.env)::[])) _ _ s
 refine Calls.spliced_cons ?_
 refine Call_ (VP I hg2 hm2 (by rfl) (PyProof.Rows.callWith_type1 (vM (ha pos2 pins s σ H _ I h) fun us s1 ⟨vs,H1,I1,r1,q1⟩=>?_) hs rfl))
 obtain⟨a,xs,e1,hq,q⟩:=q1
 subst e1
 obtain⟨u,rfl,ru⟩:=vals1 r1
 cases ru
 obtain⟨its,rv,pl,hz⟩:=I1.list hq
 have hlen:=rv.length
 refine call_reversed_list pl.isList (Calls.spliced_nil ?_)
 obtain⟨oa,hoa,_⟩:=id pl.isList
 have la:a<s1.heap.objs.size:=zuj hoa
 have es:(s1.heap.push (revObj a ((its.toArray.size:Int)-1))).objs.size=s1.heap.objs.size+1:=Heap.size_push ..
 refine zkm (s:={ s1 with heap:=s1.heap.push (revObj a ((its.toArray.size:Int)-1)) }) (l:=a) (items:=its.toArray) (I1.ok.hd hc) (zur la) ⟨_,zuw _ rfl,rfl,rfl⟩ (pl.isList.at fun o e=>zui _ e) (by rw[zum];omega) fun h' tk acc c kp hD hacc=>?_
 have kk:∀b o,s1.heap.get? b=some o->h'.get? b=some o:=fun b o e=>kp b o (zur (zuj e)) (zui _ e)
 show EP X pins σ Q (.ref (s1.heap.push (revObj a ((its.toArray.size:Int)-1))).objs.size) { s1 with heap:=h',toks:=tk }
 rw[es] at hD ⊢
 refine⟨.ref (s1.heap.objs.size+1),_,I1.laid (t':=tk) (o:=.lst xs.reverse) kk (Nat.le_succ _) ?_,rfl,q _ (I1.hok.fresh (Nat.le_succ _))⟩
 refine⟨by rw[List.length_reverse];exact hz,acc.toList,c,?_,by simpa using hD⟩
 have hsz:acc.size=xs.length:=by rw[hacc.1,zum];omega
 refine zfd (by rw[List.length_reverse];simp;omega) fun j v hv=>?_
 have hjl:j<xs.length:=by
  have:=(zuf.mp hv).1
  rw[Array.length_toList] at this
  omega
 have hx:=hacc.2 j v (by rw[<-Array.getElem?_toList];exact hv)
 rw[zum,List.getElem?_toArray] at hx
 obtain⟨y,hy⟩:∃y,xs[xs.length-1-j]?=some y:=⟨_,zud (by omega)⟩
 obtain⟨u2,hu2,ru2⟩:=rv.get hy
 rw[<-hlen,hu2] at hx
 cases hx
 exact⟨y,by rw[List.getElem?_reverse hjl];exact hy,ru2⟩
end
end L2
namespace Xv
open PySem L2 vp
theorem znQ:∀(a b:Nat),a&&&b=0->a+b=a|||b:=by
 intro a
 induction a using Nat.strongRecOn with
 | _ a ih =>
  intro b h
  by_cases z:a=0
  ·subst z;simp
  have h2:a / 2&&&b / 2=0:=by
   have:=congrArg (· / 2) h
   simpa [Nat.and_div_two] using this
  have e:=ih (a / 2) (by omega) (b / 2) h2
  have d:(a|||b) / 2=a / 2|||b / 2:=Nat.or_div_two
  have t0:(a.testBit 0&&b.testBit 0)=false:=by
   rw[<-Nat.testBit_and,h];simp
  have t1:(a|||b).testBit 0=(a.testBit 0||b.testBit 0):=Nat.testBit_or a b 0
  rw[Nat.testBit_zero,Nat.testBit_zero] at t0
  rw[Nat.testBit_zero,Nat.testBit_zero,Nat.testBit_zero] at t1
  have t1':(a|||b)%2=1↔(a%2=1\/b%2=1):=by rw[<-Bool.decide_or] at t1;exact decide_eq_decide.mp t1
  have t0':¬(a%2=1/\b%2=1):=by rw[<-Bool.decide_and] at t0;exact of_decide_eq_false t0
  have m:(a|||b)%2=a%2+b%2:=by omega
  omega
section
variable {os:List Str}
theorem zh2 (t f:Nat->Bool)(b:Nat):zcg os t f b=true↔∃d,(∀i,i∉xG os->d.testBit i=(mv ((yp os).zip (xG os)) b).testBit i)/\f d=true/\t d=true:=by
 unfold zcg
 rw[Lh,zbq]
 simp only[zuD]
theorem QF (t f:Nat->Bool)(b:Nat):TY os t f b=true↔∃e,(∀i,i∉yp os->e.testBit i=b.testBit i)/\f (mv ((xG os).zip (yp os)) e)=true/\t e=true:=by
 unfold TY
 rw[zbq]
 simp only[zuD,Lh]
theorem QG {n b:Nat}(h:∀i,n<=i->b.testBit i=false):b<2^n:=Nat.lt_pow_two_of_testBit b h
theorem vm {n b i:Nat}(h:b<2^n)(hi:n<=i):b.testBit i=false:=Nat.testBit_lt_two_pow (zul h (zuH (by decide) hi))
theorem free_eq {n:Nat}:∀(ps:List Nat) {f:Nat->Bool},(∀p∈ps,p<n/\Free n f p)->∀{b c:Nat},b<2^n->c<2^n->(∀i,i∉ps->b.testBit i=c.testBit i)->f b=f c
 | [],f,_,b,c,_,_,h=>by rw[QD fun i=>h i (by simp)]
 | p::ps,f,hf,b,c,hb,hc,h=>by
  obtain⟨pn,fr⟩:=hf p zuv
  rw[<-fr b hb (c.testBit p)]
  refine free_eq ps (fun q hq=>hf q (zun _ hq)) (xU hb pn) hc fun i hi=>?_
  rw[zY]
  by_cases e:i=p
  ·rw[if_pos e,e]
  ·rw[if_neg e];exact h i fun y=>(List.mem_cons.mp y).elim e hi
section
variable (ho:uJ os)(hW:yG os)
include ho hW
theorem zma:(wZ os).Nodup:=by
 have e:(prs.map (·.1)).Nodup:=by decide +kernel
 exact List.Nodup.sublist (List.Sublist.map _ (List.filter_sublist)) e
theorem zmb:(xG os).Nodup:=by
 unfold xG
 refine List.pairwise_map.mpr ((zma ho hW).imp_of_mem fun {a b} ha hb ne e=>ne ?_)
 exact ix_inj' (Lj ha).1 (Lj hb).1 e
theorem mvT (b:Nat):(∀x∈(yp os).zip (xG os),(mv ((yp os).zip (xG os)) b).testBit x.1=b.testBit x.2)/\∀i,i∉yp os->(mv ((yp os).zip (xG os)) b).testBit i=b.testBit i:=by
 have e1:((yp os).zip (xG os)).map (·.1)=yp os:=List.map_fst_zip (by unfold yp xG;rw[zuc,zuc,hW.len];exact zus _)
 have z:=zbr ((yp os).zip (xG os)) b (by rw[e1];exact zfn ho) fun x hx y hy=>Z4 ho (zuO hx).2 (zuO hy).1
 rw[e1] at z
 exact z
theorem mvN (b:Nat):(∀x∈(xG os).zip (yp os),(mv ((xG os).zip (yp os)) b).testBit x.1=b.testBit x.2)/\∀i,i∉xG os->(mv ((xG os).zip (yp os)) b).testBit i=b.testBit i:=by
 have e1:((xG os).zip (yp os)).map (·.1)=xG os:=List.map_fst_zip (by unfold yp xG;rw[zuc,zuc,hW.len];exact zus _)
 have z:=zbr ((xG os).zip (yp os)) b (by rw[e1];exact zmb ho hW) fun x hx y hy=>Ne.symm (Z4 ho (zuO hy).1 (zuO hx).2)
 rw[e1] at z
 exact z
theorem zkn {i:Nat}(h:i∈yp os):∃j,(i,j)∈(yp os).zip (xG os):=by
 obtain⟨m,hm,e⟩:=List.mem_iff_getElem.mp h
 have l:m<(xG os).length:=by
  have:(xG os).length=(yp os).length:=by unfold yp xG;rw[zuc,zuc,hW.len]
  omega
 refine⟨(xG os)[m],List.mem_iff_getElem.mpr ⟨m,by rw[List.length_zip];omega,?_⟩⟩
 rw[List.getElem_zip,e]
theorem zmc {i:Nat}(h:i∈xG os):∃j,(i,j)∈(xG os).zip (yp os):=by
 obtain⟨m,hm,e⟩:=List.mem_iff_getElem.mp h
 have l:m<(yp os).length:=by
  have:(xG os).length=(yp os).length:=by unfold yp xG;rw[zuc,zuc,hW.len]
  omega
 refine⟨(yp os)[m],List.mem_iff_getElem.mpr ⟨m,by rw[List.length_zip];omega,?_⟩⟩
 rw[List.getElem_zip,e]
theorem zfp {i j:Nat}:(i,j)∈(yp os).zip (xG os)↔(j,i)∈(xG os).zip (yp os):=by
 constructor
 ·intro h
  obtain⟨m,hm,e⟩:=List.mem_iff_getElem.mp h
  rw[List.length_zip] at hm
  rw[List.getElem_zip,Prod.mk.injEq] at e
  refine List.mem_iff_getElem.mpr ⟨m,by rw[List.length_zip];omega,?_⟩
  rw[List.getElem_zip,e.1,e.2]
 ·intro h
  obtain⟨m,hm,e⟩:=List.mem_iff_getElem.mp h
  rw[List.length_zip] at hm
  rw[List.getElem_zip,Prod.mk.injEq] at e
  refine List.mem_iff_getElem.mpr ⟨m,by rw[List.length_zip];omega,?_⟩
  rw[List.getElem_zip,e.1,e.2]
theorem zqd {t f g:Nat->Bool}(hf:∀p∈yp os,Free os.length f p)(hg:∀p∈yp os,Free os.length g p):(∃b,b<2^os.length/\zcg os t f b=true/\g b=true)↔∃b,b<2^os.length/\f b=true/\TY os t g b=true:=by
 have hf':∀p∈yp os,p<os.length/\Free os.length f p:=fun p hp=>⟨uU p hp,hf p hp⟩
 have hg':∀p∈yp os,p<os.length/\Free os.length g p:=fun p hp=>⟨uU p hp,hg p hp⟩
 constructor
 ·rintro⟨b,hb,ha,gb⟩
  obtain⟨d,h1,fd,td⟩:=(zh2 _ _ _).mp ha
  obtain⟨m1,m2⟩:=mvT ho hW b
  obtain⟨k1,k2⟩:=mvN ho hW d
  have dl:d<2^os.length:=QG fun i hi=>by
   have a1:i∉xG os:=fun z=>by have:=X4 i z;omega
   have a2:i∉yp os:=fun z=>by have:=uU i z;omega
   rw[h1 i a1,m2 i a2];exact vm hb hi
  have ml:mv ((xG os).zip (yp os)) d<2^os.length:=QG fun i hi=>by
   have a1:i∉xG os:=fun z=>by have:=X4 i z;omega
   rw[k2 i a1];exact vm dl hi
  refine⟨d,dl,fd,(QF _ _ _).mpr ⟨d,fun _ _=>rfl,?_,td⟩⟩
  rw[free_eq (yp os) hg' ml hb fun i hi=>?_]
  ·exact gb
  by_cases c:i∈xG os
  ·obtain⟨j,hj⟩:=zmc ho hW c
   rw[k1 _ hj]
   have tj:=(zuO hj).2
   have nj:j∉xG os:=fun z=>Z4 ho z tj rfl
   show d.testBit j=b.testBit i
   rw[h1 j nj,m1 _ ((zfp ho hW).mpr hj)]
  ·rw[k2 i c,h1 i c,m2 i hi]
 ·rintro⟨c,hc,fc,hb⟩
  obtain⟨e,h1,ge,te⟩:=(QF _ _ _).mp hb
  obtain⟨k1,k2⟩:=mvN ho hW e
  have el:e<2^os.length:=QG fun i hi=>by
   have a2:i∉yp os:=fun z=>by have:=uU i z;omega
   rw[h1 i a2];exact vm hc hi
  have ml:mv ((xG os).zip (yp os)) e<2^os.length:=QG fun i hi=>by
   have a1:i∉xG os:=fun z=>by have:=X4 i z;omega
   rw[k2 i a1];exact vm el hi
  obtain⟨m1,m2⟩:=mvT ho hW (mv ((xG os).zip (yp os)) e)
  refine⟨_,ml,(zh2 _ _ _).mpr ⟨e,fun i hi=>?_,?_,te⟩,ge⟩
  ·by_cases z:i∈yp os
   ·obtain⟨j,hj⟩:=zkn ho hW z
    rw[m1 _ hj]
    show e.testBit i=_
    rw[k1 _ ((zfp ho hW).mp hj)]
   ·rw[m2 i z,k2 i hi]
  ·rw[free_eq (yp os) hf' el hc h1];exact fc
end
theorem zko (t f:Nat->Bool):∀p∈yp os,Free os.length (TY os t f) p:=by
 intro p hp b hb v
 have key:∀{x y:Nat},(∀i,i≠p->x.testBit i=y.testBit i)->TY os t f x=true->TY os t f y=true:=fun {x y} h e=>by
  obtain⟨z,h1,h2⟩:=(QF _ _ _).mp e
  exact(QF _ _ _).mpr ⟨z,fun i hi=>by rw[h1 i hi];exact h i fun q=>hi (by rw[q];exact hp),h2⟩
 rw[zuR]
 constructor
 ·exact key fun i hi=>by rw[zY,if_neg hi]
 ·exact key fun i hi=>by rw[zY,if_neg hi]
variable {t:Nat->Bool}
theorem zbu.told {f:Nat->Bool}{Ns:List Nat}(h:zbu os t f Ns):∀i,i<=Ns.length->z8 os.length (Ns.take i).sum (Vg os t f i).2
 | 0,_=>fun b=>by
  show Nat.testBit 0 b=(_&&false)
  rw[Nat.zero_testBit,Bool.and_false]
 | i+1,hi=>by
  have ih:=zbu.told h i (by omega)
  have e:Ns[i]?=some Ns[i]:=zud (by omega)
  obtain⟨tb,_⟩:=h.tab i _ e
  rw[List.take_succ_eq_append_getElem (by omega),List.sum_append]
  have z:(Ns.take i).sum&&&Ns[i]=0:=QD fun b=>by
   rw[Nat.testBit_and,ih b,tb b,Nat.zero_testBit]
   cases c:(Vg os t f i).1 b with
   | false=>rw[Bool.and_false,Bool.and_false]
   | true=>rw[zdr f i b c,Bool.and_false,Bool.false_and]
  rw[show [Ns[i]].sum=Ns[i] by simp,znQ _ _ z]
  exact zgS ih tb
theorem zbu.sum {f:Nat->Bool}{Ns:List Nat}(h:zbu os t f Ns):z8 os.length Ns.sum (Vg os t f Ns.length).2:=by
 have z:=h.told Ns.length (zus _)
 rwa [zuE] at z
theorem bef_mono' (ho:uJ os)(hW:yG os){f g:Nat->Bool}{b:Nat}(hb:b<2^os.length)(h:∀c,c<2^os.length->f c=true->g c=true)(e:TY os t f b=true):TY os t g b=true:=by
 obtain⟨x,h1,h2,h3⟩:=(QF _ _ _).mp e
 have xl:x<2^os.length:=QG fun i hi=>by
  have a2:i∉yp os:=fun z=>by have:=uU i z;omega
  rw[h1 i a2];exact vm hb hi
 have ml:mv ((xG os).zip (yp os)) x<2^os.length:=QG fun i hi=>by
  have a1:i∉xG os:=fun z=>by have:=X4 i z;omega
  rw[(mvN ho hW x).2 i a1];exact vm xl hi
 exact(QF _ _ _).mpr ⟨x,h1,h _ ml h2,h3⟩
theorem Ln {n N M:Nat}{f g:Nat->Bool}(a:z8 n N f)(b:z8 n M g):z8 n (N&&&M) fun c=>f c&&g c:=fun c=>by
 rw[Nat.testBit_and,a c,b c]
 cases decide (c<2^n)<;>simp
theorem zmd {n N M:Nat}{f g:Nat->Bool}(a:z8 n N f)(b:z8 n M g)(h:N≠M):∃c,c<2^n/\f c≠g c:=by
 refine Classical.byContradiction fun no=>h (zd5 a b fun c hc=>?_)
 exact Classical.byContradiction fun e=>no ⟨c,hc,e⟩
theorem znR {n N:Nat}{f g:Nat->Bool}(a:z8 n N f)(b:z8 n N g){c:Nat}(hc:c<2^n):f c=g c:=by
 have x:=a c
 rw[b c,decide_eq_true hc,Bool.true_and,Bool.true_and] at x
 exact x.symm
theorem zdu:∀Ns:List Nat,(Ns.map fun p=>((p:Nat):Int)).sum=((Ns.sum:Nat):Int)
 | []=>rfl
 | n::Ns=>by
  rw[zuA,List.sum_cons,List.sum_cons,zdu Ns]
  rfl
theorem ziI (Ns:List Nat):wg Ns=(Ns.map fun p=>((p:Nat):Int)).map V.int:=by
 unfold wg
 rw[zuN]
 rfl
end
section
variable (C:Addr)
def ziJ:Sp:=fun vs H Q _=>∃(b:Addr) (os:List Str) (rs:List Rm) (F:yX) (k j:Nat),vs=[.ref b,.int (k:Nat),.int (j:Nat)]/\yh C H b os rs F/\rs.length<=8000000/\yG os/\k<rs.length/\vN os rs j /\
 ∀Ns:List Nat,zbu os (tB rs k) (tB rs j) Ns->Ns.length<=256->zbk C b os H rs F (fun r=>(Vg os (tB rs k) (tB rs j) Ns.length).2 (bits r os.length)) Q
structure zq7 (os:List Str)(t f g:Nat->Bool):Prop where
 sub:∀b,b<2^os.length->g b=true->f b=true
 led:∀b,b<2^os.length->g b=true->TY os t g b=true
 fre:∀p∈yp os,Free os.length g p
 top:∀h:Nat->Bool,(∀b,b<2^os.length->h b=true->f b=true/\TY os t h b=true)->∀b,b<2^os.length->h b=true->g b=true
def zme:Sp:=fun vs H Q _=>∃(b:Addr) (os:List Str) (rs:List Rm) (F:yX) (k j:Nat),vs=[.ref b,.int (k:Nat),.int (j:Nat)]/\yh C H b os rs F/\rs.length<=8000000/\yG os/\k<rs.length/\vN os rs j /\
 ∀g:Nat->Bool,zq7 os (tB rs k) (tB rs j) g->zbk C b os H rs F (fun r=>g (bits r os.length)) Q
end
end Xv
namespace L2
open PySem PySem.W PySem.Spec PyProof.Rows PySem.Calls PyProof.V
def Itv (K:Frag)(a:Addr)(n:Nat):It :=
 ⟨fun i H=>i<n/\∃xs,zB K H a xs/\xs.length=n,fun i H x H'=>H'=H/\∀xs,zB K H a xs->xs[n-1-i]?=some x,fun i H=>n<=i⟩
theorem zkp {P:Program}{w:World}{K:Frag}{tg:Expr}(a it:Addr)(n:Nat):Turn P w K tg (Itv K a n) [it] it (fun i h=>i<=n/\h.IsRevIter it a ((n:Int)-1-(i:Int))) where
 mem:=by simp
 obj:=fun i h st b hb=>by
  have e:b=it:=by simpa using hb
  subst e
  obtain⟨o,e,c,d⟩:=st.2
  exact⟨o,e,fun v z=>by rw[d] at z;cases z⟩
 keep:=fun i h h' st k=>⟨st.1,st.2.at fun o e=>k it (by simp) o e⟩
 item:=by
  intro X hP hw hK hc i pins s σ H E I hf st hg
  subst hP hw hK
  obtain⟨hi,xs,hq,hn⟩:=hg
  obtain⟨its,rv,p,hz⟩:=I.list hq
  have hx:xs[n-1-i]?=some (xs[n-1-i]'(by omega)):=zud (by omega)
  obtain⟨u,hu,ru⟩:=rv.get hx
  obtain⟨f0,f1,f2,f3,f4,f5⟩:=hf it (by simp)
  have e:(n:Int)-1-(i:Int)=((n-1-i:Nat):Int):=by omega
  have st2:=st.2
  rw[e] at st2
  refine wpAny_pyNext_rev_item st2 p.isList (x:=u) (by simpa using hu) fun h' st' sb=>?_
  have I1:Inv X pins σ H { s with heap:=h' }:=I.turned (t':=s.toks) (fun b o hb e=>(sb.2 b hb).trans e) f0 f1 f3 f4 f5
  have e2:((n-1-i:Nat):Int)-1=(n:Int)-1-((i+1:Nat):Int):=by omega
  rw[e2] at st'
  obtain⟨o,e,c,d⟩:=id st'
  exact⟨u,rfl,zcR (s:={ s with heap:=h' }) e c d (by decide) ⟨_,H,I1,ru,⟨rfl,fun ys hy=>by rw[I.Wy hy hq];exact hx⟩,⟨hi,st'⟩,fun b hb=>(hf b hb).1⟩⟩
 done:=by
  intro X hP hw hK hc i pins s σ H E I hf st hg
  subst hP hw hK
  obtain⟨f0,f1,f2,f3,f4,f5⟩:=hf it (by simp)
  have hg:n<=i:=hg
  have e:(n:Int)-1-(i:Int)=-1:=by have:=st.1;omega
  have st2:=st.2
  rw[e] at st2
  exact wpAny_pyNext_rev_end (I.ok.hd hc) st2 fun h' eb=>⟨rfl,I.turned (t':=s.toks) (fun b o hb e=>eb b o hb e) f0 f1 f3 f4 f5⟩
 self:=fun _ _ _ _ _ st h=>wpAny_pyIter_revIter st.2 h
section
variable {X:Cx}{tg:Expr}
def zq8 (K:Frag)(ta:TA):TI:=fun σ H R=>ta σ H fun vs H1=>∃(a:Addr) (xs:List V),vs=[.ref a]/\zB K H1 a xs/\R (Itv K a xs.length) H1
theorem znS {e:Expr}{ta:TA}{p pos:Pos}(hg:Gl X "reversed")(hm:X.mg "reversed"=none)(ha:PA X [e] ta)(hs:starEach [e] X.env=[(false,eval e X.env)]:=by rfl):PI X tg (.Call (.Name "reversed" p) [e] [] pos) (zq8 X.K ta):=by
 intro pins s σ H R I h
 refine Call_ (VP I hg hm (by rfl) (PyProof.Rows.callWith_type1 (vM (ha pos pins s σ H _ I h) fun us s1 ⟨vs,H1,I1,r1,q1⟩=>?_) hs rfl))
 obtain⟨a,xs,e1,hq,q⟩:=q1
 subst e1
 obtain⟨u,rfl,ru⟩:=vals1 r1
 cases ru
 obtain⟨its,rv,pl,hz⟩:=I1.list hq
 have hlen:=rv.length
 refine call_reversed_list pl.isList ?_
 have hit:(s1.heap.push (revObj a ((its.toArray.size:Int)-1))).IsRevIter s1.heap.objs.size a ((its.toArray.size:Int)-1):=⟨_,zuw _ rfl,rfl,rfl⟩
 refine wpAny_pyIter_revIter (s:={ s1 with heap:=s1.heap.push (revObj a ((its.toArray.size:Int)-1)) }) hit ?_
 refine⟨s1.heap.objs.size,[s1.heap.objs.size],_,_,H1,rfl,I1.kept (t':=s1.toks) fun b o e=>zui _ e,zkp a _ xs.length,⟨zuy _,?_⟩,fun b hb=>?_,q⟩
 ·have e:((its.toArray.size:Nat):Int)-1=(xs.length:Int)-1-((0:Nat):Int):=by rw[zum];omega
  show(s1.heap.push (revObj a ((its.toArray.size:Int)-1))).IsRevIter s1.heap.objs.size a ((xs.length:Int)-1-((0:Nat):Int))
  rw[<-e]
  exact hit
 ·have e:b=s1.heap.objs.size:=by simpa using hb
  subst e
  exact I1.zgi (zus _) (I1.hok.fresh (zus _))
end
theorem zmf {K:Frag}{a:Addr}{xs:List V}{g:TG}{tb:TS}{D:Ends}{σ:St}{H:Hp}(Pv:Nat->St->Hp->Prop)(h0:Pv 0 σ H)(hl:∀i σ H,i<=xs.length->Pv i σ H->zB K H a xs)
  (hs:∀i x σ H,i<xs.length->xs[xs.length-1-i]?=some x->Pv i σ H->g x σ H fun σ2 H2=>tb { D with nx:=Pv (i+1),ct:=Pv (i+1),bk:=D.nx } σ2 H2)(hd:∀ σ H,Pv xs.length σ H->D.nx σ H) :
  ∃W:Nat->Nat->St->Hp->Prop,(∃m,W 0 m σ H)/\∀i m σ H,W i m σ H ->
   ((Itv K a xs.length).stop i H/\D.nx σ H)\/((Itv K a xs.length).go i H/\∃N:St->Hp->Prop,(∀ σ' H',N σ' H'->∃m',m'<m/\W (i+1) m' σ' H')/\∀x H',(Itv K a xs.length).KQ i H x H'->g x σ H' fun σ2 H2=>tb { D with nx:=N,ct:=N,bk:=D.nx } σ2 H2):=by
 refine⟨fun i m σ H=>m=xs.length-i/\i<=xs.length/\Pv i σ H,⟨xs.length,by simp,zuy _,h0⟩,?_⟩
 rintro i m σ H ⟨rfl,hi,p⟩
 have q:=hl i σ H hi p
 by_cases hlt:i<xs.length
 ·refine .inr ⟨⟨hlt,xs,q,rfl⟩,Pv (i+1),fun σ' H' p'=>⟨xs.length-(i+1),by omega,rfl,hlt,p'⟩,fun x H' y=>?_⟩
  obtain⟨e,y⟩:=y
  subst e
  exact hs i x σ _ hlt (y xs q) p
 ·have e:i=xs.length:=by omega
  subst e
  exact .inl ⟨zus _,hd σ H p⟩
end L2
namespace Xv
open PySem L2 vp
def hav (l:List (Nat×Bool))(b:Nat):Bool:=l.all fun x=>b.testBit x.1==x.2
def zkq (os:List Str)(t:Nat->Bool):List (Nat->Bool)->List Bool->List (List Bool)
 | [],r=>[r]
 | f::fs,r=>r::zkq os t fs (fvP os.length (fun b=>f b&&TY os t (hav ((xG os).zip r)) b) (xG os))
theorem zea (n:Nat):∀(f:Nat->Bool) (ps:List Nat),(fvP n f ps).length=ps.length
 | _,[]=>rfl
 | f,p::ps=>by
  show(fvP n _ ps).length+1=_
  rw[zea n _ ps];rfl
theorem zkr {α β:Type}{R:α->β->Prop}:∀{xs:List α} {ys:List β},Paired R xs ys->Paired R xs.reverse ys.reverse
 | _,_,.nil=>.nil
 | _,_,.cons h hs=>by
  rw[List.reverse_cons,List.reverse_cons]
  exact V2 (zkr hs) (.cons h .nil)
section
variable (C:Addr)(K:Frag)
def Lp:Sp:=fun vs H Q _=>∃(pl rl:Addr) (n:Nat) (ps:List Nat) (r:List Bool),vs=[.ref pl,.ref rl,.int (n:Nat)]/\n<=8/\zB K H pl (wg ps)/\zB K H rl (M6 r)/\(∀p∈ps,p<n)/\ps.length=r.length/\ps.length<=8/\∀(R:Nat) (H':Hp),Same H H'->z8 n R (hav (ps.zip r))->Q (.int (R:Nat)) H'
def zbw:Sp:=fun vs H Q _=>∃(b:Addr) (os:List Str) (rs:List Rm) (F:yX) (N:Nat) (f:Nat->Bool),vs=[.ref b,.int (N:Nat)]/\yh C H b os rs F/\z8 os.length N f/\∀(l:Addr) (H':Hp),Same H H'->H l=none->H' l=some (.lst (M6 (fvP os.length f (xG os))))->Q (.ref l) H'
def zks:Sp:=fun vs H Q _=>∃(b rl:Addr) (os:List Str) (rs:List Rm) (F:yX) (r:List Bool),vs=[.ref b,.ref rl]/\yh C H b os rs F/\zB K H rl (M6 r)/\(xG os).length=r.length/\∀(R:Nat) (H':Hp),Same H H'->z8 os.length R (hav ((xG os).zip r))->Q (.int (R:Nat)) H'
def zch (H:Hp)(p:Addr)(r:List Bool):Prop:=H p=some (.lst (M6 r))
def Lq:Sp:=fun vs H Q _=>∃(b al:Addr) (os:List Str) (rs:List Rm) (F:yX) (k N:Nat) (Ns:List Nat) (f:Nat->Bool) (fs:List (Nat->Bool)),vs=[.ref b,.int (k:Nat),.ref al,.int (N:Nat)]/\yh C H b os rs F/\yG os/\k<rs.length/\zB K H al (wg Ns)/\Ns.length<=256/\Paired (z8 os.length) Ns fs/\z8 os.length N f /\
 ∀(l:Addr) (H':Hp) (qs:List Addr),Same H H'->H l=none->H' l=some (.lst (qs.map V.ref))->Paired (zch H') qs (zkq os (tB rs k) fs.reverse (fvP os.length f (xG os))).reverse->(∀x∈qs,H x=none)->Q (.ref l) H'
def Meet (os:List Str)(t f g:Nat->Bool)(i:Nat):Prop:=(∃b,b<2^os.length/\(Vg os t f i).1 b=true/\g b=true)/\∀j,j<i->∀b,b<2^os.length->(Vg os t f j).1 b=true->g b=false
def zh3:Sp:=fun vs H Q _=>∃(b:Addr) (os:List Str) (rs:List Rm) (F:yX) (k i j:Nat),vs=[.ref b,.int (k:Nat),.int (i:Nat),.int (j:Nat)]/\yh C H b os rs F/\yG os/\k<rs.length/\vN os rs i/\vN os rs j /\
 (∀(H':Hp) (Ns:List Nat),Same H H'->zbu os (tB rs k) (tB rs i) Ns->(∀m,m<Ns.length->∀b,b<2^os.length->(Vg os (tB rs k) (tB rs i) m).1 b=true->tB rs j b=false)->Q .non H') /\
 ∀(l:Addr) (H':Hp) (qs:List Addr) (Ns:List Nat) (m:Nat),Same H H'->H l=none->H' l=some (.lst (qs.map V.ref))->zbu os (tB rs k) (tB rs i) Ns->m<Ns.length->Meet os (tB rs k) (tB rs i) (tB rs j) m ->
  Paired (zch H') qs (zkq os (tB rs k) ((List.range m).map fun d=>(Vg os (tB rs k) (tB rs i) d).1).reverse (fvP os.length (fun b=>(Vg os (tB rs k) (tB rs i) m).1 b&&tB rs j b) (xG os))).reverse->(∀x∈qs,H x=none)->Q (.ref l) H'
end
theorem Uv.made {C:Addr}{H0 H':Hp}{bk dx:Addr}{os:List Str}{F:yX}{o1 o2:HO}(hbk:H0 bk=none)(hdx:H0 dx=none)(hne:dx≠bk)(keep:∀x o,upd (upd H0 dx o1) bk o2 x=some o->x≠bk->H' x=some o)
  (hB:yh C H' bk os [none,none] F)(hF:∀x,F x->x=bk\/x=dx\/upd (upd H0 dx o1) bk o2 x=none):Uv C H0 bk os 0 H' [none,none] F:=by
 refine⟨fun x o e=>keep x o (by rw[zE (zF e hbk),zE (zF e hdx)];exact e) (zF e hbk),fun x hx=>?_,hB,zus _⟩
 rcases hF x hx with z | z | z
 ·rw[z];exact hbk
 ·rw[z];exact hdx
 ·by_cases e1:x=bk
  ·rw[e1] at z;rw[zm] at z;cases z
  ·by_cases e2:x=dx
   ·rw[e2,zE hne,zm] at z;cases z
   ·rw[zE e1,zE e2] at z;exact z
theorem zaf.all {os:List Str}{H:Hp}{s:Sn}{p:Addr}(h:zaf (wZ os) H s p):zaf os H s p:=⟨h.is_,zl8 (fun x hx=>(Lj hx).1) h.V1,h.ct,h.dp⟩
end Xv
namespace L2
open PySem
theorem zmg {σ:St}{js:List Nat}{te:TE}{H:Hp}{Qf:Addr->Hp->List V->Prop}{n:Nat}(Pv:Nat->List V->Hp->Prop)(h0:Pv 0 [] H)(hz:n<=sizeLine)(hl:∀i ys H,i<=n->Pv i ys H->ys.length<=i)
  (hs:∀(i:Nat) ys H (Q:V->Hp->Prop),i<n->Pv i ys H->(∀v H3,Pv (i+1) (ys++[v]) H3->Q v H3)->te (Xu σ js (some (.int ((0:Int)+i)))) H Q)
  (hd:∀ys H p,Pv n ys H->H p=none->Qf p H ys) :
  ∃W:Nat->Nat->List V->Hp->Prop,(∃m,W 0 m [] H)/\∀i m ys H,W i m ys H ->
   ((Itr 0 n).stop i H/\∀p,H p=none->Qf p H ys) \/
   ((Itr 0 n).go i H/\ys.length<sizeLine/\∀x H',(Itr 0 n).KQ i H x H'->zcb (Xu σ js (some x)) H' fun b H2 =>
    if b=true then te (Xu σ js (some x)) H2 fun v H3=>∃m',m'<m/\W (i+1) m' (ys++[v]) H3 else ∃m',m'<m/\W (i+1) m' ys H2):=by
 refine⟨fun i m ys H=>m=n-i/\i<=n/\Pv i ys H,⟨n,by simp,zuy _,h0⟩,?_⟩
 rintro i m ys H ⟨rfl,hi,p⟩
 have hy:=hl i ys H hi p
 by_cases hlt:i<n
 ·refine .inr ⟨hlt,by omega,fun x H' y=>?_⟩
  obtain⟨e,y⟩:=y
  subst e y
  exact hs i ys _ _ hlt p fun v H3 h3=>⟨_,Nat.sub_lt_sub_left hlt (Nat.lt_succ_self i),rfl,hlt,h3⟩
 ·have e:i=n:=by omega
  subst e
  exact .inl ⟨zus _,fun pp hp=>hd ys H pp p hp⟩
end L2
namespace L2
open PySem PySem.Spec PyProof.Rows
structure zfq (K:Frag)(D:Addr):Prop where
 ga:findIn K (.ref D) "__getattribute__"=some (some (.builtin "BaseException.__getattribute__"))
 gt:findIn K (.ref D) "__getattr__"=some none
 ca:findIn K (.ref D) "__class__"=some (some (.builtin "object.__class__"))
 bx:PySem.W.mroIn K D (.type "BaseException")=some true
 ob:PySem.W.mroIn K D (.type "object")=some true
 cl:(PySem.W.clsIn K D).isSome=true
theorem Lr:Slot "BaseException" "__getattribute__" "BaseException.__getattribute__" :=
 .of (owner := "BaseException") (n := "__getattribute__") (by rw[typeLookup_type,builtinLookup_eq_fast];kernel_rfl) (by decide +kernel) (by decide +kernel) (by decide +kernel)
  (by first | exact .inl (by decide +kernel) | exact .inr (by decide +kernel)) (by rw[isSubtype_type];kernel_rfl)
section
variable {prog:Program}{w:World}{A:Around}{E:Value->Shared->Prop}{h:Heap}{g:Array GenState}{d:Drawn}{t:Nat}{os:OsState}{a D:Addr}{o:Obj}{K:Frag}
theorem zag {tk:Tok}{Q:Fin->Shared->Prop}(X:K.In h)(c:zfq K D)(I:PySem.W.InstAt h a o D none)(hq:Q (.done (.ret (.ref D))) ⟨h,g,d,t,os⟩) :
  wpAny (model prog w) A (Builtin.«object.__getattribute__» ⟨[.ref a,.str "__class__" tk],[]⟩) Q E ⟨h,g,d,t,os⟩:=by
 have hT5:(⟨h,g,d,t,os⟩:Shared).TypeIs (.builtin "object.__class__") "getset_descriptor" := F.typeOf_object_class
 have f5:=F.typeOf_object_class
 have f6:=F.slot_gs_get.lookup
 have f7:=F.slot_gs_set.lookup
 have hx:=I.at_
 have hc:=I.cls
 have L1:=PySem.W.looks_findIn (M:=model prog w) X c.ca
 repeat (any_goals (first | assumption | (with_reducible refine wpAny_loadPart_at hx ?_;rw[hc]) | with_reducible refine L1.at ?_ | wp_step))
 refine PySem.W.class_get (s:=⟨h,g,d,t,os⟩) X I c.ob ?_
 repeat (any_goals (first | assumption | wp_step))
theorem zeb {M:Model}{nameV:Value}{Q:Unit->Shared->Prop}(X:K.In h)(c:zfq K D)(I:PySem.W.InstAt h a o D none)(hq:Q () ⟨h,g,d,t,os⟩):wpAny M A (checkBuiltinCall "BaseException.__getattribute__" ⟨[.ref a,nameV],[]⟩) Q E ⟨h,g,d,t,os⟩:=by
 have hk:builtinKind "BaseException.__getattribute__"=some .slot:=by decide +kernel
 have hsplit:splitId "BaseException.__getattribute__"=some ("BaseException", "__getattribute__"):=by decide +kernel
 have ha:=F.args_bexc_ga (.ref a) nameV
 have hx:=I.at_
 have hc:=I.cls
 have L1:=PySem.W.looks_mroIn (M:=M) X c.bx
 simp only[checkBuiltinCall,hk,hsplit]
 refine wpAny_bind ?_
 ·unfold isInstance
  repeat (first | (with_reducible refine wpAny_loadPart_at hx ?_;rw[hc]) | with_reducible refine L1.at ?_ | wp_step)
  exact hq
theorem zbx {tk:Tok}{R:Result->Shared->Prop}(X:K.In h)(c:zfq K D)(I:PySem.W.InstAt h a o D none)(hq:R (.ok (.ret (.ref D))) ⟨h,g,d,t,os⟩) :
  codeAny (model prog w) A (.call (.builtin "BaseException.__getattribute__") ⟨[.ref a,.str "__class__" tk],[]⟩) R ⟨h,g,d,t,os⟩ :=
 codeAny_call_builtin Lr.plain F.entry_bexc_ga (zeb X c I (zag X c I hq))
theorem zec {tk:Tok}{Q:Value->Shared->Prop}(X:K.In h)(c:zfq K D)(I:PySem.W.InstAt h a o D none)(hq:Q (.ref D) ⟨h,g,d,t,os⟩):wpAny (model prog w) A (getAttrBy (.ref a) (.str "__class__" tk) false) Q E ⟨h,g,d,t,os⟩:=by
 have f3:=Lr.bind (.ref a)
 have hx2:(Value.builtin "BaseException.__getattribute__" == Value.builtin "object.__getattribute__")=false:=by decide +kernel
 have hx1:(onTheHeap (Value.ref D)&&Value.builtin "BaseException.__getattribute__" == Value.builtin "object.__getattribute__")=false:=by rw[hx2];rfl
 have hx:=I.at_
 have hc:=I.cls
 have L1:=PySem.W.looks_findIn (M:=model prog w) X c.ga
 have L2:=PySem.W.looks_findIn (M:=model prog w) X c.gt
 repeat (any_goals (first | assumption | (with_reducible refine wpAny_loadPart_at hx ?_;rw[hc]) | with_reducible refine L1.at ?_ | with_reducible refine L2.at ?_ | wp_step))
 refine zbx X c I ?_
 repeat (any_goals (first | assumption | wp_step))
theorem zby {Q:Option Value->Shared->Prop}(X:K.In h)(c:zfq K D)(I:PySem.W.InstAt h a o D none)(hq:Q (some (.ref D)) ⟨h,g,d,t+1,os⟩):wpAny (model prog w) A (getAttr? (.ref a) "__class__") Q E ⟨h,g,d,t,os⟩:=by
 unfold getAttr? getAttrBy?
 repeat (any_goals (first | assumption | with_reducible apply zec X c I | wp_step))
end
theorem zkt {K:Frag}{a D:Addr}(c:zfq K D):PySem.W.KitX K (.ref a) (.ref D) (fun h=>∃o,PySem.W.InstAt h a o D none) where
 ty:=fun _ _ _ ⟨_,I⟩=>I.type
 it:=fun _ _ X _=>by
  obtain⟨cdD,hcD⟩:=Option.isSome_iff_exists.mp c.cl
  unfold PySem.W.clsIn at hcD
  split at hcD
  ·rename_i c' d' cd' sl' ho
   intro A' Q' E' s' k q
   unfold isType loadHead
   exact wpAny_bind (wpAny_loadPart (k _ _ (X _ _ ho)) (wpAny_pure q))
  ·cases hcD
 ne:=fun h tp dd its n sl X htp=>by
  obtain⟨cdD,hcD⟩:=Option.isSome_iff_exists.mp c.cl
  refine Bool.eq_false_iff.mpr fun q=>?_
  have e:D=tp:=Value.ref.inj (beq_iff_eq.mp q)
  subst e
  unfold PySem.W.clsIn at hcD
  split at hcD
  ·rename_i c' d' cd' sl' ho
   have z:=(X _ _ ho).symm.trans htp
   cases z
  ·cases hcD
 ca:=fun {_ _ _ _ _ s} X ⟨o,I⟩ k=>by
  obtain⟨h,g,d,t,os⟩:=s
  exact zby X c I k
def zci (a D:Addr):HO:=.ext fun h=>∃o vs,PySem.W.InstAt h a o D none/\o.data=.fields vs/\vs[2]?=some .none
theorem InstAt.none_ {h:Heap}{a D:Addr}{o:Obj}(e:h.get? a=some o)(hc:o.cls=.ref D)(hd:o.dict=none)(hn:PySem.W.notCls o=true):PySem.W.InstAt h a o D none :=
 ⟨e,hc,hn,by rw[hd];trivial⟩
theorem zmh {P:Program}{w:World}{H:Hp}{h:Heap}{a D:Addr}(hx:Jh h a (.ref D)):vG P w H h a (zci a D):=by
 obtain⟨oe,vs,he,hc,hdn,hd,h2,_⟩:=hx
 refine⟨⟨oe,vs,InstAt.none_ he hc hdn ?_,hd,h2⟩,⟨_,he⟩,fun h1 h2 ⟨o,vs,I,q1,q2⟩ k=>⟨o,vs,⟨k o I.at_,I.cls,I.no,?_⟩,q1,q2⟩⟩
 ·obtain⟨c,dd,dt,sl⟩:=oe
  cases hd
  rfl
 ·have:=I.dict
  revert this
  cases o.dict<;>exact fun z=>z
theorem Rd.exc {P:Program}{w:World}{H:Hp}{h:Heap}{a D:Addr}(ok:Rh P w H h)(e:H a=some (zci a D)):∃o vs,PySem.W.InstAt h a o D none/\o.data=.fields vs/\vs[2]?=some .none:=(ok a _ e).1
structure Fly (X:Cx)(pins:List (Addr×Obj))(H:Hp)(s:Shared)(a:Addr)(cls:Value):Prop where
 exc:Jh s.heap a cls
 hn:H a=none
 s0:X.s₀.heap.get? a=none
 loc:a≠X.env.locals
 cell:∀x c,X.env.cells.lookup x=some c->c≠a
 pin:∀p∈X.pn++pins,p.1≠a
 st:a∉frs X.stack
section
variable {X:Cx}{pins:List (Addr×Obj)}{σ:St}{H H':Hp}{s s':Shared}{a:Addr}{cls:Value}
theorem Inv.fly (I:Inv X pins σ H s)(hex:X.ex=[])(hn:s.heap.get? a=none)(hn':H' a=none)(hx:Jh s'.heap a cls):Fly X pins H' s' a cls where
 exc:=hx
 hn:=hn'
 s0:=I.fresh0 hex hn
 loc:=fun z=>by
  obtain⟨m,⟨o,_,_,ho,_⟩,_⟩:=I.loc
  rw[<-z,hn] at ho;cases ho
 cell:=fun x c e z=>by
  obtain⟨v,o,ho,_⟩:=I.cell x c e
  rw[z,hn] at ho;cases ho
 pin:=fun p hp z=>by
  have:=(I.pin p hp).1
  rw[z,hn] at this;cases this
 st:=fun z=>by
  obtain⟨_,o,ho,_⟩:=I.stack.mem z
  rw[hn] at ho;cases ho
theorem Inv.left {h':Heap}(I:Inv X pins σ H s)(f:Fly X pins H s a cls)(lf:zhY X.stack a cls s.heap h'):Inv X pins σ H { s with heap:=h' }:=by
 have nst:∀b,b≠X.env.locals->b∉X.fs->b∉frs X.stack:=fun b h1 h2 z=>(List.mem_cons.mp (I.zaT b z)).elim h1 h2
 have upto:∀b o,s.heap.get? b=some o->b≠a->∃sl,h'.get? b=some { o with slots:=sl }:=fun b o e ne=>by
  by_cases z:b∈frs X.stack
  ·exact lf.slot b o e z ne
  ·exact⟨o.slots,lf.keep b o e z ne⟩
 have cellK:∀x c,X.env.cells.lookup x=some c->∀v,s.heap.IsCell c v->h'.IsCell c v:=fun x c e v ⟨o,ho,hd⟩=>by
  obtain⟨sl,q⟩:=upto c o ho (f.cell x c e)
  exact⟨_,q,hd⟩
 have ne0:∀b o,X.s₀.heap.get? b=some o->b≠a:=fun b o e z=>by rw[z,f.s0] at e;cases e
 refine⟨I.ok,I.os,I.bare,⟨fun b o e n hb hx=>?_,fun b o e n hb hx=>?_,I.base.free,fun b o e hx=>?_,I.base.tups,I.base.Mp,I.base.KY⟩,?_,fun x c e=>?_,I.free,I.Xi,fun p hp=>?_,fun b u e=>?_,I.len⟩
 ·exact lf.keep b o (I.base.keep b o e n hb hx) (nst b (zur (zul (zuj e) I.ok.above)) hb) (ne0 b o e)
 ·obtain⟨sl,e1⟩:=I.base.slot b o e n hb hx
  obtain⟨sl2,e2⟩:=upto b _ e1 (ne0 b o e)
  exact⟨sl2,e2⟩
 ·obtain⟨o',e1⟩:=I.base.there b o e hx
  obtain⟨sl2,e2⟩:=upto b _ e1 (ne0 b o e)
  exact⟨_,e2⟩
 ·obtain⟨m,⟨o,es,ep,ho,r⟩,hl⟩:=I.loc
  obtain⟨sl,q⟩:=upto _ o ho (Ne.symm f.loc)
  refine⟨m,⟨_,es,ep,q,r⟩,fun i x v e1 e2 e3=>?_⟩
  obtain⟨u,r,l⟩:=hl i x v e1 e2 e3
  refine⟨u,r,?_⟩
  rcases l with l | ⟨k,c,e,z⟩
  ·exact .inl l
  ·exact .inr ⟨k,c,e,cellK x c e _ z⟩
 ·obtain⟨v,z⟩:=I.cell x c e
  exact⟨v,cellK x c e v z⟩
 ·obtain⟨e,n,ne,nf,d⟩:=I.pin p hp
  exact⟨lf.keep p.1 p.2 e (nst p.1 ne nf) (f.pin p hp),n,ne,nf,d⟩
 ·have tr:∀b u,H b=some u->b∉frs X.stack/\b≠a:=fun b u e=>⟨(fun z=>by rw[I.zaz b z] at e;cases e),(fun z=>by rw[z,f.hn] at e;cases e)⟩
  refine(I.hok b u e).stay (fun c v hc q=>?_) (fun c q=>q) fun c xs q=>q
  rcases hc with rfl | hc
  ·exact lf.keep _ v q (tr _ u e).1 (tr _ u e).2
  ·exact lf.keep _ v q (tr _ _ hc).1 (tr _ _ hc).2
theorem Inv.znT {D:Addr}(I:Inv X pins σ H s)(f:Fly X pins H s a (.ref D)):Inv X pins σ (upd H a (zci a D)) s:=by
 have ne0:∀b o,X.s₀.heap.get? b=some o->b≠a:=fun b o e z=>by rw[z,f.s0] at e;cases e
 have neH:∀b u,H b=some u->b≠a:=fun b u e z=>by rw[z,f.hn] at e;cases e
 refine⟨I.ok,I.os,I.bare,⟨I.base.keep,I.base.slot,fun b o e n hx=>?_,I.base.there,fun b xs e=>?_,fun b o u e=>?_,fun b ps e=>?_⟩,I.loc,I.cell,?_,fun x c e=>?_,fun p hp=>?_,fun b u e=>?_,I.len⟩
 ·rw[zE (ne0 b o e)];exact I.base.free b o e n hx
 ·have:=I.base.tups b xs e
  rw[zE (neH b _ this)];exact this
 ·have:=I.base.Mp b o u e
  rw[zE (neH b _ this)];exact this
 ·obtain⟨m,this⟩:=I.base.KY b ps e
  exact⟨m,by rw[zE (neH b _ this)];exact this⟩
 ·rw[zE (Ne.symm f.loc)];exact I.free
 ·rw[zE (f.cell x c e)];exact I.Xi x c e
 ·obtain⟨e,n,ne,nf,d⟩:=I.pin p hp
  exact⟨e,by rw[zE (f.pin p hp)];exact n,ne,nf,d⟩
 ·by_cases z:b=a
  ·subst z
   rw[zm] at e;cases e
   exact zmh f.exc
  ·rw[zE z] at e
   refine(I.hok b u e).stay (fun c v _ q=>q) (fun c q=>?_) fun c xs q=>?_
   ·rw[zE (neH c _ q)];exact q
   ·rw[zE (neH c _ q)];exact q
end
abbrev XR:=Value->St->Hp->Prop
def XP (X:Cx)(pins:List (Addr×Obj))(R:XR)(e:Value)(s':Shared):Prop:=∃a cls σ H',e=.ref a/\Inv X pins σ H' s'/\Fly X pins H' s' a cls/\R cls σ H'
abbrev TEx:=St->Hp->VK->(Value->Hp->Prop)->Prop
abbrev TSx:=Ends->XR->St->Hp->Prop
def PEx (X:Cx)(e:Expr)(t:TEx):Prop :=
 ∀(pins:List (Addr×Obj)) (s:Shared) (σ:St) (H:Hp) (Q:VK) (R:Value->Hp->Prop),Inv X pins σ H s->t σ H Q R->wpAny (model X.prog X.w) X.A (eval e X.env) (EP X pins σ Q) (XP X pins fun cls σ' H'=>σ'=σ/\R cls H') s
def zpp (X:Cx)(st:Stmt)(t:TSx):Prop :=
 ∀(pins:List (Addr×Obj)) (s:Shared) (σ:St) (H:Hp) (D:Ends) (R:XR),Inv X pins σ H s->t D R σ H->wpAny (model X.prog X.w) X.A (exec st X.env) (SP X pins D) (XP X pins R) s
def PSx (X:Cx)(st:List Stmt)(t:TSx):Prop :=
 ∀(pins:List (Addr×Obj)) (s:Shared) (σ:St) (H:Hp) (D:Ends) (R:XR),Inv X pins σ H s->t D R σ H->wpAny (model X.prog X.w) X.A (execs st X.env) (SP X pins D) (XP X pins R) s
section
variable {X:Cx}{e:Expr}{te:TE}{tx:TEx}{st:Stmt}{rest:List Stmt}{ts:TS}{t u:TSx}{pos pos':Pos}
def zpq (tx:TEx):TSx:=fun D R σ H=>tx σ H (fun _ H1=>D.nx σ H1) fun cls H'=>R cls σ H'
theorem zku (he:PEx X e tx)(hs:swapsWith e none pos.line X.env=pure false:=by rfl):zpp X (.Expr e pos) (zpq tx):=by
 intro pins s σ H D R I h
 refine wpAny_Expr_any (wpAny_mono (he pins s σ H _ _ I h) (fun v s1 ⟨x,H1,I1,r1,q1⟩=>⟨σ,H1,I1,q1⟩) fun v s1 ⟨a,cls,σ',H',e1,I1,f,e2,q⟩=>?_) I.quiet hs
 subst e2
 exact⟨a,cls,_,H',e1,I1,f,q⟩
theorem zkv (h1:zpp X st t):PSx X [st] t:=by
 intro pins s σ H D R I h
 refine wpAny_execs_cons (vM (h1 pins s σ H D R I h) fun f s1 q=>?_)
 cases f with
 | next=>exact wpAny_execs_nil q
 | ret v=>exact q
 | brk=>exact q
 | cont=>exact q
end
section
variable {X:Cx}{k:Nat}{f C:Addr}{fd:FuncData}{ps:List Str}{sp:Sp}{Rz:List V}{ds:List Value}{x m:Str}{p pos apos:Pos}{e o:Expr}{es:List Expr}{ta:TE}{t:TA}
theorem zpr {pins:List (Addr×Obj)}{σ:St}{H:Hp}{s s':Shared}{ev:Value}{R:Value->Hp->Prop}(hex:X.ex=[])(I:Inv X pins σ H s)(h:ZK X.prog X.w X.stack H s (fun cls _ H'=>R cls H') ev s') :
  XP X pins (fun cls σ' H'=>σ'=σ/\R cls H') ev s':=by
 obtain⟨a,cls,H',rfl,os,bare,un,hok,ha,hn,hx,hE⟩:=h
 exact⟨a,cls,σ,H',rfl,I.call' (s':=s') (ch:=[]) os un hok bare (fun b z=>absurd z (by simp)),I.fly hex ha hn hx,rfl,hE⟩
theorem zmi {pins:List (Addr×Obj)}{σ:St}{H:Hp}{s:Shared}{Q:VK}{R:Value->Hp->Prop}{us:List Value}{vs:List V}(F:zy X.prog X.w X.K X.mg X.base (ZK X.prog X.w) k f fd ps sp)(hr:tE k X.A)(hb:Binds X.K fd ps ds)(hd:Vals Rz ds)(hex:X.ex=[])
  (I:Inv X pins σ H s)(r:Vals vs us)(h:sp (vs++Rz) H Q fun cls _ H'=>R cls H'):wpAny (model X.prog X.w) X.A (call (.ref f) us) (EP X pins σ Q) (XP X pins fun cls σ' H'=>σ'=σ/\R cls H') s:=by
 have r2:Vals (vs++Rz) (us++ds):=r.append hd
 have hl:(us++ds).length=ps.length:=by rw[<-r2.length];exact F.len _ _ _ _ h
 refine wpAny_call (codeAny_mono (F.run X.A X.stack s H ⟨us,[]⟩ (us++ds) (vs++Rz) Q _ hr I.env0 (hb s us I.Q9 hl) r2 h) fun r s' hq=>?_)
 cases r with
 | error e=>exact zpr hex I hq
 | ok fl =>
  cases fl with
  | ret u=>exact I.after hq
  | next=>exact False.elim hq
  | brk=>exact False.elim hq
  | cont=>exact False.elim hq
def zps (sp:Sp)(Rz:List V)(t:TA):TEx:=fun σ H Q R=>t σ H fun vs H1=>sp (vs++Rz) H1 Q fun cls _ H'=>R cls H'
theorem zkw {α:Type}{pins:List (Addr×Obj)}{σ:St}{H:Hp}{s:Shared}{Qn:List V->Hp->Prop}{Q:List Value->Shared->Prop}{E:Value->Shared->Prop}{cpos:Pos}(ha:PA X.nox es t)(I:Inv X pins σ H s)(h:t σ H Qn)
  (hf:∀us s1 vs H1,Inv X pins σ H1 s1->Vals vs us->Qn vs H1->Q us s1):wpAny (model X.prog X.w) X.A (spliced (backTo cpos (starEach es X.env))) Q E s :=
 wpAny_mono (ha cpos pins s σ H Qn (I.wish _) h) (fun us s1 ⟨vs,H1,I1,r,q⟩=>hf us s1 vs H1 I1.Tn r q) fun _ _ z=>False.elim z
theorem zkx (F:zy X.prog X.w X.K X.mg X.base (ZK X.prog X.w) k f fd ps sp)(hr:tE k X.A)(hg:Gl X x)(hm:X.mg x=some (.ref f))(hk:PySem.W.keepIn X.K (.ref f)=true)(hb:Binds X.K fd ps ds)(hd:Vals Rz ds)(hex:X.ex=[])
  (ha:PA X.nox (e::es) t)(hdb:(x==("__debug__" : Str))=false:=by decide)(he:starEach (e::es) X.env=(false,eval e X.env)::starEach es X.env:=by rfl)(hpl:(backTo pos (starEach es X.env)).any (·.1)=false:=by rfl) :
  PEx X (.Call (.Name x p) (e::es) [] pos) (zps sp Rz t):=by
 intro pins s σ H Q R I h
 refine wpAny_Call_Name_kw (Te I hg hm ?_ hdb)
 refine PySem.W.callWith_K (h₀:=X.base) I.ok.mod.kin hk (zkw (α:=Unit) ha I h fun us s1 vs H1 I1 r q=>⟨I1.Q9,?_⟩) he hpl
 exact zmi F hr hb hd hex I1 r q
end
abbrev Cx.suite (X:Cx)(a:Addr):Cx:={ X with A:=X.A.mark (some (.ref a)),calm:=false,xe:=fun _ _=>False }
section
variable {X:Cx}{pins:List (Addr×Obj)}{σ:St}{H:Hp}{s:Shared}{a:Addr}
theorem Inv.suite (I:Inv X pins σ H s)(a:Addr):Inv (X.suite a) pins σ H s :=
 ⟨⟨I.ok.mod,I.ok.kind,I.ok.glob,I.ok.blt,I.ok.above,I.ok.inj,I.ok.has,I.ok.cab,(fun z=>nomatch z),I.ok.frames,I.ok.stk,I.ok.exf,I.ok.bs,I.ok.bsz,I.ok.zeS,I.ok.zeT,I.ok.Q8,I.ok.frf⟩,I.os,I.bare,I.base,I.loc,I.cell,I.free,I.Xi,I.pin,I.hok,I.len⟩
theorem Inv.zmj (ok:X.Ok)(I:Inv (X.suite a) pins σ H s):Inv X pins σ H s :=
 ⟨ok,I.os,I.bare,I.base,I.loc,I.cell,I.free,I.Xi,I.pin,I.hok,I.len⟩
theorem zmk {M:Model}{A:Around}{E:Value->Shared->Prop}{i:Nat}{n:Str}{pos:Pos}{Q:Unit->Shared->Prop}(I:Inv X pins σ H s)(hN:X.N.Nodup)(hi:X.N[i]?=some n)(hk:X.env.kindOf n=some .local)
  (h:∀s',Inv X pins (σ.set i none) H s'->Q () s'):wpAny M A (do bindName X.env n .none;unbindBehindTheSuite X.env n pos) Q E s:=by
 obtain⟨m,hn,hl⟩:=id I.loc
 have hcls:(X.env.scope.kind==.class||(X.env.scope.kind==.module&&X.env.locals != X.env.globals))=false:=by rw[I.ok.kind];rfl
 have hiσ:i < σ.length:=by rw[I.len];exact(zuf.mp hi).1
 have cne:=I.cne
 refine wpAny_nameGoes_keeps hk hn hcls fun h' v hn' hs=>?_
 obtain⟨oL,_,_,hoL,_⟩:=id hn
 have hok:Rh X.prog X.w H h':=fun b ob e=>by
  refine(I.hok b ob e).stay (fun c w' hc q=>(hs.2 c ?_).trans q) (fun _ q=>q) fun _ _ q=>q
  rintro rfl
  rcases hc with z | hc
  ·rw[<-z,I.free] at e;cases e
  ·rw[I.free] at hc;cases hc
 refine h _ ⟨I.ok,I.os,I.bare,⟨fun b o e n hb hx=>?_,fun b o e n hb hx=>?_,I.base.free,fun b o e hx=>?_,I.base.tups,I.base.Mp,I.base.KY⟩,⟨_,hn',fun j y v' e1 e2 e3=>?_⟩,fun y c e=>?_,I.free,I.Xi,fun p hp=>?_,hok,by simpa using I.len⟩
 ·exact(hs.2 b (zur (zul (zuj e) I.ok.above))).trans (I.base.keep b o e n hb hx)
 ·obtain⟨sl,e1⟩:=I.base.slot b o e n hb hx
  exact⟨sl,(hs.2 b (zur (zul (zuj e) I.ok.above))).trans e1⟩
 ·obtain⟨o',e1⟩:=I.base.there b o e hx
  exact⟨o',(hs.2 b (zur (zul (zuj e) I.ok.above))).trans e1⟩
 ·by_cases hj:j=i
  ·subst hj
   rw[List.getElem?_set_self hiσ] at e2
   cases e2
  ·rw[List.getElem?_set_ne (Ne.symm hj)] at e2
   obtain⟨u',r',q⟩:=hl j y v' e1 e2 e3
   refine⟨u',r',?_⟩
   rcases q with ⟨k,e⟩ | ⟨k,c,e,z⟩
   ·refine .inl ⟨k,?_⟩
    have:y≠n:=fun e=>hj (zaU hN e1 (e ▸ hi))
    simp[this,e]
   ·exact .inr ⟨k,c,e,z.sameBut hs (cne y c e)⟩
 ·obtain⟨w',z⟩:=I.cell y c e
  exact⟨w',z.sameBut hs (cne y c e)⟩
 ·obtain⟨e,n,ne,nf,d⟩:=I.pin p hp
  exact⟨(hs.2 p.1 ne).trans e,n,ne,nf,d⟩
end
def zq9 (K:Frag)(B:Addr)(i:Nat)(tb:TSx)(ts:Addr->TS):TS:=fun D σ H=>tb D (fun cls σ' H'=>∃C,cls=.ref C/\PySem.W.exmOne K (.ref C) (.ref B)=some true/\∀a,H' a=none ->
 ts a { nx:=fun σ2 H2=>D.nx (σ2.set i none) H2,rt:=D.rt,bk:=fun σ2 H2=>D.bk (σ2.set i none) H2,ct:=fun σ2 H2=>D.ct (σ2.set i none) H2 } (σ'.set i (some (.ref a))) (upd H' a (zci a C))) σ H
section
variable {X:Cx}{i:Nat}{n y:Str}{B:Addr}{body suite:List Stmt}{b₀:Stmt}{tb:TSx}{ts:Addr->TS}{np hp pos:Pos}
theorem znU {pins:List (Addr×Obj)}{σ:St}{H:Hp}{s:Shared}{D:Ends}{R:XR}{ev:Value}(hst:X.stack=X.env::X.outer)(hfr:X.env.frame=some X.env.locals)(hs:∀a,PSs (X.suite a) (b₀::suite) (ts a))(hg:Gl X y)(hm:X.mg y=some (.ref B))
  (hN:X.N.Nodup)(hi:X.N[i]?=some n)(hk:X.env.kindOf n=some .local)
  (hx:XP X pins (fun cls σ' H'=>∃C,cls=.ref C/\PySem.W.exmOne X.K (.ref C) (.ref B)=some true/\∀a,H' a=none ->
   ts a { nx:=fun σ2 H2=>D.nx (σ2.set i none) H2,rt:=D.rt,bk:=fun σ2 H2=>D.bk (σ2.set i none) H2,ct:=fun σ2 H2=>D.ct (σ2.set i none) H2 } (σ'.set i (some (.ref a))) (upd H' a (zci a C))) ev s)
  (hdb:(y==("__debug__" : Str))=false:=by decide) :
  wpAny (model X.prog X.w) X.A (noteFrame ev X.env) (fun _ s₂=>wpAny (model X.prog X.w) X.A (setFlight ev none) (fun _ s₃=>wpAny (model X.prog X.w) X.A (handleBy ev X.env [.ExceptHandler (some (.Name y np)) (some n) (b₀::suite) hp]) (SP X pins D) X.xe s₃) X.xe s₂) X.xe s:=by
 obtain⟨a,cls,σ,H,rfl,I,fl,C,rfl,hex,hq⟩:=hx
 refine zkc (base:=X.base) (outer:=X.outer) (L:=X.env.locals) (by rw[<-hst];exact I.ok.frames) (by rw[<-hst];exact I.stack) hfr fl.exc fun h' lf=>?_
 rw[<-hst] at lf
 have I1:=I.left fl lf
 have fl1:Fly X pins H { s with heap:=h' } a (.ref C):=⟨lf.exc,fl.hn,fl.s0,fl.loc,fl.cell,fl.pin,fl.st⟩
 refine wpAny_handleBy_cons (codeAny_handlers_test (Te (X:=X.suite a) (I1.suite a) hg hm ?_ hdb)) (by intro q;cases q)
 have LT:PySem.W.Looks (model X.prog X.w) h' (typeOf (.ref a)) (.ref C):=by
  obtain⟨oe,vs,he,hc,_⟩:=lf.exc
  exact hc ▸ (PySem.W.Looks.ld he).andThen .now
 refine(PySem.W.exm_one I1.Q9 LT hex) _ _ _ _ (fun _ _ e=>e) ?_
 refine codeAny_handlers_suite_as ?_
 refine znN fl1.exc fun h2 k2=>?_
 have I2:Inv X pins σ H { s with heap:=h2 }:=I1.kept (t':=s.toks) fun b u q=>(k2 b).trans q
 have K8:Fly X pins H { s with heap:=h2 } a (.ref C):=⟨fl1.exc.same k2,fl.hn,fl.s0,fl.loc,fl.cell,fl.pin,fl.st⟩
 have I3:=(I2.znT K8).suite a
 refine Mq (X:=X.suite a) (v:=.ref a) I3 hN hi (.inl hk) rfl (fun s4 I4=>?_) (.inr hk)
 refine wpAny_mono (hs a pins s4 _ _ _ I4 (hq a fl.hn)) (fun f s5 hf=>?_) fun _ _ z=>False.elim z
 have fin:∀{σ2:St} {H2:Hp},Inv (X.suite a) pins σ2 H2 s5->∀Q:Unit->Shared->Prop,(∀s',Inv X pins (σ2.set i none) H2 s'->Q () s')->wpAny (model X.prog X.w) X.A (do bindName X.env n .none;unbindBehindTheSuite X.env n hp) Q X.xe s5 :=
  fun J Q hQ=>zmk (J.zmj I.ok) hN hi hk hQ
 cases f with
 | next=>obtain⟨σ2,H2,J,q⟩:=hf;exact fin J _ fun s' I'=>⟨_,_,I',q⟩
 | brk=>obtain⟨σ2,H2,J,q⟩:=hf;exact fin J _ fun s' I'=>⟨_,_,I',q⟩
 | cont=>obtain⟨σ2,H2,J,q⟩:=hf;exact fin J _ fun s' I'=>⟨_,_,I',q⟩
 | ret u=>obtain⟨v,σ2,H2,J,r,q⟩:=hf;exact fin J _ fun s' I'=>⟨v,_,_,I',r,q⟩
theorem znV (hst:X.stack=X.env::X.outer)(hfr:X.env.frame=some X.env.locals)(hb:PSx X body tb)(hs:∀a,PSs (X.suite a) (b₀::suite) (ts a))(hg:Gl X y)(hm:X.mg y=some (.ref B))
  (hN:X.N.Nodup)(hi:X.N[i]?=some n)(hk:X.env.kindOf n=some .local)(hdb:(y==("__debug__" : Str))=false:=by decide) :
  PS X (.Try body [.ExceptHandler (some (.Name y np)) (some n) (b₀::suite) hp] [] [] pos) (zq9 X.K B i tb ts):=by
 intro pins s σ H D I h
 refine wpAny_Try_except (wpAny_mono (hb pins s σ H _ _ I h) (fun f s1 q=>?_) fun e s1 q=>znU (σ:=σ) (H:=H) (R:=fun _ _ _=>True) hst hfr hs hg hm hN hi hk q hdb)
 cases f with
 | next=>exact wpAny_execs_nil q
 | ret v=>exact q
 | brk=>exact q
 | cont=>exact q
end
abbrev ziK:List Value:=[.type "ValueError", .type "Exception", .type "BaseException", .type "object"]
def zmX (K:Frag)(C:Addr):Prop:=PySem.W.excIn K C ziK "ValueError.__new__"=true
theorem zml {K:Frag}{h:Heap}{C:Addr}{bmB:List Value}{newId:String}(X:K.In h)(q:PySem.W.excIn K C bmB newId=true):∃bm N nm q bs hdct sn sub ab col dd k0 k1 k2 k3 k5 mN,h.get? C=some (excClassObj nm q C N bs bm hdct sn sub ab col dd k0 k1 k2 k3 k5 newId)/\h.Ns N mN/\mN "__init__"=none/\OwnTail h bmB bm:=by
 unfold PySem.W.excIn at q
 split at q
 ·rename_i dd cd sl ho
  split at q
  ·rename_i C' bm k0 k1 k2 k3 n k5 hm hs
   simp only[zuD,beq_iff_eq,Bool.not_eq_true'] at q
   obtain⟨⟨⟨⟨⟨rfl,rfl⟩,hdel⟩,ht⟩,hok⟩,hni⟩:=q
   obtain⟨nm,bs,mro,ns,qn,hd,sn,sub,ab,col,del⟩:=cd
   dsimp only at hm hdel hok hni
   subst hm hdel
   have hsl:sl=#[k0,k1,k2,k3,some (.builtin n),k5]:=by
    obtain⟨l⟩:=sl
    simp only at hs
    rw[hs]
   subst hsl
   exact⟨bm,ns,nm,qn,bs,hd,sn,sub,ab,col,dd,k0,k1,k2,k3,k5,_,X _ _ ho,.of_isNs (PySem.W.isNs_of_in X hok),PySem.W.nsMap_none_of_in X hok hni,PySem.W.tail_of_in X ht⟩
  ·cases q
 ·cases q
theorem vG.get {P:Program}{w:World}{H:Hp}{h:Heap}{a:Addr}{o:HO}(x:vG P w H h a o):∃ob,h.get? a=some ob:=by
 cases o with
 | lst xs=>obtain⟨_,_,_,_,e⟩:=x;exact⟨_,e⟩
 | tup xs=>obtain⟨_,_,_,ob,e,_⟩:=x;exact⟨_,e⟩
 | dK kvs=>obtain⟨_,_,_,_,o,_,_,e,_⟩:=x;exact⟨_,e⟩
 | dT kvs=>obtain⟨_,_,_,_,o,_,_,e,_⟩:=x;exact⟨_,e⟩
 | set S n=>obtain⟨o,_,_,_,e,_⟩:=x;exact⟨_,e⟩
 | ins C dx fs=>obtain⟨_,_,_,e,_⟩:=x;exact⟨_,e⟩
 | own y=>obtain⟨_,e⟩:=x;exact⟨_,e⟩
 | xd fs=>obtain⟨_,⟨_,_,_,e,_⟩,_⟩:=x;exact⟨_,e⟩
 | rng lo hi=>obtain⟨_,_,_,e⟩:=x;exact⟨_,e⟩
 | frz ob u=>obtain⟨e,_⟩:=x;exact⟨_,e⟩
 | tbl ps=>exact⟨_,(show h.get? a=some _ from x)⟩
 | met f y=>exact⟨_,(show h.get? a=some _ from x)⟩
 | ext φ=>obtain⟨_,⟨_,e⟩,_⟩:=x;exact⟨_,e⟩
theorem Rh.off {P:Program}{w:World}{H:Hp}{h:Heap}{a:Addr}(x:Rh P w H h)(e:h.get? a=none):H a=none:=by
 cases q:H a with
 | none=>rfl
 | some u =>
  obtain⟨ob,z⟩:=(x a u q).get
  rw[e] at z;cases z
def Raises (X:Cx)(E:XK):Prop:=∀(pins:List (Addr×Obj)) (σ:St) (H:Hp) (s:Shared) (a:Addr) (cls:Value),Inv X pins σ H s->Jh s.heap a cls->X.s₀.heap.get? a=none->H a=none->E cls none H->X.xe (.ref a) s
def znW (C:Addr)(E:XK)(t:TA):TS:=fun _ σ H=>t σ H fun vs H1=>vs.length<=sizeLine/\E (.ref C) none H1
theorem zed {P:Program}{w:World}{K:Frag}{mg:Str->Option Value}{base:Heap}{N:List Str}{qual:Str}{scope:Scope}{f:Addr}{cd:Value}{A:Around}{outer:List Env}{s0:Shared}{H0:Hp}{E:XK} :
  Raises (K4 (ZK P w) P w K mg base N qual scope f cd A outer s0 H0 E) E:=fun pins σ H s a cls I hx ha hn hE=>zmV I hx ha hn hE
section
variable {X:Cx}{C:Addr}{E:XK}{x:Str}{e₀:Expr}{rest:List Expr}{t:TA}{np cpos pos:Pos}
theorem zbz (hc:X.calm=true)(hex:X.ex=[])(own:zmX X.K C)(hg:Gl X x)(hm:X.mg x=some (.ref C))(hE:Raises X E)(ha:PA X (e₀::rest) t)
  (hd:(x==("__debug__" : Str))=false:=by decide)(he:starEach (e₀::rest) X.env=(false,eval e₀ X.env)::starEach rest X.env:=by rfl)(hplain:(backTo cpos (starEach rest X.env)).any (·.1)=false:=by rfl) :
  PS X (.Raise (some (.Call (.Name x np) (e₀::rest) [] cpos)) none pos) (znW C E t):=by
 intro pins s σ H D I h
 obtain⟨tl,N,nm,q,bs,hdct,sn,sub,ab,col,dd,k0,k1,k2,k3,k5,mN,hC,hN,hni,T⟩:=zml I.mod.kin own
 have FB:=PySem.F.excBase_ValueError
 refine wpAny_Raise_call_subT (C:=C) (nm:=nm) (q:=q) (N:=N) (bs:=bs) (bm:=tl) (hdct:=hdct) (sn:=sn) (sub:=sub) (ab:=ab) (col:=col) (dd:=dd) (k0:=k0) (k1:=k1) (k2:=k2) (k3:=k3) (k5:=k5)
  FB (mN:=mN) (T.hasType FB.hasBase) (I.ok.hd hc) (by rw[he];show(false||(backTo cpos (starEach rest X.env)).any (·.1))=false;rw[hplain];rfl) hni (Te I hg hm ⟨rfl,?_⟩ hd)
 have hA:=vM (ha cpos pins s σ H _ I h) (Q':=fun us s2=>us.length<=sizeLine/\(∀b o,X.base.get? b=some o->s2.heap.get? b=some o)/\∀h' e,Heap.MadeExcOf s2.heap h' e (.ref C) us->X.xe (.ref e) { s2 with heap:=h' }) fun us s2 ⟨vs,H1,I1,r,hl,hq⟩=>by
  refine⟨by rw[<-r.length];exact hl,I1.bk,fun h' e mk=>?_⟩
  obtain⟨t,h1,h2,h3⟩:=mk.there
  have hn:=I1.hok.off mk.new
  exact hE pins σ H1 _ e (.ref C) (I1.kept (t':=s2.toks) mk.keeps) ⟨_,_,h1,rfl,rfl,rfl,by rfl,.inl (by rfl)⟩ (I1.fresh0 hex mk.new) hn hq
 rw[he] at hA ⊢
 exact Calls.evalArgs_plain (wpAny_mono hA (fun vs s₂ h₂=>⟨rfl,h₂.1,h₂.2.1 _ _ hC,hN.keeps h₂.2.1,T.keeps h₂.2.1,h₂.2.2⟩) fun _ _ y=>y)
end
theorem zcj:entryFor table "proto.unchain"=some Builtin.«proto.unchain»:=entryFor_of_tree (by kernel_rfl)
section
variable {prog:Program}{w:World}{A:Around}{E:Value->Shared->Prop}{s:Shared}
theorem zgW {it e:Addr}{oe:Obj}{vs:Array Value}{x left step:Int}{Q:Option Value->Shared->Prop}(hh:A.handled=some (.ref e))(he:s.heap.get? e=some oe)(hd:oe.data=.fields vs)(h2:vs[2]?=some .none)
  (hit:IsRangeIter s.heap it x left step)(hleft:left<=0)(hQ:∀h',Heap.ExtBut it s.heap h'->Q none { s with heap:=h' }):wpAny (model prog w) A (pyNext (.ref it)) Q E s:=by
 have hT:s.TypeIs (.ref it) "range_iterator" := ⟨_,hit,rfl⟩
 unfold pyNext
 refine wpAny_bind (wpAny_attempt (wpAny_callSpecial?_slot (name:=Str.ofString "__next__") hT F.slot_range_iterator_next
  (wpAny_call_entry F.slot_range_iterator_next hT F.entry_range_iterator_next ?_ (F.args_range_iterator_next_1 _))))
 show wpAny _ _ (field (.ref it) 0>>=_) _ _ s
 refine wpAny_bind (wpAny_field hit rfl (x:=rawInt x) rfl ?_)
 show wpAny _ _ (field (.ref it) 1>>=_) _ _ s
 refine wpAny_bind (wpAny_field hit rfl (x:=rawInt left) rfl ?_)
 show wpAny _ _ (field (.ref it) 2>>=_) _ _ s
 refine wpAny_bind (wpAny_field hit rfl (x:=rawInt step) rfl ?_)
 show wpAny _ _ (if left<=0 then _ else _) _ _ s
 rw[if_pos hleft]
 refine wpAny_bind (wpAny_rule ?_)
 refine wpAny_bind ?_
 show wpAny _ _ (newExc (.type "StopIteration") []>>=_) _ _ _
 refine wpAny_bind ?_
 simp only[newExc,newTuple]
 refine wpAny_bind (wpAny_newObj_type ?_ (by size_fits))
 refine wpAny_bind (m:=firstArgMember _ _) (wpAny_of_eq (a:=Value.none) (by first | rfl | (simp only[firstArgMember];rfl)) ?_)
 refine wpAny_newObj_type ?_ (by size_fits)
 simp only[raiseNew]
 refine wpAny_bind (wpAny_handled ?_)
 rw[show A.in1.handled=some (.ref e) from hh]
 dsimp only
 have lt:e<s.heap.objs.size:=zuj he
 have ne:(Value.ref e != Value.ref (s.heap.push { cls:=.type "tuple", data:=.seq #[] }).objs.size)=true:=by
  have:e≠(s.heap.push { cls:=.type "tuple", data:=.seq #[] }).objs.size:=by rw[Heap.size_push];exact zur (Nat.lt_succ_of_lt lt)
  simpa using this
 rw[if_pos ne]
 refine wpAny_bind (wpAny_holding (wpAny_runValue (codeAny_builtin zcj ?_)))
 show wpAny _ _ (field (.ref e) 2>>=_) _ _ _
 refine wpAny_bind (wpAny_field (zui _ (zui _ he)) hd h2 ?_)
 rw[if_pos (by rfl)]
 refine wpAny_bind (wpAny_pure (wpAny_pure ?_))
 refine wpAny_bind (show wpAny _ _ (setField (.ref _) 2 (.ref e)) _ _ _ from wpAny_setField (zuw _ rfl) rfl (by simp;omega) ?_)
 refine wpAny_throw ?_
 refine wpAny_bind (wpAny_isInstance (T := "StopIteration") (b:=true) ⟨_,Heap.get?_update_self _ (zuw _ rfl) (by rfl),rfl⟩ isSubtype_stop ?_)
 refine wpAny_pure (hQ _ fun b o hb q=>?_)
 have hb2:b≠(s.heap.push { cls:=.type "tuple", data:=.seq #[] }).objs.size:=by
  rw[Heap.size_push];exact zur (Nat.lt_succ_of_lt (zuj q))
 rw[Heap.get?_update_other _ _ (Ne.symm hb2)]
 exact zui _ (zui _ q)
end
abbrev zh5 (e:Addr)(X:Cx):Prop:=X.A.handled=some (.ref e)
def ziL (e:Addr)(lo:Int)(n:Nat):It:=⟨fun i _=>i<n,fun i H x H'=>H'=H/\x=.int (lo+i),fun i H=>n<=i/\∃D,H e=some (zci e D)⟩
theorem zfr {P:Program}{w:World}{K:Frag}{tg:Expr}(e it:Addr)(lo:Int)(n:Nat):Turn P w K tg (ziL e lo n) [it] it (fun i h=>IsRangeIter h it (lo+(i:Nat)*1) ((n:Int)-(i:Nat)) 1) (zh5 e) where
 mem:=by simp
 obj:=fun i h st b hb=>by
  have e:b=it:=by simpa using hb
  subst e
  exact⟨_,st,fun v z=>by
   have z':Data.fields _=Data.cell v:=z
   cases z'⟩
 keep:=fun i h h' st k=>k it (by simp) _ st
 item:=by
  intro X hP hw hK hc i pins s σ H E I hf st hg
  subst hP hw hK
  obtain⟨f0,f1,f2,f3,f4,f5⟩:=hf it (by simp)
  refine wpAny_pyNext_range_item st (by have:i<n:=hg;omega) fun h' hit' hs'=>?_
  have I1:Inv X pins σ H { s with heap:=h',toks:=s.toks+1 }:=I.turned (fun b o hb e=>hs'.extBut b o hb e) f0 f1 f3 f4 f5
  have st':IsRangeIter h' it (lo+((i+1:Nat):Int)*1) ((n:Int)-((i+1:Nat):Int)) 1:=by
   have e1:lo+((i+1:Nat):Int)*1=lo+(i:Int)*1+1:=by push_cast;omega
   have e2:(n:Int)-((i+1:Nat):Int)=(n:Int)-(i:Int)-1:=by push_cast;omega
   rw[e1,e2];exact hit'
  refine⟨_,rfl,zcR (s:={ s with heap:=h',toks:=s.toks+1 }) (n := "range_iterator") st' rfl rfl (by decide) ⟨.int (lo+i),H,I1,⟨s.toks,?_⟩,⟨rfl,rfl⟩,st',fun b hb=>(hf b hb).1⟩⟩
  rw[Int.mul_one]
 done:=by
  intro X hP hw hK hc i pins s σ H E I hf st hg
  subst hP hw hK
  obtain⟨f0,f1,f2,f3,f4,f5⟩:=hf it (by simp)
  obtain⟨hn,D,hD⟩:=hg
  obtain⟨oe,vs,J,hd,h2⟩:=Rd.exc I.hok hD
  exact zgW hc J.at_ hd h2 st (by omega) fun h' eb=>⟨rfl,I.turned (t':=s.toks) (fun b o hb e=>eb b o hb e) f0 f1 f3 f4 f5⟩
 self:=fun _ _ _ _ _ st h=>wpAny_pyIter_rangeiter st h
section
variable {X:Cx}{tg:Expr}{e:Addr}
theorem ziM {pins:List (Addr×Obj)}{σ:St}{H:Hp}{s:Shared}{R:It->Hp->Prop}{E:Value->Shared->Prop}{lo hi:Int}{t u v:Tok}{tk:Nat}(I:Inv X pins σ H s)(h1:-(2^62)<=lo)(h2:lo<2^62)(h3:-(2^62)<=hi)(h4:hi<2^62)
  (q:R (ziL e lo (hi-lo).toNat) H):wpAny (model X.prog X.w) X.A (pyIter (.ref s.heap.objs.size)) (znn (zh5 e) X pins σ tg R) E { s with heap:=s.heap.push { cls:=.type "range", data:=.fields #[.int lo t,.int hi u,.int 1 v] },toks:=tk }:=by
 refine wpAny_pyIter_range (IsRange.new ..) (small_one h1 h2 h3 h4) ?_
 have I1:Inv X pins σ H { s with heap:=s.heap.push { cls:=.type "range", data:=.fields #[.int lo t,.int hi u,.int 1 v] },toks:=tk }:=I.kept fun b o e=>zui _ e
 refine⟨(s.heap.push { cls:=.type "range", data:=.fields #[.int lo t,.int hi u,.int 1 v] }).objs.size,[(s.heap.push { cls:=.type "range", data:=.fields #[.int lo t,.int hi u,.int 1 v] }).objs.size],_,_,H,rfl,
  I1.kept (t':=tk) fun b o e=>zui _ e,zfr e _ lo (hi-lo).toNat,?_,fun b hb=>?_,q⟩
 ·have e1:lo+((0:Nat):Int)*1=lo:=by simp
  have e2:(((hi-lo).toNat:Nat):Int)-((0:Nat):Int)=Builtin.Range.rangeSize lo hi 1:=by rw[rangeSize_one];split<;>omega
  show IsRangeIter _ _ (lo+((0:Nat):Int)*1) ((((hi-lo).toNat:Nat):Int)-((0:Nat):Int)) 1
  rw[e1,e2]
  exact zuw _ rfl
 ·have e:b=(s.heap.push { cls:=.type "range", data:=.fields #[.int lo t,.int hi u,.int 1 v] }).objs.size:=by simpa using hb
  subst e
  exact I1.zgi (zus _) (I1.hok.fresh (zus _))
def znX (e:Addr)(ta:TA):TI:=fun σ H R=>ta σ H fun vs H1=>∃j:Int,vs=[.int j]/\-(2^62)<=j/\j<2^62/\R (ziL e 0 j.toNat) H1
theorem zgX {a:Expr}{ta:TA}{p pos:Pos}(hg:Gl X "range")(hm:X.mg "range"=none)(ha:PA X [a] ta)(hs:starEach [a] X.env=[(false,eval a X.env)]:=by rfl):PIr (zh5 e) X tg (.Call (.Name "range" p) [a] [] pos) (znX e ta):=by
 intro pins s σ H R I h
 refine Call_ (VP I hg hm boot_range (PyProof.Rows.callWith_type1 (vM (ha pos pins s σ H _ I h) fun us s1 ⟨vs,H1,I1,r1,q1⟩=>?_) hs rfl))
 obtain⟨j,e,q1,q2,q⟩:=q1
 subst e
 cases r1 with
 | cons r rr =>
  cases rr
  obtain⟨t,rfl⟩:=r
  exact call_range_1 (ziM I1 (by omega) (by omega) q1 q2 (by simpa using q))
def zpt:V->Value
 | .ref a=>.ref a
 | .ty n=>.type n
 | _=>.none
def zra:V->Bool
 | .ref _=>true
 | .ty _=>true
 | _=>false
theorem uX {K:Frag}(hK:X.K=K):Rj X (.builtin "isinstance") (fun xs H Q=>∃a D c b,xs=[.ref a,c]/\H a=some (zci a D)/\zfq K D/\zra c=true/\PySem.W.kitOne K (.ref D) (zpt c)=some b/\Q (.bl b) H):=by
 subst hK
 rintro pins s σ H xs us Q I r ⟨a,D,c,b,rfl,ha,cl,ic,ek,q⟩
 cases r with
 | cons r1 r2 =>
  cases r2 with
  | cons r3 r4 =>
   cases r4
   rename_i u1 u2
   obtain⟨o,vs,J,_⟩:=Rd.exc I.hok ha
   have eu1:u1=Value.ref a:=r1
   subst eu1
   have eu:u2=zpt c:=by
    cases c with
    | ref a=>exact r3
    | ty n=>exact r3
    | _=>cases ic
   subst eu
   exact PySem.W.kia_one (zkt cl) I.Q9 ⟨o,J⟩ ek (fun z=>nomatch z) fun tk=>⟨.bl b,H,I.tok _,rfl,q⟩
end
structure JV (k:Nat)(A:Around):Prop where
 gd:A.guards=some []
 dp:A.depth+3*k+5<recursionLimit
 un:A.units+16*k+200<cLine
theorem JV.of {k:Nat}{A:Around}(r:tE k A)(v:Option Value):JV k (A.mark v):=⟨r.gd,r.dp,r.un⟩
structure zdv (P:Program)(w:World)(K:Frag)(mg:Str->Option Value)(base:Heap)(ex:Addr)(k:Nat)(f:Addr)(fd:FuncData)(ps:List Str)(sp:Sp):Prop where
 len:∀vs H Q E,sp vs H Q E->vs.length=ps.length
 run:∀(A:Around) (outer:List Env) (s:Shared) (H:Hp) (args:Args) (us:List Value) (vs:List V) (Q:VK) (E:XK),JV k A->A.handled=some (.ref ex)->zdM P w K mg base A outer s H->BindsTo s fd args (ps.zip us)->Vals vs us->sp vs H Q E ->
  codeAny (model P w) A (.call (.ref f) args) (CR yq outer P w H s Q E) s
abbrev zh6 (P:Program)(w:World)(K:Frag)(mg:Str->Option Value)(base:Heap)(N:List Str)(qual:Str)(scope:Scope)(f:Addr)(cd:Value)(A:Around)(outer:List Env)(s:Shared)(H:Hp)(E:XK):Cx :=
 {K4 yq P w K mg base N qual scope f cd A outer s H E with calm:=false }
theorem znY {P:Program}{w:World}{K:Frag}{mg:Str->Option Value}{base:Heap}{ex:Addr}{k:Nat}{f:Addr}{name qual:Str}{params:Arguments}{body:List Stmt}{scope:Scope}{dV kV doc pm cdv ct oc:Value}{an od:Option Addr}
  {osl:Array (Option Value)}{N ps:List Str}{sp:Sp}(lk:K.lookup f=some ⟨oc,od,.func (PySem.W.fnOf name qual params body scope dV kV doc pm an cdv ct),osl⟩)(hcd:PySem.W.codeIn K cdv qual=true)(S:zK N ps scope)
  (len:∀vs H Q E,sp vs H Q E->vs.length=ps.length)
  (hbody:∀(A:Around) (outer:List Env) (s:Shared) (H:Hp) (vs:List V) (Q:VK) (E:XK),JV k (A.deeper (envOfC qual scope s.heap.objs.size f cdv))->A.handled=some (.ref ex)->sp vs H Q E ->
   ∃t,PSs (zh6 P w K mg base N qual scope f cdv A outer s H E) body t/\t { nx:=fun _ H'=>Q .non H',rt:=Q } (start N vs) H) :
  zdv P w K mg base ex (k+1) f (PySem.W.fnOf name qual params body scope dV kV doc pm an cdv ct) ps sp:=by
 refine⟨len,fun A outer s H args us vs Q E hr hh e0 hb r hsp=>?_⟩
 have hl:=len _ _ _ _ hsp
 have KX:K.In s.heap:=e0.mod.kin.keeps fun b o e=>(e0.bs b o e).1
 have lim:s.heap.NoLimit:=e0.mod.nolimit.keeps fun b o e=>(e0.bs b o e).1
 have hkind:∀y∈ps.zip us,scope.names.lookup y.1=some .local\/(scope.names.lookup y.1=some .cell/\((cellsFrom (s.heap.objs.size+1) scope.names []).lookup y.1).isSome=true):=fun⟨n,v⟩ hy=>by
  rcases S.par n (zuO hy).1 with q | q
  ·exact .inl q
  ·exact .inr ⟨q,PySem.W.cellsFrom_some _ _ _ (.inl q)⟩
 refine codeAny_call_function (by have:=hr.dp;omega) (KX _ _ lk) rfl S.co S.gen rfl (PySem.W.codeRec_of KX hcd) (hb _ _ _ _ ?_)
 refine wpAny_newFunctionEnv_cells S.kind hkind fun env he s1 x=>?_
 subst he
 refine⟨lim.keeps x.toInCall.keep,codeAny_func ?_⟩
 have hrd:JV k (A.deeper (envOfC qual scope s.heap.objs.size f cdv)):=⟨hr.gd,by have:=hr.dp;show A.depth+1+3*k+5<_;omega,by have:=hr.un;show A.units+3+16*k+200<_;omega⟩
 obtain⟨t,ht,hq⟩:=hbody A outer s H vs Q E hrd hh hsp
 have e1:zdM P w K mg base { A with handled:=none } outer s H:=⟨e0.frames,e0.mod,e0.bs,e0.bsz,e0.Q8,e0.frf,e0.hok,e0.bare⟩
 have I0:Inv (K4 yq P w K mg base N qual scope f cdv { A with handled:=none } outer s H E) [] (start N vs) H s1:=zc2 S rfl e1 hl r x
 have I:Inv (zh6 P w K mg base N qual scope f cdv A outer s H E) [] (start N vs) H s1 :=
  ⟨⟨I0.ok.mod,I0.ok.kind,I0.ok.glob,I0.ok.blt,I0.ok.above,I0.ok.inj,I0.ok.has,I0.ok.cab,(fun z=>nomatch z),I0.ok.frames,I0.ok.stk,I0.ok.exf,I0.ok.bs,I0.ok.bsz,I0.ok.zeS,I0.ok.zeT,I0.ok.Q8,I0.ok.frf⟩,I0.os,I0.bare,I0.base,I0.loc,I0.cell,I0.free,I0.Xi,I0.pin,I0.hok,I0.len⟩
 refine wpAny_mono (ht [] s1 (start N vs) H _ I hq) (fun fl s' hs=>?_) fun e s' hs=>hs
 have fin:∀{σ':St} {H':Hp} {v:V} {u:Value},Inv (zh6 P w K mg base N qual scope f cdv A outer s H E) [] σ' H' s'->RelV v u->Q v H'->CE outer P w H s Q u s' :=
  fun {σ' H' v u} J rv q=>⟨v,H',J.os,J.bare,J.base,J.hok,rv,q⟩
 cases fl with
 | ret u =>
  obtain⟨v,σ',H',J,rv,q⟩:=hs
  exact fin J rv q
 | next =>
  obtain⟨σ',H',J,q⟩:=hs
  exact fin (v:=V.non) (u:=Value.none) J rfl q
 | brk =>
  obtain⟨_,_,_,q⟩:=hs
  exact False.elim q
 | cont =>
  obtain⟨_,_,_,q⟩:=hs
  exact False.elim q
theorem Fun.okH {P:Program}{w:World}{K:Frag}{mg:Str->Option Value}{base:Heap}{ex:Addr}{x qual:Str}{st:Stmt}{f:Addr}{fd:FuncData}{N ps:List Str}{k:Nat}{sp:Sp}(F:Fun K x qual st f fd)(S:zK N ps (zx st))(len:∀vs H Q E,sp vs H Q E->vs.length=ps.length)
  (hbody:∀(cdv:Value) (A:Around) (outer:List Env) (s:Shared) (H:Hp) (vs:List V) (Q:VK) (E:XK),JV k (A.deeper (envOfC qual (zx st) s.heap.objs.size f cdv))->A.handled=some (.ref ex)->sp vs H Q E ->
   ∃t,PSs (zh6 P w K mg base N qual (zx st) f cdv A outer s H E) (uh st) t/\t { nx:=fun _ H'=>Q .non H',rt:=Q } (start N vs) H):zdv P w K mg base ex (k+1) f fd ps sp:=by
 obtain⟨oc,od,kV,doc,pm,an,cdv,ct,osl,rfl,lk,hcd⟩:=F.ex
 exact znY lk hcd S len fun A outer s H vs Q E hr hh hsp=>hbody cdv A outer s H vs Q E hr hh hsp
section
variable {X:Cx}{k:Nat}{f ex:Addr}{fd:FuncData}{ps:List Str}{sp:Sp}{Rz:List V}{ds:List Value}{x:Str}{p pos:Pos}{e:Expr}{es:List Expr}{t:TA}{E:XK}
theorem zky (F:zdv X.prog X.w X.K X.mg X.base ex k f fd ps sp)(hr:JV k X.A)(hh:X.A.handled=some (.ref ex))(hg:Gl X x)(hm:X.mg x=some (.ref f))(hk:PySem.W.keepIn X.K (.ref f)=true)(hb:Binds X.K fd ps ds)(hd:Vals Rz ds)
  (ha:PA X (e::es) t)(hdb:(x==("__debug__" : Str))=false:=by decide)(he:starEach (e::es) X.env=(false,eval e X.env)::starEach es X.env:=by rfl)(hpl:(backTo pos (starEach es X.env)).any (·.1)=false:=by rfl) :
  PE X (.Call (.Name x p) (e::es) [] pos) (Mw sp Rz E t):=by
 intro pins s σ H Q I h
 refine wpAny_Call_Name_kw (Te I hg hm ?_ hdb)
 refine PySem.W.callWith_K (h₀:=X.base) I.ok.mod.kin hk (vM (ha pos pins s σ H _ I h) fun us s1 ⟨vs,H1,I1,r,q⟩=>⟨I1.Q9,?_⟩) he hpl
 have r2:Vals (vs++Rz) (us++ds):=r.append hd
 have hl:(us++ds).length=ps.length:=by rw[<-r2.length];exact F.len _ _ _ _ q
 refine wpAny_call (codeAny_mono (F.run X.A X.stack s1 H1 ⟨us,[]⟩ (us++ds) (vs++Rz) Q E hr hh I1.env0 (hb s1 us I1.Q9 hl) r2 q) fun r s' hq=>?_)
 cases r with
 | error e=>exact hq.elim
 | ok fl =>
  cases fl with
  | ret u=>exact I1.after hq
  | next=>exact False.elim hq
  | brk=>exact False.elim hq
  | cont=>exact False.elim hq
end
abbrev TF:=St->Hp->(Hp->Prop)->Prop
def PF (X:Cx)(e:Expr)(t:TF):Prop :=
 ∀(pins:List (Addr×Obj)) (s:Shared) (σ:St) (H:Hp) (Q:Hp->Prop),Inv X pins σ H s->t σ H Q->wpAny (model X.prog X.w) X.A (eval e X.env) (fun v s1=>∃y tk H1,v=.str y tk/\y.length<=3000/\Inv X pins σ H1 s1/\Q H1) X.xe s
def PFs (X:Cx)(es:List Expr)(t:TF):Prop :=
 ∀(acc:Str) (n:Nat) (pins:List (Addr×Obj)) (s:Shared) (σ:St) (H:Hp) (Q:Hp->Prop),acc.length<=3000*n->n+es.length<=100->Inv X pins σ H s->t σ H Q ->
  Joins (model X.prog X.w) X.A X.xe (evalEach es X.env) acc (fun out s1=>out.length<=sizeLine/\∃H1,Inv X pins σ H1 s1/\Q H1) s
section
variable {X:Cx}{e v₁ v₂:Expr}{es rest:List Expr}{t u:TF}{te:TE}{pos:Pos}
def zrb:TF:=fun _ H Q=>Q H
theorem Jk {x:Str}{j pos}(hx:x.length<=3000:=by decide):PF X (.Constant (.str x) j pos) zrb:=fun _ _ _ H _ I h=>Calls.Constant_str ⟨x,_,H,rfl,hx,I.tok _,h⟩
def zrc (te:TE):TF:=fun σ H Q=>te σ H fun v H1=>∃i:Int,v=.int i/\i.natAbs.log2<1920/\Q H1
theorem zkz (he:PE X e te):PF X (.FormattedValue e (-1) none pos) (zrc te):=by
 intro pins s σ H Q I h
 refine wpAny_FormattedValue_plain (vM (he pins s σ H _ I h) fun v s1 ⟨x,H1,I1,r,i,ex,hi,q⟩=>?_)
 subst ex
 obtain⟨tk,rfl⟩:=(show ∃t,v=Value.int i t from r)
 refine wpAny_formatField_int hi ⟨_,_,H1,rfl,?_,I1.tok _,q⟩
 have e:=int_text_length_le (k:=1920) (by decide) hi
 rw[PySem.ofString_length];omega
def zrd (te:TE):TF:=fun σ H Q=>te σ H fun v H1=>∃x:Str,v=.str x/\x.length<=3000/\Q H1
theorem zh7 (he:PE X e te):PF X (.FormattedValue e (-1) none pos) (zrd te):=by
 intro pins s σ H Q I h
 refine wpAny_FormattedValue_plain (vM (he pins s σ H _ I h) fun v s1 ⟨x,H1,I1,r,y,ex,hy,q⟩=>?_)
 subst ex
 obtain⟨tk,rfl⟩:=(show ∃t,v=Value.str y t from r)
 exact wpAny_formatField_str ⟨_,_,H1,rfl,hy,I1,q⟩ ⟨_,_,H1,rfl,hy,I1.tok _,q⟩ (by rw[sizeLine_eq];omega)
def zre:TF:=fun _ H Q=>Q H
def zpu (t u:TF):TF:=fun σ H Q=>t σ H fun H1=>u σ H1 Q
theorem zee:PFs X [] zre:=fun acc n pins s σ H Q ha hn I h=>⟨by rw[sizeLine_eq];have:n<=100:=hn;omega,H,I,h⟩
theorem Zz (h1:PF X e t)(h2:PFs X es u):PFs X (e::es) (zpu t u):=by
 intro acc n pins s σ H Q ha hn I h
 show wpAny _ _ (eval e X.env) _ _ s
 refine vM (h1 pins s σ H _ I h) fun v s1 ⟨y,tk,H1,ev,hy,I1,q⟩=>⟨y,tk,ev,?_,?_⟩
 ·rw[strLen_append,sizeLine_eq]
  have:n+(es.length+1)<=100:=hn
  omega
 ·refine h2 (acc++y) (n+1) pins s1 σ H1 Q ?_ ?_ I1 q
  ·rw[strLen_append];omega
  ·have:n+(es.length+1)<=100:=hn
   omega
def zrf (t:TF):TE:=fun σ H Q=>t σ H fun H1=>∀x:Str,Q (.str x) H1
theorem zgY (h:PFs X (v₁::v₂::rest) t)(hn:rest.length<=90:=by decide):PE X (.JoinedStr (v₁::v₂::rest) pos) (zrf t):=by
 intro pins s σ H Q I hq
 refine wpAny_JoinedStr ?_
 have:=h Str.empty 0 pins s σ H _ (by decide) (by show 0+(rest.length+1+1)<=100;omega) I hq
 refine zbA _ _ this fun out s1 ⟨hz,H1,I1,q⟩=>⟨hz,.str out,H1,I1.tok _,⟨_,rfl⟩,q out⟩
where
 zbA {M:Model} {A:Around} {E:Value->Shared->Prop} {Q Q':Str->Shared->Prop}:∀(l:List (Sem Value)) (acc:Str) {s:Shared},Joins M A E l acc Q s->(∀o s,Q o s->Q' o s)->Joins M A E l acc Q' s
  | [],_,_,h,k=>k _ _ h
  | _::r,acc,_,h,k=>wpAny_mono h (fun _ _ ⟨y,t,e,z,q⟩=>⟨y,t,e,z,zbA r (acc++y) q k⟩) fun _ _ z=>z
end
theorem zck:bootBuiltins "ValueError"=some (.type "ValueError"):=by decide +kernel
structure Ls (K:Frag)(C:Addr):Prop where
 cl:(PySem.W.clsIn K C).isSome=true
 ty:PySem.W.typeIn K (.ref C)=some (.type "type")
structure znZ (K:Frag)(B:Addr):Prop where
 cl:(PySem.W.clsIn K B).isSome=true
 ty:PySem.W.typeIn K (.ref B)=some (.type "type")
 bx:PySem.W.mroIn K B (.type "BaseException")=some true
structure Nz (K:Frag)(B D:Addr):Prop where
 own:zmX K D
 ga:findIn K (.ref D) "__getattribute__"=some (some (.builtin "BaseException.__getattribute__"))
 gt:findIn K (.ref D) "__getattr__"=some none
 ca:findIn K (.ref D) "__class__"=some (some (.builtin "object.__class__"))
 mro:(PySem.W.clsIn K D).map (·.mro)=some (.ref D::.ref B::ziK)
section
variable {K:Frag}{B C D:Addr}
theorem Nz.mroIn (x:Nz K B D)(v:Value):PySem.W.mroIn K D v=some ((Value.ref D::.ref B::ziK).contains v):=by
 have m:=x.mro
 unfold PySem.W.mroIn
 cases h:PySem.W.clsIn K D with
 | none=>rw[h] at m;cases m
 | some cd =>
  rw[h] at m
  have e:cd.mro=.ref D::.ref B::ziK:=zuG m
  show(if cd.mro.isEmpty=true then none else some (cd.mro.contains v))=_
  rw[e]
  rfl
theorem Nz.zrg (x:Nz K B D):zfq K D:=⟨x.ga,x.gt,x.ca,by rw[x.mroIn];rfl,by rw[x.mroIn];rfl,by
 have m:=x.mro
 cases h:PySem.W.clsIn K D with
 | none=>rw[h] at m;cases m
 | some cd=>rfl⟩
theorem zbB (q:Ls K C)(t:Value):PySem.W.kitCls K t (.ref C)=PySem.W.subIn K t (.ref C):=by
 show(if ((PySem.W.clsIn K C).isSome&&PySem.W.typeIn K (.ref C)==some (.type "type"))=true then PySem.W.subIn K t (.ref C) else none)=_
 rw[if_pos (by rw[q.cl,q.ty];rfl)]
theorem zkA:PySem.W.kitOne K (.ref D) (.ref D)=some true:=by
 unfold PySem.W.kitOne
 rw[if_pos (by simp)]
theorem zn0 (x:Nz K B D)(q:Ls K C)(h1:D≠C)(h2:B≠C):PySem.W.kitOne K (.ref D) (.ref C)=some false:=by
 unfold PySem.W.kitOne
 rw[if_neg (by simpa using h1),zbB q]
 show PySem.W.mroIn K D (.ref C)=some false
 rw[x.mroIn]
 have e1:(Value.ref C==Value.ref D)=false:=by simpa using Ne.symm h1
 have e2:(Value.ref C==Value.ref B)=false:=by simpa using Ne.symm h2
 rw[List.contains_cons,List.contains_cons,e1,e2]
 rfl
theorem T4 (x:Nz K B D)(q:Ls K C)(h2:B≠C):PySem.W.kitOne K (.ref D) (.ref C)=some (decide (D=C)):=by
 by_cases z:D=C
 ·subst z;rw[zkA];simp
 ·rw[zn0 x q z h2];simp[z]
theorem zn1 (x:Nz K B D):PySem.W.kitOne K (.ref D) (.type "ValueError")=some true:=by
 unfold PySem.W.kitOne
 rw[if_neg (by simp)]
 unfold PySem.W.kitCls
 have h:PySem.W.kitMeta "ValueError"=true:=by decide +kernel
 show(if PySem.W.kitMeta "ValueError"=true then PySem.W.subIn K (.ref D) (.type "ValueError") else none)=_
 rw[if_pos h]
 show PySem.W.mroIn K D (.type "ValueError")=_
 rw[x.mroIn]
 rfl
theorem zkB (b:znZ K B)(x:Nz K B D):PySem.W.exmOne K (.ref D) (.ref B)=some true:=by
 unfold PySem.W.exmOne
 have e:PySem.W.subIn K (.ref B) (.type "BaseException")=some true:=b.bx
 rw[e,if_pos (by rfl),zbB ⟨b.cl,b.ty⟩]
 show PySem.W.mroIn K D (.ref B)=_
 rw[x.mroIn]
 simp
end
theorem zmm {K:Frag}{C:Addr}(cl:PySem.W.isClsIn K C=true)(ty:PySem.W.typeIn K (.ref C)=some (.type "type")):Ls K C:=⟨cl,ty⟩
theorem zmn {K:Frag}{C:Addr}(cl:PySem.W.isClsIn K C=true)(ty:PySem.W.typeIn K (.ref C)=some (.type "type"))(bx:PySem.W.mroIn K C (.type "BaseException")=some true):znZ K C:=⟨cl,ty,bx⟩
theorem zmo {K:Frag}{B C:Addr}(ow:PySem.W.excIn K C ziK "ValueError.__new__"=true)(ga:findIn K (.ref C) "__getattribute__"=some (some (.builtin "BaseException.__getattribute__")))(gt:findIn K (.ref C) "__getattr__"=some none)(ca:findIn K (.ref C) "__class__"=some (some (.builtin "object.__class__")))(mr:(PySem.W.clsIn K C).map (·.mro)=some (.ref C::.ref B::ziK)):Nz K B C:=⟨ow,ga,gt,ca,mr⟩
end L2
namespace Xv
open PySem L2 vp
def zkC:Sp:=fun _ _ _ _=>False
theorem _root_.L2.zy.no {P:Program}{w:World}{K:Frag}{mg:Str->Option Value}{base:Heap}{CX:CXT}{k:Nat}{f:Addr}{fd:FuncData}{ps:List Str}:zy P w K mg base CX k f fd ps zkC :=
 ⟨fun _ _ _ _ h=>h.elim,fun _ _ _ _ _ _ _ _ _ _ _ _ _ h=>h.elim⟩
abbrev Small (i:Int):Prop:=i.natAbs.log2<1920
def Bad (n:Nat)(i:Int):Prop:=i<0\/(n:Int)<=i
def zef (C D:Addr):Sp:=fun vs H _ E=>∃(b:Addr) (os:List Str) (rs:List Rm) (F:yX) (i:Int),vs=[.ref b,.int i]/\yh C H b os rs F/\Bad rs.length i/\Small i/\E (.ref D) none H
def zeg (C D:Addr):Sp:=fun vs H Q E=>WL C vs H Q E\/zef C D vs H Q E
theorem zh8 {n:Nat}{i:Int}(h:¬Bad n i):∃k:Nat,i=(k:Nat)/\k<n:=by
 unfold Bad at h
 exact⟨i.toNat,by omega,by omega⟩
theorem zbC {i:Int}(h:i.natAbs<2^1000):Small i:=by
 unfold Small
 by_cases z:i.natAbs=0
 ·rw[z];decide
 ·exact zul ((Nat.log2_lt z).mpr h) (by decide)
end Xv
namespace L2
open PySem PySem.Spec PyProof.Rows
theorem zmp {ex:Addr}{n:Nat}{σ:St}{js:List Nat}{tt:TT}{te:TE}{H:Hp}{Qf:Addr->Hp->List V->Prop}(Pv:Nat->List V->Hp->Prop)(h0:Pv 0 [] H)(hz:n<=sizeLine)(hl:∀i ys H,i<=n->Pv i ys H->ys.length<=i)
  (hx:∀ys H,Pv n ys H->∃D,H ex=some (zci ex D))
  (hs:∀(i:Nat) ys H (N1:V->Hp->Prop) (N2:Hp->Prop),i<n->Pv i ys H->(∀v H3,Pv (i+1) (ys++[v]) H3->N1 v H3)->(∀H2,Pv (i+1) ys H2->N2 H2) ->
   tt (Xu σ js (some (.int ((0:Int)+i)))) H fun b H2=>if b=true then te (Xu σ js (some (.int ((0:Int)+i)))) H2 N1 else N2 H2)
  (hd:∀ys H p,Pv n ys H->H p=none->Qf p H ys) :
  ∃W:Nat->Nat->List V->Hp->Prop,(∃m,W 0 m [] H)/\∀i m ys H,W i m ys H ->
   ((ziL ex 0 n).stop i H/\∀p,H p=none->Qf p H ys) \/
   ((ziL ex 0 n).go i H/\ys.length<sizeLine/\∀x H',(ziL ex 0 n).KQ i H x H'->tt (Xu σ js (some x)) H' fun b H2 =>
    if b=true then te (Xu σ js (some x)) H2 fun v H3=>∃m',m'<m/\W (i+1) m' (ys++[v]) H3 else ∃m',m'<m/\W (i+1) m' ys H2):=by
 refine⟨fun i m ys H=>m=n-i/\i<=n/\Pv i ys H,⟨n,by simp,zuy _,h0⟩,?_⟩
 rintro i m ys H ⟨rfl,hi,p⟩
 have hy:=hl i ys H hi p
 by_cases hlt:i<n
 ·refine .inr ⟨hlt,by omega,fun x H' y=>?_⟩
  obtain⟨e,y⟩:=y
  subst e y
  exact hs i ys _ _ _ hlt p (fun v H3 p3=>⟨_,Nat.sub_lt_sub_left hlt (Nat.lt_succ_self i),rfl,hlt,p3⟩) (fun H2 p2=>⟨_,Nat.sub_lt_sub_left hlt (Nat.lt_succ_self i),rfl,hlt,p2⟩)
 ·have e:i=n:=by omega
  subst e
  exact .inl ⟨⟨zus _,hx ys H p⟩,fun q hq=>hd ys H q p hq⟩
end L2
namespace Xv
open PySem L2 vp
def Xw:List Str:=["order", "mark", "room", "row", "number", "weights", "shares", "cover", "great"]
def zbD (K:Frag)(B:Addr)(cs:List Addr)(e:Addr):Sp:=fun vs H Q _=>∃(D:Addr) (n:Nat),vs=[.ref e]/\H e=some (zci e D)/\Nz K B D/\n<9/\cs.map (fun C=>decide (D=C))=(List.range 9).map (fun i=>decide (i=n)) /\
 ∀(t l:Addr) (H':Hp),Same H H'->H' t=some (.tup [.str "refused", .ref l])->H' l=some (.lst [.str (Xw.getD n "")])->Q (.ref t) H'
def zkD (K:Frag):Sp:=fun vs H Q _=>∃(t l:Addr) (x:Str),vs=[.ref t,.str x]/\H t=some (.tup [.str "refused", .ref l])/\zB K H l [.str x]/\∀H',Same H H'->Q (.bl true) H'
end Xv
namespace L2
open PySem PySem.Spec PyProof.Rows
section
variable {X:Cx}
theorem zn2 {K:Frag}(hK:X.K=K)(hu:X.A.units+8<cLine):Uj X (compareOp .NotEq) (fun x y H Q=>rNe x y H Q\/∃b,¬(v7 x=true/\v7 y=true)/\JQ K H 8 x y b/\Q (.bl (!b)) H):=Uj.or Pn (zjW hK hu)
end
theorem Rv {i j:Int}{A B:Prop}(n:i≠j)(h:B):if decide (V.int i=V.int j)=true then A else B:=by
 rw[if_neg]
 ·exact h
 ·intro c
  injection of_decide_eq_true c with e
  exact n e
theorem ifY {i:Int}{A B:Prop}(h:A):if decide (V.int i=V.int i)=true then A else B:=by
 rw[if_pos (decide_eq_true rfl)]
 exact h
section
variable {K:Frag}{σ:St}{js:List Nat}{tt:TT}{te:TE}{H:Hp}{Qf:Addr->Hp->List V->Prop}
theorem Xl {a:Addr}{xs:List V}(p:V->Bool)(hq:zB K H a xs)(hz:xs.length<=sizeLine)(hte:∀x H' Q,Q x H'->te (Xu σ js (some x)) H' Q)
  (hs:∀(x:V) H' (Q:Bool->Hp->Prop),x∈xs->Same H H'->(∀H2,Same H H2->Q (p x) H2)->tt (Xu σ js (some x)) H' Q)
  (hd:∀H' l,Same H H'->H' l=none->Qf l H' (xs.filter p)) :
  ∃W:Nat->Nat->List V->Hp->Prop,(∃m,W 0 m [] H)/\∀i m ys H,W i m ys H ->
   ((Itl K a).stop i H/\∀p,H p=none->Qf p H ys) \/
   ((Itl K a).go i H/\ys.length<sizeLine/\∀x H',(Itl K a).KQ i H x H'->tt (Xu σ js (some x)) H' fun b H2 =>
    if b=true then te (Xu σ js (some x)) H2 fun v H3=>∃m',m'<m/\W (i+1) m' (ys++[v]) H3 else ∃m',m'<m/\W (i+1) m' ys H2):=by
 refine⟨fun i m ys H'=>m=xs.length-i/\i<=xs.length/\Same H H'/\ys=(xs.take i).filter p,⟨_,by rw[Nat.sub_zero],zuy _,Same.refl _,rfl⟩,?_⟩
 rintro i m ys H1 ⟨rfl,hi,g,rfl⟩
 have hy:((xs.take i).filter p).length<=i:=by
  have:=zuK p (xs.take i)
  rw[zuz] at this
  omega
 by_cases hlt:i<xs.length
 ·have hb:xs[i]?=some xs[i]:=zud hlt
  generalize xs[i]=b at hb
  refine .inr ⟨⟨_,_,g.seq hq,hb⟩,by omega,fun x H' y=>?_⟩
  obtain⟨e,y⟩:=y
  subst e
  have ex:=y _ (g.seq hq)
  rw[hb] at ex
  cases ex
  refine hs _ _ _ (zuh hb) g fun H2 g2=>?_
  cases e:p b with
  | true =>
   rw[if_pos rfl]
   refine hte _ _ _ ⟨_,Nat.sub_lt_sub_left hlt (Nat.lt_succ_self i),rfl,hlt,g2,?_⟩
   rw[xK hb,zuP,List.filter_cons_of_pos e]
   rfl
  | false =>
   rw[if_neg zug]
   refine⟨_,Nat.sub_lt_sub_left hlt (Nat.lt_succ_self i),rfl,hlt,g2,?_⟩
   rw[xK hb,zuP,List.filter_cons_of_neg (by rw[e];exact zug),List.filter_nil,List.append_nil]
 ·have e:i=xs.length:=by omega
  subst e
  refine .inl ⟨⟨_,g.seq hq,zus _⟩,fun l hl=>?_⟩
  rw[zuE]
  exact hd _ l g hl
def sgs (x:Str):List V:=x.cps.toList.map fun c=>V.str ⟨#[c]⟩
theorem zkE {x:Str}(p:V->Bool)(hz:x.cps.size<=sizeLine)(hte:∀x H' Q,Q x H'->te (Xu σ js (some x)) H' Q)
  (hs:∀(v:V) H' (Q:Bool->Hp->Prop),v∈sgs x->Same H H'->(∀H2,Same H H2->Q (p v) H2)->tt (Xu σ js (some v)) H' Q)
  (hd:∀H' l,Same H H'->H' l=none->Qf l H' ((sgs x).filter p)) :
  ∃W:Nat->Nat->List V->Hp->Prop,(∃m,W 0 m [] H)/\∀i m ys H,W i m ys H ->
   ((Its x).stop i H/\∀p,H p=none->Qf p H ys) \/
   ((Its x).go i H/\ys.length<sizeLine/\∀v H',(Its x).KQ i H v H'->tt (Xu σ js (some v)) H' fun b H2 =>
    if b=true then te (Xu σ js (some v)) H2 fun v H3=>∃m',m'<m/\W (i+1) m' (ys++[v]) H3 else ∃m',m'<m/\W (i+1) m' ys H2):=by
 have ls:(sgs x).length=x.cps.size:=by unfold sgs;rw[zuc];exact Array.length_toList
 refine⟨fun i m ys H'=>m=x.cps.size-i/\i<=x.cps.size/\Same H H'/\ys=((sgs x).take i).filter p,⟨_,rfl,zuy _,Same.refl _,rfl⟩,?_⟩
 rintro i m ys H1 ⟨rfl,hi,g,rfl⟩
 have hy:(((sgs x).take i).filter p).length<=i:=by
  have:=zuK p ((sgs x).take i)
  rw[zuz] at this
  omega
 by_cases hlt:i<x.cps.size
 ·refine .inr ⟨hlt,by omega,fun v H' y=>?_⟩
  obtain⟨e,c,hc,rfl⟩:=y
  subst e
  have hb:(sgs x)[i]?=some (.str ⟨#[c]⟩):=by
   unfold sgs
   rw[zue,Array.getElem?_toList,hc]
   rfl
  refine hs _ _ _ (zuh hb) g fun H2 g2=>?_
  cases e:p (.str ⟨#[c]⟩) with
  | true =>
   rw[if_pos rfl]
   refine hte _ _ _ ⟨_,Nat.sub_lt_sub_left hlt (Nat.lt_succ_self i),rfl,hlt,g2,?_⟩
   rw[xK hb,zuP,List.filter_cons_of_pos e]
   rfl
  | false =>
   rw[if_neg zug]
   refine⟨_,Nat.sub_lt_sub_left hlt (Nat.lt_succ_self i),rfl,hlt,g2,?_⟩
   rw[xK hb,zuP,List.filter_cons_of_neg (by rw[e];exact zug),List.filter_nil,List.append_nil]
 ·have e:i=x.cps.size:=by omega
  subst e
  refine .inl ⟨rfl,fun l hl=>?_⟩
  rw[<-ls,zuE]
  exact hd _ l g hl
end
end L2
namespace Xv
open PySem L2 vp
def zcl (os:List Str)(rs:List Rm)(x:Int):Prop:=∃k:Nat,x=(k:Nat)/\vN os rs k
def zfs (C D:Addr):Sp:=fun vs H _ E=>∃(b:Addr) (os:List Str) (rs:List Rm) (F:yX),vs=[.ref b]/\yh C H b os rs F/\¬yG os/\∀H',Same H H'->E (.ref D) none H'
def zft (C D:Addr):Sp:=fun vs H Q E=>RW C vs H Q E\/zfs C D vs H Q E
def zkF (C D:Addr):Sp:=fun vs H _ E=>∃(b:Addr) (os:List Str) (rs:List Rm) (F:yX) (x:Int),vs=[.ref b,.int x]/\yh C H b os rs F/\Small x/\¬zcl os rs x/\∀H',Same H H'->E (.ref D) none H'
def zkG (C D:Addr):Sp:=fun vs H Q E=>Jg C vs H Q E\/zkF C D vs H Q E
def zeh (Do Dr:Addr)(H:Hp)(os:List Str)(rs:List Rm)(i:Int)(xs:List Int)(E:XK):Prop:=Small i/\(∀x∈xs,Small x)/\((¬yG os/\∀H',Same H H'->E (.ref Do) none H')\/(yG os/\(Bad rs.length i\/∃x∈xs,¬zcl os rs x)/\∀H',Same H H'->E (.ref Dr) none H'))
theorem zeh.mono {Do Dr:Addr}{H H1:Hp}{os:List Str}{rs:List Rm}{i:Int}{xs:List Int}{E:XK}(h:zeh Do Dr H os rs i xs E)(g:Same H H1):zeh Do Dr H1 os rs i xs E :=
 ⟨h.1,h.2.1,h.2.2.imp (fun z=>⟨z.1,fun H' g'=>z.2 H' (g.trans g')⟩) fun z=>⟨z.1,z.2.1,fun H' g'=>z.2.2 H' (g.trans g')⟩⟩
section
variable (C Do Dr:Addr)(K:Frag)
def X5:Sp:=fun vs H _ E=>∃(b l:Addr) (os:List Str) (rs:List Rm) (F:yX) (i:Int) (xs:List Int),vs=[.ref b,.int i,.ref l]/\yh C H b os rs F/\zB K H l (xs.map V.int)/\xs.length<=20/\zeh Do Dr H os rs i xs E
def QJ:Sp:=fun vs H _ E=>∃(b:Addr) (os:List Str) (rs:List Rm) (F:yX) (i x:Int),vs=[.ref b,.int i,.int x]/\yh C H b os rs F/\zeh Do Dr H os rs i [x] E
def zh9:Sp:=fun vs H _ E=>∃(b tl:Addr) (os:List Str) (rs:List Rm) (F:yX) (i x:Int) (ys:List Int),vs=[.ref b,.int i,.int x,.ref tl]/\yh C H b os rs F/\zB K H tl (ys.map V.int)/\ys.length<=10/\zeh Do Dr H os rs i (x::ys) E
def zkH:Sp:=fun vs H _ E=>∃(b:Addr) (os:List Str) (rs:List Rm) (F:yX) (i x y:Int),vs=[.ref b,.int i,.int x,.int y]/\yh C H b os rs F/\zeh Do Dr H os rs i [x,y] E
def zfu:Sp:=fun vs H _ E=>∃(b:Addr) (os:List Str) (rs:List Rm) (F:yX) (i x y:Int) (v:V),vs=[.ref b,.int i,.int x,.int y,v]/\yh C H b os rs F/\zeh Do Dr H os rs i [x,y] E
def zfv:Sp:=fun vs H Q _=>∃(b rl:Addr) (os:List Str) (rs:List Rm) (F:yX) (k i j:Nat),vs=[.ref b,.int (k:Nat),.int (i:Nat),.int (j:Nat),.ref rl]/\yh C H b os rs F/\yG os/\k<rs.length/\vN os rs i/\vN os rs j/\H rl=some (.lst [])/\∀H',Same H H'->Q (.bl false) H'
end
structure T5 (C:Addr)(H:Hp)(b:Addr)(os:List Str)(m:Nat)(rs:List Rm)(F:yX)(i x y:Int)(w gi gx gy:Bool):Prop where
 bk:yh C H b os rs F
 hi:JR os.length rs<=m
 w1:w=true->yG os
 w0:w=false->¬yG os
 i1:gi=true->∃k:Nat,i=(k:Nat)/\k<rs.length
 i0:gi=false->i<0\/100000<=i
 x1:gx=true->w=true->zcl os rs x
 x0:gx=false->w=true->(x<0\/100000<=x)\/∃k:Nat,x=(k:Nat)/\k<rs.length/\¬vN os rs k
 y1:gy=true->w=true->zcl os rs y
 y0:gy=false->w=true->(y<0\/100000<=y)\/∃k:Nat,y=(k:Nat)/\k<rs.length/\¬vN os rs k
 si:Small i
 sx:Small x
 sy:Small y
theorem zcl.grown {os:List Str}{rs rs':List Rm}(B:Bk os.length rs)(g:wU rs rs'){x:Int}(h:zcl os rs x):zcl os rs' x:=let ⟨k,e,o⟩:=h;⟨k,e,o.grown B g⟩
theorem zcm {os:List Str}{rs rs':List Rm}(B:Bk os.length rs)(g:wU rs rs'){k:Nat}(hk:k<rs.length)(h:¬vN os rs k):¬vN os rs' k:=fun z=>h ⟨hk,fun p hp b hb v=>by
 have:=z.2 p hp b hb v
 show yes rs k _=yes rs k _
 have e1:=g.yes B hk (uO (zU b p v))
 have e2:=g.yes B hk (uO b)
 rw[<-e1,<-e2]
 exact this⟩
theorem T5.mono {C:Addr}{H H':Hp}{b:Addr}{os:List Str}{m:Nat}{rs:List Rm}{F:yX}{i x y:Int}{w gi gx gy:Bool}(h:T5 C H b os m rs F i x y w gi gx gy)(g:Same H H'):T5 C H' b os m rs F i x y w gi gx gy:={ h with bk:=(z9 C).same h.bk g }
theorem T5.swap {C:Addr}{H:Hp}{b:Addr}{os:List Str}{m:Nat}{rs:List Rm}{F:yX}{i x y:Int}{w gi gx gy:Bool}(h:T5 C H b os m rs F i x y w gi gx gy):T5 C H b os m rs F i y x w gi gy gx:=⟨h.bk,h.hi,h.w1,h.w0,h.i1,h.i0,h.y1,h.y0,h.x1,h.x0,h.si,h.sy,h.sx⟩
def wF (c:Nat)(w gi gx gy:Bool):Option Nat:=if w then (if gi&&gx&&(decide (c<5)||gy) then none else some 2) else some 0
def gb (c:Nat):Nat:=if c=4 then 16128 else 63
def WM (C:Addr)(cs:List Addr)(n0:Nat)(d:Option Nat)(H:Hp)(b:Addr)(os:List Str)(rs:List Rm)(F:yX)(Q:VK)(E:XK):Prop:=match d with
 | none=>∀(H':Hp) (rs':List Rm),zd4 F H H'->wz H H'->yh C H' b os rs' F->wU rs rs'->JR os.length rs'<=JR os.length rs+n0->∀v,Q v H'
 | some n=>∀H',Same H H'->E (.ref (cs.getD n 0)) none H'
theorem WM.of {C:Addr}{cs:List Addr}{n0:Nat}{d:Option Nat}{H H1:Hp}{b:Addr}{os:List Str}{rs:List Rm}{F:yX}{Q Q':VK}{E:XK}(h:WM C cs n0 d H b os rs F Q E)(g:Same H H1)(f:∀v' H',Q .non H'->Q' v' H'):WM C cs n0 d H1 b os rs F Q' E:=by
 cases d with
 | none=>exact fun H' rs' aw tu hB gr hh v=>f v H' (h H' rs' (fun x o e n=>aw x o (g _ _ e) n) (fun x o e=>tu x o (g _ _ e)) hB gr hh .non)
 | some n=>exact fun H' g'=>h H' (g.trans g')
inductive F78 (C:Addr)(cs:List Addr)(c m:Nat)(P:Hp->Addr->Int->Prop)(ar:V->V->V->V->V->List V)(vs:List V)(H:Hp)(Q:VK)(E:XK):Prop
 | mk (b l:Addr) (i x y:Int) (w gi gx gy:Bool) (os:List Str) (rs:List Rm) (F:yX) (_:vs=ar (.ref b) (.int i) (.int x) (.int y) (.ref l)) (_:T5 C H b os m rs F i x y w gi gx gy) (_:P H l y) (_:WM C cs (gb c) (wF c w gi gx gy) H b os rs F Q E):F78 C cs c m P ar vs H Q E
def Rk (C:Addr)(cs:List Addr)(c m:Nat)(P:Hp->Addr->Int->Prop)(ar:V->V->V->V->V->List V):Sp:=F78 C cs c m P ar
abbrev P0:Hp->Addr->Int->Prop:=fun _ _ _=>True
abbrev P1:Hp->Addr->Int->Prop:=fun H l y=>H l=some (.lst [.int y])
abbrev P2:Hp->Addr->Int->Prop:=fun H l _=>H l=some (.lst [])
inductive zia (C:Addr)(cs:List Addr)(m:Nat)(vs:List V)(H:Hp)(Q:VK)(E:XK):Prop
 | mk (c:Nat) (b:Addr) (i x y:Int) (w gi gx gy:Bool) (os:List Str) (rs:List Rm) (F:yX) (_:vs=[.int (c:Nat),.ref b,.int i,.int x,.int y]) (_:c<9) (_:T5 C H b os m rs F i x y w gi gx gy) (_:WM C cs (gb c) (wF c w gi gx gy) H b os rs F Q E):zia C cs m vs H Q E
def zdw (C:Addr)(cs:List Addr)(m:Nat):Sp:=zia C cs m
inductive zmZ (C:Addr)(m:Nat)(vs:List V)(H:Hp)(Q:VK)(E:XK):Prop
 | mk (c:Nat) (b:Addr) (i x y:Int) (w gi gx gy:Bool) (os:List Str) (rs:List Rm) (F:yX) (_:vs=[.int (c:Nat),.ref b,.int i,.int x,.int y]) (_:c<9) (_:T5 C H b os m rs F i x y w gi gx gy) (_:(wF c w gi gx gy=none->∀(H':Hp) (rs':List Rm),zd4 F H H'->wz H H'->yh C H' b os rs' F->wU rs rs'->JR os.length rs'<=JR os.length rs+gb c->Q (.str "nothing") H')) (_:∀n,wF c w gi gx gy=some n->∀(t l:Addr) (H':Hp),Same H H'->H' t=some (.tup [.str "refused", .ref l])->H' l=some (.lst [.str (Xw.getD n "")])->Q (.ref t) H'):zmZ C m vs H Q E
def zib (C:Addr)(m:Nat):Sp:=zmZ C m
theorem T5.len {C:Addr}{H:Hp}{b:Addr}{os:List Str}{m:Nat}{rs:List Rm}{F:yX}{i x y:Int}{w gi gx gy:Bool}(h:T5 C H b os m rs F i x y w gi gx gy):rs.length<=m+16:=zux (zj8 ((z9 C).bk h.bk)) (Nat.add_le_add_right h.hi _)
theorem T5.ref {C:Addr}{cs:List Addr}{H:Hp}{b:Addr}{os:List Str}{m:Nat}{rs:List Rm}{F:yX}{i x y:Int}{w gi gx gy:Bool}{Q:VK}{E:XK}(h:T5 C H b os m rs F i x y w gi gx gy)(hm:m<=80000)(c:Nat)(xs:List Int)(hx:x∈xs)(hy:5<=c->y∈xs)(ss:∀z∈xs,z=x\/z=y)
  (q:WM C cs (gb c) (wF c w gi gx gy) H b os rs F Q E)(no:¬(w=true/\gi=true/\gx=true/\(5<=c->gy=true))):zeh (cs.getD 0 0) (cs.getD 2 0) H os rs i xs E:=by
 have ln:=h.len
 refine⟨h.si,fun z hz=>(ss z hz).elim (fun e=>e ▸ h.sx) fun e=>e ▸ h.sy,?_⟩
 cases w with
 | false=>exact .inl ⟨h.w0 rfl,q⟩
 | true =>
  refine .inr ⟨h.w1 rfl,?_,?_⟩
  ·have far:∀z:Int,z<0\/100000<=z->Bad rs.length z:=fun z hz=>by
    rcases hz with hz | hz
    ·exact .inl hz
    ·exact .inr (by omega)
   have nn:∀z:Int,((z<0\/100000<=z)\/∃k:Nat,z=(k:Nat)/\k<rs.length/\¬vN os rs k)->¬zcl os rs z:=fun z hz ⟨k,e,o⟩=>by
    have:=o.1
    rcases hz with hz | ⟨k',e',_,n⟩
    ·omega
    ·have:k=k':=by omega
     subst this
     exact n o
   cases gi with
   | false=>exact .inl (far _ (h.i0 rfl))
   | true =>
    cases gx with
    | false=>exact .inr ⟨x,hx,nn x (h.x0 rfl rfl)⟩
    | true =>
     cases gy with
     | false =>
      by_cases c5:5<=c
      ·exact .inr ⟨y,hy c5,nn y (h.y0 rfl rfl)⟩
      ·exact absurd ⟨rfl,rfl,rfl,fun z=>absurd z c5⟩ no
     | true=>exact absurd ⟨rfl,rfl,rfl,fun _=>rfl⟩ no
  ·have e:wF c true gi gx gy=some 2:=by
    unfold wF
    rw[if_pos rfl,if_neg]
    intro z
    rw[zuD,zuD,Bool.or_eq_true] at z
    refine no ⟨rfl,z.1.1,z.1.2,fun c5=>?_⟩
    rcases z.2 with y | y
    ·exact absurd (of_decide_eq_true y) (by omega)
    ·exact y
   rw[e] at q
   exact q
theorem T5.none {C:Addr}{cs:List Addr}{H:Hp}{b:Addr}{os:List Str}{rs:List Rm}{F:yX}{w gi gx gy:Bool}{Q:VK}{E:XK}{c:Nat}(q:WM C cs (gb c) (wF c w gi gx gy) H b os rs F Q E)(y:w=true/\gi=true/\gx=true/\(5<=c->gy=true)):WM C cs (gb c) none H b os rs F Q E:=by
 obtain⟨rfl,rfl,rfl,z⟩:=y
 have e:wF c true true true gy=.none:=by
  unfold wF
  rw[if_pos rfl,if_pos]
  rw[Bool.true_and,Bool.true_and,Bool.or_eq_true]
  by_cases c5:5<=c
  ·exact .inr (z c5)
  ·exact .inl (decide_eq_true (by omega))
 rw[e] at q
 exact q
section
variable {P:Program}{w:World}{K:Frag}{mg:Str->Option Value}{base:Heap}{k:Nat}{f:Addr}{fd:FuncData}{ps:List Str}{C D D':Addr}{cs:List Addr}{m:Nat}
theorem RX (c:Nat)(hc:c<5)(hm:m<=80000)(e:cs.getD 0 0=D)(e':cs.getD 2 0=D'){sp:Sp}(S:zy P w K mg base yq k f fd ps sp)(R:zy P w K mg base (ZK P w) k f fd ps (QJ C D D'))
  (hs:∀(b:Addr) (os:List Str) (rs:List Rm) (F:yX) (k j:Nat) (H:Hp) (Q:VK) (E:XK),yh C H b os rs F->rs.length<=6000000->yG os->k<rs.length->vN os rs j->WM C cs (gb c) none H b os rs F Q E->sp [.ref b,.int (k:Nat),.int (j:Nat)] H Q E) :
  zy P w K mg base (ZK P w) k f fd ps (Rk C cs c m P0 fun b i x _ _=>[b,i,x]):=(S.lift.orE R).imp fun vs H Q E h=>by
 obtain⟨b,l,i,x,y,w,gi,gx,gy,os,rs,F,rfl,h,_,q⟩:=h
 subst e e'
 by_cases z:w=true/\gi=true/\gx=true/\(5<=c->gy=true)
 ·obtain⟨kk,rfl,hk⟩:=h.i1 z.2.1
  obtain⟨j,rfl,hj⟩:=h.x1 z.2.2.1 z.1
  have ln:=h.len
  exact .inl (hs b os rs F kk j H Q E h.bk (by omega) (h.w1 z.1) hk hj (T5.none q z))
 ·exact .inr ⟨b,os,rs,F,i,x,rfl,h.bk,h.ref hm c [x] (by simp) (fun c5=>by omega) (fun z hz=>.inl (by simpa using hz)) q z⟩
theorem zkI (hm:m<=80000)(e:cs.getD 0 0=D)(e':cs.getD 2 0=D')(S:zy P w K mg base yq k f fd ps (Lk C K))(R:zy P w K mg base (ZK P w) k f fd ps (zh9 C D D' K)) :
  zy P w K mg base (ZK P w) k f fd ps (Rk C cs 5 m P1 fun b i x _ l=>[b,i,x,l]):=(S.lift.orE R).imp fun vs H Q E h=>by
 obtain⟨b,l,i,x,y,w,gi,gx,gy,os,rs,F,rfl,h,hl,q⟩:=h
 subst e e'
 by_cases z:w=true/\gi=true/\gx=true/\(5<=5->gy=true)
 ·obtain⟨kk,rfl,hk⟩:=h.i1 z.2.1
  obtain⟨j,rfl,hj⟩:=h.x1 z.2.2.1 z.1
  obtain⟨j',rfl,hj'⟩:=h.y1 (z.2.2.2 (zus _)) z.1
  have q':=T5.none q z
  exact .inl ⟨b,l,os,rs,F,kk,j,[j'],rfl,h.bk,h.w1 z.1,hk,hj,zB.of hl,(fun i hi=>by rw[List.mem_singleton.mp hi];exact hj'),by show 1<=800;decide,fun H' _ _ g _ _=>q' H' rs (fun x o e _=>g _ _ e) (wz.of g) ((z9 C).same h.bk g) (wU.refl _) (zuM _ _) _⟩
 ·exact .inr ⟨b,l,os,rs,F,i,x,[y],rfl,h.bk,zB.of hl,by show 1<=10;decide,h.ref hm 5 [x,y] (by simp) (fun c5=>by simp) (fun z hz=>by simpa using hz) q z⟩
theorem zmq (c:Nat)(hc:5<=c)(hm:m<=80000)(e:cs.getD 0 0=D)(e':cs.getD 2 0=D')(S:zy P w K mg base yq k f fd ps (zh3 C))(R:zy P w K mg base (ZK P w) k f fd ps (zkH C D D')) :
  zy P w K mg base (ZK P w) k f fd ps (Rk C cs c m P0 fun b i x y _=>[b,i,x,y]):=(S.lift.orE R).imp fun vs H Q E h=>by
 obtain⟨b,l,i,x,y,w,gi,gx,gy,os,rs,F,rfl,h,hl,q⟩:=h
 subst e e'
 by_cases z:w=true/\gi=true/\gx=true/\(5<=c->gy=true)
 ·obtain⟨kk,rfl,hk⟩:=h.i1 z.2.1
  obtain⟨j,rfl,hj⟩:=h.x1 z.2.2.1 z.1
  obtain⟨j',rfl,hj'⟩:=h.y1 (z.2.2.2 hc) z.1
  have q':=T5.none q z
  have fin:∀H',Same H H'->∀v,Q v H':=fun H' g=>q' H' rs (fun x o e _=>g _ _ e) (wz.of g) ((z9 C).same h.bk g) (wU.refl _) (zuM _ _)
  exact .inl ⟨b,os,rs,F,kk,j,j',rfl,h.bk,h.w1 z.1,hk,hj,hj',fun H' _ g _ _=>fin H' g _,fun _ H' _ _ _ g _ _ _ _ _ _ _=>fin H' g _⟩
 ·exact .inr ⟨b,os,rs,F,i,x,y,rfl,h.bk,h.ref hm c [x,y] (by simp) (fun c5=>by simp) (fun z hz=>by simpa using hz) q z⟩
theorem zn3 (hm:m<=80000)(e:cs.getD 0 0=D)(e':cs.getD 2 0=D')(S:zy P w K mg base yq k f fd ps (zfv C))(R:zy P w K mg base (ZK P w) k f fd ps (zfu C D D')) :
  zy P w K mg base (ZK P w) k f fd ps (Rk C cs 8 m P2 fun b i x y l=>[b,i,x,y,l]):=(S.lift.orE R).imp fun vs H Q E h=>by
 obtain⟨b,l,i,x,y,w,gi,gx,gy,os,rs,F,rfl,h,hl,q⟩:=h
 subst e e'
 by_cases z:w=true/\gi=true/\gx=true/\(5<=8->gy=true)
 ·obtain⟨kk,rfl,hk⟩:=h.i1 z.2.1
  obtain⟨j,rfl,hj⟩:=h.x1 z.2.2.1 z.1
  obtain⟨j',rfl,hj'⟩:=h.y1 (z.2.2.2 (by decide)) z.1
  have q':=T5.none q z
  exact .inl ⟨b,l,os,rs,F,kk,j,j',rfl,h.bk,h.w1 z.1,hk,hj,hj',hl,fun H' g=>q' H' rs (fun x o e _=>g _ _ e) (wz.of g) ((z9 C).same h.bk g) (wU.refl _) (zuM _ _) _⟩
 ·exact .inr ⟨b,os,rs,F,i,x,y,_,rfl,h.bk,h.ref hm 8 [x,y] (by simp) (fun c5=>by simp) (fun z hz=>by simpa using hz) q z⟩
end
theorem zpv {x:Str}(hx:x∈uI):∃u:Str,u≠x/\∃p∈prs,(p.1=x/\p.2=u)\/(p.1=u/\p.2=x):=by
 have:∀x∈uI,∃u∈uI,u≠x/\∃p∈prs,(p.1=x/\p.2=u)\/(p.1=u/\p.2=x):=by decide +kernel
 obtain⟨u,_,h⟩:=this x hx
 exact⟨u,h⟩
theorem zei {os:List Str}(hW:yG os){x u:Str}{p:Str×Str}(hp:p∈prs)(e:(p.1=x/\p.2=u)\/(p.1=u/\p.2=x)):x∈os↔u∈os:=by
 have:=hW p hp
 rcases e with ⟨e1,e2⟩ | ⟨e1,e2⟩<;>rw[e1,e2] at this<;>constructor<;>intro h
 ·have z:=List.contains_iff_mem.mpr h
  rw[this] at z
  exact List.contains_iff_mem.mp z
 ·have z:=List.contains_iff_mem.mpr h
  rw[<-this] at z
  exact List.contains_iff_mem.mp z
 ·have z:=List.contains_iff_mem.mpr h
  rw[<-this] at z
  exact List.contains_iff_mem.mp z
 ·have z:=List.contains_iff_mem.mpr h
  rw[this] at z
  exact List.contains_iff_mem.mp z
theorem zbE {x:Str}{t zs:List Str}(ho:uJ (x::t))(hW:yG (x::t))(hz:∀z∈zs,z∉x::t):¬yG (zs++t):=fun hV=>by
 obtain⟨u,ne,p,hp,e⟩:=zpv (ho.mem x (zuv ..))
 have hu:u∈x::t:=(zei hW hp e).mp (zuv ..)
 have ut:u∈t:=(List.mem_cons.mp hu).resolve_left ne
 have:=(zei hV hp e).mpr (zut _ ut)
 rcases List.mem_append.mp this with z | z
 ·exact hz x z (zuv ..)
 ·exact(List.nodup_cons.mp ho.nd).1 z
theorem zbF {x:Str}{t zs:List Str}(ho:uJ (x::t))(hW:yG (x::t))(hz:∀z∈zs,z∉x::t/\z∈uI)(nd:zs.Nodup):uJ (zs++t):=by
 have nx:=List.nodup_cons.mp ho.nd
 refine⟨List.nodup_append.mpr ⟨nd,nx.2,fun a ha b hb e=>(hz a ha).1 (zun _ (e ▸ hb))⟩,fun y hy=>?_,?_⟩
 ·rcases List.mem_append.mp hy with z | z
  ·exact(hz y z).2
  ·exact ho.mem y (zun _ z)
 ·obtain⟨u,ne,p,hp,e⟩:=zpv (ho.mem x (zuv ..))
  have hu:u∈x::t:=(zei hW hp e).mp (zuv ..)
  have ut:u∈t:=(List.mem_cons.mp hu).resolve_left ne
  have:=List.length_pos_of_mem ut
  rw[zuk]
  omega
def fB (x:Int):Bool:=decide (x<0)||decide (90000<x)
structure KR (C:Addr)(K:Frag)(sc:Addr)(ns:List Int)(H1:Hp)(ol bk rl bl:Addr)(os:List Str)(m:Nat)(H:Hp)(rs:List Rm)(F:yX)(z0 z1 z2 z3 z4:Bool)(i x y:Int):Prop where
 led:Uv C H1 bk os m H rs F
 hS:zB K H1 sc (ns.map V.int)
 hol:H1 ol=some (.lst (os.map V.str))
 hbl:H1 bl=some (.lst [.bl z0,.bl z1,.bl z2,.bl z3,.bl z4])
 ho:uJ os
 w1:z0=false->yG os/\0<(wZ os).length
 w0:z0=true->¬yG os
 hrl:H rl=some (.lst [.int i,.int x,.int y])
 nrl:¬F rl
 frl:H1 rl=none
section
variable {C:Addr}{K:Frag}{sc:Addr}{ns:List Int}{H1:Hp}{ol bk rl bl:Addr}{os:List Str}{m:Nat}{H H':Hp}{rs rs':List Rm}{F:yX}{z0 z1 z2 z3 z4:Bool}{i x y:Int}
theorem KR.new (h:KR C K sc ns H1 ol bk rl bl os m H rs F z0 z1 z2 z3 z4 i x y)(g:Same H H'):KR C K sc ns H1 ol bk rl bl os m H' rs F z0 z1 z2 z3 z4 i x y:={ h with led:=h.led.new g,hrl:=g _ _ h.hrl }
theorem KR.grow {n:Nat}(h:KR C K sc ns H1 ol bk rl bl os m H rs F z0 z1 z2 z3 z4 i x y)(aw:zd4 F H H')(hB:yh C H' bk os rs' F)(hh:JR os.length rs'<=JR os.length rs+n):KR C K sc ns H1 ol bk rl bl os (m+n) H' rs' F z0 z1 z2 z3 z4 i x y:={ h with led:=h.led.rise aw hB hh,hrl:=aw _ _ h.hrl h.nrl }
theorem KR.set (h:KR C K sc ns H1 ol bk rl bl os m H rs F z0 z1 z2 z3 z4 i x y)(i' x' y':Int):KR C K sc ns H1 ol bk rl bl os m (upd H rl (.lst [.int i',.int x',.int y'])) rs F z0 z1 z2 z3 z4 i' x' y' :=
 {h with led:=⟨h.led.same.over h.frl _,h.led.away,(z9 C).lst h.led.bk h.hrl h.nrl _,h.led.hi⟩,hrl:=zm }
theorem KR.up {m':Nat}(h:KR C K sc ns H1 ol bk rl bl os m H rs F z0 z1 z2 z3 z4 i x y)(hm:m<=m'):KR C K sc ns H1 ol bk rl bl os m' H rs F z0 z1 z2 z3 z4 i x y:={ h with led:=h.led.up hm }
theorem KR.Vn (h:KR C K sc ns H1 ol bk rl bl os m H rs F z0 z1 z2 z3 z4 i x y):zB K H bl [.bl z0,.bl z1,.bl z2,.bl z3,.bl z4]:=zB.of (h.led.same _ _ h.hbl)
theorem KR.scL (h:KR C K sc ns H1 ol bk rl bl os m H rs F z0 z1 z2 z3 z4 i x y):zB K H sc (ns.map V.int):=h.led.same.seq h.hS
theorem KR.olL (h:KR C K sc ns H1 ol bk rl bl os m H rs F z0 z1 z2 z3 z4 i x y):zB K H ol (os.map V.str):=zB.of (h.led.same _ _ h.hol)
theorem KR.B (h:KR C K sc ns H1 ol bk rl bl os m H rs F z0 z1 z2 z3 z4 i x y):Bk os.length rs:=(z9 C).bk h.led.bk
end
def Jl (os:List Str)(rs:List Rm)(b:Bool)(x:Int):Prop:=∃k:Nat,x=(k:Nat)/\k<rs.length/\(b=false->vN os rs k)/\(b=true->¬vN os rs k)
theorem Jl.grown {os:List Str}{rs rs':List Rm}(B:Bk os.length rs)(g:wU rs rs'){b:Bool}{x:Int}(h:Jl os rs b x):Jl os rs' b x:=by
 obtain⟨k,e,hk,a,c⟩:=h
 exact⟨k,e,zul hk g.len,fun z=>(a z).grown B g,fun z=>zcm B g hk (c z)⟩
theorem zfw {os:List Str}(ho:uJ os){rs:List Rm}{k:Nat}{s:Sn}(m:Means rs k (fun r=>s.val (zgK os r))){y:Str}(hy:y∈uL os)(hd:∃e:Str->Bool,s.val (fun z=>if z=y then true else e z)≠s.val (fun z=>if z=y then false else e z))(hs:s.V1 os):¬vN os rs k:=fun h=>by
 obtain⟨e,ne⟩:=hd
 refine ne ?_
 have hp:ix os y∈yp os:=List.mem_map.mpr ⟨y,hy,rfl⟩
 have yo:y∈os:=by
  unfold uL at hy
  obtain⟨p,hp',rfl⟩:=List.mem_map.mp hy
  exact List.contains_iff_mem.mp (List.mem_filter.mp hp').2
 have key:∀v:Bool,∃b,b<2^os.length/\∀j,j<os.length->b.testBit j=(if j=ix os y then v else e (os.getD j ⟨#[]⟩)):=fun v=>by
  refine⟨bits (fun j=>if j=ix os y then v else e (os.getD j ⟨#[]⟩)) os.length,vp.vm _ _,fun j hj=>?_⟩
  rw[Ye _ hj]
 obtain⟨b,hb,eb⟩:=key true
 have pl:ix os y<os.length:=uU _ hp
 have fr:=h.2 _ hp b hb false
 dsimp only at fr
 rw[m.2,m.2] at fr
 have fr:s.val (zgK os (uO (zU b (ix os y) false)))=s.val (zgK os (uO b)):=fr
 have gx:∀{z:Str},z∈os->os.getD (ix os z) ⟨#[]⟩=z:=fun {z} hz=>by
  rw[zup,(Ze hz).2.2]
  rfl
 have v1:s.val (zgK os (uO b))=s.val (fun z=>if z=y then true else e z):=Sn.val_congr s hs fun z hz=>by
  show b.testBit (ix os z)=_
  have lz:=(Ze hz).2.1
  rw[eb _ lz]
  by_cases ez:z=y
  ·subst ez
   rw[if_pos rfl,if_pos rfl]
  ·have nz:ix os z≠ix os y:=fun w=>ez (ix_inj' hz yo w)
   rw[if_neg nz,if_neg ez,gx hz]
 have v2:s.val (zgK os (uO (zU b (ix os y) false)))=s.val (fun z=>if z=y then false else e z):=Sn.val_congr s hs fun z hz=>by
  show(zU b (ix os y) false).testBit (ix os z)=_
  have lz:=(Ze hz).2.1
  rw[zY]
  by_cases ez:z=y
  ·subst ez
   rw[if_pos rfl,if_pos rfl]
  ·have nz:ix os z≠ix os y:=fun w=>ez (ix_inj' hz yo w)
   rw[if_neg nz,if_neg ez,eb _ lz,if_neg nz,gx hz]
 rw[<-v1,<-v2,fr]
theorem zkJ {os:List Str}{x:Str}(h:x∈wZ os):x∈os:=by
 unfold wZ at h
 obtain⟨p,hp,rfl⟩:=List.mem_map.mp h
 exact List.contains_iff_mem.mp (List.mem_filter.mp hp).2
theorem zej {os:List Str}{x:Str}(h:x∈uL os):x∈os:=by
 unfold uL at h
 obtain⟨p,hp,rfl⟩:=List.mem_map.mp h
 exact List.contains_iff_mem.mp (List.mem_filter.mp hp).2
theorem NK {os:List Str}(ho:uJ os){x:Str}(h:x∈uL os):x∉wZ os:=fun h'=>by
 unfold uL at h
 unfold wZ at h'
 obtain⟨p,hp,rfl⟩:=List.mem_map.mp h
 obtain⟨q,hq,e⟩:=List.mem_map.mp h'
 have:∀p∈prs,∀q∈prs,q.1≠p.2:=by decide +kernel
 exact this p (List.mem_filter.mp hp).1 q (List.mem_filter.mp hq).1 e
theorem zic {os:List Str}(hW:yG os):(uL os).length=(wZ os).length:=by
 unfold uL wZ
 rw[zuc,zuc]
 exact congrArg List.length (List.filter_congr fun p hp=>(hW p hp).symm)
theorem zfx {os:List Str}(ho:uJ os)(hW:yG os)(hn:0<(wZ os).length) :
  (∀z∈os.filter ((fun v=>!inV v ((wZ os).map V.str)) ∘ V.str),z∈uL os)/\(os.filter ((fun v=>!inV v ((wZ os).map V.str)) ∘ V.str)).length<=(wZ os).length/\0<(os.filter ((fun v=>!inV v ((wZ os).map V.str)) ∘ V.str)).length:=by
 have key:∀z,z∈os.filter ((fun v=>!inV v ((wZ os).map V.str)) ∘ V.str)↔z∈os/\z∉wZ os:=fun z=>by
  rw[List.mem_filter]
  refine and_congr_right fun _=>?_
  show(!inV (.str z) ((wZ os).map V.str))=true↔_
  rw[X3]
  constructor
  ·intro h w
   rw[List.contains_iff_mem.mpr w] at h
   cases h
  ·intro h
   cases e:(wZ os).contains z with
   | false=>rfl
   | true=>exact absurd (List.contains_iff_mem.mp e) h
 have sub:∀z∈os.filter ((fun v=>!inV v ((wZ os).map V.str)) ∘ V.str),z∈uL os:=fun z hz=>by
  obtain⟨h1,h2⟩:=(key z).mp hz
  have:∀x∈uI,∃p∈prs,p.1=x\/p.2=x:=by decide +kernel
  obtain⟨p,hp,e | e⟩:=this z (ho.mem z h1)
  ·refine absurd ?_ h2
   unfold wZ
   exact List.mem_map.mpr ⟨p,List.mem_filter.mpr ⟨hp,by rw[e];exact List.contains_iff_mem.mpr h1⟩,e⟩
  ·unfold uL
   exact List.mem_map.mpr ⟨p,List.mem_filter.mpr ⟨hp,by rw[e];exact List.contains_iff_mem.mpr h1⟩,e⟩
 refine⟨sub,?_,?_⟩
 ·rw[<-zic hW]
  exact M7 (ho.nd.filter _) sub
 ·rw[<-zic hW] at hn
  obtain⟨z,hz⟩:=List.exists_mem_of_length_pos hn
  exact List.length_pos_of_mem ((key z).mpr ⟨zej hz,NK ho hz⟩)
def zn4 (d:Option Nat):Str:=match d with
 | none => "nothing"
 | some n=>Xw.getD n ""
theorem Yz {c:Nat}{z0 z3 z4 fi fx fy b1 b2:Bool}(h1:b1=(z3||(z4&&decide (4<c))))(h2:b2=(fi||fx||(decide (4<c)&&fy))) :
  zn4 (wF c (!z0) (!fi) (!(z3||fx)) (!(z4||fy)))=if z0 then Str.ofString "order" else if b2 then Str.ofString "room" else if b1 then Str.ofString "room" else Str.ofString "nothing" := by
 subst h1 h2
 unfold wF
 by_cases h:4<c
 ·rw[decide_eq_true h,decide_eq_false (by omega:¬c<5)]
  cases z0<;>cases fi<;>cases fx<;>cases fy<;>cases z3<;>cases z4<;>rfl
 ·rw[decide_eq_false h,decide_eq_true (by omega:c<5)]
  cases z0<;>cases fi<;>cases fx<;>cases fy<;>cases z3<;>cases z4<;>rfl
def T6 (os:List Str)(rs:List Rm)(z0 z:Bool)(x:Int):Prop:=Small x/\(fB x=true->x<0\/100000<=x)/\(fB x=false->z0=false->Jl os rs z x)
theorem T6.grown {os:List Str}{rs rs':List Rm}(B:Bk os.length rs)(g:wU rs rs'){z0 z:Bool}{x:Int}(h:T6 os rs z0 z x):T6 os rs' z0 z x:=⟨h.1,h.2.1,fun a b=>(h.2.2 a b).grown B g⟩
theorem T6.near {os:List Str}{rs:List Rm}{z0 z:Bool}{x:Int}(hx:∃k0:Nat,x=(k0:Nat)/\k0<rs.length)(hl:rs.length<=90000)(h:z0=false->Jl os rs z x):T6 os rs z0 z x:=by
 obtain⟨k,rfl,hk⟩:=hx
 have e:fB (k:Nat)=false:=by
  unfold fB
  rw[decide_eq_false (by omega),decide_eq_false (by omega)]
  rfl
 exact⟨zbC (zul (by omega:(k:Int).natAbs<100000) (by decide)),(fun w=>by rw[e] at w;cases w),fun _=>h⟩
theorem T6.far {os:List Str}{rs:List Rm}{z0 z:Bool}{x:Int}(s:Small x)(h:x<0\/100000<=x):T6 os rs z0 z x:=by
 refine⟨s,fun _=>h,fun e=>?_⟩
 exfalso
 unfold fB at e
 rw[Bool.or_eq_false_iff] at e
 have a:=of_decide_eq_false e.1
 have b:=of_decide_eq_false e.2
 omega
def zmr (rs:List Rm)(x:Int):Prop:=Small x/\(fB x=true->x<0\/100000<=x)/\(fB x=false->∃k0:Nat,x=(k0:Nat)/\k0<rs.length)
theorem KR.inn {C:Addr}{K:Frag}{sc:Addr}{ns:List Int}{H1:Hp}{ol bk rl bl:Addr}{os:List Str}{m:Nat}{H:Hp}{rs:List Rm}{F:yX}{z0 z1 z2 z3 z4:Bool}{i x y:Int}(h:KR C K sc ns H1 ol bk rl bl os m H rs F z0 z1 z2 z3 z4 i x y)(hm:m<=80000)(hi:zmr rs i)(hx:T6 os rs z0 z3 x)(hy:T6 os rs z0 z4 y) :
  T5 C H bk os 80000 rs F i x y (!z0) (!fB i) (!(z3||fB x)) (!(z4||fB y)) where
 bk:=h.led.bk
 hi:=zux h.led.hi hm
 w1:=fun z=>(h.w1 (by cases z0<;>simp_all)).1
 w0:=fun z=>h.w0 (by cases z0<;>simp_all)
 i1:=fun z=>hi.2.2 (by cases e:fB i<;>simp_all)
 i0:=fun z=>hi.2.1 (by cases e:fB i<;>simp_all)
 x1:=fun z w=>by
  have z0f:z0=false:=by cases z0<;>simp_all
  have e:fB x=false:=by cases e:fB x<;>simp_all
  have z3f:z3=false:=by cases z3<;>simp_all
  obtain⟨k,ek,hk,a,_⟩:=hx.2.2 e z0f
  exact⟨k,ek,a z3f⟩
 x0:=fun z w=>by
  have z0f:z0=false:=by cases z0<;>simp_all
  cases e:fB x with
  | true=>exact .inl (hx.2.1 e)
  | false =>
   have z3t:z3=true:=by cases z3<;>simp_all
   obtain⟨k,ek,hk,_,b⟩:=hx.2.2 e z0f
   exact .inr ⟨k,ek,hk,b z3t⟩
 y1:=fun z w=>by
  have z0f:z0=false:=by cases z0<;>simp_all
  have e:fB y=false:=by cases e:fB y<;>simp_all
  have z4f:z4=false:=by cases z4<;>simp_all
  obtain⟨k,ek,hk,a,_⟩:=hy.2.2 e z0f
  exact⟨k,ek,a z4f⟩
 y0:=fun z w=>by
  have z0f:z0=false:=by cases z0<;>simp_all
  cases e:fB y with
  | true=>exact .inl (hy.2.1 e)
  | false =>
   have z4t:z4=true:=by cases z4<;>simp_all
   obtain⟨k,ek,hk,_,b⟩:=hy.2.2 e z0f
   exact .inr ⟨k,ek,hk,b z4t⟩
 si:=hi.1
 sx:=hx.1
 sy:=hy.1
end Xv
namespace K78
open PySem L2
def top (i:Nat):Stmt:=PySem.Challenge.pw_decidebook_k78_worlds_refused.main.body.getD i (.Pass ⟨0,0,0,0⟩)
abbrev zbG:Stmt:=top 14
abbrev tW:List Str:=["marks"]
theorem zfy:zK ["marks"] tW (zx zbG):=fsc (by decide +kernel)
abbrev JW:Stmt:=top 15
abbrev vA:List Str:=["place", "marks"]
theorem Yi:zK ["place", "marks", "half", "table", "further"] vA (zx JW):=fsc (by decide +kernel)
abbrev zdx:Stmt:=top 16
abbrev Z5:List Str:=["table", "place", "marks"]
theorem NP:zK ["table", "place", "marks", "ones", "noughts"] Z5 (zx zdx):=fsc (by decide +kernel)
abbrev zdy:Stmt:=top 17
abbrev YB:List Str:=["table", "place", "value", "marks"]
theorem NQ:zK ["table", "place", "value", "marks", "ones", "kept"] YB (zx zdy):=fsc (by decide +kernel)
abbrev zbH:Stmt:=top 18
abbrev YC:List Str:=["table", "place", "marks"]
theorem zfz:zK ["table", "place", "marks"] YC (zx zbH):=fsc (by decide +kernel)
abbrev Py:Stmt:=top 19
abbrev ZC:List Str:=["table", "marks"]
theorem WQ:zK ["table", "marks", "place"] ZC (zx Py):=fsc (by decide +kernel)
abbrev zdz:Stmt:=top 20
abbrev YD:List Str:=["table", "other"]
theorem zgZ:zK ["table", "other"] YD (zx zdz):=fsc (by decide +kernel)
abbrev Pz:Stmt:=top 21
abbrev YS:List Str:=["places", "values", "marks"]
theorem ur:zK ["places", "values", "marks", "table", "place", "value", "ones"] YS (zx Pz):=fsc (by decide +kernel)
abbrev RZ:Stmt:=top 22
abbrev Yj:List Str:=["table", "places", "marks"]
theorem vU:zK ["table", "places", "marks", "values", "place", "low", "value"] Yj (zx RZ):=fsc (by decide +kernel)
abbrev zfA:Stmt:=top 23
abbrev Lw:List Str:=["where", "low", "high"]
theorem ziN:zK ["where", "low", "high"] Lw (zx zfA):=fsc (by decide +kernel)
abbrev zdA:Stmt:=top 29
abbrev Wn:List Str:=["letter"]
theorem zg0:zK ["letter"] Wn (zx zdA):=fsc (by decide +kernel)
abbrev T7:Stmt:=top 30
abbrev T8:List Str:=["order"]
theorem zfB:zK ["order"] T8 (zx T7):=fsc (by decide +kernel)
abbrev zkK:Stmt:=top 31
abbrev zkL:List Str:=["order", "row"]
abbrev Ly:Stmt:=top 32
abbrev Zg:List Str:=["sentence"]
theorem zcn:zK ["sentence"] Zg (zx Ly):=fsc (by decide +kernel)
abbrev zbI:Stmt:=top 33
abbrev tX:List Str:=["sentence"]
theorem zfC:zK ["sentence"] tX (zx zbI):=fsc (by decide +kernel)
abbrev R3:Stmt:=top 34
abbrev tY:List Str:=["level"]
theorem Xx:zK ["level", "found", "sentence"] tY (zx R3):=fsc (by decide +kernel)
abbrev Z6:Stmt:=top 35
abbrev Vo:List Str:=["some"]
theorem Lz:zK ["some", "shape"] Vo (zx Z6):=fsc (by decide +kernel)
abbrev YT:Stmt:=top 36
abbrev YW:List Str:=["some"]
theorem vH:zK ["some", "level", "deep", "tuples"] YW (zx YT):=fsc (by decide +kernel)
abbrev Rn:Stmt:=top 37
abbrev ZL:List Str:=["order"]
theorem Jm:zK ["order"] ZL (zx Rn):=fsc (by decide +kernel)
abbrev WR:Stmt:=top 38
abbrev uQ:List Str:=["some"]
theorem Pg:zK ["some"] uQ (zx WR):=fsc (by decide +kernel)
abbrev Uw:Stmt:=top 39
abbrev uw:List Str:=["order", "letter"]
theorem LC:zK ["order", "letter"] uw (zx Uw):=fsc (by decide +kernel)
abbrev Vp:Stmt:=top 40
abbrev tK:List Str:=["order", "sentence"]
theorem WT:zK ["order", "sentence", "letter"] tK (zx Vp):=fsc (by decide +kernel)
abbrev zco:Stmt:=top 41
abbrev PB:List Str:=["order", "row"]
abbrev JX:Stmt:=top 42
abbrev Vq:List Str:=["sentence"]
theorem X6:zK ["sentence", "found", "level"] Vq (zx JX):=fsc (by decide +kernel)
abbrev LK:Stmt:=top 43
abbrev X7:List Str:=["sentence"]
theorem V5:zK ["sentence", "found", "part"] X7 (zx LK):=fsc (by decide +kernel)
abbrev T9:Stmt:=top 44
abbrev YF:List Str:=["sentence", "order"]
theorem Vr:zK ["sentence", "order", "word", "marks", "tables"] YF (zx T9):=fsc (by decide +kernel)
abbrev R4:Stmt:=top 45
abbrev ux:List Str:=["word", "one", "other", "every"]
theorem zah:zK ["word", "one", "other", "every"] ux (zx R4):=fsc (by decide +kernel)
abbrev Vs:Stmt:=top 48
abbrev Xm:List Str:=["book"]
theorem zek:zK ["book"] Xm (zx Vs):=fsc (by decide +kernel)
abbrev X8:Stmt:=top 49
abbrev Wa:List Str:=["book"]
theorem zcp:zK ["book"] Wa (zx X8):=fsc (by decide +kernel)
abbrev Wb:Stmt:=top 50
abbrev uR:List Str:=["book"]
theorem zcq:zK ["book"] uR (zx Wb):=fsc (by decide +kernel)
abbrev YX:Stmt:=top 51
abbrev uf:List Str:=["book"]
theorem zbJ:zK ["book"] uf (zx YX):=fsc (by decide +kernel)
abbrev Ro:Stmt:=top 52
abbrev vo:List Str:=["book"]
theorem wG:zK ["book", "order", "now", "then"] vo (zx Ro):=fsc (by decide +kernel)
abbrev Ux:Stmt:=top 53
abbrev wV:List Str:=["book", "room"]
theorem tL:zK ["book", "room", "place"] wV (zx Ux):=fsc (by decide +kernel)
abbrev Xn:Stmt:=top 54
abbrev zH:List Str:=["book", "steps", "rooms"]
theorem vL:zK ["book", "steps", "rooms", "room"] zH (zx Xn):=fsc (by decide +kernel)
abbrev zid:Stmt:=top 55
abbrev LQ:List Str:=["book", "steps", "room"]
theorem zfD:zK ["book", "steps", "room"] LQ (zx zid):=fsc (by decide +kernel)
abbrev zbK:Stmt:=top 56
abbrev WW:List Str:=["book", "steps", "room"]
theorem JZ:zK ["book", "steps", "room"] WW (zx zbK):=fsc (by decide +kernel)
abbrev zie:Stmt:=top 57
abbrev QK:List Str:=["book", "steps", "table"]
theorem zbL:zK ["book", "steps", "table", "marks", "led"] QK (zx zie):=fsc (by decide +kernel)
abbrev zfE:Stmt:=top 58
abbrev Uy:List Str:=["book", "steps", "table"]
theorem Jo:zK ["book", "steps", "table", "marks", "goal"] Uy (zx zfE):=fsc (by decide +kernel)
abbrev zdB:Stmt:=top 59
abbrev Uz:List Str:=["table", "places", "marks"]
theorem NT:zK ["table", "places", "marks", "place"] Uz (zx zdB):=fsc (by decide +kernel)
abbrev zif:Stmt:=top 60
abbrev LR:List Str:=["table", "places", "others", "marks"]
theorem UG:zK ["table", "places", "others", "marks", "place", "other", "low", "high"] LR (zx zif):=fsc (by decide +kernel)
abbrev Ka:Stmt:=top 61
abbrev R5:List Str:=["book", "steps", "start"]
theorem zdC:zK ["book", "steps", "start"] R5 (zx Ka):=fsc (by decide +kernel)
abbrev R6:Stmt:=top 62
abbrev vI:List Str:=["book", "steps", "start"]
theorem vV:zK ["book", "steps", "start", "found", "table", "told"] vI (zx R6):=fsc (by decide +kernel)
abbrev YZ:Stmt:=top 63
abbrev ZD:List Str:=["book", "steps", "start", "told"]
theorem R7:zK ["book", "steps", "start", "told"] ZD (zx YZ):=fsc (by decide +kernel)
abbrev zdD:Stmt:=top 64
abbrev UJ:List Str:=["book", "steps", "start"]
theorem zbM:zK ["book", "steps", "start"] UJ (zx zdD):=fsc (by decide +kernel)
abbrev zig:Stmt:=top 65
abbrev Kc:List Str:=["book", "steps", "room"]
theorem UL:zK ["book", "steps", "room", "table", "staying"] Kc (zx zig):=fsc (by decide +kernel)
abbrev zfF:Stmt:=top 66
abbrev R8:List Str:=["book", "steps", "start", "goal"]
theorem UW:zK ["book", "steps", "start", "goal", "ahead", "table", "met"] R8 (zx zfF):=fsc (by decide +kernel)
abbrev PJ:Stmt:=top 67
abbrev Y0:List Str:=["book", "steps", "ahead", "met"]
theorem WX:zK ["book", "steps", "ahead", "met", "rows", "table"] Y0 (zx PJ):=fsc (by decide +kernel)
abbrev R9:Stmt:=top 68
abbrev Yk:List Str:=["book", "table"]
theorem zai:zK ["book", "table"] Yk (zx R9):=fsc (by decide +kernel)
abbrev zkM:Stmt:=top 69
abbrev zbN:List Str:=["book", "row"]
theorem zms:zK ["book", "row"] zbN (zx zkM):=fsc (by decide +kernel)
abbrev Vt:Stmt:=top 70
abbrev Xo:List Str:=["book", "steps", "start", "goal", "rows"]
theorem Wc:zK ["book", "steps", "start", "goal", "rows", "row", "tables"] Xo (zx Vt):=fsc (by decide +kernel)
abbrev J0:Stmt:=inClass (top 72) 0
abbrev Vu:List Str:=["self", "order"]
theorem Kd:zK ["self", "order", "marks"] Vu (zx J0):=fsc (by decide +kernel)
abbrev Ke:Stmt:=inClass (top 72) 1
abbrev yU:List Str:=["self"]
theorem zcr:zK ["self"] yU (zx Ke):=fsc (by decide +kernel)
abbrev zfG:Stmt:=inClass (top 72) 2
abbrev zfH:List Str:=["self"]
abbrev Kf:Stmt:=inClass (top 72) 3
abbrev Wd:List Str:=["self", "sentence"]
theorem zcs:zK ["self", "sentence"] Wd (zx Kf):=fsc (by decide +kernel)
abbrev zfI:Stmt:=inClass (top 72) 4
abbrev zfJ:List Str:=["self", "number"]
abbrev XD:Stmt:=inClass (top 72) 7
abbrev yH:List Str:=["self", "number"]
theorem Xp:zK ["self", "number"] yH (zx XD):=fsc (by decide +kernel)
abbrev zaj:Stmt:=inClass (top 72) 8
abbrev zak:List Str:=["self", "number"]
abbrev zel:Stmt:=inClass (top 72) 9
abbrev zem:List Str:=["self", "number", "value"]
abbrev zg1:Stmt:=inClass (top 72) 10
abbrev zg2:List Str:=["self", "number", "place", "value"]
abbrev Rp:Stmt:=inClass (top 72) 11
abbrev yF:List Str:=["self", "number"]
theorem Jp:zK ["self", "number"] yF (zx Rp):=fsc (by decide +kernel)
abbrev U0:Stmt:=inClass (top 72) 12
abbrev yV:List Str:=["self", "table"]
theorem v8:zK ["self", "table", "marks", "place", "low", "high"] yV (zx U0):=fsc (by decide +kernel)
abbrev Rq:Stmt:=top 74
abbrev wA:List Str:=["script", "k"]
theorem U3:zK ["script", "k"] wA (zx Rq):=fsc (by decide +kernel)
abbrev Kg:Stmt:=top 75
abbrev uT:List Str:=["cell", "k", "bound"]
theorem uY:zK ["cell", "k", "bound", "stir", "left", "j"] uT (zx Kg):=fsc (by decide +kernel)
abbrev uy:Stmt:=top 76
abbrev uz:List Str:=["script", "at", "many", "order"]
theorem xR:zK ["script", "at", "many", "order", "kinds", "made", "k", "cell", "kind", "one", "other", "letter"] uz (zx uy):=fsc (by decide +kernel)
abbrev PK:Stmt:=top 77
abbrev Y4:List Str:=["cell"]
theorem wu:zK ["cell", "first", "size", "names", "found", "k", "later"] Y4 (zx PK):=fsc (by decide +kernel)
abbrev Vv:Stmt:=top 78
abbrev Xq:List Str:=["order"]
theorem zen:zK ["order"] Xq (zx Vv):=fsc (by decide +kernel)
abbrev Kh:Stmt:=top 79
abbrev Wf:List Str:=["script"]
theorem V6:zK ["script", "order", "steps"] Wf (zx Kh):=fsc (by decide +kernel)
abbrev Y5:Stmt:=top 80
abbrev ZF:List Str:=["e"]
theorem Yl:zK ["e", "kinds", "terms"] ZF (zx Y5):=fsc (by decide +kernel)
abbrev zbO:Stmt:=top 81
abbrev WY:List Str:=["told", "word"]
theorem zfK:zK ["told", "word"] WY (zx zbO):=fsc (by decide +kernel)
abbrev PL:Stmt:=top 82
abbrev Y6:List Str:=["call", "book", "steps", "one", "other"]
theorem zbP:zK ["call", "book", "steps", "one", "other"] Y6 (zx PL):=fsc (by decide +kernel)
abbrev J5:Stmt:=top 83
abbrev Vw:List Str:=["call", "book", "steps", "one", "other"]
theorem Wg:zK ["call", "book", "steps", "one", "other", "told", "e"] Vw (zx J5):=fsc (by decide +kernel)
abbrev S_law:Stmt:=top 84
abbrev p_law:List Str:=["script"]
theorem sc_law:zK ["script", "cell", "bad", "far", "book", "rooms", "k", "call", "order", "sentence", "spare", "used", "due", "told", "later", "then", "now"] p_law (zx S_law):=fsc (by decide +kernel)
def vh:List (Str×Int×Int):=[("yes", 0,0),("no", 0,0),("mark", 1,0),("not", 0,1),("and", 0,2),("or", 0,2),("either", 0,2),("if", 0,2),("some", 1,1),("each", 1,1)]
set_option genInjectivity false in
set_option genSizeOf false in
structure Ad where
 ZQ:Addr
 ZR:FuncData
 v9:Addr
 uc:FuncData
 YG:Addr
 YH:FuncData
 Wo:Addr
 Wq:FuncData
 W0:Addr
 W2:FuncData
 Y7:Addr
 Y8:FuncData
 Wr:Addr
 Ws:FuncData
 V7:Addr
 V8:FuncData
 W3:Addr
 W4:FuncData
 zbQ:Addr
 zbR:FuncData
 U4:Addr
 U5:FuncData
 NZ:Addr
 N5:FuncData
 zkN:Addr
 zkO:FuncData
 Ym:Addr
 Yn:FuncData
 ZS:Addr
 ZV:FuncData
 Yo:Addr
 Yp:FuncData
 Qa:Addr
 Qc:FuncData
 V9:Addr
 Ua:FuncData
 Xy:Addr
 Xz:FuncData
 ZW:Addr
 ZX:FuncData
 Zh:Addr
 Zi:FuncData
 Yq:Addr
 Yr:FuncData
 PN:Addr
 PX:FuncData
 Qd:Addr
 Qe:FuncData
 Sg:Addr
 Sh:FuncData
 W5:Addr
 W6:FuncData
 tZ:Addr
 Za:FuncData
 Vx:Addr
 Vy:FuncData
 Sq:Addr
 Ss:FuncData
 Zj:Addr
 Zk:FuncData
 uZ:Addr
 u6:FuncData
 vW:Addr
 vX:FuncData
 vC:Addr
 vD:FuncData
 zL:Addr
 zM:FuncData
 zaK:Addr
 zaL:FuncData
 Sv:Addr
 Sw:FuncData
 Kl:Addr
 Km:FuncData
 Qg:Addr
 Qh:FuncData
 QL:Addr
 QM:FuncData
 zaM:Addr
 zaN:FuncData
 Ko:Addr
 Kp:FuncData
 uD:Addr
 uE:FuncData
 Y9:Addr
 Xa:FuncData
 QS:Addr
 QT:FuncData
 zaO:Addr
 zaP:FuncData
 Kq:Addr
 Kr:FuncData
 Ub:Addr
 Uc:FuncData
 W7:Addr
 W8:FuncData
 zeo:Addr
 zep:FuncData
 Vz:Addr
 VB:FuncData
 VD:Addr
 Qi:FuncData
 xq:Addr
 xr:FuncData
 zfL:Addr
 zfM:FuncData
 Sx:Addr
 Sy:FuncData
 zfN:Addr
 zfO:FuncData
 yM:Addr
 yN:FuncData
 zal:Addr
 zam:FuncData
 zeq:Addr
 zer:FuncData
 zg3:Addr
 zg4:FuncData
 yJ:Addr
 yK:FuncData
 xO:Addr
 xP:FuncData
 wL:Addr
 wM:FuncData
 Zm:Addr
 Zn:FuncData
 Zo:Addr
 Zq:FuncData
 Ud:Addr
 Ue:FuncData
 VF:Addr
 VG:FuncData
 SJ:Addr
 SM:FuncData
 Xb:Addr
 Xc:FuncData
 SN:Addr
 SQ:FuncData
 Ug:Addr
 Uh:FuncData
 Qj:Addr
 Qk:FuncData
 a_law:Addr
 d_law:FuncData
 zj:Addr
 wN:Addr
 zG:Addr
 Wh:Addr
 yW:Addr
 zJ:Addr
 xW:Addr
 yw:Addr
 yj:Addr
 yx:Addr
 yL:Addr
 yQ:Addr
 zaQ:Addr
 zct:Tok
 zfP:Tok
 U6:Addr
 ziO:List (Str×Value)
 Xd:Addr
 Wt:Addr
 Wu:Addr
 Wv:Addr
 Ww:Addr
structure Txt (P:Program)(w:World)(K:Frag)(mg:Str->Option Value)(a:Ad):Prop where
 zn6:mg "Book"=some (.ref a.zj)
 zfQ:mg "BookError"=some (.ref a.wN)
 zdE:mg "NoOrder"=some (.ref a.zG)
 zmt:mg "NoSentence"=some (.ref a.Wh)
 zkP:mg "NoMark"=some (.ref a.yW)
 zbS:mg "NoRoom"=some (.ref a.zJ)
 zmu:mg "NoRow"=some (.ref a.xW)
 zg5:mg "NoNumber"=some (.ref a.yw)
 zfR:mg "NoWeights"=some (.ref a.yj)
 zg6:mg "NoShares"=some (.ref a.yx)
 ziP:mg "NoCover"=some (.ref a.yL)
 zg7:mg "TooGreat"=some (.ref a.yQ)
 Z0:Df K mg "all_rows" zbG a.ZQ a.ZR tW
 Z7:Df K mg "rows_with" JW a.v9 a.uc vA
 Wx:Df K mg "flipped" zdx a.YG a.YH Z5
 YJ:Df K mg "held_at" zdy a.Wo a.Wq YB
 SX:Df K mg "hangs_on" zbH a.W0 a.W2 YC
 Nb:Df K mg "first_place" Py a.Y7 a.Y8 ZC
 QV:Df K mg "without" zdz a.Wr a.Ws YD
 Nf:Df K mg "rows_having" Pz a.V7 a.V8 YS
 Ql:Df K mg "first_values" RZ a.W3 a.W4 Yj
 zfS:Df K mg "chosen" zfA a.zbQ a.zbR Lw
 Jq:Df K mg "is_mark" zdA a.U4 a.U5 Wn
 zbT:Df K mg "is_order" T7 a.NZ a.N5 T8
 zpy:Df K mg "is_row" zkK a.zkN a.zkO zkL
 Ra:Df K mg "letters_of" Ly a.Ym a.Yn Zg
 Rb:Df K mg "parts_of" zbI a.ZS a.ZV tX
 W9:Df K mg "parts_of_all" R3 a.Yo a.Yp tY
 J6:Df K mg "is_shaped" Z6 a.Qa a.Qc Vo
 Ng:Df K mg "is_sentence" YT a.V9 a.Ua YW
 Rr:Df K mg "must_be_order" Rn a.Xy a.Xz ZL
 Va:Df K mg "must_be_sentence" WR a.ZW a.ZX uQ
 U7:Df K mg "must_have_mark" Uw a.Zh a.Zi uw
 VH:Df K mg "must_have_marks" Vp a.Yq a.Yr tK
 zcu:Df K mg "must_be_row" zco a.PN a.PX PB
 J7:Df K mg "tuples_in" JX a.Qd a.Qe Vq
 Ks:Df K mg "letters_in" LK a.Sg a.Sh X7
 N6:Df K mg "table_of" T9 a.W5 a.W6 YF
 Qm:Df K mg "table_of_two" R4 a.tZ a.Za ux
 Qo:Df K mg "now_marks" Vs a.Vx a.Vy Xm
 Ku:Df K mg "then_marks" X8 a.Sq a.Ss Wa
 Zr:Df K mg "now_places" Wb a.Zj a.Zk uR
 u9:Df K mg "then_places" YX a.uZ a.u6 uf
 ZM:Df K mg "must_be_world" Ro a.vW a.vX vo
 Zt:Df K mg "must_be_of_now" Ux a.vC a.vD wV
 zN:Df K mg "must_be_world_with" Xn a.zL a.zM zH
 zes:Df K mg "image" zid a.zaK a.zaL LQ
 N7:Df K mg "preimage" zbK a.Sv a.Sw WW
 zaR:Df K mg "after" zie a.Kl a.Km QK
 Qp:Df K mg "before" zfE a.Qg a.Qh Uy
 Jr:Df K mg "for_any" zdB a.QL a.QM Uz
 zet:Df K mg "moved" zif a.zaM a.zaN LR
 zbU:Df K mg "rounds" Ka a.Ko a.Kp R5
 Zb:Df K mg "round_tables" R6 a.uD a.uE vI
 Ui:Df K mg "rounds_show" YZ a.Y9 a.Xa ZD
 Js:Df K mg "reached" zdD a.QS a.QT UJ
 zeu:Df K mg "stays" zig a.zaO a.zaP Kc
 Kv:Df K mg "way_to" zfF a.Kq a.Kr R8
 Nh:Df K mg "way_through" PJ a.Ub a.Uc Y0
 Vb:Df K mg "first_of_now" R9 a.W7 a.W8 Yk
 zg8:Df K mg "only" zkM a.zeo a.zep zbN
 Qq:Df K mg "way_shows" Vt a.Vz a.VB Xo
 wB:Df K mg "_law_cell_at" Rq a.wL a.wM wA
 yu:Df K mg "_law_draw" Kg a.Zm a.Zn uT
 Zu:Df K mg "_law_sentence" uy a.Zo a.Zq uz
 Ni:Df K mg "_law_world" PK a.Ud a.Ue Y4
 Xr:Df K mg "_law_now" Vv a.VF a.VG Xq
 Kw:Df K mg "_law_both" Kh a.SJ a.SM Wf
 Xe:Df K mg "_law_which" Y5 a.Xb a.Xc ZF
 zbV:Df K mg "_law_is" zbO a.SN a.SQ WY
 Xf:Df K mg "_law_asked" PL a.Ug a.Uh Y6
 J8:Df K mg "_law_met" J5 a.Qj a.Qk Vw
 f_law:Df K mg "law" S_law a.a_law a.d_law p_law
 J9:Dm K a.zj "__init__" "Book.__init__" J0 a.VD a.Qi Vu
 xX:Dm K a.zj "order" "Book.order" Ke a.xq a.xr yU
 zm0:Dm K a.zj "size" "Book.size" zfG a.zfL a.zfM zfH
 Ys:Dm K a.zj "enter" "Book.enter" Kf a.Sx a.Sy Wd
 zm1:Dm K a.zj "room" "Book.room" zfI a.zfN a.zfO zfJ
 wK:Dm K a.zj "must_be_room" "Book.must_be_room" XD a.yM a.yN yH
 zi7:Dm K a.zj "place_of" "Book.place_of" zaj a.zal a.zam zak
 zmv:Dm K a.zj "going" "Book.going" zel a.zeq a.zer zem
 zn7:Dm K a.zj "led" "Book.led" zg1 a.zg3 a.zg4 zg2
 yR:Dm K a.zj "table_at" "Book.table_at" Rp a.yJ a.yK yF
 xY:Dm K a.zj "room_with" "Book.room_with" U0 a.xO a.xP yV
 yr:Cls K a.zj
 zmw:Mk K a.zj a.VD
 ZG:Wz K a.zj "marks"
 ZJ:Wz K a.zj "rooms"
 Vc:Wz K a.zj "tables"
 uV:Wz K a.zj "numbers"
 zg9:Ls K a.zG
 zlb:Ls K a.Wh
 ziQ:Ls K a.yW
 ziR:Ls K a.zJ
 zkQ:Ls K a.xW
 zfT:Ls K a.yw
 zew:Ls K a.yj
 zfU:Ls K a.yx
 zha:Ls K a.yL
 zfV:Ls K a.yQ
 N8:Nz K a.wN a.zG
 zlc:Nz K a.wN a.Wh
 zos:Nz K a.wN a.yW
 QW:Nz K a.wN a.zJ
 zpz:Nz K a.wN a.xW
 xb:znZ K a.wN
 xd:[a.wN,a.zG,a.Wh,a.yW,a.zJ,a.xW,a.yw,a.yj,a.yx,a.yL,a.yQ].Nodup
 zex:mg "ValueError"=none
 zmx:mg "MARKS"=some (.ref a.zaQ)
 zmy:∀H,vf K H a.zaQ ((["a", "b", "c", "d", "e", "f", "g", "h"]:List Str).map V.str)
 zcv:mg "MOST_TUPLES"=some (.int 200 a.zct)
 zfW:mg "MOST_DEEP"=some (.int 24 a.zfP)
 Ky:mg "SHAPES"=some (.ref a.U6)
 Vd:Shp K P w a.U6 a.ziO vh
 zaS:mg "PAIRS"=some (.ref a.Xd)
 VJ:∀H,vf K H a.Xd [.ref a.Wt,.ref a.Wu,.ref a.Wv,.ref a.Ww]
 QX:∀H,vf K H a.Wt ((["a", "e"]:List Str).map V.str)
 QZ:∀H,vf K H a.Wu ((["b", "f"]:List Str).map V.str)
 Q5:∀H,vf K H a.Wv ((["c", "g"]:List Str).map V.str)
 Q6:∀H,vf K H a.Ww ((["d", "h"]:List Str).map V.str)
 zfX:mg "all"=none
 xZ:mg "isinstance"=none
 wY:mg "len"=none
 zhb:mg "list"=none
 VL:mg "range"=none
 zbW:mg "reversed"=none
 zpA:mg "set"=none
 zpB:mg "str"=none
 zpC:mg "sum"=none
 zih:mg "tuple"=none
 zm2:mg "zip"=none
theorem x_law {K:Frag}{mg:Str->Option Value}{f:Addr}{d:FuncData}(F:Df K mg "law" S_law f d p_law):∀(s:Shared) (u:Value),BindsTo s d ⟨[u],[]⟩ [("script", u)]:=by
 obtain⟨_,_,_,_,_,_,_,_,_,rfl,_,_⟩:=F.F.ex
 exact fun s u=>.of_eq rfl
theorem zpD {P:Program}{w:World}{K:Frag}{mg:Str->Option Value}{x0 x2 x4 x6 x8 x10 x12 x14 x16 x18 x20 x22 x24 x26 x28 x30 x32 x34 x36 x38 x40 x42 x44 x46 x48 x50 x52 x54 x56 x58 x60 x62 x64 x66 x68 x70 x72 x74 x76 x78 x80 x82 x84 x86 x88 x90 x92 x94 x96 x98 x100 x102 x104 x106 x108 x110 x112 x114 x116 x118 x120 x122 x124 x126 x128 x130 x132 x134 x136 x138 x140 x142 x144 x145 x146 x147 x148 x149 x150 x151 x152 x153 x154 x155 x156 x159 x161 x162 x163 x164 x165:Addr}{x1 x3 x5 x7 x9 x11 x13 x15 x17 x19 x21 x23 x25 x27 x29 x31 x33 x35 x37 x39 x41 x43 x45 x47 x49 x51 x53 x55 x57 x59 x61 x63 x65 x67 x69 x71 x73 x75 x77 x79 x81 x83 x85 x87 x89 x91 x93 x95 x97 x99 x101 x103 x105 x107 x109 x111 x113 x115 x117 x119 x121 x123 x125 x127 x129 x131 x133 x135 x137 x139 x141 x143:FuncData}{x157 x158:Tok}{x160:List (Str×Value)}(t:Txt P w K mg ⟨x0,x1,x2,x3,x4,x5,x6,x7,x8,x9,x10,x11,x12,x13,x14,x15,x16,x17,x18,x19,x20,x21,x22,x23,x24,x25,x26,x27,x28,x29,x30,x31,x32,x33,x34,x35,x36,x37,x38,x39,x40,x41,x42,x43,x44,x45,x46,x47,x48,x49,x50,x51,x52,x53,x54,x55,x56,x57,x58,x59,x60,x61,x62,x63,x64,x65,x66,x67,x68,x69,x70,x71,x72,x73,x74,x75,x76,x77,x78,x79,x80,x81,x82,x83,x84,x85,x86,x87,x88,x89,x90,x91,x92,x93,x94,x95,x96,x97,x98,x99,x100,x101,x102,x103,x104,x105,x106,x107,x108,x109,x110,x111,x112,x113,x114,x115,x116,x117,x118,x119,x120,x121,x122,x123,x124,x125,x126,x127,x128,x129,x130,x131,x132,x133,x134,x135,x136,x137,x138,x139,x140,x141,x142,x143,x144,x145,x146,x147,x148,x149,x150,x151,x152,x153,x154,x155,x156,x157,x158,x159,x160,x161,x162,x163,x164,x165⟩):∃a,Txt P w K mg a:=⟨_,t⟩
end K78
namespace K78
open PySem L2 Xv
section
variable {P:Program}{w:World}{K:Frag}{mg:Str->Option Value}{base:Heap}{a:Ad}{k:Nat}
theorem zfY (T:Txt P w K mg a):zy P w K mg base yq (k+1) a.ZQ a.ZR tW Wj:=by
 refine T.Z0.F.ok zfy (fun vs H Q E h=>?_) (fun cdv A outer s H vs Q E hr h=>?_)
 ·obtain⟨n,rfl,_⟩:=h
  rfl
 obtain⟨n,rfl,hn,q⟩:=h
 refine⟨_,(zp (zV (zW zaX (zW YQ zq (zW YQ zq (pv 0))) zq))),?_⟩
 have h1:=zgE hn
 have one:1<2^10000:=ze5 (k:=1) (by decide) (by decide)
 refine⟨_,rfl,1,n,rfl,rfl,one,by omega,1,1*2^n,rfl,rfl,one,by omega,_,1,rfl,rfl,?_⟩
 have e:(((1*2^(1*2^n):Nat):Int)-1)=((2^2^n-1:Nat):Int):=by
  rw[Nat.one_mul,Nat.one_mul]
  have:=Nat.two_pow_pos (2^n)
  omega
 show Q (.int (((1*2^(1*2^n):Nat):Int)-1)) H
 rw[e]
 exact q
theorem zey (T:Txt P w K mg a):zy P w K mg base yq (k+1) a.v9 a.uc vA tQ:=by
 refine T.Z7.F.ok Yi (fun vs H Q E h=>?_) (fun cdv A outer s H vs Q E hr h=>?_)
 ·obtain⟨p,n,rfl,_⟩:=h
  rfl
 obtain⟨p,n,rfl,hp,hn,q⟩:=h
 refine⟨_,(zf (zQ (i:=2) Yi.nd rfl (Or.inl rfl) (zW YQ zq (pv 0)))
   (zf (zQ (i:=3) Yi.nd rfl (Or.inl rfl) (zW YQ (zW zaX (zW YQ zq (pv 2)) zq) (pv 2)))
   (zf (vO PassesOwn.never rfl (zcT rfl T.VL (za (zW vP (pv 0) zq) (za (pv 1) zc))) (yS (i:=4) Yi.nd rfl (Or.inl rfl)) (zp (zQ (i:=3) Yi.nd rfl (Or.inl rfl) (zW Tw (pv 3) (zW YQ (pv 3) (zW YQ zq (pv 4)))))))
   (zp (zV (pv 3)))))),?_⟩
 have one:1<2^10000:=ze5 (k:=1) (by decide) (by decide)
 have h1:=zgE (n:=p) (by omega)
 have hh:2^p<2^10000:=Nat.pow_lt_pow_right (by decide) (by omega)
 have pp:=Nat.two_pow_pos (2^p)
 have e1:((1*2^(1*2^p):Nat):Int)-1=((2^2^p-1:Nat):Int):=by
  rw[Nat.one_mul,Nat.one_mul]
  omega
 have lt1:2^2^p-1<2^10000:=zul (Nat.sub_lt pp (by decide)) (zuH (by decide) (by omega))
 refine⟨_,rfl,1,p,rfl,rfl,one,by omega,?_⟩
 refine⟨_,rfl,1,1*2^p,rfl,rfl,one,by omega,_,1,rfl,rfl,_,rfl,2^2^p-1,1*2^p,congrArg V.int e1,rfl,lt1,by omega,?_⟩
 refine⟨_,rfl,_,1,rfl,rfl,_,rfl,(p:Int)+1,(n:Int),rfl,⟨by omega,by omega,by omega,by omega⟩,?_⟩
 refine Uo (fun i σ H'=>H'=H/\∃(N:Nat) (f:Option V),σ=[some (.int p),some (.int n),some (.int ((1*2^p:Nat):Int)),some (.int N),f]/\z8 (p+1+i) N (fun b=>b.testBit p)) ⟨rfl,_,_,rfl,?_⟩ ?_ ?_
 ·rw[Nat.one_mul]
  exact ziy p
 ·rintro i σ H' hi ⟨rfl,N,f,rfl,tb⟩
  have hi':p+1+i<n:=by omega
  have h2:=zgE (n:=p+1+i) (by omega)
  have e2:V.int ((p:Int)+1+(i:Nat))=V.int ((p+1+i:Nat):Int):=congrArg V.int (by omega)
  have lt2:N<2^10000:=ze5 (zjJ tb) (zux h2 (by decide))
  refine⟨_,rfl,_,rfl,_,rfl,1,p+1+i,rfl,e2,one,by omega,N,1*2^(p+1+i),rfl,rfl,lt2,by omega,N,N*2^(1*2^(p+1+i)),rfl,rfl,?_⟩
  refine⟨rfl,_,_,rfl,?_⟩
  rw[Nat.one_mul]
  exact zgD (m:=p+1+i) (by omega) tb
 ·rintro σ H' ⟨rfl,N,f,rfl,tb⟩
  have e3:p+1+((n:Int)-((p:Int)+1)).toNat=n:=by omega
  rw[e3] at tb
  exact⟨_,rfl,q N tb⟩
theorem zhc (T:Txt P w K mg a)(wO:zy P w K mg base yq k a.v9 a.uc vA tQ):zy P w K mg base yq (k+1) a.YG a.YH Z5 Wk:=by
 refine T.Wx.F.ok NP (fun vs H Q E h=>?_) (fun cdv A outer s H vs Q E hr h=>?_)
 ·obtain⟨N,p,n,f,rfl,_⟩:=h
  rfl
 obtain⟨N,p,n,f,rfl,hp,hn,tb,q⟩:=h
 refine⟨_,(zf (zQ (i:=3) NP.nd rfl (Or.inl rfl) (zW tH (pv 0) (zu wO hr T.Z7 (za (pv 1) (za (pv 2) zc)))))
   (zf (zQ (i:=4) NP.nd rfl (Or.inl rfl) (zW Qx (pv 0) (pv 3)))
   (zp (zV (zW Tw (zW zlC (pv 3) (zW YQ zq (pv 1))) (zW YQ (pv 4) (zW YQ zq (pv 1)))))))),?_⟩
 have one:1<2^10000:=ze5 (k:=1) (by decide) (by decide)
 have h1:=zgE (n:=p) (by omega)
 have h2:=zgE (n:=n) (by omega)
 refine⟨_,rfl,_,rfl,_,rfl,p,n,rfl,hp,hn,fun R tr=>?_⟩
 refine⟨N,R,rfl,rfl,?_⟩
 refine⟨_,rfl,_,rfl,N,N&&&R,rfl,rfl,?_⟩
 have o:=XQ tb tr
 have z:=Tv tb o
 have lt2:N ^^^ (N&&&R)<2^10000:=ze5 (zjJ z) (zux h2 (by decide))
 refine⟨_,rfl,_,rfl,1,p,rfl,rfl,one,by omega,N&&&R,1*2^p,rfl,rfl,_,rfl,_,rfl,1,p,rfl,rfl,one,by omega,N ^^^ (N&&&R),1*2^p,rfl,rfl,lt2,by omega,_,_,rfl,rfl,?_⟩
 refine q _ ?_
 rw[Nat.one_mul]
 exact zjK hp tb tr
theorem zhd (T:Txt P w K mg a):zy P w K mg base yq (k+1) a.wL a.wM wA (za7 K):=by
 refine T.wB.F.ok U3 (fun vs H Q E h=>?_) (fun cdv A outer s H vs Q E hr h=>?_)
 ·obtain⟨l,ns,i,rfl,_⟩:=h
  rfl
 obtain⟨l,ns,i,rfl,hS,h0,q⟩:=h
 refine⟨_,(zf (yZ (zP zcW (pv 1) (zR zO rfl T.wY xV (za (pv 0) zc)) (yg _)) (zp (zV (yO yP (pv 0) (pv 1) (fun _ _=>rfl)))) yC)
   (zp (zV zq))),?_⟩
 refine⟨_,rfl,_,rfl,l,_,rfl,.inl hS,_,_,rfl,rfl,_,rfl,?_⟩
 refine xQ (fun c=>?_) (fun c=>?_)
 ·have c':i<(((ns.map V.int).length:Nat):Int):=of_decide_eq_true c
  rw[zuc] at c'
  have hi:i.toNat<ns.length:=by omega
  have e:atI (ns.map V.int) i=some (.int ns[i.toNat]):=by
   have q:=XH (xs:=ns.map V.int) (j:=i.toNat) (v:=.int ns[i.toNat]) (by rw[zue,zud hi];rfl)
   have ei:((i.toNat:Nat):Int)=i:=by omega
   rw[ei] at q
   exact q
  exact⟨_,rfl,_,rfl,l,_,i,_,rfl,rfl,hS,e,q _⟩
 ·exact q 0
theorem zmz (T:Txt P w K mg a):zy P w K mg base yq (k+1) a.Zm a.Zn uT za8:=by
 refine T.yu.F.ok uY (fun vs H Q E h=>?_) (fun cdv A outer s H vs Q E hr h=>?_)
 ·obtain⟨c,m,b,rfl,_⟩:=h
  rfl
 obtain⟨c,m,b,rfl,hm,b0,b1,q⟩:=h
 refine⟨_,(zf (yZ (zP zji (pv 0) (zW zjg zq zq) (yg _)) (zf (zQ (i:=4) uY.nd rfl (Or.inl rfl) (pv 0))
   (zf (vO PassesOwn.never rfl (Um rfl T.VL (za (pv 1) zc)) (yS (i:=5) uY.nd rfl (Or.inl rfl)) (zp (zQ (i:=4) uY.nd rfl (Or.inl rfl) (zW zhv (pv 4) (pv 2)))))
   (zp (zV (zW tD (pv 4) (pv 2)))))) yC)
   (zf (zQ (i:=3) uY.nd rfl (Or.inl rfl) (zW tD (zW Np (zW vP (zW vP (zW tD (pv 0) zq) (zW Np zq (pv 1))) zq) zq) zq))
   (zf (zQ (i:=3) uY.nd rfl (Or.inl rfl) (zW tD (zW vP (zW vP (zW Np (pv 3) (pv 3)) (zW Np zq (pv 1))) zq) zq))
   (zp (zV (zW tD (zW zhv (zW tD (zW Np (pv 3) zq) zq) zq) (pv 2))))))),?_⟩
 refine⟨_,rfl,10,18,rfl,rfl,⟨by decide,by decide,by decide⟩,_,_,rfl,rfl,_,rfl,?_⟩
 refine xQ (fun _=>?_) (fun _=>?_)
 ·refine⟨_,rfl,?_⟩
  refine⟨_,rfl,(m:Int),rfl,by omega,by omega,?_⟩
  refine Uo (fun i σ H'=>H'=H/\∃(x:Int) (f1 f2:Option V),σ=[some (.int c),some (.int m),some (.int b),f1,some (.int x),f2]) ⟨rfl,c,_,_,rfl⟩ ?_ ?_
  ·rintro i σ H' hi ⟨rfl,x,f1,f2,rfl⟩
   refine⟨_,rfl,_,rfl,x,b,rfl,rfl,⟨b0,b1⟩,?_⟩
   exact⟨rfl,x / b,_,_,rfl⟩
  ·rintro σ H' ⟨rfl,x,f1,f2,rfl⟩
   refine⟨_,rfl,_,rfl,x,b,rfl,rfl,b0,?_⟩
   exact q _ (zuT _ (by omega)) (zuQ _ b0)
 ·have p1:(0:Int)<1000000007:=by decide
  have p2:(0:Int)<2147483647:=by decide
  have p3:(0:Int)<2147483629:=by decide
  refine⟨_,rfl,c,1000000007,rfl,rfl,p1,_,rfl,1009,(m:Int),rfl,rfl,.inl ⟨by decide,by decide⟩,_,_,rfl,rfl,_,17,rfl,rfl,_,69621,rfl,rfl,.inr ⟨by decide,by decide⟩,_,2147483647,rfl,rfl,p2,?_⟩
  have z0:0<=(c%1000000007+1009*(m:Int)+17)*69621%2147483647:=zuT _ (by decide)
  have z1:(c%1000000007+1009*(m:Int)+17)*69621%2147483647<2147483647:=zuQ _ p2
  refine⟨_,rfl,_,rfl,_,_,rfl,rfl,.inl ⟨Int.lt_of_lt_of_le (by decide) z0,Int.lt_trans z1 (by decide)⟩,_,rfl,40503,(m:Int),rfl,rfl,.inl ⟨by decide,by decide⟩,_,_,rfl,rfl,_,5,rfl,rfl,_,2147483629,rfl,rfl,p3,?_⟩
  refine⟨_,rfl,_,48271,rfl,rfl,.inr ⟨by decide,by decide⟩,_,2147483647,rfl,rfl,p2,_,32,rfl,rfl,⟨by decide,by decide⟩,_,rfl,_,b,rfl,rfl,b0,?_⟩
  exact q _ (zuT _ (by omega)) (zuQ _ b0)
theorem zfZ (T:Txt P w K mg a)(wC:zy P w K mg base yq k a.wL a.wM wA (za7 K))(yt:zy P w K mg base yq k a.Zm a.Zn uT za8) :
  zy P w K mg base yq (k+1) a.Zo a.Zq uz (Nv K):=by
 refine T.Zu.F.ok xR (fun vs H Q E h=>?_) (fun cdv A outer s H vs Q E hr h=>?_)
 ·obtain⟨sc,ol,ns,t,m,os,rfl,_⟩:=h
  rfl
 obtain⟨sc,ol,ns,t,m,os,rfl,hS,hO,o0,o8,m0,m40,t60,q⟩:=h
 obtain⟨st0,h0⟩:∃st0,st0=(uh uy).headD (.Pass ⟨0,0,0,0⟩):=⟨_,rfl⟩
 have hb:uh uy=st0::(uh uy).tail:=by rw[h0];rfl
 rw[hb]
 have hk:zdV st0=some (Str.ofString "kinds", Nu):=by rw[h0];rfl
 refine⟨_,zf (zlE (i:=4) hk xR.nd rfl (Or.inl rfl) (.inl rfl)) (zf (zQ (i:=5) xR.nd rfl (Or.inl rfl) (xg (za (uN (za xT (za (yO yP (pv 3) (zW tD (zu yt hr T.yu (za (zu wC hr T.wB (za (pv 0) (za (pv 1) zc))) (za zq (za zq zc)))) (zR zO rfl T.wY xV (za (pv 3) zc))) (fun _ _=>rfl)) zc))) zc)))
   (zf (vO PassesOwn.never rfl (zcT rfl T.VL (za zq (za (pv 2) zc))) (yS (i:=6) xR.nd rfl (Or.inl rfl)) (zf (zQ (i:=7) xR.nd rfl (Or.inl rfl) (zu wC hr T.wB (za (pv 0) (za (zW vP (pv 1) (pv 6)) zc))))
   (zf (zQ (i:=8) xR.nd rfl (Or.inl rfl) (yO yP (pv 4) (zu yt hr T.yu (za (pv 7) (za zq (za zq zc)))) (fun _ _=>rfl)))
   (zf (zQ (i:=9) xR.nd rfl (Or.inl rfl) (yO yP (pv 5) (zW zaX (zcV K1 zq) (zW tD (zu yt hr T.yu (za (pv 7) (za zq (za zq zc)))) (zR zO rfl T.wY xV (za (pv 5) zc)))) (fun _ _=>rfl)))
   (zf (zQ (i:=10) xR.nd rfl (Or.inl rfl) (yO yP (pv 5) (zW tD (zu yt hr T.yu (za (pv 7) (za zq (za zq zc)))) (zR zO rfl T.wY xV (za (pv 5) zc))) (fun _ _=>rfl)))
   (zf (zQ (i:=11) xR.nd rfl (Or.inl rfl) (yO yP (pv 3) (zW tD (zu yt hr T.yu (za (pv 7) (za zq (za zq zc)))) (zR zO rfl T.wY xV (za (pv 3) zc))) (fun _ _=>rfl)))
   (zp (yZ (PW.pt (Pk (zP wW (pv 8) xT (yg _)) (Ti (zP wW (pv 8) xT (yg _))))) (zp (zX (Zw PySem.F.plainAttrs_list PySem.F.slot_list_append PySem.F.type_list_append vQ (pv 5) (za (uN (za (pv 8) zc)) zc)))) (zp (yZ (zP wW (pv 8) xT (yg _)) (zp (zX (Zw PySem.F.plainAttrs_list PySem.F.slot_list_append PySem.F.type_list_append vQ (pv 5) (za (uN (za xT (za (pv 11) zc))) zc)))) (zp (yZ (zP wW (pv 8) xT (yg _)) (zp (zX (Zw PySem.F.plainAttrs_list PySem.F.slot_list_append PySem.F.type_list_append vQ (pv 5) (za (uN (za xT (za (pv 9) zc))) zc)))) (zp (yZ (PW.pt (Pk (zP wW (pv 8) xT (yg _)) (Ti (zP wW (pv 8) xT (yg _))))) (zp (zX (Zw PySem.F.plainAttrs_list PySem.F.slot_list_append PySem.F.type_list_append vQ (pv 5) (za (uN (za (pv 8) (za (pv 11) (za (pv 9) zc)))) zc)))) (zp (zX (Zw PySem.F.plainAttrs_list PySem.F.slot_list_append PySem.F.type_list_append vQ (pv 5) (za (uN (za (pv 8) (za (pv 10) (za (pv 9) zc)))) zc))))))))))))))))))
   (zp (zV (yO yP (pv 5) (zcV K1 zq) (fun _ _=>rfl)))))),?_⟩
 refine⟨by show 14<=sizeLine;decide,fun kd hkd=>?_⟩
 have g1:=za6 hkd (.lst (Nu.map V.str))
 have hS1:=g1.seq hS
 have hO1:=g1.seq hO
 refine⟨_,rfl,_,rfl,_,rfl,sc,ns,(t:Int),rfl,hS1,by omega,fun c0=>?_⟩
 refine⟨c0,3,40320,rfl,by decide,by decide,by decide,fun r0 _ _=>?_⟩
 obtain⟨x0,hx0,hx0'⟩:=JH o0 r0
 have pl:(0:Int)<((os.map V.str).length:Nat):=by rw[zuc];omega
 refine⟨_,rfl,ol,_,rfl,.inl hO1,_,_,rfl,rfl,pl,ol,_,_,.str x0,rfl,rfl,hO1,hx0',by show 2<=sizeLine;decide,fun p0 hp0=>?_⟩
 refine⟨by show 1<=sizeLine;decide,fun md hmd=>?_⟩
 have g2:=za6 hp0 (.tup [.str "mark", .str x0])
 have g3:=za6 hmd (.lst [.ref p0])
 have f0:H md=none:=(g1.trans g2).free hmd
 have nk:md≠kd:=Ne.symm (zF (g2 _ _ zm) hmd)
 have M0:Made H (upd (upd (upd H kd (.lst (Nu.map V.str))) p0 (.tup [.str "mark", .str x0])) md (.lst [.ref p0])) os md kd [p0] 1:=by
  refine⟨g1.trans (g2.trans g3),zm,g3 _ _ (g2 _ _ zm),by simp,fun p hp=>?_⟩
  have e:p=p0:=by simpa using hp
  subst e
  exact⟨.mk x0,g3 _ _ zm,hx0,zus _⟩
 refine⟨_,rfl,1,(m:Int),rfl,⟨by omega,by omega,by omega,by omega⟩,?_⟩
 refine Uo (fun i σ H'=>∃(ps:List Addr) (f1 f2 f3 f4 f5 f6:Option V),Made H H' os md kd ps (i+1)/\ps.length=i+1/\σ=[some (.ref sc),some (.int t),some (.int m),some (.ref ol),some (.ref kd),some (.ref md),f1,f2,f3,f4,f5,f6])
  ⟨[p0],_,_,_,_,_,_,M0,rfl,rfl⟩ ?_ ?_
 ·rintro i σ H' hi ⟨ps,f1,f2,f3,f4,f5,f6,M,lp,rfl⟩
  have hS2:=M.old.seq hS
  have hO2:=M.old.seq hO
  have e1:(t:Int)+(1+(i:Nat))=((t+(1+i):Nat):Int):=by omega
  refine⟨_,rfl,_,rfl,_,rfl,_,_,rfl,rfl,sc,ns,_,rfl,hS2,by omega,fun c=>?_⟩
  refine⟨_,rfl,_,rfl,c,0,14,rfl,by decide,by decide,by decide,fun d d0 d1=>?_⟩
  obtain⟨jk,vk,qk1,qk2⟩:=Tz (xs:=Nu.map V.str) (i:=d) (by show -((14:Nat):Int)<=d;omega) (by show d<((14:Nat):Int);omega)
  obtain⟨kind,hkm,hkv⟩:∃kind,kind∈Nu/\vk=.str kind:=by
   rw[zue] at qk2
   cases hx:Nu[jk]? with
   | none=>rw[hx] at qk2;cases qk2
   | some x=>rw[hx] at qk2;cases qk2;exact⟨x,zuh hx,rfl⟩
  subst hkv
  refine⟨kd,_,_,_,rfl,rfl,zB.of M.kin,qk1,?_⟩
  have lm:((ps.map V.ref).length:Nat)=i+1:=by rw[zuc];exact lp
  have pm:(0:Int)<((ps.map V.ref).length:Nat):=by rw[lm];omega
  refine⟨_,rfl,1,rfl,_,rfl,c,1,2,rfl,by decide,by decide,by decide,fun d2 _ _=>?_⟩
  refine⟨_,rfl,md,_,rfl,.inl (zB.of M.mad),_,_,rfl,rfl,pm,_,_,rfl,rfl,?_⟩
  have a0:=zuT d2 (show((ps.map V.ref).length:Int)≠0 by omega)
  have a1:=zuQ d2 pm
  obtain⟨q1,hq1,hq1'⟩:=Ja (ps:=ps) (i:=-1-d2%((ps.map V.ref).length:Nat)) (by rw[lm] at a0 a1 ⊢;omega) (by rw[lm] at a0 a1 ⊢;omega)
  refine⟨md,_,_,_,rfl,rfl,zB.of M.mad,hq1',?_⟩
  refine⟨_,rfl,_,rfl,c,2,60,rfl,by decide,by decide,by decide,fun d3 _ _=>?_⟩
  refine⟨_,rfl,md,_,rfl,.inl (zB.of M.mad),_,_,rfl,rfl,pm,?_⟩
  have b0:=zuT d3 (show((ps.map V.ref).length:Int)≠0 by omega)
  have b1:=zuQ d3 pm
  obtain⟨q2,hq2,hq2'⟩:=Ja (ps:=ps) (i:=d3%((ps.map V.ref).length:Nat)) (by rw[lm] at b0 b1 ⊢;omega) (by rw[lm] at b0 b1 ⊢;omega)
  refine⟨md,_,_,_,rfl,rfl,zB.of M.mad,hq2',?_⟩
  refine⟨_,rfl,_,rfl,c,3,40320,rfl,by decide,by decide,by decide,fun d4 _ _=>?_⟩
  obtain⟨x,hx,hx'⟩:=JH o0 d4
  refine⟨_,rfl,ol,_,rfl,.inl hO2,_,_,rfl,rfl,pl,ol,_,_,.str x,rfl,rfl,hO2,hx',?_⟩
  obtain⟨s1,s1i,s1o,s1d⟩:=M.all q1 hq1
  obtain⟨s2,s2i,s2o,s2d⟩:=M.all q2 hq2
  have big:ps.length<sizeLine:=Nat.lt_of_le_of_lt (show ps.length<=100 by omega) (by decide)
  have zhe:(ps.map V.ref).length<sizeLine:=by rw[zuc];exact big
  have mdu:∀(p:Addr) (o:HO),H' p=none->(upd H' p o) md=some (.lst (ps.map V.ref)):=fun p o hp=>by rw[zE (zF M.mad hp)];exact M.mad
  have fin:∀(p:Addr) (xs:List V) (s':Sn),H' p=none->RJ (upd H' p (.tup xs)) s' p->s'.V1 os->s'.depth<=i+1+1 ->
    ∃(ps':List Addr) (f1 f2 f3 f4 f5 f6:Option V),Made H (upd (upd H' p (.tup xs)) md (.lst (ps.map V.ref++[.ref p]))) os md kd ps' (i+1+1)/\ps'.length=i+1+1 /\
     [some (.ref sc),some (.int t),some (.int m),some (.ref ol),some (.ref kd),some (.ref md),some (.int (1+(i:Nat))),some (.int c),some (.str kind),some (.ref q1),some (.ref q2),some (.str x)]=[some (.ref sc),some (.int t),some (.int m),some (.ref ol),some (.ref kd),some (.ref md),f1,f2,f3,f4,f5,f6]:=fun p xs s' hp hs ho hd=>by
   have:=M.push f0 hp hs ho hd nk
   rw[zuq] at this
   exact⟨ps++[p],_,_,_,_,_,_,this,by simp[lp],rfl⟩
  refine⟨_,rfl,rfl,_,rfl,xQ (fun c1=>?_) (fun c1=>?_)⟩
  ·have ek:kind="yes" := by have:=of_decide_eq_true c1;cases this;rfl
   subst ek
   refine xH ⟨_,rfl,.inl ⟨rfl,_,zB.of M.mad⟩,_,rfl,by show 1<=sizeLine;decide,fun p hp=>⟨md,_,_,rfl,rfl,mdu p _ hp,zhe,?_⟩⟩
   exact fin p _ (.c0 true) hp zm trivial (by show 1<=_;omega)
  have n1:kind ≠ "yes" := fun e=>c1 (decide_eq_true (by rw[e]))
  refine⟨_,rfl,rfl,_,rfl,xQ (fun c2=>?_) (fun c2=>?_)⟩
  ·have ek:kind="no" := by have:=of_decide_eq_true c2;cases this;rfl
   subst ek
   refine⟨_,rfl,.inl ⟨rfl,_,zB.of M.mad⟩,_,rfl,by show 1<=sizeLine;decide,fun p hp=>⟨md,_,_,rfl,rfl,mdu p _ hp,zhe,?_⟩⟩
   exact fin p _ (.c0 false) hp zm trivial (by show 1<=_;omega)
  have n2:kind ≠ "no" := fun e=>c2 (decide_eq_true (by rw[e]))
  refine⟨_,rfl,rfl,_,rfl,xQ (fun c3=>?_) (fun c3=>?_)⟩
  ·have ek:kind="mark" := by have:=of_decide_eq_true c3;cases this;rfl
   subst ek
   refine⟨_,rfl,.inl ⟨rfl,_,zB.of M.mad⟩,_,rfl,by show 2<=sizeLine;decide,fun p hp=>⟨md,_,_,rfl,rfl,mdu p _ hp,zhe,?_⟩⟩
   exact fin p _ (.mk x) hp zm hx (by show 1<=_;omega)
  have n3:kind ≠ "mark" := fun e=>c3 (decide_eq_true (by rw[e]))
  refine⟨_,rfl,rfl,_,rfl,xQ (fun c4=>?_) (fun c4=>?_)⟩
  ·have ek:kind="not" := by have:=of_decide_eq_true c4;cases this;rfl
   subst ek
   refine⟨_,rfl,.inl ⟨rfl,_,zB.of M.mad⟩,_,rfl,by show 2<=sizeLine;decide,fun p hp=>⟨md,_,_,rfl,rfl,mdu p _ hp,zhe,?_⟩⟩
   exact fin p _ (.nt s1) hp ⟨q1,zm,s1i.mono (wz.new hp _)⟩ s1o (by show 1+s1.depth<=_;omega)
  have n4:kind ≠ "not" := fun e=>c4 (decide_eq_true (by rw[e]))
  refine⟨_,rfl,rfl,_,rfl,xQ (fun c5=>?_) (fun c5=>?_)⟩
  ·have ek:kind="some" := by have:=of_decide_eq_true c5;cases this;rfl
   subst ek
   refine xH ⟨_,rfl,.inl ⟨rfl,_,zB.of M.mad⟩,_,rfl,_,rfl,_,rfl,by show 3<=sizeLine;decide,fun p hp=>⟨md,_,_,rfl,rfl,mdu p _ hp,zhe,?_⟩⟩
   exact fin p _ (.q1 true x s1) hp ⟨q1,zm,s1i.mono (wz.new hp _)⟩ ⟨hx,s1o⟩ (by show 1+s1.depth<=_;omega)
  have n5:kind ≠ "some" := fun e=>c5 (decide_eq_true (by rw[e]))
  refine⟨_,rfl,rfl,_,rfl,xQ (fun c6=>?_) (fun c6=>?_)⟩
  ·have ek:kind="each" := by have:=of_decide_eq_true c6;cases this;rfl
   subst ek
   refine⟨_,rfl,.inl ⟨rfl,_,zB.of M.mad⟩,_,rfl,_,rfl,_,rfl,by show 3<=sizeLine;decide,fun p hp=>⟨md,_,_,rfl,rfl,mdu p _ hp,zhe,?_⟩⟩
   exact fin p _ (.q1 false x s1) hp ⟨q1,zm,s1i.mono (wz.new hp _)⟩ ⟨hx,s1o⟩ (by show 1+s1.depth<=_;omega)
  have n6:kind ≠ "each" := fun e=>c6 (decide_eq_true (by rw[e]))
  obtain⟨o,ho⟩:∃o:Fin 4,kind=w2 o:=by
   have:kind∈([Str.ofString "mark", Str.ofString "mark", Str.ofString "not", Str.ofString "and", Str.ofString "or", Str.ofString "either", Str.ofString "if", Str.ofString "and", Str.ofString "or", Str.ofString "some", Str.ofString "each", Str.ofString "yes", Str.ofString "no", Str.ofString "mark"]:List Str):=hkm
   simp only[List.mem_cons,zuC,or_false] at this
   rcases this with h | h | h | h | h | h | h | h | h | h | h | h | h | h<;>first | exact absurd h n1 | exact absurd h n2 | exact absurd h n3 | exact absurd h n4 | exact absurd h n5 | exact absurd h n6 | exact⟨0,h⟩ | exact⟨1,h⟩ | exact⟨2,h⟩ | exact⟨3,h⟩
  subst ho
  refine⟨_,rfl,.inl ⟨rfl,_,zB.of M.mad⟩,_,rfl,_,rfl,_,rfl,by show 3<=sizeLine;decide,fun p hp=>⟨md,_,_,rfl,rfl,mdu p _ hp,zhe,?_⟩⟩
  exact fin p _ (.b2 o s2 s1) hp ⟨q2,q1,zm,s2i.mono (wz.new hp _),s1i.mono (wz.new hp _)⟩ ⟨s2o,s1o⟩ (by show 1+max s2.depth s1.depth<=_;omega)
 ·rintro σ H' ⟨ps,f1,f2,f3,f4,f5,f6,M,lp,rfl⟩
  obtain⟨p,hp,hp'⟩:=Ja (ps:=ps) (i:=-1) (by omega) (by omega)
  obtain⟨s',z1,z2,z3⟩:=M.all p hp
  have e:((m:Int)-1).toNat+1=m:=by omega
  rw[e] at z3
  exact⟨_,rfl,1,rfl,md,_,-1,_,rfl,rfl,zB.of M.mad,hp',q p H' s' M.old z1 z2 z3⟩
theorem zhf (T:Txt P w K mg a):zy P w K mg base yq (k+1) a.U4 a.U5 Wn RK:=by
 refine T.Jq.F.ok zg0 (fun vs H Q E h=>?_) (fun cdv A outer s H vs Q E hr h=>?_)
 ·obtain⟨x,rfl,_⟩:=h
  rfl
 obtain⟨x,rfl,q⟩:=h
 refine⟨_,(zp (zV (Zd Yx (pv 0) (vd (v:=.ref a.zaQ) rfl T.zmx rfl) (by with_unfolding_all rfl)))),?_⟩
 refine⟨_,rfl,a.zaQ,uI.map V.str,rfl,.inr (T.zmy H),rfl,wD _,?_⟩
 show Q (.bl (inV (.str x) (uI.map V.str))) H
 rw[ze6]
 exact q
theorem zf0 (T:Txt P w K mg a)(Jt:zy P w K mg base yq k a.U4 a.U5 Wn RK):zy P w K mg base yq (k+1) a.NZ a.N5 T8 (zde K):=by
 refine T.zbT.F.ok zfB (fun vs H Q E h=>?_) (fun cdv A outer s H vs Q E hr h=>?_)
 ·obtain⟨l,os,rfl,_⟩:=h
  rfl
 obtain⟨l,os,rfl,hq,h100,q⟩:=h
 refine⟨_,(zp (zV (zdG (Zd Mt (zR zO rfl T.wY xV (za (pv 0) zc)) zq (yg _)) (zdG (zR (RB rfl) rfl T.zfX za5 (za (V0 (Zx:=zx T7) (js:=[]) rfl (by show XJ (zx T7) _ "letter" [];exact⟨rfl,by decide +kernel,by decide +kernel,rfl,by decide +kernel,by decide +kernel,by decide +kernel⟩) rfl (vg (pv 0)) (by show ∀j∈([]:List Nat),j<1;decide) (fun cl C s₂ H₂ fp=>(zu Jt hr T.Jq (za (pv 0) zc)))) zc)) (zjd (Zd wW (zR call_len_set' rfl T.wY xV (za (K5 (zjG rfl) rfl T.zpA znE (za (pv 0) zc)) zc)) (zR zO rfl T.wY xV (za (pv 0) zc)) (yg _))))))),?_⟩
 have hlen:(os.map V.str).length=os.length:=zuc _
 refine⟨_,rfl,l,_,rfl,.inl hq,_,_,rfl,rfl,_,rfl,xQ (fun c=>?_) (fun c=>?_)⟩
 ·have c':0<os.length:=by have:=of_decide_eq_true c;rw[hlen] at this;omega
  refine⟨_,rfl,l,rfl,⟨_,hq⟩,zhO (fun x v=>v=(match x with | .str y=>.bl (decide (y∈uI)) | _=>.non)) hq (by rw[hlen];exact zuu (yI (by omega))) ?_ (zjM JK) ?_⟩
  ·intro i x H' hx g
   rw[zue] at hx
   cases ho:os[i]? with
   | none=>rw[ho] at hx;cases hx
   | some y =>
    rw[ho] at hx
    cases hx
    exact⟨_,rfl,y,rfl,rfl,g⟩
  ·intro ys H' p hr' g hp
   have e:=za9 (f:=fun x=>match x with | .str y=>.bl (decide (y∈uI)) | _=>.non) hr'
   rw[zuN] at e
   have e2:ys=(os.map fun y=>decide (y∈uI)).map V.bl:=by rw[e,zuN];rfl
   subst e2
   have g1:=Same.new hp (.lst ((os.map fun y=>decide (y∈uI)).map V.bl))
   refine⟨p,_,rfl,zB.of zm,_,rfl,xQ (fun c2=>?_) (fun c2=>?_)⟩
   ·have hq2:=(g.trans g1).seq hq
    refine⟨_,rfl,l,os,rfl,hq2,h100,fun z hz=>⟨z,_,rfl,zm,?_⟩⟩
    have g2:=Same.new hz (zlx P w z (dd os).length)
    refine⟨_,rfl,l,_,rfl,.inl (g2.seq hq2),rfl,?_⟩
    have e3:decide (V.int ((dd os).length:Nat)=V.int ((os.map V.str).length:Nat))=zdZ os:=by
     unfold zdZ
     have c2':os.all (fun x=>decide (x∈uI))=true:=by rw[List.all_map] at c2;exact c2
     rw[decide_eq_true c',c2',hlen]
     by_cases nd:os.Nodup
     ·rw[decide_eq_true nd,zjC nd];simp
     ·have:=znB nd
      rw[decide_eq_false nd,decide_eq_false (fun z=>by injection z with z;omega)];rfl
    rw[e3]
    exact q _ ((g.trans g1).trans g2)
   ·have e4:zdZ os=false:=by
     unfold zdZ
     have c2':os.all (fun x=>decide (x∈uI))=false:=by
      rw[List.all_map] at c2
      exact Bool.eq_false_iff.mpr c2
     rw[c2',Bool.false_and,Bool.and_false]
    rw[<-e4]
    exact q _ (g.trans g1)
 ·have e4:zdZ os=false:=by
   unfold zdZ
   rw[decide_eq_false (fun z=>c (decide_eq_true (by rw[hlen];omega))),Bool.false_and]
  rw[<-e4]
  exact q _ (Same.refl _)
theorem zcw (T:Txt P w K mg a):zy P w K mg base yq (k+1) a.Ym a.Yn Zg Vl:=by
 refine T.Ra.F.ok zcn (fun vs H Q E h=>?_) (fun cdv A outer s H vs Q E hr h=>?_)
 ·obtain⟨p,x,m,n,rest,rfl,_⟩:=h
  rfl
 obtain⟨p,x,m,n,rest,rfl,hp,hm,hl,q⟩:=h
 refine⟨_,(zp (zV (Uq zgx (pv 0) (Vj zq) (Vj (zW vP zq (yO Z9 (yO (zdT T.Vd.d) (vd (v:=.ref a.U6) rfl T.Ky rfl) (yO Z9 (pv 0) zq (fun _ _=>rfl)) (fun _ _=>rfl)) zq (fun _ _=>rfl))))))),?_⟩
 obtain⟨pt,hv,hpt⟩:=T.Vd.y x m n hm
 refine⟨_,rfl,1,rfl,_,rfl,p,_,0,_,rfl,rfl,vf.of hp,at0,x,.ref pt,.ref pt,rfl,rfl,hv,rfl,pt,_,0,_,rfl,rfl,hpt H,at0,1,(m:Int),rfl,rfl,_,rfl,p,_,rfl,vf.of hp,zbb (by decide),fun z hz=>?_⟩
 rw[zjN hl]
 exact q z hz
theorem zf1 (T:Txt P w K mg a):zy P w K mg base yq (k+1) a.ZS a.ZV tX Wm:=by
 refine T.Rb.F.ok zfC (fun vs H Q E h=>?_) (fun cdv A outer s H vs Q E hr h=>?_)
 ·obtain⟨p,x,m,n,rest,rfl,_⟩:=h
  rfl
 obtain⟨p,x,m,n,rest,rfl,hp,hm,hl,q⟩:=h
 refine⟨_,(zp (zV (Uq zgx (pv 0) (Vj (zW vP zq (yO Z9 (yO (zdT T.Vd.d) (vd (v:=.ref a.U6) rfl T.Ky rfl) (yO Z9 (pv 0) zq (fun _ _=>rfl)) (fun _ _=>rfl)) zq (fun _ _=>rfl)))) zaC))),?_⟩
 obtain⟨pt,hv,hpt⟩:=T.Vd.y x m n hm
 refine⟨_,rfl,_,rfl,p,_,0,_,rfl,rfl,vf.of hp,at0,x,.ref pt,.ref pt,rfl,rfl,hv,rfl,pt,_,0,_,rfl,rfl,hpt H,at0,1,(m:Int),rfl,rfl,_,rfl,p,_,rfl,vf.of hp,zbb (by omega),fun z hz=>?_⟩
 rw[ze7 hl]
 exact q z hz
theorem zan (T:Txt P w K mg a)(Zc:zy P w K mg base yq k a.ZS a.ZV tX Wm):zy P w K mg base yq (k+1) a.Yo a.Yp tY (TJ K):=by
 refine T.W9.F.ok Xx (fun vs H Q E h=>?_) (fun cdv A outer s H vs Q E hr h=>?_)
 ·obtain⟨l,ss,ps,rfl,_⟩:=h
  rfl
 obtain⟨l,ss,ps,rfl,hl,hp,hz,q⟩:=h
 refine⟨_,(zf (zQ (i:=1) Xx.nd rfl (Or.inl rfl) (xg zc))
   (zf (vO PassesOwn.never rfl (vg (pv 0)) (yS (i:=2) Xx.nd rfl (Or.inl rfl)) (zp (zX (Zw PySem.F.plainAttrs_list PySem.F.slot_list_extend PySem.F.type_list_extend za3 (pv 1) (za (zu Zc hr T.Rb (za (pv 2) zc)) zc)))))
   (zp (zV (pv 1))))),?_⟩
 have pl:=ZP hp
 refine⟨by show 0<=sizeLine;decide,fun f hf=>?_⟩
 have g0:=Same.new hf (.lst [])
 refine⟨_,rfl,l,rfl,⟨_,g0.seq hl⟩,?_⟩
 refine tO (xs:=ps.map V.ref) (fun i σ H'=>∃(qs:List Addr) (f1:Option V),Same H H'/\H' f=some (.lst (qs.map V.ref))/\Paired (RJ H') ((ss.take i).flatMap Sn.parts) qs/\qs.length<=2*i/\i<=ss.length/\σ=[some (.ref l),some (.ref f),f1])
  ⟨[],_,g0,zm,.nil,by simp,zuy _,rfl⟩ ?_ ?_ ?_
 ·rintro i σ H' _ ⟨qs,f1,g,_⟩
  exact g.seq hl
 ·rintro i x σ H' hx ⟨qs,f1,g,hf',hqs,lq,li,rfl⟩
  rw[zue] at hx
  cases ho:ps[i]? with
  | none=>rw[ho] at hx;cases hx
  | some p =>
   rw[ho] at hx
   cases hx
   obtain⟨sn,hsn,isp⟩:=zdb hp ho
   have hlt:=(zuf.mp hsn).1
   obtain⟨zs,c1,c2,c3,c4,c5⟩:=La (isp.mono (wz.of g))
   have lz:=ZP c2
   have lp2:=Sn.M9 sn
   refine⟨_,rfl,.inl ⟨rfl,_,zB.of hf'⟩,_,rfl,p,sn.word,sn.letters.length,sn.parts.length,_,rfl,c1,Yb sn,c3,fun b hb=>?_⟩
   rw[c5]
   have nfb:f≠b:=zF hf' hb
   have hf2:(upd H' b (.tup (zs.map V.ref))) f=some (.lst (qs.map V.ref)):=by rw[zE nfb];exact hf'
   refine⟨f,b,qs.map V.ref,zs.map V.ref,rfl,rfl,hf2,?_,?_,?_⟩
   ·exact vf.of zm
   ·rw[zuc,zuc]
    exact zuu (yI (by omega))
   ·refine⟨qs++zs,_,(g.trans (Same.new hb _)).over hf _,by rw[zm,zuq],?_,?_,hlt,rfl⟩
    ·rw[xK hsn,List.flatMap_append,List.flatMap_singleton]
     have t1:wz H' (upd (upd H' b (.tup (zs.map V.ref))) f (.lst (qs.map V.ref++zs.map V.ref))):=(wz.new hb _).trans (wz.lst hf2 _)
     exact V2 (WD (fun _ _ z=>z.mono t1) hqs) (WD (fun _ _ z=>z.mono t1) c2)
    ·rw[zuk];omega
 ·rintro σ H' ⟨qs,f1,g,hf',hqs,lq,li,rfl⟩
  rw[zuc,<-pl,zuE] at hqs
  exact⟨_,rfl,q f H' qs g hf hf' hqs⟩
theorem zez (T:Txt P w K mg a)(Jt:zy P w K mg base yq k a.U4 a.U5 Wn RK)(Rf:zy P w K mg base yq k a.Ym a.Yn Zg Vl)(Zc:zy P w K mg base yq k a.ZS a.ZV tX Wm) :
  zy P w K mg base yq (k+1) a.Qa a.Qc Vo zbd:=by
 refine T.J6.F.ok Lz (fun vs H Q E h=>?_) (fun cdv A outer s H vs Q E hr h=>?_)
 ·obtain⟨p,s,rfl,_⟩:=h
  rfl
 obtain⟨p,sn,rfl,isp,hle,q⟩:=h
 refine⟨_,(zf (yZ (PW.pt (Pk (zP wW (zR zO rfl T.wY xV (za (pv 0) zc)) zq (yg _)) (Pk (Tj (wR (zR RD rfl T.xZ xJ (za (yO Z9 (pv 0) zq (fun _ _=>rfl)) (za (zaA (v:=.ty "str") rfl T.zpB znD rfl) zc))) (fun _=>rfl))) (Ti (zP (zcd T.Vd.d) (yO Z9 (pv 0) zq (fun _ _=>rfl)) (vd (v:=.ref a.U6) rfl T.Ky rfl) (by with_unfolding_all rfl)))))) (zp (zV Pj)) yC)
   (zf (zQ (i:=1) Lz.nd rfl (Or.inl rfl) (yO (zdT T.Vd.d) (vd (v:=.ref a.U6) rfl T.Ky rfl) (yO Z9 (pv 0) zq (fun _ _=>rfl)) (fun _ _=>rfl)))
   (zf (yZ (zP Pn (zR zO rfl T.wY xV (za (pv 0) zc)) (zW vP (zW vP zq (yO Z9 (pv 1) zq (fun _ _=>rfl))) (yO Z9 (pv 1) zq (fun _ _=>rfl))) (yg _)) (zp (zV Pj)) yC)
   (zf (yZ (Tj (wR (zR (RB rfl) rfl T.zfX za5 (za (V0 (Zx:=zx Z6) (js:=[]) rfl (by show XJ (zx Z6) _ "letter" [];exact⟨rfl,by decide +kernel,by decide +kernel,rfl,by decide +kernel,by decide +kernel,by decide +kernel⟩) rfl (Ry (zu Rf hr T.Ra (za (pv 0) zc))) (by show ∀j∈([]:List Nat),j<2;decide) (fun cl C s₂ H₂ fp=>(zu Jt hr T.Jq (za (pv 0) zc)))) zc)) (fun _=>rfl))) (zp (zV Pj)) yC)
   (zp (zV (zR (RB rfl) rfl T.zfX za5 (za (V0 (Zx:=zx Z6) (js:=[]) rfl (by show XJ (zx Z6) _ "part" [];exact⟨rfl,by decide +kernel,by decide +kernel,rfl,by decide +kernel,by decide +kernel,by decide +kernel⟩) rfl (Ry (zu Zc hr T.Rb (za (pv 0) zc))) (by show ∀j∈([]:List Nat),j<2;decide) (fun cl C s₂ H₂ fp=>(zR (zdX (K:=K) rfl) rfl T.xZ xJ (za (pv 0) (za (zaA (v:=.ty "tuple") rfl T.zih ze2 rfl) zc))))) zc)))))))),?_⟩
 obtain⟨zs,c1,c2,c3,c4,c5⟩:=La isp
 have lz:=ZP c2
 obtain⟨pt,hv,hpt⟩:=T.Vd.y _ _ _ (Yb sn)
 have lp2:=Sn.M9 sn
 have ll1:=Sn.zbc sn
 refine⟨_,rfl,p,_,rfl,.inr (vf.of c1),rfl,_,rfl,xQ (fun c=>?_) (fun _=>?_)⟩
 ·exfalso
  have:=of_decide_eq_true c
  injection this with this
  rw[zuo] at this
  omega
 refine⟨_,rfl,p,_,0,_,rfl,rfl,vf.of c1,at0,_,_,_,true,rfl,.str sn.word,rfl,_,rfl,yD ?_⟩
 refine⟨_,rfl,p,_,0,_,rfl,rfl,vf.of c1,at0,sn.word,rfl,rfl,_,rfl,?_⟩
 rw[hv]
 refine yD ?_
 refine⟨_,rfl,p,_,0,_,rfl,rfl,vf.of c1,at0,sn.word,.ref pt,.ref pt,rfl,rfl,hv,rfl,?_⟩
 refine⟨_,rfl,p,_,rfl,.inr (vf.of c1),_,rfl,pt,_,0,_,rfl,rfl,hpt H,at0,1,_,rfl,rfl,_,rfl,pt,_,1,_,rfl,rfl,hpt H,at1,_,_,rfl,rfl,rfl,_,rfl,xQ (fun c=>?_) (fun _=>?_)⟩
 ·exfalso
  have z:V.int ((VC sn zs).length:Nat)=V.int (1+((sn.letters.length:Nat):Int)+((sn.parts.length:Nat):Int)):=by
   congr 1
   show(((V.str sn.word::(sn.letters.map V.str++zs.map V.ref)).length:Nat):Int)=_
   rw[zuo,c3]
   omega
  have c':(!decide (V.int ((VC sn zs).length:Nat)=V.int (1+((sn.letters.length:Nat):Int)+((sn.parts.length:Nat):Int))))=true:=c
  rw[decide_eq_true z] at c'
  cases c'
 refine⟨_,rfl,p,sn.word,sn.letters.length,sn.parts.length,_,rfl,c1,Yb sn,c3,fun b hb=>?_⟩
 rw[c4]
 have g1:=Same.new hb (.tup (sn.letters.map V.str))
 refine⟨b,rfl,⟨_,vf.of zm⟩,zhP (xs:=sn.letters.map V.str) (fun _ v=>v=.bl true) (vf.of zm) (by rw[zuc];exact zuu (yI (by omega))) ?_ (zjM JK) ?_⟩
 ·intro i x H' hx g
  rw[zue] at hx
  cases ho:sn.letters[i]? with
  | none=>rw[ho] at hx;cases hx
  | some y =>
   rw[ho] at hx
   cases hx
   refine⟨_,rfl,y,rfl,?_,g⟩
   rw[decide_eq_true (hle y (zuh ho))]
 intro ys H' p2 hr' g hp2
 have e:=za9 (f:=fun _=>.bl true) hr'
 have e2:ys=(sn.letters.map fun _=>true).map V.bl:=by rw[e,zuN,zuN];rfl
 subst e2
 have g2:=Same.new hp2 (.lst ((sn.letters.map fun _=>true).map V.bl))
 have ea:(sn.letters.map fun _=>true).all id=true:=by rw[List.all_map,zuF];exact fun _ _=>rfl
 refine⟨p2,_,rfl,zB.of zm,_,rfl,?_⟩
 rw[ea]
 refine yD ?_
 have gg:=(g1.trans g).trans g2
 have c1':=gg _ _ c1
 refine⟨_,rfl,p,sn.word,sn.letters.length,sn.parts.length,_,rfl,c1',Yb sn,c3,fun b3 hb3=>?_⟩
 rw[c5]
 have g3:=Same.new hb3 (.tup (zs.map V.ref))
 refine⟨b3,rfl,⟨_,vf.of zm⟩,zhP (xs:=zs.map V.ref) (fun _ v=>v=.bl true) (vf.of zm) (by rw[zuc];exact zuu (yI (by omega))) ?_ ?_ ?_⟩
 ·intro i x H4 hx g4
  rw[zue] at hx
  cases ho:zs[i]? with
  | none=>rw[ho] at hx;cases hx
  | some y =>
   rw[ho] at hx
   cases hx
   obtain⟨sy,_,iy⟩:=zdb c2 ho
   obtain⟨ws,d1,_⟩:=La iy
   have d1':=((gg.trans g3).trans g4) _ _ d1
   exact⟨_,rfl,_,_,_,true,rfl,.tup d1',rfl,rfl,g4⟩
 ·rintro σ' H' Q1 Q2 hQ ⟨v,e,x,T',t,b',h1,h2,h3,h4⟩
  exact⟨v,e,x,T',t,b',h1,h2,h3,hQ _ _ h4⟩
 ·intro ys H4 p4 hr4 g4 hp4
  have e:=za9 (f:=fun _=>.bl true) hr4
  have e2:ys=(zs.map fun _=>true).map V.bl:=by rw[e,zuN,zuN];rfl
  subst e2
  have ea:(zs.map fun _=>true).all id=true:=by rw[List.all_map,zuF];exact fun _ _=>rfl
  refine⟨p4,_,rfl,zB.of zm,?_⟩
  rw[ea]
  exact q _ (((gg.trans g3).trans g4).trans (Same.new hp4 _))
theorem zbX (T:Txt P w K mg a)(zf2:zy P w K mg base yq k a.Qa a.Qc Vo zbd)(Ve:zy P w K mg base yq k a.Yo a.Yp tY (TJ K)) :
  zy P w K mg base yq (k+1) a.V9 a.Ua YW zhR:=by
 refine T.Ng.F.ok vH (fun vs H Q E h=>?_) (fun cdv A outer s H vs Q E hr h=>?_)
 ·obtain⟨p,s,rfl,_⟩:=h
  rfl
 obtain⟨p,sn,rfl,isp,hin,hc,hd,q⟩:=h
 refine⟨_,(zf (zQ (i:=1) vH.nd rfl (Or.inl rfl) (xg (za (pv 0) zc)))
   (zf (zQ (i:=2) vH.nd rfl (Or.inl rfl) zq)
   (zf (zQ (i:=3) vH.nd rfl (Or.inl rfl) zq)
   (zf (Rx PassesOwn.never (zP Mt (zR zO rfl T.wY xV (za (pv 1) zc)) zq (yg _)) (zf (zgh (i:=2) vH.nd rfl (Or.inl rfl) zq zdJ)
   (zf (zgh (i:=3) vH.nd rfl (Or.inl rfl) (zR zO rfl T.wY xV (za (pv 1) zc)) zdJ)
   (zf (yZ (PW.pt (Pk (zP Mt (pv 2) (vd (v:=.int 24) rfl T.zfW ⟨_,rfl⟩) (yg _)) (Ti (zP Mt (pv 3) (vd (v:=.int 200) rfl T.zcv ⟨_,rfl⟩) (yg _))))) (zp (zV Pj)) yC)
   (zf (yZ (Tj (wR (zR (RB rfl) rfl T.zfX za5 (za (V0 (Zx:=zx YT) (js:=[]) rfl (by show XJ (zx YT) _ "part" [];exact⟨rfl,by decide +kernel,by decide +kernel,rfl,by decide +kernel,by decide +kernel,by decide +kernel⟩) rfl (vg (pv 1)) (by show ∀j∈([]:List Nat),j<4;decide) (fun cl C s₂ H₂ fp=>(zu zf2 hr T.J6 (za (pv 0) zc)))) zc)) (fun _=>rfl))) (zp (zV Pj)) yC)
   (zp (zQ (i:=1) vH.nd rfl (Or.inl rfl) (zu Ve hr T.W9 (za (pv 1) zc)))))))))
   (zp (zV Pj)))))),?_⟩
 refine⟨_,rfl,by show 1<=sizeLine;decide,fun l0 hl0=>?_⟩
 have g0:=Same.new hl0 (.lst [.ref p])
 refine⟨fun m σ H'=>∃(ss:List Sn) (ps:List Addr) (l:Addr) (d t:Nat),m=cnt ss/\Same H H'/\H' l=some (.lst (ps.map V.ref))/\Paired (RJ H') ss ps/\(∀u∈ss,u.V1 uI/\d+u.depth<=24)/\t+cnt ss<=200/\σ=[some (.ref p),some (.ref l),some (.int d),some (.int t)],
  ⟨_,[sn],[p],l0,0,0,rfl,g0,zm,.cons (isp.mono (wz.of g0)) .nil,?_,?_,rfl⟩,?_⟩
 ·intro u hu
  have e:u=sn:=by simpa using hu
  subst e
  exact⟨hin,by omega⟩
 ·show 0+(sn.count+0)<=200
  omega
 rintro m σ H' ⟨ss,ps,l,d,t,rfl,g,hl,hp,hi,ht,rfl⟩
 have lp:=ZP hp
 have le:(ps.map V.ref).length=ss.length:=by rw[zuc];exact lp.symm
 have cl:=zhQ ss
 refine⟨_,rfl,l,_,rfl,.inl (zB.of hl),_,_,rfl,rfl,_,rfl,xQ (fun c=>?_) (fun c=>?_)⟩
 ·have c':0<ss.length:=by have:=of_decide_eq_true c;rw[le] at this;omega
  have hd1:d+1<=24:=by
   have hm:ss[0]∈ss:=List.getElem_mem c'
   have:=(hi _ hm).2
   have:=Sn.K9 ss[0]
   omega
  refine⟨_,fun σ' H2 h=>h,?_⟩
  refine⟨_,rfl,(d:Int),1,rfl,rfl,?_⟩
  refine⟨_,rfl,_,rfl,l,_,rfl,.inl (zB.of hl),(t:Int),_,rfl,rfl,?_⟩
  refine⟨_,rfl,_,_,rfl,rfl,_,rfl,xQ (fun c2=>?_) (fun _=>?_)⟩
  ·exfalso
   have:=of_decide_eq_true c2
   omega
  refine⟨_,rfl,_,_,rfl,rfl,_,rfl,xQ (fun c2=>?_) (fun _=>?_)⟩
  ·exfalso
   have:=of_decide_eq_true c2
   rw[le] at this
   omega
  refine⟨_,rfl,l,rfl,⟨_,zB.of hl⟩,zhO (fun _ v=>v=.bl true) (zB.of hl) (by rw[le];exact zuu (yI (by omega))) ?_ (zjM ze8) ?_⟩
  ·intro i x H2 hx g2
   rw[zue] at hx
   cases ho:ps[i]? with
   | none=>rw[ho] at hx;cases hx
   | some y =>
    rw[ho] at hx
    cases hx
    obtain⟨sy,hsy,iy⟩:=zdb hp ho
    exact⟨_,rfl,y,sy,rfl,iy.mono (wz.of g2),Sn.ze3 sy (hi sy (zuh hsy)).1,fun H3 g3=>⟨rfl,g2.trans g3⟩⟩
  intro ys H2 p2 hr' g2 hp2
  have e:=za9 (f:=fun _=>.bl true) hr'
  have e2:ys=(ps.map fun _=>true).map V.bl:=by rw[e,zuN,zuN];rfl
  subst e2
  have g3:=Same.new hp2 (.lst ((ps.map fun _=>true).map V.bl))
  have ea:(ps.map fun _=>true).all id=true:=by rw[List.all_map,zuF];exact fun _ _=>rfl
  refine⟨p2,_,rfl,zB.of zm,_,rfl,?_⟩
  rw[ea]
  refine yD ?_
  have gg:=g2.trans g3
  refine⟨_,rfl,l,ss,ps,rfl,gg.seq (zB.of hl),WD (fun _ _ z=>z.mono (wz.of gg)) hp,by omega,fun l' H4 ps' g4 hn hl' hp'=>?_⟩
  have cp:=Qy ss
  refine⟨cnt (ss.flatMap Sn.parts),by omega,ss.flatMap Sn.parts,ps',l',d+1,t+(ps.map V.ref).length,rfl,(g.trans gg).trans g4,hl',hp',?_,by omega,rfl⟩
  intro u hu
  obtain⟨s',hs',hu'⟩:=Jb.mp hu
  obtain⟨i1,i2⟩:=hi s' hs'
  have:=Sn.RG s' u hu'
  exact⟨Sn.zc8 s' i1 u hu',by omega⟩
 ·exact q _ g
theorem Ju (T:Txt P w K mg a)(zhg:zy P w K mg base yq k a.NZ a.N5 T8 (zde K)):zy P w K mg base yq (k+1) a.Xy a.Xz ZL (JL K):=by
 refine T.Rr.F.ok Jm (fun vs H Q E h=>?_) (fun cdv A outer s H vs Q E hr h=>?_)
 ·obtain⟨l,os,rfl,_⟩:=h
  rfl
 obtain⟨l,os,rfl,hq,ho,q⟩:=h
 refine⟨_,(zp (yZ (Tj (wR (zu zhg hr T.zbT (za (pv 0) zc)) (fun _=>rfl))) (zp Ul) yC)),?_⟩
 refine⟨_,rfl,l,os,rfl,hq,zux ho.le (by decide),fun H' g=>⟨_,rfl,?_⟩⟩
 rw[zlH ho]
 exact yD (q H' g)
theorem Ph (T:Txt P w K mg a)(zcx:zy P w K mg base yq k a.V9 a.Ua YW zhR):zy P w K mg base yq (k+1) a.ZW a.ZX uQ zdf:=by
 refine T.Va.F.ok Pg (fun vs H Q E h=>?_) (fun cdv A outer s H vs Q E hr h=>?_)
 ·obtain⟨p,s,rfl,_⟩:=h
  rfl
 obtain⟨p,sn,rfl,h1,h2,h3,h4,q⟩:=h
 refine⟨_,(zp (yZ (Tj (wR (zu zcx hr T.Ng (za (pv 0) zc)) (fun _=>rfl))) (zp Ul) yC)),?_⟩
 exact⟨_,rfl,p,sn,rfl,h1,h2,h3,h4,fun H' g=>⟨_,rfl,yD (q H' g)⟩⟩
theorem zeA (T:Txt P w K mg a)(Ve:zy P w K mg base yq k a.Yo a.Yp tY (TJ K)):zy P w K mg base yq (k+1) a.Qd a.Qe Vq zbe:=by
 refine T.J7.F.ok X6 (fun vs H Q E h=>?_) (fun cdv A outer s H vs Q E hr h=>?_)
 ·obtain⟨p,s,rfl,_⟩:=h
  rfl
 obtain⟨p,sn,rfl,isp,hc,q⟩:=h
 refine⟨_,(zf (zQ (i:=1) X6.nd rfl (Or.inl rfl) (xg zc))
   (zf (zQ (i:=2) X6.nd rfl (Or.inl rfl) (xg (za (pv 0) zc)))
   (zf (Rx PassesOwn.never (zP Mt (zR zO rfl T.wY xV (za (pv 2) zc)) zq (yg _)) (zf (zX (Zw PySem.F.plainAttrs_list PySem.F.slot_list_extend PySem.F.type_list_extend ziv (pv 1) (za (pv 2) zc)))
   (zp (zQ (i:=2) X6.nd rfl (Or.inl rfl) (zu Ve hr T.W9 (za (pv 2) zc))))))
   (zp (zV (pv 1)))))),?_⟩
 refine⟨by show 0<=sizeLine;decide,fun f hf=>?_⟩
 refine⟨_,rfl,by show 1<=sizeLine;decide,fun l0 hl0=>?_⟩
 have g0:=(Same.new hf (.lst [])).trans (Same.new hl0 (.lst [.ref p]))
 have nfl:f≠l0:=zF zm hl0
 refine⟨fun m σ H'=>∃(ts ss:List Sn) (qs ps:List Addr) (l:Addr),m=cnt ss/\Same H H'/\H' f=some (.lst (qs.map V.ref))/\H' l=some (.lst (ps.map V.ref))/\f≠l/\Paired (RJ H') ts qs/\Paired (RJ H') ss ps/\ts.length+cnt ss=sn.count /\
   (∀x,((∃t∈ts,x∈t.letters)\/∃u∈ss,x∈u.all)↔x∈sn.all)/\σ=[some (.ref p),some (.ref f),some (.ref l)],
  ⟨_,[],[sn],[],[p],l0,rfl,g0,by rw[zE nfl];exact zm,zm,nfl,.nil,.cons (isp.mono (wz.of g0)) .nil,?_,?_,rfl⟩,?_⟩
 ·show 0+(sn.count+0)=sn.count
  omega
 ·intro x
  simp
 rintro m σ H' ⟨ts,ss,qs,ps,l,rfl,g,hf',hl,nfl,hts,hss,hcn,hle,rfl⟩
 have lt:=ZP hts
 have lp:=ZP hss
 have cl:=zhQ ss
 have le:(ps.map V.ref).length=ss.length:=by rw[zuc];exact lp.symm
 refine⟨_,rfl,l,_,rfl,.inl (zB.of hl),_,_,rfl,rfl,_,rfl,xQ (fun c=>?_) (fun c=>?_)⟩
 ·have c':0<ss.length:=by have:=of_decide_eq_true c;rw[le] at this;omega
  refine⟨_,fun σ' H2 h=>h,?_⟩
  refine⟨_,rfl,.inl ⟨rfl,_,zB.of hf'⟩,_,rfl,f,l,_,_,rfl,rfl,hf',hl,by rw[zuc,zuc];exact zuu (yI (by omega)),?_⟩
  have t1:wz H' (upd H' f (.lst (qs.map V.ref++ps.map V.ref))):=wz.lst hf' _
  have g1:Same H (upd H' f (.lst (qs.map V.ref++ps.map V.ref))):=g.over hf _
  have hl1:(upd H' f (.lst (qs.map V.ref++ps.map V.ref))) l=some (.lst (ps.map V.ref)):=by rw[zE (Ne.symm nfl)];exact hl
  refine⟨_,rfl,l,ss,ps,rfl,zB.of hl1,WD (fun _ _ z=>z.mono t1) hss,by omega,fun l' H3 ps' g3 hn hl' hp'=>?_⟩
  have cp:=Qy ss
  have t3:=t1.trans (wz.of g3)
  refine⟨cnt (ss.flatMap Sn.parts),by omega,ts++ss,ss.flatMap Sn.parts,qs++ps,ps',l',rfl,g1.trans g3,by rw[zuq];exact g3 _ _ zm,hl',zF zm hn,
   V2 (WD (fun _ _ z=>z.mono t3) hts) (WD (fun _ _ z=>z.mono t3) hss),hp',by rw[zuk];omega,fun x=>?_,rfl⟩
  rw[<-hle x]
  constructor
  ·rintro (⟨t,ht,hx⟩ | ⟨u,hu,hx⟩)
   ·rcases List.mem_append.mp ht with z | z
    ·exact .inl ⟨t,z,hx⟩
    ·exact .inr ⟨t,z,(Sn.zdY t x).mpr (.inl hx)⟩
   ·obtain⟨s',hs',hu'⟩:=Jb.mp hu
    exact .inr ⟨s',hs',(Sn.zdY s' x).mpr (.inr ⟨u,hu',hx⟩)⟩
  ·rintro (⟨t,ht,hx⟩ | ⟨u,hu,hx⟩)
   ·exact .inl ⟨t,List.mem_append_left _ ht,hx⟩
   ·rcases (Sn.zdY u x).mp hx with z | ⟨v,hv,z⟩
    ·exact .inl ⟨u,zut _ hu,z⟩
    ·exact .inr ⟨v,Jb.mpr ⟨u,hu,hv⟩,z⟩
 ·have c':ss=[]:=by
   have:¬ 0<ss.length:=fun z=>c (decide_eq_true (by rw[le];omega))
   exact List.length_eq_zero_iff.mp (by omega)
  subst c'
  refine⟨_,rfl,q f H' ts qs g hf hf' hts ?_ fun x=>?_⟩
  ·have:cnt []=0:=rfl
   omega
  ·rw[<-hle x]
   constructor
   ·exact fun z=>.inl z
   ·rintro (z | ⟨u,hu,_⟩)
    ·exact z
    ·cases hu
theorem zcy (T:Txt P w K mg a)(zf3:zy P w K mg base yq k a.Qd a.Qe Vq zbe)(Rf:zy P w K mg base yq k a.Ym a.Yn Zg Vl):zy P w K mg base yq (k+1) a.Sg a.Sh X7 JM:=by
 refine T.Ks.F.ok V5 (fun vs H Q E h=>?_) (fun cdv A outer s H vs Q E hr h=>?_)
 ·obtain⟨p,s,rfl,_⟩:=h
  rfl
 obtain⟨p,sn,rfl,isp,hc,q⟩:=h
 refine⟨_,(zf (zQ (i:=1) V5.nd rfl (Or.inl rfl) (xg zc))
   (zf (vO PassesOwn.never rfl (vg (zu zf3 hr T.J7 (za (pv 0) zc))) (yS (i:=2) V5.nd rfl (Or.inl rfl)) (zp (zX (Zw PySem.F.plainAttrs_list PySem.F.slot_list_extend PySem.F.type_list_extend za3 (pv 1) (za (zu Rf hr T.Ra (za (pv 2) zc)) zc)))))
   (zp (zV (pv 1))))),?_⟩
 refine⟨by show 0<=sizeLine;decide,fun f hf=>?_⟩
 have g0:=Same.new hf (.lst [])
 refine⟨_,rfl,p,sn,rfl,isp.mono (wz.of g0),hc,fun l H1 ts ps g1 hn hl hts htl hle=>?_⟩
 have nfl:f≠l:=zF zm hn
 have lt:=ZP hts
 refine⟨l,rfl,⟨_,zB.of hl⟩,?_⟩
 refine tO (xs:=ps.map V.ref) (fun i σ H'=>∃(f1:Option V),Same H H'/\H' f=some (.lst (((ts.take i).flatMap Sn.letters).map V.str))/\H' l=some (.lst (ps.map V.ref))/\Paired (RJ H') ts ps/\((ts.take i).flatMap Sn.letters).length<=i/\i<=ts.length/\σ=[some (.ref p),some (.ref f),f1])
  ⟨_,g0.trans g1,g1 _ _ zm,hl,hts,by simp,zuy _,rfl⟩ ?_ ?_ ?_
 ·rintro i σ H' _ ⟨f1,g,hf',hl',_⟩
  exact zB.of hl'
 ·rintro i x σ H' hx ⟨f1,g,hf',hl',hts',lq,li,rfl⟩
  rw[zue] at hx
  cases ho:ps[i]? with
  | none=>rw[ho] at hx;cases hx
  | some pp =>
   rw[ho] at hx
   cases hx
   obtain⟨sy,hsy,iy⟩:=zdb hts' ho
   have hlt:=(zuf.mp hsy).1
   obtain⟨zs,c1,c2,c3,c4,c5⟩:=La iy
   have l1:=Sn.zbc sy
   refine⟨_,rfl,.inl ⟨rfl,_,zB.of hf'⟩,_,rfl,pp,sy.word,sy.letters.length,sy.parts.length,_,rfl,c1,Yb sy,c3,fun b hb=>?_⟩
   rw[c4]
   have hf2:(upd H' b (.tup (sy.letters.map V.str))) f=some (.lst (((ts.take i).flatMap Sn.letters).map V.str)):=by rw[zE (zF hf' hb)];exact hf'
   refine⟨f,b,_,sy.letters.map V.str,rfl,rfl,hf2,vf.of zm,?_,?_⟩
   ·rw[zuc,zuc]
    exact zuu (yI (by omega))
   ·have t1:wz H' (upd (upd H' b (.tup (sy.letters.map V.str))) f (.lst (((ts.take i).flatMap Sn.letters).map V.str++sy.letters.map V.str))):=(wz.new hb _).trans (wz.lst hf2 _)
    have e:(ts.take (i+1)).flatMap Sn.letters=(ts.take i).flatMap Sn.letters++sy.letters:=by rw[xK hsy,List.flatMap_append,List.flatMap_singleton]
    refine⟨_,(g.trans (Same.new hb _)).over hf _,by rw[zm,e,zuq],?_,WD (fun _ _ z=>z.mono t1) hts',by rw[e,zuk];omega,hlt,rfl⟩
    rw[zE (Ne.symm nfl),zE (zF hl' hb)]
    exact hl'
 ·rintro σ H' ⟨f1,g,hf',hl',hts',lq,li,rfl⟩
  rw[zuc,<-lt,zuE] at hf' lq
  refine⟨_,rfl,q f H' _ g hf hf' (fun x=>?_) (by omega)⟩
  rw[<-hle x,List.mem_flatMap]
theorem Kz (T:Txt P w K mg a):zy P w K mg base yq (k+1) a.Zh a.Zi uw (Nx K):=by
 refine T.U7.F.ok LC (fun vs H Q E h=>?_) (fun cdv A outer s H vs Q E hr h=>?_)
 ·obtain⟨l,x,os,rfl,_⟩:=h
  rfl
 obtain⟨l,x,os,rfl,hO,hx,q⟩:=h
 refine⟨_,(zp (yZ (zP MJ (pv 1) (pv 0) (by with_unfolding_all rfl)) (zp Ul) yC)),?_⟩
 refine⟨_,rfl,_,rfl,l,_,rfl,.inl hO,rfl,wD _,_,rfl,?_⟩
 have e:(if true=true then !inV (.str x) (os.map V.str) else inV (.str x) (os.map V.str))=false:=by
  rw[if_pos rfl,ze6,decide_eq_true hx];rfl
 rw[e]
 exact yD q
theorem Ma (T:Txt P w K mg a)(zeB:zy P w K mg base yq k a.Sg a.Sh X7 JM)(Jv:zy P w K mg base yq k a.Zh a.Zi uw (Nx K)):zy P w K mg base yq (k+1) a.Yq a.Yr tK (JN K):=by
 refine T.VH.F.ok WT (fun vs H Q E h=>?_) (fun cdv A outer s H vs Q E hr h=>?_)
 ·obtain⟨l,p,os,s,rfl,_⟩:=h
  rfl
 obtain⟨l,p,os,sn,rfl,hO,isp,hc,hin,q⟩:=h
 refine⟨_,(zp (vO PassesOwn.never rfl (vg (zu zeB hr T.Ks (za (pv 1) zc))) (yS (i:=2) WT.nd rfl (Or.inl rfl)) (zp (zX (zu Jv hr T.U7 (za (pv 0) (za (pv 2) zc))))))),?_⟩
 refine⟨_,rfl,p,sn,rfl,isp,hc,fun f H1 xs g1 hn hl hmem hxl=>?_⟩
 refine⟨f,rfl,⟨_,zB.of hl⟩,?_⟩
 refine tO (xs:=xs.map V.str) (fun i σ H'=>∃f1:Option V,H'=H1/\σ=[some (.ref l),some (.ref p),f1]) ⟨_,rfl,rfl⟩ ?_ ?_ ?_
 ·rintro i σ H' _ ⟨f1,rfl,_⟩
  exact zB.of hl
 ·rintro i x σ H' hx ⟨f1,rfl,rfl⟩
  rw[zue] at hx
  cases ho:xs[i]? with
  | none=>rw[ho] at hx;cases hx
  | some y =>
   rw[ho] at hx
   cases hx
   have hy:y∈os:=(Sn.XS sn).mp hin y ((hmem y).mp (zuh ho))
   exact⟨_,rfl,_,rfl,l,y,os,rfl,g1.seq hO,hy,_,rfl,rfl⟩
 ·rintro σ H' ⟨f1,rfl,rfl⟩
  exact q _ g1
theorem zao (T:Txt P w K mg a):zy P w K mg base yq (k+1) a.tZ a.Za ux zhS:=by
 refine T.Qm.F.ok zah (fun vs H Q E h=>?_) (fun cdv A outer s H vs Q E hr h=>?_)
 ·obtain⟨o,N,M,n,f,g,rfl,_⟩:=h
  rfl
 obtain⟨o,N,M,n,f,g,rfl,hN,hM,q⟩:=h
 refine⟨_,(zf (yZ (zP wW (pv 0) xT (yg _)) (zp (zV (zW tH (pv 1) (pv 2)))) yC)
   (zf (yZ (zP wW (pv 0) xT (yg _)) (zp (zV (zW Tw (pv 1) (pv 2)))) yC)
   (zf (yZ (zP wW (pv 0) xT (yg _)) (zp (zV (zW Qx (pv 1) (pv 2)))) yC)
   (zp (zV (zW Tw (zW Qx (pv 3) (pv 1)) (pv 2))))))),?_⟩
 rcases zqZ o with e | e | e | e
 ·subst e
  exact⟨_,rfl,rfl,_,rfl,xQ (fun _=>⟨_,rfl,_,rfl,N,M,rfl,rfl,q _ (XQ hN hM)⟩) (fun c=>absurd (decide_eq_true rfl) c)⟩
 ·subst e
  refine⟨_,rfl,rfl,_,rfl,xQ (fun c=>absurd c (ne_str (show Str.ofString "or" ≠ Str.ofString "and" by decide +kernel))) (fun _=>?_)⟩
  exact⟨_,rfl,rfl,_,rfl,xQ (fun _=>⟨_,rfl,_,rfl,N,M,rfl,rfl,q _ (Nt hN hM)⟩) (fun c=>absurd (decide_eq_true rfl) c)⟩
 ·subst e
  refine⟨_,rfl,rfl,_,rfl,xQ (fun c=>absurd c (ne_str (show Str.ofString "either" ≠ Str.ofString "and" by decide +kernel))) (fun _=>?_)⟩
  refine⟨_,rfl,rfl,_,rfl,xQ (fun c=>absurd c (ne_str (show Str.ofString "either" ≠ Str.ofString "or" by decide +kernel))) (fun _=>?_)⟩
  exact⟨_,rfl,rfl,_,rfl,xQ (fun _=>⟨_,rfl,_,rfl,N,M,rfl,rfl,q _ (Tv hN hM)⟩) (fun c=>absurd (decide_eq_true rfl) c)⟩
 ·subst e
  refine⟨_,rfl,rfl,_,rfl,xQ (fun c=>absurd c (ne_str (show Str.ofString "if" ≠ Str.ofString "and" by decide +kernel))) (fun _=>?_)⟩
  refine⟨_,rfl,rfl,_,rfl,xQ (fun c=>absurd c (ne_str (show Str.ofString "if" ≠ Str.ofString "or" by decide +kernel))) (fun _=>?_)⟩
  refine⟨_,rfl,rfl,_,rfl,xQ (fun c=>absurd c (ne_str (show Str.ofString "if" ≠ Str.ofString "either" by decide +kernel))) (fun _=>?_)⟩
  refine⟨_,rfl,_,rfl,_,N,rfl,rfl,_,rfl,_,M,rfl,rfl,q _ (vR (Nt (Tv (M4 n) hN) hM) fun b _=>?_)⟩
  show((true != f b)||g b)=(!f b||g b)
  cases f b<;>rfl
theorem zcz {d:Nat}(T:Txt P w K mg a)(vJ:zy P w K mg base yq k a.ZQ a.ZR tW Wj)(wO:zy P w K mg base yq k a.v9 a.uc vA tQ)
  (uF:zy P w K mg base yq k a.YG a.YH Z5 Wk)(Zc:zy P w K mg base yq k a.ZS a.ZV tX Wm)
  (Yt:zy P w K mg base yq k a.tZ a.Za ux zhS)
  (Mf:zy P w K mg base yq k a.W5 a.W6 YF (Qz K d)):zy P w K mg base yq (k+1) a.W5 a.W6 YF (Qz K (d+1)):=by
 refine T.N6.F.ok Vr (fun vs H Q E h=>?_) (fun cdv A outer s H vs Q E hr h=>?_)
 ·obtain⟨p,l,sn,os,rfl,_⟩:=h
  rfl
 obtain⟨p,l,sn,os,rfl,isp,hO,hin,h8,hd,q⟩:=h
 refine⟨_,(zf (zQ (i:=2) Vr.nd rfl (Or.inl rfl) (yO Z9 (pv 0) zq (fun _ _=>rfl)))
   (zf (zQ (i:=3) Vr.nd rfl (Or.inl rfl) (zR zO rfl T.wY xV (za (pv 1) zc)))
   (zf (yZ (zP wW (pv 2) xT (yg _)) (zp (zV zq)) yC)
   (zf (yZ (zP wW (pv 2) xT (yg _)) (zp (zV (zu vJ hr T.Z0 (za (pv 3) zc)))) yC)
   (zf (yZ (zP wW (pv 2) xT (yg _)) (zp (zV (zu wO hr T.Z7 (za (Zw PySem.F.plainAttrs_list PySem.F.slot_list_index PySem.F.type_list_index MP (pv 1) (za (yO Z9 (pv 0) zq (fun _ _=>rfl)) zc)) (za (pv 3) zc))))) yC)
   (zf (MN (tt:=zcb) (i:=4) Vr.nd rfl (Or.inl rfl) (.inl rfl) (Zx:=zx T9) (js:=[1]) rfl (by show XJ (zx T9) _ "part" ["order"];exact⟨rfl,by decide +kernel,by decide +kernel,rfl,by decide +kernel,by decide +kernel,by decide +kernel⟩) rfl (Ry (zu Zc hr T.Rb (za (pv 0) zc))) (by show ∀j∈([1]:List Nat),j<5;decide) (fun cl C s₂ H₂ fp pins s' σ' H' Q I h=>wpAny_pure ⟨H',I,h⟩) (fun cl C s₂ H₂ fp=>(zu Mf hr T.N6 (za (pv 0) (za (pv 1) zc)))) rfl)
   (zf (yZ (zP wW (pv 2) xT (yg _)) (zp (zV (zW Qx (zu vJ hr T.Z0 (za (pv 3) zc)) (yO yP (pv 4) zq (fun _ _=>rfl))))) yC)
   (zf (yZ (zP wW (pv 2) xT (yg _)) (zp (zV (zW Tw (yO yP (pv 4) zq (fun _ _=>rfl)) (zu uF hr T.Wx (za (yO yP (pv 4) zq (fun _ _=>rfl)) (za (Zw PySem.F.plainAttrs_list PySem.F.slot_list_index PySem.F.type_list_index MP (pv 1) (za (yO Z9 (pv 0) zq (fun _ _=>rfl)) zc)) (za (pv 3) zc))))))) yC)
   (zf (yZ (zP wW (pv 2) xT (yg _)) (zp (zV (zW tH (yO yP (pv 4) zq (fun _ _=>rfl)) (zu uF hr T.Wx (za (yO yP (pv 4) zq (fun _ _=>rfl)) (za (Zw PySem.F.plainAttrs_list PySem.F.slot_list_index PySem.F.type_list_index MP (pv 1) (za (yO Z9 (pv 0) zq (fun _ _=>rfl)) zc)) (za (pv 3) zc))))))) yC)
   (zp (zV (zu Yt hr T.Qm (za (pv 2) (za (yO yP (pv 4) zq (fun _ _=>rfl)) (za (yO yP (pv 4) zq (fun _ _=>rfl)) (za (zu vJ hr T.Z0 (za (pv 3) zc)) zc)))))))))))))))),?_⟩
 have hlen:(os.map V.str).length=os.length:=zuc _
 obtain⟨zs,c1,c2,c3,c4,c5⟩:=La isp
 have lz:=ZP c2
 have lp2:=Sn.M9 sn
 refine⟨_,rfl,p,_,0,_,rfl,rfl,vf.of c1,at0,?_⟩
 refine⟨_,rfl,l,_,rfl,.inl hO,?_⟩
 rw[hlen]
 have comp:∀{σ:St} {Q2:Addr->Hp->List V->Prop},σ.getD 1 none=some (.ref l)->(∀(b:Addr) (ys:List V) (H':Hp),Same H H'->H' b=none->ys.length=sn.parts.length->(∀(j:Nat) v,ys[j]?=some v->∃t N,sn.parts[j]?=some t/\v=.int (N:Nat)/\TabOf os t N)->Q2 b H' ys) ->
   ∀b0,H b0=none->∃W:Nat->Nat->List V->Hp->Prop,(∃m,W 0 m [] (upd H b0 (.tup (zs.map V.ref))))/\∀i m ys H,W i m ys H ->
    ((Itt K b0).stop i H/\∀p,H p=none->Q2 p H ys) \/
    ((Itt K b0).go i H/\ys.length<sizeLine/\∀x H',(Itt K b0).KQ i H x H'->zcb (Xu σ [1] (some x)) H' fun b H2 =>
     if b=true then Mw (Qz K d) [] E0 (Mv (zb8 0) (Mv (zb8 1) zdL)) (Xu σ [1] (some x)) H2 fun v H3=>∃m',m'<m/\W (i+1) m' (ys++[v]) H3 else ∃m',m'<m/\W (i+1) m' ys H2):=by
  intro σ Q2 hσ hQ2 b0 hb0
  have g0:=Same.new hb0 (.tup (zs.map V.ref))
  refine zlI (fun j v=>∃t N,sn.parts[j]?=some t/\v=.int ((N:Nat):Int)/\TabOf os t N) (vf.of zm) (by rw[zuc];exact zuu (yI (by omega))) ?_ (zo6 (zgH d)) ?_
  ·intro i x H' hx g
   rw[zue] at hx
   cases ho:zs[i]? with
   | none=>rw[ho] at hx;cases hx
   | some y =>
    rw[ho] at hx
    cases hx
    obtain⟨t,ht,it⟩:=zdb c2 ho
    have htm:=zuh ht
    have dp:=Sn.RG sn t htm
    refine⟨_,rfl,.ref l,?_,y,l,t,os,rfl,it.mono (wz.of (g0.trans g)),(g0.trans g).seq hO,Sn.zc8 sn hin t htm,h8,by omega,fun N H3 g3 hN=>⟨⟨t,N,ht,rfl,hN⟩,g.trans g3⟩⟩
    show some (σ.getD 1 none)=_
    rw[hσ]
  ·intro ys H' pp hl hy g hpp
   exact hQ2 pp ys H' (g0.trans g) hpp (by rw[hl,zuc];exact lz.symm) hy
 cases sn with
 | c0 y =>
  cases y with
  | false=>exact⟨_,rfl,rfl,_,rfl,xQ (fun _=>q 0 _ (Same.refl _) (M5 _)) (fun c=>absurd (decide_eq_true rfl) c)⟩
  | true =>
   refine⟨_,rfl,rfl,_,rfl,xQ (fun c=>absurd c (ne_str (show Str.ofString "yes" ≠ Str.ofString "no" by decide +kernel))) (fun _=>?_)⟩
   exact⟨_,rfl,rfl,_,rfl,xQ (fun _=>⟨_,rfl,os.length,rfl,h8,q _ _ (Same.refl _) (M4 _)⟩) (fun c=>absurd (decide_eq_true rfl) c)⟩
 | mk x =>
  refine⟨_,rfl,rfl,_,rfl,xQ (fun c=>absurd c (ne_str (show Str.ofString "mark" ≠ Str.ofString "no" by decide +kernel))) (fun _=>?_)⟩
  refine⟨_,rfl,rfl,_,rfl,xQ (fun c=>absurd c (ne_str (show Str.ofString "mark" ≠ Str.ofString "yes" by decide +kernel))) (fun _=>?_)⟩
  obtain⟨i1,i2,i3⟩:=Ze (show x∈os from hin)
  have isp':H p=some (.tup [.str "mark", .str x]):=isp
  exact⟨_,rfl,rfl,_,rfl,xQ (fun _=>⟨_,rfl,.inl ⟨rfl,_,hO⟩,_,rfl,p,_,1,_,rfl,rfl,vf.of isp',at1,l,_,.str x,_,rfl,rfl,hO,rfl,wD _,i1,_,rfl,ix os x,os.length,rfl,i2,h8,fun R hR=>q R _ (Same.refl _) hR⟩) (fun c=>absurd (decide_eq_true rfl) c)⟩
 | nt s1 =>
  refine⟨_,rfl,rfl,_,rfl,xQ (fun c=>absurd c (ne_str (show Str.ofString "not" ≠ Str.ofString "no" by decide +kernel))) (fun _=>?_)⟩
  refine⟨_,rfl,rfl,_,rfl,xQ (fun c=>absurd c (ne_str (show Str.ofString "not" ≠ Str.ofString "yes" by decide +kernel))) (fun _=>?_)⟩
  refine⟨_,rfl,rfl,_,rfl,xQ (fun c=>absurd c (ne_str (show Str.ofString "not" ≠ Str.ofString "mark" by decide +kernel))) (fun _=>?_)⟩
  refine⟨_,rfl,p,_,_,_,_,rfl,c1,Yb (.nt s1),c3,fun b0 hb0=>?_⟩
  rw[c5]
  refine⟨b0,rfl,⟨_,vf.of zm⟩,comp rfl (fun b ys H0 g0 hb0' hyl hy=>?_) b0 hb0⟩
  have hb:=zm (H:=H0) (a:=b) (o:=.lst ys)
  have g:=g0.trans (Same.new hb0' (.lst ys))
  obtain⟨v,rfl⟩:=len1 hyl
  obtain⟨t,N,ht,rfl,hN⟩:=hy 0 v rfl
  cases ht
  refine⟨_,rfl,rfl,_,rfl,xQ (fun _=>⟨_,rfl,os.length,rfl,h8,_,rfl,b,_,0,_,rfl,rfl,zB.of hb,at0,_,N,rfl,rfl,q _ _ g (vR (Tv (M4 _) hN) fun z _=>?_)⟩) (fun c=>absurd (decide_eq_true rfl) c)⟩
  show(true != s1.val (Pa os z))=!s1.val (Pa os z)
  cases s1.val (Pa os z)<;>rfl
 | b2 o s1 s2 =>
  have w1:w2 o≠Str.ofString "no" := zo7 o
  have w2':w2 o≠Str.ofString "yes" := znH o
  have w3:w2 o≠Str.ofString "mark" := zlJ o
  have w4:w2 o≠Str.ofString "not" := znI o
  have w5:w2 o≠Str.ofString "some" := zlK o
  have w6:w2 o≠Str.ofString "each" := zlL o
  refine⟨_,rfl,rfl,_,rfl,xQ (fun c=>absurd c (ne_str w1)) (fun _=>?_)⟩
  refine⟨_,rfl,rfl,_,rfl,xQ (fun c=>absurd c (ne_str w2')) (fun _=>?_)⟩
  refine⟨_,rfl,rfl,_,rfl,xQ (fun c=>absurd c (ne_str w3)) (fun _=>?_)⟩
  refine⟨_,rfl,p,_,_,_,_,rfl,c1,Yb (.b2 o s1 s2),c3,fun b0 hb0=>?_⟩
  rw[c5]
  refine⟨b0,rfl,⟨_,vf.of zm⟩,comp rfl (fun b ys H0 g0 hb0' hyl hy=>?_) b0 hb0⟩
  have hb:=zm (H:=H0) (a:=b) (o:=.lst ys)
  have g:=g0.trans (Same.new hb0' (.lst ys))
  obtain⟨v,u,rfl⟩:=len2 hyl
  obtain⟨t,N,ht,rfl,hN⟩:=hy 0 v rfl
  obtain⟨t',M,ht',rfl,hM⟩:=hy 1 u rfl
  cases ht
  cases ht'
  refine⟨_,rfl,rfl,_,rfl,xQ (fun c=>absurd c (ne_str w4)) (fun _=>?_)⟩
  refine⟨_,rfl,rfl,_,rfl,xQ (fun c=>absurd c (ne_str w5)) (fun _=>?_)⟩
  refine⟨_,rfl,rfl,_,rfl,xQ (fun c=>absurd c (ne_str w6)) (fun _=>?_)⟩
  exact⟨_,rfl,_,rfl,b,_,0,_,rfl,rfl,zB.of hb,at0,_,rfl,b,_,1,_,rfl,rfl,zB.of hb,at1,_,rfl,os.length,rfl,h8,o,N,M,os.length,_,_,rfl,hN,hM,fun R hR=>q R _ g hR⟩
 | q1 o x s1 =>
  obtain⟨hx,hs1⟩:=hin
  obtain⟨i1,i2,i3⟩:=Ze hx
  cases o with
  | true =>
   refine⟨_,rfl,rfl,_,rfl,xQ (fun c=>absurd c (ne_str (show Str.ofString "some" ≠ Str.ofString "no" by decide +kernel))) (fun _=>?_)⟩
   refine⟨_,rfl,rfl,_,rfl,xQ (fun c=>absurd c (ne_str (show Str.ofString "some" ≠ Str.ofString "yes" by decide +kernel))) (fun _=>?_)⟩
   refine⟨_,rfl,rfl,_,rfl,xQ (fun c=>absurd c (ne_str (show Str.ofString "some" ≠ Str.ofString "mark" by decide +kernel))) (fun _=>?_)⟩
   refine⟨_,rfl,p,_,_,_,_,rfl,c1,Yb (.q1 true x s1),c3,fun b0 hb0=>?_⟩
   rw[c5]
   refine⟨b0,rfl,⟨_,vf.of zm⟩,comp rfl (fun b ys H0 g0 hb0' hyl hy=>?_) b0 hb0⟩
   have hb:=zm (H:=H0) (a:=b) (o:=.lst ys)
   have g:=g0.trans (Same.new hb0' (.lst ys))
   obtain⟨v,rfl⟩:=len1 hyl
   obtain⟨t,N,ht,rfl,hN⟩:=hy 0 v rfl
   cases ht
   have c1':=g _ _ c1
   refine⟨_,rfl,rfl,_,rfl,xQ (fun c=>absurd c (ne_str (show Str.ofString "some" ≠ Str.ofString "not" by decide +kernel))) (fun _=>?_)⟩
   refine⟨_,rfl,rfl,_,rfl,xQ (fun _=>?_) (fun c=>absurd (decide_eq_true rfl) c)⟩
   refine⟨_,rfl,b,_,0,_,rfl,rfl,zB.of hb,at0,_,rfl,b,_,0,_,rfl,rfl,zB.of hb,at0,_,rfl,.inl ⟨rfl,_,g.seq hO⟩,_,rfl,p,_,1,_,rfl,rfl,vf.of c1',at1,l,_,.str x,_,rfl,rfl,g.seq hO,rfl,wD _,i1,_,rfl,N,ix os x,os.length,_,rfl,i2,h8,hN,fun R hR=>⟨N,R,rfl,rfl,q _ _ g (vR (Nt hN hR) fun z _=>?_)⟩⟩
   exact(zjP hs1 hx z).symm
  | false =>
   refine⟨_,rfl,rfl,_,rfl,xQ (fun c=>absurd c (ne_str (show Str.ofString "each" ≠ Str.ofString "no" by decide +kernel))) (fun _=>?_)⟩
   refine⟨_,rfl,rfl,_,rfl,xQ (fun c=>absurd c (ne_str (show Str.ofString "each" ≠ Str.ofString "yes" by decide +kernel))) (fun _=>?_)⟩
   refine⟨_,rfl,rfl,_,rfl,xQ (fun c=>absurd c (ne_str (show Str.ofString "each" ≠ Str.ofString "mark" by decide +kernel))) (fun _=>?_)⟩
   refine⟨_,rfl,p,_,_,_,_,rfl,c1,Yb (.q1 false x s1),c3,fun b0 hb0=>?_⟩
   rw[c5]
   refine⟨b0,rfl,⟨_,vf.of zm⟩,comp rfl (fun b ys H0 g0 hb0' hyl hy=>?_) b0 hb0⟩
   have hb:=zm (H:=H0) (a:=b) (o:=.lst ys)
   have g:=g0.trans (Same.new hb0' (.lst ys))
   obtain⟨v,rfl⟩:=len1 hyl
   obtain⟨t,N,ht,rfl,hN⟩:=hy 0 v rfl
   cases ht
   have c1':=g _ _ c1
   refine⟨_,rfl,rfl,_,rfl,xQ (fun c=>absurd c (ne_str (show Str.ofString "each" ≠ Str.ofString "not" by decide +kernel))) (fun _=>?_)⟩
   refine⟨_,rfl,rfl,_,rfl,xQ (fun c=>absurd c (ne_str (show Str.ofString "each" ≠ Str.ofString "some" by decide +kernel))) (fun _=>?_)⟩
   refine⟨_,rfl,rfl,_,rfl,xQ (fun _=>?_) (fun c=>absurd (decide_eq_true rfl) c)⟩
   refine⟨_,rfl,b,_,0,_,rfl,rfl,zB.of hb,at0,_,rfl,b,_,0,_,rfl,rfl,zB.of hb,at0,_,rfl,.inl ⟨rfl,_,g.seq hO⟩,_,rfl,p,_,1,_,rfl,rfl,vf.of c1',at1,l,_,.str x,_,rfl,rfl,g.seq hO,rfl,wD _,i1,_,rfl,N,ix os x,os.length,_,rfl,i2,h8,hN,fun R hR=>⟨N,R,rfl,rfl,q _ _ g (vR (XQ hN hR) fun z _=>?_)⟩⟩
   exact(zjQ hs1 hx z).symm
theorem zaa (T:Txt P w K mg a)(vJ:zy P w K mg base yq k a.ZQ a.ZR tW Wj)(wO:zy P w K mg base yq k a.v9 a.uc vA tQ)
  (uF:zy P w K mg base yq k a.YG a.YH Z5 Wk)(Zc:zy P w K mg base yq k a.ZS a.ZV tX Wm)
  (Yt:zy P w K mg base yq k a.tZ a.Za ux zhS):∀d:Nat,zy P w K mg base yq (k+d) a.W5 a.W6 YF (Qz K d)
 | 0=>by
  refine⟨fun vs H Q E h=>?_,fun A outer s H args us vs Q E _ _ _ _ h=>?_⟩
  ·obtain⟨p,l,sn,os,rfl,_⟩:=h
   rfl
  ·obtain⟨p,l,sn,os,_,_,_,_,_,hd,_⟩:=h
   have:=Sn.K9 sn
   omega
 | d+1=>zcz T (vJ.mono (zuM _ _)) (wO.mono (zuM _ _)) (uF.mono (zuM _ _)) (Zc.mono (zuM _ _)) (Yt.mono (zuM _ _)) (zaa T vJ wO uF Zc Yt d)
theorem zhh (T:Txt P w K mg a)(wO:zy P w K mg base yq k a.v9 a.uc vA tQ)(uF:zy P w K mg base yq k a.YG a.YH Z5 Wk):zy P w K mg base yq (k+1) a.Wo a.Wq YB RQ:=by
 refine T.YJ.F.ok NQ (fun vs H Q E h=>?_) (fun cdv A outer s H vs Q E hr h=>?_)
 ·obtain⟨N,p,n,v,f,rfl,_⟩:=h
  rfl
 obtain⟨N,p,n,v,f,rfl,hp,hn,tb,q⟩:=h
 refine⟨_,(zf (zQ (i:=4) NQ.nd rfl (Or.inl rfl) (zW tH (pv 0) (zu wO hr T.Z7 (za (pv 1) (za (pv 3) zc)))))
   (zf (zQ (i:=5) NQ.nd rfl (Or.inl rfl) (Mr (zP wW (pv 2) zq (yg _)) (pv 4) (zW Qx (pv 0) (pv 4))))
   (zp (zV (zW Tw (pv 5) (zu uF hr T.Wx (za (pv 5) (za (pv 1) (za (pv 3) zc))))))))),?_⟩
 refine⟨_,rfl,_,rfl,_,rfl,p,n,rfl,hp,hn,fun R tr=>?_⟩
 refine⟨N,R,rfl,rfl,?_⟩
 have o:=Xv.XQ tb tr
 refine⟨_,rfl,rfl,_,rfl,?_⟩
 cases v with
 | true =>
  refine xQ (fun _=>?_) (fun c=>absurd (decide_eq_true rfl) c)
  refine⟨_,rfl,?_⟩
  refine⟨_,rfl,_,rfl,_,rfl,_,rfl,N&&&R,p,n,_,rfl,hp,hn,o,fun R2 t2=>?_⟩
  refine⟨_,_,rfl,rfl,q _ (vR (Xv.Nt o t2) fun b hb=>?_)⟩
  show((f b&&b.testBit p)||(f (zU b p (!b.testBit p))&&(zU b p (!b.testBit p)).testBit p))=f (zU b p true)
  rw[zY,if_pos rfl]
  cases e:b.testBit p
  ·simp
  ·rw[<-e,vp.wX,e];simp
 | false =>
  refine xQ (fun c=>absurd (of_decide_eq_true c) (fun z=>by injection z with z;revert z;decide)) (fun _=>?_)
  have z:=Xv.Tv tb o
  refine⟨_,rfl,_,rfl,N,N&&&R,rfl,rfl,?_⟩
  refine⟨_,rfl,_,rfl,_,rfl,_,rfl,N ^^^ (N&&&R),p,n,_,rfl,hp,hn,z,fun R2 t2=>?_⟩
  refine⟨_,_,rfl,rfl,q _ (vR (Xv.Nt z t2) fun b hb=>?_)⟩
  show((f b != (f b&&b.testBit p))||(f (zU b p (!b.testBit p)) != (f (zU b p (!b.testBit p))&&(zU b p (!b.testBit p)).testBit p)))=f (zU b p false)
  rw[zY,if_pos rfl]
  cases e:b.testBit p
  ·rw[<-e,vp.wX,e];simp
  ·simp
theorem zf4 (T:Txt P w K mg a)(uF:zy P w K mg base yq k a.YG a.YH Z5 Wk):zy P w K mg base yq (k+1) a.W0 a.W2 YC zaG:=by
 refine T.SX.F.ok zfz (fun vs H Q E h=>?_) (fun cdv A outer s H vs Q E hr h=>?_)
 ·obtain⟨N,p,n,f,rfl,_⟩:=h
  rfl
 obtain⟨N,p,n,f,rfl,hp,hn,tb,q⟩:=h
 refine⟨_,(zp (zV (Zd Pn (zu uF hr T.Wx (za (pv 0) (za (pv 1) (za (pv 2) zc)))) (pv 0) (yg _)))),?_⟩
 refine⟨_,rfl,_,rfl,_,rfl,N,p,n,f,rfl,hp,hn,tb,fun R tr=>?_⟩
 refine⟨_,rfl,rfl,?_⟩
 refine q _ (fun e=>?_) (fun e=>?_)
 ·have e1:R=N:=by
   have z:V.int (R:Nat)=V.int (N:Nat):=of_decide_eq_true (by simpa using e)
   injection z with z
   omega
  subst e1
  refine vp.Free.zlU fun b hb=>?_
  rw[<-vp.Lf tr hb,vp.Lf tb hb]
 ·refine Classical.byContradiction fun no=>?_
  have e1:R=N:=vp.zd5 tr tb fun b hb=>by
   refine Classical.byContradiction fun ne=>no ⟨b,hb,fun z=>ne ?_⟩
   show f (zU b p (!b.testBit p))=f b
   cases e:b.testBit p
   ·rw[Bool.not_false,<-z,<-e,vp.wX]
   ·rw[Bool.not_true,z,<-e,vp.wX]
  subst e1
  rw[decide_eq_true rfl] at e
  cases e
theorem zbY (T:Txt P w K mg a)(Z1:zy P w K mg base yq k a.W0 a.W2 YC zaG):zy P w K mg base yq (k+1) a.Y7 a.Y8 ZC zd6:=by
 refine T.Nb.F.ok WQ (fun vs H Q E h=>?_) (fun cdv A outer s H vs Q E hr h=>?_)
 ·obtain⟨N,n,f,rfl,_⟩:=h
  rfl
 obtain⟨N,n,f,rfl,hn,tb,q⟩:=h
 refine⟨_,(zf (zQ (i:=2) WQ.nd rfl (Or.inl rfl) zq)
   (zf (Rx PassesOwn.never (PW.pt (Nj (zP zcW (pv 2) (pv 1) (yg _)) (Tg (Tj (wR (zu Z1 hr T.SX (za (pv 0) (za (pv 2) (za (pv 1) zc)))) (fun _=>rfl)))))) (zp (zgh (i:=2) WQ.nd rfl (Or.inl rfl) zq zdJ)))
   (zp (zV (pv 2))))),?_⟩
 refine⟨fun m σ H'=>∃p:Nat,m=n-p/\H'=H/\p<=n/\(∀i,i<p->vp.Free n f i)/\σ=[some (.int N),some (.int n),some (.int p)],⟨_,0,rfl,rfl,zuy _,fun i hi=>absurd hi (Nat.not_lt_zero _),rfl⟩,?_⟩
 rintro m σ H' ⟨p,rfl,rfl,hp,fr,rfl⟩
 refine⟨_,rfl,_,rfl,_,_,rfl,rfl,_,rfl,xQ (fun c=>?_) (fun c=>?_)⟩
 ·have hpn:p<n:=by have:=of_decide_eq_true c;omega
  refine⟨_,rfl,_,rfl,_,rfl,N,p,n,f,rfl,hpn,hn,tb,fun b hf ht=>?_⟩
  cases b with
  | false =>
   refine⟨_,rfl,xQ (fun c2=>?_) (fun c2=>absurd rfl c2)⟩
   refine⟨_,fun σ' H2 h=>h,?_⟩
   refine⟨_,rfl,_,_,rfl,rfl,n-(p+1),by omega,p+1,rfl,rfl,hpn,fun i hi=>?_,rfl⟩
   by_cases e:i=p
   ·subst e
    exact hf rfl
   ·exact fr i (by omega)
  | true =>
   refine⟨_,rfl,xQ (fun c2=>absurd c2 zug) (fun c2=>?_)⟩
   exact⟨_,rfl,q p hp fr fun _=>ht rfl⟩
 ·refine⟨_,rfl,q p hp fr fun h=>absurd (decide_eq_true (by omega)) c⟩
theorem Mg {d:Nat}(T:Txt P w K mg a)(Xg:zy P w K mg base yq k a.Y7 a.Y8 ZC zd6)(uG:zy P w K mg base yq k a.Wo a.Wq YB RQ)
  (yE:zy P w K mg base yq k a.xO a.xP yV (vq a.zj d)):zy P w K mg base yq (k+1) a.xO a.xP yV (vq a.zj (d+1)):=by
 refine T.xY.F.ok v8 (fun vs H Q E h=>?_) (fun cdv A outer s H vs Q E hr h=>?_)
 ·obtain⟨b,os,rs,F,t,u,f,rfl,_⟩:=h
  rfl
 obtain⟨b,os,rs,F,t,u,f,rfl,hB,hlen,hu,hd,tb,fr,q⟩:=h
 refine⟨_,(zf (yZ (znj (ziB (zju hr) (pv 1) (Yw (pv 0) rfl))) (zf (zQ (i:=2) v8.nd rfl (Or.inl rfl) (zR zO rfl T.wY xV (za (Yw (pv 0) rfl) zc)))
   (zf (zQ (i:=3) v8.nd rfl (Or.inl rfl) (zu Xg hr T.Nb (za (pv 1) (za (pv 2) zc))))
   (zf (zQ (i:=4) v8.nd rfl (Or.inl rfl) (xu (pv 0) T.yr T.xY yE hr (za (zu uG hr T.YJ (za (pv 1) (za (pv 3) (za zq (za (pv 2) zc))))) zc)))
   (zf (zQ (i:=5) v8.nd rfl (Or.inl rfl) (xu (pv 0) T.yr T.xY yE hr (za (zu uG hr T.YJ (za (pv 1) (za (pv 3) (za zq (za (pv 2) zc))))) zc)))
   (zf (zlQ (zju hr) (Yw (pv 0) rfl) (pv 1) (zR zO rfl T.wY xV (za (Yw (pv 0) rfl) zc)) rfl)
   (zf (zX (Zw PySem.F.plainAttrs_list PySem.F.slot_list_append PySem.F.type_list_append vQ (Yw (pv 0) rfl) (za (uN (za (pv 3) (za (pv 4) (za (pv 5) zc)))) zc)))
   (zp (zX (Zw PySem.F.plainAttrs_list PySem.F.slot_list_append PySem.F.type_list_append vQ (Yw (pv 0) rfl) (za (pv 1) zc)))))))))) yC)
   (zp (zV (zlP (zju hr) (Yw (pv 0) rfl) (pv 1) (fun _ _=>rfl))))),?_⟩
 have Vi:=hB
 obtain⟨dx,ml,rl,tl,nd,rv,ts,kvs,h⟩:=hB
 have n8:os.length<=8:=h.ord.le
 have hml:(os.map V.str).length=os.length:=zuc _
 have pw:2^(d+1)=2^d+2^d:=by rw[Nat.pow_succ];omega
 have pd:1<=2^d:=Nat.one_le_two_pow
 have pn:2^os.length<=256:=Xv.zgE n8
 refine⟨_,rfl,_,rfl,b,a.zj,dx,_,_,rfl,h.hb,T.yr,T.uV,rfl,nd,_,rfl,zce.k (k:=.inl (t:Int)) h.hd,?_⟩
 by_cases hm:t∈ts
 ·obtain⟨j,hj,ej⟩:=zuS hm
  have ej':ts[j]?=some t:=by rw[zud hj,ej]
  have ev:=h.nums.get j t ej'
  have z:=zce.k (k:=.inl (t:Int)) h.hd
  rw[ev] at z
  rw[ev]
  refine⟨_,rfl,yD ?_⟩
  refine⟨_,rfl,b,a.zj,dx,_,_,rfl,h.hb,T.yr,T.uV,rfl,_,rfl,nd,_,rfl,z,?_⟩
  refine q j rs H (fun x o e _=>e) (fun _ _ e=>e) Vi (.refl _) (by rw[<-h.tabs.len];exact hj) (h.tabs.find h.bk ej' tb) (by omega) (fun j h1 h2=>by omega) (zuM _ _)
 ·have ev:=h.nums.non t hm
  rw[ev]
  refine⟨_,rfl,xH ?_⟩
  refine⟨_,rfl,b,a.zj,dx,_,_,rfl,h.hb,T.yr,T.ZG,rfl,ml,_,rfl,.inl (zB.of h.hm),?_⟩
  rw[hml]
  refine⟨_,rfl,_,rfl,t,os.length,f,rfl,n8,tb,fun p hp0 frp dep=>?_⟩
  have hp:p<os.length:=by
   refine Nat.lt_of_le_of_ne hp0 fun e=>hm ?_
   subst e
   have cs:=vp.zcf frp
   have two:=vp.len2 h.bk
   cases hf:f 0 with
   | false=>exact zuh (h.tabs.same (j:=0) (by omega) tb fun r=>by rw[cs _ (vp.vm _ _),hf];rfl)
   | true=>exact zuh (h.tabs.same (j:=1) (by omega) tb fun r=>by rw[cs _ (vp.vm _ _),hf];exact vp.QC h.bk r)
  have hup:u<=p:=by
   refine Nat.le_of_not_lt fun hlt=>?_
   obtain⟨c,hc,hne⟩:=dep hp
   exact hne (by rw[fr p hlt c hc,fr p hlt c hc])
  have fre:∀(v:Bool) i,i<p+1->vp.Free os.length (fun c=>f (zU c p v)) i:=fun v i hi c hc v'=>by
   show f (zU (zU c i v') p v)=f (zU c p v)
   by_cases e:i=p
   ·subst e
    congr 1
    refine vp.TX (xU (xU hc hp) hp) (xU hc hp) fun j _=>?_
    rw[zY,zY,zY]
    by_cases e:j=i
    ·rw[if_pos e,if_pos e]
    ·rw[if_neg e,if_neg e,if_neg e]
   ·rw[<-frp i (by omega) _ (xU (v:=v) hc hp) v']
    congr 1
    refine vp.TX (xU (xU hc (by omega)) hp) (xU (xU hc hp) (by omega)) fun j _=>?_
    rw[zY,zY,zY,zY]
    by_cases e1:j=p
    ·rw[if_pos e1,if_pos e1,if_neg (by omega)]
    ·rw[if_neg e1,if_neg e1]
  refine⟨_,rfl,b,dx,_,rfl,h.hb,rfl,_,rfl,_,rfl,_,rfl,t,p,os.length,false,f,rfl,hp,n8,tb,fun R0 tr0=>?_⟩
  refine⟨b,os,rs,F,R0,p+1,_,rfl,Vi,by omega,hp,by omega,tr0,fre false,fun k0 rs1 H1 aw1 tu1 Yu gr1 lt1 y1 ln1 lv1 hh1=>?_⟩
  have hB1':=Yu
  obtain⟨dx1,ml1,rl1,tl1,nd1,rv1,ts1,ztg,h1⟩:=Yu
  refine⟨_,rfl,b,dx1,_,rfl,h1.hb,rfl,_,rfl,_,rfl,_,rfl,t,p,os.length,true,f,rfl,hp,n8,tb,fun R1 tr1=>?_⟩
  refine⟨b,os,rs1,F,R1,p+1,_,rfl,hB1',by omega,hp,by omega,tr1,fre true,fun k1 Mh H2 aw2 tu2 hB2 gr2 lt2 y2 ln2 lv2 hh2=>?_⟩
  obtain⟨dx2,ml2,rl2,tl2,KC,rv2,ts2,zpI,h2⟩:=hB2
  have lt1':k0<Mh.length:=zul lt1 gr2.len
  have y1':∀r,vp.yes Mh k0 r=f (zU (vp.bits r os.length) p false):=fun r=>by rw[gr2.yes h1.bk lt1];exact y1 r
  have g02:=gr1.trans gr2
  have lrs:=g02.len
  have lvs:∀j,rs.length<=j->j<Mh.length->p<vp.Pu os.length Mh j:=fun j a1 a2=>by
   by_cases hj:j<rs1.length
   ·rw[gr2.Pu hj];exact lv1 j a1 hj
   ·exact lv2 j (by omega) a2
  have old:∀j,j<rs.length->¬∀r,vp.yes Mh j r=f (vp.bits r os.length):=fun j hj hy=>hm (zuh (h.tabs.same hj tb fun r=>by rw[<-g02.yes h.bk hj];exact hy r))
  obtain⟨B',yn⟩:=vp.zj0 h2.bk hp lt1' lt2 y1' y2 frp (dep hp) old lvs
  have hn2:t∉ts2:=fun hm2=>by
   obtain⟨j,hj,ej⟩:=zuS hm2
   have ej':ts2[j]?=some t:=by rw[zud hj,ej]
   have hjr:j<Mh.length:=by rw[<-h2.tabs.len];exact hj
   have hy:=h2.tabs.find h2.bk ej' tb
   by_cases hjo:j<rs.length
   ·exact old j hjo hy
   ·obtain⟨c,hc,hne⟩:=dep hp
    have lv:=lvs j (by omega) hjr
    refine hne ?_
    have a1:=hy (vp.put (vp.uO c) p false)
    have a2:=hy (vp.put (vp.uO c) p true)
    rw[vp.Yc h2.bk hjr lv,vp.zfg hp,vp.Yy hc] at a1 a2
    exact a1.symm.trans a2
  have l2:=h2.len
  have s2:Mh.length<sizeLine:=zul (show Mh.length<9000001 by omega) (by decide)
  refine⟨_,rfl,b,a.zj,dx2,_,_,rfl,h2.hb,T.yr,T.ZJ,rfl,rl2,_,rfl,.inl (zB.of h2.hr),?_⟩
  rw[l2]
  refine⟨_,rfl,b,a.zj,dx2,_,_,rfl,h2.hb,T.yr,T.uV,rfl,_,rfl,KC,_,rfl,zjS.k (k:=.inl (t:Int)) h2.hd (by have:=h2.nums.len;have:=h2.tabs.len;omega),?_⟩
  have nb:KC≠b:=Rw h2.hd h2.hb (by intro z;cases z)
  have nm:KC≠ml2:=Rw h2.hd h2.hm (by intro z;cases z)
  have nr:KC≠rl2:=Rw h2.hd h2.hr (by intro z;cases z)
  have nt:KC≠tl2:=Rw h2.hd h2.ht (by intro z;cases z)
  have br:b≠rl2:=Rw h2.hb h2.hr (by intro z;cases z)
  have bt:b≠tl2:=Rw h2.hb h2.ht (by intro z;cases z)
  generalize hO3:HO.dK (putK zpI (Sum.inl (t:Int)) (V.int (Mh.length:Nat)))=o3
  have b3:upd H2 KC o3 b=some (.ins a.zj dx2 (Je ml2 rl2 tl2 KC)):=by rw[zE (Ne.symm nb)];exact h2.hb
  have r3:upd H2 KC o3 rl2=some (.lst rv2):=by rw[zE (Ne.symm nr)];exact h2.hr
  refine⟨_,rfl,b,a.zj,dx2,_,_,rfl,b3,T.yr,T.ZJ,rfl,.inl ⟨rfl,_,zB.of r3⟩,?_⟩
  refine⟨_,rfl,_,rfl,_,rfl,by show 3<=sizeLine;decide,fun q4 hq4=>?_⟩
  generalize hO4:HO.tup [V.int (p:Nat),V.int (k0:Nat),V.int (k1:Nat)]=o4
  have r4:upd (upd H2 KC o3) q4 o4 rl2=some (.lst rv2):=by rw[zE (zF r3 hq4)];exact r3
  refine⟨rl2,_,_,rfl,rfl,r4,by rw[l2];exact s2,?_⟩
  have b4:upd (upd H2 KC o3) q4 o4 b=some (.ins a.zj dx2 (Je ml2 rl2 tl2 KC)):=by rw[zE (zF b3 hq4)];exact b3
  have t3:upd H2 KC o3 tl2=some (.lst (ts2.map fun t=>V.int (t:Nat))):=by rw[zE (Ne.symm nt)];exact h2.ht
  have t4:upd (upd H2 KC o3) q4 o4 tl2=some (.lst (ts2.map fun t=>V.int (t:Nat))):=by rw[zE (zF t3 hq4)];exact t3
  have m3:upd H2 KC o3 ml2=some (.lst (os.map V.str)):=by rw[zE (Ne.symm nm)];exact h2.hm
  have m4:upd (upd H2 KC o3) q4 o4 ml2=some (.lst (os.map V.str)):=by rw[zE (zF m3 hq4)];exact m3
  have n3:upd H2 KC o3 KC=some o3:=zm
  have n4:upd (upd H2 KC o3) q4 o4 KC=some o3:=by rw[zE (zF n3 hq4)];exact n3
  have qr:q4≠rl2:=Ne.symm (zF r3 hq4)
  have qt:q4≠tl2:=Ne.symm (zF t3 hq4)
  have q4':upd (upd H2 KC o3) q4 o4 q4=some o4:=zm
  have tu4:wz H2 (upd (upd H2 KC o3) q4 o4):=fun x xs e=>by
   have e3:upd H2 KC o3 x=some (.tup xs):=by rw[zE (Rw e h2.hd (by intro z;cases z))];exact e
   rw[zE (zF e3 hq4)];exact e3
  have aw4:∀x o,H2 x=some o->¬F x->upd (upd H2 KC o3) q4 o4 x=some o:=fun x o e nf=>by
   have e3:upd H2 KC o3 x=some o:=by rw[zE (fun z=>nf ((h2.ft x).mpr (.inr (.inr (.inr (.inr z))))))];exact e
   rw[zE (zF e3 hq4)];exact e3
  generalize upd (upd H2 KC o3) q4 o4=H4 at b4 t4 m4 n4 r4 q4' tu4 aw4
  generalize hO5:HO.lst (rv2++[V.ref q4])=o5
  have b5:upd H4 rl2 o5 b=some (.ins a.zj dx2 (Je ml2 rl2 tl2 KC)):=by rw[zE br];exact b4
  have t5:upd H4 rl2 o5 tl2=some (.lst (ts2.map fun t=>V.int (t:Nat))):=by rw[zE (Ne.symm h2.rt)];exact t4
  refine⟨_,rfl,b,a.zj,dx2,_,_,rfl,b5,T.yr,T.Vc,rfl,.inl ⟨rfl,_,zB.of t5⟩,_,rfl,tl2,_,_,rfl,rfl,t5,by rw[zuc,h2.tabs.len];exact s2,?_⟩
  generalize hO6:HO.lst (ts2.map (fun t=>V.int (t:Nat))++[V.int (t:Nat)])=o6
  have b6:upd (upd H4 rl2 o5) tl2 o6 b=some (.ins a.zj dx2 (Je ml2 rl2 tl2 KC)):=by rw[zE bt];exact b5
  have n6:upd (upd H4 rl2 o5) tl2 o6 KC=some (.dK (putK zpI (Sum.inl (t:Int)) (V.int (Mh.length:Nat)))):=by rw[zE nt,zE nr,n4,hO3]
  have z:=zce.k (k:=.inl (t:Int)) n6
  rw[zbg,if_pos rfl] at z
  refine⟨_,rfl,b,a.zj,dx2,_,_,rfl,b6,T.yr,T.uV,rfl,_,rfl,KC,_,rfl,z,?_⟩
  have tu6:wz H4 (upd (upd H4 rl2 o5) tl2 o6):=fun x xs e=>by
   rw[zE (Rw e t4 (by intro z;cases z)),zE (Rw e r4 (by intro z;cases z))];exact e
  have parts:=h2.more (H':=upd (upd H4 rl2 o5) tl2 o6) (i:=p) (lo:=k0) (hi:=k1) (t:=t) (q:=q4) (fun x xs e=>tu6 _ _ (tu4 _ _ e)) (b6.trans h2.hb.symm)
   (by rw[zE h2.mt,zE h2.mr,m4,h2.hm]) (by rw[zE h2.rt,zm,hO5]) (by rw[zm,hO6]) n6
   (by rw[zE qt,zE qr,q4',hO4]) B' hn2 (vR tb fun c hc=>by rw[yn,vp.Yy hc])
  refine q Mh.length _ _ (fun x o e nf=>?_) (fun x xs e=>tu6 _ _ (tu4 _ _ (tu2 _ _ (tu1 _ _ e)))) ⟨_,_,_,_,_,_,_,_,parts⟩ (g02.trans (vp.wU.snoc _ _)) (by simp) yn (by rw[zuk,zuJ];omega) (fun j a1 a2=>?_) ?_
  ·have e2:=aw2 x o (aw1 x o e nf) nf
   rw[zE (fun z=>nf ((h2.ft x).mpr (.inr (.inr (.inr (.inl z)))))),zE (fun z=>nf ((h2.ft x).mpr (.inr (.inr (.inl z)))))]
   exact aw4 x o e2 nf
  ·rw[zuk,zuJ] at a2
   by_cases hj:j<Mh.length
   ·rw[vp.RP hj]
    have:=lvs j a1 hj
    omega
   ·have:j=Mh.length:=by omega
    subst this
    rw[vp.RN B' (i:=p) (lo:=k0) (hi:=k1) (by simp)]
    exact hup
  ·rw[vp.zlY]
   have:=vp.zl1 (n:=os.length) hup
   omega
theorem Vf (T:Txt P w K mg a)(Xg:zy P w K mg base yq k a.Y7 a.Y8 ZC zd6)(uG:zy P w K mg base yq k a.Wo a.Wq YB RQ) :
  ∀d:Nat,zy P w K mg base yq (k+d) a.xO a.xP yV (vq a.zj d)
 | 0=>by
  refine⟨fun vs H Q E h=>?_,fun A outer s H args us vs Q E _ _ _ _ h=>?_⟩
  ·obtain⟨b,os,rs,F,t,u,f,rfl,_⟩:=h
   rfl
  ·obtain⟨b,os,rs,F,t,u,f,_,_,_,hu,hd,_⟩:=h
   omega
 | d+1=>Mg T (Xg.mono (zuM _ _)) (uG.mono (zuM _ _)) (Vf T Xg uG d)
theorem zbZ (T:Txt P w K mg a)(Mi:zy P w K mg base yq k a.ZW a.ZX uQ zdf)(KD:zy P w K mg base yq k a.Yq a.Yr tK (JN K))
  (Mf:zy P w K mg base yq k a.W5 a.W6 YF (Qz K 24))(yE:zy P w K mg base yq k a.xO a.xP yV (vq a.zj 9)) :
  zy P w K mg base yq (k+1) a.Sx a.Sy Wd (zfk a.zj):=by
 refine T.Ys.F.ok zcs (fun vs H Q E h=>?_) (fun cdv A outer s H vs Q E hr h=>?_)
 ·obtain⟨b,p,os,rs,F,sn,rfl,_⟩:=h
  rfl
 obtain⟨b,p,os,rs,F,sn,rfl,hB,hlen,isp,hin,hc,hd,q⟩:=h
 refine⟨_,(zf (zX (zu Mi hr T.Va (za (pv 1) zc)))
   (zf (zX (zu KD hr T.VH (za (Yw (pv 0) rfl) (za (pv 1) zc))))
   (zp (zV (xu (pv 0) T.yr T.xY yE hr (za (zu Mf hr T.N6 (za (pv 1) (za (Yw (pv 0) rfl) zc))) zc)))))),?_⟩
 have L:=z9 a.zj
 have ho:=L.ord hB
 have hlt:sn.V1 uI:=(Sn.XS sn).mpr fun x hx=>ho.mem x ((Sn.XS sn).mp hin x hx)
 refine⟨_,rfl,p,sn,rfl,isp,hlt,hc,hd,fun H1 g1=>?_⟩
 have Yu:=L.same hB g1
 obtain⟨dx,ml,rl,tl,nd,rv,ts,kvs,h1⟩:=Yu
 refine⟨_,rfl,b,a.zj,dx,_,_,rfl,h1.hb,T.yr,T.ZG,rfl,_,rfl,ml,p,os,sn,rfl,zB.of h1.hm,isp.mono (wz.of g1),by omega,hin,fun H2 g2=>?_⟩
 have g12:=g1.trans g2
 have h2:=h1.frame (fun x o e _=>g2 x o e) (wz.of g2)
 refine⟨_,rfl,b,dx,_,rfl,h2.hb,rfl,_,rfl,_,rfl,b,a.zj,dx,_,_,rfl,h2.hb,T.yr,T.ZG,rfl,p,ml,sn,os,rfl,isp.mono (wz.of g12),zB.of h2.hm,hin,ho.le,hd,fun N H3 g3 hN=>?_⟩
 have g13:=g12.trans g3
 have hB3:=L.same hB g13
 refine⟨b,os,rs,F,N,0,_,rfl,hB3,by show rs.length+512<=9000000;omega,zuy _,by have:=ho.le;omega,hN,fun i hi=>absurd hi (Nat.not_lt_zero _),fun j rs' H' aw tu hB' gr lt y ln _ hh=>?_⟩
 refine q j rs' H' (fun x o e nf=>aw x o (g13 _ _ e) nf) (fun x xs e=>tu _ _ (g13 _ _ e)) hB' gr ⟨lt,fun r=>?_⟩ (zux hh (Nat.add_le_add_left (vp.znM ho.le) _))
 rw[y]
 refine Sn.val_congr sn hin fun x hx=>?_
 show(vp.bits r os.length).testBit (ix os x)=r (ix os x)
 exact vp.Ye r (Ze hx).2.1
theorem zeC (T:Txt P w K mg a)(zap:zy P w K mg base yq k a.Xy a.Xz ZL (JL K))(vJ:zy P w K mg base yq k a.ZQ a.ZR tW Wj) :
  zy P w K mg base yq (k+1) a.VD a.Qi Vu (zbj (yh a.zj) K a.zj):=by
 refine T.J9.F.ok Kd (fun vs H Q E h=>?_) (fun cdv A outer s H vs Q E hr h=>?_)
 ·obtain⟨b,dx,l,os,rfl,_⟩:=h
  rfl
 obtain⟨b,dx,l,os,rfl,hb,bd,hl,ho,q⟩:=h
 refine⟨_,(zf (zX (zu zap hr T.Rr (za (pv 1) zc)))
   (zf (zQ (i:=2) Kd.nd rfl (Or.inl rfl) (zR zO rfl T.wY xV (za (pv 1) zc)))
   (zf (zdK (pv 0) (K5 MK rfl T.zhb zdU (za (pv 1) zc)) rfl)
   (zf (zdK (pv 0) (xg (za (uN (za (pv 2) (za zq (za zq zc)))) (za (uN (za (pv 2) (za zq (za zq zc)))) zc))) rfl)
   (zf (zdK (pv 0) (xg (za zq (za (zu vJ hr T.Z0 (za (pv 2) zc)) zc))) rfl)
   (zp (zdK (pv 0) (zlT (zfc zq zq (zfc (zu vJ hr T.Z0 (za (pv 2) zc)) zq zlS)) rfl rfl (List.cons_ne_nil _ _) (Nat.le_of_ble_eq_true rfl)) rfl))))))),?_⟩
 have n8:=ho.le
 have hml:(os.map V.str).length=os.length:=zuc _
 refine⟨_,rfl,l,os,rfl,hl,ho,fun H1 g1=>?_⟩
 have hl1:=g1.seq hl
 refine⟨_,rfl,l,_,rfl,.inl hl1,?_⟩
 rw[hml]
 have b1:=g1 _ _ hb
 refine⟨_,rfl,l,_,rfl,.inl hl1,fun ml hm1=>?_⟩
 have bm:b≠ml:=zF b1 hm1
 have b2:upd H1 ml (.lst (os.map V.str)) b=some (.ins a.zj dx []):=by rw[zE bm];exact b1
 refine⟨_,rfl,b,a.zj,dx,_,rfl,b2,T.yr,T.ZG,by decide,?_⟩
 have s2:∀x o,H x=some o->x≠b->upd (upd H1 ml (.lst (os.map V.str))) b (.ins a.zj dx (Yv "marks" (.ref ml) [])) x=some o:=fun x o e nb=>by
  rw[zE nb,zE (zF (g1 _ _ e) hm1)];exact g1 _ _ e
 have hm2:upd (upd H1 ml (.lst (os.map V.str))) b (.ins a.zj dx (Yv "marks" (.ref ml) [])) ml=some (.lst (os.map V.str)):=by rw[zE (Ne.symm bm)];exact zm
 have f2:∀x,upd (upd H1 ml (.lst (os.map V.str))) b (.ins a.zj dx (Yv "marks" (.ref ml) [])) x=none->H x=none:=fun x e=>by
  have nb:x≠b:=fun z=>by rw[z,zm] at e;cases e
  cases hx:H x with
  | none=>rfl
  | some o=>rw[s2 x o hx nb] at e;cases e
 have fm:H ml=none:=g1.free hm1
 have b2':upd (upd H1 ml (.lst (os.map V.str))) b (.ins a.zj dx (Yv "marks" (.ref ml) [])) b=some (.ins a.zj dx (Yv "marks" (.ref ml) [])):=zm
 generalize upd (upd H1 ml (.lst (os.map V.str))) b (.ins a.zj dx (Yv "marks" (.ref ml) []))=H2 at s2 hm2 f2 b2'
 refine⟨_,rfl,by show 3<=sizeLine;decide,fun p0 hp0=>?_⟩
 refine⟨_,rfl,by show 3<=sizeLine;decide,fun p1 hp1=>?_⟩
 refine⟨by show 2<=sizeLine;decide,fun rl hrl=>?_⟩
 have g2:=((Same.new hp0 (.tup [.int (os.length:Nat),.int 0,.int 0])).trans (Same.new hp1 (.tup [.int (os.length:Nat),.int 1,.int 1]))).trans (Same.new hrl (.lst [.ref p0,.ref p1]))
 have hp0':=((Same.new hp1 (.tup [.int (os.length:Nat),.int 1,.int 1])).trans (Same.new hrl (.lst [.ref p0,.ref p1]))) p0 (.tup [.int (os.length:Nat),.int 0,.int 0]) zm
 have hp1':=(Same.new hrl (.lst [.ref p0,.ref p1])) p1 (.tup [.int (os.length:Nat),.int 1,.int 1]) zm
 have hr3:upd (upd (upd H2 p0 (.tup [.int (os.length:Nat),.int 0,.int 0])) p1 (.tup [.int (os.length:Nat),.int 1,.int 1])) rl (.lst [.ref p0,.ref p1]) rl=some (.lst [.ref p0,.ref p1]):=zm
 have frl:H2 rl=none:=((Same.new hp0 _).trans (Same.new hp1 _)).free hrl
 have brl:b≠rl:=zF b2' frl
 have mr:ml≠rl:=zF hm2 frl
 have b0:b≠p0:=zF b2' hp0
 have b1':b≠p1:=zF b2' ((Same.new hp0 _).free hp1)
 generalize upd (upd (upd H2 p0 (.tup [.int (os.length:Nat),.int 0,.int 0])) p1 (.tup [.int (os.length:Nat),.int 1,.int 1])) rl (.lst [.ref p0,.ref p1])=H3 at g2 hp0' hp1' hr3
 refine⟨_,rfl,b,a.zj,dx,_,rfl,g2 _ _ b2',T.yr,T.ZJ,by show 1<1000;decide,?_⟩
 generalize hfs:Yv "rooms" (V.ref rl) (Yv "marks" (V.ref ml) [])=fs3
 have u3:∀x,x≠b->upd H3 b (.ins a.zj dx fs3) x=H3 x:=fun x nb=>zE nb
 have b3:upd H3 b (.ins a.zj dx fs3) b=some (.ins a.zj dx fs3):=zm
 generalize upd H3 b (.ins a.zj dx fs3)=H4 at u3 b3
 refine⟨_,rfl,os.length,rfl,n8,by show 2<=sizeLine;decide,fun tl htl=>?_⟩
 have btl:b≠tl:=zF b3 htl
 have g4:=Same.new htl (.lst [.int 0,.int ((2^2^os.length-1:Nat):Int)])
 have ht5:upd H4 tl (.lst [.int 0,.int ((2^2^os.length-1:Nat):Int)]) tl=some (.lst [.int 0,.int ((2^2^os.length-1:Nat):Int)]):=zm
 generalize upd H4 tl (.lst [.int 0,.int ((2^2^os.length-1:Nat):Int)])=H5 at g4 ht5
 refine⟨_,rfl,b,a.zj,dx,_,rfl,g4 _ _ b3,T.yr,T.Vc,by rw[<-hfs];show 2<1000;decide,?_⟩
 generalize zpL:Yv "tables" (V.ref tl) fs3=fs4
 have u5:∀x,x≠b->upd H5 b (.ins a.zj dx fs4) x=H5 x:=fun x nb=>zE nb
 have b5:upd H5 b (.ins a.zj dx fs4) b=some (.ins a.zj dx fs4):=zm
 generalize upd H5 b (.ins a.zj dx fs4)=H6 at u5 b5
 refine fun nd hnd=>?_
 have bnd:b≠nd:=zF b5 hnd
 have g6:=Same.new hnd (.dK [])
 refine⟨_,rfl,os.length,rfl,n8,zm,[(Sum.inl 0,.int 0),(Sum.inl ((2^2^os.length-1:Nat):Int),.int 1)],rfl,(by show 2<=15;decide),?_⟩
 rw[zld]
 have g7:=Same.new hnd (.dK (V3 [] [(Sum.inl 0,.int 0),(Sum.inl ((2^2^os.length-1:Nat):Int),.int 1)]))
 have hn7:upd H6 nd (.dK (V3 [] [(Sum.inl 0,.int 0),(Sum.inl ((2^2^os.length-1:Nat):Int),.int 1)])) nd=some (.dK (V3 [] [(Sum.inl 0,.int 0),(Sum.inl ((2^2^os.length-1:Nat):Int),.int 1)])):=zm
 generalize upd H6 nd (.dK (V3 [] [(Sum.inl 0,.int 0),(Sum.inl ((2^2^os.length-1:Nat):Int),.int 1)]))=H7 at g7 hn7
 refine⟨_,rfl,b,a.zj,dx,_,rfl,g7 _ _ b5,T.yr,T.uV,by rw[<-zpL,<-hfs];show 3<1000;decide,?_⟩
 have big:2^2^os.length-1≠0:=by
  have:2^1<=2^2^os.length:=zuH (by decide) Nat.one_le_two_pow
  omega
 have to7:∀x o,H3 x=some o->x≠b->upd H7 b (.ins a.zj dx (Yv "numbers" (.ref nd) fs4)) x=some o:=fun x o e nb=>by
  rw[zE nb]
  refine g7 _ _ ?_
  rw[u5 x nb]
  refine g4 _ _ ?_
  rw[u3 x nb]
  exact e
 have tl6:H6 tl=some (.lst [.int 0,.int ((2^2^os.length-1:Nat):Int)]):=by rw[u5 tl (Ne.symm btl)];exact ht5
 have efs:Yv "numbers" (.ref nd) fs4=Je ml rl tl nd:=by rw[<-zpL,<-hfs];rfl
 have up:∀x o,H3 x=some o->x≠b->H4 x=some o:=fun x o e nb=>by rw[u3 x nb];exact e
 have mt:ml≠tl:=zF (up _ _ (g2 _ _ hm2) (Ne.symm bm)) htl
 have rt:rl≠tl:=zF (up _ _ hr3 (Ne.symm brl)) htl
 have fr4:∀x,H4 x=none->H x=none:=fun x e=>f2 x (by
  cases hx:H2 x with
  | none=>rfl
  | some o =>
   by_cases nb:x=b
   ·rw[nb,b3] at e;cases e
   ·rw[up x o (g2 _ _ hx) nb] at e;cases e)
 have fr6:∀x,H6 x=none->H x=none:=fun x e=>by
  have nb:x≠b:=fun z=>by rw[z,b5] at e;cases e
  rw[u5 x nb] at e
  exact fr4 x (g4.free e)
 have two:∀{j:Nat},j<2->j=0\/j=1:=fun h=>by omega
 have bk0:vp.Bk os.length [none,none]:=⟨rfl,rfl,fun k h1 h2=>by simp at h2;omega,fun i j x e _=>by
  have:=(zuf.mp e).1
  rcases two (by simpa using this) with z | z<;>subst z<;>cases e⟩
 refine q _ (fun x=>x=b\/x=ml\/x=rl\/x=tl\/x=nd) (fun x o e nb=>to7 x o (g2 _ _ (s2 x o e nb)) nb) ⟨dx,ml,rl,tl,nd,[.ref p0,.ref p1],[0,2^2^os.length-1],V3 [] [(Sum.inl 0,.int 0),(Sum.inl ((2^2^os.length-1:Nat):Int),.int 1)],?_⟩ (fun x hx=>?_)
 ·refine { hb:=by rw[zm,efs],hm:=to7 _ _ (g2 _ _ hm2) (Ne.symm bm),hr:=to7 _ _ hr3 (Ne.symm brl),ht:=by rw[zE (Ne.symm btl)];exact g7 _ _ tl6,hd:=by rw[zE (Ne.symm bnd)];exact hn7,mr:=mr,mt:=mt,rt:=rt,ord:=ho,bk:=bk0,len:=rfl,rm:=?_,tabs:=?_,nums:=?_,ft:=fun x=>Iff.rfl }
  ·intro j x e
   have:=(zuf.mp e).1
   rcases two (by simpa using this) with z | z<;>subst z<;>cases e
   ·exact⟨p0,rfl,to7 _ _ hp0' (Ne.symm b0)⟩
   ·exact⟨p1,rfl,to7 _ _ hp1' (Ne.symm b1')⟩
  ·refine⟨rfl,fun j t e=>?_⟩
   have:=(zuf.mp e).1
   rcases two (by simpa using this) with z | z<;>subst z<;>cases e
   ·exact vR (M5 _) fun b _=>rfl
   ·exact vR (M4 _) fun b _=>(vp.QC bk0 _).symm
  ·have z0:Nums [] []:=⟨fun j t e=>by simp at e,fun t _=>rfl,zus _⟩
   have z1:=z0.snoc (t:=0) (by simp)
   exact z1.snoc (t:=2^2^os.length-1) (fun hm=>by simp at hm;omega)
 ·rcases hx with z | z | z | z | z<;>subst z
  ·exact .inl rfl
  ·exact .inr (.inr fm)
  ·exact .inr (.inr (f2 _ frl))
  ·exact .inr (.inr (fr4 _ htl))
  ·exact .inr (.inr (fr6 _ hnd))
theorem ziS (T:Txt P w K mg a):zy P w K mg base yq (k+1) a.wL a.wM wA (zaI K):=by
 refine T.wB.F.ok U3 (fun vs H Q E h=>?_) (fun cdv A outer s H vs Q E hr h=>?_)
 ·obtain⟨l,ns,i,rfl,_⟩:=h
  rfl
 obtain⟨l,ns,i,rfl,hS,q⟩:=h
 refine⟨_,(zf (yZ (zP zcW (pv 1) (zR zO rfl T.wY xV (za (pv 0) zc)) (yg _)) (zp (zV (yO yP (pv 0) (pv 1) (fun _ _=>rfl)))) yC)
   (zp (zV zq))),?_⟩
 refine⟨_,rfl,_,rfl,l,_,rfl,.inl hS,_,_,rfl,rfl,_,rfl,?_⟩
 refine xQ (fun c=>?_) (fun c=>?_)
 ·have c':(i:Int)<(((ns.map V.int).length:Nat):Int):=of_decide_eq_true c
  rw[zuc] at c'
  have hi:i<ns.length:=by omega
  have ec:uK ns i=ns[i]:=by unfold uK;rw[zud hi];rfl
  rw[ec] at q
  exact⟨_,rfl,_,rfl,l,_,i,_,rfl,rfl,hS,XH (by rw[zue,zud hi];rfl),q⟩
 ·have hi:ns.length<=i:=by
   refine Nat.le_of_not_lt fun hlt=>c (decide_eq_true ?_)
   rw[zuc];omega
  have ec:uK ns i=0:=by unfold uK;rw[zuL hi];rfl
  rw[ec] at q
  exact q
theorem Qs (T:Txt P w K mg a):zy P w K mg base yq (k+1) a.yM a.yN yH (WL a.zj):=by
 refine T.wK.F.ok Xp (fun vs H Q E h=>?_) (fun cdv A outer s H vs Q E hr h=>?_)
 ·obtain⟨b,os,rs,F,j,rfl,_⟩:=h
  rfl
 obtain⟨b,os,rs,F,j,rfl,⟨dx,ml,rl,tl,nd,rv,ts,kvs,h⟩,hk,q⟩:=h
 refine⟨_,(zp (yZ (PW.pt (Pk (zP zcW (pv 1) zq (yg _)) (Ti (zP zji (pv 1) (zR zO rfl T.wY xV (za (Yw (pv 0) rfl) zc)) (yg _))))) (zp Ul) yC)),?_⟩
 have hl:=h.len
 refine⟨_,rfl,_,_,rfl,rfl,_,rfl,xQ (fun c=>absurd (of_decide_eq_true c) (by omega)) (fun _=>?_)⟩
 refine⟨_,rfl,_,rfl,b,a.zj,dx,_,_,rfl,h.hb,T.yr,T.ZJ,rfl,rl,_,rfl,.inl (zB.of h.hr),_,_,rfl,rfl,_,rfl,xQ (fun c=>absurd (of_decide_eq_true c) (by omega)) (fun _=>?_)⟩
 exact q
theorem Jw (T:Txt P w K mg a):zy P w K mg base yq (k+1) a.yJ a.yK yF (vB a.zj):=by
 refine T.yR.F.ok Jp (fun vs H Q E h=>?_) (fun cdv A outer s H vs Q E hr h=>?_)
 ·obtain⟨b,os,rs,F,j,rfl,_⟩:=h
  rfl
 obtain⟨b,os,rs,F,j,rfl,⟨dx,ml,rl,tl,nd,rv,ts,kvs,h⟩,hk,q⟩:=h
 refine⟨_,(zp (zV (yO yP (Yw (pv 0) rfl) (pv 1) (fun _ _=>rfl)))),?_⟩
 have ht:j<ts.length:=by rw[h.tabs.len];exact hk
 have ex:=zud ht
 refine⟨_,rfl,b,a.zj,dx,_,_,rfl,h.hb,T.yr,T.Vc,rfl,_,rfl,tl,_,_,.int (ts[j]:Nat),rfl,rfl,zB.of h.ht,XH (by rw[zue,ex];rfl),?_⟩
 exact q _ (h.tabs.tab j _ ex)
theorem zcA (T:Txt P w K mg a):zy P w K mg base yq (k+1) a.xq a.xr yU (wk (yh a.zj)):=by
 refine T.xX.F.ok zcr (fun vs H Q E h=>?_) (fun cdv A outer s H vs Q E hr h=>?_)
 ·obtain⟨b,os,rs,F,rfl,_⟩:=h
  rfl
 obtain⟨b,os,rs,F,rfl,⟨dx,ml,rl,tl,nd,rv,ts,kvs,h⟩,q⟩:=h
 refine⟨_,(zp (zV (K5 MK rfl T.zhb zdU (za (Yw (pv 0) rfl) zc)))),?_⟩
 exact⟨_,rfl,b,a.zj,dx,_,_,rfl,h.hb,T.yr,T.ZG,rfl,ml,_,rfl,.inl (zB.of h.hm),fun l hl=>q l _ (Same.new hl _) hl zm⟩
theorem zhj (T:Txt P w K mg a):zy P w K mg base yq (k+1) a.Wr a.Ws YD Uu:=by
 refine T.QV.F.ok zgZ (fun vs H Q E h=>?_) (fun cdv A outer s H vs Q E hr h=>?_)
 ·obtain⟨N,M,n,f,g,rfl,_⟩:=h
  rfl
 obtain⟨N,M,n,f,g,rfl,tb,tg,q⟩:=h
 refine⟨_,(zp (zV (zW Qx (pv 0) (zW tH (pv 0) (pv 1))))),?_⟩
 refine⟨_,rfl,_,rfl,_,rfl,N,M,rfl,rfl,N,N&&&M,rfl,rfl,q _ (vR (Xv.Tv tb (Xv.XQ tb tg)) fun b _=>?_)⟩
 show(f b != (f b&&g b))=(f b&&!g b)
 cases f b<;>cases g b<;>rfl
theorem ziT (T:Txt P w K mg a)(U8:zy P w K mg base yq k a.Wr a.Ws YD Uu):zy P w K mg base yq (k+1) a.zbQ a.zbR Lw zfi:=by
 refine T.zfS.F.ok ziN (fun vs H Q E h=>?_) (fun cdv A outer s H vs Q E hr h=>?_)
 ·obtain⟨W,L,M,n,f,g,h,rfl,_⟩:=h
  rfl
 obtain⟨W,L,M,n,f,g,h,rfl,tf,tg,th,q⟩:=h
 refine⟨_,(zp (zV (zW Tw (zW tH (pv 2) (pv 0)) (zu U8 hr T.QV (za (pv 1) (za (pv 0) zc)))))),?_⟩
 refine⟨_,rfl,_,rfl,M,W,rfl,rfl,_,rfl,_,rfl,L,W,n,g,f,rfl,tg,tf,fun R tr=>?_⟩
 refine⟨M&&&W,R,rfl,rfl,q _ (vR (Xv.Nt (Xv.XQ th tf) tr) fun b _=>?_)⟩
 show((h b&&f b)||(g b&&!f b))=if f b then h b else g b
 cases f b<;>simp
theorem zhk (T:Txt P w K mg a)(uF:zy P w K mg base yq k a.YG a.YH Z5 Wk):zy P w K mg base yq (k+1) a.QL a.QM Uz (zbn K):=by
 refine T.Jr.F.ok NT (fun vs H Q E h=>?_) (fun cdv A outer s H vs Q E hr h=>?_)
 ·obtain⟨N,n,f,l,ps,rfl,_⟩:=h
  rfl
 obtain⟨N,n,f,l,ps,rfl,n8,tf,hl,hp,q⟩:=h
 refine⟨_,(zf (vO PassesOwn.never rfl (vg (pv 1)) (yS (i:=3) NT.nd rfl (Or.inl rfl)) (zp (zQ (i:=0) NT.nd rfl (Or.inl rfl) (zW Tw (pv 0) (zu uF hr T.Wx (za (pv 0) (za (pv 3) (za (pv 2) zc))))))))
   (zp (zV (pv 0)))),?_⟩
 refine⟨_,rfl,l,rfl,⟨_,hl⟩,?_⟩
 refine tO (xs:=wg ps) (fun i σ H'=>H'=H/\∃(M:Nat) (f3:Option V),z8 n M (zbl (ps.take i) f)/\σ=[some (.int M),some (.ref l),some (.int (n:Nat)),f3]) ⟨rfl,N,_,tf,rfl⟩ ?_ ?_ ?_
 ·rintro i σ H' _ ⟨rfl,_⟩
  exact hl
 ·rintro i v σ H' hv ⟨rfl,M,f3,tm,rfl⟩
  unfold wg at hv
  rw[zue] at hv
  cases hj:ps[i]? with
  | none=>rw[hj] at hv;cases hv
  | some p =>
   rw[hj] at hv
   cases hv
   refine⟨_,rfl,_,rfl,_,rfl,_,rfl,M,p,n,_,rfl,hp p (zuh hj),n8,tm,fun R tr=>?_⟩
   refine⟨M,R,rfl,rfl,rfl,M|||R,some (.int (p:Nat)),?_,rfl⟩
   rw[xK hj,zdn]
   exact Xv.Nt tm tr
 ·rintro σ H' ⟨rfl,M,f3,tm,rfl⟩
  have el:(wg ps).length=ps.length:=zuc _
  rw[el,zuE] at tm
  exact⟨_,rfl,q M tm⟩
theorem zkS (T:Txt P w K mg a)(uG:zy P w K mg base yq k a.Wo a.Wq YB RQ)
  (wO:zy P w K mg base yq k a.v9 a.uc vA tQ)
  (zkT:zy P w K mg base yq k a.zbQ a.zbR Lw zfi):zy P w K mg base yq (k+1) a.zaM a.zaN LR (zd7 K):=by
 refine T.zet.F.ok UG (fun vs H Q E h=>?_) (fun cdv A outer s H vs Q E hr h=>?_)
 ·obtain⟨N,n,f,l,m,ps,qs,rfl,_⟩:=h
  rfl
 obtain⟨N,n,f,l,m,ps,qs,rfl,n8,tf,hl,hm,le,l8,hp,hq,q⟩:=h
 refine⟨_,(zf (vO PassesOwn.never rfl (zj5 rfl T.zm2 (za (pv 1) (za (pv 2) zc))) (Nk rfl (vZ (yS (i:=4) UG.nd rfl (Or.inl rfl)) (vZ (yS (i:=5) UG.nd rfl (Or.inl rfl)) Tp))) (zf (zQ (i:=6) UG.nd rfl (Or.inl rfl) (zu uG hr T.YJ (za (pv 0) (za (pv 4) (za zq (za (pv 3) zc))))))
   (zf (zQ (i:=7) UG.nd rfl (Or.inl rfl) (zu uG hr T.YJ (za (pv 0) (za (pv 4) (za zq (za (pv 3) zc))))))
   (zp (zQ (i:=0) UG.nd rfl (Or.inl rfl) (zu zkT hr T.zfS (za (zu wO hr T.Z7 (za (pv 5) (za (pv 3) zc))) (za (pv 6) (za (pv 7) zc)))))))))
   (zp (zV (pv 0)))),?_⟩
 have e1:(wg ps).length=ps.length:=zuc _
 have e2:(wg qs).length=qs.length:=zuc _
 refine⟨_,rfl,_,rfl,l,m,_,_,rfl,hl,hm,?_⟩
 refine zhW (xs:=wg ps) (ys:=wg qs) (by omega) (fun i σ H'=>Same H H'/\∃(M:Nat) (f4 f5 f6 f7:Option V),z8 n M (zbm ((ps.zip qs).take i) f)/\σ=[some (.int M),some (.ref l),some (.ref m),some (.int (n:Nat)),f4,f5,f6,f7]) ⟨Same.refl _,N,_,_,_,_,tf,rfl⟩ ?_ ?_ ?_
 ·rintro i σ H' _ ⟨g,_⟩
  exact⟨g.seq hl,g.seq hm⟩
 ·rintro i x y σ H' t hx hy ⟨g,M,f4,f5,f6,f7,tm,rfl⟩ ht
  unfold wg at hx hy
  rw[zue] at hx hy
  cases hj:ps[i]? with
  | none=>rw[hj] at hx;cases hx
  | some p =>
   rw[hj] at hx
   cases hx
   cases hk:qs[i]? with
   | none=>rw[hk] at hy;cases hy
   | some o =>
    rw[hk] at hy
    cases hy
    have hz:(ps.zip qs)[i]?=some (p,o):=List.getElem?_zip_eq_some.mpr ⟨hj,hk⟩
    have pn:=hp p (zuh hj)
    have on:=hq o (zuh hk)
    refine⟨t,_,rfl,vf.of zm,rfl,_,_,rfl,_,_,rfl,rfl,?_⟩
    refine⟨_,rfl,_,rfl,_,rfl,M,p,n,false,_,rfl,pn,n8,tm,fun R0 t0=>?_⟩
    refine⟨_,rfl,_,rfl,_,rfl,M,p,n,true,_,rfl,pn,n8,tm,fun R1 t1=>?_⟩
    refine⟨_,rfl,_,rfl,o,n,rfl,on,n8,fun W tw=>?_⟩
    refine⟨_,rfl,_,rfl,W,R0,R1,n,_,_,_,rfl,tw,t0,t1,fun R tr=>?_⟩
    refine⟨g.trans (Same.new ht _),R,_,_,_,_,?_,rfl⟩
    rw[xK hz,zdo]
    exact tr
 ·rintro σ H' ⟨g,M,f4,f5,f6,f7,tm,rfl⟩
  have el:(ps.zip qs).length=(wg ps).length:=by rw[List.length_zip,e1];omega
  rw[<-el,zuE] at tm
  exact⟨_,rfl,q M H' g tm⟩
theorem zeD (T:Txt P w K mg a)(zZ:zy P w K mg base yq k a.xq a.xr yU (wk (yh a.zj))):zy P w K mg base yq (k+1) a.Vx a.Vy Xm (zbo a.zj):=by
 refine T.Qo.F.ok zek (fun vs H Q E h=>?_) (fun cdv A outer s H vs Q E hr h=>?_)
 ·obtain⟨b,os,rs,F,rfl,_⟩:=h
  rfl
 obtain⟨b,os,rs,F,rfl,hB,q⟩:=h
 refine⟨_,(zp (zV (zhX (Zx:=zx Vs) (js:=[0]) rfl (by show zj6 (zx Vs) _ "now" "then" ["book"];exact⟨⟨rfl,by decide +kernel,by decide +kernel,by decide +kernel,by decide +kernel⟩,by decide +kernel,by decide +kernel,by decide +kernel⟩) rfl (Ry (vd (v:=.ref a.Xd) rfl T.zaS rfl)) (by show ∀j∈([0]:List Nat),j<1;decide) (fun cl C s₂ H₂ fp=>(zP (zgF (K:=K) rfl) (pv 0) (uW (pv 2) T.yr T.xX zZ hr) (by with_unfolding_all rfl))) (fun cl C s₂ H₂ fp=>(pv 0))))),?_⟩
 have L:=z9 a.zj
 refine⟨a.Xd,rfl,⟨_,T.VJ H⟩,?_⟩
 refine zfl (xs:=[.ref a.Wt,.ref a.Wu,.ref a.Wv,.ref a.Ww]) (fun i zs H'=>Same H H'/\zs=(((prs.take i).filter fun p=>os.contains p.1).map (·.1)).map V.str) ⟨Same.refl _,rfl⟩ (by show 4<=sizeLine;decide) ?_ ?_ ?_ ?_ ?_
 ·rintro i zs H' hi ⟨g,rfl⟩
  refine⟨T.VJ H',?_⟩
  have:=zuK (fun p:Str×Str=>os.contains p.1) (prs.take i)
  rw[zuz] at this
  rw[zuc,zuc]
  omega
 ·rintro i v zs H' hv ⟨g,rfl⟩
  obtain⟨p,pr,rfl,hp,hpr⟩:∃(p:Addr) (pr:Str×Str),v=.ref p/\vf K H' p [.str pr.1,.str pr.2]/\prs[i]?=some pr:=by
   match i,hv with
   | 0,hv=>cases hv;exact⟨_,("a", "e"),rfl,T.QX H',rfl⟩
   | 1,hv=>cases hv;exact⟨_,("b", "f"),rfl,T.QZ H',rfl⟩
   | 2,hv=>cases hv;exact⟨_,("c", "g"),rfl,T.Q5 H',rfl⟩
   | 3,hv=>cases hv;exact⟨_,("d", "h"),rfl,T.Q6 H',rfl⟩
  refine⟨p,.str pr.1,.str pr.2,rfl,hp,?_⟩
  have Yu:=L.same hB g
  obtain⟨dx,fs,Jx,hm⟩:=L.ins Yu
  refine⟨_,rfl,_,rfl,b,dx,_,rfl,Jx,hm _ (by decide +kernel),b,os,rs,F,rfl,Yu,fun l1 H1 g1 fl1 hl1=>?_⟩
  refine⟨l1,_,rfl,.inl (zB.of hl1),rfl,wD os,_,rfl,?_⟩
  rw[xK hpr,zuP]
  show if inV (.str pr.1) (os.map V.str)=true then _ else _
  rw[X3]
  cases hn:os.contains pr.1
  ·refine yD ⟨g.trans g1,?_⟩
   rw[List.filter_cons_of_neg (p:=fun p:Str×Str=>os.contains p.1) (by rw[hn];exact zug),List.filter_nil,List.append_nil]
  ·refine xH ⟨_,rfl,g.trans g1,?_⟩
   rw[List.filter_cons_of_pos (p:=fun p:Str×Str=>os.contains p.1) hn,List.filter_nil,zuq,zuq]
   rfl
 ·rintro σ' H' Q1 Q2 hQ ⟨v1,e1,v2,e2,b',dx',fs',y1,y2,y3,b2,os2,Mh,F2,y4,y5,y6⟩
  refine⟨v1,e1,v2,e2,b',dx',fs',y1,y2,y3,b2,os2,Mh,F2,y4,y5,fun l1 H1 g1 f1 h1=>?_⟩
  obtain⟨p5,xs5,z1,z2,z3,z4,b6,z5,z6⟩:=y6 l1 H1 g1 f1 h1
  exact⟨p5,xs5,z1,z2,z3,z4,b6,z5,hQ _ _ z6⟩
 ·rintro σ' H' Q1 Q2 hQ ⟨v,e,z⟩
  exact⟨v,e,hQ _ _ z⟩
 rintro zs H7 zl ⟨g,rfl⟩ hzl
 exact q zl _ (g.trans (Same.new hzl _)) (g.free hzl) zm
theorem zcB (T:Txt P w K mg a)(zZ:zy P w K mg base yq k a.xq a.xr yU (wk (yh a.zj))):zy P w K mg base yq (k+1) a.Sq a.Ss Wa (JT a.zj):=by
 refine T.Ku.F.ok zcp (fun vs H Q E h=>?_) (fun cdv A outer s H vs Q E hr h=>?_)
 ·obtain⟨b,os,rs,F,rfl,_⟩:=h
  rfl
 obtain⟨b,os,rs,F,rfl,hB,q⟩:=h
 refine⟨_,(zp (zV (zhX (Zx:=zx X8) (js:=[0]) rfl (by show zj6 (zx X8) _ "now" "then" ["book"];exact⟨⟨rfl,by decide +kernel,by decide +kernel,by decide +kernel,by decide +kernel⟩,by decide +kernel,by decide +kernel,by decide +kernel⟩) rfl (Ry (vd (v:=.ref a.Xd) rfl T.zaS rfl)) (by show ∀j∈([0]:List Nat),j<1;decide) (fun cl C s₂ H₂ fp=>(zP (zgF (K:=K) rfl) (pv 1) (uW (pv 2) T.yr T.xX zZ hr) (by with_unfolding_all rfl))) (fun cl C s₂ H₂ fp=>(pv 1))))),?_⟩
 have L:=z9 a.zj
 refine⟨a.Xd,rfl,⟨_,T.VJ H⟩,?_⟩
 refine zfl (xs:=[.ref a.Wt,.ref a.Wu,.ref a.Wv,.ref a.Ww]) (fun i zs H'=>Same H H'/\zs=(((prs.take i).filter fun p=>os.contains p.2).map (·.2)).map V.str) ⟨Same.refl _,rfl⟩ (by show 4<=sizeLine;decide) ?_ ?_ ?_ ?_ ?_
 ·rintro i zs H' hi ⟨g,rfl⟩
  refine⟨T.VJ H',?_⟩
  have:=zuK (fun p:Str×Str=>os.contains p.2) (prs.take i)
  rw[zuz] at this
  rw[zuc,zuc]
  omega
 ·rintro i v zs H' hv ⟨g,rfl⟩
  obtain⟨p,pr,rfl,hp,hpr⟩:∃(p:Addr) (pr:Str×Str),v=.ref p/\vf K H' p [.str pr.1,.str pr.2]/\prs[i]?=some pr:=by
   match i,hv with
   | 0,hv=>cases hv;exact⟨_,("a", "e"),rfl,T.QX H',rfl⟩
   | 1,hv=>cases hv;exact⟨_,("b", "f"),rfl,T.QZ H',rfl⟩
   | 2,hv=>cases hv;exact⟨_,("c", "g"),rfl,T.Q5 H',rfl⟩
   | 3,hv=>cases hv;exact⟨_,("d", "h"),rfl,T.Q6 H',rfl⟩
  refine⟨p,.str pr.1,.str pr.2,rfl,hp,?_⟩
  have Yu:=L.same hB g
  obtain⟨dx,fs,Jx,hm⟩:=L.ins Yu
  refine⟨_,rfl,_,rfl,b,dx,_,rfl,Jx,hm _ (by decide +kernel),b,os,rs,F,rfl,Yu,fun l1 H1 g1 fl1 hl1=>?_⟩
  refine⟨l1,_,rfl,.inl (zB.of hl1),rfl,wD os,_,rfl,?_⟩
  rw[xK hpr,zuP]
  show if inV (.str pr.2) (os.map V.str)=true then _ else _
  rw[X3]
  cases hn:os.contains pr.2
  ·refine yD ⟨g.trans g1,?_⟩
   rw[List.filter_cons_of_neg (p:=fun p:Str×Str=>os.contains p.2) (by rw[hn];exact zug),List.filter_nil,List.append_nil]
  ·refine xH ⟨_,rfl,g.trans g1,?_⟩
   rw[List.filter_cons_of_pos (p:=fun p:Str×Str=>os.contains p.2) hn,List.filter_nil,zuq,zuq]
   rfl
 ·rintro σ' H' Q1 Q2 hQ ⟨v1,e1,v2,e2,b',dx',fs',y1,y2,y3,b2,os2,Mh,F2,y4,y5,y6⟩
  refine⟨v1,e1,v2,e2,b',dx',fs',y1,y2,y3,b2,os2,Mh,F2,y4,y5,fun l1 H1 g1 f1 h1=>?_⟩
  obtain⟨p5,xs5,z1,z2,z3,z4,b6,z5,z6⟩:=y6 l1 H1 g1 f1 h1
  exact⟨p5,xs5,z1,z2,z3,z4,b6,z5,hQ _ _ z6⟩
 ·rintro σ' H' Q1 Q2 hQ ⟨v,e,z⟩
  exact⟨v,e,hQ _ _ z⟩
 rintro zs H7 zl ⟨g,rfl⟩ hzl
 exact q zl _ (g.trans (Same.new hzl _)) (g.free hzl) zm
theorem zcC (T:Txt P w K mg a)(zZ:zy P w K mg base yq k a.xq a.xr yU (wk (yh a.zj)))
  (Qt:zy P w K mg base yq k a.Vx a.Vy Xm (zbo a.zj)):zy P w K mg base yq (k+1) a.Zj a.Zk uR (Xk a.zj):=by
 refine T.Zr.F.ok zcq (fun vs H Q E h=>?_) (fun cdv A outer s H vs Q E hr h=>?_)
 ·obtain⟨b,os,rs,F,rfl,_⟩:=h
  rfl
 obtain⟨b,os,rs,F,rfl,hB,q⟩:=h
 refine⟨_,(zp (zV (V0 (Zx:=zx Wb) (js:=[0]) rfl (by show XJ (zx Wb) _ "mark" ["book"];exact⟨rfl,by decide +kernel,by decide +kernel,rfl,by decide +kernel,by decide +kernel,by decide +kernel⟩) rfl (vg (zu Qt hr T.Qo (za (pv 0) zc))) (by show ∀j∈([0]:List Nat),j<1;decide) (fun cl C s₂ H₂ fp=>(zj9 (K:=K) rfl PySem.F.plainAttrs_list PySem.F.slot_list_index PySem.F.type_list_index (zdm (K:=K) rfl) (uW (pv 1) T.yr T.xX zZ hr) (za (pv 0) zc)))))),?_⟩
 have L:=z9 a.zj
 refine⟨_,rfl,b,os,rs,F,rfl,hB,fun l0 H0 g0 fl0 hl0=>?_⟩
 have Vi:=L.same hB g0
 have l4:(wZ os).length<=4:=by
  show((prs.filter _).map _).length<=4
  rw[zuc]
  exact zuK _ _
 refine⟨l0,rfl,⟨_,zB.of hl0⟩,zhV (fun i v=>∃x,(wZ os)[i]?=some x/\v=.int ((ix os x:Nat):Int)) (zB.of hl0) (by rw[zuc];exact zuu (yI (by omega))) ?_ ?_ ?_⟩
 ·intro i v H' hv g
  rw[zue] at hv
  cases hj:(wZ os)[i]? with
  | none=>rw[hj] at hv;cases hv
  | some x =>
   rw[hj] at hv
   cases hv
   have hx:x∈os:=zbp (zuh hj)
   obtain⟨i1,i2,i3⟩:=Ze hx
   have Yu:=L.same Vi g
   obtain⟨dx,fs,Jx,hm⟩:=L.ins Yu
   refine⟨_,rfl,b,dx,_,rfl,Jx,hm _ (by decide +kernel),b,os,rs,F,rfl,Yu,fun l1 H1 g1 fl1 hl1=>?_⟩
   exact⟨.inl ⟨rfl,_,zB.of hl1⟩,_,rfl,l1,_,_,_,rfl,rfl,zB.of hl1,rfl,wD _,i1,⟨x,rfl,rfl⟩,g.trans g1⟩
 ·rintro σ' H' Q1 Q2 hQ ⟨v1,e1,b',dx',fs',y1,y2,y3,b2,os2,Mh,F2,y4,y5,y6⟩
  refine⟨v1,e1,b',dx',fs',y1,y2,y3,b2,os2,Mh,F2,y4,y5,fun l1 H1 g1 f1 h1=>?_⟩
  obtain⟨z0,v2,e2,p5,xs5,w5,j5,z1,z2,z3,z4,z5,z6,z7⟩:=y6 l1 H1 g1 f1 h1
  exact⟨z0,v2,e2,p5,xs5,w5,j5,z1,z2,z3,z4,z5,z6,hQ _ _ z7⟩
 intro us H7 zl hul huv g7 hzl
 rw[zuc] at hul
 have eu:us=wg ((wZ os).map (ix os)):=by
  refine List.ext_getElem? fun i=>?_
  unfold wg
  by_cases hi:i<us.length
  ·obtain⟨x,hx,e⟩:=huv i _ (zud hi)
   rw[zud hi,e,zue,zue,hx]
   rfl
  ·rw[zuL (by omega),zuL (by rw[zuc,zuc];omega)]
 subst eu
 exact q zl _ (g0.trans (g7.trans (Same.new hzl _))) (g0.free (g7.free hzl)) zm
theorem zb0 (T:Txt P w K mg a)(zZ:zy P w K mg base yq k a.xq a.xr yU (wk (yh a.zj)))
  (zeE:zy P w K mg base yq k a.Sq a.Ss Wa (JT a.zj)):zy P w K mg base yq (k+1) a.uZ a.u6 uf (Yh a.zj):=by
 refine T.u9.F.ok zbJ (fun vs H Q E h=>?_) (fun cdv A outer s H vs Q E hr h=>?_)
 ·obtain⟨b,os,rs,F,rfl,_⟩:=h
  rfl
 obtain⟨b,os,rs,F,rfl,hB,q⟩:=h
 refine⟨_,(zp (zV (V0 (Zx:=zx YX) (js:=[0]) rfl (by show XJ (zx YX) _ "mark" ["book"];exact⟨rfl,by decide +kernel,by decide +kernel,rfl,by decide +kernel,by decide +kernel,by decide +kernel⟩) rfl (vg (zu zeE hr T.Ku (za (pv 0) zc))) (by show ∀j∈([0]:List Nat),j<1;decide) (fun cl C s₂ H₂ fp=>(zj9 (K:=K) rfl PySem.F.plainAttrs_list PySem.F.slot_list_index PySem.F.type_list_index (zdm (K:=K) rfl) (uW (pv 1) T.yr T.xX zZ hr) (za (pv 0) zc)))))),?_⟩
 have L:=z9 a.zj
 refine⟨_,rfl,b,os,rs,F,rfl,hB,fun l0 H0 g0 fl0 hl0=>?_⟩
 have Vi:=L.same hB g0
 have l4:(uL os).length<=4:=by
  show((prs.filter _).map _).length<=4
  rw[zuc]
  exact zuK _ _
 refine⟨l0,rfl,⟨_,zB.of hl0⟩,zhV (fun i v=>∃x,(uL os)[i]?=some x/\v=.int ((ix os x:Nat):Int)) (zB.of hl0) (by rw[zuc];exact zuu (yI (by omega))) ?_ ?_ ?_⟩
 ·intro i v H' hv g
  rw[zue] at hv
  cases hj:(uL os)[i]? with
  | none=>rw[hj] at hv;cases hv
  | some x =>
   rw[hj] at hv
   cases hv
   have hx:x∈os:=Jf (zuh hj)
   obtain⟨i1,i2,i3⟩:=Ze hx
   have Yu:=L.same Vi g
   obtain⟨dx,fs,Jx,hm⟩:=L.ins Yu
   refine⟨_,rfl,b,dx,_,rfl,Jx,hm _ (by decide +kernel),b,os,rs,F,rfl,Yu,fun l1 H1 g1 fl1 hl1=>?_⟩
   exact⟨.inl ⟨rfl,_,zB.of hl1⟩,_,rfl,l1,_,_,_,rfl,rfl,zB.of hl1,rfl,wD _,i1,⟨x,rfl,rfl⟩,g.trans g1⟩
 ·rintro σ' H' Q1 Q2 hQ ⟨v1,e1,b',dx',fs',y1,y2,y3,b2,os2,Mh,F2,y4,y5,y6⟩
  refine⟨v1,e1,b',dx',fs',y1,y2,y3,b2,os2,Mh,F2,y4,y5,fun l1 H1 g1 f1 h1=>?_⟩
  obtain⟨z0,v2,e2,p5,xs5,w5,j5,z1,z2,z3,z4,z5,z6,z7⟩:=y6 l1 H1 g1 f1 h1
  exact⟨z0,v2,e2,p5,xs5,w5,j5,z1,z2,z3,z4,z5,z6,hQ _ _ z7⟩
 intro us H7 zl hul huv g7 hzl
 rw[zuc] at hul
 have eu:us=wg ((uL os).map (ix os)):=by
  refine List.ext_getElem? fun i=>?_
  unfold wg
  by_cases hi:i<us.length
  ·obtain⟨x,hx,e⟩:=huv i _ (zud hi)
   rw[zud hi,e,zue,zue,hx]
   rfl
  ·rw[zuL (by omega),zuL (by rw[zuc,zuc];omega)]
 subst eu
 exact q zl _ (g0.trans (g7.trans (Same.new hzl _))) (g0.free (g7.free hzl)) zm
theorem zkV (T:Txt P w K mg a)(zZ:zy P w K mg base yq k a.xq a.xr yU (wk (yh a.zj)))(zT:zy P w K mg base yq k a.yJ a.yK yF (vB a.zj))
  (ud:zy P w K mg base yq k a.Zj a.Zk uR (Xk a.zj))(wI:zy P w K mg base yq k a.uZ a.u6 uf (Yh a.zj))
  (Jy:zy P w K mg base yq k a.QL a.QM Uz (zbn K))(zeF:zy P w K mg base yq k a.zaM a.zaN LR (zd7 K)):zy P w K mg base yq (k+1) a.Kl a.Km QK (zd8 a.zj):=by
 refine T.zaR.F.ok zbL (fun vs H Q E h=>?_) (fun cdv A outer s H vs Q E hr h=>?_)
 ·obtain⟨b,os,rs,F,k0,N,f,rfl,_⟩:=h
  rfl
 obtain⟨b,os,rs,F,k0,N,f,rfl,hB,hk,hW,tf,q⟩:=h
 refine⟨_,(zf (zQ (i:=3) zbL.nd rfl (Or.inl rfl) (zR zO rfl T.wY xV (za (uW (pv 0) T.yr T.xX zZ hr) zc)))
   (zf (zQ (i:=4) zbL.nd rfl (Or.inl rfl) (zu Jy hr T.Jr (za (zW tH (pv 2) (xu (pv 0) T.yr T.yR zT hr (za (pv 1) zc))) (za (zu ud hr T.Zr (za (pv 0) zc)) (za (pv 3) zc)))))
   (zp (zV (zu zeF hr T.zet (za (pv 4) (za (zu wI hr T.u9 (za (pv 0) zc)) (za (zu ud hr T.Zr (za (pv 0) zc)) (za (pv 3) zc))))))))),?_⟩
 have L:=z9 a.zj
 have o8:=(L.ord hB).le
 have lo5:(os.map V.str).length=os.length:=zuc _
 have ln:(xG os).length=(yp os).length:=by unfold xG yp;rw[zuc,zuc];exact hW.len
 have l4:(xG os).length<=8:=by unfold xG;rw[zuc];have:=RV os;omega
 have Vi:=hB
 obtain⟨dx,ml,rl,tl,nd,rv,ts,kvs,h⟩:=hB
 refine⟨_,rfl,b,dx,_,rfl,h.hb,rfl,b,os,rs,F,rfl,Vi,fun l1 H1 g1 fl1 hl1=>?_⟩
 refine⟨l1,_,rfl,.inl (zB.of hl1),?_⟩
 rw[lo5]
 have Yu:=L.same Vi g1
 refine⟨_,rfl,_,rfl,b,dx,_,rfl,(g1 _ _ h.hb),rfl,_,rfl,b,os,rs,F,k0,rfl,Yu,hk,fun t tt=>?_⟩
 refine⟨N,t,rfl,rfl,?_⟩
 refine⟨_,rfl,b,os,rs,F,rfl,Yu,fun l2 H2 g2 K8 hl2=>?_⟩
 have hB2:=L.same Yu g2
 refine⟨_,rfl,_,os.length,_,l2,xG os,rfl,o8,Xv.XQ tf tt,zB.of hl2,X4,fun R tr=>?_⟩
 refine⟨_,rfl,_,rfl,b,os,rs,F,rfl,hB2,fun l3 H3 g3 fl3 hl3=>?_⟩
 have hB3:=L.same hB2 g3
 refine⟨_,rfl,b,os,rs,F,rfl,hB3,fun l4' H4 g4 fl4 hl4=>?_⟩
 refine⟨_,rfl,R,os.length,_,l3,l4',yp os,xG os,rfl,o8,tr,zB.of (g4 _ _ hl3),zB.of hl4,ln.symm,by omega,uU,X4,fun R2 H5 g5 t5=>?_⟩
 exact q R2 H5 (g1.trans (g2.trans (g3.trans (g4.trans g5)))) t5
theorem ziU (T:Txt P w K mg a)(zZ:zy P w K mg base yq k a.xq a.xr yU (wk (yh a.zj)))(zT:zy P w K mg base yq k a.yJ a.yK yF (vB a.zj))
  (ud:zy P w K mg base yq k a.Zj a.Zk uR (Xk a.zj))(wI:zy P w K mg base yq k a.uZ a.u6 uf (Yh a.zj))
  (Jy:zy P w K mg base yq k a.QL a.QM Uz (zbn K))(zeF:zy P w K mg base yq k a.zaM a.zaN LR (zd7 K)):zy P w K mg base yq (k+1) a.Qg a.Qh Uy (Lg a.zj):=by
 refine T.Qp.F.ok Jo (fun vs H Q E h=>?_) (fun cdv A outer s H vs Q E hr h=>?_)
 ·obtain⟨b,os,rs,F,k0,N,f,rfl,_⟩:=h
  rfl
 obtain⟨b,os,rs,F,k0,N,f,rfl,hB,hk,hW,tf,q⟩:=h
 refine⟨_,(zf (zQ (i:=3) Jo.nd rfl (Or.inl rfl) (zR zO rfl T.wY xV (za (uW (pv 0) T.yr T.xX zZ hr) zc)))
   (zf (zQ (i:=4) Jo.nd rfl (Or.inl rfl) (zu zeF hr T.zet (za (pv 2) (za (zu ud hr T.Zr (za (pv 0) zc)) (za (zu wI hr T.u9 (za (pv 0) zc)) (za (pv 3) zc))))))
   (zp (zV (zu Jy hr T.Jr (za (zW tH (pv 4) (xu (pv 0) T.yr T.yR zT hr (za (pv 1) zc))) (za (zu wI hr T.u9 (za (pv 0) zc)) (za (pv 3) zc)))))))),?_⟩
 have L:=z9 a.zj
 have o8:=(L.ord hB).le
 have lo5:(os.map V.str).length=os.length:=zuc _
 have ln:(xG os).length=(yp os).length:=by unfold xG yp;rw[zuc,zuc];exact hW.len
 have l4:(xG os).length<=8:=by unfold xG;rw[zuc];have:=RV os;omega
 have Vi:=hB
 obtain⟨dx,ml,rl,tl,nd,rv,ts,kvs,h⟩:=hB
 refine⟨_,rfl,b,dx,_,rfl,h.hb,rfl,b,os,rs,F,rfl,Vi,fun l1 H1 g1 fl1 hl1=>?_⟩
 refine⟨l1,_,rfl,.inl (zB.of hl1),?_⟩
 rw[lo5]
 have Yu:=L.same Vi g1
 refine⟨_,rfl,_,rfl,b,os,rs,F,rfl,Yu,fun l2 H2 g2 K8 hl2=>?_⟩
 have hB2:=L.same Yu g2
 refine⟨_,rfl,b,os,rs,F,rfl,hB2,fun l3 H3 g3 fl3 hl3=>?_⟩
 refine⟨_,rfl,N,os.length,_,l2,l3,xG os,yp os,rfl,o8,tf,zB.of (g3 _ _ hl2),zB.of hl3,ln,by omega,X4,uU,fun R H4 g4 tr=>?_⟩
 have Xh:=L.same hB2 (g3.trans g4)
 refine⟨_,rfl,_,rfl,b,dx,_,rfl,((g1.trans (g2.trans (g3.trans g4))) _ _ h.hb),rfl,_,rfl,b,os,rs,F,k0,rfl,Xh,hk,fun t tt=>?_⟩
 refine⟨R,t,rfl,rfl,?_⟩
 refine⟨_,rfl,b,os,rs,F,rfl,Xh,fun l5 H5 g5 fl5 hl5=>?_⟩
 refine⟨_,rfl,_,os.length,_,l5,yp os,rfl,o8,Xv.XQ tr tt,zB.of hl5,uU,fun R2 t2=>?_⟩
 exact q R2 H5 (g1.trans (g2.trans (g3.trans (g4.trans g5)))) t2
theorem Jz (T:Txt P w K mg a)(zZ:zy P w K mg base yq k a.xq a.xr yU (wk (yh a.zj))):zy P w K mg base yq (k+1) a.vW a.vX vo (RW a.zj):=by
 refine T.ZM.F.ok wG (fun vs H Q E h=>?_) (fun cdv A outer s H vs Q E hr h=>?_)
 ·obtain⟨b,os,rs,F,rfl,_⟩:=h
  rfl
 obtain⟨b,os,rs,F,rfl,hB,hW,q⟩:=h
 refine⟨_,(zf (zQ (i:=1) wG.nd rfl (Or.inl rfl) (uW (pv 0) T.yr T.xX zZ hr))
   (zp (vO PassesOwn.never rfl (Ry (vd (v:=.ref a.Xd) rfl T.zaS rfl)) (Nk rfl (vZ (yS (i:=2) wG.nd rfl (Or.inl rfl)) (vZ (yS (i:=3) wG.nd rfl (Or.inl rfl)) Tp))) (zp (yZ (zP Pn (Zd Yx (pv 2) (pv 1) (by with_unfolding_all rfl)) (Zd Yx (pv 3) (pv 1) (by with_unfolding_all rfl)) (yg _)) (zp Ul) yC))))),?_⟩
 have L:=z9 a.zj
 obtain⟨dx,fs,Jx,hm⟩:=L.ins hB
 refine⟨_,rfl,b,dx,_,rfl,Jx,hm _ (by decide +kernel),b,os,rs,F,rfl,hB,fun l1 H1 g1 fl1 hl1=>?_⟩
 refine⟨a.Xd,rfl,⟨_,T.VJ H1⟩,?_⟩
 refine zdI (xs:=[.ref a.Wt,.ref a.Wu,.ref a.Wv,.ref a.Ww]) (fun i σ H'=>H'=H1/\∃f2 f3:Option V,σ=[some (.ref b),some (.ref l1),f2,f3]) ⟨rfl,_,_,rfl⟩ ?_ ?_ ?_
 ·rintro i σ H' _ ⟨rfl,_⟩
  exact T.VJ H'
 ·rintro i v σ H' hv ⟨rfl,f2,f3,rfl⟩
  obtain⟨p,pr,rfl,hp,hpr⟩:∃(p:Addr) (pr:Str×Str),v=.ref p/\vf K H' p [.str pr.1,.str pr.2]/\prs[i]?=some pr:=by
   match i,hv with
   | 0,hv=>cases hv;exact⟨_,("a", "e"),rfl,T.QX H',rfl⟩
   | 1,hv=>cases hv;exact⟨_,("b", "f"),rfl,T.QZ H',rfl⟩
   | 2,hv=>cases hv;exact⟨_,("c", "g"),rfl,T.Q5 H',rfl⟩
   | 3,hv=>cases hv;exact⟨_,("d", "h"),rfl,T.Q6 H',rfl⟩
  have e:=hW pr (zuh hpr)
  refine⟨p,_,rfl,hp,rfl,_,_,rfl,_,_,rfl,rfl,?_⟩
  refine⟨_,rfl,_,rfl,l1,_,rfl,.inl (zB.of hl1),rfl,wD os,?_⟩
  refine⟨_,rfl,_,rfl,l1,_,rfl,.inl (zB.of hl1),rfl,wD os,rfl,_,rfl,wQ (congrArg V.bl ?_) ⟨rfl,_,_,rfl⟩⟩
  show inV (.str pr.1) (os.map V.str)=inV (.str pr.2) (os.map V.str)
  rw[X3,X3,e]
 ·rintro σ H' ⟨rfl,f2,f3,rfl⟩
  exact q _ g1
theorem KH (T:Txt P w K mg a)(zZ:zy P w K mg base yq k a.xq a.xr yU (wk (yh a.zj)))(zT:zy P w K mg base yq k a.yJ a.yK yF (vB a.zj))
  (wj:zy P w K mg base yq k a.yM a.yN yH (WL a.zj))(wI:zy P w K mg base yq k a.uZ a.u6 uf (Yh a.zj))
  (Z1:zy P w K mg base yq k a.W0 a.W2 YC zaG):zy P w K mg base yq (k+1) a.vC a.vD wV (Jg a.zj):=by
 refine T.Zt.F.ok tL (fun vs H Q E h=>?_) (fun cdv A outer s H vs Q E hr h=>?_)
 ·obtain⟨b,os,rs,F,k0,rfl,_⟩:=h
  rfl
 obtain⟨b,os,rs,F,k0,rfl,hB,hN,q⟩:=h
 refine⟨_,(zf (zX (xu (pv 0) T.yr T.wK wj hr (za (pv 1) zc)))
   (zp (vO PassesOwn.never rfl (vg (zu wI hr T.u9 (za (pv 0) zc))) (yS (i:=2) tL.nd rfl (Or.inl rfl)) (zp (yZ (wR (zu Z1 hr T.SX (za (xu (pv 0) T.yr T.yR zT hr (za (pv 1) zc)) (za (pv 2) (za (zR zO rfl T.wY xV (za (uW (pv 0) T.yr T.xX zZ hr) zc)) zc)))) (fun _=>rfl)) (zp Ul) yC))))),?_⟩
 have L:=z9 a.zj
 have o8:=(L.ord hB).le
 have lo5:(os.map V.str).length=os.length:=zuc _
 have Vi:=hB
 obtain⟨dx,ml,rl,tl,nd,rv,ts,kvs,h⟩:=hB
 refine⟨_,rfl,b,dx,_,rfl,h.hb,rfl,_,rfl,b,os,rs,F,k0,rfl,Vi,hN.1,?_⟩
 refine⟨_,rfl,b,os,rs,F,rfl,Vi,fun l1 H1 g1 fl1 hl1=>?_⟩
 refine⟨l1,rfl,⟨_,zB.of hl1⟩,?_⟩
 refine tO (xs:=wg (yp os)) (fun i σ H'=>Same H1 H'/\∃f2:Option V,σ=[some (.ref b),some (.int (k0:Nat)),f2]) ⟨Same.refl _,_,rfl⟩ ?_ ?_ ?_
 ·rintro i σ H' _ ⟨g,_⟩
  exact zB.of (g _ _ hl1)
 ·rintro i v σ H' hv ⟨g,f2,rfl⟩
  unfold wg at hv
  rw[zue] at hv
  cases hj:(yp os)[i]? with
  | none=>rw[hj] at hv;cases hv
  | some p =>
   rw[hj] at hv
   cases hv
   have hp:=zuh hj
   have Yu:=L.same Vi (g1.trans g)
   have b1:=(g1.trans g) _ _ h.hb
   refine⟨_,rfl,b,dx,_,rfl,b1,rfl,_,rfl,b,os,rs,F,k0,rfl,Yu,hN.1,fun t tt=>?_⟩
   refine⟨_,rfl,_,rfl,b,dx,_,rfl,b1,rfl,b,os,rs,F,rfl,Yu,fun l2 H2 g2 K8 hl2=>?_⟩
   refine⟨l2,_,rfl,.inl (zB.of hl2),?_⟩
   rw[lo5]
   refine⟨t,p,os.length,_,rfl,uU p hp,o8,tt,fun c cf ct=>?_⟩
   cases c with
   | true =>
    obtain⟨z,z1,z2⟩:=ct rfl
    exact absurd ((hN.2 p hp z z1 false).trans (hN.2 p hp z z1 true).symm) z2
   | false=>exact⟨_,rfl,yD ⟨g.trans g2,_,rfl⟩⟩
 ·rintro σ H' ⟨g,f2,rfl⟩
  exact q _ (g1.trans g)
theorem Rt (T:Txt P w K mg a)(XC:zy P w K mg base yq k a.vW a.vX vo (RW a.zj))
  (wj:zy P w K mg base yq k a.yM a.yN yH (WL a.zj))
  (YK:zy P w K mg base yq k a.vC a.vD wV (Jg a.zj)):zy P w K mg base yq (k+1) a.zL a.zM zH (uP a.zj K):=by
 refine T.zN.F.ok vL (fun vs H Q E h=>?_) (fun cdv A outer s H vs Q E hr h=>?_)
 ·obtain⟨b,l,os,rs,F,k0,ks,rfl,_⟩:=h
  rfl
 obtain⟨b,l,os,rs,F,k0,ks,rfl,hB,hW,hk,hl,hN,q⟩:=h
 refine⟨_,(zf (zX (zu XC hr T.ZM (za (pv 0) zc)))
   (zf (zX (xu (pv 0) T.yr T.wK wj hr (za (pv 1) zc)))
   (zp (vO PassesOwn.never rfl (vg (pv 2)) (yS (i:=3) vL.nd rfl (Or.inl rfl)) (zp (zX (zu YK hr T.Zt (za (pv 0) (za (pv 3) zc))))))))),?_⟩
 have L:=z9 a.zj
 have Vi:=hB
 obtain⟨dx,ml,rl,tl,nd,rv,ts,kvs,h⟩:=hB
 refine⟨_,rfl,b,os,rs,F,rfl,Vi,hW,fun H1 g1=>?_⟩
 refine⟨_,rfl,b,dx,_,rfl,g1 _ _ h.hb,rfl,_,rfl,b,os,rs,F,k0,rfl,L.same Vi g1,hk,?_⟩
 refine⟨_,rfl,l,rfl,⟨_,g1.seq hl⟩,?_⟩
 refine tO (xs:=wg ks) (fun i σ H'=>Same H H'/\∃f3:Option V,σ=[some (.ref b),some (.int (k0:Nat)),some (.ref l),f3]) ⟨g1,_,rfl⟩ ?_ ?_ ?_
 ·rintro i σ H' _ ⟨g,_⟩
  exact g.seq hl
 ·rintro i v σ H' hv ⟨g,f3,rfl⟩
  unfold wg at hv
  rw[zue] at hv
  cases hj:ks[i]? with
  | none=>rw[hj] at hv;cases hv
  | some j =>
   rw[hj] at hv
   cases hv
   exact⟨_,rfl,_,rfl,b,os,rs,F,j,rfl,L.same Vi g,hN j (zuh hj),fun H2 g2=>⟨g.trans g2,_,rfl⟩⟩
 ·rintro σ H' ⟨g,f3,rfl⟩
  exact q _ g
theorem zkX (T:Txt P w K mg a)(zA:zy P w K mg base yq k a.zL a.zM zH (uP a.zj K))
  (yE:zy P w K mg base yq k a.xO a.xP yV (vq a.zj 9))(zT:zy P w K mg base yq k a.yJ a.yK yF (vB a.zj))
  (KJ:zy P w K mg base yq k a.Kl a.Km QK (zd8 a.zj)):zy P w K mg base yq (k+1) a.zaK a.zaL LQ (zl2 a.zj):=by
 refine T.zes.F.ok zfD (fun vs H Q E h=>?_) (fun cdv A outer s H vs Q E hr h=>?_)
 ·obtain⟨b,os,rs,F,k0,j,rfl,_⟩:=h
  rfl
 obtain⟨b,os,rs,F,k0,j,rfl,hB,hlen,hW,hk,hN,q⟩:=h
 refine⟨_,(zf (zX (zu zA hr T.zN (za (pv 0) (za (pv 1) (za (xg (za (pv 2) zc)) zc)))))
   (zp (zV (xu (pv 0) T.yr T.xY yE hr (za (zu KJ hr T.zaR (za (pv 0) (za (pv 1) (za (xu (pv 0) T.yr T.yR zT hr (za (pv 2) zc)) zc)))) zc))))),?_⟩
 have L:=z9 a.zj
 have Vi:=hB
 obtain⟨dx,ml,rl,tl,nd,rv,ts,kvs,h⟩:=hB
 refine⟨_,rfl,_,rfl,_,rfl,by show 1<=sizeLine;decide,fun l0 hl0=>?_⟩
 have g0:=Same.new hl0 (.lst [.int (j:Nat)])
 refine⟨b,l0,os,rs,F,k0,[j],rfl,L.same Vi g0,hW,hk,zB.of zm,fun j' hj'=>by rw[List.mem_singleton.mp hj'];exact hN,fun H1 g1=>?_⟩
 have G1:=g0.trans g1
 have Yu:=L.same Vi G1
 have b1:=G1 _ _ h.hb
 refine⟨_,rfl,b,dx,_,rfl,b1,rfl,_,rfl,_,rfl,_,rfl,b,dx,_,rfl,b1,rfl,_,rfl,b,os,rs,F,j,rfl,Yu,hN.1,fun t tt=>?_⟩
 refine⟨b,os,rs,F,k0,t,_,rfl,Yu,hk,hW,tt,fun R H2 g2 tr=>?_⟩
 exact Yg (G1.trans g2) (L.same Yu g2) hlen tr (fun r=>rfl) q
theorem zf6 (T:Txt P w K mg a)(zA:zy P w K mg base yq k a.zL a.zM zH (uP a.zj K))
  (yE:zy P w K mg base yq k a.xO a.xP yV (vq a.zj 9))(zT:zy P w K mg base yq k a.yJ a.yK yF (vB a.zj))
  (U9:zy P w K mg base yq k a.Qg a.Qh Uy (Lg a.zj)):zy P w K mg base yq (k+1) a.Sv a.Sw WW (zgM a.zj):=by
 refine T.N7.F.ok JZ (fun vs H Q E h=>?_) (fun cdv A outer s H vs Q E hr h=>?_)
 ·obtain⟨b,os,rs,F,k0,j,rfl,_⟩:=h
  rfl
 obtain⟨b,os,rs,F,k0,j,rfl,hB,hlen,hW,hk,hN,q⟩:=h
 refine⟨_,(zf (zX (zu zA hr T.zN (za (pv 0) (za (pv 1) (za (xg (za (pv 2) zc)) zc)))))
   (zp (zV (xu (pv 0) T.yr T.xY yE hr (za (zu U9 hr T.Qp (za (pv 0) (za (pv 1) (za (xu (pv 0) T.yr T.yR zT hr (za (pv 2) zc)) zc)))) zc))))),?_⟩
 have L:=z9 a.zj
 have Vi:=hB
 obtain⟨dx,ml,rl,tl,nd,rv,ts,kvs,h⟩:=hB
 refine⟨_,rfl,_,rfl,_,rfl,by show 1<=sizeLine;decide,fun l0 hl0=>?_⟩
 have g0:=Same.new hl0 (.lst [.int (j:Nat)])
 refine⟨b,l0,os,rs,F,k0,[j],rfl,L.same Vi g0,hW,hk,zB.of zm,fun j' hj'=>by rw[List.mem_singleton.mp hj'];exact hN,fun H1 g1=>?_⟩
 have G1:=g0.trans g1
 have Yu:=L.same Vi G1
 have b1:=G1 _ _ h.hb
 refine⟨_,rfl,b,dx,_,rfl,b1,rfl,_,rfl,_,rfl,_,rfl,b,dx,_,rfl,b1,rfl,_,rfl,b,os,rs,F,j,rfl,Yu,hN.1,fun t tt=>?_⟩
 refine⟨b,os,rs,F,k0,t,_,rfl,Yu,hk,hW,tt,fun R H2 g2 tr=>?_⟩
 exact Yg (G1.trans g2) (L.same Yu g2) hlen tr (fun r=>rfl) q
theorem zaq (T:Txt P w K mg a)(zT:zy P w K mg base yq k a.yJ a.yK yF (vB a.zj))(KJ:zy P w K mg base yq k a.Kl a.Km QK (zd8 a.zj))(U8:zy P w K mg base yq k a.Wr a.Ws YD Uu):zy P w K mg base yq (k+1) a.uD a.uE vI (Zy a.zj):=by
 refine T.Zb.F.ok vV (fun vs H Q E h=>?_) (fun cdv A outer s H vs Q E hr h=>?_)
 ·obtain⟨b,os,rs,F,k0,j,rfl,_⟩:=h
  rfl
 obtain⟨b,os,rs,F,k0,j,rfl,hB,hW,hk,hj,q⟩:=h
 refine⟨_,(zf (zQ (i:=3) vV.nd rfl (Or.inl rfl) (xg zc))
   (zf (zQ (i:=4) vV.nd rfl (Or.inl rfl) (xu (pv 0) T.yr T.yR zT hr (za (pv 2) zc)))
   (zf (zQ (i:=5) vV.nd rfl (Or.inl rfl) zq)
   (zf (Rx PassesOwn.never (zP Pn (pv 4) zq (yg _)) (zf (zX (Zw PySem.F.plainAttrs_list PySem.F.slot_list_append PySem.F.type_list_append vQ (pv 3) (za (pv 4) zc)))
   (zf (zQ (i:=5) vV.nd rfl (Or.inl rfl) (zW Tw (pv 5) (pv 4)))
   (zp (zQ (i:=4) vV.nd rfl (Or.inl rfl) (zu U8 hr T.QV (za (zu KJ hr T.zaR (za (pv 0) (za (pv 1) (za (pv 4) zc)))) (za (pv 5) zc))))))))
   (zp (zV (pv 3))))))),?_⟩
 have L:=z9 a.zj
 have o8:=(L.ord hB).le
 have p256:2^os.length<=256:=zgE o8
 obtain⟨dx,ml,rl,tl,nd,rv,ts,kvs,h⟩:=id hB
 refine⟨by show 0<=sizeLine;decide,fun l hl=>?_⟩
 have g0:=Same.new hl (.lst [])
 have e0:upd H l (.lst []) l=some (.lst (wg [])):=zm
 generalize upd H l (.lst [])=H1 at g0 e0
 refine⟨_,rfl,b,dx,_,rfl,g0 _ _ h.hb,rfl,_,rfl,b,os,rs,F,j,rfl,L.same hB g0,hj,fun N tN=>?_⟩
 refine⟨fun m σ H'=>∃(Ns:List Nat) (cur told:Nat),m=256-Ns.length/\Ns.length<=zke os (tB rs k0) (tB rs j) Ns.length/\Same H H'/\H' l=some (.lst (wg Ns))/\(∀(i N:Nat),Ns[i]?=some N->z8 os.length N (Vg os (tB rs k0) (tB rs j) i).1/\N≠0)/\z8 os.length cur (Vg os (tB rs k0) (tB rs j) Ns.length).1/\z8 os.length told (Vg os (tB rs k0) (tB rs j) Ns.length).2/\σ=[some (.ref b),some (.int (k0:Nat)),some (.int (j:Nat)),some (.ref l),some (.int (cur:Nat)),some (.int (told:Nat))],⟨_,[],N,0,rfl,zuy _,g0,e0,(fun i N e=>by cases e),tN,(fun c=>by rw[Nat.zero_testBit];show false=(_&&false);rw[Bool.and_false]),rfl⟩,?_⟩
 rintro m σ H' ⟨Ns,cur,told,rfl,hc,g,hl',ok,tc,tt,rfl⟩
 refine⟨_,rfl,rfl,_,rfl,?_⟩
 by_cases c0:cur=0
 ·subst c0
  refine wQ rfl ⟨_,rfl,?_⟩
  exact q l H' Ns g hl hl' ⟨ok,tc⟩ (zux hc (zux (zh1 _ _) p256))
 ·have ct:=zl9 tc c0
  have cl:=zh1 (os:=os) (t:=tB rs k0) (tB rs j) (Ns.length+1)
  show if (!decide (V.int (cur:Nat)=V.int 0))=true then _ else _
  rw[decide_eq_false (fun e=>c0 (by injection e;omega))]
  refine xH ⟨_,fun σ' H2 h=>h,?_⟩
  refine⟨_,rfl,.inl ⟨rfl,_,zB.of hl'⟩,_,rfl,l,_,_,rfl,rfl,hl',by rw[wJ];exact yI (by omega),?_⟩
  have g2:Same H (upd H' l (.lst (wg Ns++[V.int (cur:Nat)]))):=g.over hl _
  have e2:upd H' l (.lst (wg Ns++[V.int (cur:Nat)])) l=some (.lst (wg (Ns++[cur]))):=by rw[zm];unfold wg;rw[zuq];rfl
  generalize upd H' l (.lst (wg Ns++[V.int (cur:Nat)]))=H2 at g2 e2
  refine⟨_,rfl,_,rfl,told,cur,rfl,rfl,?_⟩
  refine⟨_,rfl,_,rfl,_,rfl,b,os,rs,F,k0,cur,_,rfl,L.same hB g2,hk,hW,tc,fun R H3 g3 tr=>?_⟩
  refine⟨_,rfl,R,told|||cur,os.length,_,_,rfl,tr,zgS tt tc,fun R2 tr2=>?_⟩
  have el:(Ns++[cur]).length=Ns.length+1:=by rw[zuk];rfl
  refine⟨256-(Ns++[cur]).length,by rw[el];omega,Ns++[cur],R2,told|||cur,rfl,by rw[el];omega,g2.trans g3,g3 _ _ e2,fun i N e=>?_,by rw[el];exact tr2,by rw[el];exact zgS tt tc,rfl⟩
  rcases Nat.lt_or_ge i Ns.length with z | z
  ·rw[zuI z] at e
   exact ok i N e
  ·have hi:=(zuf.mp e).1
   have ei:i=Ns.length:=by omega
   subst ei
   rw[List.getElem?_append_right (zus _),Nat.sub_self] at e
   cases e
   exact⟨tc,c0⟩
theorem zb1 (T:Txt P w K mg a)(zT:zy P w K mg base yq k a.yJ a.yK yF (vB a.zj))(zA:zy P w K mg base yq k a.zL a.zM zH (uP a.zj K))(vK:zy P w K mg base yq k a.uD a.uE vI (Zy a.zj)):zy P w K mg base yq (k+1) a.Y9 a.Xa ZD (Lk a.zj K):=by
 refine T.Ui.F.ok R7 (fun vs H Q E h=>?_) (fun cdv A outer s H vs Q E hr h=>?_)
 ·obtain⟨b,tl,os,rs,F,k0,j,js,rfl,_⟩:=h
  rfl
 obtain⟨b,tl,os,rs,F,k0,j,js,rfl,hB,hW,hk,hN,hl,hjs,len,q⟩:=h
 refine⟨_,(zf (zX (zu zA hr T.zN (za (pv 0) (za (pv 1) (za (zW zaH (xg (za (pv 2) zc)) (pv 3)) zc)))))
   (zp (zV (Zd (zjV rfl (hu8 hr)) (V0 (Zx:=zx YZ) (js:=[0]) rfl (by show XJ (zx YZ) _ "room" ["book"];exact⟨rfl,by decide +kernel,by decide +kernel,rfl,by decide +kernel,by decide +kernel,by decide +kernel⟩) rfl (vg (pv 3)) (by show ∀j∈([0]:List Nat),j<4;decide) (fun cl C s₂ H₂ fp=>(xu (pv 1) T.yr T.yR zT hr (za (pv 0) zc)))) (zu vK hr T.Zb (za (pv 0) (za (pv 1) (za (pv 2) zc)))) (yg _))))),?_⟩
 have L:=z9 a.zj
 have BK:=L.bk hB
 obtain⟨dx,ml,rl,tl',nd,rv,ts,kvs,h⟩:=id hB
 refine⟨_,rfl,_,rfl,_,rfl,by show 1<=sizeLine;decide,fun l0 hl0=>?_⟩
 have g0:=Same.new hl0 (.lst [.int (j:Nat)])
 have e0:upd H l0 (.lst [.int (j:Nat)]) l0=some (.lst [.int (j:Nat)]):=zm
 generalize upd H l0 (.lst [.int (j:Nat)])=H1 at g0 e0
 refine⟨_,rfl,l0,tl,_,_,rfl,rfl,zB.of e0,g0.seq hl,by rw[wJ];exact zuu (yI (by show 1+js.length<=1000;omega)),fun l1 hl1=>?_⟩
 have g1:=Same.new hl1 (.lst ([.int (j:Nat)]++wg js))
 refine⟨b,l1,os,rs,F,k0,j::js,rfl,L.same hB (g0.trans g1),hW,hk,zB.of zm,fun i hi=>?_,fun H2 g2=>?_⟩
 ·rcases List.mem_cons.mp hi with z | z
  ·rw[z];exact hN
  ·exact hjs i z
 have G2:=(g0.trans g1).trans g2
 generalize upd H1 l1 (.lst ([.int (j:Nat)]++wg js))=Hx at g1 g2
 have hB2:=L.same hB G2
 have hb2:=G2 _ _ h.hb
 refine⟨_,rfl,tl,rfl,⟨_,G2.seq hl⟩,?_⟩
 have tabs:∀i,i∈js->∃N,zbv os.length rs i N:=fun i hi=>by
  obtain⟨N,hN'⟩:∃N,ts[i]?=some N:=⟨_,zud (by rw[h.tabs.len];exact(hjs i hi).1)⟩
  exact⟨N,(hjs i hi).1,h.tabs.tab i N hN'⟩
 refine zaD (xs:=wg js) (fun m ys H3=>H3=H2/\∃Ms:List Nat,ys=wg Ms/\Paired (zbv os.length rs) (js.take m) Ms) ⟨rfl,[],rfl,.nil⟩ (by rw[wJ];exact zuu (yI (by omega))) ?_ ?_ (fun _ _ _ _ h q=>h _ _ q) ?_ ?_
 ·rintro m ys H3 hm ⟨rfl,Ms,rfl,pm⟩
  have:=ZP pm
  rw[zuz] at this
  exact⟨G2.seq hl,by rw[wJ];omega⟩
 ·rintro m x ys H3 hx ⟨rfl,Ms,rfl,pm⟩
  obtain⟨i,hi,rfl⟩:=Jj hx
  refine zpi (xH ?_)
  refine⟨_,rfl,b,dx,_,rfl,hb2,rfl,_,rfl,b,os,rs,F,i,rfl,hB2,(hjs i (zuh hi)).1,fun N tN=>?_⟩
  refine⟨rfl,Ms++[N],by unfold wg;rw[zuq];rfl,?_⟩
  rw[xK hi]
  exact V2 pm (.cons ⟨(hjs i (zuh hi)).1,tN⟩ .nil)
 ·rintro σ' H3 Q1 Q2 hQ ⟨v1,e1,b',dx',fs',z1,z2,z3,v2,e2,y1,y2,y3,y4,y5,y6,y7,y8,y9⟩
  exact⟨v1,e1,b',dx',fs',z1,z2,z3,v2,e2,y1,y2,y3,y4,y5,y6,y7,y8,fun t ht=>hQ _ _ (y9 t ht)⟩
 rintro ys H3 l2 ⟨rfl,Ms,rfl,pm⟩ hl2
 rw[wJ,zuE] at pm
 have g3:=Same.new hl2 (.lst (wg Ms))
 refine⟨_,rfl,_,rfl,_,rfl,b,os,rs,F,k0,j,rfl,L.same hB2 g3,hW,hk,hN.1,fun l3 H4 Ns g4 fl3 hl3 rn ln=>?_⟩
 exact⟨_,fun z=>absurd z.1 zug,zki (zB.of (g4 _ _ zm)) (zB.of hl3),q _ Ms Ns ((G2.trans g3).trans g4) pm rn⟩
theorem ziV (T:Txt P w K mg a)(zA:zy P w K mg base yq k a.zL a.zM zH (uP a.zj K))(vK:zy P w K mg base yq k a.uD a.uE vI (Zy a.zj))(yE:zy P w K mg base yq k a.xO a.xP yV (vq a.zj 9)):zy P w K mg base yq (k+1) a.Ko a.Kp R5 (zkj a.zj):=by
 refine T.zbU.F.ok zdC (fun vs H Q E h=>?_) (fun cdv A outer s H vs Q E hr h=>?_)
 ·obtain⟨b,os,rs,F,k0,j,rfl,_⟩:=h
  rfl
 obtain⟨b,os,rs,F,k0,j,rfl,hB,hlen,hW,hk,hN,q⟩:=h
 refine⟨_,(zf (zX (zu zA hr T.zN (za (pv 0) (za (pv 1) (za (xg (za (pv 2) zc)) zc)))))
   (zp (zV (V0 (Zx:=zx Ka) (js:=[0]) rfl (by show XJ (zx Ka) _ "table" ["book"];exact⟨rfl,by decide +kernel,by decide +kernel,rfl,by decide +kernel,by decide +kernel,by decide +kernel⟩) rfl (vg (zu vK hr T.Zb (za (pv 0) (za (pv 1) (za (pv 2) zc))))) (by show ∀j∈([0]:List Nat),j<3;decide) (fun cl C s₂ H₂ fp=>(xu (pv 1) T.yr T.xY yE hr (za (pv 0) zc))))))),?_⟩
 have L:=z9 a.zj
 have BK:=L.bk hB
 have ho:=L.ord hB
 refine⟨_,rfl,_,rfl,_,rfl,by show 1<=sizeLine;decide,fun l0 hl0=>?_⟩
 have g0:=Same.new hl0 (.lst [.int (j:Nat)])
 refine⟨b,l0,os,rs,F,k0,[j],rfl,L.same hB g0,hW,hk,zB.of zm,fun j' hj'=>by rw[List.mem_singleton.mp hj'];exact hN,fun H1 g1=>?_⟩
 have G1:=g0.trans g1
 generalize upd H l0 (.lst [.int (j:Nat)])=Hx at g0 g1
 have Yu:=L.same hB G1
 refine⟨_,rfl,_,rfl,_,rfl,b,os,rs,F,k0,j,rfl,Yu,hW,hk,hN.1,fun l H2 Ns g2 fl hl rn ln=>?_⟩
 have G2:=G1.trans g2
 have nF:¬F l:=L.fresh Yu fl
 have hB2:=L.same hB G2
 have Lx:Uv a.zj (outF F H2) b os (vp.JR os.length rs) H2 rs F:=⟨ziD F H2,fun x hx=>zl3 hx,hB2,zus _⟩
 refine⟨l,rfl,⟨_,zB.of hl⟩,?_⟩
 refine zaD (xs:=wg Ns) (fun m ys H3=>∃(rs':List vp.Rm) (js:List Nat),Uv a.zj (outF F H2) b os (vp.JR os.length rs+63*m) H3 rs' F/\wz H2 H3/\vp.wU rs rs'/\ys=wg js/\Paired (zbv os.length rs') js (Ns.take m)/\∀i∈js,vN os rs' i) ⟨rs,[],Lx,wz.refl _,vp.wU.refl _,rfl,.nil,(fun i h=>by cases h)⟩ (by rw[wJ];exact zuu (yI (by omega))) ?_ ?_ (fun _ _ _ _ h q=>h _ _ q) ?_ ?_
 ·rintro m ys H3 hm ⟨rs',js,L3,tu,gr,rfl,pj,oj⟩
  have:=ZP pj
  rw[zuz] at this
  exact⟨zB.of (L3.same _ _ (by rw[zfm nF];exact hl)),by rw[wJ];omega⟩
 ·rintro m x ys H3 hx ⟨rs',js,L3,tu,gr,rfl,pj,oj⟩
  obtain⟨N,hi,rfl⟩:=Jj hx
  have hm:=(zuf.mp hi).1
  obtain⟨tN,_⟩:=rn.tab m N hi
  have BK3:=L.bk L3.bk
  have l3:=L3.len
  have hil:vp.JR os.length rs<=rs.length:=zuK _ _
  refine zpi (xH ?_)
  obtain⟨dx3,_,_,_,_,_,_,_,h3⟩:=id L3.bk
  refine⟨_,rfl,b,dx3,_,rfl,h3.hb,rfl,_,rfl,?_⟩
  refine⟨b,os,rs',F,N,0,_,rfl,L3.bk,by show rs'.length+512<=9000000;omega,zuy _,by have:=ho.le;omega,tN,fun i hi=>absurd hi (Nat.not_lt_zero _),fun kk XF H4 aw4 tu4 Xh gr4 lt4 y4 ln4 _ hh4'=>?_⟩
  have m4:vp.Means XF kk fun r=>(Vg os (tB rs k0) (tB rs j) m).1 (vp.bits r os.length):=⟨lt4,y4⟩
  have hh4:=zux hh4' (Nat.add_le_add_left (vp.znM ho.le) _)
  refine⟨XF,js++[kk],(L3.grow aw4 Xh hh4).up (by rw[Nat.mul_succ];omega),tu.trans tu4,gr.trans gr4,by unfold wg;rw[zuq];rfl,?_,fun i hi'=>?_⟩
  ·rw[xK hi]
   exact V2 (WD (fun _ _ e=>e.grown BK3 gr4) pj) (.cons (zbv.of m4 tN) .nil)
  ·rcases List.mem_append.mp hi' with z | z
   ·exact(oj i z).grown BK3 gr4
   ·rw[List.mem_singleton.mp z]
    exact zkh m4 fun p hp=>(zfo ho hW (fun p hp=>hN.2 p hp) m p hp).1
 ·rintro σ' H3 Q1 Q2 hQ ⟨v1,e1,b',dx',fs',z1,z2,z3,v2,e2,y1,y2,y3,y4,y5,y6,y7,y8,y9,ya,yb,yc,yd,ye,yf⟩
  exact⟨v1,e1,b',dx',fs',z1,z2,z3,v2,e2,y1,y2,y3,y4,y5,y6,y7,y8,y9,ya,yb,yc,yd,ye,fun a1 a2 a3 a4 a5 a6 a7 a8 a9 b1 b2 b3=>hQ _ _ (yf a1 a2 a3 a4 a5 a6 a7 a8 a9 b1 b2 b3)⟩
 rintro ys H3 l2 ⟨rs',js,L3,tu,gr,rfl,pj,oj⟩ hl2
 rw[wJ,List.take_of_length_le (zus _)] at pj
 rw[wJ] at L3
 have g3:=Same.new hl2 (.lst (wg js))
 have aw:zd4 F H H3:=fun x o e n=>L3.same _ _ (by rw[zfm n];exact G2 _ _ e)
 have nl2:¬F l2:=L.fresh L3.bk hl2
 refine q l2 _ rs' js Ns (fun x o e n=>g3 _ _ (aw x o e n)) (fun x xs e=>g3 _ _ (tu _ _ (G2 _ _ e))) (L.same L3.bk g3) gr (zux L3.hi (by omega)) ?_ nl2 zm pj oj rn ln
 cases e:H l2 with
 | none=>rfl
 | some o=>rw[aw l2 o e nl2] at hl2;cases hl2
theorem zhl (T:Txt P w K mg a)  : zy P w K mg base yq (k+1) a.VF a.VG Xq (zgR K):=by
 refine T.Xr.F.ok zen (fun vs H Q E h=>?_) (fun cdv A outer s H vs Q E hr h=>?_)
 ·obtain⟨ol,os,rfl,_⟩:=h
  rfl
 obtain⟨ol,os,rfl,hol,q⟩:=h
 refine⟨_,(zp (zV (zjx (Zx:=zx Vv) (js:=[0]) rfl (by show XJ (zx Vv) _ "mark" ["order"];exact⟨rfl,by decide +kernel,by decide +kernel,rfl,by decide +kernel,by decide +kernel,by decide +kernel⟩) rfl (zj2 xT) (by show ∀j∈([0]:List Nat),j<1;decide) (fun cl C s₂ H₂ fp=>(zP (zgF (K:=K) rfl) (pv 0) (pv 1) (by with_unfolding_all rfl))) (fun cl C s₂ H₂ fp=>(pv 0))))),?_⟩
 refine⟨_,rfl,by decide +kernel,?_⟩
 refine zl6 (x:=Str.ofString "abcd") (fun i ys H'=>H'=H/\ys=(((prs.take i).filter fun p=>os.contains p.1).map (·.1)).map V.str) ⟨rfl,rfl⟩ (by decide +kernel) ?_ ?_ ?_ (fun _ _ _ _ h ⟨v,e,q⟩=>⟨v,e,h _ _ q⟩) ?_
 ·rintro i ys H' ⟨rfl,rfl⟩
  have:=zuK (fun p:Str×Str=>os.contains p.1) (prs.take i)
  rw[zuz] at this
  rw[zuc,zuc]
  omega
 ·rintro i c ys H' hc ⟨rfl,rfl⟩
  have h4:i<4:=by
   have:=(Array.getElem?_eq_some_iff.mp hc).1
   have e:(Str.ofString "abcd").cps.size=4:=by decide +kernel
   omega
  have ec:c=97+i:=by
   match i,h4 with
   | 0,_=>exact(zuG (hc.symm.trans (by decide +kernel)))
   | 1,_=>exact(zuG (hc.symm.trans (by decide +kernel)))
   | 2,_=>exact(zuG (hc.symm.trans (by decide +kernel)))
   | 3,_=>exact(zuG (hc.symm.trans (by decide +kernel)))
  subst ec
  refine⟨_,rfl,_,rfl,ol,_,rfl,.inl hol,rfl,wD os,_,rfl,?_⟩
  rw[xK (zgQ h4),zuP]
  show if inV (.str (V4 i)) (os.map V.str)=true then _ else _
  rw[X3]
  cases e:os.contains (V4 i) with
  | true =>
   refine xH ⟨_,rfl,rfl,?_⟩
   rw[List.filter_cons,if_pos (show os.contains (V4 i,zbt i).1=true from e),zuq,zuq]
   rfl
  | false =>
   refine yD ⟨rfl,?_⟩
   rw[List.filter_cons,if_neg (by show ¬os.contains (V4 i)=true;rw[e];exact zug),List.filter_nil,List.append_nil]
 ·rintro σ' H' Q1 Q2 hQ ⟨v1,e1,v2,e2,p,xs,z1,z2,z3,z4,z5,z6,z7⟩
  exact⟨v1,e1,v2,e2,p,xs,z1,z2,z3,z4,z5,z6,hQ _ _ z7⟩
 rintro ys H' l ⟨rfl,rfl⟩ hl
 refine q l _ (Same.new hl _) hl ?_
 rw[zm]
 rfl
theorem zeG (T:Txt P w K mg a)(yt:zy P w K mg base yq k a.Zm a.Zn uT za8):zy P w K mg base yq (k+1) a.Ud a.Ue Y4 zh0:=by
 refine T.Ni.F.ok wu (fun vs H Q E h=>?_) (fun cdv A outer s H vs Q E hr h=>?_)
 ·obtain⟨c,rfl,_⟩:=h
  rfl
 obtain⟨c,rfl,q⟩:=h
 refine zpe ?_
 refine zff (fun σ H'=>Same H H'/\∃(f z:Nat) (f3 f4 f5 f6:Option V),(f,z)∈[(0,1),(0,2),(0,3),(1,1),(1,2),(1,3),(0,4)]/\σ=[some (.int c),some (.int (f:Nat)),some (.int (z:Nat)),f3,f4,f5,f6]) (fun t z=>(zf (zQ (i:=1) wu.nd rfl (Or.inl rfl) (zu yt hr T.yu (za (pv 0) (za zq (za zq zc)))))
   (zf (zQ (i:=2) wu.nd rfl (Or.inl rfl) (zW vP zq (zu yt hr T.yu (za (pv 0) (za zq (za zq zc))))))
   (zf (yZ (zP wW (zu yt hr T.yu (za (pv 0) (za zq (za zq zc)))) zq (yg _)) (zp (KZ (uN (za zq (za zq zc))) (Nk rfl (vZ (yS (i:=1) wu.nd rfl (Or.inl rfl)) (vZ (yS (i:=2) wu.nd rfl (Or.inl rfl)) Tp))))) yC)
   z)))) ?_ ?_
 ·rintro u hu σ H' ⟨rfl,rfl⟩
  refine⟨_,rfl,c,1,2,rfl,by decide,by decide,by decide,fun r1 a0 a1=>?_⟩
  refine⟨_,rfl,c,0,3,rfl,by decide,by decide,by decide,fun r2 b0 b1=>⟨1,r2,rfl,rfl,?_⟩⟩
  refine⟨_,rfl,c,12,8,rfl,by decide,by decide,by decide,fun r3 d0 d1=>⟨rfl,_,rfl,xQ (fun _=>?_) (fun _=>?_)⟩⟩
  ·refine⟨by show 2<=sizeLine;decide,fun t ht=>⟨t,_,rfl,vf.of zm,rfl,_,_,rfl,_,_,rfl,rfl,?_⟩⟩
   exact hu _ _ ⟨Same.new ht _,0,4,_,_,_,_,by decide,rfl⟩
  ·obtain⟨f,rfl⟩:∃f:Nat,r1=(f:Int):=⟨r1.toNat,by omega⟩
   obtain⟨z,rfl⟩:∃z:Nat,r2=(z:Int):=⟨r2.toNat,by omega⟩
   refine hu _ _ ⟨Same.refl _,f,1+z,none,none,none,none,?_,?_⟩
   ·have f2:f=0\/f=1:=by omega
    have z3:z=0\/z=1\/z=2:=by omega
    rcases f2 with rfl | rfl<;>rcases z3 with rfl | rfl | rfl<;>decide
   ·show [some (V.int c),some (V.int (f:Nat)),some (V.int (1+(z:Int))),none,none,none,none]=_
    rw[show(1+(z:Int))=((1+z:Nat):Int) by omega]
 refine zff (fun σ H'=>Same H H'/\∃(is:List Nat) (v1 v2:Option V) (f4 f5 f6:Option V),is.Nodup/\(∀i∈is,i<4)/\is≠[]/\is.length<=4/\σ=[some (.int c),v1,v2,some (.str (nmS is)),f4,f5,f6]) (fun t z=>(zf (zQ (i:=3) wu.nd rfl (Or.inl rfl) (Uq znP xT (Vj (pv 1)) (Vj (zW vP (pv 1) (pv 2)))))
   (zf (yZ (PW.pt (Nj (zP wW (pv 2) zq (yg _)) (Tg (zP wW (zu yt hr T.yu (za (pv 0) (za zq (za zq zc)))) zq (yg _))))) (zp (zQ (i:=3) wu.nd rfl (Or.inl rfl) (zW zgo (yO za0 (pv 3) zq (fun _ _=>rfl)) (yO za0 (pv 3) zq (fun _ _=>rfl))))) yC)
   z))) ?_ ?_
 ·rintro u hu σ H' ⟨g,f,z,f3,f4,f5,f6,hfz,rfl⟩
  have sl:Txt.slice (Str.ofString "abcd") (some ((f:Nat):Int)) (some (((f:Nat):Int)+((z:Nat):Int)))=nmS (List.range' f z):=by
   simp only[List.mem_cons,Prod.mk.injEq,zuC,or_false] at hfz
   rcases hfz with ⟨rfl,rfl⟩ | ⟨rfl,rfl⟩ | ⟨rfl,rfl⟩ | ⟨rfl,rfl⟩ | ⟨rfl,rfl⟩ | ⟨rfl,rfl⟩ | ⟨rfl,rfl⟩<;>decide +kernel
  have fz:0<z/\f+z<=4/\(z=3->f=0\/f=1):=by
   simp only[List.mem_cons,Prod.mk.injEq,zuC,or_false] at hfz
   omega
  refine⟨_,rfl,_,rfl,_,rfl,_,rfl,_,_,rfl,rfl,_,rfl,_,rfl,by show(Str.ofString "abcd").length<=sizeLine;decide,?_⟩
  rw[sl]
  have nd:(List.range' f z).Nodup:=List.nodup_range'
  have l4:∀i∈List.range' f z,i<4:=fun i hi=>by have:=List.mem_range'_1.mp hi;omega
  have ne:List.range' f z≠[]:=fun e=>by have:=congrArg List.length e;rw[List.length_range'] at this;have:z=0:=this;omega
  have go:u _ [some (.int c),some (.int (f:Nat)),some (.int (z:Nat)),some (.str (nmS (List.range' f z))),f4,f5,f6] H':=hu _ _ ⟨g,List.range' f z,_,_,_,_,_,nd,l4,ne,by rw[List.length_range'];omega,rfl⟩
  refine⟨_,rfl,rfl,_,rfl,xQ (fun c3=>?_) (fun _=>yD go)⟩
  have z3:z=3:=by
   have:=of_decide_eq_true c3
   injection this
   omega
  subst z3
  refine⟨_,rfl,c,14,3,rfl,by decide,by decide,by decide,fun r4 _ _=>⟨rfl,_,rfl,xQ (fun _=>?_) (fun _=>go)⟩⟩
  have e3:List.range' f 3=[f,f+1,f+2]:=rfl
  rw[e3]
  refine⟨_,rfl,_,_,_,rfl,rfl,by rw[Li];show 3<=sizeLine;decide,zgO (k:=0) rfl,_,rfl,_,_,_,rfl,rfl,by rw[Li];show 3<=sizeLine;decide,zgO (k:=2) rfl,_,_,rfl,rfl,by show 2<=sizeLine;decide,?_⟩
  refine hu _ _ ⟨g,[f,f+2],some (.int (f:Nat)),some (.int (3:Nat)),f4,f5,f6,?_,?_,List.cons_ne_nil _ _,by show 2<=4;decide,?_⟩
  ·rw[List.nodup_cons];exact⟨fun h=>by have:=List.mem_singleton.mp h;omega,by rw[List.nodup_cons];exact⟨zuC,List.nodup_nil⟩⟩
  ·intro i hi
   rcases List.mem_cons.mp hi with z | z
   ·omega
   ·have:=List.mem_singleton.mp z;omega
  ·have f01:=fz.2.2 rfl
   rcases f01 with rfl | rfl<;>rfl
 refine⟨_,(zf (zQ (i:=4) wu.nd rfl (Or.inl rfl) (xg zc))
   (zf (vO PassesOwn.never rfl (Um rfl T.VL (za (zR zdQ rfl T.wY xV (za (pv 3) zc)) zc)) (yS (i:=5) wu.nd rfl (Or.inl rfl)) (zf (zQ (i:=6) wu.nd rfl (Or.inl rfl) (yO za0 xT (Zw PySem.F.plainAttrs_str PySem.F.slot_str_index PySem.F.type_str_index ziF xT (za (yO za0 (pv 3) (pv 5) (fun _ _=>rfl)) zc)) (fun _ _=>rfl)))
   (zf (zX (Zw PySem.F.plainAttrs_list PySem.F.slot_list_insert PySem.F.type_list_insert zc7 (pv 4) (za (zW tD (zu yt hr T.yu (za (pv 0) (za (zW vP zq (zW Np zq (pv 5))) (za zq zc)))) (zW vP (zR zO rfl T.wY xV (za (pv 4) zc)) zq)) (za (yO za0 (pv 3) (pv 5) (fun _ _=>rfl)) zc))))
   (zp (zX (Zw PySem.F.plainAttrs_list PySem.F.slot_list_insert PySem.F.type_list_insert zc7 (pv 4) (za (zW tD (zu yt hr T.yu (za (pv 0) (za (zW vP zq (zW Np zq (pv 5))) (za zq zc)))) (zW vP (zR zO rfl T.wY xV (za (pv 4) zc)) zq)) (za (pv 6) zc))))))))
   (zp (zV (pv 4))))),?_⟩
 rintro σ H' ⟨g0,is,v1,v2,f4,f5,f6,nd,l4,ne,len,rfl⟩
 refine⟨by show 0<=sizeLine;decide,fun l hl=>?_⟩
 have fl:H l=none:=g0.free hl
 refine⟨_,rfl,_,rfl,by rw[Li];exact zuu (yI (by omega)),_,rfl,?_⟩
 rw[Li]
 refine⟨by omega,by omega,?_⟩
 rw[Int.toNat_natCast]
 refine Uo (fun i σ H'=>Same H H'/\∃(os:List Str) (f5 f6:Option V),H' l=some (.lst (os.map V.str))/\Mks (is.take i) os/\os.length=2*i/\σ=[some (.int c),v1,v2,some (.str (nmS is)),some (.ref l),f5,f6]) ⟨g0.trans (Same.new hl _),[],_,_,zm,⟨List.nodup_nil,fun x=>⟨(fun h=>by cases h),(fun⟨i,h,_⟩=>by cases h)⟩⟩,rfl,rfl⟩ ?_ ?_
 ·rintro i σ H' hi ⟨g,os,f5,f6,hl',mk,lo,rfl⟩
  obtain⟨j,hj⟩:∃j,is[i]?=some j:=⟨_,zud hi⟩
  have j4:=l4 j (zuh hj)
  obtain⟨rest,hx⟩:=zgP j4
  have t4:∀i'∈is.take i,i'<4:=fun i' h=>l4 i' (List.mem_of_mem_take h)
  have jn:j∉is.take i:=fun h=>by
   have e:=nd
   rw[<-List.take_append_drop i is] at e
   have z:=(List.nodup_append.mp e).2.2 j h j (by
    rw[List.drop_eq_getElem_cons hi]
    have:is[i]=j:=(zuf.mp hj).2
    rw[this];exact zuv)
   exact z rfl
  have e2:(0:Int)+(i:Nat)=((i:Nat):Int):=by omega
  have nam:atI (nmS is).cps.toList ((i:Nat):Int)=some (97+j):=zgO hj
  have nml:(nmS is).length<=sizeLine:=by rw[Li];exact zuu (yI (by omega))
  refine⟨rfl,_,rfl,_,rfl,_,_,_,rfl,congrArg V.int e2,nml,nam,_,_,j,rest,rfl,rfl,hx,_,_,_,rfl,rfl,by show(Str.ofString "efgh").length<=sizeLine;decide,zl7 j4,?_⟩
  have k1:V4 j∉os:=fun h=>jn ((mk.has t4 j4).1.mp h)
  have k2:zbt j∉os:=fun h=>jn ((mk.has t4 j4).2.mp h)
  have lmap:(os.map V.str).length=os.length:=zuc _
  refine⟨_,rfl,.inl ⟨rfl,_,zB.of hl'⟩,?_⟩
  refine⟨_,rfl,_,rfl,2,_,rfl,rfl,.inl ⟨by decide,by decide⟩,2,_,rfl,rfl,c,2+2*i,5040,?_,by omega,by decide,by decide,fun r1 a0 a1=>?_⟩
  ·show [V.int c,V.int (2+2*(0+(i:Int))),V.int 5040]=[V.int c,V.int ((2+2*i:Nat):Int),V.int 5040]
   rw[show(2+2*(0+(i:Int)))=((2+2*i:Nat):Int) by omega]
  refine⟨_,rfl,l,_,rfl,.inl (zB.of hl'),_,1,rfl,rfl,r1,_,rfl,rfl,by show(0:Int)<((os.map V.str).length:Int)+1;omega,?_⟩
  refine⟨_,rfl,_,rfl,_,_,_,rfl,congrArg V.int e2,nml,nam,?_⟩
  have m0:0<=r1%(((os.map V.str).length:Int)+1):=zuT _ (by omega)
  have m1:r1%(((os.map V.str).length:Int)+1)<((os.map V.str).length:Int)+1:=zuQ _ (by omega)
  generalize hj1:r1%(((os.map V.str).length:Int)+1)=j1 at m0 m1
  refine⟨l,os.map V.str,j1,_,rfl,by rw[<-hj1],hl',m0,by omega,by rw[lmap];exact yI (by omega),?_⟩
  have G1:Same H (upd H' l (.lst ((os.map V.str).take j1.toNat++V.str (⟨#[97+j]⟩:Str)::(os.map V.str).drop j1.toNat))):=g.over fl _
  have E1:upd H' l (.lst ((os.map V.str).take j1.toNat++V.str (⟨#[97+j]⟩:Str)::(os.map V.str).drop j1.toNat)) l=some (.lst ((os.take j1.toNat++V4 j::os.drop j1.toNat).map V.str)):=by
   rw[zm];simp;rfl
  have n1:(os.take j1.toNat++V4 j::os.drop j1.toNat).Nodup:=zdq mk.1 k1
  have l1:(os.take j1.toNat++V4 j::os.drop j1.toNat).length=os.length+1:=zhZ
  have x1:∀x,x∈os.take j1.toNat++V4 j::os.drop j1.toNat↔x=V4 j\/x∈os:=fun x=>mem_mid
  generalize upd H' l (.lst ((os.map V.str).take j1.toNat++V.str (⟨#[97+j]⟩:Str)::(os.map V.str).drop j1.toNat))=H1 at G1 E1
  generalize os.take j1.toNat++V4 j::os.drop j1.toNat=o1 at E1 n1 l1 x1
  have lm1:(o1.map V.str).length=o1.length:=zuc _
  refine⟨_,rfl,.inl ⟨rfl,_,zB.of E1⟩,?_⟩
  refine⟨_,rfl,_,rfl,2,_,rfl,rfl,.inl ⟨by decide,by decide⟩,3,_,rfl,rfl,c,3+2*i,5040,?_,by omega,by decide,by decide,fun r2 b0 b1=>?_⟩
  ·show [V.int c,V.int (3+2*(0+(i:Int))),V.int 5040]=[V.int c,V.int ((3+2*i:Nat):Int),V.int 5040]
   rw[show(3+2*(0+(i:Int)))=((3+2*i:Nat):Int) by omega]
  refine⟨_,rfl,l,_,rfl,.inl (zB.of E1),_,1,rfl,rfl,r2,_,rfl,rfl,by show(0:Int)<((o1.map V.str).length:Int)+1;omega,_,rfl,?_⟩
  have m2:0<=r2%(((o1.map V.str).length:Int)+1):=zuT _ (by omega)
  have m3:r2%(((o1.map V.str).length:Int)+1)<((o1.map V.str).length:Int)+1:=zuQ _ (by omega)
  generalize hj2:r2%(((o1.map V.str).length:Int)+1)=j2 at m2 m3
  refine⟨l,o1.map V.str,j2,_,rfl,by rw[<-hj2],E1,m2,by omega,by rw[lm1];exact yI (by omega),?_⟩
  refine⟨G1.over fl _,o1.take j2.toNat++zbt j::o1.drop j2.toNat,_,_,?_,⟨?_,fun x=>?_⟩,?_,rfl⟩
  ·rw[zm];simp;rfl
  ·exact zdq n1 fun h=>((x1 _).mp h).elim (fun e=>T3 j4 e.symm) k2
  ·rw[mem_mid,x1,mk.2,xK hj]
   constructor
   ·rintro (e | e | ⟨i',hi',e⟩)
    ·exact⟨j,zut _ (List.mem_singleton.mpr rfl),.inr e⟩
    ·exact⟨j,zut _ (List.mem_singleton.mpr rfl),.inl e⟩
    ·exact⟨i',List.mem_append_left _ hi',e⟩
   ·rintro⟨i',hi',e⟩
    rcases List.mem_append.mp hi' with z | z
    ·exact .inr (.inr ⟨i',z,e⟩)
    ·rw[List.mem_singleton.mp z] at e
     rcases e with e | e
     ·exact .inr (.inl e)
     ·exact .inl e
  ·rw[zhZ,l1];omega
 ·rintro σ H' ⟨g,os,f5,f6,hl',mk,lo,rfl⟩
  rw[zuE] at mk
  obtain⟨w1,w2,w3⟩:=mk.world l4 ne
  exact⟨_,rfl,q l H' os g hl' w1 w2 w3⟩
theorem zcD (T:Txt P w K mg a)(wC:zy P w K mg base yq k a.wL a.wM wA (zaI K))(Zv:zy P w K mg base yq k a.Zo a.Zq uz (Nv K))(zcE:zy P w K mg base yq k a.Ud a.Ue Y4 zh0):zy P w K mg base yq (k+1) a.SJ a.SM Wf (zkd K):=by
 refine T.Kw.F.ok V6 (fun vs H Q E h=>?_) (fun cdv A outer s H vs Q E hr h=>?_)
 ·obtain⟨sc,ns,rfl,_⟩:=h
  rfl
 obtain⟨sc,ns,rfl,hS,q⟩:=h
 refine⟨_,(zf (zQ (i:=1) V6.nd rfl (Or.inl rfl) (zu zcE hr T.Ni (za (zu wC hr T.wB (za (pv 0) (za zq zc))) zc)))
   (zf (zQ (i:=2) V6.nd rfl (Or.inl rfl) (zu Zv hr T.Zu (za (pv 0) (za zq (za (zW vP zq (zW tD (zu wC hr T.wB (za (pv 0) (za zq zc))) zq)) (za (pv 1) zc))))))
   (zp (zV (uN (za (pv 1) (za (pv 2) zc))))))),?_⟩
 refine⟨_,rfl,sc,ns,0,rfl,hS,uK ns 0,rfl,fun ol H1 os g1 hol ho hW hn=>?_⟩
 have o8:=ho.le
 have m0:0<=uK ns 1%6:=zuT _ (by decide)
 have m1:uK ns 1%6<6:=zuQ _ (by decide)
 have em:(2:Int)+uK ns 1%6=(((2+uK ns 1%6).toNat:Nat):Int):=by omega
 have hS1:=g1.seq hS
 refine⟨_,rfl,_,rfl,sc,ns,1,rfl,hS1,uK ns 1,6,rfl,rfl,(show(0:Int)<6 by decide),2,_,rfl,rfl,_,rfl,sc,ol,ns,2,(2+uK ns 1%6).toNat,os,?_,hS1,zB.of hol,ho.pos,o8,by omega,by omega,by decide,fun p1 H2 s1 g2 is1 in1 d1=>?_⟩
 ·show [V.ref sc,V.int 2,V.int (2+uK ns 1%6),V.ref ol]=_
  rw[em];rfl
 have zrr:s1.count<=200:=by
  have h3:=Sn.RT s1
  have h4:2^s1.depth<=2^7:=zuH (by decide) (by omega)
  have h5:2^7=128:=rfl
  omega
 refine⟨_,rfl,_,rfl,by show 2<=sizeLine;decide,fun t ht=>?_⟩
 have g4:=Same.new ht (.tup [.ref ol,.ref p1])
 exact q t ol p1 _ os s1 (g1.trans (g2.trans g4)) zm (g4 _ _ (g2 _ _ hol)) ho hW hn (zaf.mono ⟨is1,in1,zrr,by omega⟩ (wz.of g4))
theorem zhm (T:Txt P w K mg a)(zA:zy P w K mg base yq k a.zL a.zM zH (uP a.zj K))(vK:zy P w K mg base yq k a.uD a.uE vI (Zy a.zj))(yE:zy P w K mg base yq k a.xO a.xP yV (vq a.zj 9)):zy P w K mg base yq (k+1) a.QS a.QT UJ (ziJ a.zj):=by
 refine T.Js.F.ok zbM (fun vs H Q E h=>?_) (fun cdv A outer s H vs Q E hr h=>?_)
 ·obtain⟨b,os,rs,F,k0,j,rfl,_⟩:=h
  rfl
 obtain⟨b,os,rs,F,k0,j,rfl,hB,hlen,hW,hk,hN,q⟩:=h
 refine⟨_,(zf (zX (zu zA hr T.zN (za (pv 0) (za (pv 1) (za (xg (za (pv 2) zc)) zc)))))
   (zp (zV (xu (pv 0) T.yr T.xY yE hr (za (zR (zjB rfl) rfl T.zpC znC (za (zu vK hr T.Zb (za (pv 0) (za (pv 1) (za (pv 2) zc)))) zc)) zc))))),?_⟩
 have L:=z9 a.zj
 have Vi:=hB
 obtain⟨dx,ml,rl,tl,nd,rv,ts,kvs,h⟩:=hB
 refine⟨_,rfl,_,rfl,_,rfl,by show 1<=sizeLine;decide,fun l0 hl0=>?_⟩
 have g0:=Same.new hl0 (.lst [.int (j:Nat)])
 refine⟨b,l0,os,rs,F,k0,[j],rfl,L.same Vi g0,hW,hk,zB.of zm,fun j' hj'=>by rw[List.mem_singleton.mp hj'];exact hN,fun H1 g1=>?_⟩
 have G1:=g0.trans g1
 have Yu:=L.same Vi G1
 have b1:=G1 _ _ h.hb
 refine⟨_,rfl,b,dx,_,rfl,b1,rfl,_,rfl,_,rfl,_,rfl,b,os,rs,F,k0,j,rfl,Yu,hW,hk,hN.1,fun l H2 Ns g2 fl hl rn ln=>?_⟩
 refine⟨l,Ns.map (fun p=>((p:Nat):Int)),rfl,by rw[<-ziI];exact zB.of hl,?_⟩
 rw[zdu]
 exact Yg (G1.trans g2) (L.same Yu g2) hlen rn.sum (fun r=>rfl) (q Ns rn ln)
theorem zkY (T:Txt P w K mg a)(zA:zy P w K mg base yq k a.zL a.zM zH (uP a.zj K))(zT:zy P w K mg base yq k a.yJ a.yK yF (vB a.zj))(U9:zy P w K mg base yq k a.Qg a.Qh Uy (Lg a.zj))(yE:zy P w K mg base yq k a.xO a.xP yV (vq a.zj 9)):zy P w K mg base yq (k+1) a.zaO a.zaP Kc (zme a.zj):=by
 refine T.zeu.F.ok UL (fun vs H Q E h=>?_) (fun cdv A outer s H vs Q E hr h=>?_)
 ·obtain⟨b,os,rs,F,k0,j,rfl,_⟩:=h
  rfl
 obtain⟨b,os,rs,F,k0,j,rfl,hB,hlen,hW,hk,hN,q⟩:=h
 refine⟨_,(zf (zX (zu zA hr T.zN (za (pv 0) (za (pv 1) (za (xg (za (pv 2) zc)) zc)))))
   (zf (zQ (i:=3) UL.nd rfl (Or.inl rfl) (xu (pv 0) T.yr T.yR zT hr (za (pv 2) zc)))
   (zf (zQ (i:=4) UL.nd rfl (Or.inl rfl) (zW zgm (pv 3) (zu U9 hr T.Qp (za (pv 0) (za (pv 1) (za (pv 3) zc))))))
   (zf (Rx PassesOwn.never (zP Pn (pv 4) (pv 3) (yg _)) (zf (zQ (i:=3) UL.nd rfl (Or.inl rfl) (pv 4))
   (zp (zQ (i:=4) UL.nd rfl (Or.inl rfl) (zW zgm (pv 3) (zu U9 hr T.Qp (za (pv 0) (za (pv 1) (za (pv 3) zc)))))))))
   (zp (zV (xu (pv 0) T.yr T.xY yE hr (za (pv 3) zc)))))))),?_⟩
 have L:=z9 a.zj
 have Vi:=hB
 have ho:=L.ord hB
 obtain⟨dx,ml,rl,tl,nd,rv,ts,kvs,h⟩:=hB
 refine⟨_,rfl,_,rfl,_,rfl,by show 1<=sizeLine;decide,fun l0 hl0=>?_⟩
 have g0:=Same.new hl0 (.lst [.int (j:Nat)])
 refine⟨b,l0,os,rs,F,k0,[j],rfl,L.same Vi g0,hW,hk,zB.of zm,fun j' hj'=>by rw[List.mem_singleton.mp hj'];exact hN,fun H1 g1=>?_⟩
 have G1:=g0.trans g1
 have Yu:=L.same Vi G1
 have b1:=G1 _ _ h.hb
 refine⟨_,rfl,b,dx,_,rfl,b1,rfl,_,rfl,b,os,rs,F,j,rfl,Yu,hN.1,fun N tN=>?_⟩
 refine⟨_,rfl,_,rfl,_,rfl,_,rfl,b,os,rs,F,k0,N,_,rfl,Yu,hk,hW,tN,fun R H2 g2 tr=>⟨N,R,rfl,rfl,?_⟩⟩
 refine⟨fun m σ H'=>∃(cur nxt:Nat) (f:Nat->Bool),m=((List.range (2^os.length)).filter f).length/\Same H H'/\z8 os.length cur f/\z8 os.length nxt (fun c=>f c&&TY os (tB rs k0) f c)/\(∀c,c<2^os.length->f c=true->tB rs j c=true)/\(∀p∈yp os,vp.Free os.length f p)/\(∀h:Nat->Bool,(∀c,c<2^os.length->h c=true->tB rs j c=true/\TY os (tB rs k0) h c=true)->∀c,c<2^os.length->h c=true->f c=true)/\σ=[some (.ref b),some (.int (k0:Nat)),some (.int (j:Nat)),some (.int (cur:Nat)),some (.int (nxt:Nat))],⟨_,N,N&&&R,tB rs j,rfl,G1.trans g2,tN,Ln tN tr,(fun _ _ e=>e),hN.2,(fun h hh c hc e=>(hh c hc e).1),rfl⟩,?_⟩
 rintro m σ H' ⟨cur,nxt,f,rfl,g,tc,tn,sub,fre,top,rfl⟩
 refine⟨_,rfl,_,rfl,rfl,_,rfl,?_⟩
 by_cases c0:nxt=cur
 ·subst c0
  refine wQ rfl ?_
  refine⟨_,rfl,b,dx,_,rfl,g _ _ h.hb,rfl,_,rfl,?_⟩
  exact Yg g (L.same Vi g) hlen tc (fun r=>rfl) (q f ⟨sub,fun c hc e=>by
   have z:=znR tc tn hc
   rw[e,Bool.true_and] at z
   exact z.symm,fre,top⟩)
 ·show if (!decide (V.int (nxt:Nat)=V.int (cur:Nat)))=true then _ else _
  rw[decide_eq_false (fun e=>c0 (by injection e;omega))]
  refine xH ⟨_,fun σ' H2 h=>h,?_⟩
  have hB':=L.same Vi g
  refine⟨_,rfl,_,rfl,_,rfl,_,rfl,_,rfl,b,os,rs,F,k0,nxt,_,rfl,hB',hk,hW,tn,fun R2 H3 g3 tr2=>⟨nxt,R2,rfl,rfl,?_⟩⟩
  refine⟨((List.range (2^os.length)).filter (fun c=>f c&&TY os (tB rs k0) f c)).length,?_,nxt,nxt&&&R2,_,rfl,g.trans g3,tn,Ln tn tr2,fun c hc e=>sub c hc ((zuD _ _).mp e).1,fun p hp c hc v=>?_,fun hh hy c hc e=>?_,rfl⟩
  ·obtain⟨c,hc,ne⟩:=zmd tn tc c0
   refine zaJ (fun x e=>((zuD _ _).mp e).1) ⟨c,List.mem_range.mpr hc,?_⟩
   cases e1:f c with
   | false=>rw[e1] at ne;exact absurd rfl ne
   | true =>
    refine⟨rfl,?_⟩
    rw[e1] at ne
    cases e2:(true&&TY os (tB rs k0) f c) with
    | false=>rfl
    | true=>rw[e2] at ne;exact absurd rfl ne
  ·show(f (zU c p v)&&TY os (tB rs k0) f (zU c p v))=(f c&&TY os (tB rs k0) f c)
   rw[fre p hp c hc v,zko _ _ p hp c hc v]
  ·refine(zuD _ _).mpr ⟨top hh hy c hc e,?_⟩
   exact bef_mono' ho hW hc (fun d hd e=>top hh hy d hd e) (hy c hc e).2
theorem zar (T:Txt P w K mg a)(uG:zy P w K mg base yq k a.Wo a.Wq YB RQ):zy P w K mg base yq (k+1) a.W3 a.W4 Yj (Px K):=by
 refine T.Ql.F.ok vU (fun vs H Q E h=>?_) (fun cdv A outer s H vs Q E hr h=>?_)
 ·obtain⟨N,n,f,pl,ps,rfl,_⟩:=h
  rfl
 obtain⟨N,n,f,pl,ps,rfl,hn,tb,hpl,hps,zsr,q⟩:=h
 refine⟨_,(zf (zQ (i:=3) vU.nd rfl (Or.inl rfl) (xg zc))
   (zf (vO PassesOwn.never rfl (vg (pv 1)) (yS (i:=4) vU.nd rfl (Or.inl rfl)) (zf (zQ (i:=5) vU.nd rfl (Or.inl rfl) (zu uG hr T.YJ (za (pv 0) (za (pv 4) (za zq (za (pv 2) zc))))))
   (zf (zQ (i:=6) vU.nd rfl (Or.inl rfl) (Mr (zP Pn (pv 5) zq (yg _)) zq zq))
   (zf (zQ (i:=0) vU.nd rfl (Or.inl rfl) (zu uG hr T.YJ (za (pv 0) (za (pv 4) (za (pv 6) (za (pv 2) zc))))))
   (zp (zX (Zw PySem.F.plainAttrs_list PySem.F.slot_list_append PySem.F.type_list_append vQ (pv 3) (za (pv 6) zc))))))))
   (zp (zV (pv 3))))),?_⟩
 refine⟨by show 0<=sizeLine;decide,fun l hl=>?_⟩
 have g0:=Same.new hl (.lst [])
 refine⟨_,rfl,pl,rfl,⟨_,g0.seq hpl⟩,?_⟩
 refine tO (xs:=ps.map fun p=>V.int (p:Nat)) (fun i σ H'=>∃(M:Nat) (g:Nat->Bool) (r:List Bool) (f4 f5 f6:Option V),Same H H'/\H' l=some (.lst (M6 r))/\z8 n M g/\r.length=i/\vp.fvP n f ps=r++vp.fvP n g (ps.drop i)/\σ=[some (.int M),some (.ref pl),some (.int n),some (.ref l),f4,f5,f6])
  ⟨N,f,[],_,_,_,g0,zm,tb,rfl,rfl,rfl⟩ ?_ ?_ ?_
 ·rintro i σ H' _ ⟨M,g,r,f4,f5,f6,gg,_⟩
  exact gg.seq hpl
 ·rintro i x σ H' hx ⟨M,g,r,f4,f5,f6,gg,hL,tg,hr',e,rfl⟩
  rw[zue] at hx
  cases hp:ps[i]? with
  | none=>rw[hp] at hx;cases hx
  | some p =>
   rw[hp] at hx
   cases hx
   have hpn:=hps p (zuh hp)
   obtain⟨lt,e'⟩:=zuf.mp hp
   rw[List.drop_eq_getElem_cons lt,e'] at e
   refine⟨_,rfl,_,rfl,_,rfl,M,p,n,false,g,rfl,hpn,hn,tg,fun R tr=>?_⟩
   have tz:=vp.M5 tr
   refine⟨_,rfl,rfl,_,rfl,?_⟩
   have ee:(!decide (V.int (R:Nat)=V.int 0))=vp.anyB n fun b=>g (zU b p false):=by
    cases hz:vp.anyB n fun b=>g (zU b p false) with
    | true =>
     rw[hz] at tz
     rw[decide_eq_false fun z=>by injection z with z;exact absurd (decide_eq_true (show R=0 by omega)) (by rw[tz];exact zug)]
     rfl
    | false =>
     rw[hz] at tz
     have z:R=0:=of_decide_eq_true tz
     subst z
     rfl
   rw[ee]
   cases hz:vp.anyB n fun b=>g (zU b p false) with
   | true =>
    refine xQ (fun _=>?_) (fun c=>absurd rfl c)
    refine⟨_,rfl,_,rfl,_,rfl,_,rfl,M,p,n,false,g,rfl,hpn,hn,tg,fun R2 t2=>?_⟩
    refine⟨_,rfl,.inl ⟨rfl,_,zB.of hL⟩,_,rfl,l,_,_,rfl,rfl,hL,?_,?_⟩
    ·unfold M6;rw[zuc,hr'];exact yI (by omega)
    ·refine⟨R2,_,r++[false],_,_,_,gg.over hl _,by rw[zm];unfold M6;rw[zuq];rfl,t2,by rw[zuk,hr'];rfl,?_,rfl⟩
     rw[e,List.append_assoc]
     show r++(_::_)=r++([false]++_)
     rw[hz]
     rfl
   | false =>
    refine xQ (fun c=>absurd c zug) (fun _=>?_)
    refine⟨_,rfl,_,rfl,_,rfl,_,rfl,M,p,n,true,g,rfl,hpn,hn,tg,fun R2 t2=>?_⟩
    refine⟨_,rfl,.inl ⟨rfl,_,zB.of hL⟩,_,rfl,l,_,_,rfl,rfl,hL,?_,?_⟩
    ·unfold M6;rw[zuc,hr'];exact yI (by omega)
    ·refine⟨R2,_,r++[true],_,_,_,gg.over hl _,by rw[zm];unfold M6;rw[zuq];rfl,t2,by rw[zuk,hr'];rfl,?_,rfl⟩
     rw[e,List.append_assoc]
     show r++(_::_)=r++([true]++_)
     rw[hz]
     rfl
 ·rintro σ H' ⟨M,g,r,f4,f5,f6,gg,hL,tg,hr',e,rfl⟩
  rw[zuc,List.drop_length] at e
  have e1:vp.fvP n f ps=r:=by rw[e];exact List.append_nil _
  refine⟨_,rfl,q l H' gg hl ?_⟩
  rw[e1]
  exact hL
theorem zb2 (T:Txt P w K mg a)(vJ:zy P w K mg base yq k a.ZQ a.ZR tW Wj)(wO:zy P w K mg base yq k a.v9 a.uc vA tQ)(U8:zy P w K mg base yq k a.Wr a.Ws YD Uu):zy P w K mg base yq (k+1) a.V7 a.V8 YS (Lp K):=by
 refine T.Nf.F.ok ur (fun vs H Q E h=>?_) (fun cdv A outer s H vs Q E hr h=>?_)
 ·obtain⟨pl,rl,n,ps,r,rfl,_⟩:=h
  rfl
 obtain⟨pl,rl,n,ps,r,rfl,n8,hl,hm,hp,el,l8,q⟩:=h
 refine⟨_,(zf (zQ (i:=3) ur.nd rfl (Or.inl rfl) (zu vJ hr T.Z0 (za (pv 2) zc)))
   (zf (vO PassesOwn.never rfl (zj5 rfl T.zm2 (za (pv 0) (za (pv 1) zc))) (Nk rfl (vZ (yS (i:=4) ur.nd rfl (Or.inl rfl)) (vZ (yS (i:=5) ur.nd rfl (Or.inl rfl)) Tp))) (zf (zQ (i:=6) ur.nd rfl (Or.inl rfl) (zu wO hr T.Z7 (za (pv 4) (za (pv 2) zc))))
   (zp (zQ (i:=3) ur.nd rfl (Or.inl rfl) (Mr (zP wW (pv 5) zq (yg _)) (zW tH (pv 3) (pv 6)) (zu U8 hr T.QV (za (pv 3) (za (pv 6) zc))))))))
   (zp (zV (pv 3))))),?_⟩
 refine⟨_,rfl,n,rfl,n8,?_⟩
 refine⟨_,rfl,_,rfl,pl,rl,wg ps,M6 r,rfl,hl,hm,?_⟩
 have e1:(wg ps).length=ps.length:=zuc _
 have e2:(M6 r).length=r.length:=zuc _
 refine zhW (xs:=wg ps) (ys:=M6 r) (by omega) (fun i σ H'=>Same H H'/\∃(M:Nat) (f4 f5 f6:Option V),z8 n M (hav ((ps.zip r).take i))/\σ=[some (.ref pl),some (.ref rl),some (.int (n:Nat)),some (.int (M:Nat)),f4,f5,f6]) ⟨Same.refl _,_,_,_,_,M4 n,rfl⟩ ?_ ?_ ?_
 ·rintro i σ H' _ ⟨g,_⟩
  exact⟨g.seq hl,g.seq hm⟩
 ·rintro i x y σ H' t hx hy ⟨g,M,f4,f5,f6,tm,rfl⟩ ht
  unfold wg at hx
  unfold M6 at hy
  rw[zue] at hx hy
  cases hj:ps[i]? with
  | none=>rw[hj] at hx;cases hx
  | some p =>
   rw[hj] at hx
   cases hx
   cases hk:r[i]? with
   | none=>rw[hk] at hy;cases hy
   | some v =>
    rw[hk] at hy
    cases hy
    have hz:(ps.zip r)[i]?=some (p,v):=List.getElem?_zip_eq_some.mpr ⟨hj,hk⟩
    have pn:=hp p (zuh hj)
    have nx:hav ((ps.zip r).take (i+1))=fun b=>hav ((ps.zip r).take i) b&&(b.testBit p==v):=funext fun b=>by
     rw[xK hz]
     unfold hav
     rw[List.all_append]
     simp
    refine⟨t,_,rfl,vf.of zm,rfl,_,_,rfl,_,_,rfl,rfl,?_⟩
    refine⟨_,rfl,_,rfl,p,n,rfl,pn,n8,fun W tw=>?_⟩
    refine⟨_,rfl,rfl,_,rfl,?_⟩
    cases v with
    | true =>
     refine xH ⟨_,rfl,_,rfl,M,W,rfl,rfl,g.trans (Same.new ht _),_,_,_,_,?_,rfl⟩
     rw[nx]
     have e:(fun b=>hav ((ps.zip r).take i) b&&(b.testBit p==true))=fun b=>hav ((ps.zip r).take i) b&&b.testBit p:=funext fun b=>by simp
     rw[e]
     exact Ln tm tw
    | false =>
     refine yD ⟨_,rfl,_,rfl,M,W,n,_,_,rfl,tm,tw,fun R tr=>⟨g.trans (Same.new ht _),R,_,_,_,?_,rfl⟩⟩
     rw[nx]
     have e:(fun b=>hav ((ps.zip r).take i) b&&(b.testBit p==false))=fun b=>hav ((ps.zip r).take i) b&&!b.testBit p:=funext fun b=>by cases b.testBit p<;>rfl
     rw[e]
     exact tr
 ·rintro σ H' ⟨g,M,f4,f5,f6,tm,rfl⟩
  have el:(ps.zip r).length=(wg ps).length:=by rw[List.length_zip,e1];omega
  rw[<-el,zuE] at tm
  exact⟨_,rfl,q M H' g tm⟩
theorem zas (T:Txt P w K mg a)(zb3:zy P w K mg base yq k a.W3 a.W4 Yj (Px K))(ud:zy P w K mg base yq k a.Zj a.Zk uR (Xk a.zj))(zZ:zy P w K mg base yq k a.xq a.xr yU (wk (yh a.zj))):zy P w K mg base yq (k+1) a.W7 a.W8 Yk (zbw a.zj):=by
 refine T.Vb.F.ok zai (fun vs H Q E h=>?_) (fun cdv A outer s H vs Q E hr h=>?_)
 ·obtain⟨b,os,rs,F,N,f,rfl,_⟩:=h
  rfl
 obtain⟨b,os,rs,F,N,f,rfl,hB,tf,q⟩:=h
 refine⟨_,(zp (zV (zu zb3 hr T.Ql (za (pv 1) (za (zu ud hr T.Zr (za (pv 0) zc)) (za (zR zO rfl T.wY xV (za (uW (pv 0) T.yr T.xX zZ hr) zc)) zc)))))),?_⟩
 have L:=z9 a.zj
 have o8:=(L.ord hB).le
 have lo5:(os.map V.str).length=os.length:=zuc _
 have l4:(xG os).length<=8:=by unfold xG;rw[zuc];have:=RV os;omega
 have Vi:=hB
 obtain⟨dx,ml,rl,tl,nd,rv,ts,kvs,h⟩:=hB
 refine⟨_,rfl,_,rfl,b,os,rs,F,rfl,Vi,fun l1 H1 g1 fl1 hl1=>?_⟩
 have Yu:=L.same Vi g1
 refine⟨_,rfl,b,dx,_,rfl,g1 _ _ h.hb,rfl,b,os,rs,F,rfl,Yu,fun l2 H2 g2 K8 hl2=>?_⟩
 refine⟨l2,_,rfl,.inl (zB.of hl2),?_⟩
 rw[lo5]
 refine⟨N,os.length,f,l1,xG os,rfl,o8,tf,zB.of (g2 _ _ hl1),X4,by omega,fun l H' g3 fl hl=>?_⟩
 exact q l H' (g1.trans (g2.trans g3)) (g1.free (g2.free fl)) hl
theorem zmB (T:Txt P w K mg a)(zcF:zy P w K mg base yq k a.V7 a.V8 YS (Lp K))(ud:zy P w K mg base yq k a.Zj a.Zk uR (Xk a.zj))(zZ:zy P w K mg base yq k a.xq a.xr yU (wk (yh a.zj))):zy P w K mg base yq (k+1) a.zeo a.zep zbN (zks a.zj K):=by
 refine T.zg8.F.ok zms (fun vs H Q E h=>?_) (fun cdv A outer s H vs Q E hr h=>?_)
 ·obtain⟨b,rl,os,rs,F,r,rfl,_⟩:=h
  rfl
 obtain⟨b,rl,os,rs,F,r,rfl,hB,hr',lr,q⟩:=h
 refine⟨_,(zp (zV (zu zcF hr T.Nf (za (zu ud hr T.Zr (za (pv 0) zc)) (za (pv 1) (za (zR zO rfl T.wY xV (za (uW (pv 0) T.yr T.xX zZ hr) zc)) zc)))))),?_⟩
 have L:=z9 a.zj
 have o8:=(L.ord hB).le
 have lo5:(os.map V.str).length=os.length:=zuc _
 have l4:(xG os).length<=8:=by unfold xG;rw[zuc];have:=RV os;omega
 have Vi:=hB
 obtain⟨dx,ml,rl',tl,nd,rv,ts,kvs,h⟩:=hB
 refine⟨_,rfl,b,os,rs,F,rfl,Vi,fun l1 H1 g1 fl1 hl1=>?_⟩
 have Yu:=L.same Vi g1
 refine⟨_,rfl,_,rfl,b,dx,_,rfl,g1 _ _ h.hb,rfl,b,os,rs,F,rfl,Yu,fun l2 H2 g2 K8 hl2=>?_⟩
 refine⟨l2,_,rfl,.inl (zB.of hl2),?_⟩
 rw[lo5]
 refine⟨l1,rl,os.length,xG os,r,rfl,o8,zB.of (g2 _ _ hl1),(g1.trans g2).seq hr',X4,lr,l4,fun R H' g3 tr=>?_⟩
 exact q R H' (g1.trans (g2.trans g3)) tr
theorem zb4 (T:Txt P w K mg a)(Qu:zy P w K mg base yq k a.W7 a.W8 Yk (zbw a.zj))(U9:zy P w K mg base yq k a.Qg a.Qh Uy (Lg a.zj))(zhn:zy P w K mg base yq k a.zeo a.zep zbN (zks a.zj K)):zy P w K mg base yq (k+1) a.Ub a.Uc Y0 (Lq a.zj K):=by
 refine T.Nh.F.ok WX (fun vs H Q E h=>?_) (fun cdv A outer s H vs Q E hr h=>?_)
 ·obtain⟨b,al,os,rs,F,k0,N,Ns,f,fs,rfl,_⟩:=h
  rfl
 obtain⟨b,al,os,rs,F,k0,N,Ns,f,fs,rfl,hB,hW,hk,hal,ln,pf,tf,q⟩:=h
 refine⟨_,(zf (zQ (i:=4) WX.nd rfl (Or.inl rfl) (xg (za (zu Qu hr T.Vb (za (pv 0) (za (pv 3) zc))) zc)))
   (zf (vO PassesOwn.never rfl (znS rfl T.zbW (za (pv 2) zc)) (yS (i:=5) WX.nd rfl (Or.inl rfl)) (zp (zX (Zw PySem.F.plainAttrs_list PySem.F.slot_list_append PySem.F.type_list_append vQ (pv 4) (za (zu Qu hr T.Vb (za (pv 0) (za (zW tH (pv 5) (zu U9 hr T.Qp (za (pv 0) (za (pv 1) (za (zu zhn hr T.zg8 (za (pv 0) (za (yO yP (pv 4) (zcV K1 zq) (fun _ _=>rfl)) zc))) zc))))) zc))) zc)))))
   (zp (zV (zgV rfl rfl T.zhb rfl T.zbW (za (pv 4) zc)))))),?_⟩
 have L:=z9 a.zj
 have lf:=ZP pf
 refine⟨_,rfl,_,rfl,b,os,rs,F,N,f,rfl,hB,tf,fun l0 H1 g1 fl0 hl0=>⟨by show 1<=sizeLine;decide,fun rl hrl=>?_⟩⟩
 have j1:=Same.new hrl (.lst [V.ref l0])
 have e1:upd H1 rl (.lst [V.ref l0]) rl=some (.lst (([]++[l0]).map V.ref)):=zm
 have hl0':=j1 _ _ hl0
 have fr:=g1.free hrl
 have ne0:l0≠rl:=fun e=>by rw[e,hrl] at hl0;cases hl0
 generalize upd H1 rl (.lst [V.ref l0])=H2 at j1 e1 hl0'
 have g2:=g1.trans j1
 refine⟨_,rfl,al,wg Ns,rfl,g2.seq hal,?_⟩
 refine zmf (xs:=wg Ns) (fun i σ H'=>∃(q0:List Addr) (p:Addr) (w0:List (List Bool)) (r:List Bool) (f5:Option V),Same H H'/\H' rl=some (.lst ((q0++[p]).map V.ref))/\q0.length=i/\Paired (zch H') q0 w0/\zch H' p r/\(xG os).length=r.length/\(∀y∈q0++[p],H y=none)/\zkq os (tB rs k0) fs.reverse (vp.fvP os.length f (xG os))=w0++zkq os (tB rs k0) (fs.reverse.drop i) r/\σ=[some (.ref b),some (.int (k0:Nat)),some (.ref al),some (.int (N:Nat)),some (.ref rl),f5])
  ⟨[],l0,[],_,_,g2,e1,rfl,.nil,hl0',(zea _ _ _).symm,(fun y hy=>by rw[List.nil_append,List.mem_singleton] at hy;rw[hy];exact fl0),rfl,rfl⟩ ?_ ?_ ?_
 ·rintro i σ H' _ ⟨q0,p,w0,r,f5,g,_⟩
  exact g.seq hal
 ·rintro i x σ H' hi hx ⟨q0,p,w0,r,f5,g,hr',lq,pq,pr,lr,fq,ew,rfl⟩
  rw[wJ] at hi hx
  obtain⟨M,hM,rfl⟩:=Jj hx
  obtain⟨fm,hfm,tm⟩:=zmP pf hM
  have hfr:fs.reverse[i]?=some fm:=by
   rw[List.getElem?_reverse (by omega),<-lf]
   exact hfm
  obtain⟨lt,efm⟩:=zuf.mp hfr
  have hB':=L.same hB g
  refine⟨_,rfl,.inl ⟨rfl,_,zB.of hr'⟩,?_⟩
  refine⟨_,rfl,_,rfl,_,rfl,_,rfl,_,rfl,_,rfl,_,rfl,rl,_,-1,_,rfl,rfl,zB.of hr',by rw[zuq];exact zjn _ _,?_⟩
  refine⟨b,p,os,rs,F,r,rfl,hB',zB.of pr,lr,fun R H3 g3 tR=>?_⟩
  have hB3:=L.same hB' g3
  refine⟨b,os,rs,F,k0,R,_,rfl,hB3,hk,hW,tR,fun R2 H4 g4 tR2=>⟨M,R2,rfl,rfl,?_⟩⟩
  have Xh:=L.same hB3 g4
  refine⟨b,os,rs,F,_,_,rfl,Xh,Ln tm tR2,fun l5 H5 g5 fl5 hl5=>?_⟩
  have G5:=g3.trans (g4.trans g5)
  have hr5:=G5 _ _ hr'
  have lq2:(q0++[p]).length=i+1:=by rw[zuk,lq];rfl
  refine⟨rl,_,_,rfl,rfl,hr5,by rw[zuc,lq2];exact yI (by omega),?_⟩
  have gO:Same H (upd H5 rl (.lst ((q0++[p]).map V.ref++[V.ref l5]))):=(g.trans G5).over fr _
  have keep:∀{y:Addr} {c:List Bool},zch H' y c->y≠rl->zch (upd H5 rl (.lst ((q0++[p]).map V.ref++[V.ref l5]))) y c:=fun {y c} hy ny=>by
   unfold zch
   rw[zE ny]
   exact G5 _ _ hy
  have nrl:∀{y:Addr} {c:List Bool},zch H' y c->y≠rl:=fun {y c} hy e=>by
   unfold zch at hy
   rw[e,hr'] at hy
   injection hy with z
   injection z with z
   cases c with
   | nil=>rw[zuq] at z;cases hq:q0.map V.ref with
    | nil=>rw[hq] at z;cases z
    | cons _ _=>rw[hq] at z;cases z
   | cons v c =>
    cases q0 with
    | nil=>injection z with z1 z2;cases z1
    | cons _ _=>injection z with z1 z2;cases z1
  have n5:l5≠rl:=fun e=>by rw[e,(g3.trans g4) _ _ hr'] at fl5;cases fl5
  refine⟨q0++[p],l5,w0++[r],_,_,gO,by rw[zm,zuq (l₁:=q0++[p])];rfl,lq2,V2 (WD (fun _ _ e=>keep e (nrl e)) pq) (.cons (keep pr (nrl pr)) .nil),by unfold zch;rw[zE n5];exact hl5,(zea _ _ _).symm,(fun y hy=>(List.mem_append.mp hy).elim (fq y) fun hy=>by rw[List.mem_singleton] at hy;rw[hy];exact(g.trans (g3.trans g4)).free fl5),?_,rfl⟩
  rw[ew,List.drop_eq_getElem_cons lt,efm,List.append_assoc]
  rfl
 ·rintro σ H' ⟨q0,p,w0,r,f5,g,hr',lq,pq,pr,lr,fq,ew,rfl⟩
  rw[wJ] at ew
  rw[List.drop_eq_nil_of_le (by rw[List.length_reverse];omega)] at ew
  refine⟨_,rfl,rl,_,rfl,zB.of hr',fun l hl=>?_⟩
  have gN:=Same.new hl (.lst ((q0++[p]).map V.ref).reverse)
  refine q l _ (q0++[p]).reverse (g.trans gN) (g.free hl) (by rw[zm,List.map_reverse]) ?_ (fun y hy=>fq y (List.mem_reverse.mp hy))
  rw[ew]
  exact zkr (V2 (WD (fun _ _ e=>gN _ _ e) pq) (.cons (gN _ _ pr) .nil))
theorem ziW (T:Txt P w K mg a)(zA:zy P w K mg base yq k a.zL a.zM zH (uP a.zj K))(vK:zy P w K mg base yq k a.uD a.uE vI (Zy a.zj))(zT:zy P w K mg base yq k a.yJ a.yK yF (vB a.zj))(zcG:zy P w K mg base yq k a.Ub a.Uc Y0 (Lq a.zj K)):zy P w K mg base yq (k+1) a.Kq a.Kr R8 (zh3 a.zj):=by
 refine T.Kv.F.ok UW (fun vs H Q E h=>?_) (fun cdv A outer s H vs Q E hr h=>?_)
 ·obtain⟨b,os,rs,F,k0,i0,j0,rfl,_⟩:=h
  rfl
 obtain⟨b,os,rs,F,k0,i0,j0,rfl,hB,hW,hk,hI,hJ,q1,q2⟩:=h
 refine⟨_,(zf (zX (zu zA hr T.zN (za (pv 0) (za (pv 1) (za (xg (za (pv 2) (za (pv 3) zc))) zc)))))
   (zf (zQ (i:=4) UW.nd rfl (Or.inl rfl) (xg zc))
   (zf (vO PassesOwn.never rfl (vg (zu vK hr T.Zb (za (pv 0) (za (pv 1) (za (pv 2) zc))))) (yS (i:=5) UW.nd rfl (Or.inl rfl)) (zf (zQ (i:=6) UW.nd rfl (Or.inl rfl) (zW tH (pv 5) (xu (pv 0) T.yr T.yR zT hr (za (pv 3) zc))))
   (zf (yZ (zP Pn (pv 6) zq (yg _)) (zp (zV (zu zcG hr T.Nh (za (pv 0) (za (pv 1) (za (pv 4) (za (pv 6) zc))))))) yC)
   (zp (zX (Zw PySem.F.plainAttrs_list PySem.F.slot_list_append PySem.F.type_list_append vQ (pv 4) (za (pv 5) zc)))))))
   (zp (zV zni))))),?_⟩
 have L:=z9 a.zj
 refine⟨_,rfl,_,rfl,_,rfl,_,rfl,by show 2<=sizeLine;decide,fun l0 hl0=>?_⟩
 have g0:=Same.new hl0 (.lst [.int (i0:Nat),.int (j0:Nat)])
 refine⟨b,l0,os,rs,F,k0,[i0,j0],rfl,L.same hB g0,hW,hk,zB.of zm,fun j' hj'=>?_,fun H1 g1=>?_⟩
 ·simp only[List.mem_cons,zuC,or_false] at hj'
  rcases hj' with e | e<;>subst e
  ·exact hI
  ·exact hJ
 have G1:=g0.trans g1
 generalize upd H l0 (.lst [.int (i0:Nat),.int (j0:Nat)])=Hx at g0 g1
 refine⟨by show 0<=sizeLine;decide,fun al hal=>?_⟩
 have g2:=Same.new hal (.lst [])
 have e2:upd H1 al (.lst []) al=some (.lst (wg [])):=zm
 have fal:=G1.free hal
 generalize upd H1 al (.lst [])=H2 at g2 e2
 have G2:=G1.trans g2
 refine⟨_,rfl,_,rfl,_,rfl,b,os,rs,F,k0,i0,rfl,L.same hB G2,hW,hk,hI.1,fun l H3 Ns g3 fl hl rn ln=>?_⟩
 have G3:=G2.trans g3
 have nl:l≠al:=fun e=>by rw[e,e2] at fl;cases fl
 have fll:=G2.free fl
 refine⟨l,rfl,⟨_,zB.of hl⟩,?_⟩
 refine tO (xs:=wg Ns) (fun i σ H'=>∃(f5 f6:Option V),Same H H'/\H' l=some (.lst (wg Ns))/\H' al=some (.lst (wg (Ns.take i)))/\(∀m,m<i->∀c,c<2^os.length->(Vg os (tB rs k0) (tB rs i0) m).1 c=true->tB rs j0 c=false)/\σ=[some (.ref b),some (.int (k0:Nat)),some (.int (i0:Nat)),some (.int (j0:Nat)),some (.ref al),f5,f6])
  ⟨_,_,G3,hl,g3 _ _ e2,(fun m hm=>absurd hm (Nat.not_lt_zero _)),rfl⟩ ?_ ?_ ?_
 ·rintro i σ H' _ ⟨f5,f6,g,h1,_⟩
  exact zB.of h1
 ·rintro i x σ H' hx ⟨f5,f6,g,h1,h2,no,rfl⟩
  obtain⟨N,hN,rfl⟩:=Jj hx
  have hi:=(zuf.mp hN).1
  obtain⟨tN,_⟩:=rn.tab i N hN
  have hB':=L.same hB g
  obtain⟨dx,ml,rl,tl,nd,rv,ts,kvs,h⟩:=id hB'
  refine⟨_,rfl,_,rfl,b,dx,_,rfl,h.hb,rfl,_,rfl,b,os,rs,F,j0,rfl,hB',hJ.1,fun M tM=>⟨N,M,rfl,rfl,?_⟩⟩
  have tNM:=Ln tN tM
  refine⟨_,rfl,rfl,_,rfl,?_⟩
  by_cases c0:N&&&M=0
  ·refine wQ (show V.int ((N&&&M:Nat):Int)=V.int 0 by rw[c0];rfl) ?_
   refine⟨_,rfl,.inl ⟨rfl,_,zB.of h2⟩,_,rfl,al,_,_,rfl,rfl,h2,by rw[wJ,zuz];exact yI (by omega),?_⟩
   refine⟨_,_,g.over fal _,by rw[zE nl];exact h1,?_,fun m hm c hc e=>?_,rfl⟩
   ·rw[zm,xK hN]
    unfold wg
    rw[zuq]
    rfl
   ·rcases (by omega:m<i\/m=i) with z | z
    ·exact no m z c hc e
    ·subst z
     have y:=tNM c
     rw[c0,Nat.zero_testBit,decide_eq_true hc,Bool.true_and] at y
     have y2:((Vg os (tB rs k0) (tB rs i0) m).1 c&&tB rs j0 c)=false:=y.symm
     rw[e,Bool.true_and] at y2
     exact y2
  ·show if (!decide (V.int ((N&&&M:Nat):Int)=V.int 0))=true then _ else _
   rw[decide_eq_false (fun e=>c0 (by injection e;omega))]
   refine xH ?_
   have pf:Paired (z8 os.length) (Ns.take i) ((List.range i).map fun d=>(Vg os (tB rs k0) (tB rs i0) d).1):=by
    refine zkb (by rw[zuz,zuc,List.length_range];omega) fun j x y hx hy=>?_
    rw[List.getElem?_take] at hx
    split at hx
    ·rename_i lt
     rw[zue,List.getElem?_range lt] at hy
     cases hy
     exact(rn.tab j x hx).1
    ·cases hx
   refine⟨_,rfl,_,rfl,_,rfl,_,rfl,b,al,os,rs,F,k0,N&&&M,Ns.take i,_,_,rfl,hB',hW,hk,zB.of h2,by rw[zuz];omega,pf,tNM,fun l5 H5 qs g5 fl5 hl5 hp5 fq5=>?_⟩
   refine q2 l5 H5 qs Ns i (g.trans g5) (g.free fl5) hl5 rn hi ⟨?_,fun j hj c hc e=>no j hj c hc e⟩ hp5 fun y hy=>g.free (fq5 y hy)
   refine Classical.byContradiction fun nx=>c0 (QD fun c=>?_)
   rw[tNM c,Nat.zero_testBit]
   by_cases hc:c<2^os.length
   ·rw[decide_eq_true hc,Bool.true_and]
    dsimp only
    cases e:((Vg os (tB rs k0) (tB rs i0) i).1 c&&vp.yes rs j0 (vp.uO c)) with
    | false=>rfl
    | true=>exact absurd ⟨c,hc,((zuD _ _).mp e).1,((zuD _ _).mp e).2⟩ nx
   ·rw[decide_eq_false hc,Bool.false_and]
 ·rintro σ H' ⟨f5,f6,g,h1,h2,no,rfl⟩
  rw[wJ] at no
  exact q1 H' Ns g rn no
theorem zeH (T:Txt P w K mg a)(ex:Addr):zdv P w K mg base ex (k+1) a.Xb a.Xc ZF (zbD K a.wN [a.zG,a.yW,a.zJ,a.xW,a.yw,a.yj,a.yx,a.yL,a.yQ] ex):=by
 refine T.Xe.F.okH Yl (fun vs H Q E h=>?_) (fun cdv A outer s H vs Q E hr hh h=>?_)
 ·obtain⟨D,n,rfl,_⟩:=h
  rfl
 obtain⟨D,n,rfl,he,xc,hn9,hcs,q⟩:=h
 refine⟨_,(zf (zQ (i:=1) Yl.nd rfl (Or.inr rfl) (xg (za (zR (uX (K:=K) rfl) rfl T.xZ xJ (za (pv 0) (za (vd (v:=.ref a.zG) rfl T.zdE rfl) zc))) (za (zR (uX (K:=K) rfl) rfl T.xZ xJ (za (pv 0) (za (vd (v:=.ref a.yW) rfl T.zkP rfl) zc))) (za (zR (uX (K:=K) rfl) rfl T.xZ xJ (za (pv 0) (za (vd (v:=.ref a.zJ) rfl T.zbS rfl) zc))) (za (zR (uX (K:=K) rfl) rfl T.xZ xJ (za (pv 0) (za (vd (v:=.ref a.xW) rfl T.zmu rfl) zc))) zc))))))
   (zf (zQ (i:=1) Yl.nd rfl (Or.inr rfl) (zW zaH (pv 1) (xg (za (zR (uX (K:=K) rfl) rfl T.xZ xJ (za (pv 0) (za (vd (v:=.ref a.yw) rfl T.zg5 rfl) zc))) (za (zR (uX (K:=K) rfl) rfl T.xZ xJ (za (pv 0) (za (vd (v:=.ref a.yj) rfl T.zfR rfl) zc))) (za (zR (uX (K:=K) rfl) rfl T.xZ xJ (za (pv 0) (za (vd (v:=.ref a.yx) rfl T.zg6 rfl) zc))) (za (zR (uX (K:=K) rfl) rfl T.xZ xJ (za (pv 0) (za (vd (v:=.ref a.yL) rfl T.ziP rfl) zc))) zc)))))))
   (zf (zX (Zw PySem.F.plainAttrs_list PySem.F.slot_list_append PySem.F.type_list_append vQ (pv 1) (za (zR (uX (K:=K) rfl) rfl T.xZ xJ (za (pv 0) (za (vd (v:=.ref a.yQ) rfl T.zg7 rfl) zc))) zc)))
   (zf (zQ (i:=2) Yl.nd rfl (Or.inr rfl) (zhN (xs:=["order", "mark", "room", "row", "number", "weights", "shares", "cover", "great"]) (by rfl)))
   (zp (zV (uN (za xT (za (zhK (rd:=zh5 ex) (Zx:=zx Y5) (js:=[2,1,0]) rfl (by show XJ (zx Y5) _ "k" ["terms", "kinds", "e"];exact⟨rfl,by decide +kernel,by decide +kernel,rfl,by decide +kernel,by decide +kernel,by decide +kernel⟩) (fun _ _ _ _ _ _ _=>hh) (zgX rfl T.VL (za zq zc)) (by show ∀j∈([2,1,0]:List Nat),j<3;decide) (fun cl C s₂ H₂ fp pins s' σ' H' Q I h=>zka I h (PW.pt (Nj (zdd (K:=K) rfl (yO (M8 (K:=K) rfl) (pv 2) (pv 0) (fun _ _=>rfl)) (fun _=>rfl)) (Tg (zdd (K:=K) rfl (zR (uX (K:=K) rfl) rfl T.xZ xJ (za (pv 3) (za (zaA (v:=.ty "ValueError") rfl T.zex zck rfl) zc))) (fun _=>rfl)))))) (fun cl C s₂ H₂ fp=>(yO (M8 (K:=K) rfl) (pv 1) (pv 0) (fun _ _=>rfl)))) zc))))))))),?_⟩
 have nb:=T.xd
 simp only[List.nodup_cons,List.mem_cons,zuC,or_false,not_or] at nb
 have nb:=nb.1
 have cl:=xc.zrg
 have s1:∀{H':Hp},Same H H'->H' ex=some (zci ex D):=fun g=>g _ _ he
 have ne:∀C,C∈[a.zG,a.yW,a.zJ,a.xW,a.yw,a.yj,a.yx,a.yL,a.yQ]->a.wN≠C:=by
  intro C hC
  simp only[List.mem_cons,zuC,or_false] at hC
  rcases hC with rfl | rfl | rfl | rfl | rfl | rfl | rfl | rfl | rfl<;>simp[nb]
 refine⟨_,rfl,ex,D,_,_,rfl,he,cl,rfl,T4 xc T.zg9 (ne _ (by simp)),_,rfl,ex,D,_,_,rfl,he,cl,rfl,T4 xc T.ziQ (ne _ (by simp)),_,rfl,ex,D,_,_,rfl,he,cl,rfl,T4 xc T.ziR (ne _ (by simp)),_,rfl,ex,D,_,_,rfl,he,cl,rfl,T4 xc T.zkQ (ne _ (by simp)),by show 4<=sizeLine;decide,fun l1 h1=>?_⟩
 have g1:=Same.new h1 (.lst [.bl (decide (D=a.zG)),.bl (decide (D=a.yW)),.bl (decide (D=a.zJ)),.bl (decide (D=a.xW))])
 have e1:=s1 g1
 have f1:upd H l1 (.lst [.bl (decide (D=a.zG)),.bl (decide (D=a.yW)),.bl (decide (D=a.zJ)),.bl (decide (D=a.xW))]) l1=some _:=zm
 generalize upd H l1 _=H1 at g1 e1 f1
 refine⟨_,rfl,_,rfl,ex,D,_,_,rfl,e1,cl,rfl,T4 xc T.zfT (ne _ (by simp)),_,rfl,ex,D,_,_,rfl,e1,cl,rfl,T4 xc T.zew (ne _ (by simp)),_,rfl,ex,D,_,_,rfl,e1,cl,rfl,T4 xc T.zfU (ne _ (by simp)),_,rfl,ex,D,_,_,rfl,e1,cl,rfl,T4 xc T.zha (ne _ (by simp)),by show 4<=sizeLine;decide,fun l2 h2=>?_⟩
 have g2:=Same.new h2 (.lst [.bl (decide (D=a.yw)),.bl (decide (D=a.yj)),.bl (decide (D=a.yx)),.bl (decide (D=a.yL))])
 have f2:upd H1 l2 (.lst [.bl (decide (D=a.yw)),.bl (decide (D=a.yj)),.bl (decide (D=a.yx)),.bl (decide (D=a.yL))]) l2=some _:=zm
 generalize upd H1 l2 _=H2 at g2 f2
 refine⟨l1,l2,_,_,rfl,rfl,zB.of (g2 _ _ f1),zB.of f2,by show 8<=sizeLine;decide,fun l3 h3=>?_⟩
 have n3:H l3=none:=(g1.trans g2).free h3
 have g3:=Same.new h3 (.lst ([.bl (decide (D=a.zG)),.bl (decide (D=a.yW)),.bl (decide (D=a.zJ)),.bl (decide (D=a.xW))]++[.bl (decide (D=a.yw)),.bl (decide (D=a.yj)),.bl (decide (D=a.yx)),.bl (decide (D=a.yL))]))
 have f3:upd H2 l3 (.lst ([.bl (decide (D=a.zG)),.bl (decide (D=a.yW)),.bl (decide (D=a.zJ)),.bl (decide (D=a.xW))]++[.bl (decide (D=a.yw)),.bl (decide (D=a.yj)),.bl (decide (D=a.yx)),.bl (decide (D=a.yL))])) l3=some _:=zm
 generalize upd H2 l3 _=H3 at g3 f3
 have g03:=(g1.trans g2).trans g3
 refine⟨_,rfl,.inl ⟨rfl,_,zB.of f3⟩,_,rfl,ex,D,_,_,rfl,s1 g03,cl,rfl,T4 xc T.zfV (ne _ (by simp)),l3,_,_,rfl,rfl,f3,by show 8<sizeLine;decide,?_⟩
 refine⟨by show 9<=sizeLine;decide,fun l4 h4=>?_⟩
 have ev:([.bl (decide (D=a.zG)),.bl (decide (D=a.yW)),.bl (decide (D=a.zJ)),.bl (decide (D=a.xW))]++[.bl (decide (D=a.yw)),.bl (decide (D=a.yj)),.bl (decide (D=a.yx)),.bl (decide (D=a.yL))]++[V.bl (decide (D=a.yQ))]:List V)=((List.range 9).map (fun i=>decide (i=n))).map V.bl:=by
  rw[<-hcs];rfl
 rw[ev] at h4 ⊢
 have g4:Same H (upd H3 l3 (.lst (((List.range 9).map (fun i=>decide (i=n))).map V.bl))):=g03.over n3 _
 have f4:upd H3 l3 (.lst (((List.range 9).map (fun i=>decide (i=n))).map V.bl)) l3=some _:=zm
 generalize upd H3 l3 _=H4 at h4 g4 f4 ⊢
 have g5:=g4.trans (Same.new h4 (.lst (Xw.map V.str)))
 have f5:upd H4 l4 (.lst (Xw.map V.str)) l4=some _:=zm
 have f4':=(Same.new h4 (.lst (Xw.map V.str))) _ _ f4
 refine⟨9,rfl,by decide,by decide,?_⟩
 have key:∀i:Nat,i<9->(((List.range 9).map (fun i=>decide (i=n))).map V.bl)[i]?=some (.bl (decide (i=n))):=fun i hi=>by
  rw[zue,zue,List.getElem?_range hi]
  rfl
 have kt:∀i:Nat,i<9->(Xw.map V.str)[i]?=some (.str (Xw.getD i "")):=fun i hi=>by
  have:i<Xw.length:=hi
  rw[zue,zup,zud this]
  rfl
 refine zmp (n:=9) (fun i ys H'=>Same (upd H4 l4 (.lst (Xw.map V.str))) H'/\ys=if n<i then [.str (Xw.getD n "")] else []) ⟨Same.refl _,by rw[if_neg (Nat.not_lt_zero _)]⟩ (by decide) ?_ ?_ ?_ ?_
 ·rintro i ys H' _ ⟨_,rfl⟩
  split
  ·show 1<=i
   omega
  ·exact zuy _
 ·rintro ys H' ⟨g,_⟩
  exact⟨D,s1 (g5.trans g)⟩
 ·rintro i ys H' N1 N2 hi ⟨g,rfl⟩ h1 h2
  have ei:(0:Int)+(i:Int)=(i:Int):=by omega
  refine⟨_,rfl,_,rfl,l3,_,_,.bl (decide (i=n)),rfl,rfl,zB.of (g _ _ f4'),by rw[ei];exact XH (key i hi),_,rfl,?_⟩
  by_cases z:i=n
  ·subst z
   rw[decide_eq_true rfl]
   refine xH ⟨_,rfl,ex,D,_,_,rfl,s1 (g5.trans g),cl,rfl,zn1 xc,_,rfl,xH ?_⟩
   refine⟨_,rfl,_,rfl,l4,_,_,_,rfl,rfl,zB.of (g _ _ f5),by rw[ei];exact XH (kt i hi),h1 _ _ ⟨g,?_⟩⟩
   rw[if_neg (Nat.lt_irrefl _),if_pos (Nat.lt_succ_self _)]
   rfl
  ·rw[decide_eq_false z]
   refine yD (yD (h2 _ ⟨g,?_⟩))
   by_cases y:n<i
   ·rw[if_pos y,if_pos (by omega)]
   ·rw[if_neg y,if_neg (by omega)]
 ·rintro ys H' p ⟨g,rfl⟩ hp
  rw[if_pos hn9]
  refine⟨by show 2<=sizeLine;decide,fun t ht=>?_⟩
  have g7:=Same.new hp (.lst [.str (Xw.getD n "")])
  have g8:=Same.new ht (.tup [.str "refused", .ref p])
  exact q t p _ (((g5.trans g).trans g7).trans g8) zm (g8 _ _ zm)
theorem Ru (T:Txt P w K mg a):zy P w K mg base (ZK P w) (k+1) a.yM a.yN yH (zef a.zj a.zJ):=by
 refine T.wK.F.okE Xp (fun vs H Q E h=>?_) (fun cdv A outer s H vs Q E hr h=>?_)
 ·obtain⟨b,os,rs,F,j,rfl,_⟩:=h
  rfl
 obtain⟨b,os,rs,F,j,rfl,⟨dx,ml,rl,tl,nd,rv,ts,kvs,h⟩,hk,hi,q⟩:=h
 refine⟨_,(zp (yZ (PW.pt (Pk (zP zcW (pv 1) zq (yg _)) (Ti (zP zji (pv 1) (zR zO rfl T.wY xV (za (Yw (pv 0) rfl) zc)) (yg _))))) (zp (zbz rfl rfl T.QW.own rfl T.zbS zed (za (zgY (Zz Jk (Zz (zkz (pv 1)) zee))) zc))) yC)),?_⟩
 have hl:=h.len
 refine⟨_,rfl,_,_,rfl,rfl,_,rfl,xQ (fun c=>?_) (fun c=>?_)⟩
 ·exact⟨.int j,rfl,j,rfl,hi,fun x=>⟨by show 1<=sizeLine;decide,q⟩⟩
 refine⟨_,rfl,_,rfl,b,a.zj,dx,_,_,rfl,h.hb,T.yr,T.ZJ,rfl,rl,_,rfl,.inl (zB.of h.hr),_,_,rfl,rfl,_,rfl,xQ (fun _=>?_) (fun c2=>?_)⟩
 ·exact⟨.int j,rfl,j,rfl,hi,fun x=>⟨by show 1<=sizeLine;decide,q⟩⟩
 ·refine absurd hk ?_
  have c:=of_decide_eq_false (Bool.eq_false_iff.mpr c)
  have c2:=of_decide_eq_false (Bool.eq_false_iff.mpr c2)
  rintro (z | z)<;>omega
theorem KN (T:Txt P w K mg a)(zZ:zy P w K mg base yq k a.xq a.xr yU (wk (yh a.zj))):zy P w K mg base (ZK P w) (k+1) a.vW a.vX vo (zfs a.zj a.zG):=by
 refine T.ZM.F.okE wG (fun vs H Q E h=>?_) (fun cdv A outer s H vs Q E hr h=>?_)
 ·obtain⟨b,os,rs,F,rfl,_⟩:=h
  rfl
 obtain⟨b,os,rs,F,rfl,hB,hW,q⟩:=h
 have zZ:=zZ.lift (CX:=ZK P w)
 refine⟨_,(zf (zQ (i:=1) wG.nd rfl (Or.inl rfl) (zbf uM (pv 0) T.yr T.xX zZ hr))
   (zp (vO PassesOwn.leaving rfl (Ry (vd (v:=.ref a.Xd) rfl T.zaS rfl)) (Nk rfl (vZ (yS (i:=2) wG.nd rfl (Or.inl rfl)) (vZ (yS (i:=3) wG.nd rfl (Or.inl rfl)) Tp))) (zp (yZ (zP Pn (Zd Yx (pv 2) (pv 1) (by with_unfolding_all rfl)) (Zd Yx (pv 3) (pv 1) (by with_unfolding_all rfl)) (yg _)) (zp (zbz rfl rfl T.N8.own rfl T.zdE zed (za (zgY (Zz Jk (Zz (zh7 (pv 2)) (Zz Jk (Zz (zh7 (pv 3)) (Zz Jk zee)))))) zc))) yC))))),?_⟩
 have L:=z9 a.zj
 obtain⟨dx,fs,Jx,hm⟩:=L.ins hB
 refine⟨_,rfl,b,dx,_,rfl,Jx,hm _ (by decide +kernel),b,os,rs,F,rfl,hB,fun l1 H1 g1 fl1 hl1=>?_⟩
 refine⟨a.Xd,rfl,⟨_,T.VJ H1⟩,?_⟩
 refine zdI (xs:=[.ref a.Wt,.ref a.Wu,.ref a.Wv,.ref a.Ww]) (fun i σ H'=>H'=H1/\(∀p∈prs.take i,os.contains p.1=os.contains p.2)/\∃f2 f3:Option V,σ=[some (.ref b),some (.ref l1),f2,f3]) ⟨rfl,(fun p hp=>absurd hp (by simp)),_,_,rfl⟩ ?_ ?_ ?_
 ·rintro i σ H' _ ⟨rfl,_⟩
  exact T.VJ H'
 ·rintro i v σ H' hv ⟨rfl,ih,f2,f3,rfl⟩
  obtain⟨p,pr,rfl,hp,hpr⟩:∃(p:Addr) (pr:Str×Str),v=.ref p/\vf K H' p [.str pr.1,.str pr.2]/\prs[i]?=some pr:=by
   match i,hv with
   | 0,hv=>cases hv;exact⟨_,("a", "e"),rfl,T.QX H',rfl⟩
   | 1,hv=>cases hv;exact⟨_,("b", "f"),rfl,T.QZ H',rfl⟩
   | 2,hv=>cases hv;exact⟨_,("c", "g"),rfl,T.Q5 H',rfl⟩
   | 3,hv=>cases hv;exact⟨_,("d", "h"),rfl,T.Q6 H',rfl⟩
  have short:pr.1.length<=3000/\pr.2.length<=3000:=by
   have:=zuh hpr
   simp only[prs,List.mem_cons,zuC,or_false] at this
   rcases this with rfl | rfl | rfl | rfl<;>exact⟨by decide,by decide⟩
  refine⟨p,_,rfl,hp,rfl,_,_,rfl,_,_,rfl,rfl,?_⟩
  refine⟨_,rfl,_,rfl,l1,_,rfl,.inl (zB.of hl1),rfl,wD os,?_⟩
  refine⟨_,rfl,_,rfl,l1,_,rfl,.inl (zB.of hl1),rfl,wD os,rfl,_,rfl,xQ (fun c=>?_) (fun c=>?_)⟩
  ·exact⟨_,rfl,_,rfl,short.1,_,rfl,_,rfl,short.2,fun x=>⟨by show 1<=sizeLine;decide,q _ g1⟩⟩
  ·refine⟨rfl,fun z hz=>?_,_,_,rfl⟩
   rw[xK hpr] at hz
   rcases List.mem_append.mp hz with hz | hz
   ·exact ih z hz
   ·rw[List.mem_singleton.mp hz]
    have c':=Bool.eq_false_iff.mpr c
    rw[Bool.not_eq_false'] at c'
    have c2:=of_decide_eq_true c'
    injection c2 with c3
    rw[X3,X3] at c3
    exact c3
 ·rintro σ H' ⟨rfl,ih,f2,f3,rfl⟩
  exact absurd (fun p hp=>ih p hp) hW
theorem Mj (T:Txt P w K mg a)(zZ:zy P w K mg base yq k a.xq a.xr yU (wk (yh a.zj)))(zT:zy P w K mg base yq k a.yJ a.yK yF (vB a.zj))
  (wj:zy P w K mg base (ZK P w) k a.yM a.yN yH (zeg a.zj a.zJ))(wI:zy P w K mg base yq k a.uZ a.u6 uf (Yh a.zj))
  (Z1:zy P w K mg base yq k a.W0 a.W2 YC zaG):zy P w K mg base (ZK P w) (k+1) a.vC a.vD wV (zkF a.zj a.zJ):=by
 refine T.Zt.F.okE tL (fun vs H Q E h=>?_) (fun cdv A outer s H vs Q E hr h=>?_)
 ·obtain⟨b,os,rs,F,k0,rfl,_⟩:=h
  rfl
 obtain⟨b,os,rs,F,x,rfl,hB,sx,hN,q⟩:=h
 have zZ:=zZ.lift (CX:=ZK P w)
 have zT:=zT.lift (CX:=ZK P w)
 have wI:=wI.lift (CX:=ZK P w)
 have Z1:=Z1.lift (CX:=ZK P w)
 refine⟨_,(zf (zX (Jc uM (pv 0) T.yr T.wK wj hr (za (pv 1) zc)))
   (zp (vO PassesOwn.leaving rfl (vg (xM uM wI hr T.u9 (za (pv 0) zc))) (yS (i:=2) tL.nd rfl (Or.inl rfl)) (zp (yZ (wR (xM uM Z1 hr T.SX (za (Jc uM (pv 0) T.yr T.yR zT hr (za (pv 1) zc)) (za (pv 2) (za (zR zO rfl T.wY xV (za (zbf uM (pv 0) T.yr T.xX zZ hr) zc)) zc)))) (fun _=>rfl)) (zp (zbz rfl rfl T.QW.own rfl T.zbS zed (za (zgY (Zz Jk (Zz (zkz (pv 1)) (Zz Jk zee)))) zc))) yC))))),?_⟩
 have L:=z9 a.zj
 have o8:=(L.ord hB).le
 have lo5:(os.map V.str).length=os.length:=zuc _
 have Vi:=hB
 obtain⟨dx,ml,rl,tl,nd,rv,ts,kvs,h⟩:=hB
 by_cases bx:Bad rs.length x
 ·exact⟨_,rfl,b,dx,_,rfl,h.hb,rfl,_,rfl,.inr ⟨b,os,rs,F,x,rfl,Vi,bx,sx,q _ (Same.refl _)⟩⟩
 obtain⟨k0,rfl,hk⟩:=zh8 bx
 refine⟨_,rfl,b,dx,_,rfl,h.hb,rfl,_,rfl,.inl ⟨b,os,rs,F,k0,rfl,Vi,hk,?_⟩⟩
 refine⟨_,rfl,b,os,rs,F,rfl,Vi,fun l1 H1 g1 fl1 hl1=>?_⟩
 refine⟨l1,rfl,⟨_,zB.of hl1⟩,?_⟩
 refine tO (xs:=wg (yp os)) (fun i σ H'=>Same H1 H'/\(∀p∈(yp os).take i,vp.Free os.length (fun b=>vp.yes rs k0 (vp.uO b)) p)/\∃f2:Option V,σ=[some (.ref b),some (.int (k0:Nat)),f2]) ⟨Same.refl _,(fun p hp=>absurd hp (by simp)),_,rfl⟩ ?_ ?_ ?_
 ·rintro i σ H' _ ⟨g,_⟩
  exact zB.of (g _ _ hl1)
 ·rintro i v σ H' hv ⟨g,ih,f2,rfl⟩
  unfold wg at hv
  rw[zue] at hv
  cases hj:(yp os)[i]? with
  | none=>rw[hj] at hv;cases hv
  | some p =>
   rw[hj] at hv
   cases hv
   have hp:=zuh hj
   have Yu:=L.same Vi (g1.trans g)
   have b1:=(g1.trans g) _ _ h.hb
   refine⟨_,rfl,b,dx,_,rfl,b1,rfl,_,rfl,b,os,rs,F,k0,rfl,Yu,hk,fun t tt=>?_⟩
   refine⟨_,rfl,_,rfl,b,dx,_,rfl,b1,rfl,b,os,rs,F,rfl,Yu,fun l2 H2 g2 K8 hl2=>?_⟩
   refine⟨l2,_,rfl,.inl (zB.of hl2),?_⟩
   rw[lo5]
   refine⟨t,p,os.length,_,rfl,uU p hp,o8,tt,fun c cf ct=>?_⟩
   cases c with
   | true=>exact⟨_,rfl,xH ⟨_,rfl,_,rfl,sx,fun x=>⟨by show 1<=sizeLine;decide,q _ ((g1.trans g).trans g2)⟩⟩⟩
   | false =>
    refine⟨_,rfl,yD ⟨g.trans g2,fun z hz=>?_,_,rfl⟩⟩
    rw[xK hj] at hz
    rcases List.mem_append.mp hz with hz | hz
    ·exact ih z hz
    ·rw[List.mem_singleton.mp hz]
     exact cf rfl
 ·rintro σ H' ⟨g,ih,f2,rfl⟩
  rw[show(wg (yp os)).length=(yp os).length from wJ _,zuE] at ih
  exact absurd ⟨k0,rfl,hk,ih⟩ hN
theorem Rg (T:Txt P w K mg a)(XC:zy P w K mg base (ZK P w) k a.vW a.vX vo (zft a.zj a.zG))
  (wj:zy P w K mg base (ZK P w) k a.yM a.yN yH (zeg a.zj a.zJ))
  (YK:zy P w K mg base (ZK P w) k a.vC a.vD wV (zkG a.zj a.zJ)):zy P w K mg base (ZK P w) (k+1) a.zL a.zM zH (X5 a.zj a.zG a.zJ K):=by
 refine T.zN.F.okE vL (fun vs H Q E h=>?_) (fun cdv A outer s H vs Q E hr h=>?_)
 ·obtain⟨b,l,os,rs,F,i,xs,rfl,_⟩:=h
  rfl
 obtain⟨b,l,os,rs,F,i,xs,rfl,hB,hl,l20,si,sx,h⟩:=h
 refine⟨_,(zf (zX (xM uM XC hr T.ZM (za (pv 0) zc)))
   (zf (zX (Jc uM (pv 0) T.yr T.wK wj hr (za (pv 1) zc)))
   (zp (vO PassesOwn.leaving rfl (vg (pv 2)) (yS (i:=3) vL.nd rfl (Or.inl rfl)) (zp (zX (xM uM YK hr T.Zt (za (pv 0) (za (pv 3) zc))))))))),?_⟩
 have L:=z9 a.zj
 rcases h with ⟨nw,q⟩ | ⟨hW,hx,q⟩
 ·exact⟨_,rfl,.inr ⟨b,os,rs,F,rfl,hB,nw,q⟩⟩
 refine⟨_,rfl,.inl ⟨b,os,rs,F,rfl,hB,hW,fun H1 g1=>?_⟩⟩
 have Yu:=L.same hB g1
 obtain⟨dx,ml,rl,tl,nd,rv,ts,kvs,h⟩:=id Yu
 by_cases bi:Bad rs.length i
 ·exact⟨_,rfl,b,dx,_,rfl,h.hb,rfl,_,rfl,.inr ⟨b,os,rs,F,i,rfl,Yu,bi,si,q _ g1⟩⟩
 obtain⟨k0,rfl,hk⟩:=zh8 bi
 have hx:=hx.resolve_left bi
 refine⟨_,rfl,b,dx,_,rfl,h.hb,rfl,_,rfl,.inl ⟨b,os,rs,F,k0,rfl,Yu,hk,?_⟩⟩
 refine⟨_,rfl,l,rfl,⟨_,g1.seq hl⟩,?_⟩
 refine tO (xs:=xs.map V.int) (fun i σ H'=>Same H H'/\(∀x∈xs.take i,zcl os rs x)/\∃f3:Option V,σ=[some (.ref b),some (.int (k0:Nat)),some (.ref l),f3]) ⟨g1,(fun x hx=>absurd hx (by simp)),_,rfl⟩ ?_ ?_ ?_
 ·rintro i σ H' _ ⟨g,_⟩
  exact g.seq hl
 ·rintro i v σ H' hv ⟨g,ih,f3,rfl⟩
  rw[zue] at hv
  cases hj:xs[i]? with
  | none=>rw[hj] at hv;cases hv
  | some x =>
   rw[hj] at hv
   cases hv
   have mx:=zuh hj
   by_cases nx:zcl os rs x
   ·obtain⟨j,rfl,oj⟩:=id nx
    refine⟨_,rfl,_,rfl,.inl ⟨b,os,rs,F,j,rfl,L.same hB g,oj,fun H2 g2=>⟨g.trans g2,fun z hz=>?_,_,rfl⟩⟩⟩
    rw[xK hj] at hz
    rcases List.mem_append.mp hz with hz | hz
    ·exact ih z hz
    ·rw[List.mem_singleton.mp hz]
     exact nx
   ·exact⟨_,rfl,_,rfl,.inr ⟨b,os,rs,F,x,rfl,L.same hB g,sx x mx,nx,fun H' g'=>q H' (g.trans g')⟩⟩
 ·rintro σ H' ⟨g,ih,f3,rfl⟩
  rw[zuc,zuE] at ih
  obtain⟨x,mx,nx⟩:=hx
  exact absurd (ih x mx) nx
theorem ziX (T:Txt P w K mg a)(zA:zy P w K mg base (ZK P w) k a.zL a.zM zH (X5 a.zj a.zG a.zJ K)):zy P w K mg base (ZK P w) (k+1) a.zaK a.zaL LQ (QJ a.zj a.zG a.zJ):=by
 refine T.zes.F.okE zfD (fun vs H Q E h=>?_) (fun cdv A outer s H vs Q E hr h=>?_)
 ·obtain⟨b,os,rs,F,i,x,rfl,_⟩:=h
  rfl
 obtain⟨b,os,rs,F,i,x,rfl,hB,r⟩:=h
 refine⟨_,(zf (zX (xM uM zA hr T.zN (za (pv 0) (za (pv 1) (za (xg (za (pv 2) zc)) zc)))))
   Z2),?_⟩
 refine⟨_,rfl,_,rfl,_,rfl,by show 1<=sizeLine;decide,fun l0 hl0=>?_⟩
 have g0:=Same.new hl0 (.lst [.int x])
 exact⟨b,l0,os,rs,F,i,[x],rfl,(z9 a.zj).same hB g0,zB.of zm,by show 1<=20;decide,r.mono g0⟩
theorem zeI (T:Txt P w K mg a)(zA:zy P w K mg base (ZK P w) k a.zL a.zM zH (X5 a.zj a.zG a.zJ K)):zy P w K mg base (ZK P w) (k+1) a.Sv a.Sw WW (QJ a.zj a.zG a.zJ):=by
 refine T.N7.F.okE JZ (fun vs H Q E h=>?_) (fun cdv A outer s H vs Q E hr h=>?_)
 ·obtain⟨b,os,rs,F,i,x,rfl,_⟩:=h
  rfl
 obtain⟨b,os,rs,F,i,x,rfl,hB,r⟩:=h
 refine⟨_,(zf (zX (xM uM zA hr T.zN (za (pv 0) (za (pv 1) (za (xg (za (pv 2) zc)) zc)))))
   Z2),?_⟩
 refine⟨_,rfl,_,rfl,_,rfl,by show 1<=sizeLine;decide,fun l0 hl0=>?_⟩
 have g0:=Same.new hl0 (.lst [.int x])
 exact⟨b,l0,os,rs,F,i,[x],rfl,(z9 a.zj).same hB g0,zB.of zm,by show 1<=20;decide,r.mono g0⟩
theorem zf7 (T:Txt P w K mg a)(zA:zy P w K mg base (ZK P w) k a.zL a.zM zH (X5 a.zj a.zG a.zJ K)):zy P w K mg base (ZK P w) (k+1) a.QS a.QT UJ (QJ a.zj a.zG a.zJ):=by
 refine T.Js.F.okE zbM (fun vs H Q E h=>?_) (fun cdv A outer s H vs Q E hr h=>?_)
 ·obtain⟨b,os,rs,F,i,x,rfl,_⟩:=h
  rfl
 obtain⟨b,os,rs,F,i,x,rfl,hB,r⟩:=h
 refine⟨_,(zf (zX (xM uM zA hr T.zN (za (pv 0) (za (pv 1) (za (xg (za (pv 2) zc)) zc)))))
   Z2),?_⟩
 refine⟨_,rfl,_,rfl,_,rfl,by show 1<=sizeLine;decide,fun l0 hl0=>?_⟩
 have g0:=Same.new hl0 (.lst [.int x])
 exact⟨b,l0,os,rs,F,i,[x],rfl,(z9 a.zj).same hB g0,zB.of zm,by show 1<=20;decide,r.mono g0⟩
theorem ziY (T:Txt P w K mg a)(zA:zy P w K mg base (ZK P w) k a.zL a.zM zH (X5 a.zj a.zG a.zJ K)):zy P w K mg base (ZK P w) (k+1) a.zaO a.zaP Kc (QJ a.zj a.zG a.zJ):=by
 refine T.zeu.F.okE UL (fun vs H Q E h=>?_) (fun cdv A outer s H vs Q E hr h=>?_)
 ·obtain⟨b,os,rs,F,i,x,rfl,_⟩:=h
  rfl
 obtain⟨b,os,rs,F,i,x,rfl,hB,r⟩:=h
 refine⟨_,(zf (zX (xM uM zA hr T.zN (za (pv 0) (za (pv 1) (za (xg (za (pv 2) zc)) zc)))))
   Z2),?_⟩
 refine⟨_,rfl,_,rfl,_,rfl,by show 1<=sizeLine;decide,fun l0 hl0=>?_⟩
 have g0:=Same.new hl0 (.lst [.int x])
 exact⟨b,l0,os,rs,F,i,[x],rfl,(z9 a.zj).same hB g0,zB.of zm,by show 1<=20;decide,r.mono g0⟩
theorem zho (T:Txt P w K mg a)(zA:zy P w K mg base (ZK P w) k a.zL a.zM zH (X5 a.zj a.zG a.zJ K)):zy P w K mg base (ZK P w) (k+1) a.Ko a.Kp R5 (QJ a.zj a.zG a.zJ):=by
 refine T.zbU.F.okE zdC (fun vs H Q E h=>?_) (fun cdv A outer s H vs Q E hr h=>?_)
 ·obtain⟨b,os,rs,F,i,x,rfl,_⟩:=h
  rfl
 obtain⟨b,os,rs,F,i,x,rfl,hB,r⟩:=h
 refine⟨_,(zf (zX (xM uM zA hr T.zN (za (pv 0) (za (pv 1) (za (xg (za (pv 2) zc)) zc)))))
   Z2),?_⟩
 refine⟨_,rfl,_,rfl,_,rfl,by show 1<=sizeLine;decide,fun l0 hl0=>?_⟩
 have g0:=Same.new hl0 (.lst [.int x])
 exact⟨b,l0,os,rs,F,i,[x],rfl,(z9 a.zj).same hB g0,zB.of zm,by show 1<=20;decide,r.mono g0⟩
theorem zat (T:Txt P w K mg a)(zA:zy P w K mg base (ZK P w) k a.zL a.zM zH (X5 a.zj a.zG a.zJ K)):zy P w K mg base (ZK P w) (k+1) a.Y9 a.Xa ZD (zh9 a.zj a.zG a.zJ K):=by
 refine T.Ui.F.okE R7 (fun vs H Q E h=>?_) (fun cdv A outer s H vs Q E hr h=>?_)
 ·obtain⟨b,tl,os,rs,F,i,x,ys,rfl,_⟩:=h
  rfl
 obtain⟨b,tl,os,rs,F,i,x,ys,rfl,hB,hl,y10,r⟩:=h
 refine⟨_,(zf (zX (xM uM zA hr T.zN (za (pv 0) (za (pv 1) (za (zW zaH (xg (za (pv 2) zc)) (pv 3)) zc)))))
   Z2),?_⟩
 refine⟨_,rfl,_,rfl,_,rfl,by show 1<=sizeLine;decide,fun l0 hl0=>?_⟩
 have g0:=Same.new hl0 (.lst [.int x])
 refine⟨_,rfl,l0,tl,[.int x],ys.map V.int,rfl,rfl,zB.of zm,g0.seq hl,?_,fun l1 hl1=>?_⟩
 ·rw[zuc]
  exact zuu (yI (by show 1+ys.length<=1000;omega))
 have g1:=g0.trans (Same.new hl1 (.lst ([.int x]++ys.map V.int)))
 exact⟨b,l1,os,rs,F,i,x::ys,rfl,(z9 a.zj).same hB g1,zB.of zm,by show ys.length+1<=20;omega,r.mono g1⟩
theorem zhp (T:Txt P w K mg a)(zA:zy P w K mg base (ZK P w) k a.zL a.zM zH (X5 a.zj a.zG a.zJ K)):zy P w K mg base (ZK P w) (k+1) a.Kq a.Kr R8 (zkH a.zj a.zG a.zJ):=by
 refine T.Kv.F.okE UW (fun vs H Q E h=>?_) (fun cdv A outer s H vs Q E hr h=>?_)
 ·obtain⟨b,os,rs,F,i,x,y,rfl,_⟩:=h
  rfl
 obtain⟨b,os,rs,F,i,x,y,rfl,hB,r⟩:=h
 refine⟨_,(zf (zX (xM uM zA hr T.zN (za (pv 0) (za (pv 1) (za (xg (za (pv 2) (za (pv 3) zc))) zc)))))
   Z2),?_⟩
 refine⟨_,rfl,_,rfl,_,rfl,_,rfl,by show 2<=sizeLine;decide,fun l0 hl0=>?_⟩
 have g0:=Same.new hl0 (.lst [.int x,.int y])
 exact⟨b,l0,os,rs,F,i,[x,y],rfl,(z9 a.zj).same hB g0,zB.of zm,by show 2<=20;decide,r.mono g0⟩
theorem zcH (T:Txt P w K mg a)(zA:zy P w K mg base (ZK P w) k a.zL a.zM zH (X5 a.zj a.zG a.zJ K)):zy P w K mg base (ZK P w) (k+1) a.Vz a.VB Xo (zfu a.zj a.zG a.zJ):=by
 refine T.Qq.F.okE Wc (fun vs H Q E h=>?_) (fun cdv A outer s H vs Q E hr h=>?_)
 ·obtain⟨b,os,rs,F,i,x,y,v,rfl,_⟩:=h
  rfl
 obtain⟨b,os,rs,F,i,x,y,v,rfl,hB,r⟩:=h
 refine⟨_,(zf (zX (xM uM zA hr T.zN (za (pv 0) (za (pv 1) (za (xg (za (pv 2) (za (pv 3) zc))) zc)))))
   Z2),?_⟩
 refine⟨_,rfl,_,rfl,_,rfl,_,rfl,by show 2<=sizeLine;decide,fun l0 hl0=>?_⟩
 have g0:=Same.new hl0 (.lst [.int x,.int y])
 exact⟨b,l0,os,rs,F,i,[x,y],rfl,(z9 a.zj).same hB g0,zB.of zm,by show 2<=20;decide,r.mono g0⟩
theorem zcI (T:Txt P w K mg a)(zA:zy P w K mg base yq k a.zL a.zM zH (uP a.zj K))(Qt:zy P w K mg base yq k a.Vx a.Vy Xm zkC)(zcJ:zy P w K mg base yq k a.PN a.PX PB zkC)(zhn:zy P w K mg base yq k a.zeo a.zep zbN zkC)(KJ:zy P w K mg base yq k a.Kl a.Km QK zkC)(zT:zy P w K mg base yq k a.yJ a.yK yF (vB a.zj)) :
  zy P w K mg base yq (k+1) a.Vz a.VB Xo (zfv a.zj):=by
 refine T.Qq.F.ok Wc (fun vs H Q E h=>?_) (fun cdv A outer s H vs Q E hr h=>?_)
 ·obtain⟨b,rl,os,rs,F,k0,i0,j0,rfl,_⟩:=h
  rfl
 obtain⟨b,rl,os,rs,F,k0,i0,j0,rfl,hB,hW,hk,hI,hJ,hrl,q⟩:=h
 refine⟨_,(zf (zX (zu zA hr T.zN (za (pv 0) (za (pv 1) (za (xg (za (pv 2) (za (pv 3) zc))) zc)))))
   (zf (vO PassesOwn.never rfl (vg (pv 4)) (yS (i:=5) Wc.nd rfl (Or.inl rfl)) (zp (zX (zu zcJ hr T.zcu (za (zu Qt hr T.Qo (za (pv 0) zc)) (za (pv 5) zc))))))
   (zf (yZ (zP wW (zR zO rfl T.wY xV (za (pv 4) zc)) zq (yg _)) (zp (zV Pj)) yC)
   (zf (zQ (i:=6) Wc.nd rfl (Or.inr rfl) (V0 (Zx:=zx Vt) (js:=[0]) rfl (by show XJ _ _ "row" ["book"];exact lco (by decide +kernel)) rfl (vg (pv 4)) (by show ∀j∈([0]:List Nat),j<7;decide) (fun cl C s₂ H₂ fp=>(zu zhn hr T.zg8 (za (pv 1) (za (pv 0) zc))))))
   (zf (yZ (PW.pt (Pk (zP wW (zW tH (yO yP (pv 6) zq (fun _ _=>rfl)) (xu (pv 0) T.yr T.yR zT hr (za (pv 2) zc))) zq (yg _)) (Ti (zP wW (zW tH (yO yP (pv 6) (zcV K1 zq) (fun _ _=>rfl)) (xu (pv 0) T.yr T.yR zT hr (za (pv 3) zc))) zq (yg _))))) (zp (zV Pj)) yC)
   (zp (zV (zR (RB rfl) rfl T.zfX za5 (za (V0 (Zx:=zx Vt) (js:=[0,1,6]) rfl (by show XJ _ _ "at" ["book", "steps", "tables"];exact lco (by decide +kernel)) rfl (Um rfl T.VL (za (zW zaX (zR zO rfl T.wY xV (za (pv 6) zc)) zq) zc)) (by show ∀j∈([0,1,6]:List Nat),j<7;decide) (fun cl C s₂ H₂ fp=>(Zd Pn (zW tH (zu KJ hr T.zaR (za (pv 1) (za (pv 2) (za (yO (M8 (K:=K) rfl) (pv 3) (pv 0) (fun _ _=>rfl)) zc)))) (yO (M8 (K:=K) rfl) (pv 3) (zW vP (pv 0) zq) (fun _ _=>rfl))) zq (yg _)))) zc))))))))),?_⟩
 have L:=z9 a.zj
 refine⟨_,rfl,_,rfl,_,rfl,_,rfl,by show 2<=sizeLine;decide,fun l0 hl0=>?_⟩
 have g0:=Same.new hl0 (.lst [.int (i0:Nat),.int (j0:Nat)])
 refine⟨b,l0,os,rs,F,k0,[i0,j0],rfl,L.same hB g0,hW,hk,zB.of zm,fun j' hj'=>?_,fun H1 g1=>?_⟩
 ·simp only[List.mem_cons,zuC,or_false] at hj'
  rcases hj' with e | e<;>subst e
  ·exact hI
  ·exact hJ
 have G1:=g0.trans g1
 have zrt:=G1 _ _ hrl
 refine⟨_,rfl,rl,rfl,⟨_,zB.of zrt⟩,?_⟩
 refine tO (xs:=[]) (fun i σ H'=>Same H H'/\σ=[some (.ref b),some (.int (k0:Nat)),some (.int (i0:Nat)),some (.int (j0:Nat)),some (.ref rl),none,none]) ⟨G1,rfl⟩ (fun i σ H' _ ⟨g,_⟩=>zB.of (g _ _ hrl)) (fun i x σ H' hx=>absurd hx (by simp)) ?_
 rintro σ H' ⟨g,rfl⟩
 exact⟨_,rfl,rl,_,rfl,.inl (zB.of (g _ _ hrl)),rfl,_,rfl,xH (q _ g)⟩
theorem ziZ (T:Txt P w K mg a):zy P w K mg base yq (k+1) a.SN a.SQ WY (zkD K):=by
 refine T.zbV.F.ok zfK (fun vs H Q E h=>?_) (fun cdv A outer s H vs Q E hr h=>?_)
 ·obtain⟨t,l,x,rfl,_⟩:=h
  rfl
 obtain⟨t,l,x,rfl,ht,hl,q⟩:=h
 refine⟨_,(zp (zV (zdG (zR RD rfl T.xZ xJ (za (pv 0) (za (zaA (v:=.ty "tuple") rfl T.zih ze2 rfl) zc))) (zdG (Zd (zjV rfl (hu8 hr)) (Uq zgx (pv 0) zaC (Vj zq)) (uN (za xT zc)) (yg _)) (zjd (Zd Yx (pv 1) (yO Z9 (pv 0) zq (fun _ _=>rfl)) (by with_unfolding_all rfl))))))),?_⟩
 refine⟨_,rfl,_,_,_,true,rfl,.tup ht,rfl,true,rfl,xH ?_⟩
 refine⟨_,rfl,1,rfl,t,_,rfl,vf.of ht,fun z=>absurd (show(1:Nat)=2 from z.2) (by decide),fun p hp=>?_⟩
 refine⟨by show 1<=sizeLine;decide,fun p2 hp2=>?_⟩
 have g1:=Same.new hp (.tup (Tt [V.str "refused", V.ref l] none (some 1)))
 have g2:=Same.new hp2 (.tup [V.str "refused"])
 have f1:=g2 _ _ (show upd H p (.tup (Tt [V.str "refused", V.ref l] none (some 1))) p=some (.tup [V.str "refused"]) from zm)
 have f2:upd (upd H p (.tup (Tt [V.str "refused", V.ref l] none (some 1)))) p2 (.tup [V.str "refused"]) p2=some _:=zm
 have g:=g1.trans g2
 refine⟨_,fun z=>absurd z.1 zug,.tt (e:=fun _=>true) (vf.of f1) (vf.of f2) (fun j x y hx hy=>?_),true,rfl,xH ?_⟩
 ·have e:x=y:=zuG (hx.symm.trans hy)
  subst e
  have hj:x=.str "refused" := by
   cases j with
   | zero=>exact(zuG hx).symm
   | succ j=>exact absurd hx (by simp)
  subst hj
  have:=JQ.flat (K:=K) (H:=upd (upd H p (.tup (Tt [V.str "refused", V.ref l] none (some 1)))) p2 (.tup [V.str "refused"])) (n:=7) (x:=V.str "refused") (y:=.str "refused") rfl rfl
  rw[zbi rfl] at this
  exact this
 refine⟨_,rfl,_,rfl,t,_,1,.ref l,rfl,rfl,vf.of (g _ _ ht),rfl,l,_,rfl,.inl (g.seq hl),rfl,rfl,?_⟩
 have:inV (V.str x) [V.str x]=true:=by
  show(eqV (.str x) (.str x)||false)=true
  rw[zbi rfl];rfl
 rw[this]
 exact q _ g
theorem zeJ (T:Txt P w K mg a){M:Nat}
  (zmC:zy P w K mg base (ZK P w) k a.zaK a.zaL LQ (Rk a.zj [a.zG,a.yW,a.zJ,a.xW,a.yw,a.yj,a.yx,a.yL,a.yQ] 0 M P0 fun b i x _ _=>[b,i,x]))
  (zhq:zy P w K mg base (ZK P w) k a.Sv a.Sw WW (Rk a.zj [a.zG,a.yW,a.zJ,a.xW,a.yw,a.yj,a.yx,a.yL,a.yQ] 1 M P0 fun b i x _ _=>[b,i,x]))
  (zi0:zy P w K mg base (ZK P w) k a.QS a.QT UJ (Rk a.zj [a.zG,a.yW,a.zJ,a.xW,a.yw,a.yj,a.yx,a.yL,a.yQ] 2 M P0 fun b i x _ _=>[b,i,x]))
  (zmD:zy P w K mg base (ZK P w) k a.zaO a.zaP Kc (Rk a.zj [a.zG,a.yW,a.zJ,a.xW,a.yw,a.yj,a.yx,a.yL,a.yQ] 3 M P0 fun b i x _ _=>[b,i,x]))
  (zkZ:zy P w K mg base (ZK P w) k a.Ko a.Kp R5 (Rk a.zj [a.zG,a.yW,a.zJ,a.xW,a.yw,a.yj,a.yx,a.yL,a.yQ] 4 M P0 fun b i x _ _=>[b,i,x]))
  (zcK:zy P w K mg base (ZK P w) k a.Y9 a.Xa ZD (Rk a.zj [a.zG,a.yW,a.zJ,a.xW,a.yw,a.yj,a.yx,a.yL,a.yQ] 5 M P1 fun b i x _ l=>[b,i,x,l]))
  (zf8:zy P w K mg base (ZK P w) k a.Kq a.Kr R8 (Rk a.zj [a.zG,a.yW,a.zJ,a.xW,a.yw,a.yj,a.yx,a.yL,a.yQ] 6 M P0 fun b i x y _=>[b,i,x,y]))
  (zf9:zy P w K mg base (ZK P w) k a.Vz a.VB Xo (Rk a.zj [a.zG,a.yW,a.zJ,a.xW,a.yw,a.yj,a.yx,a.yL,a.yQ] 8 M P2 fun b i x y l=>[b,i,x,y,l])):zy P w K mg base (ZK P w) (k+1) a.Ug a.Uh Y6 (zdw a.zj [a.zG,a.yW,a.zJ,a.xW,a.yw,a.yj,a.yx,a.yL,a.yQ] M):=by
 refine T.Xf.F.okE zbP (fun vs H Q E h=>?_) (fun cdv A outer s H vs Q E hr h=>?_)
 ·obtain⟨c,b,i,x,y,w,gi,gx,gy,os,rs,F,rfl,_⟩:=h
  rfl
 obtain⟨c,b,i,x,y,w,gi,gx,gy,os,rs,F,rfl,hc,h,q⟩:=h
 refine⟨_,(zp (yZ (zP wW (pv 0) zq (yg _)) (zp (zX (xM uM zmC hr T.zes (za (pv 1) (za (pv 2) (za (pv 3) zc)))))) (zp (yZ (zP wW (pv 0) zq (yg _)) (zp (zX (xM uM zhq hr T.N7 (za (pv 1) (za (pv 2) (za (pv 3) zc)))))) (zp (yZ (zP wW (pv 0) zq (yg _)) (zp (zX (xM uM zi0 hr T.Js (za (pv 1) (za (pv 2) (za (pv 3) zc)))))) (zp (yZ (zP wW (pv 0) zq (yg _)) (zp (zX (xM uM zmD hr T.zeu (za (pv 1) (za (pv 2) (za (pv 3) zc)))))) (zp (yZ (zP wW (pv 0) zq (yg _)) (zp (zX (xM uM zkZ hr T.zbU (za (pv 1) (za (pv 2) (za (pv 3) zc)))))) (zp (yZ (zP wW (pv 0) zq (yg _)) (zp (zX (xM uM zcK hr T.Ui (za (pv 1) (za (pv 2) (za (pv 3) (za (xg (za (pv 4) zc)) zc))))))) (zp (yZ (zP wW (pv 0) zq (yg _)) (zp (zX (xM uM zf8 hr T.Kv (za (pv 1) (za (pv 2) (za (pv 3) (za (pv 4) zc))))))) (zp (yZ (zP wW (pv 0) zq (yg _)) (zp (zX (xM uM zf8 hr T.Kv (za (pv 1) (za (pv 2) (za (pv 4) (za (pv 3) zc))))))) (zp (zX (xM uM zf9 hr T.Qq (za (pv 1) (za (pv 2) (za (pv 3) (za (pv 4) (za (xg zc) zc)))))))))))))))))))))))),?_⟩
 by_cases e0:c=0
 ·subst e0
  exact⟨_,rfl,rfl,_,rfl,ifY ⟨_,rfl,_,rfl,_,rfl,b,b,i,x,y,w,gi,gx,gy,os,rs,F,rfl,h,trivial,q.of (Same.refl _) fun _ _ z=>z⟩⟩
 by_cases e1:c=1
 ·subst e1
  exact⟨_,rfl,rfl,_,rfl,Rv (by decide) ⟨_,rfl,rfl,_,rfl,ifY ⟨_,rfl,_,rfl,_,rfl,b,b,i,x,y,w,gi,gx,gy,os,rs,F,rfl,h,trivial,q.of (Same.refl _) fun _ _ z=>z⟩⟩⟩
 by_cases e2:c=2
 ·subst e2
  exact⟨_,rfl,rfl,_,rfl,Rv (by decide) ⟨_,rfl,rfl,_,rfl,Rv (by decide) ⟨_,rfl,rfl,_,rfl,ifY ⟨_,rfl,_,rfl,_,rfl,b,b,i,x,y,w,gi,gx,gy,os,rs,F,rfl,h,trivial,q.of (Same.refl _) fun _ _ z=>z⟩⟩⟩⟩
 by_cases e3:c=3
 ·subst e3
  exact⟨_,rfl,rfl,_,rfl,Rv (by decide) ⟨_,rfl,rfl,_,rfl,Rv (by decide) ⟨_,rfl,rfl,_,rfl,Rv (by decide) ⟨_,rfl,rfl,_,rfl,ifY ⟨_,rfl,_,rfl,_,rfl,b,b,i,x,y,w,gi,gx,gy,os,rs,F,rfl,h,trivial,q.of (Same.refl _) fun _ _ z=>z⟩⟩⟩⟩⟩
 by_cases e4:c=4
 ·subst e4
  exact⟨_,rfl,rfl,_,rfl,Rv (by decide) ⟨_,rfl,rfl,_,rfl,Rv (by decide) ⟨_,rfl,rfl,_,rfl,Rv (by decide) ⟨_,rfl,rfl,_,rfl,Rv (by decide) ⟨_,rfl,rfl,_,rfl,ifY ⟨_,rfl,_,rfl,_,rfl,b,b,i,x,y,w,gi,gx,gy,os,rs,F,rfl,h,trivial,q.of (Same.refl _) fun _ _ z=>z⟩⟩⟩⟩⟩⟩
 by_cases e5:c=5
 ·subst e5
  exact⟨_,rfl,rfl,_,rfl,Rv (by decide) ⟨_,rfl,rfl,_,rfl,Rv (by decide) ⟨_,rfl,rfl,_,rfl,Rv (by decide) ⟨_,rfl,rfl,_,rfl,Rv (by decide) ⟨_,rfl,rfl,_,rfl,Rv (by decide) ⟨_,rfl,rfl,_,rfl,ifY ⟨_,rfl,_,rfl,_,rfl,_,rfl,by show 1<=sizeLine;decide,fun l hl=>⟨b,l,i,x,y,w,gi,gx,gy,os,rs,F,rfl,h.mono (Same.new hl _),zm,q.of (Same.new hl _) fun _ _ z=>z⟩⟩⟩⟩⟩⟩⟩⟩
 by_cases e6:c=6
 ·subst e6
  exact⟨_,rfl,rfl,_,rfl,Rv (by decide) ⟨_,rfl,rfl,_,rfl,Rv (by decide) ⟨_,rfl,rfl,_,rfl,Rv (by decide) ⟨_,rfl,rfl,_,rfl,Rv (by decide) ⟨_,rfl,rfl,_,rfl,Rv (by decide) ⟨_,rfl,rfl,_,rfl,Rv (by decide) ⟨_,rfl,rfl,_,rfl,ifY ⟨_,rfl,_,rfl,_,rfl,_,rfl,b,b,i,x,y,w,gi,gx,gy,os,rs,F,rfl,h,trivial,q.of (Same.refl _) fun _ _ z=>z⟩⟩⟩⟩⟩⟩⟩⟩
 by_cases e7:c=7
 ·subst e7
  exact⟨_,rfl,rfl,_,rfl,Rv (by decide) ⟨_,rfl,rfl,_,rfl,Rv (by decide) ⟨_,rfl,rfl,_,rfl,Rv (by decide) ⟨_,rfl,rfl,_,rfl,Rv (by decide) ⟨_,rfl,rfl,_,rfl,Rv (by decide) ⟨_,rfl,rfl,_,rfl,Rv (by decide) ⟨_,rfl,rfl,_,rfl,Rv (by decide) ⟨_,rfl,rfl,_,rfl,ifY ⟨_,rfl,_,rfl,_,rfl,_,rfl,b,b,i,y,x,w,gi,gy,gx,os,rs,F,rfl,h.swap,trivial,(show WM _ _ (gb 6) (wF 6 w gi gy gx) _ _ _ _ _ _ _ from (by cases w<;>cases gi<;>cases gx<;>cases gy<;>rfl:wF 7 w gi gx gy=wF 6 w gi gy gx) ▸ q.of (Same.refl _) fun _ _ z=>z)⟩⟩⟩⟩⟩⟩⟩⟩⟩
 by_cases e8:c=8
 ·subst e8
  exact⟨_,rfl,rfl,_,rfl,Rv (by decide) ⟨_,rfl,rfl,_,rfl,Rv (by decide) ⟨_,rfl,rfl,_,rfl,Rv (by decide) ⟨_,rfl,rfl,_,rfl,Rv (by decide) ⟨_,rfl,rfl,_,rfl,Rv (by decide) ⟨_,rfl,rfl,_,rfl,Rv (by decide) ⟨_,rfl,rfl,_,rfl,Rv (by decide) ⟨_,rfl,rfl,_,rfl,Rv (by decide) ⟨_,rfl,_,rfl,_,rfl,_,rfl,by show 0<=sizeLine;decide,fun l hl=>⟨b,l,i,x,y,w,gi,gx,gy,os,rs,F,rfl,h.mono (Same.new hl _),zm,q.of (Same.new hl _) fun _ _ z=>z⟩⟩⟩⟩⟩⟩⟩⟩⟩⟩
 omega
theorem zhr (T:Txt P w K mg a){M:Nat}
  (zcL:zy P w K mg base (ZK P w) k a.Ug a.Uh Y6 (zdw a.zj [a.zG,a.yW,a.zJ,a.xW,a.yw,a.yj,a.yx,a.yL,a.yQ] M))
  (zcM:∀ex,zdv P w K mg base ex k a.Xb a.Xc ZF (zbD K a.wN [a.zG,a.yW,a.zJ,a.xW,a.yw,a.yj,a.yx,a.yL,a.yQ] ex)):zy P w K mg base yq (k+1) a.Qj a.Qk Vw (zib a.zj M):=by
 refine T.J8.F.ok Wg (fun vs H Q E h=>?_) (fun cdv A outer s H vs Q E hr h=>?_)
 ·obtain⟨c,b,i,x,y,w,gi,gx,gy,os,rs,F,rfl,_⟩:=h
  rfl
 obtain⟨c,b,i,x,y,w,gi,gx,gy,os,rs,F,rfl,hc,h,q0,q1⟩:=h
 refine⟨_,(zf (Zf 5 Wg.nd xT)
   (zf (znV (i:=6) rfl rfl (zkv (zku (zkx zcL hr rfl T.Xf.m T.Xf.F.2 T.Xf.b .nil rfl (za (pv 0) (za (pv 1) (za (pv 2) (za (pv 3) (za (pv 4) zc)))))))) (fun ex=>(zp (zQ (i:=5) Wg.nd rfl (Or.inl rfl) (zky (zcM ex) (JV.of hr _) rfl rfl T.Xe.m T.Xe.F.2 T.Xe.b .nil (za (pv 6) zc) (E:=E0))))) rfl T.zfQ Wg.nd rfl rfl)
   (zp (zV (pv 5))))),?_⟩
 have nb:=T.xd
 simp only[List.nodup_cons,List.mem_cons,zuC,or_false,not_or] at nb
 refine⟨_,rfl,_,rfl,_,rfl,_,rfl,_,rfl,c,b,i,x,y,w,gi,gx,gy,os,rs,F,rfl,hc,h,?_⟩
 cases e:wF c w gi gx gy with
 | none=>exact fun H' rs' aw tu hB gr hh v=>⟨_,rfl,q0 e H' rs' aw tu hB gr hh⟩
 | some n =>
  have k0:n=0\/n=2:=by
   clear h q0 q1
   revert e
   unfold wF
   cases w
   ·rw[if_neg zug];simp;omega
   ·rw[if_pos rfl]
    split<;>simp
    omega
  rcases k0 with rfl | rfl
  ·have nd:([a.zG,a.yW,a.zJ,a.xW,a.yw,a.yj,a.yx,a.yL,a.yQ]).map (fun C=>decide (a.zG=C))=(List.range 9).map (fun i=>decide (i=0)):=by
    simp[List.range,List.range.loop,nb,Ne.symm]
   exact fun H' g=>⟨a.zG,rfl,zkB T.xb T.N8,fun e' he=>⟨_,rfl,_,0,rfl,zm,T.N8,by decide,nd,fun t l H'' g'' ht hl'=>⟨_,rfl,q1 _ e t l H'' ((g.trans (Same.new he _)).trans g'') ht hl'⟩⟩⟩
  ·have nd:([a.zG,a.yW,a.zJ,a.xW,a.yw,a.yj,a.yx,a.yL,a.yQ]).map (fun C=>decide (a.zJ=C))=(List.range 9).map (fun i=>decide (i=2)):=by
    simp[List.range,List.range.loop,nb,Ne.symm]
   exact fun H' g=>⟨a.zJ,rfl,zkB T.xb T.QW,fun e' he=>⟨_,rfl,_,2,rfl,zm,T.QW,by decide,nd,fun t l H'' g'' ht hl'=>⟨_,rfl,q1 _ e t l H'' ((g.trans (Same.new he _)).trans g'') ht hl'⟩⟩⟩
inductive zm3 (cA:Addr)(K:Frag)(sc:Addr)(ns:List Int)(σ:St)(H:Hp):Prop
 | mk (bl ol p0:Addr) (os:List Str) (s0:Sn) (c far:Int) (z0 z1 z2 z3 z4:Bool) (f4 f5 f6 f7 f10 f11 f12 f13 f14 f15 f16:Option V) (_:zB K H sc (ns.map V.int)) (_:H bl=some (.lst [.bl z0,.bl z1,.bl z2,.bl z3,.bl z4])) (_:H ol=some (.lst (os.map V.str))) (_:uJ os) (_:yG os) (_:0<(wZ os).length) (_:zaf os H s0 p0) (_:100000<=far) (_:far<2000000000) (_:σ=[some (.ref sc),some (.int c),some (.ref bl),some (.int far),f4,f5,f6,f7,some (.ref ol),some (.ref p0),f10,f11,f12,f13,f14,f15,f16]):zm3 cA K sc ns σ H
inductive zm4 (cA:Addr)(K:Frag)(sc:Addr)(ns:List Int)(σ:St)(H:Hp):Prop
 | mk (bl ol p0:Addr) (os:List Str) (s0:Sn) (c far:Int) (z0 z1 z2 z3 z4:Bool) (f4 f5 f6 f7 f10 f11 f12 f13 f14 f15 f16:Option V) (_:zB K H sc (ns.map V.int)) (_:H bl=some (.lst [.bl z0,.bl z1,.bl z2,.bl z3,.bl z4])) (_:H ol=some (.lst (os.map V.str))) (_:uJ os) (_:(z0=false->yG os/\0<(wZ os).length)) (_:(z0=true->¬yG os)) (_:zaf os H s0 p0) (_:100000<=far) (_:far<2000000000) (_:σ=[some (.ref sc),some (.int c),some (.ref bl),some (.int far),f4,f5,f6,f7,some (.ref ol),some (.ref p0),f10,f11,f12,f13,f14,f15,f16]):zm4 cA K sc ns σ H
inductive zm5 (cA:Addr)(K:Frag)(sc:Addr)(ns:List Int)(σ:St)(H:Hp):Prop
 | mk (H1:Hp) (bl ol bk rl p0:Addr) (os:List Str) (rs:List vp.Rm) (F:yX) (i x y c far:Int) (z0 z1 z2 z3 z4:Bool) (f6 f7 f10 f11 f12 f13 f14 f15 f16:Option V) (_:KR cA K sc ns H1 ol bk rl bl os 63 H rs F z0 z1 z2 z3 z4 i x y) (_:(∃k0:Nat,i=(k0:Nat)/\k0<rs.length)) (_:(∃k0:Nat,x=(k0:Nat)/\k0<rs.length)) (_:(∃k0:Nat,y=(k0:Nat)/\k0<rs.length)) (_:100000<=far) (_:far<2000000000) (_:σ=[some (.ref sc),some (.int c),some (.ref bl),some (.int far),some (.ref bk),some (.ref rl),f6,f7,some (.ref ol),some (.ref p0),f10,f11,f12,f13,f14,f15,f16]):zm5 cA K sc ns σ H
inductive zm6 (cA:Addr)(K:Frag)(sc:Addr)(ns:List Int)(σ:St)(H:Hp):Prop
 | mk (H1:Hp) (bl ol bk rl p0:Addr) (os:List Str) (rs:List vp.Rm) (F:yX) (i x y c far:Int) (z0 z1 z2 z3 z4:Bool) (f6 f7 f10 f11 f12 f13 f14 f15 f16:Option V) (_:KR cA K sc ns H1 ol bk rl bl os (63+63+63) H rs F z0 z1 z2 z3 z4 i x y) (_:(∃k0:Nat,i=(k0:Nat)/\k0<rs.length)) (_:(∃k0:Nat,x=(k0:Nat)/\k0<rs.length)) (_:(∃k0:Nat,y=(k0:Nat)/\k0<rs.length)) (_:(z0=false->Jl os rs false x/\Jl os rs false y)) (_:100000<=far) (_:far<2000000000) (_:σ=[some (.ref sc),some (.int c),some (.ref bl),some (.int far),some (.ref bk),some (.ref rl),f6,f7,some (.ref ol),some (.ref p0),f10,f11,f12,f13,f14,f15,f16]):zm6 cA K sc ns σ H
inductive zm7 (cA:Addr)(K:Frag)(sc:Addr)(ns:List Int)(σ:St)(H:Hp):Prop
 | mk (H1:Hp) (bl ol bk rl p0:Addr) (os:List Str) (rs:List vp.Rm) (F:yX) (i x y c far:Int) (z0 z1 z2 z3 z4:Bool) (f6 f7 f10 f11 f12 f13 f14 f15 f16:Option V) (_:KR cA K sc ns H1 ol bk rl bl os (63+63+63+63*2) H rs F z0 z1 z2 z3 z4 i x y) (_:(∃k0:Nat,i=(k0:Nat)/\k0<rs.length)) (_:(∃k0:Nat,x=(k0:Nat)/\k0<rs.length)) (_:(∃k0:Nat,y=(k0:Nat)/\k0<rs.length)) (_:(z0=false->Jl os rs z3 x/\Jl os rs z4 y)) (_:100000<=far) (_:far<2000000000) (_:σ=[some (.ref sc),some (.int c),some (.ref bl),some (.int far),some (.ref bk),some (.ref rl),f6,f7,some (.ref ol),some (.ref p0),f10,f11,f12,f13,f14,f15,f16]):zm7 cA K sc ns σ H
inductive zm8 (cA:Addr)(K:Frag)(sc:Addr)(ns:List Int)(σ:St)(H:Hp):Prop
 | mk (H1:Hp) (bl ol bk rl p0:Addr) (os:List Str) (rs:List vp.Rm) (F:yX) (i x y c far:Int) (z0 z1 z2 z3 z4:Bool) (f6 f7 f10 f11 f12 f13 f14 f15 f16:Option V) (_:KR cA K sc ns H1 ol bk rl bl os 400 H rs F z0 z1 z2 z3 z4 i x y) (_:zmr rs i) (_:T6 os rs z0 z3 x) (_:T6 os rs z0 z4 y) (_:σ=[some (.ref sc),some (.int c),some (.ref bl),some (.int far),some (.ref bk),some (.ref rl),f6,f7,some (.ref ol),some (.ref p0),f10,f11,f12,f13,f14,f15,f16]):zm8 cA K sc ns σ H
def Uk (v:V):Bool:=match v with | .int z=>fB z | _=>false
inductive zpP (cA:Addr)(K:Frag)(sc:Addr)(ns:List Int)(H1:Hp)(ol bk rl bl p0:Addr)(os:List Str)(F:yX)(z0 z1 z2 z3 z4:Bool)(i c far:Int)(f7 f10 f11 f12 f13:Option V)(n:Nat)(σ:St)(H:Hp):Prop
 | mk (rs:List vp.Rm) (x y:Int) (f6 f14 f15 f16:Option V) (_:KR cA K sc ns H1 ol bk rl bl os (63+63+63+63*n) H rs F z0 z1 z2 z3 z4 i x y) (_:(∃k0:Nat,i=(k0:Nat)/\k0<rs.length)) (_:(∃k0:Nat,x=(k0:Nat)/\k0<rs.length)) (_:(∃k0:Nat,y=(k0:Nat)/\k0<rs.length)) (_:(z0=false->Jl os rs (if 0<n then z3 else false) x/\Jl os rs (if 1<n then z4 else false) y)) (_:σ=[some (.ref sc),some (.int c),some (.ref bl),some (.int far),some (.ref bk),some (.ref rl),f6,f7,some (.ref ol),some (.ref p0),f10,f11,f12,f13,f14,f15,f16]):zpP cA K sc ns H1 ol bk rl bl p0 os F z0 z1 z2 z3 z4 i c far f7 f10 f11 f12 f13 n σ H
inductive zpQ (cA:Addr)(K:Frag)(sc:Addr)(ns:List Int)(H1:Hp)(ol bk rl bl p0:Addr)(os:List Str)(F:yX)(z0 z1 z2 z3 z4:Bool)(i x y c far:Int)(f6 f10 f14 f15 f16:Option V)(n:Nat)(σ:St)(H':Hp):Prop
 | mk (rs:List vp.Rm) (f7' f11' f12' f13':Option V) (_:KR cA K sc ns H1 ol bk rl bl os (400+63*n+(if 4<n then 16128 else 0)) H' rs F z0 z1 z2 z3 z4 i x y) (_:zmr rs i) (_:T6 os rs z0 z3 x) (_:T6 os rs z0 z4 y) (_:σ=[some (.ref sc),some (.int c),some (.ref bl),some (.int far),some (.ref bk),some (.ref rl),f6,f7',some (.ref ol),some (.ref p0),f10,f11',f12',f13',f14,f15,f16]):zpQ cA K sc ns H1 ol bk rl bl p0 os F z0 z1 z2 z3 z4 i x y c far f6 f10 f14 f15 f16 n σ H'
theorem ok_law (T:Txt P w K mg a)
  (wC:zy P w K mg base yq (k+1) a.wL a.wM wA (zaI K))
  (yt:zy P w K mg base yq (k+1) a.Zm a.Zn uT za8)
  (zeK:zy P w K mg base yq (k+1) a.SJ a.SM Wf (zkd K))
  (VN:zy P w K mg base yq (k+1) a.VF a.VG Xq (zgR K))
  (Zv:zy P w K mg base yq (k+1) a.Zo a.Zq uz (Nv K))
  (zga:zy P w K mg base yq k a.VD a.Qi Vu (zbj (yh a.zj) K a.zj))
  (Wi:zy P w K mg base yq (k+1) a.Sx a.Sy Wd (zfk a.zj))
  (zgb:zy P w K mg base yq (k+1) a.Qj a.Qk Vw (zib a.zj 80000))
  (zhs:zy P w K mg base yq (k+1) a.SN a.SQ WY (zkD K)) :
  zy P w K mg base yq (k+2) a.a_law a.d_law p_law (zjR K):=by
 refine T.f_law.F.ok sc_law (fun vs H Q E h=>?_) (fun cdv A outer s H vs Q E hr h=>?_)
 ·obtain⟨a,ns,rfl,_⟩:=h
  rfl
 obtain⟨sc,ns,rfl,hS,h63,q⟩:=h
 have L:=z9 a.zj
 refine zpe ?_
 refine zff (zm3 a.zj K sc ns) (fun t z=>(zf (KZ (zu zeK hr T.Kw (za (pv 0) zc)) (Nk rfl (vZ (yS (i:=8) sc_law.nd rfl (Or.inr rfl)) (vZ (yS (i:=9) sc_law.nd rfl (Or.inl rfl)) Tp))))
   (zf (zQ (i:=1) sc_law.nd rfl (Or.inr rfl) (zu wC hr T.wB (za (pv 0) (za zq zc))))
   (zf (MN (tt:=zcb) (i:=2) sc_law.nd rfl (Or.inl rfl) (.inl rfl) (Zx:=zx S_law) (js:=[1]) rfl (by show XJ _ _ "k" ["cell"];exact lco (by decide +kernel)) rfl (Um rfl T.VL (za zq zc)) (by show ∀j∈([1]:List Nat),j<17;decide) (fun cl C s₂ H₂ fp pins s' σ' H' Q I h=>wpAny_pure ⟨H',I,h⟩) (fun cl C s₂ H₂ fp=>(Zd wW (zu yt hr T.yu (za (pv 1) (za (pv 0) (za zq zc)))) zq (yg _))) rfl)
   (zf (Zf 3 sc_law.nd (zW vP zq (zu yt hr T.yu (za (pv 1) (za zq (za (zW zjg zq zq) zc))))))
   z))))) ?_ ?_
 ·rintro u hu σ H ⟨rfl,rfl⟩
  refine⟨_,rfl,sc,ns,rfl,hS,fun t ol p0 H3 os s0 g0 ht zru ho hW hn sp0=>?_⟩
  refine⟨t,_,rfl,vf.of ht,rfl,_,_,rfl,_,_,rfl,rfl,?_⟩
  refine⟨_,rfl,sc,ns,30,rfl,g0.seq hS,?_⟩
  refine⟨5,rfl,by decide,by decide,?_⟩
  refine zmg (n:=5) (fun i ys H'=>Same H3 H'/\∃zs:List Bool,ys=zs.map V.bl/\zs.length=i) ⟨Same.refl _,[],rfl,rfl⟩ (by decide) ?_ ?_ ?_
  ·rintro i ys H' _ ⟨_,zs,rfl,e⟩
   rw[zuc,e];exact zus _
  ·rintro i ys H' Q0 hi ⟨g,zs,rfl,e⟩ hn'
   refine⟨_,rfl,_,rfl,uK ns 30,0+i,2,?_,by omega,by decide,by decide,fun r r0 r1=>⟨rfl,hn' _ _ ⟨g,zs++[decide (V.int r=V.int 1)],by rw[zuq];rfl,by rw[zuk,e];rfl⟩⟩⟩
   show [V.int (uK ns 30),V.int ((0:Int)+(i:Int)),V.int 2]=_
   rw[Int.zero_add,Nat.zero_add]
  ·rintro ys H' p ⟨g,zs,rfl,e⟩ hp
   match zs,e with
   | [z0,z1,z2,z3,z4],_ =>
   have g2:=g.trans (Same.new hp (.lst [.bl z0,.bl z1,.bl z2,.bl z3,.bl z4]))
   refine⟨_,rfl,_,_,rfl,rfl,⟨by decide,by decide,by decide⟩,_,5,_,rfl,by decide,by decide,by decide,fun r r0 r1=>?_⟩
   have p9:(10:Int)^9=1000000000:=by decide
   refine⟨_,_,rfl,rfl,hu _ _ ⟨p,ol,p0,os,s0,_,_,z0,z1,z2,z3,z4,_,_,_,_,_,_,_,_,_,_,_,g2.seq (g0.seq hS),zm,g2 _ _ zru,ho,hW,hn,sp0.mono (wz.of g2),by show(100000:Int)<=100000+r;omega,?_,rfl⟩⟩
   show(100000:Int)+r<2000000000
   have r1':r<(10:Int)^9:=r1
   omega
 refine zff (zm4 a.zj K sc ns) (fun t z=>(zf (yZ (wR (yO yP (pv 2) zq (fun _ _=>rfl)) (fun _=>rfl)) (zf (MN (i:=10) sc_law.nd rfl (Or.inl rfl) (.inl rfl) (Zx:=zx S_law) (js:=[8]) rfl (by show XJ _ _ "mark" ["order"];exact lco (by decide +kernel)) rfl (zj2 xT) (by show ∀j∈([8]:List Nat),j<17;decide) (fun cl C s₂ H₂ fp pins s' σ' H' Q I h=>wpAny_tests_one ((zP (zdc (K:=K) rfl) (pv 0) (pv 1) (by with_unfolding_all rfl)) pins s' σ' H' Q I h)) (fun cl C s₂ H₂ fp=>(pv 0)) rfl)
   (zf (zQ (i:=8) sc_law.nd rfl (Or.inr rfl) (Uq zhE (pv 8) (Vj zq) zaC))
   (zf (yZ (PW.pt (Nj (zP (zjW rfl (hu8 hr)) (pv 10) (xg zc) (yg _)) (Tg (zP wW (zu yt hr T.yu (za (pv 1) (za zq (za zq zc)))) zq (yg _))))) (zp (zQ (i:=8) sc_law.nd rfl (Or.inr rfl) (zW zaH (xg (za (yO yP (pv 10) (zW tD (zu yt hr T.yu (za (pv 1) (za zq (za zq zc)))) (zR zO rfl T.wY xV (za (pv 10) zc))) (fun _ _=>rfl)) zc)) (pv 8)))) yC)
   (zp (Zf 9 sc_law.nd (uN (za xT zc))))))) yC)
   z)) ?_ ?_
 ·rintro u hu σ H ⟨bl,ol,p0,os,s0,c,far,z0,z1,z2,z3,z4,f4,f5,f6,f7,f10,f11,f12,f13,f14,f15,f16,hS,hbl,hol,ho,hW,hn,sp0,fr0,fr1,rfl⟩
  cases z0 with
  | false =>
   refine⟨_,rfl,bl,_,_,.bl false,rfl,rfl,zB.of hbl,rfl,_,rfl,yD ?_⟩
   exact hu _ _ ⟨bl,ol,p0,os,s0,c,far,false,z1,z2,z3,z4,_,_,_,_,_,_,_,_,_,_,_,hS,hbl,hol,ho,fun _=>⟨hW,hn⟩,fun z=>absurd z (by decide),sp0,fr0,fr1,rfl⟩
  | true =>
   refine⟨_,rfl,bl,_,_,.bl true,rfl,rfl,zB.of hbl,rfl,_,rfl,xH ?_⟩
   refine⟨_,rfl,by decide +kernel,?_⟩
   have el:sgs (Str.ofString "abcdefgh")=uI.map V.str:=by decide +kernel
   refine zkE (x:=Str.ofString "abcdefgh") (fun v=>!inV v (os.map V.str)) (by decide +kernel) (fun x H' Q h=>⟨_,rfl,h⟩) (fun v H' Q0 hv g hQ=>?_) (fun H2 sl g2 hsl=>?_)
   ·rw[el] at hv
    obtain⟨x,hx,rfl⟩:=List.mem_map.mp hv
    exact⟨_,rfl,_,rfl,ol,_,rfl,.inl (zB.of (g _ _ hol)),rfl,wD os,_,rfl,hQ _ g⟩
   rw[el,List.filter_map]
   obtain⟨sp,esp⟩:∃sp:List Str,uI.filter ((fun v=>!inV v (os.map V.str)) ∘ V.str)=sp:=⟨_,rfl⟩
   have hsp:∀z∈sp,z∉os/\z∈uI:=fun z hz=>by
    rw[<-esp] at hz
    obtain⟨z1,z2⟩:=List.mem_filter.mp hz
    have z2:(!inV (.str z) (os.map V.str))=true:=z2
    rw[X3] at z2
    exact⟨(fun w=>by rw[List.contains_iff_mem.mpr w] at z2;cases z2),z1⟩
   have sl8:sp.length<=8:=by rw[<-esp];exact zuK _ _
   rw[esp]
   have g3:=g2.trans (Same.new hsl (.lst (sp.map V.str)))
   have e3:upd H2 sl (.lst (sp.map V.str)) sl=some _:=zm
   generalize upd H2 sl _=H3 at g3 e3 ⊢
   match os,ho,hol,hW,hn,sp0,hsp with
   | [],ho,_,_,_,_,_=>exact absurd ho.pos (Nat.lt_irrefl _)
   | o::os,ho,hol,hW,hn,sp0,hsp =>
   refine⟨_,rfl,1,rfl,ol,_,rfl,zB.of (g3 _ _ hol),fun ol2 h2=>?_⟩
   have ec:Tt ((o::os).map V.str) (some 1) none=os.map V.str:=zjO
   rw[ec]
   have g4:=g3.trans (Same.new h2 (.lst (os.map V.str)))
   have e4:upd H3 ol2 (.lst (os.map V.str)) ol2=some _:=zm
   have s4:=(Same.new h2 (.lst (os.map V.str))) _ _ e3
   generalize upd H3 ol2 _=H4 at g4 e4 s4 ⊢
   refine⟨_,rfl,by show 0<=sizeLine;decide,fun el0 zrx=>?_⟩
   have g5:=Same.new zrx (.lst [])
   have e5:upd H4 el0 (.lst []) el0=some (.lst []):=zm
   generalize upd H4 el0 _=H5 at g5 e5 ⊢
   by_cases sn:sp=[]
   ·subst sn
    refine⟨true,fun z=>absurd z.1 zug,.ll (e:=fun _=>true) (zB.of (g5 _ _ s4)) (zB.of e5) rfl (fun j x y hx=>absurd hx (by simp)),_,rfl,yD (yD ?_)⟩
    refine⟨by show 1<=sizeLine;decide,fun t ht=>?_⟩
    have g6:=(g4.trans g5).trans (Same.new ht (.tup [.str "yes"]))
    exact hu _ _ ⟨bl,ol2,t,os,.c0 true,c,far,true,z1,z2,z3,z4,_,_,_,_,_,_,_,_,_,_,_,g6.seq hS,g6 _ _ hbl,(g5.trans (Same.new ht (.tup [.str "yes"]))) _ _ e4,zbF (zs:=[]) ho hW (fun z hz=>by cases hz) .nil,fun z=>absurd z (by decide),fun _=>zbE (zs:=[]) ho hW (fun z hz=>by cases hz),⟨zm,trivial,by decide,by decide⟩,fr0,fr1,rfl⟩
   ·have ne:(sp.map V.str).length≠([]:List V).length:=fun e=>sn (List.length_eq_zero_iff.mp (by rw[zuc] at e;exact e))
    refine⟨false,fun z=>absurd z.1 zug,.ln (zB.of (g5 _ _ s4)) (zB.of e5) ne,_,rfl,xH ?_⟩
    refine⟨_,rfl,c,15,2,rfl,by decide,by decide,by decide,fun r r0 r1=>⟨rfl,_,rfl,xQ (fun _=>?_) (fun _=>?_)⟩⟩
    ·have lsp:(sp.map V.str).length=sp.length:=zuc _
     have sp0':0<sp.length:=List.length_pos_iff.mpr sn
     refine⟨_,rfl,_,rfl,c,16,60,rfl,by decide,by decide,by decide,fun r' r0' r1'=>?_⟩
     refine⟨_,rfl,sl,_,rfl,.inl (zB.of (g5 _ _ s4)),_,_,rfl,rfl,?_,?_⟩
     ·show(0:Int)<((sp.map V.str).length:Nat)
      omega
     have m4:0<=r'%((sp.map V.str).length:Nat):=zuT _ (by omega)
     have m5:r'%((sp.map V.str).length:Nat)<((sp.map V.str).length:Nat):=zuQ _ (by omega)
     obtain⟨x,hx,hx'⟩:=Lb (os:=sp) (i:=r'%((sp.map V.str).length:Nat)) (by omega) (by omega)
     refine⟨sl,_,_,_,rfl,rfl,zB.of (g5 _ _ s4),hx',?_⟩
     refine⟨by show 1<=sizeLine;decide,fun l1 hl1=>?_⟩
     have g6:=Same.new hl1 (.lst [.str x])
     have e6:upd H5 l1 (.lst [.str x]) l1=some (.lst [.str x]):=zm
     generalize upd H5 l1 _=H6 at g6 e6 ⊢
     have o8:=ho.le
     have o8':os.length<=7:=by rw[zuo] at o8;omega
     refine⟨_,rfl,l1,ol2,_,_,rfl,rfl,zB.of e6,zB.of (g6 _ _ (g5 _ _ e4)),?_,fun ol3 h3=>?_⟩
     ·rw[zuc];exact zuu (yI (by show 1+os.length<=1000;omega))
     have g7:=Same.new h3 (.lst ([.str x]++os.map V.str))
     have e7:upd H6 ol3 (.lst ([.str x]++os.map V.str)) ol3=some (.lst (([x]++os).map V.str)):=zm
     generalize upd H6 ol3 _=H7 at g7 e7 ⊢
     refine⟨by show 1<=sizeLine;decide,fun t ht=>?_⟩
     have g8:=Same.new ht (.tup [.str "yes"])
     have g9:=(((g4.trans g5).trans g6).trans g7).trans g8
     exact hu _ _ ⟨bl,ol3,t,[x]++os,.c0 true,c,far,true,z1,z2,z3,z4,_,_,_,_,_,_,_,_,_,_,_,g9.seq hS,g9 _ _ hbl,g8 _ _ e7,zbF (zs:=[x]) ho hW (fun z hz=>by rw[List.mem_singleton.mp hz];exact hsp x hx) (by simp),fun z=>absurd z (by decide),fun _=>zbE (zs:=[x]) ho hW (fun z hz=>by rw[List.mem_singleton.mp hz];exact(hsp x hx).1),⟨zm,trivial,by decide,by decide⟩,fr0,fr1,rfl⟩
    ·refine⟨by show 1<=sizeLine;decide,fun t ht=>?_⟩
     have g6:=(g4.trans g5).trans (Same.new ht (.tup [.str "yes"]))
     exact hu _ _ ⟨bl,ol2,t,os,.c0 true,c,far,true,z1,z2,z3,z4,_,_,_,_,_,_,_,_,_,_,_,g6.seq hS,g6 _ _ hbl,(g5.trans (Same.new ht (.tup [.str "yes"]))) _ _ e4,zbF (zs:=[]) ho hW (fun z hz=>by cases hz) .nil,fun z=>absurd z (by decide),fun _=>zbE (zs:=[]) ho hW (fun z hz=>by cases hz),⟨zm,trivial,by decide,by decide⟩,fr0,fr1,rfl⟩
 refine zff (zm5 a.zj K sc ns) (fun t z=>(zf (Zf 4 sc_law.nd (zll T.zmw zga hr rfl T.zn6 T.J9.b .nil zhG (za (pv 8) zc)))
   (zf (Zf 5 sc_law.nd (xg (za (xu (pv 4) T.yr T.Ys Wi hr (za (pv 9) zc)) (za zq (za zq zc)))))
   z))) ?_ ?_
 ·rintro u hu σ H ⟨bl,ol,p0,os,s0,c,far,z0,z1,z2,z3,z4,f4,f5,f6,f7,f10,f11,f12,f13,f14,f15,f16,hS,hbl,hol,ho,w1,w0,sp0,fr0,fr1,rfl⟩
  refine⟨_,rfl,fun bk dx hbk hdx hne=>⟨bk,dx,ol,os,rfl,zm,Ne.symm hne,?_,ho,fun H4 F0 keep hB hF=>⟨rfl,?_⟩⟩⟩
  ·refine zB.of ?_
   rw[zE (zF hol hbk),zE (zF hol hdx)]
   exact hol
  have L0:=Uv.made hbk hdx hne keep hB hF
  clear keep hF
  have zmE:=sp0.mono (wz.of L0.same)
  obtain⟨dx0,fs,Jx,hm⟩:=L.ins L0.bk
  refine⟨_,rfl,bk,dx0,fs,rfl,Jx,hm _ (by decide +kernel),_,rfl,bk,p0,os,[none,none],F0,s0,rfl,L0.bk,by decide,zmE.is_,zmE.V1,zmE.ct,zmE.dp,fun k0 rs1 H5 aw1 tu1 Yu gr1 mk0 hh1=>?_⟩
  have L1:=L0.grow aw1 Yu hh1
  refine⟨by show 3<=sizeLine;decide,fun rl hrl=>?_⟩
  have g6:=Same.new hrl (.lst [.int (k0:Nat),.int 0,.int 1])
  have r2:2<=rs1.length:=zux (by decide) gr1.len
  exact hu _ _ ⟨H,bl,ol,bk,rl,p0,os,rs1,F0,_,_,_,c,far,z0,z1,z2,z3,z4,_,_,_,_,_,_,_,_,_,⟨L1.new g6,hS,hol,hbl,ho,w1,w0,zm,L.fresh L1.bk hrl,L1.same.free hrl⟩,⟨k0,rfl,mk0.1⟩,⟨0,rfl,by omega⟩,⟨1,rfl,by omega⟩,fr0,fr1,rfl⟩
 refine zff (zm6 a.zj K sc ns) (fun t z=>(zf (yZ (Tj (wR (yO yP (pv 2) zq (fun _ _=>rfl)) (fun _=>rfl))) (zf (KZ (xu (pv 4) T.yr T.Ys Wi hr (za (zu Zv hr T.Zu (za (pv 0) (za zq (za (zW vP zq (zW tD (zu wC hr T.wB (za (pv 0) (za zq zc))) zq)) (za (zu VN hr T.Xr (za (pv 8) zc)) zc))))) zc)) (zdH (pv 5) zq set_list))
   (zp (KZ (xu (pv 4) T.yr T.Ys Wi hr (za (zu Zv hr T.Zu (za (pv 0) (za zq (za (zW vP zq (zW tD (zu wC hr T.wB (za (pv 0) (za zq zc))) zq)) (za (zu VN hr T.Xr (za (pv 8) zc)) zc))))) zc)) (zdH (pv 5) zq set_list)))) yC)
   z)) ?_ ?_
 ·rintro u hu σ H ⟨H1,bl,ol,bk,rl,p0,os,rs,F,i,x,y,c,far,z0,z1,z2,z3,z4,f6,f7,f10,f11,f12,f13,f14,f15,f16,S,ii,ix0,iy,fr0,fr1,rfl⟩
  cases z0 with
  | true =>
   refine⟨_,rfl,bl,_,_,.bl true,rfl,rfl,S.Vn,rfl,_,rfl,yD ?_⟩
   exact hu _ _ ⟨H1,bl,ol,bk,rl,p0,os,rs,F,i,x,y,c,far,true,z1,z2,z3,z4,_,_,_,_,_,_,_,_,_,S.up (by decide),ii,ix0,iy,fun z=>absurd z (by decide),fr0,fr1,rfl⟩
  | false =>
   refine⟨_,rfl,bl,_,_,.bl false,rfl,rfl,S.Vn,rfl,_,rfl,xH ?_⟩
   obtain⟨hW,hn⟩:=S.w1 rfl
   have ho:=S.ho
   have n4:=RV os
   obtain⟨dx1,fs1,zgc,hm1⟩:=L.ins S.led.bk
   have c1:0<=uK ns 11%6/\uK ns 11%6<6:=⟨zuT _ (by decide),zuQ _ (by decide)⟩
   refine⟨_,rfl,bk,dx1,fs1,rfl,zgc,hm1 _ (by decide +kernel),_,rfl,_,rfl,sc,ns,11,rfl,S.scL,uK ns 11,6,rfl,rfl,(show(0:Int)<6 by decide),1,_,rfl,rfl,_,rfl,ol,os,rfl,S.olL,fun nl1 Ha1 ga1 _ zry=>?_⟩
   have Sa1:=S.new ga1
   refine⟨sc,nl1,ns,12,(1+uK ns 11%6).toNat,wZ os,?_,Sa1.scL,zB.of zry,hn,by omega,by omega,by omega,by decide,fun p1 Hb1 s1 gb1 is1 in1 d1=>?_⟩
   ·rw[Int.toNat_of_nonneg (by omega)]
    rfl
   have Sb1:=Sa1.new gb1
   have ct1:s1.count<=200:=by
    have h3:=Sn.RT s1
    have h4:2^s1.depth<=2^7:=zuH (by decide) (by omega)
    have h5:2^7=128:=rfl
    omega
   have sp1:zaf (wZ os) Hb1 s1 p1:=⟨is1,in1,ct1,by omega⟩
   refine⟨bk,p1,os,rs,F,s1,rfl,Sb1.led.bk,by have:=Sb1.led.len;omega,sp1.all.is_,sp1.all.V1,sp1.ct,sp1.dp,fun k1 rs1 Hc1 aw1 tu1 Yu gr1 mk1 hh1=>?_⟩
   have Sc1:=Sb1.grow aw1 Yu hh1
   have on1:=zds ho sp1.V1 mk1
   refine⟨_,rfl,rl,_,_,1,rfl,rfl,Sc1.hrl,rfl,?_⟩
   have Sd:=Sc1.set i (k1:Nat) y
   have eD:upd Hc1 rl (.lst ([V.int i,.int x,.int y].set 1 (.int (k1:Nat))))=upd Hc1 rl (.lst [.int i,.int (k1:Nat),.int y]):=rfl
   rw[eD]
   generalize upd Hc1 rl _=Hd at Sd ⊢
   obtain⟨dx2,fs2,zpS,hm2⟩:=L.ins Sd.led.bk
   have c2:0<=uK ns 19%6/\uK ns 19%6<6:=⟨zuT _ (by decide),zuQ _ (by decide)⟩
   refine⟨_,rfl,bk,dx2,fs2,rfl,zpS,hm2 _ (by decide +kernel),_,rfl,_,rfl,sc,ns,19,rfl,Sd.scL,uK ns 19,6,rfl,rfl,(show(0:Int)<6 by decide),1,_,rfl,rfl,_,rfl,ol,os,rfl,Sd.olL,fun nl2 Ha2 ga2 _ zrB=>?_⟩
   have Sa2:=Sd.new ga2
   refine⟨sc,nl2,ns,20,(1+uK ns 19%6).toNat,wZ os,?_,Sa2.scL,zB.of zrB,hn,by omega,by omega,by omega,by decide,fun p2 Hb2 s2 gb2 is2 in2 d2=>?_⟩
   ·rw[Int.toNat_of_nonneg (by omega)]
    rfl
   have Sb2:=Sa2.new gb2
   have ct2:s2.count<=200:=by
    have h3:=Sn.RT s2
    have h4:2^s2.depth<=2^7:=zuH (by decide) (by omega)
    have h5:2^7=128:=rfl
    omega
   have sp2:zaf (wZ os) Hb2 s2 p2:=⟨is2,in2,ct2,by omega⟩
   refine⟨bk,p2,os,rs1,F,s2,rfl,Sb2.led.bk,by have:=Sb2.led.len;omega,sp2.all.is_,sp2.all.V1,sp2.ct,sp2.dp,fun k2 Mh Hc2 aw2 tu2 hB2 gr2 mk2 hh2=>?_⟩
   have Sc2:=Sb2.grow aw2 hB2 hh2
   have on2:=zds ho sp2.V1 mk2
   refine⟨_,rfl,rl,_,_,2,rfl,rfl,Sc2.hrl,rfl,?_⟩
   have Se:=Sc2.set i (k1:Nat) (k2:Nat)
   have eE:upd Hc2 rl (.lst ([V.int i,.int (k1:Nat),.int y].set 2 (.int (k2:Nat))))=upd Hc2 rl (.lst [.int i,.int (k1:Nat),.int (k2:Nat)]):=rfl
   rw[eE]
   have on1':=on1.grown Sd.B gr2
   obtain⟨k0,rfl,hk0⟩:=ii
   exact hu _ _ ⟨H1,bl,ol,bk,rl,p0,os,Mh,F,_,_,_,c,far,false,z1,z2,z3,z4,_,_,_,_,_,_,_,_,_,Se,⟨k0,rfl,zul hk0 (zux gr1.len gr2.len)⟩,⟨k1,rfl,on1'.1⟩,⟨k2,rfl,on2.1⟩,fun _=>⟨⟨k1,rfl,on1'.1,fun _=>on1',fun z=>absurd z (by decide)⟩,⟨k2,rfl,on2.1,fun _=>on2,fun z=>absurd z (by decide)⟩⟩,fr0,fr1,rfl⟩
 refine zff (zm7 a.zj K sc ns) (fun t z=>(zf (vO PassesOwn.never rfl (Ry (uN (za zq (za zq zc)))) (yS (i:=6) sc_law.nd rfl (Or.inl rfl)) (zp (yZ (PW.pt (Nj (wR (yO yP (pv 2) (zW vP zq (pv 6)) (fun _ _=>rfl)) (fun _=>rfl)) (Tg (Tj (wR (yO yP (pv 2) zq (fun _ _=>rfl)) (fun _=>rfl)))))) (zf (MN (i:=14) sc_law.nd rfl (Or.inl rfl) (.inl rfl) (Zx:=zx S_law) (js:=[8]) rfl (by show XJ _ _ "mark" ["order"];exact lco (by decide +kernel)) rfl (vg (pv 8)) (by show ∀j∈([8]:List Nat),j<17;decide) (fun cl C s₂ H₂ fp pins s' σ' H' Q I h=>wpAny_tests_one ((zP (zdc (K:=K) rfl) (pv 0) (zu VN hr T.Xr (za (pv 1) zc)) (by with_unfolding_all rfl)) pins s' σ' H' Q I h)) (fun cl C s₂ H₂ fp=>(pv 0)) rfl)
   (zf (Zf 15 sc_law.nd (uN (za xT (za (yO yP (pv 14) (zW tD (zu yt hr T.yu (za (pv 1) (za zq (za zq zc)))) (zR zO rfl T.wY xV (za (pv 14) zc))) (fun _ _=>rfl)) zc))))
   (zf (Zf 16 sc_law.nd (uN (za xT (za (yO yP (zu VN hr T.Xr (za (pv 8) zc)) (zW tD (zu yt hr T.yu (za (pv 1) (za zq (za zq zc)))) (zR zO rfl T.wY xV (za (pv 14) zc))) (fun _ _=>rfl)) zc))))
   (zp (KZ (xu (pv 4) T.yr T.Ys Wi hr (za (yO yP (xg (za (pv 15) (za (uN (za xT (za (pv 16) (za (pv 15) zc)))) (za (uN (za xT (za (pv 16) (za (pv 15) zc)))) zc)))) (zu yt hr T.yu (za (pv 1) (za zq (za zq zc)))) (fun _ _=>rfl)) zc)) (zdH (pv 5) (pv 6) set_list)))))) yC)))
   z)) ?_ ?_
 ·rintro u hu σ H ⟨H1,bl,ol,bk,rl,p0,os,rs,F,i,x,y,c,far,z0,z1,z2,z3,z4,f6,f7,f10,f11,f12,f13,f14,f15,f16,S,ii,ix0,iy,hD,fr0,fr1,rfl⟩
  refine⟨by show 2<=sizeLine;decide,fun tk htk=>?_⟩
  have gk:=Same.new htk (.tup [.int 1,.int 2])
  have ek:upd H tk (.tup [.int 1,.int 2]) tk=some _:=zm
  have S0:=S.new gk
  generalize upd H tk _=H0 at gk ek S0 ⊢
  refine⟨tk,rfl,⟨_,vf.of ek⟩,?_⟩
  refine zdI (xs:=[.int 1,.int 2]) (fun n σ H=>H tk=some (.tup [.int 1,.int 2])/\zpP a.zj K sc ns H1 ol bk rl bl p0 os F z0 z1 z2 z3 z4 i c far f7 f10 f11 f12 f13 n σ H) ⟨ek,rs,x,y,_,_,_,_,S0,ii,ix0,iy,hD,rfl⟩ (fun n σ H' _ h=>vf.of h.1) ?_ ?_
  ·rintro n v σ Hn hv ⟨etk,rs,x,y,f6,f14,f15,f16,S,ii,ix0,iy,hx,rfl⟩
   match n,hv with
   | 0,hv =>
    cases hv
    refine⟨_,rfl,_,rfl,_,_,rfl,rfl,bl,_,_,.bl z3,rfl,rfl,S.Vn,rfl,_,rfl,?_⟩
    cases z3 with
    | false =>
     refine yD (yD ?_)
     exact⟨etk,rs,x,y,_,_,_,_,S.up (by decide),ii,ix0,iy,(fun z=>hx z),rfl⟩
    | true =>
     refine xH ?_
     cases z0 with
     | true =>
      refine⟨_,rfl,bl,_,_,.bl true,rfl,rfl,S.Vn,rfl,_,rfl,yD ?_⟩
      exact⟨etk,rs,x,y,_,_,_,_,S.up (by decide),ii,ix0,iy,fun z=>absurd z (by decide),rfl⟩
     | false =>
      refine⟨_,rfl,bl,_,_,.bl false,rfl,rfl,S.Vn,rfl,_,rfl,xH ?_⟩
      obtain⟨hW,hn⟩:=S.w1 rfl
      have ho:=S.ho
      obtain⟨lt,ltl,ltp⟩:=zfx ho hW hn
      refine⟨_,rfl,ol,rfl,⟨_,S.olL⟩,?_⟩
      refine Xl (fun v=>!inV v ((wZ os).map V.str)) S.olL (by rw[zuc];exact zuu (yI (by have:=ho.le;omega))) (fun x H' Q h=>⟨_,rfl,h⟩) (fun v H' Q0 hv g hQ=>?_) (fun H2 ll g2 hll=>?_)
      ·obtain⟨z,hz,rfl⟩:=List.mem_map.mp hv
       have S':=S.new g
       refine⟨_,rfl,_,rfl,ol,os,rfl,S'.olL,fun nl H3 g3 _ hnl=>?_⟩
       exact⟨nl,_,rfl,.inl (zB.of hnl),rfl,wD _,_,rfl,hQ _ (g.trans g3)⟩
      rw[List.filter_map]
      obtain⟨lat,zof⟩:∃lat:List Str,os.filter ((fun v=>!inV v ((wZ os).map V.str)) ∘ V.str)=lat:=⟨_,rfl⟩
      rw[zof] at lt ltl ltp ⊢
      have g3:=g2.trans (Same.new hll (.lst (lat.map V.str)))
      have e3:upd H2 ll (.lst (lat.map V.str)) ll=some _:=zm
      have S3:=S.new g3
      generalize upd H2 ll _=H3 at g3 e3 S3 ⊢
      have zrE:(lat.map V.str).length=lat.length:=zuc _
      have pick:∀r:Int,0<=r%((lat.map V.str).length:Nat)/\r%((lat.map V.str).length:Nat)<(lat.length:Nat):=fun r=>⟨zuT _ (by omega),by have:=zuQ r (b:=((lat.map V.str).length:Nat)) (by omega);omega⟩
      refine⟨_,rfl,_,rfl,c,10,60,rfl,by decide,by decide,by decide,fun r r0 r1=>?_⟩
      refine⟨_,rfl,ll,_,rfl,.inl (zB.of e3),_,_,rfl,rfl,?_,?_⟩
      ·show(0:Int)<((lat.map V.str).length:Nat)
       omega
      obtain⟨u,hu1,hu2⟩:=Lb (os:=lat) (i:=r%((lat.map V.str).length:Nat)) (by have:=(pick r).1;omega) (pick r).2
      refine⟨ll,_,_,_,rfl,rfl,zB.of e3,hu2,?_⟩
      refine⟨by show 2<=sizeLine;decide,fun tn htn=>?_⟩
      have g4:=Same.new htn (.tup [.str "mark", .str u])
      have e4:upd H3 tn (.tup [.str "mark", .str u]) tn=some _:=zm
      have S4:=S3.new g4
      have l4:=g4 _ _ e3
      generalize upd H3 tn _=H4 at g4 e4 S4 l4 ⊢
      refine⟨_,rfl,ol,os,rfl,S4.olL,fun nl H5 g5 _ hnl=>?_⟩
      have S5:=S4.new g5
      refine⟨_,rfl,c,13,60,rfl,by decide,by decide,by decide,fun r' r0' r1'=>?_⟩
      refine⟨_,rfl,ll,_,rfl,.inl (zB.of (g5 _ _ l4)),_,_,rfl,rfl,?_,?_⟩
      ·show(0:Int)<((lat.map V.str).length:Nat)
       omega
      have pr':=pick r'
      obtain⟨n,hn1,hn2⟩:=Lb (os:=wZ os) (i:=r'%((lat.map V.str).length:Nat)) (by omega) (by omega)
      refine⟨nl,_,_,_,rfl,rfl,zB.of hnl,hn2,?_⟩
      refine⟨by show 2<=sizeLine;decide,fun tw htw=>?_⟩
      have g6:=Same.new htw (.tup [.str "mark", .str n])
      have e6:upd H5 tw (.tup [.str "mark", .str n]) tw=some _:=zm
      have S6:=S5.new g6
      have n6:=g6 _ _ (g5 _ _ e4)
      generalize upd H5 tw _=H6 at g6 e6 S6 n6 ⊢
      obtain⟨dx1,fs1,zgc,hm1⟩:=L.ins S6.led.bk
      refine⟨_,rfl,bk,dx1,fs1,rfl,zgc,hm1 _ (by decide +kernel),_,rfl,_,rfl,_,rfl,by show 3<=sizeLine;decide,fun t1 ht1=>?_⟩
      have g7:=Same.new ht1 (.tup [.str "or", .ref tw,.ref tn])
      have e7:upd H6 t1 (.tup [.str "or", .ref tw,.ref tn]) t1=some _:=zm
      have S7:=S6.new g7
      have m7:=g7 _ _ e6
      have n7:=g7 _ _ n6
      generalize upd H6 t1 _=H7 at g7 e7 S7 m7 n7 ⊢
      refine⟨_,rfl,_,rfl,by show 3<=sizeLine;decide,fun t2 ht2=>?_⟩
      have g8:=Same.new ht2 (.tup [.str "either", .ref tw,.ref tn])
      have e8:upd H7 t2 (.tup [.str "either", .ref tw,.ref tn]) t2=some _:=zm
      have S8:=S7.new g8
      have m8:=g8 _ _ m7
      have n8:=g8 _ _ n7
      have o8:=g8 _ _ e7
      generalize upd H7 t2 _=H8 at g8 e8 S8 m8 n8 o8 ⊢
      refine⟨by show 3<=sizeLine;decide,fun l3 hl3=>?_⟩
      have g9:=Same.new hl3 (.lst [.ref tn,.ref t1,.ref t2])
      have e9:upd H8 l3 (.lst [.ref tn,.ref t1,.ref t2]) l3=some _:=zm
      have S9:=S8.new g9
      have m9:=g9 _ _ m8
      have n9:=g9 _ _ n8
      have o9:=g9 _ _ o8
      have q9:=g9 _ _ e8
      generalize upd H8 l3 _=H9 at g9 e9 S9 m9 n9 o9 q9 ⊢
      refine⟨_,rfl,c,14,3,rfl,by decide,by decide,by decide,fun r3 r30 r31=>?_⟩
      have un:u≠n:=fun e=>NK ho (lt u hu1) (e ▸ hn1)
      have uo:u∈os:=zej (lt u hu1)
      have no:n∈os:=zkJ hn1
      obtain⟨j,v,hv',hj⟩:=Tz (xs:=[V.ref tn,.ref t1,.ref t2]) (i:=r3) (by show -(3:Int)<=r3;omega) r31
      have hs:∃(p:Addr) (s:Sn),v=.ref p/\RJ H9 s p/\s.V1 os/\s.count<=200/\s.depth<=24/\∃e:Str->Bool,s.val (fun z=>if z=u then true else e z)≠s.val (fun z=>if z=u then false else e z):=by
       have hx:=zuh hj
       simp only[List.mem_cons,zuC,or_false] at hx
       rcases hx with rfl | rfl | rfl
       ·exact⟨tn,.mk u,rfl,n9,uo,by show 1<=200;decide,by show 1<=24;decide,fun _=>false,by show(if u=u then true else false)≠(if u=u then false else false);rw[if_pos rfl,if_pos rfl];decide⟩
       ·refine⟨t1,.b2 1 (.mk n) (.mk u),rfl,⟨tw,tn,o9,m9,n9⟩,⟨no,uo⟩,by show 1+(1+1)<=200;decide,by show 1+max 1 1<=24;decide,fun _=>false,?_⟩
        show((if n=u then true else false)||(if u=u then true else false))≠((if n=u then false else false)||(if u=u then false else false))
        rw[if_pos rfl,if_pos rfl,if_neg (Ne.symm un),if_neg (Ne.symm un)]
        decide
       ·refine⟨t2,.b2 2 (.mk n) (.mk u),rfl,⟨tw,tn,q9,m9,n9⟩,⟨no,uo⟩,by show 1+(1+1)<=200;decide,by show 1+max 1 1<=24;decide,fun _=>false,?_⟩
        show((if n=u then true else false) ^^ (if u=u then true else false))≠((if n=u then false else false) ^^ (if u=u then false else false))
        rw[if_pos rfl,if_pos rfl,if_neg (Ne.symm un),if_neg (Ne.symm un)]
        decide
      obtain⟨p,s,rfl,is_,ino,cnt,dep,hd⟩:=hs
      refine⟨l3,_,_,_,rfl,rfl,zB.of e9,hv',?_⟩
      refine⟨bk,p,os,rs,F,s,rfl,S9.led.bk,by have:=S9.led.len;omega,is_,ino,cnt,dep,fun kk Mh Hc aw tu hB2 gr mk hh=>?_⟩
      have Sc:=S9.grow aw hB2 hh
      have nh:=zfw ho mk (lt u hu1) hd ino
      refine⟨_,rfl,_,rfl,rl,_,_,1,rfl,rfl,Sc.hrl,rfl,?_⟩
      have Sd:=Sc.set i (kk:Nat) y
      obtain⟨hx1,hx2⟩:=hx rfl
      have hx1:=hx1.grown S.B gr
      have hx2:=hx2.grown S.B gr
      have nn:Jl os Mh true (kk:Nat):=⟨kk,rfl,mk.1,fun z=>absurd z (by decide),fun _=>nh⟩
      have up:∀{z:Int},(∃k0:Nat,z=(k0:Nat)/\k0<rs.length)->∃k0:Nat,z=(k0:Nat)/\k0<Mh.length:=fun⟨k0,e,l⟩=>⟨k0,e,zul l gr.len⟩
      have ek2:upd Hc rl (.lst [.int i,.int (kk:Nat),.int y]) tk=some (.tup [.int 1,.int 2]):=(wz.lst Sc.hrl _) _ _ (tu _ _ (g9 _ _ (g8 _ _ (g7 _ _ (g6 _ _ (g5 _ _ (g4 _ _ (g3 _ _ etk))))))))
      exact⟨ek2,Mh,_,_,_,_,_,_,Sd,up ii,⟨kk,rfl,mk.1⟩,up iy,fun _=>⟨nn,hx2⟩,rfl⟩
   | 1,hv =>
    cases hv
    refine⟨_,rfl,_,rfl,_,_,rfl,rfl,bl,_,_,.bl z4,rfl,rfl,S.Vn,rfl,_,rfl,?_⟩
    cases z4 with
    | false =>
     refine yD (yD ?_)
     exact⟨etk,rs,x,y,_,_,_,_,S.up (by decide),ii,ix0,iy,(fun z=>hx z),rfl⟩
    | true =>
     refine xH ?_
     cases z0 with
     | true =>
      refine⟨_,rfl,bl,_,_,.bl true,rfl,rfl,S.Vn,rfl,_,rfl,yD ?_⟩
      exact⟨etk,rs,x,y,_,_,_,_,S.up (by decide),ii,ix0,iy,fun z=>absurd z (by decide),rfl⟩
     | false =>
      refine⟨_,rfl,bl,_,_,.bl false,rfl,rfl,S.Vn,rfl,_,rfl,xH ?_⟩
      obtain⟨hW,hn⟩:=S.w1 rfl
      have ho:=S.ho
      obtain⟨lt,ltl,ltp⟩:=zfx ho hW hn
      refine⟨_,rfl,ol,rfl,⟨_,S.olL⟩,?_⟩
      refine Xl (fun v=>!inV v ((wZ os).map V.str)) S.olL (by rw[zuc];exact zuu (yI (by have:=ho.le;omega))) (fun x H' Q h=>⟨_,rfl,h⟩) (fun v H' Q0 hv g hQ=>?_) (fun H2 ll g2 hll=>?_)
      ·obtain⟨z,hz,rfl⟩:=List.mem_map.mp hv
       have S':=S.new g
       refine⟨_,rfl,_,rfl,ol,os,rfl,S'.olL,fun nl H3 g3 _ hnl=>?_⟩
       exact⟨nl,_,rfl,.inl (zB.of hnl),rfl,wD _,_,rfl,hQ _ (g.trans g3)⟩
      rw[List.filter_map]
      obtain⟨lat,zof⟩:∃lat:List Str,os.filter ((fun v=>!inV v ((wZ os).map V.str)) ∘ V.str)=lat:=⟨_,rfl⟩
      rw[zof] at lt ltl ltp ⊢
      have g3:=g2.trans (Same.new hll (.lst (lat.map V.str)))
      have e3:upd H2 ll (.lst (lat.map V.str)) ll=some _:=zm
      have S3:=S.new g3
      generalize upd H2 ll _=H3 at g3 e3 S3 ⊢
      have zrE:(lat.map V.str).length=lat.length:=zuc _
      have pick:∀r:Int,0<=r%((lat.map V.str).length:Nat)/\r%((lat.map V.str).length:Nat)<(lat.length:Nat):=fun r=>⟨zuT _ (by omega),by have:=zuQ r (b:=((lat.map V.str).length:Nat)) (by omega);omega⟩
      refine⟨_,rfl,_,rfl,c,10,60,rfl,by decide,by decide,by decide,fun r r0 r1=>?_⟩
      refine⟨_,rfl,ll,_,rfl,.inl (zB.of e3),_,_,rfl,rfl,?_,?_⟩
      ·show(0:Int)<((lat.map V.str).length:Nat)
       omega
      obtain⟨u,hu1,hu2⟩:=Lb (os:=lat) (i:=r%((lat.map V.str).length:Nat)) (by have:=(pick r).1;omega) (pick r).2
      refine⟨ll,_,_,_,rfl,rfl,zB.of e3,hu2,?_⟩
      refine⟨by show 2<=sizeLine;decide,fun tn htn=>?_⟩
      have g4:=Same.new htn (.tup [.str "mark", .str u])
      have e4:upd H3 tn (.tup [.str "mark", .str u]) tn=some _:=zm
      have S4:=S3.new g4
      have l4:=g4 _ _ e3
      generalize upd H3 tn _=H4 at g4 e4 S4 l4 ⊢
      refine⟨_,rfl,ol,os,rfl,S4.olL,fun nl H5 g5 _ hnl=>?_⟩
      have S5:=S4.new g5
      refine⟨_,rfl,c,13,60,rfl,by decide,by decide,by decide,fun r' r0' r1'=>?_⟩
      refine⟨_,rfl,ll,_,rfl,.inl (zB.of (g5 _ _ l4)),_,_,rfl,rfl,?_,?_⟩
      ·show(0:Int)<((lat.map V.str).length:Nat)
       omega
      have pr':=pick r'
      obtain⟨n,hn1,hn2⟩:=Lb (os:=wZ os) (i:=r'%((lat.map V.str).length:Nat)) (by omega) (by omega)
      refine⟨nl,_,_,_,rfl,rfl,zB.of hnl,hn2,?_⟩
      refine⟨by show 2<=sizeLine;decide,fun tw htw=>?_⟩
      have g6:=Same.new htw (.tup [.str "mark", .str n])
      have e6:upd H5 tw (.tup [.str "mark", .str n]) tw=some _:=zm
      have S6:=S5.new g6
      have n6:=g6 _ _ (g5 _ _ e4)
      generalize upd H5 tw _=H6 at g6 e6 S6 n6 ⊢
      obtain⟨dx1,fs1,zgc,hm1⟩:=L.ins S6.led.bk
      refine⟨_,rfl,bk,dx1,fs1,rfl,zgc,hm1 _ (by decide +kernel),_,rfl,_,rfl,_,rfl,by show 3<=sizeLine;decide,fun t1 ht1=>?_⟩
      have g7:=Same.new ht1 (.tup [.str "or", .ref tw,.ref tn])
      have e7:upd H6 t1 (.tup [.str "or", .ref tw,.ref tn]) t1=some _:=zm
      have S7:=S6.new g7
      have m7:=g7 _ _ e6
      have n7:=g7 _ _ n6
      generalize upd H6 t1 _=H7 at g7 e7 S7 m7 n7 ⊢
      refine⟨_,rfl,_,rfl,by show 3<=sizeLine;decide,fun t2 ht2=>?_⟩
      have g8:=Same.new ht2 (.tup [.str "either", .ref tw,.ref tn])
      have e8:upd H7 t2 (.tup [.str "either", .ref tw,.ref tn]) t2=some _:=zm
      have S8:=S7.new g8
      have m8:=g8 _ _ m7
      have n8:=g8 _ _ n7
      have o8:=g8 _ _ e7
      generalize upd H7 t2 _=H8 at g8 e8 S8 m8 n8 o8 ⊢
      refine⟨by show 3<=sizeLine;decide,fun l3 hl3=>?_⟩
      have g9:=Same.new hl3 (.lst [.ref tn,.ref t1,.ref t2])
      have e9:upd H8 l3 (.lst [.ref tn,.ref t1,.ref t2]) l3=some _:=zm
      have S9:=S8.new g9
      have m9:=g9 _ _ m8
      have n9:=g9 _ _ n8
      have o9:=g9 _ _ o8
      have q9:=g9 _ _ e8
      generalize upd H8 l3 _=H9 at g9 e9 S9 m9 n9 o9 q9 ⊢
      refine⟨_,rfl,c,14,3,rfl,by decide,by decide,by decide,fun r3 r30 r31=>?_⟩
      have un:u≠n:=fun e=>NK ho (lt u hu1) (e ▸ hn1)
      have uo:u∈os:=zej (lt u hu1)
      have no:n∈os:=zkJ hn1
      obtain⟨j,v,hv',hj⟩:=Tz (xs:=[V.ref tn,.ref t1,.ref t2]) (i:=r3) (by show -(3:Int)<=r3;omega) r31
      have hs:∃(p:Addr) (s:Sn),v=.ref p/\RJ H9 s p/\s.V1 os/\s.count<=200/\s.depth<=24/\∃e:Str->Bool,s.val (fun z=>if z=u then true else e z)≠s.val (fun z=>if z=u then false else e z):=by
       have hx:=zuh hj
       simp only[List.mem_cons,zuC,or_false] at hx
       rcases hx with rfl | rfl | rfl
       ·exact⟨tn,.mk u,rfl,n9,uo,by show 1<=200;decide,by show 1<=24;decide,fun _=>false,by show(if u=u then true else false)≠(if u=u then false else false);rw[if_pos rfl,if_pos rfl];decide⟩
       ·refine⟨t1,.b2 1 (.mk n) (.mk u),rfl,⟨tw,tn,o9,m9,n9⟩,⟨no,uo⟩,by show 1+(1+1)<=200;decide,by show 1+max 1 1<=24;decide,fun _=>false,?_⟩
        show((if n=u then true else false)||(if u=u then true else false))≠((if n=u then false else false)||(if u=u then false else false))
        rw[if_pos rfl,if_pos rfl,if_neg (Ne.symm un),if_neg (Ne.symm un)]
        decide
       ·refine⟨t2,.b2 2 (.mk n) (.mk u),rfl,⟨tw,tn,q9,m9,n9⟩,⟨no,uo⟩,by show 1+(1+1)<=200;decide,by show 1+max 1 1<=24;decide,fun _=>false,?_⟩
        show((if n=u then true else false) ^^ (if u=u then true else false))≠((if n=u then false else false) ^^ (if u=u then false else false))
        rw[if_pos rfl,if_pos rfl,if_neg (Ne.symm un),if_neg (Ne.symm un)]
        decide
      obtain⟨p,s,rfl,is_,ino,cnt,dep,hd⟩:=hs
      refine⟨l3,_,_,_,rfl,rfl,zB.of e9,hv',?_⟩
      refine⟨bk,p,os,rs,F,s,rfl,S9.led.bk,by have:=S9.led.len;omega,is_,ino,cnt,dep,fun kk Mh Hc aw tu hB2 gr mk hh=>?_⟩
      have Sc:=S9.grow aw hB2 hh
      have nh:=zfw ho mk (lt u hu1) hd ino
      refine⟨_,rfl,_,rfl,rl,_,_,2,rfl,rfl,Sc.hrl,rfl,?_⟩
      have Sd:=Sc.set i x (kk:Nat)
      obtain⟨hx1,hx2⟩:=hx rfl
      have hx1:=hx1.grown S.B gr
      have hx2:=hx2.grown S.B gr
      have nn:Jl os Mh true (kk:Nat):=⟨kk,rfl,mk.1,fun z=>absurd z (by decide),fun _=>nh⟩
      have up:∀{z:Int},(∃k0:Nat,z=(k0:Nat)/\k0<rs.length)->∃k0:Nat,z=(k0:Nat)/\k0<Mh.length:=fun⟨k0,e,l⟩=>⟨k0,e,zul l gr.len⟩
      have ek2:upd Hc rl (.lst [.int i,.int x,.int (kk:Nat)]) tk=some (.tup [.int 1,.int 2]):=(wz.lst Sc.hrl _) _ _ (tu _ _ (g9 _ _ (g8 _ _ (g7 _ _ (g6 _ _ (g5 _ _ (g4 _ _ (g3 _ _ etk))))))))
      exact⟨ek2,Mh,_,_,_,_,_,_,Sd,up ii,up ix0,⟨kk,rfl,mk.1⟩,fun _=>⟨hx1,nn⟩,rfl⟩
  ·rintro σ Hn ⟨_,rs,x,y,f6,f14,f15,f16,S,ii,ix0,iy,hx,rfl⟩
   exact hu _ _ ⟨H1,bl,ol,bk,rl,p0,os,rs,F,i,x,y,c,far,z0,z1,z2,z3,z4,_,_,_,_,_,_,_,_,_,S,ii,ix0,iy,hx,fr0,fr1,rfl⟩
 refine zff (zm8 a.zj K sc ns) (fun t z=>(zf (yZ (wR (yO yP (pv 2) zq (fun _ _=>rfl)) (fun _=>rfl)) (zp (KZ (yO yP (xg (za (zcV K1 zq) (za (zW zaX (zcV K1 zq) (pv 3)) (za (pv 3) zc)))) (zu yt hr T.yu (za (pv 1) (za zq (za zq zc)))) (fun _ _=>rfl)) (zdH (pv 5) (zu yt hr T.yu (za (pv 1) (za zq (za zq zc)))) set_list))) yC)
   z)) ?_ ?_
 ·rintro u hu σ H ⟨H1,bl,ol,bk,rl,p0,os,rs,F,i,x,y,c,far,z0,z1,z2,z3,z4,f6,f7,f10,f11,f12,f13,f14,f15,f16,S,ii,ix0,iy,hD,fr0,fr1,rfl⟩
  have ln:=S.led.len
  have fi:zmr rs i:=by
   obtain⟨k0,rfl,hk⟩:=ii
   have e:fB (k0:Nat)=false:=by
    unfold fB
    rw[decide_eq_false (by omega),decide_eq_false (by omega)]
    rfl
   exact⟨zbC (zul (by omega:((k0:Nat):Int).natAbs<100000) (by decide)),(fun w=>by rw[e] at w;cases w),fun _=>⟨k0,rfl,hk⟩⟩
  have fx:T6 os rs z0 z3 x:=T6.near ix0 (by omega) fun z=>(hD z).1
  have fy:T6 os rs z0 z4 y:=T6.near iy (by omega) fun z=>(hD z).2
  cases z1 with
  | false =>
   refine⟨_,rfl,bl,_,_,.bl false,rfl,rfl,S.Vn,rfl,_,rfl,yD ?_⟩
   exact hu _ _ ⟨H1,bl,ol,bk,rl,p0,os,rs,F,i,x,y,c,far,z0,false,z2,z3,z4,_,_,_,_,_,_,_,_,_,S.up (by decide),fi,fx,fy,rfl⟩
  | true =>
   refine⟨_,rfl,bl,_,_,.bl true,rfl,rfl,S.Vn,rfl,_,rfl,xH ?_⟩
   refine⟨_,rfl,_,rfl,_,rfl,_,_,rfl,rfl,_,rfl,by show 3<=sizeLine;decide,fun l hl=>?_⟩
   have g1:=Same.new hl (.lst [V.int (-1),.int (-1-far),.int far])
   have e1:upd H l (.lst [V.int (-1),.int (-1-far),.int far]) l=some _:=zm
   have S1:=S.new g1
   generalize upd H l _=H2 at g1 e1 S1 ⊢
   refine⟨_,rfl,c,12,3,rfl,by decide,by decide,by decide,fun r r0 r1=>?_⟩
   obtain⟨j,v,hv,hj⟩:=Tz (xs:=[V.int (-1),.int (-1-far),.int far]) (i:=r) (by show -(3:Int)<=r;omega) r1
   have hb:∃z:Int,v=.int z/\Small z/\(z<0\/100000<=z):=by
    have hx:=zuh hj
    simp only[List.mem_cons,zuC,or_false] at hx
    have sml:∀x:Int,x.natAbs<=4000000000->Small x:=fun x h=>zbC (Nat.lt_of_le_of_lt h (by decide))
    rcases hx with rfl | rfl | rfl
    ·exact⟨_,rfl,by decide,.inl (by decide)⟩
    ·exact⟨_,rfl,sml _ (by omega),.inl (by omega)⟩
    ·exact⟨_,rfl,sml _ (by omega),.inr (by omega)⟩
   obtain⟨z,rfl,sz,bz⟩:=hb
   refine⟨l,_,_,_,rfl,rfl,zB.of e1,hv,?_⟩
   refine⟨_,rfl,_,rfl,c,11,3,rfl,by decide,by decide,by decide,fun q q0 q1=>?_⟩
   have fz:fB z=true:=by
    unfold fB
    rcases bz with bz | bz
    ·rw[decide_eq_true bz];rfl
    ·rw[decide_eq_true (by omega:90000<z)];exact Bool.or_true _
   have q3:q=0\/q=1\/q=2:=by omega
   rcases q3 with rfl | rfl | rfl
   ·refine⟨rl,_,_,0,rfl,rfl,S1.hrl,rfl,hu _ _ ⟨H1,bl,ol,bk,rl,p0,os,rs,F,z,x,y,c,far,z0,true,z2,z3,z4,_,_,_,_,_,_,_,_,_,(S1.set z x y).up (by decide),⟨sz,fun _=>bz,fun e=>by rw[fz] at e;cases e⟩,fx,fy,rfl⟩⟩
   ·refine⟨rl,_,_,1,rfl,rfl,S1.hrl,rfl,hu _ _ ⟨H1,bl,ol,bk,rl,p0,os,rs,F,i,z,y,c,far,z0,true,z2,z3,z4,_,_,_,_,_,_,_,_,_,(S1.set i z y).up (by decide),fi,T6.far sz bz,fy,rfl⟩⟩
   ·refine⟨rl,_,_,2,rfl,rfl,S1.hrl,rfl,hu _ _ ⟨H1,bl,ol,bk,rl,p0,os,rs,F,i,x,z,c,far,z0,true,z2,z3,z4,_,_,_,_,_,_,_,_,_,(S1.set i x z).up (by decide),fi,fx,T6.far sz bz,rfl⟩⟩
 refine⟨_,(zf (vO PassesOwn.never rfl (Um rfl T.VL (za zq zc)) (yS (i:=7) sc_law.nd rfl (Or.inl rfl)) (zf (Zf 11 sc_law.nd (Mr (zP Mt (pv 7) zq (yg _)) (pv 5) (Uq zhE (pv 5) zaC (Vj zq))))
   (zf (Zf 12 sc_law.nd xT)
   (zf (yZ (PW.pt (Pk (wR (yO yP (pv 2) zq (fun _ _=>rfl)) (fun _=>rfl)) (Ti (PW.pt (Nj (wR (yO yP (pv 2) zq (fun _ _=>rfl)) (fun _=>rfl)) (Tg (zP Mt (pv 7) zq (yg _)))))))) (zp (Zf 12 sc_law.nd xT)) yC)
   (zf (yZ (zP Mt (zR zO rfl T.wY xV (za (zjx (Zx:=zx S_law) (js:=[]) rfl (by show XJ _ _ "room" [];exact lco (by decide +kernel)) rfl (vg (pv 11)) (by show ∀j∈([]:List Nat),j<17;decide) (fun cl C s₂ H₂ fp=>(PW.pt (Pk (zP zcW (pv 0) zq (yg _)) (Ti (zP Mt (pv 0) zq (yg _)))))) (fun cl C s₂ H₂ fp=>(pv 0))) zc)) zq (yg _)) (zp (Zf 12 sc_law.nd xT)) yC)
   (zf (yZ (wR (yO yP (pv 2) zq (fun _ _=>rfl)) (fun _=>rfl)) (zp (Zf 12 sc_law.nd xT)) yC)
   (zf (Zf 13 sc_law.nd (zu zgb hr T.J8 (za (pv 7) (za (pv 4) (za (yO yP (pv 5) zq (fun _ _=>rfl)) (za (yO yP (pv 5) zq (fun _ _=>rfl)) (za (yO yP (pv 5) zq (fun _ _=>rfl)) zc)))))))
   (zp (yZ (PW.pt (Nj (zP (zn2 rfl (hu8 hr)) (pv 13) (pv 12) (yg _)) (Tg (Tj (wR (zu zhs hr T.zbV (za (pv 13) (za (pv 12) zc))) (fun _=>rfl)))))) (zp (zV Pj)) yC)))))))))
   (zp (zV Pj))),?_⟩
 rintro σ H ⟨H1,bl,ol,bk,rl,p0,os,rs,F,i,x,y,c,far,z0,z1,z2,z3,z4,f6,f7,f10,f11,f12,f13,f14,f15,f16,S,hi,hx,hy,rfl⟩
 refine⟨9,rfl,by decide,by decide,?_⟩
 refine Uo (lo:=0) (n:=9) (zpQ a.zj K sc ns H1 ol bk rl bl p0 os F z0 z1 z2 z3 z4 i x y c far f6 f10 f14 f15 f16) ⟨rs,_,_,_,_,S.up (by decide),hi,hx,hy,rfl⟩ ?_ (fun σ H' _=>q H')
 rintro j σ H2 hj ⟨rs,f7',f11',f12',f13',S,hi,hx,hy,rfl⟩
 have ej:(0:Int)+(j:Int)=(j:Int):=by omega
 rw[ej]
 have bd:400+63*j+(if 4<j then 16128 else 0)<=80000:=by split<;>omega
 have bd':400+63*j+(if 4<j then 16128 else 0)+gb j<=400+63*(j+1)+(if 4<j+1 then 16128 else 0):=by
  unfold gb
  split<;>split<;>split<;>omega
 have bd0:400+63*j+(if 4<j then 16128 else 0)<=400+63*(j+1)+(if 4<j+1 then 16128 else 0):=by
  split<;>split<;>omega
 by_cases c4:4<j
 ·refine⟨_,rfl,_,_,rfl,rfl,_,rfl,?_⟩
  rw[decide_eq_true (show(4:Int)<(j:Nat) by omega)]
  refine xH ⟨_,rfl,?_⟩
  have S1:=S
  cases z3 with
  | true =>
   refine⟨_,rfl,bl,_,_,.bl true,rfl,rfl,S1.Vn,rfl,_,rfl,xH (xH ?_)⟩
   have hb1:true=(true||(z4&&decide (4<j))):=rfl
   refine⟨_,rfl,rl,rfl,⟨_,zB.of S1.hrl⟩,?_⟩
   refine Xl (xs:=[V.int i,.int x,.int y]) Uk (zB.of S1.hrl) (by show 3<=sizeLine;decide) (fun x H' Q h=>⟨_,rfl,h⟩) (fun v H' Q0 hv g hQ=>?_) (fun H2' fl g2 hfl=>?_)
   ·have hz:∃z:Int,v=.int z:=by
     simp only[List.mem_cons,zuC,or_false] at hv
     rcases hv with rfl | rfl | rfl<;>exact⟨_,rfl⟩
    obtain⟨z,rfl⟩:=hz
    have hQ:=hQ H' g
    refine⟨_,rfl,_,_,rfl,rfl,_,rfl,xQ (fun c=>?_) (fun c=>?_)⟩
    ·have e:fB z=true:=by unfold fB;rw[show decide (z<0)=true from c];rfl
     rw[show Uk (.int z)=true from e] at hQ
     exact hQ
    ·have e:fB z=decide (90000<z):=by unfold fB;rw[show decide (z<0)=false from Bool.eq_false_iff.mpr c];rfl
     rw[show Uk (.int z)=decide (90000<z) from e] at hQ
     exact⟨_,rfl,_,_,rfl,rfl,_,rfl,hQ⟩
   have S3:=S1.new (g2.trans (Same.new hfl (.lst (([V.int i,.int x,.int y]).filter Uk))))
   have efl:upd H2' fl (.lst (([V.int i,.int x,.int y]).filter Uk)) fl=some _:=zm
   have K8:decide (((0:Int))<((([V.int i,.int x,.int y]).filter Uk).length:Nat))=(fB i||fB x||(decide (4<j)&&fB y)):=by
    rw[decide_eq_true c4,Bool.true_and]
    cases ei:fB i<;>cases ex:fB x<;>cases ey:fB y<;>simp[List.filter,Uk,ei,ex,ey]
   generalize upd H2' fl _=H3 at S3 efl ⊢
   refine⟨fl,_,rfl,.inl (zB.of efl),_,_,rfl,rfl,_,rfl,?_⟩
   have dw:=Yz (c:=j) (z0:=z0) (z3:=true) (z4:=z4) (fi:=fB i) (fx:=fB x) (fy:=fB y) hb1 K8.symm.symm
   rw[K8] at dw ⊢
   cases eb:(fB i||fB x||(decide (4<j)&&fB y)) with
   | true =>
    rw[eb] at dw
    refine xH ?_
    cases z0 with
    | true =>
     refine⟨_,rfl,bl,_,_,.bl true,rfl,rfl,S3.Vn,rfl,_,rfl,xH ?_⟩
     cases e:wF j (!true) (!fB i) (!(true||fB x)) (!(z4||fB y)) with
     | none =>
      rw[e] at dw
      refine⟨_,rfl,_,rfl,_,rfl,rl,_,_,_,rfl,rfl,zB.of S3.hrl,rfl,_,rfl,rl,_,_,_,rfl,rfl,zB.of S3.hrl,rfl,_,rfl,rl,_,_,_,rfl,rfl,zB.of S3.hrl,rfl,j,bk,i,x,y,_,_,_,_,os,rs,F,rfl,hj,S3.inn bd hi hx hy,fun _ H4 XF aw tu Xh gr hh=>?_,fun n e'=>absurd (e.symm.trans e') (by simp)⟩
      exact⟨_,rfl,_,rfl,.inl ⟨rfl,_,rfl,wQ (congrArg V.str dw) (yD ⟨XF,_,_,_,_,(S3.grow aw Xh hh).up bd',⟨hi.1,hi.2.1,fun z=>let ⟨k0,e0,l0⟩:=hi.2.2 z;⟨k0,e0,zul l0 gr.len⟩⟩,hx.grown S3.B gr,hy.grown S3.B gr,rfl⟩)⟩⟩
     | some n =>
      rw[e] at dw
      refine⟨_,rfl,_,rfl,_,rfl,rl,_,_,_,rfl,rfl,zB.of S3.hrl,rfl,_,rfl,rl,_,_,_,rfl,rfl,zB.of S3.hrl,rfl,_,rfl,rl,_,_,_,rfl,rfl,zB.of S3.hrl,rfl,j,bk,i,x,y,_,_,_,_,os,rs,F,rfl,hj,S3.inn bd hi hx hy,fun e'=>absurd (e.symm.trans e') (by simp),fun n' e' t l H4 g4 ht hl'=>?_⟩
      obtain rfl:=zuG (e.symm.trans e')
      exact⟨_,rfl,_,rfl,.inr ⟨false,fun z=>absurd z.1 zug,.tf (vf.of ht) rfl,_,rfl,xH ⟨_,rfl,_,rfl,t,l,_,rfl,ht,zB.of (hl'.trans (congrArg (fun s=>some (HO.lst [V.str s])) dw)),fun H5 g5=>⟨_,rfl,yD ⟨rs,_,_,_,_,(S3.new (g4.trans g5)).up bd0,hi,hx,hy,rfl⟩⟩⟩⟩⟩
    | false =>
     refine⟨_,rfl,bl,_,_,.bl false,rfl,rfl,S3.Vn,rfl,_,rfl,yD ?_⟩
     cases e:wF j (!false) (!fB i) (!(true||fB x)) (!(z4||fB y)) with
     | none =>
      rw[e] at dw
      refine⟨_,rfl,_,rfl,_,rfl,rl,_,_,_,rfl,rfl,zB.of S3.hrl,rfl,_,rfl,rl,_,_,_,rfl,rfl,zB.of S3.hrl,rfl,_,rfl,rl,_,_,_,rfl,rfl,zB.of S3.hrl,rfl,j,bk,i,x,y,_,_,_,_,os,rs,F,rfl,hj,S3.inn bd hi hx hy,fun _ H4 XF aw tu Xh gr hh=>?_,fun n e'=>absurd (e.symm.trans e') (by simp)⟩
      exact⟨_,rfl,_,rfl,.inl ⟨rfl,_,rfl,wQ (congrArg V.str dw) (yD ⟨XF,_,_,_,_,(S3.grow aw Xh hh).up bd',⟨hi.1,hi.2.1,fun z=>let ⟨k0,e0,l0⟩:=hi.2.2 z;⟨k0,e0,zul l0 gr.len⟩⟩,hx.grown S3.B gr,hy.grown S3.B gr,rfl⟩)⟩⟩
     | some n =>
      rw[e] at dw
      refine⟨_,rfl,_,rfl,_,rfl,rl,_,_,_,rfl,rfl,zB.of S3.hrl,rfl,_,rfl,rl,_,_,_,rfl,rfl,zB.of S3.hrl,rfl,_,rfl,rl,_,_,_,rfl,rfl,zB.of S3.hrl,rfl,j,bk,i,x,y,_,_,_,_,os,rs,F,rfl,hj,S3.inn bd hi hx hy,fun e'=>absurd (e.symm.trans e') (by simp),fun n' e' t l H4 g4 ht hl'=>?_⟩
      obtain rfl:=zuG (e.symm.trans e')
      exact⟨_,rfl,_,rfl,.inr ⟨false,fun z=>absurd z.1 zug,.tf (vf.of ht) rfl,_,rfl,xH ⟨_,rfl,_,rfl,t,l,_,rfl,ht,zB.of (hl'.trans (congrArg (fun s=>some (HO.lst [V.str s])) dw)),fun H5 g5=>⟨_,rfl,yD ⟨rs,_,_,_,_,(S3.new (g4.trans g5)).up bd0,hi,hx,hy,rfl⟩⟩⟩⟩⟩
   | false =>
    rw[eb] at dw
    refine yD ?_
    cases z0 with
    | true =>
     refine⟨_,rfl,bl,_,_,.bl true,rfl,rfl,S3.Vn,rfl,_,rfl,xH ?_⟩
     cases e:wF j (!true) (!fB i) (!(true||fB x)) (!(z4||fB y)) with
     | none =>
      rw[e] at dw
      refine⟨_,rfl,_,rfl,_,rfl,rl,_,_,_,rfl,rfl,zB.of S3.hrl,rfl,_,rfl,rl,_,_,_,rfl,rfl,zB.of S3.hrl,rfl,_,rfl,rl,_,_,_,rfl,rfl,zB.of S3.hrl,rfl,j,bk,i,x,y,_,_,_,_,os,rs,F,rfl,hj,S3.inn bd hi hx hy,fun _ H4 XF aw tu Xh gr hh=>?_,fun n e'=>absurd (e.symm.trans e') (by simp)⟩
      exact⟨_,rfl,_,rfl,.inl ⟨rfl,_,rfl,wQ (congrArg V.str dw) (yD ⟨XF,_,_,_,_,(S3.grow aw Xh hh).up bd',⟨hi.1,hi.2.1,fun z=>let ⟨k0,e0,l0⟩:=hi.2.2 z;⟨k0,e0,zul l0 gr.len⟩⟩,hx.grown S3.B gr,hy.grown S3.B gr,rfl⟩)⟩⟩
     | some n =>
      rw[e] at dw
      refine⟨_,rfl,_,rfl,_,rfl,rl,_,_,_,rfl,rfl,zB.of S3.hrl,rfl,_,rfl,rl,_,_,_,rfl,rfl,zB.of S3.hrl,rfl,_,rfl,rl,_,_,_,rfl,rfl,zB.of S3.hrl,rfl,j,bk,i,x,y,_,_,_,_,os,rs,F,rfl,hj,S3.inn bd hi hx hy,fun e'=>absurd (e.symm.trans e') (by simp),fun n' e' t l H4 g4 ht hl'=>?_⟩
      obtain rfl:=zuG (e.symm.trans e')
      exact⟨_,rfl,_,rfl,.inr ⟨false,fun z=>absurd z.1 zug,.tf (vf.of ht) rfl,_,rfl,xH ⟨_,rfl,_,rfl,t,l,_,rfl,ht,zB.of (hl'.trans (congrArg (fun s=>some (HO.lst [V.str s])) dw)),fun H5 g5=>⟨_,rfl,yD ⟨rs,_,_,_,_,(S3.new (g4.trans g5)).up bd0,hi,hx,hy,rfl⟩⟩⟩⟩⟩
    | false =>
     refine⟨_,rfl,bl,_,_,.bl false,rfl,rfl,S3.Vn,rfl,_,rfl,yD ?_⟩
     cases e:wF j (!false) (!fB i) (!(true||fB x)) (!(z4||fB y)) with
     | none =>
      rw[e] at dw
      refine⟨_,rfl,_,rfl,_,rfl,rl,_,_,_,rfl,rfl,zB.of S3.hrl,rfl,_,rfl,rl,_,_,_,rfl,rfl,zB.of S3.hrl,rfl,_,rfl,rl,_,_,_,rfl,rfl,zB.of S3.hrl,rfl,j,bk,i,x,y,_,_,_,_,os,rs,F,rfl,hj,S3.inn bd hi hx hy,fun _ H4 XF aw tu Xh gr hh=>?_,fun n e'=>absurd (e.symm.trans e') (by simp)⟩
      exact⟨_,rfl,_,rfl,.inl ⟨rfl,_,rfl,wQ (congrArg V.str dw) (yD ⟨XF,_,_,_,_,(S3.grow aw Xh hh).up bd',⟨hi.1,hi.2.1,fun z=>let ⟨k0,e0,l0⟩:=hi.2.2 z;⟨k0,e0,zul l0 gr.len⟩⟩,hx.grown S3.B gr,hy.grown S3.B gr,rfl⟩)⟩⟩
     | some n =>
      rw[e] at dw
      refine⟨_,rfl,_,rfl,_,rfl,rl,_,_,_,rfl,rfl,zB.of S3.hrl,rfl,_,rfl,rl,_,_,_,rfl,rfl,zB.of S3.hrl,rfl,_,rfl,rl,_,_,_,rfl,rfl,zB.of S3.hrl,rfl,j,bk,i,x,y,_,_,_,_,os,rs,F,rfl,hj,S3.inn bd hi hx hy,fun e'=>absurd (e.symm.trans e') (by simp),fun n' e' t l H4 g4 ht hl'=>?_⟩
      obtain rfl:=zuG (e.symm.trans e')
      exact⟨_,rfl,_,rfl,.inr ⟨false,fun z=>absurd z.1 zug,.tf (vf.of ht) rfl,_,rfl,xH ⟨_,rfl,_,rfl,t,l,_,rfl,ht,zB.of (hl'.trans (congrArg (fun s=>some (HO.lst [V.str s])) dw)),fun H5 g5=>⟨_,rfl,yD ⟨rs,_,_,_,_,(S3.new (g4.trans g5)).up bd0,hi,hx,hy,rfl⟩⟩⟩⟩⟩
  | false =>
   cases z4 with
   | false =>
    refine⟨_,rfl,bl,_,_,.bl false,rfl,rfl,S1.Vn,rfl,_,rfl,yD ⟨_,rfl,bl,_,_,.bl false,rfl,rfl,S1.Vn,rfl,_,rfl,yD (yD ?_)⟩⟩
    have hb1:false=(false||(false&&decide (4<j))):=rfl
    refine⟨_,rfl,rl,rfl,⟨_,zB.of S1.hrl⟩,?_⟩
    refine Xl (xs:=[V.int i,.int x,.int y]) Uk (zB.of S1.hrl) (by show 3<=sizeLine;decide) (fun x H' Q h=>⟨_,rfl,h⟩) (fun v H' Q0 hv g hQ=>?_) (fun H2' fl g2 hfl=>?_)
    ·have hz:∃z:Int,v=.int z:=by
      simp only[List.mem_cons,zuC,or_false] at hv
      rcases hv with rfl | rfl | rfl<;>exact⟨_,rfl⟩
     obtain⟨z,rfl⟩:=hz
     have hQ:=hQ H' g
     refine⟨_,rfl,_,_,rfl,rfl,_,rfl,xQ (fun c=>?_) (fun c=>?_)⟩
     ·have e:fB z=true:=by unfold fB;rw[show decide (z<0)=true from c];rfl
      rw[show Uk (.int z)=true from e] at hQ
      exact hQ
     ·have e:fB z=decide (90000<z):=by unfold fB;rw[show decide (z<0)=false from Bool.eq_false_iff.mpr c];rfl
      rw[show Uk (.int z)=decide (90000<z) from e] at hQ
      exact⟨_,rfl,_,_,rfl,rfl,_,rfl,hQ⟩
    have S3:=S1.new (g2.trans (Same.new hfl (.lst (([V.int i,.int x,.int y]).filter Uk))))
    have efl:upd H2' fl (.lst (([V.int i,.int x,.int y]).filter Uk)) fl=some _:=zm
    have K8:decide (((0:Int))<((([V.int i,.int x,.int y]).filter Uk).length:Nat))=(fB i||fB x||(decide (4<j)&&fB y)):=by
     rw[decide_eq_true c4,Bool.true_and]
     cases ei:fB i<;>cases ex:fB x<;>cases ey:fB y<;>simp[List.filter,Uk,ei,ex,ey]
    generalize upd H2' fl _=H3 at S3 efl ⊢
    refine⟨fl,_,rfl,.inl (zB.of efl),_,_,rfl,rfl,_,rfl,?_⟩
    have dw:=Yz (c:=j) (z0:=z0) (z3:=false) (z4:=false) (fi:=fB i) (fx:=fB x) (fy:=fB y) hb1 K8.symm.symm
    rw[K8] at dw ⊢
    cases eb:(fB i||fB x||(decide (4<j)&&fB y)) with
    | true =>
     rw[eb] at dw
     refine xH ?_
     cases z0 with
     | true =>
      refine⟨_,rfl,bl,_,_,.bl true,rfl,rfl,S3.Vn,rfl,_,rfl,xH ?_⟩
      cases e:wF j (!true) (!fB i) (!(false||fB x)) (!(false||fB y)) with
      | none =>
       rw[e] at dw
       refine⟨_,rfl,_,rfl,_,rfl,rl,_,_,_,rfl,rfl,zB.of S3.hrl,rfl,_,rfl,rl,_,_,_,rfl,rfl,zB.of S3.hrl,rfl,_,rfl,rl,_,_,_,rfl,rfl,zB.of S3.hrl,rfl,j,bk,i,x,y,_,_,_,_,os,rs,F,rfl,hj,S3.inn bd hi hx hy,fun _ H4 XF aw tu Xh gr hh=>?_,fun n e'=>absurd (e.symm.trans e') (by simp)⟩
       exact⟨_,rfl,_,rfl,.inl ⟨rfl,_,rfl,wQ (congrArg V.str dw) (yD ⟨XF,_,_,_,_,(S3.grow aw Xh hh).up bd',⟨hi.1,hi.2.1,fun z=>let ⟨k0,e0,l0⟩:=hi.2.2 z;⟨k0,e0,zul l0 gr.len⟩⟩,hx.grown S3.B gr,hy.grown S3.B gr,rfl⟩)⟩⟩
      | some n =>
       rw[e] at dw
       refine⟨_,rfl,_,rfl,_,rfl,rl,_,_,_,rfl,rfl,zB.of S3.hrl,rfl,_,rfl,rl,_,_,_,rfl,rfl,zB.of S3.hrl,rfl,_,rfl,rl,_,_,_,rfl,rfl,zB.of S3.hrl,rfl,j,bk,i,x,y,_,_,_,_,os,rs,F,rfl,hj,S3.inn bd hi hx hy,fun e'=>absurd (e.symm.trans e') (by simp),fun n' e' t l H4 g4 ht hl'=>?_⟩
       obtain rfl:=zuG (e.symm.trans e')
       exact⟨_,rfl,_,rfl,.inr ⟨false,fun z=>absurd z.1 zug,.tf (vf.of ht) rfl,_,rfl,xH ⟨_,rfl,_,rfl,t,l,_,rfl,ht,zB.of (hl'.trans (congrArg (fun s=>some (HO.lst [V.str s])) dw)),fun H5 g5=>⟨_,rfl,yD ⟨rs,_,_,_,_,(S3.new (g4.trans g5)).up bd0,hi,hx,hy,rfl⟩⟩⟩⟩⟩
     | false =>
      refine⟨_,rfl,bl,_,_,.bl false,rfl,rfl,S3.Vn,rfl,_,rfl,yD ?_⟩
      cases e:wF j (!false) (!fB i) (!(false||fB x)) (!(false||fB y)) with
      | none =>
       rw[e] at dw
       refine⟨_,rfl,_,rfl,_,rfl,rl,_,_,_,rfl,rfl,zB.of S3.hrl,rfl,_,rfl,rl,_,_,_,rfl,rfl,zB.of S3.hrl,rfl,_,rfl,rl,_,_,_,rfl,rfl,zB.of S3.hrl,rfl,j,bk,i,x,y,_,_,_,_,os,rs,F,rfl,hj,S3.inn bd hi hx hy,fun _ H4 XF aw tu Xh gr hh=>?_,fun n e'=>absurd (e.symm.trans e') (by simp)⟩
       exact⟨_,rfl,_,rfl,.inl ⟨rfl,_,rfl,wQ (congrArg V.str dw) (yD ⟨XF,_,_,_,_,(S3.grow aw Xh hh).up bd',⟨hi.1,hi.2.1,fun z=>let ⟨k0,e0,l0⟩:=hi.2.2 z;⟨k0,e0,zul l0 gr.len⟩⟩,hx.grown S3.B gr,hy.grown S3.B gr,rfl⟩)⟩⟩
      | some n =>
       rw[e] at dw
       refine⟨_,rfl,_,rfl,_,rfl,rl,_,_,_,rfl,rfl,zB.of S3.hrl,rfl,_,rfl,rl,_,_,_,rfl,rfl,zB.of S3.hrl,rfl,_,rfl,rl,_,_,_,rfl,rfl,zB.of S3.hrl,rfl,j,bk,i,x,y,_,_,_,_,os,rs,F,rfl,hj,S3.inn bd hi hx hy,fun e'=>absurd (e.symm.trans e') (by simp),fun n' e' t l H4 g4 ht hl'=>?_⟩
       obtain rfl:=zuG (e.symm.trans e')
       exact⟨_,rfl,_,rfl,.inr ⟨false,fun z=>absurd z.1 zug,.tf (vf.of ht) rfl,_,rfl,xH ⟨_,rfl,_,rfl,t,l,_,rfl,ht,zB.of (hl'.trans (congrArg (fun s=>some (HO.lst [V.str s])) dw)),fun H5 g5=>⟨_,rfl,yD ⟨rs,_,_,_,_,(S3.new (g4.trans g5)).up bd0,hi,hx,hy,rfl⟩⟩⟩⟩⟩
    | false =>
     rw[eb] at dw
     refine yD ?_
     cases z0 with
     | true =>
      refine⟨_,rfl,bl,_,_,.bl true,rfl,rfl,S3.Vn,rfl,_,rfl,xH ?_⟩
      cases e:wF j (!true) (!fB i) (!(false||fB x)) (!(false||fB y)) with
      | none =>
       rw[e] at dw
       refine⟨_,rfl,_,rfl,_,rfl,rl,_,_,_,rfl,rfl,zB.of S3.hrl,rfl,_,rfl,rl,_,_,_,rfl,rfl,zB.of S3.hrl,rfl,_,rfl,rl,_,_,_,rfl,rfl,zB.of S3.hrl,rfl,j,bk,i,x,y,_,_,_,_,os,rs,F,rfl,hj,S3.inn bd hi hx hy,fun _ H4 XF aw tu Xh gr hh=>?_,fun n e'=>absurd (e.symm.trans e') (by simp)⟩
       exact⟨_,rfl,_,rfl,.inl ⟨rfl,_,rfl,wQ (congrArg V.str dw) (yD ⟨XF,_,_,_,_,(S3.grow aw Xh hh).up bd',⟨hi.1,hi.2.1,fun z=>let ⟨k0,e0,l0⟩:=hi.2.2 z;⟨k0,e0,zul l0 gr.len⟩⟩,hx.grown S3.B gr,hy.grown S3.B gr,rfl⟩)⟩⟩
      | some n =>
       rw[e] at dw
       refine⟨_,rfl,_,rfl,_,rfl,rl,_,_,_,rfl,rfl,zB.of S3.hrl,rfl,_,rfl,rl,_,_,_,rfl,rfl,zB.of S3.hrl,rfl,_,rfl,rl,_,_,_,rfl,rfl,zB.of S3.hrl,rfl,j,bk,i,x,y,_,_,_,_,os,rs,F,rfl,hj,S3.inn bd hi hx hy,fun e'=>absurd (e.symm.trans e') (by simp),fun n' e' t l H4 g4 ht hl'=>?_⟩
       obtain rfl:=zuG (e.symm.trans e')
       exact⟨_,rfl,_,rfl,.inr ⟨false,fun z=>absurd z.1 zug,.tf (vf.of ht) rfl,_,rfl,xH ⟨_,rfl,_,rfl,t,l,_,rfl,ht,zB.of (hl'.trans (congrArg (fun s=>some (HO.lst [V.str s])) dw)),fun H5 g5=>⟨_,rfl,yD ⟨rs,_,_,_,_,(S3.new (g4.trans g5)).up bd0,hi,hx,hy,rfl⟩⟩⟩⟩⟩
     | false =>
      refine⟨_,rfl,bl,_,_,.bl false,rfl,rfl,S3.Vn,rfl,_,rfl,yD ?_⟩
      cases e:wF j (!false) (!fB i) (!(false||fB x)) (!(false||fB y)) with
      | none =>
       rw[e] at dw
       refine⟨_,rfl,_,rfl,_,rfl,rl,_,_,_,rfl,rfl,zB.of S3.hrl,rfl,_,rfl,rl,_,_,_,rfl,rfl,zB.of S3.hrl,rfl,_,rfl,rl,_,_,_,rfl,rfl,zB.of S3.hrl,rfl,j,bk,i,x,y,_,_,_,_,os,rs,F,rfl,hj,S3.inn bd hi hx hy,fun _ H4 XF aw tu Xh gr hh=>?_,fun n e'=>absurd (e.symm.trans e') (by simp)⟩
       exact⟨_,rfl,_,rfl,.inl ⟨rfl,_,rfl,wQ (congrArg V.str dw) (yD ⟨XF,_,_,_,_,(S3.grow aw Xh hh).up bd',⟨hi.1,hi.2.1,fun z=>let ⟨k0,e0,l0⟩:=hi.2.2 z;⟨k0,e0,zul l0 gr.len⟩⟩,hx.grown S3.B gr,hy.grown S3.B gr,rfl⟩)⟩⟩
      | some n =>
       rw[e] at dw
       refine⟨_,rfl,_,rfl,_,rfl,rl,_,_,_,rfl,rfl,zB.of S3.hrl,rfl,_,rfl,rl,_,_,_,rfl,rfl,zB.of S3.hrl,rfl,_,rfl,rl,_,_,_,rfl,rfl,zB.of S3.hrl,rfl,j,bk,i,x,y,_,_,_,_,os,rs,F,rfl,hj,S3.inn bd hi hx hy,fun e'=>absurd (e.symm.trans e') (by simp),fun n' e' t l H4 g4 ht hl'=>?_⟩
       obtain rfl:=zuG (e.symm.trans e')
       exact⟨_,rfl,_,rfl,.inr ⟨false,fun z=>absurd z.1 zug,.tf (vf.of ht) rfl,_,rfl,xH ⟨_,rfl,_,rfl,t,l,_,rfl,ht,zB.of (hl'.trans (congrArg (fun s=>some (HO.lst [V.str s])) dw)),fun H5 g5=>⟨_,rfl,yD ⟨rs,_,_,_,_,(S3.new (g4.trans g5)).up bd0,hi,hx,hy,rfl⟩⟩⟩⟩⟩
   | true =>
    refine⟨_,rfl,bl,_,_,.bl false,rfl,rfl,S1.Vn,rfl,_,rfl,yD ⟨_,rfl,bl,_,_,.bl true,rfl,rfl,S1.Vn,rfl,_,rfl,xH ⟨_,rfl,_,_,rfl,rfl,_,rfl,?_⟩⟩⟩
    rw[decide_eq_true (show(4:Int)<(j:Nat) by omega)]
    refine xH ?_
    have hb1:true=(false||(true&&decide (4<j))):=by rw[decide_eq_true c4];rfl
    refine⟨_,rfl,rl,rfl,⟨_,zB.of S1.hrl⟩,?_⟩
    refine Xl (xs:=[V.int i,.int x,.int y]) Uk (zB.of S1.hrl) (by show 3<=sizeLine;decide) (fun x H' Q h=>⟨_,rfl,h⟩) (fun v H' Q0 hv g hQ=>?_) (fun H2' fl g2 hfl=>?_)
    ·have hz:∃z:Int,v=.int z:=by
      simp only[List.mem_cons,zuC,or_false] at hv
      rcases hv with rfl | rfl | rfl<;>exact⟨_,rfl⟩
     obtain⟨z,rfl⟩:=hz
     have hQ:=hQ H' g
     refine⟨_,rfl,_,_,rfl,rfl,_,rfl,xQ (fun c=>?_) (fun c=>?_)⟩
     ·have e:fB z=true:=by unfold fB;rw[show decide (z<0)=true from c];rfl
      rw[show Uk (.int z)=true from e] at hQ
      exact hQ
     ·have e:fB z=decide (90000<z):=by unfold fB;rw[show decide (z<0)=false from Bool.eq_false_iff.mpr c];rfl
      rw[show Uk (.int z)=decide (90000<z) from e] at hQ
      exact⟨_,rfl,_,_,rfl,rfl,_,rfl,hQ⟩
    have S3:=S1.new (g2.trans (Same.new hfl (.lst (([V.int i,.int x,.int y]).filter Uk))))
    have efl:upd H2' fl (.lst (([V.int i,.int x,.int y]).filter Uk)) fl=some _:=zm
    have K8:decide (((0:Int))<((([V.int i,.int x,.int y]).filter Uk).length:Nat))=(fB i||fB x||(decide (4<j)&&fB y)):=by
     rw[decide_eq_true c4,Bool.true_and]
     cases ei:fB i<;>cases ex:fB x<;>cases ey:fB y<;>simp[List.filter,Uk,ei,ex,ey]
    generalize upd H2' fl _=H3 at S3 efl ⊢
    refine⟨fl,_,rfl,.inl (zB.of efl),_,_,rfl,rfl,_,rfl,?_⟩
    have dw:=Yz (c:=j) (z0:=z0) (z3:=false) (z4:=true) (fi:=fB i) (fx:=fB x) (fy:=fB y) hb1 K8.symm.symm
    rw[K8] at dw ⊢
    cases eb:(fB i||fB x||(decide (4<j)&&fB y)) with
    | true =>
     rw[eb] at dw
     refine xH ?_
     cases z0 with
     | true =>
      refine⟨_,rfl,bl,_,_,.bl true,rfl,rfl,S3.Vn,rfl,_,rfl,xH ?_⟩
      cases e:wF j (!true) (!fB i) (!(false||fB x)) (!(true||fB y)) with
      | none =>
       rw[e] at dw
       refine⟨_,rfl,_,rfl,_,rfl,rl,_,_,_,rfl,rfl,zB.of S3.hrl,rfl,_,rfl,rl,_,_,_,rfl,rfl,zB.of S3.hrl,rfl,_,rfl,rl,_,_,_,rfl,rfl,zB.of S3.hrl,rfl,j,bk,i,x,y,_,_,_,_,os,rs,F,rfl,hj,S3.inn bd hi hx hy,fun _ H4 XF aw tu Xh gr hh=>?_,fun n e'=>absurd (e.symm.trans e') (by simp)⟩
       exact⟨_,rfl,_,rfl,.inl ⟨rfl,_,rfl,wQ (congrArg V.str dw) (yD ⟨XF,_,_,_,_,(S3.grow aw Xh hh).up bd',⟨hi.1,hi.2.1,fun z=>let ⟨k0,e0,l0⟩:=hi.2.2 z;⟨k0,e0,zul l0 gr.len⟩⟩,hx.grown S3.B gr,hy.grown S3.B gr,rfl⟩)⟩⟩
      | some n =>
       rw[e] at dw
       refine⟨_,rfl,_,rfl,_,rfl,rl,_,_,_,rfl,rfl,zB.of S3.hrl,rfl,_,rfl,rl,_,_,_,rfl,rfl,zB.of S3.hrl,rfl,_,rfl,rl,_,_,_,rfl,rfl,zB.of S3.hrl,rfl,j,bk,i,x,y,_,_,_,_,os,rs,F,rfl,hj,S3.inn bd hi hx hy,fun e'=>absurd (e.symm.trans e') (by simp),fun n' e' t l H4 g4 ht hl'=>?_⟩
       obtain rfl:=zuG (e.symm.trans e')
       exact⟨_,rfl,_,rfl,.inr ⟨false,fun z=>absurd z.1 zug,.tf (vf.of ht) rfl,_,rfl,xH ⟨_,rfl,_,rfl,t,l,_,rfl,ht,zB.of (hl'.trans (congrArg (fun s=>some (HO.lst [V.str s])) dw)),fun H5 g5=>⟨_,rfl,yD ⟨rs,_,_,_,_,(S3.new (g4.trans g5)).up bd0,hi,hx,hy,rfl⟩⟩⟩⟩⟩
     | false =>
      refine⟨_,rfl,bl,_,_,.bl false,rfl,rfl,S3.Vn,rfl,_,rfl,yD ?_⟩
      cases e:wF j (!false) (!fB i) (!(false||fB x)) (!(true||fB y)) with
      | none =>
       rw[e] at dw
       refine⟨_,rfl,_,rfl,_,rfl,rl,_,_,_,rfl,rfl,zB.of S3.hrl,rfl,_,rfl,rl,_,_,_,rfl,rfl,zB.of S3.hrl,rfl,_,rfl,rl,_,_,_,rfl,rfl,zB.of S3.hrl,rfl,j,bk,i,x,y,_,_,_,_,os,rs,F,rfl,hj,S3.inn bd hi hx hy,fun _ H4 XF aw tu Xh gr hh=>?_,fun n e'=>absurd (e.symm.trans e') (by simp)⟩
       exact⟨_,rfl,_,rfl,.inl ⟨rfl,_,rfl,wQ (congrArg V.str dw) (yD ⟨XF,_,_,_,_,(S3.grow aw Xh hh).up bd',⟨hi.1,hi.2.1,fun z=>let ⟨k0,e0,l0⟩:=hi.2.2 z;⟨k0,e0,zul l0 gr.len⟩⟩,hx.grown S3.B gr,hy.grown S3.B gr,rfl⟩)⟩⟩
      | some n =>
       rw[e] at dw
       refine⟨_,rfl,_,rfl,_,rfl,rl,_,_,_,rfl,rfl,zB.of S3.hrl,rfl,_,rfl,rl,_,_,_,rfl,rfl,zB.of S3.hrl,rfl,_,rfl,rl,_,_,_,rfl,rfl,zB.of S3.hrl,rfl,j,bk,i,x,y,_,_,_,_,os,rs,F,rfl,hj,S3.inn bd hi hx hy,fun e'=>absurd (e.symm.trans e') (by simp),fun n' e' t l H4 g4 ht hl'=>?_⟩
       obtain rfl:=zuG (e.symm.trans e')
       exact⟨_,rfl,_,rfl,.inr ⟨false,fun z=>absurd z.1 zug,.tf (vf.of ht) rfl,_,rfl,xH ⟨_,rfl,_,rfl,t,l,_,rfl,ht,zB.of (hl'.trans (congrArg (fun s=>some (HO.lst [V.str s])) dw)),fun H5 g5=>⟨_,rfl,yD ⟨rs,_,_,_,_,(S3.new (g4.trans g5)).up bd0,hi,hx,hy,rfl⟩⟩⟩⟩⟩
    | false =>
     rw[eb] at dw
     refine yD ?_
     cases z0 with
     | true =>
      refine⟨_,rfl,bl,_,_,.bl true,rfl,rfl,S3.Vn,rfl,_,rfl,xH ?_⟩
      cases e:wF j (!true) (!fB i) (!(false||fB x)) (!(true||fB y)) with
      | none =>
       rw[e] at dw
       refine⟨_,rfl,_,rfl,_,rfl,rl,_,_,_,rfl,rfl,zB.of S3.hrl,rfl,_,rfl,rl,_,_,_,rfl,rfl,zB.of S3.hrl,rfl,_,rfl,rl,_,_,_,rfl,rfl,zB.of S3.hrl,rfl,j,bk,i,x,y,_,_,_,_,os,rs,F,rfl,hj,S3.inn bd hi hx hy,fun _ H4 XF aw tu Xh gr hh=>?_,fun n e'=>absurd (e.symm.trans e') (by simp)⟩
       exact⟨_,rfl,_,rfl,.inl ⟨rfl,_,rfl,wQ (congrArg V.str dw) (yD ⟨XF,_,_,_,_,(S3.grow aw Xh hh).up bd',⟨hi.1,hi.2.1,fun z=>let ⟨k0,e0,l0⟩:=hi.2.2 z;⟨k0,e0,zul l0 gr.len⟩⟩,hx.grown S3.B gr,hy.grown S3.B gr,rfl⟩)⟩⟩
      | some n =>
       rw[e] at dw
       refine⟨_,rfl,_,rfl,_,rfl,rl,_,_,_,rfl,rfl,zB.of S3.hrl,rfl,_,rfl,rl,_,_,_,rfl,rfl,zB.of S3.hrl,rfl,_,rfl,rl,_,_,_,rfl,rfl,zB.of S3.hrl,rfl,j,bk,i,x,y,_,_,_,_,os,rs,F,rfl,hj,S3.inn bd hi hx hy,fun e'=>absurd (e.symm.trans e') (by simp),fun n' e' t l H4 g4 ht hl'=>?_⟩
       obtain rfl:=zuG (e.symm.trans e')
       exact⟨_,rfl,_,rfl,.inr ⟨false,fun z=>absurd z.1 zug,.tf (vf.of ht) rfl,_,rfl,xH ⟨_,rfl,_,rfl,t,l,_,rfl,ht,zB.of (hl'.trans (congrArg (fun s=>some (HO.lst [V.str s])) dw)),fun H5 g5=>⟨_,rfl,yD ⟨rs,_,_,_,_,(S3.new (g4.trans g5)).up bd0,hi,hx,hy,rfl⟩⟩⟩⟩⟩
     | false =>
      refine⟨_,rfl,bl,_,_,.bl false,rfl,rfl,S3.Vn,rfl,_,rfl,yD ?_⟩
      cases e:wF j (!false) (!fB i) (!(false||fB x)) (!(true||fB y)) with
      | none =>
       rw[e] at dw
       refine⟨_,rfl,_,rfl,_,rfl,rl,_,_,_,rfl,rfl,zB.of S3.hrl,rfl,_,rfl,rl,_,_,_,rfl,rfl,zB.of S3.hrl,rfl,_,rfl,rl,_,_,_,rfl,rfl,zB.of S3.hrl,rfl,j,bk,i,x,y,_,_,_,_,os,rs,F,rfl,hj,S3.inn bd hi hx hy,fun _ H4 XF aw tu Xh gr hh=>?_,fun n e'=>absurd (e.symm.trans e') (by simp)⟩
       exact⟨_,rfl,_,rfl,.inl ⟨rfl,_,rfl,wQ (congrArg V.str dw) (yD ⟨XF,_,_,_,_,(S3.grow aw Xh hh).up bd',⟨hi.1,hi.2.1,fun z=>let ⟨k0,e0,l0⟩:=hi.2.2 z;⟨k0,e0,zul l0 gr.len⟩⟩,hx.grown S3.B gr,hy.grown S3.B gr,rfl⟩)⟩⟩
      | some n =>
       rw[e] at dw
       refine⟨_,rfl,_,rfl,_,rfl,rl,_,_,_,rfl,rfl,zB.of S3.hrl,rfl,_,rfl,rl,_,_,_,rfl,rfl,zB.of S3.hrl,rfl,_,rfl,rl,_,_,_,rfl,rfl,zB.of S3.hrl,rfl,j,bk,i,x,y,_,_,_,_,os,rs,F,rfl,hj,S3.inn bd hi hx hy,fun e'=>absurd (e.symm.trans e') (by simp),fun n' e' t l H4 g4 ht hl'=>?_⟩
       obtain rfl:=zuG (e.symm.trans e')
       exact⟨_,rfl,_,rfl,.inr ⟨false,fun z=>absurd z.1 zug,.tf (vf.of ht) rfl,_,rfl,xH ⟨_,rfl,_,rfl,t,l,_,rfl,ht,zB.of (hl'.trans (congrArg (fun s=>some (HO.lst [V.str s])) dw)),fun H5 g5=>⟨_,rfl,yD ⟨rs,_,_,_,_,(S3.new (g4.trans g5)).up bd0,hi,hx,hy,rfl⟩⟩⟩⟩⟩
 ·refine⟨_,rfl,_,_,rfl,rfl,_,rfl,?_⟩
  rw[decide_eq_false (show ¬(4:Int)<(j:Nat) by omega)]
  refine yD ⟨_,rfl,2,rfl,rl,_,rfl,zB.of S.hrl,fun ul hul=>?_⟩
  have ec:Tt [V.int i,.int x,.int y] none (some 2)=[.int i,.int x]:=zjY (n:=2)
  rw[ec]
  have S1:=S.new (Same.new hul (.lst [.int i,.int x]))
  have eu:upd H2 ul (.lst [.int i,.int x]) ul=some _:=zm
  generalize upd H2 ul _=H2u at S1 eu ⊢
  cases z3 with
  | true =>
   refine⟨_,rfl,bl,_,_,.bl true,rfl,rfl,S1.Vn,rfl,_,rfl,xH (xH ?_)⟩
   have hb1:true=(true||(z4&&decide (4<j))):=rfl
   refine⟨_,rfl,ul,rfl,⟨_,zB.of eu⟩,?_⟩
   refine Xl (xs:=[V.int i,.int x]) Uk (zB.of eu) (by show 2<=sizeLine;decide) (fun x H' Q h=>⟨_,rfl,h⟩) (fun v H' Q0 hv g hQ=>?_) (fun H2' fl g2 hfl=>?_)
   ·have hz:∃z:Int,v=.int z:=by
     simp only[List.mem_cons,zuC,or_false] at hv
     rcases hv with rfl | rfl<;>exact⟨_,rfl⟩
    obtain⟨z,rfl⟩:=hz
    have hQ:=hQ H' g
    refine⟨_,rfl,_,_,rfl,rfl,_,rfl,xQ (fun c=>?_) (fun c=>?_)⟩
    ·have e:fB z=true:=by unfold fB;rw[show decide (z<0)=true from c];rfl
     rw[show Uk (.int z)=true from e] at hQ
     exact hQ
    ·have e:fB z=decide (90000<z):=by unfold fB;rw[show decide (z<0)=false from Bool.eq_false_iff.mpr c];rfl
     rw[show Uk (.int z)=decide (90000<z) from e] at hQ
     exact⟨_,rfl,_,_,rfl,rfl,_,rfl,hQ⟩
   have S3:=S1.new (g2.trans (Same.new hfl (.lst (([V.int i,.int x]).filter Uk))))
   have efl:upd H2' fl (.lst (([V.int i,.int x]).filter Uk)) fl=some _:=zm
   have K8:decide (((0:Int))<((([V.int i,.int x]).filter Uk).length:Nat))=(fB i||fB x||(decide (4<j)&&fB y)):=by
    rw[decide_eq_false c4,Bool.false_and]
    cases ei:fB i<;>cases ex:fB x<;>cases ey:fB y<;>simp[List.filter,Uk,ei,ex,ey]
   generalize upd H2' fl _=H3 at S3 efl ⊢
   refine⟨fl,_,rfl,.inl (zB.of efl),_,_,rfl,rfl,_,rfl,?_⟩
   have dw:=Yz (c:=j) (z0:=z0) (z3:=true) (z4:=z4) (fi:=fB i) (fx:=fB x) (fy:=fB y) hb1 K8.symm.symm
   rw[K8] at dw ⊢
   cases eb:(fB i||fB x||(decide (4<j)&&fB y)) with
   | true =>
    rw[eb] at dw
    refine xH ?_
    cases z0 with
    | true =>
     refine⟨_,rfl,bl,_,_,.bl true,rfl,rfl,S3.Vn,rfl,_,rfl,xH ?_⟩
     cases e:wF j (!true) (!fB i) (!(true||fB x)) (!(z4||fB y)) with
     | none =>
      rw[e] at dw
      refine⟨_,rfl,_,rfl,_,rfl,rl,_,_,_,rfl,rfl,zB.of S3.hrl,rfl,_,rfl,rl,_,_,_,rfl,rfl,zB.of S3.hrl,rfl,_,rfl,rl,_,_,_,rfl,rfl,zB.of S3.hrl,rfl,j,bk,i,x,y,_,_,_,_,os,rs,F,rfl,hj,S3.inn bd hi hx hy,fun _ H4 XF aw tu Xh gr hh=>?_,fun n e'=>absurd (e.symm.trans e') (by simp)⟩
      exact⟨_,rfl,_,rfl,.inl ⟨rfl,_,rfl,wQ (congrArg V.str dw) (yD ⟨XF,_,_,_,_,(S3.grow aw Xh hh).up bd',⟨hi.1,hi.2.1,fun z=>let ⟨k0,e0,l0⟩:=hi.2.2 z;⟨k0,e0,zul l0 gr.len⟩⟩,hx.grown S3.B gr,hy.grown S3.B gr,rfl⟩)⟩⟩
     | some n =>
      rw[e] at dw
      refine⟨_,rfl,_,rfl,_,rfl,rl,_,_,_,rfl,rfl,zB.of S3.hrl,rfl,_,rfl,rl,_,_,_,rfl,rfl,zB.of S3.hrl,rfl,_,rfl,rl,_,_,_,rfl,rfl,zB.of S3.hrl,rfl,j,bk,i,x,y,_,_,_,_,os,rs,F,rfl,hj,S3.inn bd hi hx hy,fun e'=>absurd (e.symm.trans e') (by simp),fun n' e' t l H4 g4 ht hl'=>?_⟩
      obtain rfl:=zuG (e.symm.trans e')
      exact⟨_,rfl,_,rfl,.inr ⟨false,fun z=>absurd z.1 zug,.tf (vf.of ht) rfl,_,rfl,xH ⟨_,rfl,_,rfl,t,l,_,rfl,ht,zB.of (hl'.trans (congrArg (fun s=>some (HO.lst [V.str s])) dw)),fun H5 g5=>⟨_,rfl,yD ⟨rs,_,_,_,_,(S3.new (g4.trans g5)).up bd0,hi,hx,hy,rfl⟩⟩⟩⟩⟩
    | false =>
     refine⟨_,rfl,bl,_,_,.bl false,rfl,rfl,S3.Vn,rfl,_,rfl,yD ?_⟩
     cases e:wF j (!false) (!fB i) (!(true||fB x)) (!(z4||fB y)) with
     | none =>
      rw[e] at dw
      refine⟨_,rfl,_,rfl,_,rfl,rl,_,_,_,rfl,rfl,zB.of S3.hrl,rfl,_,rfl,rl,_,_,_,rfl,rfl,zB.of S3.hrl,rfl,_,rfl,rl,_,_,_,rfl,rfl,zB.of S3.hrl,rfl,j,bk,i,x,y,_,_,_,_,os,rs,F,rfl,hj,S3.inn bd hi hx hy,fun _ H4 XF aw tu Xh gr hh=>?_,fun n e'=>absurd (e.symm.trans e') (by simp)⟩
      exact⟨_,rfl,_,rfl,.inl ⟨rfl,_,rfl,wQ (congrArg V.str dw) (yD ⟨XF,_,_,_,_,(S3.grow aw Xh hh).up bd',⟨hi.1,hi.2.1,fun z=>let ⟨k0,e0,l0⟩:=hi.2.2 z;⟨k0,e0,zul l0 gr.len⟩⟩,hx.grown S3.B gr,hy.grown S3.B gr,rfl⟩)⟩⟩
     | some n =>
      rw[e] at dw
      refine⟨_,rfl,_,rfl,_,rfl,rl,_,_,_,rfl,rfl,zB.of S3.hrl,rfl,_,rfl,rl,_,_,_,rfl,rfl,zB.of S3.hrl,rfl,_,rfl,rl,_,_,_,rfl,rfl,zB.of S3.hrl,rfl,j,bk,i,x,y,_,_,_,_,os,rs,F,rfl,hj,S3.inn bd hi hx hy,fun e'=>absurd (e.symm.trans e') (by simp),fun n' e' t l H4 g4 ht hl'=>?_⟩
      obtain rfl:=zuG (e.symm.trans e')
      exact⟨_,rfl,_,rfl,.inr ⟨false,fun z=>absurd z.1 zug,.tf (vf.of ht) rfl,_,rfl,xH ⟨_,rfl,_,rfl,t,l,_,rfl,ht,zB.of (hl'.trans (congrArg (fun s=>some (HO.lst [V.str s])) dw)),fun H5 g5=>⟨_,rfl,yD ⟨rs,_,_,_,_,(S3.new (g4.trans g5)).up bd0,hi,hx,hy,rfl⟩⟩⟩⟩⟩
   | false =>
    rw[eb] at dw
    refine yD ?_
    cases z0 with
    | true =>
     refine⟨_,rfl,bl,_,_,.bl true,rfl,rfl,S3.Vn,rfl,_,rfl,xH ?_⟩
     cases e:wF j (!true) (!fB i) (!(true||fB x)) (!(z4||fB y)) with
     | none =>
      rw[e] at dw
      refine⟨_,rfl,_,rfl,_,rfl,rl,_,_,_,rfl,rfl,zB.of S3.hrl,rfl,_,rfl,rl,_,_,_,rfl,rfl,zB.of S3.hrl,rfl,_,rfl,rl,_,_,_,rfl,rfl,zB.of S3.hrl,rfl,j,bk,i,x,y,_,_,_,_,os,rs,F,rfl,hj,S3.inn bd hi hx hy,fun _ H4 XF aw tu Xh gr hh=>?_,fun n e'=>absurd (e.symm.trans e') (by simp)⟩
      exact⟨_,rfl,_,rfl,.inl ⟨rfl,_,rfl,wQ (congrArg V.str dw) (yD ⟨XF,_,_,_,_,(S3.grow aw Xh hh).up bd',⟨hi.1,hi.2.1,fun z=>let ⟨k0,e0,l0⟩:=hi.2.2 z;⟨k0,e0,zul l0 gr.len⟩⟩,hx.grown S3.B gr,hy.grown S3.B gr,rfl⟩)⟩⟩
     | some n =>
      rw[e] at dw
      refine⟨_,rfl,_,rfl,_,rfl,rl,_,_,_,rfl,rfl,zB.of S3.hrl,rfl,_,rfl,rl,_,_,_,rfl,rfl,zB.of S3.hrl,rfl,_,rfl,rl,_,_,_,rfl,rfl,zB.of S3.hrl,rfl,j,bk,i,x,y,_,_,_,_,os,rs,F,rfl,hj,S3.inn bd hi hx hy,fun e'=>absurd (e.symm.trans e') (by simp),fun n' e' t l H4 g4 ht hl'=>?_⟩
      obtain rfl:=zuG (e.symm.trans e')
      exact⟨_,rfl,_,rfl,.inr ⟨false,fun z=>absurd z.1 zug,.tf (vf.of ht) rfl,_,rfl,xH ⟨_,rfl,_,rfl,t,l,_,rfl,ht,zB.of (hl'.trans (congrArg (fun s=>some (HO.lst [V.str s])) dw)),fun H5 g5=>⟨_,rfl,yD ⟨rs,_,_,_,_,(S3.new (g4.trans g5)).up bd0,hi,hx,hy,rfl⟩⟩⟩⟩⟩
    | false =>
     refine⟨_,rfl,bl,_,_,.bl false,rfl,rfl,S3.Vn,rfl,_,rfl,yD ?_⟩
     cases e:wF j (!false) (!fB i) (!(true||fB x)) (!(z4||fB y)) with
     | none =>
      rw[e] at dw
      refine⟨_,rfl,_,rfl,_,rfl,rl,_,_,_,rfl,rfl,zB.of S3.hrl,rfl,_,rfl,rl,_,_,_,rfl,rfl,zB.of S3.hrl,rfl,_,rfl,rl,_,_,_,rfl,rfl,zB.of S3.hrl,rfl,j,bk,i,x,y,_,_,_,_,os,rs,F,rfl,hj,S3.inn bd hi hx hy,fun _ H4 XF aw tu Xh gr hh=>?_,fun n e'=>absurd (e.symm.trans e') (by simp)⟩
      exact⟨_,rfl,_,rfl,.inl ⟨rfl,_,rfl,wQ (congrArg V.str dw) (yD ⟨XF,_,_,_,_,(S3.grow aw Xh hh).up bd',⟨hi.1,hi.2.1,fun z=>let ⟨k0,e0,l0⟩:=hi.2.2 z;⟨k0,e0,zul l0 gr.len⟩⟩,hx.grown S3.B gr,hy.grown S3.B gr,rfl⟩)⟩⟩
     | some n =>
      rw[e] at dw
      refine⟨_,rfl,_,rfl,_,rfl,rl,_,_,_,rfl,rfl,zB.of S3.hrl,rfl,_,rfl,rl,_,_,_,rfl,rfl,zB.of S3.hrl,rfl,_,rfl,rl,_,_,_,rfl,rfl,zB.of S3.hrl,rfl,j,bk,i,x,y,_,_,_,_,os,rs,F,rfl,hj,S3.inn bd hi hx hy,fun e'=>absurd (e.symm.trans e') (by simp),fun n' e' t l H4 g4 ht hl'=>?_⟩
      obtain rfl:=zuG (e.symm.trans e')
      exact⟨_,rfl,_,rfl,.inr ⟨false,fun z=>absurd z.1 zug,.tf (vf.of ht) rfl,_,rfl,xH ⟨_,rfl,_,rfl,t,l,_,rfl,ht,zB.of (hl'.trans (congrArg (fun s=>some (HO.lst [V.str s])) dw)),fun H5 g5=>⟨_,rfl,yD ⟨rs,_,_,_,_,(S3.new (g4.trans g5)).up bd0,hi,hx,hy,rfl⟩⟩⟩⟩⟩
  | false =>
   cases z4 with
   | false =>
    refine⟨_,rfl,bl,_,_,.bl false,rfl,rfl,S1.Vn,rfl,_,rfl,yD ⟨_,rfl,bl,_,_,.bl false,rfl,rfl,S1.Vn,rfl,_,rfl,yD (yD ?_)⟩⟩
    have hb1:false=(false||(false&&decide (4<j))):=rfl
    refine⟨_,rfl,ul,rfl,⟨_,zB.of eu⟩,?_⟩
    refine Xl (xs:=[V.int i,.int x]) Uk (zB.of eu) (by show 2<=sizeLine;decide) (fun x H' Q h=>⟨_,rfl,h⟩) (fun v H' Q0 hv g hQ=>?_) (fun H2' fl g2 hfl=>?_)
    ·have hz:∃z:Int,v=.int z:=by
      simp only[List.mem_cons,zuC,or_false] at hv
      rcases hv with rfl | rfl<;>exact⟨_,rfl⟩
     obtain⟨z,rfl⟩:=hz
     have hQ:=hQ H' g
     refine⟨_,rfl,_,_,rfl,rfl,_,rfl,xQ (fun c=>?_) (fun c=>?_)⟩
     ·have e:fB z=true:=by unfold fB;rw[show decide (z<0)=true from c];rfl
      rw[show Uk (.int z)=true from e] at hQ
      exact hQ
     ·have e:fB z=decide (90000<z):=by unfold fB;rw[show decide (z<0)=false from Bool.eq_false_iff.mpr c];rfl
      rw[show Uk (.int z)=decide (90000<z) from e] at hQ
      exact⟨_,rfl,_,_,rfl,rfl,_,rfl,hQ⟩
    have S3:=S1.new (g2.trans (Same.new hfl (.lst (([V.int i,.int x]).filter Uk))))
    have efl:upd H2' fl (.lst (([V.int i,.int x]).filter Uk)) fl=some _:=zm
    have K8:decide (((0:Int))<((([V.int i,.int x]).filter Uk).length:Nat))=(fB i||fB x||(decide (4<j)&&fB y)):=by
     rw[decide_eq_false c4,Bool.false_and]
     cases ei:fB i<;>cases ex:fB x<;>cases ey:fB y<;>simp[List.filter,Uk,ei,ex,ey]
    generalize upd H2' fl _=H3 at S3 efl ⊢
    refine⟨fl,_,rfl,.inl (zB.of efl),_,_,rfl,rfl,_,rfl,?_⟩
    have dw:=Yz (c:=j) (z0:=z0) (z3:=false) (z4:=false) (fi:=fB i) (fx:=fB x) (fy:=fB y) hb1 K8.symm.symm
    rw[K8] at dw ⊢
    cases eb:(fB i||fB x||(decide (4<j)&&fB y)) with
    | true =>
     rw[eb] at dw
     refine xH ?_
     cases z0 with
     | true =>
      refine⟨_,rfl,bl,_,_,.bl true,rfl,rfl,S3.Vn,rfl,_,rfl,xH ?_⟩
      cases e:wF j (!true) (!fB i) (!(false||fB x)) (!(false||fB y)) with
      | none =>
       rw[e] at dw
       refine⟨_,rfl,_,rfl,_,rfl,rl,_,_,_,rfl,rfl,zB.of S3.hrl,rfl,_,rfl,rl,_,_,_,rfl,rfl,zB.of S3.hrl,rfl,_,rfl,rl,_,_,_,rfl,rfl,zB.of S3.hrl,rfl,j,bk,i,x,y,_,_,_,_,os,rs,F,rfl,hj,S3.inn bd hi hx hy,fun _ H4 XF aw tu Xh gr hh=>?_,fun n e'=>absurd (e.symm.trans e') (by simp)⟩
       exact⟨_,rfl,_,rfl,.inl ⟨rfl,_,rfl,wQ (congrArg V.str dw) (yD ⟨XF,_,_,_,_,(S3.grow aw Xh hh).up bd',⟨hi.1,hi.2.1,fun z=>let ⟨k0,e0,l0⟩:=hi.2.2 z;⟨k0,e0,zul l0 gr.len⟩⟩,hx.grown S3.B gr,hy.grown S3.B gr,rfl⟩)⟩⟩
      | some n =>
       rw[e] at dw
       refine⟨_,rfl,_,rfl,_,rfl,rl,_,_,_,rfl,rfl,zB.of S3.hrl,rfl,_,rfl,rl,_,_,_,rfl,rfl,zB.of S3.hrl,rfl,_,rfl,rl,_,_,_,rfl,rfl,zB.of S3.hrl,rfl,j,bk,i,x,y,_,_,_,_,os,rs,F,rfl,hj,S3.inn bd hi hx hy,fun e'=>absurd (e.symm.trans e') (by simp),fun n' e' t l H4 g4 ht hl'=>?_⟩
       obtain rfl:=zuG (e.symm.trans e')
       exact⟨_,rfl,_,rfl,.inr ⟨false,fun z=>absurd z.1 zug,.tf (vf.of ht) rfl,_,rfl,xH ⟨_,rfl,_,rfl,t,l,_,rfl,ht,zB.of (hl'.trans (congrArg (fun s=>some (HO.lst [V.str s])) dw)),fun H5 g5=>⟨_,rfl,yD ⟨rs,_,_,_,_,(S3.new (g4.trans g5)).up bd0,hi,hx,hy,rfl⟩⟩⟩⟩⟩
     | false =>
      refine⟨_,rfl,bl,_,_,.bl false,rfl,rfl,S3.Vn,rfl,_,rfl,yD ?_⟩
      cases e:wF j (!false) (!fB i) (!(false||fB x)) (!(false||fB y)) with
      | none =>
       rw[e] at dw
       refine⟨_,rfl,_,rfl,_,rfl,rl,_,_,_,rfl,rfl,zB.of S3.hrl,rfl,_,rfl,rl,_,_,_,rfl,rfl,zB.of S3.hrl,rfl,_,rfl,rl,_,_,_,rfl,rfl,zB.of S3.hrl,rfl,j,bk,i,x,y,_,_,_,_,os,rs,F,rfl,hj,S3.inn bd hi hx hy,fun _ H4 XF aw tu Xh gr hh=>?_,fun n e'=>absurd (e.symm.trans e') (by simp)⟩
       exact⟨_,rfl,_,rfl,.inl ⟨rfl,_,rfl,wQ (congrArg V.str dw) (yD ⟨XF,_,_,_,_,(S3.grow aw Xh hh).up bd',⟨hi.1,hi.2.1,fun z=>let ⟨k0,e0,l0⟩:=hi.2.2 z;⟨k0,e0,zul l0 gr.len⟩⟩,hx.grown S3.B gr,hy.grown S3.B gr,rfl⟩)⟩⟩
      | some n =>
       rw[e] at dw
       refine⟨_,rfl,_,rfl,_,rfl,rl,_,_,_,rfl,rfl,zB.of S3.hrl,rfl,_,rfl,rl,_,_,_,rfl,rfl,zB.of S3.hrl,rfl,_,rfl,rl,_,_,_,rfl,rfl,zB.of S3.hrl,rfl,j,bk,i,x,y,_,_,_,_,os,rs,F,rfl,hj,S3.inn bd hi hx hy,fun e'=>absurd (e.symm.trans e') (by simp),fun n' e' t l H4 g4 ht hl'=>?_⟩
       obtain rfl:=zuG (e.symm.trans e')
       exact⟨_,rfl,_,rfl,.inr ⟨false,fun z=>absurd z.1 zug,.tf (vf.of ht) rfl,_,rfl,xH ⟨_,rfl,_,rfl,t,l,_,rfl,ht,zB.of (hl'.trans (congrArg (fun s=>some (HO.lst [V.str s])) dw)),fun H5 g5=>⟨_,rfl,yD ⟨rs,_,_,_,_,(S3.new (g4.trans g5)).up bd0,hi,hx,hy,rfl⟩⟩⟩⟩⟩
    | false =>
     rw[eb] at dw
     refine yD ?_
     cases z0 with
     | true =>
      refine⟨_,rfl,bl,_,_,.bl true,rfl,rfl,S3.Vn,rfl,_,rfl,xH ?_⟩
      cases e:wF j (!true) (!fB i) (!(false||fB x)) (!(false||fB y)) with
      | none =>
       rw[e] at dw
       refine⟨_,rfl,_,rfl,_,rfl,rl,_,_,_,rfl,rfl,zB.of S3.hrl,rfl,_,rfl,rl,_,_,_,rfl,rfl,zB.of S3.hrl,rfl,_,rfl,rl,_,_,_,rfl,rfl,zB.of S3.hrl,rfl,j,bk,i,x,y,_,_,_,_,os,rs,F,rfl,hj,S3.inn bd hi hx hy,fun _ H4 XF aw tu Xh gr hh=>?_,fun n e'=>absurd (e.symm.trans e') (by simp)⟩
       exact⟨_,rfl,_,rfl,.inl ⟨rfl,_,rfl,wQ (congrArg V.str dw) (yD ⟨XF,_,_,_,_,(S3.grow aw Xh hh).up bd',⟨hi.1,hi.2.1,fun z=>let ⟨k0,e0,l0⟩:=hi.2.2 z;⟨k0,e0,zul l0 gr.len⟩⟩,hx.grown S3.B gr,hy.grown S3.B gr,rfl⟩)⟩⟩
      | some n =>
       rw[e] at dw
       refine⟨_,rfl,_,rfl,_,rfl,rl,_,_,_,rfl,rfl,zB.of S3.hrl,rfl,_,rfl,rl,_,_,_,rfl,rfl,zB.of S3.hrl,rfl,_,rfl,rl,_,_,_,rfl,rfl,zB.of S3.hrl,rfl,j,bk,i,x,y,_,_,_,_,os,rs,F,rfl,hj,S3.inn bd hi hx hy,fun e'=>absurd (e.symm.trans e') (by simp),fun n' e' t l H4 g4 ht hl'=>?_⟩
       obtain rfl:=zuG (e.symm.trans e')
       exact⟨_,rfl,_,rfl,.inr ⟨false,fun z=>absurd z.1 zug,.tf (vf.of ht) rfl,_,rfl,xH ⟨_,rfl,_,rfl,t,l,_,rfl,ht,zB.of (hl'.trans (congrArg (fun s=>some (HO.lst [V.str s])) dw)),fun H5 g5=>⟨_,rfl,yD ⟨rs,_,_,_,_,(S3.new (g4.trans g5)).up bd0,hi,hx,hy,rfl⟩⟩⟩⟩⟩
     | false =>
      refine⟨_,rfl,bl,_,_,.bl false,rfl,rfl,S3.Vn,rfl,_,rfl,yD ?_⟩
      cases e:wF j (!false) (!fB i) (!(false||fB x)) (!(false||fB y)) with
      | none =>
       rw[e] at dw
       refine⟨_,rfl,_,rfl,_,rfl,rl,_,_,_,rfl,rfl,zB.of S3.hrl,rfl,_,rfl,rl,_,_,_,rfl,rfl,zB.of S3.hrl,rfl,_,rfl,rl,_,_,_,rfl,rfl,zB.of S3.hrl,rfl,j,bk,i,x,y,_,_,_,_,os,rs,F,rfl,hj,S3.inn bd hi hx hy,fun _ H4 XF aw tu Xh gr hh=>?_,fun n e'=>absurd (e.symm.trans e') (by simp)⟩
       exact⟨_,rfl,_,rfl,.inl ⟨rfl,_,rfl,wQ (congrArg V.str dw) (yD ⟨XF,_,_,_,_,(S3.grow aw Xh hh).up bd',⟨hi.1,hi.2.1,fun z=>let ⟨k0,e0,l0⟩:=hi.2.2 z;⟨k0,e0,zul l0 gr.len⟩⟩,hx.grown S3.B gr,hy.grown S3.B gr,rfl⟩)⟩⟩
      | some n =>
       rw[e] at dw
       refine⟨_,rfl,_,rfl,_,rfl,rl,_,_,_,rfl,rfl,zB.of S3.hrl,rfl,_,rfl,rl,_,_,_,rfl,rfl,zB.of S3.hrl,rfl,_,rfl,rl,_,_,_,rfl,rfl,zB.of S3.hrl,rfl,j,bk,i,x,y,_,_,_,_,os,rs,F,rfl,hj,S3.inn bd hi hx hy,fun e'=>absurd (e.symm.trans e') (by simp),fun n' e' t l H4 g4 ht hl'=>?_⟩
       obtain rfl:=zuG (e.symm.trans e')
       exact⟨_,rfl,_,rfl,.inr ⟨false,fun z=>absurd z.1 zug,.tf (vf.of ht) rfl,_,rfl,xH ⟨_,rfl,_,rfl,t,l,_,rfl,ht,zB.of (hl'.trans (congrArg (fun s=>some (HO.lst [V.str s])) dw)),fun H5 g5=>⟨_,rfl,yD ⟨rs,_,_,_,_,(S3.new (g4.trans g5)).up bd0,hi,hx,hy,rfl⟩⟩⟩⟩⟩
   | true =>
    refine⟨_,rfl,bl,_,_,.bl false,rfl,rfl,S1.Vn,rfl,_,rfl,yD ⟨_,rfl,bl,_,_,.bl true,rfl,rfl,S1.Vn,rfl,_,rfl,xH ⟨_,rfl,_,_,rfl,rfl,_,rfl,?_⟩⟩⟩
    rw[decide_eq_false (show ¬(4:Int)<(j:Nat) by omega)]
    refine yD ?_
    have hb1:false=(false||(true&&decide (4<j))):=by rw[decide_eq_false c4];rfl
    refine⟨_,rfl,ul,rfl,⟨_,zB.of eu⟩,?_⟩
    refine Xl (xs:=[V.int i,.int x]) Uk (zB.of eu) (by show 2<=sizeLine;decide) (fun x H' Q h=>⟨_,rfl,h⟩) (fun v H' Q0 hv g hQ=>?_) (fun H2' fl g2 hfl=>?_)
    ·have hz:∃z:Int,v=.int z:=by
      simp only[List.mem_cons,zuC,or_false] at hv
      rcases hv with rfl | rfl<;>exact⟨_,rfl⟩
     obtain⟨z,rfl⟩:=hz
     have hQ:=hQ H' g
     refine⟨_,rfl,_,_,rfl,rfl,_,rfl,xQ (fun c=>?_) (fun c=>?_)⟩
     ·have e:fB z=true:=by unfold fB;rw[show decide (z<0)=true from c];rfl
      rw[show Uk (.int z)=true from e] at hQ
      exact hQ
     ·have e:fB z=decide (90000<z):=by unfold fB;rw[show decide (z<0)=false from Bool.eq_false_iff.mpr c];rfl
      rw[show Uk (.int z)=decide (90000<z) from e] at hQ
      exact⟨_,rfl,_,_,rfl,rfl,_,rfl,hQ⟩
    have S3:=S1.new (g2.trans (Same.new hfl (.lst (([V.int i,.int x]).filter Uk))))
    have efl:upd H2' fl (.lst (([V.int i,.int x]).filter Uk)) fl=some _:=zm
    have K8:decide (((0:Int))<((([V.int i,.int x]).filter Uk).length:Nat))=(fB i||fB x||(decide (4<j)&&fB y)):=by
     rw[decide_eq_false c4,Bool.false_and]
     cases ei:fB i<;>cases ex:fB x<;>cases ey:fB y<;>simp[List.filter,Uk,ei,ex,ey]
    generalize upd H2' fl _=H3 at S3 efl ⊢
    refine⟨fl,_,rfl,.inl (zB.of efl),_,_,rfl,rfl,_,rfl,?_⟩
    have dw:=Yz (c:=j) (z0:=z0) (z3:=false) (z4:=true) (fi:=fB i) (fx:=fB x) (fy:=fB y) hb1 K8.symm.symm
    rw[K8] at dw ⊢
    cases eb:(fB i||fB x||(decide (4<j)&&fB y)) with
    | true =>
     rw[eb] at dw
     refine xH ?_
     cases z0 with
     | true =>
      refine⟨_,rfl,bl,_,_,.bl true,rfl,rfl,S3.Vn,rfl,_,rfl,xH ?_⟩
      cases e:wF j (!true) (!fB i) (!(false||fB x)) (!(true||fB y)) with
      | none =>
       rw[e] at dw
       refine⟨_,rfl,_,rfl,_,rfl,rl,_,_,_,rfl,rfl,zB.of S3.hrl,rfl,_,rfl,rl,_,_,_,rfl,rfl,zB.of S3.hrl,rfl,_,rfl,rl,_,_,_,rfl,rfl,zB.of S3.hrl,rfl,j,bk,i,x,y,_,_,_,_,os,rs,F,rfl,hj,S3.inn bd hi hx hy,fun _ H4 XF aw tu Xh gr hh=>?_,fun n e'=>absurd (e.symm.trans e') (by simp)⟩
       exact⟨_,rfl,_,rfl,.inl ⟨rfl,_,rfl,wQ (congrArg V.str dw) (yD ⟨XF,_,_,_,_,(S3.grow aw Xh hh).up bd',⟨hi.1,hi.2.1,fun z=>let ⟨k0,e0,l0⟩:=hi.2.2 z;⟨k0,e0,zul l0 gr.len⟩⟩,hx.grown S3.B gr,hy.grown S3.B gr,rfl⟩)⟩⟩
      | some n =>
       rw[e] at dw
       refine⟨_,rfl,_,rfl,_,rfl,rl,_,_,_,rfl,rfl,zB.of S3.hrl,rfl,_,rfl,rl,_,_,_,rfl,rfl,zB.of S3.hrl,rfl,_,rfl,rl,_,_,_,rfl,rfl,zB.of S3.hrl,rfl,j,bk,i,x,y,_,_,_,_,os,rs,F,rfl,hj,S3.inn bd hi hx hy,fun e'=>absurd (e.symm.trans e') (by simp),fun n' e' t l H4 g4 ht hl'=>?_⟩
       obtain rfl:=zuG (e.symm.trans e')
       exact⟨_,rfl,_,rfl,.inr ⟨false,fun z=>absurd z.1 zug,.tf (vf.of ht) rfl,_,rfl,xH ⟨_,rfl,_,rfl,t,l,_,rfl,ht,zB.of (hl'.trans (congrArg (fun s=>some (HO.lst [V.str s])) dw)),fun H5 g5=>⟨_,rfl,yD ⟨rs,_,_,_,_,(S3.new (g4.trans g5)).up bd0,hi,hx,hy,rfl⟩⟩⟩⟩⟩
     | false =>
      refine⟨_,rfl,bl,_,_,.bl false,rfl,rfl,S3.Vn,rfl,_,rfl,yD ?_⟩
      cases e:wF j (!false) (!fB i) (!(false||fB x)) (!(true||fB y)) with
      | none =>
       rw[e] at dw
       refine⟨_,rfl,_,rfl,_,rfl,rl,_,_,_,rfl,rfl,zB.of S3.hrl,rfl,_,rfl,rl,_,_,_,rfl,rfl,zB.of S3.hrl,rfl,_,rfl,rl,_,_,_,rfl,rfl,zB.of S3.hrl,rfl,j,bk,i,x,y,_,_,_,_,os,rs,F,rfl,hj,S3.inn bd hi hx hy,fun _ H4 XF aw tu Xh gr hh=>?_,fun n e'=>absurd (e.symm.trans e') (by simp)⟩
       exact⟨_,rfl,_,rfl,.inl ⟨rfl,_,rfl,wQ (congrArg V.str dw) (yD ⟨XF,_,_,_,_,(S3.grow aw Xh hh).up bd',⟨hi.1,hi.2.1,fun z=>let ⟨k0,e0,l0⟩:=hi.2.2 z;⟨k0,e0,zul l0 gr.len⟩⟩,hx.grown S3.B gr,hy.grown S3.B gr,rfl⟩)⟩⟩
      | some n =>
       rw[e] at dw
       refine⟨_,rfl,_,rfl,_,rfl,rl,_,_,_,rfl,rfl,zB.of S3.hrl,rfl,_,rfl,rl,_,_,_,rfl,rfl,zB.of S3.hrl,rfl,_,rfl,rl,_,_,_,rfl,rfl,zB.of S3.hrl,rfl,j,bk,i,x,y,_,_,_,_,os,rs,F,rfl,hj,S3.inn bd hi hx hy,fun e'=>absurd (e.symm.trans e') (by simp),fun n' e' t l H4 g4 ht hl'=>?_⟩
       obtain rfl:=zuG (e.symm.trans e')
       exact⟨_,rfl,_,rfl,.inr ⟨false,fun z=>absurd z.1 zug,.tf (vf.of ht) rfl,_,rfl,xH ⟨_,rfl,_,rfl,t,l,_,rfl,ht,zB.of (hl'.trans (congrArg (fun s=>some (HO.lst [V.str s])) dw)),fun H5 g5=>⟨_,rfl,yD ⟨rs,_,_,_,_,(S3.new (g4.trans g5)).up bd0,hi,hx,hy,rfl⟩⟩⟩⟩⟩
    | false =>
     rw[eb] at dw
     refine yD ?_
     cases z0 with
     | true =>
      refine⟨_,rfl,bl,_,_,.bl true,rfl,rfl,S3.Vn,rfl,_,rfl,xH ?_⟩
      cases e:wF j (!true) (!fB i) (!(false||fB x)) (!(true||fB y)) with
      | none =>
       rw[e] at dw
       refine⟨_,rfl,_,rfl,_,rfl,rl,_,_,_,rfl,rfl,zB.of S3.hrl,rfl,_,rfl,rl,_,_,_,rfl,rfl,zB.of S3.hrl,rfl,_,rfl,rl,_,_,_,rfl,rfl,zB.of S3.hrl,rfl,j,bk,i,x,y,_,_,_,_,os,rs,F,rfl,hj,S3.inn bd hi hx hy,fun _ H4 XF aw tu Xh gr hh=>?_,fun n e'=>absurd (e.symm.trans e') (by simp)⟩
       exact⟨_,rfl,_,rfl,.inl ⟨rfl,_,rfl,wQ (congrArg V.str dw) (yD ⟨XF,_,_,_,_,(S3.grow aw Xh hh).up bd',⟨hi.1,hi.2.1,fun z=>let ⟨k0,e0,l0⟩:=hi.2.2 z;⟨k0,e0,zul l0 gr.len⟩⟩,hx.grown S3.B gr,hy.grown S3.B gr,rfl⟩)⟩⟩
      | some n =>
       rw[e] at dw
       refine⟨_,rfl,_,rfl,_,rfl,rl,_,_,_,rfl,rfl,zB.of S3.hrl,rfl,_,rfl,rl,_,_,_,rfl,rfl,zB.of S3.hrl,rfl,_,rfl,rl,_,_,_,rfl,rfl,zB.of S3.hrl,rfl,j,bk,i,x,y,_,_,_,_,os,rs,F,rfl,hj,S3.inn bd hi hx hy,fun e'=>absurd (e.symm.trans e') (by simp),fun n' e' t l H4 g4 ht hl'=>?_⟩
       obtain rfl:=zuG (e.symm.trans e')
       exact⟨_,rfl,_,rfl,.inr ⟨false,fun z=>absurd z.1 zug,.tf (vf.of ht) rfl,_,rfl,xH ⟨_,rfl,_,rfl,t,l,_,rfl,ht,zB.of (hl'.trans (congrArg (fun s=>some (HO.lst [V.str s])) dw)),fun H5 g5=>⟨_,rfl,yD ⟨rs,_,_,_,_,(S3.new (g4.trans g5)).up bd0,hi,hx,hy,rfl⟩⟩⟩⟩⟩
     | false =>
      refine⟨_,rfl,bl,_,_,.bl false,rfl,rfl,S3.Vn,rfl,_,rfl,yD ?_⟩
      cases e:wF j (!false) (!fB i) (!(false||fB x)) (!(true||fB y)) with
      | none =>
       rw[e] at dw
       refine⟨_,rfl,_,rfl,_,rfl,rl,_,_,_,rfl,rfl,zB.of S3.hrl,rfl,_,rfl,rl,_,_,_,rfl,rfl,zB.of S3.hrl,rfl,_,rfl,rl,_,_,_,rfl,rfl,zB.of S3.hrl,rfl,j,bk,i,x,y,_,_,_,_,os,rs,F,rfl,hj,S3.inn bd hi hx hy,fun _ H4 XF aw tu Xh gr hh=>?_,fun n e'=>absurd (e.symm.trans e') (by simp)⟩
       exact⟨_,rfl,_,rfl,.inl ⟨rfl,_,rfl,wQ (congrArg V.str dw) (yD ⟨XF,_,_,_,_,(S3.grow aw Xh hh).up bd',⟨hi.1,hi.2.1,fun z=>let ⟨k0,e0,l0⟩:=hi.2.2 z;⟨k0,e0,zul l0 gr.len⟩⟩,hx.grown S3.B gr,hy.grown S3.B gr,rfl⟩)⟩⟩
      | some n =>
       rw[e] at dw
       refine⟨_,rfl,_,rfl,_,rfl,rl,_,_,_,rfl,rfl,zB.of S3.hrl,rfl,_,rfl,rl,_,_,_,rfl,rfl,zB.of S3.hrl,rfl,_,rfl,rl,_,_,_,rfl,rfl,zB.of S3.hrl,rfl,j,bk,i,x,y,_,_,_,_,os,rs,F,rfl,hj,S3.inn bd hi hx hy,fun e'=>absurd (e.symm.trans e') (by simp),fun n' e' t l H4 g4 ht hl'=>?_⟩
       obtain rfl:=zuG (e.symm.trans e')
       exact⟨_,rfl,_,rfl,.inr ⟨false,fun z=>absurd z.1 zug,.tf (vf.of ht) rfl,_,rfl,xH ⟨_,rfl,_,rfl,t,l,_,rfl,ht,zB.of (hl'.trans (congrArg (fun s=>some (HO.lst [V.str s])) dw)),fun H5 g5=>⟨_,rfl,yD ⟨rs,_,_,_,_,(S3.new (g4.trans g5)).up bd0,hi,hx,hy,rfl⟩⟩⟩⟩⟩
theorem zmF (T:Txt P w K mg a)(base:Heap):zy P w K mg base yq 60 a.a_law a.d_law p_law (zjR K):=by
 have cell:zy P w K mg base yq 1 a.wL a.wM wA (za7 K):=zhd (k:=0) T
 have draw:zy P w K mg base yq 1 a.Zm a.Zn uT za8:=zmz (k:=0) T
 have sentence:=zfZ (k:=1) T cell draw
 have zeL:zy P w K mg base yq 2 a.ZQ a.ZR tW Wj:=zfY (k:=1) T
 have Qv:zy P w K mg base yq 1 a.v9 a.uc vA tQ:=zey (k:=0) T
 have flipped:=zhc (k:=1) T Qv
 have zk0:zy P w K mg base yq 1 a.U4 a.U5 Wn RK:=zhf (k:=0) T
 have zmG:=zf0 (k:=1) T zk0
 have lettersOf:zy P w K mg base yq 1 a.Ym a.Yn Zg Vl:=zcw (k:=0) T
 have partsOf:zy P w K mg base yq 1 a.ZS a.ZV tX Wm:=zf1 (k:=0) T
 have zb5:=zan (k:=1) T partsOf
 have shaped:=zez (k:=1) T zk0 lettersOf partsOf
 have zpV:=zbX (k:=2) T shaped zb5
 have zi2:=Ju (k:=2) T zmG
 have zmH:=Ph (k:=3) T zpV
 have zk1:=zeA (k:=2) T zb5
 have zi3:=zcy (k:=3) T zk1 (lettersOf.mono (by decide))
 have zk2:zy P w K mg base yq 1 a.Zh a.Zi uw (Nx K):=Kz (k:=0) T
 have zi4:=Ma (k:=4) T zi3 (zk2.mono (by decide))
 have two:zy P w K mg base yq 2 a.tZ a.Za ux zhS:=zao (k:=1) T
 have table:=zaa (k:=2) T zeL (Qv.mono (by decide)) flipped (partsOf.mono (by decide)) two 24
 have zht:=zhh (k:=2) T (Qv.mono (by decide)) flipped
 have hangs:=zf4 (k:=2) T flipped
 have first:=zbY (k:=3) T hangs
 have Tc:=Vf (k:=4) T first (zht.mono (by decide)) 9
 have enter:=zbZ (k:=26) T (zmH.mono (by decide)) (zi4.mono (by decide)) table (Tc.mono (by decide))
 have init:=zeC (k:=3) T zi2 (zeL.mono (by decide))
 have mbr:zy P w K mg base yq 1 a.yM a.yN yH (WL a.zj):=Qs (k:=0) T
 have tat:zy P w K mg base yq 1 a.yJ a.yK yF (vB a.zj):=Jw (k:=0) T
 have zay:zy P w K mg base yq 1 a.xq a.xr yU (wk (yh a.zj)):=zcA (k:=0) T
 have zb6:zy P w K mg base yq 1 a.Wr a.Ws YD Uu:=zhj (k:=0) T
 have zmI:=ziT (k:=1) T zb6
 have uK:zy P w K mg base yq 1 a.wL a.wM wA (zaI K):=ziS (k:=0) T
 have zk4:=zhk (k:=2) T flipped
 have moved:=zkS (k:=3) T zht (Qv.mono (by decide)) (zmI.mono (by decide))
 have wZ:=zeD (k:=1) T zay
 have uL:=zcB (k:=1) T zay
 have zii:=zcC (k:=2) T (zay.mono (by decide)) wZ
 have zeM:=zb0 (k:=2) T (zay.mono (by decide)) uL
 have after:=zkV (k:=4) T (zay.mono (by decide)) (tat.mono (by decide)) (zii.mono (by decide)) (zeM.mono (by decide)) (zk4.mono (by decide)) moved
 have before:=ziU (k:=4) T (zay.mono (by decide)) (tat.mono (by decide)) (zii.mono (by decide)) (zeM.mono (by decide)) (zk4.mono (by decide)) moved
 have zk5:=Jz (k:=1) T zay
 have zpW:=KH (k:=3) T (zay.mono (by decide)) (tat.mono (by decide)) (mbr.mono (by decide)) zeM hangs
 have zab:=Rt (k:=4) T (zk5.mono (by decide)) (mbr.mono (by decide)) zpW
 have image:=zkX (k:=13) T (zab.mono (by decide)) Tc (tat.mono (by decide)) (after.mono (by decide))
 have zij:=zaq (k:=5) T (tat.mono (by decide)) after (zb6.mono (by decide))
 have rounds:=ziV (k:=13) T (zab.mono (by decide)) (zij.mono (by decide)) Tc
 have zrH:zy P w K mg base yq 1 a.VF a.VG Xq (zgR K):=zhl (k:=0) T
 have zog:=zeG (k:=1) T draw
 have preimage:=zf6 (k:=13) T (zab.mono (by decide)) Tc (tat.mono (by decide)) (before.mono (by decide))
 have reached:=zhm (k:=13) T (zab.mono (by decide)) (zij.mono (by decide)) Tc
 have stays:=zkY (k:=13) T (zab.mono (by decide)) (tat.mono (by decide)) (before.mono (by decide)) Tc
 have zpX:=zar (k:=3) (K:=K) T zht
 have having:=zb2 (k:=2) (K:=K) T zeL (Qv.mono (by decide)) (zb6.mono (by decide))
 have zrI:=zas (k:=4) (K:=K) T zpX (zii.mono (by decide)) (zay.mono (by decide))
 have only:=zmB (k:=3) (K:=K) T having zii (zay.mono (by decide))
 have through:=zb4 (k:=5) (K:=K) T zrI before (only.mono (by decide))
 have zpY:=ziW (k:=6) (K:=K) T (zab.mono (by decide)) zij (tat.mono (by decide)) through
 have zpZ:=zcD (k:=2) T (uK.mono (by decide)) sentence zog
 have zp0:=zb1 (k:=6) T (tat.mono (by decide)) (zab.mono (by decide)) zij
 have zrJ:=zcI (k:=5) (K:=K) T zab zy.no zy.no zy.no zy.no (tat.mono (by decide))
 have zp1:zy P w K mg base (ZK P w) 1 a.yM a.yN yH (zef a.zj a.zJ):=Ru (k:=0) T
 have zm9:zy P w K mg base (ZK P w) 1 a.yM a.yN yH (zeg a.zj a.zJ):=(mbr.lift (CX:=ZK P w)).orE zp1
 have zoh:zy P w K mg base (ZK P w) 2 a.vW a.vX vo (zft a.zj a.zG):=(zk5.lift (CX:=ZK P w)).orE (KN (k:=1) T zay)
 have zrK:zy P w K mg base (ZK P w) 4 a.vC a.vD wV (zkG a.zj a.zJ):=(zpW.lift (CX:=ZK P w)).orE (Mj (k:=3) T (zay.mono (by decide)) (tat.mono (by decide)) (zm9.mono (by decide)) zeM hangs)
 have zac:=Rg (k:=4) (K:=K) T (zoh.mono (by decide)) (zm9.mono (by decide)) zrK
 have which:∀ex,zdv P w K mg base ex 58 a.Xb a.Xc ZF (zbD K a.wN [a.zG,a.yW,a.zJ,a.xW,a.yw,a.yj,a.yx,a.yL,a.yQ] ex):=fun ex=>zeH (k:=57) T ex
 have isB:zy P w K mg base yq 1 a.SN a.SQ WY (zkD K):=ziZ (k:=0) T
 have grow:∀(b:Addr) (os:List Str) (rs:List vp.Rm) (F:yX) (H:Hp) (Q:VK) (E:XK) (c:Nat) (f:vp.Row->Bool),c≠4->WM a.zj [a.zG,a.yW,a.zJ,a.xW,a.yw,a.yj,a.yx,a.yL,a.yQ] (gb c) none H b os rs F Q E->zbk a.zj b os H rs F f Q:=fun b os rs F H Q E c f hc t k rs' H' aw tu hB gr _ hh=>t H' rs' aw tu hB gr (by unfold gb;rw[if_neg hc];exact hh) _
 have asked:=zeJ (k:=57) (M:=80000) T
  (RX (D:=a.zG) (D':=a.zJ) 0 (by decide) (by decide) rfl rfl (image.mono (by decide)) ((ziX (k:=5) T zac).mono (by decide)) fun b os rs F k j H Q E hB l6 hW hk hj t=>⟨b,os,rs,F,k,j,rfl,hB,by omega,hW,hk,hj,grow _ _ _ _ _ _ _ _ _ (by decide) t⟩)
  (RX (D:=a.zG) (D':=a.zJ) 1 (by decide) (by decide) rfl rfl (preimage.mono (by decide)) ((zeI (k:=5) T zac).mono (by decide)) fun b os rs F k j H Q E hB l6 hW hk hj t=>⟨b,os,rs,F,k,j,rfl,hB,by omega,hW,hk,hj,grow _ _ _ _ _ _ _ _ _ (by decide) t⟩)
  (RX (D:=a.zG) (D':=a.zJ) 2 (by decide) (by decide) rfl rfl (reached.mono (by decide)) ((zf7 (k:=5) T zac).mono (by decide)) fun b os rs F k j H Q E hB l6 hW hk hj t=>⟨b,os,rs,F,k,j,rfl,hB,by omega,hW,hk,hj,fun _ _ _=>grow _ _ _ _ _ _ _ _ _ (by decide) t⟩)
  (RX (D:=a.zG) (D':=a.zJ) 3 (by decide) (by decide) rfl rfl (stays.mono (by decide)) ((ziY (k:=5) T zac).mono (by decide)) fun b os rs F k j H Q E hB l6 hW hk hj t=>⟨b,os,rs,F,k,j,rfl,hB,by omega,hW,hk,hj,fun _ _=>grow _ _ _ _ _ _ _ _ _ (by decide) t⟩)
  (RX (D:=a.zG) (D':=a.zJ) 4 (by decide) (by decide) rfl rfl (rounds.mono (by decide)) ((zho (k:=5) T zac).mono (by decide)) fun b os rs F k j H Q E hB l6 hW hk hj t=>⟨b,os,rs,F,k,j,rfl,hB,l6,hW,hk,hj,fun l H' rs' js Ns aw tu hB' gr hh _ _ _ _ _ _ _=>t H' rs' aw tu hB' gr hh _⟩)
  (zkI (D:=a.zG) (D':=a.zJ) (by decide) rfl rfl (zp0.mono (by decide)) ((zat (k:=5) T zac).mono (by decide)))
  (zmq (D:=a.zG) (D':=a.zJ) 6 (by decide) (by decide) rfl rfl (zpY.mono (by decide)) ((zhp (k:=5) T zac).mono (by decide)))
  (zn3 (D:=a.zG) (D':=a.zJ) (by decide) rfl rfl (zrJ.mono (by decide)) ((zcH (k:=5) T zac).mono (by decide)))
 have met:=zhr (k:=58) T asked which
 exact ok_law (k:=58) T (uK.mono (by decide)) (draw.mono (by decide)) (zpZ.mono (by decide)) (zrH.mono (by decide)) (sentence.mono (by decide)) (init.mono (by decide)) (enter.mono (by decide)) met (isB.mono (by decide))
end
end K78
namespace PySem.W.Fast
def tw9837022569383808072:Nat:=0
def tw10998077272566985587:Nat:=0
def tw4315768049437038993:Nat:=0
def tw6759858493190343601:Nat:=0
def tw1395459757948219832:Nat:=0
def tw16562820397416272941:Nat:=0
def tw13928160838667637450:Nat:=0
def tw15728290795182079851:Nat:=0
def tw10424801311669178304:Nat:=0
def tw7278475235093490059:Nat:=0
def tw5254639334495295210:Nat:=0
def tw1630534961318145619:Nat:=0
def tw14791305075192568916:Nat:=0
def tw13326027260227365703:Nat:=0
def tw3830112143166536218:Nat:=0
def tw7361760271073731159:Nat:=0
def tw13932920255692039200:Nat:=0
def tw2386552026726338624:Nat:=0
def tw3896885419846612805:Nat:=0
def tw13867966430591225109:Nat:=0
def tw2351210113505759058:Nat:=0
def tw12354917244854155594:Nat:=0
def tw2225993027361462976:Nat:=0
def tw10953634641307608630:Nat:=0
def tw6683037305136557889:Nat:=0
def tw11738147485326060278:Nat:=0
def tw7065880802834589769:Nat:=0
def tw15840396503646166393:Nat:=0
def tw13947292095853944164:Nat:=0
def tw4609809080579183998:Nat:=0
def tw2869924672642939218:Nat:=0
def tw7610849319201968823:Nat:=0
def tw2554451901986055513:Nat:=0
def tw14751065843375835596:Nat:=0
def tw4212242405122351398:Nat:=0
def tw12798534720109859342:Nat:=0
def tw8918648283451347268:Nat:=0
def tw168525359847507539:Nat:=0
def tw5195203456424908592:Nat:=0
def tw11075557751231973608:Nat:=0
def tw10501859487849998612:Nat:=0
def tw17343517541555392909:Nat:=0
def tw4864951664905408934:Nat:=0
def tw9395075833366441730:Nat:=0
def tw3097526609679735143:Nat:=0
def tw1471172487581941137:Nat:=0
def tw12373719291181737335:Nat:=0
def tw18335668575518409877:Nat:=0
def tw6208494917395371068:Nat:=0
def tw5187118215704077165:Nat:=0
def tw2383078714583351956:Nat:=0
def tw4352056724076847281:Nat:=0
def tw2873641062657428633:Nat:=0
def tw10453355908385508810:Nat:=0
def tw11221416660538310997:Nat:=0
def tw18067042754336473919:Nat:=0
def tw8299418429686200795:Nat:=0
def tw12161026992055989236:Nat:=0
def tw11682657388750691731:Nat:=0
def tw17213501556295560217:Nat:=0
def tw5417843139914789727:Nat:=0
def tw3689515012313454210:Nat:=0
def tw14665372268719226535:Nat:=0
def tw10747290752834267857:Nat:=0
def tw8018131353403777568:Nat:=0
def tw17969279401977322164:Nat:=0
def tw331155280010856851:Nat:=0
def tw9794718576398118187:Nat:=0
def tw18088839897012945582:Nat:=0
def tw8870761554444126873:Nat:=0
def tw12919399878557693352:Nat:=0
def tw9682350050411970567:Nat:=0
def tw8666714490905180472:Nat:=0
def tw16891476655649430276:Nat:=0
def tw1960094789147306978:Nat:=0
def tw8915248116539994771:Nat:=0
def tw15481296296152902920:Nat:=0
def tw462867119036779324:Nat:=0
def tw3184506918932033171:Nat:=0
def tw11907093533621222447:Nat:=0
def tw6872052021084864430:Nat:=0
def tw8583543136515774568:Nat:=0
def tw17951632512573280041:Nat:=0
def tw3648444057069975013:Nat:=0
def tw1136594364546397930:Nat:=0
def tw12472053085912503228:Nat:=0
def tw14314355105269661564:Nat:=0
def tw18121651665645081399:Nat:=0
def tw1327681624432062055:Nat:=0
def tw8087587196003475424:Nat:=0
def tw17053977331576215095:Nat:=0
def tw1581837725235992516:Nat:=0
def tw6794446851213521348:Nat:=0
def tw14911118510716431070:Nat:=0
def tw14959675650099872690:Nat:=0
def tw15867273453672008058:Nat:=0
def tw7105403647755503244:Nat:=0
def tw2867480997493575639:Nat:=0
def tw3587181806475377844:Nat:=0
def tw4018031839309060926:Nat:=0
def tw8456699059009631528:Nat:=0
def tw613531376386304290:Nat:=0
def tw12673067665473203369:Nat:=0
def tw10386329391500510898:Nat:=0
def tw2534887394365922142:Nat:=0
def tw10320358762023730169:Nat:=0
def tw2590798275129054870:Nat:=0
def tw15165748650096917529:Nat:=0
def tw13075816822859684857:Nat:=0
def tw9704124013746868879:Nat:=0
def tw7715501709377137626:Nat:=0
def tw8699642919440022308:Nat:=0
def tw11576331695390159982:Nat:=0
def tw14535048339281295556:Nat:=0
def tw9021355702601303350:Nat:=0
def tw5517499927556449887:Nat:=0
def tw9683485195907922515:Nat:=0
def tw13612110399896277567:Nat:=0
def tw14051911782288523440:Nat:=0
def tw12385816748030831401:Nat:=0
def tw15871344974640920331:Nat:=0
def tw10692206245530425153:Nat:=0
def tw2525424249351682773:Nat:=0
def tw6395121224035482027:Nat:=0
def tw6060659284415752976:Nat:=0
def tw13546637596227278890:Nat:=0
def tw9156466634081070864:Nat:=0
def tw3041148319105673466:Nat:=0
def tw12469911386624557250:Nat:=0
def tw18259589412908583888:Nat:=0
def tw13990834403357371096:Nat:=0
def tw17081416099966532943:Nat:=0
def tw11445159496266680772:Nat:=0
def tw13071950616586898211:Nat:=0
def tw9540485809747811513:Nat:=0
def tw8827577219680812479:Nat:=0
def tw3233337468805740724:Nat:=0
def tw18383818310570303346:Nat:=0
def tw1082076015962556088:Nat:=0
def tw12307972008323575333:Nat:=0
def tw2446877918579093220:Nat:=0
def tw2486608205138842857:Nat:=0
def tw17002694829046831287:Nat:=0
def tw17618573809167441581:Nat:=0
def tw4855467060899193536:Nat:=0
def tw9538198887966957924:Nat:=0
def tw7913590688883159058:Nat:=0
def tw6829674300900543173:Nat:=0
def tw2295477560206710269:Nat:=0
def tw14635064945715278483:Nat:=0
def tw3964669681231083754:Nat:=0
def tw8989436204218444939:Nat:=0
def tw2005580427873889537:Nat:=0
def tw4088390968385566336:Nat:=0
def tw5090637815833241452:Nat:=0
def tw8534301770452954759:Nat:=0
def tw622502585680726641:Nat:=0
def tw7309627281114572899:Nat:=0
def tw12178992443920817769:Nat:=0
def tw16705213120518757779:Nat:=0
def tw14251031981965179030:Nat:=0
def tw15833710840634622930:Nat:=0
def tw9296246639739943045:Nat:=0
def tw7116062938856240989:Nat:=0
def tw11776051654620145837:Nat:=0
def tw13098216968617996737:Nat:=0
def tw2861521249575914261:Nat:=0
def tw14337423168309924712:Nat:=0
def tw12823599153412287552:Nat:=0
def tw15194957631753324649:Nat:=0
def tw4927894417231818805:Nat:=0
def tw12717192091030668127:Nat:=0
def tw14157797454928275136:Nat:=0
def tw6022356090707716552:Nat:=0
def tw12124648729341317093:Nat:=0
def tw15154286401116206396:Nat:=0
def tw16114223119038643694:Nat:=0
def tw16996299791696057595:Nat:=0
def tw11830705302320815814:Nat:=0
def tw15872502769487941817:Nat:=0
def tw8080572013330950626:Nat:=0
def tw2987496465518812831:Nat:=0
def tw13552693787260344183:Nat:=0
def tw7211991306120663238:Nat:=0
def tw9880180203871735006:Nat:=0
def tw9924643184663172549:Nat:=0
def tw15271566542950729410:Nat:=0
def tw9913706231463409949:Nat:=0
def tw15933589772415432058:Nat:=0
def tw8734300653315645860:Nat:=0
def tw10262761266491140130:Nat:=0
def tw11658160521981321765:Nat:=0
def tw9543247601512456995:Nat:=0
def tw11389855327602295488:Nat:=0
def tw4693340193592904537:Nat:=0
def tw16168265861497753910:Nat:=0
def tw9693953724176664314:Nat:=0
def tw11858346802888838969:Nat:=0
def tw7268352143176081618:Nat:=0
def tw12306371830813518486:Nat:=0
def tw2364004064816356772:Nat:=0
def tw19424593558056047:Nat:=0
def tw13475035848520420111:Nat:=0
def tw5355875624153840820:Nat:=0
def tw2561710766723660548:Nat:=0
def tw3485721285498467445:Nat:=0
def tw16332636255738669688:Nat:=0
def tw14373217024428217829:Nat:=0
def tw16694805997498056676:Nat:=0
def tw3997509279084865166:Nat:=0
def tw11571524620829913799:Nat:=0
def tw8634668954256215039:Nat:=0
def tw14263580559996006021:Nat:=0
def tw943533089014160189:Nat:=0
def tw5222466023932034845:Nat:=0
def tw864982691323022297:Nat:=0
def tw13103710344150156165:Nat:=0
def tw11921402306701897869:Nat:=0
def tw3631635809976032943:Nat:=0
def tw13528892794821359634:Nat:=0
def tw15473834261037691472:Nat:=0
def tw16502557189427321540:Nat:=0
def tw6402162991898176671:Nat:=0
def tw12326578122395056595:Nat:=0
def tw5811774470168066261:Nat:=0
def tw8949527717910784667:Nat:=0
def tw13207687266840196462:Nat:=0
def tw4316888999319500116:Nat:=0
def tw4565821743296541225:Nat:=0
def tw13925749198201838149:Nat:=0
def tw16911874610736019052:Nat:=0
def tw15330306025055067309:Nat:=0
def tw3494248590110779417:Nat:=0
def tw11222458804593831404:Nat:=0
def tw6661935761112836452:Nat:=0
end PySem.W.Fast
open PySem PySem.W PyProof.Rows
set_option maxRecDepth 100000 in
set_option maxHeartbeats 0 in
theorem PySem.Challenge.cw_decidebook_k78_worlds_refused_holds : PySem.Challenge.rw_decidebook_k78_worlds_refused.Holds := by
  w_on;o_law;k_head;(case hw => w_witness2)
  k_fill
  refine L2.zjs (l := PySem.Challenge.rw_decidebook_k78_worlds_refused) (n := 63) (k := 60) (x := "script") (CX := L2.yq) (sp := Xv.zjR) rfl (by decide) rfl (by first | exact⟨rfl, by decide, by decide⟩ | exact⟨rfl, rfl, by decide, by decide⟩) (fun w h Y => PySem.W.kIn_of Y) ?F ?S ?C
  case F =>
    intro w mg fa h KX G hmg
    have T : ∃a, K78.Txt PySem.Challenge.rw_decidebook_k78_worlds_refused.prog w (L2.KOf KX) mg a := by
      dsimp only[L2.KOf]
      apply K78.zpD
      constructor
      iterate 12 ((try dsimp only);apply mg_of KX G;k_is)
      iterate 61 ((try dsimp only);apply L2.dfm KX G;k_is;k_is;k_is;k_is;intro _ _ _ _ _ _ us hl;first|(have z:=L2.Pb hl;subst z;rfl)|(obtain⟨_,us,e,hm⟩:=L2.Ld hl;clear hl;subst e;have hl:=hm;clear hm;first|(have z:=L2.Pb hl;subst z;rfl)|(obtain⟨_,us,e,hm⟩:=L2.Ld hl;clear hl;subst e;have hl:=hm;clear hm;first|(have z:=L2.Pb hl;subst z;rfl)|(obtain⟨_,us,e,hm⟩:=L2.Ld hl;clear hl;subst e;have hl:=hm;clear hm;first|(have z:=L2.Pb hl;subst z;rfl)|(obtain⟨_,us,e,hm⟩:=L2.Ld hl;clear hl;subst e;have hl:=hm;clear hm;first|(have z:=L2.Pb hl;subst z;rfl)|(obtain⟨_,us,e,hm⟩:=L2.Ld hl;clear hl;subst e;have hl:=hm;clear hm;first|(have z:=L2.Pb hl;subst z;rfl)|(obtain⟨_,us,e,hm⟩:=L2.Ld hl;clear hl;subst e;have hl:=hm;clear hm;first|(have z:=L2.Pb hl;subst z;rfl)|(obtain⟨_,us,e,hm⟩:=L2.Ld hl;clear hl;subst e;have hl:=hm;clear hm;(have z:=L2.Pb hl;subst z;rfl)))))))))
      iterate 11 ((try dsimp only);apply L2.dmm;k_is;k_is;k_is;k_is;k_is;intro _ _ _ _ _ _ us hl;first|(have z:=L2.Pb hl;subst z;rfl)|(obtain⟨_,us,e,hm⟩:=L2.Ld hl;clear hl;subst e;have hl:=hm;clear hm;first|(have z:=L2.Pb hl;subst z;rfl)|(obtain⟨_,us,e,hm⟩:=L2.Ld hl;clear hl;subst e;have hl:=hm;clear hm;first|(have z:=L2.Pb hl;subst z;rfl)|(obtain⟨_,us,e,hm⟩:=L2.Ld hl;clear hl;subst e;have hl:=hm;clear hm;first|(have z:=L2.Pb hl;subst z;rfl)|(obtain⟨_,us,e,hm⟩:=L2.Ld hl;clear hl;subst e;have hl:=hm;clear hm;first|(have z:=L2.Pb hl;subst z;rfl)|(obtain⟨_,us,e,hm⟩:=L2.Ld hl;clear hl;subst e;have hl:=hm;clear hm;first|(have z:=L2.Pb hl;subst z;rfl)|(obtain⟨_,us,e,hm⟩:=L2.Ld hl;clear hl;subst e;have hl:=hm;clear hm;first|(have z:=L2.Pb hl;subst z;rfl)|(obtain⟨_,us,e,hm⟩:=L2.Ld hl;clear hl;subst e;have hl:=hm;clear hm;(have z:=L2.Pb hl;subst z;rfl)))))))))
      iterate 2 ((try dsimp only);constructor;k_is;k_is;k_is;k_is)
      iterate 4 ((try dsimp only);unfold L2.Wz;k_is)
      iterate 10 ((try dsimp only);apply L2.zmm;k_is;k_is)
      iterate 5 ((try dsimp only);apply L2.zmo;k_exc;k_is;k_is;k_is;rfl)
      (try dsimp only);apply L2.zmn;k_is;k_is;k_is
      (try dsimp only);refine of_decide_eq_true ?_;rfl
      (try dsimp only);apply mg_none_of KX G;k_is
      (try dsimp only);apply mg_of KX G;k_is
      (try dsimp only);apply L2.zd0;k_is;rfl;decide
      iterate 3 ((try dsimp only);apply mg_of KX G;k_is)
      (try dsimp only);apply L2.znJ;k_is;rfl;(unfold K78.vh;decide +kernel);(unfold K78.vh;iterate 10 (apply L2.Ent.cons;k_is;rfl));apply L2.Ent.nil
      (try dsimp only);apply mg_of KX G;k_is
      (try dsimp only);apply L2.zd0;k_is;rfl;show 4<=1000;decide
      iterate 4 ((try dsimp only);apply L2.zd0;k_is;rfl;decide)
      iterate 11 ((try dsimp only);apply mg_none_of KX G;k_is)
    obtain⟨a, T⟩ := T
    have e0 := hmg.symm.trans T.f_law.m
    cases e0
    exact⟨_, K78.x_law T.f_law, fun base kb nb => K78.zmF T base⟩
  case S => exact fun K H a ns hl hO hS => ⟨a, ns, rfl, hS, hl, fun _ => rfl⟩
  case C => exact fun _ _ _ _ h => h
