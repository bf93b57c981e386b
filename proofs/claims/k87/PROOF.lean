import PyProof.Rows.All
import Wide.All
import OpenK.AllK
import Wide.FinOn
import Lean
import PyProof.EqAt
import PyProof.EqKinds
import PyProof.TupleCall
import KE.KRevIter
import OpenK.KOwn
import PyProof.Draws
import PyProof.EnumMake
import PyProof.StrBlockI
import PyProof.StrBlock2
import PyProof.DictValues
import PyProof.DictWalks
import PySem.Challenge.RW_decidebook_k87_whole_covers_entered
open PySem.W (Frag nsIn mg_of findIn mg_none_of)
def zqU:=@List.length_map
def zqV:=@List.getElem?_eq_getElem
def zqW:=@List.getElem?_map
def zqX:=@List.getElem?_eq_some_iff
def zqY:=@Bool.false_ne_true
def zqZ:=@List.mem_of_getElem?
def zq0:=@PySem.Heap.get?_push_of_some
def zq1:=@PySem.Heap.lt_size
def zq2:=@List.length_append
def zq3:=@Nat.lt_of_lt_of_le
def zq4:=@List.size_toArray
def zq5:=@List.mem_cons_of_mem
def zq6:=@List.length_cons
def zq7:=@List.getD_eq_getElem?_getD
def zq8:=@List.map_append
def zq9:=@Nat.ne_of_lt
def zra:=@Nat.le_refl
def zrb:=@List.mem_append_right
def zrc:=@List.length_range
def zrd:=@Nat.le_of_lt
def zre:=@List.mem_cons_self
def zrf:=@PySem.Heap.get?_push_size
def zrg:=@Nat.le_trans
def zrh:=@Nat.zero_le
def zri:=@List.length_take
def zrj:=@List.map_cons
def zrk:=@List.lookup_cons
def zrl:=@List.not_mem_nil
def zrm:=@Bool.and_eq_true
def zrn:=@List.take_length
def zro:=@List.all_eq_true
def zrp:=@Option.some.inj
def zrq:=@Nat.pow_le_pow_right
def zrr:=@List.getElem?_append_left
def zrs:=@List.length_singleton
def zrt:=@List.length_filter_le
def zru:=@List.getElem?_eq_none
def zrv:=@Nat.le_add_right
def zrw:=@List.map_map
def zrx:=@List.filter_append
def zry:=@Int.emod_lt_of_pos
def zrz:=@Bool.eq_iff_iff
def zrA:=@List.getElem_of_mem
def zrB:=@Int.emod_nonneg
set_option Elab.async false
set_option linter.all false
set_option maxRecDepth 100000
namespace L2
open PySem PySem.Spec PyProof.Rows
abbrev Key:=Sum Int Str
def zar:Key->Value->Bool
 | .inl k,v=>Value.isInt k v
 | .inr x,v=>Value.isStrOf x v
def zmE (w:World):Key->Int
 | .inl k=>hashInt k
 | .inr x=>hashStr w x
theorem yV:∀{k:Key} {v:Value},zar k v=true->(∃i t,k=Sum.inl i/\v=Value.int i t)\/(∃x t,k=Sum.inr x/\v=Value.str x t)
 | .inl i,v,h=>by
  obtain⟨t,e⟩:=Value.isInt_shape (k:=i) (v:=v) h
  exact .inl ⟨i,t,rfl,e⟩
 | .inr x,v,h=>by
  obtain⟨t,e⟩:=Value.isStrOf_shape (x:=x) (v:=v) h
  exact .inr ⟨x,t,rfl,e⟩
theorem ze5 (i:Int)(t:Tok):zar (.inl i) (.int i t)=true:=by simp[zar,Value.isInt]
theorem ze6 (x:Str)(t:Tok):zar (.inr x) (.str x t)=true:=by simp[zar,Value.isStrOf]
theorem zjl (a b:Int):decide ((Sum.inl a:Key)=Sum.inl b)=(a==b):=by
 by_cases e:a=b
 ·subst e;simp
 ·have h:¬(Sum.inl a:Key)=Sum.inl b:=fun q=>e (Sum.inl.inj q)
  rw[decide_eq_false h]
  exact(beq_eq_false_iff_ne.mpr e).symm
theorem zjm (a b:Str):decide ((Sum.inr a:Key)=Sum.inr b)=decide (a=b):=by
 by_cases e:a=b
 ·subst e;simp
 ·have h:¬(Sum.inr a:Key)=Sum.inr b:=fun q=>e (Sum.inr.inj q)
  rw[decide_eq_false h,decide_eq_false e]
theorem zjn (a:Int)(b:Str):decide ((Sum.inl a:Key)=Sum.inr b)=false:=decide_eq_false (fun q=>nomatch q)
theorem zjo (a:Str)(b:Int):decide ((Sum.inr a:Key)=Sum.inl b)=false:=decide_eq_false (fun q=>nomatch q)
def z6 (prog:Program)(w:World):PySem.KeyKind prog w Key where
 is:=zar
 hash:=zmE w
 inj:=fun v a b ha hb=>by
  rcases yV ha with ⟨i,t,rfl,rfl⟩ | ⟨x,t,rfl,rfl⟩
  ·rcases yV hb with ⟨j,u,rfl,e⟩ | ⟨y,u,rfl,e⟩
   ·injection e with e1 _;rw[e1]
   ·exact nomatch e
  ·rcases yV hb with ⟨j,u,rfl,e⟩ | ⟨y,u,rfl,e⟩
   ·exact nomatch e
   ·injection e with e1 _;rw[e1]
 byValue:=fun k v h=>by
  rcases yV h with ⟨i,t,rfl,rfl⟩ | ⟨x,t,rfl,rfl⟩<;>rfl
 pyHash:=fun hv h=>by
  rcases yV hv with ⟨i,t,rfl,rfl⟩ | ⟨x,t,rfl,rfl⟩
  ·exact wpAny_pyHash_int h
  ·exact wpAny_pyHash_str h
 eqBool:=fun hu hv h=>by
  rcases yV hu with ⟨i,t,rfl,rfl⟩ | ⟨x,t,rfl,rfl⟩
  ·rcases yV hv with ⟨j,u,rfl,rfl⟩ | ⟨y,u,rfl,rfl⟩
   ·rw[zjl] at h;exact wpAny_eqBool_int h
   ·rw[zjn] at h;exact SeqAt.EqAt.int_str i t y u _ _ _ _ h
  ·rcases yV hv with ⟨j,u,rfl,rfl⟩ | ⟨y,u,rfl,rfl⟩
   ·rw[zjo] at h;exact SeqAt.EqAt.str_int x t j u _ _ _ _ h
   ·rw[zjm] at h;exact wpAny_eqBool_str h
 «strs»:=fun k x t v h=>by
  rcases yV h with ⟨i,u,rfl,e⟩ | ⟨y,u,rfl,e⟩
  ·exact nomatch e
  ·injection e with e1 _
   subst e1
   cases v<;>rfl
theorem zb8 (prog:Program)(w:World)(i:Int)(t:Tok):(z6 prog w).is (.inl i) (.int i t)=true:=ze5 i t
theorem zb9 (prog:Program)(w:World)(x:Str)(t:Tok):(z6 prog w).is (.inr x) (.str x t)=true:=ze6 x t
inductive V where
 | non | bl (b:Bool) | int (i:Int) | str (x:Str) | byt (b:Array UInt8) | flt (b:UInt64) | ref (a:Addr) | ty (n:String)
 deriving DecidableEq
def RelV:V->Value->Prop
 | .non,u=>u=Value.none
 | .bl b,u=>u=Value.bool b
 | .int i,u=>∃t,u=Value.int i t
 | .str x,u=>∃t,u=Value.str x t
 | .byt b,u=>∃t,u=Value.bytes b t
 | .flt b,u=>∃t,u=Value.float b t
 | .ref a,u=>u=Value.ref a
 | .ty n,u=>u=Value.type n
abbrev Vals:List V->List Value->Prop:=Paired RelV
theorem Vals.length {xs:List V}{us:List Value}(r:Vals xs us):xs.length=us.length:=Paired.length r
theorem Vals.get:∀{xs:List V} {us:List Value} {i:Nat} {x:V},Vals xs us->xs[i]?=some x->∃u,us[i]?=some u/\RelV x u
 | _,_,_,_,.nil,e=>by simp at e
 | _,_,0,_,.cons r _,e=>by simp at e;subst e;exact⟨_,rfl,r⟩
 | _,_,i+1,x,.cons _ t,e=>by
  obtain⟨u,h1,h2⟩:=Vals.get (i:=i) (x:=x) t (by simpa using e)
  exact⟨u,by simpa using h1,h2⟩
theorem Vals.append:∀{xs ys:List V} {us ws:List Value},Vals xs us->Vals ys ws->Vals (xs++ys) (us++ws)
 | _,_,_,_,.nil,s=>s
 | _,_,_,_,.cons r t,s=>.cons r (Vals.append t s)
theorem Vals.take:∀{xs:List V} {us:List Value} (n:Nat),Vals xs us->Vals (xs.take n) (us.take n)
 | _,_,0,_=>.nil
 | _,_,_+1,.nil=>.nil
 | _,_,n+1,.cons r t=>.cons r (Vals.take n t)
theorem Vals.drop:∀{xs:List V} {us:List Value} (n:Nat),Vals xs us->Vals (xs.drop n) (us.drop n)
 | _,_,0,r=>r
 | _,_,_+1,.nil=>.nil
 | _,_,n+1,.cons _ t=>Vals.drop n t
def V7:Option V->Option Value->Prop
 | some v,some u=>RelV v u
 | none,none=>True
 | _,_=>False
def KV {κ:Type}:List (κ×V)->List (κ×Value)->Prop:=Paired fun(p:κ×V) (q:κ×Value)=>p.1=q.1/\RelV p.2 q.2
def kV:Key->V
 | .inl i=>.int i
 | .inr x=>.str x
inductive HO where
 | lst (xs:List V)
 | tup (xs:List V)
 | dK (kvs:List (Key×V)) | dT (kvs:List (List Key×V))
 | set (S:Int->Bool) (n:Nat)
 | ins (C dx:Addr) (fs:List (Str×V))
 | own (x:Addr)
 | xd (fs:List (Str×V))
 | met (f x:Addr)
 | rng (lo hi:Int)
 | Kg (o:Obj) (u:HO)
 | tbl (ps:Array Value)
 | ext (φ:Heap->Prop)
abbrev Hp:=Addr->Option HO
def upd (H:Hp)(a:Addr)(o:HO):Hp:=fun b=>if b=a then some o else H b
theorem zj {H:Hp}{a:Addr}{o:HO}:upd H a o a=some o:=by unfold upd;rw[if_pos rfl]
theorem zA {H:Hp}{a b:Addr}{o:HO}(h:b≠a):upd H a o b=H b:=by unfold upd;rw[if_neg h]
theorem zht {H:Hp}{a:Addr}{o u:HO}:upd (upd H a o) a u=upd H a u:=by
 funext b;unfold upd;split<;>rfl
theorem V8 {H:Hp}{a b:Addr}{o u:HO}(h:H a=some o)(h':H b=some u)(d:o≠u):a≠b:=by
 intro e;subst e;rw[h] at h';exact d (zrp h')
theorem zy {H:Hp}{a b:Addr}{o:HO}(h:H a=some o)(h':H b=none):a≠b:=by
 intro e;subst e;rw[h] at h';cases h'
section
variable (P:Program)(w:World)
def wG (H:Hp)(h:Heap)(a:Addr):HO->Prop
 | .lst xs=>xs.length<=sizeLine/\∃(its:List Value) (n:Nat),Vals xs its/\h.get? a=some { cls:=.type "list", data:=.seq its.toArray n }
 | .tup xs=>xs.length<=sizeLine/\∃its:List Value,Vals xs its/\IsTup h a its.toArray
 | .dK kvs=>kvs.length<=sizeLine/\(a==sysModules)=false/\∃vs,KV kvs vs/\h.DictOf (z6 P w) a vs
 | .dT kvs=>kvs.length<=sizeLine/\(a==sysModules)=false/\∃xs:List (List Key×Addr×Value),
   Paired (fun(p:List Key×V) (q:List Key×Addr×Value)=>p.1=q.1/\H q.2.1=some (.tup (p.1.map kV))/\RelV p.2 q.2.2) kvs xs /\
   ∃o es ep,h.get? a=some o/\o.ExactDict/\o.data=.dict es ep/\es.toList=xs.map (entryOfKey (tupleKind (z6 P w)))/\(xs.map (·.1)).Nodup
 | .set S n=>h.SetOf (intKind P w) a S n
 | .ins C dx fs=>H dx=some (.own a)/\fs.length<=1000/\dx≠a/\h.get? a=some (PySem.W.instObj C dx) /\
   ∃mA,h.Ns1 dx mA/\(∀f,V7 (fs.lookup f) (mA f))/\PySem.Within mA (fs.map (·.1))
 | .own _=>∃o,h.get? a=some o
 | .xd fs=>∃mA,h.Ns1 a mA/\∀f,V7 (fs.lookup f) (mA f)
 | .rng lo hi=>∃t u v,h.get? a=some { cls:=.type "range", data:=.fields #[.int lo t,.int hi u,.int 1 v] }
 | .Kg o u=>h.get? a=some o/\wG H h a u
 | .tbl ps=>h.get? a=some { cls:=.none,data:=.fields ps }
 | .met f x=>h.get? a=some (PySem.W.methodObj (.ref f) (.ref x))
 | .ext φ=>φ h/\(∃o,h.get? a=some o)/\∀h1 h2:Heap,φ h1->(∀o,h1.get? a=some o->h2.get? a=some o)->φ h2
def T3 (H:Hp)(h:Heap):Prop:=∀a o,H a=some o->wG P w H h a o
end
section
variable {P:Program}{w:World}{H H':Hp}{h h':Heap}{a:Addr}{o:HO}
theorem wG.lt (x:wG P w H h a o):a<h.objs.size:=by
 cases o with
 | lst xs=>obtain⟨_,_,_,_,e⟩:=x;exact zq1 e
 | tup xs=>obtain⟨_,_,_,p⟩:=x;exact p.lt
 | dK kvs=>obtain⟨_,_,_,_,o,_,_,e,_⟩:=x;exact zq1 e
 | dT kvs=>obtain⟨_,_,_,_,o,_,_,e,_⟩:=x;exact zq1 e
 | set S n=>obtain⟨o,_,_,_,e,_⟩:=x;exact zq1 e
 | ins C dx fs=>obtain⟨_,_,_,e,_⟩:=x;exact zq1 e
 | own y=>obtain⟨_,e⟩:=x;exact zq1 e
 | xd fs=>obtain⟨_,⟨_,_,_,e,_⟩,_⟩:=x;exact zq1 e
 | rng lo hi=>obtain⟨_,_,_,e⟩:=x;exact zq1 e
 | Kg ob u=>obtain⟨e,_⟩:=x;exact zq1 e
 | tbl ps=>exact zq1 (show h.get? a=some _ from x)
 | met f y=>exact zq1 (show h.get? a=some _ from x)
 | ext φ=>obtain⟨_,⟨_,e⟩,_⟩:=x;exact zq1 e
theorem Paired.zjq {α β:Type}{F G:α->β->Prop}:∀{l₁:List α} {l₂:List β},Paired F l₁ l₂->(∀a b,F a b->G a b)->Paired G l₁ l₂
 | _,_,.nil,_=>.nil
 | _,_,.cons r t,f=>.cons (f _ _ r) (Paired.zjq t f)
theorem wG.stay (x:wG P w H h a o)(k:∀b u,(b=a\/H b=some (.own a))->h.get? b=some u->h'.get? b=some u)
  (ho:∀b,H b=some (.own a)->H' b=some (.own a))(ht:∀b xs,H b=some (.tup xs)->H' b=some (.tup xs)):wG P w H' h' a o:=by
 induction o with
 | lst xs=>obtain⟨z,its,n,r,e⟩:=x;exact⟨z,its,n,r,k _ _ (.inl rfl) e⟩
 | tup xs=>obtain⟨z,its,r,ob,e,c⟩:=x;exact⟨z,its,r,ob,k _ _ (.inl rfl) e,c⟩
 | dK kvs=>obtain⟨z,y,vs,r,ob,es,ep,e,c⟩:=x;exact⟨z,y,vs,r,ob,es,ep,k _ _ (.inl rfl) e,c⟩
 | dT kvs =>
  obtain⟨z,y,xs,r,ob,es,ep,e,c⟩:=x
  exact⟨z,y,xs,Paired.zjq r fun p q z=>⟨z.1,ht _ _ z.2.1,z.2.2⟩,ob,es,ep,k _ _ (.inl rfl) e,c⟩
 | set S n=>obtain⟨ob,es,ep,t,e,c⟩:=x;exact⟨ob,es,ep,t,k _ _ (.inl rfl) e,c⟩
 | ins C dx fs =>
  obtain⟨d,z,ne,e,mA,⟨od,es,ep,e2,c⟩,r⟩:=x
  exact⟨ho _ d,z,ne,k _ _ (.inl rfl) e,mA,⟨od,es,ep,k _ _ (.inr d) e2,c⟩,r⟩
 | own y=>obtain⟨ob,e⟩:=x;exact⟨ob,k _ _ (.inl rfl) e⟩
 | xd fs=>obtain⟨mA,⟨od,es,ep,e,c⟩,r⟩:=x;exact⟨mA,⟨od,es,ep,k _ _ (.inl rfl) e,c⟩,r⟩
 | rng lo hi=>obtain⟨t,u,v,e⟩:=x;exact⟨t,u,v,k _ _ (.inl rfl) e⟩
 | Kg ob u ih=>obtain⟨e,q⟩:=x;exact⟨k _ _ (.inl rfl) e,ih q⟩
 | tbl ps =>
  have e:h.get? a=some { cls:=.none,data:=.fields ps }:=x
  show h'.get? a=some { cls:=.none,data:=.fields ps }
  exact k a _ (.inl rfl) e
 | met f y =>
  have e:h.get? a=some (PySem.W.methodObj (.ref f) (.ref y)):=x
  show h'.get? a=some (PySem.W.methodObj (.ref f) (.ref y))
  exact k a _ (.inl rfl) e
 | ext φ=>obtain⟨p,⟨o,e⟩,st⟩:=x;exact⟨st _ _ p fun o q=>k _ _ (.inl rfl) q,⟨o,k _ _ (.inl rfl) e⟩,st⟩
theorem T3.lt (x:T3 P w H h)(e:H a=some o):a<h.objs.size:=(x a o e).lt
theorem T3.fresh (x:T3 P w H h)(e:h.objs.size<=a):H a=none:=by
 cases q:H a with
 | none=>rfl
 | some u=>exact absurd (zq3 (x.lt q) e) (Nat.lt_irrefl _)
theorem T3.kept (x:T3 P w H h)(k:∀b u,h.get? b=some u->h'.get? b=some u):T3 P w H h':=fun a o e =>
 (x a o e).stay (fun b u _ q=>k b u q) (fun _ q=>q) fun _ _ q=>q
theorem T3.laid (x:T3 P w H h)(k:∀b u,h.get? b=some u->h'.get? b=some u)(hp:h.objs.size<=a)(new:wG P w (upd H a o) h' a o):T3 P w (upd H a o) h':=fun b u e=>by
 have hn:=x.fresh hp
 by_cases hb:b=a
 ·subst hb;rw[zj] at e;cases e;exact new
 ·rw[zA hb] at e
  exact(x b u e).stay (fun c v _ q=>k c v q) (fun c q=>by rw[zA (zy q hn)];exact q) fun c xs q=>by rw[zA (zy q hn)];exact q
end
def Rd (H:Hp)(a:Addr)(u:HO):Prop:=H a=some u\/∃o,H a=some (.Kg o u)
theorem Rd.ok {P:Program}{w:World}{H:Hp}{h:Heap}{a:Addr}{u:HO}(r:Rd H a u)(x:T3 P w H h):wG P w H h a u:=by
 rcases r with r | ⟨o,r⟩
 ·exact x a u r
 ·obtain⟨_,q⟩:=x a _ r
  exact q
def Mut:Option HO->Prop
 | some (.lst _)=>True
 | some (.dK _)=>True
 | some (.dT _)=>True
 | some (.set _ _)=>True
 | some (.ins _ _ _)=>True
 | some (.ext _)=>True
 | _=>False
section
variable {P:Program}{w:World}{H:Hp}{h h':Heap}{x e:Addr}{o':HO}
theorem T3.write (ok:T3 P w H h)(mu:Mut (H x))(he:e=x\/H e=some (.own x))(k:∀b u,b≠e->h.get? b=some u->h'.get? b=some u)(heo:∃u,h'.get? e=some u)
  (new:wG P w (upd H x o') h' x o'):T3 P w (upd H x o') h':=fun b u q=>by
 have zkJ:∀c y,H c=some (.own y)->c≠x:=fun c y r z=>by subst z;rw[r] at mu;exact mu
 have zmF:∀c xs,H c=some (.tup xs)->c≠x:=fun c xs r z=>by subst z;rw[r] at mu;exact mu
 by_cases hb:b=x
 ·subst hb;rw[zj] at q;cases q;exact new
 ·rw[zA hb] at q
  by_cases hbe:b=e
  ·have q':H b=some (.own x):=by
    rcases he with z | z
    ·exact absurd (hbe.trans z) hb
    ·rw[hbe];exact z
   rw[q] at q';cases q'
   obtain⟨v,hv⟩:=heo
   exact⟨v,by rw[hbe];exact hv⟩
  ·refine(ok b u q).stay (fun c v hc r=>k c v ?_ r) (fun c r=>by rw[zA (zkJ c b r)];exact r) fun c xs r=>by rw[zA (zmF c xs r)];exact r
   rcases hc with rfl | hc
   ·exact hbe
   ·rintro rfl
    rcases he with z | z
    ·exact zkJ c b hc z
    ·rw[hc] at z;cases z;exact hb rfl
end
structure Un (fs ex:List Addr)(H H':Hp)(h h':Heap):Prop where
 keep:∀b o,h.get? b=some o->H b=none->b∉fs->b∉ex->h'.get? b=some o
 slot:∀b o,h.get? b=some o->H b=none->b∈fs->b∉ex->∃sl,h'.get? b=some { o with slots:=sl }
 free:∀b o,h.get? b=some o->H b=none->b∉ex->H' b=none
 there:∀b o,h.get? b=some o->b∉ex->∃o',h'.get? b=some o'
 tups:∀b xs,H b=some (.tup xs)->H' b=some (.tup xs)
 JW:∀b o u,H b=some (.Kg o u)->H' b=some (.Kg o u)
 za2:∀b ps,H b=some (.tbl ps)->∃more,H' b=some (.tbl (ps++more))
section
variable {fs fs' ex ex':List Addr}{H H1 H2:Hp}{h h1 h2 h':Heap}{a x e:Addr}{o:HO}
theorem Un.any (u:Un fs ex H H1 h h1){b:Addr}{ob:Obj}(q:h.get? b=some ob)(n:H b=none)(hx:b∉ex):∃sl,h1.get? b=some { ob with slots:=sl }:=by
 by_cases hb:b∈fs
 ·exact u.slot b ob q n hb hx
 ·exact⟨ob.slots,u.keep b ob q n hb hx⟩
theorem Un.kept (k:∀b u,h.get? b=some u->h'.get? b=some u):Un fs ex H H h h' :=
 ⟨fun b ob q _ _ _=>k b ob q,fun b ob q _ _ _=>⟨ob.slots,k b ob q⟩,fun _ _ _ n _=>n,fun b ob q _=>⟨ob,k b ob q⟩,fun _ _ q=>q,fun _ _ _ q=>q,fun _ ps q=>⟨#[],by rw[q];simp⟩⟩
theorem Un.refl:Un fs ex H H h h:=Un.kept fun _ _ q=>q
theorem Un.laid (k:∀b u,h.get? b=some u->h'.get? b=some u)(hp:h.objs.size<=a)(hn:H a=none):Un fs ex H (upd H a o) h h' where
 keep:=fun b u q _ _ _=>k b u q
 slot:=fun b u q _ _ _=>⟨u.slots,k b u q⟩
 free:=fun b u q n _=>by rw[zA (zq9 (zq3 (zq1 q) hp))];exact n
 there:=fun b u q _=>⟨u,k b u q⟩
 tups:=fun b xs q=>by rw[zA (zy q hn)];exact q
 JW:=fun b u xs q=>by rw[zA (zy q hn)];exact q
 za2:=fun b ps q=>⟨#[],by rw[zA (zy q hn),q];simp⟩
theorem Un.write (mu:Mut (H x))(he:e=x\/H e=some (.own x))(k:∀b u,b≠e->h.get? b=some u->h'.get? b=some u)(heo:∃u,h'.get? e=some u):Un fs ex H (upd H x o) h h':=by
 have hx:∀b,H b=none->b≠x:=fun b n z=>by subst z;rw[n] at mu;exact mu
 have hb:∀b,H b=none->b≠e:=fun b n z=>by
  subst z
  rcases he with r | r
  ·exact hx b n r
  ·rw[n] at r;cases r
 have hm:∀b u,H b=some u->¬Mut (some u)->b≠x:=fun b u q nm z=>by subst z;rw[q] at mu;exact nm mu
 refine⟨fun b u q n _ _=>k b u (hb b n) q,fun b u q n _ _=>⟨u.slots,k b u (hb b n) q⟩,fun b u q n _=>by rw[zA (hx b n)];exact n,fun b u q _=>?_,
  fun b xs q=>by rw[zA (hm b _ q fun z=>z)];exact q,fun b u xs q=>by rw[zA (hm b _ q fun z=>z)];exact q,fun b ps q=>⟨#[],by rw[zA (hm b _ q fun z=>z),q];simp⟩⟩
 by_cases hbe:b=e
 ·subst hbe;exact heo
 ·exact⟨u,k b u hbe q⟩
end
def trk (h:Heap)(H:Hp):List Addr:=(List.range h.objs.size).filter fun a=>(H a).isSome
def za3 (h:Heap)(H:Hp):Heap:=PySem.W.hideAll h (trk h H)
theorem ze7 (h:Heap)(H:Hp):(za3 h H).objs.size=h.objs.size:=PySem.W.hideAll_size _ _
theorem zf1 {h:Heap}{H:Hp}{b:Addr}{o:Obj}(e:h.get? b=some o)(n:H b=none):(za3 h H).get? b=some o :=
 PySem.W.hideAll_get _ e fun hm=>by
  have q:(H b).isSome=true:=(List.mem_filter.mp hm).2
  rw[n] at q;simp at q
theorem zhu {h:Heap}{H:Hp}{b:Addr}{o:Obj}(e:(za3 h H).get? b=some o):h.get? b=some o/\H b=none:=by
 have e':h.get? b=some o:=PySem.W.of_hideAll (trk h H) e
 refine⟨e',?_⟩
 cases q:H b with
 | none=>rfl
 | some x =>
  have hm:b∈trk h H:=List.mem_filter.mpr ⟨List.mem_range.mpr (zq1 e'),by simp[q]⟩
  have z:(za3 h H).get? b=none:=PySem.W.hideAll_none (trk h H) hm
  rw[z] at e;cases e
structure Mod (K:Frag)(mg:Str->Option Value)(base:Heap):Prop where
 kin:K.In base
 glob:base.Ns mainGlobals mg
 blt:∃mb,base.Ns builtinsNs mb/\∀x:Str,x ≠ "__name__" -> mb x=bootBuiltins x
 nolimit:base.NoLimit
structure Cx where
 prog:Program
 w:World
 K:Frag
 mg:Str->Option Value
 base:Heap
 A:Around
 N:List Str
 s₀:Shared
 H₀:Hp
 env:Env
 outer:List Env
 stack:List Env
 ex:List Addr
 fn:Str->Bool
 calm:Bool
 pn:List (Addr×Obj)
 xe:Value->Shared->Prop
def frs (l:List Env):List Addr:=l.filterMap (·.frame)
abbrev Cx.fs (X:Cx):List Addr:=frs X.outer
def Vis (sc:Scope)(x:Str):Prop:=sc.names.lookup x=some .local\/sc.names.lookup x=some .cell\/sc.names.lookup x=some .free
def Loc (sc:Scope)(x:Str):Prop:=sc.names.lookup x=some .local\/sc.names.lookup x=some .cell
def Look (env:Env)(h:Heap)(m:Str->Option Value)(x:Str)(u:Value):Prop :=
 (env.kindOf x=some .local/\m x=some u)\/((env.kindOf x=some .cell\/env.kindOf x=some .free)/\∃c,env.cells.lookup x=some c/\h.IsCell c (some u))
structure Cx.Ok (X:Cx):Prop where
 mod:Mod X.K X.mg X.base
 kind:X.env.scope.kind=.function
 glob:X.env.globals=mainGlobals
 blt:X.env.builtins=builtinsNs
 above:X.s₀.heap.objs.size<=X.env.locals
 inj:∀x y c,X.env.cells.lookup x=some c->X.env.cells.lookup y=some c->x=y
 has:∀x,(X.env.kindOf x=some .cell\/X.env.kindOf x=some .free)->∃c,X.env.cells.lookup x=some c
 cab:∀x c,X.fn x=true->X.env.cells.lookup x=some c->X.s₀.heap.objs.size<=c
 hd:X.calm=true->X.A.handled=none
 frames:X.A.frames=some X.stack
 stk:X.stack=X.outer\/(X.stack=X.env::X.outer/\X.env.frame=some X.env.locals)
 exf:∀b∈X.ex,b≠X.env.locals/\∀x c,X.env.cells.lookup x=some c->c≠b
 bs:∀b o,X.base.get? b=some o->X.s₀.heap.get? b=some o/\X.H₀ b=none
 bsz:X.base.objs.size<=X.s₀.heap.objs.size
 ze8:∀b o,X.base.get? b=some o->b∉X.ex
 ze9:∀b∈X.ex,b∉X.fs
 Pk:X.s₀.heap.FunFrames X.base X.outer
 frf:∀b∈X.fs,X.H₀ b=none
structure Inv (X:Cx)(pins:List (Addr×Obj))(σ:List (Option V))(H:Hp)(s:Shared):Prop where
 ok:X.Ok
 os:s.os=X.s₀.os
 bare:AllBare s.gens
 base:Un X.fs X.ex X.H₀ H X.s₀.heap s.heap
 loc:∃m,s.heap.Ns X.env.locals m/\∀(i:Nat) (x:Str) (v:V),X.N[i]?=some x->σ[i]?=some (some v)->Vis X.env.scope x->∃u,RelV v u/\Look X.env s.heap m x u
 cell:∀x c,X.env.cells.lookup x=some c->∃v,s.heap.IsCell c v
 free:H X.env.locals=none
 V9:∀x c,X.env.cells.lookup x=some c->H c=none
 pin:∀p∈X.pn++pins,s.heap.get? p.1=some p.2/\H p.1=none/\p.1≠X.env.locals/\p.1∉X.fs/\∀v,p.2.data≠.cell v
 hok:T3 X.prog X.w H s.heap
 len:σ.length=X.N.length
section
variable {X:Cx}{pins:List (Addr×Obj)}{σ:List (Option V)}{H H':Hp}{s:Shared}{h':Heap}
theorem Cx.Ok.zmG (ok:X.Ok){b:Addr}{o:Obj}(e:X.base.get? b=some o):b∉X.fs:=fun hb=>by
 have:=(ok.Pk.mem hb).1
 rw[e] at this;cases this
theorem Inv.bs (I:Inv X pins σ H s):∀b o,X.base.get? b=some o->s.heap.get? b=some o/\H b=none:=fun b o e =>
 ⟨I.base.keep b o (I.ok.bs b o e).1 (I.ok.bs b o e).2 (I.ok.zmG e) (I.ok.ze8 b o e),I.base.free b o (I.ok.bs b o e).1 (I.ok.bs b o e).2 (I.ok.ze8 b o e)⟩
theorem Inv.bk (I:Inv X pins σ H s):∀b o,X.base.get? b=some o->s.heap.get? b=some o:=fun b o e=>(I.bs b o e).1
theorem Inv.mod (I:Inv X pins σ H s):Mod X.K X.mg X.base:=I.ok.mod
theorem Inv.Pn (I:Inv X pins σ H s):X.K.In s.heap:=I.ok.mod.kin.keeps I.bk
theorem Inv.lt (I:Inv X pins σ H s):X.env.locals<s.heap.objs.size:=let ⟨_,hn,_⟩:=I.loc;hn.lt
theorem Inv.sz (I:Inv X pins σ H s):X.s₀.heap.objs.size<=s.heap.objs.size:=zrg I.ok.above (zrd I.lt)
theorem Inv.zjr (I:Inv X pins σ H s){a:Addr}(h:s.heap.objs.size<=a):a∉X.fs:=fun hb=>by
 obtain⟨_,o,ho,_⟩:=I.ok.Pk.mem hb
 exact absurd (zq3 (zq1 ho) (zrg I.sz h)) (Nat.lt_irrefl _)
theorem Inv.cne (I:Inv X pins σ H s):∀x c,X.env.cells.lookup x=some c->c≠X.env.locals:=fun x c e z=>by
 obtain⟨v,o,ho,hd⟩:=I.cell x c e
 obtain⟨m,⟨o',es,ep,ho',hd',_⟩,_⟩:=I.loc
 rw[z,ho'] at ho;cases ho;rw[hd'] at hd;cases hd
theorem Inv.Pk (I:Inv X pins σ H s):s.heap.FunFrames X.base X.outer:=by
 have all:∀(l:List Env),(∀b∈frs l,b∈X.fs)->X.s₀.heap.FunFrames X.base l->s.heap.FunFrames X.base l:=by
  intro l
  induction l with
  | nil=>intro _ _;trivial
  | cons env r ih =>
   intro hs hl
   obtain⟨hk,⟨L,o,hf,hn,ho,hd⟩,hr⟩:=hl
   have hL:L∈X.fs:=hs L (by unfold frs;rw[List.filterMap_cons,hf];exact zre)
   obtain⟨sl,e⟩:=I.base.slot L o ho (I.ok.frf L hL) hL fun z=>I.ok.ze9 L z hL
   exact⟨hk,⟨L,_,hf,hn,e,hd⟩,ih (fun b hb=>hs b (by unfold frs;rw[List.filterMap_cons,hf];exact zq5 _ hb)) hr⟩
 exact all X.outer (fun _ hb=>hb) I.ok.Pk
theorem Inv.stack (I:Inv X pins σ H s):s.heap.FunFrames X.base X.stack:=by
 rcases I.ok.stk with e | ⟨e,hf⟩
 ·rw[e];exact I.Pk
 ·rw[e]
  obtain⟨m,hn,_⟩:=I.loc
  refine .cons (by rw[I.ok.kind];decide) hf hn ?_ I.Pk
  exact Heap.get?_none_of_le (zrg I.ok.bsz I.ok.above)
theorem Inv.za4 (I:Inv X pins σ H s):∀b∈frs X.stack,b∈X.env.locals::X.fs:=fun b hb=>by
 rcases I.ok.stk with e | ⟨e,hf⟩
 ·rw[e] at hb;exact zq5 _ hb
 ·rw[e] at hb
  unfold frs at hb
  rw[List.filterMap_cons,hf] at hb
  exact hb
theorem Inv.zer (I:Inv X pins σ H s):∀b∈frs X.stack,H b=none:=fun b hb=>by
 rcases List.mem_cons.mp (I.za4 b hb) with e | hb
 ·rw[e];exact I.free
 ·obtain⟨_,o,ho,_⟩:=I.ok.Pk.mem hb
  exact I.base.free b o ho (I.ok.frf b hb) fun z=>I.ok.ze9 b z hb
theorem Inv.step {g':Array GenState}{t':Nat}{d':Drawn}{ch:List Addr}(I:Inv X pins σ H s)
  (hch:∀b∈ch,(b∈X.ex\/X.s₀.heap.objs.size<=b)/\b≠X.env.locals/\(∀x c,X.env.cells.lookup x=some c->c≠b)/\∀p∈X.pn++pins,p.1≠b)
  (keep:∀b o,b≠X.env.locals->b∉X.fs->b∉ch->s.heap.get? b=some o->H b=none->h'.get? b=some o)
  (slot:∀b o,b≠X.env.locals->b∈X.fs->b∉ch->s.heap.get? b=some o->H b=none->∃sl,h'.get? b=some { o with slots:=sl })(free:∀b o,b∉ch->s.heap.get? b=some o->H b=none->H' b=none)
  (there:∀b o,b∉ch->s.heap.get? b=some o->∃o',h'.get? b=some o')
  (tups:∀b xs,H b=some (.tup xs)->H' b=some (.tup xs))(JW:∀b o u,H b=some (.Kg o u)->H' b=some (.Kg o u))(za2:∀b ps,H b=some (.tbl ps)->∃more,H' b=some (.tbl (ps++more)))
  (ns:∀m,s.heap.Ns X.env.locals m->h'.Ns X.env.locals m)(hok:T3 X.prog X.w H' h')(hg:AllBare g') :
  Inv X pins σ H' { s with heap:=h',gens:=g',drawn:=d',toks:=t' }:=by
 have neL:∀b o,X.s₀.heap.get? b=some o->b≠X.env.locals:=fun b o e=>zq9 (zq3 (zq1 e) I.ok.above)
 have neC:∀b o,X.s₀.heap.get? b=some o->b∉X.ex->b∉ch:=fun b o e hx hb=>by
  rcases (hch b hb).1 with z | z
  ·exact hx z
  ·exact absurd (zq3 (zq1 e) z) (Nat.lt_irrefl _)
 have cellK:∀x c,X.env.cells.lookup x=some c->∀v,s.heap.IsCell c v->h'.IsCell c v:=fun x c e v ⟨o,ho,hd⟩=>by
  have nch:c∉ch:=fun z=>(hch c z).2.2.1 x c e rfl
  by_cases hc:c∈X.fs
  ·obtain⟨sl,q⟩:=slot c o (I.cne x c e) hc nch ho (I.V9 x c e)
   exact⟨_,q,hd⟩
  ·exact⟨o,keep c o (I.cne x c e) hc nch ho (I.V9 x c e),hd⟩
 refine⟨I.ok,I.os,hg,⟨fun b o e n hb hx=>?_,fun b o e n hb hx=>?_,fun b o e n hx=>?_,fun b o e hx=>?_,fun b xs e=>tups b xs (I.base.tups b xs e),fun b o xs e=>JW b o xs (I.base.JW b o xs e),fun b ps e=>?_⟩,?_,fun x c e=>?_,?_,fun x c e=>?_,fun p hp=>?_,hok,I.len⟩
 ·exact keep b o (neL b o e) hb (neC b o e hx) (I.base.keep b o e n hb hx) (I.base.free b o e n hx)
 ·obtain⟨sl,e1⟩:=I.base.slot b o e n hb hx
  obtain⟨sl',e2⟩:=slot b _ (neL b o e) hb (neC b o e hx) e1 (I.base.free b o e n hx)
  exact⟨sl',e2⟩
 ·obtain⟨o',e1⟩:=I.base.there b o e hx
  exact free b o' (neC b o e hx) e1 (I.base.free b o e n hx)
 ·obtain⟨o',e1⟩:=I.base.there b o e hx
  exact there b o' (neC b o e hx) e1
 ·obtain⟨m1,e1⟩:=I.base.za2 b ps e
  obtain⟨m2,e2⟩:=za2 b _ e1
  exact⟨m1++m2,by rw[e2,Array.append_assoc]⟩
 ·obtain⟨m,hn,hl⟩:=I.loc
  refine⟨m,ns m hn,fun i x v e1 e2 e3=>?_⟩
  obtain⟨u,r,l⟩:=hl i x v e1 e2 e3
  refine⟨u,r,?_⟩
  rcases l with l | ⟨k,c,e,z⟩
  ·exact .inl l
  ·exact .inr ⟨k,c,e,cellK x c e _ z⟩
 ·obtain⟨v,z⟩:=I.cell x c e
  exact⟨v,cellK x c e v z⟩
 ·obtain⟨m,⟨o,_,_,ho,_⟩,_⟩:=I.loc
  exact free _ o (fun z=>(hch _ z).2.1 rfl) ho I.free
 ·obtain⟨v,o,ho,hd⟩:=I.cell x c e
  exact free c o (fun z=>(hch c z).2.2.1 x c e rfl) ho (I.V9 x c e)
 ·obtain⟨e,n,ne,nf,d⟩:=I.pin p hp
  have nch:p.1∉ch:=fun z=>(hch p.1 z).2.2.2 p hp rfl
  exact⟨keep p.1 p.2 ne nf nch e n,free p.1 p.2 nch e n,ne,nf,d⟩
theorem Inv.un {t':Nat}(I:Inv X pins σ H s)(u:Un X.fs [] H H' s.heap h')(hok:T3 X.prog X.w H' h'):Inv X pins σ H' { s with heap:=h',toks:=t' }:=by
 obtain⟨m,⟨o,es,ep,ho,r⟩,_⟩:=id I.loc
 obtain⟨sl,hL⟩:=u.any ho I.free (by simp)
 exact I.step (g':=s.gens) (d':=s.drawn) (ch:=[]) (fun _ z=>nomatch z) (fun b o _ hb _ e n=>u.keep b o e n hb (by simp)) (fun b o _ hb _ e n=>u.slot b o e n hb (by simp)) (fun b o _ e n=>u.free b o e n (by simp)) (fun b o _ e=>u.there b o e (by simp)) u.tups u.JW u.za2 (fun m' hm=>by
  obtain⟨o',es',ep',ho',r'⟩:=hm
  rw[ho] at ho';cases ho'
  exact⟨_,es',ep',hL,r'⟩) hok I.bare
theorem Inv.call {g':Array GenState}{t':Nat}{d':Drawn}{ch:List Addr}(I:Inv X pins σ H s)(u:Un (frs X.stack) ch H H' s.heap h')(hok:T3 X.prog X.w H' h')(hg:AllBare g')
  (hch:∀b∈ch,(b∈X.ex\/X.s₀.heap.objs.size<=b)/\b≠X.env.locals/\(∀x c,X.env.cells.lookup x=some c->c≠b)/\∀p∈X.pn++pins,p.1≠b) :
  Inv X pins σ H' { s with heap:=h',gens:=g',drawn:=d',toks:=t' }:=by
 obtain⟨m,⟨o,es,ep,ho,r⟩,_⟩:=id I.loc
 obtain⟨sl,hL⟩:=u.any ho I.free fun z=>(hch _ z).2.1 rfl
 exact I.step (ch:=ch) hch (fun b o hL hb hc e n=>u.keep b o e n (fun z=>(List.mem_cons.mp (I.za4 b z)).elim hL hb) hc) (fun b o _ _ hc e n=>u.any e n hc) (fun b o hc e n=>u.free b o e n hc) (fun b o hc e=>u.there b o e hc) u.tups u.JW u.za2 (fun m' hm=>by
  obtain⟨o',es',ep',ho',r'⟩:=hm
  rw[ho] at ho';cases ho'
  exact⟨_,es',ep',hL,r'⟩) hok hg
theorem Inv.turned {t':Nat}{it:Addr}(I:Inv X pins σ H s)(k:∀b o,b≠it->s.heap.get? b=some o->h'.get? b=some o)(hn:H it=none)(hL:it≠X.env.locals)
  (h1:it∈X.ex\/X.s₀.heap.objs.size<=it)(h2:∀x c,X.env.cells.lookup x=some c->c≠it)(h3:∀p∈X.pn++pins,p.1≠it):Inv X pins σ H { s with heap:=h',toks:=t' }:=by
 have nit:∀b u,H b=some u->b≠it:=fun b u e z=>by rw[z,hn] at e;cases e
 refine I.step (g':=s.gens) (d':=s.drawn) (ch:=[it]) (fun b hb=>?_) (fun b o _ _ hc e _=>k b o (fun z=>hc (by simp[z])) e) (fun b o _ _ hc e _=>⟨o.slots,k b o (fun z=>hc (by simp[z])) e⟩) (fun _ _ _ _ n=>n)
  (fun b o hc e=>⟨o,k b o (fun z=>hc (by simp[z])) e⟩) (fun _ _ e=>e) (fun _ _ _ e=>e) (fun b ps e=>⟨#[],by rw[e];simp⟩) (fun m hm=>?_) (fun b u e=>?_) I.bare
 ·have e:b=it:=by simpa using hb
  subst e
  exact⟨h1,hL,h2,h3⟩
 ·obtain⟨o,es,ep,ho,r⟩:=hm
  exact⟨o,es,ep,k _ o (Ne.symm hL) ho,r⟩
 ·refine(I.hok b u e).stay (fun c v hc q=>k c v ?_ q) (fun _ q=>q) fun _ _ q=>q
  rcases hc with z | z
  ·rw[z];exact nit b u e
  ·exact nit c _ z
theorem Inv.tok (I:Inv X pins σ H s)(t:Nat):Inv X pins σ H { s with toks:=t }:=I.un (h':=s.heap) (t':=t) Un.refl I.hok
theorem Inv.kept {t':Nat}(I:Inv X pins σ H s)(k:∀b u,s.heap.get? b=some u->h'.get? b=some u):Inv X pins σ H { s with heap:=h',toks:=t' }:=I.un (Un.kept k) (I.hok.kept k)
theorem Inv.laid {a:Addr}{o:HO}{t':Nat}(I:Inv X pins σ H s)(k:∀b u,s.heap.get? b=some u->h'.get? b=some u)(hp:s.heap.objs.size<=a)(new:wG X.prog X.w (upd H a o) h' a o) :
  Inv X pins σ (upd H a o) { s with heap:=h',toks:=t' }:=I.un (Un.laid k hp (I.hok.fresh hp)) (I.hok.laid k hp new)
theorem Inv.write {x e:Addr}{o:HO}{t':Nat}(I:Inv X pins σ H s)(mu:Mut (H x))(he:e=x\/H e=some (.own x))(k:∀b u,b≠e->s.heap.get? b=some u->h'.get? b=some u)(heo:∃u,h'.get? e=some u)
  (new:wG X.prog X.w (upd H x o) h' x o):Inv X pins σ (upd H x o) { s with heap:=h',toks:=t' }:=I.un (Un.write mu he k heo) (I.hok.write mu he k heo new)
theorem Inv.YL {pins':List (Addr×Obj)}(I:Inv X pins σ H s)(h:∀p∈pins',s.heap.get? p.1=some p.2/\H p.1=none/\p.1≠X.env.locals/\p.1∉X.fs/\∀v,p.2.data≠.cell v):Inv X pins' σ H s :=
 ⟨I.ok,I.os,I.bare,I.base,I.loc,I.cell,I.free,I.V9,fun p hp=>(List.mem_append.mp hp).elim (fun z=>I.pin p (List.mem_append_left _ z)) (h p),I.hok,I.len⟩
theorem zca {N:List Str}(hN:N.Nodup){i j:Nat}{x:Str}(a:N[i]?=some x)(b:N[j]?=some x):i=j:=by
 obtain⟨h1,e1⟩:=zqX.mp a
 obtain⟨h2,e2⟩:=zqX.mp b
 exact(List.getElem_inj hN).mp (e1.trans e2.symm)
theorem zfa {M:Model}{A:Around}{E:Value->Shared->Prop}{i:Nat}{x:Str}{v:V}{u:Value}{Q:Unit->Shared->Prop}(I:Inv X pins σ H s)(hN:X.N.Nodup)(hi:X.N[i]?=some x)(hx:Loc X.env.scope x)(r:RelV v u)
  (h:∀s',Inv X pins (σ.set i (some v)) H s'->(∃a,Heap.SameBut a s.heap s'.heap/\(a=X.env.locals\/X.env.cells.lookup x=some a))->Q () s')(hf:X.fn x=true\/X.env.scope.names.lookup x=some .local:=by first | exact .inl rfl | exact .inr rfl | assumption):wpAny M A (storeName X.env x u) Q E s:=by
 obtain⟨m,hn,hl⟩:=id I.loc
 have hcls:(X.env.scope.kind==.class||(X.env.scope.kind==.module&&X.env.locals != X.env.globals))=false:=by rw[I.ok.kind];rfl
 have hiσ:i < σ.length:=by rw[I.len];exact(zqX.mp hi).1
 have cne:=I.cne
 have tracked:∀{a:Addr} {h':Heap},(∃o,s.heap.get? a=some o/\H a=none)->Heap.SameBut a s.heap h'->T3 X.prog X.w H h':=fun {a h'} ha hs b ob e=>by
  obtain⟨_,_,hfree⟩:=ha
  refine(I.hok b ob e).stay (fun c w' hc q=>(hs.2 c ?_).trans q) (fun _ q=>q) fun _ _ q=>q
  rintro rfl
  rcases hc with rfl | hc
  ·rw[hfree] at e;cases e
  ·rw[hfree] at hc;cases hc
 rcases hx with hk | hk
 ·refine wpAny_storeName_local hk hn (fun h' hn' hs=>?_) hcls
  obtain⟨oL,_,_,hoL,_⟩:=id hn
  refine h _ ⟨I.ok,I.os,I.bare,⟨fun b o e n hb hx=>?_,fun b o e n hb hx=>?_,I.base.free,fun b o e hx=>?_,I.base.tups,I.base.JW,I.base.za2⟩,⟨_,hn',fun j y v' e1 e2 e3=>?_⟩,fun y c e=>?_,I.free,I.V9,fun p hp=>?_,tracked ⟨oL,hoL,I.free⟩ hs,by simpa using I.len⟩ ⟨_,hs,.inl rfl⟩
  ·exact(hs.2 b (zq9 (zq3 (zq1 e) I.ok.above))).trans (I.base.keep b o e n hb hx)
  ·obtain⟨sl,e1⟩:=I.base.slot b o e n hb hx
   exact⟨sl,(hs.2 b (zq9 (zq3 (zq1 e) I.ok.above))).trans e1⟩
  ·obtain⟨o',e1⟩:=I.base.there b o e hx
   exact⟨o',(hs.2 b (zq9 (zq3 (zq1 e) I.ok.above))).trans e1⟩
  ·by_cases hj:j=i
   ·subst hj
    rw[hi] at e1;cases e1
    rw[List.getElem?_set_self hiσ] at e2
    cases e2
    exact⟨u,r,.inl ⟨hk,by simp⟩⟩
   ·rw[List.getElem?_set_ne (Ne.symm hj)] at e2
    obtain⟨u',r',q⟩:=hl j y v' e1 e2 e3
    refine⟨u',r',?_⟩
    rcases q with ⟨k,e⟩ | ⟨k,c,e,z⟩
    ·refine .inl ⟨k,?_⟩
     have:y≠x:=fun e=>hj (zca hN e1 (e ▸ hi))
     simp[this,e]
    ·exact .inr ⟨k,c,e,z.sameBut hs (cne y c e)⟩
  ·obtain⟨w',z⟩:=I.cell y c e
   exact⟨w',z.sameBut hs (cne y c e)⟩
  ·obtain⟨e,n,ne,nf,d⟩:=I.pin p hp
   exact⟨(hs.2 p.1 ne).trans e,n,ne,nf,d⟩
 ·have hfn:X.fn x=true:=by
   rcases hf with z | z
   ·exact z
   ·rw[z] at hk;cases hk
  obtain⟨c,hc⟩:=I.ok.has x (.inl hk)
  obtain⟨w',z⟩:=I.cell x c hc
  refine wpAny_storeName_cell I.ok.kind hk hc z (fun h' hc' hs=>?_)
  obtain⟨oc,hoc,zmH⟩:=id z
  refine h { s with heap:=h' } ⟨I.ok,I.os,I.bare,⟨fun b o e n hb hx=>?_,fun b o e n hb hx=>?_,I.base.free,fun b o e hx=>?_,I.base.tups,I.base.JW,I.base.za2⟩,⟨m,hn.sameBut hs (Ne.symm (cne x c hc)),fun j y v' e1 e2 e3=>?_⟩,fun y c' e=>?_,I.free,I.V9,fun p hp=>?_,tracked ⟨oc,hoc,I.V9 x c hc⟩ hs,by simpa using I.len⟩ ⟨c,hs,.inr hc⟩
  ·exact(hs.2 b (zq9 (zq3 (zq1 e) (I.ok.cab x c hfn hc)))).trans (I.base.keep b o e n hb hx)
  ·obtain⟨sl,e1⟩:=I.base.slot b o e n hb hx
   exact⟨sl,(hs.2 b (zq9 (zq3 (zq1 e) (I.ok.cab x c hfn hc)))).trans e1⟩
  ·obtain⟨o',e1⟩:=I.base.there b o e hx
   exact⟨o',(hs.2 b (zq9 (zq3 (zq1 e) (I.ok.cab x c hfn hc)))).trans e1⟩
  ·by_cases hj:j=i
   ·subst hj
    rw[hi] at e1;cases e1
    rw[List.getElem?_set_self hiσ] at e2
    cases e2
    exact⟨u,r,.inr ⟨.inl hk,c,hc,hc'⟩⟩
   ·rw[List.getElem?_set_ne (Ne.symm hj)] at e2
    obtain⟨u',r',q⟩:=hl j y v' e1 e2 e3
    refine⟨u',r',?_⟩
    rcases q with q | ⟨k,c',e,z'⟩
    ·exact .inl q
    ·refine .inr ⟨k,c',e,z'.sameBut hs ?_⟩
     rintro rfl
     exact hj (zca hN e1 (I.ok.inj _ _ _ e hc ▸ hi))
  ·by_cases hcc:c'=c
   ·subst hcc;exact⟨_,hc'⟩
   ·obtain⟨w2,z2⟩:=I.cell y c' e
    exact⟨w2,z2.sameBut hs hcc⟩
  ·obtain⟨e,n,ne,nf,d⟩:=I.pin p hp
   refine⟨(hs.2 p.1 ?_).trans e,n,ne,nf,d⟩
   intro q
   rw[q,hoc] at e
   have q':oc=p.2:=zrp e
   exact d w' (by rw[<-q'];exact zmH)
theorem Kh {M:Model}{A:Around}{E:Value->Shared->Prop}{i:Nat}{x:Str}{v:V}{u:Value}{Q:Unit->Shared->Prop}(I:Inv X pins σ H s)(hN:X.N.Nodup)(hi:X.N[i]?=some x)(hx:Loc X.env.scope x)(r:RelV v u)
  (h:∀s',Inv X pins (σ.set i (some v)) H s'->Q () s')(hf:X.fn x=true\/X.env.scope.names.lookup x=some .local:=by first | exact .inl rfl | exact .inr rfl | assumption):wpAny M A (storeName X.env x u) Q E s :=
 zfa I hN hi hx r (fun s' I' _=>h s' I') hf
theorem Inv.call' {s':Shared}{ch:List Addr}(I:Inv X pins σ H s)(ho:s'.os=s.os)(u:Un (frs X.stack) ch H H' s.heap s'.heap)(hok:T3 X.prog X.w H' s'.heap)(hg:AllBare s'.gens)
  (hch:∀b∈ch,(b∈X.ex\/X.s₀.heap.objs.size<=b)/\b≠X.env.locals/\(∀x c,X.env.cells.lookup x=some c->c≠b)/\∀p∈X.pn++pins,p.1≠b):Inv X pins σ H' s':=by
 obtain⟨h',g',d',t',o'⟩:=s'
 have e:o'=s.os:=ho
 subst e
 exact I.call (g':=g') (t':=t') (d':=d') u hok hg hch
end
abbrev XK:=Value->Option Addr->Hp->Prop
abbrev St:=List (Option V)
abbrev VK:=V->Hp->Prop
abbrev TE:=St->Hp->VK->Prop
abbrev TT:=St->Hp->(Bool->Hp->Prop)->Prop
abbrev TA:=St->Hp->(List V->Hp->Prop)->Prop
structure Ends where
 nx:St->Hp->Prop
 rt:VK
 bk:St->Hp->Prop:=fun _ _=>False
 ct:St->Hp->Prop:=fun _ _=>False
abbrev TS:=Ends->St->Hp->Prop
def EP (X:Cx)(pins:List (Addr×Obj))(σ:St)(Q:VK)(u:Value)(s':Shared):Prop:=∃v H',Inv X pins σ H' s'/\RelV v u/\Q v H'
def TP (X:Cx)(pins:List (Addr×Obj))(σ:St)(Q:Bool->Hp->Prop)(b:Bool)(s':Shared):Prop:=∃H',Inv X pins σ H' s'/\Q b H'
def AP (X:Cx)(pins:List (Addr×Obj))(σ:St)(Q:List V->Hp->Prop)(us:List Value)(s':Shared):Prop:=∃vs H',Inv X pins σ H' s'/\Vals vs us/\Q vs H'
def SP (X:Cx)(pins:List (Addr×Obj))(D:Ends)(f:Flow)(s':Shared):Prop :=
 match f with
 | .next=>∃ σ' H',Inv X pins σ' H' s'/\D.nx σ' H'
 | .brk=>∃ σ' H',Inv X pins σ' H' s'/\D.bk σ' H'
 | .cont=>∃ σ' H',Inv X pins σ' H' s'/\D.ct σ' H'
 | .ret u=>∃v σ' H',Inv X pins σ' H' s'/\RelV v u/\D.rt v H'
def PE (X:Cx)(e:Expr)(t:TE):Prop :=
 ∀(pins:List (Addr×Obj)) (s:Shared) (σ:St) (H:Hp) (Q:VK),Inv X pins σ H s->t σ H Q->wpAny (model X.prog X.w) X.A (eval e X.env) (EP X pins σ Q) X.xe s
def PT (X:Cx)(e:Expr)(t:TT):Prop :=
 ∀(pins:List (Addr×Obj)) (s:Shared) (σ:St) (H:Hp) (Q:Bool->Hp->Prop),Inv X pins σ H s->t σ H Q->wpAny (model X.prog X.w) X.A (isTrue e X.env (eval e X.env)) (TP X pins σ Q) X.xe s
def PW (X:Cx)(e:Expr)(t:TT):Prop :=
 ∀(whole:Sem Value) (pins:List (Addr×Obj)) (s:Shared) (σ:St) (H:Hp) (Q:Bool->Hp->Prop),Inv X pins σ H s->t σ H Q->wpAny (model X.prog X.w) X.A (isTrue e X.env whole) (TP X pins σ Q) X.xe s
theorem PW.pt {X:Cx}{e:Expr}{t:TT}(h:PW X e t):PT X e t:=h _
def PA (X:Cx)(es:List Expr)(t:TA):Prop :=
 ∀(pos:Pos) (pins:List (Addr×Obj)) (s:Shared) (σ:St) (H:Hp) (Q:List V->Hp->Prop),Inv X pins σ H s->t σ H Q->wpAny (model X.prog X.w) X.A (spliced (backTo pos (starEach es X.env))) (AP X pins σ Q) X.xe s
def PS (X:Cx)(st:Stmt)(t:TS):Prop :=
 ∀(pins:List (Addr×Obj)) (s:Shared) (σ:St) (H:Hp) (D:Ends),Inv X pins σ H s->t D σ H->wpAny (model X.prog X.w) X.A (exec st X.env) (SP X pins D) X.xe s
def PSs (X:Cx)(st:List Stmt)(t:TS):Prop :=
 ∀(pins:List (Addr×Obj)) (s:Shared) (σ:St) (H:Hp) (D:Ends),Inv X pins σ H s->t D σ H->wpAny (model X.prog X.w) X.A (execs st X.env) (SP X pins D) X.xe s
theorem wC {α:Type}{t:Sem α}{Q Q':α->Shared->Prop}{M:Model}{A:Around}{E:Value->Shared->Prop}{s:Shared}(h:wpAny M A t Q E s)(hQ:∀a s,Q a s->Q' a s):wpAny M A t Q' E s:=wpAny_mono h hQ fun _ _ x=>x
section
variable {X:Cx}
theorem bin {a b:Expr}{ta tb:TE}(ha:PE X a ta)(hb:PE X b tb){pins:List (Addr×Obj)}{s:Shared}{σ:St}{H:Hp}{R:V->V->Hp->Prop}(I:Inv X pins σ H s)(h:ta σ H fun x H1=>tb σ H1 fun y H2=>R x y H2)
  {α:Type}{Q:α->Shared->Prop}{f:Value->Value->Sem α}
  (hf:∀v u s2 x y H2,Inv X pins σ H2 s2->RelV x v->RelV y u->R x y H2->wpAny (model X.prog X.w) X.A (f v u) Q X.xe s2) :
  wpAny (model X.prog X.w) X.A (eval a X.env) (fun v s₁=>wpAny (model X.prog X.w) X.A (eval b X.env) (fun u s₂=>wpAny (model X.prog X.w) X.A (f v u) Q X.xe s₂) X.xe s₁) X.xe s:=by
 refine wC (ha pins s σ H _ I h) fun v s1 ⟨x,H1,I1,r1,q1⟩=>?_
 refine wC (hb pins s1 σ H1 _ I1 q1) fun u s2 ⟨y,H2,I2,r2,q2⟩=>?_
 exact hf v u s2 x y H2 I2 r1 r2 q2
inductive Kl (i:Nat)(σ:St)(H:Hp)(Q:V->Hp->Prop):Prop
 | mk (v:V) (_:σ[i]?=some (some v)) (_:Q v H):Kl i σ H Q
def tC (v:V):TE:=fun _ H Q=>Q v H
theorem zjt {i:Nat}{x:Str}{pos:Pos}(hN:X.N[i]?=some x)(hv:Vis X.env.scope x)(hd:(x==("__debug__" : Str))=false:=by decide)(hcd:(x==("__classdict__" : Str))=false:=by decide):PE X (.Name x pos) (Kl i):=by
 intro pins s σ H Q I h
 obtain⟨v,e,h⟩:=h
 obtain⟨m,hn,hl⟩:=I.loc
 obtain⟨u,r,l⟩:=hl i x v hN e hv
 have fin:EP X pins σ Q u s:=⟨v,H,I,r,h⟩
 rcases l with ⟨hk,hm⟩ | ⟨hk,c,hc,hcell⟩
 ·exact wpAny_Name (wpAny_loadName_local I.ok.kind hk hn hm fin) hd
 ·rcases hk with hk | hk
  ·exact wpAny_Name (wpAny_loadName_cell I.ok.kind hk hc hcell fin) hd
  ·exact wpAny_Name (wpAny_loadName_free I.ok.kind hk hc hcell fin hcd) hd
theorem zp {i j pos}:PE X (.Constant (.int i) j pos) (tC (.int i)):=fun _ _ _ H _ I h=>wpAny_Constant_int ⟨.int i,H,I.tok _,⟨_,rfl⟩,h⟩
theorem RQ {b j pos}:PE X (.Constant (.bool b) j pos) (tC (.bl b)):=fun _ _ _ H _ I h=>Constant_bool ⟨.bl b,H,I,rfl,h⟩
theorem z9 {x j pos}:PE X (.Constant (.str x) j pos) (tC (.str x)):=fun _ _ _ H _ I h=>Calls.Constant_str ⟨.str x,H,I.tok _,⟨_,rfl⟩,h⟩
def Gl (X:Cx)(x:Str):Prop:=X.env.kindOf x=some .globalImplicit
theorem za6 {E:Value->Shared->Prop}{pins:List (Addr×Obj)}{s:Shared}{σ:St}{H:Hp}{x:Str}{u:Value}{pos:Pos}{Q:Value->Shared->Prop}(I:Inv X pins σ H s)(hg:Gl X x)(hm:X.mg x=some u)(h:Q u s)
  (hd:(x==("__debug__" : Str))=false:=by decide):wpAny (model X.prog X.w) X.A (eval (.Name x pos) X.env) Q E s :=
 Calls.Name_function_global I.ok.kind hg (Calls.loadGlobal_global (by rw[I.ok.glob];exact I.mod.glob.keeps I.bk) hm h) hd
theorem Xk {E:Value->Shared->Prop}{pins:List (Addr×Obj)}{s:Shared}{σ:St}{H:Hp}{x:Str}{u:Value}{pos:Pos}{Q:Value->Shared->Prop}(I:Inv X pins σ H s)(hg:Gl X x)(hm:X.mg x=none)(hv:bootBuiltins x=some u)(h:Q u s)
  (hn:x ≠ "__name__" := by decide)(hd:(x==("__debug__" : Str))=false:=by decide):wpAny (model X.prog X.w) X.A (eval (.Name x pos) X.env) Q E s:=by
 obtain⟨mb,h1,h2⟩:=I.mod.blt
 exact Calls.Name_function_global I.ok.kind hg (Calls.loadGlobal_builtin (by rw[I.ok.glob];exact I.mod.glob.keeps I.bk) hm (by rw[I.ok.blt];exact h1.keeps I.bk) ((h2 x hn).trans hv) h) hd
theorem Vf {x:Str}{v:V}{u:Value}{pos:Pos}(hg:Gl X x)(hm:X.mg x=some u)(r:RelV v u)(hd:(x==("__debug__" : Str))=false:=by decide):PE X (.Name x pos) (tC v) :=
 fun _ _ _ H _ I h=>za6 I hg hm ⟨v,H,I,r,h⟩ hd
theorem zes {x:Str}{v:V}{u:Value}{pos:Pos}(hg:Gl X x)(hm:X.mg x=none)(hv:bootBuiltins x=some u)(r:RelV v u)(hn:x ≠ "__name__" := by decide)(hd:(x==("__debug__" : Str))=false:=by decide):PE X (.Name x pos) (tC v) :=
 fun _ _ _ H _ I h=>Xk I hg hm hv ⟨v,H,I,r,h⟩ hn hd
variable {a b:Expr}{ta tb:TE}{pos:Pos}
def PC (X:Cx)(op:CmpOp)(a b:Expr)(t:TE):Prop :=
 ∀(pins:List (Addr×Obj)) (s:Shared) (σ:St) (H:Hp) (Q:VK),Inv X pins σ H s->t σ H Q ->
  wpAny (model X.prog X.w) X.A (eval a X.env) (fun v s₁=>wpAny (model X.prog X.w) X.A (eval b X.env) (fun u s₂=>wpAny (model X.prog X.w) X.A (compareOp op v u) (EP X pins σ Q) X.xe s₂) X.xe s₁) X.xe s
def tB (t:TE):TT:=fun σ H Q=>t σ H fun x H1=>∃c,x=.bl c/\Q c H1
theorem zf2 {op:CmpOp}{t:TE}(h:PC X op a b t)(h1:behindInMarks op b=false:=by first | exact zkN _ (by decide) (by decide) | rfl):PT X (.Compare a [op] [b] pos) (tB t):=by
 intro pins s σ H Q I hw
 refine wpAny_isTrue_Compare1 (wC (h pins s σ H _ I hw) fun v s1 h1=>wC h1 fun u s2 h2=>wC h2 fun c s3 ⟨x,H1,I1,r1,q1⟩=>?_) h1
 obtain⟨d,rfl,q⟩:=q1
 cases r1
 exact wpAny_truthy_bool ⟨H1,I1,q⟩
variable {tA tB':TT}{rest:List Expr}
def zmI (t u:TT):TT:=fun σ H Q=>t σ H fun c H1=>if c=true then u σ H1 Q else Q false H1
def tOr (t u:TT):TT:=fun σ H Q=>t σ H fun c H1=>if c=true then Q true H1 else u σ H1 Q
def zmJ (t:TT):TT:=fun σ H Q=>t σ H fun c H1=>Q (!c) H1
theorem zhx (ha:PT X a tA):PW X (.BoolOp .And [a] pos) tA:=by
 intro wh pins s σ H Q I h
 refine isTrue_and (wC (ha pins s σ H Q I h) fun c s1 e=>?_)
 cases c with
 | true=>exact isTrue_and_nil e
 | false=>exact e
theorem Ua (ha:PT X a tA):PW X (.BoolOp .Or [a] pos) tA:=by
 intro wh pins s σ H Q I h
 refine isTrue_or (wC (ha pins s σ H Q I h) fun c s1 e=>?_)
 cases c with
 | false=>exact isTrue_or_nil e
 | true=>exact e
theorem zju (ha:PT X a tA)(hb:PW X (.BoolOp .And (b::rest) pos) tB'):PW X (.BoolOp .And (a::b::rest) pos) (zmI tA tB'):=by
 intro wh pins s σ H Q I h
 refine isTrue_and (wC (ha pins s σ H _ I h) fun c s1 ⟨H1,I1,q1⟩=>?_)
 cases c with
 | true=>exact hb wh pins s1 σ H1 Q I1 q1
 | false=>exact⟨H1,I1,q1⟩
theorem T8 (ha:PT X a tA)(hb:PW X (.BoolOp .Or (b::rest) pos) tB'):PW X (.BoolOp .Or (a::b::rest) pos) (tOr tA tB'):=by
 intro wh pins s σ H Q I h
 refine isTrue_or (wC (ha pins s σ H _ I h) fun c s1 ⟨H1,I1,q1⟩=>?_)
 cases c with
 | true=>exact⟨H1,I1,q1⟩
 | false=>exact hb wh pins s1 σ H1 Q I1 q1
theorem Wj (ha:PT X a tA):PT X (.UnaryOp .Not a pos) (zmJ tA):=by
 intro pins s σ H Q I h
 exact isTrue_not (ha pins s σ H (fun c H1=>Q (!c) H1) I h)
def zkO (ta tb:TE):TE:=fun σ H Q=>ta σ H fun x H1=>∃c,x=.bl c/\if c=true then tb σ H1 Q else Q (.bl false) H1
def zmK (ta tb:TE):TE:=fun σ H Q=>ta σ H fun x H1=>∃c,x=.bl c/\if c=true then Q (.bl true) H1 else tb σ H1 Q
theorem zds {op}{t:TE}(h:PE X a t):PE X (.BoolOp op [a] pos) t:=fun pins s σ H Q I hw=>BoolOp_one (h pins s σ H Q I hw)
theorem zdu (ha:PE X a ta)(hb:PE X (.BoolOp .And (b::rest) pos) tb):PE X (.BoolOp .And (a::b::rest) pos) (zkO ta tb):=by
 intro pins s σ H Q I h
 refine BoolOp_and (wC (ha pins s σ H _ I h) fun v s1 ⟨x,H1,I1,r1,q1⟩=>?_)
 obtain⟨c,rfl,q1⟩:=q1
 cases r1
 refine wpAny_truthy_bool ?_
 cases c with
 | true=>exact hb pins s1 σ H1 Q I1 q1
 | false=>exact⟨.bl false,H1,I1,rfl,q1⟩
theorem zkP (ha:PE X a ta)(hb:PE X (.BoolOp .Or (b::rest) pos) tb):PE X (.BoolOp .Or (a::b::rest) pos) (zmK ta tb):=by
 intro pins s σ H Q I h
 refine BoolOp_or (wC (ha pins s σ H _ I h) fun v s1 ⟨x,H1,I1,r1,q1⟩=>?_)
 obtain⟨c,rfl,q1⟩:=q1
 cases r1
 refine wpAny_truthy_bool ?_
 cases c with
 | false=>exact hb pins s1 σ H1 Q I1 q1
 | true=>exact⟨.bl true,H1,I1,rfl,q1⟩
def tIf (t:TT)(ta tb:TE):TE:=fun σ H Q=>t σ H fun c H1=>if c=true then ta σ H1 Q else tb σ H1 Q
theorem Km {c:Expr}(hc:PT X c tA)(ha:PE X a ta)(hb:PE X b tb):PE X (.IfExp c a b pos) (tIf tA ta tb):=by
 intro pins s σ H Q I h
 refine wpAny_IfExp (wC (hc pins s σ H _ I h) fun d s1 ⟨H1,I1,q1⟩=>?_)
 cases d with
 | true=>exact ha pins s1 σ H1 Q I1 q1
 | false=>exact hb pins s1 σ H1 Q I1 q1
end
def zZ (K:Frag)(H:Hp)(a:Addr)(xs:List V):Prop :=
 Rd H a (.lst xs) \/
  ∃(o:Obj) (its:Array Value) (n:Nat),K.lookup a=some o/\o.cls=.type "list" /\ o.dict=none/\o.data=.seq its n/\its.size<=sizeLine/\Vals xs its.toList
def tY (K:Frag)(H:Hp)(a:Addr)(xs:List V):Prop :=
 Rd H a (.tup xs) \/
  ∃(o:Obj) (its:Array Value) (n:Nat),K.lookup a=some o/\o.cls=.type "tuple" /\ o.data=.seq its n/\its.size<=sizeLine/\Vals xs its.toList
def zdv:Value->Option V
 | .none=>some .non
 | .bool b=>some (.bl b)
 | .int i _=>some (.int i)
 | .str x _=>some (.str x)
 | .bytes b _=>some (.byt b)
 | .float b _=>some (.flt b)
 | .ref a=>some (.ref a)
 | .type n=>some (.ty n)
 | _=>none
theorem RelV.abs {x:V}{u:Value}(r:RelV x u):zdv u=some x:=by
 cases x with
 | non=>cases r;rfl
 | bl _=>cases r;rfl
 | int _=>obtain⟨t,rfl⟩:=r;rfl
 | str _=>obtain⟨t,rfl⟩:=r;rfl
 | byt _=>obtain⟨t,rfl⟩:=r;rfl
 | flt _=>obtain⟨t,rfl⟩:=r;rfl
 | ref _=>cases r;rfl
 | ty _=>cases r;rfl
theorem RelV.inj {x y:V}{u:Value}(r:RelV x u)(q:RelV y u):x=y:=zrp (r.abs.symm.trans q.abs)
theorem Vals.inj:∀{xs ys:List V} {us:List Value},Vals xs us->Vals ys us->xs=ys
 | _,_,_,.nil,.nil=>rfl
 | _,_,_,.cons r t,.cons r' t'=>by rw[r.inj r',Vals.inj t t']
section
variable {X:Cx}{pins:List (Addr×Obj)}{σ:St}{H:Hp}{s:Shared}{a:Addr}{xs ys:List V}
theorem zZ.of {K:Frag}(h:H a=some (.lst xs)):zZ K H a xs:=.inl (.inl h)
theorem tY.of {K:Frag}(h:H a=some (.tup xs)):tY K H a xs:=.inl (.inl h)
theorem Inv.list (I:Inv X pins σ H s)(h:zZ X.K H a xs):∃its:List Value,Vals xs its/\PlainL s.heap a its.toArray/\xs.length<=sizeLine:=by
 rcases h with h | ⟨o,its,n,hk,hc,hd,hs,hz,r⟩
 ·obtain⟨z,its,n,r,e⟩:=h.ok I.hok
  exact⟨its,r,⟨_,n,e,rfl,rfl,rfl⟩,z⟩
 ·refine⟨its.toList,r,⟨o,n,I.Pn a o hk,hc,hd,by simpa using hs⟩,?_⟩
  have e:=r.length
  simp only[Array.length_toList] at e
  omega
theorem Inv.tuple (I:Inv X pins σ H s)(h:tY X.K H a xs):∃its:List Value,Vals xs its/\IsTup s.heap a its.toArray/\xs.length<=sizeLine:=by
 rcases h with h | ⟨o,its,n,hk,hc,hs,hz,r⟩
 ·obtain⟨z,its,r,p⟩:=h.ok I.hok
  exact⟨its,r,p,z⟩
 ·refine⟨its.toList,r,⟨o,I.Pn a o hk,hc,n,by simpa using hs⟩,?_⟩
  have e:=r.length
  simp only[Array.length_toList] at e
  omega
theorem Inv.RT (I:Inv X pins σ H s)(h:zZ X.K H a xs)(h':zZ X.K H a ys):xs=ys:=by
 obtain⟨its,r,⟨o,n,e,_,_,d⟩,_⟩:=I.list h
 obtain⟨its',r',⟨o',n',e',_,_,d'⟩,_⟩:=I.list h'
 rw[e] at e';cases e'
 rw[d] at d'
 injection d' with d1 _
 have:its=its':=by simpa using congrArg Array.toList d1
 subst this
 exact r.inj r'
theorem Inv.zfb (I:Inv X pins σ H s)(h:tY X.K H a xs)(h':tY X.K H a ys):xs=ys:=by
 obtain⟨its,r,⟨o,e,_,n,d⟩,_⟩:=I.tuple h
 obtain⟨its',r',⟨o',e',_,n',d'⟩,_⟩:=I.tuple h'
 rw[e] at e';cases e'
 rw[d] at d'
 injection d' with d1 _
 have:its=its':=by simpa using congrArg Array.toList d1
 subst this
 exact r.inj r'
end
abbrev Cx.wish (X:Cx)(E:Value->Shared->Prop):Cx:={ X with xe:=E }
abbrev Cx.nox (X:Cx):Cx:=X.wish fun _ _=>False
theorem Cx.Ok.wish {X:Cx}(ok:X.Ok)(E:Value->Shared->Prop):(X.wish E).Ok :=
 ⟨ok.mod,ok.kind,ok.glob,ok.blt,ok.above,ok.inj,ok.has,ok.cab,ok.hd,ok.frames,ok.stk,ok.exf,ok.bs,ok.bsz,ok.ze8,ok.ze9,ok.Pk,ok.frf⟩
theorem Cx.Ok.Ub {X:Cx}{E:Value->Shared->Prop}(ok:(X.wish E).Ok):X.Ok :=
 ⟨ok.mod,ok.kind,ok.glob,ok.blt,ok.above,ok.inj,ok.has,ok.cab,ok.hd,ok.frames,ok.stk,ok.exf,ok.bs,ok.bsz,ok.ze8,ok.ze9,ok.Pk,ok.frf⟩
section
variable {X:Cx}{pins:List (Addr×Obj)}{σ:St}{H:Hp}{s:Shared}{E:Value->Shared->Prop}
theorem Inv.wish (I:Inv X pins σ H s)(E:Value->Shared->Prop):Inv (X.wish E) pins σ H s:=⟨I.ok.wish E,I.os,I.bare,I.base,I.loc,I.cell,I.free,I.V9,I.pin,I.hok,I.len⟩
theorem Inv.Ub (I:Inv (X.wish E) pins σ H s):Inv X pins σ H s:=⟨I.ok.Ub,I.os,I.bare,I.base,I.loc,I.cell,I.free,I.V9,I.pin,I.hok,I.len⟩
theorem SP.Ub {D:Ends}{f:Flow}{s':Shared}(h:SP (X.wish E) pins D f s'):SP X pins D f s':=by
 cases f with
 | next=>obtain⟨σ',H',I,q⟩:=h;exact⟨σ',H',I.Ub,q⟩
 | brk=>obtain⟨σ',H',I,q⟩:=h;exact⟨σ',H',I.Ub,q⟩
 | cont=>obtain⟨σ',H',I,q⟩:=h;exact⟨σ',H',I.Ub,q⟩
 | ret u=>obtain⟨v,σ',H',I,r,q⟩:=h;exact⟨v,σ',H',I.Ub,r,q⟩
theorem PSs.nox {st:List Stmt}{t:TS}(h:PSs X.nox st t):PSs X st t:=fun pins s σ H D I hw =>
 wpAny_mono (h pins s σ H D (I.wish _) hw) (fun _ _ q=>q.Ub) fun _ _ z=>False.elim z
end
section
variable {X:Cx}{st:Stmt}{rest:List Stmt}{t u:TS}{e:Expr}{te:TE}{pos:Pos}
def zkQ:TS:=fun D σ H=>D.nx σ H
def zmL (t u:TS):TS:=fun D σ H=>t { D with nx:=u D } σ H
theorem zU:PSs X [] zkQ:=fun _ _ σ H _ I h=>wpAny_execs_nil ⟨σ,H,I,h⟩
theorem zf (h1:PS X st t)(h2:PSs X rest u):PSs X (st::rest) (zmL t u):=by
 intro pins s σ H D I h
 refine wpAny_execs_cons (wC (h1 pins s σ H { D with nx:=u D } I h) fun f s1 q=>?_)
 cases f with
 | next =>
  obtain⟨σ',H',I',q⟩:=q
  exact h2 pins s1 σ' H' D I' q
 | ret v=>exact q
 | brk=>exact q
 | cont=>exact q
theorem zm (h1:PS X st t):PSs X [st] t:=by
 intro pins s σ H D I h
 refine wpAny_execs_cons (wC (h1 pins s σ H D I h) fun f s1 q=>?_)
 cases f with
 | next=>exact wpAny_execs_nil q
 | ret v=>exact q
 | brk=>exact q
 | cont=>exact q
theorem Inv.quiet {pins:List (Addr×Obj)}{σ:St}{H:Hp}{s:Shared}(I:Inv X pins σ H s):interactive X.env=false:=by simp[interactive,I.ok.kind]
def zkR (te:TE):TS:=fun D σ H=>te σ H fun _ H1=>D.nx σ H1
theorem yC (he:PE X e te)(hs:swapsWith e none pos.line X.env=pure false:=by rfl):PS X (.Expr e pos) (zkR te):=by
 intro pins s σ H D I h
 exact wpAny_Expr_any (wC (he pins s σ H _ I h) fun v s1 ⟨x,H1,I1,r1,q1⟩=>⟨σ,H1,I1,q1⟩) I.quiet hs
def zmM (te:TE):TS:=fun D σ H=>te σ H D.rt
theorem zJ (he:PE X e te):PS X (.Return (some e) pos) (zmM te):=by
 intro pins s σ H D I h
 exact wpAny_Return_some (wC (he pins s σ H _ I h) fun v s1 ⟨x,H1,I1,r1,q1⟩=>⟨x,σ,H1,I1,r1,q1⟩)
def zmN (c:TT)(t u:TS):TS:=fun D σ H=>c σ H fun b H1=>if b=true then t D σ H1 else u D σ H1
theorem yF {c:Expr}{a b:List Stmt}{tc:TT}(hc:PT X c tc)(ha:PSs X a t)(hb:PSs X b u):PS X (.If c a b pos) (zmN tc t u):=by
 intro pins s σ H D I h
 refine wpAny_If (wC (hc pins s σ H _ I h) fun d s1 ⟨H1,I1,q1⟩=>?_)
 cases d with
 | true=>exact ha pins s1 σ H1 D I1 q1
 | false=>exact hb pins s1 σ H1 D I1 q1
def zjv:TS:=fun _ _ _=>False
theorem WL:PS X st zjv:=fun _ _ _ _ _ _ h=>h.elim
end
abbrev TG:=V->St->Hp->(St->Hp->Prop)->Prop
abbrev TGs:=List V->St->Hp->(St->Hp->Prop)->Prop
def PG (X:Cx)(target:Expr)(t:TG):Prop :=
 ∀(pins:List (Addr×Obj)) (s:Shared) (σ:St) (H:Hp) (v:V) (u:Value) (Q:St->Hp->Prop),Inv X pins σ H s->RelV v u->t v σ H Q ->
  wpAny (model X.prog X.w) X.A (assign target X.env u) (fun _ s'=>∃ σ' H',Inv X pins σ' H' s'/\Q σ' H') X.xe s
def PGs (X:Cx)(ts:List Expr)(t:TGs):Prop :=
 ∀(pins:List (Addr×Obj)) (s:Shared) (σ:St) (H:Hp) (vs:List V) (us:List Value) (Q:St->Hp->Prop),Inv X pins σ H s->Vals vs us->t vs σ H Q ->
  wpAny (model X.prog X.w) X.A (assignInOrder ((assignEach ts X.env).map (·.2)) us) (fun _ s'=>∃ σ' H',Inv X pins σ' H' s'/\Q σ' H') X.xe s
abbrev TIp:=V->V->Hp->VK->Prop
def PIp (X:Cx)(op:Operator)(t:TIp):Prop :=
 ∀(pins:List (Addr×Obj)) (s:Shared) (σ:St) (H:Hp) (x y:V) (v u:Value) (Q:VK),Inv X pins σ H s->RelV x v->RelV y u->t x y H Q ->
  wpAny (model X.prog X.w) X.A (inplaceOp op v u) (EP X pins σ Q) X.xe s
section
variable {X:Cx}{pos:Pos}
def VJ (i:Nat):TG:=fun v σ H Q=>Q (σ.set i (some v)) H
theorem yD {i:Nat}{x:Str}(hN:X.N.Nodup)(hi:X.N[i]?=some x)(hx:Loc X.env.scope x)(hf:X.fn x=true\/X.env.scope.names.lookup x=some .local:=by first | exact .inl rfl | exact .inr rfl | assumption):PG X (.Name x pos) (VJ i):=by
 intro pins s σ H v u Q I r h
 exact wpAny_assign_Name (Kh I hN hi hx r (fun s' I'=>⟨_,H,I',h⟩) hf)
def zhy:TGs:=fun vs σ H Q=>vs=[]/\Q σ H
def Ko (t:TG)(u:TGs):TGs:=fun vs σ H Q=>∃v r,vs=v::r/\t v σ H fun σ' H'=>u r σ' H' Q
theorem RV:PGs X [] zhy:=by
 intro pins s σ H vs us Q I r h
 obtain⟨e,h⟩:=h
 subst e
 cases r
 exact assignInOrder_nil ⟨σ,H,I,h⟩
theorem uK {e:Expr}{es:List Expr}{t:TG}{u:TGs}(h1:PG X e t)(h2:PGs X es u)
  (hs:(assignEach (e::es) X.env).map (·.2)=assign e X.env::(assignEach es X.env).map (·.2):=by rfl):PGs X (e::es) (Ko t u):=by
 intro pins s σ H vs us Q I r h
 obtain⟨v,vr,e1,h⟩:=h
 subst e1
 cases r with
 | cons r rr =>
  rw[hs]
  refine assignInOrder_cons (wC (h1 pins s σ H _ _ _ I r h) fun _ s1 ⟨σ1,H1,I1,q1⟩=>?_)
  exact h2 pins s1 σ1 H1 _ _ Q I1 rr q1
def zhz (K:Frag)(n:Nat)(t:TGs):TG:=fun v σ H Q=>∃a xs,v=.ref a/\tY K H a xs/\xs.length=n/\t xs σ H Q
theorem Kp {es:List Expr}{k:Nat}{t:TGs}{n:Nat}(hc:X.calm=true)(h:PGs X es t)
  (hn:(assignEach es X.env).length=n:=by rfl)(hst:(assignEach es X.env).findIdx? (·.1)=none:=by rfl):PG X (.Tuple es k pos) (zhz X.K n t):=by
 intro pins s σ H v u Q I r hw
 obtain⟨a,xs,e1,hq,hl,hw⟩:=hw
 subst e1
 cases r
 obtain⟨its,rv,ht,hz⟩:=I.tuple hq
 refine assign_Tuple_tuple (I.ok.hd hc) ht (by simp[hn,<-hl,rv.length]) hst fun h' hx=>?_
 have I1:Inv X pins σ H { s with heap:=h' }:=I.kept (t':=s.toks) fun b o e=>hx b o (zq9 (zq1 e)) e
 exact h pins _ σ H xs _ Q I1 (by simpa using rv) hw
def zhA (te:TE)(g:TG):TS:=fun D σ H=>te σ H fun x H1=>g x σ H1 D.nx
theorem zf3 {tg e:Expr}{te:TE}{g:TG}(he:PE X e te)(hg:PG X tg g)(hs:swapsWithSole [tg] e pos.line X.env=pure false:=by rfl)(hw:swappedStores [tg] e X.env=pure none:=by rfl)
  (h1:(assignEach [tg] X.env).map (·.2)=[assign tg X.env]:=by rfl):PS X (.Assign [tg] e pos) (zhA te g):=by
 intro pins s σ H D I h
 refine wpAny_Assign_stores (wC (he pins s σ H _ I h) fun v s1 ⟨x,H1,I1,r1,q1⟩=>?_) hs hw
 rw[h1]
 exact wC (hg pins s1 σ H1 x v _ I1 r1 q1) fun _ s2 q=>q
theorem Pq {i:Nat}{x:Str}{e:Expr}{te:TE}{pos':Pos}(hN:X.N.Nodup)(hi:X.N[i]?=some x)(hx:Loc X.env.scope x)(he:PE X e te)(hs:swapsWith e (some (.Name x pos')) pos.line X.env=pure false:=by rfl)(hf:X.fn x=true\/X.env.scope.names.lookup x=some .local:=by first | exact .inl rfl | exact .inr rfl | assumption) :
  PS X (.Assign [.Name x pos'] e pos) (zhA te (VJ i)):=by
 intro pins s σ H D I h
 refine wpAny_Assign_Name (wC (he pins s σ H _ I h) fun v s1 ⟨y,H1,I1,r1,q1⟩=>?_) hs
 exact Kh I1 hN hi hx r1 (fun s2 I2=>⟨_,H1,I2,q1⟩) hf
def zmP (i:Nat)(te:TE)(ti:TIp):TS:=fun D σ H=>∃x,σ[i]?=some (some x)/\te σ H fun y H1=>ti x y H1 fun z H2=>D.nx (σ.set i (some z)) H2
theorem zdw {i:Nat}{x:Str}{e:Expr}{te:TE}{op:Operator}{ti:TIp}{pos':Pos}(hN:X.N.Nodup)(hi:X.N[i]?=some x)(hx:Loc X.env.scope x)(he:PE X e te)(ho:PIp X op ti)(hf:X.fn x=true\/X.env.scope.names.lookup x=some .local:=by first | exact .inl rfl | exact .inr rfl | assumption) :
  PS X (.AugAssign (.Name x pos') op e pos) (zmP i te ti):=by
 intro pins s σ H D I h
 obtain⟨v,e1,h⟩:=h
 obtain⟨m,hn,hl⟩:=I.loc
 have vis:Vis X.env.scope x:=by rcases hx with k | k;exact .inl k;exact .inr (.inl k)
 obtain⟨u,r,l⟩:=hl i x v hi e1 vis
 refine wpAny_AugAssign_Name ?_
 have go:wpAny (model X.prog X.w) X.A (eval e X.env) (fun w s₂=>wpAny (model X.prog X.w) X.A (inplaceOp op u w) (fun r s₃=>wpAny (model X.prog X.w) X.A (storeName X.env x r) (fun _=>SP X pins D .next) X.xe s₃) X.xe s₂) X.xe s:=by
  refine wC (he pins s σ H _ I h) fun w s1 ⟨y,H1,I1,r1,q1⟩=>?_
  refine wC (ho pins s1 σ H1 v y u w _ I1 r r1 q1) fun z s2 ⟨zv,H2,I2,r2,q2⟩=>?_
  exact Kh I2 hN hi hx r2 (fun s3 I3=>⟨_,H2,I3,q2⟩) hf
 rcases l with ⟨hk,hm⟩ | ⟨hk,c,hc,hcell⟩
 ·exact wpAny_loadName_local I.ok.kind hk hn hm go
 ·rcases hk with hk | hk
  ·exact wpAny_loadName_cell I.ok.kind hk hc hcell go
  ·rcases hx with k | k
   ·have:X.env.scope.names.lookup x=some .free:=hk
    rw[k] at this;cases this
   ·have:X.env.scope.names.lookup x=some .free:=hk
    rw[k] at this;cases this
def zjx (c:TT)(tb:TS):TS:=fun D σ H=>∃W:Nat->St->Hp->Prop,(∃m,W m σ H)/\∀m σ H,W m σ H ->
 c σ H fun b H1=>if b=true then ∃N:St->Hp->Prop,(∀ σ' H',N σ' H'->∃m',m'<m/\W m' σ' H')/\tb { D with nx:=N,ct:=N,bk:=D.nx } σ H1 else D.nx σ H1
theorem RW {c:Expr}{body:List Stmt}{tc:TT}{tb:TS}(hp:PassesOwn (model X.prog X.w) X.A X.env X.xe)(hc:PT X c tc)(hb:PSs X body tb):PS X (.While c body [] pos) (zjx tc tb):=by
 intro pins s σ H D I h
 obtain⟨W,⟨m0,w0⟩,turn⟩:=h
 refine wpAny_While (codeAny_whileLoop (fun n s'=>∃ σ' H',Inv X pins σ' H' s'/\W n σ' H') ?_ m0 ⟨σ,H,I,w0⟩)
 rintro n s1 ⟨σ1,H1,I1,w1⟩
 refine wpAny_passesOwn hp (wC (hc pins s1 σ1 H1 _ I1 (turn n σ1 H1 w1)) fun b s2 ⟨H2,I2,q2⟩=>?_)
 cases b with
 | true =>
  obtain⟨N,hN,q2⟩:=q2
  rw[if_pos rfl]
  refine wpAny_passesOwn hp (wC (hb pins s2 σ1 H2 _ I2 q2) fun f s3 q3=>?_)
  cases f with
  | next =>
   obtain⟨σ3,H3,I3,n3⟩:=q3
   obtain⟨m',hm,w3⟩:=hN σ3 H3 n3
   exact⟨m',hm,σ3,H3,I3,w3⟩
  | cont =>
   obtain⟨σ3,H3,I3,n3⟩:=q3
   obtain⟨m',hm,w3⟩:=hN σ3 H3 n3
   exact⟨m',hm,σ3,H3,I3,w3⟩
  | brk=>exact q3
  | ret v=>exact q3
 | false =>
  rw[if_neg zqY]
  exact wpAny_execs_nil ⟨σ1,H2,I2,q2⟩
end
structure It where
 go:Nat->Hp->Prop
 Pj:Nat->Hp->V->Hp->Prop
 stop:Nat->Hp->Prop
def JX (X:Cx)(pins:List (Addr×Obj))(H:Hp)(b:Addr):Prop :=
 H b=none/\b≠X.env.locals/\b∉X.fs/\(b∈X.ex\/X.s₀.heap.objs.size<=b)/\(∀x c,X.env.cells.lookup x=some c->c≠b)/\∀p∈X.pn++pins,p.1≠b
theorem Inv.zcb {X:Cx}{pins:List (Addr×Obj)}{σ:St}{H H':Hp}{s:Shared}{b:Addr}(I:Inv X pins σ H s)(hb:s.heap.objs.size<=b)(hn:H' b=none):JX X pins H' b:=by
 refine⟨hn,Nat.ne_of_gt (zq3 I.lt hb),I.zjr hb,.inr (zrg I.sz hb),fun x c e z=>?_,fun p hp z=>?_⟩
 ·obtain⟨v,q⟩:=I.cell x c e
  exact absurd (zq3 q.lt (by rw[z];exact hb)) (Nat.lt_irrefl _)
 ·exact absurd (zq3 (zq1 (I.pin p hp).1) (by rw[z];exact hb)) (Nat.lt_irrefl _)
abbrev Calm (X:Cx):Prop:=X.calm=true
structure Turn (P:Program)(w:World)(K:Frag)(tg:Expr)(J:It)(fp:List Addr)(it:Addr)(tn:Nat->Heap->Prop)(rd:Cx->Prop:=Calm):Prop where
 mem:it∈fp
 obj:∀i h,tn i h->∀b∈fp,∃o,h.get? b=some o/\∀v,o.data≠.cell v
 keep:∀i h h',tn i h->(∀b∈fp,∀o,h.get? b=some o->h'.get? b=some o)->tn i h'
 item:∀(X:Cx),X.prog=P->X.w=w->X.K=K->rd X->∀(i:Nat) (pins:List (Addr×Obj)) (s:Shared) (σ:St) (H:Hp) (E:Value->Shared->Prop),Inv X pins σ H s->(∀b∈fp,JX X pins H b)->tn i s.heap->J.go i H ->
  wpAny (model P w) X.A (pyNext (.ref it)) (fun r s1=>∃u,r=some u /\
   wpAny (model P w) X.A (letOwnedTupleGo tg (.ref it) u) (fun _ s2=>∃x H',Inv X pins σ H' s2/\RelV x u/\J.Pj i H x H'/\tn (i+1) s2.heap/\∀b∈fp,H' b=none) E s1) E s
 done:∀(X:Cx),X.prog=P->X.w=w->X.K=K->rd X->∀(i:Nat) (pins:List (Addr×Obj)) (s:Shared) (σ:St) (H:Hp) (E:Value->Shared->Prop),Inv X pins σ H s->(∀b∈fp,JX X pins H b)->tn i s.heap->J.stop i H ->
  wpAny (model P w) X.A (pyNext (.ref it)) (fun r s1=>r=none/\Inv X pins σ H s1) E s
 self:∀(A:Around) (i:Nat) (s:Shared) (Q:Value->Shared->Prop) (E:Value->Shared->Prop),tn i s.heap->Q (.ref it) s->wpAny (model P w) A (pyIter (.ref it)) Q E s
abbrev TI:=St->Hp->(It->Hp->Prop)->Prop
def zkS (rd:Cx->Prop)(X:Cx)(pins:List (Addr×Obj))(σ:St)(tg:Expr)(R:It->Hp->Prop)(itv:Value)(s2:Shared):Prop :=
 ∃(it:Addr) (fp:List Addr) (tn:Nat->Heap->Prop) (J:It) (H':Hp),itv=.ref it/\Inv X pins σ H' s2/\Turn X.prog X.w X.K tg J fp it tn rd/\tn 0 s2.heap/\(∀b∈fp,JX X pins H' b)/\R J H'
abbrev PIE:=zkS Calm
def PIr (rd:Cx->Prop)(X:Cx)(tg iter:Expr)(wi:TI):Prop :=
 ∀(pins:List (Addr×Obj)) (s:Shared) (σ:St) (H:Hp) (R:It->Hp->Prop),Inv X pins σ H s->wi σ H R ->
  wpAny (model X.prog X.w) X.A (eval iter X.env) (fun v s1=>wpAny (model X.prog X.w) X.A (pyIter v) (zkS rd X pins σ tg R) X.xe s1) X.xe s
abbrev PI:=PIr Calm
theorem zcc {M:Model}{A:Around}{E:Value->Shared->Prop}{s:Shared}{tg:Expr}{it:Addr}{u:Value}{o:Obj}{n:String}{vs:Array Value}{Q:Unit->Shared->Prop}(ho:s.heap.get? it=some o)(hc:o.cls=.type n)(hd:o.data=.fields vs)
  (hn:["enumerate", "zip", "dict_itemiterator", "dict_reverseitemiterator", "odict_iterator", "itertools.zip_longest", "itertools.pairwise"].contains n=false)(hQ:Q () s):wpAny M A (letOwnedTupleGo tg (.ref it) u) Q E s:=by
 unfold letOwnedTupleGo
 cases tg<;>first
  | exact wpAny_pure hQ
  | (cases u<;>first
    | exact wpAny_pure hQ
    | (refine wpAny_bind (wpAny_load ho ?_)
       rw[hc,hd]
       show wpAny M A (if (["enumerate", "zip", "dict_itemiterator", "dict_reverseitemiterator", "odict_iterator", "itertools.zip_longest", "itertools.pairwise"].contains n&&vs[0]?==some (rawInt _))=true then _ else _) Q E s
       rw[if_neg (by intro h;rw[hn,Bool.false_and] at h;cases h)]
       exact wpAny_pure hQ))
def Kq (K:Frag)(a:Addr):It :=
 ⟨fun i H=>∃xs x,zZ K H a xs/\xs[i]?=some x,fun i H x H'=>H'=H/\∀xs,zZ K H a xs->xs[i]?=some x,fun i H=>∃xs,zZ K H a xs/\xs.length<=i⟩
def Itt (K:Frag)(a:Addr):It :=
 ⟨fun i H=>∃xs x,tY K H a xs/\xs[i]?=some x,fun i H x H'=>H'=H/\∀xs,tY K H a xs->xs[i]?=some x,fun i H=>∃xs,tY K H a xs/\xs.length<=i⟩
def Itr (lo:Int)(n:Nat):It:=⟨fun i _=>i<n,fun i H x H'=>H'=H/\x=.int (lo+i),fun i _=>n<=i⟩
theorem zfc {P:Program}{w:World}{K:Frag}{tg:Expr}(a it:Addr):Turn P w K tg (Kq K a) [it] it (fun i h=>h.IsListIter it a i) where
 mem:=by simp
 obj:=fun i h st b hb=>by
  have e:b=it:=by simpa using hb
  subst e
  obtain⟨o,e,c,d⟩:=st
  exact⟨o,e,fun v z=>by rw[d] at z;cases z⟩
 keep:=fun i h h' st k=>st.at fun o e=>k it (by simp) o e
 item:=by
  intro X hP hw hK hc i pins s σ H E I hf st hg
  subst hP hw hK
  obtain⟨xs,x,hq,hx⟩:=hg
  obtain⟨its,rv,p,hz⟩:=I.list hq
  obtain⟨u,hu,ru⟩:=rv.get hx
  obtain⟨f0,f1,f2,f3,f4,f5⟩:=hf it (by simp)
  refine wpAny_pyNext_list_item st p.isList (x:=u) (by simpa using hu) fun h' st' sb=>?_
  have I1:Inv X pins σ H { s with heap:=h' }:=I.turned (t':=s.toks) (fun b o hb e=>(sb.2 b hb).trans e) f0 f1 f3 f4 f5
  obtain⟨o,e,c,d⟩:=id st'
  exact⟨u,rfl,zcc (s:={ s with heap:=h' }) e c d (by decide) ⟨x,H,I1,ru,⟨rfl,fun ys hy=>by rw[I.RT hy hq];exact hx⟩,st',fun b hb=>(hf b hb).1⟩⟩
 done:=by
  intro X hP hw hK hc i pins s σ H E I hf st hg
  subst hP hw hK
  obtain⟨xs,hq,hx⟩:=hg
  obtain⟨its,rv,p,hz⟩:=I.list hq
  obtain⟨f0,f1,f2,f3,f4,f5⟩:=hf it (by simp)
  have hl:=rv.length
  exact wpAny_pyNext_list_end (I.ok.hd hc) st p.isList (by simp;omega) fun h' eb=>⟨rfl,I.turned (t':=s.toks) (fun b o hb e=>eb b o hb e) f0 f1 f3 f4 f5⟩
 self:=fun _ _ _ _ _ st h=>wpAny_pyIter_listiter st h
theorem zdx {P:Program}{w:World}{K:Frag}{tg:Expr}(a it:Addr):Turn P w K tg (Itt K a) [it] it (fun i h=>h.IsTupleIter it a i) where
 mem:=by simp
 obj:=fun i h st b hb=>by
  have e:b=it:=by simpa using hb
  subst e
  obtain⟨o,e,c,d⟩:=st
  exact⟨o,e,fun v z=>by rw[d] at z;cases z⟩
 keep:=fun i h h' st k=>st.at fun o e=>k it (by simp) o e
 item:=by
  intro X hP hw hK hc i pins s σ H E I hf st hg
  subst hP hw hK
  obtain⟨xs,x,hq,hx⟩:=hg
  obtain⟨its,rv,p,hz⟩:=I.tuple hq
  obtain⟨u,hu,ru⟩:=rv.get hx
  obtain⟨f0,f1,f2,f3,f4,f5⟩:=hf it (by simp)
  refine wpAny_pyNext_tuple_item st (show s.heap.IsTuple a its.toArray from p) (x:=u) (by simpa using hu) fun h' st' sb=>?_
  have I1:Inv X pins σ H { s with heap:=h' }:=I.turned (t':=s.toks) (fun b o hb e=>(sb.2 b hb).trans e) f0 f1 f3 f4 f5
  obtain⟨o,e,c,d⟩:=id st'
  exact⟨u,rfl,zcc (s:={ s with heap:=h' }) e c d (by decide) ⟨x,H,I1,ru,⟨rfl,fun ys hy=>by rw[I.zfb hy hq];exact hx⟩,st',fun b hb=>(hf b hb).1⟩⟩
 done:=by
  intro X hP hw hK hc i pins s σ H E I hf st hg
  subst hP hw hK
  obtain⟨xs,hq,hx⟩:=hg
  obtain⟨its,rv,p,hz⟩:=I.tuple hq
  obtain⟨f0,f1,f2,f3,f4,f5⟩:=hf it (by simp)
  have hl:=rv.length
  exact wpAny_pyNext_tuple_end (I.ok.hd hc) st (show s.heap.IsTuple a its.toArray from p) (by simp;omega) fun h' eb=>⟨rfl,I.turned (t':=s.toks) (fun b o hb e=>eb b o hb e) f0 f1 f3 f4 f5⟩
 self:=fun _ _ _ _ _ st h=>wpAny_pyIter_tupleiter st h
theorem zdy {P:Program}{w:World}{K:Frag}{tg:Expr}(it:Addr)(lo:Int)(n:Nat):Turn P w K tg (Itr lo n) [it] it (fun i h=>IsRangeIter h it (lo+(i:Nat)*1) ((n:Int)-(i:Nat)) 1) where
 mem:=by simp
 obj:=fun i h st b hb=>by
  have e:b=it:=by simpa using hb
  subst e
  exact⟨_,st,fun v z=>by
   have z':Data.fields _=Data.cell v:=z
   cases z'⟩
 keep:=fun i h h' st k=>k it (by simp) _ st
 item:=by
  intro X hP hw hK hc i pins s σ H E I hf st hg
  subst hP hw hK
  obtain⟨f0,f1,f2,f3,f4,f5⟩:=hf it (by simp)
  have W:=Walks.range (prog:=X.prog) (w:=X.w) (I.ok.hd hc) it lo 1 n
  refine W.item i s _ _ hg st fun v h' tk hv st' kk=>?_
  obtain⟨t,rfl⟩:=hv
  have I1:Inv X pins σ H { s with heap:=h',toks:=tk }:=I.turned (fun b o hb e=>kk b o (by simpa using hb) e) f0 f1 f3 f4 f5
  refine⟨_,rfl,zcc (s:={ s with heap:=h',toks:=tk }) (n := "range_iterator") st' rfl rfl (by decide) ⟨.int (lo+i),H,I1,⟨t,?_⟩,⟨rfl,rfl⟩,st',fun b hb=>(hf b hb).1⟩⟩
  rw[Int.mul_one]
 done:=by
  intro X hP hw hK hc i pins s σ H E I hf st hg
  subst hP hw hK
  obtain⟨f0,f1,f2,f3,f4,f5⟩:=hf it (by simp)
  exact wpAny_pyNext_range_end (I.ok.hd hc) st (by have:n<=i:=hg;omega) fun h' eb=>⟨rfl,I.turned (t':=s.toks) (fun b o hb e=>eb b o hb e) f0 f1 f3 f4 f5⟩
 self:=fun _ _ _ _ _ st h=>wpAny_pyIter_rangeiter st h
section
variable {X:Cx}{tg:Expr}
def zkT (K:Frag)(tl:TE):TI:=fun σ H R=>tl σ H fun x H1=>∃a,x=.ref a/\(∃xs,zZ K H1 a xs)/\R (Kq K a) H1
def zmQ (K:Frag)(tl:TE):TI:=fun σ H R=>tl σ H fun x H1=>∃a,x=.ref a/\(∃xs,tY K H1 a xs)/\R (Itt K a) H1
theorem xK {l:Expr}{tl:TE}(hl:PE X l tl):PI X tg l (zkT X.K tl):=by
 intro pins s σ H R I h
 refine wC (hl pins s σ H _ I h) fun v s1 ⟨x,H1,I1,r1,q1⟩=>?_
 obtain⟨a,e,⟨xs,hq⟩,q⟩:=q1
 subst e
 cases r1
 obtain⟨its,rv,p,hz⟩:=I1.list hq
 refine wpAny_pyIter_list p.isList ?_
 refine⟨s1.heap.objs.size,[s1.heap.objs.size],_,_,H1,rfl,I1.kept (t':=s1.toks) fun b o e=>zq0 _ e,zfc a _,⟨_,zrf _ rfl,rfl,rfl⟩,fun b hb=>?_,q⟩
 have e:b=s1.heap.objs.size:=by simpa using hb
 subst e
 exact I1.zcb (zra _) (I1.hok.fresh (zra _))
theorem zdz {l:Expr}{tl:TE}(hl:PE X l tl):PI X tg l (zmQ X.K tl):=by
 intro pins s σ H R I h
 refine wC (hl pins s σ H _ I h) fun v s1 ⟨x,H1,I1,r1,q1⟩=>?_
 obtain⟨a,e,⟨xs,hq⟩,q⟩:=q1
 subst e
 cases r1
 obtain⟨its,rv,p,hz⟩:=I1.tuple hq
 refine wpAny_pyIter_tuple (show s1.heap.IsTuple a its.toArray from p) ?_
 refine⟨s1.heap.objs.size,[s1.heap.objs.size],_,_,H1,rfl,I1.kept (t':=s1.toks) fun b o e=>zq0 _ e,zdx a _,⟨_,zrf _ rfl,rfl,rfl⟩,fun b hb=>?_,q⟩
 have e:b=s1.heap.objs.size:=by simpa using hb
 subst e
 exact I1.zcb (zra _) (I1.hok.fresh (zra _))
theorem zcd {pins:List (Addr×Obj)}{σ:St}{H:Hp}{s:Shared}{R:It->Hp->Prop}{E:Value->Shared->Prop}{lo hi:Int}{t u v:Tok}{tk:Nat}(I:Inv X pins σ H s)(h1:-(2^62)<=lo)(h2:lo<2^62)(h3:-(2^62)<=hi)(h4:hi<2^62)
  (q:R (Itr lo (hi-lo).toNat) H):wpAny (model X.prog X.w) X.A (pyIter (.ref s.heap.objs.size)) (PIE X pins σ tg R) E { s with heap:=s.heap.push { cls:=.type "range", data:=.fields #[.int lo t,.int hi u,.int 1 v] },toks:=tk }:=by
 refine wpAny_pyIter_range (IsRange.new ..) (small_one h1 h2 h3 h4) ?_
 have I1:Inv X pins σ H { s with heap:=s.heap.push { cls:=.type "range", data:=.fields #[.int lo t,.int hi u,.int 1 v] },toks:=tk }:=I.kept fun b o e=>zq0 _ e
 refine⟨(s.heap.push { cls:=.type "range", data:=.fields #[.int lo t,.int hi u,.int 1 v] }).objs.size,[(s.heap.push { cls:=.type "range", data:=.fields #[.int lo t,.int hi u,.int 1 v] }).objs.size],_,_,H,rfl,
  I1.kept (t':=tk) fun b o e=>zq0 _ e,zdy _ lo (hi-lo).toNat,?_,fun b hb=>?_,q⟩
 ·have e1:lo+((0:Nat):Int)*1=lo:=by simp
  have e2:(((hi-lo).toNat:Nat):Int)-((0:Nat):Int)=Builtin.Range.rangeSize lo hi 1:=by rw[rangeSize_one];split<;>omega
  show IsRangeIter _ _ (lo+((0:Nat):Int)*1) ((((hi-lo).toNat:Nat):Int)-((0:Nat):Int)) 1
  rw[e1,e2]
  exact zrf _ rfl
 ·have e:b=(s.heap.push { cls:=.type "range", data:=.fields #[.int lo t,.int hi u,.int 1 v] }).objs.size:=by simpa using hb
  subst e
  exact I1.zcb (zra _) (I1.hok.fresh (zra _))
def zkU (ta:TA):TI:=fun σ H R=>ta σ H fun vs H1=>∃j:Int,vs=[.int j]/\-(2^62)<=j/\j<2^62/\R (Itr 0 j.toNat) H1
def zkV (ta:TA):TI:=fun σ H R=>ta σ H fun vs H1=>∃i j:Int,vs=[.int i,.int j]/\(-(2^62)<=i/\i<2^62/\-(2^62)<=j/\j<2^62)/\R (Itr i (j-i).toNat) H1
theorem Pr {a:Expr}{ta:TA}{p pos:Pos}(hg:Gl X "range")(hm:X.mg "range"=none)(ha:PA X [a] ta)(hs:starEach [a] X.env=[(false,eval a X.env)]:=by rfl):PI X tg (.Call (.Name "range" p) [a] [] pos) (zkU ta):=by
 intro pins s σ H R I h
 refine Call_ (Xk I hg hm boot_range (PyProof.Rows.callWith_type1 (wC (ha pos pins s σ H _ I h) fun us s1 ⟨vs,H1,I1,r1,q1⟩=>?_) hs rfl))
 obtain⟨j,e,q1,q2,q⟩:=q1
 subst e
 cases r1 with
 | cons r rr =>
  cases rr
  obtain⟨t,rfl⟩:=r
  exact call_range_1 (zcd I1 (by omega) (by omega) q1 q2 (by simpa using q))
theorem zas {a b:Expr}{ta:TA}{p pos:Pos}(hg:Gl X "range")(hm:X.mg "range"=none)(ha:PA X [a,b] ta)(hs:starEach [a,b] X.env=[(false,eval a X.env),(false,eval b X.env)]:=by rfl)(hs2:starEach [b] X.env=[(false,eval b X.env)]:=by rfl) :
  PI X tg (.Call (.Name "range" p) [a,b] [] pos) (zkV ta):=by
 intro pins s σ H R I h
 refine Call_ (Xk I hg hm boot_range (PyProof.Rows.callWith_type1 (wC (ha pos pins s σ H _ I h) fun us s1 ⟨vs,H1,I1,r1,q1⟩=>?_) (by rw[hs,hs2]) (by rw[hs2];rfl)))
 obtain⟨i,j,e,⟨q1,q2,q3,q4⟩,q⟩:=q1
 subst e
 cases r1 with
 | cons r rr =>
  cases rr with
  | cons r' rr =>
   cases rr
   obtain⟨t,rfl⟩:=r
   obtain⟨t',rfl⟩:=r'
   exact call_range_2 (zcd I1 q1 q2 q3 q4 q)
def zmR (wi:TI)(g:TG)(tb:TS):TS:=fun D σ H=>wi σ H fun J H1=>∃W:Nat->Nat->St->Hp->Prop,(∃m,W 0 m σ H1)/\∀i m σ H,W i m σ H ->
 (J.stop i H/\D.nx σ H)\/(J.go i H/\∃N:St->Hp->Prop,(∀ σ' H',N σ' H'->∃m',m'<m/\W (i+1) m' σ' H')/\∀x H',J.Pj i H x H'->g x σ H' fun σ2 H2=>tb { D with nx:=N,ct:=N,bk:=D.nx } σ2 H2)
def S7 (fp:List Addr)(h:Heap):List (Addr×Obj):=fp.filterMap fun b=>(h.get? b).map fun o=>(b,o)
theorem Vg {fp:List Addr}{h:Heap}{b:Addr}{o:Obj}(hb:b∈fp)(e:h.get? b=some o):(b,o)∈S7 fp h:=List.mem_filterMap.mpr ⟨b,hb,by rw[e];rfl⟩
theorem zat {fp:List Addr}{h:Heap}{p:Addr×Obj}(hp:p∈S7 fp h):p.1∈fp/\h.get? p.1=some p.2:=by
 obtain⟨b,hb,e⟩:=List.mem_filterMap.mp hp
 cases q:h.get? b with
 | none=>rw[q] at e;cases e
 | some o =>
  rw[q] at e
  have e':(b,o)=p:=zrp e
  subst e'
  exact⟨hb,q⟩
theorem Inv.pinned {pins:List (Addr×Obj)}{σ:St}{H:Hp}{s:Shared}{fp:List Addr}(I:Inv X pins σ H s)(hf:∀b∈fp,JX X pins H b)(ho:∀b∈fp,∃o,s.heap.get? b=some o/\∀v,o.data≠.cell v):Inv X (pins++S7 fp s.heap) σ H s :=
 I.YL fun p hp=>(List.mem_append.mp hp).elim (fun z=>I.pin p (zrb _ z)) fun z=>by
  obtain⟨hb,e⟩:=zat z
  obtain⟨f0,f1,f2,_⟩:=hf p.1 hb
  obtain⟨o,e',d⟩:=ho p.1 hb
  rw[e] at e';cases e'
  exact⟨e,f0,f1,f2,d⟩
theorem Inv.Kr {pins pl:List (Addr×Obj)}{σ:St}{H:Hp}{s:Shared}(I:Inv X (pins++pl) σ H s):Inv X pins σ H s:=I.YL fun p hp=>I.pin p (zrb _ (List.mem_append_left _ hp))
theorem u6 {iter:Expr}{body:List Stmt}{wi:TI}{g:TG}{tb:TS}{pos:Pos}(hp:PassesOwn (model X.prog X.w) X.A X.env X.xe)(hc:X.calm=true)(hi:PI X tg iter wi)(hg:PG X tg g)(hb:PSs X body tb)
  (hs:∀x,foldedSetIterable iter X.env x=pure x:=by intro _;rfl):PS X (.For tg iter body [] pos) (zmR wi g tb):=by
 intro pins s σ H D I h
 refine wpAny_For (wC (hi pins s σ H _ I h) fun v s1 h1=>wC h1 fun itv s2 h2=>?_) hs
 obtain⟨it,fp,tn,J,H2,e,I2,T,st2,f2,W,⟨m0,w0⟩,turn⟩:=h2
 subst e
 have stat:∀{H':Hp},(∀b∈fp,H' b=none)->∀b∈fp,JX X pins H' b:=fun hn b hb=>⟨hn b hb,(f2 b hb).2⟩
 refine codeAny_forLoop_any (fun n s'=>∃i σ' H',Inv X pins σ' H' s'/\tn i s'.heap/\(∀b∈fp,H' b=none)/\W i n σ' H') ?_ m0 ⟨0,σ,H2,I2,st2,fun b hb=>(f2 b hb).1,w0⟩
 rintro n s3 ⟨i,σ3,H3,I3,st3,fr3,w3⟩
 rcases turn i n σ3 H3 w3 with ⟨stop,qn⟩ | ⟨go,N,hN,step⟩
 ·refine wpAny_passesOwn hp (wC (T.done X rfl rfl rfl hc i pins s3 σ3 H3 X.xe I3 (stat fr3) st3 stop) fun r s4 ⟨hr,I4⟩=>?_)
  subst hr
  exact wpAny_execs_nil ⟨σ3,H3,I4,qn⟩
 ·refine wpAny_passesOwn hp (wC (T.item X rfl rfl rfl hc i pins s3 σ3 H3 X.xe I3 (stat fr3) st3 go) fun r s4 ⟨u,hr,h4⟩=>?_)
  subst hr
  refine wpAny_passesOwn hp (wC h4 fun _ s5 ⟨x,H5,I5,r5,y5,st5,fr5⟩=>?_)
  have I5':=I5.pinned (stat fr5) (T.obj _ _ st5)
  refine wpAny_passesOwn hp (wC (hg _ s5 σ3 H5 x u _ I5' r5 (step x H5 y5)) fun _ s6 ⟨σ6,H6,I6,q6⟩=>?_)
  refine wpAny_passesOwn hp (wC (hb _ s6 σ6 H6 _ I6 q6) fun f s7 q7=>?_)
  have again:∀{σ7:St} {H7:Hp},Inv X (pins++S7 fp s5.heap) σ7 H7 s7->N σ7 H7->∃m,m<n/\∃i σ' H',Inv X pins σ' H' s7/\tn i s7.heap/\(∀b∈fp,H' b=none)/\W i m σ' H':=fun {σ7 H7} I7 n7=>by
   obtain⟨m',hm,w7⟩:=hN σ7 H7 n7
   refine⟨m',hm,i+1,σ7,H7,I7.Kr,T.keep _ _ _ st5 fun b hb o e=>(I7.pin (b,o) (zrb _ (zrb _ (Vg hb e)))).1,fun b hb=>?_,w7⟩
   obtain⟨o,e,d⟩:=T.obj _ _ st5 b hb
   exact(I7.pin (b,o) (zrb _ (zrb _ (Vg hb e)))).2.1
  cases f with
  | next=>obtain⟨σ7,H7,I7,n7⟩:=q7;exact again I7 n7
  | cont=>obtain⟨σ7,H7,I7,n7⟩:=q7;exact again I7 n7
  | brk=>obtain⟨σ7,H7,I7,q7⟩:=q7;exact⟨σ7,H7,I7.Kr,q7⟩
  | ret v=>obtain⟨x7,σ7,H7,I7,r7,q7⟩:=q7;exact⟨x7,σ7,H7,I7.Kr,r7,q7⟩
end
theorem Yq {K:Frag}{a:Addr}{xs:List V}{g:TG}{tb:TS}{D:Ends}{σ:St}{H:Hp}(Pv:Nat->St->Hp->Prop)(h0:Pv 0 σ H)(hl:∀i σ H,i<=xs.length->Pv i σ H->zZ K H a xs)
  (hs:∀i x σ H,xs[i]?=some x->Pv i σ H->g x σ H fun σ2 H2=>tb { D with nx:=Pv (i+1),ct:=Pv (i+1),bk:=D.nx } σ2 H2)(hd:∀ σ H,Pv xs.length σ H->D.nx σ H) :
  ∃W:Nat->Nat->St->Hp->Prop,(∃m,W 0 m σ H)/\∀i m σ H,W i m σ H ->
   ((Kq K a).stop i H/\D.nx σ H)\/((Kq K a).go i H/\∃N:St->Hp->Prop,(∀ σ' H',N σ' H'->∃m',m'<m/\W (i+1) m' σ' H')/\∀x H',(Kq K a).Pj i H x H'->g x σ H' fun σ2 H2=>tb { D with nx:=N,ct:=N,bk:=D.nx } σ2 H2):=by
 refine⟨fun i m σ H=>m=xs.length-i/\i<=xs.length/\Pv i σ H,⟨xs.length,by simp,zrh _,h0⟩,?_⟩
 rintro i m σ H ⟨rfl,hi,p⟩
 have q:=hl i σ H hi p
 by_cases hlt:i<xs.length
 ·refine .inr ⟨⟨xs,xs[i],q,by simp[hlt]⟩,Pv (i+1),fun σ' H' p'=>⟨xs.length-(i+1),by omega,rfl,hlt,p'⟩,fun x H' y=>?_⟩
  obtain⟨e,y⟩:=y
  subst e
  exact hs i x σ _ (y xs q) p
 ·have e:i=xs.length:=by omega
  subst e
  exact .inl ⟨⟨xs,q,zra _⟩,hd σ H p⟩
theorem WM {lo:Int}{n:Nat}{g:TG}{tb:TS}{D:Ends}{σ:St}{H:Hp}(Pv:Nat->St->Hp->Prop)(h0:Pv 0 σ H)
  (hs:∀i σ H,i<n->Pv i σ H->g (.int (lo+i)) σ H fun σ2 H2=>tb { D with nx:=Pv (i+1),ct:=Pv (i+1),bk:=D.nx } σ2 H2)(hd:∀ σ H,Pv n σ H->D.nx σ H) :
  ∃W:Nat->Nat->St->Hp->Prop,(∃m,W 0 m σ H)/\∀i m σ H,W i m σ H ->
   ((Itr lo n).stop i H/\D.nx σ H)\/((Itr lo n).go i H/\∃N:St->Hp->Prop,(∀ σ' H',N σ' H'->∃m',m'<m/\W (i+1) m' σ' H')/\∀x H',(Itr lo n).Pj i H x H'->g x σ H' fun σ2 H2=>tb { D with nx:=N,ct:=N,bk:=D.nx } σ2 H2):=by
 refine⟨fun i m σ H=>m=n-i/\i<=n/\Pv i σ H,⟨n,by simp,zrh _,h0⟩,?_⟩
 rintro i m σ H ⟨rfl,hi,p⟩
 by_cases hlt:i<n
 ·refine .inr ⟨hlt,Pv (i+1),fun σ' H' p'=>⟨n-(i+1),by omega,rfl,hlt,p'⟩,fun x H' y=>?_⟩
  obtain⟨e,y⟩:=y
  subst e y
  exact hs i σ _ hlt p
 ·have e:i=n:=by omega
  subst e
  exact .inl ⟨zra _,hd σ H p⟩
abbrev R2:=V->V->Hp->VK->Prop
def Uc (X:Cx)(f:Value->Value->Sem Value)(r:R2):Prop :=
 ∀(pins:List (Addr×Obj)) (s:Shared) (σ:St) (H:Hp) (x y:V) (v u:Value) (Q:VK),Inv X pins σ H s->RelV x v->RelV y u->r x y H Q ->
  wpAny (model X.prog X.w) X.A (f v u) (EP X pins σ Q) X.xe s
def UnR (X:Cx)(f:Value->Sem Value)(r:V->Hp->VK->Prop):Prop :=
 ∀(pins:List (Addr×Obj)) (s:Shared) (σ:St) (H:Hp) (x:V) (v:Value) (Q:VK),Inv X pins σ H s->RelV x v->r x H Q ->
  wpAny (model X.prog X.w) X.A (f v) (EP X pins σ Q) X.xe s
def Xl (X:Cx)(f:Value)(r:List V->Hp->VK->Prop):Prop :=
 ∀(pins:List (Addr×Obj)) (s:Shared) (σ:St) (H:Hp) (xs:List V) (us:List Value) (Q:VK),Inv X pins σ H s->Vals xs us->r xs H Q ->
  wpAny (model X.prog X.w) X.A (call f us) (EP X pins σ Q) X.xe s
def zmU (X:Cx)(r:V->Hp->(Bool->Hp->Prop)->Prop):Prop :=
 ∀(pins:List (Addr×Obj)) (s:Shared) (σ:St) (H:Hp) (x:V) (v:Value) (Q:Bool->Hp->Prop),Inv X pins σ H s->RelV x v->r x H Q ->
  wpAny (model X.prog X.w) X.A (truthy v) (TP X pins σ Q) X.xe s
def tOp (r:R2)(ta tb:TE):TE:=fun σ H Q=>ta σ H fun x H1=>tb σ H1 fun y H2=>r x y H2 Q
def tUn (r:V->Hp->VK->Prop)(ta:TE):TE:=fun σ H Q=>ta σ H fun x H1=>r x H1 Q
def rI (C:Int->Int->Prop)(g:Int->Int->V):R2:=fun x y H Q=>∃i j,x=.int i/\y=.int j/\C i j/\Q (g i j) H
def rI0 (g:Int->Int->V):R2:=fun x y H Q=>∃i j,x=.int i/\y=.int j/\Q (g i j) H
def rU (g:Int->V):V->Hp->VK->Prop:=fun x H Q=>∃i,x=.int i/\Q (g i) H
section
variable {X:Cx}{a b c:Expr}{ta tb tc:TE}{pos:Pos}
theorem zjz (ha:PE X a ta)(hb:PE X b tb){pins:List (Addr×Obj)}{s:Shared}{σ:St}{H:Hp}{R:V->V->Hp->Prop}(I:Inv X pins σ H s)
  (h:ta σ H fun x H1=>tb σ H1 fun y H2=>R x y H2){Q:Value->Shared->Prop}{f:Value->Value->Sem Value}
  (hf:∀v u s2 x y H2,Inv X pins σ H2 s2->RelV x v->RelV y u->R x y H2->wpAny (model X.prog X.w) X.A (f v u) Q X.xe s2) :
  wpAny (model X.prog X.w) X.A (eval a X.env) (fun v s₁=>wpAny (model X.prog X.w) X.A (eval b X.env) (fun u s₂=>wpAny (model X.prog X.w) X.A (f v u) Q X.xe s₂) X.xe s₁) X.xe s:=by
 refine wC (ha pins s σ H _ I h) fun v s1 ⟨x,H1,I1,r1,q1⟩=>?_
 refine wC (hb pins s1 σ H1 _ I1 q1) fun u s2 ⟨y,H2,I2,r2,q2⟩=>?_
 exact hf v u s2 x y H2 I2 r1 r2 q2
theorem zH {op:Operator}{r:R2}(ho:Uc X (binaryOp op) r)(ha:PE X a ta)(hb:PE X b tb):PE X (.BinOp a op b pos) (tOp r ta tb):=by
 intro pins s σ H Q I h
 exact wpAny_BinOp (zjz ha hb I h fun v u s2 x y H2 I2 rx ry q=>ho pins s2 σ H2 x y v u Q I2 rx ry q)
theorem zi2 {op:UnaryOp}{r:V->Hp->VK->Prop}(ho:UnR X (unaryOp op) r)(ha:PE X a ta):PE X (.UnaryOp op a pos) (tUn r ta):=by
 intro pins s σ H Q I h
 exact UnaryOp_ (wC (ha pins s σ H _ I h) fun v s1 ⟨x,H1,I1,r1,q1⟩=>ho pins s1 σ H1 x v Q I1 r1 q1)
theorem opI {f:Value->Value->Sem Value}{C:Int->Int->Prop}{g:Int->Int->Int}
  (rule:∀(i j:Int) (t u:Tok) (s:Shared) (Q:Value->Shared->Prop) (E:Value->Shared->Prop),C i j->Q (.int (g i j) s.toks) { s with toks:=s.toks+1 }->wpAny (model X.prog X.w) X.A (f (.int i t) (.int j u)) Q E s) :
  Uc X f (rI C fun i j=>.int (g i j)):=by
 intro pins s σ H x y v u Q I rx ry h
 obtain⟨i,j,rfl,rfl,hc,q⟩:=h
 obtain⟨t,rfl⟩:=rx
 obtain⟨t',rfl⟩:=ry
 exact rule i j t t' s _ _ hc ⟨.int (g i j),H,I.tok _,⟨_,rfl⟩,q⟩
theorem zfd {f:Value->Value->Sem Value}{g:Int->Int->Int}
  (rule:∀(i j:Int) (t u:Tok) (s:Shared) (Q:Value->Shared->Prop) (E:Value->Shared->Prop),Q (.int (g i j) s.toks) { s with toks:=s.toks+1 }->wpAny (model X.prog X.w) X.A (f (.int i t) (.int j u)) Q E s) :
  Uc X f (rI0 fun i j=>.int (g i j)):=by
 intro pins s σ H x y v u Q I rx ry h
 obtain⟨i,j,rfl,rfl,q⟩:=h
 obtain⟨t,rfl⟩:=rx
 obtain⟨t',rfl⟩:=ry
 exact rule i j t t' s _ _ ⟨.int (g i j),H,I.tok _,⟨_,rfl⟩,q⟩
theorem zjA {f:Value->Value->Sem Value}{g:Int->Int->Bool}
  (rule:∀(i j:Int) (t u:Tok) (s:Shared) (Q:Value->Shared->Prop) (E:Value->Shared->Prop),Q (.bool (g i j)) s->wpAny (model X.prog X.w) X.A (f (.int i t) (.int j u)) Q E s) :
  Uc X f (rI0 fun i j=>.bl (g i j)):=by
 intro pins s σ H x y v u Q I rx ry h
 obtain⟨i,j,rfl,rfl,q⟩:=h
 obtain⟨t,rfl⟩:=rx
 obtain⟨t',rfl⟩:=ry
 exact rule i j t t' s _ _ ⟨.bl (g i j),H,I,rfl,q⟩
def zmV (i j:Int):Prop:=0<j/\j<1073741824
def zmW (i j:Int):Prop:=0<=j/\j<=1000000/\i.natAbs<2^64
def zjB (i j:Int):Prop:=(-(2^64)<i/\i<2^64)\/(-(2^64)<j/\j<2^64)
theorem zjB.ok {i j:Int}(h:zjB i j):IntMulOk i j:=by
 rcases h with ⟨h1,h2⟩ | ⟨h1,h2⟩
 ·exact .of_left (intBits_le_64 h1 h2)
 ·exact .of_right (intBits_le_64 h1 h2)
theorem zdA (k:Nat):(0:Int)<=2^k:=by
 rw[two_pow_cast]
 exact Int.natCast_nonneg _
theorem vG:Uc X (binaryOp .Add) (rI0 fun i j=>.int (i+j)):=zfd fun _ _ _ _ _ _ _ q=>add_int q
theorem za7:Uc X (binaryOp .Sub) (rI0 fun i j=>.int (i-j)):=zfd fun _ _ _ _ _ _ _ q=>sub_int q
theorem Ks:Uc X (binaryOp .Mult) (rI zjB fun i j=>.int (i*j)):=opI fun _ _ _ _ _ _ _ hc q=>mul_int q hc.ok
theorem zeu:Uc X (binaryOp .FloorDiv) (rI zmV fun i j=>.int (i / j)):=opI fun i j _ _ _ _ _ hc q=>by
 have h1:(0:Int)<j:=hc.1
 have h2:j<1073741824:=hc.2
 exact floordiv_int (by omega) (by rw[Int.fdiv_eq_ediv_of_nonneg i (by omega)];exact q) (.inl (PyProof.noPylong_small (by omega)))
theorem ZV:Uc X (binaryOp .Mod) (rI (fun _ j=>0<j) fun i j=>.int (i%j)):=opI fun i j _ _ _ _ _ hc q=>by
 have h1:(0:Int)<j:=hc
 exact mod_int' (by omega) (by rw[Int.fmod_eq_emod_of_nonneg i (by omega)];exact q)
theorem zjC:Uc X (binaryOp .Pow) (rI zmW fun i j=>.int (i^j.toNat)):=opI fun _ _ _ _ _ _ _ hc q=>pow_int_small hc.1 hc.2.1 hc.2.2 q
theorem zjD:Uc X (binaryOp .RShift) (rI (fun _ j=>0<=j) fun i j=>.int (i / 2^j.toNat)):=opI fun i j _ _ _ _ _ hc q =>
 rshift_int hc (by rw[Int.fdiv_eq_ediv_of_nonneg i (zdA _)];exact q)
theorem zjE:Uc X (binaryOp .BitAnd) (rI0 fun i j=>.int (Builtin.bitAnd i j)):=zfd fun _ _ _ _ _ _ _ q=>and_int q
theorem zkX:Uc X (binaryOp .BitOr) (rI0 fun i j=>.int (Builtin.bitOr i j)):=zfd fun _ _ _ _ _ _ _ q=>or_int q
theorem zjF:Uc X (binaryOp .BitXor) (rI0 fun i j=>.int (Builtin.bitXor i j)):=zfd fun _ _ _ _ _ _ _ q=>xor_int q
theorem za8:Uc X (inplaceOp .Add) (rI0 fun i j=>.int (i+j)):=zfd fun _ _ _ _ _ _ _ q=>iadd_int q
theorem unI {f:Value->Sem Value}{g:Int->Int}
  (rule:∀(i:Int) (t:Tok) (s:Shared) (Q:Value->Shared->Prop) (E:Value->Shared->Prop),Q (.int (g i) s.toks) { s with toks:=s.toks+1 }->wpAny (model X.prog X.w) X.A (f (.int i t)) Q E s) :
  UnR X f (rU fun i=>.int (g i)):=by
 intro pins s σ H x v Q I rx h
 obtain⟨i,rfl,q⟩:=h
 obtain⟨t,rfl⟩:=rx
 exact rule i t s _ _ ⟨.int (g i),H,I.tok _,⟨_,rfl⟩,q⟩
theorem zf5:UnR X (unaryOp .USub) (rU fun i=>.int (-i)):=unI fun _ _ _ _ _ q=>neg_int q
end
def zkY:V->V->Bool
 | .non,.non=>true | .non,.int _=>true | .int _,.non=>true | .non,.bl _=>true | .bl _,.non=>true | .non,.str _=>true | .str _,.non=>true
 | .int _,.int _=>true | .bl _,.bl _=>true | .str _,.str _=>true | .byt _,.byt _=>true
 | .int _,.str _=>true | .str _,.int _=>true | .bl _,.str _=>true | .str _,.bl _=>true
 | _,_=>false
def rEq:R2:=fun x y H Q=>zkY x y=true/\Q (.bl (decide (x=y))) H
def rNe:R2:=fun x y H Q=>zkY x y=true/\Q (.bl (!decide (x=y))) H
theorem zew {i j:Int}:decide (V.int i=V.int j)=(i==j):=by
 rw[zrz]
 simp
theorem zf6 {i j:Bool}:decide (V.bl i=V.bl j)=(i==j):=by
 rw[zrz]
 simp
theorem zex {i j:Str}:decide (V.str i=V.str j)=(i==j):=by
 rw[zrz]
 simp
theorem zey {i j:Array UInt8}:decide (V.byt i=V.byt j)=(i.toList==j.toList):=by
 rw[zrz]
 cases i
 cases j
 simp
section
variable {X:Cx}{a b c:Expr}{ta tb tc:TE}{pos:Pos}
theorem yI {pins:List (Addr×Obj)}{σ:St}{H:Hp}{s:Shared}{Q:VK}{k k':Bool}(I:Inv X pins σ H s)(q:Q (.bl k) H)(e:k=k'):EP X pins σ Q (.bool k') s:=by
 subst e
 exact⟨.bl k,H,I,rfl,q⟩
theorem yX:Uc X (compareOp .Eq) rEq:=by
 intro pins s σ H x y v u Q I rx ry h
 obtain⟨hs,q⟩:=h
 cases x with
 | non =>
  cases rx
  cases y with
  | non=>cases ry;exact PySem.EqNone.eq_none_none (yI I q (by simp))
  | bl j=>cases ry;exact PySem.EqNone.eq_none_bool (yI I q (by simp))
  | int j=>obtain⟨t',rfl⟩:=ry;exact PySem.EqNone.eq_none_int (yI I q (by simp))
  | str j=>obtain⟨t',rfl⟩:=ry;exact PySem.EqNone.eq_none_str (yI I q (by simp))
  | _=>exact absurd (show false=true from hs) zqY
 | bl i =>
  cases rx
  cases y with
  | non=>cases ry;exact PySem.EqNone.eq_bool_none (yI I q (by simp))
  | bl j=>cases ry;exact eq_bool (yI I q zf6)
  | str j=>obtain⟨t',rfl⟩:=ry;exact PySem.EqMixed.eq_bool_str (yI I q (by simp))
  | _=>exact absurd (show false=true from hs) zqY
 | int i =>
  obtain⟨t,rfl⟩:=rx
  cases y with
  | non=>cases ry;exact PySem.EqNone.eq_int_none (yI I q (by simp))
  | int j=>obtain⟨t',rfl⟩:=ry;exact eq_int (yI I q zew)
  | str j=>obtain⟨t',rfl⟩:=ry;exact PySem.EqMixed.eq_int_str (yI I q (by simp))
  | _=>exact absurd (show false=true from hs) zqY
 | str i =>
  obtain⟨t,rfl⟩:=rx
  cases y with
  | non=>cases ry;exact PySem.EqNone.eq_str_none (yI I q (by simp))
  | bl j=>cases ry;exact PySem.EqMixed.eq_str_bool (yI I q (by simp))
  | int j=>obtain⟨t',rfl⟩:=ry;exact PySem.EqMixed.eq_str_int (yI I q (by simp))
  | str j=>obtain⟨t',rfl⟩:=ry;exact eq_str (yI I q zex)
  | _=>exact absurd (show false=true from hs) zqY
 | byt i =>
  obtain⟨t,rfl⟩:=rx
  cases y with
  | byt j=>obtain⟨t',rfl⟩:=ry;exact PySem.W.eq_bytes (yI I q zey)
  | _=>exact absurd (show false=true from hs) zqY
 | _=>cases y<;>exact absurd (show false=true from hs) zqY
theorem Mg:Uc X (compareOp .NotEq) rNe:=by
 intro pins s σ H x y v u Q I rx ry h
 obtain⟨hs,q⟩:=h
 cases x with
 | non =>
  cases rx
  cases y with
  | non=>cases ry;exact PySem.EqNone.ne_none_none (yI I q (by simp))
  | bl j=>cases ry;exact PySem.EqNone.ne_none_bool (yI I q (by simp))
  | int j=>obtain⟨t',rfl⟩:=ry;exact PySem.EqNone.ne_none_int (yI I q (by simp))
  | str j=>obtain⟨t',rfl⟩:=ry;exact PySem.EqNone.ne_none_str (yI I q (by simp))
  | _=>exact absurd (show false=true from hs) zqY
 | bl i =>
  cases rx
  cases y with
  | non=>cases ry;exact PySem.EqNone.ne_bool_none (yI I q (by simp))
  | bl j=>cases ry;exact ne_bool (yI I q (congrArg not zf6))
  | str j=>obtain⟨t',rfl⟩:=ry;exact PySem.EqMixed.ne_bool_str (yI I q (by simp))
  | _=>exact absurd (show false=true from hs) zqY
 | int i =>
  obtain⟨t,rfl⟩:=rx
  cases y with
  | non=>cases ry;exact PySem.EqNone.ne_int_none (yI I q (by simp))
  | int j=>obtain⟨t',rfl⟩:=ry;exact ne_int (yI I q (congrArg not zew))
  | str j=>obtain⟨t',rfl⟩:=ry;exact PySem.EqMixed.ne_int_str (yI I q (by simp))
  | _=>exact absurd (show false=true from hs) zqY
 | str i =>
  obtain⟨t,rfl⟩:=rx
  cases y with
  | non=>cases ry;exact PySem.EqNone.ne_str_none (yI I q (by simp))
  | bl j=>cases ry;exact PySem.EqMixed.ne_str_bool (yI I q (by simp))
  | int j=>obtain⟨t',rfl⟩:=ry;exact PySem.EqMixed.ne_str_int (yI I q (by simp))
  | str j=>obtain⟨t',rfl⟩:=ry;exact ne_str (yI I q (congrArg not zex))
  | _=>exact absurd (show false=true from hs) zqY
 | byt i =>
  obtain⟨t,rfl⟩:=rx
  cases y with
  | byt j=>obtain⟨t',rfl⟩:=ry;exact PySem.W.ne_bytes (yI I q (congrArg not zey))
  | _=>exact absurd (show false=true from hs) zqY
 | _=>cases y<;>exact absurd (show false=true from hs) zqY
theorem zce:Uc X (compareOp .Lt) (rI0 fun i j=>.bl (decide (i<j))):=zjA fun _ _ _ _ _ _ _ q=>lt_int q
theorem zau:Uc X (compareOp .Gt) (rI0 fun i j=>.bl (decide (j<i))):=zjA fun _ _ _ _ _ _ _ q=>gt_int q
theorem zi3:Uc X (compareOp .GtE) (rI0 fun i j=>.bl (decide (j<=i))):=zjA fun _ _ _ _ _ _ _ q=>ge_int q
theorem zQ (b:Expr){op:CmpOp}(h:op≠.In:=by decide)(h2:op≠.NotIn:=by decide):behindInMarks op b=false:=by
 have e1:(op==CmpOp.In)=false:=by cases op<;>first | rfl | exact absurd rfl h
 have e2:(op==CmpOp.NotIn)=false:=by cases op<;>first | rfl | exact absurd rfl h2
 cases b<;>simp[behindInMarks,e1,e2]
theorem uU {op:CmpOp}{r:R2}(ho:Uc X (compareOp op) r)(ha:PE X a ta)(hb:PE X b tb)(hm:behindInMarks op b=false):PE X (.Compare a [op] [b] pos) (tOp r ta tb):=by
 intro pins s σ H Q I h
 exact wpAny_Compare1 (zjz ha hb I h fun v u s2 x y H2 I2 rx ry q=>ho pins s2 σ H2 x y v u Q I2 rx ry q) hm
inductive zkZ (x:V)(k:Bool->Prop):Prop
 | mk (c:Bool) (_:x=.bl c) (_:k c):zkZ x k
def zk0 (t:TE):TT:=fun σ H Q=>t σ H fun x H'=>zkZ x fun k=>Q k H'
theorem zM {op:CmpOp}{r:R2}(ho:Uc X (compareOp op) r)(ha:PE X a ta)(hb:PE X b tb)(hm:behindInMarks op b=false):PT X (.Compare a [op] [b] pos) (zk0 (tOp r ta tb)):=by
 intro pins s σ H Q I h
 refine wpAny_isTrue_Compare1 (wC (ha pins s σ H _ I h) fun v s1 ⟨x,H1,I1,r1,q1⟩=>wC (hb pins s1 σ H1 _ I1 q1) fun u s2 ⟨y,H2,I2,r2,q2⟩ =>
  wC (ho pins s2 σ H2 x y v u _ I2 r1 r2 q2) fun c s3 ⟨z,H3,I3,r3,k,e,q3⟩=>?_) hm
 subst e
 cases r3
 exact wpAny_truthy_bool ⟨H3,I3,q3⟩
def zk1 (K:Frag)(x:V)(H:Hp)(k:Bool):Prop :=
 match x with
 | .non=>k=false
 | .bl b=>k=b
 | .int i=>k=(i != 0)
 | .str y=>y.length<=sizeLine/\k=((y.length:Int) != 0)
 | .byt y=>y.size<=sizeLine/\k=((y.size:Int) != 0)
 | .ref p=>(∃xs,zZ K H p xs/\k=!xs.isEmpty)\/(∃xs,tY K H p xs/\k=!xs.isEmpty)\/∃kvs,H p=some (.dK kvs)/\k=!kvs.isEmpty
 | _=>False
theorem zdB {κ:Type}{kvs:List (κ×V)}{vs:List (κ×Value)}(r:KV kvs vs):(!vs.isEmpty)=!kvs.isEmpty:=by
 cases r<;>rfl
theorem Ku {xs:List V}{its:List Value}(r:Vals xs its):(!its.toArray.isEmpty)=!xs.isEmpty:=by
 cases r<;>simp
theorem Ud:(sizeLine:Nat)<2^63:=by rw[sizeLine_eq];decide
theorem zjG:zmU X (fun x H Q=>∃k,zk1 X.K x H k/\Q k H):=by
 intro pins s σ H x v Q I rx h
 obtain⟨k,e,q⟩:=h
 have hl:=Ud
 have hs:sizeLine=16777216:=sizeLine_eq
 cases x with
 | non =>
  cases rx
  have e':k=false:=e
  subst e'
  exact truthy_none ⟨H,I,q⟩
 | bl b =>
  cases rx
  have e':k=b:=e
  subst e'
  exact wpAny_truthy_bool ⟨H,I,q⟩
 | int i =>
  obtain⟨t,rfl⟩:=rx
  have e':k=(i != 0):=e
  subst e'
  exact PySem.P.truthy_int ⟨H,I,q⟩
 | str y =>
  obtain⟨t,rfl⟩:=rx
  obtain⟨hy,e'⟩:y.length<=sizeLine/\k=((y.length:Int) != 0):=e
  subst e'
  exact PySem.P.truthy_str (by omega) ⟨H,I.tok _,q⟩
 | byt y =>
  obtain⟨t,rfl⟩:=rx
  obtain⟨hy,e'⟩:y.size<=sizeLine/\k=((y.size:Int) != 0):=e
  subst e'
  exact PySem.W.truthy_bytes (by omega) ⟨H,I.tok _,q⟩
 | ref p =>
  cases rx
  have e':(∃xs,zZ X.K H p xs/\k=!xs.isEmpty)\/(∃xs,tY X.K H p xs/\k=!xs.isEmpty)\/∃kvs,H p=some (.dK kvs)/\k=!kvs.isEmpty:=e
  rcases e' with ⟨xs,hx,e'⟩ | ⟨xs,hx,e'⟩ | ⟨kvs,hx,e'⟩
  ·subst e'
   obtain⟨its,r,pl,hz⟩:=I.list hx
   have hlen:=r.length
   exact wpAny_truthy_list pl.isList (by simp only[zq4];omega) ⟨H,I.tok _,by rw[Ku r];exact q⟩
  ·subst e'
   obtain⟨its,r,pl,hz⟩:=I.tuple hx
   have hlen:=r.length
   exact truthy_tuple pl (by simp only[zq4];omega) ⟨H,I.tok _,by rw[Ku r];exact q⟩
  ·subst e'
   obtain⟨hz,hS,vs,r,m⟩:kvs.length<=sizeLine/\(p==sysModules)=false/\∃vs,KV kvs vs/\s.heap.DictOf (z6 X.prog X.w) p vs:=I.hok p _ hx
   have hlen:kvs.length=vs.length:=Paired.length r
   exact wpAny_truthy_dict hS m (by omega) ⟨H,I.tok _,by rw[zdB r];exact q⟩
 | _=>exact(show False from e).elim
theorem uL (ha:PE X a ta)(he:∀whole,isTrue a X.env whole=(do let v <-whole;standAt a.pos;holding [v] (truthy v))) :
  PT X a (fun σ H Q=>ta σ H fun x H'=>∃k,zk1 X.K x H' k/\Q k H'):=by
 intro pins s σ H Q I h
 exact isTrue_plain (wC (ha pins s σ H _ I h) fun v s1 ⟨x,H1,I1,r1,q1⟩=>zjG pins s1 σ H1 x v Q I1 r1 q1) (he _)
theorem S8:Uc X (binaryOp .Add) (fun x y H Q=>∃i j,x=.str i/\y=.str j/\i.length+j.length<=sizeLine/\Q (.str (i++j)) H):=by
 intro pins s σ H x y v u Q I rx ry h
 obtain⟨i,j,rfl,rfl,hz,q⟩:=h
 obtain⟨t,rfl⟩:=rx
 obtain⟨t',rfl⟩:=ry
 exact add_str (fun t' tk=>⟨.str (i++j),H,I.tok _,⟨_,rfl⟩,q⟩) hz
theorem vals1 {x:V}{us:List Value}(r:Vals [x] us):∃u,us=[u]/\RelV x u:=by
 cases r with
 | cons r1 r2=>cases r2;exact⟨_,rfl,r1⟩
theorem vals2 {x y:V}{us:List Value}(r:Vals [x,y] us):∃u w',us=[u,w']/\RelV x u/\RelV y w':=by
 cases r with
 | cons r1 r2 =>
  cases r2 with
  | cons r3 r4=>cases r4;exact⟨_,_,rfl,r1,r3⟩
theorem zfe:Xl X (.type "int") (fun xs H Q=>(∃i,xs=[.int i]/\Q (.int i) H)\/∃k,xs=[.bl k]/\Q (.int (if k then 1 else 0)) H):=by
 intro pins s σ H xs us Q I r h
 rcases h with ⟨i,rfl,q⟩ | ⟨k,rfl,q⟩
 ·obtain⟨u,rfl,t,rfl⟩:=vals1 r
  exact call_int_int ⟨.int i,H,I,⟨_,rfl⟩,q⟩
 ·obtain⟨u,rfl,r1⟩:=vals1 r
  cases r1
  exact call_int_bool ⟨.int (if k then 1 else 0),H,I.tok _,⟨_,rfl⟩,q⟩
end
structure zdC (h:Heap)(x dx C:Addr)(mA:Str->Option Value):Prop where
 obj:h.get? x=some (PySem.W.instObj C dx)
 ns:h.Ns1 dx mA
 ne:dx≠x
theorem zff {h:Heap}{dx:Addr}{mA:Str->Option Value}(n:h.Ns1 dx mA):∃od,h.get? dx=some od/\∀name,PySem.W.lookIn name od=some (mA name):=by
 obtain⟨o,es,ep,ho,hd,hk,_,hm⟩:=n
 refine⟨o,ho,fun name=>?_⟩
 have e:=hm name
 unfold nsFind findBy at e
 rw[<-Array.find?_toList] at e
 unfold PySem.W.lookIn
 rw[hd]
 dsimp only
 split
 ·rename_i y q
  rw[q] at e
  exact congrArg some e
 ·rename_i q
  rw[q] at e
  have a:es.toList.any (·.refKey)=false:=by
   rw[List.any_eq_false]
   intro y hy
   obtain⟨z,t,hkey⟩:=hk y (Array.mem_toList_iff.mp hy)
   simp[DictEntry.refKey,hkey]
  have a':¬es.toList.any (·.refKey)=true:=by rw[a];exact zqY
  rw[if_neg a']
  exact congrArg some e
theorem zdC.look {h:Heap}{x dx C:Addr}{mA:Str->Option Value}(I:zdC h x dx C mA):∃od,PySem.W.InstAt h x (PySem.W.instObj C dx) C (some od)/\∀name,PySem.W.lookIn name od=some (mA name) :=
 let ⟨od,ho,hl⟩:=zff I.ns
 ⟨od,⟨I.obj,rfl,rfl,ho⟩,hl⟩
section
variable {prog:Program}{w:World}{A:Around}{E:Value->Shared->Prop}{s:Shared}{K:Frag}{x dx C f:Addr}{mA:Str->Option Value}{name:Str}{v:Value}
theorem get_map {expr:Bool}{Q:Value->Shared->Prop}(X:K.In s.heap)(I:zdC s.heap x dx C mA)(hg:PySem.W.plainGet K C name=true)(hh:PySem.W.hasDictIn K C=true)
  (ha:findIn K (.ref C) name=some none)(hv:mA name=some v)(hv':PySem.W.handedIn v=true)(h:Q v { s with toks:=s.toks+1 }) :
  wpAny (model prog w) A (getAttr (.ref x) name expr) Q E s:=by
 obtain⟨od,J,hl⟩:=I.look
 exact PySem.W.get_value X J (PySem.W.plainGet_of hg).1 (PySem.W.findObj_own hh ha rfl (by rw[hl,hv])) hv' h
theorem zf7 {pl:Sem Bool}{Q:Value×List Value->Shared->Prop}(X:K.In s.heap)(I:zdC s.heap x dx C mA)(hg:PySem.W.plainGet K C name=true)
  (hf:findIn K (.ref C) name=some (some (.ref f)))(ht:PySem.W.isFn K (.ref f)=true)(hv:mA name=none)(h:Q (.ref f,[.ref x]) s) :
  wpAny (model prog w) A (getMethod (.ref x) name pl) Q E s:=by
 obtain⟨od,J,hl⟩:=I.look
 exact PySem.W.method_fn X J (PySem.W.plainGet_of hg).1 (PySem.W.plainGet_of hg).2 hf (beq_iff_eq.mp ht) (by show(PySem.W.lookIn name od).map (·.isSome)=some false;rw[hl,hv];rfl) h
theorem zhB {ns:List Str}{Q:Unit->Shared->Prop}(X:K.In s.heap)(I:zdC s.heap x dx C mA)
  (hs:findIn K (.ref C) "__setattr__"=some (some (.builtin "object.__setattr__")))(hp:PySem.W.plainOver K C=true)(ht:PySem.W.takerIn K C name=some none)(hh:PySem.W.hasDictIn K C=true)
  (hw:PySem.Within mA ns)(hsz:ns.length<=sizeLine)
  (h:∀h',zdC h' x dx C (fun y=>if y=name then some v else mA y)->Heap.SameBut dx s.heap h'->Q () { s with heap:=h',toks:=s.toks+2 }) :
  wpAny (model prog w) A (setAttr (.ref x) name v) Q E s:=by
 obtain⟨od,J,hl⟩:=I.look
 refine PySem.W.set_plain X J hs (PySem.W.osa_open (s:={ s with toks:=s.toks+1 }) (r:=none) X J hp ht fun b=>?_)
 obtain⟨cd,hc,hd'⟩:=PySem.W.any_some hh
 have hx:s.heap.get? x=some ⟨.ref C,some dx,.plain,#[]⟩:=I.obj
 refine wpAny_bind (wpAny_pure (wpAny_bind (wpAny_bind (wpAny_loadPart hx (wpAny_bind (PySem.W.Looks.here (s:={ s with toks:=s.toks+1 }) (PySem.W.looks_clsIn X hc) ?_))))))
 rw[hd']
 refine wpAny_pure (a:=some dx) (wpAny_bind (wpAny_pure (wpAny_bind ?_)))
 refine wpAny_nsSet1 (s:={ s with toks:=s.toks+1 }) I.ns fun h' hn2 hs2=>?_
 obtain⟨oD,esD,epD,hoD,hdD,hcD⟩:=hn2.count (PySem.Within.cons name v hw)
 refine wpAny_bind (wpAny_lookBehind hoD (by rw[hdD];exact pastItsLine_dict (zrg hcD (by rw[zq6];omega))) ?_)
 exact wpAny_pure (h _ ⟨(hs2.2 _ (Ne.symm I.ne)).trans I.obj,hn2,I.ne⟩ hs2)
theorem zf8 {R:Result->Shared->Prop}{vs:List Value}{kw:List (Str×Value)}(X:K.In s.heap)(hm:PySem.W.makesIn K C=true)
  (hi:findIn K (.ref C) "__init__"=some (some (.ref f)))(hf:PySem.W.typeIn K (.ref f)=some (.type "function"))
  (h:codeAny (model prog w) (A.under (.builtin "type.__call__" ⟨.ref C::vs,kw⟩)) (.call (.ref f) ⟨.ref (s.heap.objs.size+1)::vs,kw⟩) (PySem.W.InitBack (s.heap.objs.size+1) R)
   {s with heap:=(s.heap.push PySem.W.emptyDict).push (PySem.W.instObj C s.heap.objs.size) }) :
  codeAny (model prog w) A (.call (.ref C) ⟨vs,kw⟩) R s:=by
 obtain⟨hh,g,d,t,os⟩:=s
 exact PySem.W.make_core (PySem.W.makes_of X hm) (PySem.W.looks_findIn X hi) (fun self=>PySem.W.bind_fn X self hf) (.inl rfl) h
end
def ZW (f:Str)(v:V):List (Str×V)->List (Str×V)
 | []=>[(f,v)]
 | (g,x)::r=>if g=f then (g,v)::r else (g,x)::ZW f v r
theorem Mh (f g:Str)(v:V):∀fs:List (Str×V),(ZW f v fs).lookup g=if g=f then some v else fs.lookup g
 | []=>by
  show List.lookup g [(f,v)]=_
  by_cases h:g=f
  ·have hb:(g==f)=true:=beq_iff_eq.mpr h
   simp only[List.lookup,hb,if_pos h]
  ·have hb:(g==f)=false:=beq_eq_false_iff_ne.mpr h
   simp only[List.lookup,hb,if_neg h]
 | (k,x)::r=>by
  have ih:=Mh f g v r
  rw[show ZW f v ((k,x)::r)=(if k=f then (k,v)::r else (k,x)::ZW f v r) from rfl]
  by_cases hk:k=f
  ·rw[if_pos hk]
   by_cases h:g=k
   ·have hb:(g==k)=true:=beq_iff_eq.mpr h
    simp only[List.lookup,hb,if_pos (h.trans hk)]
   ·have hb:(g==k)=false:=beq_eq_false_iff_ne.mpr h
    simp only[List.lookup,hb,if_neg (fun e:g=f=>h (e.trans hk.symm))]
  ·rw[if_neg hk]
   by_cases h:g=k
   ·have hb:(g==k)=true:=beq_iff_eq.mpr h
    simp only[List.lookup,hb,if_neg (fun e:g=f=>hk (h.symm.trans e))]
   ·have hb:(g==k)=false:=beq_eq_false_iff_ne.mpr h
    simp only[List.lookup,hb]
    exact ih
theorem Pu (f:Str)(v:V):∀fs:List (Str×V),f∈(ZW f v fs).map (·.1)/\∀g,g∈fs.map (·.1)->g∈(ZW f v fs).map (·.1)
 | []=>⟨by simp[ZW],fun g h=>by simp at h⟩
 | (k,x)::r=>by
  obtain⟨i1,i2⟩:=Pu f v r
  rw[show ZW f v ((k,x)::r)=(if k=f then (k,v)::r else (k,x)::ZW f v r) from rfl]
  by_cases hk:k=f
  ·rw[if_pos hk]
   subst hk
   exact⟨by simp,fun g h=>by simpa using h⟩
  ·rw[if_neg hk]
   refine⟨?_,fun g h=>?_⟩
   ·rw[zrj]
    exact zq5 _ i1
   ·rw[zrj] at h ⊢
    rcases List.mem_cons.mp h with e | e
    ·exact List.mem_cons.mpr (.inl e)
    ·exact zq5 _ (i2 g e)
theorem Mi (f:Str)(v:V):∀fs:List (Str×V),(ZW f v fs).length<=fs.length+1
 | []=>by simp[ZW]
 | (k,x)::r=>by
  have ih:=Mi f v r
  rw[show ZW f v ((k,x)::r)=(if k=f then (k,v)::r else (k,x)::ZW f v r) from rfl]
  by_cases hk:k=f
  ·rw[if_pos hk,zq6,zq6];omega
  ·rw[if_neg hk,zq6,zq6];omega
theorem V7.some_of {v:V}{o:Option Value}(r:V7 (some v) o):∃u,o=some u/\RelV v u:=by
 cases o with
 | none=>exact(show False from r).elim
 | some u=>exact⟨u,rfl,r⟩
theorem V7.none_of {o:Option Value}(r:V7 none o):o=none:=by
 cases o with
 | none=>rfl
 | some u=>exact(show False from r).elim
theorem zfg {v:V}{u:Value}(r:RelV v u):PySem.W.handedIn u=true:=by
 cases v with
 | non=>cases (show u=Value.none from r);rfl
 | bl b=>cases (show u=Value.bool b from r);rfl
 | int i=>obtain⟨t,e⟩:=(show ∃t,u=Value.int i t from r);cases e;rfl
 | str x=>obtain⟨t,e⟩:=(show ∃t,u=Value.str x t from r);cases e;rfl
 | byt b=>obtain⟨t,e⟩:=(show ∃t,u=Value.bytes b t from r);cases e;rfl
 | flt b=>obtain⟨t,e⟩:=(show ∃t,u=Value.float b t from r);cases e;rfl
 | ref a=>cases (show u=Value.ref a from r);rfl
 | ty n=>cases (show u=Value.type n from r);rfl
section
variable {P:Program}{w:World}{H H':Hp}{h h':Heap}{a C dx:Addr}{fs fs':List (Str×V)}
theorem Lw (hok:T3 P w H h)(e:H a=some (.ins C dx fs)):∃mA,zdC h a dx C mA/\(∀f,V7 (fs.lookup f) (mA f))/\PySem.Within mA (fs.map (·.1))/\fs.length<=1000/\H dx=some (.own a):=by
 obtain⟨d,z,ne,ob,mA,n,r,q⟩:=(show wG P w H h a (.ins C dx fs) from hok a _ e)
 exact⟨mA,⟨ob,n,ne⟩,r,q,z,d⟩
end
structure Cls (K:Frag)(C:Addr):Prop where
 pg:PySem.W.plainGet K C Str.empty=true
 hd:PySem.W.hasDictIn K C=true
 po:PySem.W.plainOver K C=true
 sa:findIn K (.ref C) "__setattr__"=some (some (.builtin "object.__setattr__"))
theorem Cls.get {K:Frag}{C:Addr}(c:Cls K C)(f:Str):PySem.W.plainGet K C f=true:=c.pg
def Xm (K:Frag)(C:Addr)(f:Str):Prop:=findIn K (.ref C) f=some none
theorem Xm.taker {K:Frag}{C:Addr}{f:Str}(n:Xm K C f):PySem.W.takerIn K C f=some none:=by
 unfold PySem.W.takerIn
 rw[show findIn K (.ref C) f=some none from n]
 rfl
structure Meth (K:Frag)(C:Addr)(m:Str)(f:Addr):Prop where
 at_:findIn K (.ref C) m=some (some (.ref f))
 fn:PySem.W.isFn K (.ref f)=true
 kp:PySem.W.keepIn K (.ref f)=true
section
variable {X:Cx}{pins:List (Addr×Obj)}{σ:St}{H:Hp}{s:Shared}{a C dx:Addr}{fs:List (Str×V)}{f:Str}{v:V}{A:Around}{E:Value->Shared->Prop}
theorem zdD {b:Bool}{Q:Value->Shared->Prop}(I:Inv X pins σ H s)(e:H a=some (.ins C dx fs))(c:Cls X.K C)(n:Xm X.K C f)(l:fs.lookup f=some v)
  (h:∀u s',Inv X pins σ H s'->RelV v u->Q u s'):wpAny (model X.prog X.w) A (getAttr (.ref a) f b) Q E s:=by
 obtain⟨mA,O,r,_,_,_⟩:=Lw I.hok e
 obtain⟨u,hu,ru⟩:=V7.some_of (v:=v) (o:=mA f) (by rw[<-l];exact r f)
 exact get_map I.Pn O (c.get f) c.hd n hu (zfg ru) (h u _ (I.tok _) ru)
theorem S9 {m:Str}{g:Addr}{pl:Sem Bool}{Q:Value×List Value->Shared->Prop}(I:Inv X pins σ H s)(e:H a=some (.ins C dx fs))(c:Cls X.K C)(k:Meth X.K C m g)(l:fs.lookup m=none)
  (h:Q (.ref g,[.ref a]) s):wpAny (model X.prog X.w) A (getMethod (.ref a) m pl) Q E s:=by
 obtain⟨mA,O,r,_,_,_⟩:=Lw I.hok e
 have hn:mA m=none:=V7.none_of (by rw[<-l];exact r m)
 exact zf7 I.Pn O (c.get m) k.at_ k.fn hn h
theorem zdE {y:V}{u:Value}{Q:Unit->Shared->Prop}(I:Inv X pins σ H s)(e:H a=some (.ins C dx fs))(c:Cls X.K C)(n:Xm X.K C f)(hl:fs.length<1000)(ry:RelV y u)
  (h:∀s',Inv X pins σ (upd H a (.ins C dx (ZW f y fs))) s'->Q () s'):wpAny (model X.prog X.w) A (setAttr (.ref a) f u) Q E s:=by
 obtain⟨mA,O,r,wi,_,ho⟩:=Lw I.hok e
 have hz:(fs.map (·.1)).length<=sizeLine:=by rw[zqU,sizeLine_eq];omega
 refine zhB I.Pn O c.sa c.po n.taker c.hd wi hz fun h' O' sb=>h _ ?_
 have hd:∃o,h'.get? dx=some o:=let ⟨o,_,_,e',_⟩:=O'.ns;⟨o,e'⟩
 refine I.write (x:=a) (e:=dx) (by rw[e];exact True.intro) (.inr ho) (fun b q hb z=>(sb.2 b hb).trans z) hd ?_
 refine⟨by rw[zA O.ne];exact ho,?_,O.ne,O'.obj,_,O'.ns,fun g=>?_,fun g hg=>?_⟩
 ·have:=Mi f y fs;omega
 ·show V7 ((ZW f y fs).lookup g) (if g=f then some u else mA g)
  rw[Mh]
  by_cases q:g=f
  ·rw[if_pos q,if_pos q];exact ry
  ·rw[if_neg q,if_neg q];exact r g
 ·by_cases q:g=f
  ·rw[q];exact(Pu f y fs).1
  ·refine(Pu f y fs).2 g (wi g fun z=>hg ?_)
   show(if g=f then some u else mA g)=none
   rw[if_neg q];exact z
theorem Inv.made (I:Inv X pins σ H s):Inv X pins σ (upd (upd H s.heap.objs.size (.own (s.heap.objs.size+1))) (s.heap.objs.size+1) (.ins C s.heap.objs.size []))
  {s with heap:=(s.heap.push PySem.W.emptyDict).push (PySem.W.instObj C s.heap.objs.size) }:=by
 have e1:(s.heap.push PySem.W.emptyDict).get? s.heap.objs.size=some PySem.W.emptyDict:=zrf s.heap rfl
 have e2:((s.heap.push PySem.W.emptyDict).push (PySem.W.instObj C s.heap.objs.size)).get? (s.heap.objs.size+1)=some (PySem.W.instObj C s.heap.objs.size):=by
  have:=zrf (s.heap.push PySem.W.emptyDict) (o:=PySem.W.instObj C s.heap.objs.size) rfl
  rwa [Heap.size_push] at this
 have e3:(s.heap.push PySem.W.emptyDict).Ns s.heap.objs.size (fun _=>none):=⟨PySem.W.emptyDict,#[],_,e1,rfl,(fun e he=>absurd he (by simp)),fun _=>rfl⟩
 have I1:=I.laid (a:=s.heap.objs.size) (o:=.own (s.heap.objs.size+1)) (h':=s.heap.push PySem.W.emptyDict) (t':=s.toks) (fun b u q=>zq0 _ q) (zra _) ⟨_,e1⟩
 refine I1.laid (a:=s.heap.objs.size+1) (o:=.ins C s.heap.objs.size []) (t':=s.toks) (fun b u q=>zq0 _ q) (Nat.le_of_eq (Heap.size_push _ _)) ?_
 have ne:s.heap.objs.size≠s.heap.objs.size+1:=zq9 (Nat.lt_succ_self _)
 refine⟨by rw[zA ne,zj],zrh _,ne,e2,fun _=>none,(Heap.Ns1.of_empty e3).at fun o q=>zq0 _ q,fun _=>True.intro,fun y hy=>absurd rfl hy⟩
theorem zhC {prog:Program}{w:World}{env:Env}{e:Expr}{f:Str}{pos:Pos}{s:Shared}{Q:Value->Shared->Prop}(hb:attributeBase e f env (eval e env)=eval e env)
  (h:wpAny (model prog w) A (eval e env) (fun o s₁=>wpAny (model prog w) A (getAttr o f true) Q E s₁) E s):wpAny (model prog w) A (eval (.Attribute e f pos) env) Q E s :=
 Attribute_any_ h (by rw[arm_eval_Attribute,hb])
end
def zmX (K:Frag)(ta:TE)(f:Str):TE:=fun σ H Q=>ta σ H fun x H1=>∃a C dx fs v,x=.ref a/\H1 a=some (.ins C dx fs)/\Cls K C/\Xm K C f/\fs.lookup f=some v/\Q v H1
def zmY (K:Frag)(ta tv:TE)(f:Str):TS:=fun D σ H=>tv σ H fun y H1=>ta σ H1 fun x H2=>∃a C dx fs,x=.ref a/\H2 a=some (.ins C dx fs)/\Cls K C/\Xm K C f/\fs.length<1000 /\
 D.nx σ (upd H2 a (.ins C dx (ZW f y fs)))
section
variable {X:Cx}{o e value:Expr}{f:Str}{pos pos' tpos:Pos}{ta tv:TE}
theorem u9 (he:PE X e ta)(hb:attributeBase e f X.env (eval e X.env)=eval e X.env):PE X (.Attribute e f pos) (zmX X.K ta f):=by
 intro pins s σ H Q I h
 refine zhC hb (wC (he pins s σ H _ I h) fun u s1 ⟨x,H1,I1,rx,a,C,dx,fs,v,ex,ea,c,n,l,q⟩=>?_)
 subst ex
 obtain rfl:u=Value.ref a:=rx
 exact zdD I1 ea c n l fun u' s2 I2 ru=>⟨v,H1,I2,ru,q⟩
theorem za9 (ha:PE X o ta)(hv:PE X value tv)(hs:swapsWith value (some (.Attribute o f pos')) pos.line X.env=pure false):PS X (.Assign [.Attribute o f pos'] value pos) (zmY X.K ta tv f):=by
 intro pins s σ H D I h
 refine plainObj_wpAny_Assign_Attribute (wC (hv pins s σ H _ I h) fun u s1 ⟨y,H1,I1,ry,q⟩=>wC (ha pins s1 σ H1 _ I1 q) fun ov s2 ⟨x,H2,I2,rx,a,C,dx,fs,ex,ea,c,n,l,q2⟩=>?_) hs
 subst ex
 obtain rfl:ov=Value.ref a:=rx
 exact zdE I2 ea c n l ry fun s3 I3=>⟨σ,_,I3,q2⟩
theorem zi4 {pl:Sem Bool}{m:Str}{apos:Pos}{args:List Expr}{pins:List (Addr×Obj)}{s:Shared}{σ:St}{H:Hp}{Q:Value->Shared->Prop}{te:TE}(he:PE X e te)(I:Inv X pins σ H s)
  (h:te σ H fun x H1=>∃a C dx fs g,x=.ref a/\H1 a=some (.ins C dx fs)/\Cls X.K C/\Meth X.K C m g/\fs.lookup m=none /\
   ∀s1,Inv X pins σ H1 s1->wpAny (model X.prog X.w) X.A (callWith pos (.ref g) [.ref a] (backTo pos (starEach args X.env)) (backToKw pos (keywordEach [] X.env))) Q X.xe s1)
  (ht:eval (.Call (.Attribute e m apos) args [] pos) X.env=(do
   let ov <-eval e X.env
   standAt apos.atName
   let (f,first) <-holding [ov] (getMethod ov m pl)
   callWith pos f first (backTo pos (starEach args X.env)) (backToKw pos (keywordEach [] X.env)))) :
  wpAny (model X.prog X.w) X.A (eval (.Call (.Attribute e m apos) args [] pos) X.env) Q X.xe s:=by
 refine PySem.W.methodCall_KW (pl:=pl) (wC (he pins s σ H _ I h) fun u s1 ⟨x,H1,I1,rx,a,C,dx,fs,g,ex,ea,c,k,l,q⟩=>?_) ht
 subst ex
 obtain rfl:u=Value.ref a:=rx
 exact S9 I1 ea c k l (q s1 I1)
end
section
variable {X:Cx}{pins:List (Addr×Obj)}{σ:St}{H:Hp}{s:Shared}{A:Around}{E:Value->Shared->Prop}{Q:Value->Shared->Prop}{c:Value}{b:Bool}
inductive RX (K:Frag)(H:Hp):V->Value->Prop where
 | non:RX K H .non (.type "NoneType")
 | bl (x:Bool):RX K H (.bl x) (.type "bool")
 | int (i:Int):RX K H (.int i) (.type "int")
 | str (x:Str):RX K H (.str x) (.type "str")
 | flt (x:UInt64):RX K H (.flt x) (.type "float")
 | lst {a:Addr} {xs:List V} (e:H a=some (.lst xs)):RX K H (.ref a) (.type "list")
 | Kg {a:Addr} {o:Obj} {xs:List V} (e:H a=some (.Kg o (.lst xs))):RX K H (.ref a) (.type "list")
 | tup {a:Addr} {xs:List V} (e:H a=some (.tup xs)):RX K H (.ref a) (.type "tuple")
 | dK {a:Addr} {kvs:List (Key×V)} (e:H a=some (.dK kvs)):RX K H (.ref a) (.type "dict")
 | dT {a:Addr} {kvs:List (List Key×V)} (e:H a=some (.dT kvs)):RX K H (.ref a) (.type "dict")
 | ins {a C dx:Addr} {fs:List (Str×V)} (e:H a=some (.ins C dx fs)) (cl:Cls K C) (ha:findIn K (.ref C) "__class__"=some (some (.builtin "object.__class__")))
   (hn:PySem.W.specialIn K (.builtin "object.__class__") "__get__"=some (some (.builtin "getset_descriptor.__get__"))) (htk:PySem.W.takesIn K (.builtin "object.__class__")=some true)
   (hm:PySem.W.mroIn K C (.type "object")=some true):RX K H (.ref a) (.ref C)
theorem zfh {x:V}{u t:Value}(I:Inv X pins σ H s)(rx:RelV x u)(ty:RX X.K H x t)(e:PySem.W.kitOne X.K t c=some b)(h:∀tk,Q (.bool b) { s with toks:=tk }) :
  wpAny (model X.prog X.w) A (call (.builtin "isinstance") [u,c]) Q E s:=by
 cases ty with
 | non=>cases (show u=Value.none from rx);exact PySem.W.kia_one PySem.W.kitx_none I.Pn True.intro e (fun z=>nomatch z) h
 | bl y=>cases (show u=Value.bool y from rx);exact PySem.W.kia_one PySem.W.kitx_bool I.Pn True.intro e (fun z=>nomatch z) h
 | int i=>obtain⟨t,q⟩:=(show ∃t,u=Value.int i t from rx);cases q;exact PySem.W.kia_one PySem.W.kitx_int I.Pn True.intro e (fun z=>nomatch z) h
 | str y=>obtain⟨t,q⟩:=(show ∃t,u=Value.str y t from rx);cases q;exact PySem.W.kia_one PySem.W.kitx_str I.Pn True.intro e (fun z=>nomatch z) h
 | flt y=>obtain⟨t,q⟩:=(show ∃t,u=Value.float y t from rx);cases q;exact PySem.W.kia_one PySem.W.kitx_float I.Pn True.intro e (fun z=>nomatch z) h
 | @lst a xs ea =>
  cases (show u=Value.ref a from rx)
  obtain⟨_,_,n,_,h1⟩:=(show wG X.prog X.w H s.heap a (.lst xs) from I.hok a _ ea)
  exact PySem.W.kia_one PySem.W.kitx_list I.Pn ⟨_,h1,rfl⟩ e (fun z=>nomatch z) h
 | @Kg a ob xs ea =>
  cases (show u=Value.ref a from rx)
  obtain⟨_,_,_,n,_,h1⟩:=(show wG X.prog X.w H s.heap a (.Kg ob (.lst xs)) from I.hok a _ ea)
  exact PySem.W.kia_one PySem.W.kitx_list I.Pn ⟨_,h1,rfl⟩ e (fun z=>nomatch z) h
 | @tup a xs ea =>
  cases (show u=Value.ref a from rx)
  obtain⟨_,_,_,p⟩:=(show wG X.prog X.w H s.heap a (.tup xs) from I.hok a _ ea)
  obtain⟨o,h1,h2,_⟩:=p
  exact PySem.W.kia_one PySem.W.kitx_tuple I.Pn ⟨o,h1,h2⟩ e (fun z=>nomatch z) h
 | @dK a kvs ea =>
  cases (show u=Value.ref a from rx)
  obtain⟨_,_,vs,_,p⟩:=(show wG X.prog X.w H s.heap a (.dK kvs) from I.hok a _ ea)
  obtain⟨o,es,ep,h1,h2,_⟩:=p
  exact PySem.W.kia_one PySem.W.kitx_dict I.Pn ⟨o,h1,h2.1⟩ e (fun z=>nomatch z) h
 | @dT a kvs ea =>
  cases (show u=Value.ref a from rx)
  obtain⟨_,_,xs,_,o,es,ep,h1,h2,_⟩:=(show wG X.prog X.w H s.heap a (.dT kvs) from I.hok a _ ea)
  exact PySem.W.kia_one PySem.W.kitx_dict I.Pn ⟨o,h1,h2.1⟩ e (fun z=>nomatch z) h
 | @ins a C dx fs ea cl ha hn htk hm =>
  cases (show u=Value.ref a from rx)
  obtain⟨mA,O,_⟩:=Lw I.hok ea
  obtain⟨od,J,_⟩:=O.look
  exact PySem.W.kia_one (PySem.W.kitx_own (cl.get _) cl.hd ha hn htk hm) I.Pn J e (fun z=>nomatch z) h
end
structure Zb (k:Nat)(A:Around):Prop where
 hd:A.handled=none
 gd:A.guards=some []
 dp:A.depth+3*k+5<recursionLimit
 un:A.units+16*k+200<cLine
theorem Zb.mono {j k:Nat}{A:Around}(r:Zb k A)(h:j<=k):Zb j A:=⟨r.hd,r.gd,by have:=r.dp;omega,by have:=r.un;omega⟩
theorem Zb.deeper {k:Nat}{A:Around}(r:Zb (k+1) A)(env:Env):Zb k (A.deeper env) :=
 ⟨r.hd,r.gd,by have:=r.dp;show A.depth+1+3*k+5<_;omega,by have:=r.un;show A.units+3+16*k+200<_;omega⟩
theorem zdF {A:Around}{C:Addr}{us:List Value}{kw:List (Str×Value)}:(A.under (.builtin "type.__call__" ⟨.ref C::us,kw⟩)).depth=A.depth+1:=by
 first | rfl | simp[Around.under,Code.weight,Code.isCreation,Code.isGuard,Code.isCaller,Code.frames,Code.isFrame,guardIds]
theorem zdG {A:Around}{C:Addr}{us:List Value}{kw:List (Str×Value)}:(A.under (.builtin "type.__call__" ⟨.ref C::us,kw⟩)).units=A.units+1:=by
 first | rfl | simp[Around.under,Code.cUnits,Code.frames,Code.isFrame]
theorem Zb.make {k:Nat}{A:Around}(r:Zb (k+1) A)(C:Addr)(us:List Value)(kw:List (Str×Value)):Zb k (A.under (.builtin "type.__call__" ⟨.ref C::us,kw⟩)) :=
 ⟨r.hd,(by
  have e:(Code.builtin "type.__call__" ⟨.ref C::us,kw⟩).guards=[]:=by first | rfl | simp[Code.guards,Code.isGuard,guardIds]
  unfold Around.under
  simp only[e,pushGuards]
  exact r.gd),by have:=r.dp;rw[zdF];omega,by have:=r.un;rw[zdG];omega⟩
theorem Zb.depth {k:Nat}{A:Around}(r:Zb k A):A.depth<recursionLimit:=by have:=r.dp;omega
theorem Zb.units {k:Nat}{A:Around}(r:Zb k A):A.units+64<cLine:=by have:=r.un;omega
def zcf:TA:=fun _ H Q=>Q [] H
def RZ (ta:TE)(tr:TA):TA:=fun σ H Q=>ta σ H fun x H1=>tr σ H1 fun xs H2=>Q (x::xs) H2
section
variable {X:Cx}{e:Expr}{es:List Expr}{te:TE}{t:TA}{pos:Pos}
theorem zc:PA X [] zcf:=fun _ _ _ _ H Q I h=>Calls.spliced_nil ⟨[],H,I,.nil,h⟩
theorem za (ha:PE X e te)(hr:PA X es t)(hs:starEach (e::es) X.env=(false,eval e X.env)::starEach es X.env:=by rfl):PA X (e::es) (RZ te t):=by
 intro pos pins s σ H Q I h
 rw[hs]
 show wpAny _ _ (spliced ((false,eval e X.env)::backTo pos (starEach es X.env))) _ _ s
 refine Calls.spliced_cons (wC (ha pins s σ H _ I h) fun u s1 ⟨x,H1,I1,r1,q1⟩=>?_)
 exact wC (hr pos pins s1 σ H1 _ I1 q1) fun us s2 ⟨xs,H2,I2,r2,q2⟩=>⟨x::xs,H2,I2,.cons r1 r2,q2⟩
def zmZ (t:TA):TE:=fun σ H Q=>t σ H fun xs H1=>xs.length<=sizeLine/\∀p,H1 p=none->Q (.ref p) (upd H1 p (.tup xs))
def zm0 (t:TA):TE:=fun σ H Q=>t σ H fun xs H1=>xs.length<=sizeLine/\∀p,H1 p=none->Q (.ref p) (upd H1 p (.lst xs))
theorem vH {x1}(h:PA X es t):PE X (.Tuple es x1 pos) (zmZ t):=by
 intro pins s σ H Q I hq
 refine wpAny_Tuple_spliced (wC (h pos pins s σ H _ I hq) fun us s1 ⟨xs,H1,I1,r,z,q⟩=>⟨by rw[<-r.length];exact z,?_⟩)
 have hf:H1 s1.heap.objs.size=none:=I1.hok.fresh (zra _)
 refine⟨.ref s1.heap.objs.size,upd H1 s1.heap.objs.size (.tup xs),I1.laid (t':=s1.toks) (fun b u e=>zq0 _ e) (zra _) ?_,rfl,q _ hf⟩
 exact⟨z,us,r,⟨_,zrf _ rfl,rfl,_,rfl⟩⟩
theorem uG (h:PA X es t):PE X (.List es pos) (zm0 t):=by
 intro pins s σ H Q I hq
 refine wpAny_List_spliced (wC (h pos pins s σ H _ I hq) fun us s1 ⟨xs,H1,I1,r,z,q⟩=>⟨by rw[<-r.length];exact z,?_⟩)
 have hf:H1 s1.heap.objs.size=none:=I1.hok.fresh (zra _)
 refine⟨.ref s1.heap.objs.size,upd H1 s1.heap.objs.size (.lst xs),I1.laid (t':=s1.toks) (fun b u e=>zq0 _ e) (zra _) ?_,rfl,q _ hf⟩
 exact⟨z,us,0,r,zrf _ rfl⟩
end
abbrev Sp:=List V->Hp->VK->XK->Prop
abbrev CXT:=List Env->Hp->Shared->XK->Value->Shared->Prop
structure zdH (P:Program)(w:World)(K:Frag)(mg:Str->Option Value)(base:Heap)(A:Around)(outer:List Env)(s:Shared)(H:Hp):Prop where
 frames:A.frames=some outer
 mod:Mod K mg base
 bs:∀b o,base.get? b=some o->s.heap.get? b=some o/\H b=none
 bsz:base.objs.size<=s.heap.objs.size
 Pk:s.heap.FunFrames base outer
 frf:∀b∈frs outer,H b=none
 hok:T3 P w H s.heap
 bare:AllBare s.gens
def CE (outer:List Env)(P:Program)(w:World)(H:Hp)(s:Shared)(Q:VK)(u:Value)(s':Shared):Prop :=
 ∃v H',s'.os=s.os/\AllBare s'.gens/\Un (frs outer) [] H H' s.heap s'.heap/\T3 P w H' s'.heap/\RelV v u/\Q v H'
def CR (CX:CXT)(outer:List Env)(P:Program)(w:World)(H:Hp)(s:Shared)(Q:VK)(E:XK)(r:Result)(s':Shared):Prop :=
 match r with
 | .ok (.ret u)=>CE outer P w H s Q u s'
 | .ok _=>False
 | .error e=>CX outer H s E e s'
structure zB (P:Program)(w:World)(K:Frag)(mg:Str->Option Value)(base:Heap)(CX:CXT)(k:Nat)(f:Addr)(fd:FuncData)(ps:List Str)(sp:Sp):Prop where
 len:∀vs H Q E,sp vs H Q E->vs.length=ps.length
 run:∀(A:Around) (outer:List Env) (s:Shared) (H:Hp) (args:Args) (us:List Value) (vs:List V) (Q:VK) (E:XK),Zb k A->zdH P w K mg base A outer s H->BindsTo s fd args (ps.zip us)->Vals vs us->sp vs H Q E ->
  codeAny (model P w) A (.call (.ref f) args) (CR CX outer P w H s Q E) s
theorem zB.mono {P:Program}{w:World}{K:Frag}{mg:Str->Option Value}{base:Heap}{CX:CXT}{j k:Nat}{f:Addr}{fd:FuncData}{ps:List Str}{sp:Sp}(F:zB P w K mg base CX j f fd ps sp)(h:j<=k) :
  zB P w K mg base CX k f fd ps sp:=⟨F.len,fun A outer s H args us vs Q E hr=>F.run A outer s H args us vs Q E (hr.mono h)⟩
theorem zdH.make {P:Program}{w:World}{K:Frag}{mg:Str->Option Value}{base:Heap}{A:Around}{outer:List Env}{s:Shared}{H:Hp}(e:zdH P w K mg base A outer s H)(C:Addr)(us:List Value)(kw:List (Str×Value)) :
  zdH P w K mg base (A.under (.builtin "type.__call__" ⟨.ref C::us,kw⟩)) outer s H:=⟨by first | exact e.frames | (simpa [Around.under,Code.envs,Code.isFrame,pushEnvs] using e.frames),e.mod,e.bs,e.bsz,e.Pk,e.frf,e.hok,e.bare⟩
section
variable {X:Cx}{pins:List (Addr×Obj)}{σ:St}{H:Hp}{s s':Shared}
theorem Inv.env0 (I:Inv X pins σ H s):zdH X.prog X.w X.K X.mg X.base X.A X.stack s H :=
 ⟨I.ok.frames,I.ok.mod,I.bs,zrg I.ok.bsz I.sz,I.stack,I.zer,I.hok,I.bare⟩
theorem Inv.after {Q:VK}{u:Value}(I:Inv X pins σ H s)(h:CE X.stack X.prog X.w H s Q u s'):EP X pins σ Q u s':=by
 obtain⟨v,H',os,bare,un,hok,r,q⟩:=h
 obtain⟨hh,g,d,t,os'⟩:=s'
 obtain rfl:os'=s.os:=os
 exact⟨v,H',I.call (h':=hh) (g':=g) (d':=d) (t':=t) (ch:=[]) un hok bare (fun b z=>absurd z (by simp)),r,q⟩
end
def Kv (sp:Sp)(JZ:List V)(E:XK)(t:TA):TE:=fun σ H Q=>t σ H fun vs H1=>sp (vs++JZ) H1 Q E
def zez (C:Addr)(m:Str)(sp:Sp)(JZ:List V)(E:XK)(ta:TE)(t:TA):TE:=fun σ H Q=>ta σ H fun x H1=>∃a dx fs,x=.ref a/\H1 a=some (.ins C dx fs)/\fs.lookup m=none /\
 t σ H1 fun vs H2=>sp (x::(vs++JZ)) H2 Q E
def zk2 (C:Addr)(sp:Sp)(JZ:List V)(E:XK)(t:TA):TE:=fun σ H Q=>t σ H fun vs H1=>∀x dx,H1 x=none->H1 dx=none->dx≠x ->
 sp (.ref x::(vs++JZ)) (upd (upd H1 dx (.own x)) x (.ins C dx [])) (fun v H2=>v=.non/\Q (.ref x) H2) E
def Binds (K:Frag)(fd:FuncData)(ps:List Str)(ds:List Value):Prop :=
 ∀(s:Shared) (us:List Value),K.In s.heap->(us++ds).length=ps.length->BindsTo s fd ⟨us,[]⟩ (ps.zip (us++ds))
theorem Binds.all {K:Frag}{fd:FuncData}{ps:List Str}(h:∀us:List Value,us.length=ps.length->bindArgs fd ⟨us,[]⟩=pure (ps.zip us)):Binds K fd ps []:=fun s us _ hl=>by
 rw[List.append_nil] at hl ⊢
 exact .of_eq (h us hl)
def Passes (CX:CXT)(X:Cx)(E:XK):Prop:=∀(pins:List (Addr×Obj)) (σ:St) (H:Hp) (s:Shared) (e:Value) (s':Shared),Inv X pins σ H s->CX X.stack H s E e s'->X.xe e s'
section
variable {X:Cx}{CX:CXT}{k:Nat}{f C:Addr}{fd:FuncData}{ps:List Str}{sp:Sp}{JZ:List V}{ds:List Value}{E:XK}{x m:Str}{p pos apos:Pos}{e o:Expr}{es:List Expr}{ta:TE}{t:TA}
theorem zdI {pins:List (Addr×Obj)}{σ:St}{H:Hp}{s:Shared}{Q:VK}{us:List Value}{vs:List V}(F:zB X.prog X.w X.K X.mg X.base CX k f fd ps sp)(hr:Zb k X.A)(hb:Binds X.K fd ps ds)(hd:Vals JZ ds)(hx:Passes CX X E)
  (I:Inv X pins σ H s)(r:Vals vs us)(h:sp (vs++JZ) H Q E):wpAny (model X.prog X.w) X.A (call (.ref f) us) (EP X pins σ Q) X.xe s:=by
 have r2:Vals (vs++JZ) (us++ds):=r.append hd
 have hl:(us++ds).length=ps.length:=by rw[<-r2.length];exact F.len _ _ _ _ h
 refine wpAny_call (codeAny_mono (F.run X.A X.stack s H ⟨us,[]⟩ (us++ds) (vs++JZ) Q E hr I.env0 (hb s us I.Pn hl) r2 h) fun r s' hq=>?_)
 cases r with
 | error e=>exact hx pins σ H s e s' I hq
 | ok fl =>
  cases fl with
  | ret u=>exact I.after hq
  | next=>exact False.elim hq
  | brk=>exact False.elim hq
  | cont=>exact False.elim hq
theorem zhD (F:zB X.prog X.w X.K X.mg X.base CX k f fd ps sp)(hr:Zb k X.A)(hg:Gl X x)(hm:X.mg x=some (.ref f))(hk:PySem.W.keepIn X.K (.ref f)=true)(hb:Binds X.K fd ps ds)(hd:Vals JZ ds)(hx:Passes CX X E)
  (ha:PA X (e::es) t)(hdb:(x==("__debug__" : Str))=false:=by decide)(he:starEach (e::es) X.env=(false,eval e X.env)::starEach es X.env:=by rfl)(hpl:(backTo pos (starEach es X.env)).any (·.1)=false:=by rfl) :
  PE X (.Call (.Name x p) (e::es) [] pos) (Kv sp JZ E t):=by
 intro pins s σ H Q I h
 refine wpAny_Call_Name_kw (za6 I hg hm ?_ hdb)
 refine PySem.W.callWith_K (h₀:=X.base) I.ok.mod.kin hk (wC (ha pos pins s σ H _ I h) fun us s1 ⟨vs,H1,I1,r,q⟩=>⟨I1.Pn,?_⟩) he hpl
 exact zdI F hr hb hd hx I1 r q
theorem zhE {pl:Sem Bool}(he:PE X o ta)(c:Cls X.K C)(hm:Meth X.K C m f)(F:zB X.prog X.w X.K X.mg X.base CX k f fd ps sp)(hr:Zb k X.A)(hb:Binds X.K fd ps ds)(hd:Vals JZ ds)(hx:Passes CX X E)(ha:PA X (e::es) t)
  (hst:starEach (e::es) X.env=(false,eval e X.env)::starEach es X.env:=by rfl)(hpl:(backTo pos (starEach es X.env)).any (·.1)=false:=by rfl)
  (ht:eval (.Call (.Attribute o m apos) (e::es) [] pos) X.env=(do
   let ov <-eval o X.env
   standAt apos.atName
   let (f,first) <-holding [ov] (getMethod ov m pl)
   callWith pos f first (backTo pos (starEach (e::es) X.env)) (backToKw pos (keywordEach [] X.env))):=by rfl) :
  PE X (.Call (.Attribute o m apos) (e::es) [] pos) (zez C m sp JZ E ta t):=by
 intro pins s σ H Q I h
 refine PySem.W.methodCall_KW (pl:=pl) (wC (he pins s σ H _ I h) fun u s1 ⟨x,H1,I1,rx,a,dx,fs,ex,ea,l,q⟩=>?_) ht
 subst ex
 obtain rfl:u=Value.ref a:=rx
 refine S9 I1 ea c hm l ?_
 refine PySem.W.callWith_K (first:=[.ref a]) (h₀:=X.base) I.ok.mod.kin hm.kp (wC (ha pos pins s1 σ H1 _ I1 q) fun us s2 ⟨vs,H2,I2,r,q2⟩=>⟨I2.Pn,?_⟩) hst hpl
 exact zdI (us:=.ref a::us) (vs:=.ref a::vs) F hr hb hd hx I2 (.cons rfl r) q2
theorem zf9 {pl:Sem Bool}(he:PE X o ta)(c:Cls X.K C)(hm:Meth X.K C m f)(F:zB X.prog X.w X.K X.mg X.base CX k f fd ps sp)(hr:Zb k X.A)(hb:Binds X.K fd ps ds)(hd:Vals JZ ds)(hx:Passes CX X E)
  (ht:eval (.Call (.Attribute o m apos) [] [] pos) X.env=(do
   let ov <-eval o X.env
   standAt apos.atName
   let (f,first) <-holding [ov] (getMethod ov m pl)
   callWith pos f first (backTo pos (starEach [] X.env)) (backToKw pos (keywordEach [] X.env))):=by rfl) :
  PE X (.Call (.Attribute o m apos) [] [] pos) (zez C m sp JZ E ta zcf):=by
 intro pins s σ H Q I h
 refine PySem.W.methodCall_KW (pl:=pl) (wC (he pins s σ H _ I h) fun u s1 ⟨x,H1,I1,rx,a,dx,fs,ex,ea,l,q⟩=>?_) ht
 subst ex
 obtain rfl:u=Value.ref a:=rx
 refine S9 I1 ea c hm l ?_
 exact PySem.W.callWith_K0 (first:=[.ref a]) I1.Pn hm.kp (zdI (us:=[.ref a]) (vs:=[.ref a]) F hr hb hd hx I1 (.cons rfl .nil) q)
structure Mk (K:Frag)(C f:Addr):Prop where
 makes:PySem.W.makesIn K C=true
 init:findIn K (.ref C) "__init__"=some (some (.ref f))
 fn:PySem.W.isFn K (.ref f)=true
 kp:PySem.W.keepIn K (.ref C)=true
theorem zga {pins:List (Addr×Obj)}{σ:St}{H:Hp}{s:Shared}{Q:VK}{us:List Value}{vs:List V}(M:Mk X.K C f)(F:zB X.prog X.w X.K X.mg X.base CX k f fd ps sp)(hr:Zb (k+1) X.A)(hb:Binds X.K fd ps ds)(hd:Vals JZ ds)
  (hx:Passes CX X E)(I:Inv X pins σ H s)(r:Vals vs us)
  (h:∀x dx,H x=none->H dx=none->dx≠x->sp (.ref x::(vs++JZ)) (upd (upd H dx (.own x)) x (.ins C dx [])) (fun v H2=>v=.non/\Q (.ref x) H2) E) :
  wpAny (model X.prog X.w) X.A (call (.ref C) us) (EP X pins σ Q) X.xe s:=by
 have hq:=h (s.heap.objs.size+1) s.heap.objs.size (I.hok.fresh (Nat.le_succ _)) (I.hok.fresh (zra _)) (zq9 (Nat.lt_succ_self _))
 have I2:=Inv.made (C:=C) I
 have r2:Vals (V.ref (s.heap.objs.size+1)::(vs++JZ)) (Value.ref (s.heap.objs.size+1)::(us++ds)):=.cons rfl (r.append hd)
 have hl:(Value.ref (s.heap.objs.size+1)::us++ds).length=ps.length:=by
  have e:=r2.length
  rw[F.len _ _ _ _ hq] at e
  exact e.symm
 refine wpAny_call (zf8 (f:=f) I.Pn M.makes M.init (beq_iff_eq.mp M.fn) (codeAny_mono (F.run _ X.stack _ _ ⟨Value.ref (s.heap.objs.size+1)::us,[]⟩ (Value.ref (s.heap.objs.size+1)::(us++ds)) _ _ E (hr.make C us [])
  (I2.env0.make C us []) (hb _ (Value.ref (s.heap.objs.size+1)::us) I2.Pn hl) r2 hq) fun r s' hq'=>?_))
 cases r with
 | error e=>exact hx pins σ _ _ e s' I2 hq'
 | ok fl =>
  cases fl with
  | ret u =>
   obtain⟨v,H',I3,rv,ev,q3⟩:=I2.after hq'
   subst ev
   exact⟨rv,⟨V.ref (s.heap.objs.size+1),H',I3,rfl,q3⟩⟩
  | next=>exact False.elim hq'
  | brk=>exact False.elim hq'
  | cont=>exact False.elim hq'
theorem zhF (M:Mk X.K C f)(F:zB X.prog X.w X.K X.mg X.base CX k f fd ps sp)(hr:Zb (k+1) X.A)(hg:Gl X x)(hm:X.mg x=some (.ref C))(hb:Binds X.K fd ps ds)(hd:Vals JZ ds)(hx:Passes CX X E)
  (ha:PA X (e::es) t)(hdb:(x==("__debug__" : Str))=false:=by decide)(he:starEach (e::es) X.env=(false,eval e X.env)::starEach es X.env:=by rfl)(hpl:(backTo pos (starEach es X.env)).any (·.1)=false:=by rfl) :
  PE X (.Call (.Name x p) (e::es) [] pos) (zk2 C sp JZ E t):=by
 intro pins s σ H Q I h
 refine wpAny_Call_Name_kw (za6 I hg hm ?_ hdb)
 refine PySem.W.callWith_K (h₀:=X.base) I.ok.mod.kin M.kp (wC (ha pos pins s σ H _ I h) fun us s1 ⟨vs,H1,I1,r,q⟩=>⟨I1.Pn,?_⟩) he hpl
 exact zga M F hr hb hd hx I1 r q
end
structure zF (N P:List Str)(sc:Scope):Prop where
 kind:sc.kind=.function
 co:sc.isCoroutine=false
 gen:sc.isGenerator=false
 nd:N.Nodup
 pre:N.take P.length=P
 par:∀x∈P,sc.names.lookup x=some .local\/sc.names.lookup x=some .cell
 zjH:∀y∈sc.names,y.2≠.free
theorem zav {kindOf:Str->Option NameKind}{x:Str}:∀{binds:List (Str×Value)} {m:Str->Option Value},(∀v,(x,v)∉binds)->bindL kindOf binds m x=m x
 | [],_,_=>rfl
 | (n,v)::r,m,h=>by
  unfold bindL
  rw[zav fun w hw=>h w (zq5 _ hw)]
  split
  ·have:x≠n:=by rintro rfl;exact h v zre
   simp[this]
  ·rfl
theorem zaw {kindOf:Str->Option NameKind}{x:Str}:∀{binds:List (Str×Value)} {m:Str->Option Value},(∀v,(x,v)∉binds)->bindC kindOf binds m x=m x
 | [],_,_=>rfl
 | (n,v)::r,m,h=>by
  unfold bindC
  rw[zaw fun w hw=>h w (zq5 _ hw)]
  split
  ·rfl
  ·have:x≠n:=by rintro rfl;exact h v zre
   simp[this]
theorem zax {kindOf:Str->Option NameKind}{x:Str}{v:Value}:∀{P:List Str} {vs:List Value} {i:Nat} {m:Str->Option Value},P.Nodup->P[i]?=some x->vs[i]?=some v->kindOf x=some .local ->
  bindL kindOf (P.zip vs) m x=some v
 | [],_,_,_,_,h,_,_=>by simp at h
 | _::_,[],_,_,_,_,h,_=>by simp at h
 | p::P,w::vs,0,m,nd,h1,h2,hk=>by
  simp at h1 h2;subst h1;subst h2
  show bindL kindOf ((p,w)::P.zip vs) m p=_
  unfold bindL
  rw[zav fun v hv=>(List.nodup_cons.mp nd).1 (List.of_mem_zip hv).1,if_pos hk]
  simp
 | p::P,w::vs,i+1,m,nd,h1,h2,hk=>by
  show bindL kindOf ((p,w)::P.zip vs) m x=_
  unfold bindL
  exact zax (i:=i) (List.nodup_cons.mp nd).2 (by simpa using h1) (by simpa using h2) hk
theorem zay {kindOf:Str->Option NameKind}{x:Str}{v:Value}:∀{P:List Str} {vs:List Value} {i:Nat} {m:Str->Option Value},P.Nodup->P[i]?=some x->vs[i]?=some v->kindOf x≠some .local ->
  bindC kindOf (P.zip vs) m x=some v
 | [],_,_,_,_,h,_,_=>by simp at h
 | _::_,[],_,_,_,_,h,_=>by simp at h
 | p::P,w::vs,0,m,nd,h1,h2,hk=>by
  simp at h1 h2;subst h1;subst h2
  show bindC kindOf ((p,w)::P.zip vs) m p=_
  unfold bindC
  rw[zaw fun v hv=>(List.nodup_cons.mp nd).1 (List.of_mem_zip hv).1,if_neg hk]
  simp
 | p::P,w::vs,i+1,m,nd,h1,h2,hk=>by
  show bindC kindOf ((p,w)::P.zip vs) m x=_
  unfold bindC
  exact zay (i:=i) (List.nodup_cons.mp nd).2 (by simpa using h1) (by simpa using h2) hk
def start (N:List Str)(vs:List V):St:=vs.map some++List.replicate (N.length-vs.length) none
def zfj (CX:CXT)(P:Program)(w:World)(K:Frag)(mg:Str->Option Value)(base:Heap)(N:List Str)(qual:Str)(scope:Scope)(f:Addr)(cd:Value)(A:Around)(outer:List Env)(s:Shared)(H:Hp)(E:XK):Cx where
 prog:=P
 w:=w
 K:=K
 mg:=mg
 base:=base
 A:=A.deeper (envOfC qual scope s.heap.objs.size f cd)
 N:=N
 s₀:=s
 H₀:=H
 env:=envOfC qual scope s.heap.objs.size f cd
 outer:=outer
 stack:=envOfC qual scope s.heap.objs.size f cd::outer
 ex:=[]
 calm:=true
 fn:=fun _=>true
 pn:=[]
 xe:=fun e s'=>wpAny (model P w) (A.deeper (envOfC qual scope s.heap.objs.size f cd)) (leaving (envOfC qual scope s.heap.objs.size f cd) e) (fun _ s''=>CX outer H s E e s'') (fun e' s''=>CX outer H s E e' s'') s'
theorem zcg {sc:Scope}{n:Nat}{x:Str}(h:sc.names.lookup x=some .cell):∃c,(cellsFrom n sc.names []).lookup x=some c:=by
 have q:=PySem.W.cellsFrom_some sc.names n [] (.inl h)
 exact Option.isSome_iff_exists.mp q
theorem zfk {CX:CXT}{P:Program}{w:World}{K:Frag}{mg:Str->Option Value}{base:Heap}{N ps:List Str}{qual:Str}{scope:Scope}{f:Addr}{cd:Value}{A:Around}{outer:List Env}{s s1:Shared}{H:Hp}{E:XK}{us:List Value}{vs:List V}
  (S:zF N ps scope)(hd:A.handled=none)(e0:zdH P w K mg base A outer s H)(hl:vs.length=ps.length)(r:Vals vs us)
  (x:InCallC s s.heap.objs.size (bindL (envOfC qual scope s.heap.objs.size f cd).kindOf (ps.zip us) fun _=>none) (cellsFrom (s.heap.objs.size+1) scope.names []) (bindC (envOfC qual scope s.heap.objs.size f cd).kindOf (ps.zip us) fun _=>none) s1) :
  Inv (zfj CX P w K mg base N qual scope f cd A outer s H E) [] (start N vs) H s1:=by
 have hpl:ps.length<=N.length:=by have:=congrArg List.length S.pre;rw[zri] at this;omega
 obtain⟨h1,tk,rfl,hk⟩:=x.done
 have noA:∀b:Addr,b∉(zfj CX P w K mg base N qual scope f cd A outer s H E).ex:=fun b z=>absurd (show b∈([]:List Addr) from z) (by simp)
 refine⟨⟨e0.mod,S.kind,rfl,rfl,zra _,fun y z c h1 h2=>?_,fun y hy=>?_,fun y c _ h=>?_,fun _=>hd,Around.frames_deeper e0.frames,.inr ⟨rfl,rfl⟩,fun b z=>absurd z (noA b),e0.bs,e0.bsz,fun b _ _=>noA b,fun b z=>absurd z (noA b),e0.Pk,e0.frf⟩,
  rfl,e0.bare,Un.kept hk,⟨_,x.toInCall.ns,fun i y v h1 h2 h3=>?_⟩,fun y c h=>⟨_,x.cell y c h⟩,e0.hok.fresh (zra _),fun y c h=>?_,fun p hp=>absurd (show p∈([]:List (Addr×Obj)) from hp) (by simp),e0.hok.kept hk,?_⟩
 ·exact name_of_addr x.apart (PySem.mem_of_lookup h1) (PySem.mem_of_lookup h2)
 ·have hy:scope.names.lookup y=some .cell\/scope.names.lookup y=some .free:=hy
  rcases hy with hy | hy
  ·exact zcg hy
  ·exact absurd rfl (S.zjH _ (PySem.mem_of_lookup hy))
 ·exact zrd (x.above y c (PySem.mem_of_lookup h))
 ·have hi:i<vs.length:=by
   unfold start at h2
   by_cases hi:i<vs.length
   ·exact hi
   ·rw[List.getElem?_append_right (by simpa using hi)] at h2
    rw[List.getElem?_replicate] at h2
    split at h2<;>cases h2
  have ha:vs[i]?=some v:=by
   unfold start at h2
   rw[zrr (by simpa using hi),zqW] at h2
   cases e:vs[i]? with
   | none=>rw[e] at h2;cases h2
   | some a=>rw[e] at h2;cases h2;rfl
  obtain⟨u,hu,rv⟩:=r.get ha
  have hp:ps[i]?=some y:=by
   rw[<-S.pre,List.getElem?_take_of_lt (by omega)];exact h1
  have ndP:ps.Nodup:=by rw[<-S.pre];exact S.nd.sublist (List.take_sublist _ _)
  refine⟨u,rv,?_⟩
  rcases S.par y (zqZ hp) with k | k
  ·exact .inl ⟨k,zax ndP hp hu k⟩
  ·obtain⟨c,e⟩:=zcg (n:=s.heap.objs.size+1) k
   refine .inr ⟨.inl k,c,e,?_⟩
   have q:=x.cell y c e
   rw[zay ndP hp hu (by show scope.names.lookup y≠_;rw[k];decide)] at q
   exact q
 ·exact e0.hok.fresh (zrd (x.above y c (PySem.mem_of_lookup h)))
 ·unfold start
  show _=N.length
  rw[zq2,zqU,List.length_replicate]
  omega
theorem zk4 {CX:CXT}{P:Program}{w:World}{K:Frag}{mg:Str->Option Value}{base:Heap}{k:Nat}{f:Addr}{name qual:Str}{params:Arguments}{body:List Stmt}{scope:Scope}{dV kV doc pm cdv ct oc:Value}{an od:Option Addr}
  {osl:Array (Option Value)}{N ps:List Str}{sp:Sp}(lk:K.lookup f=some ⟨oc,od,.func (PySem.W.fnOf name qual params body scope dV kV doc pm an cdv ct),osl⟩)(hcd:PySem.W.codeIn K cdv qual=true)(S:zF N ps scope)
  (len:∀vs H Q E,sp vs H Q E->vs.length=ps.length)
  (hbody:∀(A:Around) (outer:List Env) (s:Shared) (H:Hp) (vs:List V) (Q:VK) (E:XK),Zb k (A.deeper (envOfC qual scope s.heap.objs.size f cdv))->sp vs H Q E ->
   ∃t,PSs (zfj CX P w K mg base N qual scope f cdv A outer s H E) body t/\t { nx:=fun _ H'=>Q .non H',rt:=Q } (start N vs) H) :
  zB P w K mg base CX (k+1) f (PySem.W.fnOf name qual params body scope dV kV doc pm an cdv ct) ps sp:=by
 refine⟨len,fun A outer s H args us vs Q E hr e0 hb r hsp=>?_⟩
 have hl:=len _ _ _ _ hsp
 have KX:K.In s.heap:=e0.mod.kin.keeps fun b o e=>(e0.bs b o e).1
 have lim:s.heap.NoLimit:=e0.mod.nolimit.keeps fun b o e=>(e0.bs b o e).1
 have hkind:∀y∈ps.zip us,scope.names.lookup y.1=some .local\/(scope.names.lookup y.1=some .cell/\((cellsFrom (s.heap.objs.size+1) scope.names []).lookup y.1).isSome=true):=fun⟨n,v⟩ hy=>by
  rcases S.par n (List.of_mem_zip hy).1 with q | q
  ·exact .inl q
  ·exact .inr ⟨q,PySem.W.cellsFrom_some _ _ _ (.inl q)⟩
 refine codeAny_call_function hr.depth (KX _ _ lk) rfl S.co S.gen rfl (PySem.W.codeRec_of KX hcd) (hb _ _ _ _ ?_)
 refine wpAny_newFunctionEnv_cells S.kind hkind fun env he s1 x=>?_
 subst he
 refine⟨lim.keeps x.toInCall.keep,codeAny_func ?_⟩
 obtain⟨t,ht,hq⟩:=hbody A outer s H vs Q E (hr.deeper _) hsp
 have I:Inv (zfj CX P w K mg base N qual scope f cdv A outer s H E) [] (start N vs) H s1:=zfk S hr.hd e0 hl r x
 refine wpAny_mono (ht [] s1 (start N vs) H _ I hq) (fun fl s' hs=>?_) fun e s' hs=>hs
 have fin:∀{σ':St} {H':Hp} {v:V} {u:Value},Inv (zfj CX P w K mg base N qual scope f cdv A outer s H E) [] σ' H' s'->RelV v u->Q v H'->CE outer P w H s Q u s' :=
  fun {σ' H' v u} J rv q=>⟨v,H',J.os,J.bare,J.base,J.hok,rv,q⟩
 cases fl with
 | ret u =>
  obtain⟨v,σ',H',J,rv,q⟩:=hs
  exact fin J rv q
 | next =>
  obtain⟨σ',H',J,q⟩:=hs
  exact fin (v:=V.non) (u:=Value.none) J rfl q
 | brk =>
  obtain⟨_,_,_,q⟩:=hs
  exact False.elim q
 | cont =>
  obtain⟨_,_,_,q⟩:=hs
  exact False.elim q
section
variable {X:Cx}{x:Str}{p pos:Pos}{e:Expr}{es:List Expr}{t:TA}{id T:String}{r:List V->Hp->VK->Prop}
def tCB (r:List V->Hp->VK->Prop)(t:TA):TE:=fun σ H Q=>t σ H fun vs H1=>r vs H1 Q
theorem zN (hc:Xl X (.builtin id) r)(hg:Gl X x)(hm:X.mg x=none)(hv:bootBuiltins x=some (.builtin id))(ha:PA X (e::es) t)(hn:x ≠ "__name__" := by decide)(hdb:(x==("__debug__" : Str))=false:=by decide)
  (he:starEach (e::es) X.env=(false,eval e X.env)::starEach es X.env:=by rfl)(hpl:(backTo pos (starEach es X.env)).any (·.1)=false:=by rfl):PE X (.Call (.Name x p) (e::es) [] pos) (tCB r t):=by
 intro pins s σ H Q I h
 refine wpAny_Call_Name_kw (Xk I hg hm hv ?_ hn hdb)
 exact PyProof.Rows.callWith_builtin1 (wC (ha pos pins s σ H _ I h) fun us s1 ⟨vs,H1,I1,r1,q1⟩=>hc pins s1 σ H1 vs us Q I1 r1 q1) he hpl
theorem ZX (hc:Xl X (.type T) r)(hg:Gl X x)(hm:X.mg x=none)(hv:bootBuiltins x=some (.type T))(ha:PA X (e::es) t)(hn:x ≠ "__name__" := by decide)(hdb:(x==("__debug__" : Str))=false:=by decide)
  (he:starEach (e::es) X.env=(false,eval e X.env)::starEach es X.env:=by rfl)(hpl:(backTo pos (starEach es X.env)).any (·.1)=false:=by rfl):PE X (.Call (.Name x p) (e::es) [] pos) (tCB r t):=by
 intro pins s σ H Q I h
 refine wpAny_Call_Name_kw (Xk I hg hm hv ?_ hn hdb)
 exact PyProof.Rows.callWith_type1 (wC (ha pos pins s σ H _ I h) fun us s1 ⟨vs,H1,I1,r1,q1⟩=>hc pins s1 σ H1 vs us Q I1 r1 q1) he hpl
end
end L2
namespace HT
open PySem PyProof.Rows
section
variable {prog:Program}{w:World}{A:Around}{E:Value->Shared->Prop}{s:Shared}
def Zc (n d:Nat):Option Int->Nat
 | none=>d
 | some v=>if v<0 then (v+(n:Int)).toNat else min v.toNat n
theorem zgb (n d:Nat):Zc n d none=d:=rfl
theorem Lx (n d k:Nat):Zc n d (some (k:Int))=min k n:=by
 show(if (k:Int)<0 then ((k:Int)+(n:Int)).toNat else min (k:Int).toNat n)=min k n
 rw[if_neg (by omega),Int.toNat_natCast]
theorem zjI (n d:Nat)(hd:d<=n)(o:Option Int):Zc n d o<=n:=by
 cases o with
 | none=>exact hd
 | some v =>
  show(if v<0 then (v+(n:Int)).toNat else min v.toNat n)<=n
  by_cases hv:v<0
  ·rw[if_pos hv];omega
  ·rw[if_neg hv];exact Nat.min_le_right _ _
theorem zeA (v:Int)(n d:Nat):(if v<0 then max (v+(n:Int)) 0 else min v (n:Int))=((Zc n d (some v):Nat):Int):=by
 show(if v<0 then max (v+(n:Int)) 0 else min v (n:Int))=(((if v<0 then (v+(n:Int)).toNat else min v.toNat n):Nat):Int)
 by_cases hv:v<0
 ·simp only[if_pos hv];omega
 ·simp only[if_neg hv];omega
theorem zdJ (lo hi:Option Int)(n:Nat):Builtin.Slice.sliceAdjust lo hi 1 (n:Int)=(((Zc n 0 lo:Nat):Int),((Zc n n hi:Nat):Int)):=by
 have h1:¬((1:Int)<0):=by omega
 unfold Builtin.Slice.sliceAdjust
 simp only[h1,if_false]
 refine Prod.ext ?_ ?_
 ·cases lo with
  | none=>rfl
  | some v=>exact zeA v n 0
 ·cases hi with
  | none=>rfl
  | some v=>exact zeA v n n
theorem zdK (i j:Nat):Builtin.Slice.slicePlaces (i:Int) (j:Int) 1=j-i:=by
 unfold Builtin.Slice.slicePlaces
 have h1:(1:Int) > 0:=by omega
 simp only[h1,if_true,Int.ediv_one]
 split<;>omega
theorem Kw {v:Value}{o:Option Int}{Q:Option Int->Shared->Prop}(p:IsPart v o)(h:Q o s):wpAny (model prog w) A (Builtin.Slice.slicePartIndex v) Q E s:=by
 cases p with
 | none=>exact slicePart_none h
 | int i t=>exact slicePart_int h
theorem Px {sl:Addr}{vl vu:Value}{lo hi:Option Int}{n:Nat}{Q:Int×Int×Nat->Shared->Prop}(hs:s.heap.IsSliceOf sl vl vu .none)(pl:IsPart vl lo)(pu:IsPart vu hi)
  (h:Q (((Zc n 0 lo:Nat):Int),1,Zc n n hi-Zc n 0 lo) s):wpAny (model prog w) A (Builtin.Slice.sliceApplied (.ref sl) (pure (n:Int))) Q E s:=by
 obtain⟨os,hos,hcs,hds⟩:=id hs
 unfold Builtin.Slice.sliceApplied Builtin.Slice.sliceFields
 refine wpAny_bind (wpAny_bind (wpAny_field hos hds (x:=vl) rfl (wpAny_bind (wpAny_field hos hds (x:=vu) rfl (wpAny_bind (wpAny_field hos hds (x:=.none) rfl (wpAny_pure ?_)))))))
 refine wpAny_bind (slicePart_none ?_)
 show wpAny _ _ (if ((1:Int)==0)=true then _ else _) _ _ s
 rw[if_neg (by decide)]
 refine wpAny_bind (Kw pl (wpAny_bind (Kw pu (wpAny_bind (wpAny_pure ?_)))))
 show wpAny _ _ (match Builtin.Slice.sliceAdjust lo hi 1 (n:Int) with | (lo,hi)=>pure (lo,(1:Int),Builtin.Slice.slicePlaces lo hi 1)) _ _ s
 rw[zdJ lo hi n]
 show wpAny _ _ (pure (((Zc n 0 lo:Nat):Int),(1:Int),Builtin.Slice.slicePlaces ((Zc n 0 lo:Nat):Int) ((Zc n n hi:Nat):Int) 1)) _ _ s
 rw[zdK]
 exact wpAny_pure h
theorem zgc (xs:Array Value)(i k:Nat):((List.range k).filterMap fun(m:Nat)=>xs[((i:Int)+(m:Int)*1).toNat]?).toArray=((xs.toList.drop i).take k).toArray:=by
 have e:(fun(m:Nat)=>xs[((i:Int)+(m:Int)*1).toNat]?)=fun m=>xs[i+m]?:=by
  funext m
  have:((i:Int)+(m:Int)*1).toNat=i+m:=by omega
  rw[this]
 rw[e]
 have:=pick_run xs i k
 rw[List.filterMap_map] at this
 have e2:((fun x=>xs[x]?) ∘ fun x=>i+x)=fun m=>xs[i+m]?:=rfl
 rw[e2] at this
 rw[this]
theorem R6 {t sl:Addr}{items:Array Value}{vl vu:Value}{lo hi:Option Int}{Q:Value->Shared->Prop}(ht:IsTup s.heap t items)(hs:s.heap.IsSliceOf sl vl vu .none)(pl:IsPart vl lo)(pu:IsPart vu hi)
  (hw:¬(Zc items.size 0 lo=0/\Zc items.size items.size hi=items.size))
  (h:Q (.ref s.heap.objs.size) { s with heap:=s.heap.push { cls:=.type "tuple", data:=.seq ((items.toList.drop (Zc items.size 0 lo)).take (Zc items.size items.size hi-Zc items.size 0 lo)).toArray } })
  (hsz:items.size<=sizeLine):wpAny (model prog w) A (getItem (.ref t) (.ref sl)) Q E s:=by
 have zeB:sizeOk (.seq ((items.toList.drop (Zc items.size 0 lo)).take (Zc items.size items.size hi-Zc items.size 0 lo)).toArray):=by
  show((items.toList.drop (Zc items.size 0 lo)).take (Zc items.size items.size hi-Zc items.size 0 lo)).toArray.size<=sizeLine
  rw[zq4,zri,List.length_drop,Array.length_toList]
  omega
 have hj:Zc items.size items.size hi<=items.size:=zjI _ _ (zra _) hi
 obtain⟨os,hos,hcs,hds⟩:=id hs
 have hTs:s.TypeIs (.ref sl) "slice" := ⟨os,hos,hcs⟩
 unfold getItem
 try with_reducible refine wpAny_holding ?_
 first | refine wpAny_bind (wpAny_pure ?_) | skip
 refine wpAny_bind (wpAny_sequenceKey ht.typeIs (by decide) ?_)
 refine wpAny_bind (wpAny_callSpecial?_slot (name:=Str.ofString "__getitem__") ht.typeIs PyProof.Rows.slot_tuple_getitem
  (wpAny_call_entry PyProof.Rows.slot_tuple_getitem ht.typeIs entry_tuple_getitem ?_ (args_tuple_getitem _ _)))
 show wpAny _ _ (Builtin.Tuple.tupleItemsOf (.ref t)>>=_) _ _ s
 refine wpAny_bind (tupleItemsOf_ ht ?_)
 refine wpAny_bind (wpAny_typeOf hTs ?_)
 rw[if_pos (by decide)]
 refine wpAny_bind (Px hs pl pu ?_)
 have hno:¬((((Zc items.size 0 lo:Nat):Int)==0&&(1:Int)==1&&(Zc items.size items.size hi-Zc items.size 0 lo)==items.size)=true):=by
  intro q
  rw[zrm,zrm] at q
  have q1:((Zc items.size 0 lo:Nat):Int)=0:=eq_of_beq q.1.1
  have q2:Zc items.size items.size hi-Zc items.size 0 lo=items.size:=eq_of_beq q.2
  exact hw ⟨by omega,by omega⟩
 show wpAny _ _ (if (((Zc items.size 0 lo:Nat):Int)==0&&(1:Int)==1&&(Zc items.size items.size hi-Zc items.size 0 lo)==items.size)=true then _ else _) _ _ s
 rw[if_neg hno,zgc]
 first
  | exact wpAny_bind (m:=Builtin.Tuple.tupleExact _) (wpAny_newObj_type (wpAny_pure ⟨_,rfl,wpAny_pure h⟩) zeB)
  | exact wpAny_bind (m:=Builtin.Tuple.tupleExact _) (wpAny_newObj_type (wpAny_bind (wpAny_pure (wpAny_pure ⟨_,rfl,wpAny_pure h⟩))) zeB)
  | exact wpAny_bind (wpAny_bind (m:=Builtin.Tuple.tupleExact _) (wpAny_newObj_type (wpAny_pure (wpAny_pure ⟨_,rfl,wpAny_pure h⟩)) zeB))
  | exact wpAny_bind (wpAny_bind (m:=Builtin.Tuple.tupleExact _) (wpAny_newObj_type (wpAny_pure ⟨_,rfl,wpAny_pure h⟩) zeB))
end
end HT
namespace L2
open PySem PySem.Spec PyProof.Rows
abbrev TO:=St->Hp->(Option Int->Hp->Prop)->Prop
def PO (X:Cx)(e:Option Expr)(t:TO):Prop :=
 ∀(pins:List (Addr×Obj)) (s:Shared) (σ:St) (H:Hp) (Q:Option Int->Hp->Prop),Inv X pins σ H s->t σ H Q ->
  wpAny (model X.prog X.w) X.A (evalPart e X.env) (fun u s'=>∃o H',Inv X pins σ H' s'/\IsPart u o/\Q o H') X.xe s
def zhG:TO:=fun _ H Q=>Q none H
def zk5 (t:TE):TO:=fun σ H Q=>t σ H fun x H1=>∃i,x=.int i/\Q (some i) H1
theorem intsAre_of {ns:List Int}:∀{us:List Value},Vals (ns.map V.int) us->IntsAre us ns:=by
 induction ns with
 | nil=>intro us r;rw[List.map_nil] at r;cases r;exact .nil
 | cons n ns ih =>
  intro us r
  rw[zrj] at r
  cases r with
  | cons r1 r2 =>
   obtain⟨t,e⟩:=r1
   subst e
   exact .cons n t (ih r2)
section
variable {X:Cx}{e:Expr}{te:TE}{lo hi:Option Expr}{tl th:TO}{pos p2:Pos}
theorem zhH:PO X none zhG:=by
 intro pins s σ H Q I h
 rw[evalPart_none]
 exact wpAny_pure ⟨none,H,I,.none,h⟩
theorem zba (h:PE X e te):PO X (some e) (zk5 te):=by
 intro pins s σ H Q I hw
 rw[evalPart_some]
 refine wC (h pins s σ H _ I hw) fun u s1 ⟨x,H1,I1,r1,q1⟩=>?_
 obtain⟨i,rfl,q⟩:=q1
 obtain⟨t,rfl⟩:=r1
 exact⟨some i,H1,I1,.int i t,q⟩
def SlR (X:Cx)(r:V->Option Int->Option Int->Hp->VK->Prop):Prop :=
 ∀(pins:List (Addr×Obj)) (s:Shared) (σ:St) (H:Hp) (x:V) (v vl vu:Value) (lo hi:Option Int) (sl:Addr) (Q:VK),Inv X pins σ H s->RelV x v->s.heap.IsSliceOf sl vl vu .none->IsPart vl lo->IsPart vu hi->r x lo hi H Q ->
  ∃T id,typeLookup (.type T) "__getitem__"=pure (some (.builtin id))/\s.TypeIs v T/\wpAny (model X.prog X.w) X.A (getItem v (.ref sl)) (EP X pins σ Q) X.xe s
def tSl (r:V->Option Int->Option Int->Hp->VK->Prop)(te:TE)(tl th:TO):TE:=fun σ H Q=>te σ H fun x H1=>tl σ H1 fun l H2=>th σ H2 fun u H3=>r x l u H3 Q
theorem zch {r:V->Option Int->Option Int->Hp->VK->Prop}(hr:SlR X r)(he:PE X e te)(hl:PO X lo tl)(hu:PO X hi th):PE X (.Subscript e (.Slice lo hi none p2) pos) (tSl r te tl th):=by
 intro pins s σ H Q I h
 refine Subscript_ (wC (he pins s σ H _ I h) fun v s1 ⟨x,H1,I1,r1,q1⟩=>?_)
 refine wpAny_Slice (wC (hl pins s1 σ H1 _ I1 q1) fun vl s2 ⟨l,H2,I2,pl,q2⟩=>wC (hu pins s2 σ H2 _ I2 q2) fun vu s3 ⟨u,H3,I3,pu,q3⟩=>?_)
 rw[evalPart_none]
 refine wpAny_pure ?_
 have I4:Inv X pins σ H3 { s3 with heap:=s3.heap.push { cls:=.type "slice", data:=.fields #[vl,vu,.none] } }:=I3.kept (t':=s3.toks) fun b ob q=>zq0 _ q
 obtain⟨T,id,hT,ht,hg⟩:=hr pins { s3 with heap:=s3.heap.push { cls:=.type "slice", data:=.fields #[vl,vu,.none] } } σ H3 x v vl vu l u s3.heap.objs.size Q I4 r1 (Heap.IsSliceOf.new ..) pl pu q3
 show wpAny (model X.prog X.w) X.A (subscriptTail e (.Slice lo hi none p2) v (.ref s3.heap.objs.size)) (EP X pins σ Q) X.xe { s3 with heap:=s3.heap.push { cls:=.type "slice", data:=.fields #[vl,vu,.none] } }
 exact tail_any (ops:=[.ref s3.heap.objs.size,v]) ht hT hg (by with_unfolding_all rfl)
def J0 (xs:List V)(lo hi:Option Int):List V:=(xs.drop (HT.Zc xs.length 0 lo)).take (HT.Zc xs.length xs.length hi-HT.Zc xs.length 0 lo)
theorem Mj (xs:List V)(lo hi:Option Int):(J0 xs lo hi).length<=xs.length:=by
 unfold J0
 rw[zri,List.length_drop]
 omega
def zm2 (K:Frag):V->Option Int->Option Int->Hp->VK->Prop:=fun x lo hi H Q=>∃a xs,x=.ref a/\tY K H a xs /\
 ¬(HT.Zc xs.length 0 lo=0/\HT.Zc xs.length xs.length hi=xs.length)/\∀p,H p=none->Q (.ref p) (upd H p (.tup (J0 xs lo hi)))
theorem zgd:SlR X (zm2 X.K):=by
 intro pins s σ H x v vl vu lo hi sl Q I rx hs pl pu h
 obtain⟨a,xs,rfl,hx,hw,q⟩:=h
 cases rx
 obtain⟨its,r,ht,hz⟩:=I.tuple hx
 have hlen:its.toArray.size=xs.length:=by rw[zq4];exact r.length.symm
 refine⟨"tuple", _,PyProof.Rows.slot_tuple_getitem.lookup,ht.typeIs,?_⟩
 refine HT.R6 ht hs pl pu (by rw[hlen];exact hw) ?_ (by rw[hlen];exact hz)
 rw[hlen]
 refine⟨.ref s.heap.objs.size,_,I.laid (t':=s.toks) (o:=.tup (J0 xs lo hi)) (fun b ob q=>zq0 _ q) (zra _) ?_,rfl,q _ (I.hok.fresh (zra _))⟩
 exact⟨zrg (Mj xs lo hi) hz,_,(r.drop (HT.Zc xs.length 0 lo)).take (HT.Zc xs.length xs.length hi-HT.Zc xs.length 0 lo),IsTup.new _ _⟩
end
def ixN (n:Nat)(i:Int):Option Nat:=if 0<=i then (if i<n then some i.toNat else none) else if -(n:Int)<=i then some (i+n).toNat else none
def atI {α:Type}(xs:List α)(i:Int):Option α:=(ixN xs.length i).bind fun j=>xs[j]?
theorem zhI {n:Nat}{i:Int}{j:Nat}(h:ixN n i=some j):seqIndex? i n=some j/\j<n/\-(n:Int)<=i/\i<n:=by
 unfold ixN at h
 by_cases h0:0<=i
 ·rw[if_pos h0] at h
  by_cases h1:i<n
  ·rw[if_pos h1] at h
   have e:i.toNat=j:=zrp h
   exact⟨by rw[seqIndex_of h0 h1,e],by omega,by omega,h1⟩
  ·rw[if_neg h1] at h;cases h
 ·rw[if_neg h0] at h
  by_cases h1:-(n:Int)<=i
  ·rw[if_pos h1] at h
   have e:(i+n).toNat=j:=zrp h
   exact⟨by rw[seqIndex_neg (by omega) h1,e],by omega,h1,by omega⟩
  ·rw[if_neg h1] at h;cases h
theorem zbc {α:Type}{xs:List α}{i:Int}{v:α}(h:atI xs i=some v):∃j,seqIndex? i xs.length=some j/\xs[j]?=some v/\j<xs.length/\-(xs.length:Int)<=i/\i<xs.length:=by
 unfold atI at h
 cases e:ixN xs.length i with
 | none=>rw[e] at h;cases h
 | some j =>
  rw[e] at h
  obtain⟨h1,h2,h3,h4⟩:=zhI e
  exact⟨j,h1,h,h2,h3,h4⟩
theorem xZ {α:Type}{xs:List α}{j:Nat}{v:α}(h:xs[j]?=some v):atI xs (j:Int)=some v:=by
 have hj:j<xs.length:=(zqX.mp h).1
 have e:ixN xs.length (j:Int)=some j:=by
  unfold ixN
  rw[if_pos (by omega),if_pos (by omega)];simp
 unfold atI;rw[e];exact h
def zhJ (b:Expr):Prop:=∀o i,subscripted b false o i=operate [o,i] (getItem o i)
def IxR (X:Cx)(r:R2):Prop :=
 ∀(value slice:Expr) (pins:List (Addr×Obj)) (s:Shared) (σ:St) (H:Hp) (x y:V) (v u:Value) (Q:VK),Inv X pins σ H s->RelV x v->RelV y u->r x y H Q ->
  subscripted slice false v u=operate [v,u] (getItem v u)->wpAny (model X.prog X.w) X.A (subscriptTail value slice v u) (EP X pins σ Q) X.xe s
def MtR (X:Cx)(id:String)(r:V->List V->Hp->VK->Prop):Prop :=
 ∀(pins:List (Addr×Obj)) (s:Shared) (σ:St) (H:Hp) (x:V) (xs:List V) (v:Value) (us:List Value) (Q:VK),Inv X pins σ H s->RelV x v->Vals xs us->r x xs H Q ->
  wpAny (model X.prog X.w) X.A (call (.builtin id) (v::us)) (EP X pins σ Q) X.xe s
section
variable {X:Cx}{a b:Expr}{ta tb:TE}{pos:Pos}
theorem yt {r:R2}(hr:IxR X r)(ha:PE X a ta)(hb:PE X b tb)(hs:zhJ b):PE X (.Subscript a b pos) (tOp r ta tb):=by
 intro pins s σ H Q I h
 exact Subscript_ (zjz ha hb I h fun v u s2 x y H2 I2 rx ry q=>hr a b pins s2 σ H2 x y v u Q I2 rx ry q (hs _ _))
def zm3 (K:Frag):R2:=fun x y H Q=>∃p xs i v,x=.ref p/\y=.int i/\zZ K H p xs/\atI xs i=some v/\Q v H
def zm4 (K:Frag):R2:=fun x y H Q=>∃p xs i v,x=.ref p/\y=.int i/\tY K H p xs/\atI xs i=some v/\Q v H
def zm5:R2:=fun x y H Q=>∃z i c,x=.str z/\y=.int i/\z.length<=sizeLine/\atI z.cps.toList i=some c/\Q (.str ⟨#[c]⟩) H
theorem yU:IxR X (zm3 X.K):=by
 intro value slice pins s σ H x y v u Q I rx ry h hs
 obtain⟨p,xs,i,z,rfl,rfl,hq,he,q⟩:=h
 cases rx
 obtain⟨t,rfl⟩:=ry
 obtain⟨its,r,pl,hz⟩:=I.list hq
 obtain⟨j,h1,h2,h3,h4,h5⟩:=zbc he
 obtain⟨w,ew,rw'⟩:=r.get h2
 have hl:=r.length
 have hn:=Ud
 have fin:EP X pins σ Q w s:=⟨z,H,I,rw',q⟩
 by_cases h0:0<=i
 ·have hj:i.toNat=j:=by
   rw[seqIndex_of h0 h5] at h1
   exact zrp h1
  exact item_listR pl.isList h0 (by omega) (by rw[hj];simpa using ew) fin hs
 ·have hj:(i+(its.toArray.size:Int)).toNat=j:=by
   rw[seqIndex_neg (by omega) h4] at h1
   rw[zq4,<-hl]
   exact zrp h1
  exact subscriptTail_builtinR (x:=w) pl.isList.typeIs slot_list_getitem.lookup
   (wpAny_getItem_list_neg (Q:=fun r s'=>r=w/\EP X pins σ Q r s') pl.isList (by omega) (by rw[zq4]<;>omega) (by omega) (by rw[hj];simpa using ew) ⟨rfl,fin⟩) hs
theorem tD:IxR X (zm4 X.K):=by
 intro value slice pins s σ H x y v u Q I rx ry h hs
 obtain⟨p,xs,i,z,rfl,rfl,hq,he,q⟩:=h
 cases rx
 obtain⟨t,rfl⟩:=ry
 obtain⟨its,r,pl,hz⟩:=I.tuple hq
 obtain⟨j,h1,h2,h3,h4,h5⟩:=zbc he
 obtain⟨w,ew,rw'⟩:=r.get h2
 have hl:=r.length
 have hn:=Ud
 have fin:EP X pins σ Q w s:=⟨z,H,I,rw',q⟩
 exact subscriptTail_builtinR (x:=w) pl.typeIs slot_tuple_getitem.lookup
  (getItem_tuple (j:=j) (Q:=fun r s'=>r=w/\EP X pins σ Q r s') pl (by omega) (by omega) (by rw[zq4,<-hl];exact h1) (by simpa using ew) ⟨rfl,fin⟩) hs
theorem Ue:IxR X zm5:=by
 intro value slice pins s σ H x y v u Q I rx ry h hs
 obtain⟨z,i,c,rfl,rfl,hz,he,q⟩:=h
 obtain⟨t,rfl⟩:=rx
 obtain⟨t',rfl⟩:=ry
 obtain⟨j,h1,h2,h3,h4,h5⟩:=zbc he
 have hl:z.cps.toList.length=z.length:=by simp[Str.length]
 rw[hl] at h1 h4 h5
 have hn:=Ud
 exact tail_any (typeIs_str s z t) slot_str_getitem.lookup (getItem_str (c:=c) (by
  have e1:decide (i < -(2^63:Int))=false:=decide_eq_false (by omega)
  have e2:decide (i >= 2^63)=false:=decide_eq_false (by omega)
  rw[e1,e2,Bool.or_false]) (by rw[h1];simpa using h2) ⟨.str ⟨#[c]⟩,H,I.tok _,⟨_,rfl⟩,q⟩) hs
theorem zbd (lo hi:Option Int)(n:Nat):(sliceBounds lo hi none n).1=((HT.Zc n 0 lo:Nat):Int)/\(sliceBounds lo hi none n).2.1=((HT.Zc n n hi:Nat):Int)/\(sliceBounds lo hi none n).2.2=1:=by
 refine⟨?_,?_,rfl⟩
 ·cases lo with
  | none=>simp[sliceBounds,HT.Zc]
  | some i =>
   simp only[sliceBounds,HT.Zc,Option.getD_none,show(1:Int) > 0 by decide,if_true]
   by_cases h:i<0
   ·simp only[h,if_true]<;>omega
   ·simp only[h,if_false]<;>omega
 ·cases hi with
  | none=>simp[sliceBounds,HT.Zc]
  | some i =>
   simp only[sliceBounds,HT.Zc,Option.getD_none,show(1:Int) > 0 by decide,if_true]
   by_cases h:i<0
   ·simp only[h,if_true]<;>omega
   ·simp only[h,if_false]<;>omega
theorem J6 (its:List Value)(lo hi:Option Int):slicePick its.toArray lo hi none=((its.drop (HT.Zc its.length 0 lo)).take (HT.Zc its.length its.length hi-HT.Zc its.length 0 lo)).toArray:=by
 obtain⟨h1,h2,h3⟩:=zbd lo hi its.toArray.size
 unfold slicePick
 rw[h1,h2,h3]
 simp only[sliceRange_one,pick_run,zq4]<;>rfl
def zm6 (K:Frag):V->Option Int->Option Int->Hp->VK->Prop:=fun x lo hi H Q=>∃a xs,x=.ref a/\zZ K H a xs/\∀p,H p=none->Q (.ref p) (upd H p (.lst (J0 xs lo hi)))
theorem zmk:SlR X (zm6 X.K):=by
 intro pins s σ H x v vl vu lo hi sl Q I rx hs pl pu h
 obtain⟨a,xs,rfl,hx,q⟩:=h
 cases rx
 obtain⟨its,r,ht,hz⟩:=I.list hx
 have hlen:=r.length
 refine⟨"list", _,slot_list_getitem.lookup,ht.isList.typeIs,?_⟩
 refine wpAny_getItem_list_slice ht.isList hs pl pu .none (by simp) ?_ (by rw[zq4]<;>omega)
 rw[J6,<-hlen]
 refine⟨.ref s.heap.objs.size,_,I.laid (t':=s.toks) (o:=.lst (J0 xs lo hi)) (fun b ob q=>zq0 _ q) (zra _) ?_,rfl,q _ (I.hok.fresh (zra _))⟩
 exact⟨zrg (Mj xs lo hi) hz,_,0,(r.drop (HT.Zc xs.length 0 lo)).take (HT.Zc xs.length xs.length hi-HT.Zc xs.length 0 lo),zrf _ rfl⟩
def WQ:V->Bool
 | .non=>true
 | .bl _=>true
 | .int _=>true
 | .str _=>true
 | _=>false
def eqV:V->V->Bool
 | .non,.non=>true
 | .bl a,.bl b=>a==b
 | .bl a,.int b=>(if a then 1 else 0)==b
 | .int a,.bl b=>a==(if b then 1 else 0)
 | .int a,.int b=>a==b
 | .str a,.str b=>a==b
 | _,_=>false
theorem zjK {A:Around}{s:Shared}{y x:V}{u v:Value}(ry:RelV y u)(rx:RelV x v)(fy:WQ y=true)(fx:WQ x=true):SeqAt.EqAt A s u v (eqV y x):=by
 cases y with
 | non =>
  cases ry
  cases x with
  | non=>cases rx;exact SeqAt.EqAt.same _
  | bl b=>cases rx;exact SeqAt.EqAt.none_bool b
  | int b=>obtain⟨t,rfl⟩:=rx;exact SeqAt.EqAt.none_int b t
  | str b=>obtain⟨t,rfl⟩:=rx;exact SeqAt.EqAt.none_str b t
  | _=>exact absurd (show false=true from fx) zqY
 | bl a =>
  cases ry
  cases x with
  | non=>cases rx;exact SeqAt.EqAt.bool_none a
  | bl b=>cases rx;exact SeqAt.EqAt.bool_bool a b
  | int b=>obtain⟨t,rfl⟩:=rx;exact SeqAt.EqAt.bool_int a b t
  | str b=>obtain⟨t,rfl⟩:=rx;exact SeqAt.EqAt.bool_str a b t
  | _=>exact absurd (show false=true from fx) zqY
 | int a =>
  obtain⟨t',rfl⟩:=ry
  cases x with
  | non=>cases rx;exact SeqAt.EqAt.int_none a t'
  | bl b=>cases rx;exact SeqAt.EqAt.int_bool a t' b
  | int b=>obtain⟨t,rfl⟩:=rx;exact SeqAt.EqAt.int_int a t' b t
  | str b=>obtain⟨t,rfl⟩:=rx;exact SeqAt.EqAt.int_str a t' b t
  | _=>exact absurd (show false=true from fx) zqY
 | str a =>
  obtain⟨t',rfl⟩:=ry
  cases x with
  | non=>cases rx;exact SeqAt.EqAt.str_none a t'
  | bl b=>cases rx;exact SeqAt.EqAt.str_bool a t' b
  | int b=>obtain⟨t,rfl⟩:=rx;exact SeqAt.EqAt.str_int a t' b t
  | str b=>obtain⟨t,rfl⟩:=rx;exact SeqAt.EqAt.str_str a t' b t
  | _=>exact absurd (show false=true from fx) zqY
 | _=>exact absurd (show false=true from fy) zqY
def eqU (x:V)(u:Value):Bool:=match u with
 | .none=>eqV .non x
 | .bool b=>eqV (.bl b) x
 | .int i _=>eqV (.int i) x
 | .str z _=>eqV (.str z) x
 | _=>false
theorem zbe {x y:V}{u:Value}(r:RelV y u)(f:WQ y=true):eqU x u=eqV y x:=by
 cases y with
 | non=>cases r;rfl
 | bl b=>cases r;rfl
 | int i=>obtain⟨t,rfl⟩:=r;rfl
 | str z=>obtain⟨t,rfl⟩:=r;rfl
 | _=>exact absurd (show false=true from f) zqY
theorem R7 {x:V}:∀{xs:List V} {us:List Value},Vals xs us->xs.all WQ=true->us.any (eqU x)=xs.any fun y=>eqV y x
 | _,_,.nil,_=>rfl
 | y::xs,u::us,.cons r t,f=>by
  rw[List.all_cons,zrm] at f
  rw[List.any_cons,List.any_cons,zbe r f.1,R7 t f.2]
theorem WR {A:Around}{s:Shared}{x:V}{v:Value}(rx:RelV x v)(fx:WQ x=true):∀{xs:List V} {us:List Value},Vals xs us->xs.all WQ=true->∀u∈us,SeqAt.EqAt A s u v (eqU x u)
 | _,_,.nil,_=>fun u hu=>by cases hu
 | y::xs,u::us,.cons r t,f=>fun u' hu=>by
  rw[List.all_cons,zrm] at f
  rcases List.mem_cons.mp hu with rfl | hu
  ·rw[zbe r f.1];exact zjK r rx f.1 fx
  ·exact WR rx fx t f.2 u' hu
def inV (x:V)(xs:List V):Bool:=xs.any fun y=>eqV y x
def rIn (K:Frag)(neg:Bool):R2:=fun x y H Q=>∃p xs,y=.ref p/\(zZ K H p xs\/tY K H p xs)/\WQ x=true/\xs.all WQ=true/\Q (.bl (if neg then !inV x xs else inV x xs)) H
theorem zaA:Uc X (compareOp .In) (rIn X.K false):=by
 intro pins s σ H x y v u Q I rx ry h
 obtain⟨p,xs,rfl,hq,fx,fs,q⟩:=h
 cases ry
 rcases hq with hq | hq
 ·obtain⟨its,r,pl,hz⟩:=I.list hq
  refine SeqAt.in_listAt (eqU x) pl.isList (fun w hw=>WR rx fx r fs w (by simpa using hw)) ⟨.bl _,H,I,rfl,?_⟩
  rw[show its.toArray.any (eqU x)=its.any (eqU x) by simp,R7 r fs]
  exact q
 ·obtain⟨its,r,pl,hz⟩:=I.tuple hq
  refine SeqAt.in_tupleAt (eqU x) pl (fun w hw=>WR rx fx r fs w (by simpa using hw)) ⟨.bl _,H,I,rfl,?_⟩
  rw[show its.toArray.any (eqU x)=its.any (eqU x) by simp,R7 r fs]
  exact q
theorem R8:Uc X (compareOp .NotIn) (rIn X.K true):=by
 intro pins s σ H x y v u Q I rx ry h
 obtain⟨p,xs,rfl,hq,fx,fs,q⟩:=h
 cases ry
 rcases hq with hq | hq
 ·obtain⟨its,r,pl,hz⟩:=I.list hq
  refine SeqAt.notIn_listAt (eqU x) pl.isList (fun w hw=>WR rx fx r fs w (by simpa using hw)) ⟨.bl _,H,I,rfl,?_⟩
  rw[show its.toArray.any (eqU x)=its.any (eqU x) by simp,R7 r fs]
  exact q
 ·obtain⟨its,r,pl,hz⟩:=I.tuple hq
  refine SeqAt.notIn_tupleAt (eqU x) pl (fun w hw=>WR rx fx r fs w (by simpa using hw)) ⟨.bl _,H,I,rfl,?_⟩
  rw[show its.toArray.any (eqU x)=its.any (eqU x) by simp,R7 r fs]
  exact q
theorem zK:Xl X (.builtin "len") (fun xs H Q=>∃p ys,xs=[.ref p]/\(zZ X.K H p ys\/tY X.K H p ys)/\Q (.int ys.length) H):=by
 intro pins s σ H xs us Q I r h
 obtain⟨p,ys,rfl,hq,q⟩:=h
 obtain⟨u,rfl,rx⟩:=vals1 r
 cases rx
 have hn:=Ud
 rcases hq with hq | hq
 ·obtain⟨its,r',pl,hz⟩:=I.list hq
  have hlen:=r'.length
  exact Calls.call_len_list pl.isList (by simp only[zq4]<;>omega) ⟨.int ys.length,H,I.tok _,⟨s.toks+1,by rw[zq4,hlen]⟩,q⟩
 ·obtain⟨its,r',pl,hz⟩:=I.tuple hq
  have hlen:=r'.length
  exact len_tuple pl (by simp only[zq4]<;>omega) ⟨.int ys.length,H,I.tok _,⟨s.toks+1,by rw[zq4,hlen]⟩,q⟩
theorem R9:Xl X (.builtin "len") (fun xs H Q=>∃z,xs=[.str z]/\z.length<=sizeLine/\Q (.int z.length) H):=by
 intro pins s σ H xs us Q I r h
 obtain⟨z,rfl,hz,q⟩:=h
 obtain⟨u,rfl,t,rfl⟩:=vals1 r
 have hn:=Ud
 exact len_str (by omega) ⟨.int z.length,H,I.tok _,⟨_,rfl⟩,q⟩
theorem Qa:Xl X (.type "list") (fun xs H Q=>∃p ys,xs=[.ref p]/\(zZ X.K H p ys\/tY X.K H p ys)/\∀l,H l=none->Q (.ref l) (upd H l (.lst ys))):=by
 intro pins s σ H xs us Q I r h
 obtain⟨p,ys,rfl,hq,q⟩:=h
 obtain⟨u,rfl,rx⟩:=vals1 r
 cases rx
 have fin:∀(its:List Value),Vals ys its->ys.length<=sizeLine->∀(h':Heap) (c':Nat),(∀b o',s.heap.get? b=some o'->h'.get? b=some o') ->
   h'.get? s.heap.objs.size=some { cls:=.type "list", dict:=none,data:=.seq its.toArray c',slots:=#[] }->EP X pins σ Q (.ref s.heap.objs.size) { s with heap:=h' }:=fun its r' hz h' c' kp e =>
  ⟨.ref s.heap.objs.size,_,I.laid (t':=s.toks) kp (zra _) (show wG X.prog X.w _ h' _ (.lst ys) from ⟨hz,its,c',r',e⟩),rfl,q _ (I.hok.fresh (zra _))⟩
 rcases hq with hq | hq
 ·obtain⟨its,r',pl,hz⟩:=I.list hq
  have hlen:=r'.length
  obtain⟨o,ho,hc,n,hd⟩:=pl.isList
  exact call_list_seq p (.inl rfl) ho hc hd (fun h' c' kp e=>fin its r' hz h' c' kp e) (by simp only[zq4]<;>omega)
 ·obtain⟨its,r',pl,hz⟩:=I.tuple hq
  have hlen:=r'.length
  obtain⟨o,ho,hc,n,hd⟩:=pl
  exact call_list_seq p (.inr rfl) ho hc hd (fun h' c' kp e=>fin its r' hz h' c' kp e) (by simp only[zq4]<;>omega)
def tyV (K:Frag)(T:String)(x:V)(H:Hp):Prop:=match x with
 | .str _=>T="str"
 | .int _=>T="int"
 | .ref p=>(T="list" /\ ∃xs,zZ K H p xs)\/(T="tuple" /\ ∃o,K.lookup p=some o/\o.cls=.type "tuple" /\ o.dict=none) \/
   (T="dict" /\ ((∃kvs,H p=some (.dK kvs))\/∃kvs,H p=some (.dT kvs)))\/(T="set" /\ ∃S n,H p=some (.set S n))
 | _=>False
theorem zbf {pins:List (Addr×Obj)}{σ:St}{H:Hp}{s:Shared}{T:String}{x:V}{v:Value}(I:Inv X pins σ H s)(r:RelV x v)(ty:tyV X.K T x H) :
  s.TypeIs v T/\∀a,v=.ref a->∃ob,s.heap.get? a=some ob/\ob.dict=none:=by
 cases x with
 | str z =>
  obtain⟨t,rfl⟩:=r
  cases (show T="str" from ty)
  exact⟨typeIs_str s z t,fun _ e=>nomatch e⟩
 | int i =>
  obtain⟨t,rfl⟩:=r
  cases (show T="int" from ty)
  exact⟨typeIs_int s i t,fun _ e=>nomatch e⟩
 | ref p =>
  cases r
  rcases ty with ⟨rfl,xs,hq⟩ | ⟨rfl,o,hk,hc,hd⟩ | ⟨rfl,hk⟩ | ⟨rfl,S,n,hk⟩
  ·obtain⟨its,_,pl,_⟩:=I.list hq
   refine⟨pl.isList.typeIs,fun a e=>?_⟩
   cases e
   obtain⟨o,n,e,c,hd,_⟩:=pl
   exact⟨o,e,hd⟩
  ·refine⟨⟨o,I.Pn p o hk,hc⟩,fun a e=>?_⟩
   cases e
   exact⟨o,I.Pn _ o hk,hd⟩
  ·have z:∃o,s.heap.get? p=some o/\o.ExactDict:=by
    rcases hk with ⟨kvs,hk⟩ | ⟨kvs,hk⟩
    ·obtain⟨_,_,_,_,o,_,_,e,ex,_⟩:=I.hok p _ hk
     exact⟨o,e,ex⟩
    ·obtain⟨_,_,_,_,o,_,_,e,ex,_⟩:=I.hok p _ hk
     exact⟨o,e,ex⟩
   obtain⟨o,e,ex⟩:=z
   refine⟨⟨o,e,ex.1⟩,fun a e2=>?_⟩
   cases e2
   exact⟨o,e,ex.2.1⟩
  ·obtain⟨o,_,_,_,e,ex,_⟩:=I.hok p _ hk
   refine⟨⟨o,e,ex.1⟩,fun a e2=>?_⟩
   cases e2
   exact⟨o,e,ex.2.1⟩
 | _=>exact False.elim ty
def zm8 (K:Frag)(T:String)(r:V->List V->Hp->VK->Prop)(to:TE):TE:=fun σ H Q=>to σ H fun x H1=>tyV K T x H1/\r x [] H1 Q
def tBM (K:Frag)(T:String)(r:V->List V->Hp->VK->Prop)(to:TE)(t:TA):TE:=fun σ H Q=>to σ H fun x H1=>tyV K T x H1/\t σ H1 fun xs H2=>r x xs H2 Q
variable {o e:Expr}{es:List Expr}{to:TE}{t:TA}{name:Str}{apos cpos:Pos}{T id:String}{r:V->List V->Hp->VK->Prop}
theorem zjL (pa:PlainAttrs T)(slot:Slot T name id)(hty:typeOf (.builtin id)=pure (.type "method_descriptor"))(hm:MtR X id r)(ho:PE X o to)
  (hbase:attributeBase o name X.env (eval o X.env)=eval o X.env:=by rfl)(hline:(apos.endLine==cpos.line)=true:=by rfl):PE X (.Call (.Attribute o name apos) [] [] cpos) (zm8 X.K T r to):=by
 intro pins s σ H Q I h
 refine wpAny_Call_method0_late hbase hline (wC (ho pins s σ H _ I h) fun v s1 ⟨x,H1,I1,r1,ty,q1⟩=>?_)
 obtain⟨h1,h2⟩:=zbf I1 r1 ty
 exact⟨T,id,pa,slot,hty,h1,h2,Calls.callWith_builtin rfl (PySem.evalArgs_none (hm pins s1 σ H1 x [] v [] Q I1 r1 .nil q1))⟩
theorem Yr (pa:PlainAttrs T)(slot:Slot T name id)(hty:typeOf (.builtin id)=pure (.type "method_descriptor"))(hm:MtR X id r)(ho:PE X o to)(ha:PA X (e::es) t)
  (hbase:attributeBase o name X.env (eval o X.env)=eval o X.env:=by rfl)
  (hfew:((backTo cpos (starEach (e::es) X.env)).all (fun x=>!x.1)&&(backToKw cpos (keywordEach [] X.env)).all (fun x=>x.1.isSome)
   && decide ((e::es).length+([]:List Keyword).length+(if ([]:List Keyword).isEmpty then 0 else 1)<30))=true:=by rfl)
  (hline:(apos.endLine==cpos.line)=true:=by rfl)(hs:starEach (e::es) X.env=(false,eval e X.env)::starEach es X.env:=by rfl)(hplain:(backTo cpos (starEach es X.env)).any (·.1)=false:=by rfl) :
  PE X (.Call (.Attribute o name apos) (e::es) [] cpos) (tBM X.K T r to t):=by
 intro pins s σ H Q I h
 refine wpAny_Call_method_late hbase hfew hline rfl (wC (ho pins s σ H _ I h) fun v s1 ⟨x,H1,I1,r1,ty,q1⟩=>?_)
 obtain⟨h1,h2⟩:=zbf I1 r1 ty
 refine⟨T,id,pa,slot,hty,h1,h2,?_⟩
 have hA:=ha cpos pins s1 σ H1 _ I1 q1
 rw[hs] at hA ⊢
 refine Calls.callWith_builtin (by show(false||(backTo cpos (starEach es X.env)).any (·.1))=false;rw[hplain]<;>rfl) (Calls.evalArgs_plain ?_)
 exact wC hA fun us s2 ⟨vs,H2,I2,r2,q2⟩=>hm pins s2 σ H2 x vs v us Q I2 r1 r2 q2
end
def MtM (X:Cx)(id:String)(r:V->List V->Hp->VK->Prop):Prop :=
 ∀(pins:List (Addr×Obj)) (s:Shared) (σ:St) (H:Hp) (x:V) (xs:List V) (v:Value) (us:List Value) (Q:VK),Inv X pins σ H s->RelV x v->Vals xs us->r x xs H Q ->
  wpAny (model X.prog X.w) X.A (call (.builtin id) (v::us)) (EP X pins σ Q) X.xe s
theorem Vals.one:∀{x:V} {us:List Value},Vals [x] us->∃u,us=[u]/\RelV x u
 | _,_,.cons r .nil=>⟨_,rfl,r⟩
theorem Vals.two:∀{x y:V} {us:List Value},Vals [x,y] us->∃u v,us=[u,v]/\RelV x u/\RelV y v
 | _,_,_,.cons r (.cons q .nil)=>⟨_,_,rfl,r,q⟩
theorem Vals.zero:∀{us:List Value},Vals [] us->us=[]
 | _,.nil=>rfl
theorem Vals.dropLast {xs:List V}{us:List Value}(h:Vals xs us):Vals xs.dropLast us.dropLast:=by
 induction h with
 | nil=>exact .nil
 | cons r t ih =>
  cases t with
  | nil=>exact .nil
  | cons q t'=>exact .cons r ih
theorem zdL {α:Type}(l:List α):l.eraseIdx (l.length-1)=l.dropLast:=by
 induction l with
 | nil=>rfl
 | cons a r ih =>
  cases r with
  | nil=>rfl
  | cons b r =>
   have e:(a::b::r).length-1=((b::r).length-1)+1:=by
    have h1:(a::b::r).length=r.length+2:=rfl
    have h2:(b::r).length=r.length+1:=rfl
    omega
   rw[e,List.eraseIdx_cons_succ,ih]
   all_goals rfl
section
variable {X:Cx}{pins:List (Addr×Obj)}{σ:St}{H:Hp}{s:Shared}{l b:Addr}{xs ys zs:List V}
theorem Inv.zge {its its':List Value}{n:Nat}{f:Array Value->Array Value}{t':Nat}(I:Inv X pins σ H s)(hH:H l=some (.lst xs))
  (e:s.heap.get? l=some { cls:=.type "list", data:=.seq its.toArray n })(hf:f its.toArray=its'.toArray)(hv:Vals ys its')(hz:ys.length<=sizeLine) :
  Inv X pins σ (upd H l (.lst ys)) { s with heap:=s.heap.update l (Obj.mapSeq f),toks:=t' }:=by
 have q:=PySem.IsL.update e f
 rw[hf] at q
 refine I.write (x:=l) (e:=l) (by rw[hH];exact trivial) (.inl rfl) (fun b' u hb hu=>(Heap.get?_update_other s.heap (Obj.mapSeq f) (Ne.symm hb)).trans hu) ⟨_,q⟩ ?_
 exact⟨hz,its',_,hv,q⟩
theorem Inv.fresh (I:Inv X pins σ H s):H s.heap.objs.size=none:=I.hok.fresh (zra _)
theorem Inv.zfm (I:Inv X pins σ H s)(hH:H l=some (.lst xs)):xs.length<=sizeLine/\∃(its:List Value) (n:Nat),Vals xs its/\xs.length=its.length/\s.heap.get? l=some { cls:=.type "list", data:=.seq its.toArray n }:=by
 obtain⟨z,its,n,r,e⟩:=I.hok l _ hH
 exact⟨z,its,n,r,r.length,e⟩
theorem zci {n:Nat}(h:n<=sizeLine):Builtin.List.listTooLong n=false:=by
 unfold Builtin.List.listTooLong
 exact decide_eq_false (by omega)
end
section
variable {X:Cx}
def zhK:V->List V->Hp->VK->Prop:=fun x vs H Q=>∃l xs y,x=.ref l/\vs=[y]/\H l=some (.lst xs)/\xs.length<sizeLine/\Q .non (upd H l (.lst (xs++[y])))
theorem tQ:MtM X "list.append" zhK:=by
 intro pins s σ H x vs v us Q I rx rv h
 obtain⟨l,xs,y,rfl,rfl,hH,hz,q⟩:=h
 cases rx
 obtain⟨u,rfl,ru⟩:=rv.one
 obtain⟨z,its,n,r,hl,e⟩:=I.zfm hH
 refine call_meets F.slot_list_append ⟨_,e,rfl⟩ F.entry_list_append (F.args_list_append_2 _ _) (PySem.list_append l its.toArray n u (by rw[zq4];omega)) ⟨e,?_⟩
 refine⟨.non,_,I.zge (its':=its++[u]) hH e (by simp) (r.append (.cons ru .nil)) ?_,rfl,q⟩
 rw[zq2,zrs]
 omega
def zhL:V->List V->Hp->VK->Prop:=fun x vs H Q=>∃l b xs zs,x=.ref l/\vs=[.ref b]/\H l=some (.lst xs)/\H b=some (.lst zs)/\xs.length+zs.length<=sizeLine/\Q .non (upd H l (.lst (xs++zs)))
theorem zaB:MtM X "list.extend" zhL:=by
 intro pins s σ H x vs v us Q I rx rv h
 obtain⟨l,b,xs,zs,rfl,rfl,hH,hB,hz,q⟩:=h
 cases rx
 obtain⟨u,rfl,ru⟩:=rv.one
 cases ru
 obtain⟨z,its,n,r,hl,e⟩:=I.zfm hH
 obtain⟨z2,its2,n2,r2,hl2,e2⟩:=I.zfm hB
 have hsz:its.toArray.size+its2.toArray.size<=sizeLine:=by rw[zq4,zq4];omega
 have zgf:¬(!its.toArray.isEmpty&&Builtin.List.listTooLong (its.toArray.size+its2.toArray.size))=true:=by
  rw[zci hsz,Bool.and_false]
  exact zqY
 refine call_meets F.slot_list_extend ⟨_,e,rfl⟩ F.entry_list_extend (F.args_list_extend_2 _ _)
  (AutoSeq1.list_extend_list_list_0 l its.toArray n b its2.toArray n2 zgf (by rw[zq4];omega) (by omega)) ⟨e,e2,?_⟩
 refine⟨.non,_,I.zge (its':=its++its2) hH e (by simp) (r.append r2) ?_,rfl,q⟩
 rw[zq2]
 omega
def zm9:V->List V->Hp->VK->Prop:=fun x vs H Q=>∃l xs y,x=.ref l/\vs=[]/\H l=some (.lst xs)/\xs[xs.length-1]?=some y/\Q y (upd H l (.lst xs.dropLast))
theorem zjN:MtM X "list.pop" zm9:=by
 intro pins s σ H x vs v us Q I rx rv h
 obtain⟨l,xs,y,rfl,rfl,hH,hy,q⟩:=h
 cases rx
 have hus:=rv.zero
 subst hus
 obtain⟨z,its,n,r,hl,e⟩:=I.zfm hH
 obtain⟨u,hu,ru⟩:=r.get hy
 have hy':its.toArray[its.toArray.size-1]?=some u:=by
  show its.toArray[its.length-1]?=some u
  rw[<-Array.getElem?_toList,<-hl]
  exact hu
 refine call_meets F.slot_list_pop ⟨_,e,rfl⟩ F.entry_list_pop (F.args_list_pop_1 _) (MeetsSeq.list_pop_last l its.toArray n u hy' (by rw[zq4];omega)) ⟨e,?_⟩
 refine⟨y,_,I.zge (its':=its.dropLast) hH e ?_ r.dropLast ?_,ru,q⟩
 ·show its.toArray.eraseIdxIfInBounds (its.toArray.size-1)=its.dropLast.toArray
  rw[zq4,List.eraseIdxIfInBounds_toArray,zdL]
 ·rw[List.length_dropLast]
  omega
end
end L2
namespace Att
open PySem PySem.W PySem.Calls PyProof.Rows
theorem Lb {P:Params}{h:Heap}:∀(ns:List Int) (vs:List Value),WellAll P h vs (ns.map WData.int)->IntsAre vs ns:=by
 intro ns
 induction ns with
 | nil =>
  intro vs w
  rw[List.map_nil] at w
  cases w
  exact .nil
 | cons n ns ih =>
  intro vs w
  rw[zrj] at w
  cases w with
  | cons a b =>
   cases a
   exact .cons _ _ (ih _ b)
theorem zfn {l:OpenLaw}{n:Nat}(hn:l.most=some n){P:Params}{h:Heap}{args:List WData}{vals:List Value}
  (hpre:l.row.toRowW.claim.pre args=true)(hwl:WellAll P h vals args) :
  ∃a vs ns,vals=[Value.ref a]/\args=[WData.list (ns.map WData.int)]/\h.get? a=some { cls:=.type "list", data:=.seq vs.toArray }/\IntsAre vs ns/\ns.length<=n:=by
 have hsh:WShape.hasAll [] args [.list .int]=true:=(pre_splitW hpre).1
 have hc:l.pre.holds [] { args:=args }=true:=(pre_splitW hpre).2
 obtain⟨d,r,rfl,h1,h2⟩:=hasAllW_cons hsh
 obtain rfl:=hasAllW_nil h2
 obtain⟨xs,rfl,h3⟩:=hasW_list h1
 obtain⟨ns,rfl⟩:=items_int h3
 have hlen:ns.length<=n:=by
  unfold OpenLaw.pre at hc
  have h4:(WTm.not (.lt (.lit (.int (n:Int))) (.len (.arg 0)))).holds [] { args:=[.list (ns.map .int)] }=true:=by
   have h4:=(holds_andW hc).1
   rw[hn] at h4
   exact h4
  have h5:=condW_of h4 (w_not (w_lt w_lit (w_len_list (w_arg rfl))))
  rw[zqU] at h5
  refine Nat.le_of_not_lt fun q=>?_
  have q':(n:Int)<((ns.length:Nat):Int):=by omega
  first
   | (rw[decide_eq_true q'] at h5;exact absurd h5 (by decide))
   | (simp at h5;omega)
 cases hwl with
 | cons w1 w2 =>
  cases w2
  cases w1 with
  | list ho hall=>exact⟨_,_,ns,rfl,rfl,ho,Lb ns _ hall,hlen⟩
theorem zfo (l:OpenLaw)(args:List WData):l.row.toRowW.claim.post args (.bool true) args=true :=
 postW_of (r:=l.row.toRowW) (X:=(true==true))
  (show WShape.has [] (.bool true) .bool=true by first | rfl | decide | simp[WShape.has,WShape.arms,WShape.armsAll])
  (show(WTm.eq .res (.lit (.bool true))).value [] { args:=args,res:=some (.bool true),after:=args }=some (.bool (true==true)) from w_eq_bool (w_res rfl) w_lit) rfl
theorem zcj {l:OpenLaw}{n:Nat}{q:Program}{loose:List Str}{XP:(Str->Option Value)->Heap->Prop}{YP:World->Heap->Prop}{d:DefRec}
  (hn:l.most=some n)(hdf:d.params.defaults=[])
  (call:∀(w:World) (s₀ s₁:Shared) (mg mb:Str->Option Value) (fa:Addr) (o:Obj) (pm cd doc:Value) (a:Addr) (vs:List Value) (ns:List Int),
   Ground q loose [] XP w s₀ mg mb s₁.heap->YP w s₁.heap ->
   s₁.heap.get? fa=some o->o.data=.func (docDef d.name d.params d.body d.scope pm cd doc)->s₁.heap.CodeRec cd d.name->mg d.name=some (.ref fa) ->
   s₁.heap.get? a=some { cls:=.type "list", data:=.seq vs.toArray }->IntsAre vs ns->ns.length<=n->s₁.gens=#[] ->
   codeAny (model l.prog w) callerA (.call (.ref fa) ⟨[.ref a],[]⟩) (fun r s'=>r=.ok (.ret (.bool true))/\OldK s₁.heap s'.heap/\s'.os=s₁.os/\AllBare s'.gens) s₁) :
  WalkO q loose XP YP l.row.toRowW d [] (fun f vs=>PySem.call f vs):=by
 intro w s₀ s₁ mg mb G Y fa o pm cd doc dV kV ho hd hcd hD hmg hg args vals as hpre hlay hrd hwl hlo
 obtain rfl:dV=.none:=Dflts.none hD hdf
 obtain rfl:kV=.none:=Dflts.noKw hD
 obtain⟨a,vs,ns,rfl,rfl,hobj,hints,hlen⟩:=zfn hn hpre hwl
 refine enter_call (codeAny_mono (call w s₀ s₁ mg mb fa o pm cd doc a vs ns G Y ho (fd_plain hd) hcd hmg hobj hints hlen hg) fun r s' hq=>?_)
 obtain⟨rfl,h2,h3,h4⟩:=hq
 exact⟨.inl ⟨.bool true,.bool true,[],rfl,fun _=>rfl,.bool true,zfo l _,fun _=>⟨List.Pairwise.nil,fun _ hm=>(nomatch hm)⟩⟩,h2,h3,h4⟩
end Att
namespace L2
open PySem PySem.Spec PyProof.Rows
theorem Py:∀{vs:List Value} {ns:List Int},IntsAre vs ns->Vals (ns.map V.int) vs
 | _,_,.nil=>.nil
 | _,_,.cons n t h=>.cons ⟨t,rfl⟩ (Py h)
def Only (H:Hp):Prop:=∀b,H b=none\/∃o xs,H b=some (.Kg o (.lst xs))
theorem zgg {P:Program}{w:World}{K:Frag}{mg mb:Str->Option Value}{CX:CXT}{k:Nat}{fa a:Addr}{fd:FuncData}{x:Str}{sp:Sp}{s₁:Shared}{vs:List Value}{ns:List Int}
  (KX:K.In s₁.heap)(hns:s₁.heap.Ns mainGlobals mg)(hb:s₁.heap.Ns builtinsNs mb)(hbb:∀x:Str,x ≠ "__name__" -> mb x=bootBuiltins x)(hlim:s₁.heap.NoLimit)(hg:s₁.gens=#[])
  (ha:s₁.heap.get? a=some { cls:=.type "list", data:=.seq vs.toArray })(hi:IntsAre vs ns)(hl:ns.length<=sizeLine)(hr:Zb k callerA)
  (F:∀base:Heap,K.In base->base.Ns mainGlobals mg->zB P w K mg base CX k fa fd [x] sp)(hbind:∀(s:Shared) (u:Value),BindsTo s fd ⟨[u],[]⟩ [(x,u)])
  (hsp:∀H:Hp,Only H->zZ K H a (ns.map V.int)->sp [.ref a] H (fun v _=>v=.bl true) fun _ _ _=>False)
  (hCX:∀H e s',CX [] H s₁ (fun _ _ _=>False) e s'->False) :
  codeAny (model P w) callerA (.call (.ref fa) ⟨[.ref a],[]⟩) (fun r s'=>r=.ok (.ret (.bool true))/\OldK s₁.heap s'.heap/\s'.os=s₁.os/\AllBare s'.gens) s₁:=by
 have rv:=Py hi
 have lenV:=hi.length
 have core:∀H:Hp,Only H->zZ K H a (ns.map V.int)->T3 P w H s₁.heap->(∀b,H b≠none->b=a)->(H a≠none->K.lookup a=none) ->
   codeAny (model P w) callerA (.call (.ref fa) ⟨[.ref a],[]⟩) (fun r s'=>r=.ok (.ret (.bool true))/\OldK s₁.heap s'.heap/\s'.os=s₁.os/\AllBare s'.gens) s₁:=by
  intro H hO hS hok hA hK
  have zeC:∀{b:Addr} {o:Obj},s₁.heap.get? b=some o->H b=none->(za3 s₁.heap H).get? b=some o:=fun e n=>zf1 e n
  have noA:∀{b:Addr} {o:Obj} {es:Array DictEntry} {ep:Nat},s₁.heap.get? b=some o->o.data=.dict es ep->H b=none:=fun {b o es ep} e d=>by
   cases q:H b with
   | none=>rfl
   | some u =>
    have e':b=a:=hA b (by rw[q];simp)
    subst e'
    rw[ha] at e;cases e
    have d':Data.seq vs.toArray _=Data.dict es ep:=d
    cases d'
  have nsK:∀{b:Addr} {m:Str->Option Value},s₁.heap.Ns b m->(za3 s₁.heap H).Ns b m:=fun {b m} ⟨o,es,ep,e,d,r⟩=>⟨o,es,ep,zeC e (noA e d),d,r⟩
  have hKb:K.In (za3 s₁.heap H):=fun b o e=>zeC (KX b o e) (by
   cases q:H b with
   | none=>rfl
   | some u =>
    have e':b=a:=hA b (by rw[q];simp)
    subst e'
    rw[hK (by rw[q];simp)] at e;cases e)
  have hM:Mod K mg (za3 s₁.heap H):=⟨hKb,nsK hns,⟨mb,nsK hb,hbb⟩,let ⟨mc,h1,h2⟩:=hlim;⟨mc,nsK h1,h2⟩⟩
  have e0:zdH P w K mg (za3 s₁.heap H) callerA [] s₁ H:=⟨rfl,hM,fun b o e=>zhu e,Nat.le_of_eq (ze7 _ _),trivial,fun b hb=>absurd (show b∈([]:List Addr) from hb) (by simp),hok,.of_eq hg⟩
  refine codeAny_mono ((F _ hKb (nsK hns)).run callerA [] s₁ H ⟨[.ref a],[]⟩ [.ref a] [.ref a] _ _ hr e0 (hbind s₁ (.ref a)) (.cons rfl .nil) (hsp H hO hS)) fun r s' h=>?_
  cases r with
  | error e=>exact(hCX H e s' h).elim
  | ok fl =>
   cases fl with
   | next=>exact False.elim h
   | brk=>exact False.elim h
   | cont=>exact False.elim h
   | ret u =>
    obtain⟨v,H',os,bare,un,hok',r',q⟩:=h
    have q':v=.bl true:=q
    subst q'
    obtain rfl:u=Value.bool true:=r'
    refine⟨rfl,OldK.of_keep fun b o e=>?_,os,bare⟩
    cases q:H b with
    | none=>exact un.keep b o e q (by intro z;exact absurd (show b∈([]:List Addr) from z) (by simp)) (by simp)
    | some u =>
     rcases hO b with z | ⟨ob,xs,z⟩
     ·rw[q] at z;cases z
     ·have z2:=un.JW b ob _ z
      obtain⟨e1,_⟩:=hok b _ z
      obtain⟨e2,_⟩:=hok' b _ z2
      rw[e] at e1;cases e1
      exact e2
 cases hk:K.lookup a with
 | some o =>
  have e:=KX a o hk
  rw[ha] at e
  cases e
  refine core (fun _=>none) (fun _=>.inl rfl) (.inr ⟨_,vs.toArray,_,hk,rfl,rfl,rfl,by rw[zq4,lenV];exact hl,by simpa using rv⟩) (fun b u z=>by have z':(none:Option HO)=some u:=z;cases z') (fun b z=>absurd rfl z) fun z=>absurd rfl z
 | none =>
  refine core (fun b=>if b=a then some (.Kg { cls:=.type "list", data:=.seq vs.toArray } (.lst (ns.map V.int))) else none) (fun b=>?_) (.inl (.inr ⟨{ cls:=.type "list", data:=.seq vs.toArray },if_pos rfl⟩)) (fun b u z=>?_) (fun b z=>?_) fun _=>hk
  ·by_cases hb:b=a
   ·exact .inr ⟨_,_,if_pos hb⟩
   ·exact .inl (if_neg hb)
  ·by_cases hb:b=a
   ·have z':=(if_pos hb).symm.trans z
    cases z'
    subst hb
    exact⟨ha,by rw[zqU];exact hl,vs,_,rv,ha⟩
   ·have z':=(if_neg hb).symm.trans z
    cases z'
  ·by_cases hb:b=a
   ·exact hb
   ·exact absurd (if_neg hb) z
abbrev KOf {K:Frag}{h:Heap}(_:K.In h):Frag:=K
theorem zhM {l:PySem.W.OpenLaw}{n k:Nat}{q:Program}{loose:List Str}{XP:(Str->Option Value)->Heap->Prop}{YP:World->Heap->Prop}{d:DefRec}{K:Params->Frag}{CX:World->CXT}{sp:World->Sp}{x:Str}
  (hn:l.most=some n)(hn2:n<=sizeLine)(hdf:d.params.defaults=[])(hr:Zb k callerA)
  (hY:∀(w:World) (h:Heap),YP w h->(K w.params).In h)
  (F:∀(w:World) (mg:Str->Option Value) (fa:Addr) (h:Heap),(K w.params).In h->h.Ns mainGlobals mg->mg d.name=some (.ref fa) ->
   ∃fd:FuncData,(∀(s:Shared) (u:Value),BindsTo s fd ⟨[u],[]⟩ [(x,u)]) /\
    ∀base:Heap,(K w.params).In base->base.Ns mainGlobals mg->zB l.prog w (K w.params) mg base (CX w) k fa fd [x] (sp w))
  (hsp:∀(w:World) (H:Hp) (a:Addr) (ns:List Int),ns.length<=n->Only H->zZ (K w.params) H a (ns.map V.int)->sp w [.ref a] H (fun v _=>v=.bl true) fun _ _ _=>False)
  (hCX:∀(w:World) (H:Hp) (s:Shared) (e:Value) (s':Shared),CX w [] H s (fun _ _ _=>False) e s'->False) :
  PySem.W.WalkO q loose XP YP l.row.toRowW d [] (fun f vs=>PySem.call f vs):=by
 refine Att.zcj hn hdf fun w s₀ s₁ mg mb fa o pm cd doc a vs ns G Y ho hd hcd hmg hobj hints hlen hg=>?_
 have KX:=hY w _ Y
 obtain⟨fd,hb,hF⟩:=F w mg fa _ KX G.T.g hmg
 exact zgg KX G.T.g G.T.b G.T.builtins G.T.nolimit hg hobj hints (zrg hlen hn2) hr hF hb (fun H hO hS=>hsp w H a ns hlen hO hS) fun H e s'=>hCX w H s₁ e s'
theorem zgh {l:PySem.W.OpenLaw}{n k:Nat}{q:Program}{loose:List Str}{XP:(Str->Option Value)->Heap->Prop}{YP:World->Heap->Prop}{d:DefRec}{K:Params->Frag}{CX:CXT}{sp:Frag->Sp}{x:Str}
  (hn:l.most=some n)(hn2:n<=sizeLine)(hdf:d.params.defaults=[])(hr:Zb k callerA)
  (hY:∀(w:World) (h:Heap),YP w h->(K w.params).In h)
  (F:∀(w:World) (mg:Str->Option Value) (fa:Addr) (h:Heap),(K w.params).In h->h.Ns mainGlobals mg->mg d.name=some (.ref fa) ->
   ∃fd:FuncData,(∀(s:Shared) (u:Value),BindsTo s fd ⟨[u],[]⟩ [(x,u)]) /\
    ∀base:Heap,(K w.params).In base->base.Ns mainGlobals mg->zB l.prog w (K w.params) mg base CX k fa fd [x] (sp (K w.params)))
  (hsp:∀(K:Frag) (H:Hp) (a:Addr) (ns:List Int),ns.length<=n->Only H->zZ K H a (ns.map V.int)->sp K [.ref a] H (fun v _=>v=.bl true) fun _ _ _=>False)
  (hCX:∀(H:Hp) (s:Shared) (e:Value) (s':Shared),CX [] H s (fun _ _ _=>False) e s'->False) :
  PySem.W.WalkO q loose XP YP l.row.toRowW d [] (fun f vs=>PySem.call f vs) :=
 zhM (K:=K) (CX:=fun _=>CX) (sp:=fun w=>sp (K w.params)) hn hn2 hdf hr hY F (fun w H a ns h1 h2 h3=>hsp (K w.params) H a ns h1 h2 h3) fun _ H s e s'=>hCX H s e s'
def inClass (s:Stmt)(j:Nat):Stmt:=match s with
 | .ClassDef _ _ _ body _ _ _ _ _ _ _=>body.getD j (.Pass ⟨0,0,0,0⟩)
 | _=>.Pass ⟨0,0,0,0⟩
def Yc (s:Stmt):Arguments:=match s with
 | .FunctionDef _ a _ _ _ _ _ _ _ _=>a
 | _=>{ posonlyargs:=[],args:=[],vararg:=none,kwonlyargs:=[],kw_defaults:=[],kwarg:=none,defaults:=[] }
def vI (s:Stmt):List Stmt:=match s with
 | .FunctionDef _ _ b _ _ _ _ _ _ _=>b
 | _=>[]
def zq (s:Stmt):Scope:=match s with
 | .FunctionDef _ _ _ _ _ _ sc _ _ _=>sc
 | _=>{ kind:=.function,names:=[],isGenerator:=false,isCoroutine:=false }
abbrev zX:CXT:=fun _ _ _ _ _ _=>False
abbrev E0:XK:=fun _ _ _=>False
theorem zeD {X:Cx}:Passes zX X E0:=fun _ _ _ _ _ _ _ h=>h.elim
structure Fun (K:Frag)(x qual:Str)(st:Stmt)(f:Addr)(fd:FuncData):Prop where
 ex:∃(oc:Value) (od:Option Addr) (kV doc pm:Value) (an:Option Addr) (cdv ct:Value) (osl:Array (Option Value)),
  fd=PySem.W.fnOf x qual (Yc st) (vI st) (zq st) .none kV doc pm an cdv ct/\K.lookup f=some ⟨oc,od,.func fd,osl⟩/\PySem.W.codeIn K cdv qual=true
 kp:PySem.W.keepIn K (.ref f)=true
section
variable {P:Program}{w:World}{K:Frag}{mg:Str->Option Value}{base:Heap}
theorem Fun.ok {x qual:Str}{st:Stmt}{f:Addr}{fd:FuncData}{N ps:List Str}{k:Nat}{sp:Sp}(F:Fun K x qual st f fd)(S:zF N ps (zq st))(len:∀vs H Q E,sp vs H Q E->vs.length=ps.length)
  (hbody:∀(cdv:Value) (A:Around) (outer:List Env) (s:Shared) (H:Hp) (vs:List V) (Q:VK) (E:XK),Zb k (A.deeper (envOfC qual (zq st) s.heap.objs.size f cdv))->sp vs H Q E ->
   ∃t,PSs (zfj zX P w K mg base N qual (zq st) f cdv A outer s H E).nox (vI st) t/\t { nx:=fun _ H'=>Q .non H',rt:=Q } (start N vs) H):zB P w K mg base zX (k+1) f fd ps sp:=by
 obtain⟨oc,od,kV,doc,pm,an,cdv,ct,osl,rfl,lk,hcd⟩:=F.ex
 refine zk4 lk hcd S len fun A outer s H vs Q E hr hsp=>?_
 obtain⟨t,h,q⟩:=hbody cdv A outer s H vs Q E hr hsp
 exact⟨t,h.nox,q⟩
theorem Fun.binds {x qual:Str}{st:Stmt}{f:Addr}{fd:FuncData}{ps:List Str}(F:Fun K x qual st f fd)
  (h:∀(kV doc pm:Value) (an:Option Addr) (cdv ct:Value) (us:List Value),us.length=ps.length->bindArgs (PySem.W.fnOf x qual (Yc st) (vI st) (zq st) .none kV doc pm an cdv ct) ⟨us,[]⟩=pure (ps.zip us)):Binds K fd ps []:=by
 obtain⟨oc,od,kV,doc,pm,an,cdv,ct,osl,rfl,lk,hcd⟩:=F.ex
 exact .all (h kV doc pm an cdv ct)
theorem zbg {x qual:Str}{st:Stmt}{f:Addr}{oc:Value}{od an:Option Addr}{osl:Array (Option Value)}{kV doc pm cdv ct:Value}(l:K.lookup f=some ⟨oc,od,.func (PySem.W.fnOf x qual (Yc st) (vI st) (zq st) .none kV doc pm an cdv ct),osl⟩)
  (c:PySem.W.codeIn K cdv qual=true)(k:PySem.W.keepIn K (.ref f)=true):Fun K x qual st f (PySem.W.fnOf x qual (Yc st) (vI st) (zq st) .none kV doc pm an cdv ct):=⟨⟨oc,od,kV,doc,pm,an,cdv,ct,osl,rfl,l,c⟩,k⟩
end
theorem Ky {A:Around}{k:Nat}(hr:Zb k A):A.units+1<cLine:=Nat.lt_of_le_of_lt (Nat.add_le_add_left (by decide:1<=64) _) hr.units
theorem yq {n:Nat}(h:n<=1000):n<sizeLine:=Nat.lt_of_le_of_lt h (by decide)
section
variable {X:Cx}
theorem pv (i:Nat){x:Str}{pos:Pos}(hN:X.N[i]?=some x:=by rfl)(hv:Vis X.env.scope x:=by first | exact Or.inl rfl | exact Or.inr (Or.inl rfl) | exact Or.inr (Or.inr rfl))(hd:(x==("__debug__" : Str))=false:=by decide)
  (hcd:(x==("__classdict__" : Str))=false:=by decide):PE X (.Name x pos) (Kl i):=zjt hN hv hd hcd
end
theorem Pz {A B:Prop}(h:B):if false=true then A else B:=by
 rw[if_neg zqY]
 exact h
theorem zgi {A B:Prop}(h:A):if true=true then A else B:=by
 rw[if_pos rfl]
 exact h
theorem yj {c A B:Prop}[Decidable c](h1:c->A)(h2:¬c->B):if c then A else B:=by
 by_cases h:c
 ·rw[if_pos h]
  exact h1 h
 ·rw[if_neg h]
  exact h2 h
def Same (H H':Hp):Prop:=∀b o,H b=some o->H' b=some o
theorem Same.refl (H:Hp):Same H H:=fun _ _ h=>h
theorem Same.trans {H H1 H2:Hp}(a:Same H H1)(b:Same H1 H2):Same H H2:=fun c o h=>b c o (a c o h)
theorem Same.free {H H':Hp}(e:Same H H'){l:Addr}(h:H' l=Option.none):H l=Option.none:=by
 cases q:H l with
 | none=>rfl
 | some o =>
  rw[e l o q] at h
  cases h
theorem Same.seq {K:Frag}{H H':Hp}{a:Addr}{xs:List V}(e:Same H H')(h:zZ K H a xs):zZ K H' a xs:=by
 rcases h with (h | ⟨o,h⟩) | h
 ·exact .inl (.inl (e _ _ h))
 ·exact .inl (.inr ⟨o,e _ _ h⟩)
 ·exact .inr h
end L2
set_option maxHeartbeats 8000000
namespace L2
open PySem PySem.Spec PyProof.Rows
section
variable {X:Cx}{pins:List (Addr×Obj)}{σ:St}{H:Hp}{s:Shared}
theorem T3.track {P:Program}{w:World}{H:Hp}{h:Heap}{a:Addr}{o:HO}(x:T3 P w H h)(hn:H a=none)(new:wG P w (upd H a o) h a o):T3 P w (upd H a o) h:=fun b u e=>by
 by_cases hb:b=a
 ·subst hb
  rw[zj] at e
  cases e
  exact new
 ·rw[zA hb] at e
  refine(x b u e).stay (fun _ _ _ q=>q) (fun c q=>?_) fun c xs q=>?_
  ·rw[zA (zy q hn)];exact q
  ·rw[zA (zy q hn)];exact q
theorem Inv.track {a:Addr}{o:HO}(I:Inv X pins σ H s)(hn:H a=none)(hL:a≠X.env.locals)(h0:X.s₀.heap.objs.size<=a)(hc:∀x c,X.env.cells.lookup x=some c->c≠a)(hp:∀p∈X.pn++pins,p.1≠a)
  (new:wG X.prog X.w (upd H a o) s.heap a o):Inv X pins σ (upd H a o) s:=by
 have old:∀b ob,X.s₀.heap.get? b=some ob->b≠a:=fun b ob e=>zq9 (zq3 (zq1 e) h0)
 refine⟨I.ok,I.os,I.bare,⟨fun b ob e n=>I.base.keep b ob e n,fun b ob e n=>I.base.slot b ob e n,fun b ob e n hx=>?_,fun b ob e hx=>I.base.there b ob e hx,fun b xs e=>?_,fun b ob u e=>?_,fun b ps e=>?_⟩,I.loc,I.cell,?_,fun x c e=>?_,fun p hm=>?_,I.hok.track hn new,I.len⟩
 ·rw[zA (old b ob e)];exact I.base.free b ob e n hx
 ·have q:=I.base.tups b xs e
  rw[zA (zy q hn)];exact q
 ·have q:=I.base.JW b ob u e
  rw[zA (zy q hn)];exact q
 ·obtain⟨mo,q⟩:=I.base.za2 b ps e
  exact⟨mo,by rw[zA (zy q hn)];exact q⟩
 ·rw[zA (Ne.symm hL)];exact I.free
 ·rw[zA (hc x c e)];exact I.V9 x c e
 ·obtain⟨z1,z2,z3⟩:=I.pin p hm
  exact⟨z1,by rw[zA (hp p hm)];exact z2,z3⟩
end
def clo:List (Str×NameKind)->List (Str×Addr)->List (Str×Addr)->List (Str×Addr)
 | [],_,acc=>acc
 | (n,k)::r,cells,acc=>clo r cells (if k==.free then (match cells.lookup n with | some c=>(n,c)::acc | none=>acc) else acc)
theorem WT (cells:List (Str×Addr)):∀(names:List (Str×NameKind)) (acc:List (Str×Addr)),(∀y c,acc.lookup y=some c->cells.lookup y=some c)->∀y c,(clo names cells acc).lookup y=some c->cells.lookup y=some c
 | [],acc,h=>h
 | (n,k)::r,acc,h=>by
  refine WT cells r _ fun y c e=>?_
  cases hk:k==NameKind.free with
  | false=>rw[hk] at e;exact h y c e
  | true =>
   rw[hk,if_pos rfl] at e
   cases hc:cells.lookup n with
   | none=>rw[hc] at e;exact h y c e
   | some a =>
    rw[hc] at e
    have e':(((n,a)::acc).lookup y)=some c:=e
    rw[zrk] at e'
    cases hy:y==n with
    | true =>
     rw[hy] at e'
     have z:y=n:=by simpa using hy
     subst z
     rw[hc];exact e'
    | false=>rw[hy] at e';exact h y c e'
theorem zaC (cells:List (Str×Addr)):∀(names:List (Str×NameKind)) (acc:List (Str×Addr)) (y:Str),(acc.lookup y).isSome=true->((clo names cells acc).lookup y).isSome=true
 | [],_,_,h=>h
 | (n,k)::r,acc,y,h=>by
  refine zaC cells r _ y ?_
  cases hk:k==NameKind.free with
  | false=>exact h
  | true =>
   rw[if_pos rfl]
   cases hc:cells.lookup n with
   | none=>exact h
   | some a =>
    show(((n,a)::acc).lookup y).isSome=true
    rw[zrk]
    cases hy:y==n with
    | true=>rfl
    | false=>exact h
theorem zbh (cells:List (Str×Addr)):∀(names:List (Str×NameKind)) (acc:List (Str×Addr)) (y:Str),(y,NameKind.free)∈names->(cells.lookup y).isSome=true->((clo names cells acc).lookup y).isSome=true
 | [],_,_,h,_=>by cases h
 | (n,k)::r,acc,y,h,hs=>by
  rcases List.mem_cons.mp h with e | h
  ·cases e
   refine zaC cells r _ n ?_
   show(((match cells.lookup n with | some c=>(n,c)::acc | none=>acc)).lookup n).isSome=true
   cases hc:cells.lookup n with
   | none=>rw[hc] at hs;cases hs
   | some a =>
    show(((n,a)::acc).lookup n).isSome=true
    rw[zrk]
    simp
  ·exact zbh cells r _ y h hs
theorem zeE {env:Env}:∀(names:List (Str×NameKind)) (acc:List (Str×Addr)),(∀y,(y,NameKind.free)∈names->(env.cells.lookup y).isSome=true) ->
  (forIn names acc fun(x:Str×NameKind) (cs:List (Str×Addr))=>if (x.2==NameKind.free)=true then do let c <-cellOf env x.1;pure (ForInStep.yield ((x.1,c)::cs)) else pure (ForInStep.yield cs):Sem (List (Str×Addr)))=pure (clo names env.cells acc)
 | [],acc,_=>rfl
 | (n,k)::r,acc,h=>by
  have ih:=fun acc'=>zeE (env:=env) r acc' fun y hy=>h y (zq5 _ hy)
  rw[List.forIn_cons]
  cases hk:k==NameKind.free with
  | false =>
   show((pure (ForInStep.yield acc):Sem _)>>=_)=_
   rw[pure_bind]
   show(forIn r acc _:Sem _)=_
   rw[ih acc]
   show pure (clo r env.cells acc)=pure (clo r env.cells (if (k==NameKind.free)=true then (match env.cells.lookup n with | some c=>(n,c)::acc | none=>acc) else acc))
   rw[hk];rfl
  | true =>
   have hkf:k=NameKind.free:=by simpa using hk
   subst hkf
   have hs:=h n zre
   cases hc:env.cells.lookup n with
   | none=>rw[hc] at hs;cases hs
   | some a =>
    have hcell:cellOf env n=pure a:=by unfold cellOf;rw[hc]
    show((cellOf env n>>=fun c=>(pure (ForInStep.yield ((n,c)::acc)):Sem _))>>=_)=_
    rw[hcell,pure_bind,pure_bind]
    show(forIn r ((n,a)::acc) _:Sem _)=_
    rw[ih]
    show pure (clo r env.cells ((n,a)::acc))=pure (clo r env.cells (match env.cells.lookup n with | some c=>(n,c)::acc | none=>acc))
    rw[hc]
theorem zdM {sc:Scope}{env:Env}(h:∀y,(y,NameKind.free)∈sc.names->(env.cells.lookup y).isSome=true):closureFor sc env=pure (clo sc.names env.cells []):=by
 unfold closureFor
 have:=zeE (env:=env) sc.names [] h
 simpa using this
structure XR (tZ sc:Scope)(x:Str)(fv:List Str):Prop where
 kind:sc.kind=.function
 Vh:∀y∈sc.names,y.2≠.cell
 names:∀y∈sc.names,y.2=.local->sc.names.lookup y.1=some .local
 hx:sc.names.lookup x=some .local
 fr:∀y∈sc.names,y.2=.free->tZ.names.lookup y.1=some .cell\/tZ.names.lookup y.1=some .free
 fvs:∀y∈fv,sc.names.lookup y=some .free/\(tZ.names.lookup y=some .cell\/tZ.names.lookup y=some .free)
 nd:(x::fv).Nodup
abbrev Cx.blk (X:Cx)(sc:Scope)(cl:List (Str×Addr))(C:Addr)(N:List Str)(s:Shared)(H:Hp)(fp:List Addr):Cx :=
 {X with N:=N,s₀:=s,H₀:=H,env:=compEnvC sc cl C X.env,outer:=X.stack,ex:=fp,fn:=fun _=>false,pn:=[],xe:=fun _ _=>False }
abbrev lcN (X:Cx)(x:Str)(js:List Nat):List Str:=x::js.map fun j=>X.N.getD j ""
abbrev YM (σ:St)(js:List Nat)(x:Option V):St:=x::js.map fun j=>σ.getD j none
theorem YQ {env:Env}:∀{names:List (Str×NameKind)} {y:Str} {k:NameKind},(names.map fun(n,k)=>if (k==NameKind.free&&env.scope.kind==.function&&env.kindOf n==some .cell) then (n,NameKind.cell) else (n,k)).lookup y=some k->(k=.cell\/k=.free)->(∀z∈names,z.2≠.cell)->(y,NameKind.free)∈names
 | [],_,_,h,_,_=>by simp at h
 | (n,k')::r,y,k,h,hk,hn=>by
  by_cases hc:(k'==NameKind.free&&env.scope.kind==.function&&env.kindOf n==some .cell)=true
  ·have hk':k'=NameKind.free:=by
    rw[zrm,zrm] at hc
    simpa using hc.1.1
   subst hk'
   rw[zrj] at h
   cases hy:y==n with
   | true =>
    have z:y=n:=by simpa using hy
    subst z
    exact zre
   | false =>
    have h':List.lookup y ((if (NameKind.free==NameKind.free&&env.scope.kind==.function&&env.kindOf n==some .cell)=true then (n,NameKind.cell) else (n,NameKind.free))::(r.map fun(n,k)=>if (k==NameKind.free&&env.scope.kind==.function&&env.kindOf n==some .cell) then (n,NameKind.cell) else (n,k)))=some k:=h
    rw[if_pos hc,zrk,hy] at h'
    exact zq5 _ (YQ h' hk fun z hz=>hn z (zq5 _ hz))
  ·have h':List.lookup y ((if (k'==NameKind.free&&env.scope.kind==.function&&env.kindOf n==some .cell)=true then (n,NameKind.cell) else (n,k'))::(r.map fun(n,k)=>if (k==NameKind.free&&env.scope.kind==.function&&env.kindOf n==some .cell) then (n,NameKind.cell) else (n,k)))=some k:=h
   rw[if_neg hc,zrk] at h'
   cases hy:y==n with
   | true =>
    rw[hy] at h'
    cases h'
    have z:y=n:=by simpa using hy
    subst z
    rcases hk with e | e
    ·exact absurd e (hn _ zre)
    ·subst e;exact zre
   | false =>
    rw[hy] at h'
    exact zq5 _ (YQ h' hk fun z hz=>hn z (zq5 _ hz))
theorem Kz {env:Env}:∀{names:List (Str×NameKind)} {y:Str},names.lookup y=some .free->(names.map fun(n,k)=>if (k==NameKind.free&&env.scope.kind==.function&&env.kindOf n==some .cell) then (n,NameKind.cell) else (n,k)).lookup y=some .cell\/(names.map fun(n,k)=>if (k==NameKind.free&&env.scope.kind==.function&&env.kindOf n==some .cell) then (n,NameKind.cell) else (n,k)).lookup y=some .free
 | [],_,h=>by simp at h
 | (n,k')::r,y,h=>by
  rw[zrk] at h
  rw[zrj]
  cases hy:y==n with
  | true =>
   rw[hy] at h
   cases h
   by_cases hc:(NameKind.free==NameKind.free&&env.scope.kind==.function&&env.kindOf n==some .cell)=true
   ·refine .inl ?_
    show List.lookup y ((if (NameKind.free==NameKind.free&&env.scope.kind==.function&&env.kindOf n==some .cell)=true then (n,NameKind.cell) else (n,NameKind.free))::_)=_
    rw[if_pos hc,zrk,hy]
   ·refine .inr ?_
    show List.lookup y ((if (NameKind.free==NameKind.free&&env.scope.kind==.function&&env.kindOf n==some .cell)=true then (n,NameKind.cell) else (n,NameKind.free))::_)=_
    rw[if_neg hc,zrk,hy]
  | false =>
   rw[hy] at h
   have ih:=Kz (env:=env) h
   by_cases hc:(k'==NameKind.free&&env.scope.kind==.function&&env.kindOf n==some .cell)=true
   ·show List.lookup y ((if (k'==NameKind.free&&env.scope.kind==.function&&env.kindOf n==some .cell)=true then (n,NameKind.cell) else (n,k'))::_)=_\/List.lookup y ((if (k'==NameKind.free&&env.scope.kind==.function&&env.kindOf n==some .cell)=true then (n,NameKind.cell) else (n,k'))::_)=_
    rw[if_pos hc,zrk,hy]
    exact ih
   ·show List.lookup y ((if (k'==NameKind.free&&env.scope.kind==.function&&env.kindOf n==some .cell)=true then (n,NameKind.cell) else (n,k'))::_)=_\/List.lookup y ((if (k'==NameKind.free&&env.scope.kind==.function&&env.kindOf n==some .cell)=true then (n,NameKind.cell) else (n,k'))::_)=_
    rw[if_neg hc,zrk,hy]
    exact ih
abbrev vM (its:List Value)(n:Nat):Obj:={ cls:=.type "list", data:=.seq its.toArray n }
abbrev YS (ifs:List Expr)(env:Env):Sem Bool :=
 forIn ifs true fun c r=>if r=true then do let ok <-isTrue c env (eval c env);pure (ForInStep.yield ok) else pure (ForInStep.yield r)
def tLC (wi:TI)(js:List Nat)(tt:TT)(te:TE):TE:=fun σ H Q=>wi σ H fun J H1=>∃W:Nat->Nat->List V->Hp->Prop,(∃m,W 0 m [] H1)/\∀i m ys H,W i m ys H ->
 (J.stop i H/\∀p,H p=none->Q (.ref p) (upd H p (.lst ys))) \/
 (J.go i H/\ys.length<sizeLine/\∀x H',J.Pj i H x H'->tt (YM σ js (some x)) H' fun b H2 =>
  if b=true then te (YM σ js (some x)) H2 fun v H3=>∃m',m'<m/\W (i+1) m' (ys++[v]) H3 else ∃m',m'<m/\W (i+1) m' ys H2)
section
variable {X:Cx}{sc tZ:Scope}{x:Str}{js:List Nat}{elt iter:Expr}{px pos:Pos}{ifs:List Expr}{wi:TI}{tt:TT}{te:TE}
theorem zhN {P:Program}{w:World}{A:Around}{R:Result->Shared->Prop}{st:Shared}{tg it acc}{cenv:Env}(Iv:Nat->Shared->Prop)
  (step:∀k st,Iv k st->wpAny (model P w) A (pyNext it) (fun got s1=>match got with
   | none=>R (.ok .next) s1
   | some v=>wpAny (model P w) A (letOwnedTupleGo tg it v) (fun _ s2=>wpAny (model P w) A (assign tg cenv v) (fun _ s3 =>
     wpAny (model P w) A (YS ifs cenv) (fun ok s4=>if ok=true then wpAny (model P w) A (eval elt cenv) (fun y s5 =>
       wpAny (model P w) A (call (.builtin "list.append") [acc,y]) (fun _ s6=>∃k',k'<k/\Iv k' s6) (notedBy (model P w) A cenv fun e z=>R (.error e) z) s5) (notedBy (model P w) A cenv fun e z=>R (.error e) z) s4
      else ∃k',k'<k/\Iv k' s4) (notedBy (model P w) A cenv fun e z=>R (.error e) z) s3) (notedBy (model P w) A cenv fun e z=>R (.error e) z) s2) (notedBy (model P w) A cenv fun e z=>R (.error e) z) s1)
   (notedBy (model P w) A cenv fun e z=>R (.error e) z) st)(k0:Nat)(h0:Iv k0 st) :
  codeAny (model P w) A (.compLoop (.ListComp elt [⟨tg,iter,ifs,0⟩] sc pos) 0 it acc cenv) R st:=by
 refine codeAny_loop rfl Iv (fun k st hk=>?_) k0 h0
 show wpAny _ A ((compTurn (.ListComp elt [⟨tg,iter,ifs,0⟩] sc pos) 0 it acc cenv).onRaise (fun e=>do noteFrame e cenv;theTreesLotGoes e)) _ _ st
 refine wpAny_noted ?_
 rw[compTurn_list]
 refine wpAny_bind (wpAny_standAt (wpAny_bind (wpAny_mono (step k st hk) (fun got s1 h1=>?_) fun _ _ z=>z)))
 cases got with
 | none=>exact wpAny_pure h1
 | some v =>
  refine wpAny_bind (wpAny_mono h1 (fun _ s2 h2=>?_) fun _ _ z=>z)
  refine wpAny_bind (wpAny_mono h2 (fun _ s3 h3=>wpAny_bind (wpAny_mono h3 (fun ok s4 h4=>?_) fun _ _ z=>z)) fun _ _ z=>z)
  cases ok with
  | false=>exact wpAny_pure ⟨rfl,h4⟩
  | true=>exact wpAny_bind (wpAny_bind (wpAny_mono h4 (fun y s5 h5=>wpAny_bind (wpAny_mono h5 (fun _ s6 h6=>wpAny_pure (wpAny_pure ⟨rfl,h6⟩)) fun _ _ z=>z)) fun _ _ z=>z))
structure Own (X:Cx)(pins:List (Addr×Obj))(H:Hp)(a:Addr):Prop where
 free:H a=none
 loc:a≠X.env.locals
 new:X.s₀.heap.objs.size<=a
 cel:∀x c,X.env.cells.lookup x=some c->c≠a
 pin:∀p∈X.pn++pins,p.1≠a
 fs:a∉X.fs
end
structure zeF (tZ sc:Scope)(xs:List Str)(fv:List Str):Prop where
 kind:sc.kind=.function
 Vh:∀y∈sc.names,y.2≠.cell
 names:∀y∈sc.names,y.2=.local->sc.names.lookup y.1=some .local
 fr:∀y∈sc.names,y.2=.free->tZ.names.lookup y.1=some .cell\/tZ.names.lookup y.1=some .free
 fvs:∀y∈fv,sc.names.lookup y=some .free/\(tZ.names.lookup y=some .cell\/tZ.names.lookup y=some .free)
abbrev RM (X:Cx)(xs:List Str)(js:List Nat):List Str:=xs++js.map fun j=>X.N.getD j ""
abbrev JV (σ:St)(js:List Nat)(os:List (Option V)):St:=os++js.map fun j=>σ.getD j none
def zna (wi:TI)(xs:List Str)(js:List Nat)(g:TG)(tt:TT)(te:TE):TE:=fun σ H Q=>wi σ H fun J H1=>∃W:Nat->Nat->List V->Hp->Prop,(∃m,W 0 m [] H1)/\∀i m ys H,W i m ys H ->
 (J.stop i H/\∀p,H p=none->Q (.ref p) (upd H p (.lst ys))) \/
 (J.go i H/\ys.length<sizeLine/\∀x H',J.Pj i H x H'->∀o0:List (Option V),o0.length=xs.length->g x (JV σ js o0) H' fun σ2 H1=>∃o1,σ2=JV σ js o1/\o1.length=xs.length/\tt σ2 H1 fun b H2 =>
  if b=true then te σ2 H2 fun v H3=>∃m',m'<m/\W (i+1) m' (ys++[v]) H3 else ∃m',m'<m/\W (i+1) m' ys H2)
section
variable {X:Cx}{sc tZ:Scope}{xs:List Str}{js:List Nat}
theorem zhO {pins:List (Addr×Obj)}{σ:St}{H:Hp}{s:Shared}{fp:List Addr}{C:Addr}(I:Inv X pins σ H s)(Vi:X.env.scope=tZ)(L:zeF tZ sc xs (js.map fun j=>X.N.getD j ""))
  (f2:∀b∈fp,JX X pins H b)(lt:∀b∈fp,b<s.heap.objs.size)(hC:s.heap.objs.size<=C):(X.blk sc (clo sc.names X.env.cells []) C (RM X xs js) s H fp).Ok where
 mod:=I.ok.mod
 kind:=L.kind
 glob:=I.ok.glob
 blt:=I.ok.blt
 above:=hC
 inj:=fun y z c h1 h2=>I.ok.inj y z c (WT _ _ [] (fun _ _ e=>by simp at e) y c h1) (WT _ _ [] (fun _ _ e=>by simp at e) z c h2)
 has:=fun y hy=>by
  have hy':(relabel sc X.env).names.lookup y=some .cell\/(relabel sc X.env).names.lookup y=some .free:=hy
  have hm:(y,NameKind.free)∈sc.names:=by
   rcases hy' with e | e
   ·exact YQ e (.inl rfl) L.Vh
   ·exact YQ e (.inr rfl) L.Vh
  have ho:X.env.kindOf y=some .cell\/X.env.kindOf y=some .free:=by
   show X.env.scope.names.lookup y=_\/X.env.scope.names.lookup y=_
   rw[Vi]
   exact L.fr _ hm rfl
  obtain⟨c,e⟩:=I.ok.has y ho
  exact Option.isSome_iff_exists.mp (zbh _ _ [] y hm (by rw[e];rfl))
 cab:=fun y c h=>by cases h
 hd:=I.ok.hd
 frames:=I.ok.frames
 stk:=.inl rfl
 exf:=fun b hb=>⟨zq9 (zq3 (lt b hb) hC),fun y c e=>(f2 b hb).2.2.2.2.1 y c (WT _ _ [] (fun _ _ e=>by simp at e) y c e)⟩
 bs:=I.bs
 bsz:=zrg I.ok.bsz I.sz
 ze8:=fun b o e hb=>by
  rcases (f2 b hb).2.2.2.1 with z | z
  ·exact I.ok.ze8 b o e z
  ·exact absurd (zq3 (zq1 (I.ok.bs b o e).1) z) (Nat.lt_irrefl _)
 ze9:=fun b hb hm=>by
  rcases List.mem_cons.mp (I.za4 b hm) with z | z
  ·exact(f2 b hb).2.1 z
  ·exact(f2 b hb).2.2.1 z
 Pk:=I.stack
 frf:=I.zer
end
section
variable {X:Cx}{sc tZ:Scope}{xs:List Str}{js:List Nat}{tg:Expr}{g:TG}{elt iter:Expr}{px pos:Pos}{ifs:List Expr}{wi:TI}{tt:TT}{te:TE}
theorem zgj {cl:List (Str×Addr)}{C D:Addr}{s₂:Shared}{H₂:Hp}{fp:List Addr}{pl:List (Addr×Obj)}{σ0:St}{H:Hp}{s:Shared}{u:Value}{v:V}{its:List Value}{n:Nat}{o0:List (Option V)}{E:Value->Shared->Prop}
  {Ny:V->Hp->Prop}{Nn:Hp->Prop}
  (hg:PG (X.blk sc cl C (RM X xs js) s₂ H₂ fp) tg g)
  (I:Inv (X.blk sc cl C (RM X xs js) s₂ H₂ fp) ((D,vM its n)::pl) (JV σ0 js o0) H s)(ru:RelV v u)
  (ht:∀(pins:List (Addr×Obj)) (s':Shared) (σ':St) (H':Hp) (Q:Bool->Hp->Prop),Inv (X.blk sc cl C (RM X xs js) s₂ H₂ fp) pins σ' H' s'->tt σ' H' Q ->
   wpAny (model X.prog X.w) X.A (YS ifs (compEnvC sc cl C X.env)) (TP (X.blk sc cl C (RM X xs js) s₂ H₂ fp) pins σ' Q) (fun _ _=>False) s')
  (he:PE (X.blk sc cl C (RM X xs js) s₂ H₂ fp) elt te)
  (hlen:its.length<sizeLine)(hD0:s₂.heap.objs.size<=D)(hDC:D≠C)(hDc:∀y c,cl.lookup y=some c->c≠D)(hDp:∀p∈pl,p.1≠D)
  (h:g v (JV σ0 js o0) H fun σ2 H1=>∃o1,σ2=JV σ0 js o1/\o1.length=xs.length/\tt σ2 H1 fun b H2=>if b=true then te σ2 H2 Ny else Nn H2) :
  wpAny (model X.prog X.w) X.A (assign tg (compEnvC sc cl C X.env) u) (fun _ s2 =>
   wpAny (model X.prog X.w) X.A (YS ifs (compEnvC sc cl C X.env)) (fun ok s3 =>
    if ok=true then wpAny (model X.prog X.w) X.A (eval elt (compEnvC sc cl C X.env)) (fun y s4 =>
     wpAny (model X.prog X.w) X.A (call (.builtin "list.append") [.ref D,y]) (fun _ s5=>∃z y' H5 o1,o1.length=xs.length/\Ny z H5/\RelV z y'/\Inv (X.blk sc cl C (RM X xs js) s₂ H₂ fp) ((D,vM (its++[y']) (n+1))::pl) (JV σ0 js o1) H5 s5) E s4) E s3
    else ∃H5 o1,o1.length=xs.length/\Nn H5/\Inv (X.blk sc cl C (RM X xs js) s₂ H₂ fp) ((D,vM its n)::pl) (JV σ0 js o1) H5 s3) E s2) E s:=by
 refine wpAny_mono (hg _ s _ H v u _ I ru h) (fun _ s2 ⟨σ6,H6,I6,o1,e1,l1,h6⟩=>?_) fun _ _ z=>False.elim z
 subst e1
 refine wpAny_mono (ht _ s2 _ _ _ I6 h6) (fun ok s3 ⟨H7,I7,q7⟩=>?_) fun _ _ z=>False.elim z
 cases ok with
 | false =>
  rw[if_neg zqY] at q7 ⊢
  exact⟨H7,o1,l1,q7,I7⟩
 | true =>
  rw[if_pos rfl] at q7 ⊢
  refine wpAny_mono (he _ s3 _ H7 _ I7 q7) (fun y s4 ⟨z,H8,I8,r8,q8⟩=>?_) fun _ _ z=>False.elim z
  obtain⟨p1,p2,p3,p4,p5⟩:=I8.pin (D,vM its n) (zrb _ zre)
  have p1':s4.heap.get? D=some { cls:=.type "list", data:=.seq its.toArray n }:=p1
  refine call_meets F.slot_list_append ⟨_,p1',rfl⟩ F.entry_list_append (F.args_list_append_2 _ _) (PySem.list_append D its.toArray n y (by rw[zq4];omega)) ⟨p1',?_⟩
  have q:=PySem.IsL.update p1' (fun a=>a.push y)
  have sz:((its.toArray.push y).size==its.toArray.size)=false:=by simp
  have e3:(s4.heap.update D (Obj.mapSeq fun a=>a.push y)).get? D=some (vM (its++[y]) (n+1)):=by
   have q':(s4.heap.update D (Obj.mapSeq fun a=>a.push y)).get? D=some { cls:=.type "list", data:=.seq (its.toArray.push y) (if ((its.toArray.push y).size==its.toArray.size)=true then n else n+1) }:=q
   rw[q',sz,if_neg zqY]
   simp
  have I9:Inv (X.blk sc cl C (RM X xs js) s₂ H₂ fp) pl (JV σ0 js o1) H8 s4:=I8.YL fun p hp=>I8.pin p (zrb _ (zq5 _ hp))
  have oth:∀b o,b≠D->s4.heap.get? b=some o->(s4.heap.update D (Obj.mapSeq fun a=>a.push y)).get? b=some o:=fun b o hb e=>(Heap.get?_update_other _ _ (Ne.symm hb)).trans e
  have I10:=I9.turned (t':=s4.toks) (h':=s4.heap.update D (Obj.mapSeq fun a=>a.push y)) (it:=D) oth p2 hDC (.inr hD0) hDc (fun p hp=>hDp p hp)
  refine⟨z,y,H8,o1,l1,q8,r8,I10.YL fun p hp=>?_⟩
  rcases List.mem_cons.mp hp with e | e
  ·subst e
   exact⟨e3,p2,p3,p4,fun w hw=>by cases hw⟩
  ·exact I10.pin p (zrb _ e)
theorem zck {use:Option (Value->Sem Unit)}{QQ:Value->Shared->Prop}{Fin:List V->Hp->Prop}{pins:List (Addr×Obj)}{s:Shared}{σ:St}{H:Hp}(Vi:X.env.scope=tZ)(L:zeF tZ sc xs (js.map fun j=>X.N.getD j "")){rd:Cx->Prop}(hc:∀sc cl C N s H fp,rd (X.blk sc cl C N s H fp))(hi:PIr rd X tg iter wi)(hg:∀(cl:List (Str×Addr)) (C:Addr) (s₂:Shared) (H₂:Hp) (fp:List Addr),PG (X.blk sc cl C (RM X xs js) s₂ H₂ fp) tg g)(hjs:∀j∈js,j<X.N.length)
  (ht:∀(cl:List (Str×Addr)) (C:Addr) (s₂:Shared) (H₂:Hp) (fp:List Addr) (pins:List (Addr×Obj)) (s':Shared) (σ':St) (H':Hp) (Q:Bool->Hp->Prop),Inv (X.blk sc cl C (RM X xs js) s₂ H₂ fp) pins σ' H' s'->tt σ' H' Q ->
   wpAny (model X.prog X.w) X.A (YS ifs (compEnvC sc cl C X.env)) (TP (X.blk sc cl C (RM X xs js) s₂ H₂ fp) pins σ' Q) (fun _ _=>False) s')
  (he:∀(cl:List (Str×Addr)) (C:Addr) (s₂:Shared) (H₂:Hp) (fp:List Addr),PE (X.blk sc cl C (RM X xs js) s₂ H₂ fp) elt te)
  (hs:∀x,foldedSetIterable iter X.env x=pure x)(I:Inv X pins σ H s)
  (h:wi σ H fun J H1=>∃W:Nat->Nat->List V->Hp->Prop,(∃m,W 0 m [] H1)/\∀i m ys H,W i m ys H->(J.stop i H/\Fin ys H) \/
   (J.go i H/\ys.length<sizeLine/\∀x H',J.Pj i H x H'->∀o0:List (Option V),o0.length=xs.length->g x (JV σ js o0) H' fun σ2 H1=>∃o1,σ2=JV σ js o1/\o1.length=xs.length/\tt σ2 H1 fun b H2 =>
    if b=true then te σ2 H2 fun v H3=>∃m',m'<m/\W (i+1) m' (ys++[v]) H3 else ∃m',m'<m/\W (i+1) m' ys H2))
  (hfin:∀(D C:Addr) (s5:Shared) (H5:Hp) (ys:List V) (its:List Value) (k:Nat) (m5:Str->Option Value),Inv X pins σ H5 s5->Own X pins H5 D->Own X pins H5 C->D≠C->s5.heap.get? D=some (vM its k)->Vals ys its->ys.length<=sizeLine->s5.heap.Ns C m5->Fin ys H5 ->
   compPost (model X.prog X.w) X.A X.xe use QQ (.ref D) C (.ok .next) s5) :
  wpAny (model X.prog X.w) X.A (comprehension (.ListComp elt [⟨tg,iter,ifs,0⟩] sc pos) sc X.env (firstIterPos [⟨tg,iter,ifs,0⟩] pos) (newList []) false (eval iter X.env) use) QQ X.xe s:=by
 have hcl:closureFor sc X.env=pure (clo sc.names X.env.cells []):=zdM fun y hy=>by
  have ho:X.env.kindOf y=some .cell\/X.env.kindOf y=some .free:=by
   show X.env.scope.names.lookup y=_\/X.env.scope.names.lookup y=_
   rw[Vi]
   exact L.fr _ hy rfl
  obtain⟨c,e⟩:=I.ok.has y ho
  rw[e];rfl
 refine wpAny_comprehension_free (use:=use) rfl hs hcl L.kind L.names (wC (hi pins s σ H _ I h) fun v s1 h1=>wC h1 fun itv s2 h2=>?_)
 obtain⟨it,fp,tn,J,H2,e,I2,T,st2,f2,W,⟨m0,w0⟩,turn⟩:=h2
 subst e
 refine wpAny_newObj_type (wpAny_newFunctionEnv L.Vh (by intro y hy;simp at hy) (fun h₁ hns₁ hsb₁=>?_) L.kind)
 dsimp only at hns₁ hsb₁ ⊢
 generalize hG:s2.heap.push { cls:=.type "list", dict:=none,data:=.seq ([]:List Value).toArray }=G at hns₁ hsb₁ ⊢
 have hGs:G.objs.size=s2.heap.objs.size+1:=by rw[<-hG,Heap.size_push]
 have hCle:s2.heap.objs.size<=G.objs.size:=by rw[hGs];exact Nat.le_succ _
 have hDC:s2.heap.objs.size≠G.objs.size:=by rw[hGs];exact zq9 (Nat.lt_succ_self _)
 have old:∀b o,s2.heap.get? b=some o->h₁.get? b=some o:=fun b o e=>by
  have lt:=zq1 e
  refine hsb₁.extBut b o (zq9 (zq3 lt hCle)) (zq0 _ ?_)
  rw[<-hG]
  exact zq0 _ e
 have hacc:h₁.get? s2.heap.objs.size=some (vM [] 0):=by
  refine hsb₁.extBut _ _ hDC (zq0 _ ?_)
  rw[<-hG]
  exact zrf _ rfl
 have lt:∀b∈fp,b<s2.heap.objs.size:=fun b hb=>by
  obtain⟨o,e,_⟩:=T.obj _ _ st2 b hb
  exact zq1 e
 have clS:∀y c,(clo sc.names X.env.cells []).lookup y=some c->X.env.cells.lookup y=some c:=WT _ _ [] (fun _ _ e=>by simp at e)
 have znb:∀y c,(clo sc.names X.env.cells []).lookup y=some c->c<s2.heap.objs.size:=fun y c e=>by
  obtain⟨v,o,q,_⟩:=I2.cell y c (clS y c e)
  exact zq1 q
 have Bok:(X.blk sc (clo sc.names X.env.cells []) G.objs.size (RM X xs js) s2 H2 fp).Ok:=zhO I2 Vi L f2 lt hCle
 have fresh:∀a,s2.heap.objs.size<=a->H2 a=none:=fun a ha=>I2.hok.fresh ha
 have zjP:∀b∈frs X.stack,b<s2.heap.objs.size:=fun b hb=>by
  rcases List.mem_cons.mp (I2.za4 b hb) with z | z
  ·rw[z];exact I2.lt
  ·refine Nat.lt_of_not_le fun q=>I2.zjr q z
 have B0:Inv (X.blk sc (clo sc.names X.env.cells []) G.objs.size (RM X xs js) s2 H2 fp) [(s2.heap.objs.size,vM [] 0)] (JV σ js (List.replicate xs.length none)) H2 { s2 with heap:=h₁,toks:=s2.toks+([]:List (Str×Value)).length }:=by
  refine⟨Bok,rfl,I2.bare,Un.kept old,⟨_,hns₁,fun i y v e1 e2 e3=>?_⟩,fun y c e=>?_,fresh _ hCle,fun y c e=>I2.V9 y c (clS y c e),fun p hp=>?_,I2.hok.kept old,?_⟩
  ·by_cases hlt:i<xs.length
   ·exfalso
    have e2'':(List.replicate xs.length (none:Option V)++js.map fun j=>σ.getD j none)[i]?=some (some v):=e2
    rw[zrr (by rw[List.length_replicate];exact hlt),List.getElem?_replicate,if_pos hlt] at e2''
    cases e2''
   ·have e1':(js.map fun j=>X.N.getD j "")[i-xs.length]?=some y:=by
     have z:(xs++js.map fun j=>X.N.getD j "")[i]?=some y:=e1
     rw[List.getElem?_append_right (by omega)] at z
     exact z
    have e2':(js.map fun j=>σ.getD j none)[i-xs.length]?=some (some v):=by
     have z:(List.replicate xs.length (none:Option V)++js.map fun j=>σ.getD j none)[i]?=some (some v):=e2
     rw[List.getElem?_append_right (by rw[List.length_replicate];omega),List.length_replicate] at z
     exact z
    have e1s:=e1'
    rw[zqW] at e1' e2'
    cases hj:js[i-xs.length]? with
    | none=>rw[hj] at e1';cases e1'
    | some j =>
     rw[hj] at e1' e2'
     have e4:X.N.getD j ""=y:=zrp e1'
     have e5:σ.getD j none=some v:=zrp e2'
     have hjl:=hjs j (zqZ hj)
     have e6:X.N[j]?=some y:=by
      rw[zq7,zqV hjl] at e4
      rw[zqV hjl]
      exact congrArg some e4
     have e7:σ[j]?=some (some v):=by
      rw[zq7] at e5
      cases hq:σ[j]? with
      | none=>rw[hq] at e5;cases e5
      | some w=>rw[hq] at e5;exact congrArg some e5
     obtain⟨hm0,hk⟩:=L.fvs y (zqZ e1s)
     have hm:(y,NameKind.free)∈sc.names:=PySem.mem_of_lookup hm0
     have hk':X.env.kindOf y=some .cell\/X.env.kindOf y=some .free:=by
      show X.env.scope.names.lookup y=_\/X.env.scope.names.lookup y=_
      rw[Vi];exact hk
     have hv:Vis X.env.scope y:=by rcases hk' with z | z;exact .inr (.inl z);exact .inr (.inr z)
     obtain⟨m,hn,hl⟩:=I2.loc
     obtain⟨u,r,l⟩:=hl j y v e6 e7 hv
     refine⟨u,r,.inr ?_⟩
     rcases l with ⟨z,_⟩ | ⟨_,c,hc1,hc2⟩
     ·rw[z] at hk';rcases hk' with q | q<;>cases q
     ·have hs2:((clo sc.names X.env.cells []).lookup y).isSome=true:=zbh _ _ [] y hm (by rw[hc1];rfl)
      obtain⟨c',hc'⟩:=Option.isSome_iff_exists.mp hs2
      have hcc:c'=c:=by have:=clS y c' hc';rw[hc1] at this;exact(zrp this).symm
      subst hcc
      obtain⟨o,ho,hd⟩:=hc2
      exact⟨Kz hm0,c',hc',o,old _ o ho,hd⟩
  ·obtain⟨v,o,q,d⟩:=I2.cell y c (clS y c e)
   exact⟨v,o,old _ o q,d⟩
  ·have e:p=(s2.heap.objs.size,vM [] 0):=by simpa using hp
   subst e
   exact⟨hacc,fresh _ (zra _),hDC,fun z=>Nat.lt_irrefl _ (zjP _ z),fun w hw=>by cases hw⟩
  ·show _=(RM X xs js).length
   simp
 have stat:∀{H':Hp} {pl:List (Addr×Obj)},(∀b∈fp,H' b=none)->(∀p∈pl,p.1=s2.heap.objs.size)->∀b∈fp,JX (X.blk sc (clo sc.names X.env.cells []) G.objs.size (RM X xs js) s2 H2 fp) pl H' b:=fun hn hp b hb =>
  ⟨hn b hb,(Bok.exf b hb).1,Bok.ze9 b hb,.inl hb,(Bok.exf b hb).2,fun p hm=>by
   rw[hp p (by simpa using hm)]
   exact Ne.symm (zq9 (lt b hb))⟩
 have loop:∀s3:Shared,s3={ s2 with heap:=h₁,toks:=s2.toks+([]:List (Str×Value)).length } ->
   codeAny (model X.prog X.w) X.A (.compLoop (.ListComp elt [⟨tg,iter,ifs,0⟩] sc pos) 0 (.ref it) (.ref s2.heap.objs.size) (compEnvC sc (clo sc.names X.env.cells []) G.objs.size X.env))
    (compPost (model X.prog X.w) X.A X.xe use QQ (.ref s2.heap.objs.size) G.objs.size) s3:=by
  rintro s3 rfl
  refine zhN (fun n s'=>∃i ys its k o0 H',o0.length=xs.length/\Inv (X.blk sc (clo sc.names X.env.cells []) G.objs.size (RM X xs js) s2 H2 fp) [(s2.heap.objs.size,vM its k)] (JV σ js o0) H' s'/\tn i s'.heap/\(∀b∈fp,H' b=none)/\Vals ys its/\ys.length<=sizeLine/\W i n ys H') ?_ m0
   ⟨0,[],[],0,List.replicate xs.length none,H2,List.length_replicate,B0,T.keep _ _ _ st2 fun b _ o e=>old b o e,fun b hb=>(f2 b hb).1,.nil,zrh _,w0⟩
  rintro n s4 ⟨i,ys,its,k,o0,H4,lo0,I4,st4,fr4,vs4,z4,w4⟩
  have one:∀p∈[(s2.heap.objs.size,vM its k)],p.1=s2.heap.objs.size:=fun p hp=>by
   have e:p=(s2.heap.objs.size,vM its k):=by simpa using hp
   rw[e]
  rcases turn i n ys H4 w4 with ⟨stop,qn⟩ | ⟨go,zl,step⟩
  ·refine wC (T.done (X.blk sc (clo sc.names X.env.cells []) G.objs.size (RM X xs js) s2 H2 fp) rfl rfl rfl (hc _ _ _ _ _ _ _) i _ s4 _ H4 _ I4 (stat fr4 one) st4 stop) fun r s5 ⟨hr,I5⟩=>?_
   subst hr
   obtain⟨m5,hn5,_⟩:=I5.loc
   obtain⟨p1,p2,p3,p4,p5⟩:=I5.pin (s2.heap.objs.size,vM its k) (by simp)
   have ch:∀b∈fp,(b∈X.ex\/X.s₀.heap.objs.size<=b)/\b≠X.env.locals/\(∀x c,X.env.cells.lookup x=some c->c≠b)/\∀p∈X.pn++pins,p.1≠b:=fun b hb =>
    ⟨(f2 b hb).2.2.2.1,(f2 b hb).2.1,(f2 b hb).2.2.2.2.1,(f2 b hb).2.2.2.2.2⟩
   have J1:Inv X pins σ H4 s5:=I2.call' I5.os I5.base I5.hok I5.bare ch
   have ltp:∀p∈X.pn++pins,p.1<s2.heap.objs.size:=fun p hp=>zq1 (I2.pin p hp).1
   have ltc:∀y c,X.env.cells.lookup y=some c->c<s2.heap.objs.size:=fun y c e=>by
    obtain⟨v,o,q,_⟩:=I2.cell y c e
    exact zq1 q
   have s0:X.s₀.heap.objs.size<=s2.heap.objs.size:=I2.sz
   have own:∀a,s2.heap.objs.size<=a->H4 a=none->Own X pins H4 a:=fun a ha hn=>⟨hn,Ne.symm (zq9 (zq3 I2.lt ha)),zrg s0 ha,fun y c e=>zq9 (zq3 (ltc y c e) ha),
    fun p hp=>zq9 (zq3 (ltp p hp) ha),I2.zjr ha⟩
   exact hfin _ _ s5 H4 ys its k m5 J1 (own _ (zra _) p2) (own _ hCle I5.free) hDC p1 vs4 z4 hn5 qn
  ·refine wC (T.item (X.blk sc (clo sc.names X.env.cells []) G.objs.size (RM X xs js) s2 H2 fp) rfl rfl rfl (hc _ _ _ _ _ _ _) i _ s4 _ H4 _ I4 (stat fr4 one) st4 go) fun r s5 ⟨u,hr,h5⟩=>?_
   subst hr
   refine wpAny_mono h5 (fun _ s5' ⟨v,H6,I6,r6,y6,st6,fr6⟩=>?_) fun _ _ z=>z
   have I7:=I6.pinned (stat fr6 one) (T.obj _ _ st6)
   have zne:∀p∈S7 fp s5'.heap,p.1≠s2.heap.objs.size:=fun p hp=>zq9 (lt _ (zat hp).1)
   have zo4:=vs4.length
   have back:∀{its':List Value} {k':Nat} {H7:Hp} {s7:Shared} {ys':List V} {m':Nat} {o1:List (Option V)},o1.length=xs.length->Inv (X.blk sc (clo sc.names X.env.cells []) G.objs.size (RM X xs js) s2 H2 fp) ((s2.heap.objs.size,vM its' k')::S7 fp s5'.heap) (JV σ js o1) H7 s7 ->
     Vals ys' its'->ys'.length<=sizeLine->m'<n->W (i+1) m' ys' H7->∃m,m<n/\∃i ys its k o0 H',o0.length=xs.length/\Inv (X.blk sc (clo sc.names X.env.cells []) G.objs.size (RM X xs js) s2 H2 fp) [(s2.heap.objs.size,vM its k)] (JV σ js o0) H' s7/\tn i s7.heap/\(∀b∈fp,H' b=none)/\Vals ys its/\ys.length<=sizeLine/\W i m ys H':=by
    intro its' k' H7 s7 ys' m' o1 l1 J vs' z' hm w'
    refine⟨m',hm,i+1,ys',its',k',o1,H7,l1,J.YL fun p hp=>J.pin p (zrb _ (by simp at hp;simp[hp])),?_,?_,vs',z',w'⟩
    ·exact T.keep _ _ _ st6 fun b hb o e=>(J.pin (b,o) (zrb _ (zq5 _ (Vg hb e)))).1
    ·intro b hb
     obtain⟨o,e,_⟩:=T.obj _ _ st6 b hb
     exact(J.pin (b,o) (zrb _ (zq5 _ (Vg hb e)))).2.1
   refine wpAny_mono (zgj (X:=X) (sc:=sc) (xs:=xs) (js:=js) (tg:=tg) (g:=g) (elt:=elt) (ifs:=ifs) (tt:=tt) (te:=te) (D:=s2.heap.objs.size) (its:=its) (n:=k) (pl:=S7 fp s5'.heap)
    (hg _ _ _ _ _) I7 r6 (ht _ _ _ _ _) (he _ _ _ _ _) (by omega) (zra _) hDC (fun y c e=>zq9 (znb y c e)) zne (step v H6 y6 o0 lo0)) (fun _ s6 h6=>?_) fun _ _ z=>z
   refine wpAny_mono h6 (fun ok s7 h7=>?_) fun _ _ z=>z
   cases ok with
   | false =>
    rw[if_neg zqY] at h7 ⊢
    obtain⟨H7,o1,l1,⟨m',hm,w'⟩,J⟩:=h7
    exact back l1 J vs4 z4 hm w'
   | true =>
    rw[if_pos rfl] at h7 ⊢
    refine wpAny_mono h7 (fun y s8 h8=>?_) fun _ _ z=>z
    refine wpAny_mono h8 (fun _ s9 h9=>?_) fun _ _ z=>z
    obtain⟨z,y',H9,o1,l1,⟨m',hm,w'⟩,rz,J⟩:=h9
    refine back l1 J (vs4.append (.cons rz .nil)) ?_ hm w'
    rw[zq2,zrs]
    omega
 exact codeAny_compStart_list (loop _ rfl) (T.self _ 0 _ _ _ (T.keep _ _ _ st2 fun b _ o e=>old b o e) (loop _ rfl))
end
section
variable {X:Cx}{sc tZ:Scope}{x:Str}{js:List Nat}{elt iter:Expr}{px pos:Pos}{ifs:List Expr}{wi:TI}{tt:TT}{te:TE}
theorem zeG {use:Option (Value->Sem Unit)}{QQ:Value->Shared->Prop}{Fin:List V->Hp->Prop}{pins:List (Addr×Obj)}{s:Shared}{σ:St}{H:Hp}(Vi:X.env.scope=tZ)(L:XR tZ sc x (js.map fun j=>X.N.getD j "")){rd:Cx->Prop}(hc:∀sc cl C N s H fp,rd (X.blk sc cl C N s H fp))(hi:PIr rd X (.Name x px) iter wi)(hjs:∀j∈js,j<X.N.length)
  (ht:∀(cl:List (Str×Addr)) (C:Addr) (s₂:Shared) (H₂:Hp) (fp:List Addr) (pins:List (Addr×Obj)) (s':Shared) (σ':St) (H':Hp) (Q:Bool->Hp->Prop),Inv (X.blk sc cl C (lcN X x js) s₂ H₂ fp) pins σ' H' s'->tt σ' H' Q ->
   wpAny (model X.prog X.w) X.A (YS ifs (compEnvC sc cl C X.env)) (TP (X.blk sc cl C (lcN X x js) s₂ H₂ fp) pins σ' Q) (fun _ _=>False) s')
  (he:∀(cl:List (Str×Addr)) (C:Addr) (s₂:Shared) (H₂:Hp) (fp:List Addr),PE (X.blk sc cl C (lcN X x js) s₂ H₂ fp) elt te)
  (hs:∀x,foldedSetIterable iter X.env x=pure x)(I:Inv X pins σ H s)
  (h:wi σ H fun J H1=>∃W:Nat->Nat->List V->Hp->Prop,(∃m,W 0 m [] H1)/\∀i m ys H,W i m ys H->(J.stop i H/\Fin ys H) \/
   (J.go i H/\ys.length<sizeLine/\∀x H',J.Pj i H x H'->tt (YM σ js (some x)) H' fun b H2 =>
    if b=true then te (YM σ js (some x)) H2 fun v H3=>∃m',m'<m/\W (i+1) m' (ys++[v]) H3 else ∃m',m'<m/\W (i+1) m' ys H2))
  (hfin:∀(D C:Addr) (s5:Shared) (H5:Hp) (ys:List V) (its:List Value) (k:Nat) (m5:Str->Option Value),Inv X pins σ H5 s5->Own X pins H5 D->Own X pins H5 C->D≠C->s5.heap.get? D=some (vM its k)->Vals ys its->ys.length<=sizeLine->s5.heap.Ns C m5->Fin ys H5 ->
   compPost (model X.prog X.w) X.A X.xe use QQ (.ref D) C (.ok .next) s5) :
  wpAny (model X.prog X.w) X.A (comprehension (.ListComp elt [⟨.Name x px,iter,ifs,0⟩] sc pos) sc X.env (firstIterPos [⟨.Name x px,iter,ifs,0⟩] pos) (newList []) false (eval iter X.env) use) QQ X.xe s:=by
 have e:(fun(J:It) (H1:Hp)=>∃W:Nat->Nat->List V->Hp->Prop,(∃m,W 0 m [] H1)/\∀i m ys H,W i m ys H->(J.stop i H/\Fin ys H) \/
   (J.go i H/\ys.length<sizeLine/\∀x H',J.Pj i H x H'->tt (YM σ js (some x)) H' fun b H2 =>
    if b=true then te (YM σ js (some x)) H2 fun v H3=>∃m',m'<m/\W (i+1) m' (ys++[v]) H3 else ∃m',m'<m/\W (i+1) m' ys H2)) =
   (fun(J:It) (H1:Hp)=>∃W:Nat->Nat->List V->Hp->Prop,(∃m,W 0 m [] H1)/\∀i m ys H,W i m ys H->(J.stop i H/\Fin ys H) \/
   (J.go i H/\ys.length<sizeLine/\∀y H',J.Pj i H y H'->∀o0:List (Option V),o0.length=[x].length->VJ 0 y (JV σ js o0) H' fun σ2 H1=>∃o1,σ2=JV σ js o1/\o1.length=[x].length/\tt σ2 H1 fun b H2 =>
    if b=true then te σ2 H2 fun v H3=>∃m',m'<m/\W (i+1) m' (ys++[v]) H3 else ∃m',m'<m/\W (i+1) m' ys H2)):=by
  funext J H1
  refine propext ⟨fun⟨W,w0,w1⟩=>⟨W,w0,fun i m ys H hw=>?_⟩,fun⟨W,w0,w1⟩=>⟨W,w0,fun i m ys H hw=>?_⟩⟩
  ·rcases w1 i m ys H hw with a | ⟨a,b,c⟩
   ·exact .inl a
   ·refine .inr ⟨a,b,fun y H' hy o0 ho=>?_⟩
    match o0,ho with
    | [o],_=>exact⟨[some y],rfl,rfl,c y H' hy⟩
  ·rcases w1 i m ys H hw with a | ⟨a,b,c⟩
   ·exact .inl a
   ·refine .inr ⟨a,b,fun y H' hy=>?_⟩
    obtain⟨o1,e1,e2,e3⟩:=c y H' hy [none] rfl
    exact e3
 rw[e] at h
 exact zck (xs:=[x]) (g:=VJ 0) Vi ⟨L.kind,L.Vh,L.names,L.fr,L.fvs⟩ hc hi (fun cl C s₂ H₂ fp=>yD (X:=X.blk sc cl C (RM X [x] js) s₂ H₂ fp) L.nd rfl (.inl (lookup_relabel_local L.hx)) (.inr (lookup_relabel_local L.hx))) hjs ht he hs I h hfin
theorem zhP (Vi:X.env.scope=tZ)(L:XR tZ sc x (js.map fun j=>X.N.getD j "")){rd:Cx->Prop}(hc:∀sc cl C N s H fp,rd (X.blk sc cl C N s H fp))(hi:PIr rd X (.Name x px) iter wi)(hjs:∀j∈js,j<X.N.length)
  (ht:∀(cl:List (Str×Addr)) (C:Addr) (s₂:Shared) (H₂:Hp) (fp:List Addr) (pins:List (Addr×Obj)) (s':Shared) (σ':St) (H':Hp) (Q:Bool->Hp->Prop),Inv (X.blk sc cl C (lcN X x js) s₂ H₂ fp) pins σ' H' s'->tt σ' H' Q ->
   wpAny (model X.prog X.w) X.A (YS ifs (compEnvC sc cl C X.env)) (TP (X.blk sc cl C (lcN X x js) s₂ H₂ fp) pins σ' Q) (fun _ _=>False) s')
  (he:∀(cl:List (Str×Addr)) (C:Addr) (s₂:Shared) (H₂:Hp) (fp:List Addr),PE (X.blk sc cl C (lcN X x js) s₂ H₂ fp) elt te)
  (hs:∀x,foldedSetIterable iter X.env x=pure x:=by intro _;rfl) :
  PE X (.ListComp elt [⟨.Name x px,iter,ifs,0⟩] sc pos) (tLC wi js tt te):=by
 intro pins s σ H Q I h
 rw[eval_ListComp]
 refine zeG (use:=none) (Fin:=fun ys H=>∀p,H p=none->Q (.ref p) (upd H p (.lst ys))) Vi L hc hi hjs ht he hs I h fun D C s5 H5 ys its k m5 J oD oC hDC p1 vs z hn fin=>?_
 refine⟨m5,hn,fun h' hsb=>?_⟩
 have J2:Inv X pins σ H5 { s5 with heap:=h',toks:=s5.toks }:=J.turned (it:=C) (fun b o hb e=>hsb.extBut b o hb e) oC.free oC.loc (.inr oC.new) oC.cel oC.pin
 have p1':h'.get? D=some (vM its k):=hsb.extBut _ _ hDC p1
 have J3:Inv X pins σ (upd H5 D (.lst ys)) { s5 with heap:=h',toks:=s5.toks }:=J2.track oD.free oD.loc oD.new oD.cel oD.pin ⟨z,its,k,vs,p1'⟩
 exact⟨.ref D,_,J3,rfl,fin D oD.free⟩
theorem zjS (Vi:X.env.scope=tZ)(L:XR tZ sc x (js.map fun j=>X.N.getD j ""))(hc:X.calm=true)(hi:PI X (.Name x px) iter wi)(hjs:∀j∈js,j<X.N.length)
  (ht:∀(cl:List (Str×Addr)) (C:Addr) (s₂:Shared) (H₂:Hp) (fp:List Addr) (pins:List (Addr×Obj)) (s':Shared) (σ':St) (H':Hp) (Q:Bool->Hp->Prop),Inv (X.blk sc cl C (lcN X x js) s₂ H₂ fp) pins σ' H' s'->tt σ' H' Q ->
   wpAny (model X.prog X.w) X.A (YS ifs (compEnvC sc cl C X.env)) (TP (X.blk sc cl C (lcN X x js) s₂ H₂ fp) pins σ' Q) (fun _ _=>False) s')
  (he:∀(cl:List (Str×Addr)) (C:Addr) (s₂:Shared) (H₂:Hp) (fp:List Addr),PE (X.blk sc cl C (lcN X x js) s₂ H₂ fp) elt te)
  (hs:∀x,foldedSetIterable iter X.env x=pure x:=by intro _;rfl) :
  PE X (.ListComp elt [⟨.Name x px,iter,ifs,0⟩] sc pos) (tLC wi js tt te) :=
 zhP Vi L (rd:=Calm) (fun _ _ _ _ _ _ _=>hc) hi hjs ht he hs
def sLC (i:Nat)(wi:TI)(js:List Nat)(tt:TT)(te:TE):TS:=fun D σ H=>tLC wi js tt te σ H fun v H1=>D.nx (σ.set i (some v)) H1
theorem KC {i:Nat}{y:Str}{py spos:Pos}(hN:X.N.Nodup)(hy:X.N[i]?=some y)(hl:Loc X.env.scope y)(hf:X.fn y=true\/X.env.scope.names.lookup y=some .local)
  (Vi:X.env.scope=tZ)(L:XR tZ sc x (js.map fun j=>X.N.getD j ""))(hc:X.calm=true)(hi:PI X (.Name x px) iter wi)(hjs:∀j∈js,j<X.N.length)
  (ht:∀(cl:List (Str×Addr)) (C:Addr) (s₂:Shared) (H₂:Hp) (fp:List Addr) (pins:List (Addr×Obj)) (s':Shared) (σ':St) (H':Hp) (Q:Bool->Hp->Prop),Inv (X.blk sc cl C (lcN X x js) s₂ H₂ fp) pins σ' H' s'->tt σ' H' Q ->
   wpAny (model X.prog X.w) X.A (YS ifs (compEnvC sc cl C X.env)) (TP (X.blk sc cl C (lcN X x js) s₂ H₂ fp) pins σ' Q) (fun _ _=>False) s')
  (he:∀(cl:List (Str×Addr)) (C:Addr) (s₂:Shared) (H₂:Hp) (fp:List Addr),PE (X.blk sc cl C (lcN X x js) s₂ H₂ fp) elt te)
  (hsw:swapsWith (.ListComp elt [⟨.Name x px,iter,ifs,0⟩] sc pos) (some (.Name y py)) spos.line X.env=pure true)(hs:∀x,foldedSetIterable iter X.env x=pure x:=by intro _;rfl) :
  PS X (.Assign [.Name y py] (.ListComp elt [⟨.Name x px,iter,ifs,0⟩] sc pos) spos) (sLC i wi js tt te):=by
 intro pins s σ H D I h
 rw[exec_Assign_Name_used _ _ _ _ hsw]
 refine wpAny_bind (wpAny_standAt (wpAny_bind ?_))
 show wpAny _ _ (do let _ <-comprehension (.ListComp elt [⟨.Name x px,iter,ifs,0⟩] sc pos) sc X.env _ (newList []) false (eval iter X.env) (some (assign (.Name y py) X.env))) _ _ s
 have pg:=yD (X:=X) (i:=i) (x:=y) (pos:=py) hN hy hl hf
 refine wpAny_bind (wpAny_mono (zeG (use:=some (assign (.Name y py) X.env)) (QQ:=fun _ z=>SP X pins D .next z) (Fin:=fun ys H=>∀p,H p=none->D.nx (σ.set i (some (.ref p))) (upd H p (.lst ys))) Vi L (rd:=Calm) (fun _ _ _ _ _ _ _=>hc) hi hjs ht he hs I h fun A C s5 H5 ys its k m5 J oD oC hDC p1 vs z hn fin=>?_) (fun _ z hq=>wpAny_pure (wpAny_pure hq)) fun _ _ e=>e)
 have J1:Inv X pins σ (upd H5 A (.lst ys)) s5:=J.track oD.free oD.loc oD.new oD.cel oD.pin ⟨z,its,k,vs,p1⟩
 obtain⟨oc,es,ep,hC,hd,hr⟩:=hn
 have Vh:∀v,oc.data≠.cell v:=fun v q=>by rw[hd] at q;cases q
 have hCA:C≠A:=Ne.symm hDC
 have fC:(upd H5 A (.lst ys)) C=none:=by rw[zA hCA];exact oC.free
 have J2:Inv X (pins++[(C,oc)]) σ (upd H5 A (.lst ys)) s5:=J1.YL fun p hp=>(List.mem_append.mp hp).elim (fun q=>J1.pin p (zrb _ q)) fun q=>by
  have e:p=(C,oc):=by simpa using q
  subst e
  exact⟨hC,fC,oC.loc,oC.fs,Vh⟩
 refine wpAny_mono (pg _ s5 σ _ (.ref A) (.ref A) (fun σ6 H6=>σ6=σ.set i (some (.ref A))/\H6=upd H5 A (.lst ys)) J2 rfl ⟨rfl,rfl⟩) (fun _ s6 ⟨σ6,H6,I6,e1,e2⟩=>?_) fun _ _ e=>e
 subst e1 e2
 obtain⟨c1,c2,_⟩:=I6.pin (C,oc) (zrb _ (zrb _ (by simp)))
 refine⟨m5,⟨oc,es,ep,c1,hd,hr⟩,fun h' hsb=>?_⟩
 have J3:Inv X pins (σ.set i (some (.ref A))) (upd H5 A (.lst ys)) s6:=I6.YL fun p hp=>I6.pin p (zrb _ (List.mem_append_left _ hp))
 have J4:Inv X pins (σ.set i (some (.ref A))) (upd H5 A (.lst ys)) { s6 with heap:=h',toks:=s6.toks }:=J3.turned (it:=C) (fun b o hb e=>hsb.extBut b o hb e) c2 oC.loc (.inr oC.new) oC.cel oC.pin
 exact⟨_,_,J4,fin A oD.free⟩
end
section
variable {X:Cx}
def Le:TT:=fun _ H Q=>Q true H
theorem Z0 {sc tZ:Scope}{x:Str}{js:List Nat}{elt iter:Expr}{px pos:Pos}{wi:TI}{te:TE}(Vi:X.env.scope=tZ)(L:XR tZ sc x (js.map fun j=>X.N.getD j ""))(hc:X.calm=true)(hi:PI X (.Name x px) iter wi)(hjs:∀j∈js,j<X.N.length)
  (he:∀(cl:List (Str×Addr)) (C:Addr) (s₂:Shared) (H₂:Hp) (fp:List Addr),PE (X.blk sc cl C (lcN X x js) s₂ H₂ fp) elt te)
  (hs:∀x,foldedSetIterable iter X.env x=pure x:=by intro _;rfl) :
  PE X (.ListComp elt [⟨.Name x px,iter,[],0⟩] sc pos) (tLC wi js Le te) :=
 zjS Vi L hc hi hjs (fun cl C s₂ H₂ fp pins s' σ' H' Q I h=>wpAny_pure ⟨H',I,h⟩) he hs
theorem zhQ {K:Frag}{a:Addr}{xs:List V}{σ:St}{js:List Nat}{tt:TT}{te:TE}{H:Hp}{Qf:Addr->Hp->List V->Prop}(Pv:Nat->List V->Hp->Prop)(h0:Pv 0 [] H)(hz:xs.length<=sizeLine)
  (hl:∀i ys H,i<=xs.length->Pv i ys H->zZ K H a xs/\ys.length<=i)
  (hs:∀i x ys H,xs[i]?=some x->Pv i ys H->tt (YM σ js (some x)) H fun b H2=>if b=true then te (YM σ js (some x)) H2 fun v H3=>Pv (i+1) (ys++[v]) H3 else Pv (i+1) ys H2)
  (mt:∀ σ H Q Q',(∀b H1,Q b H1->Q' b H1)->tt σ H Q->tt σ H Q')(me:∀ σ H Q Q',(∀v H1,Q v H1->Q' v H1)->te σ H Q->te σ H Q')
  (hd:∀ys H p,Pv xs.length ys H->H p=none->Qf p H ys) :
  ∃W:Nat->Nat->List V->Hp->Prop,(∃m,W 0 m [] H)/\∀i m ys H,W i m ys H ->
   ((Kq K a).stop i H/\∀p,H p=none->Qf p H ys) \/
   ((Kq K a).go i H/\ys.length<sizeLine/\∀x H',(Kq K a).Pj i H x H'->tt (YM σ js (some x)) H' fun b H2 =>
    if b=true then te (YM σ js (some x)) H2 fun v H3=>∃m',m'<m/\W (i+1) m' (ys++[v]) H3 else ∃m',m'<m/\W (i+1) m' ys H2):=by
 refine⟨fun i m ys H=>m=xs.length-i/\i<=xs.length/\Pv i ys H,⟨xs.length,by simp,zrh _,h0⟩,?_⟩
 rintro i m ys H ⟨rfl,hi,p⟩
 obtain⟨q,hy⟩:=hl i ys H hi p
 by_cases hlt:i<xs.length
 ·refine .inr ⟨⟨xs,xs[i],q,by simp[hlt]⟩,by omega,fun x H' y=>?_⟩
  obtain⟨e,y⟩:=y
  subst e
  refine mt _ _ _ _ (fun b H2 h2=>?_) (hs i x ys _ (y xs q) p)
  cases b with
  | true =>
   rw[if_pos rfl] at h2 ⊢
   exact me _ _ _ _ (fun v H3 h3=>⟨_,by omega,rfl,hlt,h3⟩) h2
  | false =>
   rw[if_neg zqY] at h2 ⊢
   exact⟨_,by omega,rfl,hlt,h2⟩
 ·have e:i=xs.length:=by omega
  subst e
  exact .inl ⟨⟨xs,q,zra _⟩,fun pp hp=>hd ys H pp p hp⟩
theorem zgk {K:Frag}{a:Addr}{xs:List V}{σ:St}{js:List Nat}{tt:TT}{te:TE}{H:Hp}{Qf:Addr->Hp->List V->Prop}(Pv:Nat->List V->Hp->Prop)(h0:Pv 0 [] H)(hz:xs.length<=sizeLine)
  (hl:∀i ys H,i<=xs.length->Pv i ys H->tY K H a xs/\ys.length<=i)
  (hs:∀i x ys H,xs[i]?=some x->Pv i ys H->tt (YM σ js (some x)) H fun b H2=>if b=true then te (YM σ js (some x)) H2 fun v H3=>Pv (i+1) (ys++[v]) H3 else Pv (i+1) ys H2)
  (mt:∀ σ H Q Q',(∀b H1,Q b H1->Q' b H1)->tt σ H Q->tt σ H Q')(me:∀ σ H Q Q',(∀v H1,Q v H1->Q' v H1)->te σ H Q->te σ H Q')
  (hd:∀ys H p,Pv xs.length ys H->H p=none->Qf p H ys) :
  ∃W:Nat->Nat->List V->Hp->Prop,(∃m,W 0 m [] H)/\∀i m ys H,W i m ys H ->
   ((Itt K a).stop i H/\∀p,H p=none->Qf p H ys) \/
   ((Itt K a).go i H/\ys.length<sizeLine/\∀x H',(Itt K a).Pj i H x H'->tt (YM σ js (some x)) H' fun b H2 =>
    if b=true then te (YM σ js (some x)) H2 fun v H3=>∃m',m'<m/\W (i+1) m' (ys++[v]) H3 else ∃m',m'<m/\W (i+1) m' ys H2):=by
 refine⟨fun i m ys H=>m=xs.length-i/\i<=xs.length/\Pv i ys H,⟨xs.length,by simp,zrh _,h0⟩,?_⟩
 rintro i m ys H ⟨rfl,hi,p⟩
 obtain⟨q,hy⟩:=hl i ys H hi p
 by_cases hlt:i<xs.length
 ·refine .inr ⟨⟨xs,xs[i],q,by simp[hlt]⟩,by omega,fun x H' y=>?_⟩
  obtain⟨e,y⟩:=y
  subst e
  refine mt _ _ _ _ (fun b H2 h2=>?_) (hs i x ys _ (y xs q) p)
  cases b with
  | true =>
   rw[if_pos rfl] at h2 ⊢
   exact me _ _ _ _ (fun v H3 h3=>⟨_,by omega,rfl,hlt,h3⟩) h2
  | false =>
   rw[if_neg zqY] at h2 ⊢
   exact⟨_,by omega,rfl,hlt,h2⟩
 ·have e:i=xs.length:=by omega
  subst e
  exact .inl ⟨⟨xs,q,zra _⟩,fun pp hp=>hd ys H pp p hp⟩
theorem KD {x:V}:∀{xs:List V} {us:List Value},Vals xs us->xs.all WQ=true->∀{j:Nat},xs.findIdx? (fun y=>eqV y x)=some j ->
  ∃hj:j<us.length,eqU x us[j]=true/\∀m (hm:m<us.length),m<j->eqU x us[m]=false
 | _,_,.nil,_,j,h=>by simp at h
 | y::xs,u::us,.cons r t,f,j,h=>by
  rw[List.all_cons,zrm] at f
  rw[List.findIdx?_cons] at h
  by_cases hy:eqV y x=true
  ·rw[if_pos hy] at h
   cases h
   refine⟨by simp,?_,fun m hm hlt=>absurd hlt (Nat.not_lt_zero _)⟩
   show eqU x u=true
   rw[zbe r f.1];exact hy
  ·rw[if_neg hy] at h
   cases hq:xs.findIdx? (fun y=>eqV y x) with
   | none=>rw[hq] at h;cases h
   | some k =>
    rw[hq] at h
    have e:k+1=j:=zrp h
    subst e
    obtain⟨hk,h1,h2⟩:=KD t f.2 hq
    refine⟨by rw[zq6];omega,h1,fun m hm hlt=>?_⟩
    cases m with
    | zero =>
     show eqU x u=false
     rw[zbe r f.1];exact Bool.eq_false_iff.mpr hy
    | succ m=>exact h2 m (by rw[zq6] at hm;omega) (by omega)
def zjT (K:Frag):V->List V->Hp->VK->Prop:=fun x vs H Q=>∃l xs y j,x=.ref l/\vs=[y]/\zZ K H l xs/\WQ y=true/\xs.all WQ=true/\xs.findIdx? (fun z=>eqV z y)=some j/\Q (.int (j:Nat)) H
theorem KH:MtM X "list.index" (zjT X.K):=by
 intro pins s σ H x vs v us Q I rx rv h
 obtain⟨l,xs,y,j,rfl,rfl,hq,fy,fs,hj,q⟩:=h
 cases rx
 obtain⟨u,rfl,ru⟩:=rv.one
 obtain⟨its,r,⟨o,n,e,hc,hd,hdat⟩,hz⟩:=I.list hq
 obtain⟨cls,dd,dt,sl⟩:=o
 have hc':cls=.type "list" := hc
 have hdat':dt=.seq its.toArray n:=hdat
 subst hc' hdat'
 obtain⟨h1,h2,h3⟩:=KD r fs hj
 have hl:=r.length
 have hn:=Ud
 refine call_meets F.slot_list_index ⟨_,e,rfl⟩ F.entry_list_index (F.args_list_index_2 _ _) (SeqAt.list_indexAt l its.toArray n dd sl u (eqU y) j (by simpa using h1) (by omega) (by simpa using h2) (fun m hm hlt=>by simpa using h3 m (by simpa using hm) hlt)) ⟨e,fun w hw=>WR ru fy r fs w (by simpa using hw),?_⟩
 exact⟨.int (j:Nat),H,I.tok _,⟨_,rfl⟩,q⟩
def zhR:V->List V->Hp->VK->Prop:=fun x vs H Q=>∃l xs i y,x=.ref l/\vs=[.int i,y]/\H l=some (.lst xs)/\0<=i/\i<=(xs.length:Int)/\xs.length<sizeLine/\Q .non (upd H l (.lst (xs.take i.toNat++y::xs.drop i.toNat)))
theorem zdN {A:Around}{s:Shared}{P:Program}{w:World}{E:Value->Shared->Prop}{Q:Value->Shared->Prop}{l:Addr}{its:List Value}{n:Nat}{i:Int}{t:Tok}{u:Value}(e:s.heap.get? l=some { cls:=.type "list", data:=.seq its.toArray n })(h0:0<=i)(h1:i<=(its.length:Int))(hz:its.length<=sizeLine)
  (h:∀f:Array Value->Array Value,f its.toArray=(its.take i.toNat++u::its.drop i.toNat).toArray->Q .none { s with heap:=s.heap.update l (Obj.mapSeq f),toks:=s.toks }):wpAny (model P w) A (call (.builtin "list.insert") [.ref l,.int i t,u]) Q E s:=by
 have hn:=Ud
 have fit:¬(!Builtin.List.listFitsIndex i)=true:=by
  rw[fitsIndex_both (k:=i) (Int.le_trans (by decide) h0) (by omega)]
  exact zqY
 have hs3:its.toArray.size<=sizeLine:=by rw[zq4];exact hz
 have M:=AutoSeq1.list_insert_list_int_val_1 l its.toArray n i t u fit hs3
 refine call_meets F.slot_list_insert ⟨_,e,rfl⟩ F.entry_list_insert (F.args_list_insert_3 _ _ _) M ⟨e,?_⟩
 refine h _ ?_
 have hk:(if i<0 then (i+(its.toArray.size:Int)).toNat else min i.toNat its.toArray.size)=i.toNat:=by
  rw[if_neg (by omega),zq4]
  omega
 show(its.toArray.extract 0 (if i<0 then (i+(its.toArray.size:Int)).toNat else min i.toNat its.toArray.size)).push u++its.toArray.extract (if i<0 then (i+(its.toArray.size:Int)).toNat else min i.toNat its.toArray.size)=_
 rw[hk]
 apply Array.toList_inj.mp
 simp[List.take_of_length_le]
theorem zfq:MtM X "list.insert" zhR:=by
 intro pins s σ H x vs v us Q I rx rv h
 obtain⟨l,xs,i,y,rfl,rfl,hH,h0,h1,hz,q⟩:=h
 cases rx
 obtain⟨u,w,rfl,⟨t,rfl⟩,rw'⟩:=rv.two
 obtain⟨z,its,n,r,hl,e⟩:=I.zfm hH
 refine zdN e h0 (by rw[<-hl];exact h1) (by omega) fun f hf=>?_
 refine⟨.non,_,I.zge (its':=its.take i.toNat++w::its.drop i.toNat) hH e hf ((r.take i.toNat).append (.cons rw' (r.drop i.toNat))) ?_,rfl,q⟩
 rw[zq2,zq6,zri,List.length_drop]
 omega
def zgl (K:Frag):V->List V->Hp->VK->Prop:=fun x vs H Q=>∃l b xs zs,x=.ref l/\vs=[.ref b]/\H l=some (.lst xs)/\tY K H b zs/\xs.length+zs.length<=sizeLine/\Q .non (upd H l (.lst (xs++zs)))
theorem PB (l:Addr)(its:Array Value)(n:Nat)(b:Addr)(its2:Array Value)(n2:Nat)(dd:Option Addr)(sl:Array (Option Value))(h0:¬(!its.isEmpty&&Builtin.List.listTooLong (its.size+its2.size))=true)(h1:its.size<=sizeLine)(h2:its.size+its2.size<=sizeLine+1) :
  Meets (Builtin.«list.extend» ⟨[.ref l,.ref b],[]⟩) (fun _ R s=>s.heap.get? l=some { cls:=.type "list", data:=.seq its n }/\s.heap.get? b=some { cls:=.type "tuple", dict:=dd,data:=.seq its2 n2,slots:=sl } /\
   R (.ok (.ret Value.none)) { s with heap:=s.heap.update l (Obj.mapSeq fun x=>x++its2),toks:=s.toks }) :=
 .of_wp fun prog w A R s h=>by
  obtain⟨hp,g,d,tk,os⟩:=s
  obtain⟨hl,hb,h⟩:=h
  have g1:=AutoSeq1.idx_int
  have g2:=AutoSeq1.sub_tuple_tuple
  have g3:=AutoSeq1.sub_list_list
  have g4:=AutoSeq1.sub_tuple_list
  have g5:=AutoSeq1.sub_list_tuple
  have hz:(its++its2).size<=sizeLine+1:=by rw[Array.size_append];exact h2
  wp_walk using (wpAny_updateSeq hl rfl (hz:=h1) (_hz':=hz)),AutoSeq1.wpAny_loadPart' hl,AutoSeq1.wpAny_loadPart' hb
  exact⟨_,rfl,h⟩
theorem KJ:MtM X "list.extend" (zgl X.K):=by
 intro pins s σ H x vs v us Q I rx rv h
 obtain⟨l,b,xs,zs,rfl,rfl,hH,hB,hz,q⟩:=h
 cases rx
 obtain⟨u,rfl,ru⟩:=rv.one
 cases ru
 obtain⟨z,its,n,r,hl,e⟩:=I.zfm hH
 obtain⟨its2,r2,⟨o,e2,hc,n2,hd⟩,z2⟩:=I.tuple hB
 obtain⟨cls,dd,dt,sl⟩:=o
 have hc':cls=.type "tuple" := hc
 have hd':dt=.seq its2.toArray n2:=hd
 subst hc' hd'
 have hl2:=r2.length
 have hsz:its.toArray.size+its2.toArray.size<=sizeLine:=by rw[zq4,zq4];omega
 have zgf:¬(!its.toArray.isEmpty&&Builtin.List.listTooLong (its.toArray.size+its2.toArray.size))=true:=by
  rw[zci hsz,Bool.and_false]
  exact zqY
 refine call_meets F.slot_list_extend ⟨_,e,rfl⟩ F.entry_list_extend (F.args_list_extend_2 _ _)
  (PB l its.toArray n b its2.toArray n2 dd sl zgf (by rw[zq4];omega) (by omega)) ⟨e,e2,?_⟩
 refine⟨.non,_,I.zge (its':=its++its2) hH e (by simp) (r.append r2) ?_,rfl,q⟩
 rw[zq2]
 omega
theorem J7 (bs:List Bool):((List.range bs.length).all fun i=>(bs[i]?).getD true)=bs.all id:=by
 rw[zrz,zro,zro]
 constructor
 ·intro h b hb
  obtain⟨i,hi,e⟩:=zrA hb
  have q:=h i (List.mem_range.mpr hi)
  rw[zqV hi,Option.getD_some,e] at q
  exact q
 ·intro h i hi
  have hi':=List.mem_range.mp hi
  rw[zqV hi',Option.getD_some]
  exact h _ (List.getElem_mem hi')
theorem Ys (hc:X.calm=true):Xl X (.builtin "all") (fun xs H Q=>∃(p:Addr) (bs:List Bool),xs=[.ref p]/\zZ X.K H p (bs.map V.bl)/\Q (.bl (bs.all id)) H):=by
 intro pins s σ H xs us Q I r h
 obtain⟨p,bs,rfl,hq,q⟩:=h
 obtain⟨u,rfl,rx⟩:=vals1 r
 cases rx
 obtain⟨its,r',pl,hz⟩:=I.list hq
 have hlen:bs.length=its.length:=by have:=r'.length;rw[zqU] at this;exact this
 have hlt:p<s.heap.objs.size:=by obtain⟨_,e,_⟩:=pl.isList;exact zq1 e
 refine call_all_walk (wpAny_pyIter_list pl.isList ?_)
 refine⟨s.heap.objs.size,[s.heap.objs.size,p],[s.heap.objs.size],its.toArray.size,_,_,fun i=>(bs[i]?).getD true,rfl,Walks.list (A:=X.A.in1) (I.ok.hd hc) _ p (zq9 hlt) its.toArray,
  ⟨⟨_,zrf _ rfl,rfl,rfl⟩,pl.isList.push _⟩,fun i v s' Q' E' hP hQ=>?_,fun h' tk hk=>?_⟩
 ·have hP':its[i]?=some v:=by simpa using hP
  have hi:i<bs.length:=by
   have:=(zqX.mp hP').1
   omega
  obtain⟨w,hw,rw'⟩:=r'.get (i:=i) (x:=.bl bs[i]) (by rw[zqW,zqV hi];rfl)
  rw[hP'] at hw
  cases hw
  cases rw'
  simp only[zqV hi,Option.getD_some] at hQ
  exact wpAny_truthy_bool hQ
 ·have kp:∀b o,s.heap.get? b=some o->h'.get? b=some o:=fun b o e=>hk b o (fun hm=>by
   rw[List.mem_singleton.mp hm] at e
   exact Nat.lt_irrefl _ (zq1 e)) (zq0 _ e)
  refine⟨.bl _,H,I.kept kp,rfl,?_⟩
  rw[zq4,<-hlen,J7]
  exact q
theorem Ml:Xl X (.builtin "isinstance") (fun xs H Q=>∃x T t b,xs=[x,.ty T]/\RX X.K H x t/\PySem.W.kitOne X.K t (.type T)=some b/\Q (.bl b) H):=by
 intro pins s σ H xs us Q I r h
 obtain⟨x,T,t,b,rfl,ty,e,q⟩:=h
 obtain⟨u,w',rfl,rx,ry⟩:=vals2 r
 cases ry
 exact zfh I rx ty e fun tk=>⟨.bl b,H,I.tok _,rfl,q⟩
end
def met (acc:List Str)(x:Str):List Str:=if acc.any (·==x) then acc else acc++[x]
def dd (xs:List Str):List Str:=xs.foldl met []
theorem zeH (xs:List Str)(x:Str):dd (xs++[x])=met (dd xs) x:=by
 unfold dd
 rw[List.foldl_append]
 rfl
theorem Ly (acc:List Str)(x k:Str):(met acc x).any (·==k)=(acc.any (·==k)||decide (k=x)):=by
 unfold met
 by_cases h:acc.any (·==x)=true
 ·rw[if_pos h]
  by_cases e:k=x
  ·subst e;rw[h];simp
  ·simp[e]
 ·rw[if_neg h,List.any_append]
  by_cases e:k=x
  ·subst e;simp
  ·have hb:(x==k)=false:=by simpa [beq_iff_eq] using (fun z:x=k=>e z.symm)
   simp[hb,e]
theorem XS (acc:List Str)(x:Str):(met acc x).length=if acc.any (·==x)=true then acc.length else acc.length+1:=by
 unfold met
 split<;>simp
theorem zk9 (xs:List Str):(dd xs).length<=xs.length:=by
 suffices h:∀acc:List Str,(xs.foldl met acc).length<=acc.length+xs.length by have:=h [];unfold dd;simpa using this
 induction xs with
 | nil=>intro acc;simp
 | cons x r ih =>
  intro acc
  rw[List.foldl_cons]
  have h1:=ih (met acc x)
  have h2:=XS acc x
  rw[zq6]
  split at h2<;>omega
theorem zgm {xs:List Str}(h:xs.Nodup):(dd xs).length=xs.length:=by
 suffices g:∀acc:List Str,(∀x∈xs,acc.any (·==x)=false)->(xs.foldl met acc).length=acc.length+xs.length by have:=g [] (fun _ _=>rfl);unfold dd;simpa using this
 induction xs with
 | nil=>intro acc _;simp
 | cons x r ih =>
  intro acc ha
  obtain⟨hx,hr⟩:=List.nodup_cons.mp h
  rw[List.foldl_cons,ih hr (met acc x) (fun y hy=>?_),XS,ha x zre]
  ·simp;omega
  ·rw[Ly,ha y (zq5 _ hy)]
   have:y≠x:=fun e=>hx (e ▸ hy)
   simp[this]
theorem zjU {xs:List Str}(h:¬xs.Nodup):(dd xs).length<xs.length:=by
 suffices g:∀acc:List Str,¬xs.Nodup->(xs.foldl met acc).length<acc.length+xs.length by have:=g [] h;unfold dd;simpa using this
 clear h
 have le:∀(ys acc:List Str),(ys.foldl met acc).length<=acc.length+ys.length:=fun ys=>by
  induction ys with
  | nil=>intro acc;simp
  | cons x r ih =>
   intro acc
   rw[List.foldl_cons]
   have h1:=ih (met acc x)
   have h2:=XS acc x
   rw[zq6]
   split at h2<;>omega
 have mem:∀(ys acc:List Str) (x:Str),x∈ys->acc.any (·==x)=true->(ys.foldl met acc).length<acc.length+ys.length:=fun ys=>by
  induction ys with
  | nil=>intro acc x hx _;cases hx
  | cons y r ih =>
   intro acc x hx ha
   rw[List.foldl_cons,zq6]
   rcases List.mem_cons.mp hx with e | hx
   ·subst e
    have h1:=le r (met acc x)
    have h2:=XS acc x
    rw[if_pos ha] at h2
    omega
   ·have h1:=ih (met acc y) x hx (by rw[Ly,ha];rfl)
    have h2:=XS acc y
    split at h2<;>omega
 induction xs with
 | nil=>intro acc h;exact absurd List.nodup_nil h
 | cons x r ih =>
  intro acc h
  rw[List.foldl_cons,zq6]
  by_cases hx:x∈r
  ·have h1:=mem r (met acc x) x hx (by rw[Ly];simp)
   have h2:=XS acc x
   split at h2<;>omega
  ·have h1:=ih (met acc x) (fun hr=>h (List.nodup_cons.mpr ⟨hx,hr⟩))
   have h2:=XS acc x
   split at h2<;>omega
abbrev KN (led:Bool):Obj:={ cls:=.type "set", dict:=none,data:=.set #[] 0 (.fresh 0 0 led) }
section
variable {P:Program}{w:World}{A:Around}{R:Result->Shared->Prop}{E:Value->Shared->Prop}{s:Shared}
theorem zgn {I:Addr}{fp wr:List Addr}{G:Array GenState->Array GenState->Prop}{n:Nat}{Pv:Nat->Value->Prop}{St:Nat->Shared->Prop}(W:WalksS P w A.in1 I fp wr G n Pv St)(S:Addr)(hS:S∉fp)(xs:List Str)(hn:xs.length=n)
  (hv:∀i v,Pv i v->∃t,v=.str (xs.getD i "") t)(hb:n+1<scanBound) :
  ∀(k i:Nat) (z:Shared),n-i=k->i<=n->St i z->z.heap.SetOf (strKind P w) S (fun q=>(dd (xs.take i)).any (·==q)) (dd (xs.take i)).length ->
   (∀z',Moved (S::wr) G z z'->z'.heap.SetOf (strKind P w) S (fun q=>(dd xs).any (·==q)) (dd xs).length->R (.ok (.ret .none)) z') ->
   codeAny (model P w) A (.builtin "set.update.loop" ⟨[.ref S,.ref I],[]⟩) R z:=by
 have zla:S∉wr:=fun h=>hS (W.sub _ h)
 have more:∀b∈wr,b∈S::wr:=fun b h=>zq5 _ h
 intro k
 induction k with
 | zero =>
  intro i z hk hi st zhS fin
  have ei:i=n:=by omega
  subst ei
  refine codeAny_builtin PyProof.Rows.F.entry_set_update_loop ?_
  rw[Around.under_plainId PyProof.Rows.F.plain_set_update_loop _]
  show wpAny _ A.in1 (pyNext (.ref I)>>=_) _ _ z
  refine wpAny_bind (W.done z _ _ st fun z' mv=>?_)
  show wpAny _ A.in1 (ret Value.none) _ _ z'
  refine wpAny_pure (fin z' (mv.mono more) ?_)
  rw[<-hn,zrn] at zhS
  obtain⟨o,es,ep,t,ho,more'⟩:=zhS
  exact⟨o,es,ep,t,mv.heap S _ zla ho,more'⟩
 | succ k ih =>
  intro i z hk hi st zhS fin
  have il:i<n:=by omega
  refine codeAny_builtin PyProof.Rows.F.entry_set_update_loop ?_
  rw[Around.under_plainId PyProof.Rows.F.plain_set_update_loop _]
  show wpAny _ A.in1 (pyNext (.ref I)>>=_) _ _ z
  refine wpAny_bind (W.item i z _ _ il st fun v z' pv st' mv=>?_)
  obtain⟨t,rfl⟩:=hv i v pv
  have hset':z'.heap.SetOf (strKind P w) S (fun q=>(dd (xs.take i)).any (·==q)) (dd (xs.take i)).length:=by
   obtain⟨o,es,ep,tb,ho,more'⟩:=zhS
   exact⟨o,es,ep,tb,mv.heap S _ zla ho,more'⟩
  show wpAny _ A.in1 (holding [Value.str (xs.getD i "") t] (setAdd S (.str (xs.getD i "") t))>>=_) _ _ z'
  refine wpAny_bind (wpAny_holding ?_)
  unfold setAdd
  refine wpAny_holding ?_
  refine wpAny_bind ((strKind P w).pyHash (k:=xs.getD i "") (strKind_is _ _ _ _) ?_)
  have hroom:(dd (xs.take i)).length+1<scanBound:=by
   have:=zk9 (xs.take i)
   rw[zri] at this
   omega
  have et:xs.take (i+1)=xs.take i++[xs.getD i ""]:=by
   rw[List.take_succ,zq7,zqV (by omega)]
   rfl
  refine wpAny_setAddHashed_of (knd:=strKind P w) (s:={ z' with toks:=z'.toks+1 }) (strKind_is _ _ _ _) rfl hset' hroom fun h' sb s2=>?_
  have zlb:h'.SetOf (strKind P w) S (fun q=>(dd (xs.take (i+1))).any (·==q)) (dd (xs.take (i+1))).length :=
   SetOf_congr s2 (fun q=>by rw[et,zeH,Ly]) (by rw[et,zeH,XS])
  refine wpAny_pure ⟨plainId_quiet PyProof.Rows.F.plain_set_update_loop _,ih (i+1) _ (by omega) il (W.frame _ z' _ _ st' (Nat.le_succ _) fun b hb' o e=>?_) zlb fun z'' mv2 s3=>?_⟩
  ·rw[sb.2 b (fun h:b=S=>hS (by rw[<-h];exact hb'))];exact e
  ·refine fin z'' (Moved.trans W.gtrans ((mv.mono more).then_heap (Nat.le_succ _) fun b o hb' e=>?_) mv2) s3
   rw[sb.2 b (fun h:b=S=>hb' (by rw[h];exact zre))];exact e
theorem zhT {xs:List Str}:∀{us:List Value},Vals (xs.map V.str) us->∀(i:Nat) (v:Value),us[i]?=some v->∃t,v=.str (xs.getD i "") t:=by
 intro us r i v h
 have hl:=r.length
 rw[zqU] at hl
 have hi:i<xs.length:=by have:=(zqX.mp h).1;omega
 obtain⟨u,hu,t,e⟩:=r.get (i:=i) (x:=.str xs[i]) (by rw[zqW,zqV hi];rfl)
 rw[h] at hu
 cases hu
 refine⟨t,?_⟩
 rw[e,zq7,zqV hi]
 rfl
set_option maxHeartbeats 8000000 in
theorem zgo {l:Addr}{us:List Value}{xs:List Str}{Q:Value->Shared->Prop}(hh:A.handled=none)(hl:s.heap.IsList l us.toArray)(r:Vals (xs.map V.str) us)(hb:xs.length+1<scanBound)
  (h:∀(h':Heap) (tk:Nat),h'.SetOf (strKind P w) s.heap.objs.size (fun q=>(dd xs).any (·==q)) (dd xs).length->(∀b o,s.heap.get? b=some o->h'.get? b=some o)->Q (.ref s.heap.objs.size) { s with heap:=h',toks:=tk }) :
  wpAny (model P w) A (call (.type "set") [.ref l]) Q E s:=by
 have hlen:xs.length=us.toArray.size:=by have:=r.length;rw[zqU] at this;simpa using this
 obtain⟨cc,tl,hmro⟩:=F.called_set.mro
 have made:=F.called_set.made
 have sub:=F.called_set.sub
 refine wpAny_call (codeAny_of_tree ?_)
 show wpAny _ _ (callAny (.type "set") _) _ _ _
 refine wpAny_pure ⟨Code.quiet_builtin _ (by decide +kernel),codeAny_builtin F.entry_type_call ?_⟩
 rw[Around.under_plain (weight_type_call_type "set" [.ref l] []) rfl]
 have a1:=F.called_set.notType
 have a2:=F.called_set.canCreate
 have a3:=F.typeCall_set_1 (.ref l)
 repeat (any_goals (first | assumption | wp_step))
 refine codeAny_mono (code_set_new_1 (.ref l) (E:=E) (Q₁:=fun ob z=>∃led:Bool,ob=.ref s.heap.objs.size/\z={ s with heap:=s.heap.push { cls:=.type "set", dict:=none,data:=.set #[] 0 (.fresh 0 0 led) } }) fun led=>⟨led,rfl,rfl⟩) fun res z hres=>?_
 cases res with
 | error e=>exact hres
 | ok fl =>
  cases fl with
  | ret ob =>
   obtain⟨led,rfl,rfl⟩:=hres
   have gS:(s.heap.push (KN led)).get? s.heap.objs.size=some (KN led):=zrf _ rfl
   have tS:Shared.TypeIs { s with heap:=s.heap.push (KN led) } (.ref s.heap.objs.size) "set" := ⟨_,gS,rfl⟩
   have b1:=F.called_set.init.lookup
   have b2:=F.called_set.init.bind (.ref s.heap.objs.size)
   repeat (any_goals (first | assumption | wp_step))
   refine codeAny_mono (codeAny_call_builtin (R:=wants (fun v z=>v=.none/\∃h' tk,z={ s with heap:=h',toks:=tk }/\h'.SetOf (strKind P w) s.heap.objs.size (fun q=>(dd xs).any (·==q)) (dd xs).length/\(∀b o,s.heap.get? b=some o->h'.get? b=some o)) E)
    F.called_set.init.plain F.entry_set_init (check_set_init_1 tS ?_)) fun res2 z2 zgp=>?_
   ·obtain⟨ol,gl,cl,nl,dl⟩:=hl
    obtain⟨ocls,odict,odata,oslots⟩:=ol
    have cl':ocls=.type "list" := cl
    have dl':odata=.seq us.toArray nl:=dl
    subst cl' dl'
    have gl':(s.heap.push (KN led)).get? l=some { cls:=.type "list", dict:=odict,data:=.seq us.toArray nl,slots:=oslots }:=zq0 _ gl
    have c1:=F.sub_list_set
    have c2:=F.sub_list_frozenset
    have c3:(Value.type "list" == Value.type "dict")=false:=by decide
    have isl:(s.heap.push (KN led)).IsList l us.toArray:=⟨_,gl',rfl,nl,rfl⟩
    unfold Builtin.«set.__init__» noKeywords Builtin.Frozenset.updateFrom
    generalize hit:pyIter=itf
    wp_walk
    subst hit
    refine wpAny_pyIter_list isl ?_
    refine wpAny_bind (wpAny_runValue ?_)
    have ltl:l<s.heap.objs.size:=zq1 gl
    have hd3:A.in1.in1.in1.handled=none:=by simp[hh]
    have sz1:(s.heap.push (KN led)).objs.size=s.heap.objs.size+1:=Heap.size_push ..
    have nel:l≠(s.heap.push (KN led)).objs.size:=by rw[sz1];exact zq9 (Nat.lt_succ_of_lt ltl)
    have nin:s.heap.objs.size∉[(s.heap.push (KN led)).objs.size,l]:=by
     rw[sz1]
     simp only[List.mem_cons,zrl,or_false,not_or]
     exact⟨zq9 (Nat.lt_succ_self _),Nat.ne_of_gt ltl⟩
    refine zgn ((Walks.list hd3 _ l nel us.toArray).toS) s.heap.objs.size nin xs hlen (fun i v hv=>zhT r i v (by simpa using hv)) (by rw[<-hlen];exact hb) (us.toArray.size-0) 0 _ (by omega) (zrh _)
     ⟨⟨_,zrf _ rfl,rfl,rfl⟩,isl.push _⟩ ?s0 ?fin
    case s0 =>
     have gg:((s.heap.push (KN led)).push { cls:=.type "list_iterator", data:=.fields #[.ref l,.int 0 0] }).get? s.heap.objs.size=some (KN led):=zq0 _ gS
     exact SetOf_congr ((setObjOf_fresh (knd:=strKind P w) led).setOf gg (by unfold scanBound;omega)) (fun _=>rfl) rfl
    case fin =>
     intro z mv sz
     obtain⟨h',g',d',tk',os'⟩:=z
     have e1:g'=s.gens:=mv.gens
     have e2:d'=s.drawn:=mv.drawn
     have e3:os'=s.os:=mv.os
     subst e1 e2 e3
     show wpAny _ _ _ _ _ _
     refine wpAny_pure ?_
     show wpAny _ _ (ret Value.none) _ _ _
     refine wpAny_pure ⟨rfl,h',tk',rfl,sz,fun b o e=>?_⟩
     have lb:=zq1 e
     have n1:b≠s.heap.objs.size:=zq9 lb
     have n2:b≠(s.heap.push (KN led)).objs.size:=by rw[sz1];exact zq9 (Nat.lt_succ_of_lt lb)
     exact mv.heap b o (by simp only[List.mem_cons,zrl,or_false,not_or];exact⟨n1,n2⟩) (zq0 _ (zq0 _ e))
   ·cases res2 with
    | error e=>exact zgp
    | ok fl2 =>
     cases fl2 with
     | ret v =>
      obtain⟨rfl,h',tk,rfl,sS,kk⟩:=zgp
      repeat (any_goals (first | assumption | wp_step))
      exact h _ _ sS kk
     | _=>exact zgp.elim
  | _=>exact hres.elim
end
section
variable {X:Cx}
def zhU (P:Program)(w:World)(a:Addr)(n:Nat):HO:=.ext fun h=>∃S,h.SetOf (strKind P w) a S n
theorem zgq (hc:X.calm=true):Xl X (.type "set") (fun xs H Q=>∃(p:Addr) (ts:List Str),xs=[.ref p]/\zZ X.K H p (ts.map V.str)/\ts.length<=100/\∀q,H q=none->Q (.ref q) (upd H q (zhU X.prog X.w q (dd ts).length))):=by
 intro pins s σ H xs us Q I r h
 obtain⟨p,ts,rfl,hq,h100,q⟩:=h
 obtain⟨u,rfl,rx⟩:=vals1 r
 cases rx
 obtain⟨its,r',pl,hz⟩:=I.list hq
 refine zgo (I.ok.hd hc) pl.isList r' (Nat.lt_of_le_of_lt (Nat.add_le_add_right h100 1) (by decide)) fun h' tk hS hk=>?_
 refine⟨.ref s.heap.objs.size,_,I.laid hk (zra _) (o:=zhU X.prog X.w s.heap.objs.size (dd ts).length) ?_,rfl,q _ (I.hok.fresh (zra _))⟩
 refine⟨⟨_,hS⟩,?_,?_⟩
 ·obtain⟨o,es,ep,t,ho,_⟩:=hS
  exact⟨o,ho⟩
 ·rintro h1 h2 ⟨S,o,es,ep,t,ho,rest⟩ k
  exact⟨S,o,es,ep,t,k o ho,rest⟩
theorem call_len_set':Xl X (.builtin "len") (fun xs H Q=>∃(p:Addr) (n:Nat),xs=[.ref p]/\H p=some (zhU X.prog X.w p n)/\Q (.int n) H):=by
 intro pins s σ H xs us Q I r h
 obtain⟨p,n,rfl,hp,q⟩:=h
 obtain⟨u,rfl,rx⟩:=vals1 r
 cases rx
 obtain⟨⟨S,o,es,ep,t,ho,hex,hd,_,_,hb,hf,hn⟩,_⟩:=I.hok p _ hp
 have h63:(es.size:Int)<2^63:=by
  have h1:scanBound<2^63:=by decide
  omega
 refine call_len_set ho hex hd hf h63 ⟨.int n,H,I.tok _,⟨s.toks+1,?_⟩,q⟩
 rw[hn]
def zhV (K:Frag)(P:Program)(w:World)(a:Addr)(kvs:List (Str×Value)):Prop:=(a==sysModules)=false/\∃o,K.lookup a=some o/\o.IsDictOf (strKind P w) kvs
theorem zbi {a:Addr}{kvs:List (Str×Value)}(hd:zhV X.K X.prog X.w a kvs):IxR X (fun x y H Q=>∃k u v,x=.ref a/\y=.str k/\valueAt kvs k=some u/\RelV v u/\Q v H):=by
 intro value slice pins s σ H x y v u Q I rx ry h hs
 obtain⟨k,z,vv,rfl,rfl,hv,rv,q⟩:=h
 cases rx
 obtain⟨t,rfl⟩:=ry
 obtain⟨_,o,hk,hdd⟩:=hd
 have D:s.heap.DictOf (strKind X.prog X.w) a kvs:=Heap.dictOf_iff.mpr ⟨o,I.Pn a o hk,hdd⟩
 exact tail_any D.typeIs slot_dict_getitem.lookup (wpAny_getItem_of (strKind_is _ _ k t) D.mapOf hv ⟨vv,H,I.tok _,rv,q⟩) hs
theorem J8 {a:Addr}{kvs:List (Str×Value)}(hd:zhV X.K X.prog X.w a kvs):Uc X (compareOp .NotIn) (fun x y H Q=>∃k,x=.str k/\y=.ref a/\Q (.bl (!(valueAt kvs k).isSome)) H):=by
 intro pins s σ H x y v u Q I rx ry h
 obtain⟨k,rfl,rfl,q⟩:=h
 cases ry
 obtain⟨t,rfl⟩:=rx
 obtain⟨hs,o,hk,hdd⟩:=hd
 have D:s.heap.DictOf (strKind X.prog X.w) a kvs:=Heap.dictOf_iff.mpr ⟨o,I.Pn a o hk,hdd⟩
 exact wpAny_notIn_of (strKind_is _ _ k t) hs D.mapOf ⟨.bl _,H,I.tok _,rfl,q⟩
theorem Inv.zbj {pins:List (Addr×Obj)}{σ:St}{H:Hp}{s:Shared}{h':Heap}{t':Nat}{fp:List Addr}(I:Inv X pins σ H s)(k:∀b o,b∉fp->s.heap.get? b=some o->h'.get? b=some o)(ex:∀b∈fp,∃o,h'.get? b=some o)(hf:∀b∈fp,JX X pins H b) :
  Inv X pins σ H { s with heap:=h',toks:=t' }:=by
 have nit:∀b u,H b=some u->b∉fp:=fun b u e z=>by rw[(hf b z).1] at e;cases e
 refine I.step (g':=s.gens) (d':=s.drawn) (ch:=fp) (fun b hb=>⟨(hf b hb).2.2.2.1,(hf b hb).2.1,(hf b hb).2.2.2.2.1,(hf b hb).2.2.2.2.2⟩) (fun b o _ _ hc e _=>k b o hc e) (fun b o _ _ hc e _=>⟨o.slots,k b o hc e⟩) (fun _ _ _ _ n=>n)
  (fun b o hc e=>⟨o,k b o hc e⟩) (fun _ _ e=>e) (fun _ _ _ e=>e) (fun b ps e=>⟨#[],by rw[e];simp⟩) (fun m hm=>?_) (fun b u e=>?_) I.bare
 ·obtain⟨o,es,ep,ho,r⟩:=hm
  exact⟨o,es,ep,k _ o (fun z=>(hf _ z).2.1 rfl) ho,r⟩
 ·refine(I.hok b u e).stay (fun c v hc q=>k c v ?_ q) (fun _ q=>q) fun _ _ q=>q
  rcases hc with z | z
  ·rw[z];exact nit b u e
  ·exact nit c _ z
def Ite (K:Frag)(a:Addr):It :=
 ⟨fun i H=>∃xs x,zZ K H a xs/\xs[i]?=some x,fun i H x H'=>∃p y,(∀xs,zZ K H a xs->xs[i]?=some y)/\x=.ref p/\H p=none/\H'=upd H p (.tup [.int (i:Nat),y]),fun i H=>∃xs,zZ K H a xs/\xs.length<=i⟩
theorem zfr {P:Program}{w:World}{K:Frag}{els:List Expr}{x1}{pt:Pos}(a e it:Addr)(hne:e≠it):Turn P w K (.Tuple els x1 pt) (Ite K a) [e,it] e (fun i h=>(∃old,IsEnum h e it (i:Nat) old)/\h.IsListIter it a i) where
 mem:=by simp
 obj:=fun i h st b hb=>by
  rcases List.mem_cons.mp hb with z | z
  ·obtain⟨⟨old,q⟩,_⟩:=st
   rw[z]
   exact⟨_,q,fun v hv=>by cases hv⟩
  ·have z':b=it:=by simpa using z
   obtain⟨_,o,q,c,d⟩:=st
   rw[z']
   exact⟨o,q,fun v hv=>by rw[d] at hv;cases hv⟩
 keep:=fun i h h' st k=>by
  obtain⟨⟨old,q⟩,q2⟩:=st
  exact⟨⟨old,k e (by simp) _ q⟩,q2.at fun o z=>k it (by simp) o z⟩
 item:=by
  intro X hP hw hK hc i pins s σ H E I hf st hg
  subst hP hw hK
  obtain⟨xs,x,hq,hx⟩:=hg
  obtain⟨⟨old,he⟩,hit⟩:=st
  obtain⟨its,rv,pl,hz⟩:=I.list hq
  obtain⟨u,hu,ru⟩:=rv.get hx
  refine wpAny_pyNext_enum_item he hit pl.isList (x:=u) (by simpa using hu) hne fun h1 out hit1 tup sz k1=>?_
  refine⟨.ref s.heap.objs.size,rfl,wpAny_letOwnedTupleGo_enum out fun h2 he2 sb=>?_⟩
  have lte:=zq1 he
  have k2:∀b o,b∉[e,it]->s.heap.get? b=some o->h2.get? b=some o:=fun b o hb q=>by
   have hb':b≠e/\b≠it:=by simpa using hb
   exact(sb.2 b hb'.1).trans (k1 b o hb'.1 hb'.2 q)
  have hit2:h2.IsListIter it a (i+1):=hit1.at fun o z=>(sb.2 it (Ne.symm hne)).trans z
  have J1:Inv X pins σ H { s with heap:=h2,toks:=s.toks+1 }:=I.zbj (fp:=[e,it]) k2 (fun b hb=>by
   rcases List.mem_cons.mp hb with z | z
   ·rw[z];exact⟨_,he2⟩
   ·have z':b=it:=by simpa using z
    obtain⟨o,q,_⟩:=hit2
    rw[z'];exact⟨o,q⟩) hf
  have zgr:h2.get? s.heap.objs.size=some { cls:=.type "tuple", data:=.seq #[.int i s.toks,u] }:=(sb.2 _ (Nat.ne_of_gt lte)).trans tup
  have ltc:∀y c,X.env.cells.lookup y=some c->c≠s.heap.objs.size:=fun y c q=>by
   obtain⟨v,o,z,_⟩:=I.cell y c q
   exact zq9 (zq1 z)
  have ltp:∀p∈X.pn++pins,p.1≠s.heap.objs.size:=fun p hp=>zq9 (zq1 (I.pin p hp).1)
  have J2:=J1.track (a:=s.heap.objs.size) (o:=.tup [.int (i:Nat),x]) I.fresh (Ne.symm (zq9 I.lt)) I.sz ltc ltp ⟨by show 2<=sizeLine;decide,[.int i s.toks,u],.cons ⟨_,rfl⟩ (.cons ru .nil),⟨_,zgr,rfl,_,rfl⟩⟩
  refine⟨.ref s.heap.objs.size,_,J2,rfl,⟨_,x,fun ys hy=>by rw[I.RT hy hq];exact hx,rfl,I.fresh,rfl⟩,⟨⟨u,?_⟩,hit2⟩,fun b hb=>?_⟩
  ·have:=he2
   simpa using this
  ·have lb:b<s.heap.objs.size:=by
    rcases List.mem_cons.mp hb with z | z
    ·rw[z];exact lte
    ·have z':b=it:=by simpa using z
     obtain⟨o,q,_⟩:=hit
     rw[z'];exact zq1 q
   rw[zA (zq9 lb)]
   exact(hf b hb).1
 done:=by
  intro X hP hw hK hc i pins s σ H E I hf st hg
  subst hP hw hK
  obtain⟨xs,hq,hx⟩:=hg
  obtain⟨⟨old,he⟩,hit⟩:=st
  obtain⟨its,rv,pl,hz⟩:=I.list hq
  have hl:=rv.length
  obtain⟨f0,f1,f2,f3,f4,f5⟩:=hf it (by simp)
  exact wpAny_pyNext_enum_end (I.ok.hd hc) he hit pl.isList (by simp;omega) fun h' eb=>⟨rfl,I.turned (t':=s.toks) (fun b o hb q=>eb b o hb q) f0 f1 f3 f4 f5⟩
 self:=fun _ _ _ _ _ st h=>let ⟨⟨_,he⟩,_⟩:=st;wpAny_pyIter_enum he h
def zld (K:Frag)(ta:TA):TI:=fun σ H R=>ta σ H fun vs H1=>∃a xs,vs=[.ref a]/\zZ K H1 a xs/\R (Ite K a) H1
theorem boot_enumerate:bootBuiltins "enumerate"=some (.type "enumerate"):=by decide +kernel
theorem zhW {l:Expr}{ta:TA}{p pos:Pos}{els:List Expr}{x1}{pt:Pos}(hg:Gl X "enumerate")(hm:X.mg "enumerate"=none)(ha:PA X [l] ta)(hs:starEach [l] X.env=[(false,eval l X.env)]:=by rfl) :
  PI X (.Tuple els x1 pt) (.Call (.Name "enumerate" p) [l] [] pos) (zld X.K ta):=by
 intro pins s σ H R I h
 refine Call_ (Xk I hg hm boot_enumerate (PyProof.Rows.callWith_type1 (wC (ha pos pins s σ H _ I h) fun us s1 ⟨vs,H1,I1,r1,q1⟩=>?_) hs rfl))
 obtain⟨a,xs,e,hq,q⟩:=q1
 subst e
 obtain⟨u,rfl,ru⟩:=vals1 r1
 cases ru
 obtain⟨its,rv,pl,hz⟩:=I1.list hq
 refine call_enumerate_list pl.isList fun h' he hit hsz hk=>?_
 have J:Inv X pins σ H1 { s1 with heap:=h',toks:=s1.toks }:=I1.kept hk
 refine wpAny_pyIter_enum he ?_
 refine⟨s1.heap.objs.size+1,[s1.heap.objs.size+1,s1.heap.objs.size],_,_,H1,rfl,J,zfr a _ _ (Nat.ne_of_gt (Nat.lt_succ_self _)),⟨⟨_,he⟩,hit⟩,fun b hb=>?_,q⟩
 have gb:s1.heap.objs.size<=b:=by
  rcases List.mem_cons.mp hb with z | z
  ·rw[z];exact Nat.le_succ _
  ·have z':b=s1.heap.objs.size:=by simpa using z
   rw[z'];exact zra _
 exact I1.zcb gb (I1.hok.fresh gb)
theorem zgs {K:Frag}{a:Addr}{xs:List V}{g:TG}{tb:TS}{D:Ends}{σ:St}{H:Hp}(Pv:Nat->St->Hp->Prop)(h0:Pv 0 σ H)(hl:∀i σ H,i<=xs.length->Pv i σ H->zZ K H a xs)
  (hs:∀i x σ H p,xs[i]?=some x->Pv i σ H->H p=none->g (.ref p) σ (upd H p (.tup [.int (i:Nat),x])) fun σ2 H2=>tb { D with nx:=Pv (i+1),ct:=Pv (i+1),bk:=D.nx } σ2 H2)(hd:∀ σ H,Pv xs.length σ H->D.nx σ H) :
  ∃W:Nat->Nat->St->Hp->Prop,(∃m,W 0 m σ H)/\∀i m σ H,W i m σ H ->
   ((Ite K a).stop i H/\D.nx σ H)\/((Ite K a).go i H/\∃N:St->Hp->Prop,(∀ σ' H',N σ' H'->∃m',m'<m/\W (i+1) m' σ' H')/\∀x H',(Ite K a).Pj i H x H'->g x σ H' fun σ2 H2=>tb { D with nx:=N,ct:=N,bk:=D.nx } σ2 H2):=by
 refine⟨fun i m σ H=>m=xs.length-i/\i<=xs.length/\Pv i σ H,⟨xs.length,by simp,zrh _,h0⟩,?_⟩
 rintro i m σ H ⟨rfl,hi,p⟩
 have q:=hl i σ H hi p
 by_cases hlt:i<xs.length
 ·refine .inr ⟨⟨xs,xs[i],q,by simp[hlt]⟩,Pv (i+1),fun σ' H' p'=>⟨xs.length-(i+1),by omega,rfl,hlt,p'⟩,fun x H' y=>?_⟩
  obtain⟨pp,z,q1,rfl,q3,rfl⟩:=y
  exact hs i z σ H pp (q1 xs q) p q3
 ·have e:i=xs.length:=by omega
  subst e
  exact .inl ⟨⟨xs,q,zra _⟩,hd σ H p⟩
end
theorem yO:bootBuiltins "len"=some (.builtin "len"):=by decide +kernel
theorem Ug:bootBuiltins "all"=some (.builtin "all"):=by decide +kernel
theorem T9:bootBuiltins "isinstance"=some (.builtin "isinstance"):=by decide +kernel
theorem zgt:bootBuiltins "int"=some (.type "int"):=by decide +kernel
theorem zjV:bootBuiltins "str"=some (.type "str"):=by decide +kernel
theorem zgu:bootBuiltins "tuple"=some (.type "tuple"):=by decide +kernel
theorem Tj:bootBuiltins "list"=some (.type "list"):=by decide +kernel
theorem zjW:bootBuiltins "set"=some (.type "set"):=by decide +kernel
theorem zdO {v:V}{u:Value}(h:zdv u=some v):RelV v u:=by
 cases u<;>simp only[zdv,Option.some.injEq,reduceCtorEq] at h<;>subst h<;>first | exact rfl | exact⟨_,rfl⟩
theorem Mp:∀{us:List Value} {xs:List V},us.map zdv=xs.map some->Vals xs us
 | [],[],_=>.nil
 | u::us,x::xs,h=>by
  rw[zrj,zrj] at h
  injection h with h1 h2
  exact .cons (zdO h1) (Mp h2)
 | [],_::_,h=>by cases h
 | _::_,[],h=>by cases h
theorem zi5 {K:Frag}{H:Hp}{p:Addr}{od:Option Addr}{it:Array Value}{n:Nat}{sl:Array (Option Value)}{xs:List V}(l:K.lookup p=some ⟨.type "tuple", od,.seq it n,sl⟩)(v:it.toList.map zdv=xs.map some)(hz:xs.length<=1000):tY K H p xs:=by
 have r:=Mp v
 refine .inr ⟨_,it,n,l,rfl,rfl,?_,r⟩
 have e:xs.length=it.size:=by have:=r.length;simpa using this
 rw[<-e]
 exact zrd (yq hz)
theorem zjX {P:Program}{w:World}:Pairs (strKind P w) [] []/\∀e∈([]:List DictEntry),∃k,(strKind P w).is k e.key=true/\e.hash=(strKind P w).hash k:=⟨.nil,fun _ h=>nomatch h⟩
theorem zhX {P:Program}{w:World}{k:Str}{t:Tok}{v:Value}{es:List DictEntry}{kvs:List (Str×Value)}(h:Pairs (strKind P w) es kvs/\∀e∈es,∃k,(strKind P w).is k e.key=true/\e.hash=(strKind P w).hash k) :
  Pairs (strKind P w) (⟨hashStr w k,.str k t,v⟩::es) ((k,v)::kvs)/\∀e∈(⟨hashStr w k,.str k t,v⟩::es:List DictEntry),∃k,(strKind P w).is k e.key=true/\e.hash=(strKind P w).hash k:=by
 refine⟨.cons (strKind_is _ _ k t) rfl h.1,fun e he=>?_⟩
 rcases List.mem_cons.mp he with z | z
 ·subst z;exact⟨k,strKind_is _ _ k t,rfl⟩
 ·exact h.2 e z
theorem zhY {P:Program}{w:World}{K:Frag}{p:Addr}{es:Array DictEntry}{ep:Nat}{el:List DictEntry}{kvs:List (Str×Value)}(l:K.lookup p=some ⟨.type "dict", none,.dict es ep,#[]⟩)(e:es.toList=el)(s:(p==sysModules)=false)
  (h:Pairs (strKind P w) el kvs/\∀e∈el,∃k,(strKind P w).is k e.key=true/\e.hash=(strKind P w).hash k)(nd:(kvs.map (·.1)).Nodup):zhV K P w p kvs:=by
 subst e
 exact⟨s,_,l,es,ep,⟨rfl,rfl,rfl⟩,rfl,fun x hx=>h.2 x (by simpa using hx),h.1,nd⟩
end L2
namespace Za
open PySem
inductive Sn where
 | c0 (y:Bool)
 | mk (x:Str)
 | nt (s:Sn)
 | b2 (o:Fin 4) (s t:Sn)
 | q1 (o:Bool) (x:Str) (s:Sn)
def w2:Fin 4->Str
 | 0 => "and"
 | 1 => "or"
 | 2 => "either"
 | 3 => "if"
namespace Sn
def word:Sn->Str
 | c0 true => "yes"
 | c0 false => "no"
 | mk _ => "mark"
 | nt _ => "not"
 | b2 o _ _=>w2 o
 | q1 true _ _ => "some"
 | q1 false _ _ => "each"
def letters:Sn->List Str
 | mk x=>[x]
 | q1 _ x _=>[x]
 | _=>[]
def parts:Sn->List Sn
 | nt s=>[s]
 | b2 _ s t=>[s,t]
 | q1 _ _ s=>[s]
 | _=>[]
def count:Sn->Nat
 | nt s=>1+s.count
 | b2 _ s t=>1+(s.count+t.count)
 | q1 _ _ s=>1+s.count
 | _=>1
def depth:Sn->Nat
 | nt s=>1+s.depth
 | b2 _ s t=>1+max s.depth t.depth
 | q1 _ _ s=>1+s.depth
 | _=>1
def RN (os:List Str):Sn->Prop
 | c0 _=>True
 | mk x=>x∈os
 | nt s=>s.RN os
 | b2 _ s t=>s.RN os/\t.RN os
 | q1 _ x s=>x∈os/\s.RN os
def op2:Fin 4->Bool->Bool->Bool
 | 0,a,b=>a&&b
 | 1,a,b=>a||b
 | 2,a,b=>a != b
 | 3,a,b=>!a||b
def val:Sn->(Str->Bool)->Bool
 | c0 y,_=>y
 | mk x,e=>e x
 | nt s,e=>!s.val e
 | b2 o s t,e=>op2 o (s.val e) (t.val e)
 | q1 true x s,e=>s.val (fun y=>if y=x then true else e y)||s.val (fun y=>if y=x then false else e y)
 | q1 false x s,e=>s.val (fun y=>if y=x then true else e y)&&s.val (fun y=>if y=x then false else e y)
theorem val_congr {os:List Str}:∀(s:Sn) {e e':Str->Bool},s.RN os->(∀x∈os,e x=e' x)->s.val e=s.val e'
 | c0 _,_,_,_,_=>rfl
 | mk x,_,_,h,q=>q x h
 | nt s,_,_,h,q=>by unfold val;rw[val_congr s h q]
 | b2 o s t,_,_,h,q=>by unfold val;rw[val_congr s h.1 q,val_congr t h.2 q]
 | q1 o x s,e,e',h,q=>by
  have k:∀b:Bool,s.val (fun y=>if y=x then b else e y)=s.val (fun y=>if y=x then b else e' y):=fun b=>val_congr s h.2 fun y hy=>by
   by_cases hx:y=x
   ·rw[if_pos hx,if_pos hx]
   ·rw[if_neg hx,if_neg hx,q y hy]
  cases o<;>(unfold val;rw[k,k])
theorem PJ:∀s:Sn,1<=s.depth
 | c0 _=>zra _
 | mk _=>zra _
 | nt _=>by unfold depth;omega
 | b2 _ _ _=>by unfold depth;omega
 | q1 _ _ _=>by unfold depth;omega
theorem Mq:∀s:Sn,s.count=1+(s.parts.map count).sum
 | c0 _=>rfl
 | mk _=>rfl
 | nt _=>by simp[count,parts]
 | b2 _ _ _=>by simp[count,parts]
 | q1 _ _ _=>by simp[count,parts]
theorem Uh:∀(s:Sn),∀t∈s.parts,t.depth+1<=s.depth
 | c0 _,t,h=>by simp[parts] at h
 | mk _,t,h=>by simp[parts] at h
 | nt s,t,h=>by simp[parts] at h;subst h;show t.depth+1<=1+t.depth;omega
 | b2 _ s u,t,h=>by
  simp[parts] at h
  rcases h with h | h
  ·subst h;show t.depth+1<=1+max t.depth u.depth;omega
  ·subst h;show t.depth+1<=1+max s.depth t.depth;omega
 | q1 _ _ s,t,h=>by simp[parts] at h;subst h;show t.depth+1<=1+t.depth;omega
theorem zaD {os:List Str}:∀(s:Sn),s.RN os->∀t∈s.parts,t.RN os
 | c0 _,_,t,h=>by simp[parts] at h
 | mk _,_,t,h=>by simp[parts] at h
 | nt s,q,t,h=>by simp[parts] at h;subst h;exact q
 | b2 _ s u,q,t,h=>by
  simp[parts] at h
  rcases h with h | h<;>subst h
  ·exact q.1
  ·exact q.2
 | q1 _ _ s,q,t,h=>by simp[parts] at h;subst h;exact q.2
theorem zcl {os:List Str}:∀(s:Sn),s.RN os->∀x∈s.letters,x∈os
 | c0 _,_,t,h=>by simp[letters] at h
 | mk _,q,t,h=>by simp[letters] at h;subst h;exact q
 | nt s,q,t,h=>by simp[letters] at h
 | b2 _ s u,q,t,h=>by simp[letters] at h
 | q1 _ _ s,q,t,h=>by simp[letters] at h;subst h;exact q.1
end Sn
theorem wW (b p:Nat):(b+2^p).testBit p=!b.testBit p:=by rw[Nat.add_comm];exact Nat.testBit_two_pow_add_eq b p
theorem Tn {b p j:Nat}(h:j<p):(b+2^p).testBit j=b.testBit j:=by rw[Nat.add_comm];exact Nat.testBit_two_pow_add_gt h b
theorem zgv {b p:Nat}(h:b.testBit p=false):b%2^(p+1)<2^p:=by
 have e:b%2^(p+1)=b%2^p+2^p*(b / 2^p%2):=by
  rw[Nat.pow_succ];exact Nat.mod_mul
 have z:b / 2^p%2=0:=by
  rw[Nat.testBit_eq_decide_div_mod_eq] at h
  have:=of_decide_eq_false h
  omega
 rw[e,z,Nat.mul_zero,Nat.add_zero]
 exact Nat.mod_lt b (Nat.two_pow_pos p)
theorem zgw (x i j:Nat):x.testBit (i+j)=(x / 2^i).testBit j:=by
 rw[Nat.testBit_div_two_pow,Nat.add_comm]
theorem zaE {b p j:Nat}(h:p<j)(h0:b.testBit p=false):(b+2^p).testBit j=b.testBit j:=by
 obtain⟨k,rfl⟩:∃k,j=(p+1)+k:=⟨j-(p+1),by omega⟩
 rw[zgw,zgw]
 have hm:=zgv h0
 have e:(b+2^p) / 2^(p+1)=b / 2^(p+1):=by
  have hp:2^(p+1)=2^p+2^p:=by rw[Nat.pow_succ];omega
  have d:=Nat.div_add_mod b (2^(p+1))
  have pos:=Nat.two_pow_pos (p+1)
  rw[Nat.div_eq_iff pos]
  have c:b / 2^(p+1)*2^(p+1)=2^(p+1)*(b / 2^(p+1)):=Nat.mul_comm _ _
  rw[c]
  omega
 rw[e]
def zG (b p:Nat)(v:Bool):Nat:=if b.testBit p=v then b else if v then b+2^p else b-2^p
theorem zaF {b p:Nat}(h:b.testBit p=true):2^p<=b:=Nat.ge_two_pow_of_testBit h
theorem zL (b p j:Nat)(v:Bool):(zG b p v).testBit j=if j=p then v else b.testBit j:=by
 unfold zG
 by_cases h:b.testBit p=v
 ·rw[if_pos h]
  by_cases hj:j=p
  ·rw[if_pos hj,hj,h]
  ·rw[if_neg hj]
 ·rw[if_neg h]
  cases v with
  | true =>
   have h0:b.testBit p=false:=by simpa using h
   rw[if_pos rfl]
   by_cases hj:j=p
   ·subst hj;rw[if_pos rfl,wW,h0];rfl
   ·rw[if_neg hj]
    rcases Nat.lt_or_gt_of_ne hj with q | q
    ·exact Tn q
    ·exact zaE q h0
  | false =>
   have h1:b.testBit p=true:=by simpa using h
   rw[if_neg zqY]
   have ge:=zaF h1
   obtain⟨c,hc⟩:∃c,b=c+2^p:=⟨b-2^p,by omega⟩
   have h0:c.testBit p=false:=by
    rw[hc,wW] at h1
    simpa using h1
   have e:b-2^p=c:=by omega
   rw[e,hc]
   by_cases hj:j=p
   ·subst hj;rw[if_pos rfl,h0]
   ·rw[if_neg hj]
    rcases Nat.lt_or_gt_of_ne hj with q | q
    ·exact(Tn q).symm
    ·exact(zaE q h0).symm
theorem zO {b p n:Nat}{v:Bool}(hb:b<2^n)(hp:p<n):zG b p v<2^n:=by
 refine Nat.lt_pow_two_of_testBit _ fun i hi=>?_
 rw[zL,if_neg (by omega)]
 exact Nat.testBit_lt_two_pow (zq3 hb (zrq (by decide) hi))
def zP (n:Nat)(N:Nat)(f:Nat->Bool):Prop:=∀b,N.testBit b=(decide (b<2^n)&&f b)
theorem Vj (n:Nat):zP n (2^2^n-1) (fun _=>true):=fun b=>by
 rw[Nat.testBit_two_pow_sub_one,Bool.and_true]
theorem Zd (n:Nat):zP n 0 (fun _=>false):=fun b=>by simp
theorem Ze {n N M:Nat}{f g:Nat->Bool}(h:zP n N f)(k:zP n M g):zP n (N ^^^ M) (fun b=>f b != g b):=fun b=>by
 rw[Nat.testBit_xor,h b,k b]
 show _=(decide (b<2^n)&&(f b != g b))
 cases decide (b<2^n)<;>cases f b<;>cases g b<;>rfl
theorem vJ {n N M:Nat}{f g:Nat->Bool}(h:zP n N f)(k:zP n M g):zP n (N&&&M) (fun b=>f b&&g b):=fun b=>by
 rw[Nat.testBit_and,h b,k b]
 show _=(decide (b<2^n)&&(f b&&g b))
 cases decide (b<2^n)<;>cases f b<;>cases g b<;>rfl
theorem Yw {n N M:Nat}{f g:Nat->Bool}(h:zP n N f)(k:zP n M g):zP n (N|||M) (fun b=>f b||g b):=fun b=>by
 rw[Nat.testBit_or,h b,k b]
 show _=(decide (b<2^n)&&(f b||g b))
 cases decide (b<2^n)<;>cases f b<;>cases g b<;>rfl
theorem zV {n N:Nat}{f g:Nat->Bool}(h:zP n N f)(e:∀b,b<2^n->f b=g b):zP n N g:=fun b=>by
 rw[h b]
 by_cases hb:b<2^n
 ·rw[e b hb]
 ·rw[decide_eq_false hb];rfl
theorem zgx {n N:Nat}{f:Nat->Bool}(h:zP n N f):N<2^2^n:=Nat.lt_pow_two_of_testBit _ fun i hi=>by
 rw[h i,decide_eq_false (by omega)];rfl
theorem zfs (p:Nat):zP (p+1) ((2^2^p-1)*2^2^p) (fun b=>b.testBit p):=fun b=>by
 rw[Nat.testBit_mul_two_pow,Nat.testBit_two_pow_sub_one]
 show _=(decide (b<2^(p+1))&&b.testBit p)
 have hp:2^(p+1)=2^p+2^p:=by rw[Nat.pow_succ];omega
 by_cases h1:2^p<=b
 ·by_cases h2:b<2^(p+1)
  ·have e:b.testBit p=true:=by
    obtain⟨c,rfl⟩:∃c,b=c+2^p:=⟨b-2^p,by omega⟩
    rw[wW,Nat.testBit_lt_two_pow (by omega)]
    rfl
   rw[e]
   simp[h1,h2]
   omega
  ·simp[h2]
   intro _
   omega
 ·have e:b.testBit p=false:=Nat.testBit_lt_two_pow (by omega)
  rw[e]
  simp[h1]
theorem zdP {p m N:Nat}(hp:p<m)(h:zP m N (fun b=>b.testBit p)):zP (m+1) (N|||N*2^2^m) (fun b=>b.testBit p):=fun b=>by
 rw[Nat.testBit_or,Nat.testBit_mul_two_pow,h b,h (b-2^m)]
 show(_||(_&&(_&&(b-2^m).testBit p)))=(decide (b<2^(m+1))&&b.testBit p)
 have hm:2^(m+1)=2^m+2^m:=by rw[Nat.pow_succ];omega
 by_cases h1:b<2^m
 ·have h2:b<2^(m+1):=by omega
  have h3:¬ 2^m<=b:=by omega
  simp[h1,h2,h3]
 ·have h3:2^m<=b:=by omega
  have e:(b-2^m).testBit p=b.testBit p:=by
   obtain⟨c,rfl⟩:∃c,b=c+2^m:=⟨b-2^m,by omega⟩
   rw[Tn hp,Nat.add_sub_cancel]
  rw[e]
  by_cases h2:b<2^(m+1)
  ·have h4:b-2^m<2^m:=by omega
   simp[h1,h2,h3,h4]
  ·have h4:¬b-2^m<2^m:=by omega
   simp[h1,h2,h3,h4]
theorem zgy {n p N R:Nat}{f:Nat->Bool}(hp:p<n)(h:zP n N f)(r:zP n R (fun b=>b.testBit p)) :
  zP n ((N&&&R) / 2^2^p|||(N ^^^ (N&&&R))*2^2^p) (fun b=>f (zG b p (!b.testBit p))):=fun b=>by
 have o:=vJ h r
 have z:=Ze h o
 have pp:=Nat.two_pow_pos p
 rw[Nat.testBit_or,Nat.testBit_mul_two_pow,Nat.testBit_div_two_pow,o,z]
 dsimp only
 by_cases hb:b<2^n
 ·cases hbit:b.testBit p with
  | false =>
   have e:zG b p (!false)=b+2^p:=by
    unfold zG
    rw[hbit,if_neg (by decide),if_pos (by decide)]
   have lt:b+2^p<2^n:=by rw[<-e];exact zO hb hp
   rw[e,wW,hbit]
   by_cases h1:2^p<=b
   ·have e2:(b-2^p).testBit p=true:=by
     obtain⟨c,rfl⟩:∃c,b=c+2^p:=⟨b-2^p,by omega⟩
     rw[wW] at hbit
     rw[Nat.add_sub_cancel]
     simpa using hbit
    rw[e2]
    have h4:b-2^p<2^n:=by omega
    simp[hb,lt,h1,h4]
   ·simp[hb,lt,h1]
  | true =>
   have ge:=zaF hbit
   have e:zG b p (!true)=b-2^p:=by
    unfold zG
    rw[hbit,if_neg (by decide),if_neg (by decide)]
   have e2:(b-2^p).testBit p=false:=by
    obtain⟨c,rfl⟩:∃c,b=c+2^p:=⟨b-2^p,by omega⟩
    rw[wW] at hbit
    rw[Nat.add_sub_cancel]
    simpa using hbit
   rw[e,wW,hbit,e2]
   have h4:b-2^p<2^n:=by omega
   simp[hb,ge,h4]
 ·have h3:¬b+2^p<2^n:=by omega
  have h5:(decide (2^p<=b)&&(decide (b-2^p<2^n)&&(f (b-2^p) != (f (b-2^p)&&(b-2^p).testBit p))))=false:=by
   by_cases h1:2^p<=b
   ·by_cases h4:b-2^p<2^n
    ·
     have e:(b-2^p).testBit p=true:=by
      cases q:(b-2^p).testBit p with
      | true=>rfl
      | false =>
       exfalso
       have l:=zO (v:=true) h4 hp
       unfold zG at l
       rw[q,if_neg (by decide),if_pos rfl] at l
       omega
     rw[e]
     cases f (b-2^p)<;>simp
    ·simp[h4]
   ·simp[h1]
  rw[h5]
  simp[hb,h3]
theorem Sd (a:Nat):a%2=(a.testBit 0).toNat:=by
 rw[Nat.testBit_zero]
 have:=Nat.mod_two_eq_zero_or_one a
 rcases this with h | h<;>rw[h]<;>rfl
theorem zeI:∀(n a b:Nat),a<=n->(a ^^^ b)+2*(a&&&b)=a+b
 | 0,a,b,h=>by
  have:a=0:=by omega
  subst this;simp
 | n+1,a,b,h=>by
  by_cases h0:a=0
  ·subst h0;simp
  ·have ih:=zeI n (a / 2) (b / 2) (by omega)
   have e1:(a ^^^ b) / 2=a / 2 ^^^ b / 2:=Nat.xor_div_two
   have e2:(a&&&b) / 2=a / 2&&&b / 2:=Nat.and_div_two
   have d1:=Nat.div_add_mod (a ^^^ b) 2
   have d2:=Nat.div_add_mod (a&&&b) 2
   have d3:=Nat.div_add_mod a 2
   have d4:=Nat.div_add_mod b 2
   rw[e1] at d1
   rw[e2] at d2
   cases ha:a.testBit 0<;>cases hb:b.testBit 0
   ·have m1:(a ^^^ b)%2=0:=by rw[Sd,Nat.testBit_xor,ha,hb];rfl
    have m2:(a&&&b)%2=0:=by rw[Sd,Nat.testBit_and,ha,hb];rfl
    have m3:a%2=0:=by rw[Sd,ha];rfl
    have m4:b%2=0:=by rw[Sd,hb];rfl
    omega
   ·have m1:(a ^^^ b)%2=1:=by rw[Sd,Nat.testBit_xor,ha,hb];rfl
    have m2:(a&&&b)%2=0:=by rw[Sd,Nat.testBit_and,ha,hb];rfl
    have m3:a%2=0:=by rw[Sd,ha];rfl
    have m4:b%2=1:=by rw[Sd,hb];rfl
    omega
   ·have m1:(a ^^^ b)%2=1:=by rw[Sd,Nat.testBit_xor,ha,hb];rfl
    have m2:(a&&&b)%2=0:=by rw[Sd,Nat.testBit_and,ha,hb];rfl
    have m3:a%2=1:=by rw[Sd,ha];rfl
    have m4:b%2=0:=by rw[Sd,hb];rfl
    omega
   ·have m1:(a ^^^ b)%2=0:=by rw[Sd,Nat.testBit_xor,ha,hb];rfl
    have m2:(a&&&b)%2=1:=by rw[Sd,Nat.testBit_and,ha,hb];rfl
    have m3:a%2=1:=by rw[Sd,ha];rfl
    have m4:b%2=1:=by rw[Sd,hb];rfl
    omega
theorem zgz:∀(n a b:Nat),a<=n->(a|||b)+(a&&&b)=a+b
 | 0,a,b,h=>by
  have:a=0:=by omega
  subst this;simp
 | n+1,a,b,h=>by
  by_cases h0:a=0
  ·subst h0;simp
  ·have ih:=zgz n (a / 2) (b / 2) (by omega)
   have e1:(a|||b) / 2=a / 2|||b / 2:=Nat.or_div_two
   have e2:(a&&&b) / 2=a / 2&&&b / 2:=Nat.and_div_two
   have d1:=Nat.div_add_mod (a|||b) 2
   have d2:=Nat.div_add_mod (a&&&b) 2
   have d3:=Nat.div_add_mod a 2
   have d4:=Nat.div_add_mod b 2
   rw[e1] at d1
   rw[e2] at d2
   cases ha:a.testBit 0<;>cases hb:b.testBit 0
   ·have m1:(a|||b)%2=0:=by rw[Sd,Nat.testBit_or,ha,hb];rfl
    have m2:(a&&&b)%2=0:=by rw[Sd,Nat.testBit_and,ha,hb];rfl
    have m3:a%2=0:=by rw[Sd,ha];rfl
    have m4:b%2=0:=by rw[Sd,hb];rfl
    omega
   ·have m1:(a|||b)%2=1:=by rw[Sd,Nat.testBit_or,ha,hb];rfl
    have m2:(a&&&b)%2=0:=by rw[Sd,Nat.testBit_and,ha,hb];rfl
    have m3:a%2=0:=by rw[Sd,ha];rfl
    have m4:b%2=1:=by rw[Sd,hb];rfl
    omega
   ·have m1:(a|||b)%2=1:=by rw[Sd,Nat.testBit_or,ha,hb];rfl
    have m2:(a&&&b)%2=0:=by rw[Sd,Nat.testBit_and,ha,hb];rfl
    have m3:a%2=1:=by rw[Sd,ha];rfl
    have m4:b%2=0:=by rw[Sd,hb];rfl
    omega
   ·have m1:(a|||b)%2=1:=by rw[Sd,Nat.testBit_or,ha,hb];rfl
    have m2:(a&&&b)%2=1:=by rw[Sd,Nat.testBit_and,ha,hb];rfl
    have m3:a%2=1:=by rw[Sd,ha];rfl
    have m4:b%2=1:=by rw[Sd,hb];rfl
    omega
theorem zjY (a b:Nat):Builtin.bitAnd (a:Int) (b:Int)=((a&&&b:Nat):Int):=by
 unfold Builtin.bitAnd
 rw[decide_eq_true (Int.natCast_nonneg a),decide_eq_true (Int.natCast_nonneg b)]
 simp
theorem orI (a b:Nat):Builtin.bitOr (a:Int) (b:Int)=((a|||b:Nat):Int):=by
 rw[PyProof.Rows.bitOr_and,zjY]
 have:=zgz a a b (zra _)
 omega
theorem znh (a b:Nat):Builtin.bitXor (a:Int) (b:Int)=((a ^^^ b:Nat):Int):=by
 rw[PyProof.Rows.bitXor_and,zjY]
 have:=zeI a a b (zra _)
 omega
theorem zle (n:Nat):(2:Int)^n=((2^n:Nat):Int):=by simp
end Za
namespace L2
open PySem PySem.Spec PyProof.Rows Za
section
variable {X:Cx}
def zlf:R2:=fun x y H Q=>∃a n:Nat,x=.int a/\y=.int n/\a<2^10000/\n<=10000/\Q (.int (a*2^n:Nat)) H
theorem Yd:Uc X (binaryOp .LShift) zlf:=by
 intro pins s σ H x y v u Q I rx ry h
 obtain⟨a,n,rfl,rfl,ha,hn,q⟩:=h
 obtain⟨t,rfl⟩:=rx
 obtain⟨t',rfl⟩:=ry
 have hb:Builtin.Int.intBits (a:Int)<=10000:=intBits_le (by simpa using ha)
 refine lshift_int (Int.natCast_nonneg n) ?_ ?_
 ·have e:(2:Int)^27=134217728:=by decide
  rw[e];omega
 ·rw[Int.toNat_natCast]
  have e:(a:Int)*2^n=((a*2^n:Nat):Int):=by rw[zle,Int.natCast_mul]
  rw[e]
  exact⟨.int (a*2^n:Nat),H,I.tok _,⟨_,rfl⟩,q⟩
def zlg:R2:=fun x y H Q=>∃a n:Nat,x=.int a/\y=.int n/\Q (.int (a / 2^n:Nat)) H
theorem zhZ:Uc X (binaryOp .RShift) zlg:=by
 intro pins s σ H x y v u Q I rx ry h
 obtain⟨a,n,rfl,rfl,q⟩:=h
 refine zjD pins s σ H _ _ v u Q I rx ry ⟨_,_,rfl,rfl,Int.natCast_nonneg n,?_⟩
 show Q (.int ((a:Int) / 2^(n:Int).toNat)) H
 rw[Int.toNat_natCast,zle,<-Int.natCast_ediv]
 exact q
def rN2 (g:Nat->Nat->Nat):R2:=fun x y H Q=>∃a b:Nat,x=.int a/\y=.int b/\Q (.int (g a b:Nat)) H
theorem v7:Uc X (binaryOp .BitAnd) (rN2 (·&&&·)):=by
 intro pins s σ H x y v u Q I rx ry h
 obtain⟨a,b,rfl,rfl,q⟩:=h
 exact zjE pins s σ H _ _ v u Q I rx ry ⟨_,_,rfl,rfl,by show Q (.int (Builtin.bitAnd a b)) H;rw[zjY];exact q⟩
theorem Z1:Uc X (binaryOp .BitOr) (rN2 (·|||·)):=by
 intro pins s σ H x y v u Q I rx ry h
 obtain⟨a,b,rfl,rfl,q⟩:=h
 exact zkX pins s σ H _ _ v u Q I rx ry ⟨_,_,rfl,rfl,by show Q (.int (Builtin.bitOr a b)) H;rw[orI];exact q⟩
theorem Ye:Uc X (binaryOp .BitXor) (rN2 (· ^^^ ·)):=by
 intro pins s σ H x y v u Q I rx ry h
 obtain⟨a,b,rfl,rfl,q⟩:=h
 exact zjF pins s σ H _ _ v u Q I rx ry ⟨_,_,rfl,rfl,by show Q (.int (Builtin.bitXor a b)) H;rw[znh];exact q⟩
end
end L2
namespace L2
open PySem PySem.Spec PyProof.Rows
def strsOf:List Expr->Option (List Str)
 | []=>some []
 | .Constant (.str x) _ _::r=>(strsOf r).map (x::·)
 | _=>none
theorem zcm {e:Expr}{r:List Expr}{xs:List Str}(h:strsOf (e::r)=some xs):∃x j p ys,e=.Constant (.str x) j p/\strsOf r=some ys/\xs=x::ys:=by
 cases e with
 | Constant c j p =>
  cases c with
  | str x =>
   have h':(strsOf r).map (x::·)=some xs:=h
   cases hr:strsOf r with
   | none=>rw[hr] at h';cases h'
   | some ys =>
    rw[hr] at h'
    exact⟨x,j,p,ys,rfl,rfl,(zrp h').symm⟩
  | _=>cases h
 | _=>cases h
def zlh (xs:List Str):TA:=fun _ H Q=>Q (xs.map V.str) H
def zi6 (xs:List Str):TE:=fun _ H Q=>xs.length<=sizeLine/\∀p,H p=none->Q (.ref p) (upd H p (.lst (xs.map V.str)))
section
variable {X:Cx}
theorem zh0 {es:List Expr}:∀{xs:List Str},strsOf es=some xs->PA X es (zlh xs):=by
 induction es with
 | nil =>
  intro xs h
  cases h
  exact fun pos pins s σ H Q I q=>zc pos pins s σ H Q I q
 | cons e r ih =>
  intro xs h
  obtain⟨x,j,p,ys,rfl,hr,rfl⟩:=zcm h
  exact fun pos pins s σ H Q I q=>za (z9 (x:=x) (j:=j) (pos:=p)) (ih hr) rfl pos pins s σ H Q I q
theorem zh1 {es:List Expr}{pos:Pos}{xs:List Str}(h:strsOf es=some xs):PE X (.List es pos) (zi6 xs):=by
 intro pins s σ H Q I q
 refine uG (zh0 h) pins s σ H Q I ⟨?_,q.2⟩
 rw[zqU];exact q.1
def zbk:Stmt->Option (Str×List Str)
 | .Assign [.Name x _] (.List es _) _=>(strsOf es).map (x,·)
 | _=>none
theorem zbl {st:Stmt}{x:Str}{xs:List Str}(h:zbk st=some (x,xs)):∃p es q r,st=.Assign [.Name x p] (.List es q) r/\strsOf es=some xs:=by
 unfold zbk at h
 split at h
 ·rename_i y p es q r
  cases hs:strsOf es with
  | none=>rw[hs] at h;cases h
  | some ys =>
   rw[hs] at h
   cases h
   exact⟨_,_,_,_,rfl,hs⟩
 ·cases h
theorem zh2 {i:Nat}{x:Str}{xs:List Str}{st:Stmt}(h:zbk st=some (x,xs))(hN:X.N.Nodup)(hi:X.N[i]?=some x)(hx:Loc X.env.scope x)(hf:X.fn x=true\/X.env.scope.names.lookup x=some .local):PS X st (zhA (zi6 xs) (VJ i)):=by
 obtain⟨p,es,q,r,rfl,hs⟩:=zbl h
 exact Pq hN hi hx (zh1 hs) rfl hf
end
end L2
set_option exponentiation.threshold 20000
namespace Za
open PySem L2
section
variable {K:Frag}
theorem zcn {a k:Nat}(h:a<2^k)(hk:k<=10000):a<2^10000:=zq3 h (zrq (by decide) hk)
theorem zft {n:Nat}(hn:n<=8):2^n<=256:=zrq (n:=2) (by decide) hn
inductive v8 (vs:List V)(H:Hp)(Q:VK)(E9:XK):Prop
 | mk (n:Nat) (_:vs=[.int n]) (_:n<=8) (_:Q (.int ((2^2^n-1:Nat):Int)) H):v8 vs H Q E9
inductive vN (vs:List V)(H:Hp)(Q:VK)(E9:XK):Prop
 | mk (p n:Nat) (_:vs=[.int p,.int n]) (_:p<n) (_:n<=8) (_:∀R:Nat,zP n R (fun b=>b.testBit p)->Q (.int R) H):vN vs H Q E9
inductive Xd (vs:List V)(H:Hp)(Q:VK)(E9:XK):Prop
 | mk (N p n:Nat) (f:Nat->Bool) (_:vs=[.int N,.int p,.int n]) (_:p<n) (_:n<=8) (_:zP n N f) (_:∀R:Nat,zP n R (fun b=>f (zG b p (!b.testBit p)))->Q (.int R) H):Xd vs H Q E9
def wJ:List Bool->Nat
 | []=>0
 | b::r=>b.toNat+2*wJ r
theorem Ra:∀r:List Bool,wJ r<2^r.length
 | []=>by decide
 | b::r=>by
  have:=Ra r
  show b.toNat+2*wJ r<2^(r.length+1)
  rw[Nat.pow_succ]
  cases b<;>simp<;>omega
theorem Ui:∀(r:List Bool) (i:Nat),(wJ r).testBit i=(r[i]?).getD false
 | [],i=>by simp[wJ]
 | b::r,0=>by
  show(b.toNat+2*wJ r).testBit 0=b
  rw[Nat.testBit_zero]
  cases b<;>simp<;>omega
 | b::r,i+1=>by
  show(b.toNat+2*wJ r).testBit (i+1)=(r[i]?).getD false
  rw[Nat.testBit_succ,<-Ui r i]
  have:(b.toNat+2*wJ r) / 2=wJ r:=by cases b<;>simp<;>omega
  rw[this]
abbrev YT (r:List Bool):List V:=r.map fun b=>V.int (b.toNat:Nat)
theorem Uj {H:Hp}{p:Addr}(h:H p=none)(o:HO):Same H (upd H p o):=fun b u q=>by rw[zA (zy q h)];exact q
inductive Qc (K:Frag)(vs:List V)(H:Hp)(Q:VK)(E9:XK):Prop
 | mk (l:Addr) (ns:List Int) (i:Int) (_:vs=[.ref l,.int i]) (_:zZ K H l (ns.map V.int)) (_:0<=i) (_:∀v:Int,Q (.int v) H):Qc K vs H Q E9
inductive KQ (vs:List V)(H:Hp)(Q:VK)(E9:XK):Prop
 | mk (c:Int) (k:Nat) (b:Int) (_:vs=[.int c,.int k,.int b]) (_:k<=40) (_:0<b) (_:b<1073741824) (_:∀r:Int,0<=r->r<b->Q (.int r) H):KQ vs H Q E9
def vK:List Str:=["a", "b", "c", "d", "e", "f", "g", "h"]
structure Sg (os:List Str):Prop where
 nd:os.Nodup
 mem:∀x∈os,x∈vK
 pos:0<os.length
theorem Qd {α:Type}[DecidableEq α]:∀{xs ys:List α},xs.Nodup->(∀x∈xs,x∈ys)->xs.length<=ys.length
 | [],_,_,_=>zrh _
 | x::xs,ys,nd,h=>by
  obtain⟨h1,h2⟩:=List.nodup_cons.mp nd
  have hx:=h x zre
  have ih:=Qd (xs:=xs) (ys:=ys.erase x) h2 fun y hy=>(List.mem_erase_of_ne (fun e:y=x=>h1 (by rw[<-e];exact hy))).mpr (h y (zq5 _ hy))
  rw[List.length_erase_of_mem hx] at ih
  have:=List.length_pos_of_mem hx
  rw[zq6]
  omega
theorem zh3 {i:Nat}(h:i<8):∃c,atI (Str.ofString "abcdefgh").cps.toList (i:Int)=some c/\vK[i]?=some ⟨#[c]⟩:=by
 match i,h with
 | 0,_=>exact⟨97,by decide +kernel,by decide +kernel⟩
 | 1,_=>exact⟨98,by decide +kernel,by decide +kernel⟩
 | 2,_=>exact⟨99,by decide +kernel,by decide +kernel⟩
 | 3,_=>exact⟨100,by decide +kernel,by decide +kernel⟩
 | 4,_=>exact⟨101,by decide +kernel,by decide +kernel⟩
 | 5,_=>exact⟨102,by decide +kernel,by decide +kernel⟩
 | 6,_=>exact⟨103,by decide +kernel,by decide +kernel⟩
 | 7,_=>exact⟨104,by decide +kernel,by decide +kernel⟩
theorem zco:vK.Nodup:=by decide +kernel
theorem zgA {i:Nat}{y:Str}(h:vK[i]?=some y):y∉vK.take i:=fun hm=>by
 obtain⟨j,hj⟩:=List.getElem?_of_mem hm
 have hlt:j<i:=by
  have:=(zqX.mp hj).1
  rw[zri] at this
  omega
 rw[List.getElem?_take_of_lt hlt] at hj
 have h1:=(zqX.mp hj)
 have h2:=(zqX.mp h)
 obtain⟨l1,e1⟩:=h1
 obtain⟨l2,e2⟩:=h2
 have:=(List.getElem_inj zco).mp (e1.trans e2.symm)
 omega
theorem Sg.le {os:List Str}(h:Sg os):os.length<=8:=Qd h.nd h.mem
inductive zbm (vs:List V)(H:Hp)(Q:VK)(E9:XK):Prop
 | mk (c:Int) (n:Nat) (_:vs=[.int c,.int n]) (_:0<n) (_:n<=8) (_:∀(l:Addr) (H':Hp) (os:List Str),Same H H'->H' l=some (.lst (os.map V.str))->Sg os->os.length<=n->Q (.ref l) H'):zbm vs H Q E9
def Tp (H:Hp):Sn->Addr->Prop
 | .c0 y,p=>H p=some (.tup [.str (Sn.word (.c0 y))])
 | .mk x,p=>H p=some (.tup [.str "mark", .str x])
 | .nt s,p=>∃q,H p=some (.tup [.str "not", .ref q])/\Tp H s q
 | .b2 o s t,p=>∃q r,H p=some (.tup [.str (w2 o),.ref q,.ref r])/\Tp H s q/\Tp H t r
 | .q1 o x s,p=>∃q,H p=some (.tup [.str (if o then "some" else "each"),.str x,.ref q])/\Tp H s q
def yW (H H':Hp):Prop:=∀b xs,H b=some (.tup xs)->H' b=some (.tup xs)
theorem yW.trans {H H1 H2:Hp}(a:yW H H1)(b:yW H1 H2):yW H H2:=fun c o h=>b c o (a c o h)
theorem yW.of {H H':Hp}(g:Same H H'):yW H H':=fun b xs h=>g b _ h
theorem yW.new {H:Hp}{p:Addr}(h:H p=none)(o:HO):yW H (upd H p o):=fun b u q=>by rw[zA (zy q h)];exact q
theorem yW.lst {H:Hp}{p:Addr}{xs:List V}(h:H p=some (.lst xs))(o:HO):yW H (upd H p o):=fun b u q=>by rw[zA (V8 q h (fun z=>nomatch z))];exact q
theorem Tp.mono {H H':Hp}(g:yW H H'):∀{s:Sn} {p:Addr},Tp H s p->Tp H' s p
 | .c0 y,p,h=>g _ _ h
 | .mk x,p,h=>g _ _ h
 | .nt s,p,⟨q,h,k⟩=>⟨q,g _ _ h,k.mono g⟩
 | .b2 o s t,p,⟨q,r,h,k,l⟩=>⟨q,r,g _ _ h,k.mono g,l.mono g⟩
 | .q1 o x s,p,⟨q,h,k⟩=>⟨q,g _ _ h,k.mono g⟩
theorem zh4 (o:Bool)(x:Str)(s:Sn):Sn.word (.q1 o x s)=if o then Str.ofString "some" else Str.ofString "each" := by cases o<;>rfl
theorem Tp.shape {H:Hp}:∀{s:Sn} {p:Addr},Tp H s p->∃qs:List Addr,H p=some (.tup (.str s.word::(s.letters.map V.str++qs.map V.ref)))/\Paired (Tp H) s.parts qs
 | .c0 y,p,h=>⟨[],h,.nil⟩
 | .mk x,p,h=>⟨[],h,.nil⟩
 | .nt s,p,⟨q,h,k⟩=>⟨[q],h,.cons k .nil⟩
 | .b2 o s t,p,⟨q,r,h,k,l⟩=>⟨[q,r],h,.cons k (.cons l .nil)⟩
 | .q1 o x s,p,⟨q,h,k⟩=>⟨[q],by rw[zh4];exact h,.cons k .nil⟩
theorem zbn {α:Type}{xs:List α}{i:Int}(h0:-(xs.length:Int)<=i)(h1:i<xs.length):∃(j:Nat) (v:α),atI xs i=some v/\xs[j]?=some v:=by
 by_cases h:0<=i
 ·have hj:i.toNat<xs.length:=by omega
  have q:=xZ (xs:=xs) (j:=i.toNat) (zqV hj)
  have e:((i.toNat:Nat):Int)=i:=by omega
  rw[e] at q
  exact⟨_,_,q,zqV hj⟩
 ·have hj:(i+xs.length).toNat<xs.length:=by omega
  refine⟨_,_,?_,zqV hj⟩
  unfold atI ixN
  rw[if_neg h,if_pos h0]
  show xs[(i+xs.length).toNat]?=_
  exact zqV hj
def Rb:List Str:=["mark", "mark", "not", "and", "or", "either", "if", "and", "or", "some", "each", "yes", "no", "mark"]
structure Made (H0 H:Hp)(os:List Str)(m kd:Addr)(ps:List Addr)(d:Nat):Prop where
 old:Same H0 H
 mad:H m=some (.lst (ps.map V.ref))
 kin:H kd=some (.lst (Rb.map V.str))
 ne:ps≠[]
 all:∀p∈ps,∃s,Tp H s p/\s.RN os/\s.depth<=d
theorem Made.push {H0 H:Hp}{os:List Str}{m kd p:Addr}{ps:List Addr}{d:Nat}{xs:List V}(M:Made H0 H os m kd ps d)(fm:H0 m=none)(hp:H p=none){s:Sn}(hs:Tp (upd H p (.tup xs)) s p)(ho:s.RN os)(hd:s.depth<=d+1)(hk:m≠kd) :
  Made H0 (upd (upd H p (.tup xs)) m (.lst ((ps++[p]).map V.ref))) os m kd (ps++[p]) (d+1):=by
 have hm:m≠p:=zy M.mad hp
 have hkp:kd≠p:=zy M.kin hp
 have mad':(upd H p (.tup xs)) m=some (.lst (ps.map V.ref)):=by rw[zA hm];exact M.mad
 have t1:yW H (upd H p (.tup xs)):=yW.new hp _
 have t2:yW (upd H p (.tup xs)) (upd (upd H p (.tup xs)) m (.lst ((ps++[p]).map V.ref))):=yW.lst mad' _
 refine⟨fun b o h=>?_,zj,?_,by simp,fun q hq=>?_⟩
 ·have h1:=M.old b o h
  rw[zA (zy h fm),zA (zy h1 hp)]
  exact h1
 ·rw[zA (Ne.symm hk),zA hkp];exact M.kin
 ·rcases List.mem_append.mp hq with z | z
  ·obtain⟨s',q1,q2,q3⟩:=M.all q z
   exact⟨s',(q1.mono t1).mono t2,q2,by omega⟩
  ·have z':q=p:=by simpa using z
   subst z'
   exact⟨s,hs.mono t2,ho,hd⟩
inductive Rf (K:Frag)(vs:List V)(H:Hp)(Q:VK)(E9:XK):Prop
 | mk (sc ol:Addr) (ns:List Int) (t m:Nat) (os:List Str) (_:vs=[.ref sc,.int t,.int m,.ref ol]) (_:zZ K H sc (ns.map V.int)) (_:zZ K H ol (os.map V.str)) (_:0<os.length) (_:os.length<=8) (_:0<m) (_:m<=40) (_:t<=60) (_:∀(p:Addr) (H':Hp) (s:Sn),Same H H'->Tp H' s p->s.RN os->s.depth<=m->Q (.ref p) H'):Rf K vs H Q E9
theorem Mr {os:List Str}(h0:0<os.length)(r:Int):∃x,x∈os/\atI (os.map V.str) (r%((os.map V.str).length:Nat))=some (.str x):=by
 have e:(os.map V.str).length=os.length:=zqU _
 have m0:0<=r%((os.map V.str).length:Nat):=zrB _ (by omega)
 have m1:r%((os.map V.str).length:Nat)<((os.map V.str).length:Nat):=zry _ (by omega)
 obtain⟨j,v,q1,q2⟩:=zbn (xs:=os.map V.str) (i:=r%((os.map V.str).length:Nat)) (by omega) m1
 rw[zqW] at q2
 cases hx:os[j]? with
 | none=>rw[hx] at q2;cases q2
 | some x =>
  rw[hx] at q2
  cases q2
  exact⟨x,zqZ hx,q1⟩
theorem PK {ps:List Addr}{i:Int}(h0:-(ps.length:Int)<=i)(h1:i<ps.length):∃p,p∈ps/\atI (ps.map V.ref) i=some (.ref p):=by
 have e:(ps.map V.ref).length=ps.length:=zqU _
 obtain⟨j,v,q1,q2⟩:=zbn (xs:=ps.map V.ref) (i:=i) (by omega) (by omega)
 rw[zqW] at q2
 cases hx:ps[j]? with
 | none=>rw[hx] at q2;cases q2
 | some x =>
  rw[hx] at q2
  cases q2
  exact⟨x,zqZ hx,q1⟩
end
end Za
namespace L2
open PySem
section
variable {α β:Type}{R S:α->β->Prop}
theorem PL:∀{xs ys:List α} {us ws:List β},Paired R xs us->Paired R ys ws->Paired R (xs++ys) (us++ws)
 | _,_,_,_,.nil,s=>s
 | _,_,_,_,.cons r t,s=>.cons r (PL t s)
theorem Wk (f:∀a b,R a b->S a b):∀{xs:List α} {us:List β},Paired R xs us->Paired S xs us
 | _,_,.nil=>.nil
 | _,_,.cons r t=>.cons (f _ _ r) (Wk f t)
theorem uH:∀{xs:List α} {us:List β},Paired R xs us->xs.length=us.length
 | _,_,.nil=>rfl
 | _,_,.cons _ t=>by rw[zq6,zq6,uH t]
theorem zaG:∀{xs:List α} {us:List β} {i:Nat} {x:α},Paired R xs us->xs[i]?=some x->∃u,us[i]?=some u/\R x u
 | _,_,_,_,.nil,e=>by simp at e
 | _,_,0,_,.cons r _,e=>by simp at e;subst e;exact⟨_,rfl,r⟩
 | _,_,i+1,x,.cons _ t,e=>by
  obtain⟨u,h1,h2⟩:=zaG (i:=i) (x:=x) t (by simpa using e)
  exact⟨u,by simpa using h1,h2⟩
theorem Qe:∀{xs:List α} {us:List β} {i:Nat} {u:β},Paired R xs us->us[i]?=some u->∃x,xs[i]?=some x/\R x u
 | _,_,_,_,.nil,e=>by simp at e
 | _,_,0,_,.cons r _,e=>by simp at e;subst e;exact⟨_,rfl,r⟩
 | _,_,i+1,x,.cons _ t,e=>by
  obtain⟨u,h1,h2⟩:=Qe (i:=i) (u:=x) t (by simpa using e)
  exact⟨u,by simpa using h1,h2⟩
theorem zY {α:Type}{xs:List α}{i:Nat}{x:α}(h:xs[i]?=some x):xs.take (i+1)=xs.take i++[x]:=by
 rw[List.take_succ,h]
 rfl
theorem Same.zli {K:Frag}{H H':Hp}{a:Addr}{xs:List V}(e:Same H H')(h:tY K H a xs):tY K H' a xs:=by
 rcases h with (h | ⟨o,h⟩) | h
 ·exact .inl (.inl (e _ _ h))
 ·exact .inl (.inr ⟨o,e _ _ h⟩)
 ·exact .inr h
theorem Same.new {H:Hp}{p:Addr}(h:H p=none)(o:HO):Same H (upd H p o):=fun b u q=>by rw[zA (zy q h)];exact q
theorem Same.over {H H':Hp}{p:Addr}(g:Same H H')(h:H p=none)(o:HO):Same H (upd H' p o):=fun b u q=>by rw[zA (zy q h)];exact g b u q
theorem at0 {α:Type}{x:α}{xs:List α}:atI (x::xs) 0=some x:=xZ (j:=0) rfl
theorem at1 {α:Type}{x y:α}{xs:List α}:atI (x::y::xs) 1=some y:=xZ (j:=1) rfl
end
section
variable {K:Frag}{a:Addr}{xs:List V}{σ:St}{js:List Nat}{te:TE}{H:Hp}{Qf:Addr->Hp->List V->Prop}
theorem zbo (R:V->V->Prop)(hq:zZ K H a xs)(hz:xs.length<=sizeLine)
  (hs:∀(i:Nat) x H',xs[i]?=some x->Same H H'->te (YM σ js (some x)) H' fun v H3=>R x v/\Same H H3)
  (me:∀ σ H Q Q',(∀v H1,Q v H1->Q' v H1)->te σ H Q->te σ H Q')
  (hd:∀ys H' p,Paired R xs ys->Same H H'->H' p=none->Qf p H' ys) :
  ∃W:Nat->Nat->List V->Hp->Prop,(∃m,W 0 m [] H)/\∀i m ys H,W i m ys H ->
   ((Kq K a).stop i H/\∀p,H p=none->Qf p H ys) \/
   ((Kq K a).go i H/\ys.length<sizeLine/\∀x H',(Kq K a).Pj i H x H'->Le (YM σ js (some x)) H' fun b H2 =>
    if b=true then te (YM σ js (some x)) H2 fun v H3=>∃m',m'<m/\W (i+1) m' (ys++[v]) H3 else ∃m',m'<m/\W (i+1) m' ys H2):=by
 refine zhQ (fun i ys H'=>Same H H'/\Paired R (xs.take i) ys) ⟨Same.refl _,.nil⟩ hz ?_ ?_ (fun _ _ _ _ h q=>h _ _ q) me ?_
 ·rintro i ys H' hi ⟨g,r⟩
  have:=uH r
  rw[zri] at this
  exact⟨g.seq hq,by omega⟩
 ·rintro i x ys H' hx ⟨g,r⟩
  show te (YM σ js (some x)) H' fun v H3=>Same H H3/\Paired R (xs.take (i+1)) (ys++[v])
  refine me _ _ _ _ (fun v H3 h3=>⟨h3.2,?_⟩) (hs i x H' hx g)
  rw[zY hx]
  exact PL r (.cons h3.1 .nil)
 ·rintro ys H' p ⟨g,r⟩ hp
  rw[zrn] at r
  exact hd ys H' p r g hp
theorem zeJ (R:V->V->Prop)(hq:tY K H a xs)(hz:xs.length<=sizeLine)
  (hs:∀(i:Nat) x H',xs[i]?=some x->Same H H'->te (YM σ js (some x)) H' fun v H3=>R x v/\Same H H3)
  (me:∀ σ H Q Q',(∀v H1,Q v H1->Q' v H1)->te σ H Q->te σ H Q')
  (hd:∀ys H' p,Paired R xs ys->Same H H'->H' p=none->Qf p H' ys) :
  ∃W:Nat->Nat->List V->Hp->Prop,(∃m,W 0 m [] H)/\∀i m ys H,W i m ys H ->
   ((Itt K a).stop i H/\∀p,H p=none->Qf p H ys) \/
   ((Itt K a).go i H/\ys.length<sizeLine/\∀x H',(Itt K a).Pj i H x H'->Le (YM σ js (some x)) H' fun b H2 =>
    if b=true then te (YM σ js (some x)) H2 fun v H3=>∃m',m'<m/\W (i+1) m' (ys++[v]) H3 else ∃m',m'<m/\W (i+1) m' ys H2):=by
 refine zgk (fun i ys H'=>Same H H'/\Paired R (xs.take i) ys) ⟨Same.refl _,.nil⟩ hz ?_ ?_ (fun _ _ _ _ h q=>h _ _ q) me ?_
 ·rintro i ys H' hi ⟨g,r⟩
  have:=uH r
  rw[zri] at this
  exact⟨g.zli hq,by omega⟩
 ·rintro i x ys H' hx ⟨g,r⟩
  show te (YM σ js (some x)) H' fun v H3=>Same H H3/\Paired R (xs.take (i+1)) (ys++[v])
  refine me _ _ _ _ (fun v H3 h3=>⟨h3.2,?_⟩) (hs i x H' hx g)
  rw[zY hx]
  exact PL r (.cons h3.1 .nil)
 ·rintro ys H' p ⟨g,r⟩ hp
  rw[zrn] at r
  exact hd ys H' p r g hp
theorem PN {f:V->V}:∀{xs ys:List V},Paired (fun x v=>v=f x) xs ys->ys=xs.map f
 | _,_,.nil=>rfl
 | _,_,.cons r t=>by rw[zrj,r,PN t]
end
section
variable {X:Cx}{K:Frag}{a:Expr}{ta:TE}
theorem zgB (h:X.K=K):Uc X (compareOp .In) (rIn K false):=by subst h;exact zaA
theorem zaH (h:X.K=K):Uc X (compareOp .NotIn) (rIn K true):=by subst h;exact R8
theorem zbp (h:X.K=K):Xl X (.builtin "isinstance") (fun xs H Q=>∃x T t b,xs=[x,.ty T]/\RX K H x t/\PySem.W.kitOne K t (.type T)=some b/\Q (.bl b) H):=by subst h;exact Ml
theorem J9 (h:X.K=K):Xl X (.builtin "len") (fun xs H Q=>∃p ys,xs=[.ref p]/\(zZ K H p ys\/tY K H p ys)/\Q (.int ys.length) H):=by subst h;exact zK
def KR (sp:Sp):Prop:=∀vs H Q Q' E,(∀v H1,Q v H1->Q' v H1)->sp vs H Q E->sp vs H Q' E
theorem zgC {sp:Sp}(m:KR sp):∀ σ H Q Q',(∀v H1,Q v H1->Q' v H1)->Kv sp [] E0 (RZ (Kl 0) zcf) σ H Q->Kv sp [] E0 (RZ (Kl 0) zcf) σ H Q' :=
 fun σ H Q Q' h ⟨v,e,q⟩=>⟨v,e,m _ _ _ _ _ h q⟩
theorem zcp (x:Str)(ts:List Str):inV (.str x) (ts.map V.str)=decide (x∈ts):=by
 induction ts with
 | nil=>rfl
 | cons t r ih =>
  have e:inV (.str x) ((t::r).map V.str)=((t==x)||inV (.str x) (r.map V.str)):=rfl
  rw[e,ih]
  by_cases h:t=x
  ·subst h;simp
  ·have h':¬x=t:=fun z=>h z.symm
   simp[h,h']
theorem WW (ts:List Str):(ts.map V.str).all WQ=true:=by
 rw[List.all_map,zro]
 exact fun _ _=>rfl
theorem zgD {w:V}{rest:List V}{m n:Nat}(h:rest.length=m+n):J0 (w::rest) (some 1) (some (1+(m:Int)))=rest.take m:=by
 have e1:HT.Zc (w::rest).length 0 (some 1)=min 1 (w::rest).length:=HT.Lx _ _ 1
 have e2:HT.Zc (w::rest).length (w::rest).length (some (1+(m:Int)))=min (1+m) (w::rest).length:=by
  have z:(1:Int)+(m:Int)=((1+m:Nat):Int):=by omega
  rw[z];exact HT.Lx _ _ _
 have l:(w::rest).length=m+n+1:=by rw[zq6,h]
 unfold J0
 rw[e1,e2,l,Nat.min_eq_left (by omega),Nat.min_eq_left (by omega),List.drop_one,List.tail_cons]
 congr 1
 omega
theorem zgE {w:V}{rest:List V}{m n:Nat}(h:rest.length=m+n):J0 (w::rest) (some (1+(m:Int))) none=rest.drop m:=by
 have e2:HT.Zc (w::rest).length 0 (some (1+(m:Int)))=min (1+m) (w::rest).length:=by
  have z:(1:Int)+(m:Int)=((1+m:Nat):Int):=by omega
  rw[z];exact HT.Lx _ _ _
 have l:(w::rest).length=m+n+1:=by rw[zq6,h]
 unfold J0
 rw[e2,HT.zgb,l,Nat.min_eq_left (by omega),Nat.add_comm 1 m,List.drop_succ_cons,List.take_of_length_le]
 rw[List.length_drop,h]
 omega
theorem KY {w:V}{rest:List V}{i:Int}{o:Option Int}(h:1<=i):¬(HT.Zc (w::rest).length 0 (some i)=0/\HT.Zc (w::rest).length (w::rest).length o=(w::rest).length):=by
 rintro⟨h1,_⟩
 have e:HT.Zc (w::rest).length 0 (some i)=min i.toNat (w::rest).length:=by
  have z:=HT.Lx (w::rest).length 0 i.toNat
  have z2:((i.toNat:Nat):Int)=i:=by omega
  rw[z2] at z
  exact z
 rw[e,zq6] at h1
 omega
end
end L2
namespace Za
open PySem L2
section
variable {K:Frag}
def Sn.all:Sn->List Str
 | .c0 _=>[]
 | .mk x=>[x]
 | .nt s=>s.all
 | .b2 _ s t=>s.all++t.all
 | .q1 _ x s=>x::s.all
theorem Sn.zbq:∀(s:Sn) (x:Str),x∈s.all↔x∈s.letters\/∃t∈s.parts,x∈t.all
 | .c0 _,x=>by simp[Sn.all,Sn.letters,Sn.parts]
 | .mk y,x=>by simp[Sn.all,Sn.letters,Sn.parts]
 | .nt s,x=>by simp[Sn.all,Sn.letters,Sn.parts]
 | .b2 _ s t,x=>by simp[Sn.all,Sn.letters,Sn.parts]
 | .q1 _ y s,x=>by simp[Sn.all,Sn.letters,Sn.parts]
theorem Sn.Vk {os:List Str}:∀(s:Sn),s.RN os↔∀x∈s.all,x∈os
 | .c0 _=>by simp[Sn.all,Sn.RN]
 | .mk y=>by simp[Sn.all,Sn.RN]
 | .nt s=>by simp only[Sn.all,Sn.RN];exact Sn.Vk s
 | .b2 _ s t=>by
  simp only[Sn.all,Sn.RN,List.mem_append]
  rw[Sn.Vk s,Sn.Vk t]
  exact⟨fun h x hx=>hx.elim (h.1 x) (h.2 x),fun h=>⟨fun x hx=>h x (.inl hx),fun x hx=>h x (.inr hx)⟩⟩
 | .q1 _ y s=>by
  simp only[Sn.all,Sn.RN,List.mem_cons]
  rw[Sn.Vk s]
  exact⟨fun h x hx=>hx.elim (fun e=>by rw[e];exact h.1) (h.2 x),fun h=>⟨h y (.inl rfl),fun x hx=>h x (.inr hx)⟩⟩
theorem Sn.Qg:∀s:Sn,s.parts.length<=2
 | .c0 _=>by simp[Sn.parts]
 | .mk _=>by simp[Sn.parts]
 | .nt _=>by simp[Sn.parts]
 | .b2 _ _ _=>by simp[Sn.parts]
 | .q1 _ _ _=>by simp[Sn.parts]
theorem Sn.KZ:∀s:Sn,s.letters.length<=1
 | .c0 _=>by simp[Sn.letters]
 | .mk _=>by simp[Sn.letters]
 | .nt _=>by simp[Sn.letters]
 | .b2 _ _ _=>by simp[Sn.letters]
 | .q1 _ _ _=>by simp[Sn.letters]
def cnt (ss:List Sn):Nat:=(ss.map Sn.count).sum
theorem cnt_cons (s:Sn)(ss:List Sn):cnt (s::ss)=s.count+cnt ss:=rfl
theorem zh5 (ss ts:List Sn):cnt (ss++ts)=cnt ss+cnt ts:=by
 unfold cnt;rw[zq8,List.sum_append]
theorem Tq:∀ss:List Sn,cnt ss=ss.length+cnt (ss.flatMap Sn.parts)
 | []=>rfl
 | s::ss=>by
  rw[cnt_cons,List.flatMap_cons,zh5,Tq ss,Sn.Mq s,zq6]
  show 1+cnt s.parts+_=_
  omega
theorem zeK (ss:List Sn):ss.length<=cnt ss:=by rw[Tq];omega
theorem PX {ss:List Sn}{t:Sn}:t∈ss.flatMap Sn.parts↔∃s∈ss,t∈s.parts:=List.mem_flatMap
inductive WX (vs:List V)(H:Hp)(Q:VK)(E9:XK):Prop
 | mk (x:Str) (_:vs=[.str x]) (_:Q (.bl (decide (x∈vK))) H):WX vs H Q E9
theorem Ms:KR WX:=fun vs H Q Q' E h ⟨x,e,q⟩=>⟨x,e,h _ _ q⟩
def zbr (os:List Str):Bool:=decide (0<os.length)&&(os.all (fun x=>decide (x∈vK))&&decide os.Nodup)
theorem zh6 {os:List Str}(h:Sg os):zbr os=true:=by
 unfold zbr
 rw[decide_eq_true h.pos,decide_eq_true h.nd,zro.mpr fun x hx=>decide_eq_true (h.mem x hx)]
 rfl
inductive P0 (K:Frag)(vs:List V)(H:Hp)(Q:VK)(E9:XK):Prop
 | mk (l:Addr) (os:List Str) (_:vs=[.ref l]) (_:zZ K H l (os.map V.str)) (_:os.length<=100) (_:∀H',Same H H'->Q (.bl (zbr os)) H'):P0 K vs H Q E9
def zcq (n:Nat)(ns:List Int):Bool:=decide (ns.length=n)&&ns.all (fun i=>i==0||i==1)
inductive Lz (K:Frag)(vs:List V)(H:Hp)(Q:VK)(E9:XK):Prop
 | mk (l r:Addr) (xs:List V) (ns:List Int) (_:vs=[.ref l,.ref r]) (_:zZ K H l xs) (_:zZ K H r (ns.map V.int)) (_:ns.length<=1000) (_:∀H',Same H H'->Q (.bl (zcq xs.length ns)) H'):Lz K vs H Q E9
def yZ:List (Str×Int×Int):=[("yes", 0,0),("no", 0,0),("mark", 1,0),("not", 0,1),("and", 0,2),("or", 0,2),("either", 0,2),("if", 0,2),("some", 1,1),("each", 1,1)]
theorem Zf (s:Sn):(s.word,((s.letters.length:Nat):Int),((s.parts.length:Nat):Int))∈yZ:=by
 cases s with
 | c0 y =>
  cases y
  ·show((Str.ofString "no", (0:Int),(0:Int)):Str×Int×Int)∈yZ
   decide +kernel
  ·show((Str.ofString "yes", (0:Int),(0:Int)):Str×Int×Int)∈yZ
   decide +kernel
 | mk x =>
  show((Str.ofString "mark", (1:Int),(0:Int)):Str×Int×Int)∈yZ
  decide +kernel
 | nt s =>
  show((Str.ofString "not", (0:Int),(1:Int)):Str×Int×Int)∈yZ
  decide +kernel
 | b2 o s t =>
  show((w2 o,(0:Int),(2:Int)):Str×Int×Int)∈yZ
  revert o
  decide +kernel
 | q1 o x s =>
  cases o
  ·show((Str.ofString "each", (1:Int),(1:Int)):Str×Int×Int)∈yZ
   decide +kernel
  ·show((Str.ofString "some", (1:Int),(1:Int)):Str×Int×Int)∈yZ
   decide +kernel
inductive Yt (vs:List V)(H:Hp)(Q:VK)(E9:XK):Prop
 | mk (p:Addr) (x:Str) (m n:Nat) (rest:List V) (_:vs=[.ref p]) (_:H p=some (.tup (.str x::rest))) (_:(x,(m:Int),(n:Int))∈yZ) (_:rest.length=m+n) (_:∀q,H q=none->Q (.ref q) (upd H q (.tup (rest.take m)))):Yt vs H Q E9
inductive Z2 (vs:List V)(H:Hp)(Q:VK)(E9:XK):Prop
 | mk (p:Addr) (x:Str) (m n:Nat) (rest:List V) (_:vs=[.ref p]) (_:H p=some (.tup (.str x::rest))) (_:(x,(m:Int),(n:Int))∈yZ) (_:rest.length=m+n) (_:∀q,H q=none->Q (.ref q) (upd H q (.tup (rest.drop m)))):Z2 vs H Q E9
theorem Qh {H:Hp}{s:Sn}{p:Addr}(h:Tp H s p):∃qs:List Addr,H p=some (.tup (.str s.word::(s.letters.map V.str++qs.map V.ref)))/\Paired (Tp H) s.parts qs /\
  (s.letters.map V.str++qs.map V.ref).length=s.letters.length+s.parts.length/\(s.letters.map V.str++qs.map V.ref).take s.letters.length=s.letters.map V.str/\(s.letters.map V.str++qs.map V.ref).drop s.letters.length=qs.map V.ref:=by
 obtain⟨qs,h1,h2⟩:=h.shape
 have l:=uH h2
 refine⟨qs,h1,h2,by simp[l],?_,?_⟩
 ·rw[List.take_append_of_le_length (by simp),List.take_of_length_le (by simp)]
 ·rw[List.drop_append_of_le_length (by simp),List.drop_of_length_le (by simp)]
  rfl
inductive YW (K:Frag)(vs:List V)(H:Hp)(Q:VK)(E9:XK):Prop
 | mk (l:Addr) (ss:List Sn) (ps:List Addr) (_:vs=[.ref l]) (_:zZ K H l (ps.map V.ref)) (_:Paired (Tp H) ss ps) (_:ss.length<=400) (_:∀(l':Addr) (H':Hp) (ps':List Addr),Same H H'->H l'=none->H' l'=some (.lst (ps'.map V.ref))->Paired (Tp H') (ss.flatMap Sn.parts) ps'->Q (.ref l') H'):YW K vs H Q E9
inductive Qi (vs:List V)(H:Hp)(Q:VK)(E9:XK):Prop
 | mk (p:Addr) (s:Sn) (_:vs=[.ref p]) (_:Tp H s p) (_:(∀x∈s.letters,x∈vK)) (_:∀H',Same H H'->Q (.bl true) H'):Qi vs H Q E9
theorem zcr:KR Qi:=fun vs H Q Q' E h ⟨p,s,e,h1,h2,q⟩=>⟨p,s,e,h1,h2,fun H' g=>h _ _ (q H' g)⟩
abbrev VC (sn:Sn)(zs:List Addr):List V:=V.str sn.word::(sn.letters.map V.str++zs.map V.ref)
inductive zbs (vs:List V)(H:Hp)(Q:VK)(E9:XK):Prop
 | mk (p:Addr) (s:Sn) (_:vs=[.ref p]) (_:Tp H s p) (_:s.RN vK) (_:s.count<=200) (_:s.depth<=24) (_:∀H',Same H H'->Q (.bl true) H'):zbs vs H Q E9
inductive Uk (K:Frag)(vs:List V)(H:Hp)(Q:VK)(E9:XK):Prop
 | mk (l:Addr) (os:List Str) (_:vs=[.ref l]) (_:zZ K H l (os.map V.str)) (_:Sg os) (_:∀H',Same H H'->Q .non H'):Uk K vs H Q E9
inductive Nb (vs:List V)(H:Hp)(Q:VK)(E9:XK):Prop
 | mk (p:Addr) (s:Sn) (_:vs=[.ref p]) (_:Tp H s p) (_:s.RN vK) (_:s.count<=200) (_:s.depth<=24) (_:∀H',Same H H'->Q .non H'):Nb vs H Q E9
inductive Nf (K:Frag)(vs:List V)(H:Hp)(Q:VK)(E9:XK):Prop
 | mk (l r:Addr) (xs:List V) (ns:List Int) (_:vs=[.ref l,.ref r]) (_:zZ K H l xs) (_:zZ K H r (ns.map V.int)) (_:ns.length<=1000) (_:zcq xs.length ns=true) (_:∀H',Same H H'->Q .non H'):Nf K vs H Q E9
inductive Rg (vs:List V)(H:Hp)(Q:VK)(E9:XK):Prop
 | mk (p:Addr) (s:Sn) (_:vs=[.ref p]) (_:Tp H s p) (_:s.count<=400) (_:∀(l:Addr) (H':Hp) (ts:List Sn) (ps:List Addr),Same H H'->H l=none->H' l=some (.lst (ps.map V.ref))->Paired (Tp H') ts ps->ts.length=s.count->(∀x,(∃t∈ts,x∈t.letters)↔x∈s.all)->Q (.ref l) H'):Rg vs H Q E9
inductive Ul (vs:List V)(H:Hp)(Q:VK)(E9:XK):Prop
 | mk (p:Addr) (s:Sn) (_:vs=[.ref p]) (_:Tp H s p) (_:s.count<=400) (_:∀(l:Addr) (H':Hp) (xs:List Str),Same H H'->H l=none->H' l=some (.lst (xs.map V.str))->(∀x,x∈xs↔x∈s.all)->xs.length<=400->Q (.ref l) H'):Ul vs H Q E9
inductive Vl (K:Frag)(vs:List V)(H:Hp)(Q:VK)(E9:XK):Prop
 | mk (l:Addr) (x:Str) (os:List Str) (_:vs=[.ref l,.str x]) (_:zZ K H l (os.map V.str)) (_:x∈os) (_:Q .non H):Vl K vs H Q E9
inductive Um (K:Frag)(vs:List V)(H:Hp)(Q:VK)(E9:XK):Prop
 | mk (l p:Addr) (os:List Str) (s:Sn) (_:vs=[.ref l,.ref p]) (_:zZ K H l (os.map V.str)) (_:Tp H s p) (_:s.count<=400) (_:s.RN os) (_:∀H',Same H H'->Q .non H'):Um K vs H Q E9
end
end Za
namespace L2
open PySem
section
variable {K:Frag}{a:Addr}{xs:List V}{σ:St}{js:List Nat}{te:TE}{H:Hp}{Qf:Addr->Hp->List V->Prop}
theorem zh7 (R:Nat->V->Prop)(hq:tY K H a xs)(hz:xs.length<=sizeLine)
  (hs:∀(i:Nat) x H',xs[i]?=some x->Same H H'->te (YM σ js (some x)) H' fun v H3=>R i v/\Same H H3)
  (me:∀ σ H Q Q',(∀v H1,Q v H1->Q' v H1)->te σ H Q->te σ H Q')
  (hd:∀ys H' p,ys.length=xs.length->(∀(j:Nat) v,ys[j]?=some v->R j v)->Same H H'->H' p=none->Qf p H' ys) :
  ∃W:Nat->Nat->List V->Hp->Prop,(∃m,W 0 m [] H)/\∀i m ys H,W i m ys H ->
   ((Itt K a).stop i H/\∀p,H p=none->Qf p H ys) \/
   ((Itt K a).go i H/\ys.length<sizeLine/\∀x H',(Itt K a).Pj i H x H'->Le (YM σ js (some x)) H' fun b H2 =>
    if b=true then te (YM σ js (some x)) H2 fun v H3=>∃m',m'<m/\W (i+1) m' (ys++[v]) H3 else ∃m',m'<m/\W (i+1) m' ys H2):=by
 refine zgk (fun i ys H'=>Same H H'/\ys.length=i/\∀(j:Nat) v,ys[j]?=some v->R j v) ⟨Same.refl _,rfl,fun j v h=>by simp at h⟩ hz ?_ ?_ (fun _ _ _ _ h q=>h _ _ q) me ?_
 ·rintro i ys H' hi ⟨g,e,r⟩
  exact⟨g.zli hq,by omega⟩
 ·rintro i x ys H' hx ⟨g,e,r⟩
  show te (YM σ js (some x)) H' fun v H3=>Same H H3/\(ys++[v]).length=i+1/\∀(j:Nat) u,(ys++[v])[j]?=some u->R j u
  refine me _ _ _ _ (fun v H3 h3=>⟨h3.2,by rw[zq2,e];rfl,fun j u hj=>?_⟩) (hs i x H' hx g)
  by_cases hlt:j<ys.length
  ·rw[zrr hlt] at hj
   exact r j u hj
  ·rw[List.getElem?_append_right (by omega)] at hj
   have hj0:j-ys.length=0:=by
    have:=(zqX.mp hj).1
    rw[zrs] at this
    omega
   rw[hj0] at hj
   have ev:v=u:=zrp hj
   have ej:j=i:=by omega
   rw[<-ev,ej]
   exact h3.1
 ·rintro ys H' p ⟨g,e,r⟩ hp
  exact hd ys H' p e r g hp
theorem zlj {sp:Sp}(m:KR sp):∀ σ H Q Q',(∀v H1,Q v H1->Q' v H1)->Kv sp [] E0 (RZ (Kl 0) (RZ (Kl 1) zcf)) σ H Q->Kv sp [] E0 (RZ (Kl 0) (RZ (Kl 1) zcf)) σ H Q' :=
 fun σ H Q Q' h ⟨v,e,u,e',q⟩=>⟨v,e,u,e',m _ _ _ _ _ h q⟩
theorem ne_str {x y:Str}(h:x≠y):¬decide (V.str x=V.str y)=true:=fun z=>h (by have:=of_decide_eq_true z;injection this)
theorem len1 {α:Type}{ys:List α}(h:ys.length=1):∃v,ys=[v]:=by
 match ys,h with
 | [v],_=>exact⟨v,rfl⟩
theorem len2 {α:Type}{ys:List α}(h:ys.length=2):∃v u,ys=[v,u]:=by
 match ys,h with
 | [v,u],_=>exact⟨v,u,rfl⟩
end
end L2
namespace Za
open PySem L2
section
variable {K:Frag}
def ix (os:List Str)(x:Str):Nat:=os.findIdx (·==x)
theorem Vm:∀{os:List Str} {x:Str},x∈os->(os.map V.str).findIdx? (fun z=>eqV z (.str x))=some (ix os x)/\ix os x<os.length/\os[ix os x]?=some x
 | t::r,x,h=>by
  unfold ix
  rw[zrj,List.findIdx?_cons,List.findIdx_cons]
  show(if (t==x)=true then some 0 else _)=_/\_
  by_cases e:t=x
  ·subst e
   simp
  ·have hb:(t==x)=false:=by simpa using e
   have hr:x∈r:=by
    rcases List.mem_cons.mp h with z | z
    ·exact absurd z.symm e
    ·exact z
   obtain⟨h1,h2,h3⟩:=Vm hr
   rw[hb,h1]
   unfold ix at h2 h3 ⊢
   refine⟨rfl,?_,?_⟩
   ·show(r.findIdx (·==x))+1<(t::r).length
    rw[zq6];omega
   ·show(t::r)[(r.findIdx (·==x))+1]?=some x
    rw[List.getElem?_cons_succ];exact h3
theorem zgF {os:List Str}{x y:Str}(hx:x∈os)(hy:y∈os):ix os y=ix os x↔y=x:=by
 constructor
 ·intro e
  have h1:=(Vm hx).2.2
  have h2:=(Vm hy).2.2
  rw[e,h1] at h2
  exact(zrp h2).symm
 ·intro e;rw[e]
def T4 (os:List Str)(b:Nat):Str->Bool:=fun x=>b.testBit (ix os x)
theorem LC {os:List Str}{s:Sn}{x:Str}(hs:s.RN os)(hx:x∈os)(b:Nat)(v:Bool):s.val (fun y=>if y=x then v else T4 os b y)=s.val (T4 os (zG b (ix os x) v)):=by
 refine Sn.val_congr s hs fun y hy=>?_
 show _=(zG b (ix os x) v).testBit (ix os y)
 rw[zL]
 by_cases e:y=x
 ·rw[if_pos e,if_pos ((zgF hx hy).mpr e)]
 ·rw[if_neg e,if_neg (fun z=>e ((zgF hx hy).mp z))]
  rfl
theorem yE (b p:Nat):zG b p (b.testBit p)=b:=by unfold zG;rw[if_pos rfl]
theorem zgG {os:List Str}{s:Sn}{x:Str}(hs:s.RN os)(hx:x∈os)(b:Nat):(Sn.q1 true x s).val (T4 os b)=(s.val (T4 os b)||s.val (T4 os (zG b (ix os x) (!b.testBit (ix os x))))):=by
 show(s.val (fun y=>if y=x then true else T4 os b y)||s.val (fun y=>if y=x then false else T4 os b y))=_
 rw[LC hs hx,LC hs hx]
 have z:=yE b (ix os x)
 cases hb:b.testBit (ix os x)
 ·rw[hb] at z;rw[z];exact Bool.or_comm _ _
 ·rw[hb] at z;rw[z];rfl
theorem zgH {os:List Str}{s:Sn}{x:Str}(hs:s.RN os)(hx:x∈os)(b:Nat):(Sn.q1 false x s).val (T4 os b)=(s.val (T4 os b)&&s.val (T4 os (zG b (ix os x) (!b.testBit (ix os x))))):=by
 show(s.val (fun y=>if y=x then true else T4 os b y)&&s.val (fun y=>if y=x then false else T4 os b y))=_
 rw[LC hs hx,LC hs hx]
 have z:=yE b (ix os x)
 cases hb:b.testBit (ix os x)
 ·rw[hb] at z;rw[z];exact Bool.and_comm _ _
 ·rw[hb] at z;rw[z];rfl
def TabOf (os:List Str)(s:Sn)(N:Nat):Prop:=zP os.length N (fun b=>s.val (T4 os b))
theorem zlk:∀o,w2 o≠Str.ofString "no" := by decide +kernel
theorem zjZ:∀o,w2 o≠Str.ofString "yes" := by decide +kernel
theorem zh8:∀o,w2 o≠Str.ofString "mark" := by decide +kernel
theorem zj0:∀o,w2 o≠Str.ofString "not" := by decide +kernel
theorem zh9:∀o,w2 o≠Str.ofString "some" := by decide +kernel
theorem zia:∀o,w2 o≠Str.ofString "each" := by decide +kernel
theorem znj (o:Fin 4):o=0\/o=1\/o=2\/o=3:=by
 match o with
 | 0=>exact .inl rfl
 | 1=>exact .inr (.inl rfl)
 | 2=>exact .inr (.inr (.inl rfl))
 | 3=>exact .inr (.inr (.inr rfl))
inductive zcs (vs:List V)(H:Hp)(Q:VK)(E9:XK):Prop
 | mk (o:Fin 4) (N M n:Nat) (f g:Nat->Bool) (_:vs=[.str (w2 o),.int N,.int M,.int ((2^2^n-1:Nat):Int)]) (_:zP n N f) (_:zP n M g) (_:∀R:Nat,zP n R (fun b=>Sn.op2 o (f b) (g b))->Q (.int R) H):zcs vs H Q E9
inductive Vn (K:Frag)(d:Nat)(vs:List V)(H:Hp)(Q:VK)(E9:XK):Prop
 | mk (p l:Addr) (s:Sn) (os:List Str) (_:vs=[.ref p,.ref l]) (_:Tp H s p) (_:zZ K H l (os.map V.str)) (_:s.RN os) (_:os.length<=8) (_:s.depth<=d) (_:∀(N:Nat) (H':Hp),Same H H'->TabOf os s N->Q (.int N) H'):Vn K d vs H Q E9
theorem zdQ (d:Nat):KR (Vn K d):=fun vs H Q Q' E h ⟨p,l,s,os,e,h1,h2,h3,h4,h5,q⟩=>⟨p,l,s,os,e,h1,h2,h3,h4,h5,fun N H' g z=>h _ _ (q N H' g z)⟩
theorem zfu (r:List Bool):YT r=(r.map fun b=>((b.toNat:Nat):Int)).map V.int:=by rw[zrw];rfl
theorem zdR (r:List Bool){n:Nat}(h:r.length=n):zcq n (r.map fun b=>((b.toNat:Nat):Int))=true:=by
 unfold zcq
 rw[zqU,decide_eq_true h,List.all_map,Bool.true_and,zro]
 intro b _
 cases b<;>rfl
inductive zeL (K:Frag)(vs:List V)(H:Hp)(Q:VK)(E9:XK):Prop
 | mk (a:Addr) (ns:List Int) (_:vs=[.ref a]) (_:zZ K H a (ns.map V.int)) (_:ns.length<=63) (_:∀H',Q (.bl true) H'):zeL K vs H Q E9
end
end Za
namespace L2
open PySem PySem.Spec PyProof.Rows
theorem T5 {α:Type}{us:List α}(h:us.length=0):us=[]:=List.length_eq_zero_iff.mp h
theorem Qj {α:Type}{us:List α}{n:Nat}(h:us.length=n+1):∃a vs,us=a::vs/\vs.length=n:=by
 cases us with
 | nil=>cases h
 | cons a vs=>exact⟨a,vs,rfl,by simpa using h⟩
def zll (N P:List Str)(sc:Scope):Bool:=(match sc.kind with | .function=>true | _=>false)&&!sc.isCoroutine&&!sc.isGenerator&&decide N.Nodup&&decide (N.take P.length=P)&&P.all (fun x=>decide (sc.names.lookup x=some .local\/sc.names.lookup x=some .cell))&&sc.names.all (fun y=>decide (y.2≠.free))
theorem fsc {N P:List Str}{sc:Scope}(h:zll N P sc=true):zF N P sc:=by
 unfold zll at h
 simp only[zrm,Bool.not_eq_true',decide_eq_true_eq,zro] at h
 obtain⟨⟨⟨⟨⟨⟨h1,h2⟩,h3⟩,h4⟩,h5⟩,h6⟩,h7⟩:=h
 refine⟨?_,h2,h3,h4,h5,h6,h7⟩
 revert h1
 cases sc.kind<;>simp
structure Df (K:Frag)(mg:Str->Option Value)(x:Str)(st:Stmt)(f:Addr)(d:FuncData)(ps:List Str):Prop where
 F:Fun K x x st f d
 b:Binds K d ps []
 m:mg x=some (.ref f)
structure Dm (K:Frag)(C:Addr)(x q:Str)(st:Stmt)(f:Addr)(d:FuncData)(ps:List Str):Prop where
 F:Fun K x q st f d
 b:Binds K d ps []
 e:Meth K C x f
section
variable {K:Frag}{h:Heap}{mg:Str->Option Value}{x q:Str}{st:Stmt}{f C:Addr}{oc:Value}{od an:Option Addr}{osl:Array (Option Value)}{kV doc pm cdv ct:Value}{ps:List Str}
theorem dfm (X:K.In h)(G:h.Ns mainGlobals mg)(n:nsIn K mainGlobals x=some (some (.ref f)))(l:K.lookup f=some ⟨oc,od,.func (PySem.W.fnOf x x (Yc st) (vI st) (zq st) .none kV doc pm an cdv ct),osl⟩)
  (c:PySem.W.codeIn K cdv x=true)(k:PySem.W.keepIn K (.ref f)=true)
  (b:∀(kV doc pm:Value) (an:Option Addr) (cdv ct:Value) (us:List Value),us.length=ps.length->bindArgs (PySem.W.fnOf x x (Yc st) (vI st) (zq st) .none kV doc pm an cdv ct) ⟨us,[]⟩=pure (ps.zip us)) :
  Df K mg x st f (PySem.W.fnOf x x (Yc st) (vI st) (zq st) .none kV doc pm an cdv ct) ps:=⟨zbg l c k,(zbg l c k).binds b,mg_of X G n⟩
theorem dmm (n:findIn K (.ref C) x=some (some (.ref f)))(i:PySem.W.isFn K (.ref f)=true)(l:K.lookup f=some ⟨oc,od,.func (PySem.W.fnOf x q (Yc st) (vI st) (zq st) .none kV doc pm an cdv ct),osl⟩)
  (c:PySem.W.codeIn K cdv q=true)(k:PySem.W.keepIn K (.ref f)=true)
  (b:∀(kV doc pm:Value) (an:Option Addr) (cdv ct:Value) (us:List Value),us.length=ps.length->bindArgs (PySem.W.fnOf x q (Yc st) (vI st) (zq st) .none kV doc pm an cdv ct) ⟨us,[]⟩=pure (ps.zip us)) :
  Dm K C x q st f (PySem.W.fnOf x q (Yc st) (vI st) (zq st) .none kV doc pm an cdv ct) ps:=⟨zbg l c k,(zbg l c k).binds b,⟨n,i,k⟩⟩
theorem zib {p:Addr}{it:Array Value}{n:Nat}{od:Option Addr}{sl:Array (Option Value)}{xs:List V}(l:K.lookup p=some ⟨.type "tuple", od,.seq it n,sl⟩)(v:it.toList.map zdv=xs.map some)(h:xs.length<=1000):∀H,tY K H p xs:=fun H=>zi5 l v h
end
section
variable {X:Cx}{CX:CXT}{k:Nat}{f C:Addr}{fd:FuncData}{ps:List Str}{sp:Sp}{st:Stmt}{x q m:Str}{p pos apos:Pos}{e o:Expr}{es:List Expr}{t:TA}{ta:TE}{E:XK}
theorem zu (F:zB X.prog X.w X.K X.mg X.base zX k f fd ps sp)(hr:Zb k X.A)(D:Df X.K X.mg x st f fd ps)(ha:PA X (e::es) t)(hg:Gl X x:=by rfl)(hdb:(x==("__debug__" : Str))=false:=by decide)(he:starEach (e::es) X.env=(false,eval e X.env)::starEach es X.env:=by rfl)(hpl:(backTo pos (starEach es X.env)).any (·.1)=false:=by rfl) :
  PE X (.Call (.Name x p) (e::es) [] pos) (Kv sp [] E0 t):=zhD F hr hg D.m D.F.2 D.b .nil zeD ha hdb he hpl
theorem z8 {pl:Sem Bool}(he:PE X o ta)(c:Cls X.K C)(D:Dm X.K C m q st f fd ps)(F:zB X.prog X.w X.K X.mg X.base zX k f fd ps sp)(hr:Zb k X.A)(ha:PA X (e::es) t)
  (hst:starEach (e::es) X.env=(false,eval e X.env)::starEach es X.env:=by rfl)(hpl:(backTo pos (starEach es X.env)).any (·.1)=false:=by rfl)
  (ht:eval (.Call (.Attribute o m apos) (e::es) [] pos) X.env=(do
   let ov <-eval o X.env
   standAt apos.atName
   let (f,first) <-holding [ov] (getMethod ov m pl)
   callWith pos f first (backTo pos (starEach (e::es) X.env)) (backToKw pos (keywordEach [] X.env))):=by rfl) :
  PE X (.Call (.Attribute o m apos) (e::es) [] pos) (zez C m sp [] E0 ta t):=zhE he c D.e F hr D.b .nil zeD ha hst hpl ht
theorem Ng {pl:Sem Bool}(he:PE X o ta)(c:Cls X.K C)(D:Dm X.K C m q st f fd ps)(F:zB X.prog X.w X.K X.mg X.base zX k f fd ps sp)(hr:Zb k X.A)
  (ht:eval (.Call (.Attribute o m apos) [] [] pos) X.env=(do
   let ov <-eval o X.env
   standAt apos.atName
   let (f,first) <-holding [ov] (getMethod ov m pl)
   callWith pos f first (backTo pos (starEach [] X.env)) (backToKw pos (keywordEach [] X.env))):=by rfl) :
  PE X (.Call (.Attribute o m apos) [] [] pos) (zez C m sp [] E0 ta zcf):=zf9 he c D.e F hr D.b .nil zeD ht
end
inductive Ent (K:Frag)(w:World):List DictEntry->List (Str×Int×Int)->List (Str×Value)->Prop
 | nil:Ent K w [] [] []
 | cons {k:Str} {tk:Tok} {p:Addr} {m n:Int} {od:Option Addr} {it:Array Value} {z:Nat} {sl:Array (Option Value)} {es:List DictEntry} {tb:List (Str×Int×Int)} {kvs:List (Str×Value)} (l:K.lookup p=some ⟨.type "tuple", od,.seq it z,sl⟩) (v:it.toList.map zdv=[V.int m,V.int n].map some) (t:Ent K w es tb kvs) :
   Ent K w (⟨hashStr w k,.str k tk,.ref p⟩::es) ((k,m,n)::tb) ((k,.ref p)::kvs)
structure Shp (K:Frag)(P:Program)(w:World)(a:Addr)(kvs:List (Str×Value))(tb:List (Str×Int×Int)):Prop where
 d:zhV K P w a kvs
 y:∀k m n,(k,m,n)∈tb->∃p,valueAt kvs k=some (.ref p)/\∀H,tY K H p [.int m,.int n]
 z:∀k,(∀e∈tb,e.1≠k)->valueAt kvs k=none
theorem Ent.keys {K:Frag}{w:World}{es:List DictEntry}{tb:List (Str×Int×Int)}{kvs:List (Str×Value)}(h:Ent K w es tb kvs):kvs.map (·.1)=tb.map (·.1):=by
 induction h with
 | nil=>rfl
 | cons _ _ _ ih=>rw[zrj,zrj,ih]
theorem zj1 {K:Frag}{P:Program}{w:World}{a:Addr}{es:Array DictEntry}{ep:Nat}{kvs:List (Str×Value)}{tb:List (Str×Int×Int)}(l:K.lookup a=some ⟨.type "dict", none,.dict es ep,#[]⟩)(s:(a==sysModules)=false)(nd:decide (tb.map (·.1)).Nodup=true)(h:Ent K w es.toList tb kvs):Shp K P w a kvs tb:=by
 have nk:(kvs.map (·.1)).Nodup:=by rw[h.keys];exact of_decide_eq_true nd
 obtain⟨el,hel⟩:∃el,es.toList=el:=⟨_,rfl⟩
 rw[hel] at h
 refine⟨zhY l hel s ?_ nk,?_,?_⟩
 ·clear nd nk l s hel
  induction h with
  | nil=>exact zjX
  | cons _ _ _ ih=>exact zhX ih
 ·clear nd l s hel
  induction h with
  | nil=>intro k m n hm;cases hm
  | @cons k0 tk p m0 n0 od it z sl es tb kvs l v t ih =>
   intro k m n hm
   rw[zrj,List.nodup_cons] at nk
   rcases List.mem_cons.mp hm with e | e
   ·cases e
    refine⟨p,?_,fun H=>zi5 l v (by show 2<=1000;decide)⟩
    simp[valueAt]
   ·obtain⟨q,hq,sq⟩:=ih nk.2 k m n e
    refine⟨q,?_,sq⟩
    have ne:k0≠k:=fun z=>nk.1 (by rw[z,t.keys];exact List.mem_map.mpr ⟨_,e,rfl⟩)
    simp[valueAt,ne] at hq ⊢
    exact hq
 ·clear nd nk l s hel
  induction h with
  | nil=>intro k _;rfl
  | @cons k0 tk p m0 n0 od it z sl es tb kvs l v t ih =>
   intro k hk
   have ne:=hk (k0,m0,n0) (zre ..)
   have:=ih k fun e he=>hk e (zq5 _ he)
   simp[valueAt] at this ⊢
   exact⟨ne,this⟩
theorem zE {X:Cx}{pos:Pos}(i:Nat){x:Str}{e:Expr}{te:TE}{pos':Pos}(hN:X.N.Nodup)(he:PE X e te)(hi:X.N[i]?=some x:=by rfl)(hx:Loc X.env.scope x:=by exact Or.inl rfl)(hs:swapsWith e (some (.Name x pos')) pos.line X.env=pure false:=by rfl)(hf:X.fn x=true\/X.env.scope.names.lookup x=some .local:=by first | exact .inl rfl | exact .inr rfl | assumption) :
  PS X (.Assign [.Name x pos'] e pos) (zhA te (VJ i)):=Pq hN hi hx he hs hf
def lcB (tZ sc:Scope)(x:Str)(fv:List Str):Bool:=(match sc.kind with | .function=>true | _=>false)&&sc.names.all (fun y=>decide (y.2≠.cell))&&sc.names.all (fun y=>decide (y.2=.local->sc.names.lookup y.1=some .local))&&decide (sc.names.lookup x=some .local)&&sc.names.all (fun y=>decide (y.2=.free->tZ.names.lookup y.1=some .cell\/tZ.names.lookup y.1=some .free))&&fv.all (fun y=>decide (sc.names.lookup y=some .free/\(tZ.names.lookup y=some .cell\/tZ.names.lookup y=some .free)))&&decide (x::fv).Nodup
theorem lco {tZ sc:Scope}{x:Str}{fv:List Str}(h:lcB tZ sc x fv=true):XR tZ sc x fv:=by
 unfold lcB at h
 simp only[zrm,decide_eq_true_eq,zro] at h
 obtain⟨⟨⟨⟨⟨⟨h1,h2⟩,h3⟩,h4⟩,h5⟩,h6⟩,h7⟩:=h
 refine⟨?_,h2,h3,h4,h5,h6,h7⟩
 revert h1
 cases sc.kind<;>simp
section
variable {κ:Type}[DecidableEq κ]
def tG (kvs:List (κ×V))(k:κ):Option V:=(kvs.find? fun kv=>decide (kv.1=k)).map (·.2)
def putK (kvs:List (κ×V))(k:κ)(v:V):List (κ×V) :=
 if (kvs.any fun kv=>decide (kv.1=k))=true then kvs.map (fun kv=>if kv.1=k then (kv.1,v) else kv) else kvs++[(k,v)]
def Mt (kvs:List (κ×V))(k:κ):List (κ×V):=kvs.filter fun kv=>decide (kv.1≠k)
theorem wK {p:κ×V}{r:List (κ×V)}{k:κ}(e:p.1=k):tG (p::r) k=some p.2:=by simp[tG,List.find?_cons,e]
theorem wg {p:κ×V}{r:List (κ×V)}{k:κ}(e:¬p.1=k):tG (p::r) k=tG r k:=by simp[tG,List.find?_cons,e]
theorem Uo (k:κ):∀kvs:List (κ×V),(kvs.any fun kv=>decide (kv.1=k))=(tG kvs k).isSome
 | []=>rfl
 | p::r=>by
  rw[List.any_cons]
  by_cases e:p.1=k
  ·simp only[wK e,decide_eq_true e,Bool.true_or,Option.isSome_some]
  ·rw[wg e,decide_eq_false e,Bool.false_or];exact Uo k r
theorem zct (k j:κ)(y:V):∀kvs:List (κ×V),tG (kvs.map fun kv=>if kv.1=k then (kv.1,y) else kv) j=(tG kvs j).map fun x=>if j=k then y else x
 | []=>rfl
 | p::r=>by
  have ih:=zct k j y r
  rw[zrj]
  by_cases h:p.1=k
  ·rw[if_pos h]
   by_cases e:p.1=j
   ·rw[wK (p:=(p.1,y)) e,wK e,Option.map_some,if_pos (e.symm.trans h)]
   ·rw[wg (p:=(p.1,y)) e,wg e,ih]
  ·rw[if_neg h]
   by_cases e:p.1=j
   ·rw[wK (p:=p) e,wK e,Option.map_some,if_neg (fun z=>h (e.trans z))]
   ·rw[wg (p:=p) e,wg e,ih]
theorem zaI (k j:κ)(y:V):∀kvs:List (κ×V),tG kvs k=none->tG (kvs++[(k,y)]) j=if j=k then some y else tG kvs j
 | [],_=>by
  by_cases e:k=j
  ·rw[if_pos e.symm];exact wK (p:=(k,y)) e
  ·rw[if_neg (fun z=>e z.symm)];exact wg (p:=(k,y)) e
 | p::r,hn=>by
  rw[List.cons_append]
  have hk:¬p.1=k:=fun z=>by rw[wK z] at hn;cases hn
  rw[wg hk] at hn
  have ih:=zaI k j y r hn
  by_cases e:p.1=j
  ·rw[wK e,wK e,if_neg (fun z=>hk (e.trans z))]
  ·rw[wg e,wg e,ih]
theorem K1 (kvs:List (κ×V))(k j:κ)(y:V):tG (putK kvs k y) j=if j=k then some y else tG kvs j:=by
 unfold putK
 by_cases a:(kvs.any fun kv=>decide (kv.1=k))=true
 ·rw[if_pos a,zct]
  rw[Uo] at a
  by_cases e:j=k
  ·obtain⟨x,hx⟩:=Option.isSome_iff_exists.mp a
   rw[if_pos e,e,hx,Option.map_some,if_pos rfl]
  ·rw[if_neg e]
   cases tG kvs j with
   | none=>rfl
   | some x=>rw[Option.map_some,if_neg e]
 ·rw[if_neg a]
  refine zaI k j y kvs ?_
  rw[Uo] at a
  cases q:tG kvs k with
  | none=>rfl
  | some x=>rw[q] at a;exact(a rfl).elim
theorem X3 (kvs:List (κ×V))(k:κ)(v:V):(putK kvs k v).length<=kvs.length+1:=by
 unfold putK
 split
 ·rw[zqU];omega
 ·rw[zq2,zq6,List.length_nil];omega
theorem zcu {kvs:List (κ×V)}{k:κ}(v:V)(h:tG kvs k=none):putK kvs k v=kvs++[(k,v)]:=by
 unfold putK
 rw[Uo,h]
 exact if_neg (by decide)
theorem V7.Tr {o:Option V}{u:Option Value}(r:V7 o u):o.isSome=u.isSome:=by
 cases o with
 | none=>cases u with
  | none=>rfl
  | some _=>exact(show False from r).elim
 | some _=>cases u with
  | none=>exact(show False from r).elim
  | some _=>rfl
theorem KV.val {kvs:List (κ×V)}{vs:List (κ×Value)}(r:KV kvs vs)(k:κ):V7 (tG kvs k) (valueAt vs k):=by
 unfold KV at r
 induction r with
 | nil=>exact True.intro
 | @cons p q ps qs h t ih =>
  obtain⟨h1,h2⟩:=h
  by_cases e:p.1=k
  ·have e':q.1=k:=h1.symm.trans e
   have b:valueAt (q::qs) k=some q.2:=by simp[valueAt,List.find?_cons,e']
   rw[wK e,b];exact h2
  ·have e':¬q.1=k:=fun z=>e (h1.trans z)
   have b:valueAt (q::qs) k=valueAt qs k:=by simp[valueAt,List.find?_cons,e']
   rw[wg e,b];exact ih
theorem KV.any {kvs:List (κ×V)}{vs:List (κ×Value)}(r:KV kvs vs)(k:κ):(kvs.any fun kv=>decide (kv.1=k))=vs.any fun kv=>decide (kv.1=k):=by
 unfold KV at r
 induction r with
 | nil=>rfl
 | cons h t ih=>rw[List.any_cons,List.any_cons,ih,h.1]
theorem KV.repl {kvs:List (κ×V)}{vs:List (κ×Value)}(r:KV kvs vs)(k:κ){y:V}{u:Value}(ry:RelV y u) :
  KV (kvs.map fun kv=>if kv.1=k then (kv.1,y) else kv) (vs.map fun kv=>if kv.1=k then (kv.1,u) else kv):=by
 unfold KV at r ⊢
 induction r with
 | nil=>exact .nil
 | @cons p q ps qs h t ih =>
  rw[zrj,zrj]
  refine .cons ?_ ih
  obtain⟨h1,h2⟩:=h
  by_cases e:p.1=k
  ·rw[if_pos e,if_pos (h1.symm.trans e)];exact⟨h1,ry⟩
  ·rw[if_neg e,if_neg (fun z=>e (h1.trans z))];exact⟨h1,h2⟩
theorem KV.put {kvs:List (κ×V)}{vs:List (κ×Value)}(r:KV kvs vs)(k:κ){y:V}{u:Value}(ry:RelV y u):KV (putK kvs k y) (stored vs k u):=by
 unfold putK stored
 rw[r.any k]
 by_cases e:(vs.any fun kv=>decide (kv.1=k))=true
 ·rw[if_pos e,if_pos e];exact r.repl k ry
 ·rw[if_neg e,if_neg e];exact Paired.snoc r ⟨rfl,ry⟩
theorem KV.drop {kvs:List (κ×V)}{vs:List (κ×Value)}(r:KV kvs vs)(k:κ):KV (Mt kvs k) (without vs k):=by
 unfold KV at r ⊢
 unfold Mt without
 induction r with
 | nil=>exact .nil
 | @cons p q ps qs h t ih =>
  obtain⟨h1,h2⟩:=h
  rw[List.filter_cons,List.filter_cons]
  by_cases e:p.1=k
  ·have a:¬decide (p.1≠k)=true:=by simp[e]
   have b:¬decide (q.1≠k)=true:=by simp[h1.symm.trans e]
   rw[if_neg a,if_neg b];exact ih
  ·have e':¬q.1=k:=fun z=>e (h1.trans z)
   have a:decide (p.1≠k)=true:=by simp[e]
   have b:decide (q.1≠k)=true:=by simp[e']
   rw[if_pos a,if_pos b];exact .cons ⟨h1,h2⟩ ih
theorem KV.length {kvs:List (κ×V)}{vs:List (κ×Value)}(r:KV kvs vs):kvs.length=vs.length:=Paired.length r
theorem zcv (kvs:List (κ×V))(k:κ):(Mt kvs k).length<=kvs.length:=zrt _ _
end
theorem K3 {P:Program}{w:World}{k:Key}{u:Value}(r:RelV (kV k) u):(z6 P w).is k u=true:=by
 cases k with
 | inl i=>obtain⟨t,e⟩:=(show ∃t,u=Value.int i t from r);subst e;exact zb8 P w i t
 | inr x=>obtain⟨t,e⟩:=(show ∃t,u=Value.str x t from r);subst e;exact zb9 P w x t
theorem zaJ {P:Program}{w:World}:∀{ks:List Key} {us:List Value},Vals (ks.map kV) us->ItemsAre (z6 P w) ks us
 | [],_,r=>by rw[List.map_nil] at r;cases r;exact .nil
 | k::ks,_,r=>by
  rw[zrj] at r
  cases r with
  | cons h t=>exact .cons (K3 h) (zaJ t)
abbrev KT (H:Hp):List (List Key×V)->List (List Key×Addr×Value)->Prop:=Paired fun p q=>p.1=q.1/\H q.2.1=some (.tup (p.1.map kV))/\RelV p.2 q.2.2
theorem KT.val {H:Hp}{kvs:List (List Key×V)}{xs:List (List Key×Addr×Value)}(r:KT H kvs xs)(k:List Key):V7 (tG kvs k) ((atKey xs k).map (·.2)):=by
 induction r with
 | nil=>exact True.intro
 | @cons p q ps qs h t ih =>
  obtain⟨h1,_,h2⟩:=h
  by_cases e:p.1=k
  ·have e':q.1=k:=h1.symm.trans e
   have b:atKey (q::qs) k=some q.2:=by simp[atKey,List.find?_cons,e']
   rw[wK e,b];exact h2
  ·have e':¬q.1=k:=fun z=>e (h1.trans z)
   have b:atKey (q::qs) k=atKey qs k:=by simp[atKey,List.find?_cons,e']
   rw[wg e,b];exact ih
theorem KT.repl {H:Hp}{kvs:List (List Key×V)}{xs:List (List Key×Addr×Value)}(r:KT H kvs xs)(k:List Key){y:V}{u:Value}(ry:RelV y u) :
  KT H (kvs.map fun kv=>if kv.1=k then (kv.1,y) else kv) (xs.map (putAt k u)):=by
 induction r with
 | nil=>exact .nil
 | @cons p q ps qs h t ih =>
  rw[zrj,zrj]
  refine .cons ?_ ih
  obtain⟨h1,h2,h3⟩:=h
  unfold putAt
  by_cases e:p.1=k
  ·rw[if_pos e,if_pos (h1.symm.trans e)];exact⟨h1,h2,ry⟩
  ·rw[if_neg e,if_neg (fun z=>e (h1.trans z))];exact⟨h1,h2,h3⟩
theorem KT.put {H:Hp}{kvs:List (List Key×V)}{xs:List (List Key×Addr×Value)}(r:KT H kvs xs)(k:List Key){b:Addr}{y:V}{u:Value}(hb:H b=some (.tup (k.map kV)))(ry:RelV y u) :
  KT H (putK kvs k y) (storedH xs k b u):=by
 have e:(kvs.any fun kv=>decide (kv.1=k))=(atKey xs k).isSome:=by
  rw[Uo,(r.val k).Tr,Option.isSome_map]
 unfold putK storedH
 rw[e]
 by_cases q:(atKey xs k).isSome=true
 ·rw[if_pos q,if_pos q];exact r.repl k ry
 ·rw[if_neg q,if_neg q];exact Paired.snoc r ⟨rfl,hb,ry⟩
theorem KT.keeps {H H':Hp}{kvs:List (List Key×V)}{xs:List (List Key×Addr×Value)}(r:KT H kvs xs)(ht:∀b ys,H b=some (.tup ys)->H' b=some (.tup ys)):KT H' kvs xs :=
 Paired.zjq r fun _ _ z=>⟨z.1,ht _ _ z.2.1,z.2.2⟩
section
variable {P:Program}{w:World}{H:Hp}{h:Heap}{a:Addr}
theorem zi7 {u:HO}(ok:T3 P w H h)(e:Rd H a u):wG P w H h a u:=e.ok ok
theorem zeM {kvs:List (Key×V)}(ok:T3 P w H h)(e:Rd H a (.dK kvs)):kvs.length<=sizeLine/\(a==sysModules)=false/\∃vs,KV kvs vs/\h.DictOf (z6 P w) a vs :=
 show wG P w H h a (.dK kvs) from zi7 ok e
theorem zeN {kvs:List (Key×V)}(ok:T3 P w H h)(e:H a=some (.dK kvs)):kvs.length<=sizeLine/\(a==sysModules)=false/\∃vs,KV kvs vs/\h.DictOf (z6 P w) a vs:=zeM ok (.inl e)
theorem zbt {ks:List Key}(ok:T3 P w H h)(e:H a=some (.tup (ks.map kV))):(tupleKind (z6 P w)).is h ks a:=by
 obtain⟨_,its,r,o,h1,h2,n,h3⟩:=(show wG P w H h a (.tup (ks.map kV)) from ok a _ e)
 exact⟨o,its.toArray,n,h1,h2,h3,by simpa using zaJ r⟩
theorem zeO {kvs:List (List Key×V)}(ok:T3 P w H h)(e:Rd H a (.dT kvs)):kvs.length<=sizeLine/\(a==sysModules)=false /\
  ∃xs,KT H kvs xs/\h.DictOfH (tupleKind (z6 P w)) a xs:=by
 obtain⟨z,y,xs,r,o,es,ep,h1,h2,h3,h4,h5⟩:=(show wG P w H h a (.dT kvs) from zi7 ok e)
 refine⟨z,y,xs,r,o,es,ep,h1,h2,h3,h4,fun x hx=>?_,h5⟩
 have all:∀{l:List (List Key×V)} {m:List (List Key×Addr×Value)},KT H l m->∀x∈m,(tupleKind (z6 P w)).is h x.1 x.2.1:=by
  intro l m q
  induction q with
  | nil=>intro x hx;exact nomatch hx
  | @cons p q ps qs hq t ih =>
   intro x hx
   rcases List.mem_cons.mp hx with e | hx
   ·subst e
    exact zbt ok (by rw[<-hq.1];exact hq.2.1)
   ·exact ih x hx
 exact all r x hx
theorem zlm {kvs:List (List Key×V)}(ok:T3 P w H h)(e:H a=some (.dT kvs)):kvs.length<=sizeLine/\(a==sysModules)=false /\
  ∃xs,KT H kvs xs/\h.DictOfH (tupleKind (z6 P w)) a xs:=zeO ok (.inl e)
end
def Lf (H:Hp)(a:Addr)(y:V)(r:Option V):Prop :=
 (∃kvs k,Rd H a (.dK kvs)/\y=kV k/\r=tG kvs k)\/∃kvs k b,Rd H a (.dT kvs)/\y=.ref b/\H b=some (.tup (k.map kV))/\r=tG kvs k
def zdS (H:Hp)(a:Addr)(y v:V)(H':Hp):Prop :=
 (∃kvs k,H a=some (.dK kvs)/\y=kV k/\kvs.length<sizeLine/\H'=upd H a (.dK (putK kvs k v))) \/
 ∃kvs k b,H a=some (.dT kvs)/\y=.ref b/\H b=some (.tup (k.map kV))/\kvs.length<sizeLine/\H'=upd H a (.dT (putK kvs k v))
theorem Lf.k {H:Hp}{a:Addr}{kvs:List (Key×V)}{k:Key}(e:H a=some (.dK kvs)):Lf H a (kV k) (tG kvs k):=.inl ⟨kvs,k,.inl e,rfl,rfl⟩
theorem zdS.k {H:Hp}{a:Addr}{kvs:List (Key×V)}{k:Key}{v:V}(e:H a=some (.dK kvs))(hl:kvs.length<sizeLine):zdS H a (kV k) v (upd H a (.dK (putK kvs k v))):=.inl ⟨kvs,k,e,rfl,hl,rfl⟩
section
variable {X:Cx}{pins:List (Addr×Obj)}{σ:St}{H:Hp}{s:Shared}{a:Addr}{y v:V}{u r:Value}{o:Option V}{A:Around}{E:Value->Shared->Prop}
theorem Inv.big (I:Inv X pins σ H s):sysModules<s.heap.objs.size:=by
 have h:mainGlobals<s.heap.objs.size:=(I.mod.glob.keeps I.bk).lt
 exact Nat.lt_trans (by decide) h
theorem zfv {Q:Value->Shared->Prop}(hu:A.units+1<cLine)(I:Inv X pins σ H s)(g:Lf H a y (some v))(ry:RelV y u)(h:∀w' s',Inv X pins σ H s'->RelV v w'->Q w' s') :
  wpAny (model X.prog X.w) A (getItem (.ref a) u) Q E s:=by
 rcases g with ⟨kvs,k,e,ey,l⟩ | ⟨kvs,k,b,e,ey,eb,l⟩
 ·subst ey
  obtain⟨z,hd,vs,rel,dd⟩:=zeM I.hok e
  obtain⟨w',hw,rw'⟩:=V7.some_of (v:=v) (o:=valueAt vs k) (by rw[l];exact rel.val k)
  exact wpAny_getItem_of (K3 ry) dd.mapOf hw (h w' _ (I.tok _) rw')
 ·subst ey
  cases (show u=Value.ref b from ry)
  obtain⟨z,hd,xs,rel,dd⟩:=zeO I.hok e
  obtain⟨w',hw,rw'⟩:=V7.some_of (v:=v) (o:=(atKey xs k).map (·.2)) (by rw[l];exact rel.val k)
  obtain⟨p,hp,hp2⟩:=Option.map_eq_some_iff.mp hw
  refine wpAny_getItem_heap (tupleKind_room_in1 hu) (zbt I.hok eb) dd hp ?_
  rw[hp2]
  exact h w' _ (I.tok _) rw'
theorem zic {Q:Value->Shared->Prop}(hu:A.units+1<cLine)(I:Inv X pins σ H s)(g:Lf H a y o)(ry:RelV y u)(h:∀s',Inv X pins σ H s'->Q (.bool (!o.isSome)) s') :
  wpAny (model X.prog X.w) A (compareOp .NotIn u (.ref a)) Q E s:=by
 rcases g with ⟨kvs,k,e,ey,l⟩ | ⟨kvs,k,b,e,ey,eb,l⟩
 ·subst ey
  obtain⟨z,hd,vs,rel,dd⟩:=zeM I.hok e
  refine wpAny_notIn_of (K3 ry) hd dd.mapOf ?_
  rw[<-(rel.val k).Tr,<-l]
  exact h _ (I.tok _)
 ·subst ey
  cases (show u=Value.ref b from ry)
  obtain⟨z,hd,xs,rel,dd⟩:=zeO I.hok e
  refine wpAny_notIn_heap (tupleKind_room_in1 hu) (zbt I.hok eb) hd dd ?_
  have q:=(rel.val k).Tr
  rw[Option.isSome_map] at q
  rw[<-q,<-l]
  exact h _ (I.tok _)
theorem Qk {h':Heap}{t':Nat}{ob:HO}(I:Inv X pins σ H s)(mu:Mut (H a))(hs:Heap.SameBut a s.heap h')(he:∃q,h'.get? a=some q)(new:wG X.prog X.w (upd H a ob) h' a ob) :
  Inv X pins σ (upd H a ob) { s with heap:=h',toks:=t' } :=
 I.write (x:=a) (e:=a) mu (.inl rfl) (fun b q hb z=>(hs.2 b hb).trans z) he new
theorem zbu {P:Program}{w:World}{H':Hp}{h':Heap}{kvs:List (Key×V)}{vs:List (Key×Value)}(z:kvs.length<=sizeLine)(hd:(a==sysModules)=false)(rel:KV kvs vs)(dd:h'.DictOf (z6 P w) a vs) :
  wG P w H' h' a (.dK kvs):=⟨z,hd,vs,rel,dd⟩
theorem zfw {H':Hp}{Q:Unit->Shared->Prop}(hu:A.units+1<cLine)(I:Inv X pins σ H s)(g:zdS H a y v H')(ry:RelV y u)(rv:RelV v r)(h:∀s',Inv X pins σ H' s'->Q () s') :
  wpAny (model X.prog X.w) A (setItem (.ref a) u r) Q E s:=by
 rcases g with ⟨kvs,k,e,ey,l,eH⟩ | ⟨kvs,k,b,e,ey,eb,l,eH⟩
 ·subst ey eH
  obtain⟨z,hd,vs,rel,dd⟩:=zeN I.hok e
  have hz:vs.length<=sizeLine:=by rw[<-rel.length];exact z
  have hl:(putK kvs k v).length<=sizeLine:=by have:=X3 kvs k v;omega
  refine wpAny_setItem_pairs (hsz:=hz) (K3 ry) dd fun h' dd' hs=>h _ ?_
  have he:∃q,h'.get? a=some q:=let ⟨q,_,_,hq,_⟩:=dd';⟨q,hq⟩
  exact Qk I (by rw[e];exact True.intro) hs he (zbu hl hd (rel.put k rv) dd')
 ·subst ey eH
  cases (show u=Value.ref b from ry)
  obtain⟨z,hd,xs,rel,dd⟩:=zlm I.hok e
  have hz:xs.length<=sizeLine:=by rw[<-Paired.length rel];exact z
  have hl:(putK kvs k v).length<=sizeLine:=by have:=X3 kvs k v;omega
  refine wpAny_setItem_heap (hsz:=hz) (tupleKind_room_in1 hu) (zbt I.hok eb) dd fun h' dd' hs=>h _ ?_
  obtain⟨q,es,ep,hq,h2,h3,h4,_,h5⟩:=dd'
  refine Qk I (by rw[e];exact True.intro) hs ⟨q,hq⟩ ⟨hl,hd,_,(rel.put k eb rv).keeps fun c ys ec=>?_,q,es,ep,hq,h2,h3,h4,h5⟩
  rw[zA (V8 ec e (fun z=>nomatch z))]
  exact ec
end
section
variable {X:Cx}{pins:List (Addr×Obj)}{σ:St}{H:Hp}{s:Shared}{a:Addr}{kvs:List (Key×V)}{k:Key}{u:Value}{A:Around}{E:Value->Shared->Prop}
theorem zkz {Q:Unit->Shared->Prop}(I:Inv X pins σ H s)(e:H a=some (.dK kvs))(ry:RelV (kV k) u)(l:(tG kvs k).isSome=true)(h:∀s',Inv X pins σ (upd H a (.dK (Mt kvs k))) s'->Q () s') :
  wpAny (model X.prog X.w) A (delItem (.ref a) u) Q E s:=by
 obtain⟨z,hd,vs,rel,dd⟩:=zeN I.hok e
 refine wpAny_delItem_slot dd.typeIs (by decide) PySem.F.slot_dict_delitem
  (call_meetsIn PySem.F.slot_dict_delitem dd.typeIs PySem.F.entry_dict_delitem (PySem.F.args_dict_delitem_2 _ _) (meets_dict_delitem_pairs (z6 X.prog X.w) a (K3 ry)) ⟨vs,dd,by rw[<-rel.length];exact z,by rw[<-(rel.val k).Tr];exact l,fun h' dd' hs=>h _ ?_⟩)
 have he:∃q,h'.get? a=some q:=let ⟨q,_,_,hq,_⟩:=dd';⟨q,hq⟩
 exact Qk I (by rw[e];exact True.intro) hs he (zbu (zrg (zcv kvs k) z) hd (rel.drop k) dd')
theorem zln {v:V}{more:List Value}{Q:Value->Shared->Prop}(I:Inv X pins σ H s)(e:H a=some (.dK kvs))(ry:RelV (kV k) u)(l:tG kvs k=some v)(hm:more=[]\/∃x,more=[x])
  (h:∀w' s',Inv X pins σ (upd H a (.dK (Mt kvs k))) s'->RelV v w'->Q w' s'):wpAny (model X.prog X.w) A (call (.builtin "dict.pop") (.ref a::u::more)) Q E s:=by
 obtain⟨z,hd,vs,rel,dd⟩:=zeN I.hok e
 obtain⟨w',hw,rw'⟩:=V7.some_of (v:=v) (o:=valueAt vs k) (by rw[<-l];exact rel.val k)
 have hp:(keyPart u).isSome=true:=by
  cases k with
  | inl i=>obtain⟨t,q⟩:=(show ∃t,u=Value.int i t from ry);subst q;rfl
  | inr x=>obtain⟨t,q⟩:=(show ∃t,u=Value.str x t from ry);subst q;rfl
 have ha:argsOk "dict.pop" ⟨.ref a::u::more,[]⟩:=by
  rcases hm with q | ⟨x,q⟩
  ·subst q;exact PySem.F.args_dict_pop_2 _ _
  ·subst q;exact PySem.F.args_dict_pop_3 _ _ _
 refine call_meetsIn PySem.F.slot_dict_pop dd.typeIs PySem.F.entry_dict_pop ha (meets_dict_pop_there (z6 X.prog X.w) a (K3 ry) more hm hp)
  ⟨vs,w',dd,by rw[<-rel.length];exact z,hw,fun h' dd' hs=>h w' _ ?_ rw'⟩
 have he:∃q,h'.get? a=some q:=let ⟨q,_,_,hq,_⟩:=dd';⟨q,hq⟩
 exact Qk I (by rw[e];exact True.intro) hs he (zbu (zrg (zcv kvs k) z) hd (rel.drop k) dd')
end
def zlo (i:Expr):Prop:=∀ov iv,subscripted i false ov iv=operate [ov,iv] (getItem ov iv)
theorem zid {prog:Program}{w:World}{A:Around}{E:Value->Shared->Prop}{s:Shared}{env:Env}{value slice:Expr}{pos:Pos}{T id:String}{Q:Value->Shared->Prop}
  (hl:typeLookup (.type T) "__getitem__"=pure (some (.builtin id)))(hs:zlo slice)
  (h:wpAny (model prog w) A (eval value env) (fun o s₁=>wpAny (model prog w) A (eval slice env) (fun i s₂=>s₂.TypeIs o T/\wpAny (model prog w) A (getItem o i) Q E s₂) E s₁) E s) :
  wpAny (model prog w) A (eval (.Subscript value slice pos) env) Q E s:=by
 refine Subscript_ (wpAny_mono h (fun o s₁ h₁=>wpAny_mono h₁ (fun i s₂ h₂=>?_) fun _ _ x=>x) fun _ _ x=>x)
 obtain⟨hT,h₂⟩:=h₂
 unfold subscriptTail
 refine wpAny_bind ?_
 rw[getitemInPython_of_ne hT.not_modules]
 refine wpAny_bind (wpAny_specialOf hT hl ?_)
 have fin:wpAny (model prog w) A (subscripted slice false o i) (fun r s₃=>wpAny (model prog w) A (letTemporaryGo value o r>>=fun _=>pure r) Q E s₃) E s₂:=by
  rw[hs o i]
  exact wpAny_operating (wpAny_mono h₂ (fun r s₃ h₃=>wpAny_bind (wpAny_letTemporaryGo (wpAny_pure h₃))) fun _ _ x=>x)
 first
  | exact wpAny_pure (wpAny_bind fin)
  | exact wpAny_bind (wpAny_pure (wpAny_bind fin))
  | exact wpAny_bind fin
theorem zcw {X:Cx}{pins:List (Addr×Obj)}{σ:St}{H:Hp}{s:Shared}{a:Addr}{y:V}{o:Option V}(I:Inv X pins σ H s)(g:Lf H a y o):s.TypeIs (.ref a) "dict" := by
 rcases g with ⟨kvs,k,e,_,_⟩ | ⟨kvs,k,b,e,_,_,_⟩
 ·obtain⟨_,_,vs,_,dd⟩:=zeM I.hok e
  exact dd.typeIs
 ·obtain⟨_,_,xs,_,dd⟩:=zeO I.hok e
  exact dd.typeIs
def zlp (td ty:TE):TE:=fun σ H Q=>td σ H fun x H1=>ty σ H1 fun y H2=>∃a v,x=.ref a/\Lf H2 a y (some v)/\Q v H2
def zie (ty td:TE):TE:=fun σ H Q=>ty σ H fun y H1=>td σ H1 fun x H2=>∃a o,x=.ref a/\Lf H2 a y o/\Q (.bl (!o.isSome)) H2
def zlq (td ty tv:TE):TS:=fun D σ H=>tv σ H fun v H1=>td σ H1 fun x H2=>ty σ H2 fun y H3=>∃a H4,x=.ref a/\zdS H3 a y v H4/\D.nx σ H4
section
variable {X:Cx}{o i e value:Expr}{pos pos' tpos:Pos}{td ty tv:TE}
theorem zeP (hu:X.A.units+1<cLine)(ho:PE X o td)(hi:PE X i ty)(hs:zlo i):PE X (.Subscript o i pos) (zlp td ty):=by
 intro pins s σ H Q I h
 refine zid PySem.F.slot_dict_getitem.lookup hs (wC (ho pins s σ H _ I h) fun u s1 ⟨x,H1,I1,rx,q1⟩=>wC (hi pins s1 σ H1 _ I1 q1) fun iv s2 ⟨y,H2,I2,ry,a,v,ex,g,q2⟩=>?_)
 subst ex
 obtain rfl:u=Value.ref a:=rx
 exact⟨zcw I2 g,zfv hu I2 g ry fun w' s3 I3 rw'=>⟨v,H2,I3,rw',q2⟩⟩
theorem zaK (hu:X.A.units+1<cLine)(hi:PE X i ty)(ho:PE X o td):PC X .NotIn i o (zie ty td):=by
 intro pins s σ H Q I h
 refine wC (hi pins s σ H _ I h) fun iv s1 ⟨y,H1,I1,ry,q1⟩=>wC (ho pins s1 σ H1 _ I1 q1) fun u s2 ⟨x,H2,I2,rx,a,ov,ex,g,q2⟩=>?_
 subst ex
 obtain rfl:u=Value.ref a:=rx
 exact zic hu I2 g ry fun s3 I3=>⟨.bl (!ov.isSome),H2,I3,rfl,q2⟩
theorem zbv (hu:X.A.units+1<cLine)(ho:PE X o td)(hi:PE X i ty)(hv:PE X value tv)(hs:swapsWith value (some (.Subscript o i pos')) pos.line X.env=pure false) :
  PS X (.Assign [.Subscript o i pos'] value pos) (zlq td ty tv):=by
 intro pins s σ H D I h
 refine wpAny_Assign_Subscript (wC (hv pins s σ H _ I h) fun r s1 ⟨v,H1,I1,rv,q1⟩=>wC (ho pins s1 σ H1 _ I1 q1) fun u s2 ⟨x,H2,I2,rx,q2⟩=>wC (hi pins s2 σ H2 _ I2 q2) fun iv s3 ⟨y,H3,I3,ry,a,H4,ex,g,q3⟩=>?_) hs
 subst ex
 obtain rfl:u=Value.ref a:=rx
 exact zfw hu I3 g ry rv fun s4 I4=>⟨σ,H4,I4,q3⟩
end
theorem zcx {P:Program}{w:World}{H:Hp}(h:Heap)(hb:sysModules<h.objs.size):wG P w H (h.push { cls:=.type "dict", data:=.dict #[] }) h.objs.size (.dK []) :=
 ⟨zrh _,beq_eq_false_iff_ne.mpr (Ne.symm (zq9 hb)),[],.nil,Heap.DictOf.new h⟩
def zj2:TE:=fun _ H Q=>∀p,H p=none->Q (.ref p) (upd H p (.dK []))
section
variable {X:Cx}{pos:Pos}
theorem zcy:PE X (.Dict [] [] pos) zj2:=fun pins s σ H Q I h =>
 wpAny_Dict_empty ⟨.ref s.heap.objs.size,_,I.laid (a:=s.heap.objs.size) (o:=.dK []) (t':=s.toks) (fun _ _ q=>zq0 _ q) (zra _) (zcx s.heap I.big),rfl,h _ (I.hok.fresh (zra _))⟩
end
def zdT:List (TE×TE)->St->Hp->(List (V×V)->Hp->Prop)->Prop
 | [],_,H,Q=>Q [] H
 | (tk,tv)::r,σ,H,Q=>tk σ H fun x H1=>tv σ H1 fun y H2=>zdT r σ H2 fun ps H3=>Q ((x,y)::ps) H3
abbrev VV:List (V×V)->List (Value×Value)->Prop:=Paired fun p q=>RelV p.1 q.1/\RelV p.2 q.2
def PPs (X:Cx)(pos:Pos)(keys:List (Option Expr))(values:List Expr)(trs:List (TE×TE)):Prop :=
 ∀(pins:List (Addr×Obj)) (s:Shared) (σ:St) (H:Hp) (Q:List (V×V)->Hp->Prop),Inv X pins σ H s->zdT trs σ H Q ->
  wpAny (model X.prog X.w) X.A (evalPairs (pairTrees keys values X.env pos)) (fun vs s'=>∃ps H',Inv X pins σ H' s'/\VV ps vs/\Q ps H') X.xe s
theorem zig {X:Cx}{pos:Pos}:PPs X pos [] [] []:=fun pins s σ H Q I h=>pairTrees_nil_walk ⟨[],H,I,.nil,h⟩
theorem zcz {X:Cx}{pos:Pos}{k v:Expr}{ks:List (Option Expr)}{vs:List Expr}{tk tv:TE}{trs:List (TE×TE)}(hk:PE X k tk)(hv:PE X v tv)(hr:PPs X pos ks vs trs) :
  PPs X pos (some k::ks) (v::vs) ((tk,tv)::trs):=fun pins s σ H Q I h =>
 pairTrees_cons_walk (wC (hk pins s σ H _ I h) fun u s1 ⟨x,H1,I1,rx,q1⟩=>wC (hv pins s1 σ H1 _ I1 q1) fun w2 s2 ⟨y,H2,I2,ry,q2⟩ =>
  wC (hr pins s2 σ H2 _ I2 q2) fun ws s3 ⟨ps,H3,I3,rel,q3⟩=>⟨(x,y)::ps,H3,I3,.cons ⟨rx,ry⟩ rel,q3⟩)
def Wm (kvs more:List (Key×V)):List (Key×V):=more.foldl (fun acc kv=>putK acc kv.1 kv.2) kvs
theorem KV.merge:∀{more:List (Key×V)} {rs:List (Key×Value)} {kvs:List (Key×V)} {vs:List (Key×Value)},KV more rs->KV kvs vs->KV (Wm kvs more) (merged vs rs):=by
 intro more rs kvs vs r
 unfold KV at r
 induction r generalizing kvs vs with
 | nil=>intro q;exact q
 | @cons p q ps qs h t ih =>
  intro r0
  have e:KV (putK kvs p.1 p.2) (stored vs q.1 q.2):=by
   have:=r0.put p.1 h.2
   rw[<-h.1];exact this
  exact ih e
theorem Sh:∀(more kvs:List (Key×V)),(Wm kvs more).length<=kvs.length+more.length
 | [],kvs=>by show kvs.length<=kvs.length+0;omega
 | p::r,kvs=>by
  have h1:=Sh r (putK kvs p.1 p.2)
  have h2:=X3 kvs p.1 p.2
  show(Wm (putK kvs p.1 p.2) r).length<=_
  rw[zq6];omega
theorem K4 {P:Program}{w:World}:∀{kvs:List (Key×V)} {ws:List (Value×Value)},VV (kvs.map fun kv=>(kV kv.1,kv.2)) ws->∃rs,Carries (z6 P w) ws rs/\KV kvs rs
 | [],_,r=>by rw[List.map_nil] at r;cases r;exact⟨[],True.intro,.nil⟩
 | p::kvs,_,r=>by
  rw[zrj] at r
  cases r with
  | @cons a b as bs h t =>
   obtain⟨rs,c,q⟩:=K4 (P:=P) (w:=w) t
   obtain⟨b1,b2⟩:=b
   exact⟨(p.1,b2)::rs,⟨K3 h.1,rfl,c⟩,.cons ⟨rfl,h.2⟩ q⟩
def zlr (trs:List (TE×TE)):TE:=fun σ H Q=>∀p,H p=none->zdT trs σ (upd H p (.dK [])) fun ps H2=>H2 p=some (.dK [])/\∃kvs:List (Key×V),ps=kvs.map (fun kv=>(kV kv.1,kv.2))/\kvs.length<=15/\Q (.ref p) (upd H2 p (.dK (Wm [] kvs)))
theorem zih {X:Cx}{pos:Pos}{keys:List (Option Expr)}{values:List Expr}{trs:List (TE×TE)}(h:PPs X pos keys values trs)(hall:keys.all (·.isSome)=true)(hl:keys.length=values.length)(h0:keys≠[])
  (h15:keys.length<=15):PE X (.Dict keys values pos) (zlr trs):=by
 intro pins s σ H Q I q
 have hn:=I.hok.fresh (zra s.heap.objs.size)
 have I1:=I.laid (a:=s.heap.objs.size) (o:=.dK []) (h':=s.heap.push { cls:=.type "dict", data:=.dict #[] }) (t':=s.toks) (fun _ _ q=>zq0 _ q) (zra _) (zcx s.heap I.big)
 refine wpAny_Dict_walk (knd:=z6 X.prog X.w) hall hl h0 h15 (wC (h pins _ σ _ _ I1 (q _ hn)) fun ws s2 ⟨ps,H2,I2,rel,e,kvs,ep,lk,q2⟩=>?_)
 subst ep
 obtain⟨rs,c,rk⟩:=K4 (P:=X.prog) (w:=X.w) rel
 obtain⟨z,hd,vs0,r0,dd⟩:=zeN I2.hok e
 cases r0
 refine⟨rs,c,dd,fun h' dd' hs=>⟨.ref s.heap.objs.size,_,?_,rfl,q2⟩⟩
 have hz:(Wm [] kvs).length<=sizeLine:=by
  have h1:=Sh kvs []
  rw[List.length_nil] at h1
  rw[sizeLine_eq];omega
 have he:∃q,h'.get? s.heap.objs.size=some q:=let ⟨q,_,_,hq,_⟩:=dd';⟨q,hq⟩
 exact Qk I2 (by rw[e];exact True.intro) hs he (zbu hz hd (rk.merge .nil) dd')
section
variable {X:Cx}
theorem Ql:∀{xs:List V} {us:List Value},xs.length=us.length->(∀(j:Nat) u,us[j]?=some u->∃x,xs[j]?=some x/\RelV x u)->Vals xs us
 | [],[],_,_=>.nil
 | [],_::_,h,_=>by simp at h
 | _::_,[],h,_=>by simp at h
 | x::xs,u::us,hl,h=>by
  obtain⟨x',e,r⟩:=h 0 u rfl
  cases e
  refine .cons r (Ql (by simpa using hl) fun j v hv=>?_)
  obtain⟨y,e,r⟩:=h (j+1) v (by simpa using hv)
  exact⟨y,by simpa using e,r⟩
theorem Uq (hc:X.calm=true):Xl X (.type "list") (fun xs H Q=>∃(p:Addr) (kvs:List (Key×V)),xs=[.ref p]/\H p=some (.dK kvs)/\∀l,H l=none->Q (.ref l) (upd H l (.lst (kvs.map fun e=>kV e.1)))):=by
 intro pins s σ H xs us Q I r h
 obtain⟨p,kvs,rfl,hp,q⟩:=h
 obtain⟨u,rfl,rx⟩:=vals1 r
 cases rx
 obtain⟨hz,lo,vs,rv,hD⟩:=(show kvs.length<=sizeLine/\(p==sysModules)=false/\∃vs,KV kvs vs/\s.heap.DictOf (z6 X.prog X.w) p vs from I.hok p _ hp)
 obtain⟨ep,hat⟩:=hD.dictAt
 have hl:kvs.length=vs.length:=Paired.length rv
 refine PySem.W.kdl_call (PySem.W.kdl_dict (knd:=z6 X.prog X.w) (kvs:=vs) (ep:=ep) lo) (I.ok.hd hc) hat (by omega) fun h' tk acc c hk hS hacc=>?_
 refine⟨.ref s.heap.objs.size,_,I.laid (o:=.lst (kvs.map fun e=>kV e.1)) hk (zra _) ?_,rfl,q _ (I.hok.fresh (zra _))⟩
 refine⟨by rw[zqU];exact hz,acc.toList,c,?_,by simpa using hS⟩
 refine Ql (by rw[zqU];have:=hacc.1;simp;omega) fun j v hv=>?_
 obtain⟨k,x,hx,hkv⟩:=hacc.2 j v (by rw[<-Array.getElem?_toList];exact hv)
 obtain⟨y,hy,e1,_⟩:=Qe rv hx
 refine⟨kV y.1,by rw[zqW,hy];rfl,?_⟩
 rw[e1]
 rcases yV (k:=k) (v:=v) hkv with ⟨i,t,rfl,rfl⟩ | ⟨z,t,rfl,rfl⟩
 ·exact⟨_,rfl⟩
 ·exact⟨_,rfl⟩
end
end L2
namespace yc
abbrev Rm:=Option (Nat×Nat×Nat)
def ZM (n:Nat)(rs:List Rm)(k:Nat):Nat:=match rs[k]? with
 | some (some (i,_,_))=>i
 | _=>n
structure Bk (n:Nat)(rs:List Rm):Prop where
 h0:rs[0]?=some none
 h1:rs[1]?=some none
 rm:∀k,2<=k->k<rs.length->∃i lo hi,rs[k]?=some (some (i,lo,hi))/\i<n/\lo<k/\hi<k/\lo≠hi/\i<ZM n rs lo/\i<ZM n rs hi
 uq:∀(k l:Nat) (x:Nat×Nat×Nat),rs[k]?=some (some x)->rs[l]?=some (some x)->k=l
abbrev Row:=Nat->Bool
def put (r:Row)(i:Nat)(v:Bool):Row:=fun j=>if j=i then v else r j
def lead (rs:List Rm)(r:Row):Nat->Nat->Nat
 | 0,k=>k
 | f+1,k=>match rs[k]? with
  | some (some (i,lo,hi))=>lead rs r f (if r i then hi else lo)
  | _=>k
theorem zaL {n:Nat}{rs:List Rm}(B:Bk n rs)(r:Row):∀(f g k:Nat),k<=f->k<=g->k<rs.length->lead rs r f k=lead rs r g k
 | 0,0,k,_,_,_=>rfl
 | 0,g+1,k,h,_,_=>by
  have e:k=0:=by omega
  subst e
  show 0=lead rs r (g+1) 0
  unfold lead
  rw[B.h0]
 | f+1,0,k,_,h,_=>by
  have e:k=0:=by omega
  subst e
  show lead rs r (f+1) 0=0
  unfold lead
  rw[B.h0]
 | f+1,g+1,k,hf,hg,hk=>by
  by_cases h2:2<=k
  ·obtain⟨i,lo,hi,e,_,hlo,hhi,_⟩:=B.rm k h2 hk
   unfold lead
   rw[e]
   show lead rs r f (if r i then hi else lo)=lead rs r g (if r i then hi else lo)
   refine zaL B r f g _ ?_ ?_ ?_<;>(split<;>omega)
  ·have:k=0\/k=1:=by omega
   rcases this with e | e<;>subst e<;>unfold lead
   ·rw[B.h0]
   ·rw[B.h1]
def yes (rs:List Rm)(k:Nat)(r:Row):Bool:=lead rs r k k==1
section
variable {n:Nat}{rs:List Rm}(B:Bk n rs)
include B
theorem len2:2<=rs.length:=by
 have:=(zqX.mp B.h1).1
 omega
theorem zdU (r:Row):yes rs 0 r=false:=rfl
theorem Zg (r:Row):yes rs 1 r=true:=by
 unfold yes lead
 rw[B.h1]
 rfl
theorem zfx {k i lo hi:Nat}(e:rs[k]?=some (some (i,lo,hi)))(r:Row):lead rs r k k=lead rs r (if r i then hi else lo) (if r i then hi else lo):=by
 have hk:=(zqX.mp e).1
 have k2:2<=k:=by
  by_cases h:2<=k
  ·exact h
  ·exfalso
   have:k=0\/k=1:=by omega
   rcases this with z | z<;>subst z
   ·rw[B.h0] at e;cases e
   ·rw[B.h1] at e;cases e
 obtain⟨i',lo',hi',e',_,hlo,hhi,_⟩:=B.rm k k2 hk
 rw[e] at e'
 cases e'
 obtain⟨m,rfl⟩:∃m,k=m+1:=⟨k-1,by omega⟩
 show(match rs[m+1]? with | some (some (i,lo,hi))=>lead rs r m (if r i then hi else lo) | _=>m+1)=_
 rw[e]
 show lead rs r m (if r i then hi else lo)=_
 refine zaL B r _ _ _ ?_ (zra _) ?_<;>(split<;>omega)
theorem Xn {k i lo hi:Nat}(e:rs[k]?=some (some (i,lo,hi)))(r:Row):yes rs k r=if r i then yes rs hi r else yes rs lo r:=by
 unfold yes
 rw[zfx B e r]
 split<;>rfl
theorem uI {k i lo hi:Nat}(e:rs[k]?=some (some (i,lo,hi))):ZM n rs k=i:=by unfold ZM;rw[e]
theorem Rh:ZM n rs 0=n:=by unfold ZM;rw[B.h0]
theorem Tt:ZM n rs 1=n:=by unfold ZM;rw[B.h1]
theorem Xe:∀(m k:Nat),k<=m->k<rs.length->∀{r r':Row},(∀i,ZM n rs k<=i->i<n->r i=r' i)->yes rs k r=yes rs k r'
 | m,k,hm,hk,r,r',h=>by
  by_cases h2:2<=k
  ·obtain⟨i,lo,hi,e,hin,hlo,hhi,_,l1,l2⟩:=B.rm k h2 hk
   have lk:=uI B e
   rw[Xn B e,Xn B e,h i (by omega) hin]
   match m,hm with
   | 0,hm=>omega
   | m+1,hm =>
    rw[Xe m hi (by omega) (by omega) fun j hj hjn=>h j (by omega) hjn,Xe m lo (by omega) (by omega) fun j hj hjn=>h j (by omega) hjn]
  ·have:k=0\/k=1:=by omega
   rcases this with z | z<;>subst z
   ·rfl
   ·rw[Zg B,Zg B]
theorem Zh {k i:Nat}(hk:k<rs.length)(h:i<ZM n rs k)(r:Row)(v:Bool):yes rs k (put r i v)=yes rs k r:=by
 refine Xe B k k (zra _) hk fun j hj _=>?_
 unfold put
 rw[if_neg (by omega)]
theorem Xo {k i lo hi:Nat}(e:rs[k]?=some (some (i,lo,hi)))(hk:k<rs.length)(r:Row):yes rs k (put r i false)=yes rs lo r/\yes rs k (put r i true)=yes rs hi r:=by
 have k2:2<=k:=by
  by_cases h:2<=k
  ·exact h
  ·exfalso
   have:k=0\/k=1:=by omega
   rcases this with z | z<;>subst z
   ·rw[B.h0] at e;cases e
   ·rw[B.h1] at e;cases e
 obtain⟨i',lo',hi',e',_,hlo,hhi,_,l1,l2⟩:=B.rm k k2 hk
 rw[e] at e'
 cases e'
 constructor
 ·rw[Xn B e]
  have z:put r i false i=false:=by unfold put;rw[if_pos rfl]
  rw[z,if_neg zqY]
  exact Zh B (by omega) l1 r false
 ·rw[Xn B e]
  have z:put r i true i=true:=by unfold put;rw[if_pos rfl]
  rw[z,if_pos rfl]
  exact Zh B (by omega) l2 r true
theorem uN:∀(m k l:Nat),(k<=m/\l<=m)->k<rs.length->l<rs.length->(∀r,yes rs k r=yes rs l r)->k=l
 | m,k,l,hm,hk,hl,h=>by
  by_cases k2:2<=k
  ·obtain⟨i,lo,hi,e,hin,hlo,hhi,hne,l1,l2⟩:=B.rm k k2 hk
   by_cases l2':2<=l
   ·obtain⟨j,lo',hi',e',hjn,hlo',hhi',hne',l1',l2''⟩:=B.rm l l2' hl
    match m,hm with
    | 0,hm=>omega
    | m+1,hm =>
     rcases Nat.lt_trichotomy i j with q | q | q
     ·exfalso
      refine hne (uN m lo hi (by omega) (by omega) (by omega) fun r=>?_)
      have z:=Xo B e hk r
      rw[<-z.1,<-z.2,h,h,Zh B hl (by rw[uI B e'];exact q),Zh B hl (by rw[uI B e'];exact q)]
     ·subst q
      have a1:lo=lo':=uN m lo lo' (by omega) (by omega) (by omega) fun r=>by rw[<-(Xo B e hk r).1,<-(Xo B e' hl r).1,h]
      have a2:hi=hi':=uN m hi hi' (by omega) (by omega) (by omega) fun r=>by rw[<-(Xo B e hk r).2,<-(Xo B e' hl r).2,h]
      subst a1 a2
      exact B.uq k l _ e e'
     ·exfalso
      refine hne' (uN m lo' hi' (by omega) (by omega) (by omega) fun r=>?_)
      have z:=Xo B e' hl r
      rw[<-z.1,<-z.2,<-h,<-h,Zh B hk (by rw[uI B e];exact q),Zh B hk (by rw[uI B e];exact q)]
   ·exfalso
    match m,hm with
    | 0,hm=>omega
    | m+1,hm =>
     have ll:ZM n rs l=n:=by
      have:l=0\/l=1:=by omega
      rcases this with z | z<;>subst z
      ·exact Rh B
      ·exact Tt B
     refine hne (uN m lo hi (by omega) (by omega) (by omega) fun r=>?_)
     have z:=Xo B e hk r
     rw[<-z.1,<-z.2,h,h,Zh B hl (by omega),Zh B hl (by omega)]
  ·by_cases l2':2<=l
   ·exfalso
    obtain⟨j,lo',hi',e',hjn,hlo',hhi',hne',l1',l2''⟩:=B.rm l l2' hl
    match m,hm with
    | 0,hm=>omega
    | m+1,hm =>
     have ll:ZM n rs k=n:=by
      have:k=0\/k=1:=by omega
      rcases this with z | z<;>subst z
      ·exact Rh B
      ·exact Tt B
     refine hne' (uN m lo' hi' (by omega) (by omega) (by omega) fun r=>?_)
     have z:=Xo B e' hl r
     rw[<-z.1,<-z.2,<-h,<-h,Zh B hk (by omega),Zh B hk (by omega)]
   ·have a:k=0\/k=1:=by omega
    have b:l=0\/l=1:=by omega
    have z:=h fun _=>false
    rcases a with a | a<;>rcases b with b | b<;>subst a<;>subst b
    ·rfl
    ·rw[zdU B,Zg B] at z;cases z
    ·rw[zdU B,Zg B] at z;cases z
    ·rfl
end
theorem Zi {rs:List Rm}{x:Rm}{k:Nat}(h:k<rs.length):(rs++[x])[k]?=rs[k]?:=zrr h
theorem Ur {n:Nat}{rs:List Rm}{x:Rm}{k:Nat}(h:k<rs.length):ZM n (rs++[x]) k=ZM n rs k:=by
 unfold ZM;rw[Zi h]
theorem Bk.snoc {n:Nat}{rs:List Rm}(B:Bk n rs){i lo hi:Nat}(hin:i<n)(hlo:lo<rs.length)(hhi:hi<rs.length)(hne:lo≠hi)(l1:i<ZM n rs lo)(l2:i<ZM n rs hi)(new:some (i,lo,hi)∉rs):Bk n (rs++[some (i,lo,hi)]) where
 h0:=by rw[Zi (by have:=len2 B;omega)];exact B.h0
 h1:=by rw[Zi (by have:=len2 B;omega)];exact B.h1
 rm:=fun k h2 hk=>by
  rw[zq2,zrs] at hk
  by_cases hlt:k<rs.length
  ·obtain⟨i',lo',hi',e,a1,a2,a3,a4,a5,a6⟩:=B.rm k h2 hlt
   exact⟨i',lo',hi',by rw[Zi hlt];exact e,a1,a2,a3,a4,by rw[Ur (by omega)];exact a5,by rw[Ur (by omega)];exact a6⟩
  ·have e:k=rs.length:=by omega
   subst e
   exact⟨i,lo,hi,by simp,hin,hlo,hhi,hne,by rw[Ur hlo];exact l1,by rw[Ur hhi];exact l2⟩
 uq:=fun k l x hk hl=>by
  have lk:=(zqX.mp hk).1
  have ll:=(zqX.mp hl).1
  rw[zq2,zrs] at lk ll
  have last:∀m,m=rs.length->(rs++[some (i,lo,hi)])[m]?=some (some x)->x=(i,lo,hi):=fun m hm h=>by
   subst hm
   simp at h
   exact h.symm
  by_cases h1:k<rs.length
  ·by_cases h2:l<rs.length
   ·rw[Zi h1] at hk
    rw[Zi h2] at hl
    exact B.uq k l x hk hl
   ·exfalso
    have e:=last l (by omega) hl
    subst e
    rw[Zi h1] at hk
    exact new (zqZ hk)
  ·by_cases h2:l<rs.length
   ·exfalso
    have e:=last k (by omega) hk
    subst e
    rw[Zi h2] at hl
    exact new (zqZ hl)
   ·omega
theorem zaM {n:Nat}{rs:List Rm}(B:Bk n rs){x:Rm}(r:Row):∀(f k:Nat),k<rs.length->lead (rs++[x]) r f k=lead rs r f k
 | 0,_,_=>rfl
 | f+1,k,hk=>by
  unfold lead
  rw[Zi hk]
  by_cases h2:2<=k
  ·obtain⟨i,lo,hi,e,_,hlo,hhi,_⟩:=B.rm k h2 hk
   rw[e]
   show lead (rs++[x]) r f (if r i then hi else lo)=lead rs r f (if r i then hi else lo)
   exact zaM B r f _ (by split<;>omega)
  ·have:k=0\/k=1:=by omega
   rcases this with z | z<;>subst z
   ·rw[B.h0]
   ·rw[B.h1]
theorem zcA {n:Nat}{rs:List Rm}(B:Bk n rs){x:Rm}{k:Nat}(hk:k<rs.length)(r:Row):yes (rs++[x]) k r=yes rs k r:=by
 unfold yes;rw[zaM B r k k hk]
def wL (rs rs':List Rm):Prop:=∃xs,rs'=rs++xs
theorem wL.refl (rs:List Rm):wL rs rs:=⟨[],by simp⟩
theorem wL.trans {a b c:List Rm}(h:wL a b)(k:wL b c):wL a c:=by
 obtain⟨x,rfl⟩:=h
 obtain⟨y,rfl⟩:=k
 exact⟨x++y,by rw[List.append_assoc]⟩
theorem wL.len {a b:List Rm}(h:wL a b):a.length<=b.length:=by
 obtain⟨x,rfl⟩:=h
 rw[zq2];omega
theorem wL.get {a b:List Rm}(h:wL a b){k:Nat}(hk:k<a.length):b[k]?=a[k]?:=by
 obtain⟨x,rfl⟩:=h
 exact zrr hk
theorem wL.snoc (rs:List Rm)(x:Rm):wL rs (rs++[x]):=⟨[x],rfl⟩
theorem wL.ZM {n:Nat}{a b:List Rm}(h:wL a b){k:Nat}(hk:k<a.length):ZM n b k=ZM n a k:=by
 unfold yc.ZM;rw[h.get hk]
theorem wL.lead {n:Nat}{a b:List Rm}(B:Bk n a)(h:wL a b)(r:Row):∀(f k:Nat),k<a.length->lead b r f k=lead a r f k
 | 0,_,_=>rfl
 | f+1,k,hk=>by
  unfold yc.lead
  rw[h.get hk]
  by_cases h2:2<=k
  ·obtain⟨i,lo,hi,e,_,hlo,hhi,_⟩:=B.rm k h2 hk
   rw[e]
   show yc.lead b r f (if r i then hi else lo)=yc.lead a r f (if r i then hi else lo)
   exact wL.lead B h r f _ (by split<;>omega)
  ·have:k=0\/k=1:=by omega
   rcases this with z | z<;>subst z
   ·rw[B.h0]
   ·rw[B.h1]
theorem wL.yes {n:Nat}{a b:List Rm}(B:Bk n a)(h:wL a b){k:Nat}(hk:k<a.length)(r:Row):yes b k r=yes a k r:=by
 unfold yc.yes;rw[wL.lead B h r k k hk]
inductive Reach (rs:List Rm):Nat->Nat->Prop
 | refl (k:Nat):Reach rs k k
 | lo {k i lo hi j:Nat} (e:rs[k]?=some (some (i,lo,hi))) (h:Reach rs lo j):Reach rs k j
 | hi {k i lo hi j:Nat} (e:rs[k]?=some (some (i,lo,hi))) (h:Reach rs hi j):Reach rs k j
theorem Reach.step {rs:List Rm}{k j i lo hi:Nat}(h:Reach rs k j)(e:rs[j]?=some (some (i,lo,hi))):Reach rs k lo/\Reach rs k hi:=by
 induction h with
 | refl k=>exact⟨.lo e (.refl _),.hi e (.refl _)⟩
 | lo e' _ ih=>exact⟨.lo e' (ih e).1,.lo e' (ih e).2⟩
 | hi e' _ ih=>exact⟨.hi e' (ih e).1,.hi e' (ih e).2⟩
theorem Reach.closed {rs:List Rm}{S:Nat->Prop}{k j:Nat}(hk:S k)(hc:∀{m i lo hi},S m->rs[m]?=some (some (i,lo,hi))->S lo/\S hi)(h:Reach rs k j):S j:=by
 induction h with
 | refl k=>exact hk
 | lo e _ ih=>exact ih (hc hk e).1
 | hi e _ ih=>exact ih (hc hk e).2
theorem Reach.lt {n:Nat}{rs:List Rm}(B:Bk n rs){k j:Nat}(h:Reach rs k j):k<rs.length->j<rs.length:=by
 induction h with
 | refl k=>exact id
 | @lo k i lo hi j e _ ih =>
  intro hk
  refine ih ?_
  by_cases h2:2<=k
  ·obtain⟨i',lo',hi',e',_,a,b,_⟩:=B.rm k h2 hk
   rw[e] at e'
   cases e'
   omega
  ·exfalso
   have:k=0\/k=1:=by omega
   rcases this with z | z<;>subst z
   ·rw[B.h0] at e;cases e
   ·rw[B.h1] at e;cases e
 | @hi k i lo hi j e _ ih =>
  intro hk
  refine ih ?_
  by_cases h2:2<=k
  ·obtain⟨i',lo',hi',e',_,a,b,_⟩:=B.rm k h2 hk
   rw[e] at e'
   cases e'
   omega
  ·exfalso
   have:k=0\/k=1:=by omega
   rcases this with z | z<;>subst z
   ·rw[B.h0] at e;cases e
   ·rw[B.h1] at e;cases e
theorem few {n:Nat}{rs:List Rm}(B:Bk n rs):∀(m k:Nat),k<=m->k<rs.length->∃c:List Nat,c.length+1<=2^(n-ZM n rs k)/\∀j,Reach rs k j->j<2\/j∈c
 | m,k,hm,hk=>by
  by_cases h2:2<=k
  ·obtain⟨i,lo,hi,e,hin,hlo,hhi,_,l1,l2⟩:=B.rm k h2 hk
   match m,hm with
   | 0,hm=>omega
   | m+1,hm =>
    obtain⟨c1,a1,a2⟩:=few B m lo (by omega) (by omega)
    obtain⟨c2,b1,b2⟩:=few B m hi (by omega) (by omega)
    have lk:ZM n rs k=i:=uI B e
    refine⟨k::(c1++c2),?_,fun j h=>?_⟩
    ·rw[lk,zq6,zq2]
     have p1:2^(n-ZM n rs lo)<=2^(n-i-1):=zrq (by decide) (by omega)
     have p2:2^(n-ZM n rs hi)<=2^(n-i-1):=zrq (by decide) (by omega)
     have p3:2^(n-i)=2^(n-i-1)+2^(n-i-1):=by
      obtain⟨d,hd⟩:∃d,n-i=d+1:=⟨n-i-1,by omega⟩
      rw[hd,Nat.pow_succ,Nat.add_sub_cancel]
      omega
     omega
    ·cases h with
     | refl _=>exact .inr zre
     | lo e' h' =>
      rw[e] at e'
      cases e'
      rcases a2 j h' with z | z
      ·exact .inl z
      ·exact .inr (zq5 _ (List.mem_append_left _ z))
     | hi e' h' =>
      rw[e] at e'
      cases e'
      rcases b2 j h' with z | z
      ·exact .inl z
      ·exact .inr (zq5 _ (zrb _ z))
  ·refine⟨[],Nat.one_le_two_pow,fun j h=>.inl ?_⟩
   have:k=0\/k=1:=by omega
   cases h with
   | refl _=>omega
   | lo e' _ =>
    exfalso
    rcases this with z | z<;>subst z
    ·rw[B.h0] at e';cases e'
    ·rw[B.h1] at e';cases e'
   | hi e' _ =>
    exfalso
    rcases this with z | z<;>subst z
    ·rw[B.h0] at e';cases e'
    ·rw[B.h1] at e';cases e'
theorem sub_len {α:Type}[DecidableEq α]:∀{xs ys:List α},xs.Nodup->(∀x∈xs,x∈ys)->xs.length<=ys.length
 | [],_,_,_=>zrh _
 | x::xs,ys,nd,h=>by
  obtain⟨h1,h2⟩:=List.nodup_cons.mp nd
  have hx:=h x zre
  have ih:=sub_len (xs:=xs) (ys:=ys.erase x) h2 fun y hy=>(List.mem_erase_of_ne (fun e:y=x=>h1 (by rw[<-e];exact hy))).mpr (h y (zq5 _ hy))
  rw[List.length_erase_of_mem hx] at ih
  have:=List.length_pos_of_mem hx
  rw[zq6]
  omega
theorem zfy {n:Nat}{rs:List Rm}(B:Bk n rs){k:Nat}(hk:k<rs.length){xs:List Nat}(nd:xs.Nodup)(h:∀x∈xs,Reach rs k x):xs.length<=2^n+1:=by
 obtain⟨c,c1,c2⟩:=few B k k (zra _) hk
 have q:=sub_len (ys:=0::1::c) nd fun x hx=>by
  rcases c2 x (h x hx) with z | z
  ·have:x=0\/x=1:=by omega
   rcases this with w | w<;>simp[w]
  ·exact zq5 _ (zq5 _ z)
 have p:2^(n-ZM n rs k)<=2^n:=zrq (by decide) (by omega)
 rw[zq6,zq6] at q
 omega
theorem Us:∀{xs:List Int},xs.Pairwise (·<=·)->xs.Nodup->xs.Pairwise (·<·)
 | [],_,_=>.nil
 | x::xs,h,nd=>by
  obtain⟨a1,a2⟩:=List.pairwise_cons.mp h
  obtain⟨b1,b2⟩:=List.nodup_cons.mp nd
  refine List.pairwise_cons.mpr ⟨fun y hy=>?_,Us a2 b2⟩
  have:=a1 y hy
  have:x≠y:=fun e=>b1 (e ▸ hy)
  omega
end yc
namespace Za
open PySem L2 yc
abbrev wM:=Addr->Prop
def zgI (F:wM)(H H':Hp):Prop:=∀x o,H x=some o->¬F x->H' x=some o
def zaN:List Str:=["room", "size", "order", "enter", "worth_at", "below"]
structure Ut (C:Addr)(B:Hp->Addr->List Str->List Rm->wM->Prop):Prop where
 ins:∀{H b os rs F},B H b os rs F->∃dx fs,H b=some (.ins C dx fs)/\∀m∈zaN,fs.lookup m=none
 frame:∀{H H' b os rs F},B H b os rs F->(∀x o,H x=some o->F x->H' x=some o)->yW H H'->B H' b os rs F
 there:∀{H b os rs F x},B H b os rs F->F x->H x≠none
 bk:∀{H b os rs F},B H b os rs F->Bk os.length rs
 ord:∀{H b os rs F},B H b os rs F->Sg os
theorem Ut.same {C:Addr}{B:Hp->Addr->List Str->List Rm->wM->Prop}(L:Ut C B){H H':Hp}{b:Addr}{os:List Str}{rs:List Rm}{F:wM}(h:B H b os rs F)(g:Same H H'):B H' b os rs F :=
 L.frame h (fun x o e _=>g x o e) (yW.of g)
theorem Ut.fresh {C:Addr}{B:Hp->Addr->List Str->List Rm->wM->Prop}(L:Ut C B){H:Hp}{b x:Addr}{os:List Str}{rs:List Rm}{F:wM}(h:B H b os rs F)(e:H x=none):¬F x:=fun q=>L.there h q e
def zgJ (os:List Str)(r:Row):Str->Bool:=fun x=>r (ix os x)
section
variable (B:Hp->Addr->List Str->List Rm->wM->Prop)(K:Frag)(C:Addr)
inductive Ri (vs:List V)(H:Hp)(Q:VK)(E9:XK):Prop
 | mk (b dx l:Addr) (os:List Str) (_:vs=[.ref b,.ref l]) (_:H b=some (.ins C dx [])) (_:b≠dx) (_:zZ K H l (os.map V.str)) (_:Sg os) (_:∀(H':Hp) (F:wM),(∀x o,H x=some o->x≠b->H' x=some o)->B H' b os [none,none] F->(∀x,F x->x=b\/x=dx\/H x=none)->Q .non H'):Ri vs H Q E9
inductive tU (vs:List V)(H:Hp)(Q:VK)(E9:XK):Prop
 | mk (b:Addr) (os:List Str) (rs:List Rm) (F:wM) (_:vs=[.ref b]) (_:B H b os rs F) (_:∀(l:Addr) (H':Hp),Same H H'->H l=none->H' l=some (.lst (os.map V.str))->Q (.ref l) H'):tU vs H Q E9
end
end Za
namespace L2
open PySem PySem.Spec PyProof.Rows
theorem zfz:bootBuiltins "sorted"=some (.builtin "sorted"):=by decide +kernel
theorem zcB {κ:Type}[DecidableEq κ]{k:κ}:∀{kvs:List (κ×V)},(tG kvs k).isSome=decide (k∈kvs.map (·.1))
 | []=>rfl
 | p::r=>by
  by_cases e:p.1=k
  ·rw[wK e]
   exact(decide_eq_true (by rw[zrj,e];exact zre)).symm
  ·rw[wg e,zcB (kvs:=r)]
   congr 1
   rw[zrj,List.mem_cons]
   exact propext ⟨.inr,fun h=>h.elim (fun z=>absurd z.symm e) id⟩
end L2
namespace yc
open L2
structure Dfs (rs:List Rm)(k0:Nat)(ks ts:List Nat):Prop where
 nd:ks.Nodup
 r1:∀x∈ks,Reach rs k0 x
 r2:∀x∈ts,Reach rs k0 x
 st:k0∈ks\/k0∈ts
 cl:∀m i lo hi,m∈ks->rs[m]?=some (some (i,lo,hi))->(lo∈ks\/lo∈ts)/\(hi∈ks\/hi∈ts)
 len:ts.length<=1+2*ks.length
theorem Dfs.start (rs:List Rm)(k0:Nat):Dfs rs k0 [] [k0]:=⟨List.nodup_nil,fun x h=>by simp at h,fun x h=>by rw[List.mem_singleton.mp h];exact .refl _,.inr zre,fun m i lo hi h=>by simp at h,zra _⟩
theorem Nh {ks ts:List Nat}{x y:Nat}(hx:x∈ks)(h:y∈ks\/y∈ts++[x]):y∈ks\/y∈ts:=by
 rcases h with h | h
 ·exact .inl h
 ·rcases List.mem_append.mp h with h | h
  ·exact .inr h
  ·rw[List.mem_singleton.mp h];exact .inl hx
theorem Dfs.skip {rs:List Rm}{k0 x:Nat}{ks ts:List Nat}(D:Dfs rs k0 ks (ts++[x]))(hx:x∈ks):Dfs rs k0 ks ts :=
 ⟨D.nd,D.r1,fun y h=>D.r2 y (List.mem_append_left _ h),Nh hx D.st,fun m i lo hi h e=>⟨Nh hx (D.cl m i lo hi h e).1,Nh hx (D.cl m i lo hi h e).2⟩,by have:=D.len;rw[zq2] at this;omega⟩
theorem zeQ {ks:List Nat}{x:Nat}(h:ks.Nodup)(hx:x∉ks):(ks++[x]).Nodup:=by
 rw[List.nodup_append]
 refine⟨h,by simp,fun a ha b hb=>?_⟩
 rw[List.mem_singleton.mp hb]
 exact fun e=>hx (e ▸ ha)
theorem zdV {ks ts us:List Nat}{x y:Nat}(h:y∈ks\/y∈ts++[x]):y∈ks++[x]\/y∈ts++us:=by
 rcases h with h | h
 ·exact .inl (List.mem_append_left _ h)
 ·rcases List.mem_append.mp h with h | h
  ·exact .inr (List.mem_append_left _ h)
  ·exact .inl (zrb _ h)
theorem Dfs.add {rs:List Rm}{k0 x:Nat}{ks ts:List Nat}(us:List Nat)(D:Dfs rs k0 ks (ts++[x]))(hx:x∉ks)(h1:∀y∈us,Reach rs k0 y)(h2:∀i lo hi,rs[x]?=some (some (i,lo,hi))->lo∈us/\hi∈us)(h3:us.length<=2):Dfs rs k0 (ks++[x]) (ts++us):=by
 refine⟨zeQ D.nd hx,fun y h=>?_,fun y h=>?_,zdV D.st,fun m i lo hi h e=>?_,?_⟩
 ·rcases List.mem_append.mp h with h | h
  ·exact D.r1 y h
  ·exact D.r2 y (zrb _ h)
 ·rcases List.mem_append.mp h with h | h
  ·exact D.r2 y (List.mem_append_left _ h)
  ·exact h1 y h
 ·rcases List.mem_append.mp h with h | h
  ·exact⟨zdV (D.cl m i lo hi h e).1,zdV (D.cl m i lo hi h e).2⟩
  ·rw[List.mem_singleton.mp h] at e
   exact⟨.inr (zrb _ (h2 i lo hi e).1),.inr (zrb _ (h2 i lo hi e).2)⟩
 ·have:=D.len
  rw[zq2,zrs] at this
  rw[zq2,zq2,zrs]
  omega
theorem Dfs.node {rs:List Rm}{k0 x i lo hi:Nat}{ks ts:List Nat}(D:Dfs rs k0 ks (ts++[x]))(hx:x∉ks)(e:rs[x]?=some (some (i,lo,hi))):Dfs rs k0 (ks++[x]) (ts++[lo,hi]):=by
 have r:=(D.r2 x (zrb _ zre)).step e
 refine D.add [lo,hi] hx (fun y h=>?_) (fun i' lo' hi' e'=>?_) (zra _)
 ·simp at h
  rcases h with h | h<;>subst h
  ·exact r.1
  ·exact r.2
 ·rw[e] at e'
  cases e'
  exact⟨by simp,by simp⟩
theorem Dfs.done {rs:List Rm}{k0:Nat}{ks:List Nat}(D:Dfs rs k0 ks [])(j:Nat):j∈ks↔Reach rs k0 j:=by
 have no:∀y,(y∈ks\/y∈([]:List Nat))->y∈ks:=fun y h=>h.elim id (fun z=>by cases z)
 refine⟨D.r1 j,fun h=>?_⟩
 exact Reach.closed (S:=fun y=>y∈ks) (no _ D.st) (fun {m i lo hi} hm e=>⟨no _ (D.cl m i lo hi hm e).1,no _ (D.cl m i lo hi hm e).2⟩) h
theorem Dfs.room {n:Nat}{rs:List Rm}(B:Bk n rs){k0 x:Nat}{ks ts:List Nat}(D:Dfs rs k0 ks (ts++[x]))(h0:k0<rs.length)(hx:x∉ks):ks.length+1<=rs.length:=by
 have z:=sub_len (xs:=ks++[x]) (ys:=List.range rs.length) (zeQ D.nd hx) fun y h=>?_
 ·rw[zq2,zrc] at z;exact z
 ·rw[List.mem_range]
  rcases List.mem_append.mp h with h | h
  ·exact(D.r1 y h).lt B h0
  ·rw[List.mem_singleton.mp h]
   exact(D.r2 x (zrb _ zre)).lt B h0
structure YX (rs:List Rm)(k:Nat)(ms:List Int):Prop where
 up:ms.Pairwise (·<·)
 mem:∀x,x∈ms↔∃j:Nat,x=j/\Reach rs k j
theorem YX.of {rs:List Rm}{k:Nat}{ks:List Nat}{ms:List Int}(nd:ks.Nodup)(h:∀j,j∈ks↔Reach rs k j)(pm:ms.Perm (ks.map fun(n:Nat)=>(n:Int)))(up:ms.Pairwise (·<=·)):YX rs k ms:=by
 have nd':(ks.map fun(n:Nat)=>(n:Int)).Nodup:=by
  rw[List.Nodup,List.pairwise_map]
  exact nd.imp fun h e=>h (by omega)
 refine⟨Us up (pm.nodup_iff.mpr nd'),fun x=>?_⟩
 rw[pm.mem_iff,List.mem_map]
 exact⟨fun⟨j,hj,e⟩=>⟨j,e.symm,(h j).mp hj⟩,fun⟨j,e,hj⟩=>⟨j,(h j).mpr hj,e.symm⟩⟩
end yc
namespace yc
def Means (rs:List Rm)(k:Nat)(f:Row->Bool):Prop:=k<rs.length/\∀r,yes rs k r=f r
theorem Means.grown {n:Nat}{a b:List Rm}(B:Bk n a)(g:wL a b){k:Nat}{f:Row->Bool}(h:Means a k f):Means b k f:=⟨zq3 h.1 g.len,fun r=>by rw[g.yes B h.1];exact h.2 r⟩
theorem Means.eq {n:Nat}{rs:List Rm}(B:Bk n rs){i j:Nat}{f g:Row->Bool}(h:Means rs i f)(k:Means rs j g)(e:∀r,f r=g r):i=j:=uN B (max i j) i j ⟨Nat.le_max_left _ _,Nat.le_max_right _ _⟩ h.1 k.1 fun r=>by rw[h.2,k.2,e]
end yc
namespace L2
open PySem
theorem zgK {X:Cx}{all rest:List Stmt}{D:Ends}{Tf:TS->TS}{Pre:St->Hp->Prop}(Mid:St->Hp->Prop)(h1:∀t,PSs X rest t->PSs X all (Tf t))(h:∀u:TS,(∀ σ H,Mid σ H->u D σ H)->∀ σ H,Pre σ H->Tf u D σ H)
  (hr:∃t,PSs X rest t/\∀ σ H,Mid σ H->t D σ H):∃t,PSs X all t/\∀ σ H,Pre σ H->t D σ H :=
 let ⟨t,a,b⟩:=hr
 ⟨Tf t,h1 t a,h t b⟩
theorem zls {X:Cx}{all:List Stmt}{D:Ends}{σ:St}{H:Hp}(h:∃t,PSs X all t/\∀ σ' H',(σ'=σ/\H'=H)->t D σ' H'):∃t,PSs X all t/\t D σ H :=
 let ⟨t,a,b⟩:=h
 ⟨t,a,b _ _ ⟨rfl,rfl⟩⟩
end L2
namespace Za
open PySem L2 yc
def wd:Bool->Bool->Bool->Bool->Str
 | false,false,false,false => "0000"
 | false,false,false,true => "0001"
 | false,false,true,false => "0010"
 | false,false,true,true => "0011"
 | false,true,false,false => "0100"
 | false,true,false,true => "0101"
 | false,true,true,false => "0110"
 | false,true,true,true => "0111"
 | true,false,false,false => "1000"
 | true,false,false,true => "1001"
 | true,false,true,false => "1010"
 | true,false,true,true => "1011"
 | true,true,false,false => "1100"
 | true,true,false,true => "1101"
 | true,true,true,false => "1110"
 | true,true,true,true => "1111"
def jn (a b c d:Bool)(x y:Bool):Bool:=if x then (if y then d else c) else (if y then b else a)
end Za
namespace yc
open Za
def Qm (b:Nat):Row:=fun i=>b.testBit i
def bits (r:Row):Nat->Nat
 | 0=>0
 | n+1=>if r n then bits r n+2^n else bits r n
theorem v9 (r:Row):∀n,bits r n<2^n
 | 0=>Nat.zero_lt_one
 | n+1=>by
  have ih:=v9 r n
  unfold bits
  rw[Nat.pow_succ]
  split<;>omega
theorem Zj (r:Row):∀{n i:Nat},i<n->(bits r n).testBit i=r i
 | 0,i,h=>by omega
 | n+1,i,h=>by
  have lt:=v9 r n
  have z:(bits r n).testBit n=false:=Nat.testBit_lt_two_pow lt
  unfold bits
  by_cases e:i=n
  ·subst e
   cases hr:r i
   ·rw[if_neg zqY];exact z
   ·rw[if_pos rfl,wW,z];rfl
  ·have hi:i<n:=by omega
   split
   ·rw[Tn hi];exact Zj r hi
   ·exact Zj r hi
theorem Zk {n a b:Nat}(ha:a<2^n)(hb:b<2^n)(h:∀i,i<n->a.testBit i=b.testBit i):a=b :=
 Nat.eq_of_testBit_eq fun i=>by
  by_cases hi:i<n
  ·exact h i hi
  ·have:2^n<=2^i:=zrq (by decide) (by omega)
   rw[Nat.testBit_lt_two_pow (by omega),Nat.testBit_lt_two_pow (by omega)]
theorem zcC {r:Row}{n i:Nat}(hi:i<n)(v:Bool):bits (put r i v) n=zG (bits r n) i v:=by
 refine Zk (v9 _ _) (zO (v9 _ _) hi) fun j hj=>?_
 rw[Zj _ hj,zL,Zj _ hj]
 rfl
theorem Tv {n b:Nat}(h:b<2^n):bits (Qm b) n=b:=Zk (v9 _ _) h fun i hi=>by rw[Zj _ hi];rfl
theorem K5 {n:Nat}{rs:List Rm}(B:Bk n rs){k:Nat}(hk:k<rs.length)(r:Row):yes rs k (Qm (bits r n))=yes rs k r :=
 Xe B k k (zra _) hk fun i _ hi=>Zj r hi
theorem Tw {n N M:Nat}{f g:Nat->Bool}(h:zP n N f)(k:zP n M g)(e:∀b,b<2^n->f b=g b):N=M :=
 Nat.eq_of_testBit_eq fun i=>by
  rw[h i,k i]
  by_cases hi:i<2^n
  ·rw[e i hi]
  ·rw[decide_eq_false hi];rfl
theorem YZ {n N:Nat}{f:Nat->Bool}(h:zP n N f){b:Nat}(hb:b<2^n):N.testBit b=f b:=by rw[h b,decide_eq_true hb];rfl
def Free (n:Nat)(f:Nat->Bool)(p:Nat):Prop:=∀b,b<2^n->∀v,f (zG b p v)=f b
theorem yE (b p:Nat):zG b p (b.testBit p)=b:=by unfold zG;rw[if_pos rfl]
theorem Free.zii {n p:Nat}{f:Nat->Bool}(h:∀b,b<2^n->f (zG b p (!b.testBit p))=f b):Free n f p:=fun b hb v=>by
 by_cases e:v=b.testBit p
 ·rw[e,yE]
 ·have:v=!b.testBit p:=by cases v<;>cases hh:b.testBit p<;>simp_all
  rw[this];exact h b hb
theorem Yg {n:Nat}{f:Nat->Bool}(h:∀p,p<n->Free n f p):∀b,b<2^n->f b=f 0:=by
 have key:∀m b,m<=n->b<2^n->(∀i,m<=i->i<n->b.testBit i=false)->f b=f 0:=by
  intro m
  induction m with
  | zero =>
   intro b _ hb hz
   have:b=0:=Zk hb (Nat.two_pow_pos n) fun i hi=>by rw[hz i (zrh _) hi,Nat.zero_testBit]
   rw[this]
  | succ m ih =>
   intro b hm hb hz
   rw[<-h m (by omega) b hb false]
   refine ih _ (by omega) (zO hb (by omega)) fun i hi hin=>?_
   rw[zL]
   by_cases e:i=m
   ·rw[if_pos e]
   ·rw[if_neg e];exact hz i (by omega) hin
 exact fun b hb=>key n b (zra _) hb fun i hi hin=>by omega
theorem zj3 {n:Nat}{rs:List Rm}(B:Bk n rs){k p:Nat}(hk:k<rs.length)(hp:p<n)(h:∀i,i<=p->∀r v,yes rs k (put r i v)=yes rs k r):p<ZM n rs k:=by
 by_cases k2:2<=k
 ·obtain⟨i,lo,hi,e,hin,hlo,hhi,hne,l1,l2⟩:=B.rm k k2 hk
  rw[uI B e]
  by_cases hip:i<=p
  ·exfalso
   refine hne (uN B (max lo hi) lo hi ⟨Nat.le_max_left _ _,Nat.le_max_right _ _⟩ (by omega) (by omega) fun r=>?_)
   have z:=Xo B e hk r
   rw[<-z.1,<-z.2,h i hip,h i hip]
  ·omega
 ·have:k=0\/k=1:=by omega
  rcases this with z | z<;>subst z
  ·rw[Rh B];exact hp
  ·rw[Tt B];exact hp
theorem zgL {n m p k0 k1:Nat}{rs:List Rm}{f:Nat->Bool}(B:Bk n rs)(hp:p<n)(m0:k0<rs.length)(m1:k1<rs.length)
  (y0:∀r,yes rs k0 r=f (zG (bits r n) p false))(y1:∀r,yes rs k1 r=f (zG (bits r n) p true))(fr:∀i,i<p->Free n f i)
  (dep:∃b,b<2^n/\f (zG b p false)≠f (zG b p true))(old:∀j,j<m->¬∀r,yes rs j r=f (bits r n))(hl:∀j,m<=j->j<rs.length->p<ZM n rs j) :
  Bk n (rs++[some (p,k0,k1)])/\∀r,yes (rs++[some (p,k0,k1)]) rs.length r=f (bits r n):=by
 have pb:∀(r:Row) v,zG (bits r n) p v<2^n:=fun r v=>zO (v9 _ _) hp
 have low:∀(k:Nat) (w:Bool),k<rs.length->(∀r,yes rs k r=f (zG (bits r n) p w))->p<ZM n rs k:=fun k w hk hy=>zj3 B hk hp fun i hi r v=>by
  rw[hy,hy,zcC (by omega)]
  by_cases e:i=p
  ·subst e
   congr 1
   refine Zk (zO (zO (v9 _ _) hp) hp) (pb r w) fun j _=>?_
   rw[zL,zL,zL]
   by_cases e:j=i
   ·rw[if_pos e,if_pos e]
   ·rw[if_neg e,if_neg e,if_neg e]
  ·rw[<-fr i (by omega) _ (pb r w) v]
   congr 1
   refine Zk (zO (zO (v9 _ _) (by omega)) hp) (zO (pb r w) (by omega)) fun j _=>?_
   rw[zL,zL,zL,zL]
   by_cases e1:j=p
   ·rw[if_pos e1,if_pos e1,if_neg (by omega)]
   ·rw[if_neg e1,if_neg e1]
 have ne:k0≠k1:=fun e=>by
  subst e
  obtain⟨b,hb,hne⟩:=dep
  refine hne ?_
  have a:=y0 (Qm b)
  have c:=y1 (Qm b)
  rw[Tv hb] at a c
  exact a.symm.trans c
 have fin:∀(R:List Rm) (k:Nat),Bk n R->R[k]?=some (some (p,k0,k1))->(∀j,j<rs.length->∀r,yes R j r=yes rs j r)->∀r,yes R k r=f (bits r n):=fun R k BR e same r=>by
  rw[Xn BR e,same _ m1,same _ m0,y0,y1]
  have hb:=Zj r hp
  cases hr:r p
  ·rw[if_neg zqY]
   rw[hr] at hb
   conv=>rhs;rw[<-yE (bits r n) p,hb]
  ·rw[if_pos rfl]
   rw[hr] at hb
   conv=>rhs;rw[<-yE (bits r n) p,hb]
 have new:some (p,k0,k1)∉rs:=fun h=>by
  obtain⟨j,hj,e⟩:=zrA h
  have e':rs[j]?=some (some (p,k0,k1)):=by rw[zqV hj,e]
  by_cases hm:j<m
  ·exact old j hm (fin rs j B e' fun _ _ _=>rfl)
  ·have:=hl j (by omega) hj
   rw[uI B e'] at this
   omega
 have B':=B.snoc hp m0 m1 ne (low k0 false m0 y0) (low k1 true m1 y1) new
 refine⟨B',fin _ _ B' (by simp) fun j hj r=>?_⟩
 exact zcA B hj r
structure zcD (n:Nat)(rs:List Rm)(ts:List Nat):Prop where
 len:ts.length=rs.length
 tab:∀(j t:Nat),ts[j]?=some t->zP n t (fun b=>yes rs j (Qm b))
theorem zcD.snoc {n:Nat}{rs:List Rm}(B:Bk n rs){ts:List Nat}{x:Rm}{t:Nat}(h:zcD n rs ts)(k:zP n t (fun b=>yes (rs++[x]) rs.length (Qm b))):zcD n (rs++[x]) (ts++[t]):=by
 refine⟨by rw[zq2,zq2,h.len];rfl,fun j u e=>?_⟩
 by_cases hj:j<ts.length
 ·rw[zrr hj] at e
  refine zV (h.tab j u e) fun b _=>?_
  rw[zcA B (by rw[<-h.len];exact hj)]
 ·have lt:=(zqX.mp e).1
  rw[zq2,zrs] at lt
  have ej:j=ts.length:=by omega
  subst ej
  simp at e
  subst e
  rw[h.len]
  exact k
theorem zcD.find {n:Nat}{rs:List Rm}(B:Bk n rs){ts:List Nat}(h:zcD n rs ts){j t:Nat}{f:Nat->Bool}(e:ts[j]?=some t)(tb:zP n t f)(r:Row):yes rs j r=f (bits r n):=by
 have hj:j<rs.length:=by rw[<-h.len];exact(zqX.mp e).1
 rw[<-K5 B hj,<-YZ tb (v9 r n),YZ (h.tab j t e) (v9 r n)]
theorem zcD.same {n:Nat}{rs:List Rm}{ts:List Nat}(h:zcD n rs ts){j t:Nat}{f:Nat->Bool}(hj:j<rs.length)(tb:zP n t f)(hy:∀r,yes rs j r=f (bits r n)):ts[j]?=some t:=by
 have lt:j<ts.length:=by rw[h.len];exact hj
 rw[zqV lt]
 congr 1
 refine Tw (h.tab j _ (zqV lt)) tb fun b hb=>?_
 show yes rs j (Qm b)=f b
 rw[hy,Tv hb]
end yc
namespace Za
open PySem L2 yc
structure Nums (ts:List Nat)(kvs:List (Key×V)):Prop where
 get:∀(j t:Nat),ts[j]?=some t->tG kvs (Sum.inl (t:Int))=some (.int (j:Nat))
 non:∀t:Nat,t∉ts->tG kvs (Sum.inl (t:Int))=none
 len:kvs.length<=ts.length
theorem Nums.snoc {ts:List Nat}{kvs:List (Key×V)}(h:Nums ts kvs){t:Nat}(ht:t∉ts):Nums (ts++[t]) (putK kvs (Sum.inl (t:Int)) (.int (ts.length:Nat))):=by
 refine⟨fun j u e=>?_,fun u hu=>?_,?_⟩
 ·rw[K1]
  by_cases hj:j<ts.length
  ·rw[zrr hj] at e
   have hm:=zqZ e
   rw[if_neg fun z=>?_]
   ·exact h.get j u e
   ·have:(u:Int)=(t:Int):=Sum.inl.inj z
    have:u=t:=by omega
    exact ht (this ▸ hm)
  ·have lt:=(zqX.mp e).1
   rw[zq2,zrs] at lt
   have ej:j=ts.length:=by omega
   subst ej
   simp at e
   subst e
   rw[if_pos rfl]
 ·rw[K1,if_neg fun z=>?_]
  ·exact h.non u fun z=>hu (List.mem_append_left _ z)
  ·have:(u:Int)=(t:Int):=Sum.inl.inj z
   have:u=t:=by omega
   exact hu (this ▸ zrb _ zre)
 ·have:=X3 kvs (Sum.inl (t:Int)) (.int (ts.length:Nat))
  have:=h.len
  rw[zq2,zrs]
  omega
def zlt (n j:Nat):Rm->List V
 | none=>[.int (n:Nat),.int (j:Nat),.int (j:Nat)]
 | some (i,lo,hi)=>[.int (i:Nat),.int (lo:Nat),.int (hi:Nat)]
def Vo (j:Nat)(x:Rm)(v:Bool):Nat:=match x with
 | none=>j
 | some (_,lo,hi)=>if v then hi else lo
def Ni (ml rl tl nd:Addr):List (Str×V):=[("marks", .ref ml),("rooms", .ref rl),("tables", .ref tl),("numbers", .ref nd)]
structure Parts (C:Addr)(H:Hp)(b:Addr)(os:List Str)(rs:List Rm)(F:wM)(dx ml rl tl nd:Addr)(rv:List V)(ts:List Nat)(kvs:List (Key×V)):Prop where
 hb:H b=some (.ins C dx (Ni ml rl tl nd))
 hm:H ml=some (.lst (os.map V.str))
 hr:H rl=some (.lst rv)
 ht:H tl=some (.lst (ts.map fun t=>V.int (t:Nat)))
 hd:H nd=some (.dK kvs)
 mr:ml≠rl
 mt:ml≠tl
 rt:rl≠tl
 ord:Sg os
 bk:Bk os.length rs
 len:rv.length=rs.length
 rm:∀(j:Nat) x,rs[j]?=some x->∃p,rv[j]?=some (.ref p)/\H p=some (.tup (zlt os.length j x))
 tabs:zcD os.length rs ts
 nums:Nums ts kvs
 ft:∀x,F x↔(x=b\/x=ml\/x=rl\/x=tl\/x=nd)
def yu (C:Addr)(H:Hp)(b:Addr)(os:List Str)(rs:List Rm)(F:wM):Prop:=∃dx ml rl tl nd rv ts kvs,Parts C H b os rs F dx ml rl tl nd rv ts kvs
theorem Parts.frame {C:Addr}{H H':Hp}{b:Addr}{os:List Str}{rs:List Rm}{F:wM}{dx ml rl tl nd:Addr}{rv:List V}{ts:List Nat}{kvs:List (Key×V)}(h:Parts C H b os rs F dx ml rl tl nd rv ts kvs)
  (s:∀x o,H x=some o->F x->H' x=some o)(t:yW H H'):Parts C H' b os rs F dx ml rl tl nd rv ts kvs :=
 {h with
  hb:=s _ _ h.hb ((h.ft _).mpr (.inl rfl))
  hm:=s _ _ h.hm ((h.ft _).mpr (.inr (.inl rfl)))
  hr:=s _ _ h.hr ((h.ft _).mpr (.inr (.inr (.inl rfl))))
  ht:=s _ _ h.ht ((h.ft _).mpr (.inr (.inr (.inr (.inl rfl)))))
  hd:=s _ _ h.hd ((h.ft _).mpr (.inr (.inr (.inr (.inr rfl)))))
  rm:=fun j x e=>let ⟨p,a,c⟩:=h.rm j x e;⟨p,a,t _ _ c⟩ }
theorem wj (C:Addr):Ut C (yu C) where
 ins:=fun⟨dx,ml,rl,tl,nd,rv,ts,kvs,h⟩=>⟨dx,_,h.hb,fun m hm=>by
  simp only[zaN,List.mem_cons,zrl,or_false] at hm
  rcases hm with z | z | z | z | z | z<;>subst z<;>rfl⟩
 frame:=fun⟨dx,ml,rl,tl,nd,rv,ts,kvs,h⟩ s t=>⟨dx,ml,rl,tl,nd,rv,ts,kvs,h.frame s t⟩
 there:=fun⟨dx,ml,rl,tl,nd,rv,ts,kvs,h⟩ hx=>by
  rcases (h.ft _).mp hx with z | z | z | z | z<;>subst z
  ·rw[h.hb];exact fun z=>by cases z
  ·rw[h.hm];exact fun z=>by cases z
  ·rw[h.hr];exact fun z=>by cases z
  ·rw[h.ht];exact fun z=>by cases z
  ·rw[h.hd];exact fun z=>by cases z
 bk:=fun⟨_,_,_,_,_,_,_,_,h⟩=>h.bk
 ord:=fun⟨_,_,_,_,_,_,_,_,h⟩=>h.ord
theorem Parts.more {C:Addr}{H H':Hp}{b:Addr}{os:List Str}{rs:List Rm}{F:wM}{dx ml rl tl nd:Addr}{rv:List V}{ts:List Nat}{kvs:List (Key×V)}(h:Parts C H b os rs F dx ml rl tl nd rv ts kvs)
  {i lo hi t:Nat}{q:Addr}(t':yW H H')(hb:H' b=H b)(hm:H' ml=H ml)(hr:H' rl=some (.lst (rv++[.ref q])))(ht:H' tl=some (.lst (ts.map (fun t=>V.int (t:Nat))++[.int (t:Nat)])))
  (hd:H' nd=some (.dK (putK kvs (Sum.inl (t:Int)) (.int (rs.length:Nat)))))(hq:H' q=some (.tup [.int (i:Nat),.int (lo:Nat),.int (hi:Nat)]))(B':Bk os.length (rs++[some (i,lo,hi)]))(hn:t∉ts)(tb:zP os.length t (fun b=>yes (rs++[some (i,lo,hi)]) rs.length (Qm b))) :
  Parts C H' b os (rs++[some (i,lo,hi)]) F dx ml rl tl nd (rv++[.ref q]) (ts++[t]) (putK kvs (Sum.inl (t:Int)) (.int (rs.length:Nat))) :=
 {hb:=by rw[hb];exact h.hb
  hm:=by rw[hm];exact h.hm
  hr:=hr
  ht:=by rw[ht,zq8];rfl
  hd:=hd
  mr:=h.mr
  mt:=h.mt
  rt:=h.rt
  ord:=h.ord
  bk:=B'
  len:=by rw[zq2,zq2,h.len];rfl
  rm:=fun j x e=>by
   by_cases hj:j<rs.length
   ·rw[zrr hj] at e
    obtain⟨p,a,c⟩:=h.rm j x e
    exact⟨p,by rw[zrr (by rw[h.len];exact hj)];exact a,t' _ _ c⟩
   ·have lt:=(zqX.mp e).1
    rw[zq2,zrs] at lt
    have ej:j=rs.length:=by omega
    subst ej
    simp at e
    subst e
    exact⟨q,by rw[<-h.len];simp,hq⟩
  tabs:=h.tabs.snoc h.bk tb
  nums:=by
   have z:=h.nums.snoc hn
   rw[h.tabs.len] at z
   exact z
  ft:=h.ft }
inductive Xp (vs:List V)(H:Hp)(Q:VK)(E9:XK):Prop
 | mk (N p n:Nat) (v:Bool) (f:Nat->Bool) (_:vs=[.int N,.int p,.int (v.toNat:Nat),.int n]) (_:p<n) (_:n<=8) (_:zP n N f) (_:∀R:Nat,zP n R (fun b=>f (zG b p v))->Q (.int R) H):Xp vs H Q E9
inductive LK (vs:List V)(H:Hp)(Q:VK)(E9:XK):Prop
 | mk (N n:Nat) (f:Nat->Bool) (_:vs=[.int N,.int n]) (_:n<=8) (_:zP n N f) (_:∀p:Nat,p<=n->(∀i,i<p->Free n f i)->(p<n->∃b,b<2^n/\f (zG b p false)≠f (zG b p true))->Q (.int p) H):LK vs H Q E9
inductive vO (C:Addr)(vs:List V)(H:Hp)(Q:VK)(E9:XK):Prop
 | mk (b:Addr) (os:List Str) (rs:List Rm) (F:wM) (k:Nat) (_:vs=[.ref b,.int k]) (_:yu C H b os rs F) (_:k<rs.length) (_:Q .non H):vO C vs H Q E9
inductive Tz (C:Addr)(vs:List V)(H:Hp)(Q:VK)(E9:XK):Prop
 | mk (b:Addr) (os:List Str) (rs:List Rm) (F:wM) (k:Nat) (_:vs=[.ref b,.int k]) (_:yu C H b os rs F) (_:k<rs.length) (_:Q (.int (ZM os.length rs k:Nat)) H):Tz C vs H Q E9
inductive Qn (C:Addr)(vs:List V)(H:Hp)(Q:VK)(E9:XK):Prop
 | mk (b:Addr) (os:List Str) (rs:List Rm) (F:wM) (k:Nat) (x:Rm) (v:Bool) (_:vs=[.ref b,.int k,.int (v.toNat:Nat)]) (_:yu C H b os rs F) (_:rs[k]?=some x) (_:Q (.int (Vo k x v:Nat)) H):Qn C vs H Q E9
inductive Xf (C:Addr)(vs:List V)(H:Hp)(Q:VK)(E9:XK):Prop
 | mk (b:Addr) (os:List Str) (rs:List Rm) (F:wM) (k:Nat) (_:vs=[.ref b,.int k]) (_:yu C H b os rs F) (_:k<rs.length) (_:∀t:Nat,zP os.length t (fun b=>yes rs k (Qm b))->Q (.int t) H):Xf C vs H Q E9
inductive zbw (vs:List V)(H:Hp)(Q:VK)(E9:XK):Prop
 | mk (N p n:Nat) (f:Nat->Bool) (_:vs=[.int N,.int p,.int n]) (_:p<n) (_:n<=8) (_:zP n N f) (_:∀b:Bool,(b=false->Free n f p)->(b=true->∃c,c<2^n/\f (zG c p false)≠f (zG c p true))->Q (.bl b) H):zbw vs H Q E9
inductive WY (vs:List V)(H:Hp)(Q:VK)(E9:XK):Prop
 | mk (N M n:Nat) (f g:Nat->Bool) (_:vs=[.int N,.int M]) (_:zP n N f) (_:zP n M g) (_:∀R:Nat,zP n R (fun b=>f b&&!g b)->Q (.int R) H):WY vs H Q E9
end Za
namespace L2
open PySem PySem.Spec PyProof.Rows
def Its (x:Str):It:={ go:=fun i _=>i<x.cps.size,Pj:=fun i H v H'=>H'=H/\∃c,x.cps[i]?=some c/\v=.str ⟨#[c]⟩,stop:=fun i _=>i=x.cps.size }
theorem zgM {P:Program}{w:World}{K:Frag}{tg:Expr}(it:Addr)(x:Str)(t:Tok):Turn P w K tg (Its x) [it] it (fun i h=>h.IsStrIter it "str_ascii_iterator" x t i) where
 mem:=by simp
 obj:=fun i h st b hb=>by
  have e:b=it:=by simpa using hb
  subst e
  obtain⟨o,e,c,d⟩:=st
  exact⟨o,e,fun v z=>by rw[d] at z;cases z⟩
 keep:=fun i h h' st k=>by
  obtain⟨o,e,c,d⟩:=st
  exact⟨o,k it (by simp) o e,c,d⟩
 item:=by
  intro X hP hw hK hc i pins s σ H E I hf st hg
  subst hP hw hK
  obtain⟨f0,f1,f2,f3,f4,f5⟩:=hf it (by simp)
  have W:=Walks.strAscii (prog:=X.prog) (w:=X.w) (I.ok.hd hc) it x t
  refine W.item i s _ _ hg st fun v h' tk hv st' kk=>?_
  obtain⟨c,u,hc',rfl⟩:=hv
  have I1:Inv X pins σ H { s with heap:=h',toks:=tk }:=I.turned (fun b o hb e=>kk b o (by simpa using hb) e) f0 f1 f3 f4 f5
  obtain⟨o,e,cc,d⟩:=id st'
  exact⟨_,rfl,zcc (s:={ s with heap:=h',toks:=tk }) e cc d (by decide) ⟨.str ⟨#[c]⟩,H,I1,⟨u,rfl⟩,⟨rfl,c,hc',rfl⟩,st',fun b hb=>(hf b hb).1⟩⟩
 done:=by
  intro X hP hw hK hc i pins s σ H E I hf st hg
  subst hP hw hK
  obtain⟨f0,f1,f2,f3,f4,f5⟩:=hf it (by simp)
  have W:=Walks.strAscii (prog:=X.prog) (w:=X.w) (I.ok.hd hc) it x t
  have e:i=x.cps.size:=hg
  subst e
  exact W.done s _ _ st fun h' tk kk=>⟨rfl,I.turned (fun b o hb e=>kk b o (by simpa using hb) e) f0 f1 f3 f4 f5⟩
 self:=fun _ _ _ _ _ st h=>wpAny_pyIter_striter_ascii st h
section
variable {X:Cx}{tg:Expr}
def znk (tl:TE):TI:=fun σ H R=>tl σ H fun x H1=>∃z:Str,x=.str z/\(z.cps.all fun c=>decide (c<128))=true/\R (Its z) H1
theorem zj4 {l:Expr}{tl:TE}(hl:PE X l tl):PI X tg l (znk tl):=by
 intro pins s σ H R I h
 refine wC (hl pins s σ H _ I h) fun v s1 ⟨x,H1,I1,r1,q1⟩=>?_
 obtain⟨z,e,ha,q⟩:=q1
 subst e
 obtain⟨t,rfl⟩:=r1
 refine wpAny_pyIter_ascii ha ?_
 refine⟨s1.heap.objs.size,[s1.heap.objs.size],_,_,H1,rfl,I1.kept (t':=s1.toks) fun b o e=>zq0 _ e,zgM _ z t,⟨_,zrf _ rfl,rfl,rfl⟩,fun b hb=>?_,q⟩
 have e:b=s1.heap.objs.size:=by simpa using hb
 subst e
 exact I1.zcb (zra _) (I1.hok.fresh (zra _))
end
section
variable {x:Str}{σ:St}{js:List Nat}{te:TE}{H:Hp}{Qf:Addr->Hp->List V->Prop}
theorem zj5 (f:Nat->V)(hz:x.cps.size<=sizeLine)
  (hs:∀(i:Nat) c H',x.cps[i]?=some c->Same H H'->te (YM σ js (some (.str ⟨#[c]⟩))) H' fun v H3=>v=f i/\Same H H3)
  (me:∀ σ H Q Q',(∀v H1,Q v H1->Q' v H1)->te σ H Q->te σ H Q')
  (hd:∀H' p,Same H H'->H' p=none->Qf p H' ((List.range x.cps.size).map f)) :
  ∃W:Nat->Nat->List V->Hp->Prop,(∃m,W 0 m [] H)/\∀i m ys H,W i m ys H ->
   ((Its x).stop i H/\∀p,H p=none->Qf p H ys) \/
   ((Its x).go i H/\ys.length<sizeLine/\∀v H',(Its x).Pj i H v H'->Le (YM σ js (some v)) H' fun b H2 =>
    if b=true then te (YM σ js (some v)) H2 fun v H3=>∃m',m'<m/\W (i+1) m' (ys++[v]) H3 else ∃m',m'<m/\W (i+1) m' ys H2):=by
 refine⟨fun i m ys H'=>m=x.cps.size-i/\i<=x.cps.size/\Same H H'/\ys=(List.range i).map f,⟨_,rfl,zrh _,Same.refl _,rfl⟩,?_⟩
 rintro i m ys H1 ⟨rfl,hi,g,rfl⟩
 by_cases hlt:i<x.cps.size
 ·refine .inr ⟨hlt,by rw[zqU,zrc];omega,fun v H' y=>?_⟩
  obtain⟨rfl,c,hc,rfl⟩:=y
  show te (YM σ js (some (.str ⟨#[c]⟩))) _ _
  refine me _ _ _ _ (fun v H3 h3=>⟨_,by omega,rfl,hlt,h3.2,?_⟩) (hs i c _ hc g)
  rw[h3.1,List.range_succ,zq8];rfl
 ·have e:i=x.cps.size:=by omega
  subst e
  exact .inl ⟨rfl,fun p hp=>hd H1 p g hp⟩
end
end L2
namespace Za
open PySem L2 yc
def chc (b:Bool):Nat:=if b then 49 else 48
theorem Rj (c0 c1 c2 c3:Bool):(wd c0 c1 c2 c3).cps=#[chc c0,chc c1,chc c2,chc c3]:=by
 cases c0<;>cases c1<;>cases c2<;>cases c3<;>rfl
theorem zgN (c0 c1 c2 c3:Bool):(wd c0 c1 c2 c3).length=4:=by unfold Str.length;rw[Rj];rfl
theorem zj6 (b:Bool):inV (.str ⟨#[chc b]⟩) [.str "0", .str "1"]=true:=by cases b<;>decide +kernel
theorem zbx (b:Bool):decide (V.str ⟨#[chc b]⟩=V.str "1")=b:=by cases b<;>decide +kernel
theorem zgO (c0 c1 c2 c3:Bool):((wd c0 c1 c2 c3).cps.all fun c=>decide (c<128))=true:=by
 cases c0<;>cases c1<;>cases c2<;>cases c3<;>decide +kernel
theorem zj7 {c0 c1 c2 c3:Bool}{i c:Nat}(h:(wd c0 c1 c2 c3).cps[i]?=some c):∃b,c=chc b:=by
 rw[Rj] at h
 have hi:i<4:=by
  have:=(Array.getElem?_eq_some_iff.mp h).1
  exact this
 match i,hi with
 | 0,_=>exact⟨c0,(zrp h).symm⟩
 | 1,_=>exact⟨c1,(zrp h).symm⟩
 | 2,_=>exact⟨c2,(zrp h).symm⟩
 | 3,_=>exact⟨c3,(zrp h).symm⟩
theorem zj8 (c0 c1 c2 c3:Bool):atI (wd c0 c1 c2 c3).cps.toList 0=some (chc c0):=by rw[Rj];rfl
theorem zj9 (c0 c1 c2 c3:Bool):atI (wd c0 c1 c2 c3).cps.toList 1=some (chc c1):=by rw[Rj];rfl
theorem zka (c0 c1 c2 c3:Bool):atI (wd c0 c1 c2 c3).cps.toList 2=some (chc c2):=by rw[Rj];rfl
theorem zkb (c0 c1 c2 c3:Bool):atI (wd c0 c1 c2 c3).cps.toList 3=some (chc c3):=by rw[Rj];rfl
inductive Vp (vs:List V)(H:Hp)(Q:VK)(E9:XK):Prop
 | mk (c0 c1 c2 c3:Bool) (_:vs=[.str (wd c0 c1 c2 c3)]) (_:∀H',Same H H'->Q .non H'):Vp vs H Q E9
inductive Vq (vs:List V)(H:Hp)(Q:VK)(E9:XK):Prop
 | mk (c0 c1 c2 c3:Bool) (N M E n:Nat) (f g:Nat->Bool) (_:vs=[.str (wd c0 c1 c2 c3),.int N,.int M,.int E]) (_:zP n N f) (_:zP n M g) (_:zP n E (fun _=>true)) (_:∀R:Nat,zP n R (fun b=>jn c0 c1 c2 c3 (f b) (g b))->Q (.int R) H):Vq vs H Q E9
theorem zdW {n:Nat}{rs:List Rm}(B:Bk n rs){k:Nat}{f:Row->Bool}(h:Means rs k f)(r:Row):yes rs k (Qm (bits r n))=f r:=(K5 B h.1 r).trans (h.2 r)
end Za
namespace yc
open Za
def allR:Nat->List (List Bool)
 | 0=>[[]]
 | n+1=>(allR n).flatMap fun r=>[r++[false],r++[true]]
def Uu (r:List Bool):Row:=fun i=>r.getD i false
theorem Qo:∀(n:Nat) (r:List Bool),r∈allR n->r.length=n
 | 0,r,h=>by
  have:r=[]:=by simpa [allR] using h
  rw[this];rfl
 | n+1,r,h=>by
  obtain⟨x,hx,hr⟩:=List.mem_flatMap.mp h
  have ih:=Qo n x hx
  simp at hr
  rcases hr with z | z<;>rw[z,zq2,ih]<;>rfl
def Lg (rs:List Rm)(k p:Nat)(v:Bool):Nat:=match rs[k]? with
 | some (some (i,lo,hi))=>if i=p then (if v then hi else lo) else k
 | _=>k
def wk (rs:List Rm)(k:Nat)(r:Row):Nat->Nat
 | 0=>k
 | i+1=>Lg rs (wk rs k r i) i (r i)
section
variable {n:Nat}{rs:List Rm}(B:Bk n rs)
include B
theorem zgP {k p:Nat}{v:Bool}(h:k<=1):Lg rs k p v=k:=by
 unfold Lg
 have:k=0\/k=1:=by omega
 rcases this with z | z<;>subst z
 ·rw[B.h0]
 ·rw[B.h1]
theorem zij {m i:Nat}{r:Row}(hm:m<rs.length)(hi:i<n)(hl:i<=ZM n rs m):Lg rs m i (r i)<rs.length/\i+1<=ZM n rs (Lg rs m i (r i))/\yes rs (Lg rs m i (r i)) r=yes rs m r:=by
 by_cases h2:2<=m
 ·obtain⟨j,lo,hi',e,hjn,hlo,hhi,hne,l1,l2⟩:=B.rm m h2 hm
  have lk:=uI B e
  have ys:=Xn B e r
  unfold Lg
  rw[e]
  by_cases ej:j=i
  ·subst ej
   show(if j=j then (if r j then hi' else lo) else m)<rs.length/\j+1<=ZM n rs (if j=j then (if r j then hi' else lo) else m)/\yes rs (if j=j then (if r j then hi' else lo) else m) r=yes rs m r
   rw[if_pos rfl]
   cases hr:r j
   ·rw[hr] at ys
    exact⟨by show lo<rs.length;omega,l1,ys.symm⟩
   ·rw[hr] at ys
    exact⟨by show hi'<rs.length;omega,l2,ys.symm⟩
  ·show(if j=i then (if r i then hi' else lo) else m)<rs.length/\i+1<=ZM n rs (if j=i then (if r i then hi' else lo) else m)/\yes rs (if j=i then (if r i then hi' else lo) else m) r=yes rs m r
   rw[if_neg ej]
   exact⟨hm,by omega,rfl⟩
 ·rw[zgP B (by omega)]
  refine⟨hm,?_,rfl⟩
  have:m=0\/m=1:=by omega
  rcases this with z | z<;>subst z
  ·rw[Rh B];exact hi
  ·rw[Tt B];exact hi
theorem zby {k:Nat}(hk:k<rs.length)(r:Row):∀i,i<=n->wk rs k r i<rs.length/\i<=ZM n rs (wk rs k r i)/\yes rs (wk rs k r i) r=yes rs k r
 | 0,_=>⟨hk,zrh _,rfl⟩
 | i+1,hi=>by
  obtain⟨a,b,c⟩:=zby hk r i (by omega)
  obtain⟨a',b',c'⟩:=zij B (r:=r) a hi b
  exact⟨a',b',c'.trans c⟩
theorem zkc {k:Nat}(hk:k<rs.length)(r:Row):(wk rs k r n != 0)=yes rs k r:=by
 obtain⟨a,b,c⟩:=zby B hk r n (zra _)
 rw[<-c]
 by_cases h2:2<=wk rs k r n
 ·exfalso
  obtain⟨j,lo,hi,e,hjn,_⟩:=B.rm _ h2 a
  rw[uI B e] at b
  omega
 ·have:wk rs k r n=0\/wk rs k r n=1:=by omega
  rcases this with z | z<;>rw[z]
  ·rfl
  ·rw[Zg B];rfl
end
end yc
namespace L2
open PySem PySem.Spec PyProof.Rows
theorem Inv.zik {X:Cx}{pins:List (Addr×Obj)}{σ:St}{H:Hp}{s:Shared}{h':Heap}{t':Nat}{fp:List Addr}(I:Inv X pins σ H s)(k:∀b o,b∉fp->s.heap.get? b=some o->h'.get? b=some o)(hf:∀b∈fp,JX X pins H b) :
  Inv X pins σ H { s with heap:=h',toks:=t' }:=by
 have nit:∀b u,H b=some u->b∉fp:=fun b u e z=>by rw[(hf b z).1] at e;cases e
 refine I.step (g':=s.gens) (d':=s.drawn) (ch:=fp) (fun b hb=>⟨(hf b hb).2.2.2.1,(hf b hb).2.1,(hf b hb).2.2.2.2.1,(hf b hb).2.2.2.2.2⟩) (fun b o _ _ hc e _=>k b o hc e) (fun b o _ _ hc e _=>⟨o.slots,k b o hc e⟩) (fun _ _ _ _ n=>n)
  (fun b o hc e=>⟨o,k b o hc e⟩) (fun _ _ e=>e) (fun _ _ _ e=>e) (fun b ps e=>⟨#[],by rw[e];simp⟩) (fun m hm=>?_) (fun b u e=>?_) I.bare
 ·obtain⟨o,es,ep,ho,r⟩:=hm
  exact⟨o,es,ep,k _ o (fun z=>(hf _ z).2.1 rfl) ho,r⟩
 ·refine(I.hok b u e).stay (fun c v hc q=>k c v ?_ q) (fun _ q=>q) fun _ _ q=>q
  rcases hc with z | z
  ·rw[z];exact nit b u e
  ·exact nit c _ z
def Itz (K:Frag)(a b:Addr):It :=
 {go:=fun i H=>∃xs ys x y,zZ K H a xs/\zZ K H b ys/\xs[i]?=some x/\ys[i]?=some y
  Pj:=fun i H v H'=>∃q x y,(∀xs,zZ K H a xs->xs[i]?=some x)/\(∀ys,zZ K H b ys->ys[i]?=some y)/\v=.ref q/\H q=none/\H'=upd H q (.tup [x,y])
  stop:=fun i H=>∃xs ys,zZ K H a xs/\zZ K H b ys/\(xs.length<=i\/ys.length<=i) }
theorem zgQ {P:Program}{w:World}{K:Frag}{els:List Expr}{x1}{pt:Pos}(a b z ti to i1 i2:Addr)(D:ZipApart z ti to i1 i2 a b):Turn P w K (.Tuple els x1 pt) (Itz K a b) [z,ti,to,i1,i2] z
  (fun i h=>IsZip h z ti to .none/\IsPair h ti (.ref i1) (.ref i2)/\(∃u v,IsPair h to u v)/\h.IsListIter i1 a i/\h.IsListIter i2 b i) where
 mem:=by simp
 obj:=fun i h st c hc=>by
  obtain⟨q1,q2,⟨u,v,q3⟩,⟨o4,q4,c4,d4⟩,⟨o5,q5,c5,d5⟩⟩:=st
  simp only[List.mem_cons,zrl,or_false] at hc
  rcases hc with e | e | e | e | e<;>subst e
  ·exact⟨_,q1,fun v hv=>by cases hv⟩
  ·exact⟨_,q2,fun v hv=>by cases hv⟩
  ·exact⟨_,q3,fun v hv=>by cases hv⟩
  ·exact⟨_,q4,fun v hv=>by rw[d4] at hv;cases hv⟩
  ·exact⟨_,q5,fun v hv=>by rw[d5] at hv;cases hv⟩
 keep:=fun i h h' st k=>by
  obtain⟨q1,q2,⟨u,v,q3⟩,q4,q5⟩:=st
  exact⟨k z (by simp) _ q1,k ti (by simp) _ q2,⟨u,v,k to (by simp) _ q3⟩,q4.at fun o e=>k i1 (by simp) o e,q5.at fun o e=>k i2 (by simp) o e⟩
 item:=by
  intro X hP hw hK hc i pins s σ H E I hf st hg
  subst hP hw hK
  obtain⟨xs,ys,x,y,hq1,hq2,hx,hy⟩:=hg
  obtain⟨q1,q2,⟨u0,v0,q3⟩,q4,q5⟩:=st
  obtain⟨zdX,rv1,pl1,hz1⟩:=I.list hq1
  obtain⟨its2,rv2,pl2,hz2⟩:=I.list hq2
  obtain⟨u,hu,ru⟩:=rv1.get hx
  obtain⟨v,hv,rv⟩:=rv2.get hy
  refine wpAny_pyNext_zip_item D q1 q2 q3 q4 q5 pl1.isList pl2.isList (x:=u) (y:=v) (by simpa using hu) (by simpa using hv) fun h1 out pto it1 it2 tup sz k1=>?_
  refine⟨.ref s.heap.objs.size,rfl,wpAny_letOwnedTupleGo_zip out fun h2 he2 sb=>?_⟩
  have ltz:=zq1 q1
  have ltf:∀c∈[z,ti,to,i1,i2],c<s.heap.objs.size:=fun c hc=>by
   simp only[List.mem_cons,zrl,or_false] at hc
   rcases hc with e | e | e | e | e<;>subst e
   ·exact ltz
   ·exact zq1 q2
   ·exact zq1 q3
   ·obtain⟨o,e,_⟩:=q4;exact zq1 e
   ·obtain⟨o,e,_⟩:=q5;exact zq1 e
  have k2:∀c o,c∉[z,ti,to,i1,i2]->s.heap.get? c=some o->h2.get? c=some o:=fun c o hc q=>by
   simp only[List.mem_cons,zrl,or_false,not_or] at hc
   obtain⟨c1,c2,c3,c4,c5⟩:=hc
   exact(sb.2 c c1).trans (k1 c o c1 c3 c4 c5 q)
  have it1':h2.IsListIter i1 a (i+1):=it1.at fun o e=>(sb.2 i1 D.i1z).trans e
  have it2':h2.IsListIter i2 b (i+1):=it2.at fun o e=>(sb.2 i2 D.i2z).trans e
  have hti:IsPair h2 ti (.ref i1) (.ref i2):=(sb.2 ti D.TIz).trans (k1 ti _ D.TIz D.TITO D.TIi1 D.TIi2 q2)
  have hto:IsPair h2 to u v:=(sb.2 to D.TOz).trans pto
  have J1:Inv X pins σ H { s with heap:=h2,toks:=s.toks }:=I.zbj (fp:=[z,ti,to,i1,i2]) k2 (fun c hc=>by
   simp only[List.mem_cons,zrl,or_false] at hc
   rcases hc with e | e | e | e | e<;>subst e
   ·exact⟨_,he2⟩
   ·exact⟨_,hti⟩
   ·exact⟨_,hto⟩
   ·obtain⟨o,e,_⟩:=it1';exact⟨o,e⟩
   ·obtain⟨o,e,_⟩:=it2';exact⟨o,e⟩) hf
  have zgr:h2.get? s.heap.objs.size=some { cls:=.type "tuple", data:=.seq #[u,v] }:=(sb.2 _ (Nat.ne_of_gt ltz)).trans tup
  have ltc:∀y c,X.env.cells.lookup y=some c->c≠s.heap.objs.size:=fun y c q=>by
   obtain⟨v,o,z,_⟩:=I.cell y c q
   exact zq9 (zq1 z)
  have ltp:∀p∈X.pn++pins,p.1≠s.heap.objs.size:=fun p hp=>zq9 (zq1 (I.pin p hp).1)
  have J2:=J1.track (a:=s.heap.objs.size) (o:=.tup [x,y]) I.fresh (Ne.symm (zq9 I.lt)) I.sz ltc ltp ⟨by show 2<=sizeLine;decide,[u,v],.cons ru (.cons rv .nil),⟨_,zgr,rfl,_,rfl⟩⟩
  refine⟨.ref s.heap.objs.size,_,J2,rfl,⟨_,x,y,fun zs hzs=>by rw[I.RT hzs hq1];exact hx,fun zs hzs=>by rw[I.RT hzs hq2];exact hy,rfl,I.fresh,rfl⟩,⟨he2,hti,⟨u,v,hto⟩,it1',it2'⟩,fun c hc=>?_⟩
  rw[zA (zq9 (ltf c hc))]
  exact(hf c hc).1
 done:=by
  intro X hP hw hK hc i pins s σ H E I hf st hg
  subst hP hw hK
  obtain⟨xs,ys,hq1,hq2,hx⟩:=hg
  obtain⟨q1,q2,⟨u0,v0,q3⟩,q4,q5⟩:=st
  obtain⟨zdX,rv1,pl1,hz1⟩:=I.list hq1
  obtain⟨its2,rv2,pl2,hz2⟩:=I.list hq2
  have l1:=rv1.length
  have l2:=rv2.length
  refine wpAny_pyNext_zip_end (I.ok.hd hc) D q1 q2 q3 q4 q5 pl1.isList pl2.isList (by
   rcases hx with e | e
   ·left;simp;omega
   ·right;simp;omega) fun h' k=>⟨rfl,?_⟩
  refine I.zik (t':=s.toks) (fp:=[z,to,i1,i2]) (fun c o hc e=>?_) fun c hc=>hf c (by simp only[List.mem_cons,zrl,or_false] at hc ⊢;rcases hc with e | e | e | e<;>simp[e])
  simp only[List.mem_cons,zrl,or_false,not_or] at hc
  exact k c o hc.1 hc.2.1 hc.2.2.1 hc.2.2.2 e
 self:=fun _ _ _ _ _ st h=>wpAny_pyIter_zip st.1 h
section
variable {X:Cx}
def znn (K:Frag)(ta:TA):TI:=fun σ H R=>ta σ H fun vs H1=>∃a b xs ys,vs=[.ref a,.ref b]/\zZ K H1 a xs/\zZ K H1 b ys/\R (Itz K a b) H1
theorem zkd {l m:Expr}{ta:TA}{p pos:Pos}{els:List Expr}{x1}{pt:Pos}(hg:Gl X "zip")(hm:X.mg "zip"=none)(ha:PA X [l,m] ta)(hs:starEach [l,m] X.env=[(false,eval l X.env),(false,eval m X.env)]:=by rfl)(hs2:starEach [m] X.env=[(false,eval m X.env)]:=by rfl) :
  PI X (.Tuple els x1 pt) (.Call (.Name "zip" p) [l,m] [] pos) (znn X.K ta):=by
 intro pins s σ H R I h
 refine Call_ (Xk I hg hm boot_zip (PyProof.Rows.callWith_type1 (wC (ha pos pins s σ H _ I h) fun us s1 ⟨vs,H1,I1,r1,q1⟩=>?_) (by rw[hs,hs2]) (by rw[hs2];rfl)))
 obtain⟨a,b,xs,ys,e,hq1,hq2,q⟩:=q1
 subst e
 obtain⟨u,v,rfl,ru,rv⟩:=vals2 r1
 cases ru
 cases rv
 obtain⟨zdX,rv1,pl1,hz1⟩:=I1.list hq1
 obtain⟨its2,rv2,pl2,hz2⟩:=I1.list hq2
 obtain⟨o1,e1,_⟩:=id pl1.isList
 obtain⟨o2,e2,_⟩:=id pl2.isList
 refine call_zip_2 pl1.isList pl2.isList fun h' hz hti hto it1 it2 hsz hk=>?_
 have J:Inv X pins σ H1 { s1 with heap:=h',toks:=s1.toks }:=I1.kept hk
 refine wpAny_pyIter_zip hz ?_
 refine⟨s1.heap.objs.size+4,[s1.heap.objs.size+4,s1.heap.objs.size+2,s1.heap.objs.size+3,s1.heap.objs.size,s1.heap.objs.size+1],_,_,H1,rfl,J,zgQ a b _ _ _ _ _ (zipApart_new (zq1 e1) (zq1 e2)),⟨hz,hti,⟨_,_,hto⟩,it1,it2⟩,fun c hc=>?_,q⟩
 have gc:s1.heap.objs.size<=c:=by
  simp only[List.mem_cons,zrl,or_false] at hc
  rcases hc with z | z | z | z | z<;>rw[z]<;>omega
 exact I1.zcb gc (I1.hok.fresh gc)
def zlv (K:Frag):R2:=fun x y H Q=>∃p q xs ys,x=.ref p/\y=.ref q/\zZ K H p xs/\zZ K H q ys/\xs.length+ys.length<=sizeLine/\∀l,H l=none->Q (.ref l) (upd H l (.lst (xs++ys)))
theorem zeT:Uc X (binaryOp .Add) (zlv X.K):=by
 intro pins s σ H x y v u Q I rx ry h
 obtain⟨p,q,xs,ys,rfl,rfl,hp,hq,hz,h⟩:=h
 cases rx
 cases ry
 obtain⟨zdX,rv1,pl1,hz1⟩:=I.list hp
 obtain⟨its2,rv2,pl2,hz2⟩:=I.list hq
 obtain⟨⟨cls,dd,data,sl⟩,ho,hc,n,hd⟩:=id pl1.isList
 obtain⟨⟨cls2,dd2,data2,sl2⟩,ho2,hc2,n2,hd2⟩:=id pl2.isList
 simp only at hc hd hc2 hd2
 subst hc hd hc2 hd2
 have l1:=rv1.length
 have l2:=rv2.length
 have e:zdX.toArray++its2.toArray=(zdX++its2).toArray:=by simp
 refine concat_meets ⟨_,ho,rfl⟩ ⟨_,ho2,rfl⟩ noFill_list_add seq_list_add PySem.F.slot_list_add PySem.F.entry_list_add (PySem.F.args_list_add_2 _ _) (list_addW p q zdX.toArray its2.toArray n n2 dd dd2 sl sl2 (by simp;omega)) ⟨ho,ho2,?_⟩
 rw[e]
 refine⟨.ref s.heap.objs.size,_,I.laid (t':=s.toks) (o:=.lst (xs++ys)) (fun b o e=>zq0 _ e) (zra _) ?_,rfl,h _ (I.hok.fresh (zra _))⟩
 exact⟨by rw[zq2];exact hz,zdX++its2,0,rv1.append rv2,zrf _ rfl⟩
end
end L2
namespace Za
open PySem L2 yc
inductive zgR (C:Addr)(vs:List V)(H:Hp)(Q:VK)(E9:XK):Prop
 | mk (b:Addr) (os:List Str) (rs:List Rm) (F:wM) (k p:Nat) (v:Bool) (_:vs=[.ref b,.int k,.int p,.int (v.toNat:Nat)]) (_:yu C H b os rs F) (_:k<rs.length) (_:p<os.length) (_:Q (.int (Lg rs k p v:Nat)) H):zgR C vs H Q E9
end Za
namespace L2
open PySem
theorem zil {X:Cx}{x y:Str}{px py pt:Pos}{x1:Nat}(hc:X.calm=true)(hN:X.N.Nodup)(h0:X.N[0]?=some x)(h1:X.N[1]?=some y)(hx:X.env.scope.names.lookup x=some .local)(hy:X.env.scope.names.lookup y=some .local):PG X (.Tuple [.Name x px,.Name y py] x1 pt) (zhz X.K 2 (Ko (VJ 0) (Ko (VJ 1) zhy))) :=
 Kp hc (uK (yD hN h0 (.inl hx) (.inr hx)) (uK (yD hN h1 (.inl hy) (.inr hy)) RV))
end L2
namespace L2
open PySem PySem.Spec PyProof.Rows
structure zjb (tZ sc:Scope)(x y:Str)(fv:List Str):Prop where
 g:zeF tZ sc [x,y] fv
 hx:sc.names.lookup x=some .local
 hy:sc.names.lookup y=some .local
 nd:([x,y]++fv).Nodup
end L2
namespace Za
open PySem L2 yc
def tV (ns:List Int)(i:Nat):Int:=(ns[i]?).getD 0
inductive LQ (K:Frag)(vs:List V)(H:Hp)(Q:VK)(E9:XK):Prop
 | mk (l:Addr) (ns:List Int) (i:Nat) (_:vs=[.ref l,.int i]) (_:zZ K H l (ns.map V.int)) (_:Q (.int (tV ns i)) H):LQ K vs H Q E9
theorem Sn.zcE:∀s:Sn,s.count+1<=2^s.depth:=by
 have key:∀(d:Nat) (s:Sn),s.depth<=d->s.count+1<=2^d:=by
  intro d
  induction d with
  | zero=>intro s h;have:=Sn.PJ s;omega
  | succ d ih =>
   intro s h
   have hp:=Sn.Mq s
   have hl:=Sn.Qg s
   have hd:=Sn.Uh s
   have hc:∀t∈s.parts,t.count+1<=2^d:=fun t ht=>ih t (by have:=hd t ht;omega)
   have p1:1<=2^d:=Nat.one_le_two_pow
   rw[Nat.pow_succ,hp]
   match hs:s.parts,hl with
   | [],_=>simp;omega
   | [a],_ =>
    have:=hc a (by rw[hs];simp)
    simp;omega
   | [a,b],_ =>
    have h1:=hc a (by rw[hs];simp)
    have h2:=hc b (by rw[hs];simp)
    simp;omega
   | a::b::c::r,h=>simp at h
 exact fun s=>key _ s (zra _)
end Za
namespace L2
open PySem PySem.Spec PyProof.Rows
theorem zlw {x:V}{p q:Prop}(h:q):if (!decide (x=x))=true then p else q:=by
 rw[decide_eq_true rfl]
 exact h
theorem zke {x y:V}{p q:Prop}(e:x=y)(h:q):if (!decide (x=y))=true then p else q:=by
 subst e
 exact zlw h
section
variable {X:Cx}
theorem Mu:∀{xs:List V} {us:List Value},xs.length=us.length->(∀(i:Nat) x u,xs[i]?=some x->us[i]?=some u->RelV x u)->Vals xs us
 | [],[],_,_=>.nil
 | [],_::_,h,_=>by cases h
 | _::_,[],h,_=>by cases h
 | x::xs,u::us,h,r=>.cons (r 0 x u rfl rfl) (Mu (Nat.succ.inj h) fun i x u hx hu=>r (i+1) x u hx hu)
def Mv (n:Nat):List V:=(List.range n).map fun i=>V.int (i:Nat)
def tLR (ta:TA):TE:=fun σ H Q=>ta σ H fun vs H1=>∃n:Nat,vs=[.int (n:Nat)]/\n<=1000000/\∀l,H1 l=none->Q (.ref l) (upd H1 l (.lst (Mv n)))
theorem zbz {e:Expr}{ta:TA}{p p2 pos pos2:Pos}(hc:X.calm=true)(hg:Gl X "list")(hm:X.mg "list"=none)(hg2:Gl X "range")(hm2:X.mg "range"=none)(ha:PA X [e] ta)
  (hs:starEach [e] X.env=[(false,eval e X.env)]:=by rfl)
  (hs2:starEach [.Call (.Name "range" p2) [e] [] pos2] X.env=[(false,eval (.Call (.Name "range" p2) [e] [] pos2) X.env)]:=by rfl) :
  PE X (.Call (.Name "list" p) [.Call (.Name "range" p2) [e] [] pos2] [] pos) (tLR ta):=by
 intro pins s σ H Q I h
 refine wpAny_Call_Name_kw (Xk I hg hm Tj ?_ (by decide) (by decide))
 refine PyProof.Rows.callWith_type1 ?_ hs2 rfl
 rw[hs2]
 show wpAny _ _ (spliced ((false,eval (.Call (.Name "range" p2) [e] [] pos2) X.env)::[])) _ _ s
 refine Calls.spliced_cons ?_
 refine Call_ (Xk I hg2 hm2 boot_range (PyProof.Rows.callWith_type1 (wC (ha pos2 pins s σ H _ I h) fun us s1 ⟨vs,H1,I1,r1,q1⟩=>?_) hs rfl))
 obtain⟨n,e1,hn,q⟩:=q1
 subst e1
 obtain⟨u,rfl,ru⟩:=vals1 r1
 obtain⟨t,rfl⟩:=ru
 refine call_range_1 (Calls.spliced_nil ?_)
 refine call_list_range (n:=n) (I1.ok.hd hc) (IsRange.new ..) (small_one (by omega) (by omega) (by omega) (by omega)) (by rw[rangeSize_one];split<;>omega) (by omega) fun h' tk acc' c' kp e0 ac=>?_
 have I2:=I1.kept (t':=s1.toks+1+1) (h':=s1.heap.push { cls:=.type "range", data:=.fields #[.int 0 s1.toks,.int n t,.int 1 (s1.toks+1)] }) fun b o e=>zq0 _ e
 have hl:acc'.size=n:=ac.1
 have rv:Vals (Mv n) acc'.toList:=by
  refine Mu (by simp[Mv,hl]) fun i x u hx hu=>?_
  have hi:i<n:=by
   have:=(zqX.mp hx).1
   simpa [Mv] using this
  unfold Mv at hx
  rw[zqW,List.getElem?_range hi] at hx
  cases hx
  obtain⟨t',rfl⟩:=ac.2 i u (by simpa using hu)
  exact⟨t',by simp⟩
 exact⟨.ref _,_,I2.laid (t':=tk) (o:=.lst (Mv n)) kp (zra _) ⟨by unfold Mv;rw[zqU,zrc];exact zrg hn (by decide),acc'.toList,c',rv,by simpa using e0⟩,rfl,q _ (I2.hok.fresh (zra _))⟩
end
end L2
namespace yc
open Za
def anyB (n:Nat)(f:Nat->Bool):Bool:=(List.range (2^n)).any f
theorem anyB_iff {n:Nat}{f:Nat->Bool}:anyB n f=true↔∃b,b<2^n/\f b=true:=by
 unfold anyB
 rw[List.any_eq_true]
 exact⟨fun⟨b,h,e⟩=>⟨b,List.mem_range.mp h,e⟩,fun⟨b,h,e⟩=>⟨b,List.mem_range.mpr h,e⟩⟩
theorem Zd {n N:Nat}{f:Nat->Bool}(h:zP n N f):decide (N=0)=!anyB n f:=by
 by_cases e:N=0
 ·subst e
  rw[decide_eq_true rfl]
  cases hb:anyB n f with
  | false=>rfl
  | true =>
   obtain⟨b,hb,e⟩:=anyB_iff.mp hb
   have:=YZ h hb
   rw[e,Nat.zero_testBit] at this
   cases this
 ·rw[decide_eq_false e]
  cases hb:anyB n f with
  | true=>rfl
  | false =>
   exfalso
   refine e (Nat.eq_of_testBit_eq fun i=>?_)
   rw[h i,Nat.zero_testBit]
   by_cases hi:i<2^n
   ·cases hf:f i with
    | false=>rw[Bool.and_false]
    | true=>rw[anyB_iff.mpr ⟨i,hi,hf⟩] at hb;cases hb
   ·rw[decide_eq_false hi];rfl
def fvP (n:Nat):(Nat->Bool)->List Nat->List Bool
 | _,[]=>[]
 | f,p::ps=>(!anyB n fun b=>f (zG b p false))::fvP n (fun b=>f (zG b p (!anyB n fun b=>f (zG b p false)))) ps
def mix:Nat->List Bool->Nat->Nat
 | _,[],b=>b
 | i,v::r,b=>zG (mix (i+1) r b) i v
theorem Qp:∀(r:List Bool) (i:Nat) (v:Bool) (b:Nat),mix i (r++[v]) b=mix i r (zG b (i+r.length) v)
 | [],i,v,b=>rfl
 | u::r,i,v,b=>by
  show zG (mix (i+1) (r++[v]) b) i u=zG (mix (i+1) r (zG b (i+(r.length+1)) v)) i u
  rw[Qp r (i+1) v b,show i+1+r.length=i+(r.length+1) by omega]
theorem zgS {n:Nat}:∀(r:List Bool) (i b:Nat),i+r.length<=n->b<2^n->mix i r b<2^n
 | [],i,b,_,hb=>hb
 | v::r,i,b,h,hb=>by
  rw[zq6] at h
  exact zO (zgS r (i+1) b (by omega) hb) (by omega)
theorem zeU:∀(r:List Bool) (i b j:Nat),i<=j->j<i+r.length->(mix i r b).testBit j=r.getD (j-i) false
 | [],i,b,j,h1,h2=>by rw[List.length_nil] at h2;omega
 | v::r,i,b,j,h1,h2=>by
  show(zG (mix (i+1) r b) i v).testBit j=_
  rw[zL]
  by_cases e:j=i
  ·subst e
   rw[if_pos rfl,Nat.sub_self]
   rfl
  ·rw[zq6] at h2
   rw[if_neg e,zeU r (i+1) b j (by omega) (by omega)]
   obtain⟨m,rfl⟩:∃m,j=i+1+m:=⟨j-(i+1),by omega⟩
   rw[show i+1+m-(i+1)=m by omega,show i+1+m-i=m+1 by omega]
   rfl
theorem zeV {n:Nat}{r:List Bool}{b:Nat}(hl:r.length=n)(hb:b<2^n):mix 0 r b=wJ r:=by
 have hr:=Ra r
 rw[hl] at hr
 refine Zk (zgS r 0 b (by omega) hb) hr fun i hi=>?_
 rw[zeU r 0 b i (zrh _) (by omega),Ui,Nat.sub_zero,zq7]
def Lh (n:Nat)(f:Nat->Bool):Nat->List Bool
 | 0=>[]
 | i+1=>Lh n f i++[!anyB n fun b=>f (mix 0 (Lh n f i++[false]) b)]
theorem zcF (n:Nat)(f:Nat->Bool):∀i,(Lh n f i).length=i
 | 0=>rfl
 | i+1=>by show(_++[_]).length=_;rw[zq2,zcF n f i];rfl
theorem zaO (n:Nat)(f:Nat->Bool):∀(m i:Nat),Lh n f (i+m)=Lh n f i++fvP n (fun b=>f (mix 0 (Lh n f i) b)) (List.range' i m)
 | 0,i=>by show _=_++[];rw[List.append_nil];rfl
 | m+1,i=>by
  have hl:=zcF n f i
  have e1:∀v b,mix 0 (Lh n f i) (zG b i v)=mix 0 (Lh n f i++[v]) b:=fun v b=>by rw[Qp,hl,Nat.zero_add]
  rw[show i+(m+1)=i+1+m by omega,zaO n f m (i+1),List.range'_succ]
  show(Lh n f i++[_])++_=Lh n f i++(_::_)
  rw[List.append_assoc]
  simp only[e1]
  rfl
theorem zfA (n:Nat)(f:Nat->Bool):fvP n f (List.range n)=Lh n f n:=by
 have:=zaO n f n 0
 rw[Nat.zero_add] at this
 rw[this,List.range_eq_range']
 rfl
theorem zaP {p q:List Bool->Bool}:∀{l:List (List Bool)} {x:List Bool},(∀r∈l,p r=(q (r++[false])||q (r++[true])))->(l.filter p).head?=some x ->
  ((l.flatMap fun r=>[r++[false],r++[true]]).filter q).head?=some (x++[!q (x++[false])])
 | [],x,_,h=>by cases h
 | r::l,x,hp,h=>by
  have hr:=hp r zre
  rw[List.flatMap_cons,zrx]
  cases hpr:p r with
  | true =>
   rw[List.filter_cons_of_pos hpr] at h
   have ex:r=x:=zrp h
   subst ex
   rw[hpr] at hr
   cases h0:q (r++[false]) with
   | true=>rw[List.filter_cons_of_pos h0];rfl
   | false =>
    rw[h0,Bool.false_or] at hr
    rw[List.filter_cons_of_neg (by rw[h0];exact zqY),List.filter_cons_of_pos hr.symm]
    rfl
  | false =>
   rw[List.filter_cons_of_neg (by rw[hpr];exact zqY)] at h
   rw[hpr] at hr
   have h0:q (r++[false])=false:=by cases hh:q (r++[false]) with | false=>rfl | true=>rw[hh] at hr;cases hr
   have h1:q (r++[true])=false:=by cases hh:q (r++[true]) with | false=>rfl | true=>rw[hh,Bool.or_true] at hr;cases hr
   rw[List.filter_cons_of_neg (by rw[h0];exact zqY),List.filter_cons_of_neg (by rw[h1];exact zqY)]
   exact zaP (fun r' hr'=>hp r' (zq5 _ hr')) h
theorem zcG {n:Nat}{f:Nat->Bool}(h:anyB n f=true):∀i,i<=n->((allR i).filter fun r=>anyB n fun b=>f (mix 0 r b)).head?=some (Lh n f i)
 | 0,_=>by
  show(List.filter _ [[]]).head?=_
  have e:(anyB n fun b=>f (mix 0 [] b))=true:=h
  rw[List.filter_cons_of_pos (p:=fun r=>anyB n fun b=>f (mix 0 r b)) e]
  rfl
 | i+1,hi=>by
  refine zaP (fun r hr=>?_) (zcG h i (by omega))
  have hl:=Qo i r hr
  rw[zrz,Bool.or_eq_true,anyB_iff,anyB_iff,anyB_iff]
  constructor
  ·rintro⟨b,hb,e⟩
   have e2:mix 0 (r++[b.testBit i]) b=mix 0 r b:=by rw[Qp,Nat.zero_add,hl,yE]
   cases hv:b.testBit i with
   | false=>rw[hv] at e2;exact .inl ⟨b,hb,by rw[e2];exact e⟩
   | true=>rw[hv] at e2;exact .inr ⟨b,hb,by rw[e2];exact e⟩
  ·rintro (⟨b,hb,e⟩ | ⟨b,hb,e⟩)<;>rw[Qp,Nat.zero_add,hl] at e<;>exact⟨_,zO hb (by omega),e⟩
theorem zdY {n:Nat}{f:Nat->Bool}(h:anyB n f=true):((allR n).filter fun r=>f (wJ r)).head?=some (fvP n f (List.range n)):=by
 rw[zfA,<-zcG h n (zra _)]
 congr 1
 refine List.filter_congr fun r hr=>?_
 have hl:=Qo n r hr
 rw[zrz,anyB_iff]
 constructor
 ·intro e
  exact⟨0,Nat.two_pow_pos n,by rw[zeV hl (Nat.two_pow_pos n)];exact e⟩
 ·rintro⟨b,hb,e⟩
  rw[zeV hl hb] at e
  exact e
end yc
namespace Za
open PySem L2 yc
inductive Wn (K:Frag)(vs:List V)(H:Hp)(Q:VK)(E9:XK):Prop
 | mk (N n:Nat) (f:Nat->Bool) (pl:Addr) (ps:List Nat) (_:vs=[.int N,.ref pl,.int n]) (_:n<=8) (_:zP n N f) (_:zZ K H pl (ps.map fun p=>V.int (p:Nat))) (_:(∀p∈ps,p<n)) (_:ps.length<=1000) (_:∀(l:Addr) (H':Hp),Same H H'->H l=none->H' l=some (.lst (YT (fvP n f ps)))->Q (.ref l) H'):Wn K vs H Q E9
inductive Rk (vs:List V)(H:Hp)(Q:VK)(E9:XK):Prop
 | mk (N n:Nat) (f:Nat->Bool) (_:vs=[.int N,.int n]) (_:n<=8) (_:zP n N f) (_:anyB n f=true) (_:∀(l:Addr) (H':Hp) (r:List Bool),Same H H'->H l=none->H' l=some (.lst (YT r))->((allR n).filter fun r=>f (wJ r)).head?=some r->Q (.ref l) H'):Rk vs H Q E9
section
variable (C:Addr)(K:Frag)
inductive Uv (vs:List V)(H:Hp)(Q:VK)(E9:XK):Prop
 | mk (b rl:Addr) (os:List Str) (rs:List Rm) (F:wM) (k:Nat) (r:List Bool) (_:vs=[.ref b,.int (k:Nat),.ref rl]) (_:yu C H b os rs F) (_:k<rs.length) (_:zZ K H rl (YT r)) (_:r.length=os.length) (_:∀H',Same H H'->Q (.int ((yes rs k (Uu r)).toNat:Nat)) H'):Uv vs H Q E9
end
end Za
namespace L2
open PySem PySem.Spec PyProof.Rows
section
variable {X:Cx}
def tLV (to:TE):TE:=fun σ H Q=>to σ H fun x H1=>∃(d:Addr) (kvs:List (Key×V)),x=.ref d/\H1 d=some (.dK kvs)/\∀l,H1 l=none->Q (.ref l) (upd H1 l (.lst (kvs.map (·.2))))
theorem Mw {o:Expr}{to:TE}{p apos cpos pos:Pos}(hc:X.calm=true)(hg:Gl X "list")(hm:X.mg "list"=none)(ho:PE X o to)
  (hbase:attributeBase o "values" X.env (eval o X.env)=eval o X.env:=by rfl)(hline:(apos.endLine==cpos.line)=true:=by rfl)
  (hs2:starEach [.Call (.Attribute o "values" apos) [] [] cpos] X.env=[(false,eval (.Call (.Attribute o "values" apos) [] [] cpos) X.env)]:=by rfl) :
  PE X (.Call (.Name "list" p) [.Call (.Attribute o "values" apos) [] [] cpos] [] pos) (tLV to):=by
 intro pins s σ H Q I h
 refine wpAny_Call_Name_kw (Xk I hg hm Tj ?_ (by decide) (by decide))
 refine PyProof.Rows.callWith_type1 ?_ hs2 rfl
 rw[hs2]
 show wpAny _ _ (spliced ((false,eval (.Call (.Attribute o "values" apos) [] [] cpos) X.env)::[])) _ _ s
 refine Calls.spliced_cons ?_
 refine wpAny_Call_method0_late hbase hline (wC (ho pins s σ H _ I h) fun v s1 ⟨x,H1,I1,r1,q1⟩=>?_)
 obtain⟨d,kvs,rfl,hd,q⟩:=q1
 obtain⟨h1,h2⟩:=zbf (T := "dict") I1 r1 (.inr (.inr (.inl ⟨rfl,.inl ⟨kvs,hd⟩⟩)))
 cases r1
 obtain⟨hz,lo,vs,rv,hD⟩:=(show kvs.length<=sizeLine/\(d==sysModules)=false/\∃vs,KV kvs vs/\s1.heap.DictOf (z6 X.prog X.w) d vs from I1.hok d _ hd)
 obtain⟨ep,hat⟩:=hD.dictAt
 have hl:kvs.length=vs.length:=Paired.length rv
 refine⟨"dict", "dict.values", PySem.F.plainAttrs_dict,PySem.F.slot_dict_values,PySem.F.type_dict_values,h1,h2,Calls.callWith_builtin rfl (PySem.evalArgs_none ?_)⟩
 refine call_meetsIn PySem.F.slot_dict_values hD.typeIs PySem.F.entry_dict_values (PySem.F.args_dict_values_1 _) (meets_dict_values (z6 X.prog X.w) d lo) ⟨⟨vs,hD⟩,Calls.spliced_nil ?_⟩
 have I2:=I1.kept (t':=s1.toks) (h':=s1.heap.push { cls:=.type "dict_values", data:=.fields #[.ref d] }) fun b o e=>zq0 _ e
 obtain⟨hz2,lo2,vs2,rv2,hD2⟩:=(show kvs.length<=sizeLine/\(d==sysModules)=false/\∃vs,KV kvs vs/\(s1.heap.push { cls:=.type "dict_values", data:=.fields #[.ref d] }).DictOf (z6 X.prog X.w) d vs from I2.hok d _ hd)
 obtain⟨ep2,zgT⟩:=hD2.dictAt
 have hl2:kvs.length=vs2.length:=Paired.length rv2
 refine PySem.W.kdl_call (PySem.W.kdl_values (knd:=z6 X.prog X.w) (r:=s1.heap.objs.size) (d:=d) (kvs:=vs2) (ep:=ep2)) (I1.ok.hd hc) ⟨⟨_,zrf _ rfl,rfl,rfl⟩,zgT⟩ (by omega) fun h' tk acc c hk hS hacc=>?_
 refine⟨.ref _,_,I2.laid (t':=tk) (o:=.lst (kvs.map (·.2))) hk (zra _) ?_,rfl,q _ (I2.hok.fresh (zra _))⟩
 refine⟨by rw[zqU];exact hz,acc.toList,c,?_,by simpa using hS⟩
 refine Ql (by rw[zqU];have:=hacc.1;simp;omega) fun j v hv=>?_
 obtain⟨k,hx⟩:=hacc.2 j v (by rw[<-Array.getElem?_toList];exact hv)
 obtain⟨y,hy,e1,e2⟩:=Qe rv2 hx
 exact⟨y.2,by rw[zqW,hy];rfl,e2⟩
end
end L2
namespace L2
open PySem PySem.Spec PyProof.Rows PySem.Builtin PySem.Builtin.Str
section
variable {X:Cx}
def zkf (b:Bool):Str:=⟨#[Za.chc b]⟩
end
end L2
namespace yc
open PySem Za
def upR (n:Nat)(x:Rm):Bool:=match x with | some (i,_,_)=>decide (i+2<n) | none=>false
def hiN (n:Nat)(rs:List Rm):Nat:=(rs.filter (upR n)).length
theorem zin {n:Nat}{rs:List Rm}{p lo hi:Nat}:hiN n (rs++[some (p,lo,hi)])=hiN n rs+if p+2<n then 1 else 0:=by
 unfold hiN
 rw[zrx,zq2]
 congr 1
 by_cases h:p+2<n
 ·rw[if_pos h,List.filter_cons_of_pos (show upR n (some (p,lo,hi))=true from decide_eq_true h)]
  rfl
 ·rw[if_neg h,List.filter_cons_of_neg (show ¬upR n (some (p,lo,hi))=true from fun z=>h (of_decide_eq_true z))]
  rfl
def zio (n:Nat)(rs:List Rm)(k:Nat):Bool×Bool×Bool×Bool :=
 (yes rs k (fun i=>if i+1=n then false else false),yes rs k (fun i=>if i+1=n then true else false),yes rs k (fun i=>if i+1=n then false else true),yes rs k (fun i=>if i+1=n then true else true))
theorem ziq {n:Nat}{rs:List Rm}(B:Bk n rs){j k:Nat}(hj:j<rs.length)(hk:k<rs.length)(lj:n<=ZM n rs j+2)(lk:n<=ZM n rs k+2)(e:zio n rs j=zio n rs k):j=k:=by
 unfold zio at e
 rw[Prod.mk.injEq,Prod.mk.injEq,Prod.mk.injEq] at e
 obtain⟨e0,e1,e2,e3⟩:=e
 have key:∀{m:Nat},m<rs.length->n<=ZM n rs m+2->∀r:Row,yes rs m r=yes rs m (fun i=>if i+1=n then r (n-1) else r (n-2)):=fun {m} hm lm r=>by
  refine Xe B m m (zra _) hm fun i h1 h2=>?_
  by_cases h:i+1=n
  ·rw[if_pos h,show i=n-1 by omega]
  ·rw[if_neg h,show i=n-2 by omega]
 refine uN B (max j k) j k ⟨Nat.le_max_left _ _,Nat.le_max_right _ _⟩ hj hk fun r=>?_
 rw[key hj lj r,key hk lk r]
 cases r (n-1)<;>cases r (n-2)
 ·exact e0
 ·exact e2
 ·exact e1
 ·exact e3
def zlx:List (Bool×Bool×Bool×Bool):=[false,true].flatMap fun a=>[false,true].flatMap fun b=>[false,true].flatMap fun c=>[false,true].map fun d=>(a,b,c,d)
theorem zgU:∀x:Bool×Bool×Bool×Bool,x∈zlx:=by
 rintro⟨a,b,c,d⟩
 cases a<;>cases b<;>cases c<;>cases d<;>decide
theorem zcI {α:Type}(f:α->Bool)(d:α):∀l:List α,(l.filter f).length=((List.range l.length).filter fun i=>f (l.getD i d)).length
 | []=>rfl
 | a::l=>by
  have ih:=zcI f d l
  rw[zq6,List.range_succ_eq_map,List.filter_cons,List.filter_cons,List.filter_map,]
  have e:((List.range l.length).filter ((fun i=>f ((a::l).getD i d)) ∘ Nat.succ))=((List.range l.length).filter fun i=>f (l.getD i d)):=rfl
  rw[e]
  show(if f a=true then a::l.filter f else l.filter f).length=(if f a=true then 0::_ else _).length
  cases f a
  ·rw[if_neg zqY,if_neg zqY,zqU]
   exact ih
  ·rw[if_pos rfl,if_pos rfl,zq6,zq6,zqU,ih]
theorem zaQ {α:Type}(f:α->Bool):∀l:List α,l.length=(l.filter f).length+(l.filter fun a=>!f a).length
 | []=>rfl
 | a::l=>by
  have ih:=zaQ f l
  cases h:f a
  ·rw[List.filter_cons_of_neg (by rw[h];exact zqY),List.filter_cons_of_pos (p:=fun a=>!f a) (by rw[h];rfl),zq6,zq6]
   omega
  ·rw[List.filter_cons_of_pos h,List.filter_cons_of_neg (p:=fun a=>!f a) (by rw[h];exact zqY),zq6,zq6]
   omega
theorem zkg {n:Nat}{rs:List Rm}(B:Bk n rs):rs.length<=hiN n rs+16:=by
 have e1:=zaQ (fun i=>upR n (rs.getD i none)) (List.range rs.length)
 rw[zrc,<-zcI] at e1
 have e2:((List.range rs.length).filter fun i=>!upR n (rs.getD i none)).length<=16:=by
  have nd:(((List.range rs.length).filter fun i=>!upR n (rs.getD i none)).map (zio n rs)).Nodup:=by
   have h:=(List.nodup_range (n:=rs.length)).filter (fun i=>!upR n (rs.getD i none))
   show List.Pairwise _ _
   rw[List.pairwise_map]
   refine List.Pairwise.imp_of_mem (fun {j k} hj hk ne e=>ne ?_) h
   obtain⟨j1,j2⟩:=List.mem_filter.mp hj
   obtain⟨k1,k2⟩:=List.mem_filter.mp hk
   have lv:∀m,m<rs.length->(!upR n (rs.getD m none))=true->n<=ZM n rs m+2:=fun m hm hu=>by
    unfold ZM
    rw[zq7] at hu
    cases hx:rs[m]? with
    | none=>show n<=n+2;omega
    | some x =>
     rw[hx] at hu
     cases x with
     | none=>show n<=n+2;omega
     | some t =>
      obtain⟨i,lo,hi⟩:=t
      have:¬i+2<n:=fun z=>by
       have:upR n (some (i,lo,hi))=true:=decide_eq_true z
       simp[this] at hu
      show n<=i+2
      omega
   exact ziq B (List.mem_range.mp j1) (List.mem_range.mp k1) (lv j (List.mem_range.mp j1) j2) (lv k (List.mem_range.mp k1) k2) e
  have:=Qd nd (ys:=zlx) fun x _=>zgU x
  rw[zqU] at this
  exact this
 unfold hiN
 omega
def bH (n u:Nat):Nat:=2^(n-2-u)-1
theorem zir {n u p:Nat}(h:u<=p):bH n (p+1)+bH n (p+1)+(if p+2<n then 1 else 0)<=bH n u:=by
 unfold bH
 by_cases hp:p+2<n
 ·rw[if_pos hp]
  have e:n-2-p=(n-2-(p+1))+1:=by omega
  have m:2^(n-2-p)<=2^(n-2-u):=zrq (by decide) (by omega)
  have p1:1<=2^(n-2-(p+1)):=Nat.one_le_two_pow
  rw[e,Nat.pow_succ] at m
  omega
 ·rw[if_neg hp,show n-2-(p+1)=0 by omega]
  show 1-1+(1-1)+0<=_
  omega
theorem zly {n:Nat}(h:n<=8):bH n 0<=63:=by
 have:2^(n-2-0)<=2^6:=zrq (by decide) (by omega)
 have e:2^6=64:=rfl
 unfold bH
 omega
end yc
namespace Za
open PySem L2 yc
section
variable (C:Addr)(K:Frag)
inductive wX (d:Nat)(vs:List V)(H:Hp)(Q:VK)(E9:XK):Prop
 | mk (b:Addr) (os:List Str) (rs:List Rm) (F:wM) (t u:Nat) (f:Nat->Bool) (_:vs=[.ref b,.int t]) (_:yu C H b os rs F) (_:rs.length+2^d<=9000000) (_:u<=os.length) (_:os.length+1<=u+d) (_:zP os.length t f) (_:(∀i,i<u->Free os.length f i)) (_:∀(k:Nat) (rs':List Rm) (H':Hp),zgI F H H'->yW H H'->yu C H' b os rs' F->wL rs rs'->k<rs'.length->(∀r,yes rs' k r=f (bits r os.length))->rs'.length+1<=rs.length+2^d->(∀j,rs.length<=j->j<rs'.length->u<=ZM os.length rs' j)->hiN os.length rs'<=hiN os.length rs+bH os.length u->Q (.int (k:Nat)) H'):wX d vs H Q E9
def zeW (b:Addr)(os:List Str)(H:Hp)(rs:List Rm)(F:wM)(f:Row->Bool)(Q:VK):Prop:=∀(k:Nat) (rs':List Rm) (H':Hp),zgI F H H'->yW H H'->yu C H' b os rs' F->wL rs rs'->Means rs' k f->hiN os.length rs'<=hiN os.length rs+63->Q (.int (k:Nat)) H'
inductive Qq (vs:List V)(H:Hp)(Q:VK)(E9:XK):Prop
 | mk (b p:Addr) (os:List Str) (rs:List Rm) (F:wM) (s:Sn) (_:vs=[.ref b,.ref p]) (_:yu C H b os rs F) (_:rs.length<=8000000) (_:Tp H s p) (_:s.RN os) (_:s.count<=200) (_:s.depth<=24) (_:zeW C b os H rs F (fun r=>s.val (zgJ os r)) Q):Qq vs H Q E9
inductive Nj (vs:List V)(H:Hp)(Q:VK)(E9:XK):Prop
 | mk (b:Addr) (os:List Str) (rs:List Rm) (F:wM) (c0 c1 c2 c3:Bool) (i j:Nat) (f g:Row->Bool) (_:vs=[.ref b,.str (wd c0 c1 c2 c3),.int (i:Nat),.int (j:Nat)]) (_:yu C H b os rs F) (_:rs.length<=8000000) (_:Means rs i f) (_:Means rs j g) (_:zeW C b os H rs F (fun r=>jn c0 c1 c2 c3 (f r) (g r)) Q):Nj vs H Q E9
inductive Nk (vs:List V)(H:Hp)(Q:VK)(E9:XK):Prop
 | mk (b:Addr) (os:List Str) (rs:List Rm) (F:wM) (i:Nat) (f:Row->Bool) (_:vs=[.ref b,.int (i:Nat)]) (_:yu C H b os rs F) (_:rs.length<=8000000) (_:Means rs i f) (_:zeW C b os H rs F (fun r=>!f r) Q):Nk vs H Q E9
end
theorem Uw {C b:Addr}{os:List Str}{H H1:Hp}{rs:List Rm}{F:wM}{fm:Row->Bool}{Q:VK}{t:Nat}{f:Nat->Bool}(g1:Same H H1)(hB:yu C H1 b os rs F)(hl:rs.length<=8000000)(tb:zP os.length t f)(ef:∀r,f (bits r os.length)=fm r)
  (q:zeW C b os H rs F fm Q):wX C 9 [.ref b,.int t] H1 Q (fun _ _ _=>False):=by
 have ho:=(wj C).ord hB
 refine⟨b,os,rs,F,t,0,f,rfl,hB,by show rs.length+512<=9000000;omega,zrh _,by have:=ho.le;omega,tb,fun i hi=>absurd hi (Nat.not_lt_zero _),fun j rs' H' aw tu hB' gr lt y ln _ hh=>?_⟩
 exact q j rs' H' (fun x o e nf=>aw x o (g1 _ _ e) nf) (fun x xs e=>tu _ _ (g1 _ _ e)) hB' gr ⟨lt,fun r=>(y r).trans (ef r)⟩ (zrg hh (Nat.add_le_add_left (zly ho.le) _))
structure W0 (C:Addr)(H0:Hp)(b:Addr)(os:List Str)(m:Nat)(H:Hp)(rs:List Rm)(F:wM):Prop where
 same:Same H0 H
 away:∀x,F x->H0 x=none
 bk:yu C H b os rs F
 hi:hiN os.length rs<=m
section
variable {C:Addr}{H0:Hp}{b:Addr}{os:List Str}{m:Nat}{H:Hp}{rs:List Rm}{F:wM}
theorem W0.len (h:W0 C H0 b os m H rs F):rs.length<=m+16:=zrg (zkg ((wj C).bk h.bk)) (Nat.add_le_add_right h.hi _)
theorem W0.new (h:W0 C H0 b os m H rs F){H':Hp}(g:Same H H'):W0 C H0 b os m H' rs F:=⟨h.same.trans g,h.away,(wj C).same h.bk g,h.hi⟩
end
end Za
namespace yc
open PySem
def mxr (ρ r:Row)(m:Nat):Row:=fun i=>if i<m then ρ i else r i
theorem zbA {ρ r:Row}{m i:Nat}(h:i<m):mxr ρ r m i=ρ i:=if_pos h
theorem zgV {ρ r:Row}{m i:Nat}(h:m<=i):mxr ρ r m i=r i:=if_neg (by omega)
section
variable {n:Nat}{rs:List Rm}(B:Bk n rs)
include B
theorem zbB {k m:Nat}(hk:k<rs.length)(h:m<=ZM n rs k)(ρ r:Row):yes rs k (mxr ρ r m)=yes rs k r :=
 Xe B k k (zra _) hk fun i hi _=>zgV (by omega)
theorem zdZ {k j:Nat}(hk:k<rs.length)(h:Reach rs k j):∃ ρ:Row,∀r,yes rs j r=yes rs k (mxr ρ r (ZM n rs j)):=by
 have S:j<rs.length/\∃ ρ:Row,∀r,yes rs j r=yes rs k (mxr ρ r (ZM n rs j)):=by
  refine Reach.closed (S:=fun j=>j<rs.length/\∃ ρ:Row,∀r,yes rs j r=yes rs k (mxr ρ r (ZM n rs j))) ⟨hk,fun _=>false,fun r=>(zbB B hk (zra _) _ r).symm⟩ (fun {m i lo hi} hm e=>?_) h
  obtain⟨hm,ρ,hρ⟩:=hm
  have m2:2<=m:=by
   rcases Nat.lt_or_ge m 2 with z | z
   ·have:m=0\/m=1:=by omega
    rcases this with z | z
    ·rw[z,B.h0] at e;cases e
    ·rw[z,B.h1] at e;cases e
   ·exact z
  obtain⟨i',lo',hi',e',hin,llo,lhi,hne,l1,l2⟩:=B.rm m m2 hm
  rw[e] at e'
  cases e'
  have lm:ZM n rs m=i:=uI B e
  have part:∀(c:Nat) (v:Bool),c<rs.length->i<ZM n rs c->(∀r,yes rs m (put r i v)=yes rs c r)->∃ ρ':Row,∀r,yes rs c r=yes rs k (mxr ρ' r (ZM n rs c)):=fun c v hc hl hy=>by
   refine⟨put ρ i v,fun r=>?_⟩
   rw[<-zbB B hc (zra _) (put ρ i v) r,<-hy,hρ,lm]
   congr 1
   funext p
   by_cases h1:p<i
   ·rw[zbA h1,zbA (by omega)]
    unfold put
    rw[if_neg (by omega)]
   ·rw[zgV (by omega)]
    by_cases h2:p=i
    ·subst h2
     rw[zbA hl]
     unfold put
     rw[if_pos rfl,if_pos rfl]
    ·unfold put
     rw[if_neg h2]
  exact⟨⟨by omega,part lo false (by omega) l1 fun r=>(Xo B e hm r).1⟩,⟨by omega,part hi true (by omega) l2 fun r=>(Xo B e hm r).2⟩⟩
 exact S.2
theorem zd0 (ρ:Row)(m:Nat):∀(f k:Nat),k<=f->k<rs.length->∃j,Reach rs k j/\j<rs.length/\(m<=ZM n rs j\/n<=ZM n rs j)/\∀r,yes rs j r=yes rs k (mxr ρ r m):=by
 intro f
 induction f with
 | zero =>
  intro k hf hk
  have e:k=0:=by omega
  subst e
  exact⟨0,.refl _,hk,.inr (by rw[Rh B];exact zra _),fun r=>rfl⟩
 | succ f ih =>
  intro k hf hk
  by_cases hm:m<=ZM n rs k
  ·exact⟨k,.refl _,hk,.inl hm,fun r=>(zbB B hk hm ρ r).symm⟩
  ·by_cases k2:2<=k
   ·obtain⟨i,lo,hi,e,hin,llo,lhi,hne,l1,l2⟩:=B.rm k k2 hk
    have lk:ZM n rs k=i:=uI B e
    obtain⟨j,h1,h2,h3,h4⟩:=ih (if ρ i then hi else lo) (by split<;>omega) (by split<;>omega)
    refine⟨j,?_,h2,h3,fun r=>?_⟩
    ·cases hb:ρ i with
     | true=>rw[hb] at h1;exact .hi e h1
     | false=>rw[hb] at h1;exact .lo e h1
    ·rw[h4,Xn B e,zbA (by omega)]
     split<;>rfl
   ·have:k=0\/k=1:=by omega
    rcases this with z | z
    ·subst z
     exact⟨0,.refl _,hk,.inr (by rw[Rh B];exact zra _),fun r=>rfl⟩
    ·subst z
     exact⟨1,.refl _,hk,.inr (by rw[Tt B];exact zra _),fun r=>by rw[Zg B,Zg B]⟩
end
end yc
namespace L2
open PySem PySem.Spec PyProof.Rows
theorem zis {K:Frag}{a b:Addr}{xs ys:List V}{g:TG}{tb:TS}{D:Ends}{σ:St}{H:Hp}(hlen:xs.length=ys.length)(Pv:Nat->St->Hp->Prop)(h0:Pv 0 σ H)(hl:∀i σ H,i<=xs.length->Pv i σ H->zZ K H a xs/\zZ K H b ys)
  (hs:∀i x y σ H p,xs[i]?=some x->ys[i]?=some y->Pv i σ H->H p=none->g (.ref p) σ (upd H p (.tup [x,y])) fun σ2 H2=>tb { D with nx:=Pv (i+1),ct:=Pv (i+1),bk:=D.nx } σ2 H2)(hd:∀ σ H,Pv xs.length σ H->D.nx σ H) :
  ∃W:Nat->Nat->St->Hp->Prop,(∃m,W 0 m σ H)/\∀i m σ H,W i m σ H ->
   ((Itz K a b).stop i H/\D.nx σ H)\/((Itz K a b).go i H/\∃N:St->Hp->Prop,(∀ σ' H',N σ' H'->∃m',m'<m/\W (i+1) m' σ' H')/\∀x H',(Itz K a b).Pj i H x H'->g x σ H' fun σ2 H2=>tb { D with nx:=N,ct:=N,bk:=D.nx } σ2 H2):=by
 refine⟨fun i m σ H=>m=xs.length-i/\i<=xs.length/\Pv i σ H,⟨xs.length,by simp,zrh _,h0⟩,?_⟩
 rintro i m σ H ⟨rfl,hi,p⟩
 obtain⟨q,q'⟩:=hl i σ H hi p
 by_cases hlt:i<xs.length
 ·refine .inr ⟨⟨xs,ys,_,_,q,q',zqV hlt,zqV (l:=ys) (i:=i) (by omega)⟩,Pv (i+1),fun σ' H' p'=>⟨xs.length-(i+1),by omega,rfl,hlt,p'⟩,fun x H' y=>?_⟩
  obtain⟨pp,u,v,hu,hv,rfl,hn,rfl⟩:=y
  exact hs i u v σ H pp (hu xs q) (hv ys q') p hn
 ·have e:i=xs.length:=by omega
  subst e
  exact .inl ⟨⟨xs,ys,q,q',.inl (zra _)⟩,hd σ H p⟩
end L2
namespace Za
open PySem L2 yc
def Rn (ps:List Nat):List V:=ps.map fun p=>V.int (p:Nat)
theorem zit {os:List Str}{x:Str}:inV (.str x) (os.map V.str)=os.contains x:=by
 unfold inV
 rw[List.any_map]
 induction os with
 | nil=>rfl
 | cons a l ih =>
  rw[List.any_cons,List.contains_cons,ih]
  show((a==x)||l.contains x)=((x==a)||l.contains x)
  rw[Bool.beq_comm]
end Za
namespace L2
open PySem PySem.Spec PyProof.Rows PySem.W
section
variable {prog:Program}{w:World}{A:Around}{E:Value->Shared->Prop}{κ:SortKind}{it:Array Keyed}{s:Shared}
def Nm (prog:Program)(w:World)(A:Around)(κ:SortKind)(it:Array Keyed)(s:Shared)(lt:Nat->Nat->Bool)(N:Nat):Prop:=∀i j,i<N->j<N->∀C:Bool->Shared->Prop,C (lt i j) s->kas_cmp prog w A κ it i j C s
variable {lt:Nat->Nat->Bool}{N:Nat}
theorem zcJ {x y:Nat}{st:SortSt}{Q:Option Bool->SortSt->Shared->Prop}(hc:Nm prog w A κ it s lt N)(hx:x<N)(hy:y<N)(hk:kindOf st=κ)(q:Q (some (lt x y)) st s) :
  kasC (model prog w) A E (lt' (kas_item it x) (kas_item it y)) Q st s:=by
 rw[lt'_eq]
 refine kasC_bind (kasC_get ?_)
 rw[hk]
 exact kasC_bind (kasC_lift (wpAny_attempt (wpAny_mono (hc x y hx hy (fun c s'=>c=lt x y/\s'=s) ⟨rfl,rfl⟩) (fun c s' e=>by obtain⟨rfl,rfl⟩:=e;exact kasC_pure q) fun _ _ hF=>hF.elim)))
theorem xJ {arr:Array Keyed}{i:Nat}{v:Keyed}{st:SortSt}{Q:Keyed->SortSt->Shared->Prop}(h:arr[i]?=some v)(q:Q v st s):kasC (model prog w) A E (elem' arr i) Q st s:=by
 rw[elem'_eq,h]
 exact kasC_pure q
theorem yh {l:List Nat}{i x:Nat}(h:l[i]?=some x):(l.map (kas_item it)).toArray[i]?=some (kas_item it x):=by simp[h]
def plc (f:Nat->Bool):Nat->Nat->Nat->Nat
 | 0,l,_=>l
 | n+1,l,r=>if l >= r then l else if f ((l+r) / 2)=true then plc f n l ((l+r) / 2) else plc f n ((l+r) / 2+1) r
theorem zgW {α:Type}(P A B S:List α)(x:α):bubble (P++A++B++x::S).toArray (P.length+A.length+B.length) B.length=(P++A++x::B++S).toArray:=by
 have eL:P++A++B++x::S=(P++A)++(B++x::S):=by simp
 have eR:P++A++x::B++S=(P++A)++(x::(B++S)):=by simp
 have hl:P.length+A.length=(P++A).length:=by simp
 rw[eL,eR,hl]
 generalize P++A=P
 apply Array.ext'
 apply List.ext_getElem?
 intro k
 have e:=getElem?_bubble (xs:=(P++(B++x::S)).toArray) (src:=P.length+B.length) (by simp) B.length (by omega) k
 rw[Array.getElem?_toList,e]
 simp only[List.getElem?_toArray]
 by_cases h1:k=P.length+B.length-B.length
 ·rw[if_pos h1,List.getElem?_append_right (l₁:=P) (by omega),List.getElem?_append_right (l₁:=P) (by omega),Nat.add_sub_cancel_left,List.getElem?_append_right (by omega),Nat.sub_self,show k-P.length=0 by omega]
  rfl
 ·rw[if_neg h1]
  by_cases h2:P.length+B.length-B.length<k/\k<=P.length+B.length
  ·rw[if_pos h2,List.getElem?_append_right (l₁:=P) (by omega),List.getElem?_append_right (l₁:=P) (by omega),zrr (l₁:=B) (by omega),show k-P.length=(k-1-P.length)+1 by omega,List.getElem?_cons_succ,zrr (by omega)]
  ·rw[if_neg h2]
   by_cases h3:k<P.length
   ·rw[zrr h3,zrr h3]
   ·rw[List.getElem?_append_right (l₁:=P) (by omega),List.getElem?_append_right (l₁:=P) (by omega),List.getElem?_append_right (l₁:=B) (by omega),show k-P.length=(k-P.length-1)+1 by omega,List.getElem?_cons_succ,List.getElem?_append_right (by omega),show k-P.length-1+1-B.length=(k-P.length-1-B.length)+1 by omega,List.getElem?_cons_succ]
def gal':Bool->Keyed->Array Keyed->Nat->Nat->Nat->StateT SortSt Sem (Option Nat):=sortPriv% PySem.Builtin.gallop
def mlo':Array Keyed->Array Keyed->StateT SortSt Sem (Array Keyed):=sortPriv% PySem.Builtin.mergeLo
theorem zgX {σ:Type}{M:Model}{a:σ}{Q:PUnit->σ->Shared->Prop}{st:σ}(h:Q ⟨⟩ a s):kasC M A E (set a:StateT σ Sem PUnit) Q st s:=by
 unfold kasC;rw[StateT.run_set];exact wpAny_pure h
theorem zgY {α:Type}:∀(ms pre mid suf:List α) (k:Nat),mid.length=ms.length->(ms.zipIdx k).foldl (fun(a:Array α) (pj:α×Nat)=>a.setIfInBounds (pre.length-k+pj.2) pj.1) (pre++mid++suf).toArray=(pre++ms++suf).toArray\/pre.length<k
 | [],pre,mid,suf,k,h=>by
  have:mid=[]:=List.length_eq_zero_iff.mp h
  subst this
  exact .inl rfl
 | m::ms,pre,[],suf,k,h=>by simp at h
 | m::ms,pre,c::mid,suf,k,h=>by
  by_cases hk:pre.length<k
  ·exact .inr hk
  ·refine .inl ?_
   have h':mid.length=ms.length:=by simpa using h
   rcases zgY ms (pre++[m]) mid suf (k+1) h' with e | e
   ·rw[List.zipIdx_cons,List.foldl_cons]
    have e1:((pre++c::mid++suf).toArray).setIfInBounds (pre.length-k+k) m=(pre++[m]++mid++suf).toArray:=by
     rw[show pre.length-k+k=pre.length by omega]
     apply Array.toList_inj.mp
     simp
    dsimp only
    rw[e1]
    rw[show(pre++[m]).length-(k+1)=pre.length-k by simp] at e
    rw[e]
    simp
   ·simp at e
    omega
theorem zgZ {l P B S:List Nat}{i j:Nat}(e:l=P++B++S)(h1:i=P.length)(h2:j=P.length+B.length):((l.map (kas_item it)).toArray).extract i j=(B.map (kas_item it)).toArray:=by
 subst e h1 h2
 apply Array.toList_inj.mp
 rw[Array.toList_extract]
 simp[List.extract,List.drop_append,List.take_append]
end
end L2
namespace PySem
open Sem (wp)
namespace F
theorem zd1:typeLookup (.type "str") "__int__"=pure none:=by rw[typeLookup_type,builtinLookup_eq_fast];kernel_rfl
theorem zbC:typeLookup (.type "str") "__index__"=pure none:=by rw[typeLookup_type,builtinLookup_eq_fast];kernel_rfl
theorem zbD:typeLookup (.type "str") "__trunc__"=pure none:=by rw[typeLookup_type,builtinLookup_eq_fast];kernel_rfl
end F
theorem Qs (c:Str)(x:Nat)(n:Int)(u:Tok)(hA:(c.cps.all fun x=>decide (x<128))=true)(hL:c.cps.toList=[x])(hx:x=48/\n=0\/x=49/\n=1):Meets (Builtin.«int.__new__» ⟨[.type "int", .str c u],[]⟩) (Made.int n).spec :=
 Meets.of_wp fun prog w A R s hs=>by
  obtain⟨hp,g,d,tk,os⟩:=s
  have f1:=F.conv_sub_int
  have f2:=F.madeHere_int
  have hT:(⟨hp,g,d,tk,os⟩:Shared).TypeIs (.str c u) "str" := rfl
  have f3:=F.zd1
  have f4:=F.zbC
  have f5:=F.zbD
  repeat (any_goals (first | assumption | wp_step))
  rw[if_pos hA,hL]
  rcases hx with ⟨rfl,rfl⟩ | ⟨rfl,rfl⟩
  ·rw[if_pos (by decide)]
   refine wpAny_bind (wpAny_pure ?_)
   show wpAny _ _ (mkInt 0) _ _ _
   repeat (any_goals (first | assumption | wp_step))
   all_goals first | exact⟨_,rfl,hs⟩ | skip
  ·rw[if_pos (by decide)]
   refine wpAny_bind (wpAny_pure ?_)
   show wpAny _ _ (mkInt 1) _ _ _
   repeat (any_goals (first | assumption | wp_step))
   all_goals first | exact⟨_,rfl,hs⟩ | skip
end PySem
namespace L2
open PySem PySem.Spec PyProof.Rows PySem.W
section
variable {X:Cx}
theorem zfB:Xl X (.type "int") (fun xs H Q=>∃b:Bool,xs=[.str (zkf b)]/\Q (.int (b.toNat:Nat)) H):=by
 intro pins s σ H xs us Q I r h
 obtain⟨b,rfl,q⟩:=h
 obtain⟨u,rfl,t,rfl⟩:=vals1 r
 have m:Meets (Builtin.«int.__new__» ⟨[.type "int", .str (zkf b) t],[]⟩) (Made.int ((b.toNat:Nat):Int)).spec:=Qs (zkf b) (Za.chc b) _ t (by cases b<;>decide +kernel) rfl (by cases b;exact .inl ⟨rfl,rfl⟩;exact .inr ⟨rfl,rfl⟩)
 exact call_int_1 m (show(Made.int ((b.toNat:Nat):Int)).post _ s from ⟨rfl,⟨.int (b.toNat:Nat),H,I.tok _,⟨_,rfl⟩,q⟩⟩)
end
structure Tot (lt:Nat->Nat->Bool)(N:Nat):Prop where
 tr:∀{i j k},i<N->j<N->k<N->lt i j=true->lt j k=true->lt i k=true
 ne:∀{i j},i<N->j<N->i≠j->lt i j=false->lt j i=true
 as:∀{i j},i<N->j<N->lt i j=true->lt j i=false
def yP (κ:SortKind)(it:Array Keyed)(l:List Nat)(pend:Array (Nat×Nat×Nat))(g:Nat):SortSt:=SortSt.mk' κ (l.map (kas_item it)).toArray pend g none
abbrev Up (lt:Nat->Nat->Bool)(l:List Nat):Prop:=l.Pairwise fun a b=>lt a b=true
section
variable {prog:Program}{w:World}{A:Around}{E:Value->Shared->Prop}{κ:SortKind}{it:Array Keyed}{s:Shared}
variable {lt:Nat->Nat->Bool}{N:Nat}
theorem K6 {l:List Nat}{pend:Array (Nat×Nat×Nat)}{g i j x y:Nat}{Q:Option Bool->SortSt->Shared->Prop}(hc:Nm prog w A κ it s lt N)(hi:l[i]?=some x)(hj:l[j]?=some y)(hx:x<N)(hy:y<N)
  (q:Q (some (lt x y)) (yP κ it l pend g) s):kasC (model prog w) A E (ltAt' i j) Q (yP κ it l pend g) s:=by
 rw[ltAt'_eq]
 refine kasC_bind (kasC_get ?_)
 exact kasC_bind (xJ (yh hi) (kasC_bind (xJ (yh hj) (zcJ hc hx hy rfl q))))
theorem zlz {α σ:Type}{M:Model}{m:StateT σ Sem α}{Q Q':α->σ->Shared->Prop}{st:σ}{s:Shared}(h:kasC M A E m Q st s)(k:∀a st' s',Q a st' s'->Q' a st' s'):kasC M A E m Q' st s:=wpAny_mono h (fun r s' z=>k _ _ _ z) fun _ _ e=>e
theorem ziu {l:List Nat}{n x y:Nat}(T:Tot lt N)(hN:∀x∈l,x<N)(h:Up lt (l.take n))(h1:1<=n)(hy:l[n-1]?=some y)(hx:l[n]?=some x)(hxy:lt y x=true):Up lt (l.take (n+1)):=by
 rw[zY hx]
 refine List.pairwise_append.mpr ⟨h,List.pairwise_singleton _ _,fun a ha b hb=>?_⟩
 rw[List.mem_singleton.mp hb]
 have e:l.take n=l.take (n-1)++[y]:=by
  have:=zY hy
  rw[show n-1+1=n by omega] at this
  exact this
 rw[e] at ha h
 rcases List.mem_append.mp ha with z | z
 ·have:=(List.pairwise_append.mp h).2.2 a z y zre
  exact T.tr (hN a (List.mem_of_mem_take z)) (hN y (zqZ hy)) (hN x (zqZ hx)) this hxy
 ·rw[List.mem_singleton.mp z];exact hxy
theorem zje {P S:List Nat}{pend:Array (Nat×Nat×Nat)}{g lo nrem:Nat}(T:Tot lt N)(hc:Nm prog w A κ it s lt N)(hP:P.length=lo)(hS:S.length=nrem)(hN:∀x∈S,x<N)(nd:S.Nodup) :
  ∀(f n:Nat) (ls:List Nat),ls.length=f->n+f=nrem->1<=n->Up lt (S.take n)->∀{R:Option (Option Nat)×Nat->SortSt->Shared->Prop} {body:Nat->Option (Option Nat)×Nat->StateT SortSt Sem (ForInStep (Option (Option Nat)×Nat))},
   (∀m,n<=m->m<=nrem->Up lt (S.take m)->(m<nrem->∃x y,S[m]?=some x/\S[m-1]?=some y/\lt x y=true)->R (none,m) (yP κ it (P++S) pend g) s) ->
   (∀z m (R':ForInStep (Option (Option Nat)×Nat)->SortSt->Shared->Prop),kasC (model prog w) A E (ltAt' (lo+m) (lo+m-1)) (fun r st' s'=>match r with | some true=>R' (.done (none,m)) st' s' | some false=>R' (.yield (none,m+1)) st' s' | none=>False) (yP κ it (P++S) pend g) s->kasC (model prog w) A E (body z (none,m)) R' (yP κ it (P++S) pend g) s) ->
   kasC (model prog w) A E (forIn ls (none,n) body) R (yP κ it (P++S) pend g) s:=by
 intro f
 induction f with
 | zero =>
  intro n ls hl hn h1 up R body hR hb
  cases ls with
  | nil=>exact kasC_nil (hR n (zra _) (by omega) up fun h=>by omega)
  | cons _ _=>simp at hl
 | succ f ih =>
  intro n ls hl hn h1 up R body hR hb
  cases ls with
  | nil=>simp at hl
  | cons z ls =>
   have hl':ls.length=f:=by simpa using hl
   obtain⟨x,hx⟩:∃x,S[n]?=some x:=⟨_,zqV (by omega)⟩
   obtain⟨y,hy⟩:∃y,S[n-1]?=some y:=⟨_,zqV (by omega)⟩
   have hx':(P++S)[lo+n]?=some x:=by rw[List.getElem?_append_right (by omega),show lo+n-P.length=n by omega];exact hx
   have hy':(P++S)[lo+n-1]?=some y:=by rw[List.getElem?_append_right (by omega),show lo+n-1-P.length=n-1 by omega];exact hy
   have xN:=hN x (zqZ hx)
   have yN:=hN y (zqZ hy)
   refine kasC_cons (hb z n _ (K6 hc hx' hy' xN yN ?_))
   cases e:lt x y with
   | true=>exact hR n (zra _) (by omega) up fun _=>⟨x,y,hx,hy,e⟩
   | false =>
    have hne:x≠y:=fun z=>by
     subst z
     have:=(List.getElem?_inj (by omega:n<S.length) nd).mp (hx.trans hy.symm)
     omega
    refine ih (n+1) ls hl' (by omega) (by omega) (ziu T hN up h1 hy hx (T.ne xN yN hne e)) (fun m a b c d=>hR m (by omega) b c d) hb
theorem zg0 {P B S:List Nat}{i j:Nat}(hi:i=P.length)(hj:j=P.length+B.length):(mirror ((P++B++S).map (kas_item it)).toArray i j ((j-i) / 2))=((P++B.reverse++S).map (kas_item it)).toArray:=by
 subst hi hj
 apply Array.ext'
 apply List.ext_getElem?
 intro k
 have e:=getElem?_mirror_all (xs:=((P++B++S).map (kas_item it)).toArray) (i:=P.length) (j:=P.length+B.length) (by simp) k
 rw[Array.getElem?_toList,e]
 simp only[List.getElem?_toArray,zqW]
 have g:(P++B.reverse++S)[k]?=if P.length<=k/\k<P.length+B.length then (P++B++S)[P.length+(P.length+B.length)-1-k]? else (P++B++S)[k]?:=by
  by_cases h1:k<P.length
  ·rw[if_neg (by omega),List.append_assoc,List.append_assoc,zrr h1,zrr h1]
  ·by_cases h2:k<P.length+B.length
   ·have hr:B.reverse.length=B.length:=List.length_reverse
    rw[if_pos ⟨by omega,h2⟩,List.append_assoc,List.append_assoc,List.getElem?_append_right (l₁:=P) (by omega),List.getElem?_append_right (l₁:=P) (by omega),zrr (l₁:=B.reverse) (by omega),zrr (l₁:=B) (by omega),List.getElem?_reverse (by omega)]
    congr 1
    omega
   ·rw[if_neg (by omega),List.getElem?_append_right (l₁:=P++B.reverse) (by simp;omega),List.getElem?_append_right (l₁:=P++B) (by simp;omega)]
    simp
 rw[g]
 by_cases h3:P.length<=k/\k<P.length+B.length
 ·rw[if_pos h3,if_pos h3]
 ·rw[if_neg h3,if_neg h3]
theorem zaS {l:List Nat}{n x y:Nat}(T:Tot lt N)(hN:∀x∈l,x<N)(h:(l.take n).Pairwise fun a b=>lt b a=true)(h1:1<=n)(hy:l[n-1]?=some y)(hx:l[n]?=some x)(hxy:lt x y=true):(l.take (n+1)).Pairwise fun a b=>lt b a=true:=by
 rw[zY hx]
 refine List.pairwise_append.mpr ⟨h,List.pairwise_singleton _ _,fun a ha b hb=>?_⟩
 rw[List.mem_singleton.mp hb]
 have e:l.take n=l.take (n-1)++[y]:=by
  have:=zY hy
  rw[show n-1+1=n by omega] at this
  exact this
 rw[e] at ha h
 rcases List.mem_append.mp ha with z | z
 ·have:=(List.pairwise_append.mp h).2.2 a z y zre
  exact T.tr (hN x (zqZ hx)) (hN y (zqZ hy)) (hN a (List.mem_of_mem_take z)) hxy this
 ·rw[List.mem_singleton.mp z];exact hxy
theorem ziv {P S:List Nat}{pend:Array (Nat×Nat×Nat)}{g lo nrem:Nat}{Q:Option Nat->SortSt->Shared->Prop}(T:Tot lt N)(hc:Nm prog w A κ it s lt N)(hP:P.length=lo)(hS:S.length=nrem)(h1:1<=nrem)(hN:∀x∈S,x<N)(nd:S.Nodup)
  (q:∀n S',1<=n->n<=nrem->S'.Perm S->Up lt (S'.take n)->Q (some n) (yP κ it (P++S') pend g) s):kasC (model prog w) A E (countRun' lo nrem) Q (yP κ it (P++S) pend g) s:=by
 have up1:Up lt (S.take 1):=by
  cases S with
  | nil=>exact .nil
  | cons a l=>exact List.pairwise_singleton _ _
 have atS:∀{S:List Nat} {m x:Nat},S[m]?=some x->(P++S)[lo+m]?=some x:=fun {S m x} h=>by rw[List.getElem?_append_right (by omega),show lo+m-P.length=m by omega];exact h
 rw[countRun'_eq]
 refine kasC_bind (kasC_range ?_)
 refine zje T hc hP hS hN nd (nrem-1) 1 _ (by rw[List.length_range']) (by omega) (zra _) up1 (fun m hm1 hm2 up ex=>?_) (fun z m R' h=>?_)
 ·dsimp only
  by_cases e1:(m==nrem)=true
  ·rw[if_pos e1]
   exact kasC_pure (q m S hm1 hm2 (List.Perm.refl _) up)
  ·rw[if_neg e1]
   have hlt:m<nrem:=Nat.lt_of_le_of_ne hm2 fun z=>e1 (by rw[z];exact beq_self_eq_true _)
   by_cases e2:m > 1
   ·rw[if_pos e2]
    obtain⟨x,hx⟩:∃x,S[0]?=some x:=⟨_,zqV (by omega)⟩
    obtain⟨y,hy⟩:∃y,S[m-1]?=some y:=⟨_,zqV (by omega)⟩
    have xN:=hN x (zqZ hx)
    have yN:=hN y (zqZ hy)
    have hxy:lt x y=true:=by
     have:=List.pairwise_iff_getElem.mp up 0 (m-1) (by rw[zri];omega) (by rw[zri];omega) (by omega)
     rw[List.getElem_take,List.getElem_take] at this
     have ex:S[0]'(by omega)=x:=by rw[zqV (by omega)] at hx;exact zrp hx
     have ey:S[m-1]'(by omega)=y:=by rw[zqV (by omega)] at hy;exact zrp hy
     rw[ex,ey] at this
     exact this
    have hy':=atS hy
    refine kasC_bind (K6 hc (by have:=atS hx;rw[Nat.add_zero] at this;exact this) (show(P++S)[lo+m-1]?=some y by rw[show lo+m-1=lo+(m-1) by omega];exact hy') xN yN ?_)
    rw[hxy]
    exact kasC_pure (q m S hm1 hm2 (List.Perm.refl _) up)
   ·rw[if_neg e2]
    obtain rfl:m=1:=by omega
    obtain⟨x1,x0,hx1,hx0,zlA⟩:=ex hlt
    refine kasC_bind (kasC_lift (wpAny_rule ?_))
    refine kasC_bind (kasC_range ?_)
    have dn2:(S.take 2).Pairwise fun a b=>lt b a=true:=zaS T hN (n:=1) (by
     cases S with
     | nil=>exact .nil
     | cons a l=>exact List.pairwise_singleton _ _) (zra _) hx0 hx1 zlA
    have desc:∀(f n:Nat) (ls:List Nat),ls.length=f->n+f=nrem->1<=n->((S.take n).Pairwise fun a b=>lt b a=true)->∀{R:Option (Option Nat)×Nat×Nat->SortSt->Shared->Prop} {body:Nat->Option (Option Nat)×Nat×Nat->StateT SortSt Sem (ForInStep (Option (Option Nat)×Nat×Nat))},
      (∀m,n<=m->m<=nrem->((S.take m).Pairwise fun a b=>lt b a=true)->R (none,m,0) (yP κ it (P++S) pend g) s) ->
      (∀z m x y (R':ForInStep (Option (Option Nat)×Nat×Nat)->SortSt->Shared->Prop),1<=m->m<nrem->S[m]?=some x->S[m-1]?=some y->(lt x y=true->R' (.yield (none,m+1,0)) (yP κ it (P++S) pend g) s)->(lt x y=false->R' (.done (none,m,0)) (yP κ it (P++S) pend g) s)->kasC (model prog w) A E (body z (none,m,0)) R' (yP κ it (P++S) pend g) s) ->
      kasC (model prog w) A E (forIn ls (none,n,0) body) R (yP κ it (P++S) pend g) s:=by
     intro f
     induction f with
     | zero =>
      intro n ls hl hn h1 dn R body hR hb
      cases ls with
      | nil=>exact kasC_nil (hR n (zra _) (by omega) dn)
      | cons _ _=>simp at hl
     | succ f ih =>
      intro n ls hl hn h1 dn R body hR hb
      cases ls with
      | nil=>simp at hl
      | cons z ls =>
       have hl':ls.length=f:=by simpa using hl
       obtain⟨x,hx⟩:∃x,S[n]?=some x:=⟨_,zqV (by omega)⟩
       obtain⟨y,hy⟩:∃y,S[n-1]?=some y:=⟨_,zqV (by omega)⟩
       refine kasC_cons (hb z n x y _ h1 (by omega) hx hy (fun e=>?_) fun e=>?_)
       ·exact ih (n+1) ls hl' (by omega) (by omega) (zaS T hN dn h1 hy hx e) (fun m a b c=>hR m (by omega) b c) hb
       ·exact hR n (zra _) (by omega) dn
    refine desc (nrem-2) 2 _ (by rw[List.length_range']) (by omega) (by decide) dn2 (fun m hm1 hm2 dn=>?_) (fun z m x y R' a1 a2 hx hy ht hf=>?_)
    ·dsimp only
     rw[if_neg (by decide)]
     have eS:P++S=P++S.take m++S.drop m:=by rw[List.append_assoc,List.take_append_drop]
     have lm:(S.take m).length=m:=by rw[zri];omega
     have em:=zg0 (it:=it) (P:=P) (B:=S.take m) (S:=S.drop m) (i:=lo) (j:=lo+m) hP.symm (by rw[lm,hP])
     rw[reverseSlice'_eq]
     refine kasC_bind (kasC_modify ?_)
     have est:setArr (yP κ it (P++S) pend g) (mirror (arrOf (yP κ it (P++S) pend g)) lo (lo+m) ((lo+m-lo) / 2))=yP κ it (P++((S.take m).reverse++S.drop m)) pend g:=by
      show SortSt.mk' κ (mirror ((P++S).map (kas_item it)).toArray lo (lo+m) ((lo+m-lo) / 2)) pend g none=SortSt.mk' κ ((P++((S.take m).reverse++S.drop m)).map (kas_item it)).toArray pend g none
      rw[eS,em,List.append_assoc P]
     rw[est]
     have pS:((S.take m).reverse++S.drop m).Perm S:=by
      have:=(List.reverse_perm (S.take m)).append_right (S.drop m)
      rw[List.take_append_drop] at this
      exact this
     have hN':∀x∈(S.take m).reverse++S.drop m,x<N:=fun x hx=>hN x (pS.mem_iff.mp hx)
     have nd':((S.take m).reverse++S.drop m).Nodup:=pS.nodup_iff.mpr nd
     have up':Up lt (((S.take m).reverse++S.drop m).take m):=by
      rw[List.take_left' (by rw[List.length_reverse];exact lm)]
      exact List.pairwise_reverse.mpr dn
     refine kasC_bind (kasC_range ?_)
     refine zje (nrem:=nrem) T hc hP (by rw[pS.length_eq];exact hS) hN' nd' (nrem-m) m _ (by rw[List.length_range']) (by omega) (by omega) up' (fun m2 b1 b2 up2 _=>?_) (fun z m R' h=>?_)
     ·dsimp only
      exact kasC_pure (q m2 _ (by omega) b2 pS up2)
     ·refine kasC_bind (zlz h fun r st' s' hr=>?_)
      match r,hr with
      | some true,hr=>exact kasC_pure hr
      | some false,hr=>exact kasC_pure hr
    ·have xN:=hN x (zqZ hx)
     have yN:=hN y (zqZ hy)
     have hx':=atS hx
     have hy':(P++S)[lo+m-1]?=some y:=by rw[show lo+m-1=lo+(m-1) by omega];exact atS hy
     dsimp only
     refine kasC_bind (K6 hc hx' hy' xN yN ?_)
     cases e:lt x y with
     | true =>
      dsimp only
      rw[if_pos rfl,if_neg (by decide)]
      exact kasC_pure (ht e)
     | false =>
      dsimp only
      rw[if_neg zqY]
      have hne:x≠y:=fun z=>by
       subst z
       have:=(List.getElem?_inj (by omega:m<S.length) nd).mp (hx.trans hy.symm)
       omega
      refine kasC_bind (K6 hc hy' hx' yN xN ?_)
      rw[T.ne xN yN hne e]
      exact kasC_pure (hf e)
 ·refine kasC_bind (zlz h fun r st' s' hr=>?_)
  match r,hr with
  | some true,hr=>exact kasC_pure hr
  | some false,hr=>exact kasC_pure hr
theorem zlB {l:Nat->List Nat}{pend:Array (Nat×Nat×Nat)}{g lo n ok:Nat}{Q:Bool->SortSt->Shared->Prop}(hc:Nm prog w A κ it s lt N)(hn:max ok 1<=n)
  (hs:∀k,max ok 1<=k->k<n->∃(x:Nat) (gg:Nat->Nat),(l k)[lo+k]?=some x/\x<N/\(∀m,m<k->(l k)[lo+m]?=some (gg m)/\gg m<N) /\
   bubble (l k).toArray (lo+k) (lo+k-(lo+plc (fun m=>lt x (gg m)) k 0 k))=(l (k+1)).toArray)
  (q:Q true (yP κ it (l n) pend g) s):kasC (model prog w) A E (binarySort' lo n ok) Q (yP κ it (l (max ok 1)) pend g) s:=by
 rw[binarySort'_eq]
 refine kasC_bind (kasC_range ?_)
 generalize ha:max ok 1=a at hn hs
 have main:∀(f k:Nat),k+f=n->a<=k->∀{R:Option Bool×Unit->SortSt->Shared->Prop} {body:Nat->Option Bool×Unit->StateT SortSt Sem (ForInStep (Option Bool×Unit))},R (none,()) (yP κ it (l n) pend g) s ->
   (∀(k:Nat) (R':ForInStep (Option Bool×Unit)->SortSt->Shared->Prop),a<=k->k<n->R' (.yield (none,())) (yP κ it (l (k+1)) pend g) s->kasC (model prog w) A E (body k (none,())) R' (yP κ it (l k) pend g) s) ->
   kasC (model prog w) A E (forIn (List.range' k f) (none,()) body) R (yP κ it (l k) pend g) s:=by
  intro f
  induction f with
  | zero =>
   intro k hk _ R body hR _
   obtain rfl:k=n:=by omega
   exact kasC_nil hR
  | succ f ih =>
   intro k hk hak R body hR hb
   rw[List.range'_succ]
   exact kasC_cons (hb k _ hak (by omega) (ih (k+1) (by omega) (by omega) hR hb))
 refine main (n-a) a (by omega) (zra _) (kasC_pure q) fun k R' hak hkn hR'=>?_
 obtain⟨x,gg,hx,hxN,hg,zno⟩:=hs k hak hkn
 refine kasC_bind (kasC_range ?_)
 have place:∀(f u v:Nat) (ls:List Nat),ls.length=f->v<=k->v-u<=f->∀{R:Option Bool×Nat×Nat->SortSt->Shared->Prop} {body:Nat->Option Bool×Nat×Nat->StateT SortSt Sem (ForInStep (Option Bool×Nat×Nat))},
   (∀v',R (none,plc (fun m=>lt x (gg m)) f u v,v') (yP κ it (l k) pend g) s) ->
   (∀y u v (R':ForInStep (Option Bool×Nat×Nat)->SortSt->Shared->Prop),u >= v->R' (.done (none,u,v)) (yP κ it (l k) pend g) s->kasC (model prog w) A E (body y (none,u,v)) R' (yP κ it (l k) pend g) s) ->
   (∀y u v (R':ForInStep (Option Bool×Nat×Nat)->SortSt->Shared->Prop),u<v->v<=k->R' (.yield (if lt x (gg ((u+v) / 2))=true then (none,u,(u+v) / 2) else (none,(u+v) / 2+1,v))) (yP κ it (l k) pend g) s->kasC (model prog w) A E (body y (none,u,v)) R' (yP κ it (l k) pend g) s) ->
   kasC (model prog w) A E (forIn ls (none,u,v) body) R (yP κ it (l k) pend g) s:=by
  intro f
  induction f with
  | zero =>
   intro u v ls hl hv hf R body hR _ _
   cases ls with
   | nil=>exact kasC_nil (hR v)
   | cons _ _=>simp at hl
  | succ f ih =>
   intro u v ls hl hv hf R body hR b1 b2
   cases ls with
   | nil=>simp at hl
   | cons y ls =>
    have hl':ls.length=f:=by simpa using hl
    unfold plc at hR
    by_cases hge:u >= v
    ·rw[if_pos hge] at hR
     exact kasC_cons (b1 y u v _ hge (hR v))
    ·rw[if_neg hge] at hR
     refine kasC_cons (b2 y u v _ (by omega) hv ?_)
     cases hlt:lt x (gg ((u+v) / 2)) with
     | true =>
      simp only[hlt,if_true] at hR ⊢
      exact ih u ((u+v) / 2) ls hl' (by omega) (by omega) hR b1 b2
     | false =>
      simp only[hlt,Bool.false_eq_true,if_false] at hR ⊢
      exact ih ((u+v) / 2+1) v ls hl' hv (by omega) hR b1 b2
 refine place k 0 k _ (by rw[List.length_range'];omega) (zra _) (by omega) (fun v'=>?_) (fun y u v R2 hge hR2=>?_) fun y u v R2 hlt hv hR2=>?_
 ·show kasC _ _ _ (do moveDown' (lo+k) (lo+plc (fun m=>lt x (gg m)) k 0 k);pure (ForInStep.yield (none,()))) _ _ _
  rw[moveDown'_eq]
  refine kasC_bind (kasC_modify (kasC_pure ?_))
  have e:setArr (yP κ it (l k) pend g) (bubble (arrOf (yP κ it (l k) pend g)) (lo+k) (lo+k-(lo+plc (fun m=>lt x (gg m)) k 0 k)))=yP κ it (l (k+1)) pend g:=by
   have e1:bubble ((l k).map (kas_item it)).toArray (lo+k) (lo+k-(lo+plc (fun m=>lt x (gg m)) k 0 k))=(bubble (l k).toArray (lo+k) (lo+k-(lo+plc (fun m=>lt x (gg m)) k 0 k))).map (kas_item it):=by
    rw[<-List.map_toArray]
    exact kas_swaps_map (kas_item it) (fun i=>lo+k-i) (fun i=>lo+k-i-1) _ _
   show SortSt.mk' κ (bubble ((l k).map (kas_item it)).toArray (lo+k) _) pend g none=SortSt.mk' κ ((l (k+1)).map (kas_item it)).toArray pend g none
   rw[e1,zno,List.map_toArray]
  rw[e]
  exact hR'
 ·dsimp only
  rw[if_pos hge]
  exact kasC_pure hR2
 ·dsimp only
  rw[if_neg (by omega)]
  obtain⟨g1,g2⟩:=hg ((u+v) / 2) (by omega)
  refine kasC_bind (K6 hc hx g1 hxN g2 ?_)
  cases hb:lt x (gg ((u+v) / 2)) with
  | true =>
   simp only[hb,if_true] at hR2 ⊢
   exact kasC_pure hR2
  | false =>
   simp only[hb,Bool.false_eq_true,if_false] at hR2 ⊢
   exact kasC_pure hR2
theorem K7 {f:Nat->Bool}{k:Nat}(mono:∀m m',m<=m'->m'<k->f m=true->f m'=true):∀(n u v:Nat),v-u<=n->u<=v->v<=k->(∀m,m<u->f m=false)->(∀m,v<=m->m<k->f m=true) ->
  plc f n u v<=k/\(∀m,m<plc f n u v->f m=false)/\∀m,plc f n u v<=m->m<k->f m=true
 | 0,u,v,hn,huv,hv,h1,h2=>by
  obtain rfl:u=v:=by omega
  exact⟨hv,h1,h2⟩
 | n+1,u,v,hn,huv,hv,h1,h2=>by
  unfold plc
  by_cases hge:u >= v
  ·rw[if_pos hge]
   obtain rfl:u=v:=by omega
   exact⟨hv,h1,h2⟩
  ·rw[if_neg hge]
   by_cases hf:f ((u+v) / 2)=true
   ·rw[if_pos hf]
    exact K7 mono n u _ (by omega) (by omega) (by omega) h1 fun m a b=>mono _ m a b hf
   ·rw[if_neg hf]
    refine K7 mono n _ v (by omega) (by omega) hv (fun m a=>?_) h2
    cases e:f m with
    | false=>rfl
    | true=>exact absurd (mono m ((u+v) / 2) (by omega) (by omega) e) hf
def zfD (lt:Nat->Nat->Bool)(S:List Nat)(k:Nat):List Nat:=S.take (plc (fun m=>lt (S.getD k 0) (S.getD m 0)) k 0 k)++S.getD k 0::(S.take k).drop (plc (fun m=>lt (S.getD k 0) (S.getD m 0)) k 0 k)++S.drop (k+1)
theorem zcK {S:List Nat}{k:Nat}(T:Tot lt N)(hN:∀x∈S,x<N)(nd:S.Nodup)(hk:k<S.length)(up:Up lt (S.take k)) :
  (zfD lt S k).Perm S/\Up lt ((zfD lt S k).take (k+1))/\plc (fun m=>lt (S.getD k 0) (S.getD m 0)) k 0 k<=k:=by
 have gd:∀m,m<S.length->S[m]?=some (S.getD m 0):=fun m hm=>by rw[zq7,zqV hm];rfl
 have hx:=gd k hk
 have xN:=hN _ (zqZ hx)
 have srt:∀m m',m<m'->m'<k->lt (S.getD m 0) (S.getD m' 0)=true:=fun m m' a b=>by
  have:=List.pairwise_iff_getElem.mp up m m' (by rw[zri];omega) (by rw[zri];omega) a
  rw[List.getElem_take,List.getElem_take] at this
  have e1:=gd m (by omega)
  have e2:=gd m' (by omega)
  rw[zqV (by omega)] at e1 e2
  rw[zrp e1,zrp e2] at this
  exact this
 obtain⟨p1,p2,p3⟩:=K7 (f:=fun m=>lt (S.getD k 0) (S.getD m 0)) (k:=k) (fun m m' a b h=>by
  rcases Nat.lt_or_eq_of_le a with z | z
  ·exact T.tr xN (hN _ (zqZ (gd m (by omega)))) (hN _ (zqZ (gd m' (by omega)))) h (srt m m' z b)
  ·rw[<-z];exact h) k 0 k (by omega) (by omega) (zra _) (fun m h=>by omega) (fun m a b=>by omega)
 unfold zfD
 generalize plc (fun m=>lt (S.getD k 0) (S.getD m 0)) k 0 k=p at p1 p2 p3
 have eS:S=S.take p++((S.take k).drop p++(S.getD k 0::S.drop (k+1))):=by
  have h1:S.take k++(S.getD k 0::S.drop (k+1))=S:=by
   have e:=List.take_append_drop k S
   rw[List.drop_eq_getElem_cons hk] at e
   have e2:=hx
   rw[zqV hk] at e2
   rw[<-zrp e2]
   exact e
  have h2:S.take p++(S.take k).drop p=S.take k:=by
   have:=List.take_append_drop p (S.take k)
   rw[List.take_take,Nat.min_eq_left p1] at this
   exact this
  rw[<-List.append_assoc,h2,h1]
 have lp:(S.take p).length=p:=by rw[zri];omega
 have ld:((S.take k).drop p).length=k-p:=by rw[List.length_drop,zri];omega
 refine⟨?_,?_,p1⟩
 ·conv=>rhs;rw[eS]
  rw[List.append_assoc]
  refine List.Perm.append_left _ ?_
  have:=(List.perm_middle (a:=S.getD k 0) (l₁:=(S.take k).drop p) (l₂:=S.drop (k+1))).symm
  simpa using this
 ·have e:(S.take p++S.getD k 0::(S.take k).drop p++S.drop (k+1)).take (k+1)=S.take p++S.getD k 0::(S.take k).drop p:=List.take_left' (by rw[zq2,zq6,lp,ld];omega)
  rw[e]
  have mA:∀a∈S.take p,lt a (S.getD k 0)=true:=fun a ha=>by
   obtain⟨m,hm,rfl⟩:=zrA ha
   rw[lp] at hm
   rw[List.getElem_take]
   have e1:=gd m (by omega)
   rw[zqV (by omega)] at e1
   have ev:=zrp e1
   have hne:S.getD k 0≠S.getD m 0:=fun z=>by
    have:=(List.getElem?_inj hk nd).mp ((gd k hk).trans ((congrArg some z).trans (gd m (by omega)).symm))
    omega
   have yN:=hN _ (zqZ (gd m (by omega)))
   rw[ev]
   exact T.ne xN yN hne (p2 m hm)
  have mB:∀b∈(S.take k).drop p,lt (S.getD k 0) b=true:=fun b hb=>by
   obtain⟨m,hm,rfl⟩:=zrA hb
   rw[ld] at hm
   rw[List.getElem_drop,List.getElem_take]
   have e1:=gd (p+m) (by omega)
   rw[zqV (by omega)] at e1
   rw[zrp e1]
   exact p3 (p+m) (by omega) (by omega)
  have up':Up lt (S.take p++(S.take k).drop p):=by
   have:=List.take_append_drop p (S.take k)
   rw[List.take_take,Nat.min_eq_left p1] at this
   rw[this]
   exact up
  obtain⟨u1,u2,u3⟩:=List.pairwise_append.mp up'
  refine List.pairwise_append.mpr ⟨u1,List.pairwise_cons.mpr ⟨mB,u2⟩,fun a ha b hb=>?_⟩
  rcases List.mem_cons.mp hb with z | z
  ·rw[z];exact mA a ha
  ·exact u3 a ha b z
def insI (lt:Nat->Nat->Bool)(S:List Nat)(a:Nat):Nat->List Nat
 | 0=>S
 | j+1=>zfD lt (insI lt S a j) (a+j)
theorem zkh {P S:List Nat}{pend:Array (Nat×Nat×Nat)}{g lo n ok:Nat}{Q:Bool->SortSt->Shared->Prop}(T:Tot lt N)(hc:Nm prog w A κ it s lt N)(hP:P.length=lo)(hok:1<=ok)(hon:ok<=n)(hn:n<=S.length)(hN:∀x∈S,x<N)(nd:S.Nodup)(up:Up lt (S.take ok))
  (q:∀S',S'.Perm S->Up lt (S'.take n)->Q true (yP κ it (P++S') pend g) s):kasC (model prog w) A E (binarySort' lo n ok) Q (yP κ it (P++S) pend g) s:=by
 have em:max ok 1=ok:=by omega
 have inv:∀j,ok+j<=n->(insI lt S ok j).Perm S/\Up lt ((insI lt S ok j).take (ok+j)):=fun j=>by
  induction j with
  | zero=>exact fun _=>⟨List.Perm.refl _,up⟩
  | succ j ih =>
   intro h
   obtain⟨a1,a2⟩:=ih (by omega)
   obtain⟨b1,b2,_⟩:=zcK T (fun x hx=>hN x (a1.mem_iff.mp hx)) (a1.nodup_iff.mpr nd) (k:=ok+j) (by rw[a1.length_eq];omega) a2
   exact⟨b1.trans a1,b2⟩
 have e0:P++S=(fun k=>P++insI lt S ok (k-ok)) (max ok 1):=by
  show P++S=P++insI lt S ok (max ok 1-ok)
  rw[em,Nat.sub_self]
  rfl
 rw[e0]
 refine zlB (l:=fun k=>P++insI lt S ok (k-ok)) hc (by omega) (fun k hk1 hk2=>?_) ?_
 ·obtain⟨j,rfl⟩:∃j,k=ok+j:=⟨k-ok,by omega⟩
  obtain⟨a1,a2⟩:=inv j (by omega)
  have la:=a1.length_eq
  have hNa:∀x∈insI lt S ok j,x<N:=fun x hx=>hN x (a1.mem_iff.mp hx)
  have nda:=a1.nodup_iff.mpr nd
  obtain⟨b1,b2,b3⟩:=zcK T hNa nda (k:=ok+j) (by rw[la];omega) a2
  have e1:ok+j-ok=j:=by omega
  have e2:ok+j+1-ok=j+1:=by omega
  rw[e1,e2]
  have gd:∀m,m<(insI lt S ok j).length->(insI lt S ok j)[m]?=some ((insI lt S ok j).getD m 0):=fun m hm=>by rw[zq7,zqV hm];rfl
  have atA:∀m,m<(insI lt S ok j).length->(P++insI lt S ok j)[lo+m]?=some ((insI lt S ok j).getD m 0):=fun m hm=>by rw[List.getElem?_append_right (by omega),show lo+m-P.length=m by omega];exact gd m hm
  refine⟨(insI lt S ok j).getD (ok+j) 0,fun m=>(insI lt S ok j).getD m 0,atA _ (by omega),hNa _ (zqZ (gd _ (by omega))),fun m hm=>⟨atA m (by omega),hNa _ (zqZ (gd m (by omega)))⟩,?_⟩
  show bubble (P++insI lt S ok j).toArray (lo+(ok+j)) _=(P++zfD lt (insI lt S ok j) (ok+j)).toArray
  unfold zfD
  generalize plc (fun m=>lt ((insI lt S ok j).getD (ok+j) 0) ((insI lt S ok j).getD m 0)) (ok+j) 0 (ok+j)=p at b3
  generalize insI lt S ok j=B at *
  have hk:ok+j<B.length:=by omega
  have eB:B=B.take p++(B.take (ok+j)).drop p++B.getD (ok+j) 0::B.drop (ok+j+1):=by
   have h1:B.take (ok+j)++(B.getD (ok+j) 0::B.drop (ok+j+1))=B:=by
    have e:=List.take_append_drop (ok+j) B
    rw[List.drop_eq_getElem_cons hk] at e
    have e2:=gd (ok+j) hk
    rw[zqV hk] at e2
    rw[<-zrp e2]
    exact e
   have h2:B.take p++(B.take (ok+j)).drop p=B.take (ok+j):=by
    have:=List.take_append_drop p (B.take (ok+j))
    rw[List.take_take,Nat.min_eq_left b3] at this
    exact this
   rw[h2,h1]
  have bb:=zgW P (B.take p) ((B.take (ok+j)).drop p) (B.drop (ok+j+1)) (B.getD (ok+j) 0)
  have lp:(B.take p).length=p:=by rw[zri];omega
  have ld:((B.take (ok+j)).drop p).length=ok+j-p:=by rw[List.length_drop,zri];omega
  rw[lp,ld,show P.length+p+(ok+j-p)=lo+(ok+j) by omega] at bb
  rw[show lo+(ok+j)-(lo+p)=ok+j-p by omega]
  conv=>lhs;rw[eB]
  rw[<-List.append_assoc,<-List.append_assoc,bb]
  simp
 ·obtain⟨a1,a2⟩:=inv (n-ok) (by omega)
  rw[show ok+(n-ok)=n by omega] at a2
  exact q _ a1 a2
theorem zcL {left:Bool}{x yv:Nat}{arr:Array Keyed}{i:Nat}{st:SortSt}{Q:Option Bool->SortSt->Shared->Prop}(T:Tot lt N)(hc:Nm prog w A κ it s lt N)(hk:kindOf st=κ)(hx:x<N)(hy:yv<N)(hne:yv≠x)(h:arr[i]?=some (kas_item it yv))(q:Q (some (lt yv x)) st s) :
  kasC (model prog w) A E (do
   let z <-elem' arr i
   if left=true then lt' z (kas_item it x) else do
    let r <-lt' (kas_item it x) z
    pure (Option.map (fun b=>!b) r)) Q st s:=by
 refine kasC_bind (xJ h ?_)
 cases left with
 | true =>
  rw[if_pos rfl]
  exact zcJ hc hy hx hk q
 | false =>
  rw[if_neg zqY]
  refine kasC_bind (zcJ hc hx hy hk (kasC_pure ?_))
  have e:(!lt x yv)=lt yv x:=by
   cases e:lt x yv with
   | true=>rw[T.as hx hy e];rfl
   | false=>rw[T.ne hx hy (Ne.symm hne) e];rfl
  show Q (some (!lt x yv)) st s
  rw[e]
  exact q
theorem Mx {left:Bool}{l:List Nat}{y:Nat->Nat}{x base n hint:Nat}{st:SortSt}{Q:Option Nat->SortSt->Shared->Prop}(T:Tot lt N)(hc:Nm prog w A κ it s lt N)(hk:kindOf st=κ)(hx:x<N)(hl:∀i,i<n->l[base+i]?=some (y i))(hN:∀i,i<n->y i<N)(hne:∀i,i<n->y i≠x)(up:∀i j,i<j->j<n->lt (y i) (y j)=true)(hh:hint<n)
  (q:∀k,k<=n->(∀i,i<k->lt (y i) x=true)->(∀i,k<=i->i<n->lt (y i) x=false)->Q (some k) st s) :
  kasC (model prog w) A E (gal' left (kas_item it x) (l.map (kas_item it)).toArray base n hint) Q st s:=by
 have mono:∀i j,i<=j->j<n->lt (y j) x=true->lt (y i) x=true:=fun i j a b h=>by
  rcases Nat.lt_or_eq_of_le a with z | z
  ·exact T.tr (hN i (by omega)) (hN j b) hx (up i j z b) h
  ·rw[z];exact h
 have anti:∀i j,i<=j->j<n->lt (y i) x=false->lt (y j) x=false:=fun i j a b h=>by
  cases e:lt (y j) x with
  | false=>rfl
  | true=>rw[mono i j a b e] at h;cases h
 have fin:∀(f lo hi:Nat) (ls:List Nat),ls.length=f->lo<=hi->hi<=n->hi-lo<=f->(∀i,i<lo->lt (y i) x=true)->(∀i,hi<=i->i<n->lt (y i) x=false) ->
   ∀{R:Option (Option Nat)×Nat×Nat->SortSt->Shared->Prop} {body:Nat->Option (Option Nat)×Nat×Nat->StateT SortSt Sem (ForInStep (Option (Option Nat)×Nat×Nat))},
   (∀k lo',k<=n->(∀i,i<k->lt (y i) x=true)->(∀i,k<=i->i<n->lt (y i) x=false)->R (none,lo',k) st s) ->
   (∀z u v (R':ForInStep (Option (Option Nat)×Nat×Nat)->SortSt->Shared->Prop),u >= v->R' (.done (none,u,v)) st s->kasC (model prog w) A E (body z (none,u,v)) R' st s) ->
   (∀z u v (R':ForInStep (Option (Option Nat)×Nat×Nat)->SortSt->Shared->Prop),u<v->v<=n->R' (.yield (if lt (y (u+(v-u) / 2)) x=true then (none,u+(v-u) / 2+1,v) else (none,u,u+(v-u) / 2))) st s->kasC (model prog w) A E (body z (none,u,v)) R' st s) ->
   kasC (model prog w) A E (forIn ls (none,lo,hi) body) R st s:=by
  intro f
  induction f with
  | zero =>
   intro lo hi ls hl hlo hhi hf h1 h2 R body hR b1 b2
   obtain rfl:lo=hi:=by omega
   cases ls with
   | nil=>exact kasC_nil (hR lo lo hhi h1 h2)
   | cons _ _=>simp at hl
  | succ f ih =>
   intro lo hi ls hl hlo hhi hf h1 h2 R body hR b1 b2
   cases ls with
   | nil=>simp at hl
   | cons z ls =>
    have hl':ls.length=f:=by simpa using hl
    by_cases hge:lo >= hi
    ·obtain rfl:lo=hi:=by omega
     exact kasC_cons (b1 z lo lo _ (zra _) (hR lo lo hhi h1 h2))
    ·refine kasC_cons (b2 z lo hi _ (by omega) hhi ?_)
     cases e:lt (y (lo+(hi-lo) / 2)) x with
     | true =>
      rw[if_pos rfl]
      exact ih (lo+(hi-lo) / 2+1) hi ls hl' (by omega) hhi (by omega) (fun i hi'=>mono i _ (by omega) (by omega) e) h2 hR b1 b2
     | false =>
      rw[if_neg zqY]
      exact ih lo (lo+(hi-lo) / 2) ls hl' (by omega) (by omega) (by omega) h1 (fun i a b=>anti _ i a b e) hR b1 b2
 refine kasC_bind ?_
 refine zcL T hc hk hx (hN hint hh) (hne hint hh) (yh (hl hint hh)) ?_
 cases eh:lt (y hint) x with
 | true =>
  dsimp only
  rw[if_pos rfl]
  refine kasC_bind (kasC_range ?_)
  have ex:∀(f last ofs:Nat) (ls:List Nat),ls.length=f->last<ofs->hint+last<n->n+1<=ofs+f->lt (y (hint+last)) x=true ->
    ∀{R:Option (Option Nat)×Nat×Nat->SortSt->Shared->Prop} {body:Nat->Option (Option Nat)×Nat×Nat->StateT SortSt Sem (ForInStep (Option (Option Nat)×Nat×Nat))},
    (∀last ofs,last<ofs->hint+last<n->lt (y (hint+last)) x=true->(ofs<n-hint->lt (y (hint+ofs)) x=false)->R (none,last,ofs) st s) ->
    (∀z last ofs (R':ForInStep (Option (Option Nat)×Nat×Nat)->SortSt->Shared->Prop),ofs >= n-hint->R' (.done (none,last,ofs)) st s->kasC (model prog w) A E (body z (none,last,ofs)) R' st s) ->
    (∀z last ofs (R':ForInStep (Option (Option Nat)×Nat×Nat)->SortSt->Shared->Prop),ofs<n-hint->R' (if lt (y (hint+ofs)) x=true then .yield (none,ofs,2*ofs+1) else .done (none,last,ofs)) st s->kasC (model prog w) A E (body z (none,last,ofs)) R' st s) ->
    kasC (model prog w) A E (forIn ls (none,last,ofs) body) R st s:=by
   intro f
   induction f with
   | zero =>
    intro last ofs ls hl h1 h2 h3 h4 R body hR b1 b2
    cases ls with
    | nil=>exact kasC_nil (hR last ofs h1 h2 h4 fun z=>by omega)
    | cons _ _=>simp at hl
   | succ f ih =>
    intro last ofs ls hl h1 h2 h3 h4 R body hR b1 b2
    cases ls with
    | nil=>simp at hl
    | cons z ls =>
     have hl':ls.length=f:=by simpa using hl
     by_cases hge:ofs >= n-hint
     ·exact kasC_cons (b1 z last ofs _ hge (hR last ofs h1 h2 h4 fun z=>by omega))
     ·refine kasC_cons (b2 z last ofs _ (by omega) ?_)
      cases e:lt (y (hint+ofs)) x with
      | true =>
       rw[if_pos rfl]
       exact ih ofs (2*ofs+1) ls hl' (by omega) (by omega) (by omega) e hR b1 b2
      | false =>
       rw[if_neg zqY]
       exact hR last ofs h1 h2 h4 fun _=>e
  refine ex n 0 1 _ (by rw[List.length_range'];omega) (by decide) (by omega) (by omega) eh (fun last ofs h1 h2 h3 h4=>?_) (fun z last ofs R' hge hR'=>?_) (fun z last ofs R' hlt hR'=>?_)
  ·dsimp only
   refine kasC_bind (kasC_range ?_)
   refine fin n _ _ _ (by rw[List.length_range'];omega) (by omega) (by omega) (by omega) ?_ ?_ (fun k lo' k1 k2 k3=>?_) (fun z u v R' hge hR'=>?_) (fun z u v R' hlt hv hR'=>?_)
   ·exact fun i hi=>mono i (hint+last) (by omega) h2 h3
   ·intro i a b
    by_cases z:ofs<n-hint
    ·exact anti (hint+ofs) i (by omega) b (h4 z)
    ·omega
   ·dsimp only
    exact kasC_pure (q k k1 k2 k3)
   ·dsimp only
    rw[if_pos hge]
    exact kasC_pure hR'
   ·dsimp only
    rw[if_neg (by omega)]
    refine kasC_bind (zcL T hc hk hx (hN _ (by omega)) (hne _ (by omega)) (yh (hl _ (by omega))) ?_)
    cases e:lt (y (u+(v-u) / 2)) x with
    | true =>
     rw[e,if_pos rfl] at hR'
     dsimp only
     rw[if_pos rfl]
     exact kasC_pure hR'
    | false =>
     rw[e,if_neg zqY] at hR'
     dsimp only
     rw[if_neg zqY]
     exact kasC_pure hR'
  ·dsimp only
   rw[if_pos hge]
   exact kasC_pure hR'
  ·dsimp only
   rw[if_neg (by omega)]
   refine kasC_bind (zcL T hc hk hx (hN _ (by omega)) (hne _ (by omega)) (yh (hl _ (by omega))) ?_)
   cases e:lt (y (hint+ofs)) x with
   | true =>
    rw[e,if_pos rfl] at hR'
    dsimp only
    rw[if_neg (by decide)]
    exact kasC_pure hR'
   | false =>
    rw[e,if_neg zqY] at hR'
    dsimp only
    rw[if_pos (by decide)]
    exact kasC_pure hR'
 | false =>
  dsimp only
  rw[if_neg zqY]
  refine kasC_bind (kasC_range ?_)
  have ex:∀(f last ofs:Nat) (ls:List Nat),ls.length=f->last<ofs->last<=hint->n+1<=ofs+f->lt (y (hint-last)) x=false ->
    ∀{R:Option (Option Nat)×Nat×Nat->SortSt->Shared->Prop} {body:Nat->Option (Option Nat)×Nat×Nat->StateT SortSt Sem (ForInStep (Option (Option Nat)×Nat×Nat))},
    (∀last ofs,last<ofs->last<=hint->lt (y (hint-last)) x=false->(ofs<hint+1->lt (y (hint-ofs)) x=true)->R (none,last,ofs) st s) ->
    (∀z last ofs (R':ForInStep (Option (Option Nat)×Nat×Nat)->SortSt->Shared->Prop),ofs >= hint+1->R' (.done (none,last,ofs)) st s->kasC (model prog w) A E (body z (none,last,ofs)) R' st s) ->
    (∀z last ofs (R':ForInStep (Option (Option Nat)×Nat×Nat)->SortSt->Shared->Prop),ofs<hint+1->R' (if lt (y (hint-ofs)) x=true then .done (none,last,ofs) else .yield (none,ofs,2*ofs+1)) st s->kasC (model prog w) A E (body z (none,last,ofs)) R' st s) ->
    kasC (model prog w) A E (forIn ls (none,last,ofs) body) R st s:=by
   intro f
   induction f with
   | zero =>
    intro last ofs ls hl h1 h2 h3 h4 R body hR b1 b2
    cases ls with
    | nil=>exact kasC_nil (hR last ofs h1 h2 h4 fun z=>by omega)
    | cons _ _=>simp at hl
   | succ f ih =>
    intro last ofs ls hl h1 h2 h3 h4 R body hR b1 b2
    cases ls with
    | nil=>simp at hl
    | cons z ls =>
     have hl':ls.length=f:=by simpa using hl
     by_cases hge:ofs >= hint+1
     ·exact kasC_cons (b1 z last ofs _ hge (hR last ofs h1 h2 h4 fun z=>by omega))
     ·refine kasC_cons (b2 z last ofs _ (by omega) ?_)
      cases e:lt (y (hint-ofs)) x with
      | false =>
       rw[if_neg zqY]
       exact ih ofs (2*ofs+1) ls hl' (by omega) (by omega) (by omega) e hR b1 b2
      | true =>
       rw[if_pos rfl]
       exact hR last ofs h1 h2 h4 fun _=>e
  refine ex n 0 1 _ (by rw[List.length_range'];omega) (by decide) (by omega) (by omega) eh (fun last ofs h1 h2 h3 h4=>?_) (fun z last ofs R' hge hR'=>?_) (fun z last ofs R' hlt hR'=>?_)
  ·dsimp only
   refine kasC_bind (kasC_range ?_)
   refine fin n _ _ _ (by rw[List.length_range'];omega) (by omega) (by omega) (by omega) ?_ ?_ (fun k lo' k1 k2 k3=>?_) (fun z u v R' hge hR'=>?_) (fun z u v R' hlt hv hR'=>?_)
   ·intro i hi
    by_cases z:ofs<hint+1
    ·exact mono i (hint-ofs) (by omega) (by omega) (h4 z)
    ·omega
   ·exact fun i a b=>anti (hint-last) i a b h3
   ·dsimp only
    exact kasC_pure (q k k1 k2 k3)
   ·dsimp only
    rw[if_pos hge]
    exact kasC_pure hR'
   ·dsimp only
    rw[if_neg (by omega)]
    refine kasC_bind (zcL T hc hk hx (hN _ (by omega)) (hne _ (by omega)) (yh (hl _ (by omega))) ?_)
    cases e:lt (y (u+(v-u) / 2)) x with
    | true =>
     rw[e,if_pos rfl] at hR'
     dsimp only
     rw[if_pos rfl]
     exact kasC_pure hR'
    | false =>
     rw[e,if_neg zqY] at hR'
     dsimp only
     rw[if_neg zqY]
     exact kasC_pure hR'
  ·dsimp only
   rw[if_pos hge]
   exact kasC_pure hR'
  ·dsimp only
   rw[if_neg (by omega)]
   refine kasC_bind (zcL T hc hk hx (hN _ (by omega)) (hne _ (by omega)) (yh (hl _ (by omega))) ?_)
   cases e:lt (y (hint-ofs)) x with
   | true =>
    rw[e,if_pos rfl] at hR'
    dsimp only
    rw[if_pos rfl]
    exact kasC_pure hR'
   | false =>
    rw[e,if_neg zqY] at hR'
    dsimp only
    rw[if_neg zqY]
    exact kasC_pure hR'
end
section
variable {lt:Nat->Nat->Bool}{N:Nat}
structure MI (lt:Nat->Nat->Bool)(X Y O:List Nat)(ia ib:Nat):Prop where
 pm:(O++X.drop ia++Y.drop ib).Perm (X++Y)
 up:Up lt O
 lo:∀o∈O,∀r∈X.drop ia++Y.drop ib,lt o r=true
structure MG (lt:Nat->Nat->Bool)(N:Nat)(X Y:List Nat):Prop where
 T:Tot lt N
 ux:Up lt X
 uy:Up lt Y
 nd:(X++Y).Nodup
 hN:∀z∈X++Y,z<N
variable {X Y O:List Nat}{ia ib:Nat}
theorem MG.xN (G:MG lt N X Y){i x:Nat}(h:X[i]?=some x):x<N:=G.hN x (List.mem_append_left _ (zqZ h))
theorem MG.yN (G:MG lt N X Y){i y:Nat}(h:Y[i]?=some y):y<N:=G.hN y (zrb _ (zqZ h))
theorem MG.ne (G:MG lt N X Y){i j x y:Nat}(h:X[i]?=some x)(k:Y[j]?=some y):x≠y:=fun e=>by
 subst e
 exact(List.nodup_append.mp G.nd).2.2 x (zqZ h) x (zqZ k) rfl
theorem Zm {l:List Nat}(u:Up lt l){i j x y:Nat}(hx:l[i]?=some x)(hy:l[j]?=some y)(h:i<j):lt x y=true:=by
 have hj:=(zqX.mp hy).1
 have:=List.pairwise_iff_getElem.mp u i j (by omega) hj h
 rw[zqV (by omega)] at hx
 rw[zqV hj] at hy
 rw[zrp hx,zrp hy] at this
 exact this
theorem zbE {l:List Nat}{i x:Nat}(h:l[i]?=some x):l.drop i=x::l.drop (i+1):=by
 have hi:=(zqX.mp h).1
 rw[List.drop_eq_getElem_cons hi]
 rw[zqV hi] at h
 rw[zrp h]
theorem tW {l:List Nat}{i z:Nat}(h:z∈l.drop i):∃j,i<=j/\l[j]?=some z:=by
 obtain⟨m,hm,e⟩:=zrA h
 refine⟨i+m,by omega,?_⟩
 rw[List.getElem_drop] at e
 rw[List.length_drop] at hm
 rw[zqV (by omega),e]
theorem MG.below (G:MG lt N X Y){l:List Nat}(hl:∀z∈l,z<N)(u:Up lt l){i x z:Nat}(hx:x<N)(hi:∀w,l[i]?=some w->lt x w=true)(hz:z∈l.drop i):lt x z=true:=by
 obtain⟨j,hj,e⟩:=tW hz
 rcases Nat.lt_or_eq_of_le hj with q | q
 ·obtain⟨w,hw⟩:∃w,l[i]?=some w:=⟨_,zqV (by have:=(zqX.mp e).1;omega)⟩
  exact G.T.tr hx (hl w (zqZ hw)) (hl z (zqZ e)) (hi w hw) (Zm u hw e q)
 ·rw[q] at hi
  exact hi z e
theorem MI.start:MI lt X Y [] 0 0:=⟨List.Perm.refl _,.nil,fun o h=>by cases h⟩
theorem zeX (u:Up lt O){x:Nat}(h:∀o∈O,lt o x=true):Up lt (O++[x]):=List.pairwise_append.mpr ⟨u,List.pairwise_singleton _ _,fun a ha b hb=>by rw[List.mem_singleton.mp hb];exact h a ha⟩
theorem MI.X4 (G:MG lt N X Y)(h:MI lt X Y O ia ib){x:Nat}(hx:X[ia]?=some x)(hy:∀y,Y[ib]?=some y->lt x y=true):MI lt X Y (O++[x]) (ia+1) ib:=by
 have ed:=zbE hx
 have hxN:=G.xN hx
 refine⟨?_,zeX h.up fun o ho=>h.lo o ho x (List.mem_append_left _ (by rw[ed];exact zre)),fun o ho r hr=>?_⟩
 ·have:=h.pm
  rw[ed] at this
  simpa using this
 ·rcases List.mem_append.mp ho with z | z
  ·refine h.lo o z r ?_
   rcases List.mem_append.mp hr with q | q
   ·exact List.mem_append_left _ (by rw[ed];exact zq5 _ q)
   ·exact zrb _ q
  ·rw[List.mem_singleton.mp z]
   rcases List.mem_append.mp hr with q | q
   ·obtain⟨j,hj,e⟩:=tW q
    exact Zm G.ux hx e (by omega)
   ·exact G.below (fun z hz=>G.hN z (zrb _ hz)) G.uy hxN hy q
theorem MI.Sq (G:MG lt N X Y)(h:MI lt X Y O ia ib){y:Nat}(hy:Y[ib]?=some y)(hx:∀x,X[ia]?=some x->lt y x=true):MI lt X Y (O++[y]) ia (ib+1):=by
 have ed:=zbE hy
 have hyN:=G.yN hy
 refine⟨?_,zeX h.up fun o ho=>h.lo o ho y (zrb _ (by rw[ed];exact zre)),fun o ho r hr=>?_⟩
 ·have:=h.pm
  rw[ed] at this
  refine List.Perm.trans ?_ this
  have e:(O++X.drop ia++y::Y.drop (ib+1)).Perm (O++(y::(X.drop ia++Y.drop (ib+1)))):=by
   rw[List.append_assoc]
   exact List.Perm.append_left _ List.perm_middle
  refine List.Perm.trans ?_ e.symm
  rw[List.append_assoc,List.append_assoc]
  rfl
 ·rcases List.mem_append.mp ho with z | z
  ·refine h.lo o z r ?_
   rcases List.mem_append.mp hr with q | q
   ·exact List.mem_append_left _ q
   ·exact zrb _ (by rw[ed];exact zq5 _ q)
  ·rw[List.mem_singleton.mp z]
   rcases List.mem_append.mp hr with q | q
   ·exact G.below (fun z hz=>G.hN z (List.mem_append_left _ hz)) G.ux hyN hx q
   ·obtain⟨j,hj,e⟩:=tW q
    exact Zm G.uy hy e (by omega)
theorem MI.zg1 (G:MG lt N X Y)(h:MI lt X Y O ia ib){y:Nat}(hy:Y[ib]?=some y):∀k,ia+k<=X.length->(∀i x,i<k->X[ia+i]?=some x->lt x y=true)->MI lt X Y (O++(X.drop ia).take k) (ia+k) ib
 | 0,_,_=>by simpa using h
 | k+1,hk,hb=>by
  have ih:=MI.zg1 G h hy k (by omega) fun i x a b=>hb i x (by omega) b
  obtain⟨x,hx⟩:∃x,X[ia+k]?=some x:=⟨_,zqV (by omega)⟩
  have:=ih.X4 G hx fun w hw=>by
   rw[hy] at hw
   cases hw
   exact hb k x (by omega) hx
  have e:(X.drop ia).take (k+1)=(X.drop ia).take k++[x]:=zY (by rw[List.getElem?_drop];exact hx)
  rw[e,<-List.append_assoc]
  exact this
theorem MI.zd2 (G:MG lt N X Y)(h:MI lt X Y O ia ib){x:Nat}(hx:X[ia]?=some x):∀k,ib+k<=Y.length->(∀i y,i<k->Y[ib+i]?=some y->lt y x=true)->MI lt X Y (O++(Y.drop ib).take k) ia (ib+k)
 | 0,_,_=>by simpa using h
 | k+1,hk,hb=>by
  have ih:=MI.zd2 G h hx k (by omega) fun i x a b=>hb i x (by omega) b
  obtain⟨y,hy⟩:∃y,Y[ib+k]?=some y:=⟨_,zqV (by omega)⟩
  have:=ih.Sq G hy fun w hw=>by
   rw[hx] at hw
   cases hw
   exact hb k y (by omega) hy
  have e:(Y.drop ib).take (k+1)=(Y.drop ib).take k++[y]:=zY (by rw[List.getElem?_drop];exact hy)
  rw[e,<-List.append_assoc]
  exact this
def Ux (lt:Nat->Nat->Bool)(it:Array Keyed)(X Y:List Nat)(arr:Array Keyed):Prop:=∃M:List Nat,arr=(M.map (kas_item it)).toArray/\M.Perm (X++Y)/\Up lt M
theorem Qt {l:List Nat}(u:Up lt l)(i:Nat):Up lt (l.drop i):=u.sublist (List.drop_sublist _ _)
theorem MI.zbF (G:MG lt N X Y)(h:MI lt X Y O ia ib)(e:Y.length<=ib){it:Array Keyed}:Ux lt it X Y ((O++X.drop ia++Y.drop ib).map (kas_item it)).toArray:=by
 refine⟨_,rfl,h.pm,?_⟩
 rw[List.drop_eq_nil_of_le e,List.append_nil]
 exact List.pairwise_append.mpr ⟨h.up,Qt G.ux _,fun a ha b hb=>h.lo a ha b (List.mem_append_left _ hb)⟩
theorem MI.zbG (G:MG lt N X Y)(h:MI lt X Y O ia ib)(e:X.length<=ia){it:Array Keyed}:Ux lt it X Y ((O++X.drop ia++Y.drop ib).map (kas_item it)).toArray:=by
 refine⟨_,rfl,h.pm,?_⟩
 rw[List.drop_eq_nil_of_le e,List.append_nil]
 exact List.pairwise_append.mpr ⟨h.up,Qt G.uy _,fun a ha b hb=>h.lo a ha b (zrb _ hb)⟩
theorem MI.endL (G:MG lt N X Y)(h:MI lt X Y O ia ib){x:Nat}(hx:X[ia]?=some x)(e:X.length=ia+1)(top:∀y∈Y,lt y x=true){it:Array Keyed}:Ux lt it X Y ((O++Y.drop ib++X.drop ia).map (kas_item it)).toArray:=by
 refine⟨_,rfl,?_,?_⟩
 ·refine List.Perm.trans ?_ h.pm
  rw[List.append_assoc,List.append_assoc]
  exact List.Perm.append_left _ List.perm_append_comm
 ·have ed:X.drop ia=[x]:=by rw[zbE hx,List.drop_eq_nil_of_le (by omega)]
  rw[ed]
  refine List.pairwise_append.mpr ⟨List.pairwise_append.mpr ⟨h.up,Qt G.uy _,fun a ha b hb=>h.lo a ha b (zrb _ hb)⟩,List.pairwise_singleton _ _,fun a ha b hb=>?_⟩
  rw[List.mem_singleton.mp hb]
  rcases List.mem_append.mp ha with z | z
  ·exact h.lo a z x (List.mem_append_left _ (by rw[ed];exact zre))
  ·exact top a (List.mem_of_mem_drop z)
end
section
variable {prog:Program}{w:World}{A:Around}{E:Value->Shared->Prop}{κ:SortKind}{it:Array Keyed}{s:Shared}
variable {lt:Nat->Nat->Bool}{N:Nat}
theorem Qu {X:List Nat}{i j k:Nat}(h:j=i+k):((X.map (kas_item it)).toArray).extract i j=(((X.drop i).take k).map (kas_item it)).toArray:=by
 subst h
 apply Array.toList_inj.mp
 rw[Array.toList_extract]
 simp[List.extract,List.map_drop,List.map_take]
theorem wH {X:List Nat}{i j:Nat}(h:j=X.length):((X.map (kas_item it)).toArray).extract i j=((X.drop i).map (kas_item it)).toArray:=by
 subst h
 apply Array.toList_inj.mp
 rw[Array.toList_extract]
 simp[List.extract,List.map_drop]
 rw[List.take_of_length_le]
 simp
theorem Ss {O:List Nat}{x:Nat}:((O.map (kas_item it)).toArray).push (kas_item it x)=((O++[x]).map (kas_item it)).toArray:=by simp
theorem zR {O B:List Nat}:((O.map (kas_item it)).toArray)++((B.map (kas_item it)).toArray)=((O++B).map (kas_item it)).toArray:=by simp
theorem siz {X:List Nat}:((X.map (kas_item it)).toArray).size=X.length:=by simp
theorem zg2 {τ:Type}{X Y l:List Nat}{pend:Array (Nat×Nat×Nat)}{R:Option (Array Keyed)×Array Keyed×Nat×Nat × τ->SortSt->Shared->Prop}{body:Nat->Option (Array Keyed)×Array Keyed×Nat×Nat × τ->StateT SortSt Sem (ForInStep (Option (Array Keyed)×Array Keyed×Nat×Nat × τ))}
  (hb:∀z O ia ib (t:τ) g (R':ForInStep (Option (Array Keyed)×Array Keyed×Nat×Nat × τ)->SortSt->Shared->Prop),MI lt X Y O ia ib->ia+1<X.length->ib<Y.length->(∀arr o u v t g,Ux lt it X Y arr->R' (.done (some arr,o,u,v,t)) (yP κ it l pend g) s) ->
   (∀O' ia' ib' t g,MI lt X Y O' ia' ib'->ia'+1<X.length->ib'<Y.length->ia+ib<ia'+ib'->R' (.done (none,(O'.map (kas_item it)).toArray,ia',ib',t)) (yP κ it l pend g) s/\R' (.yield (none,(O'.map (kas_item it)).toArray,ia',ib',t)) (yP κ it l pend g) s) ->
   kasC (model prog w) A E (body z (none,(O.map (kas_item it)).toArray,ia,ib,t)) R' (yP κ it l pend g) s) :
  ∀(f:Nat) (ls:List Nat) (O:List Nat) (ia ib:Nat) (t:τ) (g:Nat),ls.length=f->MI lt X Y O ia ib->ia+1<X.length->ib<Y.length->(∀arr o u v t g,Ux lt it X Y arr->R (some arr,o,u,v,t) (yP κ it l pend g) s) ->
   (∀O' ia' ib' t g,MI lt X Y O' ia' ib'->ia'+1<X.length->ib'<Y.length->ia+ib<=ia'+ib'->(0<f->ia+ib<ia'+ib')->R (none,(O'.map (kas_item it)).toArray,ia',ib',t) (yP κ it l pend g) s) ->
   kasC (model prog w) A E (forIn ls (none,(O.map (kas_item it)).toArray,ia,ib,t) body) R (yP κ it l pend g) s
 | 0,[],O,ia,ib,t,g,_,I,h1,h2,ret,cont=>kasC_nil (cont O ia ib t g I h1 h2 (zra _) fun z=>by omega)
 | 0,_::_,_,_,_,_,_,hl,_,_,_,_,_=>by simp at hl
 | f+1,[],_,_,_,_,_,hl,_,_,_,_,_=>by simp at hl
 | f+1,z::ls,O,ia,ib,t,g,hl,I,h1,h2,ret,cont=>by
  refine kasC_cons (hb z O ia ib t g _ I h1 h2 (fun arr o u v t g h=>ret arr o u v t g h) fun O' ia' ib' t' g' I' a b c=>⟨cont O' ia' ib' t' g' I' a b (zrd c) fun _=>c,?_⟩)
  exact zg2 hb f ls O' ia' ib' t' g' (by simpa using hl) I' a b ret fun O2 ia2 ib2 t2 g2 I2 a2 b2 c2 _=>cont O2 ia2 ib2 t2 g2 I2 a2 b2 (by omega) fun _=>by omega
theorem yJ {α σ:Type}{M:Model}{c:Prop}[Decidable c]{m n:StateT σ Sem α}{Q:α->σ->Shared->Prop}{st:σ}(h1:c->kasC M A E m Q st s)(h2:¬c->kasC M A E n Q st s):kasC M A E (if c then m else n) Q st s:=by
 by_cases h:c
 ·rw[if_pos h];exact h1 h
 ·rw[if_neg h];exact h2 h
theorem zlC {X Y l:List Nat}{pend:Array (Nat×Nat×Nat)}{g:Nat}{Q:Array Keyed->SortSt->Shared->Prop}(hc:Nm prog w A κ it s lt N)(G:MG lt N X Y){x0 y0 xl:Nat}(hx0:X[0]?=some x0)(hy0:Y[0]?=some y0)(h0:lt y0 x0=true)(hxl:X[X.length-1]?=some xl)(top:∀y∈Y,lt y xl=true)
  (q:∀arr g',Ux lt it X Y arr->Q arr (yP κ it l pend g') s):kasC (model prog w) A E (mlo' (X.map (kas_item it)).toArray (Y.map (kas_item it)).toArray) Q (yP κ it l pend g) s:=by
 have lx:=(zqX.mp hx0).1
 have ly:=(zqX.mp hy0).1
 have I1:MI lt X Y [y0] 0 1:=MI.start.Sq G hy0 fun x hx=>by rw[hx0] at hx;cases hx;exact h0
 have top':∀{ia x},X[ia]?=some x->X.length=ia+1->∀y∈Y,lt y x=true:=fun {ia x} h e y hy=>by
  rw[show X.length-1=ia by omega,h] at hxl
  cases hxl
  exact top y hy
 refine kasC_bind (kasC_lift (wpAny_rule ?_))
 dsimp only
 refine kasC_bind (xJ (yh hy0) ?_)
 simp only[siz]
 by_cases e1:((1:Nat)==Y.length)=true
 ·rw[if_pos e1]
  have e1':1=Y.length:=eq_of_beq e1
  refine kasC_pure (q _ _ ?_)
  have:=I1.zbF G (by omega) (it:=it)
  rw[<-zR,<-zR,<-wH (i:=0) rfl,<-wH (i:=1) rfl] at this
  exact this
 rw[if_neg e1]
 by_cases e2:((0+1:Nat)==X.length)=true
 ·rw[if_pos e2]
  have e2':1=X.length:=eq_of_beq e2
  refine kasC_pure (q _ _ ?_)
  have:=I1.endL G hx0 (by omega) (top' hx0 (by omega)) (it:=it)
  rw[<-zR,<-zR,<-wH (i:=0) rfl,<-wH (i:=1) rfl] at this
  exact this
 rw[if_neg e2]
 have n1:1<Y.length:=Nat.lt_of_le_of_ne ly fun z=>e1 (by rw[<-z];rfl)
 have n2:0+1<X.length:=Nat.lt_of_le_of_ne lx fun z=>e2 (by rw[<-z];rfl)
 refine kasC_bind (kasC_get ?_)
 refine kasC_bind (kasC_range ?_)
 have out:∀{body:Nat->Option (Array Keyed)×Array Keyed×Nat×Nat×Nat->StateT SortSt Sem (ForInStep (Option (Array Keyed)×Array Keyed×Nat×Nat×Nat))} {R:Option (Array Keyed)×Array Keyed×Nat×Nat×Nat->SortSt->Shared->Prop},
   (∀z O ia ib (t:Nat) g (R':ForInStep (Option (Array Keyed)×Array Keyed×Nat×Nat×Nat)->SortSt->Shared->Prop),MI lt X Y O ia ib->ia+1<X.length->ib<Y.length->(∀arr o u v t g,Ux lt it X Y arr->R' (.done (some arr,o,u,v,t)) (yP κ it l pend g) s) ->
    (∀O' ia' ib' t g,MI lt X Y O' ia' ib'->ia'+1<X.length->ib'<Y.length->ia+ib<ia'+ib'->R' (.yield (none,(O'.map (kas_item it)).toArray,ia',ib',t)) (yP κ it l pend g) s) ->
    kasC (model prog w) A E (body z (none,(O.map (kas_item it)).toArray,ia,ib,t)) R' (yP κ it l pend g) s) ->
   (∀arr o u v t g,Ux lt it X Y arr->R (some arr,o,u,v,t) (yP κ it l pend g) s) ->
   ∀(f:Nat) (ls:List Nat) (O:List Nat) (ia ib t g:Nat),ls.length=f->MI lt X Y O ia ib->ia+1<X.length->ib<Y.length->X.length+Y.length<=ia+ib+f->kasC (model prog w) A E (forIn ls (none,(O.map (kas_item it)).toArray,ia,ib,t) body) R (yP κ it l pend g) s:=by
  intro body R hb ret f
  induction f with
  | zero=>intro ls O ia ib t g hl I a b c;omega
  | succ f ih =>
   intro ls O ia ib t g hl I a b c
   cases ls with
   | nil=>simp at hl
   | cons z ls =>
    refine kasC_cons (hb z O ia ib t g _ I a b (fun arr o u v t g h=>ret arr o u v t g h) fun O' ia' ib' t' g' I' a' b' c'=>ih ls O' ia' ib' t' g' (by simpa using hl) I' a' b' (by omega))
 refine out (fun z O ia ib t g' R' I a b ret cont=>?_) (fun arr o u v t g' h=>?_) (X.length+Y.length) _ [y0] 0 1 _ g (by rw[List.length_range'];omega) I1 n2 n1 (by omega)
 ·refine kasC_bind (kasC_range ?_)
  refine zg2 (τ:=Nat×Nat) (fun z O ia ib t g R2 I a b ZP vP=>?_) _ _ O ia ib (0,0) g' rfl I a b (fun arr o u v t g h=>?_) (fun O' ia' ib' t g I' a' b' c d=>?_)
  ·
   obtain⟨x,hx⟩:∃x,X[ia]?=some x:=⟨_,zqV (by omega)⟩
   obtain⟨y,hy⟩:∃y,Y[ib]?=some y:=⟨_,zqV (by omega)⟩
   dsimp only
   refine kasC_bind (xJ (yh hy) (kasC_bind (xJ (yh hx) (kasC_bind (zcJ hc (G.yN hy) (G.xN hx) rfl ?_)))))
   cases e:lt y x with
   | true =>
    dsimp only
    rw[if_pos rfl]
    refine kasC_bind (xJ (yh hy) ?_)
    have I2:=I.Sq G hy fun w hw=>by rw[hx] at hw;cases hw;exact e
    by_cases e3:(ib+1==Y.length)=true
    ·rw[if_pos e3]
     have e3':=eq_of_beq e3
     refine kasC_pure (ZP _ _ _ _ _ _ ?_)
     rw[Ss,wH rfl,wH rfl,zR,zR]
     exact I2.zbF G (by omega)
    ·rw[if_neg e3]
     have hlt:ib+1<Y.length:=Nat.lt_of_le_of_ne b fun z=>e3 (by rw[z];exact beq_self_eq_true _)
     have c2:=vP _ ia (ib+1) (0,t.2+1) g I2 a hlt (by omega)
     rw[Ss]
     exact yJ (fun _=>kasC_pure c2.1) fun _=>kasC_pure c2.2
   | false =>
    dsimp only
    rw[if_neg zqY]
    refine kasC_bind (xJ (yh hx) ?_)
    have e':lt x y=true:=G.T.ne (G.yN hy) (G.xN hx) (Ne.symm (G.ne hx hy)) e
    have I2:=I.X4 G hx fun w hw=>by rw[hy] at hw;cases hw;exact e'
    by_cases e3:(ia+1+1==X.length)=true
    ·rw[if_pos e3]
     have e3':=eq_of_beq e3
     obtain⟨x2,hx2⟩:∃x2,X[ia+1]?=some x2:=⟨_,zqV (by omega)⟩
     refine kasC_pure (ZP _ _ _ _ _ _ ?_)
     rw[Ss,wH rfl,wH rfl,zR,zR]
     exact I2.endL G hx2 (by omega) (top' hx2 (by omega))
    ·rw[if_neg e3]
     have hlt:ia+1+1<X.length:=Nat.lt_of_le_of_ne a fun z=>e3 (by rw[z];exact beq_self_eq_true _)
     have c2:=vP _ (ia+1) ib (t.1+1,0) g I2 hlt b (by omega)
     rw[Ss]
     exact yJ (fun _=>kasC_pure c2.1) fun _=>kasC_pure c2.2
  ·dsimp only
   exact kasC_pure (ret _ _ _ _ _ _ h)
  ·dsimp only
   have zlD:ia+ib<ia'+ib':=d (by rw[List.length_range'];omega)
   refine kasC_bind (kasC_lift (wpAny_rule ?_))
   refine kasC_bind (kasC_range ?_)
   refine zg2 (τ:=Nat×Nat×Nat) (fun z O ia ib t g R2 I a b ZP vP=>?_) _ _ O' ia' ib' (_,_,_) g rfl I' a' b' (fun arr o u v t g h=>?_) (fun O2 ia2 ib2 t g I2 a2 b2 c2 _=>?_)
   ·obtain⟨y,hy⟩:∃y,Y[ib]?=some y:=⟨_,zqV (by omega)⟩
    dsimp only
    refine yJ (fun _=>?_) (fun _=>?_)
    all_goals
     have gx:∀i x2,X[ia+i]?=some x2->X.getD (ia+i) 0=x2:=fun i x2 h=>by rw[zq7,h];rfl
     have xx:∀i,i<X.length-ia->X[ia+i]?=some (X.getD (ia+i) 0):=fun i hi=>by rw[zq7,zqV (by omega)];rfl
     refine kasC_bind (kasC_modify ?_)
     show kasC _ _ _ _ _ (yP κ it l pend _) s
     refine kasC_bind (xJ (yh hy) ?_)
     refine kasC_bind (Mx (left:=false) (y:=fun i=>X.getD (ia+i) 0) G.T hc rfl (G.yN hy) xx (fun i hi=>G.xN (xx i hi)) (fun i hi=>G.ne (xx i hi) hy) (fun i j hij hj=>Zm G.ux (xx i (by omega)) (xx j hj) (by omega)) (by omega) fun k k1 k2 k3=>?_)
     dsimp only
     by_cases kp:k > 0
     ·rw[if_pos kp]
      have I2:=I.zg1 G hy k (by omega) fun i x2 hi hx2=>by
       have:=k2 i hi
       rw[gx _ _ hx2] at this
       exact this
      by_cases e3:(ia+k+1==X.length)=true
      ·rw[if_pos e3]
       have e3':=eq_of_beq e3
       obtain⟨x2,hx2⟩:∃x2,X[ia+k]?=some x2:=⟨_,zqV (by omega)⟩
       refine kasC_pure (ZP _ _ _ _ _ _ ?_)
       rw[Qu (k:=k) rfl,wH rfl,wH rfl,zR,zR,zR]
       exact I2.endL G hx2 (by omega) (top' hx2 (by omega))
      rw[if_neg e3]
      by_cases e4:(ia+k==X.length)=true
      ·rw[if_pos e4]
       have e4':=eq_of_beq e4
       refine kasC_pure (ZP _ _ _ _ _ _ ?_)
       rw[Qu (k:=k) rfl,wH rfl,wH rfl,zR,zR,zR]
       exact I2.zbG G (by omega)
      rw[if_neg e4]
      have h3:ia+k+1<X.length:=by
       have z1:ia+k+1≠X.length:=fun z=>e3 (by rw[z];exact beq_self_eq_true _)
       have z2:ia+k≠X.length:=fun z=>e4 (by rw[z];exact beq_self_eq_true _)
       omega
      obtain⟨x2,hx2⟩:∃x2,X[(ia+k)]?=some x2:=⟨_,zqV (by omega)⟩
      have lyx:lt y x2=true:=by
       have:=k3 k (by omega) (by omega)
       rw[gx k _ (by exact hx2)] at this
       exact G.T.ne (G.xN hx2) (G.yN hy) (G.ne hx2 hy) this
      refine kasC_bind (xJ (yh hy) ?_)
      have I3:=I2.Sq G hy fun w hw=>by rw[hx2] at hw;cases hw;exact lyx
      rw[Qu (k:=k) rfl,zR]
      by_cases e7:(ib+1==Y.length)=true
      ·rw[if_pos e7]
       have e7':=eq_of_beq e7
       refine kasC_pure (ZP _ _ _ _ _ _ ?_)
       rw[Ss,wH rfl,wH rfl,zR,zR]
       exact I3.zbF G (by omega)
      rw[if_neg e7]
      have h7:ib+1<Y.length:=Nat.lt_of_le_of_ne b fun z=>e7 (by rw[z];exact beq_self_eq_true _)
      refine kasC_bind (xJ (yh hx2) ?_)
      have gy:∀i y2,Y[ib+1+i]?=some y2->Y.getD (ib+1+i) 0=y2:=fun i y2 h=>by rw[zq7,h];rfl
      have yy:∀i,i<Y.length-(ib+1)->Y[ib+1+i]?=some (Y.getD (ib+1+i) 0):=fun i hi=>by rw[zq7,zqV (by omega)];rfl
      refine kasC_bind (Mx (left:=true) (y:=fun i=>Y.getD (ib+1+i) 0) G.T hc rfl (G.xN hx2) yy (fun i hi=>G.yN (yy i hi)) (fun i hi=>Ne.symm (G.ne hx2 (yy i hi))) (fun i j hij hj=>Zm G.uy (yy i (by omega)) (yy j hj) (by omega)) (by omega) fun k1 j1 j2 j3=>?_)
      dsimp only
      by_cases kq:k1 > 0
      ·rw[if_pos kq]
       have I4:=I3.zd2 G hx2 k1 (by omega) fun i y2 hi hy2=>by
        have:=j2 i hi
        rw[gy _ _ hy2] at this
        exact this
       by_cases e5:(ib+1+k1==Y.length)=true
       ·rw[if_pos e5]
        have e5':=eq_of_beq e5
        refine kasC_pure (ZP _ _ _ _ _ _ ?_)
        rw[Ss,Qu (k:=k1) rfl,wH rfl,wH rfl,zR,zR,zR]
        exact I4.zbF G (by omega)
       rw[if_neg e5]
       have h5:ib+1+k1<Y.length:=Nat.lt_of_le_of_ne (by omega) fun z=>e5 (by rw[z];exact beq_self_eq_true _)
       refine kasC_bind (xJ (yh hx2) ?_)
       have I5:=I4.X4 G hx2 fun y2 hy2=>by
        have:=j3 k1 (by omega) (by omega)
        rw[gy k1 _ (by exact hy2)] at this
        exact G.T.ne (G.yN hy2) (G.xN hx2) (Ne.symm (G.ne hx2 hy2)) this
       by_cases e6:((ia+k)+1+1==X.length)=true
       ·rw[if_pos e6]
        have e6':=eq_of_beq e6
        obtain⟨x3,hx3⟩:∃x3,X[(ia+k)+1]?=some x3:=⟨_,zqV (by omega)⟩
        refine kasC_pure (ZP _ _ _ _ _ _ ?_)
        rw[Ss,Qu (k:=k1) rfl,zR,Ss,wH rfl,wH rfl,zR,zR]
        exact I5.endL G hx3 (by omega) (top' hx3 (by omega))
       rw[if_neg e6]
       have h6:(ia+k)+1+1<X.length:=Nat.lt_of_le_of_ne (by omega) fun z=>e6 (by rw[z];exact beq_self_eq_true _)
       rw[Ss,Qu (k:=k1) rfl,zR,Ss]
       exact yJ (fun _=>kasC_pure (vP _ ((ia+k)+1) (ib+1+k1) _ _ I5 h6 h5 (by omega)).1) fun _=>kasC_pure (vP _ ((ia+k)+1) (ib+1+k1) _ _ I5 h6 h5 (by omega)).2
      ·rw[if_neg kq]
       obtain rfl:k1=0:=by omega
       have h5:ib+1<Y.length:=by omega
       refine kasC_bind (xJ (yh hx2) ?_)
       have I5:=I3.X4 G hx2 fun y2 hy2=>by
        have:=j3 0 (by omega) (by omega)
        rw[gy 0 _ (by rw[Nat.add_zero];exact hy2)] at this
        exact G.T.ne (G.yN hy2) (G.xN hx2) (Ne.symm (G.ne hx2 hy2)) this
       by_cases e6:((ia+k)+1+1==X.length)=true
       ·rw[if_pos e6]
        have e6':=eq_of_beq e6
        obtain⟨x3,hx3⟩:∃x3,X[(ia+k)+1]?=some x3:=⟨_,zqV (by omega)⟩
        refine kasC_pure (ZP _ _ _ _ _ _ ?_)
        rw[Ss,Ss,wH rfl,wH rfl,zR,zR]
        exact I5.endL G hx3 (by omega) (top' hx3 (by omega))
       rw[if_neg e6]
       have h6:(ia+k)+1+1<X.length:=Nat.lt_of_le_of_ne (by omega) fun z=>e6 (by rw[z];exact beq_self_eq_true _)
       rw[Ss,Ss]
       exact yJ (fun _=>kasC_pure (vP _ ((ia+k)+1) (ib+1) _ _ I5 h6 h5 (by omega)).1) fun _=>kasC_pure (vP _ ((ia+k)+1) (ib+1) _ _ I5 h6 h5 (by omega)).2
     ·rw[if_neg kp]
      obtain rfl:k=0:=by omega
      have h3:ia+1<X.length:=a
      obtain⟨x2,hx2⟩:∃x2,X[ia]?=some x2:=⟨_,zqV (by omega)⟩
      have lyx:lt y x2=true:=by
       have:=k3 0 (by omega) (by omega)
       rw[gx 0 _ (by rw[Nat.add_zero];exact hx2)] at this
       exact G.T.ne (G.xN hx2) (G.yN hy) (G.ne hx2 hy) this
      refine kasC_bind (xJ (yh hy) ?_)
      have I3:=I.Sq G hy fun w hw=>by rw[hx2] at hw;cases hw;exact lyx
      by_cases e7:(ib+1==Y.length)=true
      ·rw[if_pos e7]
       have e7':=eq_of_beq e7
       refine kasC_pure (ZP _ _ _ _ _ _ ?_)
       rw[Ss,wH rfl,wH rfl,zR,zR]
       exact I3.zbF G (by omega)
      rw[if_neg e7]
      have h7:ib+1<Y.length:=Nat.lt_of_le_of_ne b fun z=>e7 (by rw[z];exact beq_self_eq_true _)
      refine kasC_bind (xJ (yh hx2) ?_)
      have gy:∀i y2,Y[ib+1+i]?=some y2->Y.getD (ib+1+i) 0=y2:=fun i y2 h=>by rw[zq7,h];rfl
      have yy:∀i,i<Y.length-(ib+1)->Y[ib+1+i]?=some (Y.getD (ib+1+i) 0):=fun i hi=>by rw[zq7,zqV (by omega)];rfl
      refine kasC_bind (Mx (left:=true) (y:=fun i=>Y.getD (ib+1+i) 0) G.T hc rfl (G.xN hx2) yy (fun i hi=>G.yN (yy i hi)) (fun i hi=>Ne.symm (G.ne hx2 (yy i hi))) (fun i j hij hj=>Zm G.uy (yy i (by omega)) (yy j hj) (by omega)) (by omega) fun k1 j1 j2 j3=>?_)
      dsimp only
      by_cases kq:k1 > 0
      ·rw[if_pos kq]
       have I4:=I3.zd2 G hx2 k1 (by omega) fun i y2 hi hy2=>by
        have:=j2 i hi
        rw[gy _ _ hy2] at this
        exact this
       by_cases e5:(ib+1+k1==Y.length)=true
       ·rw[if_pos e5]
        have e5':=eq_of_beq e5
        refine kasC_pure (ZP _ _ _ _ _ _ ?_)
        rw[Ss,Qu (k:=k1) rfl,wH rfl,wH rfl,zR,zR,zR]
        exact I4.zbF G (by omega)
       rw[if_neg e5]
       have h5:ib+1+k1<Y.length:=Nat.lt_of_le_of_ne (by omega) fun z=>e5 (by rw[z];exact beq_self_eq_true _)
       refine kasC_bind (xJ (yh hx2) ?_)
       have I5:=I4.X4 G hx2 fun y2 hy2=>by
        have:=j3 k1 (by omega) (by omega)
        rw[gy k1 _ (by exact hy2)] at this
        exact G.T.ne (G.yN hy2) (G.xN hx2) (Ne.symm (G.ne hx2 hy2)) this
       by_cases e6:(ia+1+1==X.length)=true
       ·rw[if_pos e6]
        have e6':=eq_of_beq e6
        obtain⟨x3,hx3⟩:∃x3,X[ia+1]?=some x3:=⟨_,zqV (by omega)⟩
        refine kasC_pure (ZP _ _ _ _ _ _ ?_)
        rw[Ss,Qu (k:=k1) rfl,zR,Ss,wH rfl,wH rfl,zR,zR]
        exact I5.endL G hx3 (by omega) (top' hx3 (by omega))
       rw[if_neg e6]
       have h6:ia+1+1<X.length:=Nat.lt_of_le_of_ne (by omega) fun z=>e6 (by rw[z];exact beq_self_eq_true _)
       rw[Ss,Qu (k:=k1) rfl,zR,Ss]
       exact yJ (fun _=>kasC_pure (vP _ (ia+1) (ib+1+k1) _ _ I5 h6 h5 (by omega)).1) fun _=>kasC_pure (vP _ (ia+1) (ib+1+k1) _ _ I5 h6 h5 (by omega)).2
      ·rw[if_neg kq]
       obtain rfl:k1=0:=by omega
       have h5:ib+1<Y.length:=by omega
       refine kasC_bind (xJ (yh hx2) ?_)
       have I5:=I3.X4 G hx2 fun y2 hy2=>by
        have:=j3 0 (by omega) (by omega)
        rw[gy 0 _ (by rw[Nat.add_zero];exact hy2)] at this
        exact G.T.ne (G.yN hy2) (G.xN hx2) (Ne.symm (G.ne hx2 hy2)) this
       by_cases e6:(ia+1+1==X.length)=true
       ·rw[if_pos e6]
        have e6':=eq_of_beq e6
        obtain⟨x3,hx3⟩:∃x3,X[ia+1]?=some x3:=⟨_,zqV (by omega)⟩
        refine kasC_pure (ZP _ _ _ _ _ _ ?_)
        rw[Ss,Ss,wH rfl,wH rfl,zR,zR]
        exact I5.endL G hx3 (by omega) (top' hx3 (by omega))
       rw[if_neg e6]
       have h6:ia+1+1<X.length:=Nat.lt_of_le_of_ne (by omega) fun z=>e6 (by rw[z];exact beq_self_eq_true _)
       rw[Ss,Ss]
       exact yJ (fun _=>kasC_pure (vP _ (ia+1) (ib+1) _ _ I5 h6 h5 (by omega)).1) fun _=>kasC_pure (vP _ (ia+1) (ib+1) _ _ I5 h6 h5 (by omega)).2
   ·dsimp only
    exact kasC_pure (ret _ _ _ _ _ _ h)
   ·dsimp only
    refine kasC_bind (kasC_modify ?_)
    show kasC _ _ _ _ _ (yP κ it l pend _) s
    exact kasC_pure (cont O2 ia2 ib2 _ _ I2 a2 b2 (by omega))
 ·dsimp only
  exact kasC_pure (q arr g' h)
end
section
variable {lt:Nat->Nat->Bool}{N:Nat}
structure HI (lt:Nat->Nat->Bool)(X Y O:List Nat)(na nb:Nat):Prop where
 pm:(X.take na++Y.take nb++O.reverse).Perm (X++Y)
 up:Up lt O.reverse
 hi:∀o∈O,∀r∈X.take na++Y.take nb,lt r o=true
variable {X Y O:List Nat}{na nb:Nat}
theorem wY {l:List Nat}{i z:Nat}(h:z∈l.take i):∃j,j<i/\l[j]?=some z:=by
 obtain⟨m,hm,e⟩:=zrA h
 rw[zri] at hm
 refine⟨m,by omega,?_⟩
 rw[List.getElem_take] at e
 rw[zqV (by omega),e]
theorem MG.above (G:MG lt N X Y){l:List Nat}(hl:∀z∈l,z<N)(u:Up lt l){i x z:Nat}(hx:x<N)(h1:1<=i)(h2:i<=l.length)(hi:∀w,l[i-1]?=some w->lt w x=true)(hz:z∈l.take i):lt z x=true:=by
 obtain⟨j,hj,e⟩:=wY hz
 rcases Nat.lt_or_eq_of_le (show j<=i-1 by omega) with q | q
 ·obtain⟨w,hw⟩:∃w,l[i-1]?=some w:=⟨_,zqV (by omega)⟩
  exact G.T.tr (hl z (zqZ e)) (hl w (zqZ hw)) hx (Zm u e hw q) (hi w hw)
 ·exact hi z (by rw[<-q];exact e)
theorem zaT {l:List Nat}{n x:Nat}(h0:0<n)(hx:l[n-1]?=some x):l.take n=l.take (n-1)++[x]:=by
 have:=zY hx
 rw[show n-1+1=n by omega] at this
 exact this
theorem HI.X4 (G:MG lt N X Y)(h:HI lt X Y O na nb){x:Nat}(h0:0<na)(hx:X[na-1]?=some x)(h1:1<=nb)(h2:nb<=Y.length)(hy:∀y,Y[nb-1]?=some y->lt y x=true):HI lt X Y (O++[x]) (na-1) nb:=by
 have et:=zaT h0 hx
 have er:(O++[x]).reverse=x::O.reverse:=by simp
 refine⟨?_,?_,fun o ho r hr=>?_⟩
 ·have:=h.pm
  rw[et] at this
  rw[er]
  refine List.Perm.trans ?_ this
  have e1:(X.take (na-1)++Y.take nb++x::O.reverse).Perm (x::(X.take (na-1)++Y.take nb++O.reverse)):=List.perm_middle
  refine e1.trans ?_
  have e2:(x::(X.take (na-1)++(Y.take nb++O.reverse))).Perm (X.take (na-1)++x::(Y.take nb++O.reverse)):=List.perm_middle.symm
  simpa using e2
 ·rw[er]
  exact List.pairwise_cons.mpr ⟨fun o ho=>h.hi o (List.mem_reverse.mp ho) x (List.mem_append_left _ (by rw[et];exact zrb _ zre)),h.up⟩
 ·rcases List.mem_append.mp ho with z | z
  ·refine h.hi o z r ?_
   rcases List.mem_append.mp hr with q | q
   ·exact List.mem_append_left _ (by rw[et];exact List.mem_append_left _ q)
   ·exact zrb _ q
  ·rw[List.mem_singleton.mp z]
   rcases List.mem_append.mp hr with q | q
   ·obtain⟨j,hj,e⟩:=wY q
    exact Zm G.ux e hx hj
   ·exact G.above (fun z hz=>G.hN z (zrb _ hz)) G.uy (G.xN hx) h1 h2 hy q
theorem HI.Sq (G:MG lt N X Y)(h:HI lt X Y O na nb){y:Nat}(h0:0<nb)(hy:Y[nb-1]?=some y)(h1:1<=na)(h2:na<=X.length)(hx:∀x,X[na-1]?=some x->lt x y=true):HI lt X Y (O++[y]) na (nb-1):=by
 have et:=zaT h0 hy
 have er:(O++[y]).reverse=y::O.reverse:=by simp
 refine⟨?_,?_,fun o ho r hr=>?_⟩
 ·have:=h.pm
  rw[et] at this
  rw[er]
  simpa using this
 ·rw[er]
  exact List.pairwise_cons.mpr ⟨fun o ho=>h.hi o (List.mem_reverse.mp ho) y (zrb _ (by rw[et];exact zrb _ zre)),h.up⟩
 ·rcases List.mem_append.mp ho with z | z
  ·refine h.hi o z r ?_
   rcases List.mem_append.mp hr with q | q
   ·exact List.mem_append_left _ q
   ·exact zrb _ (by rw[et];exact List.mem_append_left _ q)
  ·rw[List.mem_singleton.mp z]
   rcases List.mem_append.mp hr with q | q
   ·exact G.above (fun z hz=>G.hN z (List.mem_append_left _ hz)) G.ux (G.yN hy) h1 h2 hx q
   ·obtain⟨j,hj,e⟩:=wY q
    exact Zm G.uy e hy hj
theorem HI.zg1 (G:MG lt N X Y){y:Nat}(hn:1<=nb)(hnY:nb<=Y.length)(hy:Y[nb-1]?=some y):∀(k a0:Nat) {O:List Nat},HI lt X Y O (a0+k) nb->a0+k<=X.length->(∀i x,a0<=i->i<a0+k->X[i]?=some x->lt y x=true)->HI lt X Y (O++((X.take (a0+k)).drop a0).reverse) a0 nb
 | 0,a0,O,h,_,_=>by
  have e:(X.take (a0+0)).drop a0=[]:=List.drop_eq_nil_of_le (by rw[zri];omega)
  rw[e]
  simpa using h
 | k+1,a0,O,h,hk,hb=>by
  obtain⟨x,hx⟩:∃x,X[a0+k]?=some x:=⟨_,zqV (by omega)⟩
  have h1:=h.X4 G (x:=x) (by omega) (by rw[show a0+(k+1)-1=a0+k by omega];exact hx) hn hnY fun w hw=>by
   rw[hy] at hw
   cases hw
   exact hb (a0+k) x (by omega) (by omega) hx
  rw[show a0+(k+1)-1=a0+k by omega] at h1
  have ih:=HI.zg1 G hn hnY hy k a0 h1 (by omega) fun i x a b c=>hb i x a (by omega) c
  have e:((X.take (a0+(k+1))).drop a0).reverse=x::((X.take (a0+k)).drop a0).reverse:=by
   rw[show a0+(k+1)=a0+k+1 by omega,zY hx,List.drop_append_of_le_length (by rw[zri];omega)]
   simp
  rw[e]
  simpa using ih
theorem HI.zd2 (G:MG lt N X Y){x:Nat}(hn:1<=na)(hnX:na<=X.length)(hx:X[na-1]?=some x):∀(k a0:Nat) {O:List Nat},HI lt X Y O na (a0+k)->a0+k<=Y.length->(∀i y,a0<=i->i<a0+k->Y[i]?=some y->lt x y=true)->HI lt X Y (O++((Y.take (a0+k)).drop a0).reverse) na a0
 | 0,a0,O,h,_,_=>by
  have e:(Y.take (a0+0)).drop a0=[]:=List.drop_eq_nil_of_le (by rw[zri];omega)
  rw[e]
  simpa using h
 | k+1,a0,O,h,hk,hb=>by
  obtain⟨y,hy⟩:∃y,Y[a0+k]?=some y:=⟨_,zqV (by omega)⟩
  have h1:=h.Sq G (y:=y) (by omega) (by rw[show a0+(k+1)-1=a0+k by omega];exact hy) hn hnX fun w hw=>by
   rw[hx] at hw
   cases hw
   exact hb (a0+k) y (by omega) (by omega) hy
  rw[show a0+(k+1)-1=a0+k by omega] at h1
  have ih:=HI.zd2 G hn hnX hx k a0 h1 (by omega) fun i x a b c=>hb i x a (by omega) c
  have e:((Y.take (a0+(k+1))).drop a0).reverse=y::((Y.take (a0+k)).drop a0).reverse:=by
   rw[show a0+(k+1)=a0+k+1 by omega,zY hy,List.drop_append_of_le_length (by rw[zri];omega)]
   simp
  rw[e]
  simpa using ih
theorem TF {l:List Nat}(u:Up lt l)(i:Nat):Up lt (l.take i):=u.sublist (List.take_sublist _ _)
theorem HI.zbG (G:MG lt N X Y)(h:HI lt X Y O na nb)(e:na=0){it:Array Keyed}:Ux lt it X Y ((X.take na++Y.take nb++O.reverse).map (kas_item it)).toArray:=by
 refine⟨_,rfl,h.pm,?_⟩
 have hh:=h.hi
 subst e
 rw[List.take_zero,List.nil_append] at *
 exact List.pairwise_append.mpr ⟨TF G.uy _,h.up,fun a ha b hb=>hh b (List.mem_reverse.mp hb) a ha⟩
theorem HI.zbF (G:MG lt N X Y)(h:HI lt X Y O na nb)(e:nb=0){it:Array Keyed}:Ux lt it X Y ((X.take na++Y.take nb++O.reverse).map (kas_item it)).toArray:=by
 refine⟨_,rfl,h.pm,?_⟩
 have hh:=h.hi
 subst e
 rw[List.take_zero,List.append_nil] at *
 exact List.pairwise_append.mpr ⟨TF G.ux _,h.up,fun a ha b hb=>hh b (List.mem_reverse.mp hb) a ha⟩
theorem HI.zfE (G:MG lt N X Y)(h:HI lt X Y O na nb)(e:nb=1)(bot:∀y x,Y[0]?=some y->x∈X->lt y x=true){it:Array Keyed}:Ux lt it X Y ((Y.take nb++X.take na++O.reverse).map (kas_item it)).toArray:=by
 refine⟨_,rfl,(List.Perm.append_right _ List.perm_append_comm).trans h.pm,?_⟩
 refine List.pairwise_append.mpr ⟨List.pairwise_append.mpr ⟨TF G.uy _,TF G.ux _,fun a ha b hb=>?_⟩,h.up,fun a ha b hb=>h.hi b (List.mem_reverse.mp hb) a ?_⟩
 ·obtain⟨j,hj,ej⟩:=wY ha
  obtain rfl:j=0:=by omega
  exact bot a b ej (List.mem_of_mem_take hb)
 ·rcases List.mem_append.mp ha with z | z
  ·exact zrb _ z
  ·exact List.mem_append_left _ z
end
section
variable {prog:Program}{w:World}{A:Around}{E:Value->Shared->Prop}{κ:SortKind}{it:Array Keyed}{s:Shared}
variable {lt:Nat->Nat->Bool}{N:Nat}
def mhi':Array Keyed->Array Keyed->StateT SortSt Sem (Array Keyed):=sortPriv% PySem.Builtin.mergeHi
theorem zeY {X:List Nat}{i j:Nat}:((X.map (kas_item it)).toArray).extract i j=(((X.take j).drop i).map (kas_item it)).toArray:=by
 apply Array.toList_inj.mp
 rw[Array.toList_extract]
 simp only[List.extract,List.toList_toArray]
 rw[<-List.map_drop,<-List.map_take,List.drop_take]
theorem xU {X:List Nat}{j:Nat}:((X.map (kas_item it)).toArray).extract 0 j=((X.take j).map (kas_item it)).toArray:=by
 rw[zeY,List.drop_zero]
theorem ZQ {O:List Nat}:((O.map (kas_item it)).toArray).reverse=(O.reverse.map (kas_item it)).toArray:=by simp
theorem hloop {τ:Type}{X Y l:List Nat}{pend:Array (Nat×Nat×Nat)}{R:Option (Array Keyed)×Nat×Nat×Array Keyed × τ->SortSt->Shared->Prop}{body:Nat->Option (Array Keyed)×Nat×Nat×Array Keyed × τ->StateT SortSt Sem (ForInStep (Option (Array Keyed)×Nat×Nat×Array Keyed × τ))}
  (hb:∀z O na nb (t:τ) g (R':ForInStep (Option (Array Keyed)×Nat×Nat×Array Keyed × τ)->SortSt->Shared->Prop),HI lt X Y O na nb->0<na->na<=X.length->1<nb->nb<=Y.length->(∀arr u v o t g,Ux lt it X Y arr->R' (.done (some arr,u,v,o,t)) (yP κ it l pend g) s) ->
   (∀O' na' nb' t g,HI lt X Y O' na' nb'->0<na'->na'<=X.length->1<nb'->nb'<=Y.length->na'+nb'<na+nb->R' (.done (none,na',nb',(O'.map (kas_item it)).toArray,t)) (yP κ it l pend g) s/\R' (.yield (none,na',nb',(O'.map (kas_item it)).toArray,t)) (yP κ it l pend g) s) ->
   kasC (model prog w) A E (body z (none,na,nb,(O.map (kas_item it)).toArray,t)) R' (yP κ it l pend g) s) :
  ∀(f:Nat) (ls:List Nat) (O:List Nat) (na nb:Nat) (t:τ) (g:Nat),ls.length=f->HI lt X Y O na nb->0<na->na<=X.length->1<nb->nb<=Y.length->(∀arr u v o t g,Ux lt it X Y arr->R (some arr,u,v,o,t) (yP κ it l pend g) s) ->
   (∀O' na' nb' t g,HI lt X Y O' na' nb'->0<na'->na'<=X.length->1<nb'->nb'<=Y.length->na'+nb'<=na+nb->(0<f->na'+nb'<na+nb)->R (none,na',nb',(O'.map (kas_item it)).toArray,t) (yP κ it l pend g) s) ->
   kasC (model prog w) A E (forIn ls (none,na,nb,(O.map (kas_item it)).toArray,t) body) R (yP κ it l pend g) s
 | 0,[],O,na,nb,t,g,_,I,h1,h2,h3,h4,ret,cont=>kasC_nil (cont O na nb t g I h1 h2 h3 h4 (zra _) fun z=>by omega)
 | 0,_::_,_,_,_,_,_,hl,_,_,_,_,_,_,_=>by simp at hl
 | f+1,[],_,_,_,_,_,hl,_,_,_,_,_,_,_=>by simp at hl
 | f+1,z::ls,O,na,nb,t,g,hl,I,h1,h2,h3,h4,ret,cont=>by
  refine kasC_cons (hb z O na nb t g _ I h1 h2 h3 h4 (fun arr u v o t g h=>ret arr u v o t g h) fun O' na' nb' t' g' I' a b c d e=>⟨cont O' na' nb' t' g' I' a b c d (zrd e) fun _=>e,?_⟩)
  exact hloop hb f ls O' na' nb' t' g' (by simpa using hl) I' a b c d ret fun O2 na2 nb2 t2 g2 I2 a2 b2 c2 d2 e2 _=>cont O2 na2 nb2 t2 g2 I2 a2 b2 c2 d2 (by omega) fun _=>by omega
theorem zlE {X Y l:List Nat}{pend:Array (Nat×Nat×Nat)}{g:Nat}{Q:Array Keyed->SortSt->Shared->Prop}(hc:Nm prog w A κ it s lt N)(G:MG lt N X Y){xl y0:Nat}(hxl:X[X.length-1]?=some xl)(hy0:Y[0]?=some y0)(top:∀y∈Y,lt y xl=true)(bot:∀y x,Y[0]?=some y->x∈X->lt y x=true)
  (q:∀arr g',Ux lt it X Y arr->Q arr (yP κ it l pend g') s):kasC (model prog w) A E (mhi' (X.map (kas_item it)).toArray (Y.map (kas_item it)).toArray) Q (yP κ it l pend g) s:=by
 have lx:0<X.length:=by have:=(zqX.mp hxl).1;omega
 have ly:=(zqX.mp hy0).1
 have I0:HI lt X Y [] X.length Y.length:=⟨by rw[zrn,zrn];simp,.nil,fun o h=>by cases h⟩
 have I1:HI lt X Y [xl] (X.length-1) Y.length:=I0.X4 G lx hxl ly (zra _) fun y hy=>top y (zqZ hy)
 refine kasC_bind (kasC_lift (wpAny_rule ?_))
 dsimp only
 simp only[siz]
 refine kasC_bind (xJ (yh hxl) ?_)
 have eo:(#[kas_item it xl]:Array Keyed)=([xl].map (kas_item it)).toArray:=rfl
 rw[eo]
 by_cases e1:(X.length-1==0)=true
 ·rw[if_pos e1]
  refine kasC_pure (q _ _ ?_)
  rw[xU,xU,ZQ,zR,zR]
  exact I1.zbG G (eq_of_beq e1)
 rw[if_neg e1]
 by_cases e2:(Y.length==1)=true
 ·rw[if_pos e2]
  refine kasC_pure (q _ _ ?_)
  rw[xU,xU,ZQ,zR,zR]
  exact I1.zfE G (eq_of_beq e2) bot
 rw[if_neg e2]
 have n1:0<X.length-1:=Nat.pos_of_ne_zero fun z=>e1 (by rw[z];rfl)
 have n2:1<Y.length:=Nat.lt_of_le_of_ne ly fun z=>e2 (by rw[<-z];rfl)
 refine kasC_bind (kasC_get ?_)
 refine kasC_bind (kasC_range ?_)
 have out:∀{body:Nat->Option (Array Keyed)×Nat×Nat×Array Keyed×Nat->StateT SortSt Sem (ForInStep (Option (Array Keyed)×Nat×Nat×Array Keyed×Nat))} {R:Option (Array Keyed)×Nat×Nat×Array Keyed×Nat->SortSt->Shared->Prop},
   (∀z O na nb (t:Nat) g (R':ForInStep (Option (Array Keyed)×Nat×Nat×Array Keyed×Nat)->SortSt->Shared->Prop),HI lt X Y O na nb->0<na->na<=X.length->1<nb->nb<=Y.length->(∀arr u v o t g,Ux lt it X Y arr->R' (.done (some arr,u,v,o,t)) (yP κ it l pend g) s) ->
    (∀O' na' nb' t g,HI lt X Y O' na' nb'->0<na'->na'<=X.length->1<nb'->nb'<=Y.length->na'+nb'<na+nb->R' (.yield (none,na',nb',(O'.map (kas_item it)).toArray,t)) (yP κ it l pend g) s) ->
    kasC (model prog w) A E (body z (none,na,nb,(O.map (kas_item it)).toArray,t)) R' (yP κ it l pend g) s) ->
   (∀arr u v o t g,Ux lt it X Y arr->R (some arr,u,v,o,t) (yP κ it l pend g) s) ->
   ∀(f:Nat) (ls:List Nat) (O:List Nat) (na nb t g:Nat),ls.length=f->HI lt X Y O na nb->0<na->na<=X.length->1<nb->nb<=Y.length->na+nb<=f->kasC (model prog w) A E (forIn ls (none,na,nb,(O.map (kas_item it)).toArray,t) body) R (yP κ it l pend g) s:=by
  intro body R hb ret f
  induction f with
  | zero=>intro ls O na nb t g hl I a b c d e;omega
  | succ f ih =>
   intro ls O na nb t g hl I a b c d e
   cases ls with
   | nil=>simp at hl
   | cons z ls =>
    exact kasC_cons (hb z O na nb t g _ I a b c d (fun arr u v o t g h=>ret arr u v o t g h) fun O' na' nb' t' g' I' a' b' c' d' e'=>ih ls O' na' nb' t' g' (by simpa using hl) I' a' b' c' d' (by omega))
 refine out (fun z O na nb t g' R' I a ax b bx ret cont=>?_) (fun arr u v o t g' h=>?_) (X.length+Y.length) _ [xl] (X.length-1) Y.length _ g (by rw[List.length_range'];omega) I1 n1 (by omega) n2 (zra _) (by omega)
 ·refine kasC_bind (kasC_range ?_)
  refine hloop (τ:=Nat×Nat) (fun z O na nb t g R2 I a ax b bx ZP vP=>?_) _ _ O na nb (0,0) g' rfl I a ax b bx (fun arr u v o t g h=>?_) (fun O' na' nb' t g I' a' ax' b' bx' c d=>?_)
  ·obtain⟨x,hx⟩:∃x,X[na-1]?=some x:=⟨_,zqV (by omega)⟩
   obtain⟨y,hy⟩:∃y,Y[nb-1]?=some y:=⟨_,zqV (by omega)⟩
   dsimp only
   refine kasC_bind (xJ (yh hy) (kasC_bind (xJ (yh hx) (kasC_bind (zcJ hc (G.yN hy) (G.xN hx) rfl ?_)))))
   cases e:lt y x with
   | true =>
    dsimp only
    rw[if_pos rfl]
    refine kasC_bind (xJ (yh hx) ?_)
    have I2:=I.X4 G (x:=x) a hx (by omega) bx fun w hw=>by rw[hy] at hw;cases hw;exact e
    rw[Ss]
    by_cases e3:(na-1==0)=true
    ·rw[if_pos e3]
     refine kasC_pure (ZP _ _ _ _ _ _ ?_)
     rw[xU,xU,ZQ,zR,zR]
     exact I2.zbG G (eq_of_beq e3)
    ·rw[if_neg e3]
     have h3:0<na-1:=Nat.pos_of_ne_zero fun z=>e3 (by rw[z];rfl)
     have c2:=vP _ (na-1) nb (t.1+1,0) g I2 h3 (by omega) b bx (by omega)
     exact yJ (fun _=>kasC_pure c2.1) fun _=>kasC_pure c2.2
   | false =>
    dsimp only
    rw[if_neg zqY]
    refine kasC_bind (xJ (yh hy) ?_)
    have e':lt x y=true:=G.T.ne (G.yN hy) (G.xN hx) (Ne.symm (G.ne hx hy)) e
    have I2:=I.Sq G (y:=y) (by omega) hy (by omega) ax fun w hw=>by rw[hx] at hw;cases hw;exact e'
    rw[Ss]
    by_cases e3:(nb-1==1)=true
    ·rw[if_pos e3]
     refine kasC_pure (ZP _ _ _ _ _ _ ?_)
     rw[xU,xU,ZQ,zR,zR]
     exact I2.zfE G (eq_of_beq e3) bot
    ·rw[if_neg e3]
     have h3:1<nb-1:=by
      have:nb-1≠1:=fun z=>e3 (by rw[z];rfl)
      omega
     have c2:=vP _ na (nb-1) (0,t.2+1) g I2 a ax h3 (by omega) (by omega)
     exact yJ (fun _=>kasC_pure c2.1) fun _=>kasC_pure c2.2
  ·dsimp only
   exact kasC_pure (ret _ _ _ _ _ _ h)
  ·dsimp only
   have zlD:na'+nb'<na+nb:=d (by rw[List.length_range'];omega)
   refine kasC_bind (kasC_lift (wpAny_rule ?_))
   refine kasC_bind (kasC_range ?_)
   refine hloop (τ:=Nat×Nat×Nat) (fun z O na nb t g R2 I a ax b bx ZP vP=>?_) _ _ O' na' nb' (_,_,_) g rfl I' a' ax' b' bx' (fun arr u v o t g h=>?_) (fun O2 na2 nb2 t g I2 a2 ax2 b2 bx2 c2 _=>?_)
   ·obtain⟨y,hy⟩:∃y,Y[nb-1]?=some y:=⟨_,zqV (by omega)⟩
    dsimp only
    refine yJ (fun _=>?_) (fun _=>?_)
    all_goals
     have gx:∀i x2,X[i]?=some x2->X.getD i 0=x2:=fun i x2 h=>by rw[zq7,h];rfl
     have xx:∀i,i<na->X[0+i]?=some (X.getD i 0):=fun i hi=>by rw[Nat.zero_add,zq7,zqV (by omega)];rfl
     refine kasC_bind (kasC_modify ?_)
     show kasC _ _ _ _ _ (yP κ it l pend _) s
     refine kasC_bind (xJ (yh hy) ?_)
     refine kasC_bind (Mx (left:=false) (y:=fun i=>X.getD i 0) G.T hc rfl (G.yN hy) xx (fun i hi=>G.xN (xx i hi)) (fun i hi=>G.ne (xx i hi) hy) (fun i j hij hj=>Zm G.ux (xx i (by omega)) (xx j hj) (by omega)) (by omega) fun at1 k1 k2 k3=>?_)
     dsimp only
     by_cases kp:na-at1 > 0
     ·rw[if_pos kp]
      obtain⟨kk,ek⟩:∃kk,na=at1+kk:=⟨na-at1,by omega⟩
      have I':=I
      rw[ek] at I'
      have I2:=HI.zg1 G (by omega) (by omega) hy kk at1 I' (by omega) fun i x2 hi1 hi2 hx2=>by
       have:=k3 i hi1 (by omega)
       rw[gx i _ hx2] at this
       exact G.T.ne (G.xN hx2) (G.yN hy) (G.ne hx2 hy) this
      rw[<-ek] at I2
      rw[zeY (X:=X) (i:=at1) (j:=na),ZQ,zR]
      by_cases e3:(at1==0)=true
      ·rw[if_pos e3]
       have e3':=eq_of_beq e3
       refine kasC_pure (ZP _ _ _ _ _ _ ?_)
       rw[xU,xU,ZQ,zR,zR]
       exact I2.zbG G e3'
      rw[if_neg e3]
      have h3:0<at1:=Nat.pos_of_ne_zero fun z=>e3 (by rw[z];rfl)
      obtain⟨x2,hx2⟩:∃x2,X[at1-1]?=some x2:=⟨_,zqV (by omega)⟩
      have lxy:lt x2 y=true:=by
       have:=k2 (at1-1) (by omega)
       rw[gx _ _ hx2] at this
       exact this
      refine kasC_bind (xJ (yh hy) ?_)
      have I3:=I2.Sq G (y:=y) (by omega) hy (by omega) (by omega) fun w hw=>by rw[hx2] at hw;cases hw;exact lxy
      rw[Ss]
      by_cases e7:(nb-1==1)=true
      ·rw[if_pos e7]
       have e7':=eq_of_beq e7
       refine kasC_pure (ZP _ _ _ _ _ _ ?_)
       rw[xU,xU,ZQ,zR,zR]
       exact I3.zfE G e7' bot
      rw[if_neg e7]
      have h7:1<nb-1:=by
       have:nb-1≠1:=fun z=>e7 (by rw[z];rfl)
       omega
      refine kasC_bind (xJ (yh hx2) ?_)
      have gy:∀i y2,Y[i]?=some y2->Y.getD i 0=y2:=fun i y2 h=>by rw[zq7,h];rfl
      have yy:∀i,i<nb-1->Y[0+i]?=some (Y.getD i 0):=fun i hi=>by rw[Nat.zero_add,zq7,zqV (by omega)];rfl
      refine kasC_bind (Mx (left:=true) (y:=fun i=>Y.getD i 0) G.T hc rfl (G.xN hx2) yy (fun i hi=>G.yN (yy i hi)) (fun i hi=>Ne.symm (G.ne hx2 (yy i hi))) (fun i j hij hj=>Zm G.uy (yy i (by omega)) (yy j hj) (by omega)) (by omega) fun at2 j1 j2 j3=>?_)
      dsimp only
      by_cases kq:nb-1-at2 > 0
      ·rw[if_pos kq]
       obtain⟨kk2,ek2⟩:∃kk2,nb-1=at2+kk2:=⟨nb-1-at2,by omega⟩
       have I3':=I3
       rw[ek2] at I3'
       have I4:=HI.zd2 G (by omega) (by omega) hx2 kk2 at2 I3' (by omega) fun i y2 hi1 hi2 hy2=>by
        have:=j3 i hi1 (by omega)
        rw[gy i _ hy2] at this
        exact G.T.ne (G.yN hy2) (G.xN hx2) (Ne.symm (G.ne hx2 hy2)) this
       rw[<-ek2] at I4
       rw[zeY (X:=Y) (i:=at2) (j:=nb-1),ZQ,zR]
       by_cases e5:(at2==1)=true
       ·rw[if_pos e5]
        have e5':=eq_of_beq e5
        refine kasC_pure (ZP _ _ _ _ _ _ ?_)
        rw[xU,xU,ZQ,zR,zR]
        exact I4.zfE G e5' bot
       rw[if_neg e5]
       by_cases e8:(at2==0)=true
       ·rw[if_pos e8]
        have e8':=eq_of_beq e8
        refine kasC_pure (ZP _ _ _ _ _ _ ?_)
        rw[xU,xU,ZQ,zR,zR]
        exact I4.zbF G e8'
       rw[if_neg e8]
       have h5:1<at2:=by
        have z1:at2≠1:=fun z=>e5 (by rw[z];rfl)
        have z2:at2≠0:=fun z=>e8 (by rw[z];rfl)
        omega
       refine kasC_bind (xJ (yh hx2) ?_)
       have I5:=I4.X4 G (x:=x2) (by omega) hx2 (by omega) (by omega) fun y2 hy2=>by
        have:=j2 (at2-1) (by omega)
        rw[gy _ _ hy2] at this
        exact this
       rw[Ss]
       by_cases e6:(at1-1==0)=true
       ·rw[if_pos e6]
        have e6':=eq_of_beq e6
        refine kasC_pure (ZP _ _ _ _ _ _ ?_)
        rw[xU,xU,ZQ,zR,zR]
        exact I5.zbG G e6'
       rw[if_neg e6]
       have h6:0<at1-1:=Nat.pos_of_ne_zero fun z=>e6 (by rw[z];rfl)
       exact yJ (fun _=>kasC_pure (vP _ (at1-1) at2 _ _ I5 h6 (by omega) h5 (by omega) (by omega)).1) fun _=>kasC_pure (vP _ (at1-1) at2 _ _ I5 h6 (by omega) h5 (by omega) (by omega)).2
      ·rw[if_neg kq]
       have e22:at2=nb-1:=by omega
       have h5:1<nb-1:=by omega
       refine kasC_bind (xJ (yh hx2) ?_)
       have I5:=I3.X4 G (x:=x2) (by omega) hx2 (by omega) (by omega) fun y2 hy2=>by
        have:=j2 ((nb-1)-1) (by omega)
        rw[gy _ _ hy2] at this
        exact this
       rw[Ss]
       by_cases e6:(at1-1==0)=true
       ·rw[if_pos e6]
        have e6':=eq_of_beq e6
        refine kasC_pure (ZP _ _ _ _ _ _ ?_)
        rw[xU,xU,ZQ,zR,zR]
        exact I5.zbG G e6'
       rw[if_neg e6]
       have h6:0<at1-1:=Nat.pos_of_ne_zero fun z=>e6 (by rw[z];rfl)
       exact yJ (fun _=>kasC_pure (vP _ (at1-1) (nb-1) _ _ I5 h6 (by omega) h5 (by omega) (by omega)).1) fun _=>kasC_pure (vP _ (at1-1) (nb-1) _ _ I5 h6 (by omega) h5 (by omega) (by omega)).2
     ·rw[if_neg kp]
      have e11:at1=na:=by omega
      have h3:0<na:=a
      obtain⟨x2,hx2⟩:∃x2,X[na-1]?=some x2:=⟨_,zqV (by omega)⟩
      have lxy:lt x2 y=true:=by
       have:=k2 (na-1) (by omega)
       rw[gx _ _ hx2] at this
       exact this
      refine kasC_bind (xJ (yh hy) ?_)
      have I3:=I.Sq G (y:=y) (by omega) hy (by omega) (by omega) fun w hw=>by rw[hx2] at hw;cases hw;exact lxy
      rw[Ss]
      by_cases e7:(nb-1==1)=true
      ·rw[if_pos e7]
       have e7':=eq_of_beq e7
       refine kasC_pure (ZP _ _ _ _ _ _ ?_)
       rw[xU,xU,ZQ,zR,zR]
       exact I3.zfE G e7' bot
      rw[if_neg e7]
      have h7:1<nb-1:=by
       have:nb-1≠1:=fun z=>e7 (by rw[z];rfl)
       omega
      refine kasC_bind (xJ (yh hx2) ?_)
      have gy:∀i y2,Y[i]?=some y2->Y.getD i 0=y2:=fun i y2 h=>by rw[zq7,h];rfl
      have yy:∀i,i<nb-1->Y[0+i]?=some (Y.getD i 0):=fun i hi=>by rw[Nat.zero_add,zq7,zqV (by omega)];rfl
      refine kasC_bind (Mx (left:=true) (y:=fun i=>Y.getD i 0) G.T hc rfl (G.xN hx2) yy (fun i hi=>G.yN (yy i hi)) (fun i hi=>Ne.symm (G.ne hx2 (yy i hi))) (fun i j hij hj=>Zm G.uy (yy i (by omega)) (yy j hj) (by omega)) (by omega) fun at2 j1 j2 j3=>?_)
      dsimp only
      by_cases kq:nb-1-at2 > 0
      ·rw[if_pos kq]
       obtain⟨kk2,ek2⟩:∃kk2,nb-1=at2+kk2:=⟨nb-1-at2,by omega⟩
       have I3':=I3
       rw[ek2] at I3'
       have I4:=HI.zd2 G (by omega) (by omega) hx2 kk2 at2 I3' (by omega) fun i y2 hi1 hi2 hy2=>by
        have:=j3 i hi1 (by omega)
        rw[gy i _ hy2] at this
        exact G.T.ne (G.yN hy2) (G.xN hx2) (Ne.symm (G.ne hx2 hy2)) this
       rw[<-ek2] at I4
       rw[zeY (X:=Y) (i:=at2) (j:=nb-1),ZQ,zR]
       by_cases e5:(at2==1)=true
       ·rw[if_pos e5]
        have e5':=eq_of_beq e5
        refine kasC_pure (ZP _ _ _ _ _ _ ?_)
        rw[xU,xU,ZQ,zR,zR]
        exact I4.zfE G e5' bot
       rw[if_neg e5]
       by_cases e8:(at2==0)=true
       ·rw[if_pos e8]
        have e8':=eq_of_beq e8
        refine kasC_pure (ZP _ _ _ _ _ _ ?_)
        rw[xU,xU,ZQ,zR,zR]
        exact I4.zbF G e8'
       rw[if_neg e8]
       have h5:1<at2:=by
        have z1:at2≠1:=fun z=>e5 (by rw[z];rfl)
        have z2:at2≠0:=fun z=>e8 (by rw[z];rfl)
        omega
       refine kasC_bind (xJ (yh hx2) ?_)
       have I5:=I4.X4 G (x:=x2) (by omega) hx2 (by omega) (by omega) fun y2 hy2=>by
        have:=j2 (at2-1) (by omega)
        rw[gy _ _ hy2] at this
        exact this
       rw[Ss]
       by_cases e6:(na-1==0)=true
       ·rw[if_pos e6]
        have e6':=eq_of_beq e6
        refine kasC_pure (ZP _ _ _ _ _ _ ?_)
        rw[xU,xU,ZQ,zR,zR]
        exact I5.zbG G e6'
       rw[if_neg e6]
       have h6:0<na-1:=Nat.pos_of_ne_zero fun z=>e6 (by rw[z];rfl)
       exact yJ (fun _=>kasC_pure (vP _ (na-1) at2 _ _ I5 h6 (by omega) h5 (by omega) (by omega)).1) fun _=>kasC_pure (vP _ (na-1) at2 _ _ I5 h6 (by omega) h5 (by omega) (by omega)).2
      ·rw[if_neg kq]
       have e22:at2=nb-1:=by omega
       have h5:1<nb-1:=by omega
       refine kasC_bind (xJ (yh hx2) ?_)
       have I5:=I3.X4 G (x:=x2) (by omega) hx2 (by omega) (by omega) fun y2 hy2=>by
        have:=j2 ((nb-1)-1) (by omega)
        rw[gy _ _ hy2] at this
        exact this
       rw[Ss]
       by_cases e6:(na-1==0)=true
       ·rw[if_pos e6]
        have e6':=eq_of_beq e6
        refine kasC_pure (ZP _ _ _ _ _ _ ?_)
        rw[xU,xU,ZQ,zR,zR]
        exact I5.zbG G e6'
       rw[if_neg e6]
       have h6:0<na-1:=Nat.pos_of_ne_zero fun z=>e6 (by rw[z];rfl)
       exact yJ (fun _=>kasC_pure (vP _ (na-1) (nb-1) _ _ I5 h6 (by omega) h5 (by omega) (by omega)).1) fun _=>kasC_pure (vP _ (na-1) (nb-1) _ _ I5 h6 (by omega) h5 (by omega) (by omega)).2
   ·dsimp only
    exact kasC_pure (ret _ _ _ _ _ _ h)
   ·dsimp only
    refine kasC_bind (kasC_modify ?_)
    show kasC _ _ _ _ _ (yP κ it l pend _) s
    exact kasC_pure (cont O2 na2 nb2 _ _ I2 a2 ax2 b2 bx2 (by omega))
 ·dsimp only
  exact kasC_pure (q arr g' h)
theorem zlF {P X Y S:List Nat}{pend:Array (Nat×Nat×Nat)}{i g pw pw2:Nat}{Q:Bool->SortSt->Shared->Prop}(hc:Nm prog w A κ it s lt N)(G:MG lt N X Y)(hx:0<X.length)(hy:0<Y.length)
  (p1:pend[i]?=some (P.length,X.length,pw))(p2:pend[i+1]?=some (P.length+X.length,Y.length,pw2))
  (q:∀M g',M.Perm (X++Y)->Up lt M->Q true (yP κ it (P++M++S) ((pend.setIfInBounds i (P.length,X.length+Y.length,pw)).eraseIdxIfInBounds (i+1)) g') s) :
  kasC (model prog w) A E (mergeAt' i) Q (yP κ it (P++X++Y++S) pend g) s:=by
 refine kasC_bind (kasC_get ?_)
 have gx:∀j,j<X.length->(P++X++Y++S)[P.length+j]?=some (X.getD j 0):=fun j hj=>by
  rw[List.append_assoc,List.append_assoc,List.getElem?_append_right (by omega),Nat.add_sub_cancel_left,zrr hj,zq7,zqV hj]
  rfl
 have gy:∀j,j<Y.length->(P++X++Y++S)[P.length+X.length+j]?=some (Y.getD j 0):=fun j hj=>by
  rw[List.append_assoc,List.getElem?_append_right (by simp),zq2,Nat.add_sub_cancel_left,zrr hj,zq7,zqV hj]
  rfl
 have xx:∀j,j<X.length->X[j]?=some (X.getD j 0):=fun j hj=>by rw[zq7,zqV hj];rfl
 have yy:∀j,j<Y.length->Y[j]?=some (Y.getD j 0):=fun j hj=>by rw[zq7,zqV hj];rfl
 have hxN:∀j,j<X.length->X.getD j 0<N:=fun j hj=>G.xN (xx j hj)
 have hyN:∀j,j<Y.length->Y.getD j 0<N:=fun j hj=>G.yN (yy j hj)
 have ed:P++X++Y++S=P++(X++Y)++S:=by simp
 have xk:∀k,k<=X.length->((P++X++Y++S).map (kas_item it)).toArray.extract (P.length+k) (P.length+X.length)=((X.drop k).map (kas_item it)).toArray:=fun k hk=>by
  refine zgZ (P:=P++X.take k) (B:=X.drop k) (S:=Y++S) ?_ (by simp;omega) (by simp;omega)
  conv=>lhs;rw[<-List.take_append_drop k X]
  simp only[List.append_assoc]
 have yk:∀k,k<=Y.length->((P++X++Y++S).map (kas_item it)).toArray.extract (P.length+X.length) (P.length+X.length+k)=((Y.take k).map (kas_item it)).toArray:=fun k hk=>by
  refine zgZ (P:=P++X) (B:=Y.take k) (S:=Y.drop k++S) ?_ (by simp) (by simp;omega)
  conv=>lhs;rw[<-List.take_append_drop k Y]
  simp only[List.append_assoc]
 have putK:∀k m (M:List Nat),k<=X.length->m<=Y.length->M.length=(X.length-k)+m->((M.map (kas_item it)).toArray.toList.zipIdx).foldl (fun(a:Array Keyed) (pj:Keyed×Nat)=>a.setIfInBounds (P.length+k+pj.2) pj.1) ((P++X++Y++S).map (kas_item it)).toArray=((P++(X.take k++M++Y.drop m)++S).map (kas_item it)).toArray:=fun k m M hk hm hM=>by
  have e:=zgY (M.map (kas_item it)) ((P++X.take k).map (kas_item it)) ((X.drop k++Y.take m).map (kas_item it)) ((Y.drop m++S).map (kas_item it)) 0 (by simp;omega)
  rcases e with e | e
  ·have e1:(P++X++Y++S).map (kas_item it)=(P++X.take k).map (kas_item it)++(X.drop k++Y.take m).map (kas_item it)++(Y.drop m++S).map (kas_item it):=by
    rw[<-zq8,<-zq8]
    congr 1
    conv=>lhs;rw[<-List.take_append_drop k X,<-List.take_append_drop m Y]
    simp only[List.append_assoc]
   have e2:(P++(X.take k++M++Y.drop m)++S).map (kas_item it)=(P++X.take k).map (kas_item it)++M.map (kas_item it)++(Y.drop m++S).map (kas_item it):=by
    rw[<-zq8,<-zq8]
    congr 1
    simp only[List.append_assoc]
   rw[e1,e2,<-e]
   simp[Nat.min_eq_left hk]
  ·omega
 generalize hl:P++X++Y++S=l at gx gy xk yk putK
 rw[show(sortPriv% PySem.Builtin.SortState.pending) (yP κ it l pend g)=pend from rfl,show(sortPriv% PySem.Builtin.SortState.a) (yP κ it l pend g)=(l.map (kas_item it)).toArray from rfl,p1,p2]
 dsimp only
 refine kasC_bind (zgX ?_)
 show kasC _ _ _ _ _ (yP κ it l ((pend.setIfInBounds i (P.length,X.length+Y.length,pw)).eraseIdxIfInBounds (i+1)) g) s
 generalize (pend.setIfInBounds i (P.length,X.length+Y.length,pw)).eraseIdxIfInBounds (i+1)=pend' at q
 refine kasC_bind (xJ (yh (gy 0 hy)) ?_)
 refine kasC_bind (Mx (left:=false) (y:=fun j=>X.getD j 0) G.T hc rfl (hyN 0 hy) gx hxN (fun j hj=>G.ne (xx j hj) (yy 0 hy)) (fun a b hab hb=>Zm G.ux (xx a (by omega)) (xx b hb) hab) hx fun k k1 k2 k3=>?_)
 dsimp only
 by_cases e1:(X.length-k==0)=true
 ·rw[if_pos e1]
  have e1':=eq_of_beq e1
  refine kasC_pure ?_
  have:=q (X++Y) g (List.Perm.refl _) (List.pairwise_append.mpr ⟨G.ux,G.uy,fun a ha b hb=>?_⟩)
  ·rw[show P++(X++Y)++S=l by rw[<-hl];simp] at this
   exact this
  ·obtain⟨j,hj⟩:=List.getElem?_of_mem ha
   have jl:=(zqX.mp hj).1
   have lj:=k2 j (by omega)
   have ej:X.getD j 0=a:=by rw[zq7,hj];rfl
   rw[ej] at lj
   obtain⟨j2,hj2⟩:=List.getElem?_of_mem hb
   by_cases z:j2=0
   ·subst z
    have:Y.getD 0 0=b:=by rw[zq7,hj2];rfl
    rw[<-this]
    exact lj
   ·exact G.T.tr (G.xN hj) (hyN 0 hy) (G.yN hj2) lj (Zm G.uy (yy 0 hy) hj2 (by omega))
 rw[if_neg e1]
 have hk:k<X.length:=by
  have:X.length-k≠0:=fun z=>e1 (by rw[z];rfl)
  omega
 refine kasC_bind (xJ (yh (x:=X.getD (X.length-1) 0) (by rw[show P.length+k+(X.length-k)-1=P.length+(X.length-1) by omega];exact gx _ (by omega))) ?_)
 refine kasC_bind (Mx (left:=true) (y:=fun j=>Y.getD j 0) G.T hc rfl (hxN (X.length-1) (by omega)) gy hyN (fun j hj=>Ne.symm (G.ne (xx (X.length-1) (by omega)) (yy j hj))) (fun a b hab hb=>Zm G.uy (yy a (by omega)) (yy b hb) hab) (by omega) fun m m1 m2 m3=>?_)
 dsimp only
 by_cases e2:(m==0)=true
 ·rw[if_pos e2]
  exact absurd (show k<X.length from hk) (by
   have e2':=eq_of_beq e2
   subst e2'
   have a1:=m3 0 (zra _) hy
   have a2:=k3 (X.length-1) (by omega) (by omega)
   have a3:=G.T.ne (hxN (X.length-1) (by omega)) (hyN 0 hy) (G.ne (xx (X.length-1) (by omega)) (yy 0 hy)) a2
   rw[a3] at a1
   cases a1)
 rw[if_neg e2]
 have hm:0<m:=Nat.pos_of_ne_zero fun z=>e2 (by rw[z];rfl)
 rw[xk k (by omega),yk m m1]
 have X2:(X.drop k).length=X.length-k:=List.length_drop
 have Y2:(Y.take m).length=m:=by rw[zri];omega
 have G2:MG lt N (X.drop k) (Y.take m):=⟨G.T,Qt G.ux k,TF G.uy m,G.nd.sublist (List.Sublist.append (List.drop_sublist _ _) (List.take_sublist _ _)),fun z hz=>G.hN z (by
  rcases List.mem_append.mp hz with q | q
  ·exact List.mem_append_left _ (List.mem_of_mem_drop q)
  ·exact zrb _ (List.mem_of_mem_take q))⟩
 have hx0:(X.drop k)[0]?=some (X.getD k 0):=by rw[List.getElem?_drop];exact xx k hk
 have hy0:(Y.take m)[0]?=some (Y.getD 0 0):=by rw[List.getElem?_take_of_lt hm];exact yy 0 hy
 have hxl:(X.drop k)[(X.drop k).length-1]?=some (X.getD (X.length-1) 0):=by
  rw[X2,List.getElem?_drop,show k+(X.length-k-1)=X.length-1 by omega]
  exact xx _ (by omega)
 have h0:lt (Y.getD 0 0) (X.getD k 0)=true:=G.T.ne (hxN k hk) (hyN 0 hy) (G.ne (xx k hk) (yy 0 hy)) (k3 k (zra _) hk)
 have top:∀y∈Y.take m,lt y (X.getD (X.length-1) 0)=true:=fun y hy'=>by
  obtain⟨j,hj,ej⟩:=wY hy'
  have:=m2 j hj
  rw[show Y.getD j 0=y by rw[zq7,ej];rfl] at this
  exact this
 have bot:∀y x,(Y.take m)[0]?=some y->x∈X.drop k->lt y x=true:=fun y x h1 h2=>by
  rw[hy0] at h1
  cases h1
  exact G2.below (fun z hz=>G.hN z (List.mem_append_left _ hz)) G.ux (hyN 0 hy) (fun w hw=>by rw[xx k hk] at hw;cases hw;exact h0) h2
 have fin:∀arr g',Ux lt it (X.drop k) (Y.take m) arr->kasC (model prog w) A E (do
   modify fun s=>SortSt.mk' (kindOf s) (arr.toList.zipIdx.foldl (fun a x=>a.setIfInBounds (P.length+k+x.snd) x.fst) (arrOf s)) (pendingOf s) (gallopOf s) (failedOf s)
   let z <-get
   pure (failedOf z).isNone) Q (yP κ it l pend' g') s:=fun arr g' h=>by
  obtain⟨M,rfl,pM,uM⟩:=h
  refine kasC_bind (kasC_modify (kasC_bind (kasC_get (kasC_pure ?_))))
  have lM:M.length=(X.length-k)+m:=by rw[pM.length_eq,zq2,X2,Y2]
  have e:=putK k m M (by omega) m1 lM
  have eS:SortSt.mk' (kindOf (yP κ it l pend' g')) (((M.map (kas_item it)).toArray.toList.zipIdx).foldl (fun(a:Array Keyed) (x:Keyed×Nat)=>a.setIfInBounds (P.length+k+x.snd) x.fst) (arrOf (yP κ it l pend' g'))) (pendingOf (yP κ it l pend' g')) (gallopOf (yP κ it l pend' g')) (failedOf (yP κ it l pend' g'))=yP κ it (P++(X.take k++M++Y.drop m)++S) pend' g':=by
   show SortSt.mk' κ (((M.map (kas_item it)).toArray.toList.zipIdx).foldl (fun(a:Array Keyed) (x:Keyed×Nat)=>a.setIfInBounds (P.length+k+x.snd) x.fst) (l.map (kas_item it)).toArray) pend' g' none=SortSt.mk' κ ((P++(X.take k++M++Y.drop m)++S).map (kas_item it)).toArray pend' g' none
   rw[e]
  rw[eS]
  refine q (X.take k++M++Y.drop m) g' ?_ ?_
  ·have e1:(X.take k++M++Y.drop m).Perm (X.take k++(X.drop k++Y.take m)++Y.drop m):=(pM.append_left _).append_right _
   have e2:X.take k++(X.drop k++Y.take m)++Y.drop m=X++Y:=by
    conv=>rhs;rw[<-List.take_append_drop k X,<-List.take_append_drop m Y]
    simp only[List.append_assoc]
   rw[e2] at e1
   exact e1
  ·have inM:∀z∈M,z∈X.drop k\/z∈Y.take m:=fun z hz=>List.mem_append.mp (pM.mem_iff.mp hz)
   have zlG:∀a∈X.take k,∀b∈Y,lt a b=true:=fun a ha b hb=>by
    obtain⟨j,hj,ej⟩:=wY ha
    have lj:=k2 j hj
    rw[show X.getD j 0=a by rw[zq7,ej];rfl] at lj
    obtain⟨j2,hj2⟩:=List.getElem?_of_mem hb
    by_cases z:j2=0
    ·subst z
     rw[show b=Y.getD 0 0 by rw[zq7,hj2];rfl]
     exact lj
    ·exact G.T.tr (G.xN ej) (hyN 0 hy) (G.yN hj2) lj (Zm G.uy (yy 0 hy) hj2 (by omega))
   have hiY:∀a∈X,∀b∈Y.drop m,lt a b=true:=fun a ha b hb=>by
    obtain⟨j,hj,ej⟩:=tW hb
    have jl:=(zqX.mp ej).1
    have lj:=m3 j hj jl
    rw[show Y.getD j 0=b by rw[zq7,ej];rfl] at lj
    have l2:=G.T.ne (G.yN ej) (hxN (X.length-1) (by omega)) (Ne.symm (G.ne (xx (X.length-1) (by omega)) ej)) lj
    obtain⟨j2,hj2⟩:=List.getElem?_of_mem ha
    have jl2:=(zqX.mp hj2).1
    by_cases z:j2=X.length-1
    ·rw[show a=X.getD (X.length-1) 0 by rw[zq7,<-z,hj2];rfl]
     exact l2
    ·exact G.T.tr (G.xN hj2) (hxN _ (by omega)) (G.yN ej) (Zm G.ux hj2 (xx (X.length-1) (by omega)) (by omega)) l2
   refine List.pairwise_append.mpr ⟨List.pairwise_append.mpr ⟨TF G.ux k,uM,fun a ha b hb=>?_⟩,Qt G.uy m,fun a ha b hb=>?_⟩
   ·rcases inM b hb with z | z
    ·obtain⟨j,hj,ej⟩:=wY ha
     obtain⟨j2,hj2,ej2⟩:=tW z
     exact Zm G.ux ej ej2 (by omega)
    ·exact zlG a ha b (List.mem_of_mem_take z)
   ·rcases List.mem_append.mp ha with z | z
    ·exact zlG a z b (List.mem_of_mem_drop hb)
    ·rcases inM a z with z | z
     ·exact hiY a (List.mem_of_mem_drop z) b hb
     ·obtain⟨j,hj,ej⟩:=wY z
      obtain⟨j2,hj2,ej2⟩:=tW hb
      exact Zm G.uy ej ej2 (by omega)
 refine yJ (fun _=>?_) (fun _=>?_)
 ·exact kasC_bind (zlC hc G2 hx0 hy0 h0 hxl top fun arr g' h=>fin arr g' h)
 ·exact kasC_bind (zlE hc G2 hxl hy0 top bot fun arr g' h=>fin arr g' h)
end
def toP:Nat->List (List Nat×Nat)->List (Nat×Nat×Nat)
 | _,[]=>[]
 | o,e::E=>(o,e.1.length,e.2)::toP (o+e.1.length) E
def flt (E:List (List Nat×Nat)):List Nat:=(E.map (·.1)).flatten
theorem vf (E F:List (List Nat×Nat)):flt (E++F)=flt E++flt F:=by unfold flt;rw[zq8,List.flatten_append]
theorem Zn (e:List Nat×Nat)(F:List (List Nat×Nat)):flt (e::F)=e.1++flt F:=rfl
theorem Y0:∀(E F:List (List Nat×Nat)) (o:Nat),toP o (E++F)=toP o E++toP (o+(flt E).length) F
 | [],F,o=>by simp[toP,flt]
 | e::E,F,o=>by
  show(o,e.1.length,e.2)::toP (o+e.1.length) (E++F)=(o,e.1.length,e.2)::(toP (o+e.1.length) E++toP (o+(flt (e::E)).length) F)
  rw[Y0 E F,Zn,zq2,Nat.add_assoc]
theorem Qv:∀(E:List (List Nat×Nat)) (o:Nat),(toP o E).length=E.length
 | [],_=>rfl
 | e::E,o=>by show(toP _ E).length+1=E.length+1;rw[Qv E]
structure SI (lt:Nat->Nat->Bool)(l0:List Nat)(E:List (List Nat×Nat))(rest:List Nat):Prop where
 pm:(flt E++rest).Perm l0
 up:∀e∈E,Up lt e.1/\0<e.1.length
theorem zix {α:Type}(A B:List α)(x y v:α):((A++x::y::B).set A.length v).eraseIdx (A.length+1)=A++v::B:=by
 induction A with
 | nil=>rfl
 | cons a A ih=>simpa using ih
section
variable {prog:Program}{w:World}{A:Around}{E:Value->Shared->Prop}{κ:SortKind}{it:Array Keyed}{s:Shared}
variable {lt:Nat->Nat->Bool}{N:Nat}
theorem zd3 {l0 rest:List Nat}{R:List (List Nat×Nat)}{i g:Nat}{Q:Bool->SortSt->Shared->Prop}(T:Tot lt N)(hc:Nm prog w A κ it s lt N)(hN:∀x∈l0,x<N)(nd:l0.Nodup)(I:SI lt l0 R rest)(hi:i+1<R.length)
  (q:∀R' g',SI lt l0 R' rest->R'.length+1=R.length->(flt R').length=(flt R).length->Q true (yP κ it (flt R'++rest) (toP 0 R').toArray g') s) :
  kasC (model prog w) A E (mergeAt' i) Q (yP κ it (flt R++rest) (toP 0 R).toArray g) s:=by
 obtain⟨x,hx⟩:∃x,R[i]?=some x:=⟨_,zqV (by omega)⟩
 obtain⟨y,hy⟩:∃y,R[i+1]?=some y:=⟨_,zqV hi⟩
 have eR:R=R.take i++x::y::R.drop (i+2):=by
  have h1:i<R.length:=by omega
  have e1:=List.take_append_drop i R
  rw[List.drop_eq_getElem_cons h1,List.drop_eq_getElem_cons hi] at e1
  rw[zqV h1] at hx
  rw[zqV hi] at hy
  rw[zrp hx,zrp hy] at e1
  exact e1.symm
 have li:(R.take i).length=i:=by rw[zri];omega
 generalize R.take i=R1 at eR li
 generalize R.drop (i+2)=R2 at eR
 subst eR
 obtain⟨X,pw⟩:=x
 obtain⟨Y,pw2⟩:=y
 have ux:=I.up (X,pw) (by simp)
 have uy:=I.up (Y,pw2) (by simp)
 have ef:flt (R1++(X,pw)::(Y,pw2)::R2)++rest=flt R1++X++Y++(flt R2++rest):=by
  rw[vf,Zn,Zn]
  simp only[List.append_assoc]
 have et:toP 0 (R1++(X,pw)::(Y,pw2)::R2)=toP 0 R1++((flt R1).length,X.length,pw)::((flt R1).length+X.length,Y.length,pw2)::toP ((flt R1).length+X.length+Y.length) R2:=by
  rw[Y0,Nat.zero_add]
  rfl
 have lP:=Qv R1 0
 have sub:List.Sublist (X++Y) (flt (R1++(X,pw)::(Y,pw2)::R2)++rest):=by
  rw[ef,List.append_assoc (flt R1++X),List.append_assoc (flt R1)]
  refine List.Sublist.trans ?_ (List.sublist_append_right _ _)
  rw[<-List.append_assoc]
  exact List.sublist_append_left _ _
 have G:MG lt N X Y:=⟨T,ux.1,uy.1,(I.pm.nodup_iff.mpr nd).sublist sub,fun z hz=>hN z (I.pm.mem_iff.mp (sub.subset hz))⟩
 rw[ef,et]
 refine zlF (P:=flt R1) (S:=flt R2++rest) (pw:=pw) (pw2:=pw2) hc G ux.2 uy.2 ?_ ?_ (fun M g' pM uM=>?_)
 ·rw[List.getElem?_toArray,List.getElem?_append_right (by omega),show i-(toP 0 R1).length=0 by omega]
  rfl
 ·rw[List.getElem?_toArray,List.getElem?_append_right (by omega),show i+1-(toP 0 R1).length=1 by omega]
  rfl
 ·have lM:=pM.length_eq
  rw[zq2] at lM
  have:=q (R1++(M,pw)::R2) g' ⟨?_,?_⟩ (by simp;omega) ?_
  ·have e1:flt (R1++(M,pw)::R2)++rest=flt R1++M++(flt R2++rest):=by
    rw[vf,Zn]
    simp only[List.append_assoc]
   have e2:toP 0 (R1++(M,pw)::R2)=toP 0 R1++((flt R1).length,X.length+Y.length,pw)::toP ((flt R1).length+X.length+Y.length) R2:=by
    rw[Y0,Nat.zero_add]
    show _++((flt R1).length,M.length,pw)::toP ((flt R1).length+M.length) R2=_
    rw[lM,Nat.add_assoc]
   rw[e1,e2,<-zix (toP 0 R1) _ ((flt R1).length,X.length,pw) ((flt R1).length+X.length,Y.length,pw2)] at this
   rw[show(toP 0 R1).length=i by omega] at this
   have e3:((toP 0 R1++((flt R1).length,X.length,pw)::((flt R1).length+X.length,Y.length,pw2)::toP ((flt R1).length+X.length+Y.length) R2).toArray.setIfInBounds i ((flt R1).length,X.length+Y.length,pw)).eraseIdxIfInBounds (i+1)=(((toP 0 R1++((flt R1).length,X.length,pw)::((flt R1).length+X.length,Y.length,pw2)::toP ((flt R1).length+X.length+Y.length) R2).set i ((flt R1).length,X.length+Y.length,pw)).eraseIdx (i+1)).toArray:=by
    simp
   rw[e3]
   exact this
  ·refine List.Perm.trans ?_ I.pm
   rw[ef,vf,Zn]
   have e1:flt R1++(M++flt R2)++rest=flt R1++M++(flt R2++rest):=by simp only[List.append_assoc]
   have e2:flt R1++X++Y++(flt R2++rest)=flt R1++(X++Y)++(flt R2++rest):=by simp only[List.append_assoc]
   rw[e1,e2]
   exact(pM.append_left _).append_right _
  ·intro e he
   rcases List.mem_append.mp he with z | z
   ·exact I.up e (List.mem_append_left _ z)
   ·rcases List.mem_cons.mp z with z | z
    ·rw[z]
     exact⟨uM,by show 0<M.length;have:=ux.2;simp only at this;omega⟩
    ·exact I.up e (zrb _ (zq5 _ (zq5 _ z)))
  ·rw[vf,vf,Zn,Zn,Zn]
   simp only[zq2]
   omega
theorem zkj {c:Prop}[Decidable c]{a b:Nat}:(if c then a else b)=a\/(if c then a else b)=b:=by
 by_cases h:c
 ·exact .inl (if_pos h)
 ·exact .inr (if_neg h)
theorem zcM {α:Type}(A:List α)(x:α)(f:α->α):(A++[x]).toArray.modify ((A++[x]).toArray.size-1) f=(A++[f x]).toArray:=by
 apply Array.ext'
 apply List.ext_getElem?
 intro k
 rw[Array.getElem?_toList,Array.getElem?_modify]
 simp only[zq4,zq2,zrs,Nat.add_sub_cancel,List.getElem?_toArray]
 by_cases h:A.length=k
 ·subst h
  rw[if_pos rfl]
  simp
 ·rw[if_neg h]
  by_cases h2:k<A.length
  ·rw[zrr h2,zrr h2]
  ·rw[zru (by simp;omega),zru (by simp;omega)]
theorem zlH {n:Nat}{Q:Unit->SortSt->Shared->Prop}(T:Tot lt n)(hc:Nm prog w A κ it s lt n)(q:∀(l':List Nat) st',l'.Perm (List.range n)->Up lt l'->arrOf st'=(l'.map (kas_item it)).toArray->failedOf st'=none->Q () st' s) :
  kasC (model prog w) A E sortRuns' Q (yP κ it (List.range n) #[] 7) s:=by
 obtain⟨l0,hl0⟩:∃l0,l0=List.range n:=⟨_,rfl⟩
 have nd:l0.Nodup:=by rw[hl0];exact List.nodup_range
 have hN:∀x∈l0,x<n:=fun x hx=>by rw[hl0] at hx;exact List.mem_range.mp hx
 have len0:l0.length=n:=by rw[hl0];exact zrc
 rw[sortRuns'_eq]
 refine kasC_bind (kasC_get ?_)
 have hsz:(arrOf (yP κ it (List.range n) #[] 7)).size=n:=by
  show(((List.range n).map (kas_item it)).toArray).size=_
  simp
 simp only[hsz]
 generalize minRun' n n 0=mr
 refine kasC_bind (kasC_range ?_)
 have main:∀{P:Option Unit×Nat->SortSt->Shared->Prop} {body:Nat->Option Unit×Nat->StateT SortSt Sem (ForInStep (Option Unit×Nat))},
   (∀R g,SI lt l0 R []->P (none,(flt R).length) (yP κ it (flt R++[]) (toP 0 R).toArray g) s) ->
   (∀z R rest g (R'':ForInStep (Option Unit×Nat)->SortSt->Shared->Prop),SI lt l0 R rest->(rest=[]->R'' (.done (none,(flt R).length)) (yP κ it (flt R++rest) (toP 0 R).toArray g) s) ->
    (∀R2 zcN g2,SI lt l0 R2 zcN->zcN.length<rest.length->R'' (.yield (none,(flt R2).length)) (yP κ it (flt R2++zcN) (toP 0 R2).toArray g2) s) ->
    kasC (model prog w) A E (body z (none,(flt R).length)) R'' (yP κ it (flt R++rest) (toP 0 R).toArray g) s) ->
   ∀(f:Nat) (ls:List Nat) R rest g,ls.length=f->SI lt l0 R rest->rest.length<=f->kasC (model prog w) A E (forIn ls (none,(flt R).length) body) P (yP κ it (flt R++rest) (toP 0 R).toArray g) s:=by
  intro P body hP hb f
  induction f with
  | zero =>
   intro ls R rest g hl I hr
   obtain rfl:rest=[]:=List.length_eq_zero_iff.mp (by omega)
   cases ls with
   | nil=>exact kasC_nil (hP R g I)
   | cons _ _=>simp at hl
  | succ f ih =>
   intro ls R rest g hl I hr
   cases ls with
   | nil=>simp at hl
   | cons z ls =>
    refine kasC_cons (hb z R rest g _ I (fun e=>?_) fun R2 zcN g2 I2 h2=>ih ls R2 zcN g2 (by simpa using hl) I2 (by omega))
    subst e
    exact hP R g I
 have inn:∀{S2:List Nat} {P:Option Unit×Unit->SortSt->Shared->Prop} {body:Nat->Option Unit×Unit->StateT SortSt Sem (ForInStep (Option Unit×Unit))} (f:Nat) (ls:List Nat) R g,ls.length=f->SI lt l0 R S2->R≠[] ->
   (∀R2 g2,SI lt l0 R2 S2->R2≠[]->(flt R2).length=(flt R).length->P (none,()) (yP κ it (flt R2++S2) (toP 0 R2).toArray g2) s) ->
   (∀z R2 g2 (R3:ForInStep (Option Unit×Unit)->SortSt->Shared->Prop),SI lt l0 R2 S2->R2≠[]->R3 (.done (none,())) (yP κ it (flt R2++S2) (toP 0 R2).toArray g2) s ->
    (∀R5 g5,SI lt l0 R5 S2->R5≠[]->(flt R5).length=(flt R2).length->R3 (.yield (none,())) (yP κ it (flt R5++S2) (toP 0 R5).toArray g5) s) ->
    kasC (model prog w) A E (body z (none,())) R3 (yP κ it (flt R2++S2) (toP 0 R2).toArray g2) s) ->
   kasC (model prog w) A E (forIn ls (none,()) body) P (yP κ it (flt R++S2) (toP 0 R).toArray g) s:=by
  intro S2 P body f
  induction f with
  | zero =>
   intro ls R g hl I ne hP hb
   cases ls with
   | nil=>exact kasC_nil (hP R g I ne rfl)
   | cons _ _=>simp at hl
  | succ f ih =>
   intro ls R g hl I ne hP hb
   cases ls with
   | nil=>simp at hl
   | cons z ls=>exact kasC_cons (hb z R g _ I ne (hP R g I ne rfl) fun R5 g5 I5 ne5 e5=>ih ls R5 g5 (by simpa using hl) I5 ne5 (fun R2 g2 a b c=>hP R2 g2 a b (by omega)) hb)
 have I0:SI lt l0 [] l0:=⟨List.Perm.refl _,fun e h=>by cases h⟩
 rw[<-hl0]
 refine main (fun R g I=>?_) (fun z R rest g R'' I fin cont=>?_) n _ [] l0 7 (by rw[List.length_range'];omega) I0 (by omega)
 ·dsimp only
  refine kasC_bind (kasC_range ?_)
  have last:∀{P:Option Unit×Unit->SortSt->Shared->Prop} {body:Nat->Option Unit×Unit->StateT SortSt Sem (ForInStep (Option Unit×Unit))} (f:Nat) (ls:List Nat) R g,ls.length=f->SI lt l0 R []->R.length<=f+1 ->
    (∀R2 g2,SI lt l0 R2 []->R2.length<=1->P (none,()) (yP κ it (flt R2++[]) (toP 0 R2).toArray g2) s) ->
    (∀z R2 g2 (R3:ForInStep (Option Unit×Unit)->SortSt->Shared->Prop),SI lt l0 R2 []->(R2.length<=1->R3 (.done (none,())) (yP κ it (flt R2++[]) (toP 0 R2).toArray g2) s) ->
     (∀R5 g5,SI lt l0 R5 []->R5.length<R2.length->R3 (.yield (none,())) (yP κ it (flt R5++[]) (toP 0 R5).toArray g5) s) ->
     kasC (model prog w) A E (body z (none,())) R3 (yP κ it (flt R2++[]) (toP 0 R2).toArray g2) s) ->
    kasC (model prog w) A E (forIn ls (none,()) body) P (yP κ it (flt R++[]) (toP 0 R).toArray g) s:=by
   intro P body f
   induction f with
   | zero =>
    intro ls R g hl I h1 hP hb
    cases ls with
    | nil=>exact kasC_nil (hP R g I h1)
    | cons _ _=>simp at hl
   | succ f ih =>
    intro ls R g hl I h1 hP hb
    cases ls with
    | nil=>simp at hl
    | cons z ls=>exact kasC_cons (hb z R g _ I (fun h=>hP R g I h) fun R5 g5 I5 l5=>ih ls R5 g5 (by simpa using hl) I5 (by omega) hP hb)
  have zpr:R.length<=n:=by
   have h1:(flt R).length=n:=by have:=I.pm.length_eq;rw[List.append_nil,len0] at this;exact this
   have h2:∀(E:List (List Nat×Nat)),(∀e∈E,0<e.1.length)->E.length<=(flt E).length:=fun E=>by
    induction E with
    | nil=>exact fun _=>zra _
    | cons e E ih =>
     intro h
     have a:=ih fun e' he=>h e' (zq5 _ he)
     have b:=h e zre
     rw[Zn,zq2,zq6]
     omega
   have:=h2 R fun e he=>(I.up e he).2
   omega
  refine last n _ R g (by rw[List.length_range'];omega) I (by omega) (fun R2 g2 J h1=>?_) (fun z R2 g2 R3 J ext zg4=>?_)
  ·dsimp only
   refine kasC_pure (q (flt R2) _ (by have:=J.pm;rw[List.append_nil,hl0] at this;exact this) ?_ (by rw[List.append_nil];rfl) rfl)
   match R2,h1,J with
   | [],_,_=>exact .nil
   | [e],_,J =>
    have:=(J.up e zre).1
    show Up lt (e.1++[])
    rw[List.append_nil]
    exact this
  ·have sz:(pendingOf (yP κ it (flt R2++[]) (toP 0 R2).toArray g2)).size=R2.length:=by
    show(toP 0 R2).toArray.size=_
    rw[zq4,Qv]
   refine kasC_bind (kasC_get ?_)
   rw[sz]
   refine yJ (fun h=>kasC_pure (ext h)) (fun h=>?_)
   generalize hii:(if Option.any _ _=true then R2.length-2-1 else R2.length-2)=ii
   have h0:ii=R2.length-2-1\/ii=R2.length-2:=by rw[<-hii];exact zkj
   have hi2:ii+1<R2.length:=by omega
   refine kasC_bind (zd3 T hc hN nd J hi2 fun R5 g5 J5 l5 e5=>?_)
   simp only[Bool.not_true,Bool.false_eq_true,if_false]
   exact kasC_pure (zg4 R5 g5 J5 (by omega))
 ·dsimp only
  have lr:(flt R).length+rest.length=n:=by have:=I.pm.length_eq;rw[zq2,len0] at this;exact this
  by_cases hge:(flt R).length >= n
  ·rw[if_pos hge]
   exact kasC_pure (fin (List.length_eq_zero_iff.mp (by omega)))
  rw[if_neg hge]
  have sub:List.Sublist rest (flt R++rest):=List.sublist_append_right _ _
  have hNr:∀x∈rest,x<n:=fun x hx=>hN x (I.pm.mem_iff.mp (sub.subset hx))
  have ndr:rest.Nodup:=(I.pm.nodup_iff.mpr nd).sublist sub
  refine kasC_bind (ziv T hc rfl (by omega) (by omega) hNr ndr fun m S1 m1 m2 pS1 uS1=>?_)
  have l1:=pS1.length_eq
  dsimp only
  refine yJ (fun hmr=>?_) (fun hmr=>?_)
  ·refine kasC_bind (kasC_lift (wpAny_rule ?_))
   refine kasC_bind (zkh T hc rfl m1 (by omega) (by omega) (fun x hx=>hNr x (pS1.mem_iff.mp hx)) (pS1.nodup_iff.mpr ndr) uS1 fun S2 pS2' uS2=>?_)
   simp only[Bool.not_true,Bool.false_eq_true,if_false]
   have pS2:=pS2'.trans pS1
   have l2:=pS2.length_eq
   have I2:SI lt l0 R S2:=⟨(pS2.append_left _).trans I.pm,I.up⟩
   refine kasC_bind (kasC_get ?_)
   have push:∀R2 g2,SI lt l0 R2 S2->(flt R2).length=(flt R).length->R'' (.yield (none,(flt R).length+(min (n-(flt R).length) mr))) (yP κ it (flt R2++S2) ((toP 0 R2).toArray.push ((flt R).length,(min (n-(flt R).length) mr),0)) g2) s:=fun R2 g2 J eJ=>by
    have e1:flt (R2++[(S2.take (min (n-(flt R).length) mr),0)])++S2.drop (min (n-(flt R).length) mr)=flt R2++S2:=by
     rw[vf,List.append_assoc]
     congr 1
     show S2.take (min (n-(flt R).length) mr)++[]++S2.drop (min (n-(flt R).length) mr)=S2
     rw[List.append_nil,List.take_append_drop]
    have lc:(S2.take (min (n-(flt R).length) mr)).length=(min (n-(flt R).length) mr):=by rw[zri];omega
    have e2:toP 0 (R2++[(S2.take (min (n-(flt R).length) mr),0)])=toP 0 R2++[((flt R).length,(min (n-(flt R).length) mr),0)]:=by
     rw[Y0,Nat.zero_add,eJ]
     show _++[((flt R).length,(S2.take (min (n-(flt R).length) mr)).length,0)]=_
     rw[lc]
    have e3:(flt (R2++[(S2.take (min (n-(flt R).length) mr),0)])).length=(flt R).length+(min (n-(flt R).length) mr):=by
     rw[vf,zq2,eJ]
     show(flt R).length+(S2.take (min (n-(flt R).length) mr)++[]).length=_
     rw[List.append_nil,lc]
    have z:=cont (R2++[(S2.take (min (n-(flt R).length) mr),0)]) (S2.drop (min (n-(flt R).length) mr)) g2 ⟨by rw[e1];exact J.pm,fun e he=>by
     rcases List.mem_append.mp he with q | q
     ·exact J.up e q
     ·rw[List.mem_singleton.mp q]
      exact⟨uS2,by show 0<(S2.take (min (n-(flt R).length) mr)).length;omega⟩⟩ (by rw[List.length_drop];omega)
    rw[e1,e2,e3] at z
    have e4:(toP 0 R2++[((flt R).length,(min (n-(flt R).length) mr),0)]).toArray=(toP 0 R2).toArray.push ((flt R).length,(min (n-(flt R).length) mr),0):=by simp
    rw[e4] at z
    exact z
   cases hb:(toP 0 R).toArray.back? with
   | none =>
    rw[show(pendingOf (yP κ it (flt R++S2) (toP 0 R).toArray g)).back?=none from hb]
    dsimp only
    refine kasC_bind (kasC_modify (kasC_pure ?_))
    exact push R g I2 rfl
   | some bb =>
    rw[show(pendingOf (yP κ it (flt R++S2) (toP 0 R).toArray g)).back?=some bb from hb]
    obtain⟨s1,n1,p1⟩:=bb
    dsimp only
    have Rne:R≠[]:=fun z=>by rw[z] at hb;simp[toP] at hb
    refine kasC_bind (kasC_range ?_)
    refine inn _ _ R g rfl I2 Rne (fun R2 g2 J ne eJ=>?_) (fun z R2 g2 R3 J ne ext zg4=>?_)
    ·dsimp only
     refine kasC_bind (kasC_modify ?_)
     refine kasC_bind (kasC_modify (kasC_pure ?_))
     obtain⟨R4,e,rfl⟩:∃R4 e,R2=R4++[e]:=⟨R2.dropLast,R2.getLast ne,(List.dropLast_concat_getLast ne).symm⟩
     have J2:∀pw,SI lt l0 (R4++[(e.1,pw)]) S2:=fun pw=>⟨by
      have:=J.pm
      rw[vf] at this ⊢
      exact this,fun e' he=>by
      rcases List.mem_append.mp he with q | q
      ·exact J.up e' (List.mem_append_left _ q)
      ·rw[List.mem_singleton.mp q]
       exact J.up e (zrb _ zre)⟩
     have ef:∀pw,flt (R4++[(e.1,pw)])=flt (R4++[e]):=fun pw=>by rw[vf,vf];rfl
     refine cast ?_ (push (R4++[(e.1,power' n (2*s1+n1) (2*s1+n1+n1+(min (n-(flt R).length) mr)) n)]) g2 (J2 _) (by rw[ef];exact eJ))
     congr 1
     show SortSt.mk' κ ((flt (R4++[(e.1,_)])++S2).map (kas_item it)).toArray ((toP 0 (R4++[(e.1,_)])).toArray.push _) g2 none=SortSt.mk' κ ((flt (R4++[e])++S2).map (kas_item it)).toArray (((toP 0 (R4++[e])).toArray.modify ((toP 0 (R4++[e])).toArray.size-1) _).push _) g2 none
     rw[ef]
     congr 2
     rw[Y0,Y0]
     exact(zcM (toP 0 R4) (0+(flt R4).length,e.1.length,e.2) (fun x=>(x.1,x.2.1,power' n (2*s1+n1) (2*s1+n1+n1+min (n-(flt R).length) mr) n))).symm
    ·refine kasC_bind (kasC_get ?_)
     cases ho:(if (pendingOf (yP κ it (flt R2++S2) (toP 0 R2).toArray g2)).size > 1 then (pendingOf (yP κ it (flt R2++S2) (toP 0 R2).toArray g2))[(pendingOf (yP κ it (flt R2++S2) (toP 0 R2).toArray g2)).size-2]? else none) with
     | none =>
      dsimp only
      exact kasC_pure ext
     | some ov =>
      obtain⟨_,_,older⟩:=ov
      dsimp only
      refine yJ (fun _=>kasC_pure ext) (fun _=>?_)
      have sz:(pendingOf (yP κ it (flt R2++S2) (toP 0 R2).toArray g2)).size=R2.length:=by
       show(toP 0 R2).toArray.size=_
       rw[zq4,Qv]
      have h2:1<R2.length:=by
       by_cases hh:(pendingOf (yP κ it (flt R2++S2) (toP 0 R2).toArray g2)).size > 1
       ·omega
       ·rw[if_neg hh] at ho
        cases ho
      rw[sz]
      refine kasC_bind (zd3 T hc hN nd J (by omega) fun R5 g5 J5 l5 e5=>?_)
      simp only[Bool.not_true,Bool.false_eq_true,if_false]
      exact kasC_pure (zg4 R5 g5 J5 (fun z=>by rw[z] at l5;simp at l5;omega) e5)
  ·have pS1':=pS1
   have I2:SI lt l0 R S1:=⟨(pS1.append_left _).trans I.pm,I.up⟩
   refine kasC_bind (kasC_get ?_)
   have push:∀R2 g2,SI lt l0 R2 S1->(flt R2).length=(flt R).length->R'' (.yield (none,(flt R).length+m)) (yP κ it (flt R2++S1) ((toP 0 R2).toArray.push ((flt R).length,m,0)) g2) s:=fun R2 g2 J eJ=>by
    have e1:flt (R2++[(S1.take m,0)])++S1.drop m=flt R2++S1:=by
     rw[vf,List.append_assoc]
     congr 1
     show S1.take m++[]++S1.drop m=S1
     rw[List.append_nil,List.take_append_drop]
    have lc:(S1.take m).length=m:=by rw[zri];omega
    have e2:toP 0 (R2++[(S1.take m,0)])=toP 0 R2++[((flt R).length,m,0)]:=by
     rw[Y0,Nat.zero_add,eJ]
     show _++[((flt R).length,(S1.take m).length,0)]=_
     rw[lc]
    have e3:(flt (R2++[(S1.take m,0)])).length=(flt R).length+m:=by
     rw[vf,zq2,eJ]
     show(flt R).length+(S1.take m++[]).length=_
     rw[List.append_nil,lc]
    have z:=cont (R2++[(S1.take m,0)]) (S1.drop m) g2 ⟨by rw[e1];exact J.pm,fun e he=>by
     rcases List.mem_append.mp he with q | q
     ·exact J.up e q
     ·rw[List.mem_singleton.mp q]
      exact⟨uS1,by show 0<(S1.take m).length;omega⟩⟩ (by rw[List.length_drop];omega)
    rw[e1,e2,e3] at z
    have e4:(toP 0 R2++[((flt R).length,m,0)]).toArray=(toP 0 R2).toArray.push ((flt R).length,m,0):=by simp
    rw[e4] at z
    exact z
   cases hb:(toP 0 R).toArray.back? with
   | none =>
    rw[show(pendingOf (yP κ it (flt R++S1) (toP 0 R).toArray g)).back?=none from hb]
    dsimp only
    refine kasC_bind (kasC_modify (kasC_pure ?_))
    exact push R g I2 rfl
   | some bb =>
    rw[show(pendingOf (yP κ it (flt R++S1) (toP 0 R).toArray g)).back?=some bb from hb]
    obtain⟨s1,n1,p1⟩:=bb
    dsimp only
    have Rne:R≠[]:=fun z=>by rw[z] at hb;simp[toP] at hb
    refine kasC_bind (kasC_range ?_)
    refine inn _ _ R g rfl I2 Rne (fun R2 g2 J ne eJ=>?_) (fun z R2 g2 R3 J ne ext zg4=>?_)
    ·dsimp only
     refine kasC_bind (kasC_modify ?_)
     refine kasC_bind (kasC_modify (kasC_pure ?_))
     obtain⟨R4,e,rfl⟩:∃R4 e,R2=R4++[e]:=⟨R2.dropLast,R2.getLast ne,(List.dropLast_concat_getLast ne).symm⟩
     have J2:∀pw,SI lt l0 (R4++[(e.1,pw)]) S1:=fun pw=>⟨by
      have:=J.pm
      rw[vf] at this ⊢
      exact this,fun e' he=>by
      rcases List.mem_append.mp he with q | q
      ·exact J.up e' (List.mem_append_left _ q)
      ·rw[List.mem_singleton.mp q]
       exact J.up e (zrb _ zre)⟩
     have ef:∀pw,flt (R4++[(e.1,pw)])=flt (R4++[e]):=fun pw=>by rw[vf,vf];rfl
     refine cast ?_ (push (R4++[(e.1,power' n (2*s1+n1) (2*s1+n1+n1+m) n)]) g2 (J2 _) (by rw[ef];exact eJ))
     congr 1
     show SortSt.mk' κ ((flt (R4++[(e.1,_)])++S1).map (kas_item it)).toArray ((toP 0 (R4++[(e.1,_)])).toArray.push _) g2 none=SortSt.mk' κ ((flt (R4++[e])++S1).map (kas_item it)).toArray (((toP 0 (R4++[e])).toArray.modify ((toP 0 (R4++[e])).toArray.size-1) _).push _) g2 none
     rw[ef]
     congr 2
     rw[Y0,Y0]
     exact(zcM (toP 0 R4) (0+(flt R4).length,e.1.length,e.2) (fun x=>(x.1,x.2.1,power' n (2*s1+n1) (2*s1+n1+n1+m) n))).symm
    ·refine kasC_bind (kasC_get ?_)
     cases ho:(if (pendingOf (yP κ it (flt R2++S1) (toP 0 R2).toArray g2)).size > 1 then (pendingOf (yP κ it (flt R2++S1) (toP 0 R2).toArray g2))[(pendingOf (yP κ it (flt R2++S1) (toP 0 R2).toArray g2)).size-2]? else none) with
     | none =>
      dsimp only
      exact kasC_pure ext
     | some ov =>
      obtain⟨_,_,older⟩:=ov
      dsimp only
      refine yJ (fun _=>kasC_pure ext) (fun _=>?_)
      have sz:(pendingOf (yP κ it (flt R2++S1) (toP 0 R2).toArray g2)).size=R2.length:=by
       show(toP 0 R2).toArray.size=_
       rw[zq4,Qv]
      have h2:1<R2.length:=by
       by_cases hh:(pendingOf (yP κ it (flt R2++S1) (toP 0 R2).toArray g2)).size > 1
       ·omega
       ·rw[if_neg hh] at ho
        cases ho
      rw[sz]
      refine kasC_bind (zd3 T hc hN nd J (by omega) fun R5 g5 J5 l5 e5=>?_)
      simp only[Bool.not_true,Bool.false_eq_true,if_false]
      exact kasC_pure (zg4 R5 g5 J5 (fun z=>by rw[z] at l5;simp at l5;omega) e5)
end
section
variable {prog:Program}{w:World}{A:Around}{E:Value->Shared->Prop}{s:Shared}
theorem zg5 {a:Addr}{vs:List Value}{n N:Nat}{lt:Nat->Nat->Bool}{ty:Value}{P:PySem.Fin->Shared->Prop}(T:Tot lt N)(ho:s.heap.get? a=some (seqObj "list" vs.toArray n))(hN:vs.length=N)(h2N:2<=N)(hz:N<=1000)
  (hT:∀h':Heap,(∀b o,b≠a->s.heap.get? b=some o->h'.get? b=some o)->∀v∈vs,Looks (model prog w) h' (typeOf v) ty)(t1:(ty != Value.type "tuple")=true)(t2:(ty==ty)=true)
  (hc:∀(h':Heap),(∀b o,b≠a->s.heap.get? b=some o->h'.get? b=some o)->∀i j,i<N->j<N->∀C:Bool->Shared->Prop,C (lt i j) { s with heap:=h' }->wpAny (model prog w) A (keyLt' oneType' (vs.getD i .none) (vs.getD j .none)) C (fun _ _=>False) { s with heap:=h' })
  (h:∀l':List Nat,l'.Perm (List.range N)->Up lt l'->P (.done (.ret .none)) { s with heap:=sortedHeap s.heap a vs (l'.map (fun i=>vs.getD i .none)).toArray }) :
  wpAny (model prog w) A (Builtin.«list.sort» ⟨[.ref a],[]⟩) P E s:=by
 rw[list_sort_plain]
 have ha:a<s.heap.objs.size:=zq1 ho
 refine wpAny_bind (listItems_at ho rfl ?_)
 refine wpAny_bind (listUpdate_at ho rfl ?_ (by rw[zq4,sizeLine_eq];omega) (zrh _))
 obtain⟨e1,ho1⟩:∃e1,(s.heap.update a (Obj.mapSeq fun _=>#[])).get? a=some (seqObj "list" #[] e1):=⟨_,get?_update_seq ho (fun _=>#[])⟩
 refine wpAny_bind (seqEpoch_at ho1 rfl ?_)
 refine wpAny_bind (wpAny_newTuple ?_ (by show vs.length<=_;rw[sizeLine_eq];omega))
 refine wpAny_bind (wpAny_newList ?_ (zrh _))
 refine wpAny_holding ?_
 have ho6:(((s.heap.update a (Obj.mapSeq fun _=>#[])).push (seqObj "tuple" vs.toArray 0)).push (seqObj "list" #[] 0)).get? a=some (seqObj "list" #[] e1):=by
  rw[Heap.get?_push_ne _ _ _ (by rw[size_push',Heap.size_update];exact zq9 (Nat.lt_succ_of_lt ha)),Heap.get?_push_ne _ _ _ (by rw[Heap.size_update];exact zq9 ha)]
  exact ho1
 have keep:∀b o,b≠a->s.heap.get? b=some o->(((s.heap.update a (Obj.mapSeq fun _=>#[])).push (seqObj "tuple" vs.toArray 0)).push (seqObj "list" #[] 0)).get? b=some o:=fun b o hb e=>by
  have hlt:=zq1 e
  rw[Heap.get?_push_ne _ _ _ (by rw[size_push',Heap.size_update];exact zq9 (Nat.lt_succ_of_lt hlt)),Heap.get?_push_ne _ _ _ (by rw[Heap.size_update];exact zq9 hlt),Heap.get?_update_ne _ _ _ _ hb]
  exact e
 show wpAny (model prog w) A _ P E { s with heap:=((s.heap.update a (Obj.mapSeq fun _=>#[])).push (seqObj "tuple" vs.toArray 0)).push (seqObj "list" #[] 0) }
 dsimp only
 have hsz:vs.toArray.size=vs.length:=by simp
 have end_:∀(st':SortSt) (l':List Nat),l'.Perm (List.range N)->Up lt l'->(arrOf st').map (·.2)=(l'.map (fun i=>vs.getD i .none)).toArray->failedOf st'=none->wpAny (model prog w) A (do
   let touched:=(<-seqEpoch a) != e1
   Builtin.List.listUpdate (.ref a) fun _=>(arrOf st').map (·.2)
   if let some e:=failedOf st' then rule "list.sort.comparison-raised";throw e
   if touched then rule "list.sort.modified";raiseError "ValueError" "list modified during sort"
   ret .none) P E { s with heap:=((s.heap.update a (Obj.mapSeq fun _=>#[])).push (seqObj "tuple" vs.toArray 0)).push (seqObj "list" #[] 0) }:=fun st' l' p' u' e2 hf=>by
  have lp:=p'.length_eq
  rw[zrc] at lp
  refine wpAny_bind (seqEpoch_at ho6 rfl ?_)
  refine wpAny_bind (listUpdate_at ho6 rfl ?_ (zrh _) (by rw[e2,sizeLine_eq];simp;omega))
  rw[hf,e2]
  simp only[bne_self_eq_false,Bool.false_eq_true,if_false]
  exact wpAny_pure (h l' p' u')
 rw[if_neg (by rw[hsz];omega),if_neg (by rw[hsz];omega)]
 refine wpAny_bind (kas_kind (T:=ty) (by omega) (fun v hv=>hT _ keep v hv) t1 t2 ?_)
 have est:SortSt.mk' oneType' (vs.toArray.zip vs.toArray) #[] 7 none=yP oneType' (pairsOf vs) (List.range N) #[] 7:=by
  have e:=kas_range (pairsOf vs)
  rw[pairsOf_size,hN] at e
  show SortSt.mk' oneType' (pairsOf vs) #[] 7 none=SortSt.mk' oneType' ((List.range N).map (kas_item (pairsOf vs))).toArray #[] 7 none
  rw[<-List.map_toArray,e]
 have go:=zlH (prog:=prog) (w:=w) (A:=A) (E:=E) (κ:=oneType') (it:=pairsOf vs) (s:={ s with heap:=((s.heap.update a (Obj.mapSeq fun _=>#[])).push (seqObj "tuple" vs.toArray 0)).push (seqObj "list" #[] 0) })
  (Q:=fun _ st' s'=>∃l':List Nat,l'.Perm (List.range N)/\Up lt l'/\arrOf st'=(l'.map (kas_item (pairsOf vs))).toArray/\failedOf st'=none/\s'={ s with heap:=((s.heap.update a (Obj.mapSeq fun _=>#[])).push (seqObj "tuple" vs.toArray 0)).push (seqObj "list" #[] 0) })
  T (fun i j hi hj C hC=>by
   unfold kas_cmp
   rw[kas_item_eq,kas_item_eq]
   exact hc _ keep i j hi hj C hC) (fun l' st' a1 a2 a3 a4=>⟨l',a1,a2,a3,a4,rfl⟩)
 rw[<-est] at go
 refine wpAny_bind (wpAny_mono go ?_ fun _ _ e=>e)
 rintro⟨⟨⟩,st'⟩ s' ⟨l',p',u',har,hf,rfl⟩
 refine end_ st' l' p' u' ?_ hf
 have har':arrOf st'=(l'.map (kas_item (pairsOf vs))).toArray:=har
 rw[har']
 apply Array.toList_inj.mp
 rw[Array.toList_map,zrw]
 exact List.map_congr_left fun i _=>by
  show(kas_item (pairsOf vs) i).2=_
  rw[kas_item_eq]
theorem Qw:∀{vs:List Value} {ns:List Int},IntsAre vs ns->∀i,i<ns.length->∃t,vs.getD i .none=.int (ns.getD i 0) t
 | _,_,.nil,i,h=>by simp at h
 | _,_,.cons _ _ hI,0,_=>⟨_,rfl⟩
 | _,_,.cons _ _ hI,i+1,h=>by
  obtain⟨t,e⟩:=Qw hI i (by simpa using h)
  exact⟨t,by simpa using e⟩
theorem ints_map {vs:List Value}{ns:List Int}(hI:IntsAre vs ns):∀(l:List Nat),(∀i∈l,i<ns.length)->IntsAre (l.map fun i=>vs.getD i .none) (l.map fun i=>ns.getD i 0)
 | [],_=>.nil
 | i::l,h=>by
  obtain⟨t,e⟩:=Qw hI i (h i zre)
  show IntsAre (vs.getD i .none::_) (ns.getD i 0::_)
  rw[e]
  exact .cons _ _ (ints_map hI l fun j hj=>h j (zq5 _ hj))
theorem zaa {a:Addr}{vs:List Value}{ns:List Int}{n:Nat}{P:PySem.Fin->Shared->Prop}(ho:s.heap.get? a=some (seqObj "list" vs.toArray n))(hI:IntsAre vs ns)(nd:ns.Nodup)(hz:vs.length<=1000)
  (h:∀(out:Array Value) (ms:List Int),IntsAre out.toList ms->ms.Perm ns->ms.Pairwise (·<=·)->P (.done (.ret .none)) { s with heap:=sortedHeap s.heap a vs out }) :
  wpAny (model prog w) A (Builtin.«list.sort» ⟨[.ref a],[]⟩) P E s:=by
 have hl:=hI.length
 by_cases h64:vs.length<64
 ·exact list_sort_tree ho hI h64 h
 have gi:∀i,i<ns.length->ns[i]?=some (ns.getD i 0):=fun i hi=>by rw[zq7,zqV hi];rfl
 have T:Tot (fun i j=>decide (ns.getD i 0<ns.getD j 0)) vs.length:=⟨fun {i j k} _ _ _ a b=>decide_eq_true (Int.lt_trans (of_decide_eq_true a) (of_decide_eq_true b)),fun {i j} hi hj hne hf=>by
  have h1:=of_decide_eq_false hf
  have h2:ns.getD i 0≠ns.getD j 0:=fun z=>hne ((List.getElem?_inj (by omega:i<ns.length) nd).mp (by rw[gi i (by omega),gi j (by omega),z]))
  exact decide_eq_true (by omega),fun {i j} _ _ ht=>by
  have:=of_decide_eq_true ht
  exact decide_eq_false (by omega)⟩
 refine zg5 (ty:=.type "int") T ho rfl (by omega) hz (fun h' _ v hv=>?_) (by rfl) (by rfl) (fun h' _ i j hi hj C hC=>?_) (fun l' p' u'=>?_)
 ·obtain⟨i,hi,ev⟩:=zrA hv
  obtain⟨t,e⟩:=Qw hI i (by omega)
  rw[zq7,zqV hi,ev] at e
  have e':v=.int (ns.getD i 0) t:=e
  rw[e']
  exact fun A Q E s' k q=>wpAny_typeOf (T := "int") (typeIs_int _ _ _) q
 ·obtain⟨t,e⟩:=Qw hI i (by omega)
  obtain⟨u,e2⟩:=Qw hI j (by omega)
  rw[e,e2,keyLt'_oneType]
  exact oneLt_int hC
 ·have inl:∀i∈l',i<ns.length:=fun i hi=>by have:=List.mem_range.mp (p'.mem_iff.mp hi);omega
  refine h _ (l'.map fun i=>ns.getD i 0) (ints_map hI l' inl) ?_ ?_
  ·have e:(List.range vs.length).map (fun i=>ns.getD i 0)=ns:=by
    refine List.ext_getElem? fun i=>?_
    rw[zqW]
    by_cases hi:i<vs.length
    ·rw[List.getElem?_range hi]
     exact(gi i (by omega)).symm
    ·rw[zru (by simp;omega),zru (by omega)]
     rfl
   have:=p'.map fun i=>ns.getD i 0
   rw[e] at this
   exact this
  ·exact List.pairwise_map.mpr (u'.imp fun {a b} hab=>Int.le_of_lt (of_decide_eq_true hab))
end
section
variable {X:Cx}
theorem Qx (hc:X.calm=true):Xl X (.builtin "sorted") (fun xs H Q=>∃(p:Addr) (kvs:List (Key×V)) (ns:List Int),xs=[.ref p]/\H p=some (.dK kvs)/\kvs.map (·.1)=ns.map Sum.inl/\ns.length<=1000/\ns.Nodup/\∀(l:Addr) (ms:List Int),H l=none->ms.Perm ns->ms.Pairwise (·<=·)->Q (.ref l) (upd H l (.lst (ms.map V.int)))):=by
 intro pins s σ H xs us Q I r h
 obtain⟨p,kvs,ns,rfl,hp,hns,h64,ndn,q⟩:=h
 obtain⟨u,rfl,rx⟩:=vals1 r
 cases rx
 obtain⟨hz,lo,vs,rv,hD⟩:=(show kvs.length<=sizeLine/\(p==sysModules)=false/\∃vs,KV kvs vs/\s.heap.DictOf (z6 X.prog X.w) p vs from I.hok p _ hp)
 obtain⟨ep,hat⟩:=hD.dictAt
 have hl:kvs.length=vs.length:=Paired.length rv
 have hnl:kvs.length=ns.length:=by have:=congrArg List.length hns;rw[zqU,zqU] at this;exact this
 refine Calls.call_function_entry kind_sorted plain_sorted entry_sorted (args_sorted1 _) ?_
 unfold Builtin.«sorted»
 refine wpAny_bind (m:=checkCount "sorted" 1 1 _) (wpAny_pure ?_)
 refine wpAny_bind (PySem.W.kdu_collect (PySem.W.kdl_dict (knd:=z6 X.prog X.w) (kvs:=vs) (ep:=ep) lo) (I.ok.hd hc) hat (by omega) fun h' tk acc hk hacc=>?_)
 have hoL:(h'.push (seqObj "list" acc.toList.toArray 0)).get? h'.objs.size=some (seqObj "list" acc.toList.toArray 0):=zrf _ rfl
 have hv:Vals (ns.map V.int) acc.toList:=by
  refine Ql (by rw[zqU];have:=hacc.1;simp;omega) fun j v hv=>?_
  obtain⟨k,x,hx,hkv⟩:=hacc.2 j v (by rw[<-Array.getElem?_toList];exact hv)
  obtain⟨y,hy,e1,_⟩:=Qe rv hx
  have e2:(ns.map (Sum.inl:Int->Key))[j]?=some y.1:=by rw[<-hns,zqW,hy];rfl
  rw[zqW] at e2
  cases hj:ns[j]? with
  | none=>rw[hj] at e2;cases e2
  | some i =>
   rw[hj] at e2
   have e3:(Sum.inl i:Key)=y.1:=zrp e2
   refine⟨.int i,by rw[zqW,hj];rfl,?_⟩
   have e1':y.1=k:=e1
   rw[<-e1',<-e3] at hkv
   rcases yV (k:=(Sum.inl i:Key)) (v:=v) hkv with ⟨i',t,e4,rfl⟩ | ⟨z,t,e4,rfl⟩
   ·cases e4;exact⟨_,rfl⟩
   ·cases e4
 have hi:IntsAre acc.toList ns:=intsAre_of hv
 have hal:acc.toList.length=ns.length:=hi.length
 refine wpAny_bind (wpAny_newList ?_ (hsz:=by rw[hal];exact zrd (yq (by omega))))
 show wpAny _ _ _ _ _ { s with heap:=h'.push (seqObj "list" acc.toList.toArray 0),toks:=tk }
 refine wpAny_bind (wpAny_holding (wpAny_call_entry slot_list_sort ⟨_,hoL,rfl⟩ entry_list_sort (zaa hoL hi ndn (by omega) fun out ms a1 a2 a3=>⟨_,rfl,?_⟩) (args_list_sort _)))
 refine wpAny_pure ⟨_,rfl,?_⟩
 have I1:Inv X pins σ H { s with heap:=h',toks:=tk }:=I.kept hk
 obtain⟨e,he⟩:=sortedHeap_at (vs:=acc.toList) (out:=out) hoL
 have hf:H h'.objs.size=none:=I1.hok.fresh (zra _)
 have hlm:=a2.length_eq
 have s64:=yq (n:=ms.length) (by omega)
 refine⟨.ref h'.objs.size,_,I1.laid (o:=.lst (ms.map V.int)) (fun b o e=>?_) (zra _) ?_,rfl,q _ ms hf a2 a3⟩
 ·have lb:=zq1 e
  rw[sortedHeap_old (zq9 lb) (by rw[size_push'];exact Nat.lt_succ_of_lt lb)]
  exact zq0 _ e
 ·refine⟨by rw[zqU];exact zrd s64,out.toList,e,Py a1,?_⟩
  simpa using he
end
end L2
namespace Za
open PySem L2 yc
theorem zlI {ks:List Nat}(nd:ks.Nodup):(ks.map fun(n:Nat)=>(n:Int)).Nodup:=List.pairwise_map.mpr (nd.imp fun {a b} h z=>h (Int.ofNat.inj z))
section
variable (C:Addr)
inductive K8 (vs:List V)(H:Hp)(Q:VK)(E9:XK):Prop
 | mk (b:Addr) (os:List Str) (rs:List Rm) (F:wM) (k:Nat) (_:vs=[.ref b,.int k]) (_:yu C H b os rs F) (_:k<rs.length) (_:∀(l:Addr) (H':Hp) (ms:List Int),Same H H'->H l=none->H' l=some (.lst (ms.map V.int))->YX rs k ms->Q (.ref l) H'):K8 vs H Q E9
inductive K9 (vs:List V)(H:Hp)(Q:VK)(E9:XK):Prop
 | mk (b:Addr) (os:List Str) (rs:List Rm) (F:wM) (k:Nat) (_:vs=[.ref b,.int (k:Nat)]) (_:yu C H b os rs F) (_:k<rs.length) (_:∀(H':Hp) (ms:List Int),Same H H'->YX rs k ms->Q (.int (ms.length:Nat)) H'):K9 vs H Q E9
end
theorem TJ {n p:Nat}{f:Nat->Bool}{v:Bool}(hp:p<n)(fr:∀i,i<p->Free n f i):∀i,i<p+1->Free n (fun b=>f (zG b p v)) i:=fun i hi b hb u=>by
 show f (zG (zG b i u) p v)=f (zG b p v)
 by_cases e:i=p
 ·subst e
  congr 1
  refine Zk (zO (zO hb hp) hp) (zO hb hp) fun j _=>?_
  rw[zL,zL,zL]
  by_cases e:j=i
  ·rw[if_pos e,if_pos e]
  ·rw[if_neg e,if_neg e,if_neg e]
 ·have hi':i<p:=by omega
  rw[<-fr i hi' (zG b p v) (zO hb hp) u]
  congr 1
  refine Zk (zO (zO hb (by omega)) hp) (zO (zO hb hp) (by omega)) fun j _=>?_
  rw[zL,zL,zL,zL]
  by_cases e1:j=p
  ·rw[if_pos e1,if_pos e1,if_neg (by omega)]
  ·rw[if_neg e1,if_neg e1]
end Za
namespace L2
open PySem PySem.Spec PyProof.Rows
section
variable {X:Cx}{pins:List (Addr×Obj)}{σ:St}{H:Hp}{s:Shared}
theorem Inv.held {d:Addr}{kvs:List (Key×V)}{o:Obj}(I:Inv X pins σ H s)(e:H d=some (.dK kvs))(ho:s.heap.get? d=some o):Inv X pins σ (upd H d (.Kg o (.dK kvs))) s :=
 I.write (t':=s.toks) (h':=s.heap) (by rw[e];exact trivial) (.inl rfl) (fun _ _ _ q=>q) ⟨o,ho⟩ ⟨ho,I.hok d _ e⟩
end
theorem zeZ {P:Program}{w:World}{h h':Heap}{d:Addr}{o:Obj}{vs vs':List (Key×Value)}{ep ep':Nat}(ho:h.get? d=some o)(hd:h'.get? d=some o)(x:h.DictAt (z6 P w) d vs ep)(x':h'.DictAt (z6 P w) d vs' ep'):ep'=ep:=by
 obtain⟨o1,es1,ho1,_,zlJ,_⟩:=x
 obtain⟨o2,es2,ho2,_,zjf,_⟩:=x'
 rw[ho] at ho1
 cases ho1
 rw[hd] at ho2
 cases ho2
 rw[zlJ] at zjf
 cases zjf
 rfl
end L2
namespace Za
open PySem L2 yc
section
variable {os:List Str}{t:Nat->Bool}
theorem zkk {x:List Nat}{j:Nat}{v:V}(h:(Rn x)[j]?=some v):∃b,x[j]?=some b/\v=.int (b:Nat):=by
 unfold Rn at h
 rw[zqW] at h
 cases hx:x[j]? with
 | none=>rw[hx] at h;cases h
 | some b=>rw[hx] at h;exact⟨b,rfl,(zrp h).symm⟩
theorem Ja (x:List Nat):(Rn x).length=x.length:=zqU _
end
section
variable (C:Addr)(K:Frag)
def tB (rs:List Rm)(k:Nat):Nat->Bool:=fun b=>yes rs k (Qm b)
end
theorem W0.rise {C:Addr}{H0:Hp}{b:Addr}{os:List Str}{m n:Nat}{H:Hp}{rs:List Rm}{F:wM}(h:W0 C H0 b os m H rs F){H':Hp}{rs':List Rm}(aw:zgI F H H')(hB:yu C H' b os rs' F)(hh:hiN os.length rs'<=hiN os.length rs+n):W0 C H0 b os (m+n) H' rs' F :=
 ⟨fun x o e=>aw x o (h.same _ _ e) fun z=>(by have:=h.away x z;rw[this] at e;cases e),h.away,hB,zrg hh (Nat.add_le_add_right h.hi _)⟩
section
variable {os:List Str}
variable {t:Nat->Bool}
theorem ziy {n N M:Nat}{f g:Nat->Bool}(a:zP n N f)(b:zP n M g):zP n (N&&&M) fun c=>f c&&g c:=fun c=>by
 rw[Nat.testBit_and,a c,b c]
 cases decide (c<2^n)<;>simp
end
def hav (l:List (Nat×Bool))(b:Nat):Bool:=l.all fun x=>b.testBit x.1==x.2
section
variable (C:Addr)(K:Frag)
inductive Vr (vs:List V)(H:Hp)(Q:VK)(E9:XK):Prop
 | mk (pl rl:Addr) (n:Nat) (ps:List Nat) (r:List Bool) (_:vs=[.ref pl,.ref rl,.int (n:Nat)]) (_:n<=8) (_:zZ K H pl (Rn ps)) (_:zZ K H rl (YT r)) (_:(∀p∈ps,p<n)) (_:ps.length=r.length) (_:ps.length<=8) (_:∀(R:Nat) (H':Hp),Same H H'->zP n R (hav (ps.zip r))->Q (.int (R:Nat)) H'):Vr vs H Q E9
end
theorem zlK (x y:Bool):jn false true true true x y=(x||y):=by cases x<;>cases y<;>rfl
end Za
namespace L2
open PySem
section
variable {K:Frag}{σ:St}{js:List Nat}{tt:TT}{te:TE}{H:Hp}{Qf:Addr->Hp->List V->Prop}
open Za
theorem Jb {a:Addr}{xs:List V}(Pv:Nat->List V->Hp->Prop)(h0:Pv 0 [] H)(hz:xs.length<=sizeLine)
  (hl:∀i ys H,i<=xs.length->Pv i ys H->zZ K H a xs/\ys.length<=i)
  (hs:∀i x ys H (Q:V->Hp->Prop),xs[i]?=some x->Pv i ys H->(∀v H3,Pv (i+1) (ys++[v]) H3->Q v H3)->te (YM σ js (some x)) H Q)
  (hd:∀ys H p,Pv xs.length ys H->H p=none->Qf p H ys) :
  ∃W:Nat->Nat->List V->Hp->Prop,(∃m,W 0 m [] H)/\∀i m ys H,W i m ys H ->
   ((Kq K a).stop i H/\∀p,H p=none->Qf p H ys) \/
   ((Kq K a).go i H/\ys.length<sizeLine/\∀x H',(Kq K a).Pj i H x H'->Le (YM σ js (some x)) H' fun b H2 =>
    if b=true then te (YM σ js (some x)) H2 fun v H3=>∃m',m'<m/\W (i+1) m' (ys++[v]) H3 else ∃m',m'<m/\W (i+1) m' ys H2):=by
 refine⟨fun i m ys H=>m=xs.length-i/\i<=xs.length/\Pv i ys H,⟨xs.length,by simp,zrh _,h0⟩,?_⟩
 rintro i m ys H ⟨rfl,hi,p⟩
 obtain⟨q,hy⟩:=hl i ys H hi p
 by_cases hlt:i<xs.length
 ·refine .inr ⟨⟨xs,xs[i],q,by simp[hlt]⟩,by omega,fun x H' y=>?_⟩
  obtain⟨e,y⟩:=y
  subst e
  show te (YM σ js (some x)) H' fun v H3=>∃m',m'<xs.length-i/\(m'=xs.length-(i+1)/\i+1<=xs.length/\Pv (i+1) (ys++[v]) H3)
  exact hs i x ys _ _ (y xs q) p fun v H3 h3=>⟨_,Nat.sub_lt_sub_left hlt (Nat.lt_succ_self i),rfl,hlt,h3⟩
 ·have e:i=xs.length:=by omega
  subst e
  exact .inl ⟨⟨xs,q,zra _⟩,fun pp hp=>hd ys H pp p hp⟩
end
end L2
namespace Za
open PySem L2 yc
theorem W0.made {C:Addr}{H0 H':Hp}{bk dx:Addr}{os:List Str}{F:wM}{o1 o2:HO}(hbk:H0 bk=none)(hdx:H0 dx=none)(hne:dx≠bk)(keep:∀x o,upd (upd H0 dx o1) bk o2 x=some o->x≠bk->H' x=some o)
  (hB:yu C H' bk os [none,none] F)(hF:∀x,F x->x=bk\/x=dx\/upd (upd H0 dx o1) bk o2 x=none):W0 C H0 bk os 0 H' [none,none] F:=by
 refine⟨fun x o e=>keep x o (by rw[zA (zy e hbk),zA (zy e hdx)];exact e) (zy e hbk),fun x hx=>?_,hB,zra _⟩
 rcases hF x hx with z | z | z
 ·rw[z];exact hbk
 ·rw[z];exact hdx
 ·by_cases e1:x=bk
  ·rw[e1] at z;rw[zj] at z;cases z
  ·by_cases e2:x=dx
   ·rw[e2,zA hne,zj] at z;cases z
   ·rw[zA e1,zA e2] at z;exact z
end Za
namespace L2
open PySem PySem.Spec PyProof.Rows
section
variable {K:Frag}{σ:St}{js:List Nat}{te:TE}{H:Hp}{Qf:Addr->Hp->List V->Prop}
open Za
theorem ze0 {a:Addr}{xs:List V}(f:V->V)(hq:zZ K H a xs)(hz:xs.length<=sizeLine)
  (hs:∀(i:Nat) x H' (Q:V->Hp->Prop),xs[i]?=some x->Same H H'->(∀H3,Same H' H3->Q (f x) H3)->te (YM σ js (some x)) H' Q)
  (hd:∀H' p,Same H H'->H' p=none->Qf p H' (xs.map f)) :
  ∃W:Nat->Nat->List V->Hp->Prop,(∃m,W 0 m [] H)/\∀i m ys H,W i m ys H ->
   ((Kq K a).stop i H/\∀p,H p=none->Qf p H ys) \/
   ((Kq K a).go i H/\ys.length<sizeLine/\∀x H',(Kq K a).Pj i H x H'->Le (YM σ js (some x)) H' fun b H2 =>
    if b=true then te (YM σ js (some x)) H2 fun v H3=>∃m',m'<m/\W (i+1) m' (ys++[v]) H3 else ∃m',m'<m/\W (i+1) m' ys H2):=by
 refine Jb (xs:=xs) (fun i ys H'=>Same H H'/\ys=(xs.take i).map f) ⟨Same.refl _,rfl⟩ hz ?_ ?_ ?_
 ·rintro i ys H' hi ⟨g,rfl⟩
  exact⟨g.seq hq,by rw[zqU,zri];omega⟩
 ·rintro i x ys H' Q0 hx ⟨g,rfl⟩ hQ
  refine hs i x H' Q0 hx g fun H3 g3=>hQ _ _ ⟨g.trans g3,?_⟩
  rw[zY hx,zq8]
  rfl
 ·rintro ys H' p ⟨g,rfl⟩ hp
  rw[zrn]
  exact hd H' p g hp
end
end L2
namespace L2
open PySem PySem.Spec PyProof.Rows PySem.Builtin PySem.Builtin.Str
def zg6 (x:Str):It:={ go:=fun i _=>i<x.cps.size,Pj:=fun i H v H'=>∃p c,x.cps[i]?=some c/\v=.ref p/\H p=none/\H'=upd H p (.tup [.int (i:Nat),.str ⟨#[c]⟩]),stop:=fun i _=>i=x.cps.size }
theorem zd4 {P:Program}{w:World}{K:Frag}{els:List Expr}{x1}{pt:Pos}(x:Str)(t:Tok)(e it:Addr)(hne:e≠it):Turn P w K (.Tuple els x1 pt) (zg6 x) [e,it] e (fun i h=>(∃old,IsEnum h e it (i:Nat) old)/\h.IsStrIter it "str_ascii_iterator" x t i) where
 mem:=by simp
 obj:=fun i h st b hb=>by
  rcases List.mem_cons.mp hb with z | z
  ·obtain⟨⟨old,q⟩,_⟩:=st
   rw[z]
   exact⟨_,q,fun v hv=>by cases hv⟩
  ·have z':b=it:=by simpa using z
   obtain⟨_,o,q,c,d⟩:=st
   rw[z']
   exact⟨o,q,fun v hv=>by rw[d] at hv;cases hv⟩
 keep:=fun i h h' st k=>by
  obtain⟨⟨old,q⟩,o,q2,c,d⟩:=st
  exact⟨⟨old,k e (by simp) _ q⟩,o,k it (by simp) o q2,c,d⟩
 item:=by
  intro X hP hw hK hc i pins s σ H E I hf st hg
  subst hP hw hK
  obtain⟨⟨old,he⟩,hit⟩:=st
  have D:=Draws.strAscii (prog:=X.prog) (w:=X.w) (A:=X.A.in1) (I.ok.hd hc) it x t
  refine wpAny_pyNext_enum_itemD D he hit hg hne (by simpa using hne) fun u h1 tk hu out hit1 tup sz k1=>?_
  obtain⟨c,u',hc',rfl⟩:=hu
  refine⟨.ref s.heap.objs.size,rfl,wpAny_letOwnedTupleGo_enum out fun h2 he2 sb=>?_⟩
  have lte:=zq1 he
  have k2:∀b o,b∉[e,it]->s.heap.get? b=some o->h2.get? b=some o:=fun b o hb q=>by
   have hb':b≠e/\b≠it:=by simpa using hb
   exact(sb.2 b hb'.1).trans (k1 b o hb'.1 hb'.2 q)
  have hit2:h2.IsStrIter it "str_ascii_iterator" x t (i+1):=by
   obtain⟨o,q,a,b⟩:=hit1
   exact⟨o,(sb.2 it (Ne.symm hne)).trans q,a,b⟩
  have J1:Inv X pins σ H { s with heap:=h2,toks:=tk+1 }:=I.zbj (fp:=[e,it]) k2 (fun b hb=>by
   rcases List.mem_cons.mp hb with z | z
   ·rw[z];exact⟨_,he2⟩
   ·have z':b=it:=by simpa using z
    obtain⟨o,q,_⟩:=hit2
    rw[z'];exact⟨o,q⟩) hf
  have zgr:h2.get? s.heap.objs.size=some { cls:=.type "tuple", data:=.seq #[.int i tk,.str ⟨#[c]⟩ u'] }:=(sb.2 _ (Nat.ne_of_gt lte)).trans tup
  have ltc:∀y c,X.env.cells.lookup y=some c->c≠s.heap.objs.size:=fun y c q=>by
   obtain⟨v,o,z,_⟩:=I.cell y c q
   exact zq9 (zq1 z)
  have ltp:∀p∈X.pn++pins,p.1≠s.heap.objs.size:=fun p hp=>zq9 (zq1 (I.pin p hp).1)
  have J2:=J1.track (a:=s.heap.objs.size) (o:=.tup [.int (i:Nat),.str ⟨#[c]⟩]) I.fresh (Ne.symm (zq9 I.lt)) I.sz ltc ltp ⟨by show 2<=sizeLine;decide,[.int i tk,.str ⟨#[c]⟩ u'],.cons ⟨_,rfl⟩ (.cons ⟨_,rfl⟩ .nil),⟨_,zgr,rfl,_,rfl⟩⟩
  refine⟨.ref s.heap.objs.size,_,J2,rfl,⟨_,c,hc',rfl,I.fresh,rfl⟩,⟨⟨.str ⟨#[c]⟩ u',?_⟩,hit2⟩,fun b hb=>?_⟩
  ·have:=he2
   simpa using this
  ·have lb:b<s.heap.objs.size:=by
    rcases List.mem_cons.mp hb with z | z
    ·rw[z];exact lte
    ·have z':b=it:=by simpa using z
     obtain⟨o,q,_⟩:=hit
     rw[z'];exact zq1 q
   rw[zA (zq9 lb)]
   exact(hf b hb).1
 done:=by
  intro X hP hw hK hc i pins s σ H E I hf st hg
  subst hP hw hK
  have e:i=x.cps.size:=hg
  subst e
  obtain⟨⟨old,he⟩,hit⟩:=st
  obtain⟨f0,f1,f2,f3,f4,f5⟩:=hf it (by simp)
  have D:=Draws.strAscii (prog:=X.prog) (w:=X.w) (A:=X.A.in1) (I.ok.hd hc) it x t
  exact wpAny_pyNext_enum_endD D he hit fun h' eb=>⟨rfl,I.turned (t':=s.toks) (fun b o hb q=>eb b o hb q) f0 f1 f3 f4 f5⟩
 self:=fun _ _ _ _ _ st h=>let ⟨⟨_,he⟩,_⟩:=st;wpAny_pyIter_enum he h
section
variable {X:Cx}
def zkl (ta:TA):TI:=fun σ H R=>ta σ H fun vs H1=>∃x:Str,vs=[.str x]/\(x.cps.all fun c=>decide (c<128))=true/\R (zg6 x) H1
theorem zg7 {l:Expr}{ta:TA}{p pos:Pos}{els:List Expr}{x1}{pt:Pos}(hg:Gl X "enumerate")(hm:X.mg "enumerate"=none)(ha:PA X [l] ta)(hs:starEach [l] X.env=[(false,eval l X.env)]:=by rfl) :
  PI X (.Tuple els x1 pt) (.Call (.Name "enumerate" p) [l] [] pos) (zkl ta):=by
 intro pins s σ H R I h
 refine Call_ (Xk I hg hm boot_enumerate (PyProof.Rows.callWith_type1 (wC (ha pos pins s σ H _ I h) fun us s1 ⟨vs,H1,I1,r1,q1⟩=>?_) hs rfl))
 obtain⟨x,e,asc,q⟩:=q1
 subst e
 obtain⟨u,rfl,ru⟩:=vals1 r1
 obtain⟨t,rfl⟩:=ru
 refine call_enumerate_str fun h' he hit hsz hk=>?_
 have ht:strIterType x="str_ascii_iterator" := by
  unfold strIterType
  rw[if_pos asc]
 rw[ht] at hit
 have J:Inv X pins σ H1 { s1 with heap:=h',toks:=s1.toks }:=I1.kept hk
 refine wpAny_pyIter_enum he ?_
 refine⟨s1.heap.objs.size+1,[s1.heap.objs.size+1,s1.heap.objs.size],_,_,H1,rfl,J,zd4 x t _ _ (Nat.ne_of_gt (Nat.lt_succ_self _)),⟨⟨_,he⟩,hit⟩,fun b hb=>?_,q⟩
 have gb:s1.heap.objs.size<=b:=by
  rcases List.mem_cons.mp hb with z | z
  ·rw[z];exact Nat.le_succ _
  ·have z':b=s1.heap.objs.size:=by simpa using z
   rw[z'];exact zra _
 exact I1.zcb gb (I1.hok.fresh gb)
end
def zlL (i:Nat)(wi:TI)(xs:List Str)(js:List Nat)(g:TG)(tt:TT)(te:TE):TS:=fun D σ H=>zna wi xs js g tt te σ H fun v H1=>D.nx (σ.set i (some v)) H1
theorem zfF {X:Cx}{sc tZ:Scope}{xs:List Str}{js:List Nat}{tg:Expr}{g:TG}{elt iter:Expr}{pos:Pos}{ifs:List Expr}{wi:TI}{tt:TT}{te:TE}{i:Nat}{y:Str}{py spos:Pos}(hN:X.N.Nodup)(hy:X.N[i]?=some y)(hl:Loc X.env.scope y)(hf:X.fn y=true\/X.env.scope.names.lookup y=some .local)
  (Vi:X.env.scope=tZ)(L:zeF tZ sc xs (js.map fun j=>X.N.getD j ""))(hc:X.calm=true)(hi:PI X tg iter wi)(hg:∀(cl:List (Str×Addr)) (C:Addr) (s₂:Shared) (H₂:Hp) (fp:List Addr),PG (X.blk sc cl C (RM X xs js) s₂ H₂ fp) tg g)(hjs:∀j∈js,j<X.N.length)
  (ht:∀(cl:List (Str×Addr)) (C:Addr) (s₂:Shared) (H₂:Hp) (fp:List Addr) (pins:List (Addr×Obj)) (s':Shared) (σ':St) (H':Hp) (Q:Bool->Hp->Prop),Inv (X.blk sc cl C (RM X xs js) s₂ H₂ fp) pins σ' H' s'->tt σ' H' Q ->
   wpAny (model X.prog X.w) X.A (YS ifs (compEnvC sc cl C X.env)) (TP (X.blk sc cl C (RM X xs js) s₂ H₂ fp) pins σ' Q) (fun _ _=>False) s')
  (he:∀(cl:List (Str×Addr)) (C:Addr) (s₂:Shared) (H₂:Hp) (fp:List Addr),PE (X.blk sc cl C (RM X xs js) s₂ H₂ fp) elt te)
  (hsw:swapsWith (.ListComp elt [⟨tg,iter,ifs,0⟩] sc pos) (some (.Name y py)) spos.line X.env=pure true)(hs:∀x,foldedSetIterable iter X.env x=pure x:=by intro _;rfl) :
  PS X (.Assign [.Name y py] (.ListComp elt [⟨tg,iter,ifs,0⟩] sc pos) spos) (zlL i wi xs js g tt te):=by
 intro pins s σ H D I h
 rw[exec_Assign_Name_used _ _ _ _ hsw]
 refine wpAny_bind (wpAny_standAt (wpAny_bind ?_))
 show wpAny _ _ (do let _ <-comprehension (.ListComp elt [⟨tg,iter,ifs,0⟩] sc pos) sc X.env _ (newList []) false (eval iter X.env) (some (assign (.Name y py) X.env))) _ _ s
 have pg:=yD (X:=X) (i:=i) (x:=y) (pos:=py) hN hy hl hf
 refine wpAny_bind (wpAny_mono (zck (use:=some (assign (.Name y py) X.env)) (QQ:=fun _ z=>SP X pins D .next z) (Fin:=fun ys H=>∀p,H p=none->D.nx (σ.set i (some (.ref p))) (upd H p (.lst ys))) Vi L (rd:=Calm) (fun _ _ _ _ _ _ _=>hc) hi hg hjs ht he hs I h fun A C s5 H5 ys its k m5 J oD oC hDC p1 vs z hn fin=>?_) (fun _ z hq=>wpAny_pure (wpAny_pure hq)) fun _ _ e=>e)
 have J1:Inv X pins σ (upd H5 A (.lst ys)) s5:=J.track oD.free oD.loc oD.new oD.cel oD.pin ⟨z,its,k,vs,p1⟩
 obtain⟨oc,es,ep,hC,hd,hr⟩:=hn
 have Vh:∀v,oc.data≠.cell v:=fun v q=>by rw[hd] at q;cases q
 have hCA:C≠A:=Ne.symm hDC
 have fC:(upd H5 A (.lst ys)) C=none:=by rw[zA hCA];exact oC.free
 have J2:Inv X (pins++[(C,oc)]) σ (upd H5 A (.lst ys)) s5:=J1.YL fun p hp=>(List.mem_append.mp hp).elim (fun q=>J1.pin p (zrb _ q)) fun q=>by
  have e:p=(C,oc):=by simpa using q
  subst e
  exact⟨hC,fC,oC.loc,oC.fs,Vh⟩
 refine wpAny_mono (pg _ s5 σ _ (.ref A) (.ref A) (fun σ6 H6=>σ6=σ.set i (some (.ref A))/\H6=upd H5 A (.lst ys)) J2 rfl ⟨rfl,rfl⟩) (fun _ s6 ⟨σ6,H6,I6,e1,e2⟩=>?_) fun _ _ e=>e
 subst e1 e2
 obtain⟨c1,c2,_⟩:=I6.pin (C,oc) (zrb _ (zrb _ (by simp)))
 refine⟨m5,⟨oc,es,ep,c1,hd,hr⟩,fun h' hsb=>?_⟩
 have J3:Inv X pins (σ.set i (some (.ref A))) (upd H5 A (.lst ys)) s6:=I6.YL fun p hp=>I6.pin p (zrb _ (List.mem_append_left _ hp))
 have J4:Inv X pins (σ.set i (some (.ref A))) (upd H5 A (.lst ys)) { s6 with heap:=h',toks:=s6.toks }:=J3.turned (it:=C) (fun b o hb e=>hsb.extBut b o hb e) c2 oC.loc (.inr oC.new) oC.cel oC.pin
 exact⟨_,_,J4,fin A oD.free⟩
theorem zd5 {X:Cx}{sc tZ:Scope}{x y:Str}{js:List Nat}{elt iter c:Expr}{px py pt pos:Pos}{x1:Nat}{wi:TI}{te:TE}{tt:TT}{i:Nat}{z:Str}{pz spos:Pos}(hN:X.N.Nodup)(hz:X.N[i]?=some z)(hl:Loc X.env.scope z)(hf:X.fn z=true\/X.env.scope.names.lookup z=some .local)(Vi:X.env.scope=tZ)(L:zjb tZ sc x y (js.map fun j=>X.N.getD j ""))(hc:X.calm=true)(hi:PI X (.Tuple [.Name x px,.Name y py] x1 pt) iter wi)(hjs:∀j∈js,j<X.N.length)
  (ht:∀(cl:List (Str×Addr)) (C:Addr) (s₂:Shared) (H₂:Hp) (fp:List Addr),PT (X.blk sc cl C (RM X [x,y] js) s₂ H₂ fp) c tt)
  (he:∀(cl:List (Str×Addr)) (C:Addr) (s₂:Shared) (H₂:Hp) (fp:List Addr),PE (X.blk sc cl C (RM X [x,y] js) s₂ H₂ fp) elt te)
  (hsw:swapsWith (.ListComp elt [⟨.Tuple [.Name x px,.Name y py] x1 pt,iter,[c],0⟩] sc pos) (some (.Name z pz)) spos.line X.env=pure true)(hs:∀x,foldedSetIterable iter X.env x=pure x:=by intro _;rfl) :
  PS X (.Assign [.Name z pz] (.ListComp elt [⟨.Tuple [.Name x px,.Name y py] x1 pt,iter,[c],0⟩] sc pos) spos) (zlL i wi [x,y] js (zhz X.K 2 (Ko (VJ 0) (Ko (VJ 1) zhy))) tt te) :=
 zfF hN hz hl hf Vi L.g hc hi (fun cl C s₂ H₂ fp=>zil (X:=X.blk sc cl C (RM X [x,y] js) s₂ H₂ fp) hc L.nd rfl rfl (lookup_relabel_local L.hx) (lookup_relabel_local L.hy)) hjs (fun cl C s₂ H₂ fp pins s' σ' H' Q I h=>wpAny_tests_one (ht cl C s₂ H₂ fp pins s' σ' H' Q I h)) he hsw hs
theorem zkm {K:Frag}{x:Str}{σ:St}{js:List Nat}{tt:TT}{te:TE}{H:Hp}{Qf:Addr->Hp->List V->Prop}{u v:Str}(Pv:Nat->List V->Hp->Prop)(h0:Pv 0 [] H)(hz:x.cps.size<=sizeLine)(hl:∀i ys H,Pv i ys H->ys.length<=i)
  (hs:∀(i:Nat) (c:Nat) ys H (p:Addr) (Q1:V->Hp->Prop) (Q2:Hp->Prop),x.cps[i]?=some c->Pv i ys H->H p=none->(∀z H3,Pv (i+1) (ys++[z]) H3->Q1 z H3)->(∀H2,Pv (i+1) ys H2->Q2 H2) ->
   tt (JV σ js [some (.int (i:Nat)),some (.str ⟨#[c]⟩)]) (upd H p (.tup [.int (i:Nat),.str ⟨#[c]⟩])) fun b H2=>if b=true then te (JV σ js [some (.int (i:Nat)),some (.str ⟨#[c]⟩)]) H2 Q1 else Q2 H2)
  (hd:∀ys H p,Pv x.cps.size ys H->H p=none->Qf p H ys) :
  ∃W:Nat->Nat->List V->Hp->Prop,(∃m,W 0 m [] H)/\∀i m zs H,W i m zs H ->
   ((zg6 x).stop i H/\∀p,H p=none->Qf p H zs) \/
   ((zg6 x).go i H/\zs.length<sizeLine/\∀w H',(zg6 x).Pj i H w H'->∀o0:List (Option V),o0.length=[u,v].length->zhz K 2 (Ko (VJ 0) (Ko (VJ 1) zhy)) w (JV σ js o0) H' fun σ2 H1=>∃o1,σ2=JV σ js o1/\o1.length=[u,v].length/\tt σ2 H1 fun b H2 =>
    if b=true then te σ2 H2 fun v H3=>∃m',m'<m/\W (i+1) m' (zs++[v]) H3 else ∃m',m'<m/\W (i+1) m' zs H2):=by
 refine⟨fun i m ys H=>m=x.cps.size-i/\i<=x.cps.size/\Pv i ys H,⟨x.cps.size,by simp,zrh _,h0⟩,?_⟩
 rintro i m ys H ⟨rfl,hi,pv⟩
 have hy:=hl i ys H pv
 by_cases hlt:i<x.cps.size
 ·refine .inr ⟨hlt,by omega,fun w H' y o0 l0=>?_⟩
  obtain⟨p,c,hc,rfl,hp,rfl⟩:=y
  have eσ:((JV σ js o0).set 0 (some (.int (i:Nat)))).set 1 (some (.str ⟨#[c]⟩))=JV σ js [some (.int (i:Nat)),some (.str ⟨#[c]⟩)]:=by
   match o0,l0 with
   | [a0,a1],_=>rfl
  refine⟨p,_,rfl,tY.of zj,rfl,_,_,rfl,_,_,rfl,rfl,[some (.int (i:Nat)),some (.str ⟨#[c]⟩)],eσ,rfl,?_⟩
  rw[eσ]
  exact hs i c ys H p _ _ hc pv hp (fun z H3 p3=>⟨_,Nat.sub_lt_sub_left hlt (Nat.lt_succ_self i),rfl,hlt,p3⟩) (fun H2 p2=>⟨_,Nat.sub_lt_sub_left hlt (Nat.lt_succ_self i),rfl,hlt,p2⟩)
 ·have e:i=x.cps.size:=by omega
  subst e
  exact .inl ⟨rfl,fun p hp=>hd ys H p pv hp⟩
end L2
namespace Za
open PySem L2 yc
abbrev Cb:=List (Option Bool)
def LR:Option Bool->Nat
 | none=>45
 | some false=>48
 | some true=>49
def cbS (q:Cb):Str:=⟨(q.map LR).toArray⟩
theorem ziz:∀{a b:Option Bool},LR a=LR b->a=b:=fun {a b} h=>by
 cases a with
 | none=>cases b with
  | none=>rfl
  | some y=>cases y<;>exact absurd h (by decide)
 | some x=>cases b with
  | none=>cases x<;>exact absurd h (by decide)
  | some y=>cases x<;>cases y<;>first | rfl | exact absurd h (by decide)
theorem Jc (q:Cb):(cbS q).cps.size=q.length:=by
 show(q.map LR).toArray.size=_
 simp
theorem Qy (q:Cb):(cbS q).length=q.length:=Jc q
theorem zg8 (q:Cb):(cbS q).cps.toList=q.map LR:=rfl
theorem ziA (q:Cb):((cbS q).cps.all fun c=>decide (c<128))=true:=by
 rw[Array.all_eq_true_iff_forall_mem]
 intro c hc
 have hc:c∈(q.map LR).toArray:=hc
 rw[List.mem_toArray] at hc
 obtain⟨s,_,rfl⟩:=List.mem_map.mp hc
 exact decide_eq_true (by cases s with
  | none=>decide
  | some b=>cases b<;>decide)
theorem zkn {q:Cb}{i c:Nat}(h:(cbS q).cps[i]?=some c):∃s,q[i]?=some s/\c=LR s:=by
 have h:(q.map LR).toArray[i]?=some c:=h
 rw[List.getElem?_toArray,zqW] at h
 cases e:q[i]? with
 | none=>rw[e] at h;cases h
 | some s=>rw[e] at h;exact⟨s,rfl,(zrp h).symm⟩
theorem Vs {q:Cb}{i:Nat}{s:Option Bool}(h:q[i]?=some s):(cbS q).cps.toList[i]?=some (LR s):=by
 rw[zg8,zqW,h];rfl
theorem Ka {q r:Cb}(h:cbS q=cbS r):q=r:=by
 have:q.map LR=r.map LR:=by
  have e:=congrArg (fun x:Str=>x.cps.toList) h
  exact e
 exact map_inj' this
where
 map_inj':∀{q r:Cb},q.map LR=r.map LR->q=r
  | [],[],_=>rfl
  | [],_::_,h=>by cases h
  | _::_,[],h=>by cases h
  | a::q,b::r,h=>by
   rw[zrj,zrj] at h
   injection h with h1 h2
   rw[ziz h1,map_inj' h2]
theorem ziB (q r:Cb):cbS q++cbS r=cbS (q++r):=by
 show(⟨(q.map LR).toArray++(r.map LR).toArray⟩:Str)=⟨((q++r).map LR).toArray⟩
 rw[zq8,List.append_toArray]
theorem dash:Str.ofString "-"=cbS [none]:=by decide +kernel
def Yx (q:Cb)(b:Nat):Bool:=(List.range q.length).all fun i=>match q.getD i none with
 | none=>true
 | some v=>b.testBit i==v
def Kc (q:Cb):List Nat:=(List.range q.length).filter fun i=>(q.getD i none).isSome
def vlC (q:Cb):List Bool:=(Kc q).map fun i=>(q.getD i none).getD false
theorem zg9 {q:Cb}:∀i∈Kc q,i<q.length:=fun i h=>List.mem_range.mp (List.mem_filter.mp h).1
theorem zko (q:Cb)(b:Nat):hav ((Kc q).zip (vlC q)) b=Yx q b:=by
 rw[zrz]
 unfold hav Yx
 rw[zro,zro]
 have ez:(Kc q).zip (vlC q)=(Kc q).map fun i=>(i,(q.getD i none).getD false):=by
  unfold vlC
  rw[List.zip_map_right,List.zip_eq_zipWith,List.zipWith_self,zrw]
  rfl
 constructor
 ·intro h i hi
  cases e:q.getD i none with
  | none=>rfl
  | some v =>
   have:=h (i,v) (by rw[ez];exact List.mem_map.mpr ⟨i,List.mem_filter.mpr ⟨hi,by rw[e];rfl⟩,by rw[e];rfl⟩)
   exact this
 ·intro h x hx
  rw[ez] at hx
  obtain⟨i,hi,rfl⟩:=List.mem_map.mp hx
  obtain⟨h1,h2⟩:=List.mem_filter.mp hi
  have:=h i h1
  cases e:q.getD i none with
  | none=>rw[e] at h2;cases h2
  | some v=>rw[e] at this;exact this
end Za
namespace L2
open PySem PySem.Spec PyProof.Rows PySem.Builtin PySem.Builtin.Str Za
section
variable {X:Cx}
def zlM:R2:=fun x y H Q=>∃n:Nat,x=.str "-" /\ y=.int (n:Nat)/\n<=8/\Q (.str (cbS (List.replicate n none))) H
theorem ziD:∀n:Fin 9,MulOk (Str.ofString "-") ((n:Nat):Int):=by
 intro n
 refine⟨?_,?_,?_⟩<;>revert n<;>decide +kernel
theorem ziE:∀n:Fin 9,Txt.mul (Str.ofString "-") ((n:Nat):Int)=cbS (List.replicate n none):=by decide +kernel
theorem ziF:Uc X (binaryOp .Mult) zlM:=by
 intro pins s σ H x y v u Q I rx ry h
 obtain⟨n,rfl,rfl,hn,q⟩:=h
 obtain⟨t,rfl⟩:=rx
 obtain⟨t',rfl⟩:=ry
 refine SB.mul (ziD ⟨n,by omega⟩) fun t2 k=>?_
 rw[ziE ⟨n,by omega⟩]
 exact⟨.str (cbS (List.replicate n none)),H,I.tok _,⟨_,rfl⟩,q⟩
end
end L2
namespace Za
open PySem L2 yc
def inB (n:Nat)(f:Nat->Bool)(q:Cb):Bool:=(List.range (2^n)).all fun b=>!Yx q b||f b
theorem Y4 {n:Nat}{f:Nat->Bool}{q:Cb}:inB n f q=true↔∀b,b<2^n->Yx q b=true->f b=true:=by
 unfold inB
 rw[zro]
 constructor
 ·intro h b hb c
  have:=h b (List.mem_range.mpr hb)
  rw[c] at this
  simpa using this
 ·intro h b hb
  cases c:Yx q b with
  | false=>rfl
  | true=>rw[h b (List.mem_range.mp hb) c];rfl
def wid (q:Cb):List Cb:=(Kc q).map fun i=>q.set i none
def uJ (n:Nat)(f:Nat->Bool)(q:Cb):Bool:=inB n f q&&!(wid q).any (inB n f)
theorem zha {q:Cb}{i:Nat}{s:Option Bool}(h:q[i]?=some s):((Kc q).filter fun j=>decide (j<i+1))=((Kc q).filter fun j=>decide (j<i))++(if s.isSome then [i] else []):=by
 have hi:i<q.length:=(zqX.mp h).1
 have gd:q.getD i none=s:=by rw[zq7,h];rfl
 have key:∀m,m<=q.length->((Kc q).filter fun j=>decide (j<m))=(List.range m).filter fun i=>(q.getD i none).isSome:=fun m hm=>by
  unfold Kc
  rw[List.filter_filter]
  have e:List.range q.length=List.range m++List.range' m (q.length-m):=by
   have z:=List.range'_append_1 (s:=0) (m:=m) (n:=q.length-m)
   rw[Nat.zero_add] at z
   rw[List.range_eq_range',List.range_eq_range',z]
   congr 1
   omega
  rw[e,zrx]
  have e1:(List.range m).filter (fun a=>decide (a<m)&&(q.getD a none).isSome)=(List.range m).filter fun i=>(q.getD i none).isSome:=List.filter_congr fun j hj=>by rw[decide_eq_true (List.mem_range.mp hj),Bool.true_and]
  have e2:(List.range' m (q.length-m)).filter (fun a=>decide (a<m)&&(q.getD a none).isSome)=[]:=List.filter_eq_nil_iff.mpr fun j hj=>by
   have:=(List.mem_range'_1.mp hj).1
   rw[decide_eq_false (by omega:¬j<m)]
   simp
  rw[e1,e2,List.append_nil]
 rw[key (i+1) (by omega),key i (by omega),List.range_succ,zrx]
 congr 1
 rw[List.filter_cons,gd,List.filter_nil]
theorem zfG (q:Cb){i:Nat}(h:i<=q.length):((Kc q).filter fun j=>decide (j<i)).length<=i:=by
 have sub:∀j∈(Kc q).filter fun j=>decide (j<i),j∈List.range i:=fun j hj=>List.mem_range.mpr (of_decide_eq_true (List.mem_filter.mp hj).2)
 have nd:((Kc q).filter fun j=>decide (j<i)).Nodup:=(List.nodup_range.filter _).filter _
 have:=Qd nd sub
 rw[zrc] at this
 exact this
theorem zcO {q:Cb}{i:Nat}(h:i∈Kc q):∃v,q[i]?=some (some v):=by
 obtain⟨h1,h2⟩:=List.mem_filter.mp h
 have hi:=List.mem_range.mp h1
 rw[zq7,zqV hi] at h2
 rw[zqV hi]
 cases e:q[i] with
 | none=>rw[e] at h2;cases h2
 | some v=>exact⟨v,rfl⟩
section
variable (C D D':Addr)(K:Frag)
inductive Jd (vs:List V)(H:Hp)(Q:VK)(E9:XK):Prop
 | mk (q:Cb) (_:vs=[.str (cbS q)]) (_:q.length<=8) (_:∀(R:Nat) (H':Hp),Same H H'->zP q.length R (Yx q)->Q (.int (R:Nat)) H'):Jd vs H Q E9
end
end Za
namespace L2
open PySem
theorem ifA {c:Bool}{A B:Prop}(e:c=true)(h:A):if c=true then A else B:=by rw[if_pos e];exact h
theorem ifB {c:Bool}{A B:Prop}(e:c=false)(h:B):if c=true then A else B:=by rw[e,if_neg zqY];exact h
end L2
namespace Za
open PySem L2 yc
open Classical in
noncomputable def zbH (F:wM) (H:Hp):Hp:=fun x=>if F x then none else H x
theorem Np {F:wM}{H:Hp}{x:Addr}{o:HO}(h:H x=some o)(n:¬F x):zbH F H x=some o:=by
 unfold zbH
 rw[if_neg n]
 exact h
theorem W0.base {C:Addr}{H:Hp}{b:Addr}{os:List Str}{m:Nat}{rs:List Rm}{F:wM}(hB:yu C H b os rs F)(hi:hiN os.length rs<=m):W0 C (zbH F H) b os m H rs F :=
 ⟨fun x o e=>by
  unfold zbH at e
  by_cases z:F x
  ·rw[if_pos z] at e;cases e
  ·rw[if_neg z] at e;exact e,fun x z=>by unfold zbH;rw[if_pos z],hB,hi⟩
theorem ziG {C:Addr}{H:Hp}{b:Addr}{os:List Str}{rs:List Rm}{F:wM}(hB:yu C H b os rs F):yW H (zbH F H):=fun x xs e=>Np e fun z=>by
 obtain⟨dx,ml,rl,tl,nd,rv,ts,kvs,h⟩:=hB
 rcases (h.ft x).mp z with rfl | rfl | rfl | rfl | rfl
 ·rw[h.hb] at e;cases e
 ·rw[h.hm] at e;cases e
 ·rw[h.hr] at e;cases e
 ·rw[h.ht] at e;cases e
 ·rw[h.hd] at e;cases e
abbrev ext (p:Nat)(q:Cb):Cb:=List.replicate p none++q
theorem X5 {q:Cb}{b:Nat}:Yx q b=true↔∀i v,q[i]?=some (some v)->b.testBit i=v:=by
 unfold Yx
 rw[zro]
 constructor
 ·intro h i v e
  have hi:i<q.length:=(zqX.mp e).1
  have y:=h i (List.mem_range.mpr hi)
  rw[zq7,e] at y
  simpa using y
 ·intro h i hi
  rw[zq7]
  cases e:q[i]? with
  | none=>rfl
  | some s =>
   cases s with
   | none=>rfl
   | some v =>
    show(b.testBit i==v)=true
    rw[h i v e]
    simp
theorem Je {p i:Nat}{q:Cb}{v:Bool}(h:(ext p q)[i]?=some (some v)):p<=i/\q[i-p]?=some (some v):=by
 unfold ext at h
 rcases Nat.lt_or_ge i p with z | z
 ·rw[zrr (by rw[List.length_replicate];exact z),List.getElem?_replicate,if_pos z] at h
  cases h
 ·rw[List.getElem?_append_right (by rw[List.length_replicate];exact z),List.length_replicate] at h
  exact⟨z,h⟩
theorem zbI {p i:Nat}{q:Cb}:(ext p q)[p+i]?=q[i]?:=by
 unfold ext
 rw[List.getElem?_append_right (by rw[List.length_replicate];omega),List.length_replicate,Nat.add_sub_cancel_left]
theorem ze1 {p i:Nat}{q:Cb}{s:Option Bool}:(ext p q).set (p+i) s=ext p (q.set i s):=by
 unfold ext
 rw[List.set_append,List.length_replicate,if_neg (by omega),Nat.add_sub_cancel_left]
theorem Qz {p:Nat}{q:Cb}:ext p (none::q)=ext (p+1) q:=by
 unfold ext
 rw[List.replicate_succ',List.append_assoc]
 rfl
theorem ziH {p:Nat}{q:Cb}:(ext p q).length=p+q.length:=by
 unfold ext
 rw[zq2,List.length_replicate]
theorem xP {n p:Nat}{f:Nat->Bool}{q:Cb}:uJ n f (ext p q)=true↔inB n f (ext p q)=true/\∀i v,q[i]?=some (some v)->inB n f (ext p (q.set i none))=false:=by
 unfold uJ
 rw[zrm]
 refine and_congr_right fun _=>?_
 rw[Bool.not_eq_true',List.any_eq_false]
 unfold wid
 constructor
 ·intro h i v e
  have hi:i<q.length:=(zqX.mp e).1
  have m:p+i∈Kc (ext p q):=List.mem_filter.mpr ⟨List.mem_range.mpr (by rw[ziH];omega),by rw[zq7,zbI,e];rfl⟩
  have y:=h _ (List.mem_map.mpr ⟨_,m,rfl⟩)
  rw[ze1] at y
  simpa using y
 ·intro h r hr
  obtain⟨i,hi,rfl⟩:=List.mem_map.mp hr
  obtain⟨v,e⟩:=zcO hi
  obtain⟨z,e'⟩:=Je e
  have y:=h _ _ e'
  have:i=p+(i-p):=by omega
  rw[this,ze1,y]
  exact zqY
section
variable {n p:Nat}{f:Nat->Bool}
abbrev side (f:Nat->Bool)(p:Nat)(v:Bool):Nat->Bool:=fun b=>f (zG b p v)
abbrev both (f:Nat->Bool)(p:Nat):Nat->Bool:=fun b=>side f p false b&&side f p true b
theorem zbJ {q:Cb}{b:Nat}{v:Bool}:Yx (ext (p+1) q) (zG b p v)=Yx (ext (p+1) q) b:=by
 rw[zrz,X5,X5]
 have:∀i v',(ext (p+1) q)[i]?=some (some v')->(zG b p v).testBit i=b.testBit i:=fun i v' e=>by
  have:=(Je e).1
  rw[zL,if_neg (by omega)]
 exact⟨fun h i v' e=>by rw[<-this i v' e];exact h i v' e,fun h i v' e=>by rw[this i v' e];exact h i v' e⟩
theorem zbK {q:Cb}{b:Nat}{v:Bool}:Yx (ext p (some v::q)) b=(b.testBit p==v&&Yx (ext (p+1) q) b):=by
 rw[zrz,zrm,X5,X5,beq_iff_eq]
 constructor
 ·intro h
  refine⟨h p v (by have:=zbI (p:=p) (i:=0) (q:=some v::q);rw[Nat.add_zero] at this;rw[this];rfl),fun i v' e=>?_⟩
  obtain⟨z,e'⟩:=Je e
  refine h i v' ?_
  have:i=p+(i-(p+1)+1):=by omega
  rw[this,zbI]
  exact e'
 ·rintro⟨h1,h2⟩ i v' e
  obtain⟨z,e'⟩:=Je e
  rcases Nat.eq_or_lt_of_le z with y | y
  ·subst y
   rw[Nat.sub_self] at e'
   cases e'
   exact h1
  ·refine h2 i v' ?_
   have e1:i=p+1+(i-(p+1)):=by omega
   rw[e1,zbI]
   have e2:i-p=(i-(p+1))+1:=by omega
   rw[e2] at e'
   exact e'
theorem QB (hp:p<n)(q:Cb):inB n f (ext (p+1) q)=inB n (both f p) (ext (p+1) q):=by
 rw[zrz,Y4,Y4]
 constructor
 ·intro h b hb c
  show(f _&&f _)=true
  rw[h _ (zO hb hp) (by rw[zbJ];exact c),h _ (zO hb hp) (by rw[zbJ];exact c)]
  rfl
 ·intro h b hb c
  have y:(f (zG b p false)&&f (zG b p true))=true:=h b hb c
  rw[zrm] at y
  have:=yE b p
  cases e:b.testBit p with
  | false=>rw[e] at this;rw[<-this];exact y.1
  | true=>rw[e] at this;rw[<-this];exact y.2
theorem zbL (hp:p<n)(q:Cb)(v:Bool):inB n f (ext p (some v::q))=inB n (side f p v) (ext (p+1) q):=by
 rw[zrz,Y4,Y4]
 constructor
 ·intro h b hb c
  refine h _ (zO hb hp) ?_
  rw[zbK,zbJ,c,zL,if_pos rfl]
  simp
 ·intro h b hb c
  rw[zbK,zrm,beq_iff_eq] at c
  have y:f (zG b p v)=true:=h b hb c.2
  have e:=yE b p
  rw[c.1] at e
  rw[<-e]
  exact y
theorem zkq (q:Cb)(v:Bool)(h:inB n (both f p) q=true):inB n (side f p v) q=true:=by
 rw[Y4] at h ⊢
 intro b hb c
 have y:(f (zG b p false)&&f (zG b p true))=true:=h b hb c
 rw[zrm] at y
 cases v
 ·exact y.1
 ·exact y.2
theorem Jf (hp:p<n)(q:Cb):uJ n f (ext p (none::q))=uJ n (both f p) (ext (p+1) q):=by
 rw[Qz,zrz,xP,xP,QB hp]
 refine and_congr_right fun _=>⟨fun h i v e=>?_,fun h i v e=>?_⟩
 ·rw[<-QB hp];exact h i v e
 ·rw[QB hp];exact h i v e
theorem Ro (hp:p<n)(q:Cb)(v:Bool):uJ n f (ext p (some v::q))=(uJ n (side f p v) (ext (p+1) q)&&!uJ n (both f p) (ext (p+1) q)):=by
 rw[zrz,zrm,xP,xP,zbL hp]
 constructor
 ·rintro⟨h1,h2⟩
  have h0:=h2 0 v rfl
  have h0:inB n f (ext p (none::q))=false:=h0
  rw[Qz,QB hp] at h0
  refine⟨⟨h1,fun i u e=>?_⟩,?_⟩
  ·have y:inB n f (ext p (some v::q.set i none))=false:=h2 (i+1) u e
   rw[zbL hp] at y
   exact y
  ·cases e:uJ n (both f p) (ext (p+1) q) with
   | false=>rfl
   | true=>rw[xP] at e;rw[e.1] at h0;cases h0
 ·rintro⟨⟨h1,h2⟩,h3⟩
  have nb:inB n (both f p) (ext (p+1) q)=false:=by
   cases e:inB n (both f p) (ext (p+1) q) with
   | false=>rfl
   | true =>
    exfalso
    have:uJ n (both f p) (ext (p+1) q)=true:=xP.mpr ⟨e,fun i u e'=>by
     cases e2:inB n (both f p) (ext (p+1) (q.set i none)) with
     | false=>rfl
     | true=>have:=zkq _ v e2;rw[h2 i u e'] at this;cases this⟩
    rw[this] at h3
    cases h3
  refine⟨h1,fun i u e=>?_⟩
  cases i with
  | zero =>
   show inB n f (ext p (none::q))=false
   rw[Qz,QB hp]
   exact nb
  | succ i =>
   show inB n f (ext p (some v::q.set i none))=false
   rw[zbL hp]
   exact h2 i u e
end
theorem zhb:∀(q:Cb) (p:Nat),∃b,b<2^(p+q.length)/\Yx (ext p q) b=true
 | [],p=>⟨0,Nat.pow_pos (by decide),X5.mpr fun i v e=>by have:=(Je e).2;cases this⟩
 | s::q,p=>by
  obtain⟨b,h1,h2⟩:=zhb q (p+1)
  have e1:p+(s::q).length=p+1+q.length:=by rw[zq6];omega
  cases s with
  | none=>exact⟨b,by rw[e1];exact h1,by rw[Qz];exact h2⟩
  | some v=>exact⟨zG b p v,by rw[e1];exact zO h1 (by omega),by rw[zbK,zbJ,h2,zL,if_pos rfl];simp⟩
def ltC:Cb->Cb->Prop
 | a::x,b::y=>LR a<LR b\/(a=b/\ltC x y)
 | _,_=>False
theorem zhc:∀{a b:Cb},ltC a b->a≠b
 | a::x,b::y,h=>fun e=>by
  cases e
  rcases h with h | h
  ·exact Nat.lt_irrefl _ h
  ·exact zhc h.2 rfl
structure RP (n p:Nat)(f:Nat->Bool)(qs:List Cb):Prop where
 mem:∀q,q∈qs↔q.length=n-p/\uJ n f (ext p q)=true
 up:qs.Pairwise ltC
 len:qs.length<=3^(n-p-1)
theorem RP.nd {n p:Nat}{f:Nat->Bool}{qs:List Cb}(h:RP n p f qs):qs.Nodup:=h.up.imp zhc
theorem RP.none_of {n p:Nat}{f:Nat->Bool}(hp:p<=n)(h:∀b,b<2^n->f b=false){q:Cb}(l:q.length=n-p):uJ n f (ext p q)=false:=by
 cases e:uJ n f (ext p q) with
 | false=>rfl
 | true =>
  rw[xP] at e
  obtain⟨b,h1,h2⟩:=zhb q p
  have e1:p+q.length=n:=by omega
  rw[e1] at h1
  have y:=Y4.mp e.1 b h1 h2
  rw[h b h1] at y
  cases y
theorem RP.no {n p:Nat}{f:Nat->Bool}(hp:p<=n)(h:∀b,b<2^n->f b=false):RP n p f [] :=
 ⟨fun q=>⟨fun z=>(by cases z),fun⟨l,e⟩=>(by rw[RP.none_of hp h l] at e;cases e)⟩,.nil,zrh _⟩
theorem RP.yes {n p:Nat}{f:Nat->Bool}(hp:p<=n)(h:∀b,b<2^n->f b=true):RP n p f [List.replicate (n-p) none]:=by
 have al:∀q,inB n f q=true:=fun q=>Y4.mpr fun b hb _=>h b hb
 refine⟨fun q=>?_,List.pairwise_singleton _ _,Nat.pow_pos (by decide)⟩
 rw[List.mem_singleton,xP]
 constructor
 ·rintro rfl
  refine⟨List.length_replicate,al _,fun i v e=>?_⟩
  rw[List.getElem?_replicate] at e
  split at e<;>cases e
 ·rintro⟨l,_,e⟩
  refine List.ext_getElem? fun i=>?_
  rw[List.getElem?_replicate]
  rcases Nat.lt_or_ge i (n-p) with z | z
  ·rw[if_pos z]
   cases e':q[i]? with
   | none=>rw[List.getElem?_eq_none_iff] at e';omega
   | some s =>
    cases s with
    | none=>rfl
    | some v=>have:=e i v e';rw[al] at this;cases this
  ·rw[if_neg (by omega),List.getElem?_eq_none_iff]
   omega
theorem RP.nil {n p:Nat}{f:Nat->Bool}{qs:List Cb}(P:RP n p f qs)(hp:p<=n)(h:∀b,b<2^n->f b=false):qs=[]:=by
 refine List.eq_nil_iff_forall_not_mem.mpr fun q hq=>?_
 obtain⟨l,e⟩:=(P.mem q).mp hq
 rw[RP.none_of hp h l] at e
 cases e
theorem RP.step {n p:Nat}{f:Nat->Bool}{E Z O:List Cb}(hp:p<n)(fr:∀i,i<p->Free n f i)(n1:¬∀b,b<2^n->f b=true)(he:RP n (p+1) (both f p) E)(hz:RP n (p+1) (side f p false) Z)(ho:RP n (p+1) (side f p true) O) :
  RP n p f (E.map (none::·)++(Z.filter fun q=>!E.contains q).map (some false::·)++(O.filter fun q=>!E.contains q).map (some true::·)):=by
 have ed:n-p=n-(p+1)+1:=by omega
 have inE:∀q:Cb,q.length=n-(p+1)->(!E.contains q)=!uJ n (both f p) (ext (p+1) q):=fun q l=>by
  congr 1
  rw[zrz,List.contains_iff_mem,he.mem]
  exact⟨fun h=>h.2,fun h=>⟨l,h⟩⟩
 refine⟨fun q=>?_,?_,?_⟩
 ·rw[List.mem_append,List.mem_append,List.mem_map,List.mem_map,List.mem_map]
  constructor
  ·rintro ((⟨r,hr,rfl⟩ | ⟨r,hr,rfl⟩) | ⟨r,hr,rfl⟩)
   ·obtain⟨l,e⟩:=(he.mem r).mp hr
    exact⟨by rw[zq6,l,ed],by rw[Jf hp];exact e⟩
   ·obtain⟨h1,h2⟩:=List.mem_filter.mp hr
    obtain⟨l,e⟩:=(hz.mem r).mp h1
    rw[inE r l] at h2
    exact⟨by rw[zq6,l,ed],by rw[Ro hp,e,h2];rfl⟩
   ·obtain⟨h1,h2⟩:=List.mem_filter.mp hr
    obtain⟨l,e⟩:=(ho.mem r).mp h1
    rw[inE r l] at h2
    exact⟨by rw[zq6,l,ed],by rw[Ro hp,e,h2];rfl⟩
  ·rintro⟨l,e⟩
   cases q with
   | nil=>rw[ed] at l;cases l
   | cons s r =>
    have lr:r.length=n-(p+1):=by rw[zq6,ed] at l;omega
    cases s with
    | none=>rw[Jf hp] at e;exact .inl (.inl ⟨r,(he.mem r).mpr ⟨lr,e⟩,rfl⟩)
    | some v =>
     rw[Ro hp,zrm] at e
     cases v with
     | false=>exact .inl (.inr ⟨r,List.mem_filter.mpr ⟨(hz.mem r).mpr ⟨lr,e.1⟩,by rw[inE r lr];exact e.2⟩,rfl⟩)
     | true=>exact .inr ⟨r,List.mem_filter.mpr ⟨(ho.mem r).mpr ⟨lr,e.1⟩,by rw[inE r lr];exact e.2⟩,rfl⟩
 ·have one:∀{L:List Cb} (s:Option Bool),L.Pairwise ltC->(L.map (s::·)).Pairwise ltC:=fun {L} s h=>List.pairwise_map.mpr (h.imp fun h=>.inr ⟨rfl,h⟩)
  have two:∀{L M:List Cb} {s t:Option Bool},LR s<LR t->∀x∈L.map (s::·),∀y∈M.map (t::·),ltC x y:=fun {L M s t} h x hx y hy=>by
   obtain⟨a,_,rfl⟩:=List.mem_map.mp hx
   obtain⟨c,_,rfl⟩:=List.mem_map.mp hy
   exact .inl h
  refine List.pairwise_append.mpr ⟨List.pairwise_append.mpr ⟨one _ he.up,one _ (hz.up.filter _),two (by decide)⟩,one _ (ho.up.filter _),fun x hx y hy=>?_⟩
  rcases List.mem_append.mp hx with z | z
  ·exact two (by decide) x z y hy
  ·exact two (by decide) x z y hy
 ·rw[zq2,zq2,zqU,zqU,zqU]
  have l1:=zrt (fun q=>!E.contains q) Z
  have l2:=zrt (fun q=>!E.contains q) O
  rcases Nat.eq_or_lt_of_le (show 1<=n-p by omega) with z | z
  ·
   have e0:n-p-1=0:=by omega
   rw[e0]
   have ep:p+1=n:=by omega
   have cz:=Yg (n:=n) (f:=side f p false) fun i hi=>TJ hp fr i (by omega)
   have co:=Yg (n:=n) (f:=side f p true) fun i hi=>TJ hp fr i (by omega)
   have le:=he.len
   have lz:=hz.len
   have lo:=ho.len
   have e1:n-(p+1)-1=0:=by omega
   rw[e1] at le lz lo
   have zjg:side f p false 0=false\/side f p true 0=false:=by
    rcases h0:side f p false 0 with _ | _
    ·exact .inl rfl
    ·rcases h1:side f p true 0 with _ | _
     ·exact .inr rfl
     ·exfalso
      refine n1 fun b hb=>?_
      have e:=yE b p
      have a1:=cz b hb
      have a2:=co b hb
      rw[h0] at a1
      rw[h1] at a2
      cases e':b.testBit p with
      | false=>rw[e'] at e;rw[<-e];exact a1
      | true=>rw[e'] at e;rw[<-e];exact a2
   have eE:E=[]:=he.nil (by omega) fun b hb=>by
    show(side f p false b&&side f p true b)=false
    rw[cz b hb,co b hb]
    rcases zjg with z | z<;>rw[z]<;>simp
   have e3:E.length=0:=by rw[eE];rfl
   rw[Nat.pow_zero] at le lz lo ⊢
   rcases zjg with z | z
   ·have:Z.length=0:=by rw[hz.nil (by omega) fun b hb=>by rw[cz b hb,z]];rfl
    omega
   ·have:O.length=0:=by rw[ho.nil (by omega) fun b hb=>by rw[co b hb,z]];rfl
    omega
  ·have e:n-p-1=n-(p+1)-1+1:=by omega
   rw[e,Nat.pow_succ]
   have:=he.len
   have:=hz.len
   have:=ho.len
   omega
end Za
namespace L2
open PySem PySem.Spec PyProof.Rows
section
variable {K:Frag}{σ:St}{js:List Nat}{tt:TT}{te:TE}{H:Hp}{Qf:Addr->Hp->List V->Prop}
theorem zcP {a:Addr}{α:Type}(c:α->V){ps:List α}(p:α->Bool)(hq:zZ K H a (ps.map c))(hz:ps.length<=sizeLine)(hte:∀x H' Q,Q x H'->te (YM σ js (some x)) H' Q)
  (hs:∀(x:α) H' (Q:Bool->Hp->Prop),x∈ps->Same H H'->(∀H2,Same H H2->Q (p x) H2)->tt (YM σ js (some (c x))) H' Q)
  (hd:∀H' l,Same H H'->H' l=none->Qf l H' ((ps.filter p).map c)) :
  ∃W:Nat->Nat->List V->Hp->Prop,(∃m,W 0 m [] H)/\∀i m ys H,W i m ys H ->
   ((Kq K a).stop i H/\∀p,H p=none->Qf p H ys) \/
   ((Kq K a).go i H/\ys.length<sizeLine/\∀x H',(Kq K a).Pj i H x H'->tt (YM σ js (some x)) H' fun b H2 =>
    if b=true then te (YM σ js (some x)) H2 fun v H3=>∃m',m'<m/\W (i+1) m' (ys++[v]) H3 else ∃m',m'<m/\W (i+1) m' ys H2):=by
 have ln:(ps.map c).length=ps.length:=zqU _
 refine⟨fun i m ys H'=>m=ps.length-i/\i<=ps.length/\Same H H'/\ys=((ps.take i).filter p).map c,⟨_,by rw[Nat.sub_zero],zrh _,Same.refl _,rfl⟩,?_⟩
 rintro i m ys H1 ⟨rfl,hi,g,rfl⟩
 have hy:(((ps.take i).filter p).map c).length<=i:=by
  have:=zrt p (ps.take i)
  rw[zri] at this
  rw[zqU]
  omega
 by_cases hlt:i<ps.length
 ·have hb:ps[i]?=some ps[i]:=zqV hlt
  generalize ps[i]=b at hb
  have hv:(ps.map c)[i]?=some (c b):=by rw[zqW,hb];rfl
  refine .inr ⟨⟨_,_,g.seq hq,hv⟩,by omega,fun x H' y=>?_⟩
  obtain⟨e,y⟩:=y
  subst e
  have ex:=y _ (g.seq hq)
  rw[hv] at ex
  cases ex
  refine hs b _ _ (zqZ hb) g fun H2 g2=>?_
  cases e:p b with
  | true =>
   rw[if_pos rfl]
   refine hte _ _ _ ⟨_,Nat.sub_lt_sub_left hlt (Nat.lt_succ_self i),rfl,hlt,g2,?_⟩
   rw[zY hb,zrx,List.filter_cons_of_pos e,zq8]
   rfl
  | false =>
   rw[if_neg zqY]
   refine⟨_,Nat.sub_lt_sub_left hlt (Nat.lt_succ_self i),rfl,hlt,g2,?_⟩
   rw[zY hb,zrx,List.filter_cons_of_neg (by rw[e];exact zqY),List.filter_nil,List.append_nil]
 ·have e:i=ps.length:=by omega
  subst e
  refine .inl ⟨⟨_,g.seq hq,by rw[ln];exact zra _⟩,fun l hl=>?_⟩
  rw[zrn]
  exact hd _ l g hl
theorem zbM {a:Addr}{α:Type}(c e:α->V){ps:List α}(hq:zZ K H a (ps.map c))(hz:ps.length<=sizeLine)
  (hs:∀(x:α) H' (Q:V->Hp->Prop),x∈ps->Same H H'->(∀H3,Same H' H3->Q (e x) H3)->te (YM σ js (some (c x))) H' Q)
  (hd:∀H' p,Same H H'->H' p=none->Qf p H' (ps.map e)) :
  ∃W:Nat->Nat->List V->Hp->Prop,(∃m,W 0 m [] H)/\∀i m ys H,W i m ys H ->
   ((Kq K a).stop i H/\∀p,H p=none->Qf p H ys) \/
   ((Kq K a).go i H/\ys.length<sizeLine/\∀x H',(Kq K a).Pj i H x H'->Le (YM σ js (some x)) H' fun b H2 =>
    if b=true then te (YM σ js (some x)) H2 fun v H3=>∃m',m'<m/\W (i+1) m' (ys++[v]) H3 else ∃m',m'<m/\W (i+1) m' ys H2):=by
 refine Jb (xs:=ps.map c) (fun i ys H'=>Same H H'/\ys=(ps.take i).map e) ⟨Same.refl _,rfl⟩ (by rw[zqU];exact hz) ?_ ?_ ?_
 ·rintro i ys H' hi ⟨g,rfl⟩
  exact⟨g.seq hq,by rw[zqU,zri];omega⟩
 ·rintro i x ys H' Q hx ⟨g,rfl⟩ h
  rw[zqW] at hx
  cases e1:ps[i]? with
  | none=>rw[e1] at hx;cases hx
  | some y =>
   rw[e1] at hx
   cases hx
   refine hs y H' Q (zqZ e1) g fun H3 g3=>h _ _ ⟨g.trans g3,?_⟩
   rw[zY e1,zq8]
   rfl
 ·rintro ys H' p ⟨g,rfl⟩ hp
  rw[zqU,zrn]
  exact hd H' p g hp
end
end L2
namespace Za
open PySem L2 yc
abbrev cbV (q:Cb):V:=.str (cbS q)
inductive W2 (d:Nat)(vs:List V)(H:Hp)(Q:VK)(E9:XK):Prop
 | mk (N p n:Nat) (f:Nat->Bool) (_:vs=[.int (N:Nat),.int (p:Nat),.int (n:Nat)]) (_:n<=8) (_:p<=n) (_:n+1<=p+d) (_:zP n N f) (_:∀i,i<p->Free n f i) (_:∀(l:Addr) (qs:List Cb) (H':Hp),Same H H'->H l=none->H' l=some (.lst (qs.map cbV))->RP n p f qs->Q (.ref l) H'):W2 d vs H Q E9
inductive Jg (C:Addr)(vs:List V)(H:Hp)(Q:VK)(E9:XK):Prop
 | mk (b:Addr) (os:List Str) (rs:List Rm) (F:wM) (k:Nat) (_:vs=[.ref b,.int (k:Nat)]) (_:yu C H b os rs F) (_:k<rs.length) (_:∀(l:Addr) (qs:List Cb) (H':Hp),Same H H'->H l=none->H' l=some (.lst (qs.map cbV))->RP os.length 0 (tB rs k) qs->Q (.ref l) H'):Jg C vs H Q E9
theorem zhd {E:List Cb}{q:Cb}:inV (cbV q) (E.map cbV)=E.contains q:=by
 have e:E.map cbV=(E.map cbS).map V.str:=by rw[zrw];rfl
 rw[e,zit,zrz,List.contains_iff_mem,List.contains_iff_mem,List.mem_map]
 exact⟨fun⟨r,h,e⟩=>by rw[<-Ka e];exact h,fun h=>⟨q,h,rfl⟩⟩
theorem ze2 (E:List Cb):(E.map cbV).all WQ=true:=by
 rw[List.all_map,zro]
 exact fun _ _=>rfl
theorem RP.few {n p:Nat}{f:Nat->Bool}{qs:List Cb}(h:RP n p f qs)(n8:n<=8):qs.length<=2187:=by
 have a:=h.len
 have p3:3^(n-p-1)<=3^7:=zrq (by decide) (by omega)
 have e:3^7=2187:=rfl
 omega
theorem vQ {n:Nat}(h:n<=10000):n<=sizeLine:=zrg h (by decide)
theorem zhe {n i:Nat}{f g:Nat->Bool}(h:Free n f i)(k:Free n g i):Free n (fun b=>f b&&g b) i:=fun b hb v=>by
 show(f (zG b i v)&&g (zG b i v))=(f b&&g b)
 rw[h b hb v,k b hb v]
theorem zbN (s:Option Bool)(q:Cb){y:Str}(e:y=cbS [s]):V.str (y++cbS q)=cbV (s::q):=by rw[e,ziB];rfl
theorem nought:Str.ofString "0"=cbS [some false]:=by decide +kernel
theorem zny:Str.ofString "1"=cbS [some true]:=by decide +kernel
end Za
namespace L2
open PySem PySem.Spec PyProof.Rows
section
variable {X:Cx}
def zlN:V->List V->Hp->VK->Prop:=fun x vs H Q=>∃d kvs k v,x=.ref d/\vs=[kV k]/\H d=some (.dK kvs)/\tG kvs k=some v/\Q v (upd H d (.dK (Mt kvs k)))
theorem ziI:MtM X "dict.pop" zlN:=by
 intro pins s σ H x vs v us Q I rx rv h
 obtain⟨d,kvs,k,y,rfl,rfl,hH,hv,q⟩:=h
 cases rx
 obtain⟨u,rfl,ru⟩:=rv.one
 exact zln I hH ru hv (.inl rfl) fun w' s' I' r'=>⟨y,_,I',r',q⟩
end
def Itw (d:Addr)(o:Obj)(kvs:List (Key×V)):It :=
 ⟨fun i H=>H d=some (.Kg o (.dK kvs))/\i<kvs.length,fun i H x H'=>H'=H/\∃p,kvs[i]?=some p/\x=p.2,fun i H=>H d=some (.Kg o (.dK kvs))/\kvs.length<=i⟩
theorem zfH {P:Program}{w:World}{K:Frag}{tg:Expr}{h0:Heap}{d:Addr}{o:Obj}{vs0:List (Key×Value)}{kvs:List (Key×V)}{ep:Nat}(ho:h0.get? d=some o)(at0:h0.DictAt (z6 P w) d vs0 ep)(it:Addr):Turn P w K tg (Itw d o kvs) [it] it (fun i h=>h.IsValIter it d i kvs.length ep) where
 mem:=by simp
 obj:=fun i h st b hb=>by
  have e:b=it:=by simpa using hb
  subst e
  obtain⟨o,e,c,d⟩:=st
  exact⟨o,e,fun v z=>by rw[d] at z;cases z⟩
 keep:=fun i h h' st k=>by
  obtain⟨o,e,c,d⟩:=st
  exact⟨o,k it (by simp) o e,c,d⟩
 item:=by
  intro X hP hw hK hc i pins s σ H E I hf st hg
  subst hP hw hK
  obtain⟨hd,hi⟩:=hg
  obtain⟨ho1,hz,lo,vs,rv,hD⟩:=(show s.heap.get? d=some o/\kvs.length<=sizeLine/\(d==sysModules)=false/\∃vs,KV kvs vs/\s.heap.DictOf (z6 X.prog X.w) d vs from I.hok d _ hd)
  obtain⟨ep',hat⟩:=hD.dictAt
  obtain rfl:=zeZ ho ho1 at0 hat
  have hl:kvs.length=vs.length:=Paired.length rv
  obtain⟨f0,f1,f2,f3,f4,f5⟩:=hf it (by simp)
  obtain⟨q,hq,rq⟩:=zaG rv (zqV hi)
  rw[hl] at st
  refine wpAny_pyNext_values_item st hat (k:=q.1) (v:=q.2) hq fun h' st' sb=>?_
  rw[<-hl] at st'
  have I1:Inv X pins σ H { s with heap:=h' }:=I.turned (t':=s.toks) (fun b o hb e=>(sb.2 b hb).trans e) f0 f1 f3 f4 f5
  obtain⟨o,e,c,d⟩:=id st'
  exact⟨q.2,rfl,zcc (s:={ s with heap:=h' }) e c d (by decide) ⟨(kvs[i]).2,H,I1,rq.2,⟨rfl,kvs[i],zqV hi,rfl⟩,st',fun b hb=>(hf b hb).1⟩⟩
 done:=by
  intro X hP hw hK hc i pins s σ H E I hf st hg
  subst hP hw hK
  obtain⟨hd,hi⟩:=hg
  obtain⟨ho1,hz,lo,vs,rv,hD⟩:=(show s.heap.get? d=some o/\kvs.length<=sizeLine/\(d==sysModules)=false/\∃vs,KV kvs vs/\s.heap.DictOf (z6 X.prog X.w) d vs from I.hok d _ hd)
  obtain⟨ep',hat⟩:=hD.dictAt
  obtain rfl:=zeZ ho ho1 at0 hat
  have hl:kvs.length=vs.length:=Paired.length rv
  obtain⟨f0,f1,f2,f3,f4,f5⟩:=hf it (by simp)
  rw[hl] at st
  exact wpAny_pyNext_values_end (I.ok.hd hc) st hat (zru (by omega)) fun h' eb=>⟨rfl,I.turned (t':=s.toks) (fun b o hb e=>eb b o hb e) f0 f1 f3 f4 f5⟩
 self:=fun _ _ _ _ _ st h=>wpAny_pyIter_valiter st h
section
variable {X:Cx}{tg:Expr}
def zlP (tl:TE):TI:=fun σ H R=>tl σ H fun x H1=>∃d kvs,x=.ref d/\H1 d=some (.dK kvs)/\∀o,R (Itw d o kvs) (upd H1 d (.Kg o (.dK kvs)))
theorem ziJ {o:Expr}{tl:TE}{apos cpos:Pos}(ho:PE X o tl)
  (hbase:attributeBase o "values" X.env (eval o X.env)=eval o X.env:=by rfl)(hline:(apos.endLine==cpos.line)=true:=by rfl):PI X tg (.Call (.Attribute o "values" apos) [] [] cpos) (zlP tl):=by
 intro pins s σ H R I h
 refine wpAny_Call_method0_late hbase hline (wC (ho pins s σ H _ I h) fun v s1 ⟨x,H1,I1,r1,q1⟩=>?_)
 obtain⟨d,kvs,rfl,hd,q⟩:=q1
 obtain⟨h1,h2⟩:=zbf (T := "dict") I1 r1 (.inr (.inr (.inl ⟨rfl,.inl ⟨kvs,hd⟩⟩)))
 cases r1
 obtain⟨hz,lo,vs,rv,hD⟩:=(show kvs.length<=sizeLine/\(d==sysModules)=false/\∃vs,KV kvs vs/\s1.heap.DictOf (z6 X.prog X.w) d vs from I1.hok d _ hd)
 obtain⟨ep,hat⟩:=hD.dictAt
 obtain⟨o,es,ho,rest⟩:=id hat
 have hl:kvs.length=vs.length:=Paired.length rv
 refine⟨"dict", "dict.values", PySem.F.plainAttrs_dict,PySem.F.slot_dict_values,PySem.F.type_dict_values,h1,h2,Calls.callWith_builtin rfl (PySem.evalArgs_none ?_)⟩
 refine call_meetsIn PySem.F.slot_dict_values hD.typeIs PySem.F.entry_dict_values (PySem.F.args_dict_values_1 _) (meets_dict_values (z6 X.prog X.w) d lo) ⟨⟨vs,hD⟩,?_⟩
 have I2:=(I1.held hd ho).kept (t':=s1.toks) (h':=s1.heap.push { cls:=.type "dict_values", data:=.fields #[.ref d] }) fun b o e=>zq0 _ e
 have ho2:(s1.heap.push { cls:=.type "dict_values", data:=.fields #[.ref d] }).get? d=some o:=zq0 _ ho
 have zgT:(s1.heap.push { cls:=.type "dict_values", data:=.fields #[.ref d] }).DictAt (z6 X.prog X.w) d vs ep:=⟨o,es,ho2,rest⟩
 refine wpAny_pyIter_values (s:={ s1 with heap:=s1.heap.push { cls:=.type "dict_values", data:=.fields #[.ref d] } }) ⟨_,zrf _ rfl,rfl,rfl⟩ zgT ?_
 rw[<-hl]
 generalize s1.heap.push { cls:=.type "dict_values", data:=.fields #[.ref d] }=h2' at I2 ho2 zgT ⊢
 refine⟨h2'.objs.size,[h2'.objs.size],_,_,_,rfl,I2.kept (t':=s1.toks) fun b o e=>zq0 _ e,zfH ho2 zgT _,⟨_,zrf _ rfl,rfl,rfl⟩,fun b hb=>?_,q o⟩
 have e:b=h2'.objs.size:=by simpa using hb
 subst e
 exact I2.zcb (zra _) (I2.hok.fresh (zra _))
end
theorem ziK {d:Addr}{o:Obj}{kvs:List (Key×V)}{σ:St}{js:List Nat}{te:TE}{H:Hp}{Qf:Addr->Hp->List V->Prop}(Pv:Nat->List V->Hp->Prop)(h0:Pv 0 [] H)(hz:kvs.length<=sizeLine)
  (hl:∀i ys H,i<=kvs.length->Pv i ys H->H d=some (.Kg o (.dK kvs))/\ys.length<=i)
  (hs:∀i p ys H (Q:V->Hp->Prop),kvs[i]?=some p->Pv i ys H->(∀v H3,Pv (i+1) (ys++[v]) H3->Q v H3)->te (YM σ js (some p.2)) H Q)
  (hd:∀ys H p,Pv kvs.length ys H->H p=none->Qf p H ys) :
  ∃W:Nat->Nat->List V->Hp->Prop,(∃m,W 0 m [] H)/\∀i m ys H,W i m ys H ->
   ((Itw d o kvs).stop i H/\∀p,H p=none->Qf p H ys) \/
   ((Itw d o kvs).go i H/\ys.length<sizeLine/\∀x H',(Itw d o kvs).Pj i H x H'->Le (YM σ js (some x)) H' fun b H2 =>
    if b=true then te (YM σ js (some x)) H2 fun v H3=>∃m',m'<m/\W (i+1) m' (ys++[v]) H3 else ∃m',m'<m/\W (i+1) m' ys H2):=by
 refine⟨fun i m ys H=>m=kvs.length-i/\i<=kvs.length/\Pv i ys H,⟨kvs.length,by simp,zrh _,h0⟩,?_⟩
 rintro i m ys H ⟨rfl,hi,p⟩
 obtain⟨q,hy⟩:=hl i ys H hi p
 by_cases hlt:i<kvs.length
 ·refine .inr ⟨⟨q,hlt⟩,by omega,fun x H' y=>?_⟩
  obtain⟨e,pp,e2,rfl⟩:=y
  subst e
  dsimp only[Le]
  rw[if_pos rfl]
  exact hs i pp ys _ _ e2 p fun v H3 h3=>⟨_,by omega,rfl,hlt,h3⟩
 ·have e:i=kvs.length:=by omega
  subst e
  exact .inl ⟨⟨q,zra _⟩,fun pp hp=>hd ys H pp p hp⟩
end L2
namespace Za
open PySem L2 yc
def zab (fs:List (Nat->Bool))(b:Nat):Nat:=(fs.filter fun f=>f b).length
theorem zaU (fs:List (Nat->Bool))(f:Nat->Bool)(b:Nat):zab (fs++[f]) b=zab fs b+(f b).toNat:=by
 unfold zab
 rw[zrx,zq2]
 cases h:f b<;>simp[h]
inductive zbO (K:Frag)(vs:List V)(H:Hp)(Q:VK)(E9:XK):Prop
 | mk (l:Addr) (n:Nat) (Ns:List Nat) (fs:List (Nat->Bool)) (_:vs=[.ref l]) (_:zZ K H l (Ns.map fun N=>V.int (N:Nat))) (_:Paired (zP n) Ns fs) (_:∀(R:Nat),zP n R (fun b=>decide (zab fs b=1))->Q (.int (R:Nat)) H):zbO K vs H Q E9
def sgn (q:Cb):Nat:=(q.filter Option.isSome).length
theorem zbP:∀{q:Cb} {i:Nat} {v:Bool},q[i]?=some (some v)->sgn (q.set i none)+1=sgn q
 | [],i,v,h=>by cases h
 | s::q,0,v,h=>by
  cases h
  rfl
 | s::q,i+1,v,h=>by
  have ih:=zbP (q:=q) (i:=i) (v:=v) h
  show sgn (s::q.set i none)+1=sgn (s::q)
  unfold sgn at ih ⊢
  rw[List.filter_cons,List.filter_cons]
  cases s with
  | none=>exact ih
  | some u=>show _+1+1=_+1;rw[ih]
theorem zhf {q:Cb}{i b:Nat}(h:Yx q b=true):Yx (q.set i none) b=true:=by
 rw[X5] at h ⊢
 intro j v e
 rw[List.getElem?_set] at e
 split at e
 ·split at e<;>cases e
 ·exact h j v e
theorem zhg {n:Nat}{f:Nat->Bool}{b:Nat}:∀(m:Nat) (q:Cb),sgn q<=m->q.length=n->inB n f q=true->Yx q b=true->∃r,r.length=n/\uJ n f r=true/\Yx r b=true:=by
 intro m
 induction m with
 | zero =>
  intro q hs hl hi hb
  refine⟨q,hl,(xP (p:=0)).mpr ⟨hi,fun i v e=>?_⟩,hb⟩
  have:=zbP e
  omega
 | succ m ih =>
  intro q hs hl hi hb
  by_cases h:∀i v,q[i]?=some (some v)->inB n f (q.set i none)=false
  ·exact⟨q,hl,(xP (p:=0)).mpr ⟨hi,h⟩,hb⟩
  ·obtain⟨i,h⟩:=Classical.not_forall.mp h
   obtain⟨v,h⟩:=Classical.not_forall.mp h
   obtain⟨e,h⟩:=Classical.not_imp.mp h
   have:=zbP e
   exact ih (q.set i none) (by omega) (by rw[List.length_set];exact hl) (by simpa using h) (zhf hb)
def zfI (n b:Nat):Cb:=(List.range n).map fun i=>some (b.testBit i)
theorem ziL {n b i:Nat}{v:Bool}(h:(zfI n b)[i]?=some (some v)):i<n/\v=b.testBit i:=by
 unfold zfI at h
 rw[zqW] at h
 rcases Nat.lt_or_ge i n with z | z
 ·rw[List.getElem?_range z] at h
  cases h
  exact⟨z,rfl⟩
 ·rw[zru (by rw[zrc];exact z)] at h
  cases h
theorem zfJ {n:Nat}{f:Nat->Bool}{b:Nat}(hb:b<2^n)(h:f b=true):∃r,r.length=n/\uJ n f r=true/\Yx r b=true:=by
 refine zhg (sgn (zfI n b)) (zfI n b) (zra _) (by unfold zfI;rw[zqU,zrc]) ?_ ?_
 ·rw[Y4]
  intro c hc e
  rw[X5] at e
  have:c=b:=Zk hc hb fun i hi=>e i (b.testBit i) (by unfold zfI;rw[zqW,List.getElem?_range hi];rfl)
  rw[this];exact h
 ·rw[X5]
  intro i v e
  exact(ziL e).2.symm
theorem RP.cov {n:Nat}{f:Nat->Bool}{qs:List Cb}(h:RP n 0 f qs){b:Nat}(hb:b<2^n):(∃c∈qs,Yx c b=true)↔f b=true:=by
 constructor
 ·rintro⟨c,hc,e⟩
  obtain⟨_,p⟩:=(h.mem c).mp hc
  exact Y4.mp (xP.mp p).1 b hb e
 ·intro e
  obtain⟨r,l,p,c⟩:=zfJ hb e
  exact⟨r,(h.mem r).mpr ⟨l,p⟩,c⟩
def Own (ks:List Cb)(c:Cb)(b:Nat):Prop:=Yx c b=true/\∀d∈ks,d≠c->Yx d b=false
theorem own_one:∀{ks:List Cb} {c:Cb} {b:Nat},ks.Nodup->c∈ks->Yx c b=true->(zab (ks.map Yx) b=1↔Own ks c b):=by
 intro ks c b nd hc hb
 have e:zab (ks.map Yx) b=(ks.filter fun d=>Yx d b).length:=by
  unfold zab
  rw[List.filter_map,zqU]
  rfl
 rw[e]
 have mc:c∈ks.filter fun d=>Yx d b:=List.mem_filter.mpr ⟨hc,hb⟩
 constructor
 ·intro h
  obtain⟨x,hx⟩:=List.length_eq_one_iff.mp h
  refine⟨hb,fun d hd ne=>?_⟩
  cases e2:Yx d b with
  | false=>rfl
  | true =>
   exfalso
   have md:d∈ks.filter fun d=>Yx d b:=List.mem_filter.mpr ⟨hd,e2⟩
   rw[hx,List.mem_singleton] at md mc
   exact ne (md.trans mc.symm)
 ·rintro⟨_,h⟩
  have nl:(ks.filter fun d=>Yx d b).Nodup:=nd.filter _
  have al:∀d∈ks.filter (fun d=>Yx d b),d=c:=fun d hd=>by
   obtain⟨h1,h2⟩:=List.mem_filter.mp hd
   by_cases z:d=c
   ·exact z
   ·rw[h d h1 z] at h2;cases h2
  generalize ks.filter (fun d=>Yx d b)=L at mc nl al
  match L,mc,nl,al with
  | [x],_,_,_=>rfl
  | x::y::L,_,nl,al =>
   exfalso
   have e1:=al x zre
   have e2:=al y (zq5 _ zre)
   exact(List.nodup_cons.mp nl).1 (by rw[e1,<-e2];exact zre)
theorem zhh (n:Nat)(f:Nat->Bool):∃N,zP n N f:=by
 have:∀m,∃N:Nat,∀b,N.testBit b=(decide (b<m)&&f b):=by
  intro m
  induction m with
  | zero=>exact⟨0,fun b=>by simp⟩
  | succ m ih =>
   obtain⟨N,h⟩:=ih
   refine⟨N|||(if f m then 2^m else 0),fun b=>?_⟩
   rw[Nat.testBit_or,h b]
   by_cases e:b=m
   ·subst e
    cases hf:f b with
    | false=>simp
    | true=>simp[Nat.testBit_two_pow_self]
   ·have e1:decide (b<m+1)=decide (b<m):=decide_eq_decide.mpr (by omega)
    rw[e1]
    have e2:(if f m=true then 2^m else 0).testBit b=false:=by
     split
     ·rw[Nat.testBit_two_pow];exact decide_eq_false (Ne.symm e)
     ·exact Nat.zero_testBit _
    rw[e2,Bool.or_false]
 exact this (2^n)
structure Cov (n:Nat)(f:Nat->Bool)(ks:List Cb)(rows:List (List Bool)):Prop where
 mem:∀c∈ks,c.length=n/\uJ n f c=true
 up:ks.Pairwise ltC
 cov:∀b,b<2^n->((∃c∈ks,Yx c b=true)↔f b=true)
 len:rows.length=ks.length
 own:∀(i:Nat) c r,ks[i]?=some c->rows[i]?=some r->r.length=n/\Own ks c (wJ r)
structure Whi (n:Nat)(f:Nat->Bool)(qs:List Cb)(i:Nat)(ks:List Cb):Prop where
 dn:∃dn,ks=dn++qs.drop i/\dn.Sublist (qs.take i)/\∀c∈dn,∃b,b<2^n/\Own ks c b
 cov:∀b,b<2^n->((∃c∈ks,Yx c b=true)↔f b=true)
theorem Whi.start {n:Nat}{f:Nat->Bool}{qs:List Cb}(P:RP n 0 f qs):Whi n f qs 0 qs :=
 ⟨⟨[],rfl,List.Sublist.refl _,fun c h=>by cases h⟩,fun b hb=>P.cov hb⟩
theorem Own.less {ks ls:List Cb}{c:Cb}{b:Nat}(h:Own ks c b)(s:∀d∈ls,d∈ks):Own ls c b:=⟨h.1,fun d hd=>h.2 d (s d hd)⟩
theorem Whi.sub {n:Nat}{f:Nat->Bool}{qs ks:List Cb}{i:Nat}(h:Whi n f qs i ks):ks.Sublist qs:=by
 obtain⟨dn,e,s,_⟩:=h.dn
 rw[e]
 have:=s.append (List.Sublist.refl (qs.drop i))
 rwa [List.take_append_drop] at this
theorem Whi.nd {n:Nat}{f:Nat->Bool}{qs ks:List Cb}{i:Nat}(h:Whi n f qs i ks)(P:RP n 0 f qs):ks.Nodup:=h.sub.nodup P.nd
theorem Whi.has {n:Nat}{f:Nat->Bool}{qs ks:List Cb}{i:Nat}{c:Cb}(h:Whi n f qs i ks)(e:qs[i]?=some c):c∈ks:=by
 obtain⟨dn,rfl,_⟩:=h.dn
 obtain⟨hi,rfl⟩:=zqX.mp e
 rw[List.drop_eq_getElem_cons hi]
 exact zrb _ zre
theorem Whi.stay {n:Nat}{f:Nat->Bool}{qs ks:List Cb}{i:Nat}{c:Cb}(h:Whi n f qs i ks)(e:qs[i]?=some c)(o:∃b,b<2^n/\Own ks c b):Whi n f qs (i+1) ks:=by
 obtain⟨dn,e1,s,hd⟩:=h.dn
 obtain⟨hi,rfl⟩:=zqX.mp e
 refine⟨⟨dn++[qs[i]],?_,?_,fun d hd'=>?_⟩,h.cov⟩
 ·rw[e1,List.drop_eq_getElem_cons hi,List.append_assoc]
  rfl
 ·rw[zY e]
  exact s.append (List.Sublist.refl _)
 ·rcases List.mem_append.mp hd' with z | z
  ·exact hd d z
  ·rw[List.mem_singleton.mp z];exact o
theorem Whi.gone {n:Nat}{f:Nat->Bool}{qs ks:List Cb}{i:Nat}{c:Cb}(P:RP n 0 f qs)(h:Whi n f qs i ks)(e:qs[i]?=some c)(o:∀b,b<2^n->¬Own ks c b):Whi n f qs (i+1) (ks.filter fun d=>decide (d≠c)):=by
 have nd:=h.nd P
 have hc:=h.has e
 obtain⟨dn,e1,s,hd⟩:=h.dn
 obtain⟨hi,rfl⟩:=zqX.mp e
 have e2:ks=dn++qs[i]::qs.drop (i+1):=by rw[e1,List.drop_eq_getElem_cons hi]
 have n1:∀d∈dn,d≠qs[i]:=fun d hd' z=>by
  rw[e2] at nd
  exact(List.nodup_append.mp nd).2.2 d hd' _ zre z
 have n2:∀d∈qs.drop (i+1),d≠qs[i]:=fun d hd' z=>by
  rw[e2] at nd
  have:=(List.nodup_cons.mp (List.nodup_append.mp nd).2.1).1
  rw[z] at hd'
  exact this hd'
 have ef:ks.filter (fun d=>decide (d≠qs[i]))=dn++qs.drop (i+1):=by
  rw[e2,zrx,List.filter_cons_of_neg (by simp),List.filter_eq_self.mpr fun d hd'=>decide_eq_true (n1 d hd'),List.filter_eq_self.mpr fun d hd'=>decide_eq_true (n2 d hd')]
 have sub:∀d∈ks.filter (fun d=>decide (d≠qs[i])),d∈ks:=fun d hd'=>(List.mem_filter.mp hd').1
 refine⟨⟨dn,ef,?_,fun d hd'=>?_⟩,fun b hb=>?_⟩
 ·rw[zY e]
  exact List.Sublist.trans s (List.sublist_append_left _ _)
 ·obtain⟨b,h1,h2⟩:=hd d hd'
  exact⟨b,h1,h2.less sub⟩
 ·rw[<-h.cov b hb]
  constructor
  ·rintro⟨d,h1,h2⟩
   exact⟨d,sub d h1,h2⟩
  ·rintro⟨d,h1,h2⟩
   by_cases z:d=qs[i]
   ·subst z
    have y:=o b hb
    have:∃d,¬(d∈ks->d≠qs[i]->Yx d b=false):=Classical.not_forall.mp fun w=>y ⟨h2,w⟩
    obtain⟨d,hd'⟩:=this
    obtain⟨m1,hd'⟩:=Classical.not_imp.mp hd'
    obtain⟨m2,hd'⟩:=Classical.not_imp.mp hd'
    exact⟨d,List.mem_filter.mpr ⟨m1,decide_eq_true m2⟩,by simpa using hd'⟩
   ·exact⟨d,List.mem_filter.mpr ⟨h1,decide_eq_true z⟩,h2⟩
theorem Whi.done {n:Nat}{f:Nat->Bool}{qs ks:List Cb}(h:Whi n f qs qs.length ks):∀c∈ks,∃b,b<2^n/\Own ks c b:=by
 obtain⟨dn,e,_,hd⟩:=h.dn
 rw[List.drop_length,List.append_nil] at e
 subst e
 exact hd
def kvT (T:Cb->Nat)(c:Cb):Key×V:=(.inr (cbS c),.int (T c:Nat))
theorem zbQ {T:Cb->Nat}:∀{ks:List Cb} {c:Cb},c∈ks->tG (ks.map (kvT T)) (.inr (cbS c))=some (.int (T c:Nat))
 | d::ks,c,h=>by
  rw[zrj]
  by_cases z:d=c
  ·subst z
   exact wK rfl
  ·rw[wg (fun e=>z (Ka (Sum.inr.inj e)))]
   exact zbQ ((List.mem_cons.mp h).resolve_left (Ne.symm z))
theorem zcQ {T:Cb->Nat}:∀{ks:List Cb} {c:Cb},c∉ks->tG (ks.map (kvT T)) (.inr (cbS c))=none
 | [],c,_=>rfl
 | d::ks,c,h=>by
  rw[zrj,wg (fun e=>h (by rw[Ka (Sum.inr.inj e)];exact zre))]
  exact zcQ fun z=>h (zq5 _ z)
theorem zhi {T:Cb->Nat}{ks:List Cb}{c:Cb}:Mt (ks.map (kvT T)) (.inr (cbS c))=(ks.filter fun d=>decide (d≠c)).map (kvT T):=by
 unfold Mt
 rw[List.filter_map]
 congr 1
 refine List.filter_congr fun d _=>?_
 show decide ((kvT T d).1≠Sum.inr (cbS c))=_
 refine decide_eq_decide.mpr ⟨fun h e=>h (by rw[e];rfl),fun h e=>h (Ka (Sum.inr.inj e))⟩
inductive zbR (C:Addr)(vs:List V)(H:Hp)(Q:VK)(E9:XK):Prop
 | mk (b:Addr) (os:List Str) (rs:List Rm) (F:wM) (k:Nat) (_:vs=[.ref b,.int (k:Nat)]) (_:yu C H b os rs F) (_:k<rs.length) (_:∀(t cl rl:Addr) (ks:List Cb) (ps:List Addr) (rows:List (List Bool)) (H':Hp),Same H H'->H t=none->H cl=none->H rl=none->cl≠rl->H' t=some (.tup [.ref cl,.ref rl])->H' cl=some (.lst (ks.map cbV))->H' rl=some (.lst (ps.map V.ref))->Paired (fun p r=>H p=none/\p≠cl/\p≠rl/\H' p=some (.lst (YT r))) ps rows->ps.Nodup->Cov os.length (tB rs k) ks rows->ks.length<=2187->Q (.ref t) H'):zbR C vs H Q E9
theorem zlQ (n:Nat)(rs:List Rm):hiN n rs<=rs.length:=zrt _ _
inductive zd6 (C:Addr)(vs:List V)(H:Hp)(Q:VK)(E9:XK):Prop
 | mk (b l:Addr) (os:List Str) (rs:List Rm) (F:wM) (qs:List Cb) (_:vs=[.ref b,.ref l]) (_:yu C H b os rs F) (_:rs.length<=1000000) (_:H l=some (.lst (qs.map cbV))) (_:¬F l) (_:∀q∈qs,q.length=os.length) (_:qs.length<=2187) (_:∀(k:Nat) (rs':List Rm) (H':Hp),zgI F H H'->yW H H'->yu C H' b os rs' F->wL rs rs'->Means rs' k (fun r=>qs.any fun c=>Yx c (bits r os.length))->hiN os.length rs'<=hiN os.length rs+126*qs.length->Q (.int (k:Nat)) H'):zd6 C vs H Q E9
theorem W0.leave {C:Addr}{H H':Hp}{b:Addr}{os:List Str}{m:Nat}{rs:List Rm}{F:wM}(h:W0 C (zbH F H) b os m H' rs F):zgI F H H':=fun x o e n=>h.same x o (Np e n)
theorem W0.tups {C:Addr}{H H':Hp}{b:Addr}{os:List Str}{m:Nat}{rs rs0:List Rm}{F:wM}(hB:yu C H b os rs0 F)(h:W0 C (zbH F H) b os m H' rs F):yW H H':=fun p xs e=>h.same p _ (ziG hB p xs e)
theorem zcR {n:Nat}{rs:List Rm}{k:Nat}{ks:List Cb}{rows:List (List Bool)}(B:Bk n rs)(hk:k<rs.length)(h:Cov n (tB rs k) ks rows)(r:Row):(ks.any fun c=>Yx c (bits r n))=yes rs k r:=by
 rw[<-K5 B hk r,zrz,List.any_eq_true]
 exact h.cov _ (yc.v9 _ _)
theorem size_le {n:Nat}{rs:List Rm}(B:Bk n rs){k t:Nat}(hk:k<rs.length)(ht:t<rs.length)(e:∀r,yes rs t r=!yes rs k r){ms ns:List Int}(h1:YX rs k ms)(h2:YX rs t ns):ms.length<=ns.length:=by
 have ex:∀j,∃i,Reach rs k j->Reach rs t i/\i<rs.length/\∀r,yes rs i r=!yes rs j r:=fun j=>by
  by_cases h:Reach rs k j
  ·obtain⟨ρ,hρ⟩:=zdZ B hk h
   obtain⟨i,a1,a2,_,a3⟩:=zd0 B ρ (ZM n rs j) t t (zra _) ht
   exact⟨i,fun _=>⟨a1,a2,fun r=>by rw[a3,e,hρ]⟩⟩
  ·exact⟨0,fun z=>absurd z h⟩
 obtain⟨g,hg⟩:=Classical.axiomOfChoice ex
 have lt:∀j,Reach rs k j->j<rs.length:=fun j h=>h.lt B hk
 have nd:(ms.map fun x=>((g x.toNat:Nat):Int)).Nodup:=by
  rw[List.Nodup,List.pairwise_map]
  refine List.Pairwise.imp_of_mem (fun {a b} ha hb hl z=>?_) h1.up
  obtain⟨j,rfl,rj⟩:=(h1.mem a).mp ha
  obtain⟨j',rfl,rj'⟩:=(h1.mem b).mp hb
  have z:g j=g j':=by
   have z:((g j:Nat):Int)=((g j':Nat):Int):=z
   omega
  have e1:=(hg j rj).2.2
  have e2:=(hg j' rj').2.2
  have:j=j':=uN B (max j j') j j' ⟨Nat.le_max_left _ _,Nat.le_max_right _ _⟩ (lt j rj) (lt j' rj') fun r=>by
   have a:=e1 r
   have b:=e2 r
   rw[z,b] at a
   cases h3:yes rs j r<;>cases h4:yes rs j' r<;>rw[h3,h4] at a<;>first | rfl | cases a
  subst this
  omega
 have:=sub_len nd fun x hx=>by
  obtain⟨y,hy,rfl⟩:=List.mem_map.mp hx
  obtain⟨j,rfl,rj⟩:=(h1.mem y).mp hy
  exact(h2.mem _).mpr ⟨g j,rfl,(hg j rj).1⟩
 rwa [zqU] at this
theorem zfK {n:Nat}{rs:List Rm}(B:Bk n rs){k t:Nat}(hk:k<rs.length)(ht:t<rs.length)(e:∀r,yes rs t r=!yes rs k r){ms ns:List Int}(h1:YX rs k ms)(h2:YX rs t ns):ms.length=ns.length :=
 Nat.le_antisymm (size_le B hk ht e h1 h2) (size_le B ht hk (fun r=>by rw[e];exact(Bool.not_not _).symm) h2 h1)
def csB (c:Cb)(i:Nat)(r:Row):Bool:=(List.range i).all fun j=>match c.getD j none with
 | none=>true
 | some v=>r j==v
theorem Jh (c:Cb)(i:Nat)(r:Row):csB c (i+1) r=(csB c i r&&match c.getD i none with | none=>true | some v=>r i==v):=by
 unfold csB
 rw[List.range_succ,List.all_append,List.all_cons,List.all_nil,Bool.and_true]
theorem zks {c:Cb}{r:Row}:csB c c.length r=Yx c (bits r c.length):=by
 unfold csB Yx
 rw[zrz,zro,zro]
 have:∀j,j∈List.range c.length->((match c.getD j none with | none=>true | some v=>r j==v)=match c.getD j none with | none=>true | some v=>(bits r c.length).testBit j==v):=fun j hj=>by
  rw[Zj r (List.mem_range.mp hj)]
 exact⟨fun h j hj=>(this j hj).symm.trans (h j hj),fun h j hj=>(this j hj).trans (h j hj)⟩
inductive TQ (K:Frag)(vs:List V)(H:Hp)(Q:VK)(E9:XK):Prop
 | mk (ol:Addr) (os:List Str) (c:Cb) (_:vs=[.ref ol,cbV c]) (_:zZ K H ol (os.map V.str)) (_:Sg os) (_:c.length=os.length) (_:∀(p:Addr) (s:Sn) (H':Hp),Same H H'->Tp H' s p->s.RN os->s.count<=200->s.depth<=24->(∀r,s.val (zgJ os r)=Yx c (bits r os.length))->Q (.ref p) H'):TQ K vs H Q E9
theorem zlR {os:List Str}{i:Nat}{x:Str}(nd:os.Nodup)(h:os[i]?=some x):ix os x=i:=by
 obtain⟨_,a,b⟩:=Vm (zqZ h)
 obtain⟨hi,e⟩:=zqX.mp h
 obtain⟨hj,e'⟩:=zqX.mp b
 exact(List.getElem_inj nd).mp (e'.trans e.symm)
theorem zfL (r:List Bool):Qm (wJ r)=Uu r:=funext fun i=>by
 show(wJ r).testBit i=r.getD i false
 rw[Ui,zq7]
theorem ze3 {n:Nat}{rs:List Rm}{k:Nat}{ks:List Cb}{rows:List (List Bool)}(h:Cov n (tB rs k) ks rows){j:Nat}{r:List Bool}(e:rows[j]?=some r):r.length=n/\yes rs k (Uu r)=true:=by
 have hj:j<rows.length:=(zqX.mp e).1
 obtain⟨c,hc⟩:∃c,ks[j]?=some c:=⟨_,zqV (by rw[<-h.len];exact hj)⟩
 obtain⟨l,o⟩:=h.own j c r hc e
 refine⟨l,?_⟩
 have lt:=Ra r
 rw[l] at lt
 have y:=(h.cov _ lt).mp ⟨c,zqZ hc,o.1⟩
 rw[<-zfL]
 exact y
end Za
namespace K87
open PySem L2
def top (i:Nat):Stmt:=PySem.Challenge.pw_decidebook_k87_whole_covers_entered.main.body.getD i (.Pass ⟨0,0,0,0⟩)
abbrev Ji:Stmt:=top 10
abbrev wD:List Str:=["marks"]
theorem zcS:zF ["marks"] wD (zq Ji):=fsc (by decide +kernel)
abbrev Mz:Stmt:=top 11
abbrev wu:List Str:=["place", "marks"]
theorem Zo:zF ["place", "marks", "half", "table", "further"] wu (zq Mz):=fsc (by decide +kernel)
abbrev zaV:Stmt:=top 12
abbrev Z4:List Str:=["table", "place", "marks"]
theorem Rp:zF ["table", "place", "marks", "ones", "noughts"] Z4 (zq zaV):=fsc (by decide +kernel)
abbrev zaW:Stmt:=top 13
abbrev tX:List Str:=["table", "place", "value", "marks"]
theorem Rq:zF ["table", "place", "value", "marks", "ones", "kept"] tX (zq zaW):=fsc (by decide +kernel)
abbrev Jj:Stmt:=top 14
abbrev Vt:List Str:=["table", "place", "marks"]
theorem zcT:zF ["table", "place", "marks"] Vt (zq Jj):=fsc (by decide +kernel)
abbrev Sv:Stmt:=top 15
abbrev uO:List Str:=["table", "marks"]
theorem Xq:zF ["table", "marks", "place"] uO (zq Sv):=fsc (by decide +kernel)
abbrev zaX:Stmt:=top 16
abbrev Xg:List Str:=["table", "other"]
theorem zd7:zF ["table", "other"] Xg (zq zaX):=fsc (by decide +kernel)
abbrev Sw:Stmt:=top 17
abbrev Yh:List Str:=["places", "values", "marks"]
theorem wN:zF ["places", "values", "marks", "table", "place", "value", "ones"] Yh (zq Sw):=fsc (by decide +kernel)
abbrev Uy:Stmt:=top 18
abbrev Zq:List Str:=["table", "places", "marks"]
theorem xV:zF ["table", "places", "marks", "values", "place", "low", "value"] Zq (zq Uy):=fsc (by decide +kernel)
abbrev MF:Stmt:=top 19
abbrev X6:List Str:=["table", "marks"]
theorem zbS:zF ["table", "marks"] X6 (zq MF):=fsc (by decide +kernel)
abbrev MJ:Stmt:=top 20
abbrev Yu:List Str:=["word", "one", "other", "every"]
theorem uc:zF ["word", "one", "other", "every", "table"] Yu (zq MJ):=fsc (by decide +kernel)
abbrev zaY:Stmt:=top 26
abbrev Xh:List Str:=["letter"]
theorem zd8:zF ["letter"] Xh (zq zaY):=fsc (by decide +kernel)
abbrev Rr:Stmt:=top 27
abbrev Vu:List Str:=["order"]
theorem zcU:zF ["order"] Vu (zq Rr):=fsc (by decide +kernel)
abbrev Jk:Stmt:=top 28
abbrev Uz:List Str:=["order", "row"]
theorem zfM:zF ["order", "row"] Uz (zq Jk):=fsc (by decide +kernel)
abbrev QC:Stmt:=top 29
abbrev ud:List Str:=["sentence"]
theorem zac:zF ["sentence"] ud (zq QC):=fsc (by decide +kernel)
abbrev Jl:Stmt:=top 30
abbrev vR:List Str:=["sentence"]
theorem zcV:zF ["sentence"] vR (zq Jl):=fsc (by decide +kernel)
abbrev UG:Stmt:=top 31
abbrev vU:List Str:=["level"]
theorem Yy:zF ["level", "found", "sentence"] vU (zq UG):=fsc (by decide +kernel)
abbrev X7:Stmt:=top 32
abbrev X8:List Str:=["some"]
theorem QD:zF ["some", "shape"] X8 (zq X7):=fsc (by decide +kernel)
abbrev Wo:Stmt:=top 33
abbrev Yi:List Str:=["some"]
theorem xQ:zF ["some", "level", "deep", "tuples"] Yi (zq Wo):=fsc (by decide +kernel)
abbrev VL:Stmt:=top 34
abbrev uV:List Str:=["order"]
theorem Nq:zF ["order"] uV (zq VL):=fsc (by decide +kernel)
abbrev Xr:Stmt:=top 35
abbrev vg:List Str:=["some"]
theorem T6:zF ["some"] vg (zq Xr):=fsc (by decide +kernel)
abbrev W3:Stmt:=top 36
abbrev wO:List Str:=["order", "letter"]
theorem QF:zF ["order", "letter"] wO (zq W3):=fsc (by decide +kernel)
abbrev Wa:Stmt:=top 37
abbrev vL:List Str:=["order", "sentence"]
theorem Xu:zF ["order", "sentence", "letter"] vL (zq Wa):=fsc (by decide +kernel)
abbrev Sx:Stmt:=top 38
abbrev Yj:List Str:=["order", "row"]
theorem Jm:zF ["order", "row"] Yj (zq Sx):=fsc (by decide +kernel)
abbrev MK:Stmt:=top 39
abbrev Wb:List Str:=["sentence"]
theorem Y5:zF ["sentence", "found", "level"] Wb (zq MK):=fsc (by decide +kernel)
abbrev QG:Stmt:=top 40
abbrev Y6:List Str:=["sentence"]
theorem Wq:zF ["sentence", "found", "part"] Y6 (zq QG):=fsc (by decide +kernel)
abbrev Rt:Stmt:=top 41
abbrev Z5:List Str:=["sentence", "order"]
theorem Wc:zF ["sentence", "order", "word", "marks", "tables"] Z5 (zq Rt):=fsc (by decide +kernel)
abbrev UJ:Stmt:=top 42
abbrev wQ:List Str:=["word", "one", "other", "every"]
theorem Li:zF ["word", "one", "other", "every"] wQ (zq UJ):=fsc (by decide +kernel)
abbrev MN:Stmt:=inClass (top 44) 0
abbrev Wd:List Str:=["self", "order"]
theorem QJ:zF ["self", "order", "marks"] Wd (zq MN):=fsc (by decide +kernel)
abbrev QK:Stmt:=inClass (top 44) 1
abbrev vh:List Str:=["self"]
theorem zad:zF ["self"] vh (zq QK):=fsc (by decide +kernel)
abbrev QL:Stmt:=inClass (top 44) 3
abbrev Zr:List Str:=["self", "sentence"]
theorem zae:zF ["self", "sentence"] Zr (zq QL):=fsc (by decide +kernel)
abbrev zcW:Stmt:=inClass (top 44) 4
abbrev zcX:List Str:=["self", "number"]
abbrev VN:Stmt:=inClass (top 44) 5
abbrev uW:List Str:=["self", "number", "row"]
theorem uf:zF ["self", "number", "row", "place", "value"] uW (zq VN):=fsc (by decide +kernel)
abbrev QM:Stmt:=inClass (top 44) 6
abbrev Y7:List Str:=["self", "number"]
theorem Yk:zF ["self", "number", "found", "waiting", "here"] Y7 (zq QM):=fsc (by decide +kernel)
abbrev YK:Stmt:=inClass (top 44) 7
abbrev z7:List Str:=["self", "number"]
theorem UL:zF ["self", "number"] z7 (zq YK):=fsc (by decide +kernel)
abbrev VP:Stmt:=inClass (top 44) 8
abbrev vp:List Str:=["self", "number"]
theorem Nr:zF ["self", "number"] vp (zq VP):=fsc (by decide +kernel)
abbrev QS:Stmt:=inClass (top 44) 9
abbrev ug:List Str:=["self", "number", "value"]
theorem zaf:zF ["self", "number", "value"] ug (zq QS):=fsc (by decide +kernel)
abbrev Jo:Stmt:=inClass (top 44) 10
abbrev Vv:List Str:=["self", "number", "place", "value"]
theorem zcY:zF ["self", "number", "place", "value"] Vv (zq Jo):=fsc (by decide +kernel)
abbrev VR:Stmt:=inClass (top 44) 11
abbrev xq:List Str:=["self", "number"]
theorem Nt:zF ["self", "number"] xq (zq VR):=fsc (by decide +kernel)
abbrev W4:Stmt:=inClass (top 44) 12
abbrev yG:List Str:=["self", "table"]
theorem wz:zF ["self", "table", "marks", "place", "low", "high"] yG (zq W4):=fsc (by decide +kernel)
abbrev zaZ:Stmt:=top 46
abbrev TV:List Str:=["book", "room"]
theorem zd9:zF ["book", "room"] TV (zq zaZ):=fsc (by decide +kernel)
abbrev W5:Stmt:=top 48
abbrev TX:List Str:=["cube"]
theorem Jp:zF ["cube", "places"] TX (zq W5):=fsc (by decide +kernel)
abbrev zcZ:Stmt:=top 49
abbrev QT:List Str:=["book", "room"]
theorem zfN:zF ["book", "room"] QT (zq zcZ):=fsc (by decide +kernel)
abbrev wF:Stmt:=top 50
abbrev vA:List Str:=["table", "place", "marks"]
theorem wR:zF ["table", "place", "marks", "low", "high", "either", "noughts", "ones"] vA (zq wF):=fsc (by decide +kernel)
abbrev zbT:Stmt:=top 51
abbrev Kd:List Str:=["book", "room"]
theorem UW:zF ["book", "room", "kept", "cube", "own"] Kd (zq zbT):=fsc (by decide +kernel)
abbrev Sy:Stmt:=top 52
abbrev Yl:List Str:=["tables"]
theorem wU:zF ["tables", "seen", "again", "table"] Yl (zq Sy):=fsc (by decide +kernel)
abbrev Xv:Stmt:=top 54
abbrev vV:List Str:=["word"]
theorem Lj:zF ["word"] vV (zq Xv):=fsc (by decide +kernel)
abbrev zc0:Stmt:=top 55
abbrev QV:List Str:=["book", "word", "one", "other"]
theorem zfO:zF ["book", "word", "one", "other"] QV (zq zc0):=fsc (by decide +kernel)
abbrev zc1:Stmt:=top 56
abbrev QW:List Str:=["book", "one"]
theorem zfP:zF ["book", "one"] QW (zq zc1):=fsc (by decide +kernel)
abbrev V0:Stmt:=top 58
abbrev yL:List Str:=["script", "k"]
theorem W6:zF ["script", "k"] yL (zq V0):=fsc (by decide +kernel)
abbrev QX:Stmt:=top 59
abbrev uh:List Str:=["cell", "k", "bound"]
theorem vB:zF ["cell", "k", "bound", "stir", "left", "j"] uh (zq QX):=fsc (by decide +kernel)
abbrev SJ:Stmt:=top 60
abbrev Ym:List Str:=["cell", "limit"]
theorem Xw:zF ["cell", "limit", "found", "k"] Ym (zq SJ):=fsc (by decide +kernel)
abbrev wV:Stmt:=top 61
abbrev uo:List Str:=["script", "at", "many", "order"]
theorem yp:zF ["script", "at", "many", "order", "kinds", "made", "k", "cell", "kind", "one", "other", "letter"] uo (zq wV):=fsc (by decide +kernel)
abbrev ZR:Stmt:=top 62
abbrev yQ:List Str:=["order", "cube"]
theorem yK:zF ["order", "cube", "found", "k"] yQ (zq ZR):=fsc (by decide +kernel)
abbrev V1:Stmt:=top 63
abbrev uX:List Str:=["book", "cubes"]
theorem ur:zF ["book", "cubes", "found", "cube"] uX (zq V1):=fsc (by decide +kernel)
abbrev S_law:Stmt:=top 64
abbrev p_law:List Str:=["script"]
theorem sc_law:zF ["script", "order", "book", "room", "against", "there", "cubes", "rows"] p_law (zq S_law):=fsc (by decide +kernel)
def yZ:List (Str×Int×Int):=[("yes", 0,0),("no", 0,0),("mark", 1,0),("not", 0,1),("and", 0,2),("or", 0,2),("either", 0,2),("if", 0,2),("some", 1,1),("each", 1,1)]
set_option genInjectivity false in
set_option genSizeOf false in
structure Ad where
 vm:Addr
 vo:FuncData
 wZ:Addr
 vd:FuncData
 Xi:Addr
 Xj:FuncData
 Z6:Addr
 Z7:FuncData
 Ru:Addr
 Rv:FuncData
 Yn:Addr
 Yo:FuncData
 W7:Addr
 W8:FuncData
 Wr:Addr
 Ws:FuncData
 Xx:Addr
 Xy:FuncData
 U0:Addr
 U3:FuncData
 Wf:Addr
 Wg:FuncData
 W9:Addr
 Va:FuncData
 Rw:Addr
 Rx:FuncData
 QZ:Addr
 Q5:FuncData
 Zt:Addr
 Zu:FuncData
 tH:Addr
 tK:FuncData
 Zv:Addr
 Zw:FuncData
 U4:Addr
 U5:FuncData
 Wt:Addr
 Wu:FuncData
 Yz:Addr
 YB:FuncData
 tL:Addr
 tO:FuncData
 uw:Addr
 uz:FuncData
 Zx:Addr
 Zy:FuncData
 Wv:Addr
 Ww:FuncData
 U6:Addr
 U7:FuncData
 Vw:Addr
 Vx:FuncData
 Xz:Addr
 XC:FuncData
 vW:Addr
 vX:FuncData
 Wh:Addr
 U8:FuncData
 uD:Addr
 uE:FuncData
 Y8:Addr
 Y9:FuncData
 zc2:Addr
 zc3:FuncData
 YC:Addr
 YD:FuncData
 Vy:Addr
 Vz:FuncData
 yd:Addr
 yg:FuncData
 uY:Addr
 uZ:FuncData
 Zz:Addr
 ZC:FuncData
 Ry:Addr
 Rz:FuncData
 xW:Addr
 xX:FuncData
 yR:Addr
 yS:FuncData
 Nu:Addr
 Nv:FuncData
 Nx:Addr
 Nz:FuncData
 Jq:Addr
 Jr:FuncData
 uP:Addr
 uQ:FuncData
 zbU:Addr
 zbV:FuncData
 Wx:Addr
 Wy:FuncData
 ZD:Addr
 ZF:FuncData
 Js:Addr
 Jt:FuncData
 Ju:Addr
 Jv:FuncData
 xr:Addr
 xu:FuncData
 ZG:Addr
 ZJ:FuncData
 Wz:Addr
 WD:FuncData
 Z8:Addr
 Z9:FuncData
 xR:Addr
 xT:FuncData
 YF:Addr
 YG:FuncData
 a_law:Addr
 d_law:FuncData
 zx:Addr
 Ke:Addr
 zag:Tok
 zc4:Tok
 Vb:Addr
 zfQ:List (Str×Value)
structure Txt (P:Program)(w:World)(K:Frag)(mg:Str->Option Value)(a:Ad):Prop where
 zkt:mg "Book"=some (.ref a.zx)
 vY:Df K mg "all_rows" Ji a.vm a.vo wD
 Yv:Df K mg "rows_with" Mz a.wZ a.vd wu
 Vc:Df K mg "flipped" zaV a.Xi a.Xj Z4
 Yb:Df K mg "held_at" zaW a.Z6 a.Z7 tX
 Jw:Df K mg "hangs_on" Jj a.Ru a.Rv Vt
 SM:Df K mg "first_place" Sv a.Yn a.Yo uO
 NK:Df K mg "without" zaX a.W7 a.W8 Xg
 SN:Df K mg "rows_having" Sw a.Wr a.Ws Yh
 U9:Df K mg "first_values" Uy a.Xx a.Xy Zq
 MP:Df K mg "first_row" MF a.U0 a.U3 X6
 M4:Df K mg "joined_by" MJ a.Wf a.Wg Yu
 NP:Df K mg "is_mark" zaY a.W9 a.Va Xh
 Jx:Df K mg "is_order" Rr a.Rw a.Rx Vu
 zc5:Df K mg "is_row" Jk a.QZ a.Q5 Uz
 VB:Df K mg "letters_of" QC a.Zt a.Zu ud
 VD:Df K mg "parts_of" Jl a.tH a.tK vR
 XD:Df K mg "parts_of_all" UG a.Zv a.Zw vU
 M5:Df K mg "is_shaped" X7 a.U4 a.U5 X8
 SQ:Df K mg "is_sentence" Wo a.Wt a.Wu Yi
 V2:Df K mg "must_be_order" VL a.Yz a.YB uV
 XF:Df K mg "must_be_sentence" Xr a.tL a.tO vg
 Vd:Df K mg "must_have_mark" W3 a.uw a.uz wO
 Wi:Df K mg "must_have_marks" Wa a.Zx a.Zy vL
 SX:Df K mg "must_be_row" Sx a.Wv a.Ww Yj
 M6:Df K mg "tuples_in" MK a.U6 a.U7 Wb
 Q6:Df K mg "letters_in" QG a.Vw a.Vx Y6
 RB:Df K mg "table_of" Rt a.Xz a.XC Z5
 Tc:Df K mg "table_of_two" UJ a.vW a.vX wQ
 NQ:Df K mg "size_of" zaZ a.Nu a.Nv TV
 za0:Df K mg "rows_of" W5 a.Nx a.Nz TX
 zc6:Df K mg "primes" zcZ a.Jq a.Jr QT
 uR:Df K mg "primes_from" wF a.uP a.uQ vA
 zbW:Df K mg "cover" zbT a.zbU a.zbV Kd
 WK:Df K mg "rows_of_one" Sy a.Wx a.Wy Yl
 Td:Df K mg "must_be_word" Xv a.ZD a.ZF vV
 zc7:Df K mg "joined" zc0 a.Js a.Jt QV
 Jy:Df K mg "turned" zc1 a.Ju a.Jv QW
 xG:Df K mg "_law_cell_at" V0 a.xr a.xu yL
 wA:Df K mg "_law_draw" QX a.ZG a.ZJ uh
 S5:Df K mg "_law_order" SJ a.Wz a.WD Ym
 Ve:Df K mg "_law_sentence" wV a.Z8 a.Z9 uo
 ZS:Df K mg "_law_cube_sentence" ZR a.xR a.xT yQ
 YH:Df K mg "_law_entered" V1 a.YF a.YG uX
 f_law:Df K mg "law" S_law a.a_law a.d_law p_law
 M7:Dm K a.zx "__init__" "Book.__init__" MN a.Wh a.U8 Wd
 Xa:Dm K a.zx "order" "Book.order" QK a.uD a.uE vh
 VF:Dm K a.zx "enter" "Book.enter" QL a.Y8 a.Y9 Zr
 zjh:Dm K a.zx "room" "Book.room" zcW a.zc2 a.zc3 zcX
 YJ:Dm K a.zx "worth_at" "Book.worth_at" VN a.YC a.YD uW
 Q7:Dm K a.zx "below" "Book.below" QM a.Vy a.Vz Y7
 yw:Dm K a.zx "must_be_room" "Book.must_be_room" YK a.yd a.yg z7
 V3:Dm K a.zx "place_of" "Book.place_of" VP a.uY a.uZ vp
 Xb:Dm K a.zx "going" "Book.going" QS a.Zz a.ZC ug
 Jz:Dm K a.zx "led" "Book.led" Jo a.Ry a.Rz Vv
 xH:Dm K a.zx "table_at" "Book.table_at" VR a.xW a.xX xq
 xO:Dm K a.zx "room_with" "Book.room_with" W4 a.yR a.yS yG
 zT:Cls K a.zx
 ziM:Mk K a.zx a.Wh
 vC:Xm K a.zx "marks"
 vD:Xm K a.zx "rooms"
 XH:Xm K a.zx "tables"
 vq:Xm K a.zx "numbers"
 ziN:mg "MARKS"=some (.ref a.Ke)
 ziO:∀H,tY K H a.Ke ((["a", "b", "c", "d", "e", "f", "g", "h"]:List Str).map V.str)
 zah:mg "MOST_TUPLES"=some (.int 200 a.zag)
 zc8:mg "MOST_DEEP"=some (.int 24 a.zc4)
 Q8:mg "SHAPES"=some (.ref a.Vb)
 XJ:Shp K P w a.Vb a.zfQ yZ
 M8:mg "all"=none
 M9:mg "enumerate"=none
 zji:mg "int"=none
 Q9:mg "isinstance"=none
 wI:mg "len"=none
 RD:mg "list"=none
 TY:mg "range"=none
 zlS:mg "set"=none
 zhj:mg "sorted"=none
 zlT:mg "str"=none
 ziP:mg "tuple"=none
 zlU:mg "zip"=none
theorem x_law {K:Frag}{mg:Str->Option Value}{f:Addr}{d:FuncData}(F:Df K mg "law" S_law f d p_law):∀(s:Shared) (u:Value),BindsTo s d ⟨[u],[]⟩ [("script", u)]:=by
 obtain⟨_,_,_,_,_,_,_,_,_,rfl,_,_⟩:=F.F.ex
 exact fun s u=>.of_eq rfl
theorem zlV {P:Program}{w:World}{K:Frag}{mg:Str->Option Value}{x0 x2 x4 x6 x8 x10 x12 x14 x16 x18 x20 x22 x24 x26 x28 x30 x32 x34 x36 x38 x40 x42 x44 x46 x48 x50 x52 x54 x56 x58 x60 x62 x64 x66 x68 x70 x72 x74 x76 x78 x80 x82 x84 x86 x88 x90 x92 x94 x96 x98 x100 x102 x104 x106 x108 x110 x112 x113 x116:Addr}{x1 x3 x5 x7 x9 x11 x13 x15 x17 x19 x21 x23 x25 x27 x29 x31 x33 x35 x37 x39 x41 x43 x45 x47 x49 x51 x53 x55 x57 x59 x61 x63 x65 x67 x69 x71 x73 x75 x77 x79 x81 x83 x85 x87 x89 x91 x93 x95 x97 x99 x101 x103 x105 x107 x109 x111:FuncData}{x114 x115:Tok}{x117:List (Str×Value)}(t:Txt P w K mg ⟨x0,x1,x2,x3,x4,x5,x6,x7,x8,x9,x10,x11,x12,x13,x14,x15,x16,x17,x18,x19,x20,x21,x22,x23,x24,x25,x26,x27,x28,x29,x30,x31,x32,x33,x34,x35,x36,x37,x38,x39,x40,x41,x42,x43,x44,x45,x46,x47,x48,x49,x50,x51,x52,x53,x54,x55,x56,x57,x58,x59,x60,x61,x62,x63,x64,x65,x66,x67,x68,x69,x70,x71,x72,x73,x74,x75,x76,x77,x78,x79,x80,x81,x82,x83,x84,x85,x86,x87,x88,x89,x90,x91,x92,x93,x94,x95,x96,x97,x98,x99,x100,x101,x102,x103,x104,x105,x106,x107,x108,x109,x110,x111,x112,x113,x114,x115,x116,x117⟩):∃a,Txt P w K mg a:=⟨_,t⟩
end K87
namespace K87
open PySem L2 Za
section
variable {P:Program}{w:World}{K:Frag}{mg:Str->Option Value}{base:Heap}{a:Ad}{k:Nat}
theorem zc9 (T:Txt P w K mg a):zB P w K mg base zX (k+1) a.vm a.vo wD v8:=by
 refine T.vY.F.ok zcS (fun vs H Q E h=>?_) (fun cdv A outer s H vs Q E hr h=>?_)
 ·obtain⟨n,rfl,_⟩:=h
  rfl
 obtain⟨n,rfl,hn,q⟩:=h
 refine⟨_,(zm (zJ (zH za7 (zH Yd zp (zH Yd zp (pv 0))) zp))),?_⟩
 have h1:=zft hn
 have one:1<2^10000:=zcn (k:=1) (by decide) (by decide)
 refine⟨_,rfl,1,n,rfl,rfl,one,by omega,1,1*2^n,rfl,rfl,one,by omega,_,1,rfl,rfl,?_⟩
 have e:(((1*2^(1*2^n):Nat):Int)-1)=((2^2^n-1:Nat):Int):=by
  rw[Nat.one_mul,Nat.one_mul]
  have:=Nat.two_pow_pos (2^n)
  omega
 show Q (.int (((1*2^(1*2^n):Nat):Int)-1)) H
 rw[e]
 exact q
theorem zbX (T:Txt P w K mg a):zB P w K mg base zX (k+1) a.wZ a.vd wu vN:=by
 refine T.Yv.F.ok Zo (fun vs H Q E h=>?_) (fun cdv A outer s H vs Q E hr h=>?_)
 ·obtain⟨p,n,rfl,_⟩:=h
  rfl
 obtain⟨p,n,rfl,hp,hn,q⟩:=h
 refine⟨_,(zf (zE 2 Zo.nd (zH Yd zp (pv 0)))
   (zf (zE 3 Zo.nd (zH Yd (zH za7 (zH Yd zp (pv 2)) zp) (pv 2)))
   (zf (u6 PassesOwn.never rfl (zas rfl T.TY (za (zH vG (pv 0) zp) (za (pv 1) zc))) (yD (i:=4) Zo.nd rfl (Or.inl rfl)) (zm (zE 3 Zo.nd (zH Z1 (pv 3) (zH Yd (pv 3) (zH Yd zp (pv 4)))))))
   (zm (zJ (pv 3)))))),?_⟩
 have one:1<2^10000:=zcn (k:=1) (by decide) (by decide)
 have h1:=zft (n:=p) (by omega)
 have hh:2^p<2^10000:=Nat.pow_lt_pow_right (by decide) (by omega)
 have pp:=Nat.two_pow_pos (2^p)
 have e1:((1*2^(1*2^p):Nat):Int)-1=((2^2^p-1:Nat):Int):=by
  rw[Nat.one_mul,Nat.one_mul]
  omega
 have lt1:2^2^p-1<2^10000:=zq3 (Nat.sub_lt pp (by decide)) (zrq (by decide) (by omega))
 refine⟨_,rfl,1,p,rfl,rfl,one,by omega,?_⟩
 refine⟨_,rfl,1,1*2^p,rfl,rfl,one,by omega,_,1,rfl,rfl,_,rfl,2^2^p-1,1*2^p,congrArg V.int e1,rfl,lt1,by omega,?_⟩
 refine⟨_,rfl,_,1,rfl,rfl,_,rfl,(p:Int)+1,(n:Int),rfl,⟨by omega,by omega,by omega,by omega⟩,?_⟩
 refine WM (fun i σ H'=>H'=H/\∃(N:Nat) (f:Option V),σ=[some (.int p),some (.int n),some (.int ((1*2^p:Nat):Int)),some (.int N),f]/\zP (p+1+i) N (fun b=>b.testBit p)) ⟨rfl,_,_,rfl,?_⟩ ?_ ?_
 ·rw[Nat.one_mul]
  exact zfs p
 ·rintro i σ H' hi ⟨rfl,N,f,rfl,tb⟩
  have hi':p+1+i<n:=by omega
  have h2:=zft (n:=p+1+i) (by omega)
  have e2:V.int ((p:Int)+1+(i:Nat))=V.int ((p+1+i:Nat):Int):=congrArg V.int (by omega)
  have lt2:N<2^10000:=zcn (zgx tb) (zrg h2 (by decide))
  refine⟨_,rfl,_,rfl,_,rfl,1,p+1+i,rfl,e2,one,by omega,N,1*2^(p+1+i),rfl,rfl,lt2,by omega,N,N*2^(1*2^(p+1+i)),rfl,rfl,?_⟩
  refine⟨rfl,_,_,rfl,?_⟩
  rw[Nat.one_mul]
  exact zdP (m:=p+1+i) (by omega) tb
 ·rintro σ H' ⟨rfl,N,f,rfl,tb⟩
  have e3:p+1+((n:Int)-((p:Int)+1)).toNat=n:=by omega
  rw[e3] at tb
  exact⟨_,rfl,q N tb⟩
theorem zea (T:Txt P w K mg a)(xM:zB P w K mg base zX k a.wZ a.vd wu vN):zB P w K mg base zX (k+1) a.Xi a.Xj Z4 Xd:=by
 refine T.Vc.F.ok Rp (fun vs H Q E h=>?_) (fun cdv A outer s H vs Q E hr h=>?_)
 ·obtain⟨N,p,n,f,rfl,_⟩:=h
  rfl
 obtain⟨N,p,n,f,rfl,hp,hn,tb,q⟩:=h
 refine⟨_,(zf (zE 3 Rp.nd (zH v7 (pv 0) (zu xM hr T.Yv (za (pv 1) (za (pv 2) zc)))))
   (zf (zE 4 Rp.nd (zH Ye (pv 0) (pv 3)))
   (zm (zJ (zH Z1 (zH zhZ (pv 3) (zH Yd zp (pv 1))) (zH Yd (pv 4) (zH Yd zp (pv 1)))))))),?_⟩
 have one:1<2^10000:=zcn (k:=1) (by decide) (by decide)
 have h1:=zft (n:=p) (by omega)
 have h2:=zft (n:=n) (by omega)
 refine⟨_,rfl,_,rfl,_,rfl,p,n,rfl,hp,hn,fun R tr=>?_⟩
 refine⟨N,R,rfl,rfl,?_⟩
 refine⟨_,rfl,_,rfl,N,N&&&R,rfl,rfl,?_⟩
 have o:=vJ tb tr
 have z:=Ze tb o
 have lt2:N ^^^ (N&&&R)<2^10000:=zcn (zgx z) (zrg h2 (by decide))
 refine⟨_,rfl,_,rfl,1,p,rfl,rfl,one,by omega,N&&&R,1*2^p,rfl,rfl,_,rfl,_,rfl,1,p,rfl,rfl,one,by omega,N ^^^ (N&&&R),1*2^p,rfl,rfl,lt2,by omega,_,_,rfl,rfl,?_⟩
 refine q _ ?_
 rw[Nat.one_mul]
 exact zgy hp tb tr
theorem zeb (T:Txt P w K mg a):zB P w K mg base zX (k+1) a.xr a.xu yL (Qc K):=by
 refine T.xG.F.ok W6 (fun vs H Q E h=>?_) (fun cdv A outer s H vs Q E hr h=>?_)
 ·obtain⟨l,ns,i,rfl,_⟩:=h
  rfl
 obtain⟨l,ns,i,rfl,hS,h0,q⟩:=h
 refine⟨_,(zf (yF (zM zce (pv 1) (zN zK rfl T.wI yO (za (pv 0) zc)) (zQ _)) (zm (zJ (yt yU (pv 0) (pv 1) (fun _ _=>rfl)))) zU)
   (zm (zJ zp))),?_⟩
 refine⟨_,rfl,_,rfl,l,_,rfl,.inl hS,_,_,rfl,rfl,_,rfl,?_⟩
 refine yj (fun c=>?_) (fun c=>?_)
 ·have c':i<(((ns.map V.int).length:Nat):Int):=of_decide_eq_true c
  rw[zqU] at c'
  have hi:i.toNat<ns.length:=by omega
  have e:atI (ns.map V.int) i=some (.int ns[i.toNat]):=by
   have q:=xZ (xs:=ns.map V.int) (j:=i.toNat) (v:=.int ns[i.toNat]) (by rw[zqW,zqV hi];rfl)
   have ei:((i.toNat:Nat):Int)=i:=by omega
   rw[ei] at q
   exact q
  exact⟨_,rfl,_,rfl,l,_,i,_,rfl,rfl,hS,e,q _⟩
 ·exact q 0
theorem ziQ (T:Txt P w K mg a):zB P w K mg base zX (k+1) a.ZG a.ZJ uh KQ:=by
 refine T.wA.F.ok vB (fun vs H Q E h=>?_) (fun cdv A outer s H vs Q E hr h=>?_)
 ·obtain⟨c,m,b,rfl,_⟩:=h
  rfl
 obtain⟨c,m,b,rfl,hm,b0,b1,q⟩:=h
 refine⟨_,(zf (yF (zM zi3 (pv 0) (zH zjC zp zp) (zQ _)) (zf (zE 4 vB.nd (pv 0))
   (zf (u6 PassesOwn.never rfl (Pr rfl T.TY (za (pv 1) zc)) (yD (i:=5) vB.nd rfl (Or.inl rfl)) (zm (zE 4 vB.nd (zH zeu (pv 4) (pv 2)))))
   (zm (zJ (zH ZV (pv 4) (pv 2)))))) zU)
   (zf (zE 3 vB.nd (zH ZV (zH Ks (zH vG (zH vG (zH ZV (pv 0) zp) (zH Ks zp (pv 1))) zp) zp) zp))
   (zf (zE 3 vB.nd (zH ZV (zH vG (zH vG (zH Ks (pv 3) (pv 3)) (zH Ks zp (pv 1))) zp) zp))
   (zm (zJ (zH ZV (zH zeu (zH ZV (zH Ks (pv 3) zp) zp) zp) (pv 2))))))),?_⟩
 refine⟨_,rfl,10,18,rfl,rfl,⟨by decide,by decide,by decide⟩,_,_,rfl,rfl,_,rfl,?_⟩
 refine yj (fun _=>?_) (fun _=>?_)
 ·refine⟨_,rfl,?_⟩
  refine⟨_,rfl,(m:Int),rfl,by omega,by omega,?_⟩
  refine WM (fun i σ H'=>H'=H/\∃(x:Int) (f1 f2:Option V),σ=[some (.int c),some (.int m),some (.int b),f1,some (.int x),f2]) ⟨rfl,c,_,_,rfl⟩ ?_ ?_
  ·rintro i σ H' hi ⟨rfl,x,f1,f2,rfl⟩
   refine⟨_,rfl,_,rfl,x,b,rfl,rfl,⟨b0,b1⟩,?_⟩
   exact⟨rfl,x / b,_,_,rfl⟩
  ·rintro σ H' ⟨rfl,x,f1,f2,rfl⟩
   refine⟨_,rfl,_,rfl,x,b,rfl,rfl,b0,?_⟩
   exact q _ (zrB _ (by omega)) (zry _ b0)
 ·have p1:(0:Int)<1000000007:=by decide
  have p2:(0:Int)<2147483647:=by decide
  have p3:(0:Int)<2147483629:=by decide
  refine⟨_,rfl,c,1000000007,rfl,rfl,p1,_,rfl,1009,(m:Int),rfl,rfl,.inl ⟨by decide,by decide⟩,_,_,rfl,rfl,_,17,rfl,rfl,_,69621,rfl,rfl,.inr ⟨by decide,by decide⟩,_,2147483647,rfl,rfl,p2,?_⟩
  have z0:0<=(c%1000000007+1009*(m:Int)+17)*69621%2147483647:=zrB _ (by decide)
  have z1:(c%1000000007+1009*(m:Int)+17)*69621%2147483647<2147483647:=zry _ p2
  refine⟨_,rfl,_,rfl,_,_,rfl,rfl,.inl ⟨Int.lt_of_lt_of_le (by decide) z0,Int.lt_trans z1 (by decide)⟩,_,rfl,40503,(m:Int),rfl,rfl,.inl ⟨by decide,by decide⟩,_,_,rfl,rfl,_,5,rfl,rfl,_,2147483629,rfl,rfl,p3,?_⟩
  refine⟨_,rfl,_,48271,rfl,rfl,.inr ⟨by decide,by decide⟩,_,2147483647,rfl,rfl,p2,_,32,rfl,rfl,⟨by decide,by decide⟩,_,rfl,_,b,rfl,rfl,b0,?_⟩
  exact q _ (zrB _ (by omega)) (zry _ b0)
theorem zhk (T:Txt P w K mg a)(wB:zB P w K mg base zX k a.ZG a.ZJ uh KQ):zB P w K mg base zX (k+1) a.Wz a.WD Ym zbm:=by
 refine T.S5.F.ok Xw (fun vs H Q E h=>?_) (fun cdv A outer s H vs Q E hr h=>?_)
 ·obtain⟨c,n,rfl,_⟩:=h
  rfl
 obtain⟨c,n,rfl,hn,h8,q⟩:=h
 refine⟨_,(zf (zE 2 Xw.nd (uG zc))
   (zf (u6 PassesOwn.never rfl (Pr rfl T.TY (za (zH vG zp (zu wB hr T.wA (za (pv 0) (za zp (za (pv 1) zc))))) zc)) (yD (i:=3) Xw.nd rfl (Or.inl rfl)) (zm (yC (Yr PySem.F.plainAttrs_list PySem.F.slot_list_insert PySem.F.type_list_insert zfq (pv 2) (za (zH ZV (zu wB hr T.wA (za (pv 0) (za (zH vG zp (pv 3)) (za zp zc)))) (zH vG (pv 3) zp)) (za (yt Ue z9 (pv 3) (fun _ _=>rfl)) zc))))))
   (zm (zJ (pv 2))))),?_⟩
 refine⟨by show 0<=sizeLine;decide,fun l hl=>?_⟩
 refine⟨_,rfl,_,rfl,c,0,(n:Int),rfl,by decide,by omega,by omega,fun r r0 r1=>?_⟩
 refine⟨1,r,rfl,rfl,1+r,rfl,by omega,by omega,?_⟩
 refine WM (fun i σ H'=>∃(os:List Str) (f1:Option V),Same H H'/\H' l=some (.lst (os.map V.str))/\os.Nodup/\os.length=i/\(∀x∈os,x∈vK.take i)/\σ=[some (.int c),some (.int n),some (.ref l),f1])
  ⟨[],_,Uj hl _,zj,List.nodup_nil,rfl,(fun _ h=>nomatch h),rfl⟩ ?_ ?_
 ·rintro i σ H' hi ⟨os,f1,g,hl',nd,le,mem,rfl⟩
  have i8:i<8:=by omega
  obtain⟨ch,hc1,hc2⟩:=zh3 i8
  have e1:(1:Int)+(0+(i:Nat))=((1+i:Nat):Int):=by omega
  have e2:(0:Int)+(i:Nat)=((i:Nat):Int):=by omega
  refine⟨_,rfl,.inl ⟨rfl,_,zZ.of hl'⟩,?_⟩
  refine⟨_,rfl,_,rfl,1,_,rfl,rfl,c,1+i,5040,congrArg (fun z=>[V.int c,V.int z,V.int 5040]) e1,by omega,by decide,by decide,fun r' s0 s1=>?_⟩
  refine⟨_,rfl,_,1,rfl,rfl,r',_,rfl,rfl,by show(0:Int)<0+(i:Nat)+1;omega,?_⟩
  refine⟨_,rfl,_,(i:Int),ch,rfl,congrArg V.int e2,by show(Str.ofString "abcdefgh").length<=sizeLine;decide,hc1,?_⟩
  have m0:0<=r'%(0+(i:Nat)+1):=zrB _ (by omega)
  have m1:r'%(0+(i:Nat)+1)<0+(i:Nat)+1:=zry _ (by omega)
  generalize hj:r'%(0+((i:Nat):Int)+1)=j at m0 m1
  refine⟨l,os.map V.str,j,_,rfl,by rw[<-hj],hl',m0,by rw[zqU];omega,by rw[zqU];exact zq3 (show os.length<9 by omega) (by decide),?_⟩
  have nm:(⟨#[ch]⟩:Str)∉os:=fun hm=>zgA hc2 (mem _ hm)
  have ml:∀x∈vK.take i,x∈vK.take (i+1):=fun x hx=>by
   rw[List.take_succ]
   exact List.mem_append_left _ hx
  have mn:(⟨#[ch]⟩:Str)∈vK.take (i+1):=by
   rw[List.take_succ,hc2]
   exact zrb _ (by simp)
  refine⟨os.take j.toNat++(⟨#[ch]⟩:Str)::os.drop j.toNat,_,?_,?_,?_,?_,?_,rfl⟩
  ·exact fun b o hb=>by rw[zA (zy hb hl)];exact g b o hb
  ·rw[zj]
   simp
  ·refine List.perm_middle.nodup_iff.mpr (List.nodup_cons.mpr ⟨?_,?_⟩)
   ·rw[List.take_append_drop];exact nm
   ·rw[List.take_append_drop];exact nd
  ·rw[zq2,zq6,zri,List.length_drop]
   omega
  ·intro x hx
   rcases List.mem_append.mp hx with z | z
   ·exact ml x (mem x (List.mem_of_mem_take z))
   ·rcases List.mem_cons.mp z with z | z
    ·rw[z];exact mn
    ·exact ml x (mem x (List.mem_of_mem_drop z))
 ·rintro σ H' ⟨os,f1,g,hl',nd,le,mem,rfl⟩
  refine⟨_,rfl,q l H' os g hl' ⟨nd,fun x hx=>List.mem_of_mem_take (mem x hx),by omega⟩ (by omega)⟩
theorem zda (T:Txt P w K mg a)(xY:zB P w K mg base zX k a.xr a.xu yL (Qc K))(wB:zB P w K mg base zX k a.ZG a.ZJ uh KQ) :
  zB P w K mg base zX (k+1) a.Z8 a.Z9 uo (Rf K):=by
 refine T.Ve.F.ok yp (fun vs H Q E h=>?_) (fun cdv A outer s H vs Q E hr h=>?_)
 ·obtain⟨sc,ol,ns,t,m,os,rfl,_⟩:=h
  rfl
 obtain⟨sc,ol,ns,t,m,os,rfl,hS,hO,o0,o8,m0,m40,t60,q⟩:=h
 obtain⟨st0,h0⟩:∃st0,st0=(vI wV).headD (.Pass ⟨0,0,0,0⟩):=⟨_,rfl⟩
 have hb:vI wV=st0::(vI wV).tail:=by rw[h0];rfl
 rw[hb]
 have hk:zbk st0=some (Str.ofString "kinds", Rb):=by rw[h0];rfl
 refine⟨_,zf (zh2 (i:=4) hk yp.nd rfl (Or.inl rfl) (.inl rfl)) (zf (zE 5 yp.nd (uG (za (vH (za z9 (za (yt yU (pv 3) (zH ZV (zu wB hr T.wA (za (zu xY hr T.xG (za (pv 0) (za (pv 1) zc))) (za zp (za zp zc)))) (zN zK rfl T.wI yO (za (pv 3) zc))) (fun _ _=>rfl)) zc))) zc)))
   (zf (u6 PassesOwn.never rfl (zas rfl T.TY (za zp (za (pv 2) zc))) (yD (i:=6) yp.nd rfl (Or.inl rfl)) (zf (zE 7 yp.nd (zu xY hr T.xG (za (pv 0) (za (zH vG (pv 1) (pv 6)) zc))))
   (zf (zE 8 yp.nd (yt yU (pv 4) (zu wB hr T.wA (za (pv 7) (za zp (za zp zc)))) (fun _ _=>rfl)))
   (zf (zE 9 yp.nd (yt yU (pv 5) (zH za7 (zi2 zf5 zp) (zH ZV (zu wB hr T.wA (za (pv 7) (za zp (za zp zc)))) (zN zK rfl T.wI yO (za (pv 5) zc)))) (fun _ _=>rfl)))
   (zf (zE 10 yp.nd (yt yU (pv 5) (zH ZV (zu wB hr T.wA (za (pv 7) (za zp (za zp zc)))) (zN zK rfl T.wI yO (za (pv 5) zc))) (fun _ _=>rfl)))
   (zf (zE 11 yp.nd (yt yU (pv 3) (zH ZV (zu wB hr T.wA (za (pv 7) (za zp (za zp zc)))) (zN zK rfl T.wI yO (za (pv 3) zc))) (fun _ _=>rfl)))
   (zm (yF (PW.pt (T8 (zM yX (pv 8) z9 (zQ _)) (Ua (zM yX (pv 8) z9 (zQ _))))) (zm (yC (Yr PySem.F.plainAttrs_list PySem.F.slot_list_append PySem.F.type_list_append tQ (pv 5) (za (vH (za (pv 8) zc)) zc)))) (zm (yF (zM yX (pv 8) z9 (zQ _)) (zm (yC (Yr PySem.F.plainAttrs_list PySem.F.slot_list_append PySem.F.type_list_append tQ (pv 5) (za (vH (za z9 (za (pv 11) zc))) zc)))) (zm (yF (zM yX (pv 8) z9 (zQ _)) (zm (yC (Yr PySem.F.plainAttrs_list PySem.F.slot_list_append PySem.F.type_list_append tQ (pv 5) (za (vH (za z9 (za (pv 9) zc))) zc)))) (zm (yF (PW.pt (T8 (zM yX (pv 8) z9 (zQ _)) (Ua (zM yX (pv 8) z9 (zQ _))))) (zm (yC (Yr PySem.F.plainAttrs_list PySem.F.slot_list_append PySem.F.type_list_append tQ (pv 5) (za (vH (za (pv 8) (za (pv 11) (za (pv 9) zc)))) zc)))) (zm (yC (Yr PySem.F.plainAttrs_list PySem.F.slot_list_append PySem.F.type_list_append tQ (pv 5) (za (vH (za (pv 8) (za (pv 10) (za (pv 9) zc)))) zc))))))))))))))))))
   (zm (zJ (yt yU (pv 5) (zi2 zf5 zp) (fun _ _=>rfl)))))),?_⟩
 refine⟨by show 14<=sizeLine;decide,fun kd hkd=>?_⟩
 have g1:=Uj hkd (.lst (Rb.map V.str))
 have hS1:=g1.seq hS
 have hO1:=g1.seq hO
 refine⟨_,rfl,_,rfl,_,rfl,sc,ns,(t:Int),rfl,hS1,by omega,fun c0=>?_⟩
 refine⟨c0,3,40320,rfl,by decide,by decide,by decide,fun r0 _ _=>?_⟩
 obtain⟨x0,hx0,hx0'⟩:=Mr o0 r0
 have pl:(0:Int)<((os.map V.str).length:Nat):=by rw[zqU];omega
 refine⟨_,rfl,ol,_,rfl,.inl hO1,_,_,rfl,rfl,pl,ol,_,_,.str x0,rfl,rfl,hO1,hx0',by show 2<=sizeLine;decide,fun p0 hp0=>?_⟩
 refine⟨by show 1<=sizeLine;decide,fun md hmd=>?_⟩
 have g2:=Uj hp0 (.tup [.str "mark", .str x0])
 have g3:=Uj hmd (.lst [.ref p0])
 have f0:H md=none:=(g1.trans g2).free hmd
 have nk:md≠kd:=Ne.symm (zy (g2 _ _ zj) hmd)
 have M0:Made H (upd (upd (upd H kd (.lst (Rb.map V.str))) p0 (.tup [.str "mark", .str x0])) md (.lst [.ref p0])) os md kd [p0] 1:=by
  refine⟨g1.trans (g2.trans g3),zj,g3 _ _ (g2 _ _ zj),by simp,fun p hp=>?_⟩
  have e:p=p0:=by simpa using hp
  subst e
  exact⟨.mk x0,g3 _ _ zj,hx0,zra _⟩
 refine⟨_,rfl,1,(m:Int),rfl,⟨by omega,by omega,by omega,by omega⟩,?_⟩
 refine WM (fun i σ H'=>∃(ps:List Addr) (f1 f2 f3 f4 f5 f6:Option V),Made H H' os md kd ps (i+1)/\ps.length=i+1/\σ=[some (.ref sc),some (.int t),some (.int m),some (.ref ol),some (.ref kd),some (.ref md),f1,f2,f3,f4,f5,f6])
  ⟨[p0],_,_,_,_,_,_,M0,rfl,rfl⟩ ?_ ?_
 ·rintro i σ H' hi ⟨ps,f1,f2,f3,f4,f5,f6,M,lp,rfl⟩
  have hS2:=M.old.seq hS
  have hO2:=M.old.seq hO
  have e1:(t:Int)+(1+(i:Nat))=((t+(1+i):Nat):Int):=by omega
  refine⟨_,rfl,_,rfl,_,rfl,_,_,rfl,rfl,sc,ns,_,rfl,hS2,by omega,fun c=>?_⟩
  refine⟨_,rfl,_,rfl,c,0,14,rfl,by decide,by decide,by decide,fun d d0 d1=>?_⟩
  obtain⟨jk,vk,qk1,qk2⟩:=zbn (xs:=Rb.map V.str) (i:=d) (by show -((14:Nat):Int)<=d;omega) (by show d<((14:Nat):Int);omega)
  obtain⟨kind,hkm,hkv⟩:∃kind,kind∈Rb/\vk=.str kind:=by
   rw[zqW] at qk2
   cases hx:Rb[jk]? with
   | none=>rw[hx] at qk2;cases qk2
   | some x=>rw[hx] at qk2;cases qk2;exact⟨x,zqZ hx,rfl⟩
  subst hkv
  refine⟨kd,_,_,_,rfl,rfl,zZ.of M.kin,qk1,?_⟩
  have lm:((ps.map V.ref).length:Nat)=i+1:=by rw[zqU];exact lp
  have pm:(0:Int)<((ps.map V.ref).length:Nat):=by rw[lm];omega
  refine⟨_,rfl,1,rfl,_,rfl,c,1,2,rfl,by decide,by decide,by decide,fun d2 _ _=>?_⟩
  refine⟨_,rfl,md,_,rfl,.inl (zZ.of M.mad),_,_,rfl,rfl,pm,_,_,rfl,rfl,?_⟩
  have a0:=zrB d2 (show((ps.map V.ref).length:Int)≠0 by omega)
  have a1:=zry d2 pm
  obtain⟨q1,hq1,hq1'⟩:=PK (ps:=ps) (i:=-1-d2%((ps.map V.ref).length:Nat)) (by rw[lm] at a0 a1 ⊢;omega) (by rw[lm] at a0 a1 ⊢;omega)
  refine⟨md,_,_,_,rfl,rfl,zZ.of M.mad,hq1',?_⟩
  refine⟨_,rfl,_,rfl,c,2,60,rfl,by decide,by decide,by decide,fun d3 _ _=>?_⟩
  refine⟨_,rfl,md,_,rfl,.inl (zZ.of M.mad),_,_,rfl,rfl,pm,?_⟩
  have b0:=zrB d3 (show((ps.map V.ref).length:Int)≠0 by omega)
  have b1:=zry d3 pm
  obtain⟨q2,hq2,hq2'⟩:=PK (ps:=ps) (i:=d3%((ps.map V.ref).length:Nat)) (by rw[lm] at b0 b1 ⊢;omega) (by rw[lm] at b0 b1 ⊢;omega)
  refine⟨md,_,_,_,rfl,rfl,zZ.of M.mad,hq2',?_⟩
  refine⟨_,rfl,_,rfl,c,3,40320,rfl,by decide,by decide,by decide,fun d4 _ _=>?_⟩
  obtain⟨x,hx,hx'⟩:=Mr o0 d4
  refine⟨_,rfl,ol,_,rfl,.inl hO2,_,_,rfl,rfl,pl,ol,_,_,.str x,rfl,rfl,hO2,hx',?_⟩
  obtain⟨s1,s1i,s1o,s1d⟩:=M.all q1 hq1
  obtain⟨s2,s2i,s2o,s2d⟩:=M.all q2 hq2
  have big:ps.length<sizeLine:=Nat.lt_of_le_of_lt (show ps.length<=100 by omega) (by decide)
  have zec:(ps.map V.ref).length<sizeLine:=by rw[zqU];exact big
  have mdu:∀(p:Addr) (o:HO),H' p=none->(upd H' p o) md=some (.lst (ps.map V.ref)):=fun p o hp=>by rw[zA (zy M.mad hp)];exact M.mad
  have fin:∀(p:Addr) (xs:List V) (s':Sn),H' p=none->Tp (upd H' p (.tup xs)) s' p->s'.RN os->s'.depth<=i+1+1 ->
    ∃(ps':List Addr) (f1 f2 f3 f4 f5 f6:Option V),Made H (upd (upd H' p (.tup xs)) md (.lst (ps.map V.ref++[.ref p]))) os md kd ps' (i+1+1)/\ps'.length=i+1+1 /\
     [some (.ref sc),some (.int t),some (.int m),some (.ref ol),some (.ref kd),some (.ref md),some (.int (1+(i:Nat))),some (.int c),some (.str kind),some (.ref q1),some (.ref q2),some (.str x)]=[some (.ref sc),some (.int t),some (.int m),some (.ref ol),some (.ref kd),some (.ref md),f1,f2,f3,f4,f5,f6]:=fun p xs s' hp hs ho hd=>by
   have:=M.push f0 hp hs ho hd nk
   rw[zq8] at this
   exact⟨ps++[p],_,_,_,_,_,_,this,by simp[lp],rfl⟩
  refine⟨_,rfl,rfl,_,rfl,yj (fun c1=>?_) (fun c1=>?_)⟩
  ·have ek:kind="yes" := by have:=of_decide_eq_true c1;cases this;rfl
   subst ek
   refine zgi ⟨_,rfl,.inl ⟨rfl,_,zZ.of M.mad⟩,_,rfl,by show 1<=sizeLine;decide,fun p hp=>⟨md,_,_,rfl,rfl,mdu p _ hp,zec,?_⟩⟩
   exact fin p _ (.c0 true) hp zj trivial (by show 1<=_;omega)
  have n1:kind ≠ "yes" := fun e=>c1 (decide_eq_true (by rw[e]))
  refine⟨_,rfl,rfl,_,rfl,yj (fun c2=>?_) (fun c2=>?_)⟩
  ·have ek:kind="no" := by have:=of_decide_eq_true c2;cases this;rfl
   subst ek
   refine⟨_,rfl,.inl ⟨rfl,_,zZ.of M.mad⟩,_,rfl,by show 1<=sizeLine;decide,fun p hp=>⟨md,_,_,rfl,rfl,mdu p _ hp,zec,?_⟩⟩
   exact fin p _ (.c0 false) hp zj trivial (by show 1<=_;omega)
  have n2:kind ≠ "no" := fun e=>c2 (decide_eq_true (by rw[e]))
  refine⟨_,rfl,rfl,_,rfl,yj (fun c3=>?_) (fun c3=>?_)⟩
  ·have ek:kind="mark" := by have:=of_decide_eq_true c3;cases this;rfl
   subst ek
   refine⟨_,rfl,.inl ⟨rfl,_,zZ.of M.mad⟩,_,rfl,by show 2<=sizeLine;decide,fun p hp=>⟨md,_,_,rfl,rfl,mdu p _ hp,zec,?_⟩⟩
   exact fin p _ (.mk x) hp zj hx (by show 1<=_;omega)
  have n3:kind ≠ "mark" := fun e=>c3 (decide_eq_true (by rw[e]))
  refine⟨_,rfl,rfl,_,rfl,yj (fun c4=>?_) (fun c4=>?_)⟩
  ·have ek:kind="not" := by have:=of_decide_eq_true c4;cases this;rfl
   subst ek
   refine⟨_,rfl,.inl ⟨rfl,_,zZ.of M.mad⟩,_,rfl,by show 2<=sizeLine;decide,fun p hp=>⟨md,_,_,rfl,rfl,mdu p _ hp,zec,?_⟩⟩
   exact fin p _ (.nt s1) hp ⟨q1,zj,s1i.mono (yW.new hp _)⟩ s1o (by show 1+s1.depth<=_;omega)
  have n4:kind ≠ "not" := fun e=>c4 (decide_eq_true (by rw[e]))
  refine⟨_,rfl,rfl,_,rfl,yj (fun c5=>?_) (fun c5=>?_)⟩
  ·have ek:kind="some" := by have:=of_decide_eq_true c5;cases this;rfl
   subst ek
   refine zgi ⟨_,rfl,.inl ⟨rfl,_,zZ.of M.mad⟩,_,rfl,_,rfl,_,rfl,by show 3<=sizeLine;decide,fun p hp=>⟨md,_,_,rfl,rfl,mdu p _ hp,zec,?_⟩⟩
   exact fin p _ (.q1 true x s1) hp ⟨q1,zj,s1i.mono (yW.new hp _)⟩ ⟨hx,s1o⟩ (by show 1+s1.depth<=_;omega)
  have n5:kind ≠ "some" := fun e=>c5 (decide_eq_true (by rw[e]))
  refine⟨_,rfl,rfl,_,rfl,yj (fun c6=>?_) (fun c6=>?_)⟩
  ·have ek:kind="each" := by have:=of_decide_eq_true c6;cases this;rfl
   subst ek
   refine⟨_,rfl,.inl ⟨rfl,_,zZ.of M.mad⟩,_,rfl,_,rfl,_,rfl,by show 3<=sizeLine;decide,fun p hp=>⟨md,_,_,rfl,rfl,mdu p _ hp,zec,?_⟩⟩
   exact fin p _ (.q1 false x s1) hp ⟨q1,zj,s1i.mono (yW.new hp _)⟩ ⟨hx,s1o⟩ (by show 1+s1.depth<=_;omega)
  have n6:kind ≠ "each" := fun e=>c6 (decide_eq_true (by rw[e]))
  obtain⟨o,ho⟩:∃o:Fin 4,kind=w2 o:=by
   have:kind∈([Str.ofString "mark", Str.ofString "mark", Str.ofString "not", Str.ofString "and", Str.ofString "or", Str.ofString "either", Str.ofString "if", Str.ofString "and", Str.ofString "or", Str.ofString "some", Str.ofString "each", Str.ofString "yes", Str.ofString "no", Str.ofString "mark"]:List Str):=hkm
   simp only[List.mem_cons,zrl,or_false] at this
   rcases this with h | h | h | h | h | h | h | h | h | h | h | h | h | h<;>first | exact absurd h n1 | exact absurd h n2 | exact absurd h n3 | exact absurd h n4 | exact absurd h n5 | exact absurd h n6 | exact⟨0,h⟩ | exact⟨1,h⟩ | exact⟨2,h⟩ | exact⟨3,h⟩
  subst ho
  refine⟨_,rfl,.inl ⟨rfl,_,zZ.of M.mad⟩,_,rfl,_,rfl,_,rfl,by show 3<=sizeLine;decide,fun p hp=>⟨md,_,_,rfl,rfl,mdu p _ hp,zec,?_⟩⟩
  exact fin p _ (.b2 o s2 s1) hp ⟨q2,q1,zj,s2i.mono (yW.new hp _),s1i.mono (yW.new hp _)⟩ ⟨s2o,s1o⟩ (by show 1+max s2.depth s1.depth<=_;omega)
 ·rintro σ H' ⟨ps,f1,f2,f3,f4,f5,f6,M,lp,rfl⟩
  obtain⟨p,hp,hp'⟩:=PK (ps:=ps) (i:=-1) (by omega) (by omega)
  obtain⟨s',z1,z2,z3⟩:=M.all p hp
  have e:((m:Int)-1).toNat+1=m:=by omega
  rw[e] at z3
  exact⟨_,rfl,1,rfl,md,_,-1,_,rfl,rfl,zZ.of M.mad,hp',q p H' s' M.old z1 z2 z3⟩
theorem zed (T:Txt P w K mg a):zB P w K mg base zX (k+1) a.W9 a.Va Xh WX:=by
 refine T.NP.F.ok zd8 (fun vs H Q E h=>?_) (fun cdv A outer s H vs Q E hr h=>?_)
 ·obtain⟨x,rfl,_⟩:=h
  rfl
 obtain⟨x,rfl,q⟩:=h
 refine⟨_,(zm (zJ (uU zaA (pv 0) (Vf (v:=.ref a.Ke) rfl T.ziN rfl) (by with_unfolding_all rfl)))),?_⟩
 refine⟨_,rfl,a.Ke,vK.map V.str,rfl,.inr (T.ziO H),rfl,WW _,?_⟩
 show Q (.bl (inV (.str x) (vK.map V.str))) H
 rw[zcp]
 exact q
theorem zdb (T:Txt P w K mg a)(NT:zB P w K mg base zX k a.W9 a.Va Xh WX):zB P w K mg base zX (k+1) a.Rw a.Rx Vu (P0 K):=by
 refine T.Jx.F.ok zcU (fun vs H Q E h=>?_) (fun cdv A outer s H vs Q E hr h=>?_)
 ·obtain⟨l,os,rfl,_⟩:=h
  rfl
 obtain⟨l,os,rfl,hq,h100,q⟩:=h
 refine⟨_,(zm (zJ (zdu (uU zau (zN zK rfl T.wI yO (za (pv 0) zc)) zp (zQ _)) (zdu (zN (Ys rfl) rfl T.M8 Ug (za (Z0 (tZ:=zq Rr) (js:=[]) rfl (by show XR _ _ "letter" [];exact lco (by decide +kernel)) rfl (xK (pv 0)) (by show ∀j∈([]:List Nat),j<1;decide) (fun cl C s₂ H₂ fp=>(zu NT hr T.NP (za (pv 0) zc)))) zc)) (zds (uU yX (zN call_len_set' rfl T.wI yO (za (ZX (zgq rfl) rfl T.zlS zjW (za (pv 0) zc)) zc)) (zN zK rfl T.wI yO (za (pv 0) zc)) (zQ _))))))),?_⟩
 have hlen:(os.map V.str).length=os.length:=zqU _
 refine⟨_,rfl,l,_,rfl,.inl hq,_,_,rfl,rfl,_,rfl,yj (fun c=>?_) (fun c=>?_)⟩
 ·have c':0<os.length:=by have:=of_decide_eq_true c;rw[hlen] at this;omega
  refine⟨_,rfl,l,rfl,⟨_,hq⟩,zbo (fun x v=>v=(match x with | .str y=>.bl (decide (y∈vK)) | _=>.non)) hq (by rw[hlen];exact zrd (yq (by omega))) ?_ (zgC Ms) ?_⟩
  ·intro i x H' hx g
   rw[zqW] at hx
   cases ho:os[i]? with
   | none=>rw[ho] at hx;cases hx
   | some y =>
    rw[ho] at hx
    cases hx
    exact⟨_,rfl,y,rfl,rfl,g⟩
  ·intro ys H' p hr' g hp
   have e:=PN (f:=fun x=>match x with | .str y=>.bl (decide (y∈vK)) | _=>.non) hr'
   rw[zrw] at e
   have e2:ys=(os.map fun y=>decide (y∈vK)).map V.bl:=by rw[e,zrw];rfl
   subst e2
   have g1:=Same.new hp (.lst ((os.map fun y=>decide (y∈vK)).map V.bl))
   refine⟨p,_,rfl,zZ.of zj,_,rfl,yj (fun c2=>?_) (fun c2=>?_)⟩
   ·have hq2:=(g.trans g1).seq hq
    refine⟨_,rfl,l,os,rfl,hq2,h100,fun z hz=>⟨z,_,rfl,zj,?_⟩⟩
    have g2:=Same.new hz (zhU P w z (dd os).length)
    refine⟨_,rfl,l,_,rfl,.inl (g2.seq hq2),rfl,?_⟩
    have e3:decide (V.int ((dd os).length:Nat)=V.int ((os.map V.str).length:Nat))=zbr os:=by
     unfold zbr
     have c2':os.all (fun x=>decide (x∈vK))=true:=by rw[List.all_map] at c2;exact c2
     rw[decide_eq_true c',c2',hlen]
     by_cases nd:os.Nodup
     ·rw[decide_eq_true nd,zgm nd];simp
     ·have:=zjU nd
      rw[decide_eq_false nd,decide_eq_false (fun z=>by injection z with z;omega)];rfl
    rw[e3]
    exact q _ ((g.trans g1).trans g2)
   ·have e4:zbr os=false:=by
     unfold zbr
     have c2':os.all (fun x=>decide (x∈vK))=false:=by
      rw[List.all_map] at c2
      exact Bool.eq_false_iff.mpr c2
     rw[c2',Bool.false_and,Bool.and_false]
    rw[<-e4]
    exact q _ (g.trans g1)
 ·have e4:zbr os=false:=by
   unfold zbr
   rw[decide_eq_false (fun z=>c (decide_eq_true (by rw[hlen];omega))),Bool.false_and]
  rw[<-e4]
  exact q _ (Same.refl _)
theorem zai (T:Txt P w K mg a):zB P w K mg base zX (k+1) a.Zt a.Zu ud Yt:=by
 refine T.VB.F.ok zac (fun vs H Q E h=>?_) (fun cdv A outer s H vs Q E hr h=>?_)
 ·obtain⟨p,x,m,n,rest,rfl,_⟩:=h
  rfl
 obtain⟨p,x,m,n,rest,rfl,hp,hm,hl,q⟩:=h
 refine⟨_,(zm (zJ (zch zgd (pv 0) (zba zp) (zba (zH vG zp (yt tD (yt (zbi T.XJ.d) (Vf (v:=.ref a.Vb) rfl T.Q8 rfl) (yt tD (pv 0) zp (fun _ _=>rfl)) (fun _ _=>rfl)) zp (fun _ _=>rfl))))))),?_⟩
 obtain⟨pt,hv,hpt⟩:=T.XJ.y x m n hm
 refine⟨_,rfl,1,rfl,_,rfl,p,_,0,_,rfl,rfl,tY.of hp,at0,x,.ref pt,.ref pt,rfl,rfl,hv,rfl,pt,_,0,_,rfl,rfl,hpt H,at0,1,(m:Int),rfl,rfl,_,rfl,p,_,rfl,tY.of hp,KY (by decide),fun z hz=>?_⟩
 rw[zgD hl]
 exact q z hz
theorem zdc (T:Txt P w K mg a):zB P w K mg base zX (k+1) a.tH a.tK vR Z2:=by
 refine T.VD.F.ok zcV (fun vs H Q E h=>?_) (fun cdv A outer s H vs Q E hr h=>?_)
 ·obtain⟨p,x,m,n,rest,rfl,_⟩:=h
  rfl
 obtain⟨p,x,m,n,rest,rfl,hp,hm,hl,q⟩:=h
 refine⟨_,(zm (zJ (zch zgd (pv 0) (zba (zH vG zp (yt tD (yt (zbi T.XJ.d) (Vf (v:=.ref a.Vb) rfl T.Q8 rfl) (yt tD (pv 0) zp (fun _ _=>rfl)) (fun _ _=>rfl)) zp (fun _ _=>rfl)))) zhH))),?_⟩
 obtain⟨pt,hv,hpt⟩:=T.XJ.y x m n hm
 refine⟨_,rfl,_,rfl,p,_,0,_,rfl,rfl,tY.of hp,at0,x,.ref pt,.ref pt,rfl,rfl,hv,rfl,pt,_,0,_,rfl,rfl,hpt H,at0,1,(m:Int),rfl,rfl,_,rfl,p,_,rfl,tY.of hp,KY (by omega),fun z hz=>?_⟩
 rw[zgE hl]
 exact q z hz
theorem Lk (T:Txt P w K mg a)(vZ:zB P w K mg base zX k a.tH a.tK vR Z2):zB P w K mg base zX (k+1) a.Zv a.Zw vU (YW K):=by
 refine T.XD.F.ok Yy (fun vs H Q E h=>?_) (fun cdv A outer s H vs Q E hr h=>?_)
 ·obtain⟨l,ss,ps,rfl,_⟩:=h
  rfl
 obtain⟨l,ss,ps,rfl,hl,hp,hz,q⟩:=h
 refine⟨_,(zf (zE 1 Yy.nd (uG zc))
   (zf (u6 PassesOwn.never rfl (xK (pv 0)) (yD (i:=2) Yy.nd rfl (Or.inl rfl)) (zm (yC (Yr PySem.F.plainAttrs_list PySem.F.slot_list_extend PySem.F.type_list_extend KJ (pv 1) (za (zu vZ hr T.VD (za (pv 2) zc)) zc)))))
   (zm (zJ (pv 1))))),?_⟩
 have pl:=uH hp
 refine⟨by show 0<=sizeLine;decide,fun f hf=>?_⟩
 have g0:=Same.new hf (.lst [])
 refine⟨_,rfl,l,rfl,⟨_,g0.seq hl⟩,?_⟩
 refine Yq (xs:=ps.map V.ref) (fun i σ H'=>∃(qs:List Addr) (f1:Option V),Same H H'/\H' f=some (.lst (qs.map V.ref))/\Paired (Tp H') ((ss.take i).flatMap Sn.parts) qs/\qs.length<=2*i/\i<=ss.length/\σ=[some (.ref l),some (.ref f),f1])
  ⟨[],_,g0,zj,.nil,by simp,zrh _,rfl⟩ ?_ ?_ ?_
 ·rintro i σ H' _ ⟨qs,f1,g,_⟩
  exact g.seq hl
 ·rintro i x σ H' hx ⟨qs,f1,g,hf',hqs,lq,li,rfl⟩
  rw[zqW] at hx
  cases ho:ps[i]? with
  | none=>rw[ho] at hx;cases hx
  | some p =>
   rw[ho] at hx
   cases hx
   obtain⟨sn,hsn,isp⟩:=Qe hp ho
   have hlt:=(zqX.mp hsn).1
   obtain⟨zs,c1,c2,c3,c4,c5⟩:=Qh (isp.mono (yW.of g))
   have lz:=uH c2
   have lp2:=Sn.Qg sn
   refine⟨_,rfl,.inl ⟨rfl,_,zZ.of hf'⟩,_,rfl,p,sn.word,sn.letters.length,sn.parts.length,_,rfl,c1,Zf sn,c3,fun b hb=>?_⟩
   rw[c5]
   have nfb:f≠b:=zy hf' hb
   have hf2:(upd H' b (.tup (zs.map V.ref))) f=some (.lst (qs.map V.ref)):=by rw[zA nfb];exact hf'
   refine⟨f,b,qs.map V.ref,zs.map V.ref,rfl,rfl,hf2,?_,?_,?_⟩
   ·exact tY.of zj
   ·rw[zqU,zqU]
    exact zrd (yq (by omega))
   ·refine⟨qs++zs,_,(g.trans (Same.new hb _)).over hf _,by rw[zj,zq8],?_,?_,hlt,rfl⟩
    ·rw[zY hsn,List.flatMap_append,List.flatMap_singleton]
     have t1:yW H' (upd (upd H' b (.tup (zs.map V.ref))) f (.lst (qs.map V.ref++zs.map V.ref))):=(yW.new hb _).trans (yW.lst hf2 _)
     exact PL (Wk (fun _ _ z=>z.mono t1) hqs) (Wk (fun _ _ z=>z.mono t1) c2)
    ·rw[zq2];omega
 ·rintro σ H' ⟨qs,f1,g,hf',hqs,lq,li,rfl⟩
  rw[zqU,<-pl,zrn] at hqs
  exact⟨_,rfl,q f H' qs g hf hf' hqs⟩
theorem zbY (T:Txt P w K mg a)(NT:zB P w K mg base zX k a.W9 a.Va Xh WX)(VG:zB P w K mg base zX k a.Zt a.Zu ud Yt)(vZ:zB P w K mg base zX k a.tH a.tK vR Z2) :
  zB P w K mg base zX (k+1) a.U4 a.U5 X8 Qi:=by
 refine T.M5.F.ok QD (fun vs H Q E h=>?_) (fun cdv A outer s H vs Q E hr h=>?_)
 ·obtain⟨p,s,rfl,_⟩:=h
  rfl
 obtain⟨p,sn,rfl,isp,hle,q⟩:=h
 refine⟨_,(zf (yF (PW.pt (T8 (zM yX (zN zK rfl T.wI yO (za (pv 0) zc)) zp (zQ _)) (T8 (Wj (uL (zN Ml rfl T.Q9 T9 (za (yt tD (pv 0) zp (fun _ _=>rfl)) (za (zes (v:=.ty "str") rfl T.zlT zjV rfl) zc))) (fun _=>rfl))) (Ua (zM (J8 T.XJ.d) (yt tD (pv 0) zp (fun _ _=>rfl)) (Vf (v:=.ref a.Vb) rfl T.Q8 rfl) (by with_unfolding_all rfl)))))) (zm (zJ RQ)) zU)
   (zf (zE 1 QD.nd (yt (zbi T.XJ.d) (Vf (v:=.ref a.Vb) rfl T.Q8 rfl) (yt tD (pv 0) zp (fun _ _=>rfl)) (fun _ _=>rfl)))
   (zf (yF (zM Mg (zN zK rfl T.wI yO (za (pv 0) zc)) (zH vG (zH vG zp (yt tD (pv 1) zp (fun _ _=>rfl))) (yt tD (pv 1) zp (fun _ _=>rfl))) (zQ _)) (zm (zJ RQ)) zU)
   (zf (yF (Wj (uL (zN (Ys rfl) rfl T.M8 Ug (za (Z0 (tZ:=zq X7) (js:=[]) rfl (by show XR _ _ "letter" [];exact lco (by decide +kernel)) rfl (zdz (zu VG hr T.VB (za (pv 0) zc))) (by show ∀j∈([]:List Nat),j<2;decide) (fun cl C s₂ H₂ fp=>(zu NT hr T.NP (za (pv 0) zc)))) zc)) (fun _=>rfl))) (zm (zJ RQ)) zU)
   (zm (zJ (zN (Ys rfl) rfl T.M8 Ug (za (Z0 (tZ:=zq X7) (js:=[]) rfl (by show XR _ _ "part" [];exact lco (by decide +kernel)) rfl (zdz (zu vZ hr T.VD (za (pv 0) zc))) (by show ∀j∈([]:List Nat),j<2;decide) (fun cl C s₂ H₂ fp=>(zN (zbp (K:=K) rfl) rfl T.Q9 T9 (za (pv 0) (za (zes (v:=.ty "tuple") rfl T.ziP zgu rfl) zc))))) zc)))))))),?_⟩
 obtain⟨zs,c1,c2,c3,c4,c5⟩:=Qh isp
 have lz:=uH c2
 obtain⟨pt,hv,hpt⟩:=T.XJ.y _ _ _ (Zf sn)
 have lp2:=Sn.Qg sn
 have ll1:=Sn.KZ sn
 refine⟨_,rfl,p,_,rfl,.inr (tY.of c1),rfl,_,rfl,yj (fun c=>?_) (fun _=>?_)⟩
 ·exfalso
  have:=of_decide_eq_true c
  injection this with this
  rw[zq6] at this
  omega
 refine⟨_,rfl,p,_,0,_,rfl,rfl,tY.of c1,at0,_,_,_,true,rfl,.str sn.word,rfl,_,rfl,Pz ?_⟩
 refine⟨_,rfl,p,_,0,_,rfl,rfl,tY.of c1,at0,sn.word,rfl,rfl,_,rfl,?_⟩
 rw[hv]
 refine Pz ?_
 refine⟨_,rfl,p,_,0,_,rfl,rfl,tY.of c1,at0,sn.word,.ref pt,.ref pt,rfl,rfl,hv,rfl,?_⟩
 refine⟨_,rfl,p,_,rfl,.inr (tY.of c1),_,rfl,pt,_,0,_,rfl,rfl,hpt H,at0,1,_,rfl,rfl,_,rfl,pt,_,1,_,rfl,rfl,hpt H,at1,_,_,rfl,rfl,rfl,_,rfl,yj (fun c=>?_) (fun _=>?_)⟩
 ·exfalso
  have z:V.int ((VC sn zs).length:Nat)=V.int (1+((sn.letters.length:Nat):Int)+((sn.parts.length:Nat):Int)):=by
   congr 1
   show(((V.str sn.word::(sn.letters.map V.str++zs.map V.ref)).length:Nat):Int)=_
   rw[zq6,c3]
   omega
  have c':(!decide (V.int ((VC sn zs).length:Nat)=V.int (1+((sn.letters.length:Nat):Int)+((sn.parts.length:Nat):Int))))=true:=c
  rw[decide_eq_true z] at c'
  cases c'
 refine⟨_,rfl,p,sn.word,sn.letters.length,sn.parts.length,_,rfl,c1,Zf sn,c3,fun b hb=>?_⟩
 rw[c4]
 have g1:=Same.new hb (.tup (sn.letters.map V.str))
 refine⟨b,rfl,⟨_,tY.of zj⟩,zeJ (xs:=sn.letters.map V.str) (fun _ v=>v=.bl true) (tY.of zj) (by rw[zqU];exact zrd (yq (by omega))) ?_ (zgC Ms) ?_⟩
 ·intro i x H' hx g
  rw[zqW] at hx
  cases ho:sn.letters[i]? with
  | none=>rw[ho] at hx;cases hx
  | some y =>
   rw[ho] at hx
   cases hx
   refine⟨_,rfl,y,rfl,?_,g⟩
   rw[decide_eq_true (hle y (zqZ ho))]
 intro ys H' p2 hr' g hp2
 have e:=PN (f:=fun _=>.bl true) hr'
 have e2:ys=(sn.letters.map fun _=>true).map V.bl:=by rw[e,zrw,zrw];rfl
 subst e2
 have g2:=Same.new hp2 (.lst ((sn.letters.map fun _=>true).map V.bl))
 have ea:(sn.letters.map fun _=>true).all id=true:=by rw[List.all_map,zro];exact fun _ _=>rfl
 refine⟨p2,_,rfl,zZ.of zj,_,rfl,?_⟩
 rw[ea]
 refine Pz ?_
 have gg:=(g1.trans g).trans g2
 have c1':=gg _ _ c1
 refine⟨_,rfl,p,sn.word,sn.letters.length,sn.parts.length,_,rfl,c1',Zf sn,c3,fun b3 hb3=>?_⟩
 rw[c5]
 have g3:=Same.new hb3 (.tup (zs.map V.ref))
 refine⟨b3,rfl,⟨_,tY.of zj⟩,zeJ (xs:=zs.map V.ref) (fun _ v=>v=.bl true) (tY.of zj) (by rw[zqU];exact zrd (yq (by omega))) ?_ ?_ ?_⟩
 ·intro i x H4 hx g4
  rw[zqW] at hx
  cases ho:zs[i]? with
  | none=>rw[ho] at hx;cases hx
  | some y =>
   rw[ho] at hx
   cases hx
   obtain⟨sy,_,iy⟩:=Qe c2 ho
   obtain⟨ws,d1,_⟩:=Qh iy
   have d1':=((gg.trans g3).trans g4) _ _ d1
   exact⟨_,rfl,_,_,_,true,rfl,.tup d1',rfl,rfl,g4⟩
 ·rintro σ' H' Q1 Q2 hQ ⟨v,e,x,T',t,b',h1,h2,h3,h4⟩
  exact⟨v,e,x,T',t,b',h1,h2,h3,hQ _ _ h4⟩
 ·intro ys H4 p4 hr4 g4 hp4
  have e:=PN (f:=fun _=>.bl true) hr4
  have e2:ys=(zs.map fun _=>true).map V.bl:=by rw[e,zrw,zrw];rfl
  subst e2
  have ea:(zs.map fun _=>true).all id=true:=by rw[List.all_map,zro];exact fun _ _=>rfl
  refine⟨p4,_,rfl,zZ.of zj,?_⟩
  rw[ea]
  exact q _ (((gg.trans g3).trans g4).trans (Same.new hp4 _))
theorem JB (T:Txt P w K mg a)(zdd:zB P w K mg base zX k a.U4 a.U5 X8 Qi)(XM:zB P w K mg base zX k a.Zv a.Zw vU (YW K)) :
  zB P w K mg base zX (k+1) a.Wt a.Wu Yi zbs:=by
 refine T.SQ.F.ok xQ (fun vs H Q E h=>?_) (fun cdv A outer s H vs Q E hr h=>?_)
 ·obtain⟨p,s,rfl,_⟩:=h
  rfl
 obtain⟨p,sn,rfl,isp,hin,hc,hd,q⟩:=h
 refine⟨_,(zf (zE 1 xQ.nd (uG (za (pv 0) zc)))
   (zf (zE 2 xQ.nd zp)
   (zf (zE 3 xQ.nd zp)
   (zf (RW PassesOwn.never (zM zau (zN zK rfl T.wI yO (za (pv 1) zc)) zp (zQ _)) (zf (zdw (i:=2) xQ.nd rfl (Or.inl rfl) zp za8)
   (zf (zdw (i:=3) xQ.nd rfl (Or.inl rfl) (zN zK rfl T.wI yO (za (pv 1) zc)) za8)
   (zf (yF (PW.pt (T8 (zM zau (pv 2) (Vf (v:=.int 24) rfl T.zc8 ⟨_,rfl⟩) (zQ _)) (Ua (zM zau (pv 3) (Vf (v:=.int 200) rfl T.zah ⟨_,rfl⟩) (zQ _))))) (zm (zJ RQ)) zU)
   (zf (yF (Wj (uL (zN (Ys rfl) rfl T.M8 Ug (za (Z0 (tZ:=zq Wo) (js:=[]) rfl (by show XR _ _ "part" [];exact lco (by decide +kernel)) rfl (xK (pv 1)) (by show ∀j∈([]:List Nat),j<4;decide) (fun cl C s₂ H₂ fp=>(zu zdd hr T.M5 (za (pv 0) zc)))) zc)) (fun _=>rfl))) (zm (zJ RQ)) zU)
   (zm (zE 1 xQ.nd (zu XM hr T.XD (za (pv 1) zc)))))))))
   (zm (zJ RQ)))))),?_⟩
 refine⟨_,rfl,by show 1<=sizeLine;decide,fun l0 hl0=>?_⟩
 have g0:=Same.new hl0 (.lst [.ref p])
 refine⟨fun m σ H'=>∃(ss:List Sn) (ps:List Addr) (l:Addr) (d t:Nat),m=cnt ss/\Same H H'/\H' l=some (.lst (ps.map V.ref))/\Paired (Tp H') ss ps/\(∀u∈ss,u.RN vK/\d+u.depth<=24)/\t+cnt ss<=200/\σ=[some (.ref p),some (.ref l),some (.int d),some (.int t)],
  ⟨_,[sn],[p],l0,0,0,rfl,g0,zj,.cons (isp.mono (yW.of g0)) .nil,?_,?_,rfl⟩,?_⟩
 ·intro u hu
  have e:u=sn:=by simpa using hu
  subst e
  exact⟨hin,by omega⟩
 ·show 0+(sn.count+0)<=200
  omega
 rintro m σ H' ⟨ss,ps,l,d,t,rfl,g,hl,hp,hi,ht,rfl⟩
 have lp:=uH hp
 have le:(ps.map V.ref).length=ss.length:=by rw[zqU];exact lp.symm
 have cl:=zeK ss
 refine⟨_,rfl,l,_,rfl,.inl (zZ.of hl),_,_,rfl,rfl,_,rfl,yj (fun c=>?_) (fun c=>?_)⟩
 ·have c':0<ss.length:=by have:=of_decide_eq_true c;rw[le] at this;omega
  have hd1:d+1<=24:=by
   have hm:ss[0]∈ss:=List.getElem_mem c'
   have:=(hi _ hm).2
   have:=Sn.PJ ss[0]
   omega
  refine⟨_,fun σ' H2 h=>h,?_⟩
  refine⟨_,rfl,(d:Int),1,rfl,rfl,?_⟩
  refine⟨_,rfl,_,rfl,l,_,rfl,.inl (zZ.of hl),(t:Int),_,rfl,rfl,?_⟩
  refine⟨_,rfl,_,_,rfl,rfl,_,rfl,yj (fun c2=>?_) (fun _=>?_)⟩
  ·exfalso
   have:=of_decide_eq_true c2
   omega
  refine⟨_,rfl,_,_,rfl,rfl,_,rfl,yj (fun c2=>?_) (fun _=>?_)⟩
  ·exfalso
   have:=of_decide_eq_true c2
   rw[le] at this
   omega
  refine⟨_,rfl,l,rfl,⟨_,zZ.of hl⟩,zbo (fun _ v=>v=.bl true) (zZ.of hl) (by rw[le];exact zrd (yq (by omega))) ?_ (zgC zcr) ?_⟩
  ·intro i x H2 hx g2
   rw[zqW] at hx
   cases ho:ps[i]? with
   | none=>rw[ho] at hx;cases hx
   | some y =>
    rw[ho] at hx
    cases hx
    obtain⟨sy,hsy,iy⟩:=Qe hp ho
    exact⟨_,rfl,y,sy,rfl,iy.mono (yW.of g2),Sn.zcl sy (hi sy (zqZ hsy)).1,fun H3 g3=>⟨rfl,g2.trans g3⟩⟩
  intro ys H2 p2 hr' g2 hp2
  have e:=PN (f:=fun _=>.bl true) hr'
  have e2:ys=(ps.map fun _=>true).map V.bl:=by rw[e,zrw,zrw];rfl
  subst e2
  have g3:=Same.new hp2 (.lst ((ps.map fun _=>true).map V.bl))
  have ea:(ps.map fun _=>true).all id=true:=by rw[List.all_map,zro];exact fun _ _=>rfl
  refine⟨p2,_,rfl,zZ.of zj,_,rfl,?_⟩
  rw[ea]
  refine Pz ?_
  have gg:=g2.trans g3
  refine⟨_,rfl,l,ss,ps,rfl,gg.seq (zZ.of hl),Wk (fun _ _ z=>z.mono (yW.of gg)) hp,by omega,fun l' H4 ps' g4 hn hl' hp'=>?_⟩
  have cp:=Tq ss
  refine⟨cnt (ss.flatMap Sn.parts),by omega,ss.flatMap Sn.parts,ps',l',d+1,t+(ps.map V.ref).length,rfl,(g.trans gg).trans g4,hl',hp',?_,by omega,rfl⟩
  intro u hu
  obtain⟨s',hs',hu'⟩:=PX.mp hu
  obtain⟨i1,i2⟩:=hi s' hs'
  have:=Sn.Uh s' u hu'
  exact⟨Sn.zaD s' i1 u hu',by omega⟩
 ·exact q _ g
theorem NZ (T:Txt P w K mg a)(zee:zB P w K mg base zX k a.Rw a.Rx Vu (P0 K)):zB P w K mg base zX (k+1) a.Yz a.YB uV (Uk K):=by
 refine T.V2.F.ok Nq (fun vs H Q E h=>?_) (fun cdv A outer s H vs Q E hr h=>?_)
 ·obtain⟨l,os,rfl,_⟩:=h
  rfl
 obtain⟨l,os,rfl,hq,ho,q⟩:=h
 refine⟨_,(zm (yF (Wj (uL (zu zee hr T.Jx (za (pv 0) zc)) (fun _=>rfl))) (zm WL) zU)),?_⟩
 refine⟨_,rfl,l,os,rfl,hq,zrg ho.le (by decide),fun H' g=>⟨_,rfl,?_⟩⟩
 rw[zh6 ho]
 exact Pz (q H' g)
theorem T7 (T:Txt P w K mg a)(zaj:zB P w K mg base zX k a.Wt a.Wu Yi zbs):zB P w K mg base zX (k+1) a.tL a.tO vg Nb:=by
 refine T.XF.F.ok T6 (fun vs H Q E h=>?_) (fun cdv A outer s H vs Q E hr h=>?_)
 ·obtain⟨p,s,rfl,_⟩:=h
  rfl
 obtain⟨p,sn,rfl,h1,h2,h3,h4,q⟩:=h
 refine⟨_,(zm (yF (Wj (uL (zu zaj hr T.SQ (za (pv 0) zc)) (fun _=>rfl))) (zm WL) zU)),?_⟩
 exact⟨_,rfl,p,sn,rfl,h1,h2,h3,h4,fun H' g=>⟨_,rfl,Pz (q H' g)⟩⟩
theorem zbZ (T:Txt P w K mg a)(XM:zB P w K mg base zX k a.Zv a.Zw vU (YW K)):zB P w K mg base zX (k+1) a.U6 a.U7 Wb Rg:=by
 refine T.M6.F.ok Y5 (fun vs H Q E h=>?_) (fun cdv A outer s H vs Q E hr h=>?_)
 ·obtain⟨p,s,rfl,_⟩:=h
  rfl
 obtain⟨p,sn,rfl,isp,hc,q⟩:=h
 refine⟨_,(zf (zE 1 Y5.nd (uG zc))
   (zf (zE 2 Y5.nd (uG (za (pv 0) zc)))
   (zf (RW PassesOwn.never (zM zau (zN zK rfl T.wI yO (za (pv 2) zc)) zp (zQ _)) (zf (yC (Yr PySem.F.plainAttrs_list PySem.F.slot_list_extend PySem.F.type_list_extend zaB (pv 1) (za (pv 2) zc)))
   (zm (zE 2 Y5.nd (zu XM hr T.XD (za (pv 2) zc))))))
   (zm (zJ (pv 1)))))),?_⟩
 refine⟨by show 0<=sizeLine;decide,fun f hf=>?_⟩
 refine⟨_,rfl,by show 1<=sizeLine;decide,fun l0 hl0=>?_⟩
 have g0:=(Same.new hf (.lst [])).trans (Same.new hl0 (.lst [.ref p]))
 have nfl:f≠l0:=zy zj hl0
 refine⟨fun m σ H'=>∃(ts ss:List Sn) (qs ps:List Addr) (l:Addr),m=cnt ss/\Same H H'/\H' f=some (.lst (qs.map V.ref))/\H' l=some (.lst (ps.map V.ref))/\f≠l/\Paired (Tp H') ts qs/\Paired (Tp H') ss ps/\ts.length+cnt ss=sn.count /\
   (∀x,((∃t∈ts,x∈t.letters)\/∃u∈ss,x∈u.all)↔x∈sn.all)/\σ=[some (.ref p),some (.ref f),some (.ref l)],
  ⟨_,[],[sn],[],[p],l0,rfl,g0,by rw[zA nfl];exact zj,zj,nfl,.nil,.cons (isp.mono (yW.of g0)) .nil,?_,?_,rfl⟩,?_⟩
 ·show 0+(sn.count+0)=sn.count
  omega
 ·intro x
  simp
 rintro m σ H' ⟨ts,ss,qs,ps,l,rfl,g,hf',hl,nfl,hts,hss,hcn,hle,rfl⟩
 have lt:=uH hts
 have lp:=uH hss
 have cl:=zeK ss
 have le:(ps.map V.ref).length=ss.length:=by rw[zqU];exact lp.symm
 refine⟨_,rfl,l,_,rfl,.inl (zZ.of hl),_,_,rfl,rfl,_,rfl,yj (fun c=>?_) (fun c=>?_)⟩
 ·have c':0<ss.length:=by have:=of_decide_eq_true c;rw[le] at this;omega
  refine⟨_,fun σ' H2 h=>h,?_⟩
  refine⟨_,rfl,.inl ⟨rfl,_,zZ.of hf'⟩,_,rfl,f,l,_,_,rfl,rfl,hf',hl,by rw[zqU,zqU];exact zrd (yq (by omega)),?_⟩
  have t1:yW H' (upd H' f (.lst (qs.map V.ref++ps.map V.ref))):=yW.lst hf' _
  have g1:Same H (upd H' f (.lst (qs.map V.ref++ps.map V.ref))):=g.over hf _
  have hl1:(upd H' f (.lst (qs.map V.ref++ps.map V.ref))) l=some (.lst (ps.map V.ref)):=by rw[zA (Ne.symm nfl)];exact hl
  refine⟨_,rfl,l,ss,ps,rfl,zZ.of hl1,Wk (fun _ _ z=>z.mono t1) hss,by omega,fun l' H3 ps' g3 hn hl' hp'=>?_⟩
  have cp:=Tq ss
  have t3:=t1.trans (yW.of g3)
  refine⟨cnt (ss.flatMap Sn.parts),by omega,ts++ss,ss.flatMap Sn.parts,qs++ps,ps',l',rfl,g1.trans g3,by rw[zq8];exact g3 _ _ zj,hl',zy zj hn,
   PL (Wk (fun _ _ z=>z.mono t3) hts) (Wk (fun _ _ z=>z.mono t3) hss),hp',by rw[zq2];omega,fun x=>?_,rfl⟩
  rw[<-hle x]
  constructor
  ·rintro (⟨t,ht,hx⟩ | ⟨u,hu,hx⟩)
   ·rcases List.mem_append.mp ht with z | z
    ·exact .inl ⟨t,z,hx⟩
    ·exact .inr ⟨t,z,(Sn.zbq t x).mpr (.inl hx)⟩
   ·obtain⟨s',hs',hu'⟩:=PX.mp hu
    exact .inr ⟨s',hs',(Sn.zbq s' x).mpr (.inr ⟨u,hu',hx⟩)⟩
  ·rintro (⟨t,ht,hx⟩ | ⟨u,hu,hx⟩)
   ·exact .inl ⟨t,List.mem_append_left _ ht,hx⟩
   ·rcases (Sn.zbq u x).mp hx with z | ⟨v,hv,z⟩
    ·exact .inl ⟨u,zrb _ hu,z⟩
    ·exact .inr ⟨v,PX.mpr ⟨u,hu,hv⟩,z⟩
 ·have c':ss=[]:=by
   have:¬ 0<ss.length:=fun z=>c (decide_eq_true (by rw[le];omega))
   exact List.length_eq_zero_iff.mp (by omega)
  subst c'
  refine⟨_,rfl,q f H' ts qs g hf hf' hts ?_ fun x=>?_⟩
  ·have:cnt []=0:=rfl
   omega
  ·rw[<-hle x]
   constructor
   ·exact fun z=>.inl z
   ·rintro (z | ⟨u,hu,_⟩)
    ·exact z
    ·cases hu
theorem zak (T:Txt P w K mg a)(zde:zB P w K mg base zX k a.U6 a.U7 Wb Rg)(VG:zB P w K mg base zX k a.Zt a.Zu ud Yt):zB P w K mg base zX (k+1) a.Vw a.Vx Y6 Ul:=by
 refine T.Q6.F.ok Wq (fun vs H Q E h=>?_) (fun cdv A outer s H vs Q E hr h=>?_)
 ·obtain⟨p,s,rfl,_⟩:=h
  rfl
 obtain⟨p,sn,rfl,isp,hc,q⟩:=h
 refine⟨_,(zf (zE 1 Wq.nd (uG zc))
   (zf (u6 PassesOwn.never rfl (xK (zu zde hr T.M6 (za (pv 0) zc))) (yD (i:=2) Wq.nd rfl (Or.inl rfl)) (zm (yC (Yr PySem.F.plainAttrs_list PySem.F.slot_list_extend PySem.F.type_list_extend KJ (pv 1) (za (zu VG hr T.VB (za (pv 2) zc)) zc)))))
   (zm (zJ (pv 1))))),?_⟩
 refine⟨by show 0<=sizeLine;decide,fun f hf=>?_⟩
 have g0:=Same.new hf (.lst [])
 refine⟨_,rfl,p,sn,rfl,isp.mono (yW.of g0),hc,fun l H1 ts ps g1 hn hl hts htl hle=>?_⟩
 have nfl:f≠l:=zy zj hn
 have lt:=uH hts
 refine⟨l,rfl,⟨_,zZ.of hl⟩,?_⟩
 refine Yq (xs:=ps.map V.ref) (fun i σ H'=>∃(f1:Option V),Same H H'/\H' f=some (.lst (((ts.take i).flatMap Sn.letters).map V.str))/\H' l=some (.lst (ps.map V.ref))/\Paired (Tp H') ts ps/\((ts.take i).flatMap Sn.letters).length<=i/\i<=ts.length/\σ=[some (.ref p),some (.ref f),f1])
  ⟨_,g0.trans g1,g1 _ _ zj,hl,hts,by simp,zrh _,rfl⟩ ?_ ?_ ?_
 ·rintro i σ H' _ ⟨f1,g,hf',hl',_⟩
  exact zZ.of hl'
 ·rintro i x σ H' hx ⟨f1,g,hf',hl',hts',lq,li,rfl⟩
  rw[zqW] at hx
  cases ho:ps[i]? with
  | none=>rw[ho] at hx;cases hx
  | some pp =>
   rw[ho] at hx
   cases hx
   obtain⟨sy,hsy,iy⟩:=Qe hts' ho
   have hlt:=(zqX.mp hsy).1
   obtain⟨zs,c1,c2,c3,c4,c5⟩:=Qh iy
   have l1:=Sn.KZ sy
   refine⟨_,rfl,.inl ⟨rfl,_,zZ.of hf'⟩,_,rfl,pp,sy.word,sy.letters.length,sy.parts.length,_,rfl,c1,Zf sy,c3,fun b hb=>?_⟩
   rw[c4]
   have hf2:(upd H' b (.tup (sy.letters.map V.str))) f=some (.lst (((ts.take i).flatMap Sn.letters).map V.str)):=by rw[zA (zy hf' hb)];exact hf'
   refine⟨f,b,_,sy.letters.map V.str,rfl,rfl,hf2,tY.of zj,?_,?_⟩
   ·rw[zqU,zqU]
    exact zrd (yq (by omega))
   ·have t1:yW H' (upd (upd H' b (.tup (sy.letters.map V.str))) f (.lst (((ts.take i).flatMap Sn.letters).map V.str++sy.letters.map V.str))):=(yW.new hb _).trans (yW.lst hf2 _)
    have e:(ts.take (i+1)).flatMap Sn.letters=(ts.take i).flatMap Sn.letters++sy.letters:=by rw[zY hsy,List.flatMap_append,List.flatMap_singleton]
    refine⟨_,(g.trans (Same.new hb _)).over hf _,by rw[zj,e,zq8],?_,Wk (fun _ _ z=>z.mono t1) hts',by rw[e,zq2];omega,hlt,rfl⟩
    rw[zA (Ne.symm nfl),zA (zy hl' hb)]
    exact hl'
 ·rintro σ H' ⟨f1,g,hf',hl',hts',lq,li,rfl⟩
  rw[zqU,<-lt,zrn] at hf' lq
  refine⟨_,rfl,q f H' _ g hf hf' (fun x=>?_) (by omega)⟩
  rw[<-hle x,List.mem_flatMap]
theorem Pa (T:Txt P w K mg a):zB P w K mg base zX (k+1) a.uw a.uz wO (Vl K):=by
 refine T.Vd.F.ok QF (fun vs H Q E h=>?_) (fun cdv A outer s H vs Q E hr h=>?_)
 ·obtain⟨l,x,os,rfl,_⟩:=h
  rfl
 obtain⟨l,x,os,rfl,hO,hx,q⟩:=h
 refine⟨_,(zm (yF (zM R8 (pv 1) (pv 0) (by with_unfolding_all rfl)) (zm WL) zU)),?_⟩
 refine⟨_,rfl,_,rfl,l,_,rfl,.inl hO,rfl,WW _,_,rfl,?_⟩
 have e:(if true=true then !inV (.str x) (os.map V.str) else inV (.str x) (os.map V.str))=false:=by
  rw[if_pos rfl,zcp,decide_eq_true hx];rfl
 rw[e]
 exact Pz q
theorem RG (T:Txt P w K mg a)(zb0:zB P w K mg base zX k a.Vw a.Vx Y6 Ul)(N5:zB P w K mg base zX k a.uw a.uz wO (Vl K)):zB P w K mg base zX (k+1) a.Zx a.Zy vL (Um K):=by
 refine T.Wi.F.ok Xu (fun vs H Q E h=>?_) (fun cdv A outer s H vs Q E hr h=>?_)
 ·obtain⟨l,p,os,s,rfl,_⟩:=h
  rfl
 obtain⟨l,p,os,sn,rfl,hO,isp,hc,hin,q⟩:=h
 refine⟨_,(zm (u6 PassesOwn.never rfl (xK (zu zb0 hr T.Q6 (za (pv 1) zc))) (yD (i:=2) Xu.nd rfl (Or.inl rfl)) (zm (yC (zu N5 hr T.Vd (za (pv 0) (za (pv 2) zc))))))),?_⟩
 refine⟨_,rfl,p,sn,rfl,isp,hc,fun f H1 xs g1 hn hl hmem hxl=>?_⟩
 refine⟨f,rfl,⟨_,zZ.of hl⟩,?_⟩
 refine Yq (xs:=xs.map V.str) (fun i σ H'=>∃f1:Option V,H'=H1/\σ=[some (.ref l),some (.ref p),f1]) ⟨_,rfl,rfl⟩ ?_ ?_ ?_
 ·rintro i σ H' _ ⟨f1,rfl,_⟩
  exact zZ.of hl
 ·rintro i x σ H' hx ⟨f1,rfl,rfl⟩
  rw[zqW] at hx
  cases ho:xs[i]? with
  | none=>rw[ho] at hx;cases hx
  | some y =>
   rw[ho] at hx
   cases hx
   have hy:y∈os:=(Sn.Vk sn).mp hin y ((hmem y).mp (zqZ ho))
   exact⟨_,rfl,_,rfl,l,y,os,rfl,g1.seq hO,hy,_,rfl,rfl⟩
 ·rintro σ H' ⟨f1,rfl,rfl⟩
  exact q _ g1
theorem Ln (T:Txt P w K mg a):zB P w K mg base zX (k+1) a.vW a.vX wQ zcs:=by
 refine T.Tc.F.ok Li (fun vs H Q E h=>?_) (fun cdv A outer s H vs Q E hr h=>?_)
 ·obtain⟨o,N,M,n,f,g,rfl,_⟩:=h
  rfl
 obtain⟨o,N,M,n,f,g,rfl,hN,hM,q⟩:=h
 refine⟨_,(zf (yF (zM yX (pv 0) z9 (zQ _)) (zm (zJ (zH v7 (pv 1) (pv 2)))) zU)
   (zf (yF (zM yX (pv 0) z9 (zQ _)) (zm (zJ (zH Z1 (pv 1) (pv 2)))) zU)
   (zf (yF (zM yX (pv 0) z9 (zQ _)) (zm (zJ (zH Ye (pv 1) (pv 2)))) zU)
   (zm (zJ (zH Z1 (zH Ye (pv 3) (pv 1)) (pv 2))))))),?_⟩
 rcases znj o with e | e | e | e
 ·subst e
  exact⟨_,rfl,rfl,_,rfl,yj (fun _=>⟨_,rfl,_,rfl,N,M,rfl,rfl,q _ (vJ hN hM)⟩) (fun c=>absurd (decide_eq_true rfl) c)⟩
 ·subst e
  refine⟨_,rfl,rfl,_,rfl,yj (fun c=>absurd c (ne_str (show Str.ofString "or" ≠ Str.ofString "and" by decide +kernel))) (fun _=>?_)⟩
  exact⟨_,rfl,rfl,_,rfl,yj (fun _=>⟨_,rfl,_,rfl,N,M,rfl,rfl,q _ (Yw hN hM)⟩) (fun c=>absurd (decide_eq_true rfl) c)⟩
 ·subst e
  refine⟨_,rfl,rfl,_,rfl,yj (fun c=>absurd c (ne_str (show Str.ofString "either" ≠ Str.ofString "and" by decide +kernel))) (fun _=>?_)⟩
  refine⟨_,rfl,rfl,_,rfl,yj (fun c=>absurd c (ne_str (show Str.ofString "either" ≠ Str.ofString "or" by decide +kernel))) (fun _=>?_)⟩
  exact⟨_,rfl,rfl,_,rfl,yj (fun _=>⟨_,rfl,_,rfl,N,M,rfl,rfl,q _ (Ze hN hM)⟩) (fun c=>absurd (decide_eq_true rfl) c)⟩
 ·subst e
  refine⟨_,rfl,rfl,_,rfl,yj (fun c=>absurd c (ne_str (show Str.ofString "if" ≠ Str.ofString "and" by decide +kernel))) (fun _=>?_)⟩
  refine⟨_,rfl,rfl,_,rfl,yj (fun c=>absurd c (ne_str (show Str.ofString "if" ≠ Str.ofString "or" by decide +kernel))) (fun _=>?_)⟩
  refine⟨_,rfl,rfl,_,rfl,yj (fun c=>absurd c (ne_str (show Str.ofString "if" ≠ Str.ofString "either" by decide +kernel))) (fun _=>?_)⟩
  refine⟨_,rfl,_,rfl,_,N,rfl,rfl,_,rfl,_,M,rfl,rfl,q _ (zV (Yw (Ze (Vj n) hN) hM) fun b _=>?_)⟩
  show((true != f b)||g b)=(!f b||g b)
  cases f b<;>rfl
theorem zal {d:Nat}(T:Txt P w K mg a)(yx:zB P w K mg base zX k a.vm a.vo wD v8)(xM:zB P w K mg base zX k a.wZ a.vd wu vN)
  (uF:zB P w K mg base zX k a.Xi a.Xj Z4 Xd)(vZ:zB P w K mg base zX k a.tH a.tK vR Z2)
  (ZK:zB P w K mg base zX k a.vW a.vX wQ zcs)
  (RJ:zB P w K mg base zX k a.Xz a.XC Z5 (Vn K d)):zB P w K mg base zX (k+1) a.Xz a.XC Z5 (Vn K (d+1)):=by
 refine T.RB.F.ok Wc (fun vs H Q E h=>?_) (fun cdv A outer s H vs Q E hr h=>?_)
 ·obtain⟨p,l,sn,os,rfl,_⟩:=h
  rfl
 obtain⟨p,l,sn,os,rfl,isp,hO,hin,h8,hd,q⟩:=h
 refine⟨_,(zf (zE 2 Wc.nd (yt tD (pv 0) zp (fun _ _=>rfl)))
   (zf (zE 3 Wc.nd (zN zK rfl T.wI yO (za (pv 1) zc)))
   (zf (yF (zM yX (pv 2) z9 (zQ _)) (zm (zJ zp)) zU)
   (zf (yF (zM yX (pv 2) z9 (zQ _)) (zm (zJ (zu yx hr T.vY (za (pv 3) zc)))) zU)
   (zf (yF (zM yX (pv 2) z9 (zQ _)) (zm (zJ (zu xM hr T.Yv (za (Yr PySem.F.plainAttrs_list PySem.F.slot_list_index PySem.F.type_list_index KH (pv 1) (za (yt tD (pv 0) zp (fun _ _=>rfl)) zc)) (za (pv 3) zc))))) zU)
   (zf (KC (tt:=Le) (i:=4) Wc.nd rfl (Or.inl rfl) (.inl rfl) (tZ:=zq Rt) (js:=[1]) rfl (by show XR _ _ "part" ["order"];exact lco (by decide +kernel)) rfl (zdz (zu vZ hr T.VD (za (pv 0) zc))) (by show ∀j∈([1]:List Nat),j<5;decide) (fun cl C s₂ H₂ fp pins s' σ' H' Q I h=>wpAny_pure ⟨H',I,h⟩) (fun cl C s₂ H₂ fp=>(zu RJ hr T.RB (za (pv 0) (za (pv 1) zc)))) rfl)
   (zf (yF (zM yX (pv 2) z9 (zQ _)) (zm (zJ (zH Ye (zu yx hr T.vY (za (pv 3) zc)) (yt yU (pv 4) zp (fun _ _=>rfl))))) zU)
   (zf (yF (zM yX (pv 2) z9 (zQ _)) (zm (zJ (zH Z1 (yt yU (pv 4) zp (fun _ _=>rfl)) (zu uF hr T.Vc (za (yt yU (pv 4) zp (fun _ _=>rfl)) (za (Yr PySem.F.plainAttrs_list PySem.F.slot_list_index PySem.F.type_list_index KH (pv 1) (za (yt tD (pv 0) zp (fun _ _=>rfl)) zc)) (za (pv 3) zc))))))) zU)
   (zf (yF (zM yX (pv 2) z9 (zQ _)) (zm (zJ (zH v7 (yt yU (pv 4) zp (fun _ _=>rfl)) (zu uF hr T.Vc (za (yt yU (pv 4) zp (fun _ _=>rfl)) (za (Yr PySem.F.plainAttrs_list PySem.F.slot_list_index PySem.F.type_list_index KH (pv 1) (za (yt tD (pv 0) zp (fun _ _=>rfl)) zc)) (za (pv 3) zc))))))) zU)
   (zm (zJ (zu ZK hr T.Tc (za (pv 2) (za (yt yU (pv 4) zp (fun _ _=>rfl)) (za (yt yU (pv 4) zp (fun _ _=>rfl)) (za (zu yx hr T.vY (za (pv 3) zc)) zc)))))))))))))))),?_⟩
 have hlen:(os.map V.str).length=os.length:=zqU _
 obtain⟨zs,c1,c2,c3,c4,c5⟩:=Qh isp
 have lz:=uH c2
 have lp2:=Sn.Qg sn
 refine⟨_,rfl,p,_,0,_,rfl,rfl,tY.of c1,at0,?_⟩
 refine⟨_,rfl,l,_,rfl,.inl hO,?_⟩
 rw[hlen]
 have comp:∀{σ:St} {Q2:Addr->Hp->List V->Prop},σ.getD 1 none=some (.ref l)->(∀(b:Addr) (ys:List V) (H':Hp),Same H H'->H' b=none->ys.length=sn.parts.length->(∀(j:Nat) v,ys[j]?=some v->∃t N,sn.parts[j]?=some t/\v=.int (N:Nat)/\TabOf os t N)->Q2 b H' ys) ->
   ∀b0,H b0=none->∃W:Nat->Nat->List V->Hp->Prop,(∃m,W 0 m [] (upd H b0 (.tup (zs.map V.ref))))/\∀i m ys H,W i m ys H ->
    ((Itt K b0).stop i H/\∀p,H p=none->Q2 p H ys) \/
    ((Itt K b0).go i H/\ys.length<sizeLine/\∀x H',(Itt K b0).Pj i H x H'->Le (YM σ [1] (some x)) H' fun b H2 =>
     if b=true then Kv (Vn K d) [] E0 (RZ (Kl 0) (RZ (Kl 1) zcf)) (YM σ [1] (some x)) H2 fun v H3=>∃m',m'<m/\W (i+1) m' (ys++[v]) H3 else ∃m',m'<m/\W (i+1) m' ys H2):=by
  intro σ Q2 hσ hQ2 b0 hb0
  have g0:=Same.new hb0 (.tup (zs.map V.ref))
  refine zh7 (fun j v=>∃t N,sn.parts[j]?=some t/\v=.int ((N:Nat):Int)/\TabOf os t N) (tY.of zj) (by rw[zqU];exact zrd (yq (by omega))) ?_ (zlj (zdQ d)) ?_
  ·intro i x H' hx g
   rw[zqW] at hx
   cases ho:zs[i]? with
   | none=>rw[ho] at hx;cases hx
   | some y =>
    rw[ho] at hx
    cases hx
    obtain⟨t,ht,it⟩:=Qe c2 ho
    have htm:=zqZ ht
    have dp:=Sn.Uh sn t htm
    refine⟨_,rfl,.ref l,?_,y,l,t,os,rfl,it.mono (yW.of (g0.trans g)),(g0.trans g).seq hO,Sn.zaD sn hin t htm,h8,by omega,fun N H3 g3 hN=>⟨⟨t,N,ht,rfl,hN⟩,g.trans g3⟩⟩
    show some (σ.getD 1 none)=_
    rw[hσ]
  ·intro ys H' pp hl hy g hpp
   exact hQ2 pp ys H' (g0.trans g) hpp (by rw[hl,zqU];exact lz.symm) hy
 cases sn with
 | c0 y =>
  cases y with
  | false=>exact⟨_,rfl,rfl,_,rfl,yj (fun _=>q 0 _ (Same.refl _) (Zd _)) (fun c=>absurd (decide_eq_true rfl) c)⟩
  | true =>
   refine⟨_,rfl,rfl,_,rfl,yj (fun c=>absurd c (ne_str (show Str.ofString "yes" ≠ Str.ofString "no" by decide +kernel))) (fun _=>?_)⟩
   exact⟨_,rfl,rfl,_,rfl,yj (fun _=>⟨_,rfl,os.length,rfl,h8,q _ _ (Same.refl _) (Vj _)⟩) (fun c=>absurd (decide_eq_true rfl) c)⟩
 | mk x =>
  refine⟨_,rfl,rfl,_,rfl,yj (fun c=>absurd c (ne_str (show Str.ofString "mark" ≠ Str.ofString "no" by decide +kernel))) (fun _=>?_)⟩
  refine⟨_,rfl,rfl,_,rfl,yj (fun c=>absurd c (ne_str (show Str.ofString "mark" ≠ Str.ofString "yes" by decide +kernel))) (fun _=>?_)⟩
  obtain⟨i1,i2,i3⟩:=Vm (show x∈os from hin)
  have isp':H p=some (.tup [.str "mark", .str x]):=isp
  exact⟨_,rfl,rfl,_,rfl,yj (fun _=>⟨_,rfl,.inl ⟨rfl,_,hO⟩,_,rfl,p,_,1,_,rfl,rfl,tY.of isp',at1,l,_,.str x,_,rfl,rfl,hO,rfl,WW _,i1,_,rfl,ix os x,os.length,rfl,i2,h8,fun R hR=>q R _ (Same.refl _) hR⟩) (fun c=>absurd (decide_eq_true rfl) c)⟩
 | nt s1 =>
  refine⟨_,rfl,rfl,_,rfl,yj (fun c=>absurd c (ne_str (show Str.ofString "not" ≠ Str.ofString "no" by decide +kernel))) (fun _=>?_)⟩
  refine⟨_,rfl,rfl,_,rfl,yj (fun c=>absurd c (ne_str (show Str.ofString "not" ≠ Str.ofString "yes" by decide +kernel))) (fun _=>?_)⟩
  refine⟨_,rfl,rfl,_,rfl,yj (fun c=>absurd c (ne_str (show Str.ofString "not" ≠ Str.ofString "mark" by decide +kernel))) (fun _=>?_)⟩
  refine⟨_,rfl,p,_,_,_,_,rfl,c1,Zf (.nt s1),c3,fun b0 hb0=>?_⟩
  rw[c5]
  refine⟨b0,rfl,⟨_,tY.of zj⟩,comp rfl (fun b ys H0 g0 hb0' hyl hy=>?_) b0 hb0⟩
  have hb:=zj (H:=H0) (a:=b) (o:=.lst ys)
  have g:=g0.trans (Same.new hb0' (.lst ys))
  obtain⟨v,rfl⟩:=len1 hyl
  obtain⟨t,N,ht,rfl,hN⟩:=hy 0 v rfl
  cases ht
  refine⟨_,rfl,rfl,_,rfl,yj (fun _=>⟨_,rfl,os.length,rfl,h8,_,rfl,b,_,0,_,rfl,rfl,zZ.of hb,at0,_,N,rfl,rfl,q _ _ g (zV (Ze (Vj _) hN) fun z _=>?_)⟩) (fun c=>absurd (decide_eq_true rfl) c)⟩
  show(true != s1.val (T4 os z))=!s1.val (T4 os z)
  cases s1.val (T4 os z)<;>rfl
 | b2 o s1 s2 =>
  have w1:w2 o≠Str.ofString "no" := zlk o
  have w2':w2 o≠Str.ofString "yes" := zjZ o
  have w3:w2 o≠Str.ofString "mark" := zh8 o
  have w4:w2 o≠Str.ofString "not" := zj0 o
  have w5:w2 o≠Str.ofString "some" := zh9 o
  have w6:w2 o≠Str.ofString "each" := zia o
  refine⟨_,rfl,rfl,_,rfl,yj (fun c=>absurd c (ne_str w1)) (fun _=>?_)⟩
  refine⟨_,rfl,rfl,_,rfl,yj (fun c=>absurd c (ne_str w2')) (fun _=>?_)⟩
  refine⟨_,rfl,rfl,_,rfl,yj (fun c=>absurd c (ne_str w3)) (fun _=>?_)⟩
  refine⟨_,rfl,p,_,_,_,_,rfl,c1,Zf (.b2 o s1 s2),c3,fun b0 hb0=>?_⟩
  rw[c5]
  refine⟨b0,rfl,⟨_,tY.of zj⟩,comp rfl (fun b ys H0 g0 hb0' hyl hy=>?_) b0 hb0⟩
  have hb:=zj (H:=H0) (a:=b) (o:=.lst ys)
  have g:=g0.trans (Same.new hb0' (.lst ys))
  obtain⟨v,u,rfl⟩:=len2 hyl
  obtain⟨t,N,ht,rfl,hN⟩:=hy 0 v rfl
  obtain⟨t',M,ht',rfl,hM⟩:=hy 1 u rfl
  cases ht
  cases ht'
  refine⟨_,rfl,rfl,_,rfl,yj (fun c=>absurd c (ne_str w4)) (fun _=>?_)⟩
  refine⟨_,rfl,rfl,_,rfl,yj (fun c=>absurd c (ne_str w5)) (fun _=>?_)⟩
  refine⟨_,rfl,rfl,_,rfl,yj (fun c=>absurd c (ne_str w6)) (fun _=>?_)⟩
  exact⟨_,rfl,_,rfl,b,_,0,_,rfl,rfl,zZ.of hb,at0,_,rfl,b,_,1,_,rfl,rfl,zZ.of hb,at1,_,rfl,os.length,rfl,h8,o,N,M,os.length,_,_,rfl,hN,hM,fun R hR=>q R _ g hR⟩
 | q1 o x s1 =>
  obtain⟨hx,hs1⟩:=hin
  obtain⟨i1,i2,i3⟩:=Vm hx
  cases o with
  | true =>
   refine⟨_,rfl,rfl,_,rfl,yj (fun c=>absurd c (ne_str (show Str.ofString "some" ≠ Str.ofString "no" by decide +kernel))) (fun _=>?_)⟩
   refine⟨_,rfl,rfl,_,rfl,yj (fun c=>absurd c (ne_str (show Str.ofString "some" ≠ Str.ofString "yes" by decide +kernel))) (fun _=>?_)⟩
   refine⟨_,rfl,rfl,_,rfl,yj (fun c=>absurd c (ne_str (show Str.ofString "some" ≠ Str.ofString "mark" by decide +kernel))) (fun _=>?_)⟩
   refine⟨_,rfl,p,_,_,_,_,rfl,c1,Zf (.q1 true x s1),c3,fun b0 hb0=>?_⟩
   rw[c5]
   refine⟨b0,rfl,⟨_,tY.of zj⟩,comp rfl (fun b ys H0 g0 hb0' hyl hy=>?_) b0 hb0⟩
   have hb:=zj (H:=H0) (a:=b) (o:=.lst ys)
   have g:=g0.trans (Same.new hb0' (.lst ys))
   obtain⟨v,rfl⟩:=len1 hyl
   obtain⟨t,N,ht,rfl,hN⟩:=hy 0 v rfl
   cases ht
   have c1':=g _ _ c1
   refine⟨_,rfl,rfl,_,rfl,yj (fun c=>absurd c (ne_str (show Str.ofString "some" ≠ Str.ofString "not" by decide +kernel))) (fun _=>?_)⟩
   refine⟨_,rfl,rfl,_,rfl,yj (fun _=>?_) (fun c=>absurd (decide_eq_true rfl) c)⟩
   refine⟨_,rfl,b,_,0,_,rfl,rfl,zZ.of hb,at0,_,rfl,b,_,0,_,rfl,rfl,zZ.of hb,at0,_,rfl,.inl ⟨rfl,_,g.seq hO⟩,_,rfl,p,_,1,_,rfl,rfl,tY.of c1',at1,l,_,.str x,_,rfl,rfl,g.seq hO,rfl,WW _,i1,_,rfl,N,ix os x,os.length,_,rfl,i2,h8,hN,fun R hR=>⟨N,R,rfl,rfl,q _ _ g (zV (Yw hN hR) fun z _=>?_)⟩⟩
   exact(zgG hs1 hx z).symm
  | false =>
   refine⟨_,rfl,rfl,_,rfl,yj (fun c=>absurd c (ne_str (show Str.ofString "each" ≠ Str.ofString "no" by decide +kernel))) (fun _=>?_)⟩
   refine⟨_,rfl,rfl,_,rfl,yj (fun c=>absurd c (ne_str (show Str.ofString "each" ≠ Str.ofString "yes" by decide +kernel))) (fun _=>?_)⟩
   refine⟨_,rfl,rfl,_,rfl,yj (fun c=>absurd c (ne_str (show Str.ofString "each" ≠ Str.ofString "mark" by decide +kernel))) (fun _=>?_)⟩
   refine⟨_,rfl,p,_,_,_,_,rfl,c1,Zf (.q1 false x s1),c3,fun b0 hb0=>?_⟩
   rw[c5]
   refine⟨b0,rfl,⟨_,tY.of zj⟩,comp rfl (fun b ys H0 g0 hb0' hyl hy=>?_) b0 hb0⟩
   have hb:=zj (H:=H0) (a:=b) (o:=.lst ys)
   have g:=g0.trans (Same.new hb0' (.lst ys))
   obtain⟨v,rfl⟩:=len1 hyl
   obtain⟨t,N,ht,rfl,hN⟩:=hy 0 v rfl
   cases ht
   have c1':=g _ _ c1
   refine⟨_,rfl,rfl,_,rfl,yj (fun c=>absurd c (ne_str (show Str.ofString "each" ≠ Str.ofString "not" by decide +kernel))) (fun _=>?_)⟩
   refine⟨_,rfl,rfl,_,rfl,yj (fun c=>absurd c (ne_str (show Str.ofString "each" ≠ Str.ofString "some" by decide +kernel))) (fun _=>?_)⟩
   refine⟨_,rfl,rfl,_,rfl,yj (fun _=>?_) (fun c=>absurd (decide_eq_true rfl) c)⟩
   refine⟨_,rfl,b,_,0,_,rfl,rfl,zZ.of hb,at0,_,rfl,b,_,0,_,rfl,rfl,zZ.of hb,at0,_,rfl,.inl ⟨rfl,_,g.seq hO⟩,_,rfl,p,_,1,_,rfl,rfl,tY.of c1',at1,l,_,.str x,_,rfl,rfl,g.seq hO,rfl,WW _,i1,_,rfl,N,ix os x,os.length,_,rfl,i2,h8,hN,fun R hR=>⟨N,R,rfl,rfl,q _ _ g (zV (vJ hN hR) fun z _=>?_)⟩⟩
   exact(zgH hs1 hx z).symm
theorem La (T:Txt P w K mg a)(yx:zB P w K mg base zX k a.vm a.vo wD v8)(xM:zB P w K mg base zX k a.wZ a.vd wu vN)
  (uF:zB P w K mg base zX k a.Xi a.Xj Z4 Xd)(vZ:zB P w K mg base zX k a.tH a.tK vR Z2)
  (ZK:zB P w K mg base zX k a.vW a.vX wQ zcs):∀d:Nat,zB P w K mg base zX (k+d) a.Xz a.XC Z5 (Vn K d)
 | 0=>by
  refine⟨fun vs H Q E h=>?_,fun A outer s H args us vs Q E _ _ _ _ h=>?_⟩
  ·obtain⟨p,l,sn,os,rfl,_⟩:=h
   rfl
  ·obtain⟨p,l,sn,os,_,_,_,_,_,hd,_⟩:=h
   have:=Sn.PJ sn
   omega
 | d+1=>zal T (yx.mono (zrv _ _)) (xM.mono (zrv _ _)) (uF.mono (zrv _ _)) (vZ.mono (zrv _ _)) (ZK.mono (zrv _ _)) (La T yx xM uF vZ ZK d)
theorem zef (T:Txt P w K mg a)(xM:zB P w K mg base zX k a.wZ a.vd wu vN)(uF:zB P w K mg base zX k a.Xi a.Xj Z4 Xd):zB P w K mg base zX (k+1) a.Z6 a.Z7 tX Xp:=by
 refine T.Yb.F.ok Rq (fun vs H Q E h=>?_) (fun cdv A outer s H vs Q E hr h=>?_)
 ·obtain⟨N,p,n,v,f,rfl,_⟩:=h
  rfl
 obtain⟨N,p,n,v,f,rfl,hp,hn,tb,q⟩:=h
 refine⟨_,(zf (zE 4 Rq.nd (zH v7 (pv 0) (zu xM hr T.Yv (za (pv 1) (za (pv 3) zc)))))
   (zf (zE 5 Rq.nd (Km (zM yX (pv 2) zp (zQ _)) (pv 4) (zH Ye (pv 0) (pv 4))))
   (zm (zJ (zH Z1 (pv 5) (zu uF hr T.Vc (za (pv 5) (za (pv 1) (za (pv 3) zc))))))))),?_⟩
 refine⟨_,rfl,_,rfl,_,rfl,p,n,rfl,hp,hn,fun R tr=>?_⟩
 refine⟨N,R,rfl,rfl,?_⟩
 have o:=Za.vJ tb tr
 refine⟨_,rfl,rfl,_,rfl,?_⟩
 cases v with
 | true =>
  refine yj (fun _=>?_) (fun c=>absurd (decide_eq_true rfl) c)
  refine⟨_,rfl,?_⟩
  refine⟨_,rfl,_,rfl,_,rfl,_,rfl,N&&&R,p,n,_,rfl,hp,hn,o,fun R2 t2=>?_⟩
  refine⟨_,_,rfl,rfl,q _ (zV (Za.Yw o t2) fun b hb=>?_)⟩
  show((f b&&b.testBit p)||(f (zG b p (!b.testBit p))&&(zG b p (!b.testBit p)).testBit p))=f (zG b p true)
  rw[zL,if_pos rfl]
  cases e:b.testBit p
  ·simp
  ·rw[<-e,yc.yE,e];simp
 | false =>
  refine yj (fun c=>absurd (of_decide_eq_true c) (fun z=>by injection z with z;revert z;decide)) (fun _=>?_)
  have z:=Za.Ze tb o
  refine⟨_,rfl,_,rfl,N,N&&&R,rfl,rfl,?_⟩
  refine⟨_,rfl,_,rfl,_,rfl,_,rfl,N ^^^ (N&&&R),p,n,_,rfl,hp,hn,z,fun R2 t2=>?_⟩
  refine⟨_,_,rfl,rfl,q _ (zV (Za.Yw z t2) fun b hb=>?_)⟩
  show((f b != (f b&&b.testBit p))||(f (zG b p (!b.testBit p)) != (f (zG b p (!b.testBit p))&&(zG b p (!b.testBit p)).testBit p)))=f (zG b p false)
  rw[zL,if_pos rfl]
  cases e:b.testBit p
  ·rw[<-e,yc.yE,e];simp
  ·simp
theorem zdf (T:Txt P w K mg a)(uF:zB P w K mg base zX k a.Xi a.Xj Z4 Xd):zB P w K mg base zX (k+1) a.Ru a.Rv Vt zbw:=by
 refine T.Jw.F.ok zcT (fun vs H Q E h=>?_) (fun cdv A outer s H vs Q E hr h=>?_)
 ·obtain⟨N,p,n,f,rfl,_⟩:=h
  rfl
 obtain⟨N,p,n,f,rfl,hp,hn,tb,q⟩:=h
 refine⟨_,(zm (zJ (uU Mg (zu uF hr T.Vc (za (pv 0) (za (pv 1) (za (pv 2) zc)))) (pv 0) (zQ _)))),?_⟩
 refine⟨_,rfl,_,rfl,_,rfl,N,p,n,f,rfl,hp,hn,tb,fun R tr=>?_⟩
 refine⟨_,rfl,rfl,?_⟩
 refine q _ (fun e=>?_) (fun e=>?_)
 ·have e1:R=N:=by
   have z:V.int (R:Nat)=V.int (N:Nat):=of_decide_eq_true (by simpa using e)
   injection z with z
   omega
  subst e1
  refine yc.Free.zii fun b hb=>?_
  rw[<-yc.YZ tr hb,yc.YZ tb hb]
 ·refine Classical.byContradiction fun no=>?_
  have e1:R=N:=yc.Tw tr tb fun b hb=>by
   refine Classical.byContradiction fun ne=>no ⟨b,hb,fun z=>ne ?_⟩
   show f (zG b p (!b.testBit p))=f b
   cases e:b.testBit p
   ·rw[Bool.not_false,<-z,<-e,yc.yE]
   ·rw[Bool.not_true,z,<-e,yc.yE]
  subst e1
  rw[decide_eq_true rfl] at e
  cases e
theorem JC (T:Txt P w K mg a)(zeg:zB P w K mg base zX k a.Ru a.Rv Vt zbw):zB P w K mg base zX (k+1) a.Yn a.Yo uO LK:=by
 refine T.SM.F.ok Xq (fun vs H Q E h=>?_) (fun cdv A outer s H vs Q E hr h=>?_)
 ·obtain⟨N,n,f,rfl,_⟩:=h
  rfl
 obtain⟨N,n,f,rfl,hn,tb,q⟩:=h
 refine⟨_,(zf (zE 2 Xq.nd zp)
   (zf (RW PassesOwn.never (PW.pt (zju (zM zce (pv 2) (pv 1) (zQ _)) (zhx (Wj (uL (zu zeg hr T.Jw (za (pv 0) (za (pv 2) (za (pv 1) zc)))) (fun _=>rfl)))))) (zm (zdw (i:=2) Xq.nd rfl (Or.inl rfl) zp za8)))
   (zm (zJ (pv 2))))),?_⟩
 refine⟨fun m σ H'=>∃p:Nat,m=n-p/\H'=H/\p<=n/\(∀i,i<p->yc.Free n f i)/\σ=[some (.int N),some (.int n),some (.int p)],⟨_,0,rfl,rfl,zrh _,fun i hi=>absurd hi (Nat.not_lt_zero _),rfl⟩,?_⟩
 rintro m σ H' ⟨p,rfl,rfl,hp,fr,rfl⟩
 refine⟨_,rfl,_,rfl,_,_,rfl,rfl,_,rfl,yj (fun c=>?_) (fun c=>?_)⟩
 ·have hpn:p<n:=by have:=of_decide_eq_true c;omega
  refine⟨_,rfl,_,rfl,_,rfl,N,p,n,f,rfl,hpn,hn,tb,fun b hf ht=>?_⟩
  cases b with
  | false =>
   refine⟨_,rfl,yj (fun c2=>?_) (fun c2=>absurd rfl c2)⟩
   refine⟨_,fun σ' H2 h=>h,?_⟩
   refine⟨_,rfl,_,_,rfl,rfl,n-(p+1),by omega,p+1,rfl,rfl,hpn,fun i hi=>?_,rfl⟩
   by_cases e:i=p
   ·subst e
    exact hf rfl
   ·exact fr i (by omega)
  | true =>
   refine⟨_,rfl,yj (fun c2=>absurd c2 zqY) (fun c2=>?_)⟩
   exact⟨_,rfl,q p hp fr fun _=>ht rfl⟩
 ·refine⟨_,rfl,q p hp fr fun h=>absurd (decide_eq_true (by omega)) c⟩
theorem RK {d:Nat}(T:Txt P w K mg a)(Yp:zB P w K mg base zX k a.Yn a.Yo uO LK)(xg:zB P w K mg base zX k a.Z6 a.Z7 tX Xp)
  (yH:zB P w K mg base zX k a.yR a.yS yG (wX a.zx d)):zB P w K mg base zX (k+1) a.yR a.yS yG (wX a.zx (d+1)):=by
 refine T.xO.F.ok wz (fun vs H Q E h=>?_) (fun cdv A outer s H vs Q E hr h=>?_)
 ·obtain⟨b,os,rs,F,t,u,f,rfl,_⟩:=h
  rfl
 obtain⟨b,os,rs,F,t,u,f,rfl,hB,hlen,hu,hd,tb,fr,q⟩:=h
 refine⟨_,(zf (yF (zf2 (zaK (Ky hr) (pv 1) (u9 (pv 0) rfl))) (zf (zE 2 wz.nd (zN zK rfl T.wI yO (za (u9 (pv 0) rfl) zc)))
   (zf (zE 3 wz.nd (zu Yp hr T.SM (za (pv 1) (za (pv 2) zc))))
   (zf (zE 4 wz.nd (z8 (pv 0) T.zT T.xO yH hr (za (zu xg hr T.Yb (za (pv 1) (za (pv 3) (za zp (za (pv 2) zc))))) zc)))
   (zf (zE 5 wz.nd (z8 (pv 0) T.zT T.xO yH hr (za (zu xg hr T.Yb (za (pv 1) (za (pv 3) (za zp (za (pv 2) zc))))) zc)))
   (zf (zbv (Ky hr) (u9 (pv 0) rfl) (pv 1) (zN zK rfl T.wI yO (za (u9 (pv 0) rfl) zc)) rfl)
   (zf (yC (Yr PySem.F.plainAttrs_list PySem.F.slot_list_append PySem.F.type_list_append tQ (u9 (pv 0) rfl) (za (vH (za (pv 3) (za (pv 4) (za (pv 5) zc)))) zc)))
   (zm (yC (Yr PySem.F.plainAttrs_list PySem.F.slot_list_append PySem.F.type_list_append tQ (u9 (pv 0) rfl) (za (pv 1) zc)))))))))) zU)
   (zm (zJ (zeP (Ky hr) (u9 (pv 0) rfl) (pv 1) (fun _ _=>rfl))))),?_⟩
 have hB0:=hB
 obtain⟨dx,ml,rl,tl,nd,rv,ts,kvs,h⟩:=hB
 have n8:os.length<=8:=h.ord.le
 have hml:(os.map V.str).length=os.length:=zqU _
 have pw:2^(d+1)=2^d+2^d:=by rw[Nat.pow_succ];omega
 have pd:1<=2^d:=Nat.one_le_two_pow
 have pn:2^os.length<=256:=Za.zft n8
 refine⟨_,rfl,_,rfl,b,a.zx,dx,_,_,rfl,h.hb,T.zT,T.vq,rfl,nd,_,rfl,Lf.k (k:=.inl (t:Int)) h.hd,?_⟩
 by_cases hm:t∈ts
 ·obtain⟨j,hj,ej⟩:=zrA hm
  have ej':ts[j]?=some t:=by rw[zqV hj,ej]
  have ev:=h.nums.get j t ej'
  have z:=Lf.k (k:=.inl (t:Int)) h.hd
  rw[ev] at z
  rw[ev]
  refine⟨_,rfl,Pz ?_⟩
  refine⟨_,rfl,b,a.zx,dx,_,_,rfl,h.hb,T.zT,T.vq,rfl,_,rfl,nd,_,rfl,z,?_⟩
  refine q j rs H (fun x o e _=>e) (fun _ _ e=>e) hB0 (.refl _) (by rw[<-h.tabs.len];exact hj) (h.tabs.find h.bk ej' tb) (by omega) (fun j h1 h2=>by omega) (zrv _ _)
 ·have ev:=h.nums.non t hm
  rw[ev]
  refine⟨_,rfl,zgi ?_⟩
  refine⟨_,rfl,b,a.zx,dx,_,_,rfl,h.hb,T.zT,T.vC,rfl,ml,_,rfl,.inl (zZ.of h.hm),?_⟩
  rw[hml]
  refine⟨_,rfl,_,rfl,t,os.length,f,rfl,n8,tb,fun p hp0 frp dep=>?_⟩
  have hp:p<os.length:=by
   refine Nat.lt_of_le_of_ne hp0 fun e=>hm ?_
   subst e
   have cs:=yc.Yg frp
   have two:=yc.len2 h.bk
   cases hf:f 0 with
   | false=>exact zqZ (h.tabs.same (j:=0) (by omega) tb fun r=>by rw[cs _ (yc.v9 _ _),hf];rfl)
   | true=>exact zqZ (h.tabs.same (j:=1) (by omega) tb fun r=>by rw[cs _ (yc.v9 _ _),hf];exact yc.Zg h.bk r)
  have hup:u<=p:=by
   refine Nat.le_of_not_lt fun hlt=>?_
   obtain⟨c,hc,hne⟩:=dep hp
   exact hne (by rw[fr p hlt c hc,fr p hlt c hc])
  have fre:∀(v:Bool) i,i<p+1->yc.Free os.length (fun c=>f (zG c p v)) i:=fun v i hi c hc v'=>by
   show f (zG (zG c i v') p v)=f (zG c p v)
   by_cases e:i=p
   ·subst e
    congr 1
    refine yc.Zk (zO (zO hc hp) hp) (zO hc hp) fun j _=>?_
    rw[zL,zL,zL]
    by_cases e:j=i
    ·rw[if_pos e,if_pos e]
    ·rw[if_neg e,if_neg e,if_neg e]
   ·rw[<-frp i (by omega) _ (zO (v:=v) hc hp) v']
    congr 1
    refine yc.Zk (zO (zO hc (by omega)) hp) (zO (zO hc hp) (by omega)) fun j _=>?_
    rw[zL,zL,zL,zL]
    by_cases e1:j=p
    ·rw[if_pos e1,if_pos e1,if_neg (by omega)]
    ·rw[if_neg e1,if_neg e1]
  refine⟨_,rfl,b,dx,_,rfl,h.hb,rfl,_,rfl,_,rfl,_,rfl,t,p,os.length,false,f,rfl,hp,n8,tb,fun R0 tr0=>?_⟩
  refine⟨b,os,rs,F,R0,p+1,_,rfl,hB0,by omega,hp,by omega,tr0,fre false,fun k0 rs1 H1 aw1 tu1 hB1 gr1 lt1 y1 ln1 lv1 hh1=>?_⟩
  have hB1':=hB1
  obtain⟨dx1,ml1,rl1,tl1,nd1,rv1,ts1,zpK,h1⟩:=hB1
  refine⟨_,rfl,b,dx1,_,rfl,h1.hb,rfl,_,rfl,_,rfl,_,rfl,t,p,os.length,true,f,rfl,hp,n8,tb,fun R1 tr1=>?_⟩
  refine⟨b,os,rs1,F,R1,p+1,_,rfl,hB1',by omega,hp,by omega,tr1,fre true,fun k1 rs2 H2 aw2 tu2 hB2 gr2 lt2 y2 ln2 lv2 hh2=>?_⟩
  obtain⟨dx2,ml2,rl2,tl2,Pb,rv2,ts2,zlZ,h2⟩:=hB2
  have lt1':k0<rs2.length:=zq3 lt1 gr2.len
  have y1':∀r,yc.yes rs2 k0 r=f (zG (yc.bits r os.length) p false):=fun r=>by rw[gr2.yes h1.bk lt1];exact y1 r
  have g02:=gr1.trans gr2
  have lrs:=g02.len
  have lvs:∀j,rs.length<=j->j<rs2.length->p<yc.ZM os.length rs2 j:=fun j a1 a2=>by
   by_cases hj:j<rs1.length
   ·rw[gr2.ZM hj];exact lv1 j a1 hj
   ·exact lv2 j (by omega) a2
  have old:∀j,j<rs.length->¬∀r,yc.yes rs2 j r=f (yc.bits r os.length):=fun j hj hy=>hm (zqZ (h.tabs.same hj tb fun r=>by rw[<-g02.yes h.bk hj];exact hy r))
  obtain⟨B',yn⟩:=yc.zgL h2.bk hp lt1' lt2 y1' y2 frp (dep hp) old lvs
  have hn2:t∉ts2:=fun hm2=>by
   obtain⟨j,hj,ej⟩:=zrA hm2
   have ej':ts2[j]?=some t:=by rw[zqV hj,ej]
   have hjr:j<rs2.length:=by rw[<-h2.tabs.len];exact hj
   have hy:=h2.tabs.find h2.bk ej' tb
   by_cases hjo:j<rs.length
   ·exact old j hjo hy
   ·obtain⟨c,hc,hne⟩:=dep hp
    have lv:=lvs j (by omega) hjr
    refine hne ?_
    have a1:=hy (yc.put (yc.Qm c) p false)
    have a2:=hy (yc.put (yc.Qm c) p true)
    rw[yc.Zh h2.bk hjr lv,yc.zcC hp,yc.Tv hc] at a1 a2
    exact a1.symm.trans a2
  have l2:=h2.len
  have s2:rs2.length<sizeLine:=zq3 (show rs2.length<9000001 by omega) (by decide)
  refine⟨_,rfl,b,a.zx,dx2,_,_,rfl,h2.hb,T.zT,T.vD,rfl,rl2,_,rfl,.inl (zZ.of h2.hr),?_⟩
  rw[l2]
  refine⟨_,rfl,b,a.zx,dx2,_,_,rfl,h2.hb,T.zT,T.vq,rfl,_,rfl,Pb,_,rfl,zdS.k (k:=.inl (t:Int)) h2.hd (by have:=h2.nums.len;have:=h2.tabs.len;omega),?_⟩
  have nb:Pb≠b:=V8 h2.hd h2.hb (by intro z;cases z)
  have nm:Pb≠ml2:=V8 h2.hd h2.hm (by intro z;cases z)
  have nr:Pb≠rl2:=V8 h2.hd h2.hr (by intro z;cases z)
  have nt:Pb≠tl2:=V8 h2.hd h2.ht (by intro z;cases z)
  have br:b≠rl2:=V8 h2.hb h2.hr (by intro z;cases z)
  have bt:b≠tl2:=V8 h2.hb h2.ht (by intro z;cases z)
  generalize hO3:HO.dK (putK zlZ (Sum.inl (t:Int)) (V.int (rs2.length:Nat)))=o3
  have b3:upd H2 Pb o3 b=some (.ins a.zx dx2 (Ni ml2 rl2 tl2 Pb)):=by rw[zA (Ne.symm nb)];exact h2.hb
  have r3:upd H2 Pb o3 rl2=some (.lst rv2):=by rw[zA (Ne.symm nr)];exact h2.hr
  refine⟨_,rfl,b,a.zx,dx2,_,_,rfl,b3,T.zT,T.vD,rfl,.inl ⟨rfl,_,zZ.of r3⟩,?_⟩
  refine⟨_,rfl,_,rfl,_,rfl,by show 3<=sizeLine;decide,fun q4 hq4=>?_⟩
  generalize hO4:HO.tup [V.int (p:Nat),V.int (k0:Nat),V.int (k1:Nat)]=o4
  have r4:upd (upd H2 Pb o3) q4 o4 rl2=some (.lst rv2):=by rw[zA (zy r3 hq4)];exact r3
  refine⟨rl2,_,_,rfl,rfl,r4,by rw[l2];exact s2,?_⟩
  have b4:upd (upd H2 Pb o3) q4 o4 b=some (.ins a.zx dx2 (Ni ml2 rl2 tl2 Pb)):=by rw[zA (zy b3 hq4)];exact b3
  have t3:upd H2 Pb o3 tl2=some (.lst (ts2.map fun t=>V.int (t:Nat))):=by rw[zA (Ne.symm nt)];exact h2.ht
  have t4:upd (upd H2 Pb o3) q4 o4 tl2=some (.lst (ts2.map fun t=>V.int (t:Nat))):=by rw[zA (zy t3 hq4)];exact t3
  have m3:upd H2 Pb o3 ml2=some (.lst (os.map V.str)):=by rw[zA (Ne.symm nm)];exact h2.hm
  have m4:upd (upd H2 Pb o3) q4 o4 ml2=some (.lst (os.map V.str)):=by rw[zA (zy m3 hq4)];exact m3
  have n3:upd H2 Pb o3 Pb=some o3:=zj
  have n4:upd (upd H2 Pb o3) q4 o4 Pb=some o3:=by rw[zA (zy n3 hq4)];exact n3
  have qr:q4≠rl2:=Ne.symm (zy r3 hq4)
  have qt:q4≠tl2:=Ne.symm (zy t3 hq4)
  have q4':upd (upd H2 Pb o3) q4 o4 q4=some o4:=zj
  have tu4:yW H2 (upd (upd H2 Pb o3) q4 o4):=fun x xs e=>by
   have e3:upd H2 Pb o3 x=some (.tup xs):=by rw[zA (V8 e h2.hd (by intro z;cases z))];exact e
   rw[zA (zy e3 hq4)];exact e3
  have aw4:∀x o,H2 x=some o->¬F x->upd (upd H2 Pb o3) q4 o4 x=some o:=fun x o e nf=>by
   have e3:upd H2 Pb o3 x=some o:=by rw[zA (fun z=>nf ((h2.ft x).mpr (.inr (.inr (.inr (.inr z))))))];exact e
   rw[zA (zy e3 hq4)];exact e3
  generalize upd (upd H2 Pb o3) q4 o4=H4 at b4 t4 m4 n4 r4 q4' tu4 aw4
  generalize hO5:HO.lst (rv2++[V.ref q4])=o5
  have b5:upd H4 rl2 o5 b=some (.ins a.zx dx2 (Ni ml2 rl2 tl2 Pb)):=by rw[zA br];exact b4
  have t5:upd H4 rl2 o5 tl2=some (.lst (ts2.map fun t=>V.int (t:Nat))):=by rw[zA (Ne.symm h2.rt)];exact t4
  refine⟨_,rfl,b,a.zx,dx2,_,_,rfl,b5,T.zT,T.XH,rfl,.inl ⟨rfl,_,zZ.of t5⟩,_,rfl,tl2,_,_,rfl,rfl,t5,by rw[zqU,h2.tabs.len];exact s2,?_⟩
  generalize hO6:HO.lst (ts2.map (fun t=>V.int (t:Nat))++[V.int (t:Nat)])=o6
  have b6:upd (upd H4 rl2 o5) tl2 o6 b=some (.ins a.zx dx2 (Ni ml2 rl2 tl2 Pb)):=by rw[zA bt];exact b5
  have n6:upd (upd H4 rl2 o5) tl2 o6 Pb=some (.dK (putK zlZ (Sum.inl (t:Int)) (V.int (rs2.length:Nat)))):=by rw[zA nt,zA nr,n4,hO3]
  have z:=Lf.k (k:=.inl (t:Int)) n6
  rw[K1,if_pos rfl] at z
  refine⟨_,rfl,b,a.zx,dx2,_,_,rfl,b6,T.zT,T.vq,rfl,_,rfl,Pb,_,rfl,z,?_⟩
  have tu6:yW H4 (upd (upd H4 rl2 o5) tl2 o6):=fun x xs e=>by
   rw[zA (V8 e t4 (by intro z;cases z)),zA (V8 e r4 (by intro z;cases z))];exact e
  have parts:=h2.more (H':=upd (upd H4 rl2 o5) tl2 o6) (i:=p) (lo:=k0) (hi:=k1) (t:=t) (q:=q4) (fun x xs e=>tu6 _ _ (tu4 _ _ e)) (b6.trans h2.hb.symm)
   (by rw[zA h2.mt,zA h2.mr,m4,h2.hm]) (by rw[zA h2.rt,zj,hO5]) (by rw[zj,hO6]) n6
   (by rw[zA qt,zA qr,q4',hO4]) B' hn2 (zV tb fun c hc=>by rw[yn,yc.Tv hc])
  refine q rs2.length _ _ (fun x o e nf=>?_) (fun x xs e=>tu6 _ _ (tu4 _ _ (tu2 _ _ (tu1 _ _ e)))) ⟨_,_,_,_,_,_,_,_,parts⟩ (g02.trans (yc.wL.snoc _ _)) (by simp) yn (by rw[zq2,zrs];omega) (fun j a1 a2=>?_) ?_
  ·have e2:=aw2 x o (aw1 x o e nf) nf
   rw[zA (fun z=>nf ((h2.ft x).mpr (.inr (.inr (.inr (.inl z)))))),zA (fun z=>nf ((h2.ft x).mpr (.inr (.inr (.inl z)))))]
   exact aw4 x o e2 nf
  ·rw[zq2,zrs] at a2
   by_cases hj:j<rs2.length
   ·rw[yc.Ur hj]
    have:=lvs j a1 hj
    omega
   ·have:j=rs2.length:=by omega
    subst this
    rw[yc.uI B' (i:=p) (lo:=k0) (hi:=k1) (by simp)]
    exact hup
  ·rw[yc.zin]
   have:=yc.zir (n:=os.length) hup
   omega
theorem XQ (T:Txt P w K mg a)(Yp:zB P w K mg base zX k a.Yn a.Yo uO LK)(xg:zB P w K mg base zX k a.Z6 a.Z7 tX Xp) :
  ∀d:Nat,zB P w K mg base zX (k+d) a.yR a.yS yG (wX a.zx d)
 | 0=>by
  refine⟨fun vs H Q E h=>?_,fun A outer s H args us vs Q E _ _ _ _ h=>?_⟩
  ·obtain⟨b,os,rs,F,t,u,f,rfl,_⟩:=h
   rfl
  ·obtain⟨b,os,rs,F,t,u,f,_,_,_,hu,hd,_⟩:=h
   omega
 | d+1=>RK T (Yp.mono (zrv _ _)) (xg.mono (zrv _ _)) (XQ T Yp xg d)
theorem JD (T:Txt P w K mg a)(RL:zB P w K mg base zX k a.tL a.tO vg Nb)(Pg:zB P w K mg base zX k a.Zx a.Zy vL (Um K))
  (RJ:zB P w K mg base zX k a.Xz a.XC Z5 (Vn K 24))(yH:zB P w K mg base zX k a.yR a.yS yG (wX a.zx 9)) :
  zB P w K mg base zX (k+1) a.Y8 a.Y9 Zr (Qq a.zx):=by
 refine T.VF.F.ok zae (fun vs H Q E h=>?_) (fun cdv A outer s H vs Q E hr h=>?_)
 ·obtain⟨b,p,os,rs,F,sn,rfl,_⟩:=h
  rfl
 obtain⟨b,p,os,rs,F,sn,rfl,hB,hlen,isp,hin,hc,hd,q⟩:=h
 refine⟨_,(zf (yC (zu RL hr T.XF (za (pv 1) zc)))
   (zf (yC (zu Pg hr T.Wi (za (u9 (pv 0) rfl) (za (pv 1) zc))))
   (zm (zJ (z8 (pv 0) T.zT T.xO yH hr (za (zu RJ hr T.RB (za (pv 1) (za (u9 (pv 0) rfl) zc))) zc)))))),?_⟩
 have L:=wj a.zx
 have ho:=L.ord hB
 have hlt:sn.RN vK:=(Sn.Vk sn).mpr fun x hx=>ho.mem x ((Sn.Vk sn).mp hin x hx)
 refine⟨_,rfl,p,sn,rfl,isp,hlt,hc,hd,fun H1 g1=>?_⟩
 have hB1:=L.same hB g1
 obtain⟨dx,ml,rl,tl,nd,rv,ts,kvs,h1⟩:=hB1
 refine⟨_,rfl,b,a.zx,dx,_,_,rfl,h1.hb,T.zT,T.vC,rfl,_,rfl,ml,p,os,sn,rfl,zZ.of h1.hm,isp.mono (yW.of g1),by omega,hin,fun H2 g2=>?_⟩
 have g12:=g1.trans g2
 have h2:=h1.frame (fun x o e _=>g2 x o e) (yW.of g2)
 refine⟨_,rfl,b,dx,_,rfl,h2.hb,rfl,_,rfl,_,rfl,b,a.zx,dx,_,_,rfl,h2.hb,T.zT,T.vC,rfl,p,ml,sn,os,rfl,isp.mono (yW.of g12),zZ.of h2.hm,hin,ho.le,hd,fun N H3 g3 hN=>?_⟩
 have g13:=g12.trans g3
 have hB3:=L.same hB g13
 refine⟨b,os,rs,F,N,0,_,rfl,hB3,by show rs.length+512<=9000000;omega,zrh _,by have:=ho.le;omega,hN,fun i hi=>absurd hi (Nat.not_lt_zero _),fun j rs' H' aw tu hB' gr lt y ln _ hh=>?_⟩
 refine q j rs' H' (fun x o e nf=>aw x o (g13 _ _ e) nf) (fun x xs e=>tu _ _ (g13 _ _ e)) hB' gr ⟨lt,fun r=>?_⟩ (zrg hh (Nat.add_le_add_left (yc.zly ho.le) _))
 rw[y]
 refine Sn.val_congr sn hin fun x hx=>?_
 show(yc.bits r os.length).testBit (ix os x)=r (ix os x)
 exact yc.Zj r (Vm hx).2.1
theorem zb1 (T:Txt P w K mg a)(Lp:zB P w K mg base zX k a.Yz a.YB uV (Uk K))(yx:zB P w K mg base zX k a.vm a.vo wD v8) :
  zB P w K mg base zX (k+1) a.Wh a.U8 Wd (Ri (yu a.zx) K a.zx):=by
 refine T.M7.F.ok QJ (fun vs H Q E h=>?_) (fun cdv A outer s H vs Q E hr h=>?_)
 ·obtain⟨b,dx,l,os,rfl,_⟩:=h
  rfl
 obtain⟨b,dx,l,os,rfl,hb,bd,hl,ho,q⟩:=h
 refine⟨_,(zf (yC (zu Lp hr T.V2 (za (pv 1) zc)))
   (zf (zE 2 QJ.nd (zN zK rfl T.wI yO (za (pv 1) zc)))
   (zf (za9 (pv 0) (ZX Qa rfl T.RD Tj (za (pv 1) zc)) rfl)
   (zf (za9 (pv 0) (uG (za (vH (za (pv 2) (za zp (za zp zc)))) (za (vH (za (pv 2) (za zp (za zp zc)))) zc))) rfl)
   (zf (za9 (pv 0) (uG (za zp (za (zu yx hr T.vY (za (pv 2) zc)) zc))) rfl)
   (zm (za9 (pv 0) (zih (zcz zp zp (zcz (zu yx hr T.vY (za (pv 2) zc)) zp zig)) rfl rfl (List.cons_ne_nil _ _) (Nat.le_of_ble_eq_true rfl)) rfl))))))),?_⟩
 have n8:=ho.le
 have hml:(os.map V.str).length=os.length:=zqU _
 refine⟨_,rfl,l,os,rfl,hl,ho,fun H1 g1=>?_⟩
 have hl1:=g1.seq hl
 refine⟨_,rfl,l,_,rfl,.inl hl1,?_⟩
 rw[hml]
 have b1:=g1 _ _ hb
 refine⟨_,rfl,l,_,rfl,.inl hl1,fun ml hm1=>?_⟩
 have bm:b≠ml:=zy b1 hm1
 have b2:upd H1 ml (.lst (os.map V.str)) b=some (.ins a.zx dx []):=by rw[zA bm];exact b1
 refine⟨_,rfl,b,a.zx,dx,_,rfl,b2,T.zT,T.vC,by decide,?_⟩
 have s2:∀x o,H x=some o->x≠b->upd (upd H1 ml (.lst (os.map V.str))) b (.ins a.zx dx (ZW "marks" (.ref ml) [])) x=some o:=fun x o e nb=>by
  rw[zA nb,zA (zy (g1 _ _ e) hm1)];exact g1 _ _ e
 have hm2:upd (upd H1 ml (.lst (os.map V.str))) b (.ins a.zx dx (ZW "marks" (.ref ml) [])) ml=some (.lst (os.map V.str)):=by rw[zA (Ne.symm bm)];exact zj
 have f2:∀x,upd (upd H1 ml (.lst (os.map V.str))) b (.ins a.zx dx (ZW "marks" (.ref ml) [])) x=none->H x=none:=fun x e=>by
  have nb:x≠b:=fun z=>by rw[z,zj] at e;cases e
  cases hx:H x with
  | none=>rfl
  | some o=>rw[s2 x o hx nb] at e;cases e
 have fm:H ml=none:=g1.free hm1
 have b2':upd (upd H1 ml (.lst (os.map V.str))) b (.ins a.zx dx (ZW "marks" (.ref ml) [])) b=some (.ins a.zx dx (ZW "marks" (.ref ml) [])):=zj
 generalize upd (upd H1 ml (.lst (os.map V.str))) b (.ins a.zx dx (ZW "marks" (.ref ml) []))=H2 at s2 hm2 f2 b2'
 refine⟨_,rfl,by show 3<=sizeLine;decide,fun p0 hp0=>?_⟩
 refine⟨_,rfl,by show 3<=sizeLine;decide,fun p1 hp1=>?_⟩
 refine⟨by show 2<=sizeLine;decide,fun rl hrl=>?_⟩
 have g2:=((Same.new hp0 (.tup [.int (os.length:Nat),.int 0,.int 0])).trans (Same.new hp1 (.tup [.int (os.length:Nat),.int 1,.int 1]))).trans (Same.new hrl (.lst [.ref p0,.ref p1]))
 have hp0':=((Same.new hp1 (.tup [.int (os.length:Nat),.int 1,.int 1])).trans (Same.new hrl (.lst [.ref p0,.ref p1]))) p0 (.tup [.int (os.length:Nat),.int 0,.int 0]) zj
 have hp1':=(Same.new hrl (.lst [.ref p0,.ref p1])) p1 (.tup [.int (os.length:Nat),.int 1,.int 1]) zj
 have hr3:upd (upd (upd H2 p0 (.tup [.int (os.length:Nat),.int 0,.int 0])) p1 (.tup [.int (os.length:Nat),.int 1,.int 1])) rl (.lst [.ref p0,.ref p1]) rl=some (.lst [.ref p0,.ref p1]):=zj
 have frl:H2 rl=none:=((Same.new hp0 _).trans (Same.new hp1 _)).free hrl
 have brl:b≠rl:=zy b2' frl
 have mr:ml≠rl:=zy hm2 frl
 have b0:b≠p0:=zy b2' hp0
 have b1':b≠p1:=zy b2' ((Same.new hp0 _).free hp1)
 generalize upd (upd (upd H2 p0 (.tup [.int (os.length:Nat),.int 0,.int 0])) p1 (.tup [.int (os.length:Nat),.int 1,.int 1])) rl (.lst [.ref p0,.ref p1])=H3 at g2 hp0' hp1' hr3
 refine⟨_,rfl,b,a.zx,dx,_,rfl,g2 _ _ b2',T.zT,T.vD,by show 1<1000;decide,?_⟩
 generalize hfs:ZW "rooms" (V.ref rl) (ZW "marks" (V.ref ml) [])=fs3
 have u3:∀x,x≠b->upd H3 b (.ins a.zx dx fs3) x=H3 x:=fun x nb=>zA nb
 have b3:upd H3 b (.ins a.zx dx fs3) b=some (.ins a.zx dx fs3):=zj
 generalize upd H3 b (.ins a.zx dx fs3)=H4 at u3 b3
 refine⟨_,rfl,os.length,rfl,n8,by show 2<=sizeLine;decide,fun tl htl=>?_⟩
 have btl:b≠tl:=zy b3 htl
 have g4:=Same.new htl (.lst [.int 0,.int ((2^2^os.length-1:Nat):Int)])
 have ht5:upd H4 tl (.lst [.int 0,.int ((2^2^os.length-1:Nat):Int)]) tl=some (.lst [.int 0,.int ((2^2^os.length-1:Nat):Int)]):=zj
 generalize upd H4 tl (.lst [.int 0,.int ((2^2^os.length-1:Nat):Int)])=H5 at g4 ht5
 refine⟨_,rfl,b,a.zx,dx,_,rfl,g4 _ _ b3,T.zT,T.XH,by rw[<-hfs];show 2<1000;decide,?_⟩
 generalize zl1:ZW "tables" (V.ref tl) fs3=fs4
 have u5:∀x,x≠b->upd H5 b (.ins a.zx dx fs4) x=H5 x:=fun x nb=>zA nb
 have b5:upd H5 b (.ins a.zx dx fs4) b=some (.ins a.zx dx fs4):=zj
 generalize upd H5 b (.ins a.zx dx fs4)=H6 at u5 b5
 refine fun nd hnd=>?_
 have bnd:b≠nd:=zy b5 hnd
 have g6:=Same.new hnd (.dK [])
 refine⟨_,rfl,os.length,rfl,n8,zj,[(Sum.inl 0,.int 0),(Sum.inl ((2^2^os.length-1:Nat):Int),.int 1)],rfl,(by show 2<=15;decide),?_⟩
 rw[zht]
 have g7:=Same.new hnd (.dK (Wm [] [(Sum.inl 0,.int 0),(Sum.inl ((2^2^os.length-1:Nat):Int),.int 1)]))
 have hn7:upd H6 nd (.dK (Wm [] [(Sum.inl 0,.int 0),(Sum.inl ((2^2^os.length-1:Nat):Int),.int 1)])) nd=some (.dK (Wm [] [(Sum.inl 0,.int 0),(Sum.inl ((2^2^os.length-1:Nat):Int),.int 1)])):=zj
 generalize upd H6 nd (.dK (Wm [] [(Sum.inl 0,.int 0),(Sum.inl ((2^2^os.length-1:Nat):Int),.int 1)]))=H7 at g7 hn7
 refine⟨_,rfl,b,a.zx,dx,_,rfl,g7 _ _ b5,T.zT,T.vq,by rw[<-zl1,<-hfs];show 3<1000;decide,?_⟩
 have big:2^2^os.length-1≠0:=by
  have:2^1<=2^2^os.length:=zrq (by decide) Nat.one_le_two_pow
  omega
 have to7:∀x o,H3 x=some o->x≠b->upd H7 b (.ins a.zx dx (ZW "numbers" (.ref nd) fs4)) x=some o:=fun x o e nb=>by
  rw[zA nb]
  refine g7 _ _ ?_
  rw[u5 x nb]
  refine g4 _ _ ?_
  rw[u3 x nb]
  exact e
 have tl6:H6 tl=some (.lst [.int 0,.int ((2^2^os.length-1:Nat):Int)]):=by rw[u5 tl (Ne.symm btl)];exact ht5
 have efs:ZW "numbers" (.ref nd) fs4=Ni ml rl tl nd:=by rw[<-zl1,<-hfs];rfl
 have up:∀x o,H3 x=some o->x≠b->H4 x=some o:=fun x o e nb=>by rw[u3 x nb];exact e
 have mt:ml≠tl:=zy (up _ _ (g2 _ _ hm2) (Ne.symm bm)) htl
 have rt:rl≠tl:=zy (up _ _ hr3 (Ne.symm brl)) htl
 have fr4:∀x,H4 x=none->H x=none:=fun x e=>f2 x (by
  cases hx:H2 x with
  | none=>rfl
  | some o =>
   by_cases nb:x=b
   ·rw[nb,b3] at e;cases e
   ·rw[up x o (g2 _ _ hx) nb] at e;cases e)
 have fr6:∀x,H6 x=none->H x=none:=fun x e=>by
  have nb:x≠b:=fun z=>by rw[z,b5] at e;cases e
  rw[u5 x nb] at e
  exact fr4 x (g4.free e)
 have two:∀{j:Nat},j<2->j=0\/j=1:=fun h=>by omega
 have bk0:yc.Bk os.length [none,none]:=⟨rfl,rfl,fun k h1 h2=>by simp at h2;omega,fun i j x e _=>by
  have:=(zqX.mp e).1
  rcases two (by simpa using this) with z | z<;>subst z<;>cases e⟩
 refine q _ (fun x=>x=b\/x=ml\/x=rl\/x=tl\/x=nd) (fun x o e nb=>to7 x o (g2 _ _ (s2 x o e nb)) nb) ⟨dx,ml,rl,tl,nd,[.ref p0,.ref p1],[0,2^2^os.length-1],Wm [] [(Sum.inl 0,.int 0),(Sum.inl ((2^2^os.length-1:Nat):Int),.int 1)],?_⟩ (fun x hx=>?_)
 ·refine { hb:=by rw[zj,efs],hm:=to7 _ _ (g2 _ _ hm2) (Ne.symm bm),hr:=to7 _ _ hr3 (Ne.symm brl),ht:=by rw[zA (Ne.symm btl)];exact g7 _ _ tl6,hd:=by rw[zA (Ne.symm bnd)];exact hn7,mr:=mr,mt:=mt,rt:=rt,ord:=ho,bk:=bk0,len:=rfl,rm:=?_,tabs:=?_,nums:=?_,ft:=fun x=>Iff.rfl }
  ·intro j x e
   have:=(zqX.mp e).1
   rcases two (by simpa using this) with z | z<;>subst z<;>cases e
   ·exact⟨p0,rfl,to7 _ _ hp0' (Ne.symm b0)⟩
   ·exact⟨p1,rfl,to7 _ _ hp1' (Ne.symm b1')⟩
  ·refine⟨rfl,fun j t e=>?_⟩
   have:=(zqX.mp e).1
   rcases two (by simpa using this) with z | z<;>subst z<;>cases e
   ·exact zV (Zd _) fun b _=>rfl
   ·exact zV (Vj _) fun b _=>(yc.Zg bk0 _).symm
  ·have z0:Nums [] []:=⟨fun j t e=>by simp at e,fun t _=>rfl,zra _⟩
   have z1:=z0.snoc (t:=0) (by simp)
   exact z1.snoc (t:=2^2^os.length-1) (fun hm=>by simp at hm;omega)
 ·rcases hx with z | z | z | z | z<;>subst z
  ·exact .inl rfl
  ·exact .inr (.inr fm)
  ·exact .inr (.inr (f2 _ frl))
  ·exact .inr (.inr (fr4 _ htl))
  ·exact .inr (.inr (fr6 _ hnd))
theorem zfS (T:Txt P w K mg a):zB P w K mg base zX (k+1) a.xr a.xu yL (LQ K):=by
 refine T.xG.F.ok W6 (fun vs H Q E h=>?_) (fun cdv A outer s H vs Q E hr h=>?_)
 ·obtain⟨l,ns,i,rfl,_⟩:=h
  rfl
 obtain⟨l,ns,i,rfl,hS,q⟩:=h
 refine⟨_,(zf (yF (zM zce (pv 1) (zN zK rfl T.wI yO (za (pv 0) zc)) (zQ _)) (zm (zJ (yt yU (pv 0) (pv 1) (fun _ _=>rfl)))) zU)
   (zm (zJ zp))),?_⟩
 refine⟨_,rfl,_,rfl,l,_,rfl,.inl hS,_,_,rfl,rfl,_,rfl,?_⟩
 refine yj (fun c=>?_) (fun c=>?_)
 ·have c':(i:Int)<(((ns.map V.int).length:Nat):Int):=of_decide_eq_true c
  rw[zqU] at c'
  have hi:i<ns.length:=by omega
  have ec:tV ns i=ns[i]:=by unfold tV;rw[zqV hi];rfl
  rw[ec] at q
  exact⟨_,rfl,_,rfl,l,_,i,_,rfl,rfl,hS,xZ (by rw[zqW,zqV hi];rfl),q⟩
 ·have hi:ns.length<=i:=by
   refine Nat.le_of_not_lt fun hlt=>c (decide_eq_true ?_)
   rw[zqU];omega
  have ec:tV ns i=0:=by unfold tV;rw[zru hi];rfl
  rw[ec] at q
  exact q
theorem N6 (T:Txt P w K mg a):zB P w K mg base zX (k+1) a.uY a.uZ vp (Tz a.zx):=by
 refine T.V3.F.ok Nr (fun vs H Q E h=>?_) (fun cdv A outer s H vs Q E hr h=>?_)
 ·obtain⟨b,os,rs,F,j,rfl,_⟩:=h
  rfl
 obtain⟨b,os,rs,F,j,rfl,⟨dx,ml,rl,tl,nd,rv,ts,kvs,h⟩,hk,q⟩:=h
 refine⟨_,(zm (zJ (yt tD (yt yU (u9 (pv 0) rfl) (pv 1) (fun _ _=>rfl)) zp (fun _ _=>rfl)))),?_⟩
 have ex:=zqV hk
 obtain⟨p,e1,e2⟩:=h.rm j _ ex
 refine⟨_,rfl,b,a.zx,dx,_,_,rfl,h.hb,T.zT,T.vD,rfl,_,rfl,rl,_,_,_,rfl,rfl,zZ.of h.hr,xZ e1,?_⟩
 refine⟨p,_,0,.int (yc.ZM os.length rs j:Nat),rfl,rfl,tY.of e2,?_,q⟩
 unfold yc.ZM
 rw[ex]
 cases rs[j] with
 | none=>rfl
 | some t=>rfl
theorem zam (T:Txt P w K mg a):zB P w K mg base zX (k+1) a.Zz a.ZC ug (Qn a.zx):=by
 refine T.Xb.F.ok zaf (fun vs H Q E h=>?_) (fun cdv A outer s H vs Q E hr h=>?_)
 ·obtain⟨b,os,rs,F,j,x,v,rfl,_⟩:=h
  rfl
 obtain⟨b,os,rs,F,j,x,v,rfl,⟨dx,ml,rl,tl,nd,rv,ts,kvs,h⟩,ex,q⟩:=h
 refine⟨_,(zm (zJ (yt tD (yt yU (u9 (pv 0) rfl) (pv 1) (fun _ _=>rfl)) (zH vG zp (pv 2)) (fun _ _=>rfl)))),?_⟩
 obtain⟨p,e1,e2⟩:=h.rm j _ ex
 refine⟨_,rfl,b,a.zx,dx,_,_,rfl,h.hb,T.zT,T.vD,rfl,_,rfl,rl,_,_,_,rfl,rfl,zZ.of h.hr,xZ e1,?_⟩
 refine⟨_,rfl,_,_,rfl,rfl,p,_,_,.int (Vo j x v:Nat),rfl,rfl,tY.of e2,?_,q⟩
 cases v<;>cases x<;>rfl
theorem zdi (T:Txt P w K mg a)
  (Lq:zB P w K mg base zX k a.uY a.uZ vp (Tz a.zx))
  (Xc:zB P w K mg base zX k a.Zz a.ZC ug (Qn a.zx)):zB P w K mg base zX (k+1) a.Ry a.Rz Vv (zgR a.zx):=by
 refine T.Jz.F.ok zcY (fun vs H Q E h=>?_) (fun cdv A outer s H vs Q E hr h=>?_)
 ·obtain⟨b,os,rs,F,j,p,v,rfl,_⟩:=h
  rfl
 obtain⟨b,os,rs,F,j,p,v,rfl,hB,hj,hp,q⟩:=h
 refine⟨_,(zf (yF (zM yX (z8 (pv 0) T.zT T.V3 Lq hr (za (pv 1) zc)) (pv 2) (zQ _)) (zm (zJ (z8 (pv 0) T.zT T.Xb Xc hr (za (pv 1) (za (pv 3) zc))))) zU)
   (zm (zJ (pv 1)))),?_⟩
 have BK:=(wj a.zx).bk hB
 have hB0:=hB
 obtain⟨dx,ml,rl,tl,nd,rv,ts,kvs,h⟩:=hB
 refine⟨_,rfl,b,dx,_,rfl,h.hb,rfl,_,rfl,b,os,rs,F,j,rfl,hB0,hj,_,rfl,rfl,_,rfl,yj (fun c=>?_) (fun c=>?_)⟩
 ·have el:yc.ZM os.length rs j=p:=by
   have:=of_decide_eq_true c
   injection this with this
   omega
  have j2:2<=j:=by
   refine Nat.le_of_not_lt fun h2=>?_
   have:j=0\/j=1:=by omega
   rcases this with z | z<;>subst z
   ·rw[yc.Rh BK] at el;omega
   ·rw[yc.Tt BK] at el;omega
  obtain⟨i,lo,hi,e,_⟩:=BK.rm j j2 hj
  rw[yc.uI BK e] at el
  subst el
  refine⟨_,rfl,b,dx,_,rfl,h.hb,rfl,_,rfl,_,rfl,b,os,rs,F,j,_,v,rfl,hB0,e,?_⟩
  have:yc.Lg rs j i v=Vo j (some (i,lo,hi)) v:=by
   unfold yc.Lg
   rw[e]
   exact if_pos rfl
  rw[<-this]
  exact q
 ·have el:yc.Lg rs j p v=j:=by
   unfold yc.Lg
   cases e:rs[j]? with
   | none=>rfl
   | some x =>
    cases x with
    | none=>rfl
    | some t =>
     obtain⟨i,lo,hi⟩:=t
     refine if_neg fun z=>c (decide_eq_true ?_)
     rw[yc.uI BK e,z]
  rw[el] at q
  exact⟨_,rfl,q⟩
theorem zfT (T:Txt P w K mg a):zB P w K mg base zX (k+1) a.QZ a.Q5 Uz (Lz K):=by
 refine T.zc5.F.ok zfM (fun vs H Q E h=>?_) (fun cdv A outer s H vs Q E hr h=>?_)
 ·obtain⟨l,r,xs,ns,rfl,_⟩:=h
  rfl
 obtain⟨l,r,xs,ns,rfl,hl,hq,hz,q⟩:=h
 refine⟨_,(zm (zJ (zdu (uU yX (zN zK rfl T.wI yO (za (pv 1) zc)) (zN zK rfl T.wI yO (za (pv 0) zc)) (zQ _)) (zds (zN (Ys rfl) rfl T.M8 Ug (za (Z0 (tZ:=zq Jk) (js:=[]) rfl (by show XR _ _ "value" [];exact lco (by decide +kernel)) rfl (xK (pv 1)) (by show ∀j∈([]:List Nat),j<2;decide) (fun cl C s₂ H₂ fp=>(uU (zgB (K:=K) rfl) (pv 0) (vH (za zp (za zp zc))) (by with_unfolding_all rfl)))) zc)))))),?_⟩
 have hlen:(ns.map V.int).length=ns.length:=zqU _
 refine⟨_,rfl,r,_,rfl,.inl hq,_,rfl,l,_,rfl,.inl hl,rfl,_,rfl,yj (fun c=>?_) (fun c=>?_)⟩
 ·have c':ns.length=xs.length:=by
   have:=of_decide_eq_true c
   injection this with this
   rw[hlen] at this;omega
  refine⟨_,rfl,r,rfl,⟨_,hq⟩,zbo (fun x v=>v=(match x with | .int i=>.bl (i==0||i==1) | _=>.non)) hq (by rw[hlen];exact zrd (yq hz)) ?_ ?_ ?_⟩
  ·intro i x H' hx g
   rw[zqW] at hx
   cases ho:ns[i]? with
   | none=>rw[ho] at hx;cases hx
   | some y =>
    rw[ho] at hx
    cases hx
    refine⟨_,rfl,by show 2<=sizeLine;decide,fun p hp=>⟨p,_,rfl,.inr (tY.of zj),rfl,rfl,?_,g.trans (Same.new hp _)⟩⟩
    show V.bl ((0==y)||((1==y)||false))=V.bl (y==0||y==1)
    have e0:((0:Int)==y)=(y==0):=by rw[zrz];simp;exact eq_comm
    have e1:((1:Int)==y)=(y==1):=by rw[zrz];simp;exact eq_comm
    rw[e0,e1,Bool.or_false]
  ·rintro σ' H' Q1 Q2 hQ ⟨v,e,z,h2⟩
   exact⟨v,e,z,fun p hp=>let ⟨a1,a2,a3,a4,a5,a6,a7⟩:=h2 p hp;⟨a1,a2,a3,a4,a5,a6,hQ _ _ a7⟩⟩
  ·intro ys H' p hr' g hp
   have e:=PN (f:=fun x=>match x with | .int i=>.bl (i==0||i==1) | _=>.non) hr'
   have e2:ys=(ns.map fun i=>(i==0||i==1)).map V.bl:=by rw[e,zrw,zrw];rfl
   subst e2
   refine⟨p,_,rfl,zZ.of zj,?_⟩
   have e4:(ns.map fun i=>(i==0||i==1)).all id=zcq xs.length ns:=by
    unfold zcq
    rw[decide_eq_true c',Bool.true_and,List.all_map]
    rfl
   rw[e4]
   exact q _ (g.trans (Same.new hp _))
 ·have e4:zcq xs.length ns=false:=by
   unfold zcq
   rw[decide_eq_false (fun z=>c (decide_eq_true (by rw[hlen,z]))),Bool.false_and]
  rw[<-e4]
  exact q _ (Same.refl _)
theorem JF (T:Txt P w K mg a)(zhl:zB P w K mg base zX k a.QZ a.Q5 Uz (Lz K)):zB P w K mg base zX (k+1) a.Wv a.Ww Yj (Nf K):=by
 refine T.SX.F.ok Jm (fun vs H Q E h=>?_) (fun cdv A outer s H vs Q E hr h=>?_)
 ·obtain⟨l,r,xs,ns,rfl,_⟩:=h
  rfl
 obtain⟨l,r,xs,ns,rfl,h1,h2,h3,h4,q⟩:=h
 refine⟨_,(zm (yF (Wj (uL (zu zhl hr T.zc5 (za (pv 0) (za (pv 1) zc))) (fun _=>rfl))) (zm WL) zU)),?_⟩
 refine⟨_,rfl,_,rfl,l,r,xs,ns,rfl,h1,h2,h3,fun H' g=>⟨_,rfl,?_⟩⟩
 rw[h4]
 exact Pz (q H' g)
theorem Te (T:Txt P w K mg a):zB P w K mg base zX (k+1) a.yd a.yg z7 (vO a.zx):=by
 refine T.yw.F.ok UL (fun vs H Q E h=>?_) (fun cdv A outer s H vs Q E hr h=>?_)
 ·obtain⟨b,os,rs,F,j,rfl,_⟩:=h
  rfl
 obtain⟨b,os,rs,F,j,rfl,⟨dx,ml,rl,tl,nd,rv,ts,kvs,h⟩,hk,q⟩:=h
 refine⟨_,(zm (yF (PW.pt (T8 (zM zce (pv 1) zp (zQ _)) (Ua (zM zi3 (pv 1) (zN zK rfl T.wI yO (za (u9 (pv 0) rfl) zc)) (zQ _))))) (zm WL) zU)),?_⟩
 have hl:=h.len
 refine⟨_,rfl,_,_,rfl,rfl,_,rfl,yj (fun c=>absurd (of_decide_eq_true c) (by omega)) (fun _=>?_)⟩
 refine⟨_,rfl,_,rfl,b,a.zx,dx,_,_,rfl,h.hb,T.zT,T.vD,rfl,rl,_,rfl,.inl (zZ.of h.hr),_,_,rfl,rfl,_,rfl,yj (fun c=>absurd (of_decide_eq_true c) (by omega)) (fun _=>?_)⟩
 exact q
theorem N7 (T:Txt P w K mg a):zB P w K mg base zX (k+1) a.xW a.xX xq (Xf a.zx):=by
 refine T.xH.F.ok Nt (fun vs H Q E h=>?_) (fun cdv A outer s H vs Q E hr h=>?_)
 ·obtain⟨b,os,rs,F,j,rfl,_⟩:=h
  rfl
 obtain⟨b,os,rs,F,j,rfl,⟨dx,ml,rl,tl,nd,rv,ts,kvs,h⟩,hk,q⟩:=h
 refine⟨_,(zm (zJ (yt yU (u9 (pv 0) rfl) (pv 1) (fun _ _=>rfl)))),?_⟩
 have ht:j<ts.length:=by rw[h.tabs.len];exact hk
 have ex:=zqV ht
 refine⟨_,rfl,b,a.zx,dx,_,_,rfl,h.hb,T.zT,T.XH,rfl,_,rfl,tl,_,_,.int (ts[j]:Nat),rfl,rfl,zZ.of h.ht,xZ (by rw[zqW,ex];rfl),?_⟩
 exact q _ (h.tabs.tab j _ ex)
theorem zan (T:Txt P w K mg a):zB P w K mg base zX (k+1) a.uD a.uE vh (tU (yu a.zx)):=by
 refine T.Xa.F.ok zad (fun vs H Q E h=>?_) (fun cdv A outer s H vs Q E hr h=>?_)
 ·obtain⟨b,os,rs,F,rfl,_⟩:=h
  rfl
 obtain⟨b,os,rs,F,rfl,⟨dx,ml,rl,tl,nd,rv,ts,kvs,h⟩,q⟩:=h
 refine⟨_,(zm (zJ (ZX Qa rfl T.RD Tj (za (u9 (pv 0) rfl) zc)))),?_⟩
 exact⟨_,rfl,b,a.zx,dx,_,_,rfl,h.hb,T.zT,T.vC,rfl,ml,_,rfl,.inl (zZ.of h.hm),fun l hl=>q l _ (Same.new hl _) hl zj⟩
theorem zei (T:Txt P w K mg a):zB P w K mg base zX (k+1) a.W7 a.W8 Xg WY:=by
 refine T.NK.F.ok zd7 (fun vs H Q E h=>?_) (fun cdv A outer s H vs Q E hr h=>?_)
 ·obtain⟨N,M,n,f,g,rfl,_⟩:=h
  rfl
 obtain⟨N,M,n,f,g,rfl,tb,tg,q⟩:=h
 refine⟨_,(zm (zJ (zH Ye (pv 0) (zH v7 (pv 0) (pv 1))))),?_⟩
 refine⟨_,rfl,_,rfl,_,rfl,N,M,rfl,rfl,N,N&&&M,rfl,rfl,q _ (zV (Za.Ze tb (Za.vJ tb tg)) fun b _=>?_)⟩
 show(f b != (f b&&g b))=(f b&&!g b)
 cases f b<;>cases g b<;>rfl
theorem N8 (T:Txt P w K mg a)
  (zW:zB P w K mg base zX k a.yd a.yg z7 (vO a.zx))
  (zao:zB P w K mg base zX k a.Wv a.Ww Yj (Nf K))
  (zej:zB P w K mg base zX k a.Ry a.Rz Vv (zgR a.zx)):zB P w K mg base zX (k+1) a.YC a.YD uW (Uv a.zx K):=by
 refine T.YJ.F.ok uf (fun vs H Q E h=>?_) (fun cdv A outer s H vs Q E hr h=>?_)
 ·obtain⟨b,rl,os,rs,F,j,r,rfl,_⟩:=h
  rfl
 obtain⟨b,rl,os,rs,F,j,r,rfl,hB,hj,hR,hl,q⟩:=h
 refine⟨_,(zf (yC (z8 (pv 0) T.zT T.yw zW hr (za (pv 1) zc)))
   (zf (yC (zu zao hr T.SX (za (u9 (pv 0) rfl) (za (pv 2) zc))))
   (zf (u6 PassesOwn.never rfl (zhW rfl T.M9 (za (pv 2) zc)) (Kp rfl (uK (yD (i:=3) uf.nd rfl (Or.inl rfl)) (uK (yD (i:=4) uf.nd rfl (Or.inl rfl)) RV))) (zm (zE 1 uf.nd (z8 (pv 0) T.zT T.Jz zej hr (za (pv 1) (za (pv 3) (za (pv 4) zc)))))))
   (zm (zJ (pv 1)))))),?_⟩
 have L:=wj a.zx
 have BK:=L.bk hB
 have ho:=L.ord hB
 have hB0:=hB
 have hlen:(os.map V.str).length=os.length:=zqU _
 obtain⟨dx,ml,rml,tl,nd,rv,ts,kvs,h⟩:=hB
 refine⟨_,rfl,b,dx,_,rfl,h.hb,rfl,_,rfl,b,os,rs,F,j,rfl,hB0,hj,?_⟩
 have hR':=hR
 rw[zfu] at hR'
 refine⟨_,rfl,b,a.zx,dx,_,_,rfl,h.hb,T.zT,T.vC,rfl,_,rfl,ml,rl,_,_,rfl,zZ.of h.hm,hR',by rw[zqU,hl];exact zrg ho.le (by decide),by rw[hlen];exact zdR r hl,fun H1 g1=>?_⟩
 refine⟨_,rfl,rl,YT r,rfl,g1.seq hR,?_⟩
 have len:(YT r).length=r.length:=zqU _
 refine zgs (xs:=YT r) (fun i σ H'=>Same H H'/\∃(f3 f4:Option V),σ=[some (.ref b),some (.int (yc.wk rs j (yc.Uu r) i:Nat)),some (.ref rl),f3,f4]) ⟨g1,_,_,rfl⟩ ?_ ?_ ?_
 ·rintro i σ H' _ ⟨g,_⟩
  exact g.seq hR
 ·rintro i x σ H' p hx ⟨g,f3,f4,rfl⟩ hp
  have hi:i<r.length:=by
   have:=(zqX.mp hx).1
   rw[len] at this;exact this
  have ex:x=V.int ((yc.Uu r i).toNat:Nat):=by
   unfold YT at hx
   rw[zqW,zqV hi] at hx
   unfold yc.Uu
   rw[zq7,zqV hi]
   exact(zrp hx).symm
  subst ex
  refine⟨p,_,rfl,tY.of zj,rfl,_,_,rfl,_,_,rfl,rfl,?_⟩
  have g2:=g.trans (Uj hp (.tup [.int (i:Nat),.int ((yc.Uu r i).toNat:Nat)]))
  obtain⟨w1,w2,w3⟩:=yc.zby BK hj (yc.Uu r) i (by omega)
  refine⟨_,rfl,b,dx,_,rfl,g2 _ _ h.hb,rfl,_,rfl,_,rfl,_,rfl,b,os,rs,F,_,i,yc.Uu r i,rfl,L.same hB0 g2,w1,by omega,?_⟩
  exact⟨g2,_,_,rfl⟩
 ·rintro σ H' ⟨g,f3,f4,rfl⟩
  refine⟨_,rfl,?_⟩
  rw[len,hl]
  have e:=yc.zkc BK hj (yc.Uu r)
  obtain⟨w1,w2,w3⟩:=yc.zby BK hj (yc.Uu r) os.length (zra _)
  have e2:yc.wk rs j (yc.Uu r) os.length=(yc.yes rs j (yc.Uu r)).toNat:=by
   rw[<-e]
   by_cases h2:2<=yc.wk rs j (yc.Uu r) os.length
   ·exfalso
    obtain⟨i,lo,hi,e,hin,_⟩:=BK.rm _ h2 w1
    rw[yc.uI BK e] at w2
    omega
   ·have:yc.wk rs j (yc.Uu r) os.length=0\/yc.wk rs j (yc.Uu r) os.length=1:=by omega
    rcases this with z | z<;>rw[z]<;>rfl
  rw[e2]
  exact q H' g
theorem JG (T:Txt P w K mg a)(zW:zB P w K mg base zX k a.yd a.yg z7 (vO a.zx))(Xc:zB P w K mg base zX k a.Zz a.ZC ug (Qn a.zx)) :
  zB P w K mg base zX (k+1) a.Vy a.Vz Y7 (K8 a.zx):=by
 refine T.Q7.F.ok Yk (fun vs H Q E h=>?_) (fun cdv A outer s H vs Q E hr h=>?_)
 ·obtain⟨b,os,rs,F,k0,rfl,_⟩:=h
  rfl
 obtain⟨b,os,rs,F,k0,rfl,hB,hk,q⟩:=h
 refine⟨_,(zf (yC (z8 (pv 0) T.zT T.yw zW hr (za (pv 1) zc)))
   (zf (zE 2 Yk.nd zcy)
   (zf (zE 3 Yk.nd (uG (za (pv 1) zc)))
   (zf (RW PassesOwn.never (zM zau (zN zK rfl T.wI yO (za (pv 3) zc)) zp (zQ _)) (zf (zE 4 Yk.nd (zjL PySem.F.plainAttrs_list PySem.F.slot_list_pop PySem.F.type_list_pop zjN (pv 3)))
   (zm (yF (zf2 (zaK (Ky hr) (pv 4) (pv 2))) (zf (zbv (Ky hr) (pv 2) (pv 4) RQ rfl)
   (zm (yC (Yr PySem.F.plainAttrs_list PySem.F.slot_list_extend PySem.F.type_list_extend zaB (pv 3) (za (uG (za (z8 (pv 0) T.zT T.Xb Xc hr (za (pv 4) (za zp zc))) (za (z8 (pv 0) T.zT T.Xb Xc hr (za (pv 4) (za zp zc))) zc))) zc))))) zU))))
   (zm (zJ (zN (Qx rfl) rfl T.zhj zfz (za (pv 2) zc)))))))),?_⟩
 have L:=wj a.zx
 have BK:=L.bk hB
 obtain⟨dx,ml,rl,tl,nd,rv,tbs,zl3,h⟩:=hB
 have hB:yu a.zx H b os rs F:=⟨dx,ml,rl,tl,nd,rv,tbs,zl3,h⟩
 refine⟨_,rfl,b,dx,_,rfl,h.hb,rfl,_,rfl,b,os,rs,F,k0,rfl,hB,hk,?_⟩
 refine fun f hf=>?_
 refine⟨_,rfl,by show 1<=sizeLine;decide,fun t ht=>?_⟩
 have nft:f≠t:=zy zj ht
 have g0:=(Same.new hf (.dK [])).trans (Same.new ht (.lst [.int k0]))
 have p33:2^os.length+1<=257:=Nat.succ_le_succ (zrq (n:=2) (j:=8) (by decide) (L.ord hB).le)
 refine⟨fun m σ H'=>∃(ks ts:List Nat) (kvs:List (Key×V)) (f4:Option V),m=3*(rs.length-ks.length)+ts.length/\yc.Dfs rs k0 ks ts/\Same H H'/\H' f=some (.dK kvs)/\kvs.map (·.1)=ks.map (fun(n:Nat)=>(Sum.inl (n:Int):Key))/\H' t=some (.lst (ts.map fun(n:Nat)=>V.int n)) /\
   σ=[some (.ref b),some (.int k0),some (.ref f),some (.ref t),f4],
  ⟨_,[],[k0],[],none,rfl,yc.Dfs.start rs k0,g0,by rw[zA nft];exact zj,rfl,zj,rfl⟩,?_⟩
 rintro m σ H' ⟨ks,ts,kvs,f4,rfl,D,g,hf',hkv,ht',rfl⟩
 have lks:ks.length<=257:=zrg (yc.zfy BK hk D.nd D.r1) p33
 have lkv:kvs.length=ks.length:=by have:=congrArg List.length hkv;rw[zqU,zqU] at this;exact this
 refine⟨_,rfl,t,_,rfl,.inl (zZ.of ht'),_,_,rfl,rfl,_,rfl,yj (fun c=>?_) (fun c=>?_)⟩
 ·have c':0<ts.length:=by have:=of_decide_eq_true c;rw[zqU] at this;omega
  obtain⟨ts',x,rfl⟩:∃ts' x,ts=ts'++[x]:=⟨ts.dropLast,ts.getLast (List.ne_nil_of_length_pos c'),(List.dropLast_concat_getLast _).symm⟩
  refine⟨_,fun σ' H2 h=>h,?_⟩
  have e1:((ts'++[x]).map fun(n:Nat)=>V.int n)[((ts'++[x]).map fun(n:Nat)=>V.int n).length-1]?=some (.int (x:Nat)):=by
   simp
  have e2:((ts'++[x]).map fun(n:Nat)=>V.int n).dropLast=ts'.map fun(n:Nat)=>V.int n:=by simp
  refine⟨_,rfl,.inl ⟨rfl,_,zZ.of ht'⟩,t,_,_,rfl,rfl,ht',e1,?_⟩
  rw[e2]
  have g1:Same H (upd H' t (.lst (ts'.map fun(n:Nat)=>V.int n))):=g.over ((Same.new hf _).free ht) _
  have hf1:(upd H' t (.lst (ts'.map fun(n:Nat)=>V.int n))) f=some (.dK kvs):=by rw[zA nft];exact hf'
  refine⟨_,rfl,_,rfl,f,_,rfl,Lf.k (k:=.inl (x:Int)) hf1,?_⟩
  have hkm:(Sum.inl (x:Int):Key)∈kvs.map (·.1)↔x∈ks:=by
   rw[hkv,List.mem_map]
   exact⟨fun⟨j,hj,e⟩=>(Int.ofNat.inj (Sum.inl.inj e):j=x) ▸ hj,fun h=>⟨x,h,rfl⟩⟩
  have e3:(tG kvs (Sum.inl (x:Int):Key)).isSome=decide (x∈ks):=by rw[zcB];exact decide_eq_decide.mpr hkm
  rw[e3]
  refine⟨_,rfl,yj (fun z=>?_) (fun z=>?_)⟩
  ·have hx:x∉ks:=fun h=>by rw[decide_eq_true h] at z;cases z
   have bound:=D.room BK hk hx
   refine⟨_,rfl,_,rfl,f,_,rfl,zdS.k (k:=.inl (x:Int)) hf1 (by rw[lkv];exact yq (by omega)),?_⟩
   have hnone:tG kvs (Sum.inl (x:Int):Key)=none:=by rw[decide_eq_false hx] at e3;exact Option.isSome_eq_false_iff.mp e3 |> Option.isNone_iff_eq_none.mp
   rw[zcu _ hnone]
   have g2:Same H (upd (upd H' t (.lst (ts'.map fun(n:Nat)=>V.int n))) f (.dK (kvs++[(Sum.inl (x:Int),V.bl true)]))):=g1.over hf _
   have znI:(kvs++[((Sum.inl (x:Int):Key),V.bl true)]).map (·.1)=(ks++[x]).map (fun(n:Nat)=>(Sum.inl (n:Int):Key)):=by rw[zq8,zq8,hkv];rfl
   have ht2:(upd (upd H' t (.lst (ts'.map fun(n:Nat)=>V.int n))) f (.dK (kvs++[(Sum.inl (x:Int),V.bl true)]))) t=some (.lst (ts'.map fun(n:Nat)=>V.int n)):=by rw[zA (Ne.symm nft)];exact zj
   have hf2:(upd (upd H' t (.lst (ts'.map fun(n:Nat)=>V.int n))) f (.dK (kvs++[(Sum.inl (x:Int),V.bl true)]))) f=some (.dK (kvs++[(Sum.inl (x:Int),V.bl true)])):=zj
   generalize upd (upd H' t (.lst (ts'.map fun(n:Nat)=>V.int n))) f (.dK (kvs++[(Sum.inl (x:Int),V.bl true)]))=H2 at g2 ht2 hf2
   have hxl:x<rs.length:=(D.r2 x (zrb _ zre)).lt BK hk
   have hB2:=L.same hB g2
   obtain⟨rm,ex⟩:∃rm,rs[x]?=some rm:=⟨_,zqV hxl⟩
   have b2:=g2 _ _ h.hb
   refine⟨_,rfl,.inl ⟨rfl,_,zZ.of ht2⟩,?_⟩
   refine⟨_,rfl,b,dx,_,rfl,b2,rfl,_,rfl,b,os,rs,F,x,rm,false,rfl,hB2,ex,?_⟩
   refine⟨_,rfl,b,dx,_,rfl,b2,rfl,_,rfl,b,os,rs,F,x,rm,true,rfl,hB2,ex,?_⟩
   refine⟨by show 2<=sizeLine;decide,fun l6 hl6=>?_⟩
   have g6:=Same.new hl6 (.lst [.int (Vo x rm false:Nat),.int (Vo x rm true:Nat)])
   have D':yc.Dfs rs k0 (ks++[x]) (ts'++[Vo x rm false,Vo x rm true]):=by
    cases rm with
    | none =>
     refine D.add [x,x] hx (fun y hy=>?_) (fun i lo hi e=>by rw[ex] at e;cases e) (zra _)
     have:y=x:=by simpa using hy
     rw[this]
     exact D.r2 x (zrb _ zre)
    | some tr =>
     obtain⟨i,lo,hi⟩:=tr
     exact D.node hx ex
   refine⟨t,l6,_,_,rfl,rfl,g6 _ _ ht2,zj,?_,?_⟩
   ·have:=D.len
    rw[zq2,zrs] at this
    rw[zqU]
    exact zrd (yq (show ts'.length+2<=1000 by omega))
   ·refine⟨_,?_,ks++[x],ts'++[Vo x rm false,Vo x rm true],_,_,rfl,D',(g2.trans g6).over ((Same.new hf _).free ht) _,?_,znI,?_,rfl⟩
    ·rw[zq2,zq2,zq2,zrs]
     show 3*(rs.length-(ks.length+1))+(ts'.length+2)<_
     omega
    ·rw[zA nft];exact g6 _ _ hf2
    ·rw[zj,zq8];rfl
  ·have hx:x∈ks:=Decidable.byContradiction fun h=>z (by rw[decide_eq_false h];rfl)
   refine⟨_,?_,ks,ts',kvs,_,rfl,D.skip hx,g1,hf1,hkv,zj,rfl⟩
   rw[zq2,zrs]
   omega
 ·have ets:ts=[]:=by
   have:¬ 0<ts.length:=fun z=>c (decide_eq_true (by rw[zqU];omega))
   exact List.length_eq_zero_iff.mp (by omega)
  subst ets
  refine⟨_,rfl,f,kvs,ks.map fun(n:Nat)=>(n:Int),rfl,hf',by rw[hkv,zrw];rfl,by rw[zqU];omega,zlI D.nd,fun l ms hl pm up=>?_⟩
  exact q l _ ms (g.trans (Same.new hl _)) (g.free hl) zj (yc.YX.of D.nd D.done pm up)
theorem zek (T:Txt P w K mg a)(zb2:zB P w K mg base zX k a.Vy a.Vz Y7 (K8 a.zx)):zB P w K mg base zX (k+1) a.Nu a.Nv TV (K9 a.zx):=by
 refine T.NQ.F.ok zd9 (fun vs H Q E h=>?_) (fun cdv A outer s H vs Q E hr h=>?_)
 ·obtain⟨b,os,rs,F,k0,rfl,_⟩:=h
  rfl
 obtain⟨b,os,rs,F,k0,rfl,hB,hk,q⟩:=h
 refine⟨_,(zm (zJ (zN zK rfl T.wI yO (za (z8 (pv 0) T.zT T.Q7 zb2 hr (za (pv 1) zc)) zc)))),?_⟩
 have L:=wj a.zx
 obtain⟨dx,fs,zel,hm⟩:=L.ins hB
 refine⟨_,rfl,b,dx,fs,rfl,zel,hm _ (by decide +kernel),_,rfl,b,os,rs,F,k0,rfl,hB,hk,fun l H' ms g hl0 hl ib=>?_⟩
 refine⟨l,_,rfl,.inl (zZ.of hl),?_⟩
 rw[zqU]
 exact q H' ms g ib
theorem Lr (T:Txt P w K mg a)(xg:zB P w K mg base zX k a.Z6 a.Z7 tX Xp):zB P w K mg base zX (k+1) a.Xx a.Xy Zq (Wn K):=by
 refine T.U9.F.ok xV (fun vs H Q E h=>?_) (fun cdv A outer s H vs Q E hr h=>?_)
 ·obtain⟨N,n,f,pl,ps,rfl,_⟩:=h
  rfl
 obtain⟨N,n,f,pl,ps,rfl,hn,tb,hpl,hps,zoz,q⟩:=h
 refine⟨_,(zf (zE 3 xV.nd (uG zc))
   (zf (u6 PassesOwn.never rfl (xK (pv 1)) (yD (i:=4) xV.nd rfl (Or.inl rfl)) (zf (zE 5 xV.nd (zu xg hr T.Yb (za (pv 0) (za (pv 4) (za zp (za (pv 2) zc))))))
   (zf (zE 6 xV.nd (Km (zM Mg (pv 5) zp (zQ _)) zp zp))
   (zf (zE 0 xV.nd (zu xg hr T.Yb (za (pv 0) (za (pv 4) (za (pv 6) (za (pv 2) zc))))))
   (zm (yC (Yr PySem.F.plainAttrs_list PySem.F.slot_list_append PySem.F.type_list_append tQ (pv 3) (za (pv 6) zc))))))))
   (zm (zJ (pv 3))))),?_⟩
 refine⟨by show 0<=sizeLine;decide,fun l hl=>?_⟩
 have g0:=Same.new hl (.lst [])
 refine⟨_,rfl,pl,rfl,⟨_,g0.seq hpl⟩,?_⟩
 refine Yq (xs:=ps.map fun p=>V.int (p:Nat)) (fun i σ H'=>∃(M:Nat) (g:Nat->Bool) (r:List Bool) (f4 f5 f6:Option V),Same H H'/\H' l=some (.lst (YT r))/\zP n M g/\r.length=i/\yc.fvP n f ps=r++yc.fvP n g (ps.drop i)/\σ=[some (.int M),some (.ref pl),some (.int n),some (.ref l),f4,f5,f6])
  ⟨N,f,[],_,_,_,g0,zj,tb,rfl,rfl,rfl⟩ ?_ ?_ ?_
 ·rintro i σ H' _ ⟨M,g,r,f4,f5,f6,gg,_⟩
  exact gg.seq hpl
 ·rintro i x σ H' hx ⟨M,g,r,f4,f5,f6,gg,hL,tg,hr',e,rfl⟩
  rw[zqW] at hx
  cases hp:ps[i]? with
  | none=>rw[hp] at hx;cases hx
  | some p =>
   rw[hp] at hx
   cases hx
   have hpn:=hps p (zqZ hp)
   obtain⟨lt,e'⟩:=zqX.mp hp
   rw[List.drop_eq_getElem_cons lt,e'] at e
   refine⟨_,rfl,_,rfl,_,rfl,M,p,n,false,g,rfl,hpn,hn,tg,fun R tr=>?_⟩
   have tz:=yc.Zd tr
   refine⟨_,rfl,rfl,_,rfl,?_⟩
   have ee:(!decide (V.int (R:Nat)=V.int 0))=yc.anyB n fun b=>g (zG b p false):=by
    cases hz:yc.anyB n fun b=>g (zG b p false) with
    | true =>
     rw[hz] at tz
     rw[decide_eq_false fun z=>by injection z with z;exact absurd (decide_eq_true (show R=0 by omega)) (by rw[tz];exact zqY)]
     rfl
    | false =>
     rw[hz] at tz
     have z:R=0:=of_decide_eq_true tz
     subst z
     rfl
   rw[ee]
   cases hz:yc.anyB n fun b=>g (zG b p false) with
   | true =>
    refine yj (fun _=>?_) (fun c=>absurd rfl c)
    refine⟨_,rfl,_,rfl,_,rfl,_,rfl,M,p,n,false,g,rfl,hpn,hn,tg,fun R2 t2=>?_⟩
    refine⟨_,rfl,.inl ⟨rfl,_,zZ.of hL⟩,_,rfl,l,_,_,rfl,rfl,hL,?_,?_⟩
    ·unfold YT;rw[zqU,hr'];exact yq (by omega)
    ·refine⟨R2,_,r++[false],_,_,_,gg.over hl _,by rw[zj];unfold YT;rw[zq8];rfl,t2,by rw[zq2,hr'];rfl,?_,rfl⟩
     rw[e,List.append_assoc]
     show r++(_::_)=r++([false]++_)
     rw[hz]
     rfl
   | false =>
    refine yj (fun c=>absurd c zqY) (fun _=>?_)
    refine⟨_,rfl,_,rfl,_,rfl,_,rfl,M,p,n,true,g,rfl,hpn,hn,tg,fun R2 t2=>?_⟩
    refine⟨_,rfl,.inl ⟨rfl,_,zZ.of hL⟩,_,rfl,l,_,_,rfl,rfl,hL,?_,?_⟩
    ·unfold YT;rw[zqU,hr'];exact yq (by omega)
    ·refine⟨R2,_,r++[true],_,_,_,gg.over hl _,by rw[zj];unfold YT;rw[zq8];rfl,t2,by rw[zq2,hr'];rfl,?_,rfl⟩
     rw[e,List.append_assoc]
     show r++(_::_)=r++([true]++_)
     rw[hz]
     rfl
 ·rintro σ H' ⟨M,g,r,f4,f5,f6,gg,hL,tg,hr',e,rfl⟩
  rw[zqU,List.drop_length] at e
  have e1:yc.fvP n f ps=r:=by rw[e];exact List.append_nil _
  refine⟨_,rfl,q l H' gg hl ?_⟩
  rw[e1]
  exact hL
theorem zb3 (T:Txt P w K mg a)(JH:zB P w K mg base zX k a.Xx a.Xy Zq (Wn K)):zB P w K mg base zX (k+1) a.U0 a.U3 X6 Rk:=by
 refine T.MP.F.ok zbS (fun vs H Q E h=>?_) (fun cdv A outer s H vs Q E hr h=>?_)
 ·obtain⟨N,n,f,rfl,_⟩:=h
  rfl
 obtain⟨N,n,f,rfl,hn,tb,any,q⟩:=h
 refine⟨_,(zm (zJ (zu JH hr T.U9 (za (pv 0) (za (zbz rfl rfl T.RD rfl T.TY (za (pv 1) zc)) (za (pv 1) zc)))))),?_⟩
 refine⟨_,rfl,_,rfl,n,rfl,by omega,fun pl hpl=>?_⟩
 have g0:=Same.new hpl (.lst (Mv n))
 refine⟨_,rfl,N,n,f,pl,List.range n,rfl,hn,tb,zZ.of zj,fun p hp=>List.mem_range.mp hp,by rw[zrc];omega,fun l H' g hl hl'=>?_⟩
 exact q l H' _ (g0.trans g) (g0.free hl) hl' (yc.zdY any)
theorem Ls (T:Txt P w K mg a):zB P w K mg base zX (k+1) a.ZD a.ZF vV Vp:=by
 refine T.Td.F.ok Lj (fun vs H Q E h=>?_) (fun cdv A outer s H vs Q E hr h=>?_)
 ·obtain⟨c0,c1,c2,c3,rfl,_⟩:=h
  rfl
 obtain⟨c0,c1,c2,c3,rfl,q⟩:=h
 refine⟨_,(zm (yF (PW.pt (T8 (zM Mg (zN R9 rfl T.wI yO (za (pv 0) zc)) zp (zQ _)) (Ua (Wj (uL (zN (Ys rfl) rfl T.M8 Ug (za (Z0 (tZ:=zq Xv) (js:=[]) rfl (by show XR _ _ "figure" [];exact lco (by decide +kernel)) rfl (zj4 (pv 0)) (by show ∀j∈([]:List Nat),j<1;decide) (fun cl C s₂ H₂ fp=>(uU (zgB (K:=K) rfl) (pv 0) (vH (za z9 (za z9 zc))) (by with_unfolding_all rfl)))) zc)) (fun _=>rfl)))))) (zm WL) zU)),?_⟩
 have wl:=zgN c0 c1 c2 c3
 refine⟨_,rfl,_,rfl,by rw[wl];decide,rfl,_,rfl,yj (fun c=>?_) (fun _=>?_)⟩
 ·rw[wl] at c
  exact absurd c (by decide)
 ·refine⟨_,rfl,_,rfl,zgO c0 c1 c2 c3,zj5 (fun _=>.bl true) (by rw[Rj];show 4<=sizeLine;decide) ?_ ?_ ?_⟩
  ·intro i c H' hc g
   obtain⟨b,rfl⟩:=zj7 hc
   refine⟨_,rfl,by show 2<=sizeLine;decide,fun p hp=>⟨p,_,rfl,.inr (tY.of zj),rfl,rfl,?_,g.trans (Same.new hp _)⟩⟩
   show V.bl (if false=true then _ else inV (.str ⟨#[chc b]⟩) [.str "0", .str "1"])=V.bl true
   rw[if_neg zqY,zj6]
  ·rintro σ' H' Q1 Q2 hQ ⟨v,e,z,h2⟩
   exact⟨v,e,z,fun p hp=>let ⟨a1,a2,a3,a4,a5,a6,a7⟩:=h2 p hp;⟨a1,a2,a3,a4,a5,a6,hQ _ _ a7⟩⟩
  ·intro H' p g hp
   refine⟨p,(List.range (wd c0 c1 c2 c3).cps.size).map (fun _=>true),rfl,zZ.of (by rw[zj,zrw];rfl),_,rfl,?_⟩
   have e:((List.range (wd c0 c1 c2 c3).cps.size).map (fun _=>true)).all id=true:=by simp
   rw[e]
   exact Pz (q _ (g.trans (Same.new hp _)))
theorem zb4 (T:Txt P w K mg a):zB P w K mg base zX (k+1) a.Wf a.Wg Yu Vq:=by
 refine T.M4.F.ok uc (fun vs H Q EX h=>?_) (fun cdv A outer s H vs Q EX hr h=>?_)
 ·obtain⟨c0,c1,c2,c3,N,M,E,n,f,g,rfl,_⟩:=h
  rfl
 obtain⟨c0,c1,c2,c3,N,M,E,n,f,g,rfl,tN,tM,tE,q⟩:=h
 have wl:(wd c0 c1 c2 c3).length<=sizeLine:=by rw[zgN];decide
 refine zls ?_
 refine zgK (fun σ H1=>H1=H/\∃R:Nat,σ=[some (.str (wd c0 c1 c2 c3)),some (.int N),some (.int M),some (.int E),some (.int R)]/\zP n R (fun b=>jn c0 false false false (f b) (g b))) (fun t z=>(zf (zE 4 uc.nd zp)
   (zf (yF (zM yX (yt Ue (pv 0) zp (fun _ _=>rfl)) z9 (zQ _)) (zm (zE 4 uc.nd (zH Z1 (pv 4) (zH Ye (pv 3) (zH Z1 (pv 1) (pv 2)))))) zU)
   z))) ?_ ?_
 ·intro u hu σ H1 hp
  obtain⟨rfl,rfl⟩:=hp
  have t0:zP n 0 (fun b=>jn false false false false (f b) (g b)):=zV (Zd n) fun b _=>by cases f b<;>cases g b<;>rfl
  refine⟨_,rfl,_,_,_,rfl,rfl,wl,zj8 c0 c1 c2 c3,rfl,_,rfl,?_⟩
  rw[zbx]
  refine yj (fun c=>?_) (fun c=>?_)
  ·refine⟨_,rfl,_,rfl,_,rfl,_,rfl,N,M,rfl,rfl,E,N|||M,rfl,rfl,0,_,rfl,rfl,hu _ _ ⟨rfl,_,rfl,zV (Yw t0 (Ze tE (Yw tN tM))) fun b _=>?_⟩⟩
   show(jn false false false false (f b) (g b)||(true != (f b||g b)))=jn c0 false false false (f b) (g b)
   rw[c]
   cases f b<;>cases g b<;>simp[jn]
  ·have c':c0=false:=by cases h:c0 with | false=>rfl | true=>exact absurd h c
   refine hu _ _ ⟨rfl,_,rfl,zV t0 fun b _=>?_⟩
   show jn false false false false (f b) (g b)=jn c0 false false false (f b) (g b)
   rw[c']
 refine zgK (fun σ H1=>H1=H/\∃R:Nat,σ=[some (.str (wd c0 c1 c2 c3)),some (.int N),some (.int M),some (.int E),some (.int R)]/\zP n R (fun b=>jn c0 c1 false false (f b) (g b))) (fun t z=>(zf (yF (zM yX (yt Ue (pv 0) zp (fun _ _=>rfl)) z9 (zQ _)) (zm (zE 4 uc.nd (zH Z1 (pv 4) (zH v7 (pv 2) (zH Ye (pv 3) (pv 1)))))) zU)
   z)) ?_ ?_
 ·intro u hu σ H1 hp
  obtain⟨rfl,R,rfl,t0⟩:=hp
  refine⟨_,rfl,_,_,_,rfl,rfl,wl,zj9 c0 c1 c2 c3,rfl,_,rfl,?_⟩
  rw[zbx]
  refine yj (fun c=>?_) (fun c=>?_)
  ·refine⟨_,rfl,_,rfl,_,rfl,_,rfl,E,N,rfl,rfl,M,E ^^^ N,rfl,rfl,R,_,rfl,rfl,hu _ _ ⟨rfl,_,rfl,zV (Yw t0 (vJ tM (Ze tE tN))) fun b _=>?_⟩⟩
   show(jn c0 false false false (f b) (g b)||(g b&&(true != f b)))=jn c0 c1 false false (f b) (g b)
   rw[c]
   cases f b<;>cases g b<;>simp[jn]
  ·have c':c1=false:=by cases h:c1 with | false=>rfl | true=>exact absurd h c
   refine hu _ _ ⟨rfl,_,rfl,zV t0 fun b _=>?_⟩
   show jn c0 false false false (f b) (g b)=jn c0 c1 false false (f b) (g b)
   rw[c']
 refine zgK (fun σ H1=>H1=H/\∃R:Nat,σ=[some (.str (wd c0 c1 c2 c3)),some (.int N),some (.int M),some (.int E),some (.int R)]/\zP n R (fun b=>jn c0 c1 c2 false (f b) (g b))) (fun t z=>(zf (yF (zM yX (yt Ue (pv 0) zp (fun _ _=>rfl)) z9 (zQ _)) (zm (zE 4 uc.nd (zH Z1 (pv 4) (zH v7 (pv 1) (zH Ye (pv 3) (pv 2)))))) zU)
   z)) ?_ ?_
 ·intro u hu σ H1 hp
  obtain⟨rfl,R,rfl,t0⟩:=hp
  refine⟨_,rfl,_,_,_,rfl,rfl,wl,zka c0 c1 c2 c3,rfl,_,rfl,?_⟩
  rw[zbx]
  refine yj (fun c=>?_) (fun c=>?_)
  ·refine⟨_,rfl,_,rfl,_,rfl,_,rfl,E,M,rfl,rfl,N,E ^^^ M,rfl,rfl,R,_,rfl,rfl,hu _ _ ⟨rfl,_,rfl,zV (Yw t0 (vJ tN (Ze tE tM))) fun b _=>?_⟩⟩
   show(jn c0 c1 false false (f b) (g b)||(f b&&(true != g b)))=jn c0 c1 c2 false (f b) (g b)
   rw[c]
   cases f b<;>cases g b<;>simp[jn]
  ·have c':c2=false:=by cases h:c2 with | false=>rfl | true=>exact absurd h c
   refine hu _ _ ⟨rfl,_,rfl,zV t0 fun b _=>?_⟩
   show jn c0 c1 false false (f b) (g b)=jn c0 c1 c2 false (f b) (g b)
   rw[c']
 refine zgK (fun σ H1=>H1=H/\∃R:Nat,σ=[some (.str (wd c0 c1 c2 c3)),some (.int N),some (.int M),some (.int E),some (.int R)]/\zP n R (fun b=>jn c0 c1 c2 c3 (f b) (g b))) (fun t z=>(zf (yF (zM yX (yt Ue (pv 0) zp (fun _ _=>rfl)) z9 (zQ _)) (zm (zE 4 uc.nd (zH Z1 (pv 4) (zH v7 (pv 1) (pv 2))))) zU)
   z)) ?_ ?_
 ·intro u hu σ H1 hp
  obtain⟨rfl,R,rfl,t0⟩:=hp
  refine⟨_,rfl,_,_,_,rfl,rfl,wl,zkb c0 c1 c2 c3,rfl,_,rfl,?_⟩
  rw[zbx]
  refine yj (fun c=>?_) (fun c=>?_)
  ·refine⟨_,rfl,_,rfl,_,rfl,N,M,rfl,rfl,R,_,rfl,rfl,hu _ _ ⟨rfl,_,rfl,zV (Yw t0 (vJ tN tM)) fun b _=>?_⟩⟩
   show(jn c0 c1 c2 false (f b) (g b)||(f b&&g b))=jn c0 c1 c2 c3 (f b) (g b)
   rw[c]
   cases f b<;>cases g b<;>simp[jn]
  ·have c':c3=false:=by cases h:c3 with | false=>rfl | true=>exact absurd h c
   refine hu _ _ ⟨rfl,_,rfl,zV t0 fun b _=>?_⟩
   show jn c0 c1 c2 false (f b) (g b)=jn c0 c1 c2 c3 (f b) (g b)
   rw[c']
 refine⟨_,(zm (zJ (pv 4))),fun σ H1 hp=>?_⟩
 obtain⟨rfl,R,rfl,t0⟩:=hp
 exact⟨_,rfl,q R t0⟩
theorem zem (T:Txt P w K mg a)
  (zW:zB P w K mg base zX k a.yd a.yg z7 (vO a.zx))
  (yH:zB P w K mg base zX k a.yR a.yS yG (wX a.zx 9))
  (yM:zB P w K mg base zX k a.xW a.xX xq (Xf a.zx))
  (JK:zB P w K mg base zX k a.ZD a.ZF vV Vp)
  (zdj:zB P w K mg base zX k a.Wf a.Wg Yu Vq):zB P w K mg base zX (k+1) a.Js a.Jt QV (Nj a.zx):=by
 refine T.zc7.F.ok zfO (fun vs H Q E h=>?_) (fun cdv A outer s H vs Q E hr h=>?_)
 ·obtain⟨b,os,rs,F,c0,c1,c2,c3,i,j,f,g,rfl,_⟩:=h
  rfl
 obtain⟨b,os,rs,F,c0,c1,c2,c3,i,j,f,g,rfl,hB,hlen,mi,mj,q⟩:=h
 refine⟨_,(zf (yC (z8 (pv 0) T.zT T.yw zW hr (za (pv 2) zc)))
   (zf (yC (z8 (pv 0) T.zT T.yw zW hr (za (pv 3) zc)))
   (zf (yC (zu JK hr T.Td (za (pv 1) zc)))
   (zm (zJ (z8 (pv 0) T.zT T.xO yH hr (za (zu zdj hr T.M4 (za (pv 1) (za (z8 (pv 0) T.zT T.xH yM hr (za (pv 2) zc)) (za (z8 (pv 0) T.zT T.xH yM hr (za (pv 3) zc)) (za (z8 (pv 0) T.zT T.xH yM hr (za zp zc)) zc))))) zc))))))),?_⟩
 have L:=wj a.zx
 have BK:=L.bk hB
 have ho:=L.ord hB
 have hB0:=hB
 obtain⟨dx,ml,rl,tl,nd,rv,ts,kvs,h⟩:=hB
 have l2:1<rs.length:=yc.len2 BK
 refine⟨_,rfl,b,dx,_,rfl,h.hb,rfl,_,rfl,b,os,rs,F,i,rfl,hB0,mi.1,?_⟩
 refine⟨_,rfl,b,dx,_,rfl,h.hb,rfl,_,rfl,b,os,rs,F,j,rfl,hB0,mj.1,?_⟩
 refine⟨_,rfl,c0,c1,c2,c3,rfl,fun H1 g1=>?_⟩
 have hB1:=L.same hB0 g1
 have b1:=g1 _ _ h.hb
 refine⟨_,rfl,b,dx,_,rfl,b1,rfl,_,rfl,_,rfl,b,dx,_,rfl,b1,rfl,_,rfl,b,os,rs,F,i,rfl,hB1,mi.1,fun t1 tb1=>?_⟩
 refine⟨_,rfl,b,dx,_,rfl,b1,rfl,_,rfl,b,os,rs,F,j,rfl,hB1,mj.1,fun t2 tb2=>?_⟩
 refine⟨_,rfl,b,dx,_,rfl,b1,rfl,b,os,rs,F,1,rfl,hB1,l2,fun t3 tb3=>?_⟩
 refine⟨c0,c1,c2,c3,t1,t2,t3,os.length,_,_,rfl,tb1,tb2,zV tb3 fun b _=>yc.Zg BK _,fun R tr=>?_⟩
 exact Uw g1 hB1 hlen tr (fun r=>by rw[zdW BK mi,zdW BK mj]) q
theorem zen (T:Txt P w K mg a)
  (zW:zB P w K mg base zX k a.yd a.yg z7 (vO a.zx))
  (yH:zB P w K mg base zX k a.yR a.yS yG (wX a.zx 9))
  (yM:zB P w K mg base zX k a.xW a.xX xq (Xf a.zx)):zB P w K mg base zX (k+1) a.Ju a.Jv QW (Nk a.zx):=by
 refine T.Jy.F.ok zfP (fun vs H Q E h=>?_) (fun cdv A outer s H vs Q E hr h=>?_)
 ·obtain⟨b,os,rs,F,i,f,rfl,_⟩:=h
  rfl
 obtain⟨b,os,rs,F,i,f,rfl,hB,hlen,mi,q⟩:=h
 refine⟨_,(zf (yC (z8 (pv 0) T.zT T.yw zW hr (za (pv 1) zc)))
   (zm (zJ (z8 (pv 0) T.zT T.xO yH hr (za (zH Ye (z8 (pv 0) T.zT T.xH yM hr (za zp zc)) (z8 (pv 0) T.zT T.xH yM hr (za (pv 1) zc))) zc))))),?_⟩
 have L:=wj a.zx
 have BK:=L.bk hB
 have ho:=L.ord hB
 have hB0:=hB
 obtain⟨dx,ml,rl,tl,nd,rv,ts,kvs,h⟩:=hB
 have l2:1<rs.length:=yc.len2 BK
 refine⟨_,rfl,b,dx,_,rfl,h.hb,rfl,_,rfl,b,os,rs,F,i,rfl,hB0,mi.1,?_⟩
 have b1:=h.hb
 refine⟨_,rfl,b,dx,_,rfl,b1,rfl,_,rfl,b,dx,_,rfl,b1,rfl,b,os,rs,F,1,rfl,hB0,l2,fun t1 tb1=>?_⟩
 refine⟨_,rfl,b,dx,_,rfl,b1,rfl,_,rfl,b,os,rs,F,i,rfl,hB0,mi.1,fun t2 tb2=>?_⟩
 refine⟨t1,t2,rfl,rfl,?_⟩
 exact Uw (Same.refl _) hB0 hlen (Ze tb1 tb2) (fun r=>by rw[zdW BK mi,yc.Zg BK];cases f r<;>rfl) q
theorem JL (T:Txt P w K mg a)(yx:zB P w K mg base zX k a.vm a.vo wD v8)(xM:zB P w K mg base zX k a.wZ a.vd wu vN)(Ma:zB P w K mg base zX k a.W7 a.W8 Xg WY):zB P w K mg base zX (k+1) a.Wr a.Ws Yh (Vr K):=by
 refine T.SN.F.ok wN (fun vs H Q E h=>?_) (fun cdv A outer s H vs Q E hr h=>?_)
 ·obtain⟨pl,rl,n,ps,r,rfl,_⟩:=h
  rfl
 obtain⟨pl,rl,n,ps,r,rfl,n8,hl,hm,hp,el,l8,q⟩:=h
 refine⟨_,(zf (zE 3 wN.nd (zu yx hr T.vY (za (pv 2) zc)))
   (zf (u6 PassesOwn.never rfl (zkd rfl T.zlU (za (pv 0) (za (pv 1) zc))) (Kp rfl (uK (yD (i:=4) wN.nd rfl (Or.inl rfl)) (uK (yD (i:=5) wN.nd rfl (Or.inl rfl)) RV))) (zf (zE 6 wN.nd (zu xM hr T.Yv (za (pv 4) (za (pv 2) zc))))
   (zm (zE 3 wN.nd (Km (zM yX (pv 5) zp (zQ _)) (zH v7 (pv 3) (pv 6)) (zu Ma hr T.NK (za (pv 3) (za (pv 6) zc))))))))
   (zm (zJ (pv 3))))),?_⟩
 refine⟨_,rfl,n,rfl,n8,?_⟩
 refine⟨_,rfl,_,rfl,pl,rl,Rn ps,YT r,rfl,hl,hm,?_⟩
 have e1:(Rn ps).length=ps.length:=zqU _
 have e2:(YT r).length=r.length:=zqU _
 refine zis (xs:=Rn ps) (ys:=YT r) (by omega) (fun i σ H'=>Same H H'/\∃(M:Nat) (f4 f5 f6:Option V),zP n M (hav ((ps.zip r).take i))/\σ=[some (.ref pl),some (.ref rl),some (.int (n:Nat)),some (.int (M:Nat)),f4,f5,f6]) ⟨Same.refl _,_,_,_,_,Vj n,rfl⟩ ?_ ?_ ?_
 ·rintro i σ H' _ ⟨g,_⟩
  exact⟨g.seq hl,g.seq hm⟩
 ·rintro i x y σ H' t hx hy ⟨g,M,f4,f5,f6,tm,rfl⟩ ht
  unfold Rn at hx
  unfold YT at hy
  rw[zqW] at hx hy
  cases hj:ps[i]? with
  | none=>rw[hj] at hx;cases hx
  | some p =>
   rw[hj] at hx
   cases hx
   cases hk:r[i]? with
   | none=>rw[hk] at hy;cases hy
   | some v =>
    rw[hk] at hy
    cases hy
    have hz:(ps.zip r)[i]?=some (p,v):=List.getElem?_zip_eq_some.mpr ⟨hj,hk⟩
    have pn:=hp p (zqZ hj)
    have nx:hav ((ps.zip r).take (i+1))=fun b=>hav ((ps.zip r).take i) b&&(b.testBit p==v):=funext fun b=>by
     rw[zY hz]
     unfold hav
     rw[List.all_append]
     simp
    refine⟨t,_,rfl,tY.of zj,rfl,_,_,rfl,_,_,rfl,rfl,?_⟩
    refine⟨_,rfl,_,rfl,p,n,rfl,pn,n8,fun W tw=>?_⟩
    refine⟨_,rfl,rfl,_,rfl,?_⟩
    cases v with
    | true =>
     refine zgi ⟨_,rfl,_,rfl,M,W,rfl,rfl,g.trans (Same.new ht _),_,_,_,_,?_,rfl⟩
     rw[nx]
     have e:(fun b=>hav ((ps.zip r).take i) b&&(b.testBit p==true))=fun b=>hav ((ps.zip r).take i) b&&b.testBit p:=funext fun b=>by simp
     rw[e]
     exact ziy tm tw
    | false =>
     refine Pz ⟨_,rfl,_,rfl,M,W,n,_,_,rfl,tm,tw,fun R tr=>⟨g.trans (Same.new ht _),R,_,_,_,?_,rfl⟩⟩
     rw[nx]
     have e:(fun b=>hav ((ps.zip r).take i) b&&(b.testBit p==false))=fun b=>hav ((ps.zip r).take i) b&&!b.testBit p:=funext fun b=>by cases b.testBit p<;>rfl
     rw[e]
     exact tr
 ·rintro σ H' ⟨g,M,f4,f5,f6,tm,rfl⟩
  have el:(ps.zip r).length=(Rn ps).length:=by rw[List.length_zip,e1];omega
  rw[<-el,zrn] at tm
  exact⟨_,rfl,q M H' g tm⟩
theorem zeo (T:Txt P w K mg a)(zap:zB P w K mg base zX k a.Wr a.Ws Yh (Vr K)):zB P w K mg base zX (k+1) a.Nx a.Nz TX Jd:=by
 refine T.za0.F.ok Jp (fun vs H Q E h=>?_) (fun cdv A outer s H vs Q E hr h=>?_)
 ·obtain⟨c,rfl,_⟩:=h
  rfl
 obtain⟨c,rfl,c8,q⟩:=h
 refine⟨_,(zf (zd5 (i:=1) Jp.nd rfl (Or.inl rfl) (.inl rfl) (tZ:=zq W5) (js:=[]) rfl (by show zjb (zq W5) _ "place" "sign" [];exact⟨⟨rfl,by decide +kernel,by decide +kernel,by decide +kernel,by decide +kernel⟩,by decide +kernel,by decide +kernel,by decide +kernel⟩) rfl (zg7 rfl T.M9 (za (pv 0) zc)) (by show ∀j∈([]:List Nat),j<2;decide) (fun cl C s₂ H₂ fp=>(zM Mg (pv 1) z9 (zQ _))) (fun cl C s₂ H₂ fp=>(pv 0)) rfl)
   (zm (zJ (zu zap hr T.SN (za (pv 1) (za (Z0 (tZ:=zq W5) (js:=[0]) rfl (by show XR _ _ "place" ["cube"];exact lco (by decide +kernel)) rfl (xK (pv 1)) (by show ∀j∈([0]:List Nat),j<2;decide) (fun cl C s₂ H₂ fp=>(ZX zfB rfl T.zji zgt (za (yt Ue (pv 1) (pv 0) (fun _ _=>rfl)) zc)))) (za (zN R9 rfl T.wI yO (za (pv 0) zc)) zc))))))),?_⟩
 have sz:(cbS c).cps.size<=sizeLine:=by rw[Jc];exact zrd (yq (by omega))
 refine⟨_,rfl,cbS c,rfl,ziA c,?_⟩
 refine zkm (fun i ys H'=>Same H H'/\ys=Rn ((Kc c).filter fun j=>decide (j<i))/\i<=c.length) ⟨Same.refl _,by rw[List.filter_eq_nil_iff.mpr fun j _=>by simp];rfl,zrh _⟩ sz ?_ ?_ ?_
 ·rintro i ys H' ⟨_,rfl,hi⟩
  rw[Ja]
  exact zfG c hi
 ·rintro i cc ys H' p Q1 Q2 hcc ⟨g,rfl,_⟩ hp h1 h2
  obtain⟨s0,hs,rfl⟩:=zkn hcc
  have hi:i<c.length:=(zqX.mp hs).1
  have g2:=g.trans (Same.new hp (.tup [.int (i:Nat),.str ⟨#[LR s0]⟩]))
  have step:=zha (q:=c) hs
  refine⟨_,rfl,rfl,_,rfl,?_⟩
  cases s0 with
  | none =>
   refine zke (show V.str ⟨#[45]⟩=V.str "-" by decide +kernel) (h2 _ ⟨g2,?_,hi⟩)
   rw[step]
   show _=Rn (_++[])
   rw[List.append_nil]
  | some v =>
   have ne:V.str ⟨#[LR (some v)]⟩≠V.str "-" := by cases v<;>decide +kernel
   show if (!decide (V.str ⟨#[LR (some v)]⟩=V.str "-"))=true then _ else _
   rw[decide_eq_false ne]
   refine zgi ⟨_,rfl,h1 _ _ ⟨g2,?_,hi⟩⟩
   rw[step]
   unfold Rn
   rw[zq8]
   rfl
 ·rintro ys H1 pl ⟨g,rfl,_⟩ hpl
  have ef:((Kc c).filter fun j=>decide (j<(cbS c).cps.size))=Kc c:=List.filter_eq_self.mpr fun j hj=>decide_eq_true (by rw[Jc];exact zg9 j hj)
  rw[ef]
  have g1:=g.trans (Same.new hpl (.lst (Rn (Kc c))))
  have e1:upd H1 pl (.lst (Rn (Kc c))) pl=some _:=zj
  generalize upd H1 pl _=H2 at g1 e1 ⊢
  have p8:(Kc c).length<=8:=zrg (zrt _ _) (by rw[zrc];exact c8)
  refine⟨_,rfl,_,rfl,pl,rfl,⟨_,zZ.of e1⟩,?_⟩
  refine Jb (xs:=Rn (Kc c)) (fun i ys H'=>Same H2 H'/\ys=YT ((vlC c).take i)) ⟨Same.refl _,rfl⟩ (by rw[Ja];exact zrd (yq (by omega))) ?_ ?_ ?_
  ·rintro i ys H' hi ⟨g,rfl⟩
   refine⟨zZ.of (g _ _ e1),?_⟩
   unfold YT
   rw[zqU,zri]
   omega
  ·rintro i x ys H' Q0 hx ⟨g,rfl⟩ hQ
   obtain⟨j,hj,rfl⟩:=zkk hx
   have mj:=zqZ hj
   obtain⟨v,hv⟩:=zcO mj
   refine⟨_,rfl,_,rfl,cbS c,_,_,rfl,rfl,by rw[Qy];exact zrd (yq (by omega)),xZ (Vs hv),v,?_,?_⟩
   ·show [V.str ⟨#[LR (some v)]⟩]=_
    cases v<;>decide +kernel
   ·refine hQ _ _ ⟨g,?_⟩
    have hvl:(vlC c)[i]?=some v:=by
     unfold vlC
     rw[zqW,hj]
     show some ((c.getD j none).getD false)=_
     rw[zq7,hv]
     rfl
    rw[zY hvl]
    unfold YT
    rw[zq8]
    rfl
  ·rintro ys H3 vl ⟨g,rfl⟩ hvl
   have lv:(vlC c).length=(Kc c).length:=zqU _
   rw[Ja,<-lv,zrn]
   have g3:=g.trans (Same.new hvl (.lst (YT (vlC c))))
   refine⟨_,rfl,cbS c,rfl,by rw[Qy];exact zrd (yq (by omega)),?_⟩
   rw[Qy]
   refine⟨pl,vl,c.length,Kc c,vlC c,rfl,c8,zZ.of (g3 _ _ e1),zZ.of zj,zg9,lv.symm,p8,fun R H' g' tR=>?_⟩
   have tR:zP c.length R (Yx c):=fun b=>by rw[tR b,zko]
   exact q R H' ((g1.trans g3).trans g') tR
theorem JM {d:Nat}(T:Txt P w K mg a)(yx:zB P w K mg base zX k a.vm a.vo wD v8)(xg:zB P w K mg base zX k a.Z6 a.Z7 tX Xp)
  (uT:zB P w K mg base zX k a.uP a.uQ vA (W2 d)):zB P w K mg base zX (k+1) a.uP a.uQ vA (W2 (d+1)):=by
 refine T.uR.F.ok wR (fun vs H Q E h=>?_) (fun cdv A outer s H vs Q E hr h=>?_)
 ·obtain⟨N,p,n,f,rfl,_⟩:=h
  rfl
 obtain⟨N,p,n,f,rfl,n8,hp,hd,tf,ff,q⟩:=h
 refine⟨_,(zf (yF (zM yX (pv 0) zp (zQ _)) (zm (zJ (uG zc))) zU)
   (zf (yF (zM yX (pv 0) (zu yx hr T.vY (za (pv 2) zc)) (zQ _)) (zm (zJ (uG (za (zH ziF z9 (zH za7 (pv 2) (pv 1))) zc)))) zU)
   (zf (zE 3 wR.nd (zu xg hr T.Yb (za (pv 0) (za (pv 1) (za zp (za (pv 2) zc))))))
   (zf (zE 4 wR.nd (zu xg hr T.Yb (za (pv 0) (za (pv 1) (za zp (za (pv 2) zc))))))
   (zf (Pq (i:=5) wR.nd rfl (Or.inr rfl) (zu uT hr T.uR (za (zH v7 (pv 3) (pv 4)) (za (zH vG (pv 1) zp) (za (pv 2) zc)))))
   (zf (KC (i:=6) wR.nd rfl (Or.inl rfl) (.inl rfl) (tZ:=zq wF) (js:=[5]) rfl (by show XR _ _ "cube" ["either"];exact lco (by decide +kernel)) rfl (xK (zu uT hr T.uR (za (pv 3) (za (zH vG (pv 1) zp) (za (pv 2) zc))))) (by show ∀j∈([5]:List Nat),j<8;decide) (fun cl C s₂ H₂ fp pins s' σ' H' Q I h=>wpAny_tests_one ((zM (zaH (K:=K) rfl) (pv 0) (pv 1) (by with_unfolding_all rfl)) pins s' σ' H' Q I h)) (fun cl C s₂ H₂ fp=>(pv 0)) rfl)
   (zf (KC (i:=7) wR.nd rfl (Or.inl rfl) (.inl rfl) (tZ:=zq wF) (js:=[5]) rfl (by show XR _ _ "cube" ["either"];exact lco (by decide +kernel)) rfl (xK (zu uT hr T.uR (za (pv 4) (za (zH vG (pv 1) zp) (za (pv 2) zc))))) (by show ∀j∈([5]:List Nat),j<8;decide) (fun cl C s₂ H₂ fp pins s' σ' H' Q I h=>wpAny_tests_one ((zM (zaH (K:=K) rfl) (pv 0) (pv 1) (by with_unfolding_all rfl)) pins s' σ' H' Q I h)) (fun cl C s₂ H₂ fp=>(pv 0)) rfl)
   (zm (zJ (zH zeT (zH zeT (Z0 (tZ:=zq wF) (js:=[]) rfl (by show XR _ _ "cube" [];exact lco (by decide +kernel)) rfl (xK (pv 5)) (by show ∀j∈([]:List Nat),j<8;decide) (fun cl C s₂ H₂ fp=>(zH S8 z9 (pv 0)))) (Z0 (tZ:=zq wF) (js:=[]) rfl (by show XR _ _ "cube" [];exact lco (by decide +kernel)) rfl (xK (pv 6)) (by show ∀j∈([]:List Nat),j<8;decide) (fun cl C s₂ H₂ fp=>(zH S8 z9 (pv 0))))) (Z0 (tZ:=zq wF) (js:=[]) rfl (by show XR _ _ "cube" [];exact lco (by decide +kernel)) rfl (xK (pv 7)) (by show ∀j∈([]:List Nat),j<8;decide) (fun cl C s₂ H₂ fp=>(zH S8 z9 (pv 0)))))))))))))),?_⟩
 have ei:∀{i j:Nat},V.int (i:Int)=V.int (j:Int)->i=j:=fun h=>by injection h with h;exact Int.ofNat.inj h
 refine⟨_,rfl,rfl,_,rfl,yj (fun e=>?_) (fun e1=>?_)⟩
 ·have e0:N=0:=ei (of_decide_eq_true e)
  subst e0
  have no:∀b,b<2^n->f b=false:=fun b hb=>by rw[<-yc.YZ tf hb];exact Nat.zero_testBit _
  exact⟨by show 0<=sizeLine;decide,fun l hl=>q l [] _ (Same.new hl _) hl zj (RP.no hp no)⟩
 refine⟨_,rfl,_,rfl,n,rfl,n8,rfl,_,rfl,yj (fun e=>?_) (fun e2=>?_)⟩
 ·have e0:N=2^2^n-1:=ei (of_decide_eq_true e)
  have al:∀b,b<2^n->f b=true:=fun b hb=>by rw[<-yc.YZ tf hb,e0];exact yc.YZ (Vj n) hb
  refine⟨_,rfl,_,rfl,_,_,rfl,rfl,n-p,rfl,?_,by omega,by show 1<=sizeLine;decide,fun l hl=>q l [_] _ (Same.new hl _) hl zj (RP.yes hp al)⟩
  show V.int ((n:Int)-(p:Int))=V.int ((n-p:Nat):Int)
  rw[Int.ofNat_sub hp]
 have n1:¬∀b,b<2^n->f b=true:=fun z=>e2 (decide_eq_true (congrArg (fun m:Nat=>V.int (m:Int)) (yc.Tw tf (Vj n) z)))
 have n0:¬∀b,b<2^n->f b=false:=fun z=>e1 (decide_eq_true (congrArg (fun m:Nat=>V.int (m:Int)) (yc.Tw tf (Zd n) z)))
 have hpn:p<n:=by
  refine Nat.lt_of_le_of_ne hp fun z=>?_
  subst z
  have cf:=yc.Yg ff
  cases h1:f 0 with
  | false=>exact n0 fun b hb=>by rw[cf b hb,h1]
  | true=>exact n1 fun b hb=>by rw[cf b hb,h1]
 refine⟨_,rfl,_,rfl,_,rfl,N,p,n,false,f,rfl,hpn,n8,tf,fun M0 t0=>?_⟩
 refine⟨_,rfl,_,rfl,_,rfl,N,p,n,true,f,rfl,hpn,n8,tf,fun M1 t1=>?_⟩
 have f0:=TJ (v:=false) hpn ff
 have f1:=TJ (v:=true) hpn ff
 refine⟨_,rfl,_,rfl,M0,M1,rfl,rfl,_,rfl,_,_,rfl,rfl,_,rfl,M0&&&M1,p+1,n,_,rfl,n8,hpn,by omega,vJ t0 t1,fun i hi=>zhe (f0 i hi) (f1 i hi),fun le E1 H1 g1 hle h1 pE=>?_⟩
 refine⟨_,rfl,_,rfl,_,_,rfl,rfl,_,rfl,M0,p+1,n,_,rfl,n8,hpn,by omega,t0,f0,fun lz Z H2 g2 hlz h2 pZ=>?_⟩
 have few:∀{g:Nat->Bool} {L:List Cb},RP n (p+1) g L->L.length<=sizeLine:=fun h=>vQ (by have:=h.few n8;omega)
 refine⟨lz,rfl,⟨_,zZ.of h2⟩,?_⟩
 refine zcP cbV (fun q=>!E1.contains q) (zZ.of h2) (few pZ) (fun x H' Q0 h=>⟨_,rfl,h⟩) (fun x H' Q0 hx g hQ=>?_) (fun H3 lz' g3 hlz'=>?_)
 ·refine⟨_,rfl,_,rfl,le,_,rfl,.inl (zZ.of ((g2.trans g) _ _ h1)),rfl,ze2 E1,_,rfl,?_⟩
  have y:=hQ _ g
  rw[<-zhd] at y
  exact y
 generalize eZ:(Z.filter fun q=>!E1.contains q)=Z'
 have gz:=g3.trans (Same.new hlz' (.lst (Z'.map cbV)))
 have hz':upd H3 lz' (.lst (Z'.map cbV)) lz'=some _:=zj
 generalize upd H3 lz' _=H4 at gz hz' ⊢
 refine⟨_,rfl,_,rfl,_,_,rfl,rfl,_,rfl,M1,p+1,n,_,rfl,n8,hpn,by omega,t1,f1,fun lo O H5 g5 hlo h5 pO=>?_⟩
 have h15:=(g2.trans (gz.trans g5)) _ _ h1
 refine⟨lo,rfl,⟨_,zZ.of h5⟩,?_⟩
 refine zcP cbV (fun q=>!E1.contains q) (zZ.of h5) (few pO) (fun x H' Q0 h=>⟨_,rfl,h⟩) (fun x H' Q0 hx g hQ=>?_) (fun H6 lo' g6 hlo'=>?_)
 ·refine⟨_,rfl,_,rfl,le,_,rfl,.inl (zZ.of (g _ _ h15)),rfl,ze2 E1,_,rfl,?_⟩
  have y:=hQ _ g
  rw[<-zhd] at y
  exact y
 generalize eO:(O.filter fun q=>!E1.contains q)=O'
 have go:=g6.trans (Same.new hlo' (.lst (O'.map cbV)))
 have ho':upd H6 lo' (.lst (O'.map cbV)) lo'=some _:=zj
 generalize upd H6 lo' _=H7 at go ho' ⊢
 have hz7:=(g5.trans go) _ _ hz'
 have hE7:=go _ _ h15
 have gA:Same H H7:=g1.trans (g2.trans (gz.trans (g5.trans go)))
 have PF:=RP.step hpn ff n1 pE pZ pO
 rw[eZ,eO] at PF
 have lE:=few pE
 have LL:=PF.few n8
 rw[zq2,zq2,zqU,zqU,zqU] at LL
 have sz:∀{q:Cb} {y:Str} {L:List Cb} {g:Nat->Bool},RP n (p+1) g L->q∈L->y.length<=1->y.length+(cbS q).length<=sizeLine:=fun {q y L g} h m hy=>by
  have:=((h.mem q).mp m).1
  rw[Qy]
  exact vQ (by omega)
 have mZ:∀q∈Z',q∈Z:=fun q h=>by rw[<-eZ] at h;exact(List.mem_filter.mp h).1
 have mO:∀q∈O',q∈O:=fun q h=>by rw[<-eO] at h;exact(List.mem_filter.mp h).1
 refine⟨_,rfl,le,rfl,⟨_,zZ.of hE7⟩,?_⟩
 refine zbM cbV (fun q=>cbV (none::q)) (zZ.of hE7) (vQ (by omega)) (fun x H' Q0 hx g hQ=>⟨_,rfl,_,_,rfl,rfl,sz pE hx (by decide +kernel),by rw[zbN none x dash];exact hQ _ (Same.refl _)⟩) (fun H8 l8 g8 hl8=>?_)
 have k8:=Same.new hl8 (.lst (E1.map fun q=>cbV (none::q)))
 have hz8:=(g8.trans k8) _ _ hz7
 refine⟨_,rfl,lz',rfl,⟨_,zZ.of hz8⟩,?_⟩
 refine zbM cbV (fun q=>cbV (some false::q)) (zZ.of hz8) (vQ (by omega)) (fun x H' Q0 hx g hQ=>⟨_,rfl,_,_,rfl,rfl,sz pZ (mZ x hx) (by decide +kernel),by rw[zbN (some false) x nought];exact hQ _ (Same.refl _)⟩) (fun H9 l9 g9 hl9=>?_)
 have k9:=Same.new hl9 (.lst (Z'.map fun q=>cbV (some false::q)))
 refine⟨l8,l9,_,_,rfl,rfl,zZ.of ((g9.trans k9) _ _ zj),zZ.of zj,?_,fun la hla=>?_⟩
 ·rw[zqU,zqU]
  exact vQ (by omega)
 have ka:=Same.new hla (.lst ((E1.map fun q=>cbV (none::q))++Z'.map fun q=>cbV (some false::q)))
 have ho8:=(((g8.trans k8).trans (g9.trans k9)).trans ka) _ _ ho'
 refine⟨_,rfl,lo',rfl,⟨_,zZ.of ho8⟩,?_⟩
 refine zbM cbV (fun q=>cbV (some true::q)) (zZ.of ho8) (vQ (by omega)) (fun x H' Q0 hx g hQ=>⟨_,rfl,_,_,rfl,rfl,sz pO (mO x hx) (by decide +kernel),by rw[zbN (some true) x zny];exact hQ _ (Same.refl _)⟩) (fun Hb lb gb hlb=>?_)
 have kb:=Same.new hlb (.lst (O'.map fun q=>cbV (some true::q)))
 refine⟨la,lb,_,_,rfl,rfl,zZ.of ((gb.trans kb) _ _ zj),zZ.of zj,?_,fun lc hlc=>?_⟩
 ·rw[zq2,zqU,zqU,zqU]
  exact vQ (by omega)
 have gg:=gA.trans ((((g8.trans k8).trans (g9.trans k9)).trans ka).trans (gb.trans kb))
 refine q lc _ _ (gg.trans (Same.new hlc _)) (gg.free hlc) ?_ PF
 rw[zj,zq8,zq8,zrw,zrw,zrw]
 rfl
theorem Tg (T:Txt P w K mg a)(yx:zB P w K mg base zX k a.vm a.vo wD v8)(xg:zB P w K mg base zX k a.Z6 a.Z7 tX Xp) :
  ∀d:Nat,zB P w K mg base zX (k+d) a.uP a.uQ vA (W2 d)
 | 0=>by
  refine⟨fun vs H Q E h=>?_,fun A outer s H args us vs Q E _ _ _ _ h=>?_⟩
  ·obtain⟨N,p,n,f,rfl,_⟩:=h
   rfl
  ·obtain⟨N,p,n,f,_,_,h1,h2,_⟩:=h
   omega
 | d+1=>JM T (yx.mono (zrv _ _)) (xg.mono (zrv _ _)) (Tg T yx xg d)
theorem zfU (T:Txt P w K mg a)(zW:zB P w K mg base zX k a.yd a.yg z7 (vO a.zx))(yM:zB P w K mg base zX k a.xW a.xX xq (Xf a.zx))(ZL:zB P w K mg base zX k a.uD a.uE vh (tU (yu a.zx)))(uT:zB P w K mg base zX k a.uP a.uQ vA (W2 9)):zB P w K mg base zX (k+1) a.Jq a.Jr QT (Jg a.zx):=by
 refine T.zc6.F.ok zfN (fun vs H Q E h=>?_) (fun cdv A outer s H vs Q E hr h=>?_)
 ·obtain⟨b,os,rs,F,k0,rfl,_⟩:=h
  rfl
 obtain⟨b,os,rs,F,k0,rfl,hB,hk,q⟩:=h
 refine⟨_,(zf (yC (z8 (pv 0) T.zT T.yw zW hr (za (pv 1) zc)))
   (zm (zJ (zu uT hr T.uR (za (z8 (pv 0) T.zT T.xH yM hr (za (pv 1) zc)) (za zp (za (zN zK rfl T.wI yO (za (Ng (pv 0) T.zT T.Xa ZL hr) zc)) zc))))))),?_⟩
 have L:=wj a.zx
 have o8:=(L.ord hB).le
 obtain⟨dx,ml,rl,tl,nd,rv,tbs,zl3,h⟩:=id hB
 refine⟨_,rfl,b,dx,_,rfl,h.hb,rfl,_,rfl,b,os,rs,F,k0,rfl,hB,hk,?_⟩
 refine⟨_,rfl,b,dx,_,rfl,h.hb,rfl,_,rfl,b,os,rs,F,k0,rfl,hB,hk,fun N tN=>?_⟩
 obtain⟨dx2,fs,zel,hm⟩:=L.ins hB
 refine⟨_,rfl,b,dx2,fs,rfl,zel,hm _ (by decide +kernel),b,os,rs,F,rfl,hB,fun l1 H1 g1 fl1 hl1=>?_⟩
 refine⟨l1,_,rfl,.inl (zZ.of hl1),?_⟩
 rw[zqU]
 exact⟨N,0,os.length,_,rfl,o8,zrh _,by omega,tN,fun i hi=>absurd hi (Nat.not_lt_zero _),fun l qs H2 g2 hl h2 P=>q l qs H2 (g1.trans g2) (g1.free hl) h2 P⟩
theorem JN (T:Txt P w K mg a)(Ma:zB P w K mg base zX k a.W7 a.W8 Xg WY):zB P w K mg base zX (k+1) a.Wx a.Wy Yl (zbO K):=by
 refine T.WK.F.ok wU (fun vs H Q E h=>?_) (fun cdv A outer s H vs Q E hr h=>?_)
 ·obtain⟨l,n,Ns,fs,rfl,_⟩:=h
  rfl
 obtain⟨l,n,Ns,fs,rfl,hl,hp,q⟩:=h
 refine⟨_,(zf (zE 1 wU.nd zp)
   (zf (zE 2 wU.nd zp)
   (zf (u6 PassesOwn.never rfl (xK (pv 0)) (yD (i:=3) wU.nd rfl (Or.inl rfl)) (zf (zE 2 wU.nd (zH Z1 (pv 2) (zH v7 (pv 1) (pv 3))))
   (zm (zE 1 wU.nd (zH Z1 (pv 1) (pv 3))))))
   (zm (zJ (zu Ma hr T.NK (za (pv 1) (za (pv 2) zc)))))))),?_⟩
 refine⟨_,rfl,l,rfl,⟨_,hl⟩,?_⟩
 have lf:=uH hp
 refine Yq (xs:=Ns.map fun N=>V.int (N:Nat)) (fun i σ H'=>∃(S A:Nat) (f3:Option V),H'=H/\zP n S (fun b=>decide (1<=zab (fs.take i) b))/\zP n A (fun b=>decide (2<=zab (fs.take i) b))/\σ=[some (.ref l),some (.int (S:Nat)),some (.int (A:Nat)),f3]) ⟨0,0,_,rfl,?_,?_,rfl⟩ (fun i σ H' _ ⟨_,_,_,e,_⟩=>by rw[e];exact hl) ?_ ?_
 ·exact zV (Zd n) fun b _=>rfl
 ·exact zV (Zd n) fun b _=>rfl
 ·rintro i x σ H' hx ⟨S,A,f3,rfl,tS,tA,rfl⟩
  rw[zqW] at hx
  cases hN:Ns[i]? with
  | none=>rw[hN] at hx;cases hx
  | some N =>
   rw[hN] at hx
   cases hx
   obtain⟨f,hf,tN⟩:=zaG hp hN
   refine⟨_,rfl,_,rfl,_,rfl,S,N,rfl,rfl,A,_,rfl,rfl,?_⟩
   refine⟨_,rfl,_,rfl,S,N,rfl,rfl,S|||N,A|||(S&&&N),_,rfl,zV (Yw tS tN) fun b _=>?_,zV (Yw tA (vJ tS tN)) fun b _=>?_,rfl⟩
   ·rw[zY hf,zaU]
    cases f b
    ·rw[Bool.or_false];rfl
    ·rw[Bool.or_true];exact(decide_eq_true (Nat.le_add_left 1 _)).symm
   ·rw[zY hf,zaU]
    cases f b
    ·rw[Bool.and_false,Bool.or_false];rfl
    ·rw[Bool.and_true]
     rw[zrz,Bool.or_eq_true,decide_eq_true_iff,decide_eq_true_iff,decide_eq_true_iff]
     show _↔2<=_+1
     omega
 ·rintro σ H' ⟨S,A,f3,rfl,tS,tA,rfl⟩
  rw[zqU,lf,zrn] at tS tA
  refine⟨_,rfl,_,rfl,S,A,n,_,_,rfl,tS,tA,fun R tR=>q R (zV tR fun b _=>?_)⟩
  rw[zrz,zrm,Bool.not_eq_true',decide_eq_true_iff,decide_eq_false_iff_not,decide_eq_true_iff]
  omega
theorem zhm (T:Txt P w K mg a)(zhn:zB P w K mg base zX k a.Jq a.Jr QT (Jg a.zx))(zfV:zB P w K mg base zX k a.Nx a.Nz TX Jd)(S6:zB P w K mg base zX k a.Wx a.Wy Yl (zbO K))(zdk:zB P w K mg base zX k a.U0 a.U3 X6 Rk)(ZL:zB P w K mg base zX k a.uD a.uE vh (tU (yu a.zx))):zB P w K mg base zX (k+1) a.zbU a.zbV Kd (zbR a.zx):=by
 refine T.zbW.F.ok UW (fun vs H Q E h=>?_) (fun cdv A outer s H vs Q E hr h=>?_)
 ·obtain⟨b,os,rs,F,k0,rfl,_⟩:=h
  rfl
 obtain⟨b,os,rs,F,k0,rfl,hB,hk,q⟩:=h
 refine⟨_,(zf (zE 2 UW.nd zcy)
   (zf (u6 PassesOwn.never rfl (xK (zu zhn hr T.zc6 (za (pv 0) (za (pv 1) zc)))) (yD (i:=3) UW.nd rfl (Or.inl rfl)) (zm (zbv (Ky hr) (pv 2) (pv 3) (zu zfV hr T.za0 (za (pv 3) zc)) rfl)))
   (zf (u6 PassesOwn.never rfl (xK (ZX (Uq rfl) rfl T.RD Tj (za (pv 2) zc))) (yD (i:=3) UW.nd rfl (Or.inl rfl)) (zm (yF (zM yX (zH v7 (zeP (Ky hr) (pv 2) (pv 3) (fun _ _=>rfl)) (zu S6 hr T.WK (za (Mw rfl rfl T.RD (pv 2)) zc))) zp (zQ _)) (zm (yC (Yr PySem.F.plainAttrs_dict PySem.F.slot_dict_pop PySem.F.type_dict_pop ziI (pv 2) (za (pv 3) zc)))) zU)))
   (zf (Pq (i:=4) UW.nd rfl (Or.inr rfl) (zu S6 hr T.WK (za (Mw rfl rfl T.RD (pv 2)) zc)))
   (zm (zJ (vH (za (ZX (Uq rfl) rfl T.RD Tj (za (pv 2) zc)) (za (Z0 (tZ:=zq zbT) (js:=[4,0]) rfl (by show XR _ _ "table" ["own", "book"];exact lco (by decide +kernel)) rfl (ziJ (pv 2)) (by show ∀j∈([4,0]:List Nat),j<5;decide) (fun cl C s₂ H₂ fp=>(zu zdk hr T.MP (za (zH v7 (pv 0) (pv 1)) (za (zN (J9 (K:=K) rfl) rfl T.wI yO (za (Ng (pv 2) T.zT T.Xa ZL hr) zc)) zc))))) zc))))))))),?_⟩
 have L:=wj a.zx
 have o8:=(L.ord hB).le
 obtain⟨T0,hT⟩:∃T0:Cb->Nat,∀c,zP os.length (T0 c) (Yx c):=⟨fun c=>(zhh os.length (Yx c)).choose,fun c=>(zhh os.length (Yx c)).choose_spec⟩
 refine fun d hd=>?_
 have gd:=Same.new hd (.dK [])
 refine⟨_,rfl,_,rfl,b,os,rs,F,k0,rfl,L.same hB gd,hk,fun pl qs H1 g1 hpl h1 PP=>?_⟩
 have lq:=PP.few o8
 have mq:∀c∈qs,c.length=os.length:=fun c hc=>((PP.mem c).mp hc).1
 have ndp:d≠pl:=zy zj hpl
 refine⟨pl,rfl,⟨_,zZ.of h1⟩,?_⟩
 refine Yq (xs:=qs.map cbV) (fun i σ H'=>∃f3 f4,Same H H'/\H' pl=some (.lst (qs.map cbV))/\H' d=some (.dK ((qs.take i).map (kvT T0)))/\σ=[some (.ref b),some (.int (k0:Nat)),some (.ref d),f3,f4]) ⟨_,_,gd.trans g1,h1,g1 _ _ zj,rfl⟩ (fun i σ H' _ ⟨_,_,_,h,_⟩=>zZ.of h) ?_ ?_
 ·rintro i x σ H2 hx ⟨f3,f4,g,hp,hd',rfl⟩
  rw[zqW] at hx
  cases hc:qs[i]? with
  | none=>rw[hc] at hx;cases hx
  | some c =>
   rw[hc] at hx
   cases hx
   have lc:=mq c (zqZ hc)
   refine⟨_,rfl,c,rfl,by omega,fun R H3 g3 tR=>?_⟩
   rw[lc] at tR
   obtain rfl:R=T0 c:=yc.Tw tR (hT c) fun _ _=>rfl
   refine⟨_,rfl,_,rfl,d,_,rfl,zdS.k (k:=.inr (cbS c)) (g3 _ _ hd') ?_,?_⟩
   ·rw[zqU,zri]
    exact zq3 (show _<10000 by omega) (by decide)
   refine⟨_,_,(g.trans g3).over hd _,by rw[zA (Ne.symm ndp)];exact g3 _ _ hp,?_,rfl⟩
   rw[zj,zY hc,zq8]
   have no:c∉qs.take i:=fun hm=>by
    obtain⟨hi,rfl⟩:=zqX.mp hc
    obtain⟨j,hj,ej⟩:=zrA hm
    rw[zri] at hj
    rw[List.getElem_take] at ej
    have:=(List.pairwise_iff_getElem.mp PP.nd) j i (by omega) hi (by omega)
    exact this ej
   rw[zcu _ (zcQ no)]
   rfl
 rintro σ H2 ⟨f3,f4,g2,_,hd2,rfl⟩
 rw[zqU,zrn] at hd2
 refine⟨_,rfl,d,_,rfl,hd2,fun ll hll=>?_⟩
 have el:(qs.map (kvT T0)).map (fun e=>kV e.1)=qs.map cbV:=by rw[zrw];rfl
 rw[el]
 have gl:=g2.trans (Same.new hll (.lst (qs.map cbV)))
 have ndl:d≠ll:=zy hd2 hll
 have hdl:upd H2 ll (.lst (qs.map cbV)) d=some (.dK (qs.map (kvT T0))):=(Same.new hll _) _ _ hd2
 have hll':upd H2 ll (.lst (qs.map cbV)) ll=some _:=zj
 generalize upd H2 ll _=H3 at gl hdl hll' ⊢
 refine⟨ll,rfl,⟨_,zZ.of hll'⟩,?_⟩
 have ev:∀ks:List Cb,(ks.map (kvT T0)).map (·.2)=(ks.map T0).map fun N=>V.int (N:Nat):=fun ks=>by rw[zrw,zrw];rfl
 have pv:∀ks:List Cb,Paired (zP os.length) (ks.map T0) (ks.map Yx):=fun ks=>by
  induction ks with
  | nil=>exact .nil
  | cons c ks ih=>exact .cons (hT c) ih
 refine Yq (xs:=qs.map cbV) (fun i σ H'=>∃ks f3 f4,Same H H'/\H' ll=some (.lst (qs.map cbV))/\H' d=some (.dK (ks.map (kvT T0)))/\Whi os.length (tB rs k0) qs i ks/\σ=[some (.ref b),some (.int (k0:Nat)),some (.ref d),f3,f4]) ⟨qs,_,_,gl,hll',hdl,Whi.start PP,rfl⟩ (fun i σ H' _ ⟨_,_,_,_,h,_⟩=>zZ.of h) ?_ ?_
 ·rintro i x σ H4 hx ⟨ks,f3,f4,g,hl',hd',wh,rfl⟩
  rw[zqW] at hx
  cases hc:qs[i]? with
  | none=>rw[hc] at hx;cases hx
  | some c =>
   rw[hc] at hx
   cases hx
   have mc:=wh.has hc
   have get:=Lf.k (k:=.inr (cbS c)) hd'
   rw[zbQ mc] at get
   refine⟨_,rfl,_,rfl,d,_,rfl,get,_,rfl,d,_,rfl,hd',fun lv hlv=>?_⟩
   rw[ev ks]
   have gv:=Same.new hlv (.lst ((ks.map T0).map fun N=>V.int (N:Nat)))
   have hlv':upd H4 lv (.lst ((ks.map T0).map fun N=>V.int (N:Nat))) lv=some _:=zj
   generalize upd H4 lv _=H5 at gv hlv' ⊢
   refine⟨lv,os.length,ks.map T0,ks.map Yx,rfl,zZ.of hlv',pv ks,fun R tR=>⟨T0 c,R,rfl,rfl,rfl,_,rfl,yj (fun e=>?_) (fun e=>?_)⟩⟩
   ·have e0:T0 c&&&R=0:=by
     have:=of_decide_eq_true e
     injection this with this
     exact Int.ofNat.inj this
    have no:∀b,b<2^os.length->¬Own ks c b:=fun b' hb o=>by
     have y:=yc.YZ (vJ (hT c) tR) hb
     rw[e0,Nat.zero_testBit,o.1,decide_eq_true ((own_one (wh.nd PP) mc o.1).mpr o)] at y
     cases y
    refine⟨_,rfl,.inr (.inr (.inl ⟨rfl,.inl ⟨_,gv _ _ hd'⟩⟩)),_,rfl,d,_,.inr (cbS c),_,rfl,rfl,gv _ _ hd',zbQ mc,?_⟩
    rw[zhi]
    exact⟨_,_,_,(g.trans gv).over hd _,by rw[zA (Ne.symm ndl)];exact gv _ _ hl',zj,wh.gone PP hc no,rfl⟩
   ·have e0:T0 c&&&R≠0:=fun z=>e (decide_eq_true (by show V.int ((T0 c&&&R:Nat):Int)=V.int 0;rw[z];rfl))
    have yes:∃b,b<2^os.length/\Own ks c b:=by
     refine Classical.byContradiction fun z=>e0 (yc.Tw (vJ (hT c) tR) (Zd os.length) fun b' hb=>?_)
     cases h1:Yx c b' with
     | false=>rfl
     | true =>
      rw[Bool.true_and]
      refine decide_eq_false fun h2=>z ⟨b',hb,(own_one (wh.nd PP) mc h1).mp h2⟩
    exact⟨_,_,_,g.trans gv,gv _ _ hl',gv _ _ hd',wh.stay hc yes,rfl⟩
 rintro σ H4 ⟨ks,f3,f4,g,hl',hd',wh,rfl⟩
 rw[zqU] at wh
 have nd:=wh.nd PP
 have lk:ks.length<=2187:=zrg wh.sub.length_le lq
 refine⟨_,rfl,d,_,rfl,hd',fun lv hlv=>?_⟩
 rw[ev ks]
 have gv:=Same.new hlv (.lst ((ks.map T0).map fun N=>V.int (N:Nat)))
 have hlv':upd H4 lv (.lst ((ks.map T0).map fun N=>V.int (N:Nat))) lv=some _:=zj
 generalize upd H4 lv _=H5 at gv hlv' ⊢
 refine⟨lv,os.length,ks.map T0,ks.map Yx,rfl,zZ.of hlv',pv ks,fun R tR=>?_⟩
 have hd5:=gv _ _ hd'
 have g5:=g.trans gv
 refine⟨_,rfl,d,_,rfl,hd5,fun cl hcl=>?_⟩
 have ek:(ks.map (kvT T0)).map (fun e=>kV e.1)=ks.map cbV:=by rw[zrw];rfl
 rw[ek]
 have gc:=Same.new hcl (.lst (ks.map cbV))
 have hcl':upd H5 cl (.lst (ks.map cbV)) cl=some _:=zj
 have fcl:=g5.free hcl
 have ndc:d≠cl:=zy hd5 hcl
 generalize upd H5 cl _=H6 at gc hcl' ⊢
 refine⟨_,rfl,d,_,rfl,gc _ _ hd5,fun o=>?_⟩
 have gG:=(g5.trans gc).over hd (.Kg o (.dK (ks.map (kvT T0))))
 have hG:upd H6 d (.Kg o (.dK (ks.map (kvT T0)))) d=some _:=zj
 have cG:upd H6 d (.Kg o (.dK (ks.map (kvT T0)))) cl=some (.lst (ks.map cbV)):=by rw[zA (Ne.symm ndc)];exact hcl'
 generalize upd H6 d (.Kg o (.dK (ks.map (kvT T0))))=G at gG hG cG ⊢
 have lm:(ks.map (kvT T0)).length=ks.length:=zqU _
 refine ziK (fun i ys H'=>Same G H'/\∃ps rows,ys=ps.map V.ref/\rows.length=i/\Paired (fun p r=>G p=none/\H' p=some (.lst (YT r))) ps rows/\ps.Nodup/\∀(j:Nat) c r,ks[j]?=some c->rows[j]?=some r->r.length=os.length/\Own ks c (wJ r)) ⟨Same.refl _,[],[],rfl,rfl,.nil,.nil,fun j c r _ e=>by cases e⟩ (by rw[lm];exact vQ (by omega)) ?_ ?_ ?_
 ·rintro i ys H' hi ⟨g',ps,rows,rfl,e,pp,_⟩
  exact⟨g' _ _ hG,by rw[zqU,uH pp,e];exact zra _⟩
 ·rintro i p ys H' Q0 hp ⟨g',ps,rows,rfl,e,pp,np,ow⟩ hn
  rw[zqW] at hp
  cases hc:ks[i]? with
  | none=>rw[hc] at hp;cases hp
  | some c =>
   rw[hc] at hp
   cases hp
   have hB':=L.same hB (gG.trans g')
   obtain⟨dx2,fs2,zel,hm⟩:=L.ins hB'
   have an:yc.anyB os.length (fun b=>Yx c b&&decide (zab (ks.map Yx) b=1))=true:=by
    obtain⟨b',hb,o'⟩:=wh.done c (zqZ hc)
    rw[yc.anyB_iff]
    exact⟨b',hb,by rw[o'.1,decide_eq_true ((own_one nd (zqZ hc) o'.1).mpr o')];rfl⟩
   refine⟨_,rfl,_,rfl,T0 c,R,rfl,rfl,_,rfl,b,dx2,fs2,rfl,zel,hm _ (by decide +kernel),b,os,rs,F,rfl,hB',fun l1 H7 g7 fl1 hl1=>?_⟩
   refine⟨l1,_,rfl,.inl (zZ.of hl1),?_⟩
   rw[zqU]
   refine⟨T0 c&&&R,os.length,_,rfl,o8,vJ (hT c) tR,an,fun l2 H8 r g8 hl2 h2 hd2=>hn _ _ ⟨g'.trans (g7.trans g8),ps++[l2],rows++[r],by rw[zq8];rfl,by rw[zq2,e];rfl,?_,?_,?_⟩⟩
   ·exact PL (Wk (fun _ _ z=>⟨z.1,(g7.trans g8) _ _ z.2⟩) pp) (.cons ⟨(g'.trans g7).free hl2,h2⟩ .nil)
   ·refine List.nodup_append.mpr ⟨np,List.pairwise_singleton _ _,fun x hx y hy=>?_⟩
    rw[List.mem_singleton.mp hy]
    obtain⟨j,hj⟩:=List.mem_iff_getElem?.mp hx
    obtain⟨r',_,_,z⟩:=zaG pp hj
    exact zy (g7 _ _ z) hl2
   ·intro j c' r' h1 h2'
    have mr:=List.mem_filter.mp (List.mem_of_head? hd2)
    rcases Nat.lt_or_ge j rows.length with z | z
    ·rw[zrr z] at h2'
     exact ow j c' r' h1 h2'
    ·have hj:j<(rows++[r]).length:=(zqX.mp h2').1
     rw[zq2,zrs] at hj
     have ej:j=i:=by omega
     subst ej
     rw[List.getElem?_append_right z,e,Nat.sub_self] at h2'
     obtain rfl:=zrp h2'
     obtain rfl:=zrp (hc.symm.trans h1)
     have y:=mr.2
     rw[zrm] at y
     exact⟨yc.Qo _ _ mr.1,(own_one nd (zqZ hc) y.1).mp (of_decide_eq_true y.2)⟩
 ·rintro ys H' rl ⟨g',ps,rows,rfl,e,pp,np,ow⟩ hrl
  have gr:=Same.new hrl (.lst (ps.map V.ref))
  refine⟨by show 2<=sizeLine;decide,fun t ht=>?_⟩
  have gt:=Same.new ht (.tup [.ref cl,.ref rl])
  have gg:=gG.trans (g'.trans gr)
  refine q t cl rl ks ps rows _ (gg.trans gt) (gg.free ht) fcl ((gG.trans g').free hrl) (zy (g' _ _ cG) hrl) zj ((g'.trans (gr.trans gt)) _ _ cG) (gt _ _ zj) (Wk (fun p r z=>⟨gG.free z.1,Ne.symm (zy cG z.1),zy z.2 hrl,(gr.trans gt) _ _ z.2⟩) pp) np ⟨fun c hc=>?_,PP.up.sublist wh.sub,wh.cov,by rw[e,lm],ow⟩ lk
  exact(PP.mem c).mp (wh.sub.subset hc)
theorem Ti (T:Txt P w K mg a):zB P w K mg base zX (k+1) a.xR a.xT yQ (TQ K):=by
 refine T.ZS.F.ok yK (fun vs H Q E h=>?_) (fun cdv A outer s H vs Q E hr h=>?_)
 ·obtain⟨ol,os,c,rfl,_⟩:=h
  rfl
 obtain⟨ol,os,c,rfl,hol,ho,lc,q⟩:=h
 refine⟨_,(zf (zE 2 yK.nd (vH (za z9 zc)))
   (zf (u6 PassesOwn.never rfl (Pr rfl T.TY (za (zN zK rfl T.wI yO (za (pv 0) zc)) zc)) (yD (i:=3) yK.nd rfl (Or.inl rfl)) (zf (yF (zM yX (yt Ue (pv 1) (pv 3) (fun _ _=>rfl)) z9 (zQ _)) (zm (zE 2 yK.nd (vH (za z9 (za (pv 2) (za (vH (za z9 (za (vH (za z9 (za (yt yU (pv 0) (pv 3) (fun _ _=>rfl)) zc))) zc))) zc)))))) zU)
   (zm (yF (zM yX (yt Ue (pv 1) (pv 3) (fun _ _=>rfl)) z9 (zQ _)) (zm (zE 2 yK.nd (vH (za z9 (za (pv 2) (za (vH (za z9 (za (yt yU (pv 0) (pv 3) (fun _ _=>rfl)) zc))) zc)))))) zU))))
   (zm (zJ (pv 2))))),?_⟩
 have o8:=ho.le
 have lz:(cbS c).length<=sizeLine:=by rw[Qy];exact vQ (by omega)
 refine⟨by show 1<=sizeLine;decide,fun p0 hp0=>?_⟩
 have g0:=Same.new hp0 (.tup [.str "yes"])
 have y0:upd H p0 (.tup [.str "yes"]) p0=some _:=zj
 refine⟨_,rfl,ol,_,rfl,.inl (g0.seq hol),(os.length:Int),by rw[zqU],by omega,by omega,?_⟩
 rw[Int.toNat_natCast]
 refine WM (lo:=0) (n:=os.length) (fun i σ H'=>∃(p:Addr) (s:Sn) (f3:Option V),Same H H'/\Tp H' s p/\s.RN os/\s.count<=1+3*i/\s.depth<=3+i/\(∀r,s.val (zgJ os r)=csB c i r)/\σ=[some (.ref ol),some (cbV c),some (.ref p),f3]) ⟨p0,.c0 true,_,g0,y0,trivial,by decide,by decide,fun r=>rfl,rfl⟩ ?_ ?_
 ·rintro i σ H2 hi ⟨p,s,f3,g,is,ino,ct,dp,vl,rfl⟩
  rw[Int.zero_add]
  obtain⟨x,hx⟩:∃x,os[i]?=some x:=⟨_,zqV hi⟩
  have mx:=zqZ hx
  have ixx:=zlR ho.nd hx
  have hxv:(os.map V.str)[i]?=some (.str x):=by rw[zqW,hx];rfl
  have hs:c[i]?=some (c.getD i none):=by rw[zq7,zqV (by omega)];rfl
  cases e:c.getD i none with
  | none =>
   rw[e] at hs
   refine⟨_,rfl,_,rfl,cbS c,_,_,rfl,rfl,lz,xZ (Vs hs),rfl,_,rfl,ifB (by decide +kernel) ⟨_,rfl,_,rfl,cbS c,_,_,rfl,rfl,lz,xZ (Vs hs),rfl,_,rfl,ifB (by decide +kernel) ⟨p,s,_,g,is,ino,by omega,by omega,fun r=>?_,rfl⟩⟩⟩
   rw[vl,Jh,e,Bool.and_true]
  | some v =>
   rw[e] at hs
   cases v with
   | false =>
    refine⟨_,rfl,_,rfl,cbS c,_,_,rfl,rfl,lz,xZ (Vs hs),rfl,_,rfl,ifA (by decide +kernel) ?_⟩
    refine⟨_,rfl,_,rfl,_,rfl,ol,_,_,_,rfl,rfl,g.seq hol,xZ hxv,by show 2<=sizeLine;decide,fun t1 h1=>?_⟩
    have g1:=Same.new h1 (.tup [.str "mark", .str x])
    have y1:upd H2 t1 (.tup [.str "mark", .str x]) t1=some _:=zj
    generalize upd H2 t1 _=H3 at g1 y1 ⊢
    refine⟨by show 2<=sizeLine;decide,fun t2 h2=>?_⟩
    have g2:=Same.new h2 (.tup [.str "not", .ref t1])
    have y2:upd H3 t2 (.tup [.str "not", .ref t1]) t2=some _:=zj
    generalize upd H3 t2 _=H4 at g2 y2 ⊢
    refine⟨by show 3<=sizeLine;decide,fun t3 h3=>?_⟩
    have g3:=Same.new h3 (.tup [.str "and", .ref p,.ref t2])
    have y3:upd H4 t3 (.tup [.str "and", .ref p,.ref t2]) t3=some _:=zj
    generalize upd H4 t3 _=H5 at g3 y3 ⊢
    refine⟨_,rfl,_,rfl,cbS c,_,_,rfl,rfl,lz,xZ (Vs hs),rfl,_,rfl,ifB (by decide +kernel) ⟨t3,.b2 0 s (.nt (.mk x)),_,g.trans (g1.trans (g2.trans g3)),⟨p,t2,y3,is.mono (yW.of (g1.trans (g2.trans g3))),t1,g3 _ _ y2,(g2.trans g3) _ _ y1⟩,⟨ino,mx⟩,?_,?_,fun r=>?_,rfl⟩⟩
    ·show 1+(s.count+(1+1))<=_
     omega
    ·show 1+max s.depth (1+1)<=_
     omega
    ·show(s.val (zgJ os r)&&!(r (ix os x)))=_
     rw[vl,Jh,e,ixx]
     cases r i<;>rfl
   | true =>
    refine⟨_,rfl,_,rfl,cbS c,_,_,rfl,rfl,lz,xZ (Vs hs),rfl,_,rfl,ifB (by decide +kernel) ?_⟩
    refine⟨_,rfl,_,rfl,cbS c,_,_,rfl,rfl,lz,xZ (Vs hs),rfl,_,rfl,ifA (by decide +kernel) ?_⟩
    refine⟨_,rfl,_,rfl,_,rfl,ol,_,_,_,rfl,rfl,g.seq hol,xZ hxv,by show 2<=sizeLine;decide,fun t1 h1=>?_⟩
    have g1:=Same.new h1 (.tup [.str "mark", .str x])
    have y1:upd H2 t1 (.tup [.str "mark", .str x]) t1=some _:=zj
    generalize upd H2 t1 _=H3 at g1 y1 ⊢
    refine⟨by show 3<=sizeLine;decide,fun t3 h3=>?_⟩
    have g3:=Same.new h3 (.tup [.str "and", .ref p,.ref t1])
    have y3:upd H3 t3 (.tup [.str "and", .ref p,.ref t1]) t3=some _:=zj
    generalize upd H3 t3 _=H5 at g3 y3 ⊢
    refine⟨t3,.b2 0 s (.mk x),_,g.trans (g1.trans g3),⟨p,t1,y3,is.mono (yW.of (g1.trans g3)),g3 _ _ y1⟩,⟨ino,mx⟩,?_,?_,fun r=>?_,rfl⟩
    ·show 1+(s.count+1)<=_
     omega
    ·show 1+max s.depth 1<=_
     omega
    ·show(s.val (zgJ os r)&&(r (ix os x)))=_
     rw[vl,Jh,e,ixx]
     cases r i<;>rfl
 ·rintro σ H2 ⟨p,s,f3,g,is,ino,ct,dp,vl,rfl⟩
  refine⟨_,rfl,q p s H2 g is ino (by omega) (by omega) fun r=>?_⟩
  rw[vl,<-lc]
  exact zks
theorem JQ (T:Txt P w K mg a)(VH:zB P w K mg base zX k a.Y8 a.Y9 Zr (Qq a.zx))(ZL:zB P w K mg base zX k a.uD a.uE vh (tU (yu a.zx)))(V6:zB P w K mg base zX k a.xR a.xT yQ (TQ K))(zho:zB P w K mg base zX k a.Js a.Jt QV (Nj a.zx)):zB P w K mg base zX (k+1) a.YF a.YG uX (zd6 a.zx):=by
 refine T.YH.F.ok ur (fun vs H Q E h=>?_) (fun cdv A outer s H vs Q E hr h=>?_)
 ·obtain⟨b,l,os,rs,F,qs,rfl,_⟩:=h
  rfl
 obtain⟨b,l,os,rs,F,qs,rfl,hB,len,hl,nF,hq,l2,q⟩:=h
 refine⟨_,(zf (zE 2 ur.nd zp)
   (zf (u6 PassesOwn.never rfl (xK (pv 1)) (yD (i:=3) ur.nd rfl (Or.inl rfl)) (zm (zE 2 ur.nd (zu zho hr T.zc7 (za (pv 0) (za z9 (za (pv 2) (za (z8 (pv 0) T.zT T.VF VH hr (za (zu V6 hr T.ZS (za (Ng (pv 0) T.zT T.Xa ZL hr) (za (pv 3) zc))) zc)) zc))))))))
   (zm (zJ (pv 2))))),?_⟩
 have L:=wj a.zx
 have L0:=W0.base hB (zra _)
 have hl0:=Np hl nF
 have h1:=zlQ os.length rs
 refine⟨_,rfl,l,rfl,⟨_,zZ.of hl⟩,?_⟩
 refine Yq (xs:=qs.map cbV) (fun i σ H'=>∃(rs':List yc.Rm) (k1:Nat) (f3:Option V),W0 a.zx (zbH F H) b os (yc.hiN os.length rs+126*i) H' rs' F/\yc.wL rs rs'/\yc.Means rs' k1 (fun r=>(qs.take i).any fun c=>Yx c (yc.bits r os.length))/\i<=qs.length/\σ=[some (.ref b),some (.ref l),some (.int (k1:Nat)),f3]) ⟨rs,0,_,L0,yc.wL.refl _,⟨zq3 (by decide) (yc.len2 (L.bk hB)),fun r=>yc.zdU (L.bk hB) r⟩,zrh _,rfl⟩ (fun i σ H' _ ⟨_,_,_,h,_⟩=>zZ.of (h.same _ _ hl0)) ?_ ?_
 ·rintro i x σ H1 hx ⟨rs1,k1,f3,L1,gr1,m1,_,rfl⟩
  rw[zqW] at hx
  cases hc:qs[i]? with
  | none=>rw[hc] at hx;cases hx
  | some c =>
   rw[hc] at hx
   cases hx
   have hi:i<qs.length:=(zqX.mp hc).1
   have n1:=L1.len
   obtain⟨dx0,fs0,zjj,hm0⟩:=L.ins L1.bk
   refine⟨_,rfl,_,rfl,_,rfl,b,dx0,fs0,rfl,zjj,hm0 _ (by decide +kernel),_,rfl,b,dx0,fs0,rfl,zjj,hm0 _ (by decide +kernel),b,os,rs1,F,rfl,L1.bk,fun l3 H3 g3 hl3 h3=>?_⟩
   have ho:=L.ord hB
   refine⟨_,rfl,l3,os,c,rfl,zZ.of h3,ho,hq c (zqZ hc),fun p s4 H4 g4 is4 in4 ct4 dp4 vl4=>?_⟩
   have L1:=(L1.new g3).new g4
   refine⟨b,p,os,rs1,F,s4,rfl,L1.bk,by omega,is4,in4,ct4,dp4,fun k2 rs2 H2 aw tu hB2 gr2 m2 hh=>?_⟩
   have m2:yc.Means rs2 k2 (fun r=>Yx c (yc.bits r os.length)):=⟨m2.1,fun r=>(m2.2 r).trans (vl4 r)⟩
   have L2:=L1.rise aw hB2 hh
   have n2:=L2.len
   refine⟨b,os,rs2,F,false,true,true,true,k1,k2,_,_,rfl,hB2,by omega,m1.grown (L.bk L1.bk) gr2,m2,fun k3 rs3 H3 aw3 tu3 hB3 gr3 m3 hh3=>?_⟩
   have L3:=L2.rise aw3 hB3 hh3
   refine⟨rs3,k3,_,⟨L3.same,L3.away,L3.bk,by have:=L3.hi;omega⟩,gr1.trans (gr2.trans gr3),⟨m3.1,fun r=>?_⟩,hi,rfl⟩
   rw[m3.2]
   show jn false true true true _ _=(List.take (i+1) qs).any _
   rw[zlK,zY hc,List.any_append,List.any_cons,List.any_nil,Bool.or_false]
 ·rintro σ H1 ⟨rs1,k1,f3,L1,gr1,m1,_,rfl⟩
  rw[zqU] at L1 m1
  rw[zrn] at m1
  exact⟨_,rfl,q k1 rs1 H1 L1.leave (L1.tups hB) L1.bk gr1 m1 L1.hi⟩
inductive zjk (C:Addr)(K:Frag)(sc:Addr)(ns:List Int)(σ:St)(H:Hp):Prop
 | mk (B:Hp) (ol bk:Addr) (os:List Str) (rs:List yc.Rm) (F:wM) (k1:Nat) (f1:yc.Row->Bool) (f4 f5 f6 f7:Option V) (_:Sg os) (_:W0 C B bk os 63 H rs F) (_:yc.Means rs k1 f1) (_:σ=[some (.ref sc),some (.ref ol),some (.ref bk),some (.int (k1:Nat)),f4,f5,f6,f7]):zjk C K sc ns σ H
theorem ok_law (T:Txt P w K mg a)
  (xY:zB P w K mg base zX (k+1) a.xr a.xu yL (LQ K))
  (zaq:zB P w K mg base zX (k+1) a.Wz a.WD Ym zbm)
  (Mf:zB P w K mg base zX (k+1) a.Z8 a.Z9 uo (Rf K))
  (zdl:zB P w K mg base zX k a.Wh a.U8 Wd (Ri (yu a.zx) K a.zx))
  (VH:zB P w K mg base zX (k+1) a.Y8 a.Y9 Zr (Qq a.zx))
  (ze4:zB P w K mg base zX (k+1) a.zbU a.zbV Kd (zbR a.zx))
  (zdm:zB P w K mg base zX (k+1) a.Ju a.Jv QW (Nk a.zx))
  (V4:zB P w K mg base zX (k+1) a.YF a.YG uX (zd6 a.zx))
  (V5:zB P w K mg base zX (k+1) a.YC a.YD uW (Uv a.zx K))
  (za1:zB P w K mg base zX (k+1) a.Nu a.Nv TV (K9 a.zx)) :
  zB P w K mg base zX (k+2) a.a_law a.d_law p_law (zeL K):=by
 refine T.f_law.F.ok sc_law (fun vs H Q E h=>?_) (fun cdv A outer s H vs Q E hr h=>?_)
 ·obtain⟨a,ns,rfl,_⟩:=h
  rfl
 obtain⟨sc,ns,rfl,hS,h63,q9⟩:=h
 have L:=wj a.zx
 refine zls ?_
 refine zgK (zjk a.zx K sc ns) (fun t z=>(zf (zE 1 sc_law.nd (zu zaq hr T.S5 (za (zu xY hr T.xG (za (pv 0) (za zp zc))) (za (yt yU (uG (za zp (za zp zc))) (ZX zfe rfl T.zji zgt (za (uU yX (zH ZV (zu xY hr T.xG (za (pv 0) (za zp zc))) zp) zp (zQ _)) zc)) (fun _ _=>rfl)) zc))))
   (zf (Pq (i:=2) sc_law.nd rfl (Or.inr rfl) (zhF T.ziM zdl hr rfl T.zkt T.M7.b .nil zeD (za (pv 1) zc)))
   (zf (Pq (i:=3) sc_law.nd rfl (Or.inr rfl) (z8 (pv 2) T.zT T.VF VH hr (za (zu Mf hr T.Ve (za (pv 0) (za zp (za (zH vG zp (zH ZV (zu xY hr T.xG (za (pv 0) (za zp zc))) zp)) (za (pv 1) zc))))) zc)))
   z)))) ?_ ?_
 ·rintro u hu σ H ⟨rfl,rfl⟩
  refine⟨_,rfl,sc,ns,0,rfl,hS,by show 2<=sizeLine;decide,fun l5 hl5=>?_⟩
  have g5:=Same.new hl5 (.lst [.int 5,.int 8])
  refine⟨_,rfl,sc,ns,40,rfl,g5.seq hS,_,_,rfl,rfl,(show(0:Int)<8 by decide),rfl,.inr ⟨_,rfl,l5,_,_,.int ((if (decide (V.int (tV ns 40%8)=V.int 1)) then 8 else 5:Nat):Int),rfl,rfl,zZ.of zj,?_,tV ns 0,(if (decide (V.int (tV ns 40%8)=V.int 1)) then 8 else 5),rfl,?_,?_,fun ol H0 os g1' ziU ho o8'=>?_⟩⟩
  ·cases (decide (V.int (tV ns 40%8)=V.int 1))<;>rfl
  ·cases (decide (V.int (tV ns 40%8)=V.int 1))<;>decide
  ·cases (decide (V.int (tV ns 40%8)=V.int 1))<;>decide
  have g0:=g5.trans g1'
  clear g1' o8' g5
  have o8:=ho.le
  have hS0:=g0.seq hS
  have m0:∀i,0<=tV ns i%7:=fun i=>zrB _ (by decide)
  have m1:∀i,tV ns i%7<7:=fun i=>zry _ (by decide)
  have em:∀i,(1:Int)+tV ns i%7=(((1+tV ns i%7).toNat:Nat):Int):=fun i=>by have:=m0 i;omega
  have cnt:∀{s:Sn},s.depth<=7->s.count+2<=200:=fun {s} h=>by
   have h3:=Sn.zcE s
   have h4:2^s.depth<=2^7:=zrq (by decide) h
   have h5:2^7=128:=rfl
   omega
  refine⟨_,rfl,fun bk dx hbk hdx hne=>⟨bk,dx,ol,os,rfl,zj,Ne.symm hne,?_,ho,fun H3 F0 keep hB hF=>⟨rfl,?_⟩⟩⟩
  ·refine zZ.of ?_
   rw[zA (zy ziU hbk),zA (zy ziU hdx)]
   exact ziU
  have L0:=W0.made hbk hdx hne keep hB hF
  clear keep hF
  have hS3:=L0.same.seq hS0
  obtain⟨dx0,fs,zel,hm⟩:=L.ins L0.bk
  refine⟨_,rfl,bk,dx0,fs,rfl,zel,hm _ (by decide +kernel),_,rfl,_,rfl,sc,ns,1,rfl,hS3,?_⟩
  refine⟨tV ns 1,7,rfl,rfl,(show(0:Int)<7 by decide),1,_,rfl,rfl,_,rfl,sc,ol,ns,2,(1+tV ns 1%7).toNat,os,?_,hS3,zZ.of (L0.same _ _ ziU),ho.pos,o8,by have:=m0 1;omega,by have:=m1 1;omega,by decide,fun p1 H4 s1 g4 is1 in1 d1=>?_⟩
  ·show [V.ref sc,V.int 2,V.int (1+tV ns 1%7),V.ref ol]=_
   rw[em 1];rfl
  have d7:s1.depth<=7:=by have:=m1 1;omega
  have L4:=L0.new g4
  refine⟨bk,p1,os,_,F0,s1,rfl,L4.bk,by decide,is1,in1,by have:=cnt d7;omega,by omega,fun k1 rs1 H5 aw tu hB5 gr mn1 hh=>?_⟩
  have L5:=L4.rise aw hB5 hh
  have hS5:=L5.same.seq hS0
  exact hu _ _ ⟨H0,ol,bk,os,rs1,F0,k1,_,_,_,_,_,ho,L5,mn1,rfl⟩
 refine⟨_,(zf (zf3 (zu ze4 hr T.zbW (za (pv 2) (za (pv 3) zc))) (Kp rfl (uK (yD (i:=6) sc_law.nd rfl (Or.inl rfl)) (uK (yD (i:=7) sc_law.nd rfl (Or.inl rfl)) RV))))
   (zf (yF (PW.pt (T8 (zM Mg (zu V4 hr T.YH (za (pv 2) (za (pv 6) zc))) (pv 3) (zQ _)) (Ua (Wj (uL (zN (Ys rfl) rfl T.M8 Ug (za (Z0 (tZ:=zq S_law) (js:=[3,2]) rfl (by show XR _ _ "row" ["room", "book"];exact lco (by decide +kernel)) rfl (xK (pv 7)) (by show ∀j∈([3,2]:List Nat),j<8;decide) (fun cl C s₂ H₂ fp=>(uU yX (z8 (pv 2) T.zT T.YJ V5 hr (za (pv 1) (za (pv 0) zc))) zp (zQ _)))) zc)) (fun _=>rfl)))))) (zm (zJ RQ)) zU)
   (zf (zE 4 sc_law.nd (zu zdm hr T.Jy (za (pv 2) (za (pv 3) zc))))
   (zf (zf3 (zu ze4 hr T.zbW (za (pv 2) (za (pv 4) zc))) (Kp rfl (uK (yD (i:=6) sc_law.nd rfl (Or.inl rfl)) (uK (yD (i:=7) sc_law.nd rfl (Or.inl rfl)) RV))))
   (zf (zE 5 sc_law.nd (zu V4 hr T.YH (za (pv 2) (za (pv 6) zc))))
   (zf (yF (PW.pt (T8 (zM Mg (pv 5) (pv 4) (zQ _)) (T8 (zM Mg (zu zdm hr T.Jy (za (pv 2) (za (pv 5) zc))) (pv 3) (zQ _)) (Ua (Wj (uL (zN (Ys rfl) rfl T.M8 Ug (za (Z0 (tZ:=zq S_law) (js:=[3,2]) rfl (by show XR _ _ "row" ["room", "book"];exact lco (by decide +kernel)) rfl (xK (pv 7)) (by show ∀j∈([3,2]:List Nat),j<8;decide) (fun cl C s₂ H₂ fp=>(uU yX (z8 (pv 2) T.zT T.YJ V5 hr (za (pv 1) (za (pv 0) zc))) zp (zQ _)))) zc)) (fun _=>rfl))))))) (zm (zJ RQ)) zU)
   (zm (zJ (zkP (uU yX (zu za1 hr T.NQ (za (pv 2) (za (pv 3) zc))) (zu za1 hr T.NQ (za (pv 2) (za (pv 4) zc))) (zQ _)) (zds (uU zce (pv 3) zp (zQ _)))))))))))),?_⟩
 rintro σ H ⟨B,ol,bk,os,rs,F,k1,f1,f4,f5,f6,f7,ho,Ld,m1,rfl⟩
 have n0:=Ld.len
 refine⟨_,rfl,_,rfl,bk,os,rs,F,k1,rfl,Ld.bk,m1.1,fun t cl rl ks ps rows H2 g2 ht hcl hrl ne ht' hcl' hrl' pp _ cv lk=>?_⟩
 refine⟨t,_,rfl,tY.of ht',rfl,_,_,rfl,_,_,rfl,rfl,?_⟩
 have L2:=Ld.new g2
 refine⟨_,rfl,_,rfl,bk,cl,os,rs,F,ks,rfl,L2.bk,by omega,hcl',L.fresh Ld.bk hcl,fun q hq=>(cv.mem q hq).1,lk,fun k3 rs3 H3 aw tu hB3 gr3 m3 hh=>?_⟩
 have L3:=L2.rise aw hB3 hh
 have n3:=L3.len
 have m13:=m1.grown (L.bk L2.bk) gr3
 obtain rfl:k3=k1:=m3.eq (L.bk hB3) m13 fun r=>by rw[zcR (L.bk L2.bk) m1.1 cv r,m1.2]
 refine⟨_,rfl,rfl,_,rfl,ifB (by rw[decide_eq_true rfl];rfl) ?_⟩
 have zl6:=aw _ _ hrl' (L.fresh Ld.bk hrl)
 have lps:=uH pp
 have lrw:=cv.len
 refine⟨_,rfl,rl,rfl,⟨_,zZ.of zl6⟩,?_⟩
 refine ze0 (fun _=>.bl true) (zZ.of zl6) (by rw[zqU];exact vQ (by omega)) (fun j x H' Q0 hx g hQ=>?_) (fun Hb lb gb hlb=>?_)
 ·rw[zqW] at hx
  cases hp:ps[j]? with
  | none=>rw[hp] at hx;cases hx
  | some p =>
   rw[hp] at hx
   cases hx
   obtain⟨r,hr,fp,_,_,hpr⟩:=zaG pp hp
   obtain⟨lr,yr⟩:=ze3 cv hr
   have hB':=L.same L3.bk g
   obtain⟨dx',fs',hins',hm'⟩:=L.ins hB'
   refine⟨_,rfl,bk,dx',fs',rfl,hins',hm' _ (by decide +kernel),_,rfl,_,rfl,bk,p,os,rs3,F,k3,r,rfl,hB',m13.1,zZ.of (g _ _ (aw _ _ hpr (L.fresh Ld.bk fp))),lr,fun H5 g5=>⟨rfl,?_⟩⟩
   rw[m13.2,<-m1.2,yr]
   exact hQ _ g5
 have em:(ps.map V.ref).map (fun _=>V.bl true)=(ps.map fun _=>true).map V.bl:=by rw[zrw,zrw];rfl
 rw[em]
 refine⟨lb,_,rfl,zZ.of zj,true,?_,Pz ?_⟩
 ·show true=(ps.map fun _=>true).all id
  rw[List.all_map]
  exact(zro.mpr fun _ _=>rfl).symm
 have L3:=(L3.new gb).new (Same.new hlb (.lst ((ps.map fun _=>true).map V.bl)))
 generalize upd Hb lb _=Hc at L3 ⊢
 refine⟨_,rfl,_,rfl,bk,os,rs3,F,k3,_,rfl,L3.bk,by omega,m13,fun k4 rs4 H4 aw4 tu4 hB4 gr4 m4 hh4=>?_⟩
 have L4:=L3.rise aw4 hB4 hh4
 have m14:=m13.grown (L.bk L3.bk) gr4
 refine⟨_,rfl,_,rfl,bk,os,rs4,F,k4,rfl,L4.bk,m4.1,fun t5 cl5 rl5 ks5 ps5 zoH H5 g5 ht5 znO zl8 ne5 ht5' hcl5' hrl5' pp5 _ cv5 lk5=>?_⟩
 refine⟨t5,_,rfl,tY.of ht5',rfl,_,_,rfl,_,_,rfl,rfl,?_⟩
 have L5:=L4.new g5
 have n5:=L5.len
 refine⟨_,rfl,_,rfl,bk,cl5,os,rs4,F,ks5,rfl,L5.bk,by omega,hcl5',L.fresh L4.bk znO,fun q hq=>(cv5.mem q hq).1,lk5,fun k6 rs6 H6 aw6 tu6 hB6 gr6 m6 hh6=>?_⟩
 have L6:=L5.rise aw6 hB6 hh6
 have n6:=L6.len
 have m16:=m14.grown (L.bk L5.bk) gr6
 have m46:=m4.grown (L.bk L5.bk) gr6
 obtain rfl:k6=k4:=m6.eq (L.bk hB6) m46 fun r=>by rw[zcR (L.bk L5.bk) m4.1 cv5 r,m4.2]
 refine⟨_,rfl,_,rfl,rfl,_,rfl,ifB (by rw[decide_eq_true rfl];rfl) ?_⟩
 refine⟨_,rfl,_,rfl,bk,os,rs6,F,k6,_,rfl,L6.bk,by omega,m46,fun k7 rs7 H7 aw7 tu7 hB7 gr7 m7 hh7=>?_⟩
 have L7:=L6.rise aw7 hB7 hh7
 have m17:=m16.grown (L.bk L6.bk) gr7
 have m47:=m46.grown (L.bk L6.bk) gr7
 obtain rfl:k7=k3:=m7.eq (L.bk hB7) m17 fun r=>by show(!!f1 r)=f1 r;exact Bool.not_not _
 refine⟨_,rfl,rfl,_,rfl,ifB (by rw[decide_eq_true rfl];rfl) ?_⟩
 have zl9:=aw7 _ _ (aw6 _ _ hrl5' (L.fresh L4.bk zl8)) (L.fresh L4.bk zl8)
 have zqr:=uH pp5
 have zqs:=cv5.len
 refine⟨_,rfl,rl5,rfl,⟨_,zZ.of zl9⟩,?_⟩
 refine ze0 (fun _=>.bl true) (zZ.of zl9) (by rw[zqU];exact vQ (by omega)) (fun j x H' Q0 hx g hQ=>?_) (fun Hd ld gd hld=>?_)
 ·rw[zqW] at hx
  cases hp:ps5[j]? with
  | none=>rw[hp] at hx;cases hx
  | some p =>
   rw[hp] at hx
   cases hx
   obtain⟨r,hr,fp,_,_,hpr⟩:=zaG pp5 hp
   obtain⟨lr,yr⟩:=ze3 cv5 hr
   have hB':=L.same L7.bk g
   obtain⟨dx',fs',hins',hm'⟩:=L.ins hB'
   refine⟨_,rfl,bk,dx',fs',rfl,hins',hm' _ (by decide +kernel),_,rfl,_,rfl,bk,p,os,rs7,F,k7,r,rfl,hB',m17.1,zZ.of (g _ _ (aw7 _ _ (aw6 _ _ hpr (L.fresh L4.bk fp)) (L.fresh L4.bk fp))),lr,fun H5 g5=>⟨rfl,?_⟩⟩
   rw[m4.2] at yr
   have yr:(!f1 (yc.Uu r))=true:=yr
   rw[Bool.not_eq_true'] at yr
   rw[m17.2,yr]
   exact hQ _ g5
 have em5:(ps5.map V.ref).map (fun _=>V.bl true)=(ps5.map fun _=>true).map V.bl:=by rw[zrw,zrw];rfl
 rw[em5]
 refine⟨ld,_,rfl,zZ.of zj,true,?_,Pz ?_⟩
 ·show true=(ps5.map fun _=>true).all id
  rw[List.all_map]
  exact(zro.mpr fun _ _=>rfl).symm
 have L8:=(L7.new gd).new (Same.new hld (.lst ((ps5.map fun _=>true).map V.bl)))
 generalize upd Hd ld _=He at L8 ⊢
 refine⟨_,rfl,_,rfl,bk,os,rs7,F,k7,rfl,L8.bk,m17.1,fun H9 ms g9 isb=>?_⟩
 refine⟨_,rfl,_,rfl,bk,os,rs7,F,k6,rfl,L.same L8.bk g9,m47.1,fun Ha ns' ga isn=>?_⟩
 have es:=zfK (L.bk L8.bk) m17.1 m47.1 (fun r=>by rw[m47.2,m17.2]) isb isn
 refine⟨rfl,true,?_,?_⟩
 ·rw[es,decide_eq_true rfl]
 ·rw[if_pos rfl];exact q9 _
theorem ziV (T:Txt P w K mg a)(base:Heap):zB P w K mg base zX 60 a.a_law a.d_law p_law (zeL K):=by
 have cell:zB P w K mg base zX 1 a.xr a.xu yL (Qc K):=zeb (k:=0) T
 have draw:zB P w K mg base zX 1 a.ZG a.ZJ uh KQ:=ziQ (k:=0) T
 have order:=zhk (k:=1) T draw
 have sentence:=zda (k:=1) T cell draw
 have Kf:zB P w K mg base zX 2 a.vm a.vo wD v8:=zc9 (k:=1) T
 have Ph:zB P w K mg base zX 1 a.wZ a.vd wu vN:=zbX (k:=0) T
 have flipped:=zea (k:=1) T Ph
 have zhp:zB P w K mg base zX 1 a.W9 a.Va Xh WX:=zed (k:=0) T
 have ziW:=zdb (k:=1) T zhp
 have lettersOf:zB P w K mg base zX 1 a.Zt a.Zu ud Yt:=zai (k:=0) T
 have partsOf:zB P w K mg base zX 1 a.tH a.tK vR Z2:=zdc (k:=0) T
 have JR:=Lk (k:=1) T partsOf
 have shaped:=zbY (k:=1) T zhp lettersOf partsOf
 have zma:=JB (k:=2) T shaped JR
 have zfW:=NZ (k:=2) T ziW
 have ziX:=T7 (k:=3) T zma
 have zhq:=zbZ (k:=2) T JR
 have zfX:=zak (k:=3) T zhq (lettersOf.mono (by decide))
 have zhr:zB P w K mg base zX 1 a.uw a.uz wO (Vl K):=Pa (k:=0) T
 have zfY:=RG (k:=4) T zfX (zhr.mono (by decide))
 have two:zB P w K mg base zX 2 a.vW a.vX wQ zcs:=Ln (k:=1) T
 have table:=La (k:=2) T Kf (Ph.mono (by decide)) flipped (partsOf.mono (by decide)) two 24
 have zep:=zef (k:=2) T (Ph.mono (by decide)) flipped
 have hangs:=zdf (k:=2) T flipped
 have first:=JC (k:=3) T hangs
 have JT:=XQ (k:=4) T first (zep.mono (by decide)) 9
 have enter:=JD (k:=26) T (ziX.mono (by decide)) (zfY.mono (by decide)) table (JT.mono (by decide))
 have init:=zb1 (k:=3) T zfW (Kf.mono (by decide))
 have mbr:zB P w K mg base zX 1 a.yd a.yg z7 (vO a.zx):=Te (k:=0) T
 have tat:zB P w K mg base zX 1 a.xW a.xX xq (Xf a.zx):=N7 (k:=0) T
 have zkx:zB P w K mg base zX 1 a.uD a.uE vh (tU (yu a.zx)):=zan (k:=0) T
 have zdn:zB P w K mg base zX 1 a.W7 a.W8 Xg WY:=zei (k:=0) T
 have tV:zB P w K mg base zX 1 a.xr a.xu yL (LQ K):=zfS (k:=0) T
 have having:=JL (K:=K) (k:=2) T Kf (Ph.mono (by decide)) (zdn.mono (by decide))
 have rowsOf:=zeo (K:=K) (k:=3) T having
 have pf:=Tg (k:=3) T (Kf.mono (by decide)) zep 9
 have pr:=zfU (k:=12) T (mbr.mono (by decide)) (tat.mono (by decide)) (zkx.mono (by decide)) pf
 have ofOne:=JN (K:=K) (k:=1) T zdn
 have fv:=Lr (K:=K) (k:=3) T zep
 have fr:=zb3 (K:=K) (k:=4) T fv
 have cov:=zhm (K:=K) (k:=13) T pr (rowsOf.mono (by decide)) (ofOne.mono (by decide)) (fr.mono (by decide)) (zkx.mono (by decide))
 have zmc:zB P w K mg base zX 1 a.ZD a.ZF vV Vp:=Ls (k:=0) T
 have jby:zB P w K mg base zX 1 a.Wf a.Wg Yu Vq:=zb4 (k:=0) T
 have joined:=zem (k:=13) T (mbr.mono (by decide)) JT (tat.mono (by decide)) (zmc.mono (by decide)) (jby.mono (by decide))
 have turned:=zen (k:=13) T (mbr.mono (by decide)) JT (tat.mono (by decide))
 have plc:zB P w K mg base zX 1 a.uY a.uZ vp (Tz a.zx):=N6 (k:=0) T
 have goi:zB P w K mg base zX 1 a.Zz a.ZC ug (Qn a.zx):=zam (k:=0) T
 have below:=JG (k:=1) T mbr goi
 have sizeOf:=zek (k:=2) T below
 have led:=zdi (k:=1) T plc goi
 have zmd:zB P w K mg base zX 1 a.QZ a.Q5 Uz (Lz K):=zfT (k:=0) T
 have ziY:=JF (k:=1) T zmd
 have ziZ:=N8 (k:=2) T (mbr.mono (by decide)) ziY led
 have lcs:zB P w K mg base zX 1 a.xR a.xT yQ (TQ K):=Ti (k:=0) T
 have lent:=JQ (K:=K) (k:=27) T enter (zkx.mono (by decide)) (lcs.mono (by decide)) (joined.mono (by decide))
 exact ok_law (k:=58) T (tV.mono (by decide)) (order.mono (by decide)) (sentence.mono (by decide)) (init.mono (by decide)) (enter.mono (by decide)) (cov.mono (by decide)) (turned.mono (by decide)) (lent.mono (by decide)) (ziZ.mono (by decide)) (sizeOf.mono (by decide))
end
end K87
namespace PySem.W.Fast
def tw5182540629533034505:Nat:=0
def tw14071338118025491651:Nat:=0
def tw7515149892595863319:Nat:=0
def tw6664555139734777152:Nat:=0
def tw4085117358912202690:Nat:=0
def tw10286152675782395497:Nat:=0
def tw8168232277180265682:Nat:=0
def tw11188944721881008709:Nat:=0
def tw1941417969321581775:Nat:=0
def tw5286555602763629423:Nat:=0
def tw13588045666110685626:Nat:=0
def tw11129212167669986104:Nat:=0
def tw19822208773201165:Nat:=0
def tw13742941774419590729:Nat:=0
def tw8539487593620447806:Nat:=0
def tw13030033380832657516:Nat:=0
def tw1792490067909542270:Nat:=0
def tw11300981734421673770:Nat:=0
def tw13720121104123000223:Nat:=0
def tw7370278289449214186:Nat:=0
def tw4889542879012751920:Nat:=0
def tw15238687473350299567:Nat:=0
def tw8697976517592444318:Nat:=0
def tw7133392881134014524:Nat:=0
def tw15650808888669668671:Nat:=0
def tw11373538316273764590:Nat:=0
def tw15249553347497380804:Nat:=0
def tw6019150145799182545:Nat:=0
def tw14119914117797198760:Nat:=0
def tw16037649292367124031:Nat:=0
def tw15002437154525273506:Nat:=0
def tw12380208365484097151:Nat:=0
def tw13749638549958631977:Nat:=0
def tw13379802852614114222:Nat:=0
def tw563534476208531285:Nat:=0
def tw1186529455293023519:Nat:=0
def tw8084173882099647162:Nat:=0
def tw4875172551442062448:Nat:=0
def tw11277117482853641641:Nat:=0
def tw15921505314856845336:Nat:=0
def tw8139363383115439749:Nat:=0
def tw14727348087663951893:Nat:=0
def tw1271956756774390182:Nat:=0
def tw15721840542253998281:Nat:=0
def tw5335908365140879864:Nat:=0
def tw9719660275784102590:Nat:=0
def tw1488050664859847107:Nat:=0
def tw10836019034596481728:Nat:=0
def tw426059340620484330:Nat:=0
def tw9723105556154261095:Nat:=0
def tw15872024209601005975:Nat:=0
def tw9836286320088723656:Nat:=0
def tw4240327669065099494:Nat:=0
def tw12460085235823766707:Nat:=0
def tw12725146315622738110:Nat:=0
def tw16320532286428857430:Nat:=0
def tw15286096407232368853:Nat:=0
def tw6043092510884227967:Nat:=0
def tw9970631167062086308:Nat:=0
def tw11069841381332058957:Nat:=0
def tw8537207114371849318:Nat:=0
def tw3598962308983675476:Nat:=0
def tw3676516724448161226:Nat:=0
def tw15086419565656704939:Nat:=0
def tw13245074455338475100:Nat:=0
def tw9707485729426162436:Nat:=0
def tw10026005768751294931:Nat:=0
def tw14653942518350838515:Nat:=0
def tw8769622311189277198:Nat:=0
def tw9320360239238290832:Nat:=0
def tw18258481190875989436:Nat:=0
def tw17424583309166440207:Nat:=0
def tw4132499081452323730:Nat:=0
def tw6428955088492418962:Nat:=0
def tw3347430816861297196:Nat:=0
def tw9944178211687079306:Nat:=0
def tw8487882560413159328:Nat:=0
def tw17635281361509943207:Nat:=0
def tw8009722977190328791:Nat:=0
def tw7983456779439518895:Nat:=0
def tw16319589763771515533:Nat:=0
def tw3435169388334885015:Nat:=0
def tw16010994231525613613:Nat:=0
def tw15573291245623220748:Nat:=0
def tw5011890430081376463:Nat:=0
def tw10095424277292473663:Nat:=0
def tw9243956335803762500:Nat:=0
def tw14669298552744014751:Nat:=0
def tw8560106237289028678:Nat:=0
def tw17682413152385452462:Nat:=0
def tw4451323075162064142:Nat:=0
def tw12302884462026762782:Nat:=0
def tw15442016336900706882:Nat:=0
def tw16090236707570245553:Nat:=0
def tw15828680374602403446:Nat:=0
def tw1959344433463651147:Nat:=0
def tw9360543629484683214:Nat:=0
def tw7652018262944018365:Nat:=0
def tw10618027753064860724:Nat:=0
def tw1254817238730618421:Nat:=0
def tw94500173706694474:Nat:=0
def tw6524631052255315275:Nat:=0
def tw466751495729265260:Nat:=0
def tw15157236165502183719:Nat:=0
def tw8157972310169308305:Nat:=0
def tw14670534995079693226:Nat:=0
def tw2428502925665335616:Nat:=0
def tw5786139947540710693:Nat:=0
def tw12609849161587213449:Nat:=0
def tw7191328639792948406:Nat:=0
def tw4996611225700562266:Nat:=0
def tw14440939711768220639:Nat:=0
def tw5545373933453853491:Nat:=0
def tw1302365057708170312:Nat:=0
def tw5052650775524030739:Nat:=0
def tw4196428373912766980:Nat:=0
def tw7131988967225906139:Nat:=0
def tw373490085391330077:Nat:=0
def tw13692999865457366273:Nat:=0
def tw2626996598428400927:Nat:=0
def tw15042014780826632616:Nat:=0
def tw16079692135410898204:Nat:=0
def tw16180169777397332908:Nat:=0
def tw3747158599917551304:Nat:=0
def tw16689026154606425919:Nat:=0
def tw4422796456910242975:Nat:=0
def tw1643006120569825331:Nat:=0
def tw16558520298014904752:Nat:=0
def tw6355389124370409651:Nat:=0
def tw16770893202810598779:Nat:=0
def tw14930793555827852317:Nat:=0
def tw15986539459047396376:Nat:=0
def tw1927266583439895169:Nat:=0
def tw17508335015602358429:Nat:=0
def tw13742712106048041120:Nat:=0
def tw1416845743990301793:Nat:=0
def tw3730734426912003046:Nat:=0
def tw10849113954694353559:Nat:=0
def tw16789666300783196193:Nat:=0
def tw986635750378276749:Nat:=0
def tw15534505108382601797:Nat:=0
def tw4540330938554428105:Nat:=0
def tw7710674422662196251:Nat:=0
def tw16557416912807353526:Nat:=0
def tw11893923697350093937:Nat:=0
def tw6663818961479535280:Nat:=0
def tw7487483451635514569:Nat:=0
def tw12315564928401784099:Nat:=0
def tw7422456984118621592:Nat:=0
def tw4189488497829757105:Nat:=0
def tw1678486328940710782:Nat:=0
def tw6366294830565314145:Nat:=0
def tw139621022314842166:Nat:=0
def tw10841241837999061014:Nat:=0
def tw16532219839300710431:Nat:=0
def tw2345059423839908990:Nat:=0
def tw7833012541077305920:Nat:=0
def tw1314094968638112774:Nat:=0
def tw8423636083562734453:Nat:=0
def tw7509650482184955252:Nat:=0
def tw14244478195924155741:Nat:=0
def tw13473199561448369921:Nat:=0
def tw8730093435359709944:Nat:=0
def tw5903820962078236075:Nat:=0
def tw1651225222434584850:Nat:=0
def tw4663090136310544287:Nat:=0
def tw9514786288151455855:Nat:=0
def tw4036142862778806426:Nat:=0
def tw7744339808168874641:Nat:=0
def tw15160842418845428531:Nat:=0
def tw7220299031173607302:Nat:=0
def tw719545616899210440:Nat:=0
def tw16369852104338327348:Nat:=0
def tw13594258032206201648:Nat:=0
def tw16103054598595096179:Nat:=0
def tw7984589313522690735:Nat:=0
def tw17535569754718233286:Nat:=0
def tw14141562281199907609:Nat:=0
def tw978096685683720270:Nat:=0
def tw10471227637570150813:Nat:=0
def tw3222848188150444143:Nat:=0
def tw4689627494182097436:Nat:=0
def tw12814924733630049235:Nat:=0
end PySem.W.Fast
open PySem PySem.W PyProof.Rows
set_option maxRecDepth 100000 in
set_option maxHeartbeats 0 in
theorem PySem.Challenge.cw_decidebook_k87_whole_covers_entered_holds : PySem.Challenge.rw_decidebook_k87_whole_covers_entered.Holds := by
  w_on;o_law;k_head;(case hw => w_witness2)
  k_fill
  refine L2.zgh (l := PySem.Challenge.rw_decidebook_k87_whole_covers_entered) (n := 63) (k := 60) (x := "script") (CX := L2.zX) (sp := Za.zeL) rfl (by decide) rfl (by first | exact⟨rfl, by decide, by decide⟩ | exact⟨rfl, rfl, by decide, by decide⟩) (fun w h Y => PySem.W.kIn_of Y) ?F ?S ?C
  case F =>
    intro w mg fa h KX G hmg
    have T : ∃a, K87.Txt PySem.Challenge.rw_decidebook_k87_whole_covers_entered.prog w (L2.KOf KX) mg a := by
      dsimp only[L2.KOf]
      apply K87.zlV
      constructor
      (try dsimp only);apply mg_of KX G;k_is
      iterate 44 ((try dsimp only);apply L2.dfm KX G;k_is;k_is;k_is;k_is;intro _ _ _ _ _ _ us hl;first|(have z:=L2.T5 hl;subst z;rfl)|(obtain⟨_,us,e,hm⟩:=L2.Qj hl;clear hl;subst e;have hl:=hm;clear hm;first|(have z:=L2.T5 hl;subst z;rfl)|(obtain⟨_,us,e,hm⟩:=L2.Qj hl;clear hl;subst e;have hl:=hm;clear hm;first|(have z:=L2.T5 hl;subst z;rfl)|(obtain⟨_,us,e,hm⟩:=L2.Qj hl;clear hl;subst e;have hl:=hm;clear hm;first|(have z:=L2.T5 hl;subst z;rfl)|(obtain⟨_,us,e,hm⟩:=L2.Qj hl;clear hl;subst e;have hl:=hm;clear hm;first|(have z:=L2.T5 hl;subst z;rfl)|(obtain⟨_,us,e,hm⟩:=L2.Qj hl;clear hl;subst e;have hl:=hm;clear hm;first|(have z:=L2.T5 hl;subst z;rfl)|(obtain⟨_,us,e,hm⟩:=L2.Qj hl;clear hl;subst e;have hl:=hm;clear hm;first|(have z:=L2.T5 hl;subst z;rfl)|(obtain⟨_,us,e,hm⟩:=L2.Qj hl;clear hl;subst e;have hl:=hm;clear hm;(have z:=L2.T5 hl;subst z;rfl)))))))))
      iterate 12 ((try dsimp only);apply L2.dmm;k_is;k_is;k_is;k_is;k_is;intro _ _ _ _ _ _ us hl;first|(have z:=L2.T5 hl;subst z;rfl)|(obtain⟨_,us,e,hm⟩:=L2.Qj hl;clear hl;subst e;have hl:=hm;clear hm;first|(have z:=L2.T5 hl;subst z;rfl)|(obtain⟨_,us,e,hm⟩:=L2.Qj hl;clear hl;subst e;have hl:=hm;clear hm;first|(have z:=L2.T5 hl;subst z;rfl)|(obtain⟨_,us,e,hm⟩:=L2.Qj hl;clear hl;subst e;have hl:=hm;clear hm;first|(have z:=L2.T5 hl;subst z;rfl)|(obtain⟨_,us,e,hm⟩:=L2.Qj hl;clear hl;subst e;have hl:=hm;clear hm;first|(have z:=L2.T5 hl;subst z;rfl)|(obtain⟨_,us,e,hm⟩:=L2.Qj hl;clear hl;subst e;have hl:=hm;clear hm;first|(have z:=L2.T5 hl;subst z;rfl)|(obtain⟨_,us,e,hm⟩:=L2.Qj hl;clear hl;subst e;have hl:=hm;clear hm;first|(have z:=L2.T5 hl;subst z;rfl)|(obtain⟨_,us,e,hm⟩:=L2.Qj hl;clear hl;subst e;have hl:=hm;clear hm;(have z:=L2.T5 hl;subst z;rfl)))))))))
      iterate 2 ((try dsimp only);constructor;k_is;k_is;k_is;k_is)
      iterate 4 ((try dsimp only);unfold L2.Xm;k_is)
      (try dsimp only);apply mg_of KX G;k_is
      (try dsimp only);apply L2.zib;k_is;rfl;decide
      iterate 3 ((try dsimp only);apply mg_of KX G;k_is)
      (try dsimp only);apply L2.zj1;k_is;rfl;(unfold K87.yZ;decide +kernel);(unfold K87.yZ;iterate 10 (apply L2.Ent.cons;k_is;rfl));apply L2.Ent.nil
      iterate 12 ((try dsimp only);apply mg_none_of KX G;k_is)
    obtain⟨a, T⟩ := T
    have e0 := hmg.symm.trans T.f_law.m
    cases e0
    exact⟨_, K87.x_law T.f_law, fun base kb nb => K87.ziV T base⟩
  case S => exact fun K H a ns hl hO hS => ⟨a, ns, rfl, hS, hl, fun _ => rfl⟩
  case C => exact fun _ _ _ _ h => h
