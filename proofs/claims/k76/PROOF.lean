import PyProof.Rows.All
import Wide.All
import OpenK.AllK
import Wide.FinOn
import Lean
import PyProof.EqAt
import PyProof.EqKinds
import PyProof.TupleCall
import KE.KRevIter
import OpenK.KOwn
import PyProof.Draws
import PyProof.EnumMake
import PyProof.StrBlockI
import PyProof.StrBlock2
import PyProof.DictValues
import PyProof.DictWalks
import PySem.Challenge.RW_decidebook_k76_ways_judged
open PySem.W (Frag nsIn mg_of findIn mg_none_of)
def zx4:=@List.length_map
def zx5:=@List.getElem?_eq_getElem
def zx6:=@List.getElem?_map
def zx7:=@List.getElem?_eq_some_iff
def zx8:=@Bool.false_ne_true
def zx9:=@List.mem_of_getElem?
def zya:=@PySem.Heap.get?_push_of_some
def zyb:=@PySem.Heap.lt_size
def zyc:=@List.length_append
def zyd:=@Nat.lt_of_lt_of_le
def zye:=@List.size_toArray
def zyf:=@List.mem_cons_of_mem
def zyg:=@List.length_cons
def zyh:=@List.getD_eq_getElem?_getD
def zyi:=@List.map_append
def zyj:=@Nat.ne_of_lt
def zyk:=@Nat.le_refl
def zyl:=@List.mem_append_right
def zym:=@List.length_range
def zyn:=@Nat.le_of_lt
def zyo:=@List.mem_cons_self
def zyp:=@PySem.Heap.get?_push_size
def zyq:=@Nat.le_trans
def zyr:=@Nat.zero_le
def zys:=@List.length_take
def zyt:=@List.map_cons
def zyu:=@List.lookup_cons
def zyv:=@List.not_mem_nil
def zyw:=@Bool.and_eq_true
def zyx:=@List.take_length
def zyy:=@List.all_eq_true
def zyz:=@Option.some.inj
def zyA:=@Nat.pow_le_pow_right
def zyB:=@List.getElem?_append_left
def zyC:=@List.length_singleton
def zyD:=@List.length_filter_le
def zyE:=@List.getElem?_eq_none
def zyF:=@Nat.le_add_right
def zyG:=@List.map_map
def zyH:=@List.of_mem_zip
def zyI:=@Int.toNat_natCast
def zyJ:=@List.filter_append
def zyK:=@Int.emod_lt_of_pos
def zyL:=@Bool.eq_iff_iff
def zyM:=@List.getElem_mem
def zyN:=@List.getElem_of_mem
def zyO:=@Int.emod_nonneg
set_option Elab.async false
set_option linter.all false
set_option maxRecDepth 100000
namespace L2
open PySem PySem.Spec PyProof.Rows
abbrev Key:=Sum Int Str
def zdR:Key->Value->Bool
 | .inl k,v=>Value.isInt k v
 | .inr x,v=>Value.isStrOf x v
def zsI (w:World):Key->Int
 | .inl k=>hashInt k
 | .inr x=>hashStr w x
theorem vR:∀{k:Key} {v:Value},zdR k v=true->(∃i t,k=Sum.inl i/\v=Value.int i t)\/(∃x t,k=Sum.inr x/\v=Value.str x t)
 | .inl i,v,h=>by
  obtain⟨t,e⟩:=Value.isInt_shape (k:=i) (v:=v) h
  exact .inl ⟨i,t,rfl,e⟩
 | .inr x,v,h=>by
  obtain⟨t,e⟩:=Value.isStrOf_shape (x:=x) (v:=v) h
  exact .inr ⟨x,t,rfl,e⟩
theorem zjZ (i:Int)(t:Tok):zdR (.inl i) (.int i t)=true:=by simp[zdR,Value.isInt]
theorem zj0 (x:Str)(t:Tok):zdR (.inr x) (.str x t)=true:=by simp[zdR,Value.isStrOf]
theorem zoU (a b:Int):decide ((Sum.inl a:Key)=Sum.inl b)=(a==b):=by
 by_cases e:a=b
 ·subst e;simp
 ·have h:¬(Sum.inl a:Key)=Sum.inl b:=fun q=>e (Sum.inl.inj q)
  rw[decide_eq_false h]
  exact(beq_eq_false_iff_ne.mpr e).symm
theorem zoV (a b:Str):decide ((Sum.inr a:Key)=Sum.inr b)=decide (a=b):=by
 by_cases e:a=b
 ·subst e;simp
 ·have h:¬(Sum.inr a:Key)=Sum.inr b:=fun q=>e (Sum.inr.inj q)
  rw[decide_eq_false h,decide_eq_false e]
theorem zoW (a:Int)(b:Str):decide ((Sum.inl a:Key)=Sum.inr b)=false:=decide_eq_false (fun q=>nomatch q)
theorem zoX (a:Str)(b:Int):decide ((Sum.inr a:Key)=Sum.inl b)=false:=decide_eq_false (fun q=>nomatch q)
def wY (prog:Program)(w:World):PySem.KeyKind prog w Key where
 is:=zdR
 hash:=zsI w
 inj:=fun v a b ha hb=>by
  rcases vR ha with ⟨i,t,rfl,rfl⟩ | ⟨x,t,rfl,rfl⟩
  ·rcases vR hb with ⟨j,u,rfl,e⟩ | ⟨y,u,rfl,e⟩
   ·injection e with e1 _;rw[e1]
   ·exact nomatch e
  ·rcases vR hb with ⟨j,u,rfl,e⟩ | ⟨y,u,rfl,e⟩
   ·exact nomatch e
   ·injection e with e1 _;rw[e1]
 byValue:=fun k v h=>by
  rcases vR h with ⟨i,t,rfl,rfl⟩ | ⟨x,t,rfl,rfl⟩<;>rfl
 pyHash:=fun hv h=>by
  rcases vR hv with ⟨i,t,rfl,rfl⟩ | ⟨x,t,rfl,rfl⟩
  ·exact wpAny_pyHash_int h
  ·exact wpAny_pyHash_str h
 eqBool:=fun hu hv h=>by
  rcases vR hu with ⟨i,t,rfl,rfl⟩ | ⟨x,t,rfl,rfl⟩
  ·rcases vR hv with ⟨j,u,rfl,rfl⟩ | ⟨y,u,rfl,rfl⟩
   ·rw[zoU] at h;exact wpAny_eqBool_int h
   ·rw[zoW] at h;exact SeqAt.EqAt.int_str i t y u _ _ _ _ h
  ·rcases vR hv with ⟨j,u,rfl,rfl⟩ | ⟨y,u,rfl,rfl⟩
   ·rw[zoX] at h;exact SeqAt.EqAt.str_int x t j u _ _ _ _ h
   ·rw[zoV] at h;exact wpAny_eqBool_str h
 «strs»:=fun k x t v h=>by
  rcases vR h with ⟨i,u,rfl,e⟩ | ⟨y,u,rfl,e⟩
  ·exact nomatch e
  ·injection e with e1 _
   subst e1
   cases v<;>rfl
theorem zf2 (prog:Program)(w:World)(i:Int)(t:Tok):(wY prog w).is (.inl i) (.int i t)=true:=zjZ i t
theorem zf3 (prog:Program)(w:World)(x:Str)(t:Tok):(wY prog w).is (.inr x) (.str x t)=true:=zj0 x t
inductive V where
 | non | bl (b:Bool) | int (i:Int) | str (x:Str) | byt (b:Array UInt8) | flt (b:UInt64) | ref (a:Addr) | ty (n:String)
 deriving DecidableEq
def RelV:V->Value->Prop
 | .non,u=>u=Value.none
 | .bl b,u=>u=Value.bool b
 | .int i,u=>∃t,u=Value.int i t
 | .str x,u=>∃t,u=Value.str x t
 | .byt b,u=>∃t,u=Value.bytes b t
 | .flt b,u=>∃t,u=Value.float b t
 | .ref a,u=>u=Value.ref a
 | .ty n,u=>u=Value.type n
abbrev Vals:List V->List Value->Prop:=Paired RelV
theorem Vals.length {xs:List V}{us:List Value}(r:Vals xs us):xs.length=us.length:=Paired.length r
theorem Vals.get:∀{xs:List V} {us:List Value} {i:Nat} {x:V},Vals xs us->xs[i]?=some x->∃u,us[i]?=some u/\RelV x u
 | _,_,_,_,.nil,e=>by simp at e
 | _,_,0,_,.cons r _,e=>by simp at e;subst e;exact⟨_,rfl,r⟩
 | _,_,i+1,x,.cons _ t,e=>by
  obtain⟨u,h1,h2⟩:=Vals.get (i:=i) (x:=x) t (by simpa using e)
  exact⟨u,by simpa using h1,h2⟩
theorem Vals.set {x:V}{u:Value}(r:RelV x u):∀{xs:List V} {us:List Value} (i:Nat),Vals xs us->Vals (xs.set i x) (us.set i u)
 | _,_,_,.nil=>.nil
 | _,_,0,.cons _ t=>.cons r t
 | _,_,i+1,.cons q t=>.cons q (Vals.set r i t)
theorem Vals.append:∀{xs ys:List V} {us ws:List Value},Vals xs us->Vals ys ws->Vals (xs++ys) (us++ws)
 | _,_,_,_,.nil,s=>s
 | _,_,_,_,.cons r t,s=>.cons r (Vals.append t s)
theorem Vals.take:∀{xs:List V} {us:List Value} (n:Nat),Vals xs us->Vals (xs.take n) (us.take n)
 | _,_,0,_=>.nil
 | _,_,_+1,.nil=>.nil
 | _,_,n+1,.cons r t=>.cons r (Vals.take n t)
theorem Vals.drop:∀{xs:List V} {us:List Value} (n:Nat),Vals xs us->Vals (xs.drop n) (us.drop n)
 | _,_,0,r=>r
 | _,_,_+1,.nil=>.nil
 | _,_,n+1,.cons _ t=>Vals.drop n t
def Mg:Option V->Option Value->Prop
 | some v,some u=>RelV v u
 | none,none=>True
 | _,_=>False
def KV {κ:Type}:List (κ×V)->List (κ×Value)->Prop:=Paired fun(p:κ×V) (q:κ×Value)=>p.1=q.1/\RelV p.2 q.2
def kV:Key->V
 | .inl i=>.int i
 | .inr x=>.str x
inductive HO where
 | lst (xs:List V)
 | tup (xs:List V)
 | dK (kvs:List (Key×V)) | dT (kvs:List (List Key×V))
 | set (S:Int->Bool) (n:Nat)
 | ins (C dx:Addr) (fs:List (Str×V))
 | own (x:Addr)
 | xd (fs:List (Str×V))
 | met (f x:Addr)
 | rng (lo hi:Int)
 | frz (o:Obj) (u:HO)
 | tbl (ps:Array Value)
 | ext (φ:Heap->Prop)
abbrev Hp:=Addr->Option HO
def upd (H:Hp)(a:Addr)(o:HO):Hp:=fun b=>if b=a then some o else H b
theorem zj {H:Hp}{a:Addr}{o:HO}:upd H a o a=some o:=by unfold upd;rw[if_pos rfl]
theorem zG {H:Hp}{a b:Addr}{o:HO}(h:b≠a):upd H a o b=H b:=by unfold upd;rw[if_neg h]
theorem ziV {H:Hp}{a:Addr}{o u:HO}:upd (upd H a o) a u=upd H a u:=by
 funext b;unfold upd;split<;>rfl
theorem Qq {H:Hp}{a b:Addr}{o u:HO}(h:H a=some o)(h':H b=some u)(d:o≠u):a≠b:=by
 intro e;subst e;rw[h] at h';exact d (zyz h')
theorem zH {H:Hp}{a b:Addr}{o:HO}(h:H a=some o)(h':H b=none):a≠b:=by
 intro e;subst e;rw[h] at h';cases h'
section
variable (P:Program)(w:World)
def wU (H:Hp)(h:Heap)(a:Addr):HO->Prop
 | .lst xs=>xs.length<=sizeLine/\∃(its:List Value) (n:Nat),Vals xs its/\h.get? a=some { cls:=.type "list", data:=.seq its.toArray n }
 | .tup xs=>xs.length<=sizeLine/\∃its:List Value,Vals xs its/\IsTup h a its.toArray
 | .dK kvs=>kvs.length<=sizeLine/\(a==sysModules)=false/\∃vs,KV kvs vs/\h.DictOf (wY P w) a vs
 | .dT kvs=>kvs.length<=sizeLine/\(a==sysModules)=false/\∃xs:List (List Key×Addr×Value),
   Paired (fun(p:List Key×V) (q:List Key×Addr×Value)=>p.1=q.1/\H q.2.1=some (.tup (p.1.map kV))/\RelV p.2 q.2.2) kvs xs /\
   ∃o es ep,h.get? a=some o/\o.ExactDict/\o.data=.dict es ep/\es.toList=xs.map (entryOfKey (tupleKind (wY P w)))/\(xs.map (·.1)).Nodup
 | .set S n=>h.SetOf (intKind P w) a S n
 | .ins C dx fs=>H dx=some (.own a)/\fs.length<=1000/\dx≠a/\h.get? a=some (PySem.W.instObj C dx) /\
   ∃mA,h.Ns1 dx mA/\(∀f,Mg (fs.lookup f) (mA f))/\PySem.Within mA (fs.map (·.1))
 | .own _=>∃o,h.get? a=some o
 | .xd fs=>∃mA,h.Ns1 a mA/\∀f,Mg (fs.lookup f) (mA f)
 | .rng lo hi=>∃t u v,h.get? a=some { cls:=.type "range", data:=.fields #[.int lo t,.int hi u,.int 1 v] }
 | .frz o u=>h.get? a=some o/\wU H h a u
 | .tbl ps=>h.get? a=some { cls:=.none,data:=.fields ps }
 | .met f x=>h.get? a=some (PySem.W.methodObj (.ref f) (.ref x))
 | .ext φ=>φ h/\(∃o,h.get? a=some o)/\∀h1 h2:Heap,φ h1->(∀o,h1.get? a=some o->h2.get? a=some o)->φ h2
def Qd (H:Hp)(h:Heap):Prop:=∀a o,H a=some o->wU P w H h a o
end
section
variable {P:Program}{w:World}{H H':Hp}{h h':Heap}{a:Addr}{o:HO}
theorem wU.lt (x:wU P w H h a o):a<h.objs.size:=by
 cases o with
 | lst xs=>obtain⟨_,_,_,_,e⟩:=x;exact zyb e
 | tup xs=>obtain⟨_,_,_,p⟩:=x;exact p.lt
 | dK kvs=>obtain⟨_,_,_,_,o,_,_,e,_⟩:=x;exact zyb e
 | dT kvs=>obtain⟨_,_,_,_,o,_,_,e,_⟩:=x;exact zyb e
 | set S n=>obtain⟨o,_,_,_,e,_⟩:=x;exact zyb e
 | ins C dx fs=>obtain⟨_,_,_,e,_⟩:=x;exact zyb e
 | own y=>obtain⟨_,e⟩:=x;exact zyb e
 | xd fs=>obtain⟨_,⟨_,_,_,e,_⟩,_⟩:=x;exact zyb e
 | rng lo hi=>obtain⟨_,_,_,e⟩:=x;exact zyb e
 | frz ob u=>obtain⟨e,_⟩:=x;exact zyb e
 | tbl ps=>exact zyb (show h.get? a=some _ from x)
 | met f y=>exact zyb (show h.get? a=some _ from x)
 | ext φ=>obtain⟨_,⟨_,e⟩,_⟩:=x;exact zyb e
theorem Paired.zoY {α β:Type}{F G:α->β->Prop}:∀{l₁:List α} {l₂:List β},Paired F l₁ l₂->(∀a b,F a b->G a b)->Paired G l₁ l₂
 | _,_,.nil,_=>.nil
 | _,_,.cons r t,f=>.cons (f _ _ r) (Paired.zoY t f)
theorem wU.stay (x:wU P w H h a o)(k:∀b u,(b=a\/H b=some (.own a))->h.get? b=some u->h'.get? b=some u)
  (ho:∀b,H b=some (.own a)->H' b=some (.own a))(ht:∀b xs,H b=some (.tup xs)->H' b=some (.tup xs)):wU P w H' h' a o:=by
 induction o with
 | lst xs=>obtain⟨z,its,n,r,e⟩:=x;exact⟨z,its,n,r,k _ _ (.inl rfl) e⟩
 | tup xs=>obtain⟨z,its,r,ob,e,c⟩:=x;exact⟨z,its,r,ob,k _ _ (.inl rfl) e,c⟩
 | dK kvs=>obtain⟨z,y,vs,r,ob,es,ep,e,c⟩:=x;exact⟨z,y,vs,r,ob,es,ep,k _ _ (.inl rfl) e,c⟩
 | dT kvs =>
  obtain⟨z,y,xs,r,ob,es,ep,e,c⟩:=x
  exact⟨z,y,xs,Paired.zoY r fun p q z=>⟨z.1,ht _ _ z.2.1,z.2.2⟩,ob,es,ep,k _ _ (.inl rfl) e,c⟩
 | set S n=>obtain⟨ob,es,ep,t,e,c⟩:=x;exact⟨ob,es,ep,t,k _ _ (.inl rfl) e,c⟩
 | ins C dx fs =>
  obtain⟨d,z,ne,e,mA,⟨od,es,ep,e2,c⟩,r⟩:=x
  exact⟨ho _ d,z,ne,k _ _ (.inl rfl) e,mA,⟨od,es,ep,k _ _ (.inr d) e2,c⟩,r⟩
 | own y=>obtain⟨ob,e⟩:=x;exact⟨ob,k _ _ (.inl rfl) e⟩
 | xd fs=>obtain⟨mA,⟨od,es,ep,e,c⟩,r⟩:=x;exact⟨mA,⟨od,es,ep,k _ _ (.inl rfl) e,c⟩,r⟩
 | rng lo hi=>obtain⟨t,u,v,e⟩:=x;exact⟨t,u,v,k _ _ (.inl rfl) e⟩
 | frz ob u ih=>obtain⟨e,q⟩:=x;exact⟨k _ _ (.inl rfl) e,ih q⟩
 | tbl ps =>
  have e:h.get? a=some { cls:=.none,data:=.fields ps }:=x
  show h'.get? a=some { cls:=.none,data:=.fields ps }
  exact k a _ (.inl rfl) e
 | met f y =>
  have e:h.get? a=some (PySem.W.methodObj (.ref f) (.ref y)):=x
  show h'.get? a=some (PySem.W.methodObj (.ref f) (.ref y))
  exact k a _ (.inl rfl) e
 | ext φ=>obtain⟨p,⟨o,e⟩,st⟩:=x;exact⟨st _ _ p fun o q=>k _ _ (.inl rfl) q,⟨o,k _ _ (.inl rfl) e⟩,st⟩
theorem Qd.lt (x:Qd P w H h)(e:H a=some o):a<h.objs.size:=(x a o e).lt
theorem Qd.fresh (x:Qd P w H h)(e:h.objs.size<=a):H a=none:=by
 cases q:H a with
 | none=>rfl
 | some u=>exact absurd (zyd (x.lt q) e) (Nat.lt_irrefl _)
theorem Qd.kept (x:Qd P w H h)(k:∀b u,h.get? b=some u->h'.get? b=some u):Qd P w H h':=fun a o e =>
 (x a o e).stay (fun b u _ q=>k b u q) (fun _ q=>q) fun _ _ q=>q
theorem Qd.laid (x:Qd P w H h)(k:∀b u,h.get? b=some u->h'.get? b=some u)(hp:h.objs.size<=a)(new:wU P w (upd H a o) h' a o):Qd P w (upd H a o) h':=fun b u e=>by
 have hn:=x.fresh hp
 by_cases hb:b=a
 ·subst hb;rw[zj] at e;cases e;exact new
 ·rw[zG hb] at e
  exact(x b u e).stay (fun c v _ q=>k c v q) (fun c q=>by rw[zG (zH q hn)];exact q) fun c xs q=>by rw[zG (zH q hn)];exact q
end
def Rd (H:Hp)(a:Addr)(u:HO):Prop:=H a=some u\/∃o,H a=some (.frz o u)
theorem Rd.ok {P:Program}{w:World}{H:Hp}{h:Heap}{a:Addr}{u:HO}(r:Rd H a u)(x:Qd P w H h):wU P w H h a u:=by
 rcases r with r | ⟨o,r⟩
 ·exact x a u r
 ·obtain⟨_,q⟩:=x a _ r
  exact q
def Mut:Option HO->Prop
 | some (.lst _)=>True
 | some (.dK _)=>True
 | some (.dT _)=>True
 | some (.set _ _)=>True
 | some (.ins _ _ _)=>True
 | some (.ext _)=>True
 | _=>False
section
variable {P:Program}{w:World}{H:Hp}{h h':Heap}{x e:Addr}{o':HO}
theorem Qd.write (ok:Qd P w H h)(mu:Mut (H x))(he:e=x\/H e=some (.own x))(k:∀b u,b≠e->h.get? b=some u->h'.get? b=some u)(heo:∃u,h'.get? e=some u)
  (new:wU P w (upd H x o') h' x o'):Qd P w (upd H x o') h':=fun b u q=>by
 have zqC:∀c y,H c=some (.own y)->c≠x:=fun c y r z=>by subst z;rw[r] at mu;exact mu
 have zsJ:∀c xs,H c=some (.tup xs)->c≠x:=fun c xs r z=>by subst z;rw[r] at mu;exact mu
 by_cases hb:b=x
 ·subst hb;rw[zj] at q;cases q;exact new
 ·rw[zG hb] at q
  by_cases hbe:b=e
  ·have q':H b=some (.own x):=by
    rcases he with z | z
    ·exact absurd (hbe.trans z) hb
    ·rw[hbe];exact z
   rw[q] at q';cases q'
   obtain⟨v,hv⟩:=heo
   exact⟨v,by rw[hbe];exact hv⟩
  ·refine(ok b u q).stay (fun c v hc r=>k c v ?_ r) (fun c r=>by rw[zG (zqC c b r)];exact r) fun c xs r=>by rw[zG (zsJ c xs r)];exact r
   rcases hc with rfl | hc
   ·exact hbe
   ·rintro rfl
    rcases he with z | z
    ·exact zqC c b hc z
    ·rw[hc] at z;cases z;exact hb rfl
end
structure Un (fs ex:List Addr)(H H':Hp)(h h':Heap):Prop where
 keep:∀b o,h.get? b=some o->H b=none->b∉fs->b∉ex->h'.get? b=some o
 slot:∀b o,h.get? b=some o->H b=none->b∈fs->b∉ex->∃sl,h'.get? b=some { o with slots:=sl }
 free:∀b o,h.get? b=some o->H b=none->b∉ex->H' b=none
 there:∀b o,h.get? b=some o->b∉ex->∃o',h'.get? b=some o'
 tups:∀b xs,H b=some (.tup xs)->H' b=some (.tup xs)
 Ku:∀b o u,H b=some (.frz o u)->H' b=some (.frz o u)
 J0:∀b ps,H b=some (.tbl ps)->∃more,H' b=some (.tbl (ps++more))
section
variable {fs fs' ex ex':List Addr}{H H1 H2:Hp}{h h1 h2 h':Heap}{a x e:Addr}{o:HO}
theorem Un.any (u:Un fs ex H H1 h h1){b:Addr}{ob:Obj}(q:h.get? b=some ob)(n:H b=none)(hx:b∉ex):∃sl,h1.get? b=some { ob with slots:=sl }:=by
 by_cases hb:b∈fs
 ·exact u.slot b ob q n hb hx
 ·exact⟨ob.slots,u.keep b ob q n hb hx⟩
theorem Un.kept (k:∀b u,h.get? b=some u->h'.get? b=some u):Un fs ex H H h h' :=
 ⟨fun b ob q _ _ _=>k b ob q,fun b ob q _ _ _=>⟨ob.slots,k b ob q⟩,fun _ _ _ n _=>n,fun b ob q _=>⟨ob,k b ob q⟩,fun _ _ q=>q,fun _ _ _ q=>q,fun _ ps q=>⟨#[],by rw[q];simp⟩⟩
theorem Un.refl:Un fs ex H H h h:=Un.kept fun _ _ q=>q
theorem Un.laid (k:∀b u,h.get? b=some u->h'.get? b=some u)(hp:h.objs.size<=a)(hn:H a=none):Un fs ex H (upd H a o) h h' where
 keep:=fun b u q _ _ _=>k b u q
 slot:=fun b u q _ _ _=>⟨u.slots,k b u q⟩
 free:=fun b u q n _=>by rw[zG (zyj (zyd (zyb q) hp))];exact n
 there:=fun b u q _=>⟨u,k b u q⟩
 tups:=fun b xs q=>by rw[zG (zH q hn)];exact q
 Ku:=fun b u xs q=>by rw[zG (zH q hn)];exact q
 J0:=fun b ps q=>⟨#[],by rw[zG (zH q hn),q];simp⟩
theorem Un.write (mu:Mut (H x))(he:e=x\/H e=some (.own x))(k:∀b u,b≠e->h.get? b=some u->h'.get? b=some u)(heo:∃u,h'.get? e=some u):Un fs ex H (upd H x o) h h':=by
 have hx:∀b,H b=none->b≠x:=fun b n z=>by subst z;rw[n] at mu;exact mu
 have hb:∀b,H b=none->b≠e:=fun b n z=>by
  subst z
  rcases he with r | r
  ·exact hx b n r
  ·rw[n] at r;cases r
 have hm:∀b u,H b=some u->¬Mut (some u)->b≠x:=fun b u q nm z=>by subst z;rw[q] at mu;exact nm mu
 refine⟨fun b u q n _ _=>k b u (hb b n) q,fun b u q n _ _=>⟨u.slots,k b u (hb b n) q⟩,fun b u q n _=>by rw[zG (hx b n)];exact n,fun b u q _=>?_,
  fun b xs q=>by rw[zG (hm b _ q fun z=>z)];exact q,fun b u xs q=>by rw[zG (hm b _ q fun z=>z)];exact q,fun b ps q=>⟨#[],by rw[zG (hm b _ q fun z=>z),q];simp⟩⟩
 by_cases hbe:b=e
 ·subst hbe;exact heo
 ·exact⟨u,k b u hbe q⟩
end
def trk (h:Heap)(H:Hp):List Addr:=(List.range h.objs.size).filter fun a=>(H a).isSome
def zeJ (h:Heap)(H:Hp):Heap:=PySem.W.hideAll h (trk h H)
theorem zj1 (h:Heap)(H:Hp):(zeJ h H).objs.size=h.objs.size:=PySem.W.hideAll_size _ _
theorem zk4 {h:Heap}{H:Hp}{b:Addr}{o:Obj}(e:h.get? b=some o)(n:H b=none):(zeJ h H).get? b=some o :=
 PySem.W.hideAll_get _ e fun hm=>by
  have q:(H b).isSome=true:=(List.mem_filter.mp hm).2
  rw[n] at q;simp at q
theorem zm3 {h:Heap}{H:Hp}{b:Addr}{o:Obj}(e:(zeJ h H).get? b=some o):h.get? b=some o/\H b=none:=by
 have e':h.get? b=some o:=PySem.W.of_hideAll (trk h H) e
 refine⟨e',?_⟩
 cases q:H b with
 | none=>rfl
 | some x =>
  have hm:b∈trk h H:=List.mem_filter.mpr ⟨List.mem_range.mpr (zyb e'),by simp[q]⟩
  have z:(zeJ h H).get? b=none:=PySem.W.hideAll_none (trk h H) hm
  rw[z] at e;cases e
structure Mod (K:Frag)(mg:Str->Option Value)(base:Heap):Prop where
 kin:K.In base
 glob:base.Ns mainGlobals mg
 blt:∃mb,base.Ns builtinsNs mb/\∀x:Str,x ≠ "__name__" -> mb x=bootBuiltins x
 nolimit:base.NoLimit
structure Cx where
 prog:Program
 w:World
 K:Frag
 mg:Str->Option Value
 base:Heap
 A:Around
 N:List Str
 s₀:Shared
 H₀:Hp
 env:Env
 outer:List Env
 stack:List Env
 ex:List Addr
 fn:Str->Bool
 calm:Bool
 pn:List (Addr×Obj)
 xe:Value->Shared->Prop
def frs (l:List Env):List Addr:=l.filterMap (·.frame)
abbrev Cx.fs (X:Cx):List Addr:=frs X.outer
def Vis (sc:Scope)(x:Str):Prop:=sc.names.lookup x=some .local\/sc.names.lookup x=some .cell\/sc.names.lookup x=some .free
def Loc (sc:Scope)(x:Str):Prop:=sc.names.lookup x=some .local\/sc.names.lookup x=some .cell
def Look (env:Env)(h:Heap)(m:Str->Option Value)(x:Str)(u:Value):Prop :=
 (env.kindOf x=some .local/\m x=some u)\/((env.kindOf x=some .cell\/env.kindOf x=some .free)/\∃c,env.cells.lookup x=some c/\h.IsCell c (some u))
structure Cx.Ok (X:Cx):Prop where
 mod:Mod X.K X.mg X.base
 kind:X.env.scope.kind=.function
 glob:X.env.globals=mainGlobals
 blt:X.env.builtins=builtinsNs
 above:X.s₀.heap.objs.size<=X.env.locals
 inj:∀x y c,X.env.cells.lookup x=some c->X.env.cells.lookup y=some c->x=y
 has:∀x,(X.env.kindOf x=some .cell\/X.env.kindOf x=some .free)->∃c,X.env.cells.lookup x=some c
 cab:∀x c,X.fn x=true->X.env.cells.lookup x=some c->X.s₀.heap.objs.size<=c
 hd:X.calm=true->X.A.handled=none
 frames:X.A.frames=some X.stack
 stk:X.stack=X.outer\/(X.stack=X.env::X.outer/\X.env.frame=some X.env.locals)
 exf:∀b∈X.ex,b≠X.env.locals/\∀x c,X.env.cells.lookup x=some c->c≠b
 bs:∀b o,X.base.get? b=some o->X.s₀.heap.get? b=some o/\X.H₀ b=none
 bsz:X.base.objs.size<=X.s₀.heap.objs.size
 zf4:∀b o,X.base.get? b=some o->b∉X.ex
 zf5:∀b∈X.ex,b∉X.fs
 Mh:X.s₀.heap.FunFrames X.base X.outer
 frf:∀b∈X.fs,X.H₀ b=none
structure Inv (X:Cx)(pins:List (Addr×Obj))(σ:List (Option V))(H:Hp)(s:Shared):Prop where
 ok:X.Ok
 os:s.os=X.s₀.os
 bare:AllBare s.gens
 base:Un X.fs X.ex X.H₀ H X.s₀.heap s.heap
 loc:∃m,s.heap.Ns X.env.locals m/\∀(i:Nat) (x:Str) (v:V),X.N[i]?=some x->σ[i]?=some (some v)->Vis X.env.scope x->∃u,RelV v u/\Look X.env s.heap m x u
 cell:∀x c,X.env.cells.lookup x=some c->∃v,s.heap.IsCell c v
 free:H X.env.locals=none
 Wc:∀x c,X.env.cells.lookup x=some c->H c=none
 pin:∀p∈X.pn++pins,s.heap.get? p.1=some p.2/\H p.1=none/\p.1≠X.env.locals/\p.1∉X.fs/\∀v,p.2.data≠.cell v
 hok:Qd X.prog X.w H s.heap
 len:σ.length=X.N.length
section
variable {X:Cx}{pins:List (Addr×Obj)}{σ:List (Option V)}{H H':Hp}{s:Shared}{h':Heap}
theorem Cx.Ok.zsK (ok:X.Ok){b:Addr}{o:Obj}(e:X.base.get? b=some o):b∉X.fs:=fun hb=>by
 have:=(ok.Mh.mem hb).1
 rw[e] at this;cases this
theorem Inv.bs (I:Inv X pins σ H s):∀b o,X.base.get? b=some o->s.heap.get? b=some o/\H b=none:=fun b o e =>
 ⟨I.base.keep b o (I.ok.bs b o e).1 (I.ok.bs b o e).2 (I.ok.zsK e) (I.ok.zf4 b o e),I.base.free b o (I.ok.bs b o e).1 (I.ok.bs b o e).2 (I.ok.zf4 b o e)⟩
theorem Inv.bk (I:Inv X pins σ H s):∀b o,X.base.get? b=some o->s.heap.get? b=some o:=fun b o e=>(I.bs b o e).1
theorem Inv.mod (I:Inv X pins σ H s):Mod X.K X.mg X.base:=I.ok.mod
theorem Inv.Mi (I:Inv X pins σ H s):X.K.In s.heap:=I.ok.mod.kin.keeps I.bk
theorem Inv.lt (I:Inv X pins σ H s):X.env.locals<s.heap.objs.size:=let ⟨_,hn,_⟩:=I.loc;hn.lt
theorem Inv.sz (I:Inv X pins σ H s):X.s₀.heap.objs.size<=s.heap.objs.size:=zyq I.ok.above (zyn I.lt)
theorem Inv.zo0 (I:Inv X pins σ H s){a:Addr}(h:s.heap.objs.size<=a):a∉X.fs:=fun hb=>by
 obtain⟨_,o,ho,_⟩:=I.ok.Mh.mem hb
 exact absurd (zyd (zyb ho) (zyq I.sz h)) (Nat.lt_irrefl _)
theorem Inv.cne (I:Inv X pins σ H s):∀x c,X.env.cells.lookup x=some c->c≠X.env.locals:=fun x c e z=>by
 obtain⟨v,o,ho,hd⟩:=I.cell x c e
 obtain⟨m,⟨o',es,ep,ho',hd',_⟩,_⟩:=I.loc
 rw[z,ho'] at ho;cases ho;rw[hd'] at hd;cases hd
theorem Inv.Mh (I:Inv X pins σ H s):s.heap.FunFrames X.base X.outer:=by
 have all:∀(l:List Env),(∀b∈frs l,b∈X.fs)->X.s₀.heap.FunFrames X.base l->s.heap.FunFrames X.base l:=by
  intro l
  induction l with
  | nil=>intro _ _;trivial
  | cons env r ih =>
   intro hs hl
   obtain⟨hk,⟨L,o,hf,hn,ho,hd⟩,hr⟩:=hl
   have hL:L∈X.fs:=hs L (by unfold frs;rw[List.filterMap_cons,hf];exact zyo)
   obtain⟨sl,e⟩:=I.base.slot L o ho (I.ok.frf L hL) hL fun z=>I.ok.zf5 L z hL
   exact⟨hk,⟨L,_,hf,hn,e,hd⟩,ih (fun b hb=>hs b (by unfold frs;rw[List.filterMap_cons,hf];exact zyf _ hb)) hr⟩
 exact all X.outer (fun _ hb=>hb) I.ok.Mh
theorem Inv.stack (I:Inv X pins σ H s):s.heap.FunFrames X.base X.stack:=by
 rcases I.ok.stk with e | ⟨e,hf⟩
 ·rw[e];exact I.Mh
 ·rw[e]
  obtain⟨m,hn,_⟩:=I.loc
  refine .cons (by rw[I.ok.kind];decide) hf hn ?_ I.Mh
  exact Heap.get?_none_of_le (zyq I.ok.bsz I.ok.above)
theorem Inv.zbM (I:Inv X pins σ H s):∀b∈frs X.stack,b∈X.env.locals::X.fs:=fun b hb=>by
 rcases I.ok.stk with e | ⟨e,hf⟩
 ·rw[e] at hb;exact zyf _ hb
 ·rw[e] at hb
  unfold frs at hb
  rw[List.filterMap_cons,hf] at hb
  exact hb
theorem Inv.zbp (I:Inv X pins σ H s):∀b∈frs X.stack,H b=none:=fun b hb=>by
 rcases List.mem_cons.mp (I.zbM b hb) with e | hb
 ·rw[e];exact I.free
 ·obtain⟨_,o,ho,_⟩:=I.ok.Mh.mem hb
  exact I.base.free b o ho (I.ok.frf b hb) fun z=>I.ok.zf5 b z hb
theorem Inv.step {g':Array GenState}{t':Nat}{d':Drawn}{ch:List Addr}(I:Inv X pins σ H s)
  (hch:∀b∈ch,(b∈X.ex\/X.s₀.heap.objs.size<=b)/\b≠X.env.locals/\(∀x c,X.env.cells.lookup x=some c->c≠b)/\∀p∈X.pn++pins,p.1≠b)
  (keep:∀b o,b≠X.env.locals->b∉X.fs->b∉ch->s.heap.get? b=some o->H b=none->h'.get? b=some o)
  (slot:∀b o,b≠X.env.locals->b∈X.fs->b∉ch->s.heap.get? b=some o->H b=none->∃sl,h'.get? b=some { o with slots:=sl })(free:∀b o,b∉ch->s.heap.get? b=some o->H b=none->H' b=none)
  (there:∀b o,b∉ch->s.heap.get? b=some o->∃o',h'.get? b=some o')
  (tups:∀b xs,H b=some (.tup xs)->H' b=some (.tup xs))(Ku:∀b o u,H b=some (.frz o u)->H' b=some (.frz o u))(J0:∀b ps,H b=some (.tbl ps)->∃more,H' b=some (.tbl (ps++more)))
  (ns:∀m,s.heap.Ns X.env.locals m->h'.Ns X.env.locals m)(hok:Qd X.prog X.w H' h')(hg:AllBare g') :
  Inv X pins σ H' { s with heap:=h',gens:=g',drawn:=d',toks:=t' }:=by
 have neL:∀b o,X.s₀.heap.get? b=some o->b≠X.env.locals:=fun b o e=>zyj (zyd (zyb e) I.ok.above)
 have neC:∀b o,X.s₀.heap.get? b=some o->b∉X.ex->b∉ch:=fun b o e hx hb=>by
  rcases (hch b hb).1 with z | z
  ·exact hx z
  ·exact absurd (zyd (zyb e) z) (Nat.lt_irrefl _)
 have cellK:∀x c,X.env.cells.lookup x=some c->∀v,s.heap.IsCell c v->h'.IsCell c v:=fun x c e v ⟨o,ho,hd⟩=>by
  have nch:c∉ch:=fun z=>(hch c z).2.2.1 x c e rfl
  by_cases hc:c∈X.fs
  ·obtain⟨sl,q⟩:=slot c o (I.cne x c e) hc nch ho (I.Wc x c e)
   exact⟨_,q,hd⟩
  ·exact⟨o,keep c o (I.cne x c e) hc nch ho (I.Wc x c e),hd⟩
 refine⟨I.ok,I.os,hg,⟨fun b o e n hb hx=>?_,fun b o e n hb hx=>?_,fun b o e n hx=>?_,fun b o e hx=>?_,fun b xs e=>tups b xs (I.base.tups b xs e),fun b o xs e=>Ku b o xs (I.base.Ku b o xs e),fun b ps e=>?_⟩,?_,fun x c e=>?_,?_,fun x c e=>?_,fun p hp=>?_,hok,I.len⟩
 ·exact keep b o (neL b o e) hb (neC b o e hx) (I.base.keep b o e n hb hx) (I.base.free b o e n hx)
 ·obtain⟨sl,e1⟩:=I.base.slot b o e n hb hx
  obtain⟨sl',e2⟩:=slot b _ (neL b o e) hb (neC b o e hx) e1 (I.base.free b o e n hx)
  exact⟨sl',e2⟩
 ·obtain⟨o',e1⟩:=I.base.there b o e hx
  exact free b o' (neC b o e hx) e1 (I.base.free b o e n hx)
 ·obtain⟨o',e1⟩:=I.base.there b o e hx
  exact there b o' (neC b o e hx) e1
 ·obtain⟨m1,e1⟩:=I.base.J0 b ps e
  obtain⟨m2,e2⟩:=J0 b _ e1
  exact⟨m1++m2,by rw[e2,Array.append_assoc]⟩
 ·obtain⟨m,hn,hl⟩:=I.loc
  refine⟨m,ns m hn,fun i x v e1 e2 e3=>?_⟩
  obtain⟨u,r,l⟩:=hl i x v e1 e2 e3
  refine⟨u,r,?_⟩
  rcases l with l | ⟨k,c,e,z⟩
  ·exact .inl l
  ·exact .inr ⟨k,c,e,cellK x c e _ z⟩
 ·obtain⟨v,z⟩:=I.cell x c e
  exact⟨v,cellK x c e v z⟩
 ·obtain⟨m,⟨o,_,_,ho,_⟩,_⟩:=I.loc
  exact free _ o (fun z=>(hch _ z).2.1 rfl) ho I.free
 ·obtain⟨v,o,ho,hd⟩:=I.cell x c e
  exact free c o (fun z=>(hch c z).2.2.1 x c e rfl) ho (I.Wc x c e)
 ·obtain⟨e,n,ne,nf,d⟩:=I.pin p hp
  have nch:p.1∉ch:=fun z=>(hch p.1 z).2.2.2 p hp rfl
  exact⟨keep p.1 p.2 ne nf nch e n,free p.1 p.2 nch e n,ne,nf,d⟩
theorem Inv.un {t':Nat}(I:Inv X pins σ H s)(u:Un X.fs [] H H' s.heap h')(hok:Qd X.prog X.w H' h'):Inv X pins σ H' { s with heap:=h',toks:=t' }:=by
 obtain⟨m,⟨o,es,ep,ho,r⟩,_⟩:=id I.loc
 obtain⟨sl,hL⟩:=u.any ho I.free (by simp)
 exact I.step (g':=s.gens) (d':=s.drawn) (ch:=[]) (fun _ z=>nomatch z) (fun b o _ hb _ e n=>u.keep b o e n hb (by simp)) (fun b o _ hb _ e n=>u.slot b o e n hb (by simp)) (fun b o _ e n=>u.free b o e n (by simp)) (fun b o _ e=>u.there b o e (by simp)) u.tups u.Ku u.J0 (fun m' hm=>by
  obtain⟨o',es',ep',ho',r'⟩:=hm
  rw[ho] at ho';cases ho'
  exact⟨_,es',ep',hL,r'⟩) hok I.bare
theorem Inv.call {g':Array GenState}{t':Nat}{d':Drawn}{ch:List Addr}(I:Inv X pins σ H s)(u:Un (frs X.stack) ch H H' s.heap h')(hok:Qd X.prog X.w H' h')(hg:AllBare g')
  (hch:∀b∈ch,(b∈X.ex\/X.s₀.heap.objs.size<=b)/\b≠X.env.locals/\(∀x c,X.env.cells.lookup x=some c->c≠b)/\∀p∈X.pn++pins,p.1≠b) :
  Inv X pins σ H' { s with heap:=h',gens:=g',drawn:=d',toks:=t' }:=by
 obtain⟨m,⟨o,es,ep,ho,r⟩,_⟩:=id I.loc
 obtain⟨sl,hL⟩:=u.any ho I.free fun z=>(hch _ z).2.1 rfl
 exact I.step (ch:=ch) hch (fun b o hL hb hc e n=>u.keep b o e n (fun z=>(List.mem_cons.mp (I.zbM b z)).elim hL hb) hc) (fun b o _ _ hc e n=>u.any e n hc) (fun b o hc e n=>u.free b o e n hc) (fun b o hc e=>u.there b o e hc) u.tups u.Ku u.J0 (fun m' hm=>by
  obtain⟨o',es',ep',ho',r'⟩:=hm
  rw[ho] at ho';cases ho'
  exact⟨_,es',ep',hL,r'⟩) hok hg
theorem Inv.turned {t':Nat}{it:Addr}(I:Inv X pins σ H s)(k:∀b o,b≠it->s.heap.get? b=some o->h'.get? b=some o)(hn:H it=none)(hL:it≠X.env.locals)
  (h1:it∈X.ex\/X.s₀.heap.objs.size<=it)(h2:∀x c,X.env.cells.lookup x=some c->c≠it)(h3:∀p∈X.pn++pins,p.1≠it):Inv X pins σ H { s with heap:=h',toks:=t' }:=by
 have nit:∀b u,H b=some u->b≠it:=fun b u e z=>by rw[z,hn] at e;cases e
 refine I.step (g':=s.gens) (d':=s.drawn) (ch:=[it]) (fun b hb=>?_) (fun b o _ _ hc e _=>k b o (fun z=>hc (by simp[z])) e) (fun b o _ _ hc e _=>⟨o.slots,k b o (fun z=>hc (by simp[z])) e⟩) (fun _ _ _ _ n=>n)
  (fun b o hc e=>⟨o,k b o (fun z=>hc (by simp[z])) e⟩) (fun _ _ e=>e) (fun _ _ _ e=>e) (fun b ps e=>⟨#[],by rw[e];simp⟩) (fun m hm=>?_) (fun b u e=>?_) I.bare
 ·have e:b=it:=by simpa using hb
  subst e
  exact⟨h1,hL,h2,h3⟩
 ·obtain⟨o,es,ep,ho,r⟩:=hm
  exact⟨o,es,ep,k _ o (Ne.symm hL) ho,r⟩
 ·refine(I.hok b u e).stay (fun c v hc q=>k c v ?_ q) (fun _ q=>q) fun _ _ q=>q
  rcases hc with z | z
  ·rw[z];exact nit b u e
  ·exact nit c _ z
theorem Inv.tok (I:Inv X pins σ H s)(t:Nat):Inv X pins σ H { s with toks:=t }:=I.un (h':=s.heap) (t':=t) Un.refl I.hok
theorem Inv.kept {t':Nat}(I:Inv X pins σ H s)(k:∀b u,s.heap.get? b=some u->h'.get? b=some u):Inv X pins σ H { s with heap:=h',toks:=t' }:=I.un (Un.kept k) (I.hok.kept k)
theorem Inv.laid {a:Addr}{o:HO}{t':Nat}(I:Inv X pins σ H s)(k:∀b u,s.heap.get? b=some u->h'.get? b=some u)(hp:s.heap.objs.size<=a)(new:wU X.prog X.w (upd H a o) h' a o) :
  Inv X pins σ (upd H a o) { s with heap:=h',toks:=t' }:=I.un (Un.laid k hp (I.hok.fresh hp)) (I.hok.laid k hp new)
theorem Inv.write {x e:Addr}{o:HO}{t':Nat}(I:Inv X pins σ H s)(mu:Mut (H x))(he:e=x\/H e=some (.own x))(k:∀b u,b≠e->s.heap.get? b=some u->h'.get? b=some u)(heo:∃u,h'.get? e=some u)
  (new:wU X.prog X.w (upd H x o) h' x o):Inv X pins σ (upd H x o) { s with heap:=h',toks:=t' }:=I.un (Un.write mu he k heo) (I.hok.write mu he k heo new)
theorem Inv.Rf {pins':List (Addr×Obj)}(I:Inv X pins σ H s)(h:∀p∈pins',s.heap.get? p.1=some p.2/\H p.1=none/\p.1≠X.env.locals/\p.1∉X.fs/\∀v,p.2.data≠.cell v):Inv X pins' σ H s :=
 ⟨I.ok,I.os,I.bare,I.base,I.loc,I.cell,I.free,I.Wc,fun p hp=>(List.mem_append.mp hp).elim (fun z=>I.pin p (List.mem_append_left _ z)) (h p),I.hok,I.len⟩
theorem zbN {N:List Str}(hN:N.Nodup){i j:Nat}{x:Str}(a:N[i]?=some x)(b:N[j]?=some x):i=j:=by
 obtain⟨h1,e1⟩:=zx7.mp a
 obtain⟨h2,e2⟩:=zx7.mp b
 exact(List.getElem_inj hN).mp (e1.trans e2.symm)
theorem zj3 {M:Model}{A:Around}{E:Value->Shared->Prop}{i:Nat}{x:Str}{v:V}{u:Value}{Q:Unit->Shared->Prop}(I:Inv X pins σ H s)(hN:X.N.Nodup)(hi:X.N[i]?=some x)(hx:Loc X.env.scope x)(r:RelV v u)
  (h:∀s',Inv X pins (σ.set i (some v)) H s'->(∃a,Heap.SameBut a s.heap s'.heap/\(a=X.env.locals\/X.env.cells.lookup x=some a))->Q () s')(hf:X.fn x=true\/X.env.scope.names.lookup x=some .local:=by first | exact .inl rfl | exact .inr rfl | assumption):wpAny M A (storeName X.env x u) Q E s:=by
 obtain⟨m,hn,hl⟩:=id I.loc
 have hcls:(X.env.scope.kind==.class||(X.env.scope.kind==.module&&X.env.locals != X.env.globals))=false:=by rw[I.ok.kind];rfl
 have hiσ:i < σ.length:=by rw[I.len];exact(zx7.mp hi).1
 have cne:=I.cne
 have tracked:∀{a:Addr} {h':Heap},(∃o,s.heap.get? a=some o/\H a=none)->Heap.SameBut a s.heap h'->Qd X.prog X.w H h':=fun {a h'} ha hs b ob e=>by
  obtain⟨_,_,hfree⟩:=ha
  refine(I.hok b ob e).stay (fun c w' hc q=>(hs.2 c ?_).trans q) (fun _ q=>q) fun _ _ q=>q
  rintro rfl
  rcases hc with rfl | hc
  ·rw[hfree] at e;cases e
  ·rw[hfree] at hc;cases hc
 rcases hx with hk | hk
 ·refine wpAny_storeName_local hk hn (fun h' hn' hs=>?_) hcls
  obtain⟨oL,_,_,hoL,_⟩:=id hn
  refine h _ ⟨I.ok,I.os,I.bare,⟨fun b o e n hb hx=>?_,fun b o e n hb hx=>?_,I.base.free,fun b o e hx=>?_,I.base.tups,I.base.Ku,I.base.J0⟩,⟨_,hn',fun j y v' e1 e2 e3=>?_⟩,fun y c e=>?_,I.free,I.Wc,fun p hp=>?_,tracked ⟨oL,hoL,I.free⟩ hs,by simpa using I.len⟩ ⟨_,hs,.inl rfl⟩
  ·exact(hs.2 b (zyj (zyd (zyb e) I.ok.above))).trans (I.base.keep b o e n hb hx)
  ·obtain⟨sl,e1⟩:=I.base.slot b o e n hb hx
   exact⟨sl,(hs.2 b (zyj (zyd (zyb e) I.ok.above))).trans e1⟩
  ·obtain⟨o',e1⟩:=I.base.there b o e hx
   exact⟨o',(hs.2 b (zyj (zyd (zyb e) I.ok.above))).trans e1⟩
  ·by_cases hj:j=i
   ·subst hj
    rw[hi] at e1;cases e1
    rw[List.getElem?_set_self hiσ] at e2
    cases e2
    exact⟨u,r,.inl ⟨hk,by simp⟩⟩
   ·rw[List.getElem?_set_ne (Ne.symm hj)] at e2
    obtain⟨u',r',q⟩:=hl j y v' e1 e2 e3
    refine⟨u',r',?_⟩
    rcases q with ⟨k,e⟩ | ⟨k,c,e,z⟩
    ·refine .inl ⟨k,?_⟩
     have:y≠x:=fun e=>hj (zbN hN e1 (e ▸ hi))
     simp[this,e]
    ·exact .inr ⟨k,c,e,z.sameBut hs (cne y c e)⟩
  ·obtain⟨w',z⟩:=I.cell y c e
   exact⟨w',z.sameBut hs (cne y c e)⟩
  ·obtain⟨e,n,ne,nf,d⟩:=I.pin p hp
   exact⟨(hs.2 p.1 ne).trans e,n,ne,nf,d⟩
 ·have hfn:X.fn x=true:=by
   rcases hf with z | z
   ·exact z
   ·rw[z] at hk;cases hk
  obtain⟨c,hc⟩:=I.ok.has x (.inl hk)
  obtain⟨w',z⟩:=I.cell x c hc
  refine wpAny_storeName_cell I.ok.kind hk hc z (fun h' hc' hs=>?_)
  obtain⟨oc,hoc,zsL⟩:=id z
  refine h { s with heap:=h' } ⟨I.ok,I.os,I.bare,⟨fun b o e n hb hx=>?_,fun b o e n hb hx=>?_,I.base.free,fun b o e hx=>?_,I.base.tups,I.base.Ku,I.base.J0⟩,⟨m,hn.sameBut hs (Ne.symm (cne x c hc)),fun j y v' e1 e2 e3=>?_⟩,fun y c' e=>?_,I.free,I.Wc,fun p hp=>?_,tracked ⟨oc,hoc,I.Wc x c hc⟩ hs,by simpa using I.len⟩ ⟨c,hs,.inr hc⟩
  ·exact(hs.2 b (zyj (zyd (zyb e) (I.ok.cab x c hfn hc)))).trans (I.base.keep b o e n hb hx)
  ·obtain⟨sl,e1⟩:=I.base.slot b o e n hb hx
   exact⟨sl,(hs.2 b (zyj (zyd (zyb e) (I.ok.cab x c hfn hc)))).trans e1⟩
  ·obtain⟨o',e1⟩:=I.base.there b o e hx
   exact⟨o',(hs.2 b (zyj (zyd (zyb e) (I.ok.cab x c hfn hc)))).trans e1⟩
  ·by_cases hj:j=i
   ·subst hj
    rw[hi] at e1;cases e1
    rw[List.getElem?_set_self hiσ] at e2
    cases e2
    exact⟨u,r,.inr ⟨.inl hk,c,hc,hc'⟩⟩
   ·rw[List.getElem?_set_ne (Ne.symm hj)] at e2
    obtain⟨u',r',q⟩:=hl j y v' e1 e2 e3
    refine⟨u',r',?_⟩
    rcases q with q | ⟨k,c',e,z'⟩
    ·exact .inl q
    ·refine .inr ⟨k,c',e,z'.sameBut hs ?_⟩
     rintro rfl
     exact hj (zbN hN e1 (I.ok.inj _ _ _ e hc ▸ hi))
  ·by_cases hcc:c'=c
   ·subst hcc;exact⟨_,hc'⟩
   ·obtain⟨w2,z2⟩:=I.cell y c' e
    exact⟨w2,z2.sameBut hs hcc⟩
  ·obtain⟨e,n,ne,nf,d⟩:=I.pin p hp
   refine⟨(hs.2 p.1 ?_).trans e,n,ne,nf,d⟩
   intro q
   rw[q,hoc] at e
   have q':oc=p.2:=zyz e
   exact d w' (by rw[<-q'];exact zsL)
theorem Vn {M:Model}{A:Around}{E:Value->Shared->Prop}{i:Nat}{x:Str}{v:V}{u:Value}{Q:Unit->Shared->Prop}(I:Inv X pins σ H s)(hN:X.N.Nodup)(hi:X.N[i]?=some x)(hx:Loc X.env.scope x)(r:RelV v u)
  (h:∀s',Inv X pins (σ.set i (some v)) H s'->Q () s')(hf:X.fn x=true\/X.env.scope.names.lookup x=some .local:=by first | exact .inl rfl | exact .inr rfl | assumption):wpAny M A (storeName X.env x u) Q E s :=
 zj3 I hN hi hx r (fun s' I' _=>h s' I') hf
theorem Inv.call' {s':Shared}{ch:List Addr}(I:Inv X pins σ H s)(ho:s'.os=s.os)(u:Un (frs X.stack) ch H H' s.heap s'.heap)(hok:Qd X.prog X.w H' s'.heap)(hg:AllBare s'.gens)
  (hch:∀b∈ch,(b∈X.ex\/X.s₀.heap.objs.size<=b)/\b≠X.env.locals/\(∀x c,X.env.cells.lookup x=some c->c≠b)/\∀p∈X.pn++pins,p.1≠b):Inv X pins σ H' s':=by
 obtain⟨h',g',d',t',o'⟩:=s'
 have e:o'=s.os:=ho
 subst e
 exact I.call (g':=g') (t':=t') (d':=d') u hok hg hch
end
abbrev XK:=Value->Option Addr->Hp->Prop
abbrev St:=List (Option V)
abbrev VK:=V->Hp->Prop
abbrev TE:=St->Hp->VK->Prop
abbrev TT:=St->Hp->(Bool->Hp->Prop)->Prop
abbrev TA:=St->Hp->(List V->Hp->Prop)->Prop
structure Ends where
 nx:St->Hp->Prop
 rt:VK
 bk:St->Hp->Prop:=fun _ _=>False
 ct:St->Hp->Prop:=fun _ _=>False
abbrev TS:=Ends->St->Hp->Prop
def EP (X:Cx)(pins:List (Addr×Obj))(σ:St)(Q:VK)(u:Value)(s':Shared):Prop:=∃v H',Inv X pins σ H' s'/\RelV v u/\Q v H'
def TP (X:Cx)(pins:List (Addr×Obj))(σ:St)(Q:Bool->Hp->Prop)(b:Bool)(s':Shared):Prop:=∃H',Inv X pins σ H' s'/\Q b H'
def AP (X:Cx)(pins:List (Addr×Obj))(σ:St)(Q:List V->Hp->Prop)(us:List Value)(s':Shared):Prop:=∃vs H',Inv X pins σ H' s'/\Vals vs us/\Q vs H'
def SP (X:Cx)(pins:List (Addr×Obj))(D:Ends)(f:Flow)(s':Shared):Prop :=
 match f with
 | .next=>∃ σ' H',Inv X pins σ' H' s'/\D.nx σ' H'
 | .brk=>∃ σ' H',Inv X pins σ' H' s'/\D.bk σ' H'
 | .cont=>∃ σ' H',Inv X pins σ' H' s'/\D.ct σ' H'
 | .ret u=>∃v σ' H',Inv X pins σ' H' s'/\RelV v u/\D.rt v H'
def PE (X:Cx)(e:Expr)(t:TE):Prop :=
 ∀(pins:List (Addr×Obj)) (s:Shared) (σ:St) (H:Hp) (Q:VK),Inv X pins σ H s->t σ H Q->wpAny (model X.prog X.w) X.A (eval e X.env) (EP X pins σ Q) X.xe s
def PT (X:Cx)(e:Expr)(t:TT):Prop :=
 ∀(pins:List (Addr×Obj)) (s:Shared) (σ:St) (H:Hp) (Q:Bool->Hp->Prop),Inv X pins σ H s->t σ H Q->wpAny (model X.prog X.w) X.A (isTrue e X.env (eval e X.env)) (TP X pins σ Q) X.xe s
def PW (X:Cx)(e:Expr)(t:TT):Prop :=
 ∀(whole:Sem Value) (pins:List (Addr×Obj)) (s:Shared) (σ:St) (H:Hp) (Q:Bool->Hp->Prop),Inv X pins σ H s->t σ H Q->wpAny (model X.prog X.w) X.A (isTrue e X.env whole) (TP X pins σ Q) X.xe s
theorem PW.pt {X:Cx}{e:Expr}{t:TT}(h:PW X e t):PT X e t:=h _
def PA (X:Cx)(es:List Expr)(t:TA):Prop :=
 ∀(pos:Pos) (pins:List (Addr×Obj)) (s:Shared) (σ:St) (H:Hp) (Q:List V->Hp->Prop),Inv X pins σ H s->t σ H Q->wpAny (model X.prog X.w) X.A (spliced (backTo pos (starEach es X.env))) (AP X pins σ Q) X.xe s
def PS (X:Cx)(st:Stmt)(t:TS):Prop :=
 ∀(pins:List (Addr×Obj)) (s:Shared) (σ:St) (H:Hp) (D:Ends),Inv X pins σ H s->t D σ H->wpAny (model X.prog X.w) X.A (exec st X.env) (SP X pins D) X.xe s
def PSs (X:Cx)(st:List Stmt)(t:TS):Prop :=
 ∀(pins:List (Addr×Obj)) (s:Shared) (σ:St) (H:Hp) (D:Ends),Inv X pins σ H s->t D σ H->wpAny (model X.prog X.w) X.A (execs st X.env) (SP X pins D) X.xe s
theorem vJ {α:Type}{t:Sem α}{Q Q':α->Shared->Prop}{M:Model}{A:Around}{E:Value->Shared->Prop}{s:Shared}(h:wpAny M A t Q E s)(hQ:∀a s,Q a s->Q' a s):wpAny M A t Q' E s:=wpAny_mono h hQ fun _ _ x=>x
section
variable {X:Cx}
theorem bin {a b:Expr}{ta tb:TE}(ha:PE X a ta)(hb:PE X b tb){pins:List (Addr×Obj)}{s:Shared}{σ:St}{H:Hp}{R:V->V->Hp->Prop}(I:Inv X pins σ H s)(h:ta σ H fun x H1=>tb σ H1 fun y H2=>R x y H2)
  {α:Type}{Q:α->Shared->Prop}{f:Value->Value->Sem α}
  (hf:∀v u s2 x y H2,Inv X pins σ H2 s2->RelV x v->RelV y u->R x y H2->wpAny (model X.prog X.w) X.A (f v u) Q X.xe s2) :
  wpAny (model X.prog X.w) X.A (eval a X.env) (fun v s₁=>wpAny (model X.prog X.w) X.A (eval b X.env) (fun u s₂=>wpAny (model X.prog X.w) X.A (f v u) Q X.xe s₂) X.xe s₁) X.xe s:=by
 refine vJ (ha pins s σ H _ I h) fun v s1 ⟨x,H1,I1,r1,q1⟩=>?_
 refine vJ (hb pins s1 σ H1 _ I1 q1) fun u s2 ⟨y,H2,I2,r2,q2⟩=>?_
 exact hf v u s2 x y H2 I2 r1 r2 q2
inductive zbO (i:Nat)(σ:St)(H:Hp)(Q:V->Hp->Prop):Prop
 | mk (v:V) (_:σ[i]?=some (some v)) (_:Q v H):zbO i σ H Q
def tC (v:V):TE:=fun _ H Q=>Q v H
theorem zo1 {i:Nat}{x:Str}{pos:Pos}(hN:X.N[i]?=some x)(hv:Vis X.env.scope x)(hd:(x==("__debug__" : Str))=false:=by decide)(hcd:(x==("__classdict__" : Str))=false:=by decide):PE X (.Name x pos) (zbO i):=by
 intro pins s σ H Q I h
 obtain⟨v,e,h⟩:=h
 obtain⟨m,hn,hl⟩:=I.loc
 obtain⟨u,r,l⟩:=hl i x v hN e hv
 have fin:EP X pins σ Q u s:=⟨v,H,I,r,h⟩
 rcases l with ⟨hk,hm⟩ | ⟨hk,c,hc,hcell⟩
 ·exact wpAny_Name (wpAny_loadName_local I.ok.kind hk hn hm fin) hd
 ·rcases hk with hk | hk
  ·exact wpAny_Name (wpAny_loadName_cell I.ok.kind hk hc hcell fin) hd
  ·exact wpAny_Name (wpAny_loadName_free I.ok.kind hk hc hcell fin hcd) hd
theorem zq {i j pos}:PE X (.Constant (.int i) j pos) (tC (.int i)):=fun _ _ _ H _ I h=>wpAny_Constant_int ⟨.int i,H,I.tok _,⟨_,rfl⟩,h⟩
theorem Kv {b j pos}:PE X (.Constant (.bool b) j pos) (tC (.bl b)):=fun _ _ _ H _ I h=>Constant_bool ⟨.bl b,H,I,rfl,h⟩
theorem zhy {j pos}:PE X (.Constant .none j pos) (tC .non):=fun _ _ _ H _ I h=>Constant_none ⟨.non,H,I,rfl,h⟩
theorem zZ {x j pos}:PE X (.Constant (.str x) j pos) (tC (.str x)):=fun _ _ _ H _ I h=>Calls.Constant_str ⟨.str x,H,I.tok _,⟨_,rfl⟩,h⟩
def Gl (X:Cx)(x:Str):Prop:=X.env.kindOf x=some .globalImplicit
theorem Rg {E:Value->Shared->Prop}{pins:List (Addr×Obj)}{s:Shared}{σ:St}{H:Hp}{x:Str}{u:Value}{pos:Pos}{Q:Value->Shared->Prop}(I:Inv X pins σ H s)(hg:Gl X x)(hm:X.mg x=some u)(h:Q u s)
  (hd:(x==("__debug__" : Str))=false:=by decide):wpAny (model X.prog X.w) X.A (eval (.Name x pos) X.env) Q E s :=
 Calls.Name_function_global I.ok.kind hg (Calls.loadGlobal_global (by rw[I.ok.glob];exact I.mod.glob.keeps I.bk) hm h) hd
theorem Ws {E:Value->Shared->Prop}{pins:List (Addr×Obj)}{s:Shared}{σ:St}{H:Hp}{x:Str}{u:Value}{pos:Pos}{Q:Value->Shared->Prop}(I:Inv X pins σ H s)(hg:Gl X x)(hm:X.mg x=none)(hv:bootBuiltins x=some u)(h:Q u s)
  (hn:x ≠ "__name__" := by decide)(hd:(x==("__debug__" : Str))=false:=by decide):wpAny (model X.prog X.w) X.A (eval (.Name x pos) X.env) Q E s:=by
 obtain⟨mb,h1,h2⟩:=I.mod.blt
 exact Calls.Name_function_global I.ok.kind hg (Calls.loadGlobal_builtin (by rw[I.ok.glob];exact I.mod.glob.keeps I.bk) hm (by rw[I.ok.blt];exact h1.keeps I.bk) ((h2 x hn).trans hv) h) hd
theorem wZ {x:Str}{v:V}{u:Value}{pos:Pos}(hg:Gl X x)(hm:X.mg x=some u)(r:RelV v u)(hd:(x==("__debug__" : Str))=false:=by decide):PE X (.Name x pos) (tC v) :=
 fun _ _ _ H _ I h=>Rg I hg hm ⟨v,H,I,r,h⟩ hd
theorem Kw {x:Str}{v:V}{u:Value}{pos:Pos}(hg:Gl X x)(hm:X.mg x=none)(hv:bootBuiltins x=some u)(r:RelV v u)(hn:x ≠ "__name__" := by decide)(hd:(x==("__debug__" : Str))=false:=by decide):PE X (.Name x pos) (tC v) :=
 fun _ _ _ H _ I h=>Ws I hg hm hv ⟨v,H,I,r,h⟩ hn hd
variable {a b:Expr}{ta tb:TE}{pos:Pos}
def PC (X:Cx)(op:CmpOp)(a b:Expr)(t:TE):Prop :=
 ∀(pins:List (Addr×Obj)) (s:Shared) (σ:St) (H:Hp) (Q:VK),Inv X pins σ H s->t σ H Q ->
  wpAny (model X.prog X.w) X.A (eval a X.env) (fun v s₁=>wpAny (model X.prog X.w) X.A (eval b X.env) (fun u s₂=>wpAny (model X.prog X.w) X.A (compareOp op v u) (EP X pins σ Q) X.xe s₂) X.xe s₁) X.xe s
def tB (t:TE):TT:=fun σ H Q=>t σ H fun x H1=>∃c,x=.bl c/\Q c H1
theorem zo2 {op:CmpOp}{t:TE}(h:PC X op a b t)(h1:behindInMarks op b=false:=by first | exact zqF _ (by decide) (by decide) | rfl):PT X (.Compare a [op] [b] pos) (tB t):=by
 intro pins s σ H Q I hw
 refine wpAny_isTrue_Compare1 (vJ (h pins s σ H _ I hw) fun v s1 h1=>vJ h1 fun u s2 h2=>vJ h2 fun c s3 ⟨x,H1,I1,r1,q1⟩=>?_) h1
 obtain⟨d,rfl,q⟩:=q1
 cases r1
 exact wpAny_truthy_bool ⟨H1,I1,q⟩
variable {tA tB':TT}{rest:List Expr}
def zsM (t u:TT):TT:=fun σ H Q=>t σ H fun c H1=>if c=true then u σ H1 Q else Q false H1
def tOr (t u:TT):TT:=fun σ H Q=>t σ H fun c H1=>if c=true then Q true H1 else u σ H1 Q
def zsN (t:TT):TT:=fun σ H Q=>t σ H fun c H1=>Q (!c) H1
theorem zbq (ha:PT X a tA):PW X (.BoolOp .And [a] pos) tA:=by
 intro wh pins s σ H Q I h
 refine isTrue_and (vJ (ha pins s σ H Q I h) fun c s1 e=>?_)
 cases c with
 | true=>exact isTrue_and_nil e
 | false=>exact e
theorem Le (ha:PT X a tA):PW X (.BoolOp .Or [a] pos) tA:=by
 intro wh pins s σ H Q I h
 refine isTrue_or (vJ (ha pins s σ H Q I h) fun c s1 e=>?_)
 cases c with
 | false=>exact isTrue_or_nil e
 | true=>exact e
theorem zeK (ha:PT X a tA)(hb:PW X (.BoolOp .And (b::rest) pos) tB'):PW X (.BoolOp .And (a::b::rest) pos) (zsM tA tB'):=by
 intro wh pins s σ H Q I h
 refine isTrue_and (vJ (ha pins s σ H _ I h) fun c s1 ⟨H1,I1,q1⟩=>?_)
 cases c with
 | true=>exact hb wh pins s1 σ H1 Q I1 q1
 | false=>exact⟨H1,I1,q1⟩
theorem Ky (ha:PT X a tA)(hb:PW X (.BoolOp .Or (b::rest) pos) tB'):PW X (.BoolOp .Or (a::b::rest) pos) (tOr tA tB'):=by
 intro wh pins s σ H Q I h
 refine isTrue_or (vJ (ha pins s σ H _ I h) fun c s1 ⟨H1,I1,q1⟩=>?_)
 cases c with
 | true=>exact⟨H1,I1,q1⟩
 | false=>exact hb wh pins s1 σ H1 Q I1 q1
theorem Rh (ha:PT X a tA):PT X (.UnaryOp .Not a pos) (zsN tA):=by
 intro pins s σ H Q I h
 exact isTrue_not (ha pins s σ H (fun c H1=>Q (!c) H1) I h)
def zqG (ta tb:TE):TE:=fun σ H Q=>ta σ H fun x H1=>∃c,x=.bl c/\if c=true then tb σ H1 Q else Q (.bl false) H1
theorem zeL {op}{t:TE}(h:PE X a t):PE X (.BoolOp op [a] pos) t:=fun pins s σ H Q I hw=>BoolOp_one (h pins s σ H Q I hw)
theorem Qs (ha:PE X a ta)(hb:PE X (.BoolOp .And (b::rest) pos) tb):PE X (.BoolOp .And (a::b::rest) pos) (zqG ta tb):=by
 intro pins s σ H Q I h
 refine BoolOp_and (vJ (ha pins s σ H _ I h) fun v s1 ⟨x,H1,I1,r1,q1⟩=>?_)
 obtain⟨c,rfl,q1⟩:=q1
 cases r1
 refine wpAny_truthy_bool ?_
 cases c with
 | true=>exact hb pins s1 σ H1 Q I1 q1
 | false=>exact⟨.bl false,H1,I1,rfl,q1⟩
def tIf (t:TT)(ta tb:TE):TE:=fun σ H Q=>t σ H fun c H1=>if c=true then ta σ H1 Q else tb σ H1 Q
theorem Qt {c:Expr}(hc:PT X c tA)(ha:PE X a ta)(hb:PE X b tb):PE X (.IfExp c a b pos) (tIf tA ta tb):=by
 intro pins s σ H Q I h
 refine wpAny_IfExp (vJ (hc pins s σ H _ I h) fun d s1 ⟨H1,I1,q1⟩=>?_)
 cases d with
 | true=>exact ha pins s1 σ H1 Q I1 q1
 | false=>exact hb pins s1 σ H1 Q I1 q1
end
def zO (K:Frag)(H:Hp)(a:Addr)(xs:List V):Prop :=
 Rd H a (.lst xs) \/
  ∃(o:Obj) (its:Array Value) (n:Nat),K.lookup a=some o/\o.cls=.type "list" /\ o.dict=none/\o.data=.seq its n/\its.size<=sizeLine/\Vals xs its.toList
def vL (K:Frag)(H:Hp)(a:Addr)(xs:List V):Prop :=
 Rd H a (.tup xs) \/
  ∃(o:Obj) (its:Array Value) (n:Nat),K.lookup a=some o/\o.cls=.type "tuple" /\ o.data=.seq its n/\its.size<=sizeLine/\Vals xs its.toList
def zdd:Value->Option V
 | .none=>some .non
 | .bool b=>some (.bl b)
 | .int i _=>some (.int i)
 | .str x _=>some (.str x)
 | .bytes b _=>some (.byt b)
 | .float b _=>some (.flt b)
 | .ref a=>some (.ref a)
 | .type n=>some (.ty n)
 | _=>none
theorem RelV.abs {x:V}{u:Value}(r:RelV x u):zdd u=some x:=by
 cases x with
 | non=>cases r;rfl
 | bl _=>cases r;rfl
 | int _=>obtain⟨t,rfl⟩:=r;rfl
 | str _=>obtain⟨t,rfl⟩:=r;rfl
 | byt _=>obtain⟨t,rfl⟩:=r;rfl
 | flt _=>obtain⟨t,rfl⟩:=r;rfl
 | ref _=>cases r;rfl
 | ty _=>cases r;rfl
theorem RelV.inj {x y:V}{u:Value}(r:RelV x u)(q:RelV y u):x=y:=zyz (r.abs.symm.trans q.abs)
theorem Vals.inj:∀{xs ys:List V} {us:List Value},Vals xs us->Vals ys us->xs=ys
 | _,_,_,.nil,.nil=>rfl
 | _,_,_,.cons r t,.cons r' t'=>by rw[r.inj r',Vals.inj t t']
section
variable {X:Cx}{pins:List (Addr×Obj)}{σ:St}{H:Hp}{s:Shared}{a:Addr}{xs ys:List V}
theorem zO.of {K:Frag}(h:H a=some (.lst xs)):zO K H a xs:=.inl (.inl h)
theorem vL.of {K:Frag}(h:H a=some (.tup xs)):vL K H a xs:=.inl (.inl h)
theorem Inv.list (I:Inv X pins σ H s)(h:zO X.K H a xs):∃its:List Value,Vals xs its/\PlainL s.heap a its.toArray/\xs.length<=sizeLine:=by
 rcases h with h | ⟨o,its,n,hk,hc,hd,hs,hz,r⟩
 ·obtain⟨z,its,n,r,e⟩:=h.ok I.hok
  exact⟨its,r,⟨_,n,e,rfl,rfl,rfl⟩,z⟩
 ·refine⟨its.toList,r,⟨o,n,I.Mi a o hk,hc,hd,by simpa using hs⟩,?_⟩
  have e:=r.length
  simp only[Array.length_toList] at e
  omega
theorem Inv.tuple (I:Inv X pins σ H s)(h:vL X.K H a xs):∃its:List Value,Vals xs its/\IsTup s.heap a its.toArray/\xs.length<=sizeLine:=by
 rcases h with h | ⟨o,its,n,hk,hc,hs,hz,r⟩
 ·obtain⟨z,its,r,p⟩:=h.ok I.hok
  exact⟨its,r,p,z⟩
 ·refine⟨its.toList,r,⟨o,I.Mi a o hk,hc,n,by simpa using hs⟩,?_⟩
  have e:=r.length
  simp only[Array.length_toList] at e
  omega
theorem Inv.Vo (I:Inv X pins σ H s)(h:zO X.K H a xs)(h':zO X.K H a ys):xs=ys:=by
 obtain⟨its,r,⟨o,n,e,_,_,d⟩,_⟩:=I.list h
 obtain⟨its',r',⟨o',n',e',_,_,d'⟩,_⟩:=I.list h'
 rw[e] at e';cases e'
 rw[d] at d'
 injection d' with d1 _
 have:its=its':=by simpa using congrArg Array.toList d1
 subst this
 exact r.inj r'
theorem Inv.zdS (I:Inv X pins σ H s)(h:vL X.K H a xs)(h':vL X.K H a ys):xs=ys:=by
 obtain⟨its,r,⟨o,e,_,n,d⟩,_⟩:=I.tuple h
 obtain⟨its',r',⟨o',e',_,n',d'⟩,_⟩:=I.tuple h'
 rw[e] at e';cases e'
 rw[d] at d'
 injection d' with d1 _
 have:its=its':=by simpa using congrArg Array.toList d1
 subst this
 exact r.inj r'
end
abbrev Cx.wish (X:Cx)(E:Value->Shared->Prop):Cx:={ X with xe:=E }
abbrev Cx.nox (X:Cx):Cx:=X.wish fun _ _=>False
theorem Cx.Ok.wish {X:Cx}(ok:X.Ok)(E:Value->Shared->Prop):(X.wish E).Ok :=
 ⟨ok.mod,ok.kind,ok.glob,ok.blt,ok.above,ok.inj,ok.has,ok.cab,ok.hd,ok.frames,ok.stk,ok.exf,ok.bs,ok.bsz,ok.zf4,ok.zf5,ok.Mh,ok.frf⟩
theorem Cx.Ok.Ri {X:Cx}{E:Value->Shared->Prop}(ok:(X.wish E).Ok):X.Ok :=
 ⟨ok.mod,ok.kind,ok.glob,ok.blt,ok.above,ok.inj,ok.has,ok.cab,ok.hd,ok.frames,ok.stk,ok.exf,ok.bs,ok.bsz,ok.zf4,ok.zf5,ok.Mh,ok.frf⟩
section
variable {X:Cx}{pins:List (Addr×Obj)}{σ:St}{H:Hp}{s:Shared}{E:Value->Shared->Prop}
theorem Inv.wish (I:Inv X pins σ H s)(E:Value->Shared->Prop):Inv (X.wish E) pins σ H s:=⟨I.ok.wish E,I.os,I.bare,I.base,I.loc,I.cell,I.free,I.Wc,I.pin,I.hok,I.len⟩
theorem Inv.Ri (I:Inv (X.wish E) pins σ H s):Inv X pins σ H s:=⟨I.ok.Ri,I.os,I.bare,I.base,I.loc,I.cell,I.free,I.Wc,I.pin,I.hok,I.len⟩
theorem SP.Ri {D:Ends}{f:Flow}{s':Shared}(h:SP (X.wish E) pins D f s'):SP X pins D f s':=by
 cases f with
 | next=>obtain⟨σ',H',I,q⟩:=h;exact⟨σ',H',I.Ri,q⟩
 | brk=>obtain⟨σ',H',I,q⟩:=h;exact⟨σ',H',I.Ri,q⟩
 | cont=>obtain⟨σ',H',I,q⟩:=h;exact⟨σ',H',I.Ri,q⟩
 | ret u=>obtain⟨v,σ',H',I,r,q⟩:=h;exact⟨v,σ',H',I.Ri,r,q⟩
theorem PSs.nox {st:List Stmt}{t:TS}(h:PSs X.nox st t):PSs X st t:=fun pins s σ H D I hw =>
 wpAny_mono (h pins s σ H D (I.wish _) hw) (fun _ _ q=>q.Ri) fun _ _ z=>False.elim z
end
section
variable {X:Cx}{st:Stmt}{rest:List Stmt}{t u:TS}{e:Expr}{te:TE}{pos:Pos}
def zqH:TS:=fun D σ H=>D.nx σ H
def zqI (t u:TS):TS:=fun D σ H=>t { D with nx:=u D } σ H
theorem z8:PSs X [] zqH:=fun _ _ σ H _ I h=>wpAny_execs_nil ⟨σ,H,I,h⟩
theorem zf (h1:PS X st t)(h2:PSs X rest u):PSs X (st::rest) (zqI t u):=by
 intro pins s σ H D I h
 refine wpAny_execs_cons (vJ (h1 pins s σ H { D with nx:=u D } I h) fun f s1 q=>?_)
 cases f with
 | next =>
  obtain⟨σ',H',I',q⟩:=q
  exact h2 pins s1 σ' H' D I' q
 | ret v=>exact q
 | brk=>exact q
 | cont=>exact q
theorem zu (h1:PS X st t):PSs X [st] t:=by
 intro pins s σ H D I h
 refine wpAny_execs_cons (vJ (h1 pins s σ H D I h) fun f s1 q=>?_)
 cases f with
 | next=>exact wpAny_execs_nil q
 | ret v=>exact q
 | brk=>exact q
 | cont=>exact q
theorem Inv.quiet {pins:List (Addr×Obj)}{σ:St}{H:Hp}{s:Shared}(I:Inv X pins σ H s):interactive X.env=false:=by simp[interactive,I.ok.kind]
def zqJ (te:TE):TS:=fun D σ H=>te σ H fun _ H1=>D.nx σ H1
theorem yu (he:PE X e te)(hs:swapsWith e none pos.line X.env=pure false:=by rfl):PS X (.Expr e pos) (zqJ te):=by
 intro pins s σ H D I h
 exact wpAny_Expr_any (vJ (he pins s σ H _ I h) fun v s1 ⟨x,H1,I1,r1,q1⟩=>⟨σ,H1,I1,q1⟩) I.quiet hs
def zsO (te:TE):TS:=fun D σ H=>te σ H D.rt
theorem zL (he:PE X e te):PS X (.Return (some e) pos) (zsO te):=by
 intro pins s σ H D I h
 exact wpAny_Return_some (vJ (he pins s σ H _ I h) fun v s1 ⟨x,H1,I1,r1,q1⟩=>⟨x,σ,H1,I1,r1,q1⟩)
def zsP (c:TT)(t u:TS):TS:=fun D σ H=>c σ H fun b H1=>if b=true then t D σ H1 else u D σ H1
theorem yI {c:Expr}{a b:List Stmt}{tc:TT}(hc:PT X c tc)(ha:PSs X a t)(hb:PSs X b u):PS X (.If c a b pos) (zsP tc t u):=by
 intro pins s σ H D I h
 refine wpAny_If (vJ (hc pins s σ H _ I h) fun d s1 ⟨H1,I1,q1⟩=>?_)
 cases d with
 | true=>exact ha pins s1 σ H1 D I1 q1
 | false=>exact hb pins s1 σ H1 D I1 q1
def zk7:TS:=fun _ _ _=>False
theorem Vp:PS X st zk7:=fun _ _ _ _ _ _ h=>h.elim
theorem zj4 {sts:List Stmt}:PSs X sts zk7:=fun _ _ _ _ _ _ h=>h.elim
end
abbrev TG:=V->St->Hp->(St->Hp->Prop)->Prop
abbrev TGs:=List V->St->Hp->(St->Hp->Prop)->Prop
def PG (X:Cx)(target:Expr)(t:TG):Prop :=
 ∀(pins:List (Addr×Obj)) (s:Shared) (σ:St) (H:Hp) (v:V) (u:Value) (Q:St->Hp->Prop),Inv X pins σ H s->RelV v u->t v σ H Q ->
  wpAny (model X.prog X.w) X.A (assign target X.env u) (fun _ s'=>∃ σ' H',Inv X pins σ' H' s'/\Q σ' H') X.xe s
def PGs (X:Cx)(ts:List Expr)(t:TGs):Prop :=
 ∀(pins:List (Addr×Obj)) (s:Shared) (σ:St) (H:Hp) (vs:List V) (us:List Value) (Q:St->Hp->Prop),Inv X pins σ H s->Vals vs us->t vs σ H Q ->
  wpAny (model X.prog X.w) X.A (assignInOrder ((assignEach ts X.env).map (·.2)) us) (fun _ s'=>∃ σ' H',Inv X pins σ' H' s'/\Q σ' H') X.xe s
abbrev zo4:=V->V->V->Hp->(Hp->Prop)->Prop
def zqK (X:Cx)(t:zo4):Prop :=
 ∀(pins:List (Addr×Obj)) (s:Shared) (σ:St) (H:Hp) (o i v:V) (ov iv u:Value) (Q:Hp->Prop),Inv X pins σ H s->RelV o ov->RelV i iv->RelV v u->t o i v H Q ->
  wpAny (model X.prog X.w) X.A (setItem ov iv u) (fun _ s'=>∃H',Inv X pins σ H' s'/\Q H') X.xe s
abbrev TIp:=V->V->Hp->VK->Prop
def PIp (X:Cx)(op:Operator)(t:TIp):Prop :=
 ∀(pins:List (Addr×Obj)) (s:Shared) (σ:St) (H:Hp) (x y:V) (v u:Value) (Q:VK),Inv X pins σ H s->RelV x v->RelV y u->t x y H Q ->
  wpAny (model X.prog X.w) X.A (inplaceOp op v u) (EP X pins σ Q) X.xe s
section
variable {X:Cx}{pos:Pos}
def WL (i:Nat):TG:=fun v σ H Q=>Q (σ.set i (some v)) H
theorem yr {i:Nat}{x:Str}(hN:X.N.Nodup)(hi:X.N[i]?=some x)(hx:Loc X.env.scope x)(hf:X.fn x=true\/X.env.scope.names.lookup x=some .local:=by first | exact .inl rfl | exact .inr rfl | assumption):PG X (.Name x pos) (WL i):=by
 intro pins s σ H v u Q I r h
 exact wpAny_assign_Name (Vn I hN hi hx r (fun s' I'=>⟨_,H,I',h⟩) hf)
def zm4:TGs:=fun vs σ H Q=>vs=[]/\Q σ H
def zbP (t:TG)(u:TGs):TGs:=fun vs σ H Q=>∃v r,vs=v::r/\t v σ H fun σ' H'=>u r σ' H' Q
theorem Ni:PGs X [] zm4:=by
 intro pins s σ H vs us Q I r h
 obtain⟨e,h⟩:=h
 subst e
 cases r
 exact assignInOrder_nil ⟨σ,H,I,h⟩
theorem uW {e:Expr}{es:List Expr}{t:TG}{u:TGs}(h1:PG X e t)(h2:PGs X es u)
  (hs:(assignEach (e::es) X.env).map (·.2)=assign e X.env::(assignEach es X.env).map (·.2):=by rfl):PGs X (e::es) (zbP t u):=by
 intro pins s σ H vs us Q I r h
 obtain⟨v,vr,e1,h⟩:=h
 subst e1
 cases r with
 | cons r rr =>
  rw[hs]
  refine assignInOrder_cons (vJ (h1 pins s σ H _ _ _ I r h) fun _ s1 ⟨σ1,H1,I1,q1⟩=>?_)
  exact h2 pins s1 σ1 H1 _ _ Q I1 rr q1
def zm5 (K:Frag)(n:Nat)(t:TGs):TG:=fun v σ H Q=>∃a xs,v=.ref a/\vL K H a xs/\xs.length=n/\t xs σ H Q
theorem J5 {es:List Expr}{k:Nat}{t:TGs}{n:Nat}(hc:X.calm=true)(h:PGs X es t)
  (hn:(assignEach es X.env).length=n:=by rfl)(hst:(assignEach es X.env).findIdx? (·.1)=none:=by rfl):PG X (.Tuple es k pos) (zm5 X.K n t):=by
 intro pins s σ H v u Q I r hw
 obtain⟨a,xs,e1,hq,hl,hw⟩:=hw
 subst e1
 cases r
 obtain⟨its,rv,ht,hz⟩:=I.tuple hq
 refine assign_Tuple_tuple (I.ok.hd hc) ht (by simp[hn,<-hl,rv.length]) hst fun h' hx=>?_
 have I1:Inv X pins σ H { s with heap:=h' }:=I.kept (t':=s.toks) fun b o e=>hx b o (zyj (zyb e)) e
 exact h pins _ σ H xs _ Q I1 (by simpa using rv) hw
def zsR (to ti:TE)(t:zo4):TG:=fun v σ H Q=>to σ H fun o H1=>ti σ H1 fun i H2=>t o i v H2 fun H3=>Q σ H3
theorem zo5 {o i:Expr}{to ti:TE}{t:zo4}(ho:PE X o to)(hi:PE X i ti)(hs:zqK X t)
  (ha:∀v,assign (.Subscript o i pos) X.env v=(do
   let ov <-holding [v] (eval o X.env)
   let iv <-holding [v,ov] (eval i X.env)
   standAt pos
   holding [v,ov,iv] (setItem ov iv v)
   release [v,ov,iv] []):=by intro _;rfl):PG X (.Subscript o i pos) (zsR to ti t):=by
 intro pins s σ H v u Q I r h
 rw[ha]
 refine wpAny_bind (wpAny_holding (vJ (ho pins s σ H _ I h) fun ov s1 ⟨x,H1,I1,r1,q1⟩=>?_))
 refine wpAny_bind (wpAny_holding (vJ (hi pins s1 σ H1 _ I1 q1) fun iv s2 ⟨y,H2,I2,r2,q2⟩=>?_))
 refine wpAny_bind (wpAny_standAt (wpAny_bind (wpAny_holding (vJ (hs pins s2 σ H2 x y v ov iv u _ I2 r1 r2 r q2) fun _ s3 ⟨H3,I3,q3⟩=>?_))))
 exact wpAny_release ⟨σ,H3,I3,q3⟩
def zm6 (te:TE)(g:TG):TS:=fun D σ H=>te σ H fun x H1=>g x σ H1 D.nx
theorem zhz {tg e:Expr}{te:TE}{g:TG}(he:PE X e te)(hg:PG X tg g)(hs:swapsWithSole [tg] e pos.line X.env=pure false:=by rfl)(hw:swappedStores [tg] e X.env=pure none:=by rfl)
  (h1:(assignEach [tg] X.env).map (·.2)=[assign tg X.env]:=by rfl):PS X (.Assign [tg] e pos) (zm6 te g):=by
 intro pins s σ H D I h
 refine wpAny_Assign_stores (vJ (he pins s σ H _ I h) fun v s1 ⟨x,H1,I1,r1,q1⟩=>?_) hs hw
 rw[h1]
 exact vJ (hg pins s1 σ H1 x v _ I1 r1 q1) fun _ s2 q=>q
theorem Wt {i:Nat}{x:Str}{e:Expr}{te:TE}{pos':Pos}(hN:X.N.Nodup)(hi:X.N[i]?=some x)(hx:Loc X.env.scope x)(he:PE X e te)(hs:swapsWith e (some (.Name x pos')) pos.line X.env=pure false:=by rfl)(hf:X.fn x=true\/X.env.scope.names.lookup x=some .local:=by first | exact .inl rfl | exact .inr rfl | assumption) :
  PS X (.Assign [.Name x pos'] e pos) (zm6 te (WL i)):=by
 intro pins s σ H D I h
 refine wpAny_Assign_Name (vJ (he pins s σ H _ I h) fun v s1 ⟨y,H1,I1,r1,q1⟩=>?_) hs
 exact Vn I1 hN hi hx r1 (fun s2 I2=>⟨_,H1,I2,q1⟩) hf
def zsS (i j:Nat)(ta:TA):TS:=fun D σ H=>ta σ H fun vs H1=>∃v w,vs=[v,w]/\D.nx ((σ.set i (some v)).set j (some w)) H1
theorem zk8 {i j:Nat}{x y:Str}{a b:Expr}{ta:TA}{px py pt:Pos}{kt k2 pt2}(hc:X.calm=true)(hN:X.N.Nodup)(hi:X.N[i]?=some x)(hj:X.N[j]?=some y)(hij:i≠j)
  (hx:X.env.scope.names.lookup x=some .local)(hy:X.env.scope.names.lookup y=some .local)(ha:PA X [a,b] ta)
  (hw:swappedStores [.Tuple [.Name x px,.Name y py] kt pt] (.Tuple [a,b] k2 pt2) X.env=pure (some [x,y]))
  (hs:swapsWithSole [.Tuple [.Name x px,.Name y py] kt pt] (.Tuple [a,b] k2 pt2) pos.line X.env=pure false:=by rfl) :
  PS X (.Assign [.Tuple [.Name x px,.Name y py] kt pt] (.Tuple [a,b] k2 pt2) pos) (zsS i j ta):=by
 intro pins s σ H D I h
 rw[exec_Assign_arm]
 refine wpAny_bind (wpAny_standAt ?_)
 rw[hs]
 refine wpAny_bind (wpAny_pure ?_)
 rw[if_neg (by decide)]
 refine wpAny_bind (Tuple_ (vJ (ha _ pins s σ H _ I h) fun us s1 ⟨vs,H1,I1,r1,q1⟩=>?_))
 obtain⟨v,w,e1,q1⟩:=q1
 subst e1
 obtain⟨u1,u2,rfl,rv,rw'⟩:∃u1 u2,us=[u1,u2]/\RelV v u1/\RelV w u2:=by
  cases r1 with
  | cons p q =>
   cases q with
   | cons p' q' =>
    cases q'
    exact⟨_,_,rfl,p,p'⟩
 refine wpAny_newObj_type ?_ (by show 2<=sizeLine;decide)
 have I2:Inv X pins σ H1 { s1 with heap:=s1.heap.push { cls:=.type "tuple", data:=.seq [u1,u2].toArray } }:=I1.kept (t':=s1.toks) fun b o e=>zya _ e
 rw[hw]
 refine wpAny_bind (wpAny_pure ?_)
 show wpAny (model X.prog X.w) X.A (do rule "assign.swapped-stores";let items <-unpackItems (.ref s1.heap.objs.size) 2 none;assignInOrder [fun v=>bindName X.env y v,fun v=>bindName X.env x v] items.reverse;pure Flow.next) _ _ _
 refine wpAny_bind (wpAny_rule (wpAny_bind (unpackItems_tuple (items:=#[u1,u2]) (I.ok.hd hc) (IsTup.new s1.heap _) fun h' hx'=>?_)))
 have I3:=I2.kept (h':=h') (t':=s1.toks) fun b o e=>hx' b o (zyj (zyb e)) e
 show wpAny _ _ (assignInOrder [fun v=>bindName X.env y v,fun v=>bindName X.env x v] [u2,u1]>>=fun _=>pure Flow.next) _ _ _
 refine wpAny_bind (assignInOrder_cons (wpAny_bindName (Vn I3 hN hj (.inl hy) rw' (fun s2 I4=>?_) (.inr hy))))
 refine assignInOrder_cons (wpAny_bindName (Vn I4 hN hi (.inl hx) rv (fun s3 I5=>assignInOrder_nil (wpAny_pure ?_)) (.inr hx)))
 rw[List.set_comm _ _ (Ne.symm hij)] at I5
 exact⟨_,H1,I5,q1⟩
def zsU (i:Nat)(te:TE)(ti:TIp):TS:=fun D σ H=>∃x,σ[i]?=some (some x)/\te σ H fun y H1=>ti x y H1 fun z H2=>D.nx (σ.set i (some z)) H2
theorem zhA {i:Nat}{x:Str}{e:Expr}{te:TE}{op:Operator}{ti:TIp}{pos':Pos}(hN:X.N.Nodup)(hi:X.N[i]?=some x)(hx:Loc X.env.scope x)(he:PE X e te)(ho:PIp X op ti)(hf:X.fn x=true\/X.env.scope.names.lookup x=some .local:=by first | exact .inl rfl | exact .inr rfl | assumption) :
  PS X (.AugAssign (.Name x pos') op e pos) (zsU i te ti):=by
 intro pins s σ H D I h
 obtain⟨v,e1,h⟩:=h
 obtain⟨m,hn,hl⟩:=I.loc
 have vis:Vis X.env.scope x:=by rcases hx with k | k;exact .inl k;exact .inr (.inl k)
 obtain⟨u,r,l⟩:=hl i x v hi e1 vis
 refine wpAny_AugAssign_Name ?_
 have go:wpAny (model X.prog X.w) X.A (eval e X.env) (fun w s₂=>wpAny (model X.prog X.w) X.A (inplaceOp op u w) (fun r s₃=>wpAny (model X.prog X.w) X.A (storeName X.env x r) (fun _=>SP X pins D .next) X.xe s₃) X.xe s₂) X.xe s:=by
  refine vJ (he pins s σ H _ I h) fun w s1 ⟨y,H1,I1,r1,q1⟩=>?_
  refine vJ (ho pins s1 σ H1 v y u w _ I1 r r1 q1) fun z s2 ⟨zv,H2,I2,r2,q2⟩=>?_
  exact Vn I2 hN hi hx r2 (fun s3 I3=>⟨_,H2,I3,q2⟩) hf
 rcases l with ⟨hk,hm⟩ | ⟨hk,c,hc,hcell⟩
 ·exact wpAny_loadName_local I.ok.kind hk hn hm go
 ·rcases hk with hk | hk
  ·exact wpAny_loadName_cell I.ok.kind hk hc hcell go
  ·rcases hx with k | k
   ·have:X.env.scope.names.lookup x=some .free:=hk
    rw[k] at this;cases this
   ·have:X.env.scope.names.lookup x=some .free:=hk
    rw[k] at this;cases this
def zo6 (c:TT)(tb:TS):TS:=fun D σ H=>∃W:Nat->St->Hp->Prop,(∃m,W m σ H)/\∀m σ H,W m σ H ->
 c σ H fun b H1=>if b=true then ∃N:St->Hp->Prop,(∀ σ' H',N σ' H'->∃m',m'<m/\W m' σ' H')/\tb { D with nx:=N,ct:=N,bk:=D.nx } σ H1 else D.nx σ H1
theorem Kz {c:Expr}{body:List Stmt}{tc:TT}{tb:TS}(hp:PassesOwn (model X.prog X.w) X.A X.env X.xe)(hc:PT X c tc)(hb:PSs X body tb):PS X (.While c body [] pos) (zo6 tc tb):=by
 intro pins s σ H D I h
 obtain⟨W,⟨m0,w0⟩,turn⟩:=h
 refine wpAny_While (codeAny_whileLoop (fun n s'=>∃ σ' H',Inv X pins σ' H' s'/\W n σ' H') ?_ m0 ⟨σ,H,I,w0⟩)
 rintro n s1 ⟨σ1,H1,I1,w1⟩
 refine wpAny_passesOwn hp (vJ (hc pins s1 σ1 H1 _ I1 (turn n σ1 H1 w1)) fun b s2 ⟨H2,I2,q2⟩=>?_)
 cases b with
 | true =>
  obtain⟨N,hN,q2⟩:=q2
  rw[if_pos rfl]
  refine wpAny_passesOwn hp (vJ (hb pins s2 σ1 H2 _ I2 q2) fun f s3 q3=>?_)
  cases f with
  | next =>
   obtain⟨σ3,H3,I3,n3⟩:=q3
   obtain⟨m',hm,w3⟩:=hN σ3 H3 n3
   exact⟨m',hm,σ3,H3,I3,w3⟩
  | cont =>
   obtain⟨σ3,H3,I3,n3⟩:=q3
   obtain⟨m',hm,w3⟩:=hN σ3 H3 n3
   exact⟨m',hm,σ3,H3,I3,w3⟩
  | brk=>exact q3
  | ret v=>exact q3
 | false =>
  rw[if_neg zx8]
  exact wpAny_execs_nil ⟨σ1,H2,I2,q2⟩
end
structure It where
 go:Nat->Hp->Prop
 JZ:Nat->Hp->V->Hp->Prop
 stop:Nat->Hp->Prop
def zde (X:Cx)(pins:List (Addr×Obj))(H:Hp)(b:Addr):Prop :=
 H b=none/\b≠X.env.locals/\b∉X.fs/\(b∈X.ex\/X.s₀.heap.objs.size<=b)/\(∀x c,X.env.cells.lookup x=some c->c≠b)/\∀p∈X.pn++pins,p.1≠b
theorem Inv.zhB {X:Cx}{pins:List (Addr×Obj)}{σ:St}{H H':Hp}{s:Shared}{b:Addr}(I:Inv X pins σ H s)(hb:s.heap.objs.size<=b)(hn:H' b=none):zde X pins H' b:=by
 refine⟨hn,Nat.ne_of_gt (zyd I.lt hb),I.zo0 hb,.inr (zyq I.sz hb),fun x c e z=>?_,fun p hp z=>?_⟩
 ·obtain⟨v,q⟩:=I.cell x c e
  exact absurd (zyd q.lt (by rw[z];exact hb)) (Nat.lt_irrefl _)
 ·exact absurd (zyd (zyb (I.pin p hp).1) (by rw[z];exact hb)) (Nat.lt_irrefl _)
abbrev Calm (X:Cx):Prop:=X.calm=true
structure Turn (P:Program)(w:World)(K:Frag)(tg:Expr)(J:It)(fp:List Addr)(it:Addr)(tn:Nat->Heap->Prop)(rd:Cx->Prop:=Calm):Prop where
 mem:it∈fp
 obj:∀i h,tn i h->∀b∈fp,∃o,h.get? b=some o/\∀v,o.data≠.cell v
 keep:∀i h h',tn i h->(∀b∈fp,∀o,h.get? b=some o->h'.get? b=some o)->tn i h'
 item:∀(X:Cx),X.prog=P->X.w=w->X.K=K->rd X->∀(i:Nat) (pins:List (Addr×Obj)) (s:Shared) (σ:St) (H:Hp) (E:Value->Shared->Prop),Inv X pins σ H s->(∀b∈fp,zde X pins H b)->tn i s.heap->J.go i H ->
  wpAny (model P w) X.A (pyNext (.ref it)) (fun r s1=>∃u,r=some u /\
   wpAny (model P w) X.A (letOwnedTupleGo tg (.ref it) u) (fun _ s2=>∃x H',Inv X pins σ H' s2/\RelV x u/\J.JZ i H x H'/\tn (i+1) s2.heap/\∀b∈fp,H' b=none) E s1) E s
 done:∀(X:Cx),X.prog=P->X.w=w->X.K=K->rd X->∀(i:Nat) (pins:List (Addr×Obj)) (s:Shared) (σ:St) (H:Hp) (E:Value->Shared->Prop),Inv X pins σ H s->(∀b∈fp,zde X pins H b)->tn i s.heap->J.stop i H ->
  wpAny (model P w) X.A (pyNext (.ref it)) (fun r s1=>r=none/\Inv X pins σ H s1) E s
 self:∀(A:Around) (i:Nat) (s:Shared) (Q:Value->Shared->Prop) (E:Value->Shared->Prop),tn i s.heap->Q (.ref it) s->wpAny (model P w) A (pyIter (.ref it)) Q E s
abbrev TI:=St->Hp->(It->Hp->Prop)->Prop
def zo7 (rd:Cx->Prop)(X:Cx)(pins:List (Addr×Obj))(σ:St)(tg:Expr)(R:It->Hp->Prop)(itv:Value)(s2:Shared):Prop :=
 ∃(it:Addr) (fp:List Addr) (tn:Nat->Heap->Prop) (J:It) (H':Hp),itv=.ref it/\Inv X pins σ H' s2/\Turn X.prog X.w X.K tg J fp it tn rd/\tn 0 s2.heap/\(∀b∈fp,zde X pins H' b)/\R J H'
abbrev PIE:=zo7 Calm
def PIr (rd:Cx->Prop)(X:Cx)(tg iter:Expr)(wi:TI):Prop :=
 ∀(pins:List (Addr×Obj)) (s:Shared) (σ:St) (H:Hp) (R:It->Hp->Prop),Inv X pins σ H s->wi σ H R ->
  wpAny (model X.prog X.w) X.A (eval iter X.env) (fun v s1=>wpAny (model X.prog X.w) X.A (pyIter v) (zo7 rd X pins σ tg R) X.xe s1) X.xe s
abbrev PI:=PIr Calm
theorem zdT {M:Model}{A:Around}{E:Value->Shared->Prop}{s:Shared}{tg:Expr}{it:Addr}{u:Value}{o:Obj}{n:String}{vs:Array Value}{Q:Unit->Shared->Prop}(ho:s.heap.get? it=some o)(hc:o.cls=.type n)(hd:o.data=.fields vs)
  (hn:["enumerate", "zip", "dict_itemiterator", "dict_reverseitemiterator", "odict_iterator", "itertools.zip_longest", "itertools.pairwise"].contains n=false)(hQ:Q () s):wpAny M A (letOwnedTupleGo tg (.ref it) u) Q E s:=by
 unfold letOwnedTupleGo
 cases tg<;>first
  | exact wpAny_pure hQ
  | (cases u<;>first
    | exact wpAny_pure hQ
    | (refine wpAny_bind (wpAny_load ho ?_)
       rw[hc,hd]
       show wpAny M A (if (["enumerate", "zip", "dict_itemiterator", "dict_reverseitemiterator", "odict_iterator", "itertools.zip_longest", "itertools.pairwise"].contains n&&vs[0]?==some (rawInt _))=true then _ else _) Q E s
       rw[if_neg (by intro h;rw[hn,Bool.false_and] at h;cases h)]
       exact wpAny_pure hQ))
def Itl (K:Frag)(a:Addr):It :=
 ⟨fun i H=>∃xs x,zO K H a xs/\xs[i]?=some x,fun i H x H'=>H'=H/\∀xs,zO K H a xs->xs[i]?=some x,fun i H=>∃xs,zO K H a xs/\xs.length<=i⟩
def Itt (K:Frag)(a:Addr):It :=
 ⟨fun i H=>∃xs x,vL K H a xs/\xs[i]?=some x,fun i H x H'=>H'=H/\∀xs,vL K H a xs->xs[i]?=some x,fun i H=>∃xs,vL K H a xs/\xs.length<=i⟩
def Itr (lo:Int)(n:Nat):It:=⟨fun i _=>i<n,fun i H x H'=>H'=H/\x=.int (lo+i),fun i _=>n<=i⟩
theorem zj6 {P:Program}{w:World}{K:Frag}{tg:Expr}(a it:Addr):Turn P w K tg (Itl K a) [it] it (fun i h=>h.IsListIter it a i) where
 mem:=by simp
 obj:=fun i h st b hb=>by
  have e:b=it:=by simpa using hb
  subst e
  obtain⟨o,e,c,d⟩:=st
  exact⟨o,e,fun v z=>by rw[d] at z;cases z⟩
 keep:=fun i h h' st k=>st.at fun o e=>k it (by simp) o e
 item:=by
  intro X hP hw hK hc i pins s σ H E I hf st hg
  subst hP hw hK
  obtain⟨xs,x,hq,hx⟩:=hg
  obtain⟨its,rv,p,hz⟩:=I.list hq
  obtain⟨u,hu,ru⟩:=rv.get hx
  obtain⟨f0,f1,f2,f3,f4,f5⟩:=hf it (by simp)
  refine wpAny_pyNext_list_item st p.isList (x:=u) (by simpa using hu) fun h' st' sb=>?_
  have I1:Inv X pins σ H { s with heap:=h' }:=I.turned (t':=s.toks) (fun b o hb e=>(sb.2 b hb).trans e) f0 f1 f3 f4 f5
  obtain⟨o,e,c,d⟩:=id st'
  exact⟨u,rfl,zdT (s:={ s with heap:=h' }) e c d (by decide) ⟨x,H,I1,ru,⟨rfl,fun ys hy=>by rw[I.Vo hy hq];exact hx⟩,st',fun b hb=>(hf b hb).1⟩⟩
 done:=by
  intro X hP hw hK hc i pins s σ H E I hf st hg
  subst hP hw hK
  obtain⟨xs,hq,hx⟩:=hg
  obtain⟨its,rv,p,hz⟩:=I.list hq
  obtain⟨f0,f1,f2,f3,f4,f5⟩:=hf it (by simp)
  have hl:=rv.length
  exact wpAny_pyNext_list_end (I.ok.hd hc) st p.isList (by simp;omega) fun h' eb=>⟨rfl,I.turned (t':=s.toks) (fun b o hb e=>eb b o hb e) f0 f1 f3 f4 f5⟩
 self:=fun _ _ _ _ _ st h=>wpAny_pyIter_listiter st h
theorem zhC {P:Program}{w:World}{K:Frag}{tg:Expr}(a it:Addr):Turn P w K tg (Itt K a) [it] it (fun i h=>h.IsTupleIter it a i) where
 mem:=by simp
 obj:=fun i h st b hb=>by
  have e:b=it:=by simpa using hb
  subst e
  obtain⟨o,e,c,d⟩:=st
  exact⟨o,e,fun v z=>by rw[d] at z;cases z⟩
 keep:=fun i h h' st k=>st.at fun o e=>k it (by simp) o e
 item:=by
  intro X hP hw hK hc i pins s σ H E I hf st hg
  subst hP hw hK
  obtain⟨xs,x,hq,hx⟩:=hg
  obtain⟨its,rv,p,hz⟩:=I.tuple hq
  obtain⟨u,hu,ru⟩:=rv.get hx
  obtain⟨f0,f1,f2,f3,f4,f5⟩:=hf it (by simp)
  refine wpAny_pyNext_tuple_item st (show s.heap.IsTuple a its.toArray from p) (x:=u) (by simpa using hu) fun h' st' sb=>?_
  have I1:Inv X pins σ H { s with heap:=h' }:=I.turned (t':=s.toks) (fun b o hb e=>(sb.2 b hb).trans e) f0 f1 f3 f4 f5
  obtain⟨o,e,c,d⟩:=id st'
  exact⟨u,rfl,zdT (s:={ s with heap:=h' }) e c d (by decide) ⟨x,H,I1,ru,⟨rfl,fun ys hy=>by rw[I.zdS hy hq];exact hx⟩,st',fun b hb=>(hf b hb).1⟩⟩
 done:=by
  intro X hP hw hK hc i pins s σ H E I hf st hg
  subst hP hw hK
  obtain⟨xs,hq,hx⟩:=hg
  obtain⟨its,rv,p,hz⟩:=I.tuple hq
  obtain⟨f0,f1,f2,f3,f4,f5⟩:=hf it (by simp)
  have hl:=rv.length
  exact wpAny_pyNext_tuple_end (I.ok.hd hc) st (show s.heap.IsTuple a its.toArray from p) (by simp;omega) fun h' eb=>⟨rfl,I.turned (t':=s.toks) (fun b o hb e=>eb b o hb e) f0 f1 f3 f4 f5⟩
 self:=fun _ _ _ _ _ st h=>wpAny_pyIter_tupleiter st h
theorem zhD {P:Program}{w:World}{K:Frag}{tg:Expr}(it:Addr)(lo:Int)(n:Nat):Turn P w K tg (Itr lo n) [it] it (fun i h=>IsRangeIter h it (lo+(i:Nat)*1) ((n:Int)-(i:Nat)) 1) where
 mem:=by simp
 obj:=fun i h st b hb=>by
  have e:b=it:=by simpa using hb
  subst e
  exact⟨_,st,fun v z=>by
   have z':Data.fields _=Data.cell v:=z
   cases z'⟩
 keep:=fun i h h' st k=>k it (by simp) _ st
 item:=by
  intro X hP hw hK hc i pins s σ H E I hf st hg
  subst hP hw hK
  obtain⟨f0,f1,f2,f3,f4,f5⟩:=hf it (by simp)
  have W:=Walks.range (prog:=X.prog) (w:=X.w) (I.ok.hd hc) it lo 1 n
  refine W.item i s _ _ hg st fun v h' tk hv st' kk=>?_
  obtain⟨t,rfl⟩:=hv
  have I1:Inv X pins σ H { s with heap:=h',toks:=tk }:=I.turned (fun b o hb e=>kk b o (by simpa using hb) e) f0 f1 f3 f4 f5
  refine⟨_,rfl,zdT (s:={ s with heap:=h',toks:=tk }) (n := "range_iterator") st' rfl rfl (by decide) ⟨.int (lo+i),H,I1,⟨t,?_⟩,⟨rfl,rfl⟩,st',fun b hb=>(hf b hb).1⟩⟩
  rw[Int.mul_one]
 done:=by
  intro X hP hw hK hc i pins s σ H E I hf st hg
  subst hP hw hK
  obtain⟨f0,f1,f2,f3,f4,f5⟩:=hf it (by simp)
  exact wpAny_pyNext_range_end (I.ok.hd hc) st (by have:n<=i:=hg;omega) fun h' eb=>⟨rfl,I.turned (t':=s.toks) (fun b o hb e=>eb b o hb e) f0 f1 f3 f4 f5⟩
 self:=fun _ _ _ _ _ st h=>wpAny_pyIter_rangeiter st h
section
variable {X:Cx}{tg:Expr}
def zqM (K:Frag)(tl:TE):TI:=fun σ H R=>tl σ H fun x H1=>∃a,x=.ref a/\(∃xs,zO K H1 a xs)/\R (Itl K a) H1
def zsV (K:Frag)(tl:TE):TI:=fun σ H R=>tl σ H fun x H1=>∃a,x=.ref a/\(∃xs,vL K H1 a xs)/\R (Itt K a) H1
theorem wC {l:Expr}{tl:TE}(hl:PE X l tl):PI X tg l (zqM X.K tl):=by
 intro pins s σ H R I h
 refine vJ (hl pins s σ H _ I h) fun v s1 ⟨x,H1,I1,r1,q1⟩=>?_
 obtain⟨a,e,⟨xs,hq⟩,q⟩:=q1
 subst e
 cases r1
 obtain⟨its,rv,p,hz⟩:=I1.list hq
 refine wpAny_pyIter_list p.isList ?_
 refine⟨s1.heap.objs.size,[s1.heap.objs.size],_,_,H1,rfl,I1.kept (t':=s1.toks) fun b o e=>zya _ e,zj6 a _,⟨_,zyp _ rfl,rfl,rfl⟩,fun b hb=>?_,q⟩
 have e:b=s1.heap.objs.size:=by simpa using hb
 subst e
 exact I1.zhB (zyk _) (I1.hok.fresh (zyk _))
theorem J6 {l:Expr}{tl:TE}(hl:PE X l tl):PI X tg l (zsV X.K tl):=by
 intro pins s σ H R I h
 refine vJ (hl pins s σ H _ I h) fun v s1 ⟨x,H1,I1,r1,q1⟩=>?_
 obtain⟨a,e,⟨xs,hq⟩,q⟩:=q1
 subst e
 cases r1
 obtain⟨its,rv,p,hz⟩:=I1.tuple hq
 refine wpAny_pyIter_tuple (show s1.heap.IsTuple a its.toArray from p) ?_
 refine⟨s1.heap.objs.size,[s1.heap.objs.size],_,_,H1,rfl,I1.kept (t':=s1.toks) fun b o e=>zya _ e,zhC a _,⟨_,zyp _ rfl,rfl,rfl⟩,fun b hb=>?_,q⟩
 have e:b=s1.heap.objs.size:=by simpa using hb
 subst e
 exact I1.zhB (zyk _) (I1.hok.fresh (zyk _))
theorem zf7 {pins:List (Addr×Obj)}{σ:St}{H:Hp}{s:Shared}{R:It->Hp->Prop}{E:Value->Shared->Prop}{lo hi:Int}{t u v:Tok}{tk:Nat}(I:Inv X pins σ H s)(h1:-(2^62)<=lo)(h2:lo<2^62)(h3:-(2^62)<=hi)(h4:hi<2^62)
  (q:R (Itr lo (hi-lo).toNat) H):wpAny (model X.prog X.w) X.A (pyIter (.ref s.heap.objs.size)) (PIE X pins σ tg R) E { s with heap:=s.heap.push { cls:=.type "range", data:=.fields #[.int lo t,.int hi u,.int 1 v] },toks:=tk }:=by
 refine wpAny_pyIter_range (IsRange.new ..) (small_one h1 h2 h3 h4) ?_
 have I1:Inv X pins σ H { s with heap:=s.heap.push { cls:=.type "range", data:=.fields #[.int lo t,.int hi u,.int 1 v] },toks:=tk }:=I.kept fun b o e=>zya _ e
 refine⟨(s.heap.push { cls:=.type "range", data:=.fields #[.int lo t,.int hi u,.int 1 v] }).objs.size,[(s.heap.push { cls:=.type "range", data:=.fields #[.int lo t,.int hi u,.int 1 v] }).objs.size],_,_,H,rfl,
  I1.kept (t':=tk) fun b o e=>zya _ e,zhD _ lo (hi-lo).toNat,?_,fun b hb=>?_,q⟩
 ·have e1:lo+((0:Nat):Int)*1=lo:=by simp
  have e2:(((hi-lo).toNat:Nat):Int)-((0:Nat):Int)=Builtin.Range.rangeSize lo hi 1:=by rw[rangeSize_one];split<;>omega
  show IsRangeIter _ _ (lo+((0:Nat):Int)*1) ((((hi-lo).toNat:Nat):Int)-((0:Nat):Int)) 1
  rw[e1,e2]
  exact zyp _ rfl
 ·have e:b=(s.heap.push { cls:=.type "range", data:=.fields #[.int lo t,.int hi u,.int 1 v] }).objs.size:=by simpa using hb
  subst e
  exact I1.zhB (zyk _) (I1.hok.fresh (zyk _))
def zqN (ta:TA):TI:=fun σ H R=>ta σ H fun vs H1=>∃j:Int,vs=[.int j]/\-(2^62)<=j/\j<2^62/\R (Itr 0 j.toNat) H1
def zqO (ta:TA):TI:=fun σ H R=>ta σ H fun vs H1=>∃i j:Int,vs=[.int i,.int j]/\(-(2^62)<=i/\i<2^62/\-(2^62)<=j/\j<2^62)/\R (Itr i (j-i).toNat) H1
theorem ur {a:Expr}{ta:TA}{p pos:Pos}(hg:Gl X "range")(hm:X.mg "range"=none)(ha:PA X [a] ta)(hs:starEach [a] X.env=[(false,eval a X.env)]:=by rfl):PI X tg (.Call (.Name "range" p) [a] [] pos) (zqN ta):=by
 intro pins s σ H R I h
 refine Call_ (Ws I hg hm boot_range (PyProof.Rows.callWith_type1 (vJ (ha pos pins s σ H _ I h) fun us s1 ⟨vs,H1,I1,r1,q1⟩=>?_) hs rfl))
 obtain⟨j,e,q1,q2,q⟩:=q1
 subst e
 cases r1 with
 | cons r rr =>
  cases rr
  obtain⟨t,rfl⟩:=r
  exact call_range_1 (zf7 I1 (by omega) (by omega) q1 q2 (by simpa using q))
theorem zdV {a b:Expr}{ta:TA}{p pos:Pos}(hg:Gl X "range")(hm:X.mg "range"=none)(ha:PA X [a,b] ta)(hs:starEach [a,b] X.env=[(false,eval a X.env),(false,eval b X.env)]:=by rfl)(hs2:starEach [b] X.env=[(false,eval b X.env)]:=by rfl) :
  PI X tg (.Call (.Name "range" p) [a,b] [] pos) (zqO ta):=by
 intro pins s σ H R I h
 refine Call_ (Ws I hg hm boot_range (PyProof.Rows.callWith_type1 (vJ (ha pos pins s σ H _ I h) fun us s1 ⟨vs,H1,I1,r1,q1⟩=>?_) (by rw[hs,hs2]) (by rw[hs2];rfl)))
 obtain⟨i,j,e,⟨q1,q2,q3,q4⟩,q⟩:=q1
 subst e
 cases r1 with
 | cons r rr =>
  cases rr with
  | cons r' rr =>
   cases rr
   obtain⟨t,rfl⟩:=r
   obtain⟨t',rfl⟩:=r'
   exact call_range_2 (zf7 I1 q1 q2 q3 q4 q)
def zsW (wi:TI)(g:TG)(tb:TS):TS:=fun D σ H=>wi σ H fun J H1=>∃W:Nat->Nat->St->Hp->Prop,(∃m,W 0 m σ H1)/\∀i m σ H,W i m σ H ->
 (J.stop i H/\D.nx σ H)\/(J.go i H/\∃N:St->Hp->Prop,(∀ σ' H',N σ' H'->∃m',m'<m/\W (i+1) m' σ' H')/\∀x H',J.JZ i H x H'->g x σ H' fun σ2 H2=>tb { D with nx:=N,ct:=N,bk:=D.nx } σ2 H2)
def Lf (fp:List Addr)(h:Heap):List (Addr×Obj):=fp.filterMap fun b=>(h.get? b).map fun o=>(b,o)
theorem Rj {fp:List Addr}{h:Heap}{b:Addr}{o:Obj}(hb:b∈fp)(e:h.get? b=some o):(b,o)∈Lf fp h:=List.mem_filterMap.mpr ⟨b,hb,by rw[e];rfl⟩
theorem zdW {fp:List Addr}{h:Heap}{p:Addr×Obj}(hp:p∈Lf fp h):p.1∈fp/\h.get? p.1=some p.2:=by
 obtain⟨b,hb,e⟩:=List.mem_filterMap.mp hp
 cases q:h.get? b with
 | none=>rw[q] at e;cases e
 | some o =>
  rw[q] at e
  have e':(b,o)=p:=zyz e
  subst e'
  exact⟨hb,q⟩
theorem Inv.pinned {pins:List (Addr×Obj)}{σ:St}{H:Hp}{s:Shared}{fp:List Addr}(I:Inv X pins σ H s)(hf:∀b∈fp,zde X pins H b)(ho:∀b∈fp,∃o,s.heap.get? b=some o/\∀v,o.data≠.cell v):Inv X (pins++Lf fp s.heap) σ H s :=
 I.Rf fun p hp=>(List.mem_append.mp hp).elim (fun z=>I.pin p (zyl _ z)) fun z=>by
  obtain⟨hb,e⟩:=zdW z
  obtain⟨f0,f1,f2,_⟩:=hf p.1 hb
  obtain⟨o,e',d⟩:=ho p.1 hb
  rw[e] at e';cases e'
  exact⟨e,f0,f1,f2,d⟩
theorem Inv.zbQ {pins pl:List (Addr×Obj)}{σ:St}{H:Hp}{s:Shared}(I:Inv X (pins++pl) σ H s):Inv X pins σ H s:=I.Rf fun p hp=>I.pin p (zyl _ (List.mem_append_left _ hp))
theorem wD {iter:Expr}{body:List Stmt}{wi:TI}{g:TG}{tb:TS}{pos:Pos}(hp:PassesOwn (model X.prog X.w) X.A X.env X.xe)(hc:X.calm=true)(hi:PI X tg iter wi)(hg:PG X tg g)(hb:PSs X body tb)
  (hs:∀x,foldedSetIterable iter X.env x=pure x:=by intro _;rfl):PS X (.For tg iter body [] pos) (zsW wi g tb):=by
 intro pins s σ H D I h
 refine wpAny_For (vJ (hi pins s σ H _ I h) fun v s1 h1=>vJ h1 fun itv s2 h2=>?_) hs
 obtain⟨it,fp,tn,J,H2,e,I2,T,st2,f2,W,⟨m0,w0⟩,turn⟩:=h2
 subst e
 have stat:∀{H':Hp},(∀b∈fp,H' b=none)->∀b∈fp,zde X pins H' b:=fun hn b hb=>⟨hn b hb,(f2 b hb).2⟩
 refine codeAny_forLoop_any (fun n s'=>∃i σ' H',Inv X pins σ' H' s'/\tn i s'.heap/\(∀b∈fp,H' b=none)/\W i n σ' H') ?_ m0 ⟨0,σ,H2,I2,st2,fun b hb=>(f2 b hb).1,w0⟩
 rintro n s3 ⟨i,σ3,H3,I3,st3,fr3,w3⟩
 rcases turn i n σ3 H3 w3 with ⟨stop,qn⟩ | ⟨go,N,hN,step⟩
 ·refine wpAny_passesOwn hp (vJ (T.done X rfl rfl rfl hc i pins s3 σ3 H3 X.xe I3 (stat fr3) st3 stop) fun r s4 ⟨hr,I4⟩=>?_)
  subst hr
  exact wpAny_execs_nil ⟨σ3,H3,I4,qn⟩
 ·refine wpAny_passesOwn hp (vJ (T.item X rfl rfl rfl hc i pins s3 σ3 H3 X.xe I3 (stat fr3) st3 go) fun r s4 ⟨u,hr,h4⟩=>?_)
  subst hr
  refine wpAny_passesOwn hp (vJ h4 fun _ s5 ⟨x,H5,I5,r5,y5,st5,fr5⟩=>?_)
  have I5':=I5.pinned (stat fr5) (T.obj _ _ st5)
  refine wpAny_passesOwn hp (vJ (hg _ s5 σ3 H5 x u _ I5' r5 (step x H5 y5)) fun _ s6 ⟨σ6,H6,I6,q6⟩=>?_)
  refine wpAny_passesOwn hp (vJ (hb _ s6 σ6 H6 _ I6 q6) fun f s7 q7=>?_)
  have again:∀{σ7:St} {H7:Hp},Inv X (pins++Lf fp s5.heap) σ7 H7 s7->N σ7 H7->∃m,m<n/\∃i σ' H',Inv X pins σ' H' s7/\tn i s7.heap/\(∀b∈fp,H' b=none)/\W i m σ' H':=fun {σ7 H7} I7 n7=>by
   obtain⟨m',hm,w7⟩:=hN σ7 H7 n7
   refine⟨m',hm,i+1,σ7,H7,I7.zbQ,T.keep _ _ _ st5 fun b hb o e=>(I7.pin (b,o) (zyl _ (zyl _ (Rj hb e)))).1,fun b hb=>?_,w7⟩
   obtain⟨o,e,d⟩:=T.obj _ _ st5 b hb
   exact(I7.pin (b,o) (zyl _ (zyl _ (Rj hb e)))).2.1
  cases f with
  | next=>obtain⟨σ7,H7,I7,n7⟩:=q7;exact again I7 n7
  | cont=>obtain⟨σ7,H7,I7,n7⟩:=q7;exact again I7 n7
  | brk=>obtain⟨σ7,H7,I7,q7⟩:=q7;exact⟨σ7,H7,I7.zbQ,q7⟩
  | ret v=>obtain⟨x7,σ7,H7,I7,r7,q7⟩:=q7;exact⟨x7,σ7,H7,I7.zbQ,r7,q7⟩
end
theorem uw {K:Frag}{a:Addr}{xs:List V}{g:TG}{tb:TS}{D:Ends}{σ:St}{H:Hp}(Pv:Nat->St->Hp->Prop)(h0:Pv 0 σ H)(hl:∀i σ H,i<=xs.length->Pv i σ H->zO K H a xs)
  (hs:∀i x σ H,xs[i]?=some x->Pv i σ H->g x σ H fun σ2 H2=>tb { D with nx:=Pv (i+1),ct:=Pv (i+1),bk:=D.nx } σ2 H2)(hd:∀ σ H,Pv xs.length σ H->D.nx σ H) :
  ∃W:Nat->Nat->St->Hp->Prop,(∃m,W 0 m σ H)/\∀i m σ H,W i m σ H ->
   ((Itl K a).stop i H/\D.nx σ H)\/((Itl K a).go i H/\∃N:St->Hp->Prop,(∀ σ' H',N σ' H'->∃m',m'<m/\W (i+1) m' σ' H')/\∀x H',(Itl K a).JZ i H x H'->g x σ H' fun σ2 H2=>tb { D with nx:=N,ct:=N,bk:=D.nx } σ2 H2):=by
 refine⟨fun i m σ H=>m=xs.length-i/\i<=xs.length/\Pv i σ H,⟨xs.length,by simp,zyr _,h0⟩,?_⟩
 rintro i m σ H ⟨rfl,hi,p⟩
 have q:=hl i σ H hi p
 by_cases hlt:i<xs.length
 ·refine .inr ⟨⟨xs,xs[i],q,by simp[hlt]⟩,Pv (i+1),fun σ' H' p'=>⟨xs.length-(i+1),by omega,rfl,hlt,p'⟩,fun x H' y=>?_⟩
  obtain⟨e,y⟩:=y
  subst e
  exact hs i x σ _ (y xs q) p
 ·have e:i=xs.length:=by omega
  subst e
  exact .inl ⟨⟨xs,q,zyk _⟩,hd σ H p⟩
theorem zm7 {K:Frag}{a:Addr}{xs:List V}{g:TG}{tb:TS}{D:Ends}{σ:St}{H:Hp}(Pv:Nat->St->Hp->Prop)(h0:Pv 0 σ H)(hl:∀i σ H,i<=xs.length->Pv i σ H->vL K H a xs)
  (hs:∀i x σ H,xs[i]?=some x->Pv i σ H->g x σ H fun σ2 H2=>tb { D with nx:=Pv (i+1),ct:=Pv (i+1),bk:=D.nx } σ2 H2)(hd:∀ σ H,Pv xs.length σ H->D.nx σ H) :
  ∃W:Nat->Nat->St->Hp->Prop,(∃m,W 0 m σ H)/\∀i m σ H,W i m σ H ->
   ((Itt K a).stop i H/\D.nx σ H)\/((Itt K a).go i H/\∃N:St->Hp->Prop,(∀ σ' H',N σ' H'->∃m',m'<m/\W (i+1) m' σ' H')/\∀x H',(Itt K a).JZ i H x H'->g x σ H' fun σ2 H2=>tb { D with nx:=N,ct:=N,bk:=D.nx } σ2 H2):=by
 refine⟨fun i m σ H=>m=xs.length-i/\i<=xs.length/\Pv i σ H,⟨xs.length,by simp,zyr _,h0⟩,?_⟩
 rintro i m σ H ⟨rfl,hi,p⟩
 have q:=hl i σ H hi p
 by_cases hlt:i<xs.length
 ·refine .inr ⟨⟨xs,xs[i],q,by simp[hlt]⟩,Pv (i+1),fun σ' H' p'=>⟨xs.length-(i+1),by omega,rfl,hlt,p'⟩,fun x H' y=>?_⟩
  obtain⟨e,y⟩:=y
  subst e
  exact hs i x σ _ (y xs q) p
 ·have e:i=xs.length:=by omega
  subst e
  exact .inl ⟨⟨xs,q,zyk _⟩,hd σ H p⟩
theorem uZ {lo:Int}{n:Nat}{g:TG}{tb:TS}{D:Ends}{σ:St}{H:Hp}(Pv:Nat->St->Hp->Prop)(h0:Pv 0 σ H)
  (hs:∀i σ H,i<n->Pv i σ H->g (.int (lo+i)) σ H fun σ2 H2=>tb { D with nx:=Pv (i+1),ct:=Pv (i+1),bk:=D.nx } σ2 H2)(hd:∀ σ H,Pv n σ H->D.nx σ H) :
  ∃W:Nat->Nat->St->Hp->Prop,(∃m,W 0 m σ H)/\∀i m σ H,W i m σ H ->
   ((Itr lo n).stop i H/\D.nx σ H)\/((Itr lo n).go i H/\∃N:St->Hp->Prop,(∀ σ' H',N σ' H'->∃m',m'<m/\W (i+1) m' σ' H')/\∀x H',(Itr lo n).JZ i H x H'->g x σ H' fun σ2 H2=>tb { D with nx:=N,ct:=N,bk:=D.nx } σ2 H2):=by
 refine⟨fun i m σ H=>m=n-i/\i<=n/\Pv i σ H,⟨n,by simp,zyr _,h0⟩,?_⟩
 rintro i m σ H ⟨rfl,hi,p⟩
 by_cases hlt:i<n
 ·refine .inr ⟨hlt,Pv (i+1),fun σ' H' p'=>⟨n-(i+1),by omega,rfl,hlt,p'⟩,fun x H' y=>?_⟩
  obtain⟨e,y⟩:=y
  subst e y
  exact hs i σ _ hlt p
 ·have e:i=n:=by omega
  subst e
  exact .inl ⟨zyk _,hd σ H p⟩
abbrev R2:=V->V->Hp->VK->Prop
def Qe (X:Cx)(f:Value->Value->Sem Value)(r:R2):Prop :=
 ∀(pins:List (Addr×Obj)) (s:Shared) (σ:St) (H:Hp) (x y:V) (v u:Value) (Q:VK),Inv X pins σ H s->RelV x v->RelV y u->r x y H Q ->
  wpAny (model X.prog X.w) X.A (f v u) (EP X pins σ Q) X.xe s
def UnR (X:Cx)(f:Value->Sem Value)(r:V->Hp->VK->Prop):Prop :=
 ∀(pins:List (Addr×Obj)) (s:Shared) (σ:St) (H:Hp) (x:V) (v:Value) (Q:VK),Inv X pins σ H s->RelV x v->r x H Q ->
  wpAny (model X.prog X.w) X.A (f v) (EP X pins σ Q) X.xe s
def Vq (X:Cx)(f:Value)(r:List V->Hp->VK->Prop):Prop :=
 ∀(pins:List (Addr×Obj)) (s:Shared) (σ:St) (H:Hp) (xs:List V) (us:List Value) (Q:VK),Inv X pins σ H s->Vals xs us->r xs H Q ->
  wpAny (model X.prog X.w) X.A (call f us) (EP X pins σ Q) X.xe s
def zsZ (X:Cx)(r:V->Hp->(Bool->Hp->Prop)->Prop):Prop :=
 ∀(pins:List (Addr×Obj)) (s:Shared) (σ:St) (H:Hp) (x:V) (v:Value) (Q:Bool->Hp->Prop),Inv X pins σ H s->RelV x v->r x H Q ->
  wpAny (model X.prog X.w) X.A (truthy v) (TP X pins σ Q) X.xe s
def tOp (r:R2)(ta tb:TE):TE:=fun σ H Q=>ta σ H fun x H1=>tb σ H1 fun y H2=>r x y H2 Q
def tUn (r:V->Hp->VK->Prop)(ta:TE):TE:=fun σ H Q=>ta σ H fun x H1=>r x H1 Q
def rI (C:Int->Int->Prop)(g:Int->Int->V):R2:=fun x y H Q=>∃i j,x=.int i/\y=.int j/\C i j/\Q (g i j) H
def rI0 (g:Int->Int->V):R2:=fun x y H Q=>∃i j,x=.int i/\y=.int j/\Q (g i j) H
def rU (g:Int->V):V->Hp->VK->Prop:=fun x H Q=>∃i,x=.int i/\Q (g i) H
section
variable {X:Cx}{a b c:Expr}{ta tb tc:TE}{pos:Pos}
theorem zo8 (ha:PE X a ta)(hb:PE X b tb){pins:List (Addr×Obj)}{s:Shared}{σ:St}{H:Hp}{R:V->V->Hp->Prop}(I:Inv X pins σ H s)
  (h:ta σ H fun x H1=>tb σ H1 fun y H2=>R x y H2){Q:Value->Shared->Prop}{f:Value->Value->Sem Value}
  (hf:∀v u s2 x y H2,Inv X pins σ H2 s2->RelV x v->RelV y u->R x y H2->wpAny (model X.prog X.w) X.A (f v u) Q X.xe s2) :
  wpAny (model X.prog X.w) X.A (eval a X.env) (fun v s₁=>wpAny (model X.prog X.w) X.A (eval b X.env) (fun u s₂=>wpAny (model X.prog X.w) X.A (f v u) Q X.xe s₂) X.xe s₁) X.xe s:=by
 refine vJ (ha pins s σ H _ I h) fun v s1 ⟨x,H1,I1,r1,q1⟩=>?_
 refine vJ (hb pins s1 σ H1 _ I1 q1) fun u s2 ⟨y,H2,I2,r2,q2⟩=>?_
 exact hf v u s2 x y H2 I2 r1 r2 q2
theorem zJ {op:Operator}{r:R2}(ho:Qe X (binaryOp op) r)(ha:PE X a ta)(hb:PE X b tb):PE X (.BinOp a op b pos) (tOp r ta tb):=by
 intro pins s σ H Q I h
 exact wpAny_BinOp (zo8 ha hb I h fun v u s2 x y H2 I2 rx ry q=>ho pins s2 σ H2 x y v u Q I2 rx ry q)
theorem zdX {op:UnaryOp}{r:V->Hp->VK->Prop}(ho:UnR X (unaryOp op) r)(ha:PE X a ta):PE X (.UnaryOp op a pos) (tUn r ta):=by
 intro pins s σ H Q I h
 exact UnaryOp_ (vJ (ha pins s σ H _ I h) fun v s1 ⟨x,H1,I1,r1,q1⟩=>ho pins s1 σ H1 x v Q I1 r1 q1)
theorem opI {f:Value->Value->Sem Value}{C:Int->Int->Prop}{g:Int->Int->Int}
  (rule:∀(i j:Int) (t u:Tok) (s:Shared) (Q:Value->Shared->Prop) (E:Value->Shared->Prop),C i j->Q (.int (g i j) s.toks) { s with toks:=s.toks+1 }->wpAny (model X.prog X.w) X.A (f (.int i t) (.int j u)) Q E s) :
  Qe X f (rI C fun i j=>.int (g i j)):=by
 intro pins s σ H x y v u Q I rx ry h
 obtain⟨i,j,rfl,rfl,hc,q⟩:=h
 obtain⟨t,rfl⟩:=rx
 obtain⟨t',rfl⟩:=ry
 exact rule i j t t' s _ _ hc ⟨.int (g i j),H,I.tok _,⟨_,rfl⟩,q⟩
theorem zj7 {f:Value->Value->Sem Value}{g:Int->Int->Int}
  (rule:∀(i j:Int) (t u:Tok) (s:Shared) (Q:Value->Shared->Prop) (E:Value->Shared->Prop),Q (.int (g i j) s.toks) { s with toks:=s.toks+1 }->wpAny (model X.prog X.w) X.A (f (.int i t) (.int j u)) Q E s) :
  Qe X f (rI0 fun i j=>.int (g i j)):=by
 intro pins s σ H x y v u Q I rx ry h
 obtain⟨i,j,rfl,rfl,q⟩:=h
 obtain⟨t,rfl⟩:=rx
 obtain⟨t',rfl⟩:=ry
 exact rule i j t t' s _ _ ⟨.int (g i j),H,I.tok _,⟨_,rfl⟩,q⟩
theorem zo9 {f:Value->Value->Sem Value}{g:Int->Int->Bool}
  (rule:∀(i j:Int) (t u:Tok) (s:Shared) (Q:Value->Shared->Prop) (E:Value->Shared->Prop),Q (.bool (g i j)) s->wpAny (model X.prog X.w) X.A (f (.int i t) (.int j u)) Q E s) :
  Qe X f (rI0 fun i j=>.bl (g i j)):=by
 intro pins s σ H x y v u Q I rx ry h
 obtain⟨i,j,rfl,rfl,q⟩:=h
 obtain⟨t,rfl⟩:=rx
 obtain⟨t',rfl⟩:=ry
 exact rule i j t t' s _ _ ⟨.bl (g i j),H,I,rfl,q⟩
def zs0 (i j:Int):Prop:=0<j/\j<1073741824
def zs3 (i j:Int):Prop:=0<=j/\j<=1000000/\i.natAbs<2^64
def zpa (i j:Int):Prop:=(-(2^64)<i/\i<2^64)\/(-(2^64)<j/\j<2^64)
theorem zpa.ok {i j:Int}(h:zpa i j):IntMulOk i j:=by
 rcases h with ⟨h1,h2⟩ | ⟨h1,h2⟩
 ·exact .of_left (intBits_le_64 h1 h2)
 ·exact .of_right (intBits_le_64 h1 h2)
theorem zhE (k:Nat):(0:Int)<=2^k:=by
 rw[two_pow_cast]
 exact Int.natCast_nonneg _
theorem xU:Qe X (binaryOp .Add) (rI0 fun i j=>.int (i+j)):=zj7 fun _ _ _ _ _ _ _ q=>add_int q
theorem UW:Qe X (binaryOp .Sub) (rI0 fun i j=>.int (i-j)):=zj7 fun _ _ _ _ _ _ _ q=>sub_int q
theorem Qu:Qe X (binaryOp .Mult) (rI zpa fun i j=>.int (i*j)):=opI fun _ _ _ _ _ _ _ hc q=>mul_int q hc.ok
theorem ziW:Qe X (binaryOp .FloorDiv) (rI zs0 fun i j=>.int (i / j)):=opI fun i j _ _ _ _ _ hc q=>by
 have h1:(0:Int)<j:=hc.1
 have h2:j<1073741824:=hc.2
 exact floordiv_int (by omega) (by rw[Int.fdiv_eq_ediv_of_nonneg i (by omega)];exact q) (.inl (PyProof.noPylong_small (by omega)))
theorem vK:Qe X (binaryOp .Mod) (rI (fun _ j=>0<j) fun i j=>.int (i%j)):=opI fun i j _ _ _ _ _ hc q=>by
 have h1:(0:Int)<j:=hc
 exact mod_int' (by omega) (by rw[Int.fmod_eq_emod_of_nonneg i (by omega)];exact q)
theorem zpb:Qe X (binaryOp .Pow) (rI zs3 fun i j=>.int (i^j.toNat)):=opI fun _ _ _ _ _ _ _ hc q=>pow_int_small hc.1 hc.2.1 hc.2.2 q
theorem zpc:Qe X (binaryOp .RShift) (rI (fun _ j=>0<=j) fun i j=>.int (i / 2^j.toNat)):=opI fun i j _ _ _ _ _ hc q =>
 rshift_int hc (by rw[Int.fdiv_eq_ediv_of_nonneg i (zhE _)];exact q)
theorem zpd:Qe X (binaryOp .BitAnd) (rI0 fun i j=>.int (Builtin.bitAnd i j)):=zj7 fun _ _ _ _ _ _ _ q=>and_int q
theorem zqQ:Qe X (binaryOp .BitOr) (rI0 fun i j=>.int (Builtin.bitOr i j)):=zj7 fun _ _ _ _ _ _ _ q=>or_int q
theorem zpe:Qe X (binaryOp .BitXor) (rI0 fun i j=>.int (Builtin.bitXor i j)):=zj7 fun _ _ _ _ _ _ _ q=>xor_int q
theorem zeM:Qe X (inplaceOp .Add) (rI0 fun i j=>.int (i+j)):=zj7 fun _ _ _ _ _ _ _ q=>iadd_int q
theorem unI {f:Value->Sem Value}{g:Int->Int}
  (rule:∀(i:Int) (t:Tok) (s:Shared) (Q:Value->Shared->Prop) (E:Value->Shared->Prop),Q (.int (g i) s.toks) { s with toks:=s.toks+1 }->wpAny (model X.prog X.w) X.A (f (.int i t)) Q E s) :
  UnR X f (rU fun i=>.int (g i)):=by
 intro pins s σ H x v Q I rx h
 obtain⟨i,rfl,q⟩:=h
 obtain⟨t,rfl⟩:=rx
 exact rule i t s _ _ ⟨.int (g i),H,I.tok _,⟨_,rfl⟩,q⟩
theorem J7:UnR X (unaryOp .USub) (rU fun i=>.int (-i)):=unI fun _ _ _ _ _ q=>neg_int q
end
def zm8:V->V->Bool
 | .non,.non=>true | .non,.int _=>true | .int _,.non=>true | .non,.bl _=>true | .bl _,.non=>true | .non,.str _=>true | .str _,.non=>true
 | .int _,.int _=>true | .bl _,.bl _=>true | .str _,.str _=>true | .byt _,.byt _=>true
 | .int _,.str _=>true | .str _,.int _=>true | .bl _,.str _=>true | .str _,.bl _=>true
 | _,_=>false
def rEq:R2:=fun x y H Q=>zm8 x y=true/\Q (.bl (decide (x=y))) H
def rNe:R2:=fun x y H Q=>zm8 x y=true/\Q (.bl (!decide (x=y))) H
theorem ziX {i j:Int}:decide (V.int i=V.int j)=(i==j):=by
 rw[zyL]
 simp
theorem zla {i j:Bool}:decide (V.bl i=V.bl j)=(i==j):=by
 rw[zyL]
 simp
theorem ziY {i j:Str}:decide (V.str i=V.str j)=(i==j):=by
 rw[zyL]
 simp
theorem ziZ {i j:Array UInt8}:decide (V.byt i=V.byt j)=(i.toList==j.toList):=by
 rw[zyL]
 cases i
 cases j
 simp
section
variable {X:Cx}{a b c:Expr}{ta tb tc:TE}{pos:Pos}
theorem xK {pins:List (Addr×Obj)}{σ:St}{H:Hp}{s:Shared}{Q:VK}{k k':Bool}(I:Inv X pins σ H s)(q:Q (.bl k) H)(e:k=k'):EP X pins σ Q (.bool k') s:=by
 subst e
 exact⟨.bl k,H,I,rfl,q⟩
theorem xW:Qe X (compareOp .Eq) rEq:=by
 intro pins s σ H x y v u Q I rx ry h
 obtain⟨hs,q⟩:=h
 cases x with
 | non =>
  cases rx
  cases y with
  | non=>cases ry;exact PySem.EqNone.eq_none_none (xK I q (by simp))
  | bl j=>cases ry;exact PySem.EqNone.eq_none_bool (xK I q (by simp))
  | int j=>obtain⟨t',rfl⟩:=ry;exact PySem.EqNone.eq_none_int (xK I q (by simp))
  | str j=>obtain⟨t',rfl⟩:=ry;exact PySem.EqNone.eq_none_str (xK I q (by simp))
  | _=>exact absurd (show false=true from hs) zx8
 | bl i =>
  cases rx
  cases y with
  | non=>cases ry;exact PySem.EqNone.eq_bool_none (xK I q (by simp))
  | bl j=>cases ry;exact eq_bool (xK I q zla)
  | str j=>obtain⟨t',rfl⟩:=ry;exact PySem.EqMixed.eq_bool_str (xK I q (by simp))
  | _=>exact absurd (show false=true from hs) zx8
 | int i =>
  obtain⟨t,rfl⟩:=rx
  cases y with
  | non=>cases ry;exact PySem.EqNone.eq_int_none (xK I q (by simp))
  | int j=>obtain⟨t',rfl⟩:=ry;exact eq_int (xK I q ziX)
  | str j=>obtain⟨t',rfl⟩:=ry;exact PySem.EqMixed.eq_int_str (xK I q (by simp))
  | _=>exact absurd (show false=true from hs) zx8
 | str i =>
  obtain⟨t,rfl⟩:=rx
  cases y with
  | non=>cases ry;exact PySem.EqNone.eq_str_none (xK I q (by simp))
  | bl j=>cases ry;exact PySem.EqMixed.eq_str_bool (xK I q (by simp))
  | int j=>obtain⟨t',rfl⟩:=ry;exact PySem.EqMixed.eq_str_int (xK I q (by simp))
  | str j=>obtain⟨t',rfl⟩:=ry;exact eq_str (xK I q ziY)
  | _=>exact absurd (show false=true from hs) zx8
 | byt i =>
  obtain⟨t,rfl⟩:=rx
  cases y with
  | byt j=>obtain⟨t',rfl⟩:=ry;exact PySem.W.eq_bytes (xK I q ziZ)
  | _=>exact absurd (show false=true from hs) zx8
 | _=>cases y<;>exact absurd (show false=true from hs) zx8
theorem Mt:Qe X (compareOp .NotEq) rNe:=by
 intro pins s σ H x y v u Q I rx ry h
 obtain⟨hs,q⟩:=h
 cases x with
 | non =>
  cases rx
  cases y with
  | non=>cases ry;exact PySem.EqNone.ne_none_none (xK I q (by simp))
  | bl j=>cases ry;exact PySem.EqNone.ne_none_bool (xK I q (by simp))
  | int j=>obtain⟨t',rfl⟩:=ry;exact PySem.EqNone.ne_none_int (xK I q (by simp))
  | str j=>obtain⟨t',rfl⟩:=ry;exact PySem.EqNone.ne_none_str (xK I q (by simp))
  | _=>exact absurd (show false=true from hs) zx8
 | bl i =>
  cases rx
  cases y with
  | non=>cases ry;exact PySem.EqNone.ne_bool_none (xK I q (by simp))
  | bl j=>cases ry;exact ne_bool (xK I q (congrArg not zla))
  | str j=>obtain⟨t',rfl⟩:=ry;exact PySem.EqMixed.ne_bool_str (xK I q (by simp))
  | _=>exact absurd (show false=true from hs) zx8
 | int i =>
  obtain⟨t,rfl⟩:=rx
  cases y with
  | non=>cases ry;exact PySem.EqNone.ne_int_none (xK I q (by simp))
  | int j=>obtain⟨t',rfl⟩:=ry;exact ne_int (xK I q (congrArg not ziX))
  | str j=>obtain⟨t',rfl⟩:=ry;exact PySem.EqMixed.ne_int_str (xK I q (by simp))
  | _=>exact absurd (show false=true from hs) zx8
 | str i =>
  obtain⟨t,rfl⟩:=rx
  cases y with
  | non=>cases ry;exact PySem.EqNone.ne_str_none (xK I q (by simp))
  | bl j=>cases ry;exact PySem.EqMixed.ne_str_bool (xK I q (by simp))
  | int j=>obtain⟨t',rfl⟩:=ry;exact PySem.EqMixed.ne_str_int (xK I q (by simp))
  | str j=>obtain⟨t',rfl⟩:=ry;exact ne_str (xK I q (congrArg not ziY))
  | _=>exact absurd (show false=true from hs) zx8
 | byt i =>
  obtain⟨t,rfl⟩:=rx
  cases y with
  | byt j=>obtain⟨t',rfl⟩:=ry;exact PySem.W.ne_bytes (xK I q (congrArg not ziZ))
  | _=>exact absurd (show false=true from hs) zx8
 | _=>cases y<;>exact absurd (show false=true from hs) zx8
theorem zi0:Qe X (compareOp .Lt) (rI0 fun i j=>.bl (decide (i<j))):=zo9 fun _ _ _ _ _ _ _ q=>lt_int q
theorem KC:Qe X (compareOp .Gt) (rI0 fun i j=>.bl (decide (j<i))):=zo9 fun _ _ _ _ _ _ _ q=>gt_int q
theorem zoy:Qe X (compareOp .GtE) (rI0 fun i j=>.bl (decide (j<=i))):=zo9 fun _ _ _ _ _ _ _ q=>ge_int q
theorem zpf:Qe X (compareOp .Is) (fun x y H Q=>y=.non/\Q (.bl (decide (x=.non))) H):=by
 intro pins s σ H x y v u Q I rx ry h
 obtain⟨rfl,q⟩:=h
 cases ry
 refine is_none_gen (xK I q ?_)
 cases x<;>first
  | (cases rx;rfl)
  | (obtain⟨t,rfl⟩:=rx;rfl)
theorem zU (b:Expr){op:CmpOp}(h:op≠.In:=by decide)(h2:op≠.NotIn:=by decide):behindInMarks op b=false:=by
 have e1:(op==CmpOp.In)=false:=by cases op<;>first | rfl | exact absurd rfl h
 have e2:(op==CmpOp.NotIn)=false:=by cases op<;>first | rfl | exact absurd rfl h2
 cases b<;>simp[behindInMarks,e1,e2]
theorem vU {op:CmpOp}{r:R2}(ho:Qe X (compareOp op) r)(ha:PE X a ta)(hb:PE X b tb)(hm:behindInMarks op b=false):PE X (.Compare a [op] [b] pos) (tOp r ta tb):=by
 intro pins s σ H Q I h
 exact wpAny_Compare1 (zo8 ha hb I h fun v u s2 x y H2 I2 rx ry q=>ho pins s2 σ H2 x y v u Q I2 rx ry q) hm
inductive zm9 (x:V)(k:Bool->Prop):Prop
 | mk (c:Bool) (_:x=.bl c) (_:k c):zm9 x k
def zqR (t:TE):TT:=fun σ H Q=>t σ H fun x H'=>zm9 x fun k=>Q k H'
theorem zP {op:CmpOp}{r:R2}(ho:Qe X (compareOp op) r)(ha:PE X a ta)(hb:PE X b tb)(hm:behindInMarks op b=false):PT X (.Compare a [op] [b] pos) (zqR (tOp r ta tb)):=by
 intro pins s σ H Q I h
 refine wpAny_isTrue_Compare1 (vJ (ha pins s σ H _ I h) fun v s1 ⟨x,H1,I1,r1,q1⟩=>vJ (hb pins s1 σ H1 _ I1 q1) fun u s2 ⟨y,H2,I2,r2,q2⟩ =>
  vJ (ho pins s2 σ H2 x y v u _ I2 r1 r2 q2) fun c s3 ⟨z,H3,I3,r3,k,e,q3⟩=>?_) hm
 subst e
 cases r3
 exact wpAny_truthy_bool ⟨H3,I3,q3⟩
def zpg (K:Frag)(x:V)(H:Hp)(k:Bool):Prop :=
 match x with
 | .non=>k=false
 | .bl b=>k=b
 | .int i=>k=(i != 0)
 | .str y=>y.length<=sizeLine/\k=((y.length:Int) != 0)
 | .byt y=>y.size<=sizeLine/\k=((y.size:Int) != 0)
 | .ref p=>(∃xs,zO K H p xs/\k=!xs.isEmpty)\/(∃xs,vL K H p xs/\k=!xs.isEmpty)\/∃kvs,H p=some (.dK kvs)/\k=!kvs.isEmpty
 | _=>False
theorem zhF {κ:Type}{kvs:List (κ×V)}{vs:List (κ×Value)}(r:KV kvs vs):(!vs.isEmpty)=!kvs.isEmpty:=by
 cases r<;>rfl
theorem zbR {xs:List V}{its:List Value}(r:Vals xs its):(!its.toArray.isEmpty)=!xs.isEmpty:=by
 cases r<;>simp
theorem U0:(sizeLine:Nat)<2^63:=by rw[sizeLine_eq];decide
theorem zph:zsZ X (fun x H Q=>∃k,zpg X.K x H k/\Q k H):=by
 intro pins s σ H x v Q I rx h
 obtain⟨k,e,q⟩:=h
 have hl:=U0
 have hs:sizeLine=16777216:=sizeLine_eq
 cases x with
 | non =>
  cases rx
  have e':k=false:=e
  subst e'
  exact truthy_none ⟨H,I,q⟩
 | bl b =>
  cases rx
  have e':k=b:=e
  subst e'
  exact wpAny_truthy_bool ⟨H,I,q⟩
 | int i =>
  obtain⟨t,rfl⟩:=rx
  have e':k=(i != 0):=e
  subst e'
  exact PySem.P.truthy_int ⟨H,I,q⟩
 | str y =>
  obtain⟨t,rfl⟩:=rx
  obtain⟨hy,e'⟩:y.length<=sizeLine/\k=((y.length:Int) != 0):=e
  subst e'
  exact PySem.P.truthy_str (by omega) ⟨H,I.tok _,q⟩
 | byt y =>
  obtain⟨t,rfl⟩:=rx
  obtain⟨hy,e'⟩:y.size<=sizeLine/\k=((y.size:Int) != 0):=e
  subst e'
  exact PySem.W.truthy_bytes (by omega) ⟨H,I.tok _,q⟩
 | ref p =>
  cases rx
  have e':(∃xs,zO X.K H p xs/\k=!xs.isEmpty)\/(∃xs,vL X.K H p xs/\k=!xs.isEmpty)\/∃kvs,H p=some (.dK kvs)/\k=!kvs.isEmpty:=e
  rcases e' with ⟨xs,hx,e'⟩ | ⟨xs,hx,e'⟩ | ⟨kvs,hx,e'⟩
  ·subst e'
   obtain⟨its,r,pl,hz⟩:=I.list hx
   have hlen:=r.length
   exact wpAny_truthy_list pl.isList (by simp only[zye];omega) ⟨H,I.tok _,by rw[zbR r];exact q⟩
  ·subst e'
   obtain⟨its,r,pl,hz⟩:=I.tuple hx
   have hlen:=r.length
   exact truthy_tuple pl (by simp only[zye];omega) ⟨H,I.tok _,by rw[zbR r];exact q⟩
  ·subst e'
   obtain⟨hz,hS,vs,r,m⟩:kvs.length<=sizeLine/\(p==sysModules)=false/\∃vs,KV kvs vs/\s.heap.DictOf (wY X.prog X.w) p vs:=I.hok p _ hx
   have hlen:kvs.length=vs.length:=Paired.length r
   exact wpAny_truthy_dict hS m (by omega) ⟨H,I.tok _,by rw[zhF r];exact q⟩
 | _=>exact(show False from e).elim
theorem Za (ha:PE X a ta)(he:∀whole,isTrue a X.env whole=(do let v <-whole;standAt a.pos;holding [v] (truthy v))) :
  PT X a (fun σ H Q=>ta σ H fun x H'=>∃k,zpg X.K x H' k/\Q k H'):=by
 intro pins s σ H Q I h
 exact isTrue_plain (vJ (ha pins s σ H _ I h) fun v s1 ⟨x,H1,I1,r1,q1⟩=>zph pins s1 σ H1 x v Q I1 r1 q1) (he _)
theorem zhG:Qe X (binaryOp .Add) (fun x y H Q=>∃i j,x=.str i/\y=.str j/\i.length+j.length<=sizeLine/\Q (.str (i++j)) H):=by
 intro pins s σ H x y v u Q I rx ry h
 obtain⟨i,j,rfl,rfl,hz,q⟩:=h
 obtain⟨t,rfl⟩:=rx
 obtain⟨t',rfl⟩:=ry
 exact add_str (fun t' tk=>⟨.str (i++j),H,I.tok _,⟨_,rfl⟩,q⟩) hz
theorem vals1 {x:V}{us:List Value}(r:Vals [x] us):∃u,us=[u]/\RelV x u:=by
 cases r with
 | cons r1 r2=>cases r2;exact⟨_,rfl,r1⟩
theorem vals2 {x y:V}{us:List Value}(r:Vals [x,y] us):∃u w',us=[u,w']/\RelV x u/\RelV y w':=by
 cases r with
 | cons r1 r2 =>
  cases r2 with
  | cons r3 r4=>cases r4;exact⟨_,_,rfl,r1,r3⟩
theorem J8 (hc:X.calm=true):Vq X (.builtin "max") (fun xs H Q=>∃i j,xs=[.int i,.int j]/\Q (.int (if j > i then j else i)) H):=by
 intro pins s σ H xs us Q I r h
 obtain⟨i,j,rfl,q⟩:=h
 obtain⟨u,w',rfl,⟨t,rfl⟩,⟨t',rfl⟩⟩:=vals2 r
 refine max_two_ints (I.ok.hd hc) fun h' tk k=>⟨_,H,I.kept k,?_,q⟩
 by_cases hj:j > i
 ·rw[if_pos hj,if_pos hj];exact⟨_,rfl⟩
 ·rw[if_neg hj,if_neg hj];exact⟨_,rfl⟩
theorem zj8 (hc:X.calm=true):Vq X (.builtin "min") (fun xs H Q=>∃i j,xs=[.int i,.int j]/\Q (.int (if j<i then j else i)) H):=by
 intro pins s σ H xs us Q I r h
 obtain⟨i,j,rfl,q⟩:=h
 obtain⟨u,w',rfl,⟨t,rfl⟩,⟨t',rfl⟩⟩:=vals2 r
 refine min_two_ints (I.ok.hd hc) fun h' tk k=>⟨_,H,I.kept k,?_,q⟩
 by_cases hj:j<i
 ·rw[if_pos hj,if_pos hj];exact⟨_,rfl⟩
 ·rw[if_neg hj,if_neg hj];exact⟨_,rfl⟩
theorem zdY:Vq X (.type "int") (fun xs H Q=>(∃i,xs=[.int i]/\Q (.int i) H)\/∃k,xs=[.bl k]/\Q (.int (if k then 1 else 0)) H):=by
 intro pins s σ H xs us Q I r h
 rcases h with ⟨i,rfl,q⟩ | ⟨k,rfl,q⟩
 ·obtain⟨u,rfl,t,rfl⟩:=vals1 r
  exact call_int_int ⟨.int i,H,I,⟨_,rfl⟩,q⟩
 ·obtain⟨u,rfl,r1⟩:=vals1 r
  cases r1
  exact call_int_bool ⟨.int (if k then 1 else 0),H,I.tok _,⟨_,rfl⟩,q⟩
end
structure zhH (h:Heap)(x dx C:Addr)(mA:Str->Option Value):Prop where
 obj:h.get? x=some (PySem.W.instObj C dx)
 ns:h.Ns1 dx mA
 ne:dx≠x
theorem zj9 {h:Heap}{dx:Addr}{mA:Str->Option Value}(n:h.Ns1 dx mA):∃od,h.get? dx=some od/\∀name,PySem.W.lookIn name od=some (mA name):=by
 obtain⟨o,es,ep,ho,hd,hk,_,hm⟩:=n
 refine⟨o,ho,fun name=>?_⟩
 have e:=hm name
 unfold nsFind findBy at e
 rw[<-Array.find?_toList] at e
 unfold PySem.W.lookIn
 rw[hd]
 dsimp only
 split
 ·rename_i y q
  rw[q] at e
  exact congrArg some e
 ·rename_i q
  rw[q] at e
  have a:es.toList.any (·.refKey)=false:=by
   rw[List.any_eq_false]
   intro y hy
   obtain⟨z,t,hkey⟩:=hk y (Array.mem_toList_iff.mp hy)
   simp[DictEntry.refKey,hkey]
  have a':¬es.toList.any (·.refKey)=true:=by rw[a];exact zx8
  rw[if_neg a']
  exact congrArg some e
theorem zhH.look {h:Heap}{x dx C:Addr}{mA:Str->Option Value}(I:zhH h x dx C mA):∃od,PySem.W.InstAt h x (PySem.W.instObj C dx) C (some od)/\∀name,PySem.W.lookIn name od=some (mA name) :=
 let ⟨od,ho,hl⟩:=zj9 I.ns
 ⟨od,⟨I.obj,rfl,rfl,ho⟩,hl⟩
section
variable {prog:Program}{w:World}{A:Around}{E:Value->Shared->Prop}{s:Shared}{K:Frag}{x dx C f:Addr}{mA:Str->Option Value}{name:Str}{v:Value}
theorem get_map {expr:Bool}{Q:Value->Shared->Prop}(X:K.In s.heap)(I:zhH s.heap x dx C mA)(hg:PySem.W.plainGet K C name=true)(hh:PySem.W.hasDictIn K C=true)
  (ha:findIn K (.ref C) name=some none)(hv:mA name=some v)(hv':PySem.W.handedIn v=true)(h:Q v { s with toks:=s.toks+1 }) :
  wpAny (model prog w) A (getAttr (.ref x) name expr) Q E s:=by
 obtain⟨od,J,hl⟩:=I.look
 exact PySem.W.get_value X J (PySem.W.plainGet_of hg).1 (PySem.W.findObj_own hh ha rfl (by rw[hl,hv])) hv' h
theorem zlb {pl:Sem Bool}{Q:Value×List Value->Shared->Prop}(X:K.In s.heap)(I:zhH s.heap x dx C mA)(hg:PySem.W.plainGet K C name=true)
  (hf:findIn K (.ref C) name=some (some (.ref f)))(ht:PySem.W.isFn K (.ref f)=true)(hv:mA name=none)(h:Q (.ref f,[.ref x]) s) :
  wpAny (model prog w) A (getMethod (.ref x) name pl) Q E s:=by
 obtain⟨od,J,hl⟩:=I.look
 exact PySem.W.method_fn X J (PySem.W.plainGet_of hg).1 (PySem.W.plainGet_of hg).2 hf (beq_iff_eq.mp ht) (by show(PySem.W.lookIn name od).map (·.isSome)=some false;rw[hl,hv];rfl) h
theorem zna {ns:List Str}{Q:Unit->Shared->Prop}(X:K.In s.heap)(I:zhH s.heap x dx C mA)
  (hs:findIn K (.ref C) "__setattr__"=some (some (.builtin "object.__setattr__")))(hp:PySem.W.plainOver K C=true)(ht:PySem.W.takerIn K C name=some none)(hh:PySem.W.hasDictIn K C=true)
  (hw:PySem.Within mA ns)(hsz:ns.length<=sizeLine)
  (h:∀h',zhH h' x dx C (fun y=>if y=name then some v else mA y)->Heap.SameBut dx s.heap h'->Q () { s with heap:=h',toks:=s.toks+2 }) :
  wpAny (model prog w) A (setAttr (.ref x) name v) Q E s:=by
 obtain⟨od,J,hl⟩:=I.look
 refine PySem.W.set_plain X J hs (PySem.W.osa_open (s:={ s with toks:=s.toks+1 }) (r:=none) X J hp ht fun b=>?_)
 obtain⟨cd,hc,hd'⟩:=PySem.W.any_some hh
 have hx:s.heap.get? x=some ⟨.ref C,some dx,.plain,#[]⟩:=I.obj
 refine wpAny_bind (wpAny_pure (wpAny_bind (wpAny_bind (wpAny_loadPart hx (wpAny_bind (PySem.W.Looks.here (s:={ s with toks:=s.toks+1 }) (PySem.W.looks_clsIn X hc) ?_))))))
 rw[hd']
 refine wpAny_pure (a:=some dx) (wpAny_bind (wpAny_pure (wpAny_bind ?_)))
 refine wpAny_nsSet1 (s:={ s with toks:=s.toks+1 }) I.ns fun h' hn2 hs2=>?_
 obtain⟨oD,esD,epD,hoD,hdD,hcD⟩:=hn2.count (PySem.Within.cons name v hw)
 refine wpAny_bind (wpAny_lookBehind hoD (by rw[hdD];exact pastItsLine_dict (zyq hcD (by rw[zyg];omega))) ?_)
 exact wpAny_pure (h _ ⟨(hs2.2 _ (Ne.symm I.ne)).trans I.obj,hn2,I.ne⟩ hs2)
theorem zlc {R:Result->Shared->Prop}{vs:List Value}{kw:List (Str×Value)}(X:K.In s.heap)(hm:PySem.W.makesIn K C=true)
  (hi:findIn K (.ref C) "__init__"=some (some (.ref f)))(hf:PySem.W.typeIn K (.ref f)=some (.type "function"))
  (h:codeAny (model prog w) (A.under (.builtin "type.__call__" ⟨.ref C::vs,kw⟩)) (.call (.ref f) ⟨.ref (s.heap.objs.size+1)::vs,kw⟩) (PySem.W.InitBack (s.heap.objs.size+1) R)
   {s with heap:=(s.heap.push PySem.W.emptyDict).push (PySem.W.instObj C s.heap.objs.size) }) :
  codeAny (model prog w) A (.call (.ref C) ⟨vs,kw⟩) R s:=by
 obtain⟨hh,g,d,t,os⟩:=s
 exact PySem.W.make_core (PySem.W.makes_of X hm) (PySem.W.looks_findIn X hi) (fun self=>PySem.W.bind_fn X self hf) (.inl rfl) h
end
def Xc (f:Str)(v:V):List (Str×V)->List (Str×V)
 | []=>[(f,v)]
 | (g,x)::r=>if g=f then (g,v)::r else (g,x)::Xc f v r
theorem zaL (f g:Str)(v:V):∀fs:List (Str×V),(Xc f v fs).lookup g=if g=f then some v else fs.lookup g
 | []=>by
  show List.lookup g [(f,v)]=_
  by_cases h:g=f
  ·have hb:(g==f)=true:=beq_iff_eq.mpr h
   simp only[List.lookup,hb,if_pos h]
  ·have hb:(g==f)=false:=beq_eq_false_iff_ne.mpr h
   simp only[List.lookup,hb,if_neg h]
 | (k,x)::r=>by
  have ih:=zaL f g v r
  rw[show Xc f v ((k,x)::r)=(if k=f then (k,v)::r else (k,x)::Xc f v r) from rfl]
  by_cases hk:k=f
  ·rw[if_pos hk]
   by_cases h:g=k
   ·have hb:(g==k)=true:=beq_iff_eq.mpr h
    simp only[List.lookup,hb,if_pos (h.trans hk)]
   ·have hb:(g==k)=false:=beq_eq_false_iff_ne.mpr h
    simp only[List.lookup,hb,if_neg (fun e:g=f=>h (e.trans hk.symm))]
  ·rw[if_neg hk]
   by_cases h:g=k
   ·have hb:(g==k)=true:=beq_iff_eq.mpr h
    simp only[List.lookup,hb,if_neg (fun e:g=f=>hk (h.symm.trans e))]
   ·have hb:(g==k)=false:=beq_eq_false_iff_ne.mpr h
    simp only[List.lookup,hb]
    exact ih
theorem J9 (f:Str)(v:V):∀fs:List (Str×V),f∈(Xc f v fs).map (·.1)/\∀g,g∈fs.map (·.1)->g∈(Xc f v fs).map (·.1)
 | []=>⟨by simp[Xc],fun g h=>by simp at h⟩
 | (k,x)::r=>by
  obtain⟨i1,i2⟩:=J9 f v r
  rw[show Xc f v ((k,x)::r)=(if k=f then (k,v)::r else (k,x)::Xc f v r) from rfl]
  by_cases hk:k=f
  ·rw[if_pos hk]
   subst hk
   exact⟨by simp,fun g h=>by simpa using h⟩
  ·rw[if_neg hk]
   refine⟨?_,fun g h=>?_⟩
   ·rw[zyt]
    exact zyf _ i1
   ·rw[zyt] at h ⊢
    rcases List.mem_cons.mp h with e | e
    ·exact List.mem_cons.mpr (.inl e)
    ·exact zyf _ (i2 g e)
theorem zaM (f:Str)(v:V):∀fs:List (Str×V),(Xc f v fs).length<=fs.length+1
 | []=>by simp[Xc]
 | (k,x)::r=>by
  have ih:=zaM f v r
  rw[show Xc f v ((k,x)::r)=(if k=f then (k,v)::r else (k,x)::Xc f v r) from rfl]
  by_cases hk:k=f
  ·rw[if_pos hk,zyg,zyg];omega
  ·rw[if_neg hk,zyg,zyg];omega
theorem Mg.some_of {v:V}{o:Option Value}(r:Mg (some v) o):∃u,o=some u/\RelV v u:=by
 cases o with
 | none=>exact(show False from r).elim
 | some u=>exact⟨u,rfl,r⟩
theorem Mg.none_of {o:Option Value}(r:Mg none o):o=none:=by
 cases o with
 | none=>rfl
 | some u=>exact(show False from r).elim
theorem zka {v:V}{u:Value}(r:RelV v u):PySem.W.handedIn u=true:=by
 cases v with
 | non=>cases (show u=Value.none from r);rfl
 | bl b=>cases (show u=Value.bool b from r);rfl
 | int i=>obtain⟨t,e⟩:=(show ∃t,u=Value.int i t from r);cases e;rfl
 | str x=>obtain⟨t,e⟩:=(show ∃t,u=Value.str x t from r);cases e;rfl
 | byt b=>obtain⟨t,e⟩:=(show ∃t,u=Value.bytes b t from r);cases e;rfl
 | flt b=>obtain⟨t,e⟩:=(show ∃t,u=Value.float b t from r);cases e;rfl
 | ref a=>cases (show u=Value.ref a from r);rfl
 | ty n=>cases (show u=Value.type n from r);rfl
section
variable {P:Program}{w:World}{H H':Hp}{h h':Heap}{a C dx:Addr}{fs fs':List (Str×V)}
theorem zbr (hok:Qd P w H h)(e:H a=some (.ins C dx fs)):∃mA,zhH h a dx C mA/\(∀f,Mg (fs.lookup f) (mA f))/\PySem.Within mA (fs.map (·.1))/\fs.length<=1000/\H dx=some (.own a):=by
 obtain⟨d,z,ne,ob,mA,n,r,q⟩:=(show wU P w H h a (.ins C dx fs) from hok a _ e)
 exact⟨mA,⟨ob,n,ne⟩,r,q,z,d⟩
end
structure Cls (K:Frag)(C:Addr):Prop where
 pg:PySem.W.plainGet K C Str.empty=true
 hd:PySem.W.hasDictIn K C=true
 po:PySem.W.plainOver K C=true
 sa:findIn K (.ref C) "__setattr__"=some (some (.builtin "object.__setattr__"))
theorem Cls.get {K:Frag}{C:Addr}(c:Cls K C)(f:Str):PySem.W.plainGet K C f=true:=c.pg
def Vr (K:Frag)(C:Addr)(f:Str):Prop:=findIn K (.ref C) f=some none
theorem Vr.taker {K:Frag}{C:Addr}{f:Str}(n:Vr K C f):PySem.W.takerIn K C f=some none:=by
 unfold PySem.W.takerIn
 rw[show findIn K (.ref C) f=some none from n]
 rfl
structure Meth (K:Frag)(C:Addr)(m:Str)(f:Addr):Prop where
 at_:findIn K (.ref C) m=some (some (.ref f))
 fn:PySem.W.isFn K (.ref f)=true
 kp:PySem.W.keepIn K (.ref f)=true
section
variable {X:Cx}{pins:List (Addr×Obj)}{σ:St}{H:Hp}{s:Shared}{a C dx:Addr}{fs:List (Str×V)}{f:Str}{v:V}{A:Around}{E:Value->Shared->Prop}
theorem zhI {b:Bool}{Q:Value->Shared->Prop}(I:Inv X pins σ H s)(e:H a=some (.ins C dx fs))(c:Cls X.K C)(n:Vr X.K C f)(l:fs.lookup f=some v)
  (h:∀u s',Inv X pins σ H s'->RelV v u->Q u s'):wpAny (model X.prog X.w) A (getAttr (.ref a) f b) Q E s:=by
 obtain⟨mA,O,r,_,_,_⟩:=zbr I.hok e
 obtain⟨u,hu,ru⟩:=Mg.some_of (v:=v) (o:=mA f) (by rw[<-l];exact r f)
 exact get_map I.Mi O (c.get f) c.hd n hu (zka ru) (h u _ (I.tok _) ru)
theorem Lg {m:Str}{g:Addr}{pl:Sem Bool}{Q:Value×List Value->Shared->Prop}(I:Inv X pins σ H s)(e:H a=some (.ins C dx fs))(c:Cls X.K C)(k:Meth X.K C m g)(l:fs.lookup m=none)
  (h:Q (.ref g,[.ref a]) s):wpAny (model X.prog X.w) A (getMethod (.ref a) m pl) Q E s:=by
 obtain⟨mA,O,r,_,_,_⟩:=zbr I.hok e
 have hn:mA m=none:=Mg.none_of (by rw[<-l];exact r m)
 exact zlb I.Mi O (c.get m) k.at_ k.fn hn h
theorem zhJ {y:V}{u:Value}{Q:Unit->Shared->Prop}(I:Inv X pins σ H s)(e:H a=some (.ins C dx fs))(c:Cls X.K C)(n:Vr X.K C f)(hl:fs.length<1000)(ry:RelV y u)
  (h:∀s',Inv X pins σ (upd H a (.ins C dx (Xc f y fs))) s'->Q () s'):wpAny (model X.prog X.w) A (setAttr (.ref a) f u) Q E s:=by
 obtain⟨mA,O,r,wi,_,ho⟩:=zbr I.hok e
 have hz:(fs.map (·.1)).length<=sizeLine:=by rw[zx4,sizeLine_eq];omega
 refine zna I.Mi O c.sa c.po n.taker c.hd wi hz fun h' O' sb=>h _ ?_
 have hd:∃o,h'.get? dx=some o:=let ⟨o,_,_,e',_⟩:=O'.ns;⟨o,e'⟩
 refine I.write (x:=a) (e:=dx) (by rw[e];exact True.intro) (.inr ho) (fun b q hb z=>(sb.2 b hb).trans z) hd ?_
 refine⟨by rw[zG O.ne];exact ho,?_,O.ne,O'.obj,_,O'.ns,fun g=>?_,fun g hg=>?_⟩
 ·have:=zaM f y fs;omega
 ·show Mg ((Xc f y fs).lookup g) (if g=f then some u else mA g)
  rw[zaL]
  by_cases q:g=f
  ·rw[if_pos q,if_pos q];exact ry
  ·rw[if_neg q,if_neg q];exact r g
 ·by_cases q:g=f
  ·rw[q];exact(J9 f y fs).1
  ·refine(J9 f y fs).2 g (wi g fun z=>hg ?_)
   show(if g=f then some u else mA g)=none
   rw[if_neg q];exact z
theorem Inv.made (I:Inv X pins σ H s):Inv X pins σ (upd (upd H s.heap.objs.size (.own (s.heap.objs.size+1))) (s.heap.objs.size+1) (.ins C s.heap.objs.size []))
  {s with heap:=(s.heap.push PySem.W.emptyDict).push (PySem.W.instObj C s.heap.objs.size) }:=by
 have e1:(s.heap.push PySem.W.emptyDict).get? s.heap.objs.size=some PySem.W.emptyDict:=zyp s.heap rfl
 have e2:((s.heap.push PySem.W.emptyDict).push (PySem.W.instObj C s.heap.objs.size)).get? (s.heap.objs.size+1)=some (PySem.W.instObj C s.heap.objs.size):=by
  have:=zyp (s.heap.push PySem.W.emptyDict) (o:=PySem.W.instObj C s.heap.objs.size) rfl
  rwa [Heap.size_push] at this
 have e3:(s.heap.push PySem.W.emptyDict).Ns s.heap.objs.size (fun _=>none):=⟨PySem.W.emptyDict,#[],_,e1,rfl,(fun e he=>absurd he (by simp)),fun _=>rfl⟩
 have I1:=I.laid (a:=s.heap.objs.size) (o:=.own (s.heap.objs.size+1)) (h':=s.heap.push PySem.W.emptyDict) (t':=s.toks) (fun b u q=>zya _ q) (zyk _) ⟨_,e1⟩
 refine I1.laid (a:=s.heap.objs.size+1) (o:=.ins C s.heap.objs.size []) (t':=s.toks) (fun b u q=>zya _ q) (Nat.le_of_eq (Heap.size_push _ _)) ?_
 have ne:s.heap.objs.size≠s.heap.objs.size+1:=zyj (Nat.lt_succ_self _)
 refine⟨by rw[zG ne,zj],zyr _,ne,e2,fun _=>none,(Heap.Ns1.of_empty e3).at fun o q=>zya _ q,fun _=>True.intro,fun y hy=>absurd rfl hy⟩
theorem znb {prog:Program}{w:World}{env:Env}{e:Expr}{f:Str}{pos:Pos}{s:Shared}{Q:Value->Shared->Prop}(hb:attributeBase e f env (eval e env)=eval e env)
  (h:wpAny (model prog w) A (eval e env) (fun o s₁=>wpAny (model prog w) A (getAttr o f true) Q E s₁) E s):wpAny (model prog w) A (eval (.Attribute e f pos) env) Q E s :=
 Attribute_any_ h (by rw[arm_eval_Attribute,hb])
end
def zs4 (K:Frag)(ta:TE)(f:Str):TE:=fun σ H Q=>ta σ H fun x H1=>∃a C dx fs v,x=.ref a/\H1 a=some (.ins C dx fs)/\Cls K C/\Vr K C f/\fs.lookup f=some v/\Q v H1
def zs5 (K:Frag)(ta tv:TE)(f:Str):TS:=fun D σ H=>tv σ H fun y H1=>ta σ H1 fun x H2=>∃a C dx fs,x=.ref a/\H2 a=some (.ins C dx fs)/\Cls K C/\Vr K C f/\fs.length<1000 /\
 D.nx σ (upd H2 a (.ins C dx (Xc f y fs)))
section
variable {X:Cx}{o e value:Expr}{f:Str}{pos pos' tpos:Pos}{ta tv:TE}
theorem Wu (he:PE X e ta)(hb:attributeBase e f X.env (eval e X.env)=eval e X.env):PE X (.Attribute e f pos) (zs4 X.K ta f):=by
 intro pins s σ H Q I h
 refine znb hb (vJ (he pins s σ H _ I h) fun u s1 ⟨x,H1,I1,rx,a,C,dx,fs,v,ex,ea,c,n,l,q⟩=>?_)
 subst ex
 obtain rfl:u=Value.ref a:=rx
 exact zhI I1 ea c n l fun u' s2 I2 ru=>⟨v,H1,I2,ru,q⟩
theorem zeN (ha:PE X o ta)(hv:PE X value tv)(hs:swapsWith value (some (.Attribute o f pos')) pos.line X.env=pure false):PS X (.Assign [.Attribute o f pos'] value pos) (zs5 X.K ta tv f):=by
 intro pins s σ H D I h
 refine plainObj_wpAny_Assign_Attribute (vJ (hv pins s σ H _ I h) fun u s1 ⟨y,H1,I1,ry,q⟩=>vJ (ha pins s1 σ H1 _ I1 q) fun ov s2 ⟨x,H2,I2,rx,a,C,dx,fs,ex,ea,c,n,l,q2⟩=>?_) hs
 subst ex
 obtain rfl:ov=Value.ref a:=rx
 exact zhJ I2 ea c n l ry fun s3 I3=>⟨σ,_,I3,q2⟩
theorem zoz {pl:Sem Bool}{m:Str}{apos:Pos}{args:List Expr}{pins:List (Addr×Obj)}{s:Shared}{σ:St}{H:Hp}{Q:Value->Shared->Prop}{te:TE}(he:PE X e te)(I:Inv X pins σ H s)
  (h:te σ H fun x H1=>∃a C dx fs g,x=.ref a/\H1 a=some (.ins C dx fs)/\Cls X.K C/\Meth X.K C m g/\fs.lookup m=none /\
   ∀s1,Inv X pins σ H1 s1->wpAny (model X.prog X.w) X.A (callWith pos (.ref g) [.ref a] (backTo pos (starEach args X.env)) (backToKw pos (keywordEach [] X.env))) Q X.xe s1)
  (ht:eval (.Call (.Attribute e m apos) args [] pos) X.env=(do
   let ov <-eval e X.env
   standAt apos.atName
   let (f,first) <-holding [ov] (getMethod ov m pl)
   callWith pos f first (backTo pos (starEach args X.env)) (backToKw pos (keywordEach [] X.env)))) :
  wpAny (model X.prog X.w) X.A (eval (.Call (.Attribute e m apos) args [] pos) X.env) Q X.xe s:=by
 refine PySem.W.methodCall_KW (pl:=pl) (vJ (he pins s σ H _ I h) fun u s1 ⟨x,H1,I1,rx,a,C,dx,fs,g,ex,ea,c,k,l,q⟩=>?_) ht
 subst ex
 obtain rfl:u=Value.ref a:=rx
 exact Lg I1 ea c k l (q s1 I1)
end
section
variable {X:Cx}{pins:List (Addr×Obj)}{σ:St}{H:Hp}{s:Shared}{A:Around}{E:Value->Shared->Prop}{Q:Value->Shared->Prop}{c:Value}{b:Bool}
inductive KD (K:Frag)(H:Hp):V->Value->Prop where
 | non:KD K H .non (.type "NoneType")
 | bl (x:Bool):KD K H (.bl x) (.type "bool")
 | int (i:Int):KD K H (.int i) (.type "int")
 | str (x:Str):KD K H (.str x) (.type "str")
 | flt (x:UInt64):KD K H (.flt x) (.type "float")
 | lst {a:Addr} {xs:List V} (e:H a=some (.lst xs)):KD K H (.ref a) (.type "list")
 | frz {a:Addr} {o:Obj} {xs:List V} (e:H a=some (.frz o (.lst xs))):KD K H (.ref a) (.type "list")
 | tup {a:Addr} {xs:List V} (e:H a=some (.tup xs)):KD K H (.ref a) (.type "tuple")
 | dK {a:Addr} {kvs:List (Key×V)} (e:H a=some (.dK kvs)):KD K H (.ref a) (.type "dict")
 | dT {a:Addr} {kvs:List (List Key×V)} (e:H a=some (.dT kvs)):KD K H (.ref a) (.type "dict")
 | ins {a C dx:Addr} {fs:List (Str×V)} (e:H a=some (.ins C dx fs)) (cl:Cls K C) (ha:findIn K (.ref C) "__class__"=some (some (.builtin "object.__class__")))
   (hn:PySem.W.specialIn K (.builtin "object.__class__") "__get__"=some (some (.builtin "getset_descriptor.__get__"))) (htk:PySem.W.takesIn K (.builtin "object.__class__")=some true)
   (hm:PySem.W.mroIn K C (.type "object")=some true):KD K H (.ref a) (.ref C)
theorem zkb {x:V}{u t:Value}(I:Inv X pins σ H s)(rx:RelV x u)(ty:KD X.K H x t)(e:PySem.W.kitOne X.K t c=some b)(h:∀tk,Q (.bool b) { s with toks:=tk }) :
  wpAny (model X.prog X.w) A (call (.builtin "isinstance") [u,c]) Q E s:=by
 cases ty with
 | non=>cases (show u=Value.none from rx);exact PySem.W.kia_one PySem.W.kitx_none I.Mi True.intro e (fun z=>nomatch z) h
 | bl y=>cases (show u=Value.bool y from rx);exact PySem.W.kia_one PySem.W.kitx_bool I.Mi True.intro e (fun z=>nomatch z) h
 | int i=>obtain⟨t,q⟩:=(show ∃t,u=Value.int i t from rx);cases q;exact PySem.W.kia_one PySem.W.kitx_int I.Mi True.intro e (fun z=>nomatch z) h
 | str y=>obtain⟨t,q⟩:=(show ∃t,u=Value.str y t from rx);cases q;exact PySem.W.kia_one PySem.W.kitx_str I.Mi True.intro e (fun z=>nomatch z) h
 | flt y=>obtain⟨t,q⟩:=(show ∃t,u=Value.float y t from rx);cases q;exact PySem.W.kia_one PySem.W.kitx_float I.Mi True.intro e (fun z=>nomatch z) h
 | @lst a xs ea =>
  cases (show u=Value.ref a from rx)
  obtain⟨_,_,n,_,h1⟩:=(show wU X.prog X.w H s.heap a (.lst xs) from I.hok a _ ea)
  exact PySem.W.kia_one PySem.W.kitx_list I.Mi ⟨_,h1,rfl⟩ e (fun z=>nomatch z) h
 | @frz a ob xs ea =>
  cases (show u=Value.ref a from rx)
  obtain⟨_,_,_,n,_,h1⟩:=(show wU X.prog X.w H s.heap a (.frz ob (.lst xs)) from I.hok a _ ea)
  exact PySem.W.kia_one PySem.W.kitx_list I.Mi ⟨_,h1,rfl⟩ e (fun z=>nomatch z) h
 | @tup a xs ea =>
  cases (show u=Value.ref a from rx)
  obtain⟨_,_,_,p⟩:=(show wU X.prog X.w H s.heap a (.tup xs) from I.hok a _ ea)
  obtain⟨o,h1,h2,_⟩:=p
  exact PySem.W.kia_one PySem.W.kitx_tuple I.Mi ⟨o,h1,h2⟩ e (fun z=>nomatch z) h
 | @dK a kvs ea =>
  cases (show u=Value.ref a from rx)
  obtain⟨_,_,vs,_,p⟩:=(show wU X.prog X.w H s.heap a (.dK kvs) from I.hok a _ ea)
  obtain⟨o,es,ep,h1,h2,_⟩:=p
  exact PySem.W.kia_one PySem.W.kitx_dict I.Mi ⟨o,h1,h2.1⟩ e (fun z=>nomatch z) h
 | @dT a kvs ea =>
  cases (show u=Value.ref a from rx)
  obtain⟨_,_,xs,_,o,es,ep,h1,h2,_⟩:=(show wU X.prog X.w H s.heap a (.dT kvs) from I.hok a _ ea)
  exact PySem.W.kia_one PySem.W.kitx_dict I.Mi ⟨o,h1,h2.1⟩ e (fun z=>nomatch z) h
 | @ins a C dx fs ea cl ha hn htk hm =>
  cases (show u=Value.ref a from rx)
  obtain⟨mA,O,_⟩:=zbr I.hok ea
  obtain⟨od,J,_⟩:=O.look
  exact PySem.W.kia_one (PySem.W.kitx_own (cl.get _) cl.hd ha hn htk hm) I.Mi J e (fun z=>nomatch z) h
end
structure tZ (k:Nat)(A:Around):Prop where
 hd:A.handled=none
 gd:A.guards=some []
 dp:A.depth+3*k+5<recursionLimit
 un:A.units+16*k+200<cLine
theorem tZ.mono {j k:Nat}{A:Around}(r:tZ k A)(h:j<=k):tZ j A:=⟨r.hd,r.gd,by have:=r.dp;omega,by have:=r.un;omega⟩
theorem tZ.deeper {k:Nat}{A:Around}(r:tZ (k+1) A)(env:Env):tZ k (A.deeper env) :=
 ⟨r.hd,r.gd,by have:=r.dp;show A.depth+1+3*k+5<_;omega,by have:=r.un;show A.units+3+16*k+200<_;omega⟩
theorem zhK {A:Around}{C:Addr}{us:List Value}{kw:List (Str×Value)}:(A.under (.builtin "type.__call__" ⟨.ref C::us,kw⟩)).depth=A.depth+1:=by
 first | rfl | simp[Around.under,Code.weight,Code.isCreation,Code.isGuard,Code.isCaller,Code.frames,Code.isFrame,guardIds]
theorem zhL {A:Around}{C:Addr}{us:List Value}{kw:List (Str×Value)}:(A.under (.builtin "type.__call__" ⟨.ref C::us,kw⟩)).units=A.units+1:=by
 first | rfl | simp[Around.under,Code.cUnits,Code.frames,Code.isFrame]
theorem tZ.make {k:Nat}{A:Around}(r:tZ (k+1) A)(C:Addr)(us:List Value)(kw:List (Str×Value)):tZ k (A.under (.builtin "type.__call__" ⟨.ref C::us,kw⟩)) :=
 ⟨r.hd,(by
  have e:(Code.builtin "type.__call__" ⟨.ref C::us,kw⟩).guards=[]:=by first | rfl | simp[Code.guards,Code.isGuard,guardIds]
  unfold Around.under
  simp only[e,pushGuards]
  exact r.gd),by have:=r.dp;rw[zhK];omega,by have:=r.un;rw[zhL];omega⟩
theorem tZ.depth {k:Nat}{A:Around}(r:tZ k A):A.depth<recursionLimit:=by have:=r.dp;omega
theorem tZ.units {k:Nat}{A:Around}(r:tZ k A):A.units+64<cLine:=by have:=r.un;omega
def zf8:TA:=fun _ H Q=>Q [] H
def KH (ta:TE)(tr:TA):TA:=fun σ H Q=>ta σ H fun x H1=>tr σ H1 fun xs H2=>Q (x::xs) H2
section
variable {X:Cx}{e:Expr}{es:List Expr}{te:TE}{t:TA}{pos:Pos}
theorem zc:PA X [] zf8:=fun _ _ _ _ H Q I h=>Calls.spliced_nil ⟨[],H,I,.nil,h⟩
theorem za (ha:PE X e te)(hr:PA X es t)(hs:starEach (e::es) X.env=(false,eval e X.env)::starEach es X.env:=by rfl):PA X (e::es) (KH te t):=by
 intro pos pins s σ H Q I h
 rw[hs]
 show wpAny _ _ (spliced ((false,eval e X.env)::backTo pos (starEach es X.env))) _ _ s
 refine Calls.spliced_cons (vJ (ha pins s σ H _ I h) fun u s1 ⟨x,H1,I1,r1,q1⟩=>?_)
 exact vJ (hr pos pins s1 σ H1 _ I1 q1) fun us s2 ⟨xs,H2,I2,r2,q2⟩=>⟨x::xs,H2,I2,.cons r1 r2,q2⟩
def zs6 (t:TA):TE:=fun σ H Q=>t σ H fun xs H1=>xs.length<=sizeLine/\∀p,H1 p=none->Q (.ref p) (upd H1 p (.tup xs))
def zs7 (t:TA):TE:=fun σ H Q=>t σ H fun xs H1=>xs.length<=sizeLine/\∀p,H1 p=none->Q (.ref p) (upd H1 p (.lst xs))
theorem xM {x1}(h:PA X es t):PE X (.Tuple es x1 pos) (zs6 t):=by
 intro pins s σ H Q I hq
 refine wpAny_Tuple_spliced (vJ (h pos pins s σ H _ I hq) fun us s1 ⟨xs,H1,I1,r,z,q⟩=>⟨by rw[<-r.length];exact z,?_⟩)
 have hf:H1 s1.heap.objs.size=none:=I1.hok.fresh (zyk _)
 refine⟨.ref s1.heap.objs.size,upd H1 s1.heap.objs.size (.tup xs),I1.laid (t':=s1.toks) (fun b u e=>zya _ e) (zyk _) ?_,rfl,q _ hf⟩
 exact⟨z,us,r,⟨_,zyp _ rfl,rfl,_,rfl⟩⟩
theorem yE (h:PA X es t):PE X (.List es pos) (zs7 t):=by
 intro pins s σ H Q I hq
 refine wpAny_List_spliced (vJ (h pos pins s σ H _ I hq) fun us s1 ⟨xs,H1,I1,r,z,q⟩=>⟨by rw[<-r.length];exact z,?_⟩)
 have hf:H1 s1.heap.objs.size=none:=I1.hok.fresh (zyk _)
 refine⟨.ref s1.heap.objs.size,upd H1 s1.heap.objs.size (.lst xs),I1.laid (t':=s1.toks) (fun b u e=>zya _ e) (zyk _) ?_,rfl,q _ hf⟩
 exact⟨z,us,0,r,zyp _ rfl⟩
end
abbrev Sp:=List V->Hp->VK->XK->Prop
abbrev CXT:=List Env->Hp->Shared->XK->Value->Shared->Prop
structure zeO (P:Program)(w:World)(K:Frag)(mg:Str->Option Value)(base:Heap)(A:Around)(outer:List Env)(s:Shared)(H:Hp):Prop where
 frames:A.frames=some outer
 mod:Mod K mg base
 bs:∀b o,base.get? b=some o->s.heap.get? b=some o/\H b=none
 bsz:base.objs.size<=s.heap.objs.size
 Mh:s.heap.FunFrames base outer
 frf:∀b∈frs outer,H b=none
 hok:Qd P w H s.heap
 bare:AllBare s.gens
def CE (outer:List Env)(P:Program)(w:World)(H:Hp)(s:Shared)(Q:VK)(u:Value)(s':Shared):Prop :=
 ∃v H',s'.os=s.os/\AllBare s'.gens/\Un (frs outer) [] H H' s.heap s'.heap/\Qd P w H' s'.heap/\RelV v u/\Q v H'
def CR (CX:CXT)(outer:List Env)(P:Program)(w:World)(H:Hp)(s:Shared)(Q:VK)(E:XK)(r:Result)(s':Shared):Prop :=
 match r with
 | .ok (.ret u)=>CE outer P w H s Q u s'
 | .ok _=>False
 | .error e=>CX outer H s E e s'
structure zB (P:Program)(w:World)(K:Frag)(mg:Str->Option Value)(base:Heap)(CX:CXT)(k:Nat)(f:Addr)(fd:FuncData)(ps:List Str)(sp:Sp):Prop where
 len:∀vs H Q E,sp vs H Q E->vs.length=ps.length
 run:∀(A:Around) (outer:List Env) (s:Shared) (H:Hp) (args:Args) (us:List Value) (vs:List V) (Q:VK) (E:XK),tZ k A->zeO P w K mg base A outer s H->BindsTo s fd args (ps.zip us)->Vals vs us->sp vs H Q E ->
  codeAny (model P w) A (.call (.ref f) args) (CR CX outer P w H s Q E) s
theorem zB.mono {P:Program}{w:World}{K:Frag}{mg:Str->Option Value}{base:Heap}{CX:CXT}{j k:Nat}{f:Addr}{fd:FuncData}{ps:List Str}{sp:Sp}(F:zB P w K mg base CX j f fd ps sp)(h:j<=k) :
  zB P w K mg base CX k f fd ps sp:=⟨F.len,fun A outer s H args us vs Q E hr=>F.run A outer s H args us vs Q E (hr.mono h)⟩
theorem zeO.make {P:Program}{w:World}{K:Frag}{mg:Str->Option Value}{base:Heap}{A:Around}{outer:List Env}{s:Shared}{H:Hp}(e:zeO P w K mg base A outer s H)(C:Addr)(us:List Value)(kw:List (Str×Value)) :
  zeO P w K mg base (A.under (.builtin "type.__call__" ⟨.ref C::us,kw⟩)) outer s H:=⟨by first | exact e.frames | (simpa [Around.under,Code.envs,Code.isFrame,pushEnvs] using e.frames),e.mod,e.bs,e.bsz,e.Mh,e.frf,e.hok,e.bare⟩
section
variable {X:Cx}{pins:List (Addr×Obj)}{σ:St}{H:Hp}{s s':Shared}
theorem Inv.env0 (I:Inv X pins σ H s):zeO X.prog X.w X.K X.mg X.base X.A X.stack s H :=
 ⟨I.ok.frames,I.ok.mod,I.bs,zyq I.ok.bsz I.sz,I.stack,I.zbp,I.hok,I.bare⟩
theorem Inv.after {Q:VK}{u:Value}(I:Inv X pins σ H s)(h:CE X.stack X.prog X.w H s Q u s'):EP X pins σ Q u s':=by
 obtain⟨v,H',os,bare,un,hok,r,q⟩:=h
 obtain⟨hh,g,d,t,os'⟩:=s'
 obtain rfl:os'=s.os:=os
 exact⟨v,H',I.call (h':=hh) (g':=g) (d':=d) (t':=t) (ch:=[]) un hok bare (fun b z=>absurd z (by simp)),r,q⟩
end
def KJ (sp:Sp)(Qv:List V)(E:XK)(t:TA):TE:=fun σ H Q=>t σ H fun vs H1=>sp (vs++Qv) H1 Q E
def zi1 (C:Addr)(m:Str)(sp:Sp)(Qv:List V)(E:XK)(ta:TE)(t:TA):TE:=fun σ H Q=>ta σ H fun x H1=>∃a dx fs,x=.ref a/\H1 a=some (.ins C dx fs)/\fs.lookup m=none /\
 t σ H1 fun vs H2=>sp (x::(vs++Qv)) H2 Q E
def zqS (C:Addr)(sp:Sp)(Qv:List V)(E:XK)(t:TA):TE:=fun σ H Q=>t σ H fun vs H1=>∀x dx,H1 x=none->H1 dx=none->dx≠x ->
 sp (.ref x::(vs++Qv)) (upd (upd H1 dx (.own x)) x (.ins C dx [])) (fun v H2=>v=.non/\Q (.ref x) H2) E
def Binds (K:Frag)(fd:FuncData)(ps:List Str)(ds:List Value):Prop :=
 ∀(s:Shared) (us:List Value),K.In s.heap->(us++ds).length=ps.length->BindsTo s fd ⟨us,[]⟩ (ps.zip (us++ds))
theorem Binds.all {K:Frag}{fd:FuncData}{ps:List Str}(h:∀us:List Value,us.length=ps.length->bindArgs fd ⟨us,[]⟩=pure (ps.zip us)):Binds K fd ps []:=fun s us _ hl=>by
 rw[List.append_nil] at hl ⊢
 exact .of_eq (h us hl)
def Passes (CX:CXT)(X:Cx)(E:XK):Prop:=∀(pins:List (Addr×Obj)) (σ:St) (H:Hp) (s:Shared) (e:Value) (s':Shared),Inv X pins σ H s->CX X.stack H s E e s'->X.xe e s'
section
variable {X:Cx}{CX:CXT}{k:Nat}{f C:Addr}{fd:FuncData}{ps:List Str}{sp:Sp}{Qv:List V}{ds:List Value}{E:XK}{x m:Str}{p pos apos:Pos}{e o:Expr}{es:List Expr}{ta:TE}{t:TA}
theorem zhM {pins:List (Addr×Obj)}{σ:St}{H:Hp}{s:Shared}{Q:VK}{us:List Value}{vs:List V}(F:zB X.prog X.w X.K X.mg X.base CX k f fd ps sp)(hr:tZ k X.A)(hb:Binds X.K fd ps ds)(hd:Vals Qv ds)(hx:Passes CX X E)
  (I:Inv X pins σ H s)(r:Vals vs us)(h:sp (vs++Qv) H Q E):wpAny (model X.prog X.w) X.A (call (.ref f) us) (EP X pins σ Q) X.xe s:=by
 have r2:Vals (vs++Qv) (us++ds):=r.append hd
 have hl:(us++ds).length=ps.length:=by rw[<-r2.length];exact F.len _ _ _ _ h
 refine wpAny_call (codeAny_mono (F.run X.A X.stack s H ⟨us,[]⟩ (us++ds) (vs++Qv) Q E hr I.env0 (hb s us I.Mi hl) r2 h) fun r s' hq=>?_)
 cases r with
 | error e=>exact hx pins σ H s e s' I hq
 | ok fl =>
  cases fl with
  | ret u=>exact I.after hq
  | next=>exact False.elim hq
  | brk=>exact False.elim hq
  | cont=>exact False.elim hq
theorem zi2 (F:zB X.prog X.w X.K X.mg X.base CX k f fd ps sp)(hr:tZ k X.A)(hg:Gl X x)(hm:X.mg x=some (.ref f))(hk:PySem.W.keepIn X.K (.ref f)=true)(hb:Binds X.K fd ps ds)(hd:Vals Qv ds)(hx:Passes CX X E)
  (ha:PA X (e::es) t)(hdb:(x==("__debug__" : Str))=false:=by decide)(he:starEach (e::es) X.env=(false,eval e X.env)::starEach es X.env:=by rfl)(hpl:(backTo pos (starEach es X.env)).any (·.1)=false:=by rfl) :
  PE X (.Call (.Name x p) (e::es) [] pos) (KJ sp Qv E t):=by
 intro pins s σ H Q I h
 refine wpAny_Call_Name_kw (Rg I hg hm ?_ hdb)
 refine PySem.W.callWith_K (h₀:=X.base) I.ok.mod.kin hk (vJ (ha pos pins s σ H _ I h) fun us s1 ⟨vs,H1,I1,r,q⟩=>⟨I1.Mi,?_⟩) he hpl
 exact zhM F hr hb hd hx I1 r q
theorem znc {pl:Sem Bool}(he:PE X o ta)(c:Cls X.K C)(hm:Meth X.K C m f)(F:zB X.prog X.w X.K X.mg X.base CX k f fd ps sp)(hr:tZ k X.A)(hb:Binds X.K fd ps ds)(hd:Vals Qv ds)(hx:Passes CX X E)(ha:PA X (e::es) t)
  (hst:starEach (e::es) X.env=(false,eval e X.env)::starEach es X.env:=by rfl)(hpl:(backTo pos (starEach es X.env)).any (·.1)=false:=by rfl)
  (ht:eval (.Call (.Attribute o m apos) (e::es) [] pos) X.env=(do
   let ov <-eval o X.env
   standAt apos.atName
   let (f,first) <-holding [ov] (getMethod ov m pl)
   callWith pos f first (backTo pos (starEach (e::es) X.env)) (backToKw pos (keywordEach [] X.env))):=by rfl) :
  PE X (.Call (.Attribute o m apos) (e::es) [] pos) (zi1 C m sp Qv E ta t):=by
 intro pins s σ H Q I h
 refine PySem.W.methodCall_KW (pl:=pl) (vJ (he pins s σ H _ I h) fun u s1 ⟨x,H1,I1,rx,a,dx,fs,ex,ea,l,q⟩=>?_) ht
 subst ex
 obtain rfl:u=Value.ref a:=rx
 refine Lg I1 ea c hm l ?_
 refine PySem.W.callWith_K (first:=[.ref a]) (h₀:=X.base) I.ok.mod.kin hm.kp (vJ (ha pos pins s1 σ H1 _ I1 q) fun us s2 ⟨vs,H2,I2,r,q2⟩=>⟨I2.Mi,?_⟩) hst hpl
 exact zhM (us:=.ref a::us) (vs:=.ref a::vs) F hr hb hd hx I2 (.cons rfl r) q2
theorem zld {pl:Sem Bool}(he:PE X o ta)(c:Cls X.K C)(hm:Meth X.K C m f)(F:zB X.prog X.w X.K X.mg X.base CX k f fd ps sp)(hr:tZ k X.A)(hb:Binds X.K fd ps ds)(hd:Vals Qv ds)(hx:Passes CX X E)
  (ht:eval (.Call (.Attribute o m apos) [] [] pos) X.env=(do
   let ov <-eval o X.env
   standAt apos.atName
   let (f,first) <-holding [ov] (getMethod ov m pl)
   callWith pos f first (backTo pos (starEach [] X.env)) (backToKw pos (keywordEach [] X.env))):=by rfl) :
  PE X (.Call (.Attribute o m apos) [] [] pos) (zi1 C m sp Qv E ta zf8):=by
 intro pins s σ H Q I h
 refine PySem.W.methodCall_KW (pl:=pl) (vJ (he pins s σ H _ I h) fun u s1 ⟨x,H1,I1,rx,a,dx,fs,ex,ea,l,q⟩=>?_) ht
 subst ex
 obtain rfl:u=Value.ref a:=rx
 refine Lg I1 ea c hm l ?_
 exact PySem.W.callWith_K0 (first:=[.ref a]) I1.Mi hm.kp (zhM (us:=[.ref a]) (vs:=[.ref a]) F hr hb hd hx I1 (.cons rfl .nil) q)
structure Mk (K:Frag)(C f:Addr):Prop where
 makes:PySem.W.makesIn K C=true
 init:findIn K (.ref C) "__init__"=some (some (.ref f))
 fn:PySem.W.isFn K (.ref f)=true
 kp:PySem.W.keepIn K (.ref C)=true
theorem zle {pins:List (Addr×Obj)}{σ:St}{H:Hp}{s:Shared}{Q:VK}{us:List Value}{vs:List V}(M:Mk X.K C f)(F:zB X.prog X.w X.K X.mg X.base CX k f fd ps sp)(hr:tZ (k+1) X.A)(hb:Binds X.K fd ps ds)(hd:Vals Qv ds)
  (hx:Passes CX X E)(I:Inv X pins σ H s)(r:Vals vs us)
  (h:∀x dx,H x=none->H dx=none->dx≠x->sp (.ref x::(vs++Qv)) (upd (upd H dx (.own x)) x (.ins C dx [])) (fun v H2=>v=.non/\Q (.ref x) H2) E) :
  wpAny (model X.prog X.w) X.A (call (.ref C) us) (EP X pins σ Q) X.xe s:=by
 have hq:=h (s.heap.objs.size+1) s.heap.objs.size (I.hok.fresh (Nat.le_succ _)) (I.hok.fresh (zyk _)) (zyj (Nat.lt_succ_self _))
 have I2:=Inv.made (C:=C) I
 have r2:Vals (V.ref (s.heap.objs.size+1)::(vs++Qv)) (Value.ref (s.heap.objs.size+1)::(us++ds)):=.cons rfl (r.append hd)
 have hl:(Value.ref (s.heap.objs.size+1)::us++ds).length=ps.length:=by
  have e:=r2.length
  rw[F.len _ _ _ _ hq] at e
  exact e.symm
 refine wpAny_call (zlc (f:=f) I.Mi M.makes M.init (beq_iff_eq.mp M.fn) (codeAny_mono (F.run _ X.stack _ _ ⟨Value.ref (s.heap.objs.size+1)::us,[]⟩ (Value.ref (s.heap.objs.size+1)::(us++ds)) _ _ E (hr.make C us [])
  (I2.env0.make C us []) (hb _ (Value.ref (s.heap.objs.size+1)::us) I2.Mi hl) r2 hq) fun r s' hq'=>?_))
 cases r with
 | error e=>exact hx pins σ _ _ e s' I2 hq'
 | ok fl =>
  cases fl with
  | ret u =>
   obtain⟨v,H',I3,rv,ev,q3⟩:=I2.after hq'
   subst ev
   exact⟨rv,⟨V.ref (s.heap.objs.size+1),H',I3,rfl,q3⟩⟩
  | next=>exact False.elim hq'
  | brk=>exact False.elim hq'
  | cont=>exact False.elim hq'
theorem znd (M:Mk X.K C f)(F:zB X.prog X.w X.K X.mg X.base CX k f fd ps sp)(hr:tZ (k+1) X.A)(hg:Gl X x)(hm:X.mg x=some (.ref C))(hb:Binds X.K fd ps ds)(hd:Vals Qv ds)(hx:Passes CX X E)
  (ha:PA X (e::es) t)(hdb:(x==("__debug__" : Str))=false:=by decide)(he:starEach (e::es) X.env=(false,eval e X.env)::starEach es X.env:=by rfl)(hpl:(backTo pos (starEach es X.env)).any (·.1)=false:=by rfl) :
  PE X (.Call (.Name x p) (e::es) [] pos) (zqS C sp Qv E t):=by
 intro pins s σ H Q I h
 refine wpAny_Call_Name_kw (Rg I hg hm ?_ hdb)
 refine PySem.W.callWith_K (h₀:=X.base) I.ok.mod.kin M.kp (vJ (ha pos pins s σ H _ I h) fun us s1 ⟨vs,H1,I1,r,q⟩=>⟨I1.Mi,?_⟩) he hpl
 exact zle M F hr hb hd hx I1 r q
end
structure zK (N P:List Str)(sc:Scope):Prop where
 kind:sc.kind=.function
 co:sc.isCoroutine=false
 gen:sc.isGenerator=false
 nd:N.Nodup
 pre:N.take P.length=P
 par:∀x∈P,sc.names.lookup x=some .local\/sc.names.lookup x=some .cell
 zpi:∀y∈sc.names,y.2≠.free
theorem zdZ {kindOf:Str->Option NameKind}{x:Str}:∀{binds:List (Str×Value)} {m:Str->Option Value},(∀v,(x,v)∉binds)->bindL kindOf binds m x=m x
 | [],_,_=>rfl
 | (n,v)::r,m,h=>by
  unfold bindL
  rw[zdZ fun w hw=>h w (zyf _ hw)]
  split
  ·have:x≠n:=by rintro rfl;exact h v zyo
   simp[this]
  ·rfl
theorem zd0 {kindOf:Str->Option NameKind}{x:Str}:∀{binds:List (Str×Value)} {m:Str->Option Value},(∀v,(x,v)∉binds)->bindC kindOf binds m x=m x
 | [],_,_=>rfl
 | (n,v)::r,m,h=>by
  unfold bindC
  rw[zd0 fun w hw=>h w (zyf _ hw)]
  split
  ·rfl
  ·have:x≠n:=by rintro rfl;exact h v zyo
   simp[this]
theorem zd1 {kindOf:Str->Option NameKind}{x:Str}{v:Value}:∀{P:List Str} {vs:List Value} {i:Nat} {m:Str->Option Value},P.Nodup->P[i]?=some x->vs[i]?=some v->kindOf x=some .local ->
  bindL kindOf (P.zip vs) m x=some v
 | [],_,_,_,_,h,_,_=>by simp at h
 | _::_,[],_,_,_,_,h,_=>by simp at h
 | p::P,w::vs,0,m,nd,h1,h2,hk=>by
  simp at h1 h2;subst h1;subst h2
  show bindL kindOf ((p,w)::P.zip vs) m p=_
  unfold bindL
  rw[zdZ fun v hv=>(List.nodup_cons.mp nd).1 (zyH hv).1,if_pos hk]
  simp
 | p::P,w::vs,i+1,m,nd,h1,h2,hk=>by
  show bindL kindOf ((p,w)::P.zip vs) m x=_
  unfold bindL
  exact zd1 (i:=i) (List.nodup_cons.mp nd).2 (by simpa using h1) (by simpa using h2) hk
theorem zd2 {kindOf:Str->Option NameKind}{x:Str}{v:Value}:∀{P:List Str} {vs:List Value} {i:Nat} {m:Str->Option Value},P.Nodup->P[i]?=some x->vs[i]?=some v->kindOf x≠some .local ->
  bindC kindOf (P.zip vs) m x=some v
 | [],_,_,_,_,h,_,_=>by simp at h
 | _::_,[],_,_,_,_,h,_=>by simp at h
 | p::P,w::vs,0,m,nd,h1,h2,hk=>by
  simp at h1 h2;subst h1;subst h2
  show bindC kindOf ((p,w)::P.zip vs) m p=_
  unfold bindC
  rw[zd0 fun v hv=>(List.nodup_cons.mp nd).1 (zyH hv).1,if_neg hk]
  simp
 | p::P,w::vs,i+1,m,nd,h1,h2,hk=>by
  show bindC kindOf ((p,w)::P.zip vs) m x=_
  unfold bindC
  exact zd2 (i:=i) (List.nodup_cons.mp nd).2 (by simpa using h1) (by simpa using h2) hk
def start (N:List Str)(vs:List V):St:=vs.map some++List.replicate (N.length-vs.length) none
def zaa (CX:CXT)(P:Program)(w:World)(K:Frag)(mg:Str->Option Value)(base:Heap)(N:List Str)(qual:Str)(scope:Scope)(f:Addr)(cd:Value)(A:Around)(outer:List Env)(s:Shared)(H:Hp)(E:XK):Cx where
 prog:=P
 w:=w
 K:=K
 mg:=mg
 base:=base
 A:=A.deeper (envOfC qual scope s.heap.objs.size f cd)
 N:=N
 s₀:=s
 H₀:=H
 env:=envOfC qual scope s.heap.objs.size f cd
 outer:=outer
 stack:=envOfC qual scope s.heap.objs.size f cd::outer
 ex:=[]
 calm:=true
 fn:=fun _=>true
 pn:=[]
 xe:=fun e s'=>wpAny (model P w) (A.deeper (envOfC qual scope s.heap.objs.size f cd)) (leaving (envOfC qual scope s.heap.objs.size f cd) e) (fun _ s''=>CX outer H s E e s'') (fun e' s''=>CX outer H s E e' s'') s'
theorem zf9 {sc:Scope}{n:Nat}{x:Str}(h:sc.names.lookup x=some .cell):∃c,(cellsFrom n sc.names []).lookup x=some c:=by
 have q:=PySem.W.cellsFrom_some sc.names n [] (.inl h)
 exact Option.isSome_iff_exists.mp q
theorem zd3 {CX:CXT}{P:Program}{w:World}{K:Frag}{mg:Str->Option Value}{base:Heap}{N ps:List Str}{qual:Str}{scope:Scope}{f:Addr}{cd:Value}{A:Around}{outer:List Env}{s s1:Shared}{H:Hp}{E:XK}{us:List Value}{vs:List V}
  (S:zK N ps scope)(hd:A.handled=none)(e0:zeO P w K mg base A outer s H)(hl:vs.length=ps.length)(r:Vals vs us)
  (x:InCallC s s.heap.objs.size (bindL (envOfC qual scope s.heap.objs.size f cd).kindOf (ps.zip us) fun _=>none) (cellsFrom (s.heap.objs.size+1) scope.names []) (bindC (envOfC qual scope s.heap.objs.size f cd).kindOf (ps.zip us) fun _=>none) s1) :
  Inv (zaa CX P w K mg base N qual scope f cd A outer s H E) [] (start N vs) H s1:=by
 have hpl:ps.length<=N.length:=by have:=congrArg List.length S.pre;rw[zys] at this;omega
 obtain⟨h1,tk,rfl,hk⟩:=x.done
 have noA:∀b:Addr,b∉(zaa CX P w K mg base N qual scope f cd A outer s H E).ex:=fun b z=>absurd (show b∈([]:List Addr) from z) (by simp)
 refine⟨⟨e0.mod,S.kind,rfl,rfl,zyk _,fun y z c h1 h2=>?_,fun y hy=>?_,fun y c _ h=>?_,fun _=>hd,Around.frames_deeper e0.frames,.inr ⟨rfl,rfl⟩,fun b z=>absurd z (noA b),e0.bs,e0.bsz,fun b _ _=>noA b,fun b z=>absurd z (noA b),e0.Mh,e0.frf⟩,
  rfl,e0.bare,Un.kept hk,⟨_,x.toInCall.ns,fun i y v h1 h2 h3=>?_⟩,fun y c h=>⟨_,x.cell y c h⟩,e0.hok.fresh (zyk _),fun y c h=>?_,fun p hp=>absurd (show p∈([]:List (Addr×Obj)) from hp) (by simp),e0.hok.kept hk,?_⟩
 ·exact name_of_addr x.apart (PySem.mem_of_lookup h1) (PySem.mem_of_lookup h2)
 ·have hy:scope.names.lookup y=some .cell\/scope.names.lookup y=some .free:=hy
  rcases hy with hy | hy
  ·exact zf9 hy
  ·exact absurd rfl (S.zpi _ (PySem.mem_of_lookup hy))
 ·exact zyn (x.above y c (PySem.mem_of_lookup h))
 ·have hi:i<vs.length:=by
   unfold start at h2
   by_cases hi:i<vs.length
   ·exact hi
   ·rw[List.getElem?_append_right (by simpa using hi)] at h2
    rw[List.getElem?_replicate] at h2
    split at h2<;>cases h2
  have ha:vs[i]?=some v:=by
   unfold start at h2
   rw[zyB (by simpa using hi),zx6] at h2
   cases e:vs[i]? with
   | none=>rw[e] at h2;cases h2
   | some a=>rw[e] at h2;cases h2;rfl
  obtain⟨u,hu,rv⟩:=r.get ha
  have hp:ps[i]?=some y:=by
   rw[<-S.pre,List.getElem?_take_of_lt (by omega)];exact h1
  have ndP:ps.Nodup:=by rw[<-S.pre];exact S.nd.sublist (List.take_sublist _ _)
  refine⟨u,rv,?_⟩
  rcases S.par y (zx9 hp) with k | k
  ·exact .inl ⟨k,zd1 ndP hp hu k⟩
  ·obtain⟨c,e⟩:=zf9 (n:=s.heap.objs.size+1) k
   refine .inr ⟨.inl k,c,e,?_⟩
   have q:=x.cell y c e
   rw[zd2 ndP hp hu (by show scope.names.lookup y≠_;rw[k];decide)] at q
   exact q
 ·exact e0.hok.fresh (zyn (x.above y c (PySem.mem_of_lookup h)))
 ·unfold start
  show _=N.length
  rw[zyc,zx4,List.length_replicate]
  omega
theorem zoA {CX:CXT}{P:Program}{w:World}{K:Frag}{mg:Str->Option Value}{base:Heap}{k:Nat}{f:Addr}{name qual:Str}{params:Arguments}{body:List Stmt}{scope:Scope}{dV kV doc pm cdv ct oc:Value}{an od:Option Addr}
  {osl:Array (Option Value)}{N ps:List Str}{sp:Sp}(lk:K.lookup f=some ⟨oc,od,.func (PySem.W.fnOf name qual params body scope dV kV doc pm an cdv ct),osl⟩)(hcd:PySem.W.codeIn K cdv qual=true)(S:zK N ps scope)
  (len:∀vs H Q E,sp vs H Q E->vs.length=ps.length)
  (hbody:∀(A:Around) (outer:List Env) (s:Shared) (H:Hp) (vs:List V) (Q:VK) (E:XK),tZ k (A.deeper (envOfC qual scope s.heap.objs.size f cdv))->sp vs H Q E ->
   ∃t,PSs (zaa CX P w K mg base N qual scope f cdv A outer s H E) body t/\t { nx:=fun _ H'=>Q .non H',rt:=Q } (start N vs) H) :
  zB P w K mg base CX (k+1) f (PySem.W.fnOf name qual params body scope dV kV doc pm an cdv ct) ps sp:=by
 refine⟨len,fun A outer s H args us vs Q E hr e0 hb r hsp=>?_⟩
 have hl:=len _ _ _ _ hsp
 have KX:K.In s.heap:=e0.mod.kin.keeps fun b o e=>(e0.bs b o e).1
 have lim:s.heap.NoLimit:=e0.mod.nolimit.keeps fun b o e=>(e0.bs b o e).1
 have hkind:∀y∈ps.zip us,scope.names.lookup y.1=some .local\/(scope.names.lookup y.1=some .cell/\((cellsFrom (s.heap.objs.size+1) scope.names []).lookup y.1).isSome=true):=fun⟨n,v⟩ hy=>by
  rcases S.par n (zyH hy).1 with q | q
  ·exact .inl q
  ·exact .inr ⟨q,PySem.W.cellsFrom_some _ _ _ (.inl q)⟩
 refine codeAny_call_function hr.depth (KX _ _ lk) rfl S.co S.gen rfl (PySem.W.codeRec_of KX hcd) (hb _ _ _ _ ?_)
 refine wpAny_newFunctionEnv_cells S.kind hkind fun env he s1 x=>?_
 subst he
 refine⟨lim.keeps x.toInCall.keep,codeAny_func ?_⟩
 obtain⟨t,ht,hq⟩:=hbody A outer s H vs Q E (hr.deeper _) hsp
 have I:Inv (zaa CX P w K mg base N qual scope f cdv A outer s H E) [] (start N vs) H s1:=zd3 S hr.hd e0 hl r x
 refine wpAny_mono (ht [] s1 (start N vs) H _ I hq) (fun fl s' hs=>?_) fun e s' hs=>hs
 have fin:∀{σ':St} {H':Hp} {v:V} {u:Value},Inv (zaa CX P w K mg base N qual scope f cdv A outer s H E) [] σ' H' s'->RelV v u->Q v H'->CE outer P w H s Q u s' :=
  fun {σ' H' v u} J rv q=>⟨v,H',J.os,J.bare,J.base,J.hok,rv,q⟩
 cases fl with
 | ret u =>
  obtain⟨v,σ',H',J,rv,q⟩:=hs
  exact fin J rv q
 | next =>
  obtain⟨σ',H',J,q⟩:=hs
  exact fin (v:=V.non) (u:=Value.none) J rfl q
 | brk =>
  obtain⟨_,_,_,q⟩:=hs
  exact False.elim q
 | cont =>
  obtain⟨_,_,_,q⟩:=hs
  exact False.elim q
section
variable {X:Cx}{x:Str}{p pos:Pos}{e:Expr}{es:List Expr}{t:TA}{id T:String}{r:List V->Hp->VK->Prop}
def tCB (r:List V->Hp->VK->Prop)(t:TA):TE:=fun σ H Q=>t σ H fun vs H1=>r vs H1 Q
theorem zF (hc:Vq X (.builtin id) r)(hg:Gl X x)(hm:X.mg x=none)(hv:bootBuiltins x=some (.builtin id))(ha:PA X (e::es) t)(hn:x ≠ "__name__" := by decide)(hdb:(x==("__debug__" : Str))=false:=by decide)
  (he:starEach (e::es) X.env=(false,eval e X.env)::starEach es X.env:=by rfl)(hpl:(backTo pos (starEach es X.env)).any (·.1)=false:=by rfl):PE X (.Call (.Name x p) (e::es) [] pos) (tCB r t):=by
 intro pins s σ H Q I h
 refine wpAny_Call_Name_kw (Ws I hg hm hv ?_ hn hdb)
 exact PyProof.Rows.callWith_builtin1 (vJ (ha pos pins s σ H _ I h) fun us s1 ⟨vs,H1,I1,r1,q1⟩=>hc pins s1 σ H1 vs us Q I1 r1 q1) he hpl
theorem Xd (hc:Vq X (.type T) r)(hg:Gl X x)(hm:X.mg x=none)(hv:bootBuiltins x=some (.type T))(ha:PA X (e::es) t)(hn:x ≠ "__name__" := by decide)(hdb:(x==("__debug__" : Str))=false:=by decide)
  (he:starEach (e::es) X.env=(false,eval e X.env)::starEach es X.env:=by rfl)(hpl:(backTo pos (starEach es X.env)).any (·.1)=false:=by rfl):PE X (.Call (.Name x p) (e::es) [] pos) (tCB r t):=by
 intro pins s σ H Q I h
 refine wpAny_Call_Name_kw (Ws I hg hm hv ?_ hn hdb)
 exact PyProof.Rows.callWith_type1 (vJ (ha pos pins s σ H _ I h) fun us s1 ⟨vs,H1,I1,r1,q1⟩=>hc pins s1 σ H1 vs us Q I1 r1 q1) he hpl
end
end L2
namespace HT
open PySem PyProof.Rows
section
variable {prog:Program}{w:World}{A:Around}{E:Value->Shared->Prop}{s:Shared}
def Yv (n d:Nat):Option Int->Nat
 | none=>d
 | some v=>if v<0 then (v+(n:Int)).toNat else min v.toNat n
theorem zbS (n d:Nat):Yv n d none=d:=rfl
theorem Nj (n d k:Nat):Yv n d (some (k:Int))=min k n:=by
 show(if (k:Int)<0 then ((k:Int)+(n:Int)).toNat else min (k:Int).toNat n)=min k n
 rw[if_neg (by omega),zyI]
theorem zpj (n d:Nat)(hd:d<=n)(o:Option Int):Yv n d o<=n:=by
 cases o with
 | none=>exact hd
 | some v =>
  show(if v<0 then (v+(n:Int)).toNat else min v.toNat n)<=n
  by_cases hv:v<0
  ·rw[if_pos hv];omega
  ·rw[if_neg hv];exact Nat.min_le_right _ _
theorem zi3 (v:Int)(n d:Nat):(if v<0 then max (v+(n:Int)) 0 else min v (n:Int))=((Yv n d (some v):Nat):Int):=by
 show(if v<0 then max (v+(n:Int)) 0 else min v (n:Int))=(((if v<0 then (v+(n:Int)).toNat else min v.toNat n):Nat):Int)
 by_cases hv:v<0
 ·simp only[if_pos hv];omega
 ·simp only[if_neg hv];omega
theorem zhN (lo hi:Option Int)(n:Nat):Builtin.Slice.sliceAdjust lo hi 1 (n:Int)=(((Yv n 0 lo:Nat):Int),((Yv n n hi:Nat):Int)):=by
 have h1:¬((1:Int)<0):=by omega
 unfold Builtin.Slice.sliceAdjust
 simp only[h1,if_false]
 refine Prod.ext ?_ ?_
 ·cases lo with
  | none=>rfl
  | some v=>exact zi3 v n 0
 ·cases hi with
  | none=>rfl
  | some v=>exact zi3 v n n
theorem zhO (i j:Nat):Builtin.Slice.slicePlaces (i:Int) (j:Int) 1=j-i:=by
 unfold Builtin.Slice.slicePlaces
 have h1:(1:Int) > 0:=by omega
 simp only[h1,if_true,Int.ediv_one]
 split<;>omega
theorem zbT {v:Value}{o:Option Int}{Q:Option Int->Shared->Prop}(p:IsPart v o)(h:Q o s):wpAny (model prog w) A (Builtin.Slice.slicePartIndex v) Q E s:=by
 cases p with
 | none=>exact slicePart_none h
 | int i t=>exact slicePart_int h
theorem zab {sl:Addr}{vl vu:Value}{lo hi:Option Int}{n:Nat}{Q:Int×Int×Nat->Shared->Prop}(hs:s.heap.IsSliceOf sl vl vu .none)(pl:IsPart vl lo)(pu:IsPart vu hi)
  (h:Q (((Yv n 0 lo:Nat):Int),1,Yv n n hi-Yv n 0 lo) s):wpAny (model prog w) A (Builtin.Slice.sliceApplied (.ref sl) (pure (n:Int))) Q E s:=by
 obtain⟨os,hos,hcs,hds⟩:=id hs
 unfold Builtin.Slice.sliceApplied Builtin.Slice.sliceFields
 refine wpAny_bind (wpAny_bind (wpAny_field hos hds (x:=vl) rfl (wpAny_bind (wpAny_field hos hds (x:=vu) rfl (wpAny_bind (wpAny_field hos hds (x:=.none) rfl (wpAny_pure ?_)))))))
 refine wpAny_bind (slicePart_none ?_)
 show wpAny _ _ (if ((1:Int)==0)=true then _ else _) _ _ s
 rw[if_neg (by decide)]
 refine wpAny_bind (zbT pl (wpAny_bind (zbT pu (wpAny_bind (wpAny_pure ?_)))))
 show wpAny _ _ (match Builtin.Slice.sliceAdjust lo hi 1 (n:Int) with | (lo,hi)=>pure (lo,(1:Int),Builtin.Slice.slicePlaces lo hi 1)) _ _ s
 rw[zhN lo hi n]
 show wpAny _ _ (pure (((Yv n 0 lo:Nat):Int),(1:Int),Builtin.Slice.slicePlaces ((Yv n 0 lo:Nat):Int) ((Yv n n hi:Nat):Int) 1)) _ _ s
 rw[zhO]
 exact wpAny_pure h
theorem zlf (xs:Array Value)(i k:Nat):((List.range k).filterMap fun(m:Nat)=>xs[((i:Int)+(m:Int)*1).toNat]?).toArray=((xs.toList.drop i).take k).toArray:=by
 have e:(fun(m:Nat)=>xs[((i:Int)+(m:Int)*1).toNat]?)=fun m=>xs[i+m]?:=by
  funext m
  have:((i:Int)+(m:Int)*1).toNat=i+m:=by omega
  rw[this]
 rw[e]
 have:=pick_run xs i k
 rw[List.filterMap_map] at this
 have e2:((fun x=>xs[x]?) ∘ fun x=>i+x)=fun m=>xs[i+m]?:=rfl
 rw[e2] at this
 rw[this]
theorem KN {t sl:Addr}{items:Array Value}{vl vu:Value}{lo hi:Option Int}{Q:Value->Shared->Prop}(ht:IsTup s.heap t items)(hs:s.heap.IsSliceOf sl vl vu .none)(pl:IsPart vl lo)(pu:IsPart vu hi)
  (hw:¬(Yv items.size 0 lo=0/\Yv items.size items.size hi=items.size))
  (h:Q (.ref s.heap.objs.size) { s with heap:=s.heap.push { cls:=.type "tuple", data:=.seq ((items.toList.drop (Yv items.size 0 lo)).take (Yv items.size items.size hi-Yv items.size 0 lo)).toArray } })
  (hsz:items.size<=sizeLine):wpAny (model prog w) A (getItem (.ref t) (.ref sl)) Q E s:=by
 have zi4:sizeOk (.seq ((items.toList.drop (Yv items.size 0 lo)).take (Yv items.size items.size hi-Yv items.size 0 lo)).toArray):=by
  show((items.toList.drop (Yv items.size 0 lo)).take (Yv items.size items.size hi-Yv items.size 0 lo)).toArray.size<=sizeLine
  rw[zye,zys,List.length_drop,Array.length_toList]
  omega
 have hj:Yv items.size items.size hi<=items.size:=zpj _ _ (zyk _) hi
 obtain⟨os,hos,hcs,hds⟩:=id hs
 have hTs:s.TypeIs (.ref sl) "slice" := ⟨os,hos,hcs⟩
 unfold getItem
 try with_reducible refine wpAny_holding ?_
 first | refine wpAny_bind (wpAny_pure ?_) | skip
 refine wpAny_bind (wpAny_sequenceKey ht.typeIs (by decide) ?_)
 refine wpAny_bind (wpAny_callSpecial?_slot (name:=Str.ofString "__getitem__") ht.typeIs PyProof.Rows.slot_tuple_getitem
  (wpAny_call_entry PyProof.Rows.slot_tuple_getitem ht.typeIs entry_tuple_getitem ?_ (args_tuple_getitem _ _)))
 show wpAny _ _ (Builtin.Tuple.tupleItemsOf (.ref t)>>=_) _ _ s
 refine wpAny_bind (tupleItemsOf_ ht ?_)
 refine wpAny_bind (wpAny_typeOf hTs ?_)
 rw[if_pos (by decide)]
 refine wpAny_bind (zab hs pl pu ?_)
 have hno:¬((((Yv items.size 0 lo:Nat):Int)==0&&(1:Int)==1&&(Yv items.size items.size hi-Yv items.size 0 lo)==items.size)=true):=by
  intro q
  rw[zyw,zyw] at q
  have q1:((Yv items.size 0 lo:Nat):Int)=0:=eq_of_beq q.1.1
  have q2:Yv items.size items.size hi-Yv items.size 0 lo=items.size:=eq_of_beq q.2
  exact hw ⟨by omega,by omega⟩
 show wpAny _ _ (if (((Yv items.size 0 lo:Nat):Int)==0&&(1:Int)==1&&(Yv items.size items.size hi-Yv items.size 0 lo)==items.size)=true then _ else _) _ _ s
 rw[if_neg hno,zlf]
 first
  | exact wpAny_bind (m:=Builtin.Tuple.tupleExact _) (wpAny_newObj_type (wpAny_pure ⟨_,rfl,wpAny_pure h⟩) zi4)
  | exact wpAny_bind (m:=Builtin.Tuple.tupleExact _) (wpAny_newObj_type (wpAny_bind (wpAny_pure (wpAny_pure ⟨_,rfl,wpAny_pure h⟩))) zi4)
  | exact wpAny_bind (wpAny_bind (m:=Builtin.Tuple.tupleExact _) (wpAny_newObj_type (wpAny_pure (wpAny_pure ⟨_,rfl,wpAny_pure h⟩)) zi4))
  | exact wpAny_bind (wpAny_bind (m:=Builtin.Tuple.tupleExact _) (wpAny_newObj_type (wpAny_pure ⟨_,rfl,wpAny_pure h⟩) zi4))
end
end HT
namespace L2
open PySem PySem.Spec PyProof.Rows
abbrev TO:=St->Hp->(Option Int->Hp->Prop)->Prop
def PO (X:Cx)(e:Option Expr)(t:TO):Prop :=
 ∀(pins:List (Addr×Obj)) (s:Shared) (σ:St) (H:Hp) (Q:Option Int->Hp->Prop),Inv X pins σ H s->t σ H Q ->
  wpAny (model X.prog X.w) X.A (evalPart e X.env) (fun u s'=>∃o H',Inv X pins σ H' s'/\IsPart u o/\Q o H') X.xe s
def zne:TO:=fun _ H Q=>Q none H
def zqU (t:TE):TO:=fun σ H Q=>t σ H fun x H1=>∃i,x=.int i/\Q (some i) H1
section
variable {X:Cx}{e:Expr}{te:TE}{lo hi:Option Expr}{tl th:TO}{pos p2:Pos}
theorem Uj:PO X none zne:=by
 intro pins s σ H Q I h
 rw[evalPart_none]
 exact wpAny_pure ⟨none,H,I,.none,h⟩
theorem Z7 (h:PE X e te):PO X (some e) (zqU te):=by
 intro pins s σ H Q I hw
 rw[evalPart_some]
 refine vJ (h pins s σ H _ I hw) fun u s1 ⟨x,H1,I1,r1,q1⟩=>?_
 obtain⟨i,rfl,q⟩:=q1
 obtain⟨t,rfl⟩:=r1
 exact⟨some i,H1,I1,.int i t,q⟩
def SlR (X:Cx)(r:V->Option Int->Option Int->Hp->VK->Prop):Prop :=
 ∀(pins:List (Addr×Obj)) (s:Shared) (σ:St) (H:Hp) (x:V) (v vl vu:Value) (lo hi:Option Int) (sl:Addr) (Q:VK),Inv X pins σ H s->RelV x v->s.heap.IsSliceOf sl vl vu .none->IsPart vl lo->IsPart vu hi->r x lo hi H Q ->
  ∃T id,typeLookup (.type T) "__getitem__"=pure (some (.builtin id))/\s.TypeIs v T/\wpAny (model X.prog X.w) X.A (getItem v (.ref sl)) (EP X pins σ Q) X.xe s
def tSl (r:V->Option Int->Option Int->Hp->VK->Prop)(te:TE)(tl th:TO):TE:=fun σ H Q=>te σ H fun x H1=>tl σ H1 fun l H2=>th σ H2 fun u H3=>r x l u H3 Q
theorem ZQ {r:V->Option Int->Option Int->Hp->VK->Prop}(hr:SlR X r)(he:PE X e te)(hl:PO X lo tl)(hu:PO X hi th):PE X (.Subscript e (.Slice lo hi none p2) pos) (tSl r te tl th):=by
 intro pins s σ H Q I h
 refine Subscript_ (vJ (he pins s σ H _ I h) fun v s1 ⟨x,H1,I1,r1,q1⟩=>?_)
 refine wpAny_Slice (vJ (hl pins s1 σ H1 _ I1 q1) fun vl s2 ⟨l,H2,I2,pl,q2⟩=>vJ (hu pins s2 σ H2 _ I2 q2) fun vu s3 ⟨u,H3,I3,pu,q3⟩=>?_)
 rw[evalPart_none]
 refine wpAny_pure ?_
 have I4:Inv X pins σ H3 { s3 with heap:=s3.heap.push { cls:=.type "slice", data:=.fields #[vl,vu,.none] } }:=I3.kept (t':=s3.toks) fun b ob q=>zya _ q
 obtain⟨T,id,hT,ht,hg⟩:=hr pins { s3 with heap:=s3.heap.push { cls:=.type "slice", data:=.fields #[vl,vu,.none] } } σ H3 x v vl vu l u s3.heap.objs.size Q I4 r1 (Heap.IsSliceOf.new ..) pl pu q3
 show wpAny (model X.prog X.w) X.A (subscriptTail e (.Slice lo hi none p2) v (.ref s3.heap.objs.size)) (EP X pins σ Q) X.xe { s3 with heap:=s3.heap.push { cls:=.type "slice", data:=.fields #[vl,vu,.none] } }
 exact tail_any (ops:=[.ref s3.heap.objs.size,v]) ht hT hg (by with_unfolding_all rfl)
def TQ (xs:List V)(lo hi:Option Int):List V:=(xs.drop (HT.Yv xs.length 0 lo)).take (HT.Yv xs.length xs.length hi-HT.Yv xs.length 0 lo)
theorem zaN (xs:List V)(lo hi:Option Int):(TQ xs lo hi).length<=xs.length:=by
 unfold TQ
 rw[zys,List.length_drop]
 omega
def zs8 (K:Frag):V->Option Int->Option Int->Hp->VK->Prop:=fun x lo hi H Q=>∃a xs,x=.ref a/\vL K H a xs /\
 ¬(HT.Yv xs.length 0 lo=0/\HT.Yv xs.length xs.length hi=xs.length)/\∀p,H p=none->Q (.ref p) (upd H p (.tup (TQ xs lo hi)))
theorem zhP:SlR X (zs8 X.K):=by
 intro pins s σ H x v vl vu lo hi sl Q I rx hs pl pu h
 obtain⟨a,xs,rfl,hx,hw,q⟩:=h
 cases rx
 obtain⟨its,r,ht,hz⟩:=I.tuple hx
 have hlen:its.toArray.size=xs.length:=by rw[zye];exact r.length.symm
 refine⟨"tuple", _,PyProof.Rows.slot_tuple_getitem.lookup,ht.typeIs,?_⟩
 refine HT.KN ht hs pl pu (by rw[hlen];exact hw) ?_ (by rw[hlen];exact hz)
 rw[hlen]
 refine⟨.ref s.heap.objs.size,_,I.laid (t':=s.toks) (o:=.tup (TQ xs lo hi)) (fun b ob q=>zya _ q) (zyk _) ?_,rfl,q _ (I.hok.fresh (zyk _))⟩
 exact⟨zyq (zaN xs lo hi) hz,_,(r.drop (HT.Yv xs.length 0 lo)).take (HT.Yv xs.length xs.length hi-HT.Yv xs.length 0 lo),IsTup.new _ _⟩
end
def ixN (n:Nat)(i:Int):Option Nat:=if 0<=i then (if i<n then some i.toNat else none) else if -(n:Int)<=i then some (i+n).toNat else none
def atI {α:Type}(xs:List α)(i:Int):Option α:=(ixN xs.length i).bind fun j=>xs[j]?
theorem zeP {n:Nat}{i:Int}{j:Nat}(h:ixN n i=some j):seqIndex? i n=some j/\j<n/\-(n:Int)<=i/\i<n:=by
 unfold ixN at h
 by_cases h0:0<=i
 ·rw[if_pos h0] at h
  by_cases h1:i<n
  ·rw[if_pos h1] at h
   have e:i.toNat=j:=zyz h
   exact⟨by rw[seqIndex_of h0 h1,e],by omega,by omega,h1⟩
  ·rw[if_neg h1] at h;cases h
 ·rw[if_neg h0] at h
  by_cases h1:-(n:Int)<=i
  ·rw[if_pos h1] at h
   have e:(i+n).toNat=j:=zyz h
   exact⟨by rw[seqIndex_neg (by omega) h1,e],by omega,h1,by omega⟩
  ·rw[if_neg h1] at h;cases h
theorem zeQ {α:Type}{xs:List α}{i:Int}{v:α}(h:atI xs i=some v):∃j,seqIndex? i xs.length=some j/\xs[j]?=some v/\j<xs.length/\-(xs.length:Int)<=i/\i<xs.length:=by
 unfold atI at h
 cases e:ixN xs.length i with
 | none=>rw[e] at h;cases h
 | some j =>
  rw[e] at h
  obtain⟨h1,h2,h3,h4⟩:=zeP e
  exact⟨j,h1,h,h2,h3,h4⟩
theorem yQ {α:Type}{xs:List α}{j:Nat}{v:α}(h:xs[j]?=some v):atI xs (j:Int)=some v:=by
 have hj:j<xs.length:=(zx7.mp h).1
 have e:ixN xs.length (j:Int)=some j:=by
  unfold ixN
  rw[if_pos (by omega),if_pos (by omega)];simp
 unfold atI;rw[e];exact h
theorem zbU {α:Type}(xs:List α)(v:α):atI (xs++[v]) (-1)=some v:=by
 have hl:(xs++[v]).length=xs.length+1:=by simp
 have e:ixN (xs++[v]).length (-1)=some xs.length:=by
  unfold ixN
  rw[hl,if_neg (by decide),if_pos (by omega)]
  congr 1
  omega
 unfold atI
 rw[e]
 show(xs++[v])[xs.length]?=some v
 simp
def znf (b:Expr):Prop:=∀o i,subscripted b false o i=operate [o,i] (getItem o i)
def IxR (X:Cx)(r:R2):Prop :=
 ∀(value slice:Expr) (pins:List (Addr×Obj)) (s:Shared) (σ:St) (H:Hp) (x y:V) (v u:Value) (Q:VK),Inv X pins σ H s->RelV x v->RelV y u->r x y H Q ->
  subscripted slice false v u=operate [v,u] (getItem v u)->wpAny (model X.prog X.w) X.A (subscriptTail value slice v u) (EP X pins σ Q) X.xe s
def MtR (X:Cx)(id:String)(r:V->List V->Hp->VK->Prop):Prop :=
 ∀(pins:List (Addr×Obj)) (s:Shared) (σ:St) (H:Hp) (x:V) (xs:List V) (v:Value) (us:List Value) (Q:VK),Inv X pins σ H s->RelV x v->Vals xs us->r x xs H Q ->
  wpAny (model X.prog X.w) X.A (call (.builtin id) (v::us)) (EP X pins σ Q) X.xe s
section
variable {X:Cx}{a b:Expr}{ta tb:TE}{pos:Pos}
theorem yc {r:R2}(hr:IxR X r)(ha:PE X a ta)(hb:PE X b tb)(hs:znf b):PE X (.Subscript a b pos) (tOp r ta tb):=by
 intro pins s σ H Q I h
 exact Subscript_ (zo8 ha hb I h fun v u s2 x y H2 I2 rx ry q=>hr a b pins s2 σ H2 x y v u Q I2 rx ry q (hs _ _))
def zqV (K:Frag):R2:=fun x y H Q=>∃p xs i v,x=.ref p/\y=.int i/\zO K H p xs/\atI xs i=some v/\Q v H
def zs9 (K:Frag):R2:=fun x y H Q=>∃p xs i v,x=.ref p/\y=.int i/\vL K H p xs/\atI xs i=some v/\Q v H
def zta:R2:=fun x y H Q=>∃z i c,x=.str z/\y=.int i/\z.length<=sizeLine/\atI z.cps.toList i=some c/\Q (.str ⟨#[c]⟩) H
theorem yw:IxR X (zqV X.K):=by
 intro value slice pins s σ H x y v u Q I rx ry h hs
 obtain⟨p,xs,i,z,rfl,rfl,hq,he,q⟩:=h
 cases rx
 obtain⟨t,rfl⟩:=ry
 obtain⟨its,r,pl,hz⟩:=I.list hq
 obtain⟨j,h1,h2,h3,h4,h5⟩:=zeQ he
 obtain⟨w,ew,rw'⟩:=r.get h2
 have hl:=r.length
 have hn:=U0
 have fin:EP X pins σ Q w s:=⟨z,H,I,rw',q⟩
 by_cases h0:0<=i
 ·have hj:i.toNat=j:=by
   rw[seqIndex_of h0 h5] at h1
   exact zyz h1
  exact item_listR pl.isList h0 (by omega) (by rw[hj];simpa using ew) fin hs
 ·have hj:(i+(its.toArray.size:Int)).toNat=j:=by
   rw[seqIndex_neg (by omega) h4] at h1
   rw[zye,<-hl]
   exact zyz h1
  exact subscriptTail_builtinR (x:=w) pl.isList.typeIs slot_list_getitem.lookup
   (wpAny_getItem_list_neg (Q:=fun r s'=>r=w/\EP X pins σ Q r s') pl.isList (by omega) (by rw[zye]<;>omega) (by omega) (by rw[hj];simpa using ew) ⟨rfl,fin⟩) hs
theorem v7:IxR X (zs9 X.K):=by
 intro value slice pins s σ H x y v u Q I rx ry h hs
 obtain⟨p,xs,i,z,rfl,rfl,hq,he,q⟩:=h
 cases rx
 obtain⟨t,rfl⟩:=ry
 obtain⟨its,r,pl,hz⟩:=I.tuple hq
 obtain⟨j,h1,h2,h3,h4,h5⟩:=zeQ he
 obtain⟨w,ew,rw'⟩:=r.get h2
 have hl:=r.length
 have hn:=U0
 have fin:EP X pins σ Q w s:=⟨z,H,I,rw',q⟩
 exact subscriptTail_builtinR (x:=w) pl.typeIs slot_tuple_getitem.lookup
  (getItem_tuple (j:=j) (Q:=fun r s'=>r=w/\EP X pins σ Q r s') pl (by omega) (by omega) (by rw[zye,<-hl];exact h1) (by simpa using ew) ⟨rfl,fin⟩) hs
theorem Lh:IxR X zta:=by
 intro value slice pins s σ H x y v u Q I rx ry h hs
 obtain⟨z,i,c,rfl,rfl,hz,he,q⟩:=h
 obtain⟨t,rfl⟩:=rx
 obtain⟨t',rfl⟩:=ry
 obtain⟨j,h1,h2,h3,h4,h5⟩:=zeQ he
 have hl:z.cps.toList.length=z.length:=by simp[Str.length]
 rw[hl] at h1 h4 h5
 have hn:=U0
 exact tail_any (typeIs_str s z t) slot_str_getitem.lookup (getItem_str (c:=c) (by
  have e1:decide (i < -(2^63:Int))=false:=decide_eq_false (by omega)
  have e2:decide (i >= 2^63)=false:=decide_eq_false (by omega)
  rw[e1,e2,Bool.or_false]) (by rw[h1];simpa using h2) ⟨.str ⟨#[c]⟩,H,I.tok _,⟨_,rfl⟩,q⟩) hs
theorem zhQ (its:List Value)(n j:Nat)(u:Value):Obj.mapSeq (·.setIfInBounds j u) { cls:=.type "list", data:=.seq its.toArray n }={ cls:=.type "list", data:=.seq (its.set j u).toArray n }:=by
 simp[Obj.mapSeq]
theorem Inv.lst {pins:List (Addr×Obj)}{σ:St}{H:Hp}{s:Shared}{p:Addr}{xs:List V}(I:Inv X pins σ H s)(h:H p=some (.lst xs)) :
  ∃(its:List Value) (n:Nat),Vals xs its/\s.heap.get? p=some { cls:=.type "list", data:=.seq its.toArray n }/\xs.length<=sizeLine:=by
 obtain⟨z,its,n,r,e⟩:=I.hok p _ h
 exact⟨its,n,r,e,z⟩
theorem Inv.zpk {pins:List (Addr×Obj)}{σ:St}{H:Hp}{s:Shared}{p:Addr}{xs ys:List V}{its its':List Value}{n n':Nat}{f:Obj->Obj}(I:Inv X pins σ H s)(h:H p=some (.lst xs))
  (ho:s.heap.get? p=some { cls:=.type "list", data:=.seq its.toArray n })(hf:f { cls:=.type "list", data:=.seq its.toArray n }={ cls:=.type "list", data:=.seq its'.toArray n' })(r:Vals ys its')(hz:ys.length<=sizeLine)(t:Nat) :
  Inv X pins σ (upd H p (.lst ys)) { s with heap:=s.heap.update p f,toks:=t }:=by
 have e:(s.heap.update p f).get? p=some { cls:=.type "list", data:=.seq its'.toArray n' }:=by
  rw[Heap.get?_update_self f ho (by rw[hf]<;>rfl),hf]
 refine I.write (x:=p) (e:=p) (by rw[h];trivial) (.inl rfl) (fun b u hb q=>(Heap.get?_update_other _ _ (Ne.symm hb)).trans q) ⟨_,e⟩ ?_
 exact⟨hz,its',n',r,e⟩
def zqW:V->V->V->Hp->(Hp->Prop)->Prop:=fun o i v H Q=>∃p xs k j,o=.ref p/\i=.int k/\H p=some (.lst xs)/\ixN xs.length k=some j/\Q (upd H p (.lst (xs.set j v)))
theorem set_list:zqK X zqW:=by
 intro pins s σ H o i v ov iv u Q I ro ri rv h
 obtain⟨p,xs,k,j,rfl,rfl,hp,hj,q⟩:=h
 cases ro
 obtain⟨t,rfl⟩:=ri
 obtain⟨its,n,r,ho,hz⟩:=I.lst hp
 obtain⟨h1,h2,h3,h4⟩:=zeP hj
 have hl:=r.length
 have hn:=U0
 have I':Inv X pins σ (upd H p (.lst (xs.set j v))) { s with heap:=s.heap.update p (Obj.mapSeq (·.setIfInBounds j u)) } :=
  I.zpk hp ho (zhQ its n j u) (r.set rv j) (by rw[List.length_set];exact hz) s.toks
 by_cases h0:0<=k
 ·have hk:k.toNat=j:=by
   rw[seqIndex_of h0 h4] at h1
   exact zyz h1
  exact PySem.W.ki_setAt ho h0 (by omega) (by rw[zye,<-hl];exact h4) (by rw[hk];exact⟨_,I',q⟩)
 ·have hk:(k+(its.toArray.size:Int)).toNat=j:=by
   rw[seqIndex_neg (by omega) h3] at h1
   rw[zye,<-hl]
   exact zyz h1
  exact PySem.W.ki_setBack ho (by omega) (by rw[zye,<-hl];exact h3) (by omega) (by rw[hk];exact⟨_,I',q⟩)
theorem zeR (lo hi:Option Int)(n:Nat):(sliceBounds lo hi none n).1=((HT.Yv n 0 lo:Nat):Int)/\(sliceBounds lo hi none n).2.1=((HT.Yv n n hi:Nat):Int)/\(sliceBounds lo hi none n).2.2=1:=by
 refine⟨?_,?_,rfl⟩
 ·cases lo with
  | none=>simp[sliceBounds,HT.Yv]
  | some i =>
   simp only[sliceBounds,HT.Yv,Option.getD_none,show(1:Int) > 0 by decide,if_true]
   by_cases h:i<0
   ·simp only[h,if_true]<;>omega
   ·simp only[h,if_false]<;>omega
 ·cases hi with
  | none=>simp[sliceBounds,HT.Yv]
  | some i =>
   simp only[sliceBounds,HT.Yv,Option.getD_none,show(1:Int) > 0 by decide,if_true]
   by_cases h:i<0
   ·simp only[h,if_true]<;>omega
   ·simp only[h,if_false]<;>omega
theorem zdf (its:List Value)(lo hi:Option Int):slicePick its.toArray lo hi none=((its.drop (HT.Yv its.length 0 lo)).take (HT.Yv its.length its.length hi-HT.Yv its.length 0 lo)).toArray:=by
 obtain⟨h1,h2,h3⟩:=zeR lo hi its.toArray.size
 unfold slicePick
 rw[h1,h2,h3]
 simp only[sliceRange_one,pick_run,zye]<;>rfl
def ztb (K:Frag):V->Option Int->Option Int->Hp->VK->Prop:=fun x lo hi H Q=>∃a xs,x=.ref a/\zO K H a xs/\∀p,H p=none->Q (.ref p) (upd H p (.lst (TQ xs lo hi)))
theorem Nk:SlR X (ztb X.K):=by
 intro pins s σ H x v vl vu lo hi sl Q I rx hs pl pu h
 obtain⟨a,xs,rfl,hx,q⟩:=h
 cases rx
 obtain⟨its,r,ht,hz⟩:=I.list hx
 have hlen:=r.length
 refine⟨"list", _,slot_list_getitem.lookup,ht.isList.typeIs,?_⟩
 refine wpAny_getItem_list_slice ht.isList hs pl pu .none (by simp) ?_ (by rw[zye]<;>omega)
 rw[zdf,<-hlen]
 refine⟨.ref s.heap.objs.size,_,I.laid (t':=s.toks) (o:=.lst (TQ xs lo hi)) (fun b ob q=>zya _ q) (zyk _) ?_,rfl,q _ (I.hok.fresh (zyk _))⟩
 exact⟨zyq (zaN xs lo hi) hz,_,0,(r.drop (HT.Yv xs.length 0 lo)).take (HT.Yv xs.length xs.length hi-HT.Yv xs.length 0 lo),zyp _ rfl⟩
def uf:V->Bool
 | .non=>true
 | .bl _=>true
 | .int _=>true
 | .str _=>true
 | _=>false
def eqV:V->V->Bool
 | .non,.non=>true
 | .bl a,.bl b=>a==b
 | .bl a,.int b=>(if a then 1 else 0)==b
 | .int a,.bl b=>a==(if b then 1 else 0)
 | .int a,.int b=>a==b
 | .str a,.str b=>a==b
 | _,_=>false
theorem zlg {A:Around}{s:Shared}{y x:V}{u v:Value}(ry:RelV y u)(rx:RelV x v)(fy:uf y=true)(fx:uf x=true):SeqAt.EqAt A s u v (eqV y x):=by
 cases y with
 | non =>
  cases ry
  cases x with
  | non=>cases rx;exact SeqAt.EqAt.same _
  | bl b=>cases rx;exact SeqAt.EqAt.none_bool b
  | int b=>obtain⟨t,rfl⟩:=rx;exact SeqAt.EqAt.none_int b t
  | str b=>obtain⟨t,rfl⟩:=rx;exact SeqAt.EqAt.none_str b t
  | _=>exact absurd (show false=true from fx) zx8
 | bl a =>
  cases ry
  cases x with
  | non=>cases rx;exact SeqAt.EqAt.bool_none a
  | bl b=>cases rx;exact SeqAt.EqAt.bool_bool a b
  | int b=>obtain⟨t,rfl⟩:=rx;exact SeqAt.EqAt.bool_int a b t
  | str b=>obtain⟨t,rfl⟩:=rx;exact SeqAt.EqAt.bool_str a b t
  | _=>exact absurd (show false=true from fx) zx8
 | int a =>
  obtain⟨t',rfl⟩:=ry
  cases x with
  | non=>cases rx;exact SeqAt.EqAt.int_none a t'
  | bl b=>cases rx;exact SeqAt.EqAt.int_bool a t' b
  | int b=>obtain⟨t,rfl⟩:=rx;exact SeqAt.EqAt.int_int a t' b t
  | str b=>obtain⟨t,rfl⟩:=rx;exact SeqAt.EqAt.int_str a t' b t
  | _=>exact absurd (show false=true from fx) zx8
 | str a =>
  obtain⟨t',rfl⟩:=ry
  cases x with
  | non=>cases rx;exact SeqAt.EqAt.str_none a t'
  | bl b=>cases rx;exact SeqAt.EqAt.str_bool a t' b
  | int b=>obtain⟨t,rfl⟩:=rx;exact SeqAt.EqAt.str_int a t' b t
  | str b=>obtain⟨t,rfl⟩:=rx;exact SeqAt.EqAt.str_str a t' b t
  | _=>exact absurd (show false=true from fx) zx8
 | _=>exact absurd (show false=true from fy) zx8
def eqU (x:V)(u:Value):Bool:=match u with
 | .none=>eqV .non x
 | .bool b=>eqV (.bl b) x
 | .int i _=>eqV (.int i) x
 | .str z _=>eqV (.str z) x
 | _=>false
theorem zeT {x y:V}{u:Value}(r:RelV y u)(f:uf y=true):eqU x u=eqV y x:=by
 cases y with
 | non=>cases r;rfl
 | bl b=>cases r;rfl
 | int i=>obtain⟨t,rfl⟩:=r;rfl
 | str z=>obtain⟨t,rfl⟩:=r;rfl
 | _=>exact absurd (show false=true from f) zx8
theorem KQ {x:V}:∀{xs:List V} {us:List Value},Vals xs us->xs.all uf=true->us.any (eqU x)=xs.any fun y=>eqV y x
 | _,_,.nil,_=>rfl
 | y::xs,u::us,.cons r t,f=>by
  rw[List.all_cons,zyw] at f
  rw[List.any_cons,List.any_cons,zeT r f.1,KQ t f.2]
theorem TV {A:Around}{s:Shared}{x:V}{v:Value}(rx:RelV x v)(fx:uf x=true):∀{xs:List V} {us:List Value},Vals xs us->xs.all uf=true->∀u∈us,SeqAt.EqAt A s u v (eqU x u)
 | _,_,.nil,_=>fun u hu=>by cases hu
 | y::xs,u::us,.cons r t,f=>fun u' hu=>by
  rw[List.all_cons,zyw] at f
  rcases List.mem_cons.mp hu with rfl | hu
  ·rw[zeT r f.1];exact zlg r rx f.1 fx
  ·exact TV rx fx t f.2 u' hu
def inV (x:V)(xs:List V):Bool:=xs.any fun y=>eqV y x
def rIn (K:Frag)(neg:Bool):R2:=fun x y H Q=>∃p xs,y=.ref p/\(zO K H p xs\/vL K H p xs)/\uf x=true/\xs.all uf=true/\Q (.bl (if neg then !inV x xs else inV x xs)) H
theorem Zm:Qe X (compareOp .In) (rIn X.K false):=by
 intro pins s σ H x y v u Q I rx ry h
 obtain⟨p,xs,rfl,hq,fx,fs,q⟩:=h
 cases ry
 rcases hq with hq | hq
 ·obtain⟨its,r,pl,hz⟩:=I.list hq
  refine SeqAt.in_listAt (eqU x) pl.isList (fun w hw=>TV rx fx r fs w (by simpa using hw)) ⟨.bl _,H,I,rfl,?_⟩
  rw[show its.toArray.any (eqU x)=its.any (eqU x) by simp,KQ r fs]
  exact q
 ·obtain⟨its,r,pl,hz⟩:=I.tuple hq
  refine SeqAt.in_tupleAt (eqU x) pl (fun w hw=>TV rx fx r fs w (by simpa using hw)) ⟨.bl _,H,I,rfl,?_⟩
  rw[show its.toArray.any (eqU x)=its.any (eqU x) by simp,KQ r fs]
  exact q
theorem zeU:Qe X (compareOp .NotIn) (rIn X.K true):=by
 intro pins s σ H x y v u Q I rx ry h
 obtain⟨p,xs,rfl,hq,fx,fs,q⟩:=h
 cases ry
 rcases hq with hq | hq
 ·obtain⟨its,r,pl,hz⟩:=I.list hq
  refine SeqAt.notIn_listAt (eqU x) pl.isList (fun w hw=>TV rx fx r fs w (by simpa using hw)) ⟨.bl _,H,I,rfl,?_⟩
  rw[show its.toArray.any (eqU x)=its.any (eqU x) by simp,KQ r fs]
  exact q
 ·obtain⟨its,r,pl,hz⟩:=I.tuple hq
  refine SeqAt.notIn_tupleAt (eqU x) pl (fun w hw=>TV rx fx r fs w (by simpa using hw)) ⟨.bl _,H,I,rfl,?_⟩
  rw[show its.toArray.any (eqU x)=its.any (eqU x) by simp,KQ r fs]
  exact q
theorem zE:Vq X (.builtin "len") (fun xs H Q=>∃p ys,xs=[.ref p]/\(zO X.K H p ys\/vL X.K H p ys)/\Q (.int ys.length) H):=by
 intro pins s σ H xs us Q I r h
 obtain⟨p,ys,rfl,hq,q⟩:=h
 obtain⟨u,rfl,rx⟩:=vals1 r
 cases rx
 have hn:=U0
 rcases hq with hq | hq
 ·obtain⟨its,r',pl,hz⟩:=I.list hq
  have hlen:=r'.length
  exact Calls.call_len_list pl.isList (by simp only[zye]<;>omega) ⟨.int ys.length,H,I.tok _,⟨s.toks+1,by rw[zye,hlen]⟩,q⟩
 ·obtain⟨its,r',pl,hz⟩:=I.tuple hq
  have hlen:=r'.length
  exact len_tuple pl (by simp only[zye]<;>omega) ⟨.int ys.length,H,I.tok _,⟨s.toks+1,by rw[zye,hlen]⟩,q⟩
theorem zeV:Vq X (.builtin "len") (fun xs H Q=>∃z,xs=[.str z]/\z.length<=sizeLine/\Q (.int z.length) H):=by
 intro pins s σ H xs us Q I r h
 obtain⟨z,rfl,hz,q⟩:=h
 obtain⟨u,rfl,t,rfl⟩:=vals1 r
 have hn:=U0
 exact len_str (by omega) ⟨.int z.length,H,I.tok _,⟨_,rfl⟩,q⟩
theorem WQ:Vq X (.type "list") (fun xs H Q=>∃p ys,xs=[.ref p]/\(zO X.K H p ys\/vL X.K H p ys)/\∀l,H l=none->Q (.ref l) (upd H l (.lst ys))):=by
 intro pins s σ H xs us Q I r h
 obtain⟨p,ys,rfl,hq,q⟩:=h
 obtain⟨u,rfl,rx⟩:=vals1 r
 cases rx
 have fin:∀(its:List Value),Vals ys its->ys.length<=sizeLine->∀(h':Heap) (c':Nat),(∀b o',s.heap.get? b=some o'->h'.get? b=some o') ->
   h'.get? s.heap.objs.size=some { cls:=.type "list", dict:=none,data:=.seq its.toArray c',slots:=#[] }->EP X pins σ Q (.ref s.heap.objs.size) { s with heap:=h' }:=fun its r' hz h' c' kp e =>
  ⟨.ref s.heap.objs.size,_,I.laid (t':=s.toks) kp (zyk _) (show wU X.prog X.w _ h' _ (.lst ys) from ⟨hz,its,c',r',e⟩),rfl,q _ (I.hok.fresh (zyk _))⟩
 rcases hq with hq | hq
 ·obtain⟨its,r',pl,hz⟩:=I.list hq
  have hlen:=r'.length
  obtain⟨o,ho,hc,n,hd⟩:=pl.isList
  exact call_list_seq p (.inl rfl) ho hc hd (fun h' c' kp e=>fin its r' hz h' c' kp e) (by simp only[zye]<;>omega)
 ·obtain⟨its,r',pl,hz⟩:=I.tuple hq
  have hlen:=r'.length
  obtain⟨o,ho,hc,n,hd⟩:=pl
  exact call_list_seq p (.inr rfl) ho hc hd (fun h' c' kp e=>fin its r' hz h' c' kp e) (by simp only[zye]<;>omega)
def tyV (K:Frag)(T:String)(x:V)(H:Hp):Prop:=match x with
 | .str _=>T="str"
 | .int _=>T="int"
 | .ref p=>(T="list" /\ ∃xs,zO K H p xs)\/(T="tuple" /\ ∃o,K.lookup p=some o/\o.cls=.type "tuple" /\ o.dict=none) \/
   (T="dict" /\ ((∃kvs,H p=some (.dK kvs))\/∃kvs,H p=some (.dT kvs)))\/(T="set" /\ ∃S n,H p=some (.set S n))
 | _=>False
theorem zlh {pins:List (Addr×Obj)}{σ:St}{H:Hp}{s:Shared}{T:String}{x:V}{v:Value}(I:Inv X pins σ H s)(r:RelV x v)(ty:tyV X.K T x H) :
  s.TypeIs v T/\∀a,v=.ref a->∃ob,s.heap.get? a=some ob/\ob.dict=none:=by
 cases x with
 | str z =>
  obtain⟨t,rfl⟩:=r
  cases (show T="str" from ty)
  exact⟨typeIs_str s z t,fun _ e=>nomatch e⟩
 | int i =>
  obtain⟨t,rfl⟩:=r
  cases (show T="int" from ty)
  exact⟨typeIs_int s i t,fun _ e=>nomatch e⟩
 | ref p =>
  cases r
  rcases ty with ⟨rfl,xs,hq⟩ | ⟨rfl,o,hk,hc,hd⟩ | ⟨rfl,hk⟩ | ⟨rfl,S,n,hk⟩
  ·obtain⟨its,_,pl,_⟩:=I.list hq
   refine⟨pl.isList.typeIs,fun a e=>?_⟩
   cases e
   obtain⟨o,n,e,c,hd,_⟩:=pl
   exact⟨o,e,hd⟩
  ·refine⟨⟨o,I.Mi p o hk,hc⟩,fun a e=>?_⟩
   cases e
   exact⟨o,I.Mi _ o hk,hd⟩
  ·have z:∃o,s.heap.get? p=some o/\o.ExactDict:=by
    rcases hk with ⟨kvs,hk⟩ | ⟨kvs,hk⟩
    ·obtain⟨_,_,_,_,o,_,_,e,ex,_⟩:=I.hok p _ hk
     exact⟨o,e,ex⟩
    ·obtain⟨_,_,_,_,o,_,_,e,ex,_⟩:=I.hok p _ hk
     exact⟨o,e,ex⟩
   obtain⟨o,e,ex⟩:=z
   refine⟨⟨o,e,ex.1⟩,fun a e2=>?_⟩
   cases e2
   exact⟨o,e,ex.2.1⟩
  ·obtain⟨o,_,_,_,e,ex,_⟩:=I.hok p _ hk
   refine⟨⟨o,e,ex.1⟩,fun a e2=>?_⟩
   cases e2
   exact⟨o,e,ex.2.1⟩
 | _=>exact False.elim ty
def zte (K:Frag)(T:String)(r:V->List V->Hp->VK->Prop)(to:TE):TE:=fun σ H Q=>to σ H fun x H1=>tyV K T x H1/\r x [] H1 Q
def tBM (K:Frag)(T:String)(r:V->List V->Hp->VK->Prop)(to:TE)(t:TA):TE:=fun σ H Q=>to σ H fun x H1=>tyV K T x H1/\t σ H1 fun xs H2=>r x xs H2 Q
variable {o e:Expr}{es:List Expr}{to:TE}{t:TA}{name:Str}{apos cpos:Pos}{T id:String}{r:V->List V->Hp->VK->Prop}
theorem zpl (pa:PlainAttrs T)(slot:Slot T name id)(hty:typeOf (.builtin id)=pure (.type "method_descriptor"))(hm:MtR X id r)(ho:PE X o to)
  (hbase:attributeBase o name X.env (eval o X.env)=eval o X.env:=by rfl)(hline:(apos.endLine==cpos.line)=true:=by rfl):PE X (.Call (.Attribute o name apos) [] [] cpos) (zte X.K T r to):=by
 intro pins s σ H Q I h
 refine wpAny_Call_method0_late hbase hline (vJ (ho pins s σ H _ I h) fun v s1 ⟨x,H1,I1,r1,ty,q1⟩=>?_)
 obtain⟨h1,h2⟩:=zlh I1 r1 ty
 exact⟨T,id,pa,slot,hty,h1,h2,Calls.callWith_builtin rfl (PySem.evalArgs_none (hm pins s1 σ H1 x [] v [] Q I1 r1 .nil q1))⟩
theorem vd (pa:PlainAttrs T)(slot:Slot T name id)(hty:typeOf (.builtin id)=pure (.type "method_descriptor"))(hm:MtR X id r)(ho:PE X o to)(ha:PA X (e::es) t)
  (hbase:attributeBase o name X.env (eval o X.env)=eval o X.env:=by rfl)
  (hfew:((backTo cpos (starEach (e::es) X.env)).all (fun x=>!x.1)&&(backToKw cpos (keywordEach [] X.env)).all (fun x=>x.1.isSome)
   && decide ((e::es).length+([]:List Keyword).length+(if ([]:List Keyword).isEmpty then 0 else 1)<30))=true:=by rfl)
  (hline:(apos.endLine==cpos.line)=true:=by rfl)(hs:starEach (e::es) X.env=(false,eval e X.env)::starEach es X.env:=by rfl)(hplain:(backTo cpos (starEach es X.env)).any (·.1)=false:=by rfl) :
  PE X (.Call (.Attribute o name apos) (e::es) [] cpos) (tBM X.K T r to t):=by
 intro pins s σ H Q I h
 refine wpAny_Call_method_late hbase hfew hline rfl (vJ (ho pins s σ H _ I h) fun v s1 ⟨x,H1,I1,r1,ty,q1⟩=>?_)
 obtain⟨h1,h2⟩:=zlh I1 r1 ty
 refine⟨T,id,pa,slot,hty,h1,h2,?_⟩
 have hA:=ha cpos pins s1 σ H1 _ I1 q1
 rw[hs] at hA ⊢
 refine Calls.callWith_builtin (by show(false||(backTo cpos (starEach es X.env)).any (·.1))=false;rw[hplain]<;>rfl) (Calls.evalArgs_plain ?_)
 exact vJ hA fun us s2 ⟨vs,H2,I2,r2,q2⟩=>hm pins s2 σ H2 x vs v us Q I2 r1 r2 q2
end
def MtM (X:Cx)(id:String)(r:V->List V->Hp->VK->Prop):Prop :=
 ∀(pins:List (Addr×Obj)) (s:Shared) (σ:St) (H:Hp) (x:V) (xs:List V) (v:Value) (us:List Value) (Q:VK),Inv X pins σ H s->RelV x v->Vals xs us->r x xs H Q ->
  wpAny (model X.prog X.w) X.A (call (.builtin id) (v::us)) (EP X pins σ Q) X.xe s
theorem Vals.one:∀{x:V} {us:List Value},Vals [x] us->∃u,us=[u]/\RelV x u
 | _,_,.cons r .nil=>⟨_,rfl,r⟩
theorem Vals.two:∀{x y:V} {us:List Value},Vals [x,y] us->∃u v,us=[u,v]/\RelV x u/\RelV y v
 | _,_,_,.cons r (.cons q .nil)=>⟨_,_,rfl,r,q⟩
theorem Vals.zero:∀{us:List Value},Vals [] us->us=[]
 | _,.nil=>rfl
theorem Vals.dropLast {xs:List V}{us:List Value}(h:Vals xs us):Vals xs.dropLast us.dropLast:=by
 induction h with
 | nil=>exact .nil
 | cons r t ih =>
  cases t with
  | nil=>exact .nil
  | cons q t'=>exact .cons r ih
theorem Vals.eraseIdx:∀{xs:List V} {us:List Value} (i:Nat),Vals xs us->Vals (xs.eraseIdx i) (us.eraseIdx i)
 | _,_,_,.nil=>.nil
 | _,_,0,.cons _ t=>t
 | _,_,i+1,.cons r t=>.cons r (Vals.eraseIdx i t)
theorem zhR {α:Type}(l:List α):l.eraseIdx (l.length-1)=l.dropLast:=by
 induction l with
 | nil=>rfl
 | cons a r ih =>
  cases r with
  | nil=>rfl
  | cons b r =>
   have e:(a::b::r).length-1=((b::r).length-1)+1:=by
    have h1:(a::b::r).length=r.length+2:=rfl
    have h2:(b::r).length=r.length+1:=rfl
    omega
   rw[e,List.eraseIdx_cons_succ,ih]
   all_goals rfl
theorem zd5 {α:Type}:∀(l:List α) (i:Nat),(l.eraseIdx i).length<=l.length
 | [],_=>zyk _
 | _::_,0=>Nat.le_succ _
 | _::r,i+1=>Nat.succ_le_succ (zd5 r i)
section
variable {X:Cx}{pins:List (Addr×Obj)}{σ:St}{H:Hp}{s:Shared}{l b:Addr}{xs ys zs:List V}
theorem Inv.zkc {its its':List Value}{n:Nat}{f:Array Value->Array Value}{t':Nat}(I:Inv X pins σ H s)(hH:H l=some (.lst xs))
  (e:s.heap.get? l=some { cls:=.type "list", data:=.seq its.toArray n })(hf:f its.toArray=its'.toArray)(hv:Vals ys its')(hz:ys.length<=sizeLine) :
  Inv X pins σ (upd H l (.lst ys)) { s with heap:=s.heap.update l (Obj.mapSeq f),toks:=t' }:=by
 have q:=PySem.IsL.update e f
 rw[hf] at q
 refine I.write (x:=l) (e:=l) (by rw[hH];exact trivial) (.inl rfl) (fun b' u hb hu=>(Heap.get?_update_other s.heap (Obj.mapSeq f) (Ne.symm hb)).trans hu) ⟨_,q⟩ ?_
 exact⟨hz,its',_,hv,q⟩
theorem Inv.fresh (I:Inv X pins σ H s):H s.heap.objs.size=none:=I.hok.fresh (zyk _)
theorem Inv.zga (I:Inv X pins σ H s)(hH:H l=some (.lst xs)):xs.length<=sizeLine/\∃(its:List Value) (n:Nat),Vals xs its/\xs.length=its.length/\s.heap.get? l=some { cls:=.type "list", data:=.seq its.toArray n }:=by
 obtain⟨z,its,n,r,e⟩:=I.hok l _ hH
 exact⟨z,its,n,r,r.length,e⟩
theorem zgb {n:Nat}(h:n<=sizeLine):Builtin.List.listTooLong n=false:=by
 unfold Builtin.List.listTooLong
 exact decide_eq_false (by omega)
end
section
variable {X:Cx}
def znh:V->List V->Hp->VK->Prop:=fun x vs H Q=>∃l xs y,x=.ref l/\vs=[y]/\H l=some (.lst xs)/\xs.length<sizeLine/\Q .non (upd H l (.lst (xs++[y])))
theorem wF:MtM X "list.append" znh:=by
 intro pins s σ H x vs v us Q I rx rv h
 obtain⟨l,xs,y,rfl,rfl,hH,hz,q⟩:=h
 cases rx
 obtain⟨u,rfl,ru⟩:=rv.one
 obtain⟨z,its,n,r,hl,e⟩:=I.zga hH
 refine call_meets F.slot_list_append ⟨_,e,rfl⟩ F.entry_list_append (F.args_list_append_2 _ _) (PySem.list_append l its.toArray n u (by rw[zye];omega)) ⟨e,?_⟩
 refine⟨.non,_,I.zkc (its':=its++[u]) hH e (by simp) (r.append (.cons ru .nil)) ?_,rfl,q⟩
 rw[zyc,zyC]
 omega
def zni:V->List V->Hp->VK->Prop:=fun x vs H Q=>∃l b xs zs,x=.ref l/\vs=[.ref b]/\H l=some (.lst xs)/\H b=some (.lst zs)/\xs.length+zs.length<=sizeLine/\Q .non (upd H l (.lst (xs++zs)))
theorem zd6:MtM X "list.extend" zni:=by
 intro pins s σ H x vs v us Q I rx rv h
 obtain⟨l,b,xs,zs,rfl,rfl,hH,hB,hz,q⟩:=h
 cases rx
 obtain⟨u,rfl,ru⟩:=rv.one
 cases ru
 obtain⟨z,its,n,r,hl,e⟩:=I.zga hH
 obtain⟨z2,its2,n2,r2,hl2,e2⟩:=I.zga hB
 have hsz:its.toArray.size+its2.toArray.size<=sizeLine:=by rw[zye,zye];omega
 have zli:¬(!its.toArray.isEmpty&&Builtin.List.listTooLong (its.toArray.size+its2.toArray.size))=true:=by
  rw[zgb hsz,Bool.and_false]
  exact zx8
 refine call_meets F.slot_list_extend ⟨_,e,rfl⟩ F.entry_list_extend (F.args_list_extend_2 _ _)
  (AutoSeq1.list_extend_list_list_0 l its.toArray n b its2.toArray n2 zli (by rw[zye];omega) (by omega)) ⟨e,e2,?_⟩
 refine⟨.non,_,I.zkc (its':=its++its2) hH e (by simp) (r.append r2) ?_,rfl,q⟩
 rw[zyc]
 omega
def ztf:V->List V->Hp->VK->Prop:=fun x vs H Q=>∃l xs y,x=.ref l/\vs=[]/\H l=some (.lst xs)/\xs[xs.length-1]?=some y/\Q y (upd H l (.lst xs.dropLast))
theorem zpm:MtM X "list.pop" ztf:=by
 intro pins s σ H x vs v us Q I rx rv h
 obtain⟨l,xs,y,rfl,rfl,hH,hy,q⟩:=h
 cases rx
 have hus:=rv.zero
 subst hus
 obtain⟨z,its,n,r,hl,e⟩:=I.zga hH
 obtain⟨u,hu,ru⟩:=r.get hy
 have hy':its.toArray[its.toArray.size-1]?=some u:=by
  show its.toArray[its.length-1]?=some u
  rw[<-Array.getElem?_toList,<-hl]
  exact hu
 refine call_meets F.slot_list_pop ⟨_,e,rfl⟩ F.entry_list_pop (F.args_list_pop_1 _) (MeetsSeq.list_pop_last l its.toArray n u hy' (by rw[zye];omega)) ⟨e,?_⟩
 refine⟨y,_,I.zkc (its':=its.dropLast) hH e ?_ r.dropLast ?_,ru,q⟩
 ·show its.toArray.eraseIdxIfInBounds (its.toArray.size-1)=its.dropLast.toArray
  rw[zye,List.eraseIdxIfInBounds_toArray,zhR]
 ·rw[List.length_dropLast]
  omega
def zpn:V->List V->Hp->VK->Prop:=fun x vs H Q=>∃l xs i k y,x=.ref l/\vs=[.int i]/\H l=some (.lst xs)/\-(2^63)<=i/\i<2^63/\seqIndex? i xs.length=some k/\xs[k]?=some y/\Q y (upd H l (.lst (xs.eraseIdx k)))
theorem zlj:MtM X "list.pop" zpn:=by
 intro pins s σ H x vs v us Q I rx rv h
 obtain⟨l,xs,i,k,y,rfl,rfl,hH,h1,h2,hk,hy,q⟩:=h
 cases rx
 obtain⟨u,rfl,ru⟩:=rv.one
 obtain⟨t,rfl⟩:=ru
 obtain⟨z,its,n,r,hl,e⟩:=I.zga hH
 obtain⟨w,hw,rw'⟩:=r.get hy
 refine call_meets F.slot_list_pop ⟨_,e,rfl⟩ F.entry_list_pop (F.args_list_pop_2 _ _)
  (MeetsSeq.list_pop_at l its.toArray n i t k w (fitsIndex_both h1 h2) (by rw[zye,<-hl];exact hk) (by rw[<-Array.getElem?_toList];exact hw) (by rw[zye];omega)) ⟨e,?_⟩
 refine⟨y,_,I.zkc (its':=its.eraseIdx k) hH e ?_ (r.eraseIdx k) ?_,rw',q⟩
 ·show its.toArray.eraseIdxIfInBounds k=(its.eraseIdx k).toArray
  rw[List.eraseIdxIfInBounds_toArray]
 ·have:=zd5 xs k
  omega
end
end L2
namespace Att
open PySem PySem.W PySem.Calls PyProof.Rows
theorem za7 {P:Params}{h:Heap}:∀(ns:List Int) (vs:List Value),WellAll P h vs (ns.map WData.int)->IntsAre vs ns:=by
 intro ns
 induction ns with
 | nil =>
  intro vs w
  rw[List.map_nil] at w
  cases w
  exact .nil
 | cons n ns ih =>
  intro vs w
  rw[zyt] at w
  cases w with
  | cons a b =>
   cases a
   exact .cons _ _ (ih _ b)
theorem zkd {l:OpenLaw}{n:Nat}(hn:l.most=some n){P:Params}{h:Heap}{args:List WData}{vals:List Value}
  (hpre:l.row.toRowW.claim.pre args=true)(hwl:WellAll P h vals args) :
  ∃a vs ns,vals=[Value.ref a]/\args=[WData.list (ns.map WData.int)]/\h.get? a=some { cls:=.type "list", data:=.seq vs.toArray }/\IntsAre vs ns/\ns.length<=n:=by
 have hsh:WShape.hasAll [] args [.list .int]=true:=(pre_splitW hpre).1
 have hc:l.pre.holds [] { args:=args }=true:=(pre_splitW hpre).2
 obtain⟨d,r,rfl,h1,h2⟩:=hasAllW_cons hsh
 obtain rfl:=hasAllW_nil h2
 obtain⟨xs,rfl,h3⟩:=hasW_list h1
 obtain⟨ns,rfl⟩:=items_int h3
 have hlen:ns.length<=n:=by
  unfold OpenLaw.pre at hc
  have h4:(WTm.not (.lt (.lit (.int (n:Int))) (.len (.arg 0)))).holds [] { args:=[.list (ns.map .int)] }=true:=by
   have h4:=(holds_andW hc).1
   rw[hn] at h4
   exact h4
  have h5:=condW_of h4 (w_not (w_lt w_lit (w_len_list (w_arg rfl))))
  rw[zx4] at h5
  refine Nat.le_of_not_lt fun q=>?_
  have q':(n:Int)<((ns.length:Nat):Int):=by omega
  first
   | (rw[decide_eq_true q'] at h5;exact absurd h5 (by decide))
   | (simp at h5;omega)
 cases hwl with
 | cons w1 w2 =>
  cases w2
  cases w1 with
  | list ho hall=>exact⟨_,_,ns,rfl,rfl,ho,za7 ns _ hall,hlen⟩
theorem zke (l:OpenLaw)(args:List WData):l.row.toRowW.claim.post args (.bool true) args=true :=
 postW_of (r:=l.row.toRowW) (X:=(true==true))
  (show WShape.has [] (.bool true) .bool=true by first | rfl | decide | simp[WShape.has,WShape.arms,WShape.armsAll])
  (show(WTm.eq .res (.lit (.bool true))).value [] { args:=args,res:=some (.bool true),after:=args }=some (.bool (true==true)) from w_eq_bool (w_res rfl) w_lit) rfl
theorem zgc {l:OpenLaw}{n:Nat}{q:Program}{loose:List Str}{XP:(Str->Option Value)->Heap->Prop}{YP:World->Heap->Prop}{d:DefRec}
  (hn:l.most=some n)(hdf:d.params.defaults=[])
  (call:∀(w:World) (s₀ s₁:Shared) (mg mb:Str->Option Value) (fa:Addr) (o:Obj) (pm cd doc:Value) (a:Addr) (vs:List Value) (ns:List Int),
   Ground q loose [] XP w s₀ mg mb s₁.heap->YP w s₁.heap ->
   s₁.heap.get? fa=some o->o.data=.func (docDef d.name d.params d.body d.scope pm cd doc)->s₁.heap.CodeRec cd d.name->mg d.name=some (.ref fa) ->
   s₁.heap.get? a=some { cls:=.type "list", data:=.seq vs.toArray }->IntsAre vs ns->ns.length<=n->s₁.gens=#[] ->
   codeAny (model l.prog w) callerA (.call (.ref fa) ⟨[.ref a],[]⟩) (fun r s'=>r=.ok (.ret (.bool true))/\OldK s₁.heap s'.heap/\s'.os=s₁.os/\AllBare s'.gens) s₁) :
  WalkO q loose XP YP l.row.toRowW d [] (fun f vs=>PySem.call f vs):=by
 intro w s₀ s₁ mg mb G Y fa o pm cd doc dV kV ho hd hcd hD hmg hg args vals as hpre hlay hrd hwl hlo
 obtain rfl:dV=.none:=Dflts.none hD hdf
 obtain rfl:kV=.none:=Dflts.noKw hD
 obtain⟨a,vs,ns,rfl,rfl,hobj,hints,hlen⟩:=zkd hn hpre hwl
 refine enter_call (codeAny_mono (call w s₀ s₁ mg mb fa o pm cd doc a vs ns G Y ho (fd_plain hd) hcd hmg hobj hints hlen hg) fun r s' hq=>?_)
 obtain⟨rfl,h2,h3,h4⟩:=hq
 exact⟨.inl ⟨.bool true,.bool true,[],rfl,fun _=>rfl,.bool true,zke l _,fun _=>⟨List.Pairwise.nil,fun _ hm=>(nomatch hm)⟩⟩,h2,h3,h4⟩
end Att
namespace L2
open PySem PySem.Spec PyProof.Rows
theorem zd7:∀{vs:List Value} {ns:List Int},IntsAre vs ns->Vals (ns.map V.int) vs
 | _,_,.nil=>.nil
 | _,_,.cons n t h=>.cons ⟨t,rfl⟩ (zd7 h)
def Only (H:Hp):Prop:=∀b,H b=none\/∃o xs,H b=some (.frz o (.lst xs))
theorem zlk {P:Program}{w:World}{K:Frag}{mg mb:Str->Option Value}{CX:CXT}{k:Nat}{fa a:Addr}{fd:FuncData}{x:Str}{sp:Sp}{s₁:Shared}{vs:List Value}{ns:List Int}
  (KX:K.In s₁.heap)(hns:s₁.heap.Ns mainGlobals mg)(hb:s₁.heap.Ns builtinsNs mb)(hbb:∀x:Str,x ≠ "__name__" -> mb x=bootBuiltins x)(hlim:s₁.heap.NoLimit)(hg:s₁.gens=#[])
  (ha:s₁.heap.get? a=some { cls:=.type "list", data:=.seq vs.toArray })(hi:IntsAre vs ns)(hl:ns.length<=sizeLine)(hr:tZ k callerA)
  (F:∀base:Heap,K.In base->base.Ns mainGlobals mg->zB P w K mg base CX k fa fd [x] sp)(hbind:∀(s:Shared) (u:Value),BindsTo s fd ⟨[u],[]⟩ [(x,u)])
  (hsp:∀H:Hp,Only H->zO K H a (ns.map V.int)->sp [.ref a] H (fun v _=>v=.bl true) fun _ _ _=>False)
  (hCX:∀H e s',CX [] H s₁ (fun _ _ _=>False) e s'->False) :
  codeAny (model P w) callerA (.call (.ref fa) ⟨[.ref a],[]⟩) (fun r s'=>r=.ok (.ret (.bool true))/\OldK s₁.heap s'.heap/\s'.os=s₁.os/\AllBare s'.gens) s₁:=by
 have rv:=zd7 hi
 have lenV:=hi.length
 have core:∀H:Hp,Only H->zO K H a (ns.map V.int)->Qd P w H s₁.heap->(∀b,H b≠none->b=a)->(H a≠none->K.lookup a=none) ->
   codeAny (model P w) callerA (.call (.ref fa) ⟨[.ref a],[]⟩) (fun r s'=>r=.ok (.ret (.bool true))/\OldK s₁.heap s'.heap/\s'.os=s₁.os/\AllBare s'.gens) s₁:=by
  intro H hO hS hok hA hK
  have zi5:∀{b:Addr} {o:Obj},s₁.heap.get? b=some o->H b=none->(zeJ s₁.heap H).get? b=some o:=fun e n=>zk4 e n
  have noA:∀{b:Addr} {o:Obj} {es:Array DictEntry} {ep:Nat},s₁.heap.get? b=some o->o.data=.dict es ep->H b=none:=fun {b o es ep} e d=>by
   cases q:H b with
   | none=>rfl
   | some u =>
    have e':b=a:=hA b (by rw[q];simp)
    subst e'
    rw[ha] at e;cases e
    have d':Data.seq vs.toArray _=Data.dict es ep:=d
    cases d'
  have nsK:∀{b:Addr} {m:Str->Option Value},s₁.heap.Ns b m->(zeJ s₁.heap H).Ns b m:=fun {b m} ⟨o,es,ep,e,d,r⟩=>⟨o,es,ep,zi5 e (noA e d),d,r⟩
  have hKb:K.In (zeJ s₁.heap H):=fun b o e=>zi5 (KX b o e) (by
   cases q:H b with
   | none=>rfl
   | some u =>
    have e':b=a:=hA b (by rw[q];simp)
    subst e'
    rw[hK (by rw[q];simp)] at e;cases e)
  have hM:Mod K mg (zeJ s₁.heap H):=⟨hKb,nsK hns,⟨mb,nsK hb,hbb⟩,let ⟨mc,h1,h2⟩:=hlim;⟨mc,nsK h1,h2⟩⟩
  have e0:zeO P w K mg (zeJ s₁.heap H) callerA [] s₁ H:=⟨rfl,hM,fun b o e=>zm3 e,Nat.le_of_eq (zj1 _ _),trivial,fun b hb=>absurd (show b∈([]:List Addr) from hb) (by simp),hok,.of_eq hg⟩
  refine codeAny_mono ((F _ hKb (nsK hns)).run callerA [] s₁ H ⟨[.ref a],[]⟩ [.ref a] [.ref a] _ _ hr e0 (hbind s₁ (.ref a)) (.cons rfl .nil) (hsp H hO hS)) fun r s' h=>?_
  cases r with
  | error e=>exact(hCX H e s' h).elim
  | ok fl =>
   cases fl with
   | next=>exact False.elim h
   | brk=>exact False.elim h
   | cont=>exact False.elim h
   | ret u =>
    obtain⟨v,H',os,bare,un,hok',r',q⟩:=h
    have q':v=.bl true:=q
    subst q'
    obtain rfl:u=Value.bool true:=r'
    refine⟨rfl,OldK.of_keep fun b o e=>?_,os,bare⟩
    cases q:H b with
    | none=>exact un.keep b o e q (by intro z;exact absurd (show b∈([]:List Addr) from z) (by simp)) (by simp)
    | some u =>
     rcases hO b with z | ⟨ob,xs,z⟩
     ·rw[q] at z;cases z
     ·have z2:=un.Ku b ob _ z
      obtain⟨e1,_⟩:=hok b _ z
      obtain⟨e2,_⟩:=hok' b _ z2
      rw[e] at e1;cases e1
      exact e2
 cases hk:K.lookup a with
 | some o =>
  have e:=KX a o hk
  rw[ha] at e
  cases e
  refine core (fun _=>none) (fun _=>.inl rfl) (.inr ⟨_,vs.toArray,_,hk,rfl,rfl,rfl,by rw[zye,lenV];exact hl,by simpa using rv⟩) (fun b u z=>by have z':(none:Option HO)=some u:=z;cases z') (fun b z=>absurd rfl z) fun z=>absurd rfl z
 | none =>
  refine core (fun b=>if b=a then some (.frz { cls:=.type "list", data:=.seq vs.toArray } (.lst (ns.map V.int))) else none) (fun b=>?_) (.inl (.inr ⟨{ cls:=.type "list", data:=.seq vs.toArray },if_pos rfl⟩)) (fun b u z=>?_) (fun b z=>?_) fun _=>hk
  ·by_cases hb:b=a
   ·exact .inr ⟨_,_,if_pos hb⟩
   ·exact .inl (if_neg hb)
  ·by_cases hb:b=a
   ·have z':=(if_pos hb).symm.trans z
    cases z'
    subst hb
    exact⟨ha,by rw[zx4];exact hl,vs,_,rv,ha⟩
   ·have z':=(if_neg hb).symm.trans z
    cases z'
  ·by_cases hb:b=a
   ·exact hb
   ·exact absurd (if_neg hb) z
abbrev KOf {K:Frag}{h:Heap}(_:K.In h):Frag:=K
theorem znj {l:PySem.W.OpenLaw}{n k:Nat}{q:Program}{loose:List Str}{XP:(Str->Option Value)->Heap->Prop}{YP:World->Heap->Prop}{d:DefRec}{K:Params->Frag}{CX:World->CXT}{sp:World->Sp}{x:Str}
  (hn:l.most=some n)(hn2:n<=sizeLine)(hdf:d.params.defaults=[])(hr:tZ k callerA)
  (hY:∀(w:World) (h:Heap),YP w h->(K w.params).In h)
  (F:∀(w:World) (mg:Str->Option Value) (fa:Addr) (h:Heap),(K w.params).In h->h.Ns mainGlobals mg->mg d.name=some (.ref fa) ->
   ∃fd:FuncData,(∀(s:Shared) (u:Value),BindsTo s fd ⟨[u],[]⟩ [(x,u)]) /\
    ∀base:Heap,(K w.params).In base->base.Ns mainGlobals mg->zB l.prog w (K w.params) mg base (CX w) k fa fd [x] (sp w))
  (hsp:∀(w:World) (H:Hp) (a:Addr) (ns:List Int),ns.length<=n->Only H->zO (K w.params) H a (ns.map V.int)->sp w [.ref a] H (fun v _=>v=.bl true) fun _ _ _=>False)
  (hCX:∀(w:World) (H:Hp) (s:Shared) (e:Value) (s':Shared),CX w [] H s (fun _ _ _=>False) e s'->False) :
  PySem.W.WalkO q loose XP YP l.row.toRowW d [] (fun f vs=>PySem.call f vs):=by
 refine Att.zgc hn hdf fun w s₀ s₁ mg mb fa o pm cd doc a vs ns G Y ho hd hcd hmg hobj hints hlen hg=>?_
 have KX:=hY w _ Y
 obtain⟨fd,hb,hF⟩:=F w mg fa _ KX G.T.g hmg
 exact zlk KX G.T.g G.T.b G.T.builtins G.T.nolimit hg hobj hints (zyq hlen hn2) hr hF hb (fun H hO hS=>hsp w H a ns hlen hO hS) fun H e s'=>hCX w H s₁ e s'
theorem zll {l:PySem.W.OpenLaw}{n k:Nat}{q:Program}{loose:List Str}{XP:(Str->Option Value)->Heap->Prop}{YP:World->Heap->Prop}{d:DefRec}{K:Params->Frag}{CX:CXT}{sp:Frag->Sp}{x:Str}
  (hn:l.most=some n)(hn2:n<=sizeLine)(hdf:d.params.defaults=[])(hr:tZ k callerA)
  (hY:∀(w:World) (h:Heap),YP w h->(K w.params).In h)
  (F:∀(w:World) (mg:Str->Option Value) (fa:Addr) (h:Heap),(K w.params).In h->h.Ns mainGlobals mg->mg d.name=some (.ref fa) ->
   ∃fd:FuncData,(∀(s:Shared) (u:Value),BindsTo s fd ⟨[u],[]⟩ [(x,u)]) /\
    ∀base:Heap,(K w.params).In base->base.Ns mainGlobals mg->zB l.prog w (K w.params) mg base CX k fa fd [x] (sp (K w.params)))
  (hsp:∀(K:Frag) (H:Hp) (a:Addr) (ns:List Int),ns.length<=n->Only H->zO K H a (ns.map V.int)->sp K [.ref a] H (fun v _=>v=.bl true) fun _ _ _=>False)
  (hCX:∀(H:Hp) (s:Shared) (e:Value) (s':Shared),CX [] H s (fun _ _ _=>False) e s'->False) :
  PySem.W.WalkO q loose XP YP l.row.toRowW d [] (fun f vs=>PySem.call f vs) :=
 znj (K:=K) (CX:=fun _=>CX) (sp:=fun w=>sp (K w.params)) hn hn2 hdf hr hY F (fun w H a ns h1 h2 h3=>hsp (K w.params) H a ns h1 h2 h3) fun _ H s e s'=>hCX H s e s'
def inClass (s:Stmt)(j:Nat):Stmt:=match s with
 | .ClassDef _ _ _ body _ _ _ _ _ _ _=>body.getD j (.Pass ⟨0,0,0,0⟩)
 | _=>.Pass ⟨0,0,0,0⟩
def Xw (s:Stmt):Arguments:=match s with
 | .FunctionDef _ a _ _ _ _ _ _ _ _=>a
 | _=>{ posonlyargs:=[],args:=[],vararg:=none,kwonlyargs:=[],kw_defaults:=[],kwarg:=none,defaults:=[] }
def uo (s:Stmt):List Stmt:=match s with
 | .FunctionDef _ _ b _ _ _ _ _ _ _=>b
 | _=>[]
def zx (s:Stmt):Scope:=match s with
 | .FunctionDef _ _ _ _ _ _ sc _ _ _=>sc
 | _=>{ kind:=.function,names:=[],isGenerator:=false,isCoroutine:=false }
abbrev zX:CXT:=fun _ _ _ _ _ _=>False
abbrev E0:XK:=fun _ _ _=>False
theorem zi6 {X:Cx}:Passes zX X E0:=fun _ _ _ _ _ _ _ h=>h.elim
structure Fun (K:Frag)(x qual:Str)(st:Stmt)(f:Addr)(fd:FuncData):Prop where
 ex:∃(oc:Value) (od:Option Addr) (kV doc pm:Value) (an:Option Addr) (cdv ct:Value) (osl:Array (Option Value)),
  fd=PySem.W.fnOf x qual (Xw st) (uo st) (zx st) .none kV doc pm an cdv ct/\K.lookup f=some ⟨oc,od,.func fd,osl⟩/\PySem.W.codeIn K cdv qual=true
 kp:PySem.W.keepIn K (.ref f)=true
section
variable {P:Program}{w:World}{K:Frag}{mg:Str->Option Value}{base:Heap}
theorem Fun.ok {x qual:Str}{st:Stmt}{f:Addr}{fd:FuncData}{N ps:List Str}{k:Nat}{sp:Sp}(F:Fun K x qual st f fd)(S:zK N ps (zx st))(len:∀vs H Q E,sp vs H Q E->vs.length=ps.length)
  (hbody:∀(cdv:Value) (A:Around) (outer:List Env) (s:Shared) (H:Hp) (vs:List V) (Q:VK) (E:XK),tZ k (A.deeper (envOfC qual (zx st) s.heap.objs.size f cdv))->sp vs H Q E ->
   ∃t,PSs (zaa zX P w K mg base N qual (zx st) f cdv A outer s H E).nox (uo st) t/\t { nx:=fun _ H'=>Q .non H',rt:=Q } (start N vs) H):zB P w K mg base zX (k+1) f fd ps sp:=by
 obtain⟨oc,od,kV,doc,pm,an,cdv,ct,osl,rfl,lk,hcd⟩:=F.ex
 refine zoA lk hcd S len fun A outer s H vs Q E hr hsp=>?_
 obtain⟨t,h,q⟩:=hbody cdv A outer s H vs Q E hr hsp
 exact⟨t,h.nox,q⟩
theorem Fun.binds {x qual:Str}{st:Stmt}{f:Addr}{fd:FuncData}{ps:List Str}(F:Fun K x qual st f fd)
  (h:∀(kV doc pm:Value) (an:Option Addr) (cdv ct:Value) (us:List Value),us.length=ps.length->bindArgs (PySem.W.fnOf x qual (Xw st) (uo st) (zx st) .none kV doc pm an cdv ct) ⟨us,[]⟩=pure (ps.zip us)):Binds K fd ps []:=by
 obtain⟨oc,od,kV,doc,pm,an,cdv,ct,osl,rfl,lk,hcd⟩:=F.ex
 exact .all (h kV doc pm an cdv ct)
theorem zeW {x qual:Str}{st:Stmt}{f:Addr}{oc:Value}{od an:Option Addr}{osl:Array (Option Value)}{kV doc pm cdv ct:Value}(l:K.lookup f=some ⟨oc,od,.func (PySem.W.fnOf x qual (Xw st) (uo st) (zx st) .none kV doc pm an cdv ct),osl⟩)
  (c:PySem.W.codeIn K cdv qual=true)(k:PySem.W.keepIn K (.ref f)=true):Fun K x qual st f (PySem.W.fnOf x qual (Xw st) (uo st) (zx st) .none kV doc pm an cdv ct):=⟨⟨oc,od,kV,doc,pm,an,cdv,ct,osl,rfl,l,c⟩,k⟩
end
theorem zd8 {A:Around}{k:Nat}(hr:tZ k A):A.units+1<cLine:=Nat.lt_of_le_of_lt (Nat.add_le_add_left (by decide:1<=64) _) hr.units
theorem zQ {n:Nat}(h:n<=1000):n<sizeLine:=Nat.lt_of_le_of_lt h (by decide)
section
variable {X:Cx}
theorem pv (i:Nat){x:Str}{pos:Pos}(hN:X.N[i]?=some x:=by rfl)(hv:Vis X.env.scope x:=by first | exact Or.inl rfl | exact Or.inr (Or.inl rfl) | exact Or.inr (Or.inr rfl))(hd:(x==("__debug__" : Str))=false:=by decide)
  (hcd:(x==("__classdict__" : Str))=false:=by decide):PE X (.Name x pos) (zbO i):=zo1 hN hv hd hcd
end
theorem U3 {A B:Prop}(h:B):if false=true then A else B:=by
 rw[if_neg zx8]
 exact h
theorem TX {A B:Prop}(h:A):if true=true then A else B:=by
 rw[if_pos rfl]
 exact h
theorem yC {c A B:Prop}[Decidable c](h1:c->A)(h2:¬c->B):if c then A else B:=by
 by_cases h:c
 ·rw[if_pos h]
  exact h1 h
 ·rw[if_neg h]
  exact h2 h
def Same (H H':Hp):Prop:=∀b o,H b=some o->H' b=some o
theorem Same.refl (H:Hp):Same H H:=fun _ _ h=>h
theorem Same.trans {H H1 H2:Hp}(a:Same H H1)(b:Same H1 H2):Same H H2:=fun c o h=>b c o (a c o h)
theorem Same.free {H H':Hp}(e:Same H H'){l:Addr}(h:H' l=Option.none):H l=Option.none:=by
 cases q:H l with
 | none=>rfl
 | some o =>
  rw[e l o q] at h
  cases h
theorem Same.seq {K:Frag}{H H':Hp}{a:Addr}{xs:List V}(e:Same H H')(h:zO K H a xs):zO K H' a xs:=by
 rcases h with (h | ⟨o,h⟩) | h
 ·exact .inl (.inl (e _ _ h))
 ·exact .inl (.inr ⟨o,e _ _ h⟩)
 ·exact .inr h
end L2
set_option maxHeartbeats 8000000
namespace L2
open PySem PySem.Spec PyProof.Rows
section
variable {X:Cx}{pins:List (Addr×Obj)}{σ:St}{H:Hp}{s:Shared}
theorem Qd.track {P:Program}{w:World}{H:Hp}{h:Heap}{a:Addr}{o:HO}(x:Qd P w H h)(hn:H a=none)(new:wU P w (upd H a o) h a o):Qd P w (upd H a o) h:=fun b u e=>by
 by_cases hb:b=a
 ·subst hb
  rw[zj] at e
  cases e
  exact new
 ·rw[zG hb] at e
  refine(x b u e).stay (fun _ _ _ q=>q) (fun c q=>?_) fun c xs q=>?_
  ·rw[zG (zH q hn)];exact q
  ·rw[zG (zH q hn)];exact q
theorem Inv.track {a:Addr}{o:HO}(I:Inv X pins σ H s)(hn:H a=none)(hL:a≠X.env.locals)(h0:X.s₀.heap.objs.size<=a)(hc:∀x c,X.env.cells.lookup x=some c->c≠a)(hp:∀p∈X.pn++pins,p.1≠a)
  (new:wU X.prog X.w (upd H a o) s.heap a o):Inv X pins σ (upd H a o) s:=by
 have old:∀b ob,X.s₀.heap.get? b=some ob->b≠a:=fun b ob e=>zyj (zyd (zyb e) h0)
 refine⟨I.ok,I.os,I.bare,⟨fun b ob e n=>I.base.keep b ob e n,fun b ob e n=>I.base.slot b ob e n,fun b ob e n hx=>?_,fun b ob e hx=>I.base.there b ob e hx,fun b xs e=>?_,fun b ob u e=>?_,fun b ps e=>?_⟩,I.loc,I.cell,?_,fun x c e=>?_,fun p hm=>?_,I.hok.track hn new,I.len⟩
 ·rw[zG (old b ob e)];exact I.base.free b ob e n hx
 ·have q:=I.base.tups b xs e
  rw[zG (zH q hn)];exact q
 ·have q:=I.base.Ku b ob u e
  rw[zG (zH q hn)];exact q
 ·obtain⟨mo,q⟩:=I.base.J0 b ps e
  exact⟨mo,by rw[zG (zH q hn)];exact q⟩
 ·rw[zG (Ne.symm hL)];exact I.free
 ·rw[zG (hc x c e)];exact I.Wc x c e
 ·obtain⟨z1,z2,z3⟩:=I.pin p hm
  exact⟨z1,by rw[zG (hp p hm)];exact z2,z3⟩
end
def clo:List (Str×NameKind)->List (Str×Addr)->List (Str×Addr)->List (Str×Addr)
 | [],_,acc=>acc
 | (n,k)::r,cells,acc=>clo r cells (if k==.free then (match cells.lookup n with | some c=>(n,c)::acc | none=>acc) else acc)
theorem TY (cells:List (Str×Addr)):∀(names:List (Str×NameKind)) (acc:List (Str×Addr)),(∀y c,acc.lookup y=some c->cells.lookup y=some c)->∀y c,(clo names cells acc).lookup y=some c->cells.lookup y=some c
 | [],acc,h=>h
 | (n,k)::r,acc,h=>by
  refine TY cells r _ fun y c e=>?_
  cases hk:k==NameKind.free with
  | false=>rw[hk] at e;exact h y c e
  | true =>
   rw[hk,if_pos rfl] at e
   cases hc:cells.lookup n with
   | none=>rw[hc] at e;exact h y c e
   | some a =>
    rw[hc] at e
    have e':(((n,a)::acc).lookup y)=some c:=e
    rw[zyu] at e'
    cases hy:y==n with
    | true =>
     rw[hy] at e'
     have z:y=n:=by simpa using hy
     subst z
     rw[hc];exact e'
    | false=>rw[hy] at e';exact h y c e'
theorem zd9 (cells:List (Str×Addr)):∀(names:List (Str×NameKind)) (acc:List (Str×Addr)) (y:Str),(acc.lookup y).isSome=true->((clo names cells acc).lookup y).isSome=true
 | [],_,_,h=>h
 | (n,k)::r,acc,y,h=>by
  refine zd9 cells r _ y ?_
  cases hk:k==NameKind.free with
  | false=>exact h
  | true =>
   rw[if_pos rfl]
   cases hc:cells.lookup n with
   | none=>exact h
   | some a =>
    show(((n,a)::acc).lookup y).isSome=true
    rw[zyu]
    cases hy:y==n with
    | true=>rfl
    | false=>exact h
theorem zeX (cells:List (Str×Addr)):∀(names:List (Str×NameKind)) (acc:List (Str×Addr)) (y:Str),(y,NameKind.free)∈names->(cells.lookup y).isSome=true->((clo names cells acc).lookup y).isSome=true
 | [],_,_,h,_=>by cases h
 | (n,k)::r,acc,y,h,hs=>by
  rcases List.mem_cons.mp h with e | h
  ·cases e
   refine zd9 cells r _ n ?_
   show(((match cells.lookup n with | some c=>(n,c)::acc | none=>acc)).lookup n).isSome=true
   cases hc:cells.lookup n with
   | none=>rw[hc] at hs;cases hs
   | some a =>
    show(((n,a)::acc).lookup n).isSome=true
    rw[zyu]
    simp
  ·exact zeX cells r _ y h hs
theorem zi7 {env:Env}:∀(names:List (Str×NameKind)) (acc:List (Str×Addr)),(∀y,(y,NameKind.free)∈names->(env.cells.lookup y).isSome=true) ->
  (forIn names acc fun(x:Str×NameKind) (cs:List (Str×Addr))=>if (x.2==NameKind.free)=true then do let c <-cellOf env x.1;pure (ForInStep.yield ((x.1,c)::cs)) else pure (ForInStep.yield cs):Sem (List (Str×Addr)))=pure (clo names env.cells acc)
 | [],acc,_=>rfl
 | (n,k)::r,acc,h=>by
  have ih:=fun acc'=>zi7 (env:=env) r acc' fun y hy=>h y (zyf _ hy)
  rw[List.forIn_cons]
  cases hk:k==NameKind.free with
  | false =>
   show((pure (ForInStep.yield acc):Sem _)>>=_)=_
   rw[pure_bind]
   show(forIn r acc _:Sem _)=_
   rw[ih acc]
   show pure (clo r env.cells acc)=pure (clo r env.cells (if (k==NameKind.free)=true then (match env.cells.lookup n with | some c=>(n,c)::acc | none=>acc) else acc))
   rw[hk];rfl
  | true =>
   have hkf:k=NameKind.free:=by simpa using hk
   subst hkf
   have hs:=h n zyo
   cases hc:env.cells.lookup n with
   | none=>rw[hc] at hs;cases hs
   | some a =>
    have hcell:cellOf env n=pure a:=by unfold cellOf;rw[hc]
    show((cellOf env n>>=fun c=>(pure (ForInStep.yield ((n,c)::acc)):Sem _))>>=_)=_
    rw[hcell,pure_bind,pure_bind]
    show(forIn r ((n,a)::acc) _:Sem _)=_
    rw[ih]
    show pure (clo r env.cells ((n,a)::acc))=pure (clo r env.cells (match env.cells.lookup n with | some c=>(n,c)::acc | none=>acc))
    rw[hc]
theorem zhS {sc:Scope}{env:Env}(h:∀y,(y,NameKind.free)∈sc.names->(env.cells.lookup y).isSome=true):closureFor sc env=pure (clo sc.names env.cells []):=by
 unfold closureFor
 have:=zi7 (env:=env) sc.names [] h
 simpa using this
structure WR (ZP sc:Scope)(x:Str)(fv:List Str):Prop where
 kind:sc.kind=.function
 Li:∀y∈sc.names,y.2≠.cell
 names:∀y∈sc.names,y.2=.local->sc.names.lookup y.1=some .local
 hx:sc.names.lookup x=some .local
 fr:∀y∈sc.names,y.2=.free->ZP.names.lookup y.1=some .cell\/ZP.names.lookup y.1=some .free
 fvs:∀y∈fv,sc.names.lookup y=some .free/\(ZP.names.lookup y=some .cell\/ZP.names.lookup y=some .free)
 nd:(x::fv).Nodup
abbrev Cx.blk (X:Cx)(sc:Scope)(cl:List (Str×Addr))(C:Addr)(N:List Str)(s:Shared)(H:Hp)(fp:List Addr):Cx :=
 {X with N:=N,s₀:=s,H₀:=H,env:=compEnvC sc cl C X.env,outer:=X.stack,ex:=fp,fn:=fun _=>false,pn:=[],xe:=fun _ _=>False }
abbrev lcN (X:Cx)(x:Str)(js:List Nat):List Str:=x::js.map fun j=>X.N.getD j ""
abbrev Wv (σ:St)(js:List Nat)(x:Option V):St:=x::js.map fun j=>σ.getD j none
theorem WT {env:Env}:∀{names:List (Str×NameKind)} {y:Str} {k:NameKind},(names.map fun(n,k)=>if (k==NameKind.free&&env.scope.kind==.function&&env.kindOf n==some .cell) then (n,NameKind.cell) else (n,k)).lookup y=some k->(k=.cell\/k=.free)->(∀z∈names,z.2≠.cell)->(y,NameKind.free)∈names
 | [],_,_,h,_,_=>by simp at h
 | (n,k')::r,y,k,h,hk,hn=>by
  by_cases hc:(k'==NameKind.free&&env.scope.kind==.function&&env.kindOf n==some .cell)=true
  ·have hk':k'=NameKind.free:=by
    rw[zyw,zyw] at hc
    simpa using hc.1.1
   subst hk'
   rw[zyt] at h
   cases hy:y==n with
   | true =>
    have z:y=n:=by simpa using hy
    subst z
    exact zyo
   | false =>
    have h':List.lookup y ((if (NameKind.free==NameKind.free&&env.scope.kind==.function&&env.kindOf n==some .cell)=true then (n,NameKind.cell) else (n,NameKind.free))::(r.map fun(n,k)=>if (k==NameKind.free&&env.scope.kind==.function&&env.kindOf n==some .cell) then (n,NameKind.cell) else (n,k)))=some k:=h
    rw[if_pos hc,zyu,hy] at h'
    exact zyf _ (WT h' hk fun z hz=>hn z (zyf _ hz))
  ·have h':List.lookup y ((if (k'==NameKind.free&&env.scope.kind==.function&&env.kindOf n==some .cell)=true then (n,NameKind.cell) else (n,k'))::(r.map fun(n,k)=>if (k==NameKind.free&&env.scope.kind==.function&&env.kindOf n==some .cell) then (n,NameKind.cell) else (n,k)))=some k:=h
   rw[if_neg hc,zyu] at h'
   cases hy:y==n with
   | true =>
    rw[hy] at h'
    cases h'
    have z:y=n:=by simpa using hy
    subst z
    rcases hk with e | e
    ·exact absurd e (hn _ zyo)
    ·subst e;exact zyo
   | false =>
    rw[hy] at h'
    exact zyf _ (WT h' hk fun z hz=>hn z (zyf _ hz))
theorem zbV {env:Env}:∀{names:List (Str×NameKind)} {y:Str},names.lookup y=some .free->(names.map fun(n,k)=>if (k==NameKind.free&&env.scope.kind==.function&&env.kindOf n==some .cell) then (n,NameKind.cell) else (n,k)).lookup y=some .cell\/(names.map fun(n,k)=>if (k==NameKind.free&&env.scope.kind==.function&&env.kindOf n==some .cell) then (n,NameKind.cell) else (n,k)).lookup y=some .free
 | [],_,h=>by simp at h
 | (n,k')::r,y,h=>by
  rw[zyu] at h
  rw[zyt]
  cases hy:y==n with
  | true =>
   rw[hy] at h
   cases h
   by_cases hc:(NameKind.free==NameKind.free&&env.scope.kind==.function&&env.kindOf n==some .cell)=true
   ·refine .inl ?_
    show List.lookup y ((if (NameKind.free==NameKind.free&&env.scope.kind==.function&&env.kindOf n==some .cell)=true then (n,NameKind.cell) else (n,NameKind.free))::_)=_
    rw[if_pos hc,zyu,hy]
   ·refine .inr ?_
    show List.lookup y ((if (NameKind.free==NameKind.free&&env.scope.kind==.function&&env.kindOf n==some .cell)=true then (n,NameKind.cell) else (n,NameKind.free))::_)=_
    rw[if_neg hc,zyu,hy]
  | false =>
   rw[hy] at h
   have ih:=zbV (env:=env) h
   by_cases hc:(k'==NameKind.free&&env.scope.kind==.function&&env.kindOf n==some .cell)=true
   ·show List.lookup y ((if (k'==NameKind.free&&env.scope.kind==.function&&env.kindOf n==some .cell)=true then (n,NameKind.cell) else (n,k'))::_)=_\/List.lookup y ((if (k'==NameKind.free&&env.scope.kind==.function&&env.kindOf n==some .cell)=true then (n,NameKind.cell) else (n,k'))::_)=_
    rw[if_pos hc,zyu,hy]
    exact ih
   ·show List.lookup y ((if (k'==NameKind.free&&env.scope.kind==.function&&env.kindOf n==some .cell)=true then (n,NameKind.cell) else (n,k'))::_)=_\/List.lookup y ((if (k'==NameKind.free&&env.scope.kind==.function&&env.kindOf n==some .cell)=true then (n,NameKind.cell) else (n,k'))::_)=_
    rw[if_neg hc,zyu,hy]
    exact ih
abbrev tU (its:List Value)(n:Nat):Obj:={ cls:=.type "list", data:=.seq its.toArray n }
abbrev Xx (ifs:List Expr)(env:Env):Sem Bool :=
 forIn ifs true fun c r=>if r=true then do let ok <-isTrue c env (eval c env);pure (ForInStep.yield ok) else pure (ForInStep.yield r)
def tLC (wi:TI)(js:List Nat)(tt:TT)(te:TE):TE:=fun σ H Q=>wi σ H fun J H1=>∃W:Nat->Nat->List V->Hp->Prop,(∃m,W 0 m [] H1)/\∀i m ys H,W i m ys H ->
 (J.stop i H/\∀p,H p=none->Q (.ref p) (upd H p (.lst ys))) \/
 (J.go i H/\ys.length<sizeLine/\∀x H',J.JZ i H x H'->tt (Wv σ js (some x)) H' fun b H2 =>
  if b=true then te (Wv σ js (some x)) H2 fun v H3=>∃m',m'<m/\W (i+1) m' (ys++[v]) H3 else ∃m',m'<m/\W (i+1) m' ys H2)
section
variable {X:Cx}{sc ZP:Scope}{x:Str}{js:List Nat}{elt iter:Expr}{px pos:Pos}{ifs:List Expr}{wi:TI}{tt:TT}{te:TE}
theorem znk {P:Program}{w:World}{A:Around}{R:Result->Shared->Prop}{st:Shared}{tg it acc}{cenv:Env}(Iv:Nat->Shared->Prop)
  (step:∀k st,Iv k st->wpAny (model P w) A (pyNext it) (fun got s1=>match got with
   | none=>R (.ok .next) s1
   | some v=>wpAny (model P w) A (letOwnedTupleGo tg it v) (fun _ s2=>wpAny (model P w) A (assign tg cenv v) (fun _ s3 =>
     wpAny (model P w) A (Xx ifs cenv) (fun ok s4=>if ok=true then wpAny (model P w) A (eval elt cenv) (fun y s5 =>
       wpAny (model P w) A (call (.builtin "list.append") [acc,y]) (fun _ s6=>∃k',k'<k/\Iv k' s6) (notedBy (model P w) A cenv fun e z=>R (.error e) z) s5) (notedBy (model P w) A cenv fun e z=>R (.error e) z) s4
      else ∃k',k'<k/\Iv k' s4) (notedBy (model P w) A cenv fun e z=>R (.error e) z) s3) (notedBy (model P w) A cenv fun e z=>R (.error e) z) s2) (notedBy (model P w) A cenv fun e z=>R (.error e) z) s1)
   (notedBy (model P w) A cenv fun e z=>R (.error e) z) st)(k0:Nat)(h0:Iv k0 st) :
  codeAny (model P w) A (.compLoop (.ListComp elt [⟨tg,iter,ifs,0⟩] sc pos) 0 it acc cenv) R st:=by
 refine codeAny_loop rfl Iv (fun k st hk=>?_) k0 h0
 show wpAny _ A ((compTurn (.ListComp elt [⟨tg,iter,ifs,0⟩] sc pos) 0 it acc cenv).onRaise (fun e=>do noteFrame e cenv;theTreesLotGoes e)) _ _ st
 refine wpAny_noted ?_
 rw[compTurn_list]
 refine wpAny_bind (wpAny_standAt (wpAny_bind (wpAny_mono (step k st hk) (fun got s1 h1=>?_) fun _ _ z=>z)))
 cases got with
 | none=>exact wpAny_pure h1
 | some v =>
  refine wpAny_bind (wpAny_mono h1 (fun _ s2 h2=>?_) fun _ _ z=>z)
  refine wpAny_bind (wpAny_mono h2 (fun _ s3 h3=>wpAny_bind (wpAny_mono h3 (fun ok s4 h4=>?_) fun _ _ z=>z)) fun _ _ z=>z)
  cases ok with
  | false=>exact wpAny_pure ⟨rfl,h4⟩
  | true=>exact wpAny_bind (wpAny_bind (wpAny_mono h4 (fun y s5 h5=>wpAny_bind (wpAny_mono h5 (fun _ s6 h6=>wpAny_pure (wpAny_pure ⟨rfl,h6⟩)) fun _ _ z=>z)) fun _ _ z=>z))
structure Own (X:Cx)(pins:List (Addr×Obj))(H:Hp)(a:Addr):Prop where
 free:H a=none
 loc:a≠X.env.locals
 new:X.s₀.heap.objs.size<=a
 cel:∀x c,X.env.cells.lookup x=some c->c≠a
 pin:∀p∈X.pn++pins,p.1≠a
 fs:a∉X.fs
end
structure zi8 (ZP sc:Scope)(xs:List Str)(fv:List Str):Prop where
 kind:sc.kind=.function
 Li:∀y∈sc.names,y.2≠.cell
 names:∀y∈sc.names,y.2=.local->sc.names.lookup y.1=some .local
 fr:∀y∈sc.names,y.2=.free->ZP.names.lookup y.1=some .cell\/ZP.names.lookup y.1=some .free
 fvs:∀y∈fv,sc.names.lookup y=some .free/\(ZP.names.lookup y=some .cell\/ZP.names.lookup y=some .free)
abbrev Kr (X:Cx)(xs:List Str)(js:List Nat):List Str:=xs++js.map fun j=>X.N.getD j ""
abbrev lcT (σ:St)(js:List Nat)(os:List (Option V)):St:=os++js.map fun j=>σ.getD j none
def zqZ (wi:TI)(xs:List Str)(js:List Nat)(g:TG)(tt:TT)(te:TE):TE:=fun σ H Q=>wi σ H fun J H1=>∃W:Nat->Nat->List V->Hp->Prop,(∃m,W 0 m [] H1)/\∀i m ys H,W i m ys H ->
 (J.stop i H/\∀p,H p=none->Q (.ref p) (upd H p (.lst ys))) \/
 (J.go i H/\ys.length<sizeLine/\∀x H',J.JZ i H x H'->∀o0:List (Option V),o0.length=xs.length->g x (lcT σ js o0) H' fun σ2 H1=>∃o1,σ2=lcT σ js o1/\o1.length=xs.length/\tt σ2 H1 fun b H2 =>
  if b=true then te σ2 H2 fun v H3=>∃m',m'<m/\W (i+1) m' (ys++[v]) H3 else ∃m',m'<m/\W (i+1) m' ys H2)
section
variable {X:Cx}{sc ZP:Scope}{xs:List Str}{js:List Nat}
theorem znl {pins:List (Addr×Obj)}{σ:St}{H:Hp}{s:Shared}{fp:List Addr}{C:Addr}(I:Inv X pins σ H s)(U4:X.env.scope=ZP)(L:zi8 ZP sc xs (js.map fun j=>X.N.getD j ""))
  (f2:∀b∈fp,zde X pins H b)(lt:∀b∈fp,b<s.heap.objs.size)(hC:s.heap.objs.size<=C):(X.blk sc (clo sc.names X.env.cells []) C (Kr X xs js) s H fp).Ok where
 mod:=I.ok.mod
 kind:=L.kind
 glob:=I.ok.glob
 blt:=I.ok.blt
 above:=hC
 inj:=fun y z c h1 h2=>I.ok.inj y z c (TY _ _ [] (fun _ _ e=>by simp at e) y c h1) (TY _ _ [] (fun _ _ e=>by simp at e) z c h2)
 has:=fun y hy=>by
  have hy':(relabel sc X.env).names.lookup y=some .cell\/(relabel sc X.env).names.lookup y=some .free:=hy
  have hm:(y,NameKind.free)∈sc.names:=by
   rcases hy' with e | e
   ·exact WT e (.inl rfl) L.Li
   ·exact WT e (.inr rfl) L.Li
  have ho:X.env.kindOf y=some .cell\/X.env.kindOf y=some .free:=by
   show X.env.scope.names.lookup y=_\/X.env.scope.names.lookup y=_
   rw[U4]
   exact L.fr _ hm rfl
  obtain⟨c,e⟩:=I.ok.has y ho
  exact Option.isSome_iff_exists.mp (zeX _ _ [] y hm (by rw[e];rfl))
 cab:=fun y c h=>by cases h
 hd:=I.ok.hd
 frames:=I.ok.frames
 stk:=.inl rfl
 exf:=fun b hb=>⟨zyj (zyd (lt b hb) hC),fun y c e=>(f2 b hb).2.2.2.2.1 y c (TY _ _ [] (fun _ _ e=>by simp at e) y c e)⟩
 bs:=I.bs
 bsz:=zyq I.ok.bsz I.sz
 zf4:=fun b o e hb=>by
  rcases (f2 b hb).2.2.2.1 with z | z
  ·exact I.ok.zf4 b o e z
  ·exact absurd (zyd (zyb (I.ok.bs b o e).1) z) (Nat.lt_irrefl _)
 zf5:=fun b hb hm=>by
  rcases List.mem_cons.mp (I.zbM b hm) with z | z
  ·exact(f2 b hb).2.1 z
  ·exact(f2 b hb).2.2.1 z
 Mh:=I.stack
 frf:=I.zbp
end
section
variable {X:Cx}{sc ZP:Scope}{xs:List Str}{js:List Nat}{tg:Expr}{g:TG}{elt iter:Expr}{px pos:Pos}{ifs:List Expr}{wi:TI}{tt:TT}{te:TE}
theorem zln {cl:List (Str×Addr)}{C D:Addr}{s₂:Shared}{H₂:Hp}{fp:List Addr}{pl:List (Addr×Obj)}{σ0:St}{H:Hp}{s:Shared}{u:Value}{v:V}{its:List Value}{n:Nat}{o0:List (Option V)}{E:Value->Shared->Prop}
  {Ny:V->Hp->Prop}{Nn:Hp->Prop}
  (hg:PG (X.blk sc cl C (Kr X xs js) s₂ H₂ fp) tg g)
  (I:Inv (X.blk sc cl C (Kr X xs js) s₂ H₂ fp) ((D,tU its n)::pl) (lcT σ0 js o0) H s)(ru:RelV v u)
  (ht:∀(pins:List (Addr×Obj)) (s':Shared) (σ':St) (H':Hp) (Q:Bool->Hp->Prop),Inv (X.blk sc cl C (Kr X xs js) s₂ H₂ fp) pins σ' H' s'->tt σ' H' Q ->
   wpAny (model X.prog X.w) X.A (Xx ifs (compEnvC sc cl C X.env)) (TP (X.blk sc cl C (Kr X xs js) s₂ H₂ fp) pins σ' Q) (fun _ _=>False) s')
  (he:PE (X.blk sc cl C (Kr X xs js) s₂ H₂ fp) elt te)
  (hlen:its.length<sizeLine)(hD0:s₂.heap.objs.size<=D)(hDC:D≠C)(hDc:∀y c,cl.lookup y=some c->c≠D)(hDp:∀p∈pl,p.1≠D)
  (h:g v (lcT σ0 js o0) H fun σ2 H1=>∃o1,σ2=lcT σ0 js o1/\o1.length=xs.length/\tt σ2 H1 fun b H2=>if b=true then te σ2 H2 Ny else Nn H2) :
  wpAny (model X.prog X.w) X.A (assign tg (compEnvC sc cl C X.env) u) (fun _ s2 =>
   wpAny (model X.prog X.w) X.A (Xx ifs (compEnvC sc cl C X.env)) (fun ok s3 =>
    if ok=true then wpAny (model X.prog X.w) X.A (eval elt (compEnvC sc cl C X.env)) (fun y s4 =>
     wpAny (model X.prog X.w) X.A (call (.builtin "list.append") [.ref D,y]) (fun _ s5=>∃z y' H5 o1,o1.length=xs.length/\Ny z H5/\RelV z y'/\Inv (X.blk sc cl C (Kr X xs js) s₂ H₂ fp) ((D,tU (its++[y']) (n+1))::pl) (lcT σ0 js o1) H5 s5) E s4) E s3
    else ∃H5 o1,o1.length=xs.length/\Nn H5/\Inv (X.blk sc cl C (Kr X xs js) s₂ H₂ fp) ((D,tU its n)::pl) (lcT σ0 js o1) H5 s3) E s2) E s:=by
 refine wpAny_mono (hg _ s _ H v u _ I ru h) (fun _ s2 ⟨σ6,H6,I6,o1,e1,l1,h6⟩=>?_) fun _ _ z=>False.elim z
 subst e1
 refine wpAny_mono (ht _ s2 _ _ _ I6 h6) (fun ok s3 ⟨H7,I7,q7⟩=>?_) fun _ _ z=>False.elim z
 cases ok with
 | false =>
  rw[if_neg zx8] at q7 ⊢
  exact⟨H7,o1,l1,q7,I7⟩
 | true =>
  rw[if_pos rfl] at q7 ⊢
  refine wpAny_mono (he _ s3 _ H7 _ I7 q7) (fun y s4 ⟨z,H8,I8,r8,q8⟩=>?_) fun _ _ z=>False.elim z
  obtain⟨p1,p2,p3,p4,p5⟩:=I8.pin (D,tU its n) (zyl _ zyo)
  have p1':s4.heap.get? D=some { cls:=.type "list", data:=.seq its.toArray n }:=p1
  refine call_meets F.slot_list_append ⟨_,p1',rfl⟩ F.entry_list_append (F.args_list_append_2 _ _) (PySem.list_append D its.toArray n y (by rw[zye];omega)) ⟨p1',?_⟩
  have q:=PySem.IsL.update p1' (fun a=>a.push y)
  have sz:((its.toArray.push y).size==its.toArray.size)=false:=by simp
  have e3:(s4.heap.update D (Obj.mapSeq fun a=>a.push y)).get? D=some (tU (its++[y]) (n+1)):=by
   have q':(s4.heap.update D (Obj.mapSeq fun a=>a.push y)).get? D=some { cls:=.type "list", data:=.seq (its.toArray.push y) (if ((its.toArray.push y).size==its.toArray.size)=true then n else n+1) }:=q
   rw[q',sz,if_neg zx8]
   simp
  have I9:Inv (X.blk sc cl C (Kr X xs js) s₂ H₂ fp) pl (lcT σ0 js o1) H8 s4:=I8.Rf fun p hp=>I8.pin p (zyl _ (zyf _ hp))
  have oth:∀b o,b≠D->s4.heap.get? b=some o->(s4.heap.update D (Obj.mapSeq fun a=>a.push y)).get? b=some o:=fun b o hb e=>(Heap.get?_update_other _ _ (Ne.symm hb)).trans e
  have I10:=I9.turned (t':=s4.toks) (h':=s4.heap.update D (Obj.mapSeq fun a=>a.push y)) (it:=D) oth p2 hDC (.inr hD0) hDc (fun p hp=>hDp p hp)
  refine⟨z,y,H8,o1,l1,q8,r8,I10.Rf fun p hp=>?_⟩
  rcases List.mem_cons.mp hp with e | e
  ·subst e
   exact⟨e3,p2,p3,p4,fun w hw=>by cases hw⟩
  ·exact I10.pin p (zyl _ e)
theorem zgd {use:Option (Value->Sem Unit)}{QQ:Value->Shared->Prop}{Fin:List V->Hp->Prop}{pins:List (Addr×Obj)}{s:Shared}{σ:St}{H:Hp}(U4:X.env.scope=ZP)(L:zi8 ZP sc xs (js.map fun j=>X.N.getD j "")){rd:Cx->Prop}(hc:∀sc cl C N s H fp,rd (X.blk sc cl C N s H fp))(hi:PIr rd X tg iter wi)(hg:∀(cl:List (Str×Addr)) (C:Addr) (s₂:Shared) (H₂:Hp) (fp:List Addr),PG (X.blk sc cl C (Kr X xs js) s₂ H₂ fp) tg g)(hjs:∀j∈js,j<X.N.length)
  (ht:∀(cl:List (Str×Addr)) (C:Addr) (s₂:Shared) (H₂:Hp) (fp:List Addr) (pins:List (Addr×Obj)) (s':Shared) (σ':St) (H':Hp) (Q:Bool->Hp->Prop),Inv (X.blk sc cl C (Kr X xs js) s₂ H₂ fp) pins σ' H' s'->tt σ' H' Q ->
   wpAny (model X.prog X.w) X.A (Xx ifs (compEnvC sc cl C X.env)) (TP (X.blk sc cl C (Kr X xs js) s₂ H₂ fp) pins σ' Q) (fun _ _=>False) s')
  (he:∀(cl:List (Str×Addr)) (C:Addr) (s₂:Shared) (H₂:Hp) (fp:List Addr),PE (X.blk sc cl C (Kr X xs js) s₂ H₂ fp) elt te)
  (hs:∀x,foldedSetIterable iter X.env x=pure x)(I:Inv X pins σ H s)
  (h:wi σ H fun J H1=>∃W:Nat->Nat->List V->Hp->Prop,(∃m,W 0 m [] H1)/\∀i m ys H,W i m ys H->(J.stop i H/\Fin ys H) \/
   (J.go i H/\ys.length<sizeLine/\∀x H',J.JZ i H x H'->∀o0:List (Option V),o0.length=xs.length->g x (lcT σ js o0) H' fun σ2 H1=>∃o1,σ2=lcT σ js o1/\o1.length=xs.length/\tt σ2 H1 fun b H2 =>
    if b=true then te σ2 H2 fun v H3=>∃m',m'<m/\W (i+1) m' (ys++[v]) H3 else ∃m',m'<m/\W (i+1) m' ys H2))
  (hfin:∀(D C:Addr) (s5:Shared) (H5:Hp) (ys:List V) (its:List Value) (k:Nat) (m5:Str->Option Value),Inv X pins σ H5 s5->Own X pins H5 D->Own X pins H5 C->D≠C->s5.heap.get? D=some (tU its k)->Vals ys its->ys.length<=sizeLine->s5.heap.Ns C m5->Fin ys H5 ->
   compPost (model X.prog X.w) X.A X.xe use QQ (.ref D) C (.ok .next) s5) :
  wpAny (model X.prog X.w) X.A (comprehension (.ListComp elt [⟨tg,iter,ifs,0⟩] sc pos) sc X.env (firstIterPos [⟨tg,iter,ifs,0⟩] pos) (newList []) false (eval iter X.env) use) QQ X.xe s:=by
 have hcl:closureFor sc X.env=pure (clo sc.names X.env.cells []):=zhS fun y hy=>by
  have ho:X.env.kindOf y=some .cell\/X.env.kindOf y=some .free:=by
   show X.env.scope.names.lookup y=_\/X.env.scope.names.lookup y=_
   rw[U4]
   exact L.fr _ hy rfl
  obtain⟨c,e⟩:=I.ok.has y ho
  rw[e];rfl
 refine wpAny_comprehension_free (use:=use) rfl hs hcl L.kind L.names (vJ (hi pins s σ H _ I h) fun v s1 h1=>vJ h1 fun itv s2 h2=>?_)
 obtain⟨it,fp,tn,J,H2,e,I2,T,st2,f2,W,⟨m0,w0⟩,turn⟩:=h2
 subst e
 refine wpAny_newObj_type (wpAny_newFunctionEnv L.Li (by intro y hy;simp at hy) (fun h₁ hns₁ hsb₁=>?_) L.kind)
 dsimp only at hns₁ hsb₁ ⊢
 generalize hG:s2.heap.push { cls:=.type "list", dict:=none,data:=.seq ([]:List Value).toArray }=G at hns₁ hsb₁ ⊢
 have hGs:G.objs.size=s2.heap.objs.size+1:=by rw[<-hG,Heap.size_push]
 have hCle:s2.heap.objs.size<=G.objs.size:=by rw[hGs];exact Nat.le_succ _
 have hDC:s2.heap.objs.size≠G.objs.size:=by rw[hGs];exact zyj (Nat.lt_succ_self _)
 have old:∀b o,s2.heap.get? b=some o->h₁.get? b=some o:=fun b o e=>by
  have lt:=zyb e
  refine hsb₁.extBut b o (zyj (zyd lt hCle)) (zya _ ?_)
  rw[<-hG]
  exact zya _ e
 have hacc:h₁.get? s2.heap.objs.size=some (tU [] 0):=by
  refine hsb₁.extBut _ _ hDC (zya _ ?_)
  rw[<-hG]
  exact zyp _ rfl
 have lt:∀b∈fp,b<s2.heap.objs.size:=fun b hb=>by
  obtain⟨o,e,_⟩:=T.obj _ _ st2 b hb
  exact zyb e
 have clS:∀y c,(clo sc.names X.env.cells []).lookup y=some c->X.env.cells.lookup y=some c:=TY _ _ [] (fun _ _ e=>by simp at e)
 have ztg:∀y c,(clo sc.names X.env.cells []).lookup y=some c->c<s2.heap.objs.size:=fun y c e=>by
  obtain⟨v,o,q,_⟩:=I2.cell y c (clS y c e)
  exact zyb q
 have Bok:(X.blk sc (clo sc.names X.env.cells []) G.objs.size (Kr X xs js) s2 H2 fp).Ok:=znl I2 U4 L f2 lt hCle
 have fresh:∀a,s2.heap.objs.size<=a->H2 a=none:=fun a ha=>I2.hok.fresh ha
 have zpo:∀b∈frs X.stack,b<s2.heap.objs.size:=fun b hb=>by
  rcases List.mem_cons.mp (I2.zbM b hb) with z | z
  ·rw[z];exact I2.lt
  ·refine Nat.lt_of_not_le fun q=>I2.zo0 q z
 have B0:Inv (X.blk sc (clo sc.names X.env.cells []) G.objs.size (Kr X xs js) s2 H2 fp) [(s2.heap.objs.size,tU [] 0)] (lcT σ js (List.replicate xs.length none)) H2 { s2 with heap:=h₁,toks:=s2.toks+([]:List (Str×Value)).length }:=by
  refine⟨Bok,rfl,I2.bare,Un.kept old,⟨_,hns₁,fun i y v e1 e2 e3=>?_⟩,fun y c e=>?_,fresh _ hCle,fun y c e=>I2.Wc y c (clS y c e),fun p hp=>?_,I2.hok.kept old,?_⟩
  ·by_cases hlt:i<xs.length
   ·exfalso
    have e2'':(List.replicate xs.length (none:Option V)++js.map fun j=>σ.getD j none)[i]?=some (some v):=e2
    rw[zyB (by rw[List.length_replicate];exact hlt),List.getElem?_replicate,if_pos hlt] at e2''
    cases e2''
   ·have e1':(js.map fun j=>X.N.getD j "")[i-xs.length]?=some y:=by
     have z:(xs++js.map fun j=>X.N.getD j "")[i]?=some y:=e1
     rw[List.getElem?_append_right (by omega)] at z
     exact z
    have e2':(js.map fun j=>σ.getD j none)[i-xs.length]?=some (some v):=by
     have z:(List.replicate xs.length (none:Option V)++js.map fun j=>σ.getD j none)[i]?=some (some v):=e2
     rw[List.getElem?_append_right (by rw[List.length_replicate];omega),List.length_replicate] at z
     exact z
    have e1s:=e1'
    rw[zx6] at e1' e2'
    cases hj:js[i-xs.length]? with
    | none=>rw[hj] at e1';cases e1'
    | some j =>
     rw[hj] at e1' e2'
     have e4:X.N.getD j ""=y:=zyz e1'
     have e5:σ.getD j none=some v:=zyz e2'
     have hjl:=hjs j (zx9 hj)
     have e6:X.N[j]?=some y:=by
      rw[zyh,zx5 hjl] at e4
      rw[zx5 hjl]
      exact congrArg some e4
     have e7:σ[j]?=some (some v):=by
      rw[zyh] at e5
      cases hq:σ[j]? with
      | none=>rw[hq] at e5;cases e5
      | some w=>rw[hq] at e5;exact congrArg some e5
     obtain⟨hm0,hk⟩:=L.fvs y (zx9 e1s)
     have hm:(y,NameKind.free)∈sc.names:=PySem.mem_of_lookup hm0
     have hk':X.env.kindOf y=some .cell\/X.env.kindOf y=some .free:=by
      show X.env.scope.names.lookup y=_\/X.env.scope.names.lookup y=_
      rw[U4];exact hk
     have hv:Vis X.env.scope y:=by rcases hk' with z | z;exact .inr (.inl z);exact .inr (.inr z)
     obtain⟨m,hn,hl⟩:=I2.loc
     obtain⟨u,r,l⟩:=hl j y v e6 e7 hv
     refine⟨u,r,.inr ?_⟩
     rcases l with ⟨z,_⟩ | ⟨_,c,hc1,hc2⟩
     ·rw[z] at hk';rcases hk' with q | q<;>cases q
     ·have hs2:((clo sc.names X.env.cells []).lookup y).isSome=true:=zeX _ _ [] y hm (by rw[hc1];rfl)
      obtain⟨c',hc'⟩:=Option.isSome_iff_exists.mp hs2
      have hcc:c'=c:=by have:=clS y c' hc';rw[hc1] at this;exact(zyz this).symm
      subst hcc
      obtain⟨o,ho,hd⟩:=hc2
      exact⟨zbV hm0,c',hc',o,old _ o ho,hd⟩
  ·obtain⟨v,o,q,d⟩:=I2.cell y c (clS y c e)
   exact⟨v,o,old _ o q,d⟩
  ·have e:p=(s2.heap.objs.size,tU [] 0):=by simpa using hp
   subst e
   exact⟨hacc,fresh _ (zyk _),hDC,fun z=>Nat.lt_irrefl _ (zpo _ z),fun w hw=>by cases hw⟩
  ·show _=(Kr X xs js).length
   simp
 have stat:∀{H':Hp} {pl:List (Addr×Obj)},(∀b∈fp,H' b=none)->(∀p∈pl,p.1=s2.heap.objs.size)->∀b∈fp,zde (X.blk sc (clo sc.names X.env.cells []) G.objs.size (Kr X xs js) s2 H2 fp) pl H' b:=fun hn hp b hb =>
  ⟨hn b hb,(Bok.exf b hb).1,Bok.zf5 b hb,.inl hb,(Bok.exf b hb).2,fun p hm=>by
   rw[hp p (by simpa using hm)]
   exact Ne.symm (zyj (lt b hb))⟩
 have loop:∀s3:Shared,s3={ s2 with heap:=h₁,toks:=s2.toks+([]:List (Str×Value)).length } ->
   codeAny (model X.prog X.w) X.A (.compLoop (.ListComp elt [⟨tg,iter,ifs,0⟩] sc pos) 0 (.ref it) (.ref s2.heap.objs.size) (compEnvC sc (clo sc.names X.env.cells []) G.objs.size X.env))
    (compPost (model X.prog X.w) X.A X.xe use QQ (.ref s2.heap.objs.size) G.objs.size) s3:=by
  rintro s3 rfl
  refine znk (fun n s'=>∃i ys its k o0 H',o0.length=xs.length/\Inv (X.blk sc (clo sc.names X.env.cells []) G.objs.size (Kr X xs js) s2 H2 fp) [(s2.heap.objs.size,tU its k)] (lcT σ js o0) H' s'/\tn i s'.heap/\(∀b∈fp,H' b=none)/\Vals ys its/\ys.length<=sizeLine/\W i n ys H') ?_ m0
   ⟨0,[],[],0,List.replicate xs.length none,H2,List.length_replicate,B0,T.keep _ _ _ st2 fun b _ o e=>old b o e,fun b hb=>(f2 b hb).1,.nil,zyr _,w0⟩
  rintro n s4 ⟨i,ys,its,k,o0,H4,lo0,I4,st4,fr4,vs4,z4,w4⟩
  have one:∀p∈[(s2.heap.objs.size,tU its k)],p.1=s2.heap.objs.size:=fun p hp=>by
   have e:p=(s2.heap.objs.size,tU its k):=by simpa using hp
   rw[e]
  rcases turn i n ys H4 w4 with ⟨stop,qn⟩ | ⟨go,zl,step⟩
  ·refine vJ (T.done (X.blk sc (clo sc.names X.env.cells []) G.objs.size (Kr X xs js) s2 H2 fp) rfl rfl rfl (hc _ _ _ _ _ _ _) i _ s4 _ H4 _ I4 (stat fr4 one) st4 stop) fun r s5 ⟨hr,I5⟩=>?_
   subst hr
   obtain⟨m5,hn5,_⟩:=I5.loc
   obtain⟨p1,p2,p3,p4,p5⟩:=I5.pin (s2.heap.objs.size,tU its k) (by simp)
   have ch:∀b∈fp,(b∈X.ex\/X.s₀.heap.objs.size<=b)/\b≠X.env.locals/\(∀x c,X.env.cells.lookup x=some c->c≠b)/\∀p∈X.pn++pins,p.1≠b:=fun b hb =>
    ⟨(f2 b hb).2.2.2.1,(f2 b hb).2.1,(f2 b hb).2.2.2.2.1,(f2 b hb).2.2.2.2.2⟩
   have J1:Inv X pins σ H4 s5:=I2.call' I5.os I5.base I5.hok I5.bare ch
   have ltp:∀p∈X.pn++pins,p.1<s2.heap.objs.size:=fun p hp=>zyb (I2.pin p hp).1
   have ltc:∀y c,X.env.cells.lookup y=some c->c<s2.heap.objs.size:=fun y c e=>by
    obtain⟨v,o,q,_⟩:=I2.cell y c e
    exact zyb q
   have s0:X.s₀.heap.objs.size<=s2.heap.objs.size:=I2.sz
   have own:∀a,s2.heap.objs.size<=a->H4 a=none->Own X pins H4 a:=fun a ha hn=>⟨hn,Ne.symm (zyj (zyd I2.lt ha)),zyq s0 ha,fun y c e=>zyj (zyd (ltc y c e) ha),
    fun p hp=>zyj (zyd (ltp p hp) ha),I2.zo0 ha⟩
   exact hfin _ _ s5 H4 ys its k m5 J1 (own _ (zyk _) p2) (own _ hCle I5.free) hDC p1 vs4 z4 hn5 qn
  ·refine vJ (T.item (X.blk sc (clo sc.names X.env.cells []) G.objs.size (Kr X xs js) s2 H2 fp) rfl rfl rfl (hc _ _ _ _ _ _ _) i _ s4 _ H4 _ I4 (stat fr4 one) st4 go) fun r s5 ⟨u,hr,h5⟩=>?_
   subst hr
   refine wpAny_mono h5 (fun _ s5' ⟨v,H6,I6,r6,y6,st6,fr6⟩=>?_) fun _ _ z=>z
   have I7:=I6.pinned (stat fr6 one) (T.obj _ _ st6)
   have ztl:∀p∈Lf fp s5'.heap,p.1≠s2.heap.objs.size:=fun p hp=>zyj (lt _ (zdW hp).1)
   have zv3:=vs4.length
   have back:∀{its':List Value} {k':Nat} {H7:Hp} {s7:Shared} {ys':List V} {m':Nat} {o1:List (Option V)},o1.length=xs.length->Inv (X.blk sc (clo sc.names X.env.cells []) G.objs.size (Kr X xs js) s2 H2 fp) ((s2.heap.objs.size,tU its' k')::Lf fp s5'.heap) (lcT σ js o1) H7 s7 ->
     Vals ys' its'->ys'.length<=sizeLine->m'<n->W (i+1) m' ys' H7->∃m,m<n/\∃i ys its k o0 H',o0.length=xs.length/\Inv (X.blk sc (clo sc.names X.env.cells []) G.objs.size (Kr X xs js) s2 H2 fp) [(s2.heap.objs.size,tU its k)] (lcT σ js o0) H' s7/\tn i s7.heap/\(∀b∈fp,H' b=none)/\Vals ys its/\ys.length<=sizeLine/\W i m ys H':=by
    intro its' k' H7 s7 ys' m' o1 l1 J vs' z' hm w'
    refine⟨m',hm,i+1,ys',its',k',o1,H7,l1,J.Rf fun p hp=>J.pin p (zyl _ (by simp at hp;simp[hp])),?_,?_,vs',z',w'⟩
    ·exact T.keep _ _ _ st6 fun b hb o e=>(J.pin (b,o) (zyl _ (zyf _ (Rj hb e)))).1
    ·intro b hb
     obtain⟨o,e,_⟩:=T.obj _ _ st6 b hb
     exact(J.pin (b,o) (zyl _ (zyf _ (Rj hb e)))).2.1
   refine wpAny_mono (zln (X:=X) (sc:=sc) (xs:=xs) (js:=js) (tg:=tg) (g:=g) (elt:=elt) (ifs:=ifs) (tt:=tt) (te:=te) (D:=s2.heap.objs.size) (its:=its) (n:=k) (pl:=Lf fp s5'.heap)
    (hg _ _ _ _ _) I7 r6 (ht _ _ _ _ _) (he _ _ _ _ _) (by omega) (zyk _) hDC (fun y c e=>zyj (ztg y c e)) ztl (step v H6 y6 o0 lo0)) (fun _ s6 h6=>?_) fun _ _ z=>z
   refine wpAny_mono h6 (fun ok s7 h7=>?_) fun _ _ z=>z
   cases ok with
   | false =>
    rw[if_neg zx8] at h7 ⊢
    obtain⟨H7,o1,l1,⟨m',hm,w'⟩,J⟩:=h7
    exact back l1 J vs4 z4 hm w'
   | true =>
    rw[if_pos rfl] at h7 ⊢
    refine wpAny_mono h7 (fun y s8 h8=>?_) fun _ _ z=>z
    refine wpAny_mono h8 (fun _ s9 h9=>?_) fun _ _ z=>z
    obtain⟨z,y',H9,o1,l1,⟨m',hm,w'⟩,rz,J⟩:=h9
    refine back l1 J (vs4.append (.cons rz .nil)) ?_ hm w'
    rw[zyc,zyC]
    omega
 exact codeAny_compStart_list (loop _ rfl) (T.self _ 0 _ _ _ (T.keep _ _ _ st2 fun b _ o e=>old b o e) (loop _ rfl))
end
section
variable {X:Cx}{sc ZP:Scope}{x:Str}{js:List Nat}{elt iter:Expr}{px pos:Pos}{ifs:List Expr}{wi:TI}{tt:TT}{te:TE}
theorem zi9 {use:Option (Value->Sem Unit)}{QQ:Value->Shared->Prop}{Fin:List V->Hp->Prop}{pins:List (Addr×Obj)}{s:Shared}{σ:St}{H:Hp}(U4:X.env.scope=ZP)(L:WR ZP sc x (js.map fun j=>X.N.getD j "")){rd:Cx->Prop}(hc:∀sc cl C N s H fp,rd (X.blk sc cl C N s H fp))(hi:PIr rd X (.Name x px) iter wi)(hjs:∀j∈js,j<X.N.length)
  (ht:∀(cl:List (Str×Addr)) (C:Addr) (s₂:Shared) (H₂:Hp) (fp:List Addr) (pins:List (Addr×Obj)) (s':Shared) (σ':St) (H':Hp) (Q:Bool->Hp->Prop),Inv (X.blk sc cl C (lcN X x js) s₂ H₂ fp) pins σ' H' s'->tt σ' H' Q ->
   wpAny (model X.prog X.w) X.A (Xx ifs (compEnvC sc cl C X.env)) (TP (X.blk sc cl C (lcN X x js) s₂ H₂ fp) pins σ' Q) (fun _ _=>False) s')
  (he:∀(cl:List (Str×Addr)) (C:Addr) (s₂:Shared) (H₂:Hp) (fp:List Addr),PE (X.blk sc cl C (lcN X x js) s₂ H₂ fp) elt te)
  (hs:∀x,foldedSetIterable iter X.env x=pure x)(I:Inv X pins σ H s)
  (h:wi σ H fun J H1=>∃W:Nat->Nat->List V->Hp->Prop,(∃m,W 0 m [] H1)/\∀i m ys H,W i m ys H->(J.stop i H/\Fin ys H) \/
   (J.go i H/\ys.length<sizeLine/\∀x H',J.JZ i H x H'->tt (Wv σ js (some x)) H' fun b H2 =>
    if b=true then te (Wv σ js (some x)) H2 fun v H3=>∃m',m'<m/\W (i+1) m' (ys++[v]) H3 else ∃m',m'<m/\W (i+1) m' ys H2))
  (hfin:∀(D C:Addr) (s5:Shared) (H5:Hp) (ys:List V) (its:List Value) (k:Nat) (m5:Str->Option Value),Inv X pins σ H5 s5->Own X pins H5 D->Own X pins H5 C->D≠C->s5.heap.get? D=some (tU its k)->Vals ys its->ys.length<=sizeLine->s5.heap.Ns C m5->Fin ys H5 ->
   compPost (model X.prog X.w) X.A X.xe use QQ (.ref D) C (.ok .next) s5) :
  wpAny (model X.prog X.w) X.A (comprehension (.ListComp elt [⟨.Name x px,iter,ifs,0⟩] sc pos) sc X.env (firstIterPos [⟨.Name x px,iter,ifs,0⟩] pos) (newList []) false (eval iter X.env) use) QQ X.xe s:=by
 have e:(fun(J:It) (H1:Hp)=>∃W:Nat->Nat->List V->Hp->Prop,(∃m,W 0 m [] H1)/\∀i m ys H,W i m ys H->(J.stop i H/\Fin ys H) \/
   (J.go i H/\ys.length<sizeLine/\∀x H',J.JZ i H x H'->tt (Wv σ js (some x)) H' fun b H2 =>
    if b=true then te (Wv σ js (some x)) H2 fun v H3=>∃m',m'<m/\W (i+1) m' (ys++[v]) H3 else ∃m',m'<m/\W (i+1) m' ys H2)) =
   (fun(J:It) (H1:Hp)=>∃W:Nat->Nat->List V->Hp->Prop,(∃m,W 0 m [] H1)/\∀i m ys H,W i m ys H->(J.stop i H/\Fin ys H) \/
   (J.go i H/\ys.length<sizeLine/\∀y H',J.JZ i H y H'->∀o0:List (Option V),o0.length=[x].length->WL 0 y (lcT σ js o0) H' fun σ2 H1=>∃o1,σ2=lcT σ js o1/\o1.length=[x].length/\tt σ2 H1 fun b H2 =>
    if b=true then te σ2 H2 fun v H3=>∃m',m'<m/\W (i+1) m' (ys++[v]) H3 else ∃m',m'<m/\W (i+1) m' ys H2)):=by
  funext J H1
  refine propext ⟨fun⟨W,w0,w1⟩=>⟨W,w0,fun i m ys H hw=>?_⟩,fun⟨W,w0,w1⟩=>⟨W,w0,fun i m ys H hw=>?_⟩⟩
  ·rcases w1 i m ys H hw with a | ⟨a,b,c⟩
   ·exact .inl a
   ·refine .inr ⟨a,b,fun y H' hy o0 ho=>?_⟩
    match o0,ho with
    | [o],_=>exact⟨[some y],rfl,rfl,c y H' hy⟩
  ·rcases w1 i m ys H hw with a | ⟨a,b,c⟩
   ·exact .inl a
   ·refine .inr ⟨a,b,fun y H' hy=>?_⟩
    obtain⟨o1,e1,e2,e3⟩:=c y H' hy [none] rfl
    exact e3
 rw[e] at h
 exact zgd (xs:=[x]) (g:=WL 0) U4 ⟨L.kind,L.Li,L.names,L.fr,L.fvs⟩ hc hi (fun cl C s₂ H₂ fp=>yr (X:=X.blk sc cl C (Kr X [x] js) s₂ H₂ fp) L.nd rfl (.inl (lookup_relabel_local L.hx)) (.inr (lookup_relabel_local L.hx))) hjs ht he hs I h hfin
theorem zja (U4:X.env.scope=ZP)(L:WR ZP sc x (js.map fun j=>X.N.getD j "")){rd:Cx->Prop}(hc:∀sc cl C N s H fp,rd (X.blk sc cl C N s H fp))(hi:PIr rd X (.Name x px) iter wi)(hjs:∀j∈js,j<X.N.length)
  (ht:∀(cl:List (Str×Addr)) (C:Addr) (s₂:Shared) (H₂:Hp) (fp:List Addr) (pins:List (Addr×Obj)) (s':Shared) (σ':St) (H':Hp) (Q:Bool->Hp->Prop),Inv (X.blk sc cl C (lcN X x js) s₂ H₂ fp) pins σ' H' s'->tt σ' H' Q ->
   wpAny (model X.prog X.w) X.A (Xx ifs (compEnvC sc cl C X.env)) (TP (X.blk sc cl C (lcN X x js) s₂ H₂ fp) pins σ' Q) (fun _ _=>False) s')
  (he:∀(cl:List (Str×Addr)) (C:Addr) (s₂:Shared) (H₂:Hp) (fp:List Addr),PE (X.blk sc cl C (lcN X x js) s₂ H₂ fp) elt te)
  (hs:∀x,foldedSetIterable iter X.env x=pure x:=by intro _;rfl) :
  PE X (.ListComp elt [⟨.Name x px,iter,ifs,0⟩] sc pos) (tLC wi js tt te):=by
 intro pins s σ H Q I h
 rw[eval_ListComp]
 refine zi9 (use:=none) (Fin:=fun ys H=>∀p,H p=none->Q (.ref p) (upd H p (.lst ys))) U4 L hc hi hjs ht he hs I h fun D C s5 H5 ys its k m5 J oD oC hDC p1 vs z hn fin=>?_
 refine⟨m5,hn,fun h' hsb=>?_⟩
 have J2:Inv X pins σ H5 { s5 with heap:=h',toks:=s5.toks }:=J.turned (it:=C) (fun b o hb e=>hsb.extBut b o hb e) oC.free oC.loc (.inr oC.new) oC.cel oC.pin
 have p1':h'.get? D=some (tU its k):=hsb.extBut _ _ hDC p1
 have J3:Inv X pins σ (upd H5 D (.lst ys)) { s5 with heap:=h',toks:=s5.toks }:=J2.track oD.free oD.loc oD.new oD.cel oD.pin ⟨z,its,k,vs,p1'⟩
 exact⟨.ref D,_,J3,rfl,fin D oD.free⟩
theorem zlo (U4:X.env.scope=ZP)(L:WR ZP sc x (js.map fun j=>X.N.getD j ""))(hc:X.calm=true)(hi:PI X (.Name x px) iter wi)(hjs:∀j∈js,j<X.N.length)
  (ht:∀(cl:List (Str×Addr)) (C:Addr) (s₂:Shared) (H₂:Hp) (fp:List Addr) (pins:List (Addr×Obj)) (s':Shared) (σ':St) (H':Hp) (Q:Bool->Hp->Prop),Inv (X.blk sc cl C (lcN X x js) s₂ H₂ fp) pins σ' H' s'->tt σ' H' Q ->
   wpAny (model X.prog X.w) X.A (Xx ifs (compEnvC sc cl C X.env)) (TP (X.blk sc cl C (lcN X x js) s₂ H₂ fp) pins σ' Q) (fun _ _=>False) s')
  (he:∀(cl:List (Str×Addr)) (C:Addr) (s₂:Shared) (H₂:Hp) (fp:List Addr),PE (X.blk sc cl C (lcN X x js) s₂ H₂ fp) elt te)
  (hs:∀x,foldedSetIterable iter X.env x=pure x:=by intro _;rfl) :
  PE X (.ListComp elt [⟨.Name x px,iter,ifs,0⟩] sc pos) (tLC wi js tt te) :=
 zja U4 L (rd:=Calm) (fun _ _ _ _ _ _ _=>hc) hi hjs ht he hs
def sLC (i:Nat)(wi:TI)(js:List Nat)(tt:TT)(te:TE):TS:=fun D σ H=>tLC wi js tt te σ H fun v H1=>D.nx (σ.set i (some v)) H1
theorem zge {i:Nat}{y:Str}{py spos:Pos}(hN:X.N.Nodup)(hy:X.N[i]?=some y)(hl:Loc X.env.scope y)(hf:X.fn y=true\/X.env.scope.names.lookup y=some .local)
  (U4:X.env.scope=ZP)(L:WR ZP sc x (js.map fun j=>X.N.getD j ""))(hc:X.calm=true)(hi:PI X (.Name x px) iter wi)(hjs:∀j∈js,j<X.N.length)
  (ht:∀(cl:List (Str×Addr)) (C:Addr) (s₂:Shared) (H₂:Hp) (fp:List Addr) (pins:List (Addr×Obj)) (s':Shared) (σ':St) (H':Hp) (Q:Bool->Hp->Prop),Inv (X.blk sc cl C (lcN X x js) s₂ H₂ fp) pins σ' H' s'->tt σ' H' Q ->
   wpAny (model X.prog X.w) X.A (Xx ifs (compEnvC sc cl C X.env)) (TP (X.blk sc cl C (lcN X x js) s₂ H₂ fp) pins σ' Q) (fun _ _=>False) s')
  (he:∀(cl:List (Str×Addr)) (C:Addr) (s₂:Shared) (H₂:Hp) (fp:List Addr),PE (X.blk sc cl C (lcN X x js) s₂ H₂ fp) elt te)
  (hsw:swapsWith (.ListComp elt [⟨.Name x px,iter,ifs,0⟩] sc pos) (some (.Name y py)) spos.line X.env=pure true)(hs:∀x,foldedSetIterable iter X.env x=pure x:=by intro _;rfl) :
  PS X (.Assign [.Name y py] (.ListComp elt [⟨.Name x px,iter,ifs,0⟩] sc pos) spos) (sLC i wi js tt te):=by
 intro pins s σ H D I h
 rw[exec_Assign_Name_used _ _ _ _ hsw]
 refine wpAny_bind (wpAny_standAt (wpAny_bind ?_))
 show wpAny _ _ (do let _ <-comprehension (.ListComp elt [⟨.Name x px,iter,ifs,0⟩] sc pos) sc X.env _ (newList []) false (eval iter X.env) (some (assign (.Name y py) X.env))) _ _ s
 have pg:=yr (X:=X) (i:=i) (x:=y) (pos:=py) hN hy hl hf
 refine wpAny_bind (wpAny_mono (zi9 (use:=some (assign (.Name y py) X.env)) (QQ:=fun _ z=>SP X pins D .next z) (Fin:=fun ys H=>∀p,H p=none->D.nx (σ.set i (some (.ref p))) (upd H p (.lst ys))) U4 L (rd:=Calm) (fun _ _ _ _ _ _ _=>hc) hi hjs ht he hs I h fun A C s5 H5 ys its k m5 J oD oC hDC p1 vs z hn fin=>?_) (fun _ z hq=>wpAny_pure (wpAny_pure hq)) fun _ _ e=>e)
 have J1:Inv X pins σ (upd H5 A (.lst ys)) s5:=J.track oD.free oD.loc oD.new oD.cel oD.pin ⟨z,its,k,vs,p1⟩
 obtain⟨oc,es,ep,hC,hd,hr⟩:=hn
 have Li:∀v,oc.data≠.cell v:=fun v q=>by rw[hd] at q;cases q
 have hCA:C≠A:=Ne.symm hDC
 have fC:(upd H5 A (.lst ys)) C=none:=by rw[zG hCA];exact oC.free
 have J2:Inv X (pins++[(C,oc)]) σ (upd H5 A (.lst ys)) s5:=J1.Rf fun p hp=>(List.mem_append.mp hp).elim (fun q=>J1.pin p (zyl _ q)) fun q=>by
  have e:p=(C,oc):=by simpa using q
  subst e
  exact⟨hC,fC,oC.loc,oC.fs,Li⟩
 refine wpAny_mono (pg _ s5 σ _ (.ref A) (.ref A) (fun σ6 H6=>σ6=σ.set i (some (.ref A))/\H6=upd H5 A (.lst ys)) J2 rfl ⟨rfl,rfl⟩) (fun _ s6 ⟨σ6,H6,I6,e1,e2⟩=>?_) fun _ _ e=>e
 subst e1 e2
 obtain⟨c1,c2,_⟩:=I6.pin (C,oc) (zyl _ (zyl _ (by simp)))
 refine⟨m5,⟨oc,es,ep,c1,hd,hr⟩,fun h' hsb=>?_⟩
 have J3:Inv X pins (σ.set i (some (.ref A))) (upd H5 A (.lst ys)) s6:=I6.Rf fun p hp=>I6.pin p (zyl _ (List.mem_append_left _ hp))
 have J4:Inv X pins (σ.set i (some (.ref A))) (upd H5 A (.lst ys)) { s6 with heap:=h',toks:=s6.toks }:=J3.turned (it:=C) (fun b o hb e=>hsb.extBut b o hb e) c2 oC.loc (.inr oC.new) oC.cel oC.pin
 exact⟨_,_,J4,fin A oD.free⟩
end
section
variable {X:Cx}
def zdg:TT:=fun _ H Q=>Q true H
theorem Ww {sc ZP:Scope}{x:Str}{js:List Nat}{elt iter:Expr}{px pos:Pos}{wi:TI}{te:TE}(U4:X.env.scope=ZP)(L:WR ZP sc x (js.map fun j=>X.N.getD j ""))(hc:X.calm=true)(hi:PI X (.Name x px) iter wi)(hjs:∀j∈js,j<X.N.length)
  (he:∀(cl:List (Str×Addr)) (C:Addr) (s₂:Shared) (H₂:Hp) (fp:List Addr),PE (X.blk sc cl C (lcN X x js) s₂ H₂ fp) elt te)
  (hs:∀x,foldedSetIterable iter X.env x=pure x:=by intro _;rfl) :
  PE X (.ListComp elt [⟨.Name x px,iter,[],0⟩] sc pos) (tLC wi js zdg te) :=
 zlo U4 L hc hi hjs (fun cl C s₂ H₂ fp pins s' σ' H' Q I h=>wpAny_pure ⟨H',I,h⟩) he hs
theorem zlp {sc ZP:Scope}{x:Str}{js:List Nat}{elt iter c:Expr}{px pos:Pos}{wi:TI}{te:TE}{tt:TT}(U4:X.env.scope=ZP)(L:WR ZP sc x (js.map fun j=>X.N.getD j ""))(hc:X.calm=true)(hi:PI X (.Name x px) iter wi)(hjs:∀j∈js,j<X.N.length)
  (ht:∀(cl:List (Str×Addr)) (C:Addr) (s₂:Shared) (H₂:Hp) (fp:List Addr),PT (X.blk sc cl C (lcN X x js) s₂ H₂ fp) c tt)
  (he:∀(cl:List (Str×Addr)) (C:Addr) (s₂:Shared) (H₂:Hp) (fp:List Addr),PE (X.blk sc cl C (lcN X x js) s₂ H₂ fp) elt te)
  (hs:∀x,foldedSetIterable iter X.env x=pure x:=by intro _;rfl) :
  PE X (.ListComp elt [⟨.Name x px,iter,[c],0⟩] sc pos) (tLC wi js tt te) :=
 zlo U4 L hc hi hjs (fun cl C s₂ H₂ fp pins s' σ' H' Q I h=>wpAny_tests_one (ht cl C s₂ H₂ fp pins s' σ' H' Q I h)) he hs
theorem zjb {K:Frag}{a:Addr}{xs:List V}{σ:St}{js:List Nat}{tt:TT}{te:TE}{H:Hp}{Qf:Addr->Hp->List V->Prop}(Pv:Nat->List V->Hp->Prop)(h0:Pv 0 [] H)(hz:xs.length<=sizeLine)
  (hl:∀i ys H,i<=xs.length->Pv i ys H->zO K H a xs/\ys.length<=i)
  (hs:∀i x ys H,xs[i]?=some x->Pv i ys H->tt (Wv σ js (some x)) H fun b H2=>if b=true then te (Wv σ js (some x)) H2 fun v H3=>Pv (i+1) (ys++[v]) H3 else Pv (i+1) ys H2)
  (mt:∀ σ H Q Q',(∀b H1,Q b H1->Q' b H1)->tt σ H Q->tt σ H Q')(me:∀ σ H Q Q',(∀v H1,Q v H1->Q' v H1)->te σ H Q->te σ H Q')
  (hd:∀ys H p,Pv xs.length ys H->H p=none->Qf p H ys) :
  ∃W:Nat->Nat->List V->Hp->Prop,(∃m,W 0 m [] H)/\∀i m ys H,W i m ys H ->
   ((Itl K a).stop i H/\∀p,H p=none->Qf p H ys) \/
   ((Itl K a).go i H/\ys.length<sizeLine/\∀x H',(Itl K a).JZ i H x H'->tt (Wv σ js (some x)) H' fun b H2 =>
    if b=true then te (Wv σ js (some x)) H2 fun v H3=>∃m',m'<m/\W (i+1) m' (ys++[v]) H3 else ∃m',m'<m/\W (i+1) m' ys H2):=by
 refine⟨fun i m ys H=>m=xs.length-i/\i<=xs.length/\Pv i ys H,⟨xs.length,by simp,zyr _,h0⟩,?_⟩
 rintro i m ys H ⟨rfl,hi,p⟩
 obtain⟨q,hy⟩:=hl i ys H hi p
 by_cases hlt:i<xs.length
 ·refine .inr ⟨⟨xs,xs[i],q,by simp[hlt]⟩,by omega,fun x H' y=>?_⟩
  obtain⟨e,y⟩:=y
  subst e
  refine mt _ _ _ _ (fun b H2 h2=>?_) (hs i x ys _ (y xs q) p)
  cases b with
  | true =>
   rw[if_pos rfl] at h2 ⊢
   exact me _ _ _ _ (fun v H3 h3=>⟨_,by omega,rfl,hlt,h3⟩) h2
  | false =>
   rw[if_neg zx8] at h2 ⊢
   exact⟨_,by omega,rfl,hlt,h2⟩
 ·have e:i=xs.length:=by omega
  subst e
  exact .inl ⟨⟨xs,q,zyk _⟩,fun pp hp=>hd ys H pp p hp⟩
theorem zlq {K:Frag}{a:Addr}{xs:List V}{σ:St}{js:List Nat}{tt:TT}{te:TE}{H:Hp}{Qf:Addr->Hp->List V->Prop}(Pv:Nat->List V->Hp->Prop)(h0:Pv 0 [] H)(hz:xs.length<=sizeLine)
  (hl:∀i ys H,i<=xs.length->Pv i ys H->vL K H a xs/\ys.length<=i)
  (hs:∀i x ys H,xs[i]?=some x->Pv i ys H->tt (Wv σ js (some x)) H fun b H2=>if b=true then te (Wv σ js (some x)) H2 fun v H3=>Pv (i+1) (ys++[v]) H3 else Pv (i+1) ys H2)
  (mt:∀ σ H Q Q',(∀b H1,Q b H1->Q' b H1)->tt σ H Q->tt σ H Q')(me:∀ σ H Q Q',(∀v H1,Q v H1->Q' v H1)->te σ H Q->te σ H Q')
  (hd:∀ys H p,Pv xs.length ys H->H p=none->Qf p H ys) :
  ∃W:Nat->Nat->List V->Hp->Prop,(∃m,W 0 m [] H)/\∀i m ys H,W i m ys H ->
   ((Itt K a).stop i H/\∀p,H p=none->Qf p H ys) \/
   ((Itt K a).go i H/\ys.length<sizeLine/\∀x H',(Itt K a).JZ i H x H'->tt (Wv σ js (some x)) H' fun b H2 =>
    if b=true then te (Wv σ js (some x)) H2 fun v H3=>∃m',m'<m/\W (i+1) m' (ys++[v]) H3 else ∃m',m'<m/\W (i+1) m' ys H2):=by
 refine⟨fun i m ys H=>m=xs.length-i/\i<=xs.length/\Pv i ys H,⟨xs.length,by simp,zyr _,h0⟩,?_⟩
 rintro i m ys H ⟨rfl,hi,p⟩
 obtain⟨q,hy⟩:=hl i ys H hi p
 by_cases hlt:i<xs.length
 ·refine .inr ⟨⟨xs,xs[i],q,by simp[hlt]⟩,by omega,fun x H' y=>?_⟩
  obtain⟨e,y⟩:=y
  subst e
  refine mt _ _ _ _ (fun b H2 h2=>?_) (hs i x ys _ (y xs q) p)
  cases b with
  | true =>
   rw[if_pos rfl] at h2 ⊢
   exact me _ _ _ _ (fun v H3 h3=>⟨_,by omega,rfl,hlt,h3⟩) h2
  | false =>
   rw[if_neg zx8] at h2 ⊢
   exact⟨_,by omega,rfl,hlt,h2⟩
 ·have e:i=xs.length:=by omega
  subst e
  exact .inl ⟨⟨xs,q,zyk _⟩,fun pp hp=>hd ys H pp p hp⟩
theorem zbW {x:V}:∀{xs:List V} {us:List Value},Vals xs us->xs.all uf=true->∀{j:Nat},xs.findIdx? (fun y=>eqV y x)=some j ->
  ∃hj:j<us.length,eqU x us[j]=true/\∀m (hm:m<us.length),m<j->eqU x us[m]=false
 | _,_,.nil,_,j,h=>by simp at h
 | y::xs,u::us,.cons r t,f,j,h=>by
  rw[List.all_cons,zyw] at f
  rw[List.findIdx?_cons] at h
  by_cases hy:eqV y x=true
  ·rw[if_pos hy] at h
   cases h
   refine⟨by simp,?_,fun m hm hlt=>absurd hlt (Nat.not_lt_zero _)⟩
   show eqU x u=true
   rw[zeT r f.1];exact hy
  ·rw[if_neg hy] at h
   cases hq:xs.findIdx? (fun y=>eqV y x) with
   | none=>rw[hq] at h;cases h
   | some k =>
    rw[hq] at h
    have e:k+1=j:=zyz h
    subst e
    obtain⟨hk,h1,h2⟩:=zbW t f.2 hq
    refine⟨by rw[zyg];omega,h1,fun m hm hlt=>?_⟩
    cases m with
    | zero =>
     show eqU x u=false
     rw[zeT r f.1];exact Bool.eq_false_iff.mpr hy
    | succ m=>exact h2 m (by rw[zyg] at hm;omega) (by omega)
def zlr (K:Frag):V->List V->Hp->VK->Prop:=fun x vs H Q=>∃l xs y j,x=.ref l/\vs=[y]/\zO K H l xs/\uf y=true/\xs.all uf=true/\xs.findIdx? (fun z=>eqV z y)=some j/\Q (.int (j:Nat)) H
theorem T3:MtM X "list.index" (zlr X.K):=by
 intro pins s σ H x vs v us Q I rx rv h
 obtain⟨l,xs,y,j,rfl,rfl,hq,fy,fs,hj,q⟩:=h
 cases rx
 obtain⟨u,rfl,ru⟩:=rv.one
 obtain⟨its,r,⟨o,n,e,hc,hd,hdat⟩,hz⟩:=I.list hq
 obtain⟨cls,dd,dt,sl⟩:=o
 have hc':cls=.type "list" := hc
 have hdat':dt=.seq its.toArray n:=hdat
 subst hc' hdat'
 obtain⟨h1,h2,h3⟩:=zbW r fs hj
 have hl:=r.length
 have hn:=U0
 refine call_meets F.slot_list_index ⟨_,e,rfl⟩ F.entry_list_index (F.args_list_index_2 _ _) (SeqAt.list_indexAt l its.toArray n dd sl u (eqU y) j (by simpa using h1) (by omega) (by simpa using h2) (fun m hm hlt=>by simpa using h3 m (by simpa using hm) hlt)) ⟨e,fun w hw=>TV ru fy r fs w (by simpa using hw),?_⟩
 exact⟨.int (j:Nat),H,I.tok _,⟨_,rfl⟩,q⟩
def znm:V->List V->Hp->VK->Prop:=fun x vs H Q=>∃l xs i y,x=.ref l/\vs=[.int i,y]/\H l=some (.lst xs)/\0<=i/\i<=(xs.length:Int)/\xs.length<sizeLine/\Q .non (upd H l (.lst (xs.take i.toNat++y::xs.drop i.toNat)))
theorem zhU {A:Around}{s:Shared}{P:Program}{w:World}{E:Value->Shared->Prop}{Q:Value->Shared->Prop}{l:Addr}{its:List Value}{n:Nat}{i:Int}{t:Tok}{u:Value}(e:s.heap.get? l=some { cls:=.type "list", data:=.seq its.toArray n })(h0:0<=i)(h1:i<=(its.length:Int))(hz:its.length<=sizeLine)
  (h:∀f:Array Value->Array Value,f its.toArray=(its.take i.toNat++u::its.drop i.toNat).toArray->Q .none { s with heap:=s.heap.update l (Obj.mapSeq f),toks:=s.toks }):wpAny (model P w) A (call (.builtin "list.insert") [.ref l,.int i t,u]) Q E s:=by
 have hn:=U0
 have fit:¬(!Builtin.List.listFitsIndex i)=true:=by
  rw[fitsIndex_both (k:=i) (Int.le_trans (by decide) h0) (by omega)]
  exact zx8
 have hs3:its.toArray.size<=sizeLine:=by rw[zye];exact hz
 have M:=AutoSeq1.list_insert_list_int_val_1 l its.toArray n i t u fit hs3
 refine call_meets F.slot_list_insert ⟨_,e,rfl⟩ F.entry_list_insert (F.args_list_insert_3 _ _ _) M ⟨e,?_⟩
 refine h _ ?_
 have hk:(if i<0 then (i+(its.toArray.size:Int)).toNat else min i.toNat its.toArray.size)=i.toNat:=by
  rw[if_neg (by omega),zye]
  omega
 show(its.toArray.extract 0 (if i<0 then (i+(its.toArray.size:Int)).toNat else min i.toNat its.toArray.size)).push u++its.toArray.extract (if i<0 then (i+(its.toArray.size:Int)).toNat else min i.toNat its.toArray.size)=_
 rw[hk]
 apply Array.toList_inj.mp
 simp[List.take_of_length_le]
theorem zac:MtM X "list.insert" znm:=by
 intro pins s σ H x vs v us Q I rx rv h
 obtain⟨l,xs,i,y,rfl,rfl,hH,h0,h1,hz,q⟩:=h
 cases rx
 obtain⟨u,w,rfl,⟨t,rfl⟩,rw'⟩:=rv.two
 obtain⟨z,its,n,r,hl,e⟩:=I.zga hH
 refine zhU e h0 (by rw[<-hl];exact h1) (by omega) fun f hf=>?_
 refine⟨.non,_,I.zkc (its':=its.take i.toNat++w::its.drop i.toNat) hH e hf ((r.take i.toNat).append (.cons rw' (r.drop i.toNat))) ?_,rfl,q⟩
 rw[zyc,zyg,zys,List.length_drop]
 omega
def zls (K:Frag):V->List V->Hp->VK->Prop:=fun x vs H Q=>∃l b xs zs,x=.ref l/\vs=[.ref b]/\H l=some (.lst xs)/\vL K H b zs/\xs.length+zs.length<=sizeLine/\Q .non (upd H l (.lst (xs++zs)))
theorem zad (l:Addr)(its:Array Value)(n:Nat)(b:Addr)(its2:Array Value)(n2:Nat)(dd:Option Addr)(sl:Array (Option Value))(h0:¬(!its.isEmpty&&Builtin.List.listTooLong (its.size+its2.size))=true)(h1:its.size<=sizeLine)(h2:its.size+its2.size<=sizeLine+1) :
  Meets (Builtin.«list.extend» ⟨[.ref l,.ref b],[]⟩) (fun _ R s=>s.heap.get? l=some { cls:=.type "list", data:=.seq its n }/\s.heap.get? b=some { cls:=.type "tuple", dict:=dd,data:=.seq its2 n2,slots:=sl } /\
   R (.ok (.ret Value.none)) { s with heap:=s.heap.update l (Obj.mapSeq fun x=>x++its2),toks:=s.toks }) :=
 .of_wp fun prog w A R s h=>by
  obtain⟨hp,g,d,tk,os⟩:=s
  obtain⟨hl,hb,h⟩:=h
  have g1:=AutoSeq1.idx_int
  have g2:=AutoSeq1.sub_tuple_tuple
  have g3:=AutoSeq1.sub_list_list
  have g4:=AutoSeq1.sub_tuple_list
  have g5:=AutoSeq1.sub_list_tuple
  have hz:(its++its2).size<=sizeLine+1:=by rw[Array.size_append];exact h2
  wp_walk using (wpAny_updateSeq hl rfl (hz:=h1) (_hz':=hz)),AutoSeq1.wpAny_loadPart' hl,AutoSeq1.wpAny_loadPart' hb
  exact⟨_,rfl,h⟩
theorem zbX:MtM X "list.extend" (zls X.K):=by
 intro pins s σ H x vs v us Q I rx rv h
 obtain⟨l,b,xs,zs,rfl,rfl,hH,hB,hz,q⟩:=h
 cases rx
 obtain⟨u,rfl,ru⟩:=rv.one
 cases ru
 obtain⟨z,its,n,r,hl,e⟩:=I.zga hH
 obtain⟨its2,r2,⟨o,e2,hc,n2,hd⟩,z2⟩:=I.tuple hB
 obtain⟨cls,dd,dt,sl⟩:=o
 have hc':cls=.type "tuple" := hc
 have hd':dt=.seq its2.toArray n2:=hd
 subst hc' hd'
 have hl2:=r2.length
 have hsz:its.toArray.size+its2.toArray.size<=sizeLine:=by rw[zye,zye];omega
 have zli:¬(!its.toArray.isEmpty&&Builtin.List.listTooLong (its.toArray.size+its2.toArray.size))=true:=by
  rw[zgb hsz,Bool.and_false]
  exact zx8
 refine call_meets F.slot_list_extend ⟨_,e,rfl⟩ F.entry_list_extend (F.args_list_extend_2 _ _)
  (zad l its.toArray n b its2.toArray n2 dd sl zli (by rw[zye];omega) (by omega)) ⟨e,e2,?_⟩
 refine⟨.non,_,I.zkc (its':=its++its2) hH e (by simp) (r.append r2) ?_,rfl,q⟩
 rw[zyc]
 omega
theorem zdh (bs:List Bool):((List.range bs.length).all fun i=>(bs[i]?).getD true)=bs.all id:=by
 rw[zyL,zyy,zyy]
 constructor
 ·intro h b hb
  obtain⟨i,hi,e⟩:=zyN hb
  have q:=h i (List.mem_range.mpr hi)
  rw[zx5 hi,Option.getD_some,e] at q
  exact q
 ·intro h i hi
  have hi':=List.mem_range.mp hi
  rw[zx5 hi',Option.getD_some]
  exact h _ (zyM hi')
theorem Vs (hc:X.calm=true):Vq X (.builtin "all") (fun xs H Q=>∃(p:Addr) (bs:List Bool),xs=[.ref p]/\zO X.K H p (bs.map V.bl)/\Q (.bl (bs.all id)) H):=by
 intro pins s σ H xs us Q I r h
 obtain⟨p,bs,rfl,hq,q⟩:=h
 obtain⟨u,rfl,rx⟩:=vals1 r
 cases rx
 obtain⟨its,r',pl,hz⟩:=I.list hq
 have hlen:bs.length=its.length:=by have:=r'.length;rw[zx4] at this;exact this
 have hlt:p<s.heap.objs.size:=by obtain⟨_,e,_⟩:=pl.isList;exact zyb e
 refine call_all_walk (wpAny_pyIter_list pl.isList ?_)
 refine⟨s.heap.objs.size,[s.heap.objs.size,p],[s.heap.objs.size],its.toArray.size,_,_,fun i=>(bs[i]?).getD true,rfl,Walks.list (A:=X.A.in1) (I.ok.hd hc) _ p (zyj hlt) its.toArray,
  ⟨⟨_,zyp _ rfl,rfl,rfl⟩,pl.isList.push _⟩,fun i v s' Q' E' hP hQ=>?_,fun h' tk hk=>?_⟩
 ·have hP':its[i]?=some v:=by simpa using hP
  have hi:i<bs.length:=by
   have:=(zx7.mp hP').1
   omega
  obtain⟨w,hw,rw'⟩:=r'.get (i:=i) (x:=.bl bs[i]) (by rw[zx6,zx5 hi];rfl)
  rw[hP'] at hw
  cases hw
  cases rw'
  simp only[zx5 hi,Option.getD_some] at hQ
  exact wpAny_truthy_bool hQ
 ·have kp:∀b o,s.heap.get? b=some o->h'.get? b=some o:=fun b o e=>hk b o (fun hm=>by
   rw[List.mem_singleton.mp hm] at e
   exact Nat.lt_irrefl _ (zyb e)) (zya _ e)
  refine⟨.bl _,H,I.kept kp,rfl,?_⟩
  rw[zye,<-hlen,zdh]
  exact q
theorem Uk:Vq X (.builtin "isinstance") (fun xs H Q=>∃x T t b,xs=[x,.ty T]/\KD X.K H x t/\PySem.W.kitOne X.K t (.type T)=some b/\Q (.bl b) H):=by
 intro pins s σ H xs us Q I r h
 obtain⟨x,T,t,b,rfl,ty,e,q⟩:=h
 obtain⟨u,w',rfl,rx,ry⟩:=vals2 r
 cases ry
 exact zkb I rx ty e fun tk=>⟨.bl b,H,I.tok _,rfl,q⟩
end
def met (acc:List Str)(x:Str):List Str:=if acc.any (·==x) then acc else acc++[x]
def dd (xs:List Str):List Str:=xs.foldl met []
theorem zjc (xs:List Str)(x:Str):dd (xs++[x])=met (dd xs) x:=by
 unfold dd
 rw[List.foldl_append]
 rfl
theorem zbs (acc:List Str)(x k:Str):(met acc x).any (·==k)=(acc.any (·==k)||decide (k=x)):=by
 unfold met
 by_cases h:acc.any (·==x)=true
 ·rw[if_pos h]
  by_cases e:k=x
  ·subst e;rw[h];simp
  ·simp[e]
 ·rw[if_neg h,List.any_append]
  by_cases e:k=x
  ·subst e;simp
  ·have hb:(x==k)=false:=by simpa [beq_iff_eq] using (fun z:x=k=>e z.symm)
   simp[hb,e]
theorem Ul (acc:List Str)(x:Str):(met acc x).length=if acc.any (·==x)=true then acc.length else acc.length+1:=by
 unfold met
 split<;>simp
theorem zq1 (xs:List Str):(dd xs).length<=xs.length:=by
 suffices h:∀acc:List Str,(xs.foldl met acc).length<=acc.length+xs.length by have:=h [];unfold dd;simpa using this
 induction xs with
 | nil=>intro acc;simp
 | cons x r ih =>
  intro acc
  rw[List.foldl_cons]
  have h1:=ih (met acc x)
  have h2:=Ul acc x
  rw[zyg]
  split at h2<;>omega
theorem zlt {xs:List Str}(h:xs.Nodup):(dd xs).length=xs.length:=by
 suffices g:∀acc:List Str,(∀x∈xs,acc.any (·==x)=false)->(xs.foldl met acc).length=acc.length+xs.length by have:=g [] (fun _ _=>rfl);unfold dd;simpa using this
 induction xs with
 | nil=>intro acc _;simp
 | cons x r ih =>
  intro acc ha
  obtain⟨hx,hr⟩:=List.nodup_cons.mp h
  rw[List.foldl_cons,ih hr (met acc x) (fun y hy=>?_),Ul,ha x zyo]
  ·simp;omega
  ·rw[zbs,ha y (zyf _ hy)]
   have:y≠x:=fun e=>hx (e ▸ hy)
   simp[this]
theorem zpp {xs:List Str}(h:¬xs.Nodup):(dd xs).length<xs.length:=by
 suffices g:∀acc:List Str,¬xs.Nodup->(xs.foldl met acc).length<acc.length+xs.length by have:=g [] h;unfold dd;simpa using this
 clear h
 have le:∀(ys acc:List Str),(ys.foldl met acc).length<=acc.length+ys.length:=fun ys=>by
  induction ys with
  | nil=>intro acc;simp
  | cons x r ih =>
   intro acc
   rw[List.foldl_cons]
   have h1:=ih (met acc x)
   have h2:=Ul acc x
   rw[zyg]
   split at h2<;>omega
 have mem:∀(ys acc:List Str) (x:Str),x∈ys->acc.any (·==x)=true->(ys.foldl met acc).length<acc.length+ys.length:=fun ys=>by
  induction ys with
  | nil=>intro acc x hx _;cases hx
  | cons y r ih =>
   intro acc x hx ha
   rw[List.foldl_cons,zyg]
   rcases List.mem_cons.mp hx with e | hx
   ·subst e
    have h1:=le r (met acc x)
    have h2:=Ul acc x
    rw[if_pos ha] at h2
    omega
   ·have h1:=ih (met acc y) x hx (by rw[zbs,ha];rfl)
    have h2:=Ul acc y
    split at h2<;>omega
 induction xs with
 | nil=>intro acc h;exact absurd List.nodup_nil h
 | cons x r ih =>
  intro acc h
  rw[List.foldl_cons,zyg]
  by_cases hx:x∈r
  ·have h1:=mem r (met acc x) x hx (by rw[zbs];simp)
   have h2:=Ul acc x
   split at h2<;>omega
  ·have h1:=ih (met acc x) (fun hr=>h (List.nodup_cons.mpr ⟨hx,hr⟩))
   have h2:=Ul acc x
   split at h2<;>omega
abbrev zbY (led:Bool):Obj:={ cls:=.type "set", dict:=none,data:=.set #[] 0 (.fresh 0 0 led) }
section
variable {P:Program}{w:World}{A:Around}{R:Result->Shared->Prop}{E:Value->Shared->Prop}{s:Shared}
theorem zlu {I:Addr}{fp wr:List Addr}{G:Array GenState->Array GenState->Prop}{n:Nat}{Pv:Nat->Value->Prop}{St:Nat->Shared->Prop}(W:WalksS P w A.in1 I fp wr G n Pv St)(S:Addr)(hS:S∉fp)(xs:List Str)(hn:xs.length=n)
  (hv:∀i v,Pv i v->∃t,v=.str (xs.getD i "") t)(hb:n+1<scanBound) :
  ∀(k i:Nat) (z:Shared),n-i=k->i<=n->St i z->z.heap.SetOf (strKind P w) S (fun q=>(dd (xs.take i)).any (·==q)) (dd (xs.take i)).length ->
   (∀z',Moved (S::wr) G z z'->z'.heap.SetOf (strKind P w) S (fun q=>(dd xs).any (·==q)) (dd xs).length->R (.ok (.ret .none)) z') ->
   codeAny (model P w) A (.builtin "set.update.loop" ⟨[.ref S,.ref I],[]⟩) R z:=by
 have zq2:S∉wr:=fun h=>hS (W.sub _ h)
 have more:∀b∈wr,b∈S::wr:=fun b h=>zyf _ h
 intro k
 induction k with
 | zero =>
  intro i z hk hi st znn fin
  have ei:i=n:=by omega
  subst ei
  refine codeAny_builtin PyProof.Rows.F.entry_set_update_loop ?_
  rw[Around.under_plainId PyProof.Rows.F.plain_set_update_loop _]
  show wpAny _ A.in1 (pyNext (.ref I)>>=_) _ _ z
  refine wpAny_bind (W.done z _ _ st fun z' mv=>?_)
  show wpAny _ A.in1 (ret Value.none) _ _ z'
  refine wpAny_pure (fin z' (mv.mono more) ?_)
  rw[<-hn,zyx] at znn
  obtain⟨o,es,ep,t,ho,more'⟩:=znn
  exact⟨o,es,ep,t,mv.heap S _ zq2 ho,more'⟩
 | succ k ih =>
  intro i z hk hi st znn fin
  have il:i<n:=by omega
  refine codeAny_builtin PyProof.Rows.F.entry_set_update_loop ?_
  rw[Around.under_plainId PyProof.Rows.F.plain_set_update_loop _]
  show wpAny _ A.in1 (pyNext (.ref I)>>=_) _ _ z
  refine wpAny_bind (W.item i z _ _ il st fun v z' pv st' mv=>?_)
  obtain⟨t,rfl⟩:=hv i v pv
  have hset':z'.heap.SetOf (strKind P w) S (fun q=>(dd (xs.take i)).any (·==q)) (dd (xs.take i)).length:=by
   obtain⟨o,es,ep,tb,ho,more'⟩:=znn
   exact⟨o,es,ep,tb,mv.heap S _ zq2 ho,more'⟩
  show wpAny _ A.in1 (holding [Value.str (xs.getD i "") t] (setAdd S (.str (xs.getD i "") t))>>=_) _ _ z'
  refine wpAny_bind (wpAny_holding ?_)
  unfold setAdd
  refine wpAny_holding ?_
  refine wpAny_bind ((strKind P w).pyHash (k:=xs.getD i "") (strKind_is _ _ _ _) ?_)
  have hroom:(dd (xs.take i)).length+1<scanBound:=by
   have:=zq1 (xs.take i)
   rw[zys] at this
   omega
  have et:xs.take (i+1)=xs.take i++[xs.getD i ""]:=by
   rw[List.take_succ,zyh,zx5 (by omega)]
   rfl
  refine wpAny_setAddHashed_of (knd:=strKind P w) (s:={ z' with toks:=z'.toks+1 }) (strKind_is _ _ _ _) rfl hset' hroom fun h' sb s2=>?_
  have zq3:h'.SetOf (strKind P w) S (fun q=>(dd (xs.take (i+1))).any (·==q)) (dd (xs.take (i+1))).length :=
   SetOf_congr s2 (fun q=>by rw[et,zjc,zbs]) (by rw[et,zjc,Ul])
  refine wpAny_pure ⟨plainId_quiet PyProof.Rows.F.plain_set_update_loop _,ih (i+1) _ (by omega) il (W.frame _ z' _ _ st' (Nat.le_succ _) fun b hb' o e=>?_) zq3 fun z'' mv2 s3=>?_⟩
  ·rw[sb.2 b (fun h:b=S=>hS (by rw[<-h];exact hb'))];exact e
  ·refine fin z'' (Moved.trans W.gtrans ((mv.mono more).then_heap (Nat.le_succ _) fun b o hb' e=>?_) mv2) s3
   rw[sb.2 b (fun h:b=S=>hb' (by rw[h];exact zyo))];exact e
theorem zno {xs:List Str}:∀{us:List Value},Vals (xs.map V.str) us->∀(i:Nat) (v:Value),us[i]?=some v->∃t,v=.str (xs.getD i "") t:=by
 intro us r i v h
 have hl:=r.length
 rw[zx4] at hl
 have hi:i<xs.length:=by have:=(zx7.mp h).1;omega
 obtain⟨u,hu,t,e⟩:=r.get (i:=i) (x:=.str xs[i]) (by rw[zx6,zx5 hi];rfl)
 rw[h] at hu
 cases hu
 refine⟨t,?_⟩
 rw[e,zyh,zx5 hi]
 rfl
set_option maxHeartbeats 8000000 in
theorem zlv {l:Addr}{us:List Value}{xs:List Str}{Q:Value->Shared->Prop}(hh:A.handled=none)(hl:s.heap.IsList l us.toArray)(r:Vals (xs.map V.str) us)(hb:xs.length+1<scanBound)
  (h:∀(h':Heap) (tk:Nat),h'.SetOf (strKind P w) s.heap.objs.size (fun q=>(dd xs).any (·==q)) (dd xs).length->(∀b o,s.heap.get? b=some o->h'.get? b=some o)->Q (.ref s.heap.objs.size) { s with heap:=h',toks:=tk }) :
  wpAny (model P w) A (call (.type "set") [.ref l]) Q E s:=by
 have hlen:xs.length=us.toArray.size:=by have:=r.length;rw[zx4] at this;simpa using this
 obtain⟨cc,tl,hmro⟩:=F.called_set.mro
 have made:=F.called_set.made
 have sub:=F.called_set.sub
 refine wpAny_call (codeAny_of_tree ?_)
 show wpAny _ _ (callAny (.type "set") _) _ _ _
 refine wpAny_pure ⟨Code.quiet_builtin _ (by decide +kernel),codeAny_builtin F.entry_type_call ?_⟩
 rw[Around.under_plain (weight_type_call_type "set" [.ref l] []) rfl]
 have a1:=F.called_set.notType
 have a2:=F.called_set.canCreate
 have a3:=F.typeCall_set_1 (.ref l)
 repeat (any_goals (first | assumption | wp_step))
 refine codeAny_mono (code_set_new_1 (.ref l) (E:=E) (Q₁:=fun ob z=>∃led:Bool,ob=.ref s.heap.objs.size/\z={ s with heap:=s.heap.push { cls:=.type "set", dict:=none,data:=.set #[] 0 (.fresh 0 0 led) } }) fun led=>⟨led,rfl,rfl⟩) fun res z hres=>?_
 cases res with
 | error e=>exact hres
 | ok fl =>
  cases fl with
  | ret ob =>
   obtain⟨led,rfl,rfl⟩:=hres
   have gS:(s.heap.push (zbY led)).get? s.heap.objs.size=some (zbY led):=zyp _ rfl
   have tS:Shared.TypeIs { s with heap:=s.heap.push (zbY led) } (.ref s.heap.objs.size) "set" := ⟨_,gS,rfl⟩
   have b1:=F.called_set.init.lookup
   have b2:=F.called_set.init.bind (.ref s.heap.objs.size)
   repeat (any_goals (first | assumption | wp_step))
   refine codeAny_mono (codeAny_call_builtin (R:=wants (fun v z=>v=.none/\∃h' tk,z={ s with heap:=h',toks:=tk }/\h'.SetOf (strKind P w) s.heap.objs.size (fun q=>(dd xs).any (·==q)) (dd xs).length/\(∀b o,s.heap.get? b=some o->h'.get? b=some o)) E)
    F.called_set.init.plain F.entry_set_init (check_set_init_1 tS ?_)) fun res2 z2 zlw=>?_
   ·obtain⟨ol,gl,cl,nl,dl⟩:=hl
    obtain⟨ocls,odict,odata,oslots⟩:=ol
    have cl':ocls=.type "list" := cl
    have dl':odata=.seq us.toArray nl:=dl
    subst cl' dl'
    have gl':(s.heap.push (zbY led)).get? l=some { cls:=.type "list", dict:=odict,data:=.seq us.toArray nl,slots:=oslots }:=zya _ gl
    have c1:=F.sub_list_set
    have c2:=F.sub_list_frozenset
    have c3:(Value.type "list" == Value.type "dict")=false:=by decide
    have isl:(s.heap.push (zbY led)).IsList l us.toArray:=⟨_,gl',rfl,nl,rfl⟩
    unfold Builtin.«set.__init__» noKeywords Builtin.Frozenset.updateFrom
    generalize hit:pyIter=itf
    wp_walk
    subst hit
    refine wpAny_pyIter_list isl ?_
    refine wpAny_bind (wpAny_runValue ?_)
    have ltl:l<s.heap.objs.size:=zyb gl
    have hd3:A.in1.in1.in1.handled=none:=by simp[hh]
    have sz1:(s.heap.push (zbY led)).objs.size=s.heap.objs.size+1:=Heap.size_push ..
    have nel:l≠(s.heap.push (zbY led)).objs.size:=by rw[sz1];exact zyj (Nat.lt_succ_of_lt ltl)
    have nin:s.heap.objs.size∉[(s.heap.push (zbY led)).objs.size,l]:=by
     rw[sz1]
     simp only[List.mem_cons,zyv,or_false,not_or]
     exact⟨zyj (Nat.lt_succ_self _),Nat.ne_of_gt ltl⟩
    refine zlu ((Walks.list hd3 _ l nel us.toArray).toS) s.heap.objs.size nin xs hlen (fun i v hv=>zno r i v (by simpa using hv)) (by rw[<-hlen];exact hb) (us.toArray.size-0) 0 _ (by omega) (zyr _)
     ⟨⟨_,zyp _ rfl,rfl,rfl⟩,isl.push _⟩ ?s0 ?fin
    case s0 =>
     have gg:((s.heap.push (zbY led)).push { cls:=.type "list_iterator", data:=.fields #[.ref l,.int 0 0] }).get? s.heap.objs.size=some (zbY led):=zya _ gS
     exact SetOf_congr ((setObjOf_fresh (knd:=strKind P w) led).setOf gg (by unfold scanBound;omega)) (fun _=>rfl) rfl
    case fin =>
     intro z mv sz
     obtain⟨h',g',d',tk',os'⟩:=z
     have e1:g'=s.gens:=mv.gens
     have e2:d'=s.drawn:=mv.drawn
     have e3:os'=s.os:=mv.os
     subst e1 e2 e3
     show wpAny _ _ _ _ _ _
     refine wpAny_pure ?_
     show wpAny _ _ (ret Value.none) _ _ _
     refine wpAny_pure ⟨rfl,h',tk',rfl,sz,fun b o e=>?_⟩
     have lb:=zyb e
     have n1:b≠s.heap.objs.size:=zyj lb
     have n2:b≠(s.heap.push (zbY led)).objs.size:=by rw[sz1];exact zyj (Nat.lt_succ_of_lt lb)
     exact mv.heap b o (by simp only[List.mem_cons,zyv,or_false,not_or];exact⟨n1,n2⟩) (zya _ (zya _ e))
   ·cases res2 with
    | error e=>exact zlw
    | ok fl2 =>
     cases fl2 with
     | ret v =>
      obtain⟨rfl,h',tk,rfl,sS,kk⟩:=zlw
      repeat (any_goals (first | assumption | wp_step))
      exact h _ _ sS kk
     | _=>exact zlw.elim
  | _=>exact hres.elim
end
section
variable {X:Cx}
def znp (P:Program)(w:World)(a:Addr)(n:Nat):HO:=.ext fun h=>∃S,h.SetOf (strKind P w) a S n
theorem zlx (hc:X.calm=true):Vq X (.type "set") (fun xs H Q=>∃(p:Addr) (ts:List Str),xs=[.ref p]/\zO X.K H p (ts.map V.str)/\ts.length<=100/\∀q,H q=none->Q (.ref q) (upd H q (znp X.prog X.w q (dd ts).length))):=by
 intro pins s σ H xs us Q I r h
 obtain⟨p,ts,rfl,hq,h100,q⟩:=h
 obtain⟨u,rfl,rx⟩:=vals1 r
 cases rx
 obtain⟨its,r',pl,hz⟩:=I.list hq
 refine zlv (I.ok.hd hc) pl.isList r' (Nat.lt_of_le_of_lt (Nat.add_le_add_right h100 1) (by decide)) fun h' tk hS hk=>?_
 refine⟨.ref s.heap.objs.size,_,I.laid hk (zyk _) (o:=znp X.prog X.w s.heap.objs.size (dd ts).length) ?_,rfl,q _ (I.hok.fresh (zyk _))⟩
 refine⟨⟨_,hS⟩,?_,?_⟩
 ·obtain⟨o,es,ep,t,ho,_⟩:=hS
  exact⟨o,ho⟩
 ·rintro h1 h2 ⟨S,o,es,ep,t,ho,rest⟩ k
  exact⟨S,o,es,ep,t,k o ho,rest⟩
theorem call_len_set':Vq X (.builtin "len") (fun xs H Q=>∃(p:Addr) (n:Nat),xs=[.ref p]/\H p=some (znp X.prog X.w p n)/\Q (.int n) H):=by
 intro pins s σ H xs us Q I r h
 obtain⟨p,n,rfl,hp,q⟩:=h
 obtain⟨u,rfl,rx⟩:=vals1 r
 cases rx
 obtain⟨⟨S,o,es,ep,t,ho,hex,hd,_,_,hb,hf,hn⟩,_⟩:=I.hok p _ hp
 have h63:(es.size:Int)<2^63:=by
  have h1:scanBound<2^63:=by decide
  omega
 refine call_len_set ho hex hd hf h63 ⟨.int n,H,I.tok _,⟨s.toks+1,?_⟩,q⟩
 rw[hn]
def znq (K:Frag)(P:Program)(w:World)(a:Addr)(kvs:List (Str×Value)):Prop:=(a==sysModules)=false/\∃o,K.lookup a=some o/\o.IsDictOf (strKind P w) kvs
theorem zeY {a:Addr}{kvs:List (Str×Value)}(hd:znq X.K X.prog X.w a kvs):IxR X (fun x y H Q=>∃k u v,x=.ref a/\y=.str k/\valueAt kvs k=some u/\RelV v u/\Q v H):=by
 intro value slice pins s σ H x y v u Q I rx ry h hs
 obtain⟨k,z,vv,rfl,rfl,hv,rv,q⟩:=h
 cases rx
 obtain⟨t,rfl⟩:=ry
 obtain⟨_,o,hk,hdd⟩:=hd
 have D:s.heap.DictOf (strKind X.prog X.w) a kvs:=Heap.dictOf_iff.mpr ⟨o,I.Mi a o hk,hdd⟩
 exact tail_any D.typeIs slot_dict_getitem.lookup (wpAny_getItem_of (strKind_is _ _ k t) D.mapOf hv ⟨vv,H,I.tok _,rv,q⟩) hs
theorem zdi {a:Addr}{kvs:List (Str×Value)}(hd:znq X.K X.prog X.w a kvs):Qe X (compareOp .NotIn) (fun x y H Q=>∃k,x=.str k/\y=.ref a/\Q (.bl (!(valueAt kvs k).isSome)) H):=by
 intro pins s σ H x y v u Q I rx ry h
 obtain⟨k,rfl,rfl,q⟩:=h
 cases ry
 obtain⟨t,rfl⟩:=rx
 obtain⟨hs,o,hk,hdd⟩:=hd
 have D:s.heap.DictOf (strKind X.prog X.w) a kvs:=Heap.dictOf_iff.mpr ⟨o,I.Mi a o hk,hdd⟩
 exact wpAny_notIn_of (strKind_is _ _ k t) hs D.mapOf ⟨.bl _,H,I.tok _,rfl,q⟩
theorem Inv.znr {pins:List (Addr×Obj)}{σ:St}{H:Hp}{s:Shared}{h':Heap}{t':Nat}{fp:List Addr}(I:Inv X pins σ H s)(k:∀b o,b∉fp->s.heap.get? b=some o->h'.get? b=some o)(ex:∀b∈fp,∃o,h'.get? b=some o)(hf:∀b∈fp,zde X pins H b) :
  Inv X pins σ H { s with heap:=h',toks:=t' }:=by
 have nit:∀b u,H b=some u->b∉fp:=fun b u e z=>by rw[(hf b z).1] at e;cases e
 refine I.step (g':=s.gens) (d':=s.drawn) (ch:=fp) (fun b hb=>⟨(hf b hb).2.2.2.1,(hf b hb).2.1,(hf b hb).2.2.2.2.1,(hf b hb).2.2.2.2.2⟩) (fun b o _ _ hc e _=>k b o hc e) (fun b o _ _ hc e _=>⟨o.slots,k b o hc e⟩) (fun _ _ _ _ n=>n)
  (fun b o hc e=>⟨o,k b o hc e⟩) (fun _ _ e=>e) (fun _ _ _ e=>e) (fun b ps e=>⟨#[],by rw[e];simp⟩) (fun m hm=>?_) (fun b u e=>?_) I.bare
 ·obtain⟨o,es,ep,ho,r⟩:=hm
  exact⟨o,es,ep,k _ o (fun z=>(hf _ z).2.1 rfl) ho,r⟩
 ·refine(I.hok b u e).stay (fun c v hc q=>k c v ?_ q) (fun _ q=>q) fun _ _ q=>q
  rcases hc with z | z
  ·rw[z];exact nit b u e
  ·exact nit c _ z
end
theorem yp:bootBuiltins "len"=some (.builtin "len"):=by decide +kernel
theorem Lj:bootBuiltins "all"=some (.builtin "all"):=by decide +kernel
theorem yH:bootBuiltins "isinstance"=some (.builtin "isinstance"):=by decide +kernel
theorem zly:bootBuiltins "int"=some (.type "int"):=by decide +kernel
theorem zns:bootBuiltins "bool"=some (.type "bool"):=by decide +kernel
theorem zpr:bootBuiltins "str"=some (.type "str"):=by decide +kernel
theorem zgf:bootBuiltins "tuple"=some (.type "tuple"):=by decide +kernel
theorem KR:bootBuiltins "list"=some (.type "list"):=by decide +kernel
theorem zps:bootBuiltins "set"=some (.type "set"):=by decide +kernel
theorem zhV {v:V}{u:Value}(h:zdd u=some v):RelV v u:=by
 cases u<;>simp only[zdd,Option.some.injEq,reduceCtorEq] at h<;>subst h<;>first | exact rfl | exact⟨_,rfl⟩
theorem zaO:∀{us:List Value} {xs:List V},us.map zdd=xs.map some->Vals xs us
 | [],[],_=>.nil
 | u::us,x::xs,h=>by
  rw[zyt,zyt] at h
  injection h with h1 h2
  exact .cons (zhV h1) (zaO h2)
 | [],_::_,h=>by cases h
 | _::_,[],h=>by cases h
theorem zoC {K:Frag}{H:Hp}{p:Addr}{od:Option Addr}{it:Array Value}{n:Nat}{sl:Array (Option Value)}{xs:List V}(l:K.lookup p=some ⟨.type "tuple", od,.seq it n,sl⟩)(v:it.toList.map zdd=xs.map some)(hz:xs.length<=1000):vL K H p xs:=by
 have r:=zaO v
 refine .inr ⟨_,it,n,l,rfl,rfl,?_,r⟩
 have e:xs.length=it.size:=by have:=r.length;simpa using this
 rw[<-e]
 exact zyn (zQ hz)
theorem zpt {P:Program}{w:World}:Pairs (strKind P w) [] []/\∀e∈([]:List DictEntry),∃k,(strKind P w).is k e.key=true/\e.hash=(strKind P w).hash k:=⟨.nil,fun _ h=>nomatch h⟩
theorem znt {P:Program}{w:World}{k:Str}{t:Tok}{v:Value}{es:List DictEntry}{kvs:List (Str×Value)}(h:Pairs (strKind P w) es kvs/\∀e∈es,∃k,(strKind P w).is k e.key=true/\e.hash=(strKind P w).hash k) :
  Pairs (strKind P w) (⟨hashStr w k,.str k t,v⟩::es) ((k,v)::kvs)/\∀e∈(⟨hashStr w k,.str k t,v⟩::es:List DictEntry),∃k,(strKind P w).is k e.key=true/\e.hash=(strKind P w).hash k:=by
 refine⟨.cons (strKind_is _ _ k t) rfl h.1,fun e he=>?_⟩
 rcases List.mem_cons.mp he with z | z
 ·subst z;exact⟨k,strKind_is _ _ k t,rfl⟩
 ·exact h.2 e z
theorem znu {P:Program}{w:World}{K:Frag}{p:Addr}{es:Array DictEntry}{ep:Nat}{el:List DictEntry}{kvs:List (Str×Value)}(l:K.lookup p=some ⟨.type "dict", none,.dict es ep,#[]⟩)(e:es.toList=el)(s:(p==sysModules)=false)
  (h:Pairs (strKind P w) el kvs/\∀e∈el,∃k,(strKind P w).is k e.key=true/\e.hash=(strKind P w).hash k)(nd:(kvs.map (·.1)).Nodup):znq K P w p kvs:=by
 subst e
 exact⟨s,_,l,es,ep,⟨rfl,rfl,rfl⟩,rfl,fun x hx=>h.2 x (by simpa using hx),h.1,nd⟩
end L2
namespace uh
open PySem
inductive Sn where
 | c0 (y:Bool)
 | mk (x:Str)
 | nt (s:Sn)
 | b2 (o:Fin 4) (s t:Sn)
 | q1 (o:Bool) (x:Str) (s:Sn)
def w2:Fin 4->Str
 | 0 => "and"
 | 1 => "or"
 | 2 => "either"
 | 3 => "if"
namespace Sn
def word:Sn->Str
 | c0 true => "yes"
 | c0 false => "no"
 | mk _ => "mark"
 | nt _ => "not"
 | b2 o _ _=>w2 o
 | q1 true _ _ => "some"
 | q1 false _ _ => "each"
def letters:Sn->List Str
 | mk x=>[x]
 | q1 _ x _=>[x]
 | _=>[]
def parts:Sn->List Sn
 | nt s=>[s]
 | b2 _ s t=>[s,t]
 | q1 _ _ s=>[s]
 | _=>[]
def count:Sn->Nat
 | nt s=>1+s.count
 | b2 _ s t=>1+(s.count+t.count)
 | q1 _ _ s=>1+s.count
 | _=>1
def depth:Sn->Nat
 | nt s=>1+s.depth
 | b2 _ s t=>1+max s.depth t.depth
 | q1 _ _ s=>1+s.depth
 | _=>1
def Ve (os:List Str):Sn->Prop
 | c0 _=>True
 | mk x=>x∈os
 | nt s=>s.Ve os
 | b2 _ s t=>s.Ve os/\t.Ve os
 | q1 _ x s=>x∈os/\s.Ve os
def op2:Fin 4->Bool->Bool->Bool
 | 0,a,b=>a&&b
 | 1,a,b=>a||b
 | 2,a,b=>a != b
 | 3,a,b=>!a||b
def val:Sn->(Str->Bool)->Bool
 | c0 y,_=>y
 | mk x,e=>e x
 | nt s,e=>!s.val e
 | b2 o s t,e=>op2 o (s.val e) (t.val e)
 | q1 true x s,e=>s.val (fun y=>if y=x then true else e y)||s.val (fun y=>if y=x then false else e y)
 | q1 false x s,e=>s.val (fun y=>if y=x then true else e y)&&s.val (fun y=>if y=x then false else e y)
theorem val_congr {os:List Str}:∀(s:Sn) {e e':Str->Bool},s.Ve os->(∀x∈os,e x=e' x)->s.val e=s.val e'
 | c0 _,_,_,_,_=>rfl
 | mk x,_,_,h,q=>q x h
 | nt s,_,_,h,q=>by unfold val;rw[val_congr s h q]
 | b2 o s t,_,_,h,q=>by unfold val;rw[val_congr s h.1 q,val_congr t h.2 q]
 | q1 o x s,e,e',h,q=>by
  have k:∀b:Bool,s.val (fun y=>if y=x then b else e y)=s.val (fun y=>if y=x then b else e' y):=fun b=>val_congr s h.2 fun y hy=>by
   by_cases hx:y=x
   ·rw[if_pos hx,if_pos hx]
   ·rw[if_neg hx,if_neg hx,q y hy]
  cases o<;>(unfold val;rw[k,k])
theorem Nm:∀s:Sn,1<=s.depth
 | c0 _=>zyk _
 | mk _=>zyk _
 | nt _=>by unfold depth;omega
 | b2 _ _ _=>by unfold depth;omega
 | q1 _ _ _=>by unfold depth;omega
theorem zaP:∀s:Sn,s.count=1+(s.parts.map count).sum
 | c0 _=>rfl
 | mk _=>rfl
 | nt _=>by simp[count,parts]
 | b2 _ _ _=>by simp[count,parts]
 | q1 _ _ _=>by simp[count,parts]
theorem Qw:∀(s:Sn),∀t∈s.parts,t.depth+1<=s.depth
 | c0 _,t,h=>by simp[parts] at h
 | mk _,t,h=>by simp[parts] at h
 | nt s,t,h=>by simp[parts] at h;subst h;show t.depth+1<=1+t.depth;omega
 | b2 _ s u,t,h=>by
  simp[parts] at h
  rcases h with h | h
  ·subst h;show t.depth+1<=1+max t.depth u.depth;omega
  ·subst h;show t.depth+1<=1+max s.depth t.depth;omega
 | q1 _ _ s,t,h=>by simp[parts] at h;subst h;show t.depth+1<=1+t.depth;omega
theorem zea {os:List Str}:∀(s:Sn),s.Ve os->∀t∈s.parts,t.Ve os
 | c0 _,_,t,h=>by simp[parts] at h
 | mk _,_,t,h=>by simp[parts] at h
 | nt s,q,t,h=>by simp[parts] at h;subst h;exact q
 | b2 _ s u,q,t,h=>by
  simp[parts] at h
  rcases h with h | h<;>subst h
  ·exact q.1
  ·exact q.2
 | q1 _ _ s,q,t,h=>by simp[parts] at h;subst h;exact q.2
theorem zgg {os:List Str}:∀(s:Sn),s.Ve os->∀x∈s.letters,x∈os
 | c0 _,_,t,h=>by simp[letters] at h
 | mk _,q,t,h=>by simp[letters] at h;subst h;exact q
 | nt s,q,t,h=>by simp[letters] at h
 | b2 _ s u,q,t,h=>by simp[letters] at h
 | q1 _ _ s,q,t,h=>by simp[letters] at h;subst h;exact q.1
end Sn
theorem uN (b p:Nat):(b+2^p).testBit p=!b.testBit p:=by rw[Nat.add_comm];exact Nat.testBit_two_pow_add_eq b p
theorem Np {b p j:Nat}(h:j<p):(b+2^p).testBit j=b.testBit j:=by rw[Nat.add_comm];exact Nat.testBit_two_pow_add_gt h b
theorem zlz {b p:Nat}(h:b.testBit p=false):b%2^(p+1)<2^p:=by
 have e:b%2^(p+1)=b%2^p+2^p*(b / 2^p%2):=by
  rw[Nat.pow_succ];exact Nat.mod_mul
 have z:b / 2^p%2=0:=by
  rw[Nat.testBit_eq_decide_div_mod_eq] at h
  have:=of_decide_eq_false h
  omega
 rw[e,z,Nat.mul_zero,Nat.add_zero]
 exact Nat.mod_lt b (Nat.two_pow_pos p)
theorem zlA (x i j:Nat):x.testBit (i+j)=(x / 2^i).testBit j:=by
 rw[Nat.testBit_div_two_pow,Nat.add_comm]
theorem zeb {b p j:Nat}(h:p<j)(h0:b.testBit p=false):(b+2^p).testBit j=b.testBit j:=by
 obtain⟨k,rfl⟩:∃k,j=(p+1)+k:=⟨j-(p+1),by omega⟩
 rw[zlA,zlA]
 have hm:=zlz h0
 have e:(b+2^p) / 2^(p+1)=b / 2^(p+1):=by
  have hp:2^(p+1)=2^p+2^p:=by rw[Nat.pow_succ];omega
  have d:=Nat.div_add_mod b (2^(p+1))
  have pos:=Nat.two_pow_pos (p+1)
  rw[Nat.div_eq_iff pos]
  have c:b / 2^(p+1)*2^(p+1)=2^(p+1)*(b / 2^(p+1)):=Nat.mul_comm _ _
  rw[c]
  omega
 rw[e]
def zN (b p:Nat)(v:Bool):Nat:=if b.testBit p=v then b else if v then b+2^p else b-2^p
theorem zec {b p:Nat}(h:b.testBit p=true):2^p<=b:=Nat.ge_two_pow_of_testBit h
theorem zT (b p j:Nat)(v:Bool):(zN b p v).testBit j=if j=p then v else b.testBit j:=by
 unfold zN
 by_cases h:b.testBit p=v
 ·rw[if_pos h]
  by_cases hj:j=p
  ·rw[if_pos hj,hj,h]
  ·rw[if_neg hj]
 ·rw[if_neg h]
  cases v with
  | true =>
   have h0:b.testBit p=false:=by simpa using h
   rw[if_pos rfl]
   by_cases hj:j=p
   ·subst hj;rw[if_pos rfl,uN,h0];rfl
   ·rw[if_neg hj]
    rcases Nat.lt_or_gt_of_ne hj with q | q
    ·exact Np q
    ·exact zeb q h0
  | false =>
   have h1:b.testBit p=true:=by simpa using h
   rw[if_neg zx8]
   have ge:=zec h1
   obtain⟨c,hc⟩:∃c,b=c+2^p:=⟨b-2^p,by omega⟩
   have h0:c.testBit p=false:=by
    rw[hc,uN] at h1
    simpa using h1
   have e:b-2^p=c:=by omega
   rw[e,hc]
   by_cases hj:j=p
   ·subst hj;rw[if_pos rfl,h0]
   ·rw[if_neg hj]
    rcases Nat.lt_or_gt_of_ne hj with q | q
    ·exact(Np q).symm
    ·exact(zeb q h0).symm
theorem yP {b p n:Nat}{v:Bool}(hb:b<2^n)(hp:p<n):zN b p v<2^n:=by
 refine Nat.lt_pow_two_of_testBit _ fun i hi=>?_
 rw[zT,if_neg (by omega)]
 exact Nat.testBit_lt_two_pow (zyd hb (zyA (by decide) hi))
def zV (n:Nat)(N:Nat)(f:Nat->Bool):Prop:=∀b,N.testBit b=(decide (b<2^n)&&f b)
theorem KY (n:Nat):zV n (2^2^n-1) (fun _=>true):=fun b=>by
 rw[Nat.testBit_two_pow_sub_one,Bool.and_true]
theorem KZ (n:Nat):zV n 0 (fun _=>false):=fun b=>by simp
theorem Rk {n N M:Nat}{f g:Nat->Bool}(h:zV n N f)(k:zV n M g):zV n (N ^^^ M) (fun b=>f b != g b):=fun b=>by
 rw[Nat.testBit_xor,h b,k b]
 show _=(decide (b<2^n)&&(f b != g b))
 cases decide (b<2^n)<;>cases f b<;>cases g b<;>rfl
theorem WW {n N M:Nat}{f g:Nat->Bool}(h:zV n N f)(k:zV n M g):zV n (N&&&M) (fun b=>f b&&g b):=fun b=>by
 rw[Nat.testBit_and,h b,k b]
 show _=(decide (b<2^n)&&(f b&&g b))
 cases decide (b<2^n)<;>cases f b<;>cases g b<;>rfl
theorem Lk {n N M:Nat}{f g:Nat->Bool}(h:zV n N f)(k:zV n M g):zV n (N|||M) (fun b=>f b||g b):=fun b=>by
 rw[Nat.testBit_or,h b,k b]
 show _=(decide (b<2^n)&&(f b||g b))
 cases decide (b<2^n)<;>cases f b<;>cases g b<;>rfl
theorem vM {n N:Nat}{f g:Nat->Bool}(h:zV n N f)(e:∀b,b<2^n->f b=g b):zV n N g:=fun b=>by
 rw[h b]
 by_cases hb:b<2^n
 ·rw[e b hb]
 ·rw[decide_eq_false hb];rfl
theorem zlB {n N:Nat}{f:Nat->Bool}(h:zV n N f):N<2^2^n:=Nat.lt_pow_two_of_testBit _ fun i hi=>by
 rw[h i,decide_eq_false (by omega)];rfl
theorem zkf (p:Nat):zV (p+1) ((2^2^p-1)*2^2^p) (fun b=>b.testBit p):=fun b=>by
 rw[Nat.testBit_mul_two_pow,Nat.testBit_two_pow_sub_one]
 show _=(decide (b<2^(p+1))&&b.testBit p)
 have hp:2^(p+1)=2^p+2^p:=by rw[Nat.pow_succ];omega
 by_cases h1:2^p<=b
 ·by_cases h2:b<2^(p+1)
  ·have e:b.testBit p=true:=by
    obtain⟨c,rfl⟩:∃c,b=c+2^p:=⟨b-2^p,by omega⟩
    rw[uN,Nat.testBit_lt_two_pow (by omega)]
    rfl
   rw[e]
   simp[h1,h2]
   omega
  ·simp[h2]
   intro _
   omega
 ·have e:b.testBit p=false:=Nat.testBit_lt_two_pow (by omega)
  rw[e]
  simp[h1]
theorem zhW {p m N:Nat}(hp:p<m)(h:zV m N (fun b=>b.testBit p)):zV (m+1) (N|||N*2^2^m) (fun b=>b.testBit p):=fun b=>by
 rw[Nat.testBit_or,Nat.testBit_mul_two_pow,h b,h (b-2^m)]
 show(_||(_&&(_&&(b-2^m).testBit p)))=(decide (b<2^(m+1))&&b.testBit p)
 have hm:2^(m+1)=2^m+2^m:=by rw[Nat.pow_succ];omega
 by_cases h1:b<2^m
 ·have h2:b<2^(m+1):=by omega
  have h3:¬ 2^m<=b:=by omega
  simp[h1,h2,h3]
 ·have h3:2^m<=b:=by omega
  have e:(b-2^m).testBit p=b.testBit p:=by
   obtain⟨c,rfl⟩:∃c,b=c+2^m:=⟨b-2^m,by omega⟩
   rw[Np hp,Nat.add_sub_cancel]
  rw[e]
  by_cases h2:b<2^(m+1)
  ·have h4:b-2^m<2^m:=by omega
   simp[h1,h2,h3,h4]
  ·have h4:¬b-2^m<2^m:=by omega
   simp[h1,h2,h3,h4]
theorem zlC {n p N R:Nat}{f:Nat->Bool}(hp:p<n)(h:zV n N f)(r:zV n R (fun b=>b.testBit p)) :
  zV n ((N&&&R) / 2^2^p|||(N ^^^ (N&&&R))*2^2^p) (fun b=>f (zN b p (!b.testBit p))):=fun b=>by
 have o:=WW h r
 have z:=Rk h o
 have pp:=Nat.two_pow_pos p
 rw[Nat.testBit_or,Nat.testBit_mul_two_pow,Nat.testBit_div_two_pow,o,z]
 dsimp only
 by_cases hb:b<2^n
 ·cases hbit:b.testBit p with
  | false =>
   have e:zN b p (!false)=b+2^p:=by
    unfold zN
    rw[hbit,if_neg (by decide),if_pos (by decide)]
   have lt:b+2^p<2^n:=by rw[<-e];exact yP hb hp
   rw[e,uN,hbit]
   by_cases h1:2^p<=b
   ·have e2:(b-2^p).testBit p=true:=by
     obtain⟨c,rfl⟩:∃c,b=c+2^p:=⟨b-2^p,by omega⟩
     rw[uN] at hbit
     rw[Nat.add_sub_cancel]
     simpa using hbit
    rw[e2]
    have h4:b-2^p<2^n:=by omega
    simp[hb,lt,h1,h4]
   ·simp[hb,lt,h1]
  | true =>
   have ge:=zec hbit
   have e:zN b p (!true)=b-2^p:=by
    unfold zN
    rw[hbit,if_neg (by decide),if_neg (by decide)]
   have e2:(b-2^p).testBit p=false:=by
    obtain⟨c,rfl⟩:∃c,b=c+2^p:=⟨b-2^p,by omega⟩
    rw[uN] at hbit
    rw[Nat.add_sub_cancel]
    simpa using hbit
   rw[e,uN,hbit,e2]
   have h4:b-2^p<2^n:=by omega
   simp[hb,ge,h4]
 ·have h3:¬b+2^p<2^n:=by omega
  have h5:(decide (2^p<=b)&&(decide (b-2^p<2^n)&&(f (b-2^p) != (f (b-2^p)&&(b-2^p).testBit p))))=false:=by
   by_cases h1:2^p<=b
   ·by_cases h4:b-2^p<2^n
    ·
     have e:(b-2^p).testBit p=true:=by
      cases q:(b-2^p).testBit p with
      | true=>rfl
      | false =>
       exfalso
       have l:=yP (v:=true) h4 hp
       unfold zN at l
       rw[q,if_neg (by decide),if_pos rfl] at l
       omega
     rw[e]
     cases f (b-2^p)<;>simp
    ·simp[h4]
   ·simp[h1]
  rw[h5]
  simp[hb,h3]
theorem Mu (a:Nat):a%2=(a.testBit 0).toNat:=by
 rw[Nat.testBit_zero]
 have:=Nat.mod_two_eq_zero_or_one a
 rcases this with h | h<;>rw[h]<;>rfl
theorem zjd:∀(n a b:Nat),a<=n->(a ^^^ b)+2*(a&&&b)=a+b
 | 0,a,b,h=>by
  have:a=0:=by omega
  subst this;simp
 | n+1,a,b,h=>by
  by_cases h0:a=0
  ·subst h0;simp
  ·have ih:=zjd n (a / 2) (b / 2) (by omega)
   have e1:(a ^^^ b) / 2=a / 2 ^^^ b / 2:=Nat.xor_div_two
   have e2:(a&&&b) / 2=a / 2&&&b / 2:=Nat.and_div_two
   have d1:=Nat.div_add_mod (a ^^^ b) 2
   have d2:=Nat.div_add_mod (a&&&b) 2
   have d3:=Nat.div_add_mod a 2
   have d4:=Nat.div_add_mod b 2
   rw[e1] at d1
   rw[e2] at d2
   cases ha:a.testBit 0<;>cases hb:b.testBit 0
   ·have m1:(a ^^^ b)%2=0:=by rw[Mu,Nat.testBit_xor,ha,hb];rfl
    have m2:(a&&&b)%2=0:=by rw[Mu,Nat.testBit_and,ha,hb];rfl
    have m3:a%2=0:=by rw[Mu,ha];rfl
    have m4:b%2=0:=by rw[Mu,hb];rfl
    omega
   ·have m1:(a ^^^ b)%2=1:=by rw[Mu,Nat.testBit_xor,ha,hb];rfl
    have m2:(a&&&b)%2=0:=by rw[Mu,Nat.testBit_and,ha,hb];rfl
    have m3:a%2=0:=by rw[Mu,ha];rfl
    have m4:b%2=1:=by rw[Mu,hb];rfl
    omega
   ·have m1:(a ^^^ b)%2=1:=by rw[Mu,Nat.testBit_xor,ha,hb];rfl
    have m2:(a&&&b)%2=0:=by rw[Mu,Nat.testBit_and,ha,hb];rfl
    have m3:a%2=1:=by rw[Mu,ha];rfl
    have m4:b%2=0:=by rw[Mu,hb];rfl
    omega
   ·have m1:(a ^^^ b)%2=0:=by rw[Mu,Nat.testBit_xor,ha,hb];rfl
    have m2:(a&&&b)%2=1:=by rw[Mu,Nat.testBit_and,ha,hb];rfl
    have m3:a%2=1:=by rw[Mu,ha];rfl
    have m4:b%2=1:=by rw[Mu,hb];rfl
    omega
theorem zlD:∀(n a b:Nat),a<=n->(a|||b)+(a&&&b)=a+b
 | 0,a,b,h=>by
  have:a=0:=by omega
  subst this;simp
 | n+1,a,b,h=>by
  by_cases h0:a=0
  ·subst h0;simp
  ·have ih:=zlD n (a / 2) (b / 2) (by omega)
   have e1:(a|||b) / 2=a / 2|||b / 2:=Nat.or_div_two
   have e2:(a&&&b) / 2=a / 2&&&b / 2:=Nat.and_div_two
   have d1:=Nat.div_add_mod (a|||b) 2
   have d2:=Nat.div_add_mod (a&&&b) 2
   have d3:=Nat.div_add_mod a 2
   have d4:=Nat.div_add_mod b 2
   rw[e1] at d1
   rw[e2] at d2
   cases ha:a.testBit 0<;>cases hb:b.testBit 0
   ·have m1:(a|||b)%2=0:=by rw[Mu,Nat.testBit_or,ha,hb];rfl
    have m2:(a&&&b)%2=0:=by rw[Mu,Nat.testBit_and,ha,hb];rfl
    have m3:a%2=0:=by rw[Mu,ha];rfl
    have m4:b%2=0:=by rw[Mu,hb];rfl
    omega
   ·have m1:(a|||b)%2=1:=by rw[Mu,Nat.testBit_or,ha,hb];rfl
    have m2:(a&&&b)%2=0:=by rw[Mu,Nat.testBit_and,ha,hb];rfl
    have m3:a%2=0:=by rw[Mu,ha];rfl
    have m4:b%2=1:=by rw[Mu,hb];rfl
    omega
   ·have m1:(a|||b)%2=1:=by rw[Mu,Nat.testBit_or,ha,hb];rfl
    have m2:(a&&&b)%2=0:=by rw[Mu,Nat.testBit_and,ha,hb];rfl
    have m3:a%2=1:=by rw[Mu,ha];rfl
    have m4:b%2=0:=by rw[Mu,hb];rfl
    omega
   ·have m1:(a|||b)%2=1:=by rw[Mu,Nat.testBit_or,ha,hb];rfl
    have m2:(a&&&b)%2=1:=by rw[Mu,Nat.testBit_and,ha,hb];rfl
    have m3:a%2=1:=by rw[Mu,ha];rfl
    have m4:b%2=1:=by rw[Mu,hb];rfl
    omega
theorem zpu (a b:Nat):Builtin.bitAnd (a:Int) (b:Int)=((a&&&b:Nat):Int):=by
 unfold Builtin.bitAnd
 rw[decide_eq_true (Int.natCast_nonneg a),decide_eq_true (Int.natCast_nonneg b)]
 simp
theorem orI (a b:Nat):Builtin.bitOr (a:Int) (b:Int)=((a|||b:Nat):Int):=by
 rw[PyProof.Rows.bitOr_and,zpu]
 have:=zlD a a b (zyk _)
 omega
theorem ztn (a b:Nat):Builtin.bitXor (a:Int) (b:Int)=((a ^^^ b:Nat):Int):=by
 rw[PyProof.Rows.bitXor_and,zpu]
 have:=zjd a a b (zyk _)
 omega
theorem zq4 (n:Nat):(2:Int)^n=((2^n:Nat):Int):=by simp
end uh
namespace L2
open PySem PySem.Spec PyProof.Rows uh
section
variable {X:Cx}
def zq5:R2:=fun x y H Q=>∃a n:Nat,x=.int a/\y=.int n/\a<2^10000/\n<=10000/\Q (.int (a*2^n:Nat)) H
theorem Xy:Qe X (binaryOp .LShift) zq5:=by
 intro pins s σ H x y v u Q I rx ry h
 obtain⟨a,n,rfl,rfl,ha,hn,q⟩:=h
 obtain⟨t,rfl⟩:=rx
 obtain⟨t',rfl⟩:=ry
 have hb:Builtin.Int.intBits (a:Int)<=10000:=intBits_le (by simpa using ha)
 refine lshift_int (Int.natCast_nonneg n) ?_ ?_
 ·have e:(2:Int)^27=134217728:=by decide
  rw[e];omega
 ·rw[zyI]
  have e:(a:Int)*2^n=((a*2^n:Nat):Int):=by rw[zq4,Int.natCast_mul]
  rw[e]
  exact⟨.int (a*2^n:Nat),H,I.tok _,⟨_,rfl⟩,q⟩
def zq6:R2:=fun x y H Q=>∃a n:Nat,x=.int a/\y=.int n/\Q (.int (a / 2^n:Nat)) H
theorem znv:Qe X (binaryOp .RShift) zq6:=by
 intro pins s σ H x y v u Q I rx ry h
 obtain⟨a,n,rfl,rfl,q⟩:=h
 refine zpc pins s σ H _ _ v u Q I rx ry ⟨_,_,rfl,rfl,Int.natCast_nonneg n,?_⟩
 show Q (.int ((a:Int) / 2^(n:Int).toNat)) H
 rw[zyI,zq4,<-Int.natCast_ediv]
 exact q
def rN2 (g:Nat->Nat->Nat):R2:=fun x y H Q=>∃a b:Nat,x=.int a/\y=.int b/\Q (.int (g a b:Nat)) H
theorem tV:Qe X (binaryOp .BitAnd) (rN2 (·&&&·)):=by
 intro pins s σ H x y v u Q I rx ry h
 obtain⟨a,b,rfl,rfl,q⟩:=h
 exact zpd pins s σ H _ _ v u Q I rx ry ⟨_,_,rfl,rfl,by show Q (.int (Builtin.bitAnd a b)) H;rw[zpu];exact q⟩
theorem Rn:Qe X (binaryOp .BitOr) (rN2 (·|||·)):=by
 intro pins s σ H x y v u Q I rx ry h
 obtain⟨a,b,rfl,rfl,q⟩:=h
 exact zqQ pins s σ H _ _ v u Q I rx ry ⟨_,_,rfl,rfl,by show Q (.int (Builtin.bitOr a b)) H;rw[orI];exact q⟩
theorem Nq:Qe X (binaryOp .BitXor) (rN2 (· ^^^ ·)):=by
 intro pins s σ H x y v u Q I rx ry h
 obtain⟨a,b,rfl,rfl,q⟩:=h
 exact zpe pins s σ H _ _ v u Q I rx ry ⟨_,_,rfl,rfl,by show Q (.int (Builtin.bitXor a b)) H;rw[ztn];exact q⟩
end
end L2
namespace L2
open PySem PySem.Spec PyProof.Rows
def strsOf:List Expr->Option (List Str)
 | []=>some []
 | .Constant (.str x) _ _::r=>(strsOf r).map (x::·)
 | _=>none
theorem zgh {e:Expr}{r:List Expr}{xs:List Str}(h:strsOf (e::r)=some xs):∃x j p ys,e=.Constant (.str x) j p/\strsOf r=some ys/\xs=x::ys:=by
 cases e with
 | Constant c j p =>
  cases c with
  | str x =>
   have h':(strsOf r).map (x::·)=some xs:=h
   cases hr:strsOf r with
   | none=>rw[hr] at h';cases h'
   | some ys =>
    rw[hr] at h'
    exact⟨x,j,p,ys,rfl,rfl,(zyz h').symm⟩
  | _=>cases h
 | _=>cases h
def zq7 (xs:List Str):TA:=fun _ H Q=>Q (xs.map V.str) H
def zoD (xs:List Str):TE:=fun _ H Q=>xs.length<=sizeLine/\∀p,H p=none->Q (.ref p) (upd H p (.lst (xs.map V.str)))
section
variable {X:Cx}
theorem znw {es:List Expr}:∀{xs:List Str},strsOf es=some xs->PA X es (zq7 xs):=by
 induction es with
 | nil =>
  intro xs h
  cases h
  exact fun pos pins s σ H Q I q=>zc pos pins s σ H Q I q
 | cons e r ih =>
  intro xs h
  obtain⟨x,j,p,ys,rfl,hr,rfl⟩:=zgh h
  exact fun pos pins s σ H Q I q=>za (zZ (x:=x) (j:=j) (pos:=p)) (ih hr) rfl pos pins s σ H Q I q
theorem zje {es:List Expr}{pos:Pos}{xs:List Str}(h:strsOf es=some xs):PE X (.List es pos) (zoD xs):=by
 intro pins s σ H Q I q
 refine yE (znw h) pins s σ H Q I ⟨?_,q.2⟩
 rw[zx4];exact q.1
def zeZ:Stmt->Option (Str×List Str)
 | .Assign [.Name x _] (.List es _) _=>(strsOf es).map (x,·)
 | _=>none
theorem ze0 {st:Stmt}{x:Str}{xs:List Str}(h:zeZ st=some (x,xs)):∃p es q r,st=.Assign [.Name x p] (.List es q) r/\strsOf es=some xs:=by
 unfold zeZ at h
 split at h
 ·rename_i y p es q r
  cases hs:strsOf es with
  | none=>rw[hs] at h;cases h
  | some ys =>
   rw[hs] at h
   cases h
   exact⟨_,_,_,_,rfl,hs⟩
 ·cases h
theorem znx {i:Nat}{x:Str}{xs:List Str}{st:Stmt}(h:zeZ st=some (x,xs))(hN:X.N.Nodup)(hi:X.N[i]?=some x)(hx:Loc X.env.scope x)(hf:X.fn x=true\/X.env.scope.names.lookup x=some .local):PS X st (zm6 (zoD xs) (WL i)):=by
 obtain⟨p,es,q,r,rfl,hs⟩:=ze0 h
 exact Wt hN hi hx (zje hs) rfl hf
end
end L2
set_option exponentiation.threshold 20000
namespace uh
open PySem L2
section
variable {K:Frag}
theorem zgi {a k:Nat}(h:a<2^k)(hk:k<=10000):a<2^10000:=zyd h (zyA (by decide) hk)
theorem zgj {n:Nat}(hn:n<=8):2^n<=256:=zyA (n:=2) (by decide) hn
inductive Xe (vs:List V)(H:Hp)(Q:VK)(E9:XK):Prop
 | mk (n:Nat) (_:vs=[.int n]) (_:n<=8) (_:Q (.int ((2^2^n-1:Nat):Int)) H):Xe vs H Q E9
inductive uQ (vs:List V)(H:Hp)(Q:VK)(E9:XK):Prop
 | mk (p n:Nat) (_:vs=[.int p,.int n]) (_:p<n) (_:n<=8) (_:∀R:Nat,zV n R (fun b=>b.testBit p)->Q (.int R) H):uQ vs H Q E9
inductive Xf (vs:List V)(H:Hp)(Q:VK)(E9:XK):Prop
 | mk (N p n:Nat) (f:Nat->Bool) (_:vs=[.int N,.int p,.int n]) (_:p<n) (_:n<=8) (_:zV n N f) (_:∀R:Nat,zV n R (fun b=>f (zN b p (!b.testBit p)))->Q (.int R) H):Xf vs H Q E9
def yj:List Bool->Nat
 | []=>0
 | b::r=>b.toNat+2*yj r
theorem zbZ:∀r:List Bool,yj r<2^r.length
 | []=>by decide
 | b::r=>by
  have:=zbZ r
  show b.toNat+2*yj r<2^(r.length+1)
  rw[Nat.pow_succ]
  cases b<;>simp<;>omega
theorem Wd:∀(r:List Bool) (i:Nat),(yj r).testBit i=(r[i]?).getD false
 | [],i=>by simp[yj]
 | b::r,0=>by
  show(b.toNat+2*yj r).testBit 0=b
  rw[Nat.testBit_zero]
  cases b<;>simp<;>omega
 | b::r,i+1=>by
  show(b.toNat+2*yj r).testBit (i+1)=(r[i]?).getD false
  rw[Nat.testBit_succ,<-Wd r i]
  have:(b.toNat+2*yj r) / 2=yj r:=by cases b<;>simp<;>omega
  rw[this]
abbrev zY (r:List Bool):List V:=r.map fun b=>V.int (b.toNat:Nat)
theorem zb0 {H:Hp}{p:Addr}(h:H p=none)(o:HO):Same H (upd H p o):=fun b u q=>by rw[zG (zH q h)];exact q
inductive K1 (K:Frag)(vs:List V)(H:Hp)(Q:VK)(E9:XK):Prop
 | mk (l:Addr) (ns:List Int) (i:Int) (_:vs=[.ref l,.int i]) (_:zO K H l (ns.map V.int)) (_:0<=i) (_:∀v:Int,Q (.int v) H):K1 K vs H Q E9
inductive Vt (vs:List V)(H:Hp)(Q:VK)(E9:XK):Prop
 | mk (c:Int) (k:Nat) (b:Int) (_:vs=[.int c,.int k,.int b]) (_:k<=40) (_:0<b) (_:b<1073741824) (_:∀r:Int,0<=r->r<b->Q (.int r) H):Vt vs H Q E9
def Yo:List Str:=["a", "b", "c", "d", "e", "f", "g", "h"]
structure ug (os:List Str):Prop where
 nd:os.Nodup
 mem:∀x∈os,x∈Yo
 pos:0<os.length
theorem zb1 {α:Type}[DecidableEq α]:∀{xs ys:List α},xs.Nodup->(∀x∈xs,x∈ys)->xs.length<=ys.length
 | [],_,_,_=>zyr _
 | x::xs,ys,nd,h=>by
  obtain⟨h1,h2⟩:=List.nodup_cons.mp nd
  have hx:=h x zyo
  have ih:=zb1 (xs:=xs) (ys:=ys.erase x) h2 fun y hy=>(List.mem_erase_of_ne (fun e:y=x=>h1 (by rw[<-e];exact hy))).mpr (h y (zyf _ hy))
  rw[List.length_erase_of_mem hx] at ih
  have:=List.length_pos_of_mem hx
  rw[zyg]
  omega
theorem ug.le {os:List Str}(h:ug os):os.length<=8:=zb1 h.nd h.mem
def TJ (H:Hp):Sn->Addr->Prop
 | .c0 y,p=>H p=some (.tup [.str (Sn.word (.c0 y))])
 | .mk x,p=>H p=some (.tup [.str "mark", .str x])
 | .nt s,p=>∃q,H p=some (.tup [.str "not", .ref q])/\TJ H s q
 | .b2 o s t,p=>∃q r,H p=some (.tup [.str (w2 o),.ref q,.ref r])/\TJ H s q/\TJ H t r
 | .q1 o x s,p=>∃q,H p=some (.tup [.str (if o then "some" else "each"),.str x,.ref q])/\TJ H s q
def yJ (H H':Hp):Prop:=∀b xs,H b=some (.tup xs)->H' b=some (.tup xs)
theorem yJ.trans {H H1 H2:Hp}(a:yJ H H1)(b:yJ H1 H2):yJ H H2:=fun c o h=>b c o (a c o h)
theorem yJ.of {H H':Hp}(g:Same H H'):yJ H H':=fun b xs h=>g b _ h
theorem yJ.new {H:Hp}{p:Addr}(h:H p=none)(o:HO):yJ H (upd H p o):=fun b u q=>by rw[zG (zH q h)];exact q
theorem yJ.lst {H:Hp}{p:Addr}{xs:List V}(h:H p=some (.lst xs))(o:HO):yJ H (upd H p o):=fun b u q=>by rw[zG (Qq q h (fun z=>nomatch z))];exact q
theorem TJ.mono {H H':Hp}(g:yJ H H'):∀{s:Sn} {p:Addr},TJ H s p->TJ H' s p
 | .c0 y,p,h=>g _ _ h
 | .mk x,p,h=>g _ _ h
 | .nt s,p,⟨q,h,k⟩=>⟨q,g _ _ h,k.mono g⟩
 | .b2 o s t,p,⟨q,r,h,k,l⟩=>⟨q,r,g _ _ h,k.mono g,l.mono g⟩
 | .q1 o x s,p,⟨q,h,k⟩=>⟨q,g _ _ h,k.mono g⟩
theorem ze1 (o:Bool)(x:Str)(s:Sn):Sn.word (.q1 o x s)=if o then Str.ofString "some" else Str.ofString "each" := by cases o<;>rfl
theorem TJ.shape {H:Hp}:∀{s:Sn} {p:Addr},TJ H s p->∃qs:List Addr,H p=some (.tup (.str s.word::(s.letters.map V.str++qs.map V.ref)))/\Paired (TJ H) s.parts qs
 | .c0 y,p,h=>⟨[],h,.nil⟩
 | .mk x,p,h=>⟨[],h,.nil⟩
 | .nt s,p,⟨q,h,k⟩=>⟨[q],h,.cons k .nil⟩
 | .b2 o s t,p,⟨q,r,h,k,l⟩=>⟨[q,r],h,.cons k (.cons l .nil)⟩
 | .q1 o x s,p,⟨q,h,k⟩=>⟨[q],by rw[ze1];exact h,.cons k .nil⟩
theorem ze2 {α:Type}{xs:List α}{i:Int}(h0:-(xs.length:Int)<=i)(h1:i<xs.length):∃(j:Nat) (v:α),atI xs i=some v/\xs[j]?=some v:=by
 by_cases h:0<=i
 ·have hj:i.toNat<xs.length:=by omega
  have q:=yQ (xs:=xs) (j:=i.toNat) (zx5 hj)
  have e:((i.toNat:Nat):Int)=i:=by omega
  rw[e] at q
  exact⟨_,_,q,zx5 hj⟩
 ·have hj:(i+xs.length).toNat<xs.length:=by omega
  refine⟨_,_,?_,zx5 hj⟩
  unfold atI ixN
  rw[if_neg h,if_pos h0]
  show xs[(i+xs.length).toNat]?=_
  exact zx5 hj
def Ln:List Str:=["mark", "mark", "not", "and", "or", "either", "if", "and", "or", "some", "each", "yes", "no", "mark"]
structure Made (H0 H:Hp)(os:List Str)(m kd:Addr)(ps:List Addr)(d:Nat):Prop where
 old:Same H0 H
 mad:H m=some (.lst (ps.map V.ref))
 kin:H kd=some (.lst (Ln.map V.str))
 ne:ps≠[]
 all:∀p∈ps,∃s,TJ H s p/\s.Ve os/\s.depth<=d
theorem Made.push {H0 H:Hp}{os:List Str}{m kd p:Addr}{ps:List Addr}{d:Nat}{xs:List V}(M:Made H0 H os m kd ps d)(fm:H0 m=none)(hp:H p=none){s:Sn}(hs:TJ (upd H p (.tup xs)) s p)(ho:s.Ve os)(hd:s.depth<=d+1)(hk:m≠kd) :
  Made H0 (upd (upd H p (.tup xs)) m (.lst ((ps++[p]).map V.ref))) os m kd (ps++[p]) (d+1):=by
 have hm:m≠p:=zH M.mad hp
 have hkp:kd≠p:=zH M.kin hp
 have mad':(upd H p (.tup xs)) m=some (.lst (ps.map V.ref)):=by rw[zG hm];exact M.mad
 have t1:yJ H (upd H p (.tup xs)):=yJ.new hp _
 have t2:yJ (upd H p (.tup xs)) (upd (upd H p (.tup xs)) m (.lst ((ps++[p]).map V.ref))):=yJ.lst mad' _
 refine⟨fun b o h=>?_,zj,?_,by simp,fun q hq=>?_⟩
 ·have h1:=M.old b o h
  rw[zG (zH h fm),zG (zH h1 hp)]
  exact h1
 ·rw[zG (Ne.symm hk),zG hkp];exact M.kin
 ·rcases List.mem_append.mp hq with z | z
  ·obtain⟨s',q1,q2,q3⟩:=M.all q z
   exact⟨s',(q1.mono t1).mono t2,q2,by omega⟩
  ·have z':q=p:=by simpa using z
   subst z'
   exact⟨s,hs.mono t2,ho,hd⟩
inductive Ro (K:Frag)(vs:List V)(H:Hp)(Q:VK)(E9:XK):Prop
 | mk (sc ol:Addr) (ns:List Int) (t m:Nat) (os:List Str) (_:vs=[.ref sc,.int t,.int m,.ref ol]) (_:zO K H sc (ns.map V.int)) (_:zO K H ol (os.map V.str)) (_:0<os.length) (_:os.length<=8) (_:0<m) (_:m<=40) (_:t<=60) (_:∀(p:Addr) (H':Hp) (s:Sn),Same H H'->TJ H' s p->s.Ve os->s.depth<=m->Q (.ref p) H'):Ro K vs H Q E9
theorem zaQ {os:List Str}(h0:0<os.length)(r:Int):∃x,x∈os/\atI (os.map V.str) (r%((os.map V.str).length:Nat))=some (.str x):=by
 have e:(os.map V.str).length=os.length:=zx4 _
 have m0:0<=r%((os.map V.str).length:Nat):=zyO _ (by omega)
 have m1:r%((os.map V.str).length:Nat)<((os.map V.str).length:Nat):=zyK _ (by omega)
 obtain⟨j,v,q1,q2⟩:=ze2 (xs:=os.map V.str) (i:=r%((os.map V.str).length:Nat)) (by omega) m1
 rw[zx6] at q2
 cases hx:os[j]? with
 | none=>rw[hx] at q2;cases q2
 | some x =>
  rw[hx] at q2
  cases q2
  exact⟨x,zx9 hx,q1⟩
theorem zae {ps:List Addr}{i:Int}(h0:-(ps.length:Int)<=i)(h1:i<ps.length):∃p,p∈ps/\atI (ps.map V.ref) i=some (.ref p):=by
 have e:(ps.map V.ref).length=ps.length:=zx4 _
 obtain⟨j,v,q1,q2⟩:=ze2 (xs:=ps.map V.ref) (i:=i) (by omega) (by omega)
 rw[zx6] at q2
 cases hx:ps[j]? with
 | none=>rw[hx] at q2;cases q2
 | some x =>
  rw[hx] at q2
  cases q2
  exact⟨x,zx9 hx,q1⟩
end
end uh
namespace L2
open PySem
section
variable {α β:Type}{R S:α->β->Prop}
theorem Yc:∀{xs ys:List α} {us ws:List β},Paired R xs us->Paired R ys ws->Paired R (xs++ys) (us++ws)
 | _,_,_,_,.nil,s=>s
 | _,_,_,_,.cons r t,s=>.cons r (Yc t s)
theorem wG (f:∀a b,R a b->S a b):∀{xs:List α} {us:List β},Paired R xs us->Paired S xs us
 | _,_,.nil=>.nil
 | _,_,.cons r t=>.cons (f _ _ r) (wG f t)
theorem yK:∀{xs:List α} {us:List β},Paired R xs us->xs.length=us.length
 | _,_,.nil=>rfl
 | _,_,.cons _ t=>by rw[zyg,zyg,yK t]
theorem ZK:∀{xs:List α} {us:List β} {i:Nat} {x:α},Paired R xs us->xs[i]?=some x->∃u,us[i]?=some u/\R x u
 | _,_,_,_,.nil,e=>by simp at e
 | _,_,0,_,.cons r _,e=>by simp at e;subst e;exact⟨_,rfl,r⟩
 | _,_,i+1,x,.cons _ t,e=>by
  obtain⟨u,h1,h2⟩:=ZK (i:=i) (x:=x) t (by simpa using e)
  exact⟨u,by simpa using h1,h2⟩
theorem zaR:∀{xs:List α} {us:List β} {i:Nat} {u:β},Paired R xs us->us[i]?=some u->∃x,xs[i]?=some x/\R x u
 | _,_,_,_,.nil,e=>by simp at e
 | _,_,0,_,.cons r _,e=>by simp at e;subst e;exact⟨_,rfl,r⟩
 | _,_,i+1,x,.cons _ t,e=>by
  obtain⟨u,h1,h2⟩:=zaR (i:=i) (u:=x) t (by simpa using e)
  exact⟨u,by simpa using h1,h2⟩
theorem xg {α:Type}{xs:List α}{i:Nat}{x:α}(h:xs[i]?=some x):xs.take (i+1)=xs.take i++[x]:=by
 rw[List.take_succ,h]
 rfl
theorem Same.zq8 {K:Frag}{H H':Hp}{a:Addr}{xs:List V}(e:Same H H')(h:vL K H a xs):vL K H' a xs:=by
 rcases h with (h | ⟨o,h⟩) | h
 ·exact .inl (.inl (e _ _ h))
 ·exact .inl (.inr ⟨o,e _ _ h⟩)
 ·exact .inr h
theorem Same.new {H:Hp}{p:Addr}(h:H p=none)(o:HO):Same H (upd H p o):=fun b u q=>by rw[zG (zH q h)];exact q
theorem Same.over {H H':Hp}{p:Addr}(g:Same H H')(h:H p=none)(o:HO):Same H (upd H' p o):=fun b u q=>by rw[zG (zH q h)];exact g b u q
theorem at0 {α:Type}{x:α}{xs:List α}:atI (x::xs) 0=some x:=yQ (j:=0) rfl
theorem at1 {α:Type}{x y:α}{xs:List α}:atI (x::y::xs) 1=some y:=yQ (j:=1) rfl
theorem at2 {α:Type}{x y z:α}{xs:List α}:atI (x::y::z::xs) 2=some z:=yQ (j:=2) rfl
end
section
variable {K:Frag}{a:Addr}{xs:List V}{σ:St}{js:List Nat}{te:TE}{H:Hp}{Qf:Addr->Hp->List V->Prop}
theorem zbt (R:V->V->Prop)(hq:zO K H a xs)(hz:xs.length<=sizeLine)
  (hs:∀(i:Nat) x H',xs[i]?=some x->Same H H'->te (Wv σ js (some x)) H' fun v H3=>R x v/\Same H H3)
  (me:∀ σ H Q Q',(∀v H1,Q v H1->Q' v H1)->te σ H Q->te σ H Q')
  (hd:∀ys H' p,Paired R xs ys->Same H H'->H' p=none->Qf p H' ys) :
  ∃W:Nat->Nat->List V->Hp->Prop,(∃m,W 0 m [] H)/\∀i m ys H,W i m ys H ->
   ((Itl K a).stop i H/\∀p,H p=none->Qf p H ys) \/
   ((Itl K a).go i H/\ys.length<sizeLine/\∀x H',(Itl K a).JZ i H x H'->zdg (Wv σ js (some x)) H' fun b H2 =>
    if b=true then te (Wv σ js (some x)) H2 fun v H3=>∃m',m'<m/\W (i+1) m' (ys++[v]) H3 else ∃m',m'<m/\W (i+1) m' ys H2):=by
 refine zjb (fun i ys H'=>Same H H'/\Paired R (xs.take i) ys) ⟨Same.refl _,.nil⟩ hz ?_ ?_ (fun _ _ _ _ h q=>h _ _ q) me ?_
 ·rintro i ys H' hi ⟨g,r⟩
  have:=yK r
  rw[zys] at this
  exact⟨g.seq hq,by omega⟩
 ·rintro i x ys H' hx ⟨g,r⟩
  show te (Wv σ js (some x)) H' fun v H3=>Same H H3/\Paired R (xs.take (i+1)) (ys++[v])
  refine me _ _ _ _ (fun v H3 h3=>⟨h3.2,?_⟩) (hs i x H' hx g)
  rw[xg hx]
  exact Yc r (.cons h3.1 .nil)
 ·rintro ys H' p ⟨g,r⟩ hp
  rw[zyx] at r
  exact hd ys H' p r g hp
theorem zjf (R:V->V->Prop)(hq:vL K H a xs)(hz:xs.length<=sizeLine)
  (hs:∀(i:Nat) x H',xs[i]?=some x->Same H H'->te (Wv σ js (some x)) H' fun v H3=>R x v/\Same H H3)
  (me:∀ σ H Q Q',(∀v H1,Q v H1->Q' v H1)->te σ H Q->te σ H Q')
  (hd:∀ys H' p,Paired R xs ys->Same H H'->H' p=none->Qf p H' ys) :
  ∃W:Nat->Nat->List V->Hp->Prop,(∃m,W 0 m [] H)/\∀i m ys H,W i m ys H ->
   ((Itt K a).stop i H/\∀p,H p=none->Qf p H ys) \/
   ((Itt K a).go i H/\ys.length<sizeLine/\∀x H',(Itt K a).JZ i H x H'->zdg (Wv σ js (some x)) H' fun b H2 =>
    if b=true then te (Wv σ js (some x)) H2 fun v H3=>∃m',m'<m/\W (i+1) m' (ys++[v]) H3 else ∃m',m'<m/\W (i+1) m' ys H2):=by
 refine zlq (fun i ys H'=>Same H H'/\Paired R (xs.take i) ys) ⟨Same.refl _,.nil⟩ hz ?_ ?_ (fun _ _ _ _ h q=>h _ _ q) me ?_
 ·rintro i ys H' hi ⟨g,r⟩
  have:=yK r
  rw[zys] at this
  exact⟨g.zq8 hq,by omega⟩
 ·rintro i x ys H' hx ⟨g,r⟩
  show te (Wv σ js (some x)) H' fun v H3=>Same H H3/\Paired R (xs.take (i+1)) (ys++[v])
  refine me _ _ _ _ (fun v H3 h3=>⟨h3.2,?_⟩) (hs i x H' hx g)
  rw[xg hx]
  exact Yc r (.cons h3.1 .nil)
 ·rintro ys H' p ⟨g,r⟩ hp
  rw[zyx] at r
  exact hd ys H' p r g hp
theorem Lp {f:V->V}:∀{xs ys:List V},Paired (fun x v=>v=f x) xs ys->ys=xs.map f
 | _,_,.nil=>rfl
 | _,_,.cons r t=>by rw[zyt,r,Lp t]
end
section
variable {X:Cx}{K:Frag}{a:Expr}{ta:TE}
theorem zb2 (h:X.K=K):Qe X (compareOp .In) (rIn K false):=by subst h;exact Zm
theorem ze3 (h:X.K=K):Vq X (.builtin "isinstance") (fun xs H Q=>∃x T t b,xs=[x,.ty T]/\KD K H x t/\PySem.W.kitOne K t (.type T)=some b/\Q (.bl b) H):=by subst h;exact Uk
theorem Wf (h:X.K=K):IxR X (zqV K):=by subst h;exact yw
theorem zed (h:X.K=K)(ha:PE X a ta)(he:∀whole,isTrue a X.env whole=(do let v <-whole;standAt a.pos;holding [v] (truthy v))):PT X a (fun σ H Q=>ta σ H fun x H'=>∃k,zpg K x H' k/\Q k H'):=by subst h;exact Za ha he
def zb3 (sp:Sp):Prop:=∀vs H Q Q' E,(∀v H1,Q v H1->Q' v H1)->sp vs H Q E->sp vs H Q' E
theorem zlE {sp:Sp}(m:zb3 sp):∀ σ H Q Q',(∀v H1,Q v H1->Q' v H1)->KJ sp [] E0 (KH (zbO 0) zf8) σ H Q->KJ sp [] E0 (KH (zbO 0) zf8) σ H Q' :=
 fun σ H Q Q' h ⟨v,e,q⟩=>⟨v,e,m _ _ _ _ _ h q⟩
theorem K3 (x:Str)(ts:List Str):inV (.str x) (ts.map V.str)=decide (x∈ts):=by
 induction ts with
 | nil=>rfl
 | cons t r ih =>
  have e:inV (.str x) ((t::r).map V.str)=((t==x)||inV (.str x) (r.map V.str)):=rfl
  rw[e,ih]
  by_cases h:t=x
  ·subst h;simp
  ·have h':¬x=t:=fun z=>h z.symm
   simp[h,h']
theorem wL (ts:List Str):(ts.map V.str).all uf=true:=by
 rw[List.all_map,zyy]
 exact fun _ _=>rfl
theorem zlF {w:V}{rest:List V}{m n:Nat}(h:rest.length=m+n):TQ (w::rest) (some 1) (some (1+(m:Int)))=rest.take m:=by
 have e1:HT.Yv (w::rest).length 0 (some 1)=min 1 (w::rest).length:=HT.Nj _ _ 1
 have e2:HT.Yv (w::rest).length (w::rest).length (some (1+(m:Int)))=min (1+m) (w::rest).length:=by
  have z:(1:Int)+(m:Int)=((1+m:Nat):Int):=by omega
  rw[z];exact HT.Nj _ _ _
 have l:(w::rest).length=m+n+1:=by rw[zyg,h]
 unfold TQ
 rw[e1,e2,l,Nat.min_eq_left (by omega),Nat.min_eq_left (by omega),List.drop_one,List.tail_cons]
 congr 1
 omega
theorem zlG {w:V}{rest:List V}{m n:Nat}(h:rest.length=m+n):TQ (w::rest) (some (1+(m:Int))) none=rest.drop m:=by
 have e2:HT.Yv (w::rest).length 0 (some (1+(m:Int)))=min (1+m) (w::rest).length:=by
  have z:(1:Int)+(m:Int)=((1+m:Nat):Int):=by omega
  rw[z];exact HT.Nj _ _ _
 have l:(w::rest).length=m+n+1:=by rw[zyg,h]
 unfold TQ
 rw[e2,HT.zbS,l,Nat.min_eq_left (by omega),Nat.add_comm 1 m,List.drop_succ_cons,List.take_of_length_le]
 rw[List.length_drop,h]
 omega
theorem zb4 {w:V}{rest:List V}{i:Int}{o:Option Int}(h:1<=i):¬(HT.Yv (w::rest).length 0 (some i)=0/\HT.Yv (w::rest).length (w::rest).length o=(w::rest).length):=by
 rintro⟨h1,_⟩
 have e:HT.Yv (w::rest).length 0 (some i)=min i.toNat (w::rest).length:=by
  have z:=HT.Nj (w::rest).length 0 i.toNat
  have z2:((i.toNat:Nat):Int)=i:=by omega
  rw[z2] at z
  exact z
 rw[e,zyg] at h1
 omega
end
end L2
namespace uh
open PySem L2
section
variable {K:Frag}
def Sn.all:Sn->List Str
 | .c0 _=>[]
 | .mk x=>[x]
 | .nt s=>s.all
 | .b2 _ s t=>s.all++t.all
 | .q1 _ x s=>x::s.all
theorem Sn.ze4:∀(s:Sn) (x:Str),x∈s.all↔x∈s.letters\/∃t∈s.parts,x∈t.all
 | .c0 _,x=>by simp[Sn.all,Sn.letters,Sn.parts]
 | .mk y,x=>by simp[Sn.all,Sn.letters,Sn.parts]
 | .nt s,x=>by simp[Sn.all,Sn.letters,Sn.parts]
 | .b2 _ s t,x=>by simp[Sn.all,Sn.letters,Sn.parts]
 | .q1 _ y s,x=>by simp[Sn.all,Sn.letters,Sn.parts]
theorem Sn.WX {os:List Str}:∀(s:Sn),s.Ve os↔∀x∈s.all,x∈os
 | .c0 _=>by simp[Sn.all,Sn.Ve]
 | .mk y=>by simp[Sn.all,Sn.Ve]
 | .nt s=>by simp only[Sn.all,Sn.Ve];exact Sn.WX s
 | .b2 _ s t=>by
  simp only[Sn.all,Sn.Ve,List.mem_append]
  rw[Sn.WX s,Sn.WX t]
  exact⟨fun h x hx=>hx.elim (h.1 x) (h.2 x),fun h=>⟨fun x hx=>h x (.inl hx),fun x hx=>h x (.inr hx)⟩⟩
 | .q1 _ y s=>by
  simp only[Sn.all,Sn.Ve,List.mem_cons]
  rw[Sn.WX s]
  exact⟨fun h x hx=>hx.elim (fun e=>by rw[e];exact h.1) (h.2 x),fun h=>⟨h y (.inl rfl),fun x hx=>h x (.inr hx)⟩⟩
theorem Sn.K4:∀s:Sn,s.parts.length<=2
 | .c0 _=>by simp[Sn.parts]
 | .mk _=>by simp[Sn.parts]
 | .nt _=>by simp[Sn.parts]
 | .b2 _ _ _=>by simp[Sn.parts]
 | .q1 _ _ _=>by simp[Sn.parts]
theorem Sn.zb5:∀s:Sn,s.letters.length<=1
 | .c0 _=>by simp[Sn.letters]
 | .mk _=>by simp[Sn.letters]
 | .nt _=>by simp[Sn.letters]
 | .b2 _ _ _=>by simp[Sn.letters]
 | .q1 _ _ _=>by simp[Sn.letters]
def cnt (ss:List Sn):Nat:=(ss.map Sn.count).sum
theorem cnt_cons (s:Sn)(ss:List Sn):cnt (s::ss)=s.count+cnt ss:=rfl
theorem zny (ss ts:List Sn):cnt (ss++ts)=cnt ss+cnt ts:=by
 unfold cnt;rw[zyi,List.sum_append]
theorem Nr:∀ss:List Sn,cnt ss=ss.length+cnt (ss.flatMap Sn.parts)
 | []=>rfl
 | s::ss=>by
  rw[cnt_cons,List.flatMap_cons,zny,Nr ss,Sn.zaP s,zyg]
  show 1+cnt s.parts+_=_
  omega
theorem zjg (ss:List Sn):ss.length<=cnt ss:=by rw[Nr];omega
theorem zaf {ss:List Sn}{t:Sn}:t∈ss.flatMap Sn.parts↔∃s∈ss,t∈s.parts:=List.mem_flatMap
inductive T4 (vs:List V)(H:Hp)(Q:VK)(E9:XK):Prop
 | mk (x:Str) (_:vs=[.str x]) (_:Q (.bl (decide (x∈Yo))) H):T4 vs H Q E9
theorem zaS:zb3 T4:=fun vs H Q Q' E h ⟨x,e,q⟩=>⟨x,e,h _ _ q⟩
def ze5 (os:List Str):Bool:=decide (0<os.length)&&(os.all (fun x=>decide (x∈Yo))&&decide os.Nodup)
theorem znz {os:List Str}(h:ug os):ze5 os=true:=by
 unfold ze5
 rw[decide_eq_true h.pos,decide_eq_true h.nd,zyy.mpr fun x hx=>decide_eq_true (h.mem x hx)]
 rfl
inductive zag (K:Frag)(vs:List V)(H:Hp)(Q:VK)(E9:XK):Prop
 | mk (l:Addr) (os:List Str) (_:vs=[.ref l]) (_:zO K H l (os.map V.str)) (_:os.length<=100) (_:∀H',Same H H'->Q (.bl (ze5 os)) H'):zag K vs H Q E9
def Rp (n:Nat)(ns:List Int):Bool:=decide (ns.length=n)&&ns.all (fun i=>i==0||i==1)
inductive K5 (K:Frag)(vs:List V)(H:Hp)(Q:VK)(E9:XK):Prop
 | mk (l r:Addr) (xs:List V) (ns:List Int) (_:vs=[.ref l,.ref r]) (_:zO K H l xs) (_:zO K H r (ns.map V.int)) (_:ns.length<=1000) (_:∀H',Same H H'->Q (.bl (Rp xs.length ns)) H'):K5 K vs H Q E9
def wM:List (Str×Int×Int):=[("yes", 0,0),("no", 0,0),("mark", 1,0),("not", 0,1),("and", 0,2),("or", 0,2),("either", 0,2),("if", 0,2),("some", 1,1),("each", 1,1)]
theorem Yw (s:Sn):(s.word,((s.letters.length:Nat):Int),((s.parts.length:Nat):Int))∈wM:=by
 cases s with
 | c0 y =>
  cases y
  ·show((Str.ofString "no", (0:Int),(0:Int)):Str×Int×Int)∈wM
   decide +kernel
  ·show((Str.ofString "yes", (0:Int),(0:Int)):Str×Int×Int)∈wM
   decide +kernel
 | mk x =>
  show((Str.ofString "mark", (1:Int),(0:Int)):Str×Int×Int)∈wM
  decide +kernel
 | nt s =>
  show((Str.ofString "not", (0:Int),(1:Int)):Str×Int×Int)∈wM
  decide +kernel
 | b2 o s t =>
  show((w2 o,(0:Int),(2:Int)):Str×Int×Int)∈wM
  revert o
  decide +kernel
 | q1 o x s =>
  cases o
  ·show((Str.ofString "each", (1:Int),(1:Int)):Str×Int×Int)∈wM
   decide +kernel
  ·show((Str.ofString "some", (1:Int),(1:Int)):Str×Int×Int)∈wM
   decide +kernel
inductive Wg (vs:List V)(H:Hp)(Q:VK)(E9:XK):Prop
 | mk (p:Addr) (x:Str) (m n:Nat) (rest:List V) (_:vs=[.ref p]) (_:H p=some (.tup (.str x::rest))) (_:(x,(m:Int),(n:Int))∈wM) (_:rest.length=m+n) (_:∀q,H q=none->Q (.ref q) (upd H q (.tup (rest.take m)))):Wg vs H Q E9
inductive Xg (vs:List V)(H:Hp)(Q:VK)(E9:XK):Prop
 | mk (p:Addr) (x:Str) (m n:Nat) (rest:List V) (_:vs=[.ref p]) (_:H p=some (.tup (.str x::rest))) (_:(x,(m:Int),(n:Int))∈wM) (_:rest.length=m+n) (_:∀q,H q=none->Q (.ref q) (upd H q (.tup (rest.drop m)))):Xg vs H Q E9
theorem Nt {H:Hp}{s:Sn}{p:Addr}(h:TJ H s p):∃qs:List Addr,H p=some (.tup (.str s.word::(s.letters.map V.str++qs.map V.ref)))/\Paired (TJ H) s.parts qs /\
  (s.letters.map V.str++qs.map V.ref).length=s.letters.length+s.parts.length/\(s.letters.map V.str++qs.map V.ref).take s.letters.length=s.letters.map V.str/\(s.letters.map V.str++qs.map V.ref).drop s.letters.length=qs.map V.ref:=by
 obtain⟨qs,h1,h2⟩:=h.shape
 have l:=yK h2
 refine⟨qs,h1,h2,by simp[l],?_,?_⟩
 ·rw[List.take_append_of_le_length (by simp),List.take_of_length_le (by simp)]
 ·rw[List.drop_append_of_le_length (by simp),List.drop_of_length_le (by simp)]
  rfl
inductive WY (K:Frag)(vs:List V)(H:Hp)(Q:VK)(E9:XK):Prop
 | mk (l:Addr) (ss:List Sn) (ps:List Addr) (_:vs=[.ref l]) (_:zO K H l (ps.map V.ref)) (_:Paired (TJ H) ss ps) (_:ss.length<=400) (_:∀(l':Addr) (H':Hp) (ps':List Addr),Same H H'->H l'=none->H' l'=some (.lst (ps'.map V.ref))->Paired (TJ H') (ss.flatMap Sn.parts) ps'->Q (.ref l') H'):WY K vs H Q E9
inductive K6 (vs:List V)(H:Hp)(Q:VK)(E9:XK):Prop
 | mk (p:Addr) (s:Sn) (_:vs=[.ref p]) (_:TJ H s p) (_:(∀x∈s.letters,x∈Yo)) (_:∀H',Same H H'->Q (.bl true) H'):K6 vs H Q E9
theorem zgk:zb3 K6:=fun vs H Q Q' E h ⟨p,s,e,h1,h2,q⟩=>⟨p,s,e,h1,h2,fun H' g=>h _ _ (q H' g)⟩
abbrev VC (sn:Sn)(zs:List Addr):List V:=V.str sn.word::(sn.letters.map V.str++zs.map V.ref)
inductive ze6 (vs:List V)(H:Hp)(Q:VK)(E9:XK):Prop
 | mk (p:Addr) (s:Sn) (_:vs=[.ref p]) (_:TJ H s p) (_:s.Ve Yo) (_:s.count<=200) (_:s.depth<=24) (_:∀H',Same H H'->Q (.bl true) H'):ze6 vs H Q E9
inductive Qx (K:Frag)(vs:List V)(H:Hp)(Q:VK)(E9:XK):Prop
 | mk (l:Addr) (os:List Str) (_:vs=[.ref l]) (_:zO K H l (os.map V.str)) (_:ug os) (_:∀H',Same H H'->Q .non H'):Qx K vs H Q E9
inductive zah (vs:List V)(H:Hp)(Q:VK)(E9:XK):Prop
 | mk (p:Addr) (s:Sn) (_:vs=[.ref p]) (_:TJ H s p) (_:s.Ve Yo) (_:s.count<=200) (_:s.depth<=24) (_:∀H',Same H H'->Q .non H'):zah vs H Q E9
inductive Nu (K:Frag)(vs:List V)(H:Hp)(Q:VK)(E9:XK):Prop
 | mk (l r:Addr) (xs:List V) (ns:List Int) (_:vs=[.ref l,.ref r]) (_:zO K H l xs) (_:zO K H r (ns.map V.int)) (_:ns.length<=1000) (_:Rp xs.length ns=true) (_:∀H',Same H H'->Q .non H'):Nu K vs H Q E9
inductive Lq (vs:List V)(H:Hp)(Q:VK)(E9:XK):Prop
 | mk (p:Addr) (s:Sn) (_:vs=[.ref p]) (_:TJ H s p) (_:s.count<=400) (_:∀(l:Addr) (H':Hp) (ts:List Sn) (ps:List Addr),Same H H'->H l=none->H' l=some (.lst (ps.map V.ref))->Paired (TJ H') ts ps->ts.length=s.count->(∀x,(∃t∈ts,x∈t.letters)↔x∈s.all)->Q (.ref l) H'):Lq vs H Q E9
inductive Qy (vs:List V)(H:Hp)(Q:VK)(E9:XK):Prop
 | mk (p:Addr) (s:Sn) (_:vs=[.ref p]) (_:TJ H s p) (_:s.count<=400) (_:∀(l:Addr) (H':Hp) (xs:List Str),Same H H'->H l=none->H' l=some (.lst (xs.map V.str))->(∀x,x∈xs↔x∈s.all)->xs.length<=400->Q (.ref l) H'):Qy vs H Q E9
inductive Rq (K:Frag)(vs:List V)(H:Hp)(Q:VK)(E9:XK):Prop
 | mk (l:Addr) (x:Str) (os:List Str) (_:vs=[.ref l,.str x]) (_:zO K H l (os.map V.str)) (_:x∈os) (_:Q .non H):Rq K vs H Q E9
inductive Qz (K:Frag)(vs:List V)(H:Hp)(Q:VK)(E9:XK):Prop
 | mk (l p:Addr) (os:List Str) (s:Sn) (_:vs=[.ref l,.ref p]) (_:zO K H l (os.map V.str)) (_:TJ H s p) (_:s.count<=400) (_:s.Ve os) (_:∀H',Same H H'->Q .non H'):Qz K vs H Q E9
end
end uh
namespace L2
open PySem
section
variable {K:Frag}{a:Addr}{xs:List V}{σ:St}{js:List Nat}{te:TE}{H:Hp}{Qf:Addr->Hp->List V->Prop}
theorem znA (R:Nat->V->Prop)(hq:vL K H a xs)(hz:xs.length<=sizeLine)
  (hs:∀(i:Nat) x H',xs[i]?=some x->Same H H'->te (Wv σ js (some x)) H' fun v H3=>R i v/\Same H H3)
  (me:∀ σ H Q Q',(∀v H1,Q v H1->Q' v H1)->te σ H Q->te σ H Q')
  (hd:∀ys H' p,ys.length=xs.length->(∀(j:Nat) v,ys[j]?=some v->R j v)->Same H H'->H' p=none->Qf p H' ys) :
  ∃W:Nat->Nat->List V->Hp->Prop,(∃m,W 0 m [] H)/\∀i m ys H,W i m ys H ->
   ((Itt K a).stop i H/\∀p,H p=none->Qf p H ys) \/
   ((Itt K a).go i H/\ys.length<sizeLine/\∀x H',(Itt K a).JZ i H x H'->zdg (Wv σ js (some x)) H' fun b H2 =>
    if b=true then te (Wv σ js (some x)) H2 fun v H3=>∃m',m'<m/\W (i+1) m' (ys++[v]) H3 else ∃m',m'<m/\W (i+1) m' ys H2):=by
 refine zlq (fun i ys H'=>Same H H'/\ys.length=i/\∀(j:Nat) v,ys[j]?=some v->R j v) ⟨Same.refl _,rfl,fun j v h=>by simp at h⟩ hz ?_ ?_ (fun _ _ _ _ h q=>h _ _ q) me ?_
 ·rintro i ys H' hi ⟨g,e,r⟩
  exact⟨g.zq8 hq,by omega⟩
 ·rintro i x ys H' hx ⟨g,e,r⟩
  show te (Wv σ js (some x)) H' fun v H3=>Same H H3/\(ys++[v]).length=i+1/\∀(j:Nat) u,(ys++[v])[j]?=some u->R j u
  refine me _ _ _ _ (fun v H3 h3=>⟨h3.2,by rw[zyc,e];rfl,fun j u hj=>?_⟩) (hs i x H' hx g)
  by_cases hlt:j<ys.length
  ·rw[zyB hlt] at hj
   exact r j u hj
  ·rw[List.getElem?_append_right (by omega)] at hj
   have hj0:j-ys.length=0:=by
    have:=(zx7.mp hj).1
    rw[zyC] at this
    omega
   rw[hj0] at hj
   have ev:v=u:=zyz hj
   have ej:j=i:=by omega
   rw[<-ev,ej]
   exact h3.1
 ·rintro ys H' p ⟨g,e,r⟩ hp
  exact hd ys H' p e r g hp
theorem zq9 {sp:Sp}(m:zb3 sp):∀ σ H Q Q',(∀v H1,Q v H1->Q' v H1)->KJ sp [] E0 (KH (zbO 0) (KH (zbO 1) zf8)) σ H Q->KJ sp [] E0 (KH (zbO 0) (KH (zbO 1) zf8)) σ H Q' :=
 fun σ H Q Q' h ⟨v,e,u,e',q⟩=>⟨v,e,u,e',m _ _ _ _ _ h q⟩
theorem ne_str {x y:Str}(h:x≠y):¬decide (V.str x=V.str y)=true:=fun z=>h (by have:=of_decide_eq_true z;injection this)
theorem len1 {α:Type}{ys:List α}(h:ys.length=1):∃v,ys=[v]:=by
 match ys,h with
 | [v],_=>exact⟨v,rfl⟩
theorem len2 {α:Type}{ys:List α}(h:ys.length=2):∃v u,ys=[v,u]:=by
 match ys,h with
 | [v,u],_=>exact⟨v,u,rfl⟩
end
end L2
namespace uh
open PySem L2
section
variable {K:Frag}
def ix (os:List Str)(x:Str):Nat:=os.findIdx (·==x)
theorem vI:∀{os:List Str} {x:Str},x∈os->(os.map V.str).findIdx? (fun z=>eqV z (.str x))=some (ix os x)/\ix os x<os.length/\os[ix os x]?=some x
 | t::r,x,h=>by
  unfold ix
  rw[zyt,List.findIdx?_cons,List.findIdx_cons]
  show(if (t==x)=true then some 0 else _)=_/\_
  by_cases e:t=x
  ·subst e
   simp
  ·have hb:(t==x)=false:=by simpa using e
   have hr:x∈r:=by
    rcases List.mem_cons.mp h with z | z
    ·exact absurd z.symm e
    ·exact z
   obtain⟨h1,h2,h3⟩:=vI hr
   rw[hb,h1]
   unfold ix at h2 h3 ⊢
   refine⟨rfl,?_,?_⟩
   ·show(r.findIdx (·==x))+1<(t::r).length
    rw[zyg];omega
   ·show(t::r)[(r.findIdx (·==x))+1]?=some x
    rw[List.getElem?_cons_succ];exact h3
theorem ze7 {os:List Str}{x y:Str}(hx:x∈os)(hy:y∈os):ix os y=ix os x↔y=x:=by
 constructor
 ·intro e
  have h1:=(vI hx).2.2
  have h2:=(vI hy).2.2
  rw[e,h1] at h2
  exact(zyz h2).symm
 ·intro e;rw[e]
def wB (os:List Str)(b:Nat):Str->Bool:=fun x=>b.testBit (ix os x)
theorem zbu {os:List Str}{s:Sn}{x:Str}(hs:s.Ve os)(hx:x∈os)(b:Nat)(v:Bool):s.val (fun y=>if y=x then v else wB os b y)=s.val (wB os (zN b (ix os x) v)):=by
 refine Sn.val_congr s hs fun y hy=>?_
 show _=(zN b (ix os x) v).testBit (ix os y)
 rw[zT]
 by_cases e:y=x
 ·rw[if_pos e,if_pos ((ze7 hx hy).mpr e)]
 ·rw[if_neg e,if_neg (fun z=>e ((ze7 hx hy).mp z))]
  rfl
theorem xO (b p:Nat):zN b p (b.testBit p)=b:=by unfold zN;rw[if_pos rfl]
theorem zlH {os:List Str}{s:Sn}{x:Str}(hs:s.Ve os)(hx:x∈os)(b:Nat):(Sn.q1 true x s).val (wB os b)=(s.val (wB os b)||s.val (wB os (zN b (ix os x) (!b.testBit (ix os x))))):=by
 show(s.val (fun y=>if y=x then true else wB os b y)||s.val (fun y=>if y=x then false else wB os b y))=_
 rw[zbu hs hx,zbu hs hx]
 have z:=xO b (ix os x)
 cases hb:b.testBit (ix os x)
 ·rw[hb] at z;rw[z];exact Bool.or_comm _ _
 ·rw[hb] at z;rw[z];rfl
theorem zlI {os:List Str}{s:Sn}{x:Str}(hs:s.Ve os)(hx:x∈os)(b:Nat):(Sn.q1 false x s).val (wB os b)=(s.val (wB os b)&&s.val (wB os (zN b (ix os x) (!b.testBit (ix os x))))):=by
 show(s.val (fun y=>if y=x then true else wB os b y)&&s.val (fun y=>if y=x then false else wB os b y))=_
 rw[zbu hs hx,zbu hs hx]
 have z:=xO b (ix os x)
 cases hb:b.testBit (ix os x)
 ·rw[hb] at z;rw[z];exact Bool.and_comm _ _
 ·rw[hb] at z;rw[z];rfl
def TabOf (os:List Str)(s:Sn)(N:Nat):Prop:=zV os.length N (fun b=>s.val (wB os b))
theorem zoE:∀o,w2 o≠Str.ofString "no" := by decide +kernel
theorem zlJ:∀o,w2 o≠Str.ofString "yes" := by decide +kernel
theorem zjh:∀o,w2 o≠Str.ofString "mark" := by decide +kernel
theorem zlK:∀o,w2 o≠Str.ofString "not" := by decide +kernel
theorem zji:∀o,w2 o≠Str.ofString "some" := by decide +kernel
theorem zjj:∀o,w2 o≠Str.ofString "each" := by decide +kernel
theorem zpv (o:Fin 4):o=0\/o=1\/o=2\/o=3:=by
 match o with
 | 0=>exact .inl rfl
 | 1=>exact .inr (.inl rfl)
 | 2=>exact .inr (.inr (.inl rfl))
 | 3=>exact .inr (.inr (.inr rfl))
inductive zgl (vs:List V)(H:Hp)(Q:VK)(E9:XK):Prop
 | mk (o:Fin 4) (N M n:Nat) (f g:Nat->Bool) (_:vs=[.str (w2 o),.int N,.int M,.int ((2^2^n-1:Nat):Int)]) (_:zV n N f) (_:zV n M g) (_:∀R:Nat,zV n R (fun b=>Sn.op2 o (f b) (g b))->Q (.int R) H):zgl vs H Q E9
inductive Rr (K:Frag)(d:Nat)(vs:List V)(H:Hp)(Q:VK)(E9:XK):Prop
 | mk (p l:Addr) (s:Sn) (os:List Str) (_:vs=[.ref p,.ref l]) (_:TJ H s p) (_:zO K H l (os.map V.str)) (_:s.Ve os) (_:os.length<=8) (_:s.depth<=d) (_:∀(N:Nat) (H':Hp),Same H H'->TabOf os s N->Q (.int N) H'):Rr K d vs H Q E9
theorem zhX (d:Nat):zb3 (Rr K d):=fun vs H Q Q' E h ⟨p,l,s,os,e,h1,h2,h3,h4,h5,q⟩=>⟨p,l,s,os,e,h1,h2,h3,h4,h5,fun N H' g z=>h _ _ (q N H' g z)⟩
theorem zee (r:List Bool):zY r=(r.map fun b=>((b.toNat:Nat):Int)).map V.int:=by rw[zyG];rfl
theorem zb6 (r:List Bool){n:Nat}(h:r.length=n):Rp n (r.map fun b=>((b.toNat:Nat):Int))=true:=by
 unfold Rp
 rw[zx4,decide_eq_true h,List.all_map,Bool.true_and,zyy]
 intro b _
 cases b<;>rfl
end
end uh
namespace L2
open PySem
theorem zai {x a b:Str}(h1:x≠a)(h2:x≠b):¬(if false=true then !inV (.str x) [.str a,.str b] else inV (.str x) [.str a,.str b])=true:=by
 rw[if_neg zx8]
 have e:=K3 x [a,b]
 have e':inV (.str x) [.str a,.str b]=decide (x∈[a,b]):=e
 rw[e']
 intro z
 have:=of_decide_eq_true z
 simp at this
 rcases this with z | z
 ·exact h1 z
 ·exact h2 z
theorem ze8 {x a b:Str}(h:x=a\/x=b):(if false=true then !inV (.str x) [.str a,.str b] else inV (.str x) [.str a,.str b])=true:=by
 rw[if_neg zx8]
 have e:=K3 x [a,b]
 have e':inV (.str x) [.str a,.str b]=decide (x∈[a,b]):=e
 rw[e']
 refine decide_eq_true ?_
 simp
 exact h
end L2
namespace uh
open PySem L2
section
variable {K:Frag}
theorem zra:∀o:Bool,(if o then Str.ofString "some" else Str.ofString "each")≠Str.ofString "yes" /\ (if o then Str.ofString "some" else Str.ofString "each")≠Str.ofString "no" /\ (if o then Str.ofString "some" else Str.ofString "each")≠Str.ofString "mark" := by decide +kernel
theorem zjk {os:List Str}{s:Sn}{x:Str}{r:List Bool}(hs:s.Ve os)(hx:x∈os)(hl:r.length=os.length)(b:Bool):s.val (wB os (yj (r.set (ix os x) b)))=s.val (fun y=>if y=x then b else wB os (yj r) y):=by
 refine Sn.val_congr s hs fun y hy=>?_
 show(yj (r.set (ix os x) b)).testBit (ix os y)=if y=x then b else (yj r).testBit (ix os y)
 rw[Wd,Wd]
 by_cases e:y=x
 ·rw[if_pos e,e,List.getElem?_set_self (by rw[hl];exact(vI hx).2.1)]
  rfl
 ·rw[if_neg e,List.getElem?_set_ne (fun z=>e ((ze7 hx hy).mp z.symm))]
theorem zlL (r:List Bool)(i:Nat)(b:Bool):(zY r).set i (.int (b.toNat:Nat))=zY (r.set i b):=by
 unfold zY
 rw[List.map_set]
theorem znB {r:List Bool}{i:Nat}(h:i<r.length):(zY r)[i]?=some (.int (((r[i]?).getD false).toNat:Nat)):=by
 rw[zx6,zx5 h]
 rfl
inductive Nv (K:Frag)(d:Nat)(vs:List V)(H:Hp)(Q:VK)(E9:XK):Prop
 | mk (p l rl:Addr) (s:Sn) (os:List Str) (r:List Bool) (_:vs=[.ref p,.ref l,.ref rl]) (_:TJ H s p) (_:zO K H l (os.map V.str)) (_:zO K H rl (zY r)) (_:s.Ve os) (_:os.length<=8) (_:r.length=os.length) (_:s.depth<=d) (_:∀H',Same H H'->Q (.int ((s.val (wB os (yj r))).toNat:Nat)) H'):Nv K d vs H Q E9
inductive zjl (K:Frag)(vs:List V)(H:Hp)(Q:VK)(E9:XK):Prop
 | mk (a:Addr) (ns:List Int) (_:vs=[.ref a]) (_:zO K H a (ns.map V.int)) (_:ns.length<=63) (_:∀H',Q (.bl true) H'):zjl K vs H Q E9
end
end uh
namespace L2
open PySem PySem.Spec PyProof.Rows
theorem Mj {α:Type}{us:List α}(h:us.length=0):us=[]:=List.length_eq_zero_iff.mp h
theorem K7 {α:Type}{us:List α}{n:Nat}(h:us.length=n+1):∃a vs,us=a::vs/\vs.length=n:=by
 cases us with
 | nil=>cases h
 | cons a vs=>exact⟨a,vs,rfl,by simpa using h⟩
def zrb (N P:List Str)(sc:Scope):Bool:=(match sc.kind with | .function=>true | _=>false)&&!sc.isCoroutine&&!sc.isGenerator&&decide N.Nodup&&decide (N.take P.length=P)&&P.all (fun x=>decide (sc.names.lookup x=some .local\/sc.names.lookup x=some .cell))&&sc.names.all (fun y=>decide (y.2≠.free))
theorem fsc {N P:List Str}{sc:Scope}(h:zrb N P sc=true):zK N P sc:=by
 unfold zrb at h
 simp only[zyw,Bool.not_eq_true',decide_eq_true_eq,zyy] at h
 obtain⟨⟨⟨⟨⟨⟨h1,h2⟩,h3⟩,h4⟩,h5⟩,h6⟩,h7⟩:=h
 refine⟨?_,h2,h3,h4,h5,h6,h7⟩
 revert h1
 cases sc.kind<;>simp
structure Df (K:Frag)(mg:Str->Option Value)(x:Str)(st:Stmt)(f:Addr)(d:FuncData)(ps:List Str):Prop where
 F:Fun K x x st f d
 b:Binds K d ps []
 m:mg x=some (.ref f)
structure Dm (K:Frag)(C:Addr)(x q:Str)(st:Stmt)(f:Addr)(d:FuncData)(ps:List Str):Prop where
 F:Fun K x q st f d
 b:Binds K d ps []
 e:Meth K C x f
section
variable {K:Frag}{h:Heap}{mg:Str->Option Value}{x q:Str}{st:Stmt}{f C:Addr}{oc:Value}{od an:Option Addr}{osl:Array (Option Value)}{kV doc pm cdv ct:Value}{ps:List Str}
theorem dfm (X:K.In h)(G:h.Ns mainGlobals mg)(n:nsIn K mainGlobals x=some (some (.ref f)))(l:K.lookup f=some ⟨oc,od,.func (PySem.W.fnOf x x (Xw st) (uo st) (zx st) .none kV doc pm an cdv ct),osl⟩)
  (c:PySem.W.codeIn K cdv x=true)(k:PySem.W.keepIn K (.ref f)=true)
  (b:∀(kV doc pm:Value) (an:Option Addr) (cdv ct:Value) (us:List Value),us.length=ps.length->bindArgs (PySem.W.fnOf x x (Xw st) (uo st) (zx st) .none kV doc pm an cdv ct) ⟨us,[]⟩=pure (ps.zip us)) :
  Df K mg x st f (PySem.W.fnOf x x (Xw st) (uo st) (zx st) .none kV doc pm an cdv ct) ps:=⟨zeW l c k,(zeW l c k).binds b,mg_of X G n⟩
theorem dmm (n:findIn K (.ref C) x=some (some (.ref f)))(i:PySem.W.isFn K (.ref f)=true)(l:K.lookup f=some ⟨oc,od,.func (PySem.W.fnOf x q (Xw st) (uo st) (zx st) .none kV doc pm an cdv ct),osl⟩)
  (c:PySem.W.codeIn K cdv q=true)(k:PySem.W.keepIn K (.ref f)=true)
  (b:∀(kV doc pm:Value) (an:Option Addr) (cdv ct:Value) (us:List Value),us.length=ps.length->bindArgs (PySem.W.fnOf x q (Xw st) (uo st) (zx st) .none kV doc pm an cdv ct) ⟨us,[]⟩=pure (ps.zip us)) :
  Dm K C x q st f (PySem.W.fnOf x q (Xw st) (uo st) (zx st) .none kV doc pm an cdv ct) ps:=⟨zeW l c k,(zeW l c k).binds b,⟨n,i,k⟩⟩
theorem ze9 {p:Addr}{it:Array Value}{n:Nat}{od:Option Addr}{sl:Array (Option Value)}{xs:List V}(l:K.lookup p=some ⟨.type "tuple", od,.seq it n,sl⟩)(v:it.toList.map zdd=xs.map some)(h:xs.length<=1000):∀H,vL K H p xs:=fun H=>zoC l v h
end
section
variable {X:Cx}{CX:CXT}{k:Nat}{f C:Addr}{fd:FuncData}{ps:List Str}{sp:Sp}{st:Stmt}{x q m:Str}{p pos apos:Pos}{e o:Expr}{es:List Expr}{t:TA}{ta:TE}{E:XK}
theorem zp (F:zB X.prog X.w X.K X.mg X.base zX k f fd ps sp)(hr:tZ k X.A)(D:Df X.K X.mg x st f fd ps)(ha:PA X (e::es) t)(hg:Gl X x:=by rfl)(hdb:(x==("__debug__" : Str))=false:=by decide)(he:starEach (e::es) X.env=(false,eval e X.env)::starEach es X.env:=by rfl)(hpl:(backTo pos (starEach es X.env)).any (·.1)=false:=by rfl) :
  PE X (.Call (.Name x p) (e::es) [] pos) (KJ sp [] E0 t):=zi2 F hr hg D.m D.F.2 D.b .nil zi6 ha hdb he hpl
theorem Nx (hx:Passes CX X E)(F:zB X.prog X.w X.K X.mg X.base CX k f fd ps sp)(hr:tZ k X.A)(D:Df X.K X.mg x st f fd ps)(ha:PA X (e::es) t)(hg:Gl X x:=by rfl)(hdb:(x==("__debug__" : Str))=false:=by decide)(he:starEach (e::es) X.env=(false,eval e X.env)::starEach es X.env:=by rfl)(hpl:(backTo pos (starEach es X.env)).any (·.1)=false:=by rfl) :
  PE X (.Call (.Name x p) (e::es) [] pos) (KJ sp [] E t):=zi2 F hr hg D.m D.F.2 D.b .nil hx ha hdb he hpl
theorem vA {pl:Sem Bool}(he:PE X o ta)(c:Cls X.K C)(D:Dm X.K C m q st f fd ps)(F:zB X.prog X.w X.K X.mg X.base zX k f fd ps sp)(hr:tZ k X.A)(ha:PA X (e::es) t)
  (hst:starEach (e::es) X.env=(false,eval e X.env)::starEach es X.env:=by rfl)(hpl:(backTo pos (starEach es X.env)).any (·.1)=false:=by rfl)
  (ht:eval (.Call (.Attribute o m apos) (e::es) [] pos) X.env=(do
   let ov <-eval o X.env
   standAt apos.atName
   let (f,first) <-holding [ov] (getMethod ov m pl)
   callWith pos f first (backTo pos (starEach (e::es) X.env)) (backToKw pos (keywordEach [] X.env))):=by rfl) :
  PE X (.Call (.Attribute o m apos) (e::es) [] pos) (zi1 C m sp [] E0 ta t):=znc he c D.e F hr D.b .nil zi6 ha hst hpl ht
theorem u6 {pl:Sem Bool}(he:PE X o ta)(c:Cls X.K C)(D:Dm X.K C m q st f fd ps)(F:zB X.prog X.w X.K X.mg X.base zX k f fd ps sp)(hr:tZ k X.A)
  (ht:eval (.Call (.Attribute o m apos) [] [] pos) X.env=(do
   let ov <-eval o X.env
   standAt apos.atName
   let (f,first) <-holding [ov] (getMethod ov m pl)
   callWith pos f first (backTo pos (starEach [] X.env)) (backToKw pos (keywordEach [] X.env))):=by rfl) :
  PE X (.Call (.Attribute o m apos) [] [] pos) (zi1 C m sp [] E0 ta zf8):=zld he c D.e F hr D.b .nil zi6 ht
end
inductive Ent (K:Frag)(w:World):List DictEntry->List (Str×Int×Int)->List (Str×Value)->Prop
 | nil:Ent K w [] [] []
 | cons {k:Str} {tk:Tok} {p:Addr} {m n:Int} {od:Option Addr} {it:Array Value} {z:Nat} {sl:Array (Option Value)} {es:List DictEntry} {tb:List (Str×Int×Int)} {kvs:List (Str×Value)} (l:K.lookup p=some ⟨.type "tuple", od,.seq it z,sl⟩) (v:it.toList.map zdd=[V.int m,V.int n].map some) (t:Ent K w es tb kvs) :
   Ent K w (⟨hashStr w k,.str k tk,.ref p⟩::es) ((k,m,n)::tb) ((k,.ref p)::kvs)
structure Shp (K:Frag)(P:Program)(w:World)(a:Addr)(kvs:List (Str×Value))(tb:List (Str×Int×Int)):Prop where
 d:znq K P w a kvs
 y:∀k m n,(k,m,n)∈tb->∃p,valueAt kvs k=some (.ref p)/\∀H,vL K H p [.int m,.int n]
 z:∀k,(∀e∈tb,e.1≠k)->valueAt kvs k=none
theorem Ent.keys {K:Frag}{w:World}{es:List DictEntry}{tb:List (Str×Int×Int)}{kvs:List (Str×Value)}(h:Ent K w es tb kvs):kvs.map (·.1)=tb.map (·.1):=by
 induction h with
 | nil=>rfl
 | cons _ _ _ ih=>rw[zyt,zyt,ih]
theorem zpw {K:Frag}{P:Program}{w:World}{a:Addr}{es:Array DictEntry}{ep:Nat}{kvs:List (Str×Value)}{tb:List (Str×Int×Int)}(l:K.lookup a=some ⟨.type "dict", none,.dict es ep,#[]⟩)(s:(a==sysModules)=false)(nd:decide (tb.map (·.1)).Nodup=true)(h:Ent K w es.toList tb kvs):Shp K P w a kvs tb:=by
 have nk:(kvs.map (·.1)).Nodup:=by rw[h.keys];exact of_decide_eq_true nd
 obtain⟨el,hel⟩:∃el,es.toList=el:=⟨_,rfl⟩
 rw[hel] at h
 refine⟨znu l hel s ?_ nk,?_,?_⟩
 ·clear nd nk l s hel
  induction h with
  | nil=>exact zpt
  | cons _ _ _ ih=>exact znt ih
 ·clear nd l s hel
  induction h with
  | nil=>intro k m n hm;cases hm
  | @cons k0 tk p m0 n0 od it z sl es tb kvs l v t ih =>
   intro k m n hm
   rw[zyt,List.nodup_cons] at nk
   rcases List.mem_cons.mp hm with e | e
   ·cases e
    refine⟨p,?_,fun H=>zoC l v (by show 2<=1000;decide)⟩
    simp[valueAt]
   ·obtain⟨q,hq,sq⟩:=ih nk.2 k m n e
    refine⟨q,?_,sq⟩
    have ne:k0≠k:=fun z=>nk.1 (by rw[z,t.keys];exact List.mem_map.mpr ⟨_,e,rfl⟩)
    simp[valueAt,ne] at hq ⊢
    exact hq
 ·clear nd nk l s hel
  induction h with
  | nil=>intro k _;rfl
  | @cons k0 tk p m0 n0 od it z sl es tb kvs l v t ih =>
   intro k hk
   have ne:=hk (k0,m0,n0) (zyo ..)
   have:=ih k fun e he=>hk e (zyf _ he)
   simp[valueAt] at this ⊢
   exact⟨ne,this⟩
theorem zA {X:Cx}{pos:Pos}(i:Nat){x:Str}{e:Expr}{te:TE}{pos':Pos}(hN:X.N.Nodup)(he:PE X e te)(hi:X.N[i]?=some x:=by rfl)(hx:Loc X.env.scope x:=by exact Or.inl rfl)(hs:swapsWith e (some (.Name x pos')) pos.line X.env=pure false:=by rfl)(hf:X.fn x=true\/X.env.scope.names.lookup x=some .local:=by first | exact .inl rfl | exact .inr rfl | assumption) :
  PS X (.Assign [.Name x pos'] e pos) (zm6 te (WL i)):=Wt hN hi hx he hs hf
def lcB (ZP sc:Scope)(x:Str)(fv:List Str):Bool:=(match sc.kind with | .function=>true | _=>false)&&sc.names.all (fun y=>decide (y.2≠.cell))&&sc.names.all (fun y=>decide (y.2=.local->sc.names.lookup y.1=some .local))&&decide (sc.names.lookup x=some .local)&&sc.names.all (fun y=>decide (y.2=.free->ZP.names.lookup y.1=some .cell\/ZP.names.lookup y.1=some .free))&&fv.all (fun y=>decide (sc.names.lookup y=some .free/\(ZP.names.lookup y=some .cell\/ZP.names.lookup y=some .free)))&&decide (x::fv).Nodup
theorem lco {ZP sc:Scope}{x:Str}{fv:List Str}(h:lcB ZP sc x fv=true):WR ZP sc x fv:=by
 unfold lcB at h
 simp only[zyw,decide_eq_true_eq,zyy] at h
 obtain⟨⟨⟨⟨⟨⟨h1,h2⟩,h3⟩,h4⟩,h5⟩,h6⟩,h7⟩:=h
 refine⟨?_,h2,h3,h4,h5,h6,h7⟩
 revert h1
 cases sc.kind<;>simp
section
variable {κ:Type}[DecidableEq κ]
def ZR (kvs:List (κ×V))(k:κ):Option V:=(kvs.find? fun kv=>decide (kv.1=k)).map (·.2)
def putK (kvs:List (κ×V))(k:κ)(v:V):List (κ×V) :=
 if (kvs.any fun kv=>decide (kv.1=k))=true then kvs.map (fun kv=>if kv.1=k then (kv.1,v) else kv) else kvs++[(k,v)]
theorem Zb {p:κ×V}{r:List (κ×V)}{k:κ}(e:p.1=k):ZR (p::r) k=some p.2:=by simp[ZR,List.find?_cons,e]
theorem Zc {p:κ×V}{r:List (κ×V)}{k:κ}(e:¬p.1=k):ZR (p::r) k=ZR r k:=by simp[ZR,List.find?_cons,e]
theorem K8 (k:κ):∀kvs:List (κ×V),(kvs.any fun kv=>decide (kv.1=k))=(ZR kvs k).isSome
 | []=>rfl
 | p::r=>by
  rw[List.any_cons]
  by_cases e:p.1=k
  ·simp only[Zb e,decide_eq_true e,Bool.true_or,Option.isSome_some]
  ·rw[Zc e,decide_eq_false e,Bool.false_or];exact K8 k r
theorem zgn (k j:κ)(y:V):∀kvs:List (κ×V),ZR (kvs.map fun kv=>if kv.1=k then (kv.1,y) else kv) j=(ZR kvs j).map fun x=>if j=k then y else x
 | []=>rfl
 | p::r=>by
  have ih:=zgn k j y r
  rw[zyt]
  by_cases h:p.1=k
  ·rw[if_pos h]
   by_cases e:p.1=j
   ·rw[Zb (p:=(p.1,y)) e,Zb e,Option.map_some,if_pos (e.symm.trans h)]
   ·rw[Zc (p:=(p.1,y)) e,Zc e,ih]
  ·rw[if_neg h]
   by_cases e:p.1=j
   ·rw[Zb (p:=p) e,Zb e,Option.map_some,if_neg (fun z=>h (e.trans z))]
   ·rw[Zc (p:=p) e,Zc e,ih]
theorem zef (k j:κ)(y:V):∀kvs:List (κ×V),ZR kvs k=none->ZR (kvs++[(k,y)]) j=if j=k then some y else ZR kvs j
 | [],_=>by
  by_cases e:k=j
  ·rw[if_pos e.symm];exact Zb (p:=(k,y)) e
  ·rw[if_neg (fun z=>e z.symm)];exact Zc (p:=(k,y)) e
 | p::r,hn=>by
  rw[List.cons_append]
  have hk:¬p.1=k:=fun z=>by rw[Zb z] at hn;cases hn
  rw[Zc hk] at hn
  have ih:=zef k j y r hn
  by_cases e:p.1=j
  ·rw[Zb e,Zb e,if_neg (fun z=>hk (e.trans z))]
  ·rw[Zc e,Zc e,ih]
theorem wH (kvs:List (κ×V))(k j:κ)(y:V):ZR (putK kvs k y) j=if j=k then some y else ZR kvs j:=by
 unfold putK
 by_cases a:(kvs.any fun kv=>decide (kv.1=k))=true
 ·rw[if_pos a,zgn]
  rw[K8] at a
  by_cases e:j=k
  ·obtain⟨x,hx⟩:=Option.isSome_iff_exists.mp a
   rw[if_pos e,e,hx,Option.map_some,if_pos rfl]
  ·rw[if_neg e]
   cases ZR kvs j with
   | none=>rfl
   | some x=>rw[Option.map_some,if_neg e]
 ·rw[if_neg a]
  refine zef k j y kvs ?_
  rw[K8] at a
  cases q:ZR kvs k with
  | none=>rfl
  | some x=>rw[q] at a;exact(a rfl).elim
theorem Um (kvs:List (κ×V))(k:κ)(v:V):(putK kvs k v).length<=kvs.length+1:=by
 unfold putK
 split
 ·rw[zx4];omega
 ·rw[zyc,zyg,List.length_nil];omega
theorem Mg.zaj {o:Option V}{u:Option Value}(r:Mg o u):o.isSome=u.isSome:=by
 cases o with
 | none=>cases u with
  | none=>rfl
  | some _=>exact(show False from r).elim
 | some _=>cases u with
  | none=>exact(show False from r).elim
  | some _=>rfl
theorem KV.val {kvs:List (κ×V)}{vs:List (κ×Value)}(r:KV kvs vs)(k:κ):Mg (ZR kvs k) (valueAt vs k):=by
 unfold KV at r
 induction r with
 | nil=>exact True.intro
 | @cons p q ps qs h t ih =>
  obtain⟨h1,h2⟩:=h
  by_cases e:p.1=k
  ·have e':q.1=k:=h1.symm.trans e
   have b:valueAt (q::qs) k=some q.2:=by simp[valueAt,List.find?_cons,e']
   rw[Zb e,b];exact h2
  ·have e':¬q.1=k:=fun z=>e (h1.trans z)
   have b:valueAt (q::qs) k=valueAt qs k:=by simp[valueAt,List.find?_cons,e']
   rw[Zc e,b];exact ih
theorem KV.any {kvs:List (κ×V)}{vs:List (κ×Value)}(r:KV kvs vs)(k:κ):(kvs.any fun kv=>decide (kv.1=k))=vs.any fun kv=>decide (kv.1=k):=by
 unfold KV at r
 induction r with
 | nil=>rfl
 | cons h t ih=>rw[List.any_cons,List.any_cons,ih,h.1]
theorem KV.repl {kvs:List (κ×V)}{vs:List (κ×Value)}(r:KV kvs vs)(k:κ){y:V}{u:Value}(ry:RelV y u) :
  KV (kvs.map fun kv=>if kv.1=k then (kv.1,y) else kv) (vs.map fun kv=>if kv.1=k then (kv.1,u) else kv):=by
 unfold KV at r ⊢
 induction r with
 | nil=>exact .nil
 | @cons p q ps qs h t ih =>
  rw[zyt,zyt]
  refine .cons ?_ ih
  obtain⟨h1,h2⟩:=h
  by_cases e:p.1=k
  ·rw[if_pos e,if_pos (h1.symm.trans e)];exact⟨h1,ry⟩
  ·rw[if_neg e,if_neg (fun z=>e (h1.trans z))];exact⟨h1,h2⟩
theorem KV.put {kvs:List (κ×V)}{vs:List (κ×Value)}(r:KV kvs vs)(k:κ){y:V}{u:Value}(ry:RelV y u):KV (putK kvs k y) (stored vs k u):=by
 unfold putK stored
 rw[r.any k]
 by_cases e:(vs.any fun kv=>decide (kv.1=k))=true
 ·rw[if_pos e,if_pos e];exact r.repl k ry
 ·rw[if_neg e,if_neg e];exact Paired.snoc r ⟨rfl,ry⟩
theorem KV.length {kvs:List (κ×V)}{vs:List (κ×Value)}(r:KV kvs vs):kvs.length=vs.length:=Paired.length r
end
theorem zeg {P:Program}{w:World}{k:Key}{u:Value}(r:RelV (kV k) u):(wY P w).is k u=true:=by
 cases k with
 | inl i=>obtain⟨t,e⟩:=(show ∃t,u=Value.int i t from r);subst e;exact zf2 P w i t
 | inr x=>obtain⟨t,e⟩:=(show ∃t,u=Value.str x t from r);subst e;exact zf3 P w x t
theorem zeh {P:Program}{w:World}:∀{ks:List Key} {us:List Value},Vals (ks.map kV) us->ItemsAre (wY P w) ks us
 | [],_,r=>by rw[List.map_nil] at r;cases r;exact .nil
 | k::ks,_,r=>by
  rw[zyt] at r
  cases r with
  | cons h t=>exact .cons (zeg h) (zeh t)
abbrev KT (H:Hp):List (List Key×V)->List (List Key×Addr×Value)->Prop:=Paired fun p q=>p.1=q.1/\H q.2.1=some (.tup (p.1.map kV))/\RelV p.2 q.2.2
theorem KT.val {H:Hp}{kvs:List (List Key×V)}{xs:List (List Key×Addr×Value)}(r:KT H kvs xs)(k:List Key):Mg (ZR kvs k) ((atKey xs k).map (·.2)):=by
 induction r with
 | nil=>exact True.intro
 | @cons p q ps qs h t ih =>
  obtain⟨h1,_,h2⟩:=h
  by_cases e:p.1=k
  ·have e':q.1=k:=h1.symm.trans e
   have b:atKey (q::qs) k=some q.2:=by simp[atKey,List.find?_cons,e']
   rw[Zb e,b];exact h2
  ·have e':¬q.1=k:=fun z=>e (h1.trans z)
   have b:atKey (q::qs) k=atKey qs k:=by simp[atKey,List.find?_cons,e']
   rw[Zc e,b];exact ih
theorem KT.repl {H:Hp}{kvs:List (List Key×V)}{xs:List (List Key×Addr×Value)}(r:KT H kvs xs)(k:List Key){y:V}{u:Value}(ry:RelV y u) :
  KT H (kvs.map fun kv=>if kv.1=k then (kv.1,y) else kv) (xs.map (putAt k u)):=by
 induction r with
 | nil=>exact .nil
 | @cons p q ps qs h t ih =>
  rw[zyt,zyt]
  refine .cons ?_ ih
  obtain⟨h1,h2,h3⟩:=h
  unfold putAt
  by_cases e:p.1=k
  ·rw[if_pos e,if_pos (h1.symm.trans e)];exact⟨h1,h2,ry⟩
  ·rw[if_neg e,if_neg (fun z=>e (h1.trans z))];exact⟨h1,h2,h3⟩
theorem KT.put {H:Hp}{kvs:List (List Key×V)}{xs:List (List Key×Addr×Value)}(r:KT H kvs xs)(k:List Key){b:Addr}{y:V}{u:Value}(hb:H b=some (.tup (k.map kV)))(ry:RelV y u) :
  KT H (putK kvs k y) (storedH xs k b u):=by
 have e:(kvs.any fun kv=>decide (kv.1=k))=(atKey xs k).isSome:=by
  rw[K8,(r.val k).zaj,Option.isSome_map]
 unfold putK storedH
 rw[e]
 by_cases q:(atKey xs k).isSome=true
 ·rw[if_pos q,if_pos q];exact r.repl k ry
 ·rw[if_neg q,if_neg q];exact Paired.snoc r ⟨rfl,hb,ry⟩
theorem KT.keeps {H H':Hp}{kvs:List (List Key×V)}{xs:List (List Key×Addr×Value)}(r:KT H kvs xs)(ht:∀b ys,H b=some (.tup ys)->H' b=some (.tup ys)):KT H' kvs xs :=
 Paired.zoY r fun _ _ z=>⟨z.1,ht _ _ z.2.1,z.2.2⟩
section
variable {P:Program}{w:World}{H:Hp}{h:Heap}{a:Addr}
theorem zoF {u:HO}(ok:Qd P w H h)(e:Rd H a u):wU P w H h a u:=e.ok ok
theorem zjm {kvs:List (Key×V)}(ok:Qd P w H h)(e:Rd H a (.dK kvs)):kvs.length<=sizeLine/\(a==sysModules)=false/\∃vs,KV kvs vs/\h.DictOf (wY P w) a vs :=
 show wU P w H h a (.dK kvs) from zoF ok e
theorem zoG {kvs:List (Key×V)}(ok:Qd P w H h)(e:H a=some (.dK kvs)):kvs.length<=sizeLine/\(a==sysModules)=false/\∃vs,KV kvs vs/\h.DictOf (wY P w) a vs:=zjm ok (.inl e)
theorem zfa {ks:List Key}(ok:Qd P w H h)(e:H a=some (.tup (ks.map kV))):(tupleKind (wY P w)).is h ks a:=by
 obtain⟨_,its,r,o,h1,h2,n,h3⟩:=(show wU P w H h a (.tup (ks.map kV)) from ok a _ e)
 exact⟨o,its.toArray,n,h1,h2,h3,by simpa using zeh r⟩
theorem zjn {kvs:List (List Key×V)}(ok:Qd P w H h)(e:Rd H a (.dT kvs)):kvs.length<=sizeLine/\(a==sysModules)=false /\
  ∃xs,KT H kvs xs/\h.DictOfH (tupleKind (wY P w)) a xs:=by
 obtain⟨z,y,xs,r,o,es,ep,h1,h2,h3,h4,h5⟩:=(show wU P w H h a (.dT kvs) from zoF ok e)
 refine⟨z,y,xs,r,o,es,ep,h1,h2,h3,h4,fun x hx=>?_,h5⟩
 have all:∀{l:List (List Key×V)} {m:List (List Key×Addr×Value)},KT H l m->∀x∈m,(tupleKind (wY P w)).is h x.1 x.2.1:=by
  intro l m q
  induction q with
  | nil=>intro x hx;exact nomatch hx
  | @cons p q ps qs hq t ih =>
   intro x hx
   rcases List.mem_cons.mp hx with e | hx
   ·subst e
    exact zfa ok (by rw[<-hq.1];exact hq.2.1)
   ·exact ih x hx
 exact all r x hx
theorem zrc {kvs:List (List Key×V)}(ok:Qd P w H h)(e:H a=some (.dT kvs)):kvs.length<=sizeLine/\(a==sysModules)=false /\
  ∃xs,KT H kvs xs/\h.DictOfH (tupleKind (wY P w)) a xs:=zjn ok (.inl e)
end
def za8 (H:Hp)(a:Addr)(y:V)(r:Option V):Prop :=
 (∃kvs k,Rd H a (.dK kvs)/\y=kV k/\r=ZR kvs k)\/∃kvs k b,Rd H a (.dT kvs)/\y=.ref b/\H b=some (.tup (k.map kV))/\r=ZR kvs k
def zkg (H:Hp)(a:Addr)(y v:V)(H':Hp):Prop :=
 (∃kvs k,H a=some (.dK kvs)/\y=kV k/\kvs.length<sizeLine/\H'=upd H a (.dK (putK kvs k v))) \/
 ∃kvs k b,H a=some (.dT kvs)/\y=.ref b/\H b=some (.tup (k.map kV))/\kvs.length<sizeLine/\H'=upd H a (.dT (putK kvs k v))
theorem za8.k {H:Hp}{a:Addr}{kvs:List (Key×V)}{k:Key}(e:H a=some (.dK kvs)):za8 H a (kV k) (ZR kvs k):=.inl ⟨kvs,k,.inl e,rfl,rfl⟩
theorem zkg.k {H:Hp}{a:Addr}{kvs:List (Key×V)}{k:Key}{v:V}(e:H a=some (.dK kvs))(hl:kvs.length<sizeLine):zkg H a (kV k) v (upd H a (.dK (putK kvs k v))):=.inl ⟨kvs,k,e,rfl,hl,rfl⟩
section
variable {X:Cx}{pins:List (Addr×Obj)}{σ:St}{H:Hp}{s:Shared}{a:Addr}{y v:V}{u r:Value}{o:Option V}{A:Around}{E:Value->Shared->Prop}
theorem Inv.big (I:Inv X pins σ H s):sysModules<s.heap.objs.size:=by
 have h:mainGlobals<s.heap.objs.size:=(I.mod.glob.keeps I.bk).lt
 exact Nat.lt_trans (by decide) h
theorem zkh {Q:Value->Shared->Prop}(hu:A.units+1<cLine)(I:Inv X pins σ H s)(g:za8 H a y (some v))(ry:RelV y u)(h:∀w' s',Inv X pins σ H s'->RelV v w'->Q w' s') :
  wpAny (model X.prog X.w) A (getItem (.ref a) u) Q E s:=by
 rcases g with ⟨kvs,k,e,ey,l⟩ | ⟨kvs,k,b,e,ey,eb,l⟩
 ·subst ey
  obtain⟨z,hd,vs,rel,dd⟩:=zjm I.hok e
  obtain⟨w',hw,rw'⟩:=Mg.some_of (v:=v) (o:=valueAt vs k) (by rw[l];exact rel.val k)
  exact wpAny_getItem_of (zeg ry) dd.mapOf hw (h w' _ (I.tok _) rw')
 ·subst ey
  cases (show u=Value.ref b from ry)
  obtain⟨z,hd,xs,rel,dd⟩:=zjn I.hok e
  obtain⟨w',hw,rw'⟩:=Mg.some_of (v:=v) (o:=(atKey xs k).map (·.2)) (by rw[l];exact rel.val k)
  obtain⟨p,hp,hp2⟩:=Option.map_eq_some_iff.mp hw
  refine wpAny_getItem_heap (tupleKind_room_in1 hu) (zfa I.hok eb) dd hp ?_
  rw[hp2]
  exact h w' _ (I.tok _) rw'
theorem znC {Q:Value->Shared->Prop}(hu:A.units+1<cLine)(I:Inv X pins σ H s)(g:za8 H a y o)(ry:RelV y u)(h:∀s',Inv X pins σ H s'->Q (.bool (!o.isSome)) s') :
  wpAny (model X.prog X.w) A (compareOp .NotIn u (.ref a)) Q E s:=by
 rcases g with ⟨kvs,k,e,ey,l⟩ | ⟨kvs,k,b,e,ey,eb,l⟩
 ·subst ey
  obtain⟨z,hd,vs,rel,dd⟩:=zjm I.hok e
  refine wpAny_notIn_of (zeg ry) hd dd.mapOf ?_
  rw[<-(rel.val k).zaj,<-l]
  exact h _ (I.tok _)
 ·subst ey
  cases (show u=Value.ref b from ry)
  obtain⟨z,hd,xs,rel,dd⟩:=zjn I.hok e
  refine wpAny_notIn_heap (tupleKind_room_in1 hu) (zfa I.hok eb) hd dd ?_
  have q:=(rel.val k).zaj
  rw[Option.isSome_map] at q
  rw[<-q,<-l]
  exact h _ (I.tok _)
theorem zfb {h':Heap}{t':Nat}{ob:HO}(I:Inv X pins σ H s)(mu:Mut (H a))(hs:Heap.SameBut a s.heap h')(he:∃q,h'.get? a=some q)(new:wU X.prog X.w (upd H a ob) h' a ob) :
  Inv X pins σ (upd H a ob) { s with heap:=h',toks:=t' } :=
 I.write (x:=a) (e:=a) mu (.inl rfl) (fun b q hb z=>(hs.2 b hb).trans z) he new
theorem zhY {P:Program}{w:World}{H':Hp}{h':Heap}{kvs:List (Key×V)}{vs:List (Key×Value)}(z:kvs.length<=sizeLine)(hd:(a==sysModules)=false)(rel:KV kvs vs)(dd:h'.DictOf (wY P w) a vs) :
  wU P w H' h' a (.dK kvs):=⟨z,hd,vs,rel,dd⟩
theorem zki {H':Hp}{Q:Unit->Shared->Prop}(hu:A.units+1<cLine)(I:Inv X pins σ H s)(g:zkg H a y v H')(ry:RelV y u)(rv:RelV v r)(h:∀s',Inv X pins σ H' s'->Q () s') :
  wpAny (model X.prog X.w) A (setItem (.ref a) u r) Q E s:=by
 rcases g with ⟨kvs,k,e,ey,l,eH⟩ | ⟨kvs,k,b,e,ey,eb,l,eH⟩
 ·subst ey eH
  obtain⟨z,hd,vs,rel,dd⟩:=zoG I.hok e
  have hz:vs.length<=sizeLine:=by rw[<-rel.length];exact z
  have hl:(putK kvs k v).length<=sizeLine:=by have:=Um kvs k v;omega
  refine wpAny_setItem_pairs (hsz:=hz) (zeg ry) dd fun h' dd' hs=>h _ ?_
  have he:∃q,h'.get? a=some q:=let ⟨q,_,_,hq,_⟩:=dd';⟨q,hq⟩
  exact zfb I (by rw[e];exact True.intro) hs he (zhY hl hd (rel.put k rv) dd')
 ·subst ey eH
  cases (show u=Value.ref b from ry)
  obtain⟨z,hd,xs,rel,dd⟩:=zrc I.hok e
  have hz:xs.length<=sizeLine:=by rw[<-Paired.length rel];exact z
  have hl:(putK kvs k v).length<=sizeLine:=by have:=Um kvs k v;omega
  refine wpAny_setItem_heap (hsz:=hz) (tupleKind_room_in1 hu) (zfa I.hok eb) dd fun h' dd' hs=>h _ ?_
  obtain⟨q,es,ep,hq,h2,h3,h4,_,h5⟩:=dd'
  refine zfb I (by rw[e];exact True.intro) hs ⟨q,hq⟩ ⟨hl,hd,_,(rel.put k eb rv).keeps fun c ys ec=>?_,q,es,ep,hq,h2,h3,h4,h5⟩
  rw[zG (Qq ec e (fun z=>nomatch z))]
  exact ec
end
def zrd (i:Expr):Prop:=∀ov iv,subscripted i false ov iv=operate [ov,iv] (getItem ov iv)
theorem znD {prog:Program}{w:World}{A:Around}{E:Value->Shared->Prop}{s:Shared}{env:Env}{value slice:Expr}{pos:Pos}{T id:String}{Q:Value->Shared->Prop}
  (hl:typeLookup (.type T) "__getitem__"=pure (some (.builtin id)))(hs:zrd slice)
  (h:wpAny (model prog w) A (eval value env) (fun o s₁=>wpAny (model prog w) A (eval slice env) (fun i s₂=>s₂.TypeIs o T/\wpAny (model prog w) A (getItem o i) Q E s₂) E s₁) E s) :
  wpAny (model prog w) A (eval (.Subscript value slice pos) env) Q E s:=by
 refine Subscript_ (wpAny_mono h (fun o s₁ h₁=>wpAny_mono h₁ (fun i s₂ h₂=>?_) fun _ _ x=>x) fun _ _ x=>x)
 obtain⟨hT,h₂⟩:=h₂
 unfold subscriptTail
 refine wpAny_bind ?_
 rw[getitemInPython_of_ne hT.not_modules]
 refine wpAny_bind (wpAny_specialOf hT hl ?_)
 have fin:wpAny (model prog w) A (subscripted slice false o i) (fun r s₃=>wpAny (model prog w) A (letTemporaryGo value o r>>=fun _=>pure r) Q E s₃) E s₂:=by
  rw[hs o i]
  exact wpAny_operating (wpAny_mono h₂ (fun r s₃ h₃=>wpAny_bind (wpAny_letTemporaryGo (wpAny_pure h₃))) fun _ _ x=>x)
 first
  | exact wpAny_pure (wpAny_bind fin)
  | exact wpAny_bind (wpAny_pure (wpAny_bind fin))
  | exact wpAny_bind fin
theorem zgo {X:Cx}{pins:List (Addr×Obj)}{σ:St}{H:Hp}{s:Shared}{a:Addr}{y:V}{o:Option V}(I:Inv X pins σ H s)(g:za8 H a y o):s.TypeIs (.ref a) "dict" := by
 rcases g with ⟨kvs,k,e,_,_⟩ | ⟨kvs,k,b,e,_,_,_⟩
 ·obtain⟨_,_,vs,_,dd⟩:=zjm I.hok e
  exact dd.typeIs
 ·obtain⟨_,_,xs,_,dd⟩:=zjn I.hok e
  exact dd.typeIs
def zre (td ty:TE):TE:=fun σ H Q=>td σ H fun x H1=>ty σ H1 fun y H2=>∃a v,x=.ref a/\za8 H2 a y (some v)/\Q v H2
def znE (ty td:TE):TE:=fun σ H Q=>ty σ H fun y H1=>td σ H1 fun x H2=>∃a o,x=.ref a/\za8 H2 a y o/\Q (.bl (!o.isSome)) H2
def zrf (td ty tv:TE):TS:=fun D σ H=>tv σ H fun v H1=>td σ H1 fun x H2=>ty σ H2 fun y H3=>∃a H4,x=.ref a/\zkg H3 a y v H4/\D.nx σ H4
section
variable {X:Cx}{o i e value:Expr}{pos pos' tpos:Pos}{td ty tv:TE}
theorem zfc (hu:X.A.units+1<cLine)(ho:PE X o td)(hi:PE X i ty)(hs:zrd i):PE X (.Subscript o i pos) (zre td ty):=by
 intro pins s σ H Q I h
 refine znD PySem.F.slot_dict_getitem.lookup hs (vJ (ho pins s σ H _ I h) fun u s1 ⟨x,H1,I1,rx,q1⟩=>vJ (hi pins s1 σ H1 _ I1 q1) fun iv s2 ⟨y,H2,I2,ry,a,v,ex,g,q2⟩=>?_)
 subst ex
 obtain rfl:u=Value.ref a:=rx
 exact⟨zgo I2 g,zkh hu I2 g ry fun w' s3 I3 rw'=>⟨v,H2,I3,rw',q2⟩⟩
theorem zkj (hu:X.A.units+1<cLine)(hi:PE X i ty)(ho:PE X o td):PC X .NotIn i o (znE ty td):=by
 intro pins s σ H Q I h
 refine vJ (hi pins s σ H _ I h) fun iv s1 ⟨y,H1,I1,ry,q1⟩=>vJ (ho pins s1 σ H1 _ I1 q1) fun u s2 ⟨x,H2,I2,rx,a,ov,ex,g,q2⟩=>?_
 subst ex
 obtain rfl:u=Value.ref a:=rx
 exact znC hu I2 g ry fun s3 I3=>⟨.bl (!ov.isSome),H2,I3,rfl,q2⟩
theorem zjo (hu:X.A.units+1<cLine)(ho:PE X o td)(hi:PE X i ty)(hv:PE X value tv)(hs:swapsWith value (some (.Subscript o i pos')) pos.line X.env=pure false) :
  PS X (.Assign [.Subscript o i pos'] value pos) (zrf td ty tv):=by
 intro pins s σ H D I h
 refine wpAny_Assign_Subscript (vJ (hv pins s σ H _ I h) fun r s1 ⟨v,H1,I1,rv,q1⟩=>vJ (ho pins s1 σ H1 _ I1 q1) fun u s2 ⟨x,H2,I2,rx,q2⟩=>vJ (hi pins s2 σ H2 _ I2 q2) fun iv s3 ⟨y,H3,I3,ry,a,H4,ex,g,q3⟩=>?_) hs
 subst ex
 obtain rfl:u=Value.ref a:=rx
 exact zki hu I3 g ry rv fun s4 I4=>⟨σ,H4,I4,q3⟩
end
theorem zlM {P:Program}{w:World}{H:Hp}(h:Heap)(hb:sysModules<h.objs.size):wU P w H (h.push { cls:=.type "dict", data:=.dict #[] }) h.objs.size (.dK []) :=
 ⟨zyr _,beq_eq_false_iff_ne.mpr (Ne.symm (zyj hb)),[],.nil,Heap.DictOf.new h⟩
def zhZ:List (TE×TE)->St->Hp->(List (V×V)->Hp->Prop)->Prop
 | [],_,H,Q=>Q [] H
 | (tk,tv)::r,σ,H,Q=>tk σ H fun x H1=>tv σ H1 fun y H2=>zhZ r σ H2 fun ps H3=>Q ((x,y)::ps) H3
abbrev VV:List (V×V)->List (Value×Value)->Prop:=Paired fun p q=>RelV p.1 q.1/\RelV p.2 q.2
def PPs (X:Cx)(pos:Pos)(keys:List (Option Expr))(values:List Expr)(trs:List (TE×TE)):Prop :=
 ∀(pins:List (Addr×Obj)) (s:Shared) (σ:St) (H:Hp) (Q:List (V×V)->Hp->Prop),Inv X pins σ H s->zhZ trs σ H Q ->
  wpAny (model X.prog X.w) X.A (evalPairs (pairTrees keys values X.env pos)) (fun vs s'=>∃ps H',Inv X pins σ H' s'/\VV ps vs/\Q ps H') X.xe s
theorem zjp {X:Cx}{pos:Pos}:PPs X pos [] [] []:=fun pins s σ H Q I h=>pairTrees_nil_walk ⟨[],H,I,.nil,h⟩
theorem T5 {X:Cx}{pos:Pos}{k v:Expr}{ks:List (Option Expr)}{vs:List Expr}{tk tv:TE}{trs:List (TE×TE)}(hk:PE X k tk)(hv:PE X v tv)(hr:PPs X pos ks vs trs) :
  PPs X pos (some k::ks) (v::vs) ((tk,tv)::trs):=fun pins s σ H Q I h =>
 pairTrees_cons_walk (vJ (hk pins s σ H _ I h) fun u s1 ⟨x,H1,I1,rx,q1⟩=>vJ (hv pins s1 σ H1 _ I1 q1) fun w2 s2 ⟨y,H2,I2,ry,q2⟩ =>
  vJ (hr pins s2 σ H2 _ I2 q2) fun ws s3 ⟨ps,H3,I3,rel,q3⟩=>⟨(x,y)::ps,H3,I3,.cons ⟨rx,ry⟩ rel,q3⟩)
def vB (kvs more:List (Key×V)):List (Key×V):=more.foldl (fun acc kv=>putK acc kv.1 kv.2) kvs
theorem KV.merge:∀{more:List (Key×V)} {rs:List (Key×Value)} {kvs:List (Key×V)} {vs:List (Key×Value)},KV more rs->KV kvs vs->KV (vB kvs more) (merged vs rs):=by
 intro more rs kvs vs r
 unfold KV at r
 induction r generalizing kvs vs with
 | nil=>intro q;exact q
 | @cons p q ps qs h t ih =>
  intro r0
  have e:KV (putK kvs p.1 p.2) (stored vs q.1 q.2):=by
   have:=r0.put p.1 h.2
   rw[<-h.1];exact this
  exact ih e
theorem Xz:∀(more kvs:List (Key×V)),(vB kvs more).length<=kvs.length+more.length
 | [],kvs=>by show kvs.length<=kvs.length+0;omega
 | p::r,kvs=>by
  have h1:=Xz r (putK kvs p.1 p.2)
  have h2:=Um kvs p.1 p.2
  show(vB (putK kvs p.1 p.2) r).length<=_
  rw[zyg];omega
theorem zb7 {P:Program}{w:World}:∀{kvs:List (Key×V)} {ws:List (Value×Value)},VV (kvs.map fun kv=>(kV kv.1,kv.2)) ws->∃rs,Carries (wY P w) ws rs/\KV kvs rs
 | [],_,r=>by rw[List.map_nil] at r;cases r;exact⟨[],True.intro,.nil⟩
 | p::kvs,_,r=>by
  rw[zyt] at r
  cases r with
  | @cons a b as bs h t =>
   obtain⟨rs,c,q⟩:=zb7 (P:=P) (w:=w) t
   obtain⟨b1,b2⟩:=b
   exact⟨(p.1,b2)::rs,⟨zeg h.1,rfl,c⟩,.cons ⟨rfl,h.2⟩ q⟩
def zrg (trs:List (TE×TE)):TE:=fun σ H Q=>∀p,H p=none->zhZ trs σ (upd H p (.dK [])) fun ps H2=>H2 p=some (.dK [])/\∃kvs:List (Key×V),ps=kvs.map (fun kv=>(kV kv.1,kv.2))/\kvs.length<=15/\Q (.ref p) (upd H2 p (.dK (vB [] kvs)))
theorem zjq {X:Cx}{pos:Pos}{keys:List (Option Expr)}{values:List Expr}{trs:List (TE×TE)}(h:PPs X pos keys values trs)(hall:keys.all (·.isSome)=true)(hl:keys.length=values.length)(h0:keys≠[])
  (h15:keys.length<=15):PE X (.Dict keys values pos) (zrg trs):=by
 intro pins s σ H Q I q
 have hn:=I.hok.fresh (zyk s.heap.objs.size)
 have I1:=I.laid (a:=s.heap.objs.size) (o:=.dK []) (h':=s.heap.push { cls:=.type "dict", data:=.dict #[] }) (t':=s.toks) (fun _ _ q=>zya _ q) (zyk _) (zlM s.heap I.big)
 refine wpAny_Dict_walk (knd:=wY X.prog X.w) hall hl h0 h15 (vJ (h pins _ σ _ _ I1 (q _ hn)) fun ws s2 ⟨ps,H2,I2,rel,e,kvs,ep,lk,q2⟩=>?_)
 subst ep
 obtain⟨rs,c,rk⟩:=zb7 (P:=X.prog) (w:=X.w) rel
 obtain⟨z,hd,vs0,r0,dd⟩:=zoG I2.hok e
 cases r0
 refine⟨rs,c,dd,fun h' dd' hs=>⟨.ref s.heap.objs.size,_,?_,rfl,q2⟩⟩
 have hz:(vB [] kvs).length<=sizeLine:=by
  have h1:=Xz kvs []
  rw[List.length_nil] at h1
  rw[sizeLine_eq];omega
 have he:∃q,h'.get? s.heap.objs.size=some q:=let ⟨q,_,_,hq,_⟩:=dd';⟨q,hq⟩
 exact zfb I2 (by rw[e];exact True.intro) hs he (zhY hz hd (rk.merge .nil) dd')
inductive Ks (K:Frag)(H:Hp):Nat->V->V->Bool->Prop
 | flat {n:Nat} {x y:V} (fx:uf x=true) (fy:uf y=true):Ks K H n x y (eqV x y)
 | tt {n:Nat} {p q:Addr} {xs ys:List V} {e:Nat->Bool} (hp:vL K H p xs) (hq:vL K H q ys) (h:∀(j:Nat) x y,xs[j]?=some x->ys[j]?=some y->Ks K H n x y (e j)) :
   Ks K H (n+1) (.ref p) (.ref q) ((List.range (min xs.length ys.length)).all e&&xs.length==ys.length)
 | ll {n:Nat} {p q:Addr} {xs ys:List V} {e:Nat->Bool} (hp:zO K H p xs) (hq:zO K H q ys) (hl:xs.length=ys.length) (h:∀(j:Nat) x y,xs[j]?=some x->ys[j]?=some y->Ks K H n x y (e j)) :
   Ks K H (n+1) (.ref p) (.ref q) ((List.range xs.length).all e)
 | ln {n:Nat} {p q:Addr} {xs ys:List V} (hp:zO K H p xs) (hq:zO K H q ys) (hl:xs.length≠ys.length):Ks K H (n+1) (.ref p) (.ref q) false
 | lt {n:Nat} {p q:Addr} {xs ys:List V} (hp:zO K H p xs) (hq:vL K H q ys):Ks K H (n+1) (.ref p) (.ref q) false
 | tl {n:Nat} {p q:Addr} {xs ys:List V} (hp:vL K H p xs) (hq:zO K H q ys):Ks K H (n+1) (.ref p) (.ref q) false
 | lf {n:Nat} {p:Addr} {xs:List V} {y:V} (hp:zO K H p xs) (fy:uf y=true):Ks K H (n+1) (.ref p) y false
 | fl {n:Nat} {p:Addr} {xs:List V} {y:V} (hp:zO K H p xs) (fy:uf y=true):Ks K H (n+1) y (.ref p) false
 | tf {n:Nat} {p:Addr} {xs:List V} {y:V} (hp:vL K H p xs) (fy:uf y=true):Ks K H (n+1) (.ref p) y false
 | ft {n:Nat} {p:Addr} {xs:List V} {y:V} (hp:vL K H p xs) (fy:uf y=true):Ks K H (n+1) y (.ref p) false
section
variable {X:Cx}{pins:List (Addr×Obj)}{σ:St}{H:Hp}{s:Shared}
theorem zb8 {x:V}(f:uf x=true):eqV x x=true:=by
 cases x<;>first | rfl | (simp[eqV];done) | exact absurd (show false=true from f) zx8
theorem QB (I:Inv X pins σ H s){p:Addr}{xs ys:List V}(h:zO X.K H p xs)(k:vL X.K H p ys):False:=by
 obtain⟨_,_,⟨o,n,e,c,_⟩,_⟩:=I.list h
 obtain⟨_,_,⟨o',e',c',_⟩,_⟩:=I.tuple k
 rw[e] at e'
 cases e'
 rw[c] at c'
 injection c' with z
 exact absurd z (by decide)
theorem Ks.refl (I:Inv X pins σ H s){n:Nat}{x y:V}{b:Bool}(h:Ks X.K H n x y b):x=y->b=true:=by
 induction h with
 | flat fx fy=>intro e;subst e;exact zb8 fx
 | tt hp hq h ih =>
  intro e
  cases e
  have ee:=I.zdS hp hq
  subst ee
  rw[Nat.min_self,beq_self_eq_true,Bool.and_true,zyy]
  intro j hj
  have hj':=List.mem_range.mp hj
  exact ih j _ _ (zx5 hj') (zx5 hj') rfl
 | ll hp hq hl h ih =>
  intro e
  cases e
  have ee:=I.Vo hp hq
  subst ee
  rw[zyy]
  intro j hj
  have hj':=List.mem_range.mp hj
  exact ih j _ _ (zx5 hj') (zx5 hj') rfl
 | ln hp hq hl =>
  intro e
  cases e
  exact absurd (congrArg List.length (I.Vo hp hq)) hl
 | lt hp hq=>intro e;cases e;exact(QB I hp hq).elim
 | tl hp hq=>intro e;cases e;exact(QB I hq hp).elim
 | lf hp fy=>intro e;subst e;exact absurd (show false=true from fy) zx8
 | fl hp fy=>intro e;subst e;exact absurd (show false=true from fy) zx8
 | tf hp fy=>intro e;subst e;exact absurd (show false=true from fy) zx8
 | ft hp fy=>intro e;subst e;exact absurd (show false=true from fy) zx8
theorem Nz {A:Around}{u:Value}{y:V}{p:Addr}{its:Array Value}(hl:s.heap.IsList p its)(fy:uf y=true)(ry:RelV y u)(hu:A.units<cLine):SeqAt.RcAt A s (.ref p) u false/\SeqAt.EqAt A s (.ref p) u false/\SeqAt.RcAt A s u (.ref p) false/\SeqAt.EqAt A s u (.ref p) false/\SeqAt.RcNeAt A s (.ref p) u true/\SeqAt.RcNeAt A s u (.ref p) true:=by
 cases y with
 | non=>cases ry;exact⟨.list_none hl hu,.list_none hl hu,.none_list hl hu,.none_list hl hu,.list_none hl hu,.none_list hl hu⟩
 | bl b=>cases ry;exact⟨.list_bool b hl hu,.list_bool b hl hu,.bool_list b hl hu,.bool_list b hl hu,.list_bool b hl hu,.bool_list b hl hu⟩
 | int i=>obtain⟨t,rfl⟩:=ry;exact⟨.list_int i t hl hu,.list_int i t hl hu,.int_list i t hl hu,.int_list i t hl hu,.list_int i t hl hu,.int_list i t hl hu⟩
 | str i=>obtain⟨t,rfl⟩:=ry;exact⟨.list_str i t hl hu,.list_str i t hl hu,.str_list i t hl hu,.str_list i t hl hu,.list_str i t hl hu,.str_list i t hl hu⟩
 | _=>exact absurd (show false=true from fy) zx8
theorem Rt {A:Around}{u:Value}{y:V}{p:Addr}{its:Array Value}(hl:s.heap.IsTuple p its)(fy:uf y=true)(ry:RelV y u)(hu:A.units<cLine):SeqAt.RcAt A s (.ref p) u false/\SeqAt.EqAt A s (.ref p) u false/\SeqAt.RcAt A s u (.ref p) false/\SeqAt.EqAt A s u (.ref p) false/\SeqAt.RcNeAt A s (.ref p) u true/\SeqAt.RcNeAt A s u (.ref p) true:=by
 cases y with
 | non=>cases ry;exact⟨.tuple_none hl hu,.tuple_none hl hu,.none_tuple hl hu,.none_tuple hl hu,.tuple_none hl hu,.none_tuple hl hu⟩
 | bl b=>cases ry;exact⟨.tuple_bool b hl hu,.tuple_bool b hl hu,.bool_tuple b hl hu,.bool_tuple b hl hu,.tuple_bool b hl hu,.bool_tuple b hl hu⟩
 | int i=>obtain⟨t,rfl⟩:=ry;exact⟨.tuple_int i t hl hu,.tuple_int i t hl hu,.int_tuple i t hl hu,.int_tuple i t hl hu,.tuple_int i t hl hu,.int_tuple i t hl hu⟩
 | str i=>obtain⟨t,rfl⟩:=ry;exact⟨.tuple_str i t hl hu,.tuple_str i t hl hu,.str_tuple i t hl hu,.str_tuple i t hl hu,.tuple_str i t hl hu,.str_tuple i t hl hu⟩
 | _=>exact absurd (show false=true from fy) zx8
theorem item_at {xs:List V}{us:List Value}(r:Vals xs us){j:Nat}(h:j<us.toArray.size):∃x,xs[j]?=some x/\RelV x us.toArray[j]:=by
 have hl:=r.length
 have hj:j<xs.length:=by simp at h;omega
 obtain⟨u,hu,ru⟩:=r.get (zx5 hj)
 refine⟨xs[j],zx5 hj,?_⟩
 have e:us.toArray[j]=u:=by
  have:=(zx7.mp hu).2
  simpa using this
 rw[e];exact ru
theorem Ks.at {n:Nat}{x y:V}{b:Bool}(h:Ks X.K H n x y b)(I:Inv X pins σ H s):∀{A:Around} {u v:Value},RelV x u->RelV y v->A.units+n<cLine->SeqAt.EqAt A s u v b:=by
 induction h with
 | flat fx fy=>intro A u v rx ry _;exact zlg rx ry fx fy
 | @tt n p q xs ys e hp hq h ih =>
  intro A u v rx ry hu
  cases rx
  cases ry
  obtain⟨us,r1,t1,_⟩:=I.tuple hp
  obtain⟨ws,r2,t2,_⟩:=I.tuple hq
  have l1:=r1.length
  have l2:=r2.length
  by_cases hne:p=q
  ·subst hne
   have z:=(Ks.tt hp hq h).refl I rfl
   rw[z]
   exact SeqAt.EqAt.same _
  ·refine SeqAt.EqAt.of_refs hne ?_
   have z:=SeqAt.RcAt.tuples (A:=A) (e:=e) t1 t2 (by omega) fun j h1 h2=>by
    obtain⟨x,hx,rx⟩:=item_at r1 h1
    obtain⟨y,hy,ry⟩:=item_at r2 h2
    exact ih j x y hx hy rx ry (by show A.units+1+n<cLine;omega)
   rw[zye,zye,<-l1,<-l2] at z
   exact z
 | @ll n p q xs ys e hp hq hl h ih =>
  intro A u v rx ry hu
  cases rx
  cases ry
  obtain⟨us,r1,t1,_⟩:=I.list hp
  obtain⟨ws,r2,t2,_⟩:=I.list hq
  have l1:=r1.length
  have l2:=r2.length
  by_cases hne:p=q
  ·subst hne
   have z:=(Ks.ll hp hq hl h).refl I rfl
   rw[z]
   exact SeqAt.EqAt.same _
  ·refine SeqAt.EqAt.of_refs hne ?_
   have z:=SeqAt.RcAt.lists (A:=A) (e:=e) t1.isList t2.isList (by simp;omega) (by omega) fun j h1 h2=>by
    obtain⟨x,hx,rx⟩:=item_at r1 h1
    obtain⟨y,hy,ry⟩:=item_at r2 h2
    exact ih j x y hx hy rx ry (by show A.units+1+n<cLine;omega)
   rw[zye,<-l1] at z
   exact z
 | @ln n p q xs ys hp hq hl =>
  intro A u v rx ry hu
  cases rx
  cases ry
  obtain⟨us,r1,t1,_⟩:=I.list hp
  obtain⟨ws,r2,t2,_⟩:=I.list hq
  have l1:=r1.length
  have l2:=r2.length
  have hne:p≠q:=fun e=>by subst e;exact hl (congrArg List.length (I.Vo hp hq))
  exact SeqAt.EqAt.of_refs hne (SeqAt.RcAt.lists_lengths t1.isList t2.isList (by simp;omega) (by omega))
 | lt hp hq =>
  intro A u v rx ry hu
  cases rx
  cases ry
  obtain⟨us,r1,t1,_⟩:=I.list hp
  obtain⟨ws,r2,t2,_⟩:=I.tuple hq
  exact SeqAt.EqAt.list_tuple t1.isList t2 (by omega)
 | tl hp hq =>
  intro A u v rx ry hu
  cases rx
  cases ry
  obtain⟨us,r1,t1,_⟩:=I.tuple hp
  obtain⟨ws,r2,t2,_⟩:=I.list hq
  exact SeqAt.EqAt.tuple_list t1 t2.isList (by omega)
 | lf hp fy =>
  intro A u v rx ry hu
  cases rx
  obtain⟨us,r1,t1,_⟩:=I.list hp
  exact(Nz t1.isList fy ry (by omega)).2.1
 | fl hp fy =>
  intro A u v rx ry hu
  cases ry
  obtain⟨us,r1,t1,_⟩:=I.list hp
  exact(Nz t1.isList fy rx (by omega)).2.2.2.1
 | tf hp fy =>
  intro A u v rx ry hu
  cases rx
  obtain⟨us,r1,t1,_⟩:=I.tuple hp
  exact(Rt t1 fy ry (by omega)).2.1
 | ft hp fy =>
  intro A u v rx ry hu
  cases ry
  obtain⟨us,r1,t1,_⟩:=I.tuple hp
  exact(Rt t1 fy rx (by omega)).2.2.2.1
theorem Ks.rc {n:Nat}{x y:V}{b:Bool}(h:Ks X.K H n x y b)(I:Inv X pins σ H s)(hn:¬(uf x=true/\uf y=true)){A:Around}{u v:Value}(rx:RelV x u)(ry:RelV y v)(hu:A.units+n<cLine):SeqAt.RcAt A s u v b/\SeqAt.RcNeAt A s u v (!b):=by
 cases h with
 | flat fx fy=>exact absurd ⟨fx,fy⟩ hn
 | @tt n p q xs ys e hp hq h =>
  cases rx
  cases ry
  obtain⟨us,r1,t1,_⟩:=I.tuple hp
  obtain⟨ws,r2,t2,_⟩:=I.tuple hq
  have l1:=r1.length
  have l2:=r2.length
  have he:∀j (h1:j<us.toArray.size) (h2:j<ws.toArray.size),SeqAt.EqAt A.in1 s us.toArray[j] ws.toArray[j] (e j):=fun j h1 h2=>by
   obtain⟨x,hx,rx⟩:=item_at r1 h1
   obtain⟨y,hy,ry⟩:=item_at r2 h2
   exact(h j x y hx hy).at I rx ry (by show A.units+1+n<cLine;omega)
  have z:=SeqAt.RcAt.tuples (A:=A) (e:=e) t1 t2 (by omega) he
  have z2:=SeqAt.RcNeAt.tuples (A:=A) (e:=e) t1 t2 (by omega) he
  rw[zye,zye,<-l1,<-l2] at z z2
  exact⟨z,z2⟩
 | @ll n p q xs ys e hp hq hl h =>
  cases rx
  cases ry
  obtain⟨us,r1,t1,_⟩:=I.list hp
  obtain⟨ws,r2,t2,_⟩:=I.list hq
  have l1:=r1.length
  have l2:=r2.length
  have he:∀j (h1:j<us.toArray.size) (h2:j<ws.toArray.size),SeqAt.EqAt A.in1 s us.toArray[j] ws.toArray[j] (e j):=fun j h1 h2=>by
   obtain⟨x,hx,rx⟩:=item_at r1 h1
   obtain⟨y,hy,ry⟩:=item_at r2 h2
   exact(h j x y hx hy).at I rx ry (by show A.units+1+n<cLine;omega)
  have z:=SeqAt.RcAt.lists (A:=A) (e:=e) t1.isList t2.isList (by simp;omega) (by omega) he
  have z2:=SeqAt.RcNeAt.lists (A:=A) (e:=e) t1.isList t2.isList (by simp;omega) (by omega) he
  rw[zye,<-l1] at z z2
  exact⟨z,z2⟩
 | @ln n p q xs ys hp hq hl =>
  cases rx
  cases ry
  obtain⟨us,r1,t1,_⟩:=I.list hp
  obtain⟨ws,r2,t2,_⟩:=I.list hq
  have l1:=r1.length
  have l2:=r2.length
  exact⟨SeqAt.RcAt.lists_lengths t1.isList t2.isList (by simp;omega) (by omega),SeqAt.RcNeAt.lists_lengths t1.isList t2.isList (by simp;omega) (by omega)⟩
 | lt hp hq =>
  cases rx
  cases ry
  obtain⟨us,r1,t1,_⟩:=I.list hp
  obtain⟨ws,r2,t2,_⟩:=I.tuple hq
  exact⟨SeqAt.RcAt.list_tuple t1.isList t2 (by omega),SeqAt.RcNeAt.list_tuple t1.isList t2 (by omega)⟩
 | tl hp hq =>
  cases rx
  cases ry
  obtain⟨us,r1,t1,_⟩:=I.tuple hp
  obtain⟨ws,r2,t2,_⟩:=I.list hq
  exact⟨SeqAt.RcAt.tuple_list t1 t2.isList (by omega),SeqAt.RcNeAt.tuple_list t1 t2.isList (by omega)⟩
 | lf hp fy =>
  cases rx
  obtain⟨us,r1,t1,_⟩:=I.list hp
  have z:=Nz (A:=A) t1.isList fy ry (by omega)
  exact⟨z.1,z.2.2.2.2.1⟩
 | fl hp fy =>
  cases ry
  obtain⟨us,r1,t1,_⟩:=I.list hp
  have z:=Nz (A:=A) t1.isList fy rx (by omega)
  exact⟨z.2.2.1,z.2.2.2.2.2⟩
 | tf hp fy =>
  cases rx
  obtain⟨us,r1,t1,_⟩:=I.tuple hp
  have z:=Rt (A:=A) t1 fy ry (by omega)
  exact⟨z.1,z.2.2.2.2.1⟩
 | ft hp fy =>
  cases ry
  obtain⟨us,r1,t1,_⟩:=I.tuple hp
  have z:=Rt (A:=A) t1 fy rx (by omega)
  exact⟨z.2.2.1,z.2.2.2.2.2⟩
end
section
variable {X:Cx}
theorem zpx {K:Frag}(hK:X.K=K)(hu:X.A.units+8<cLine):Qe X (compareOp .Eq) (fun x y H Q=>∃b,¬(uf x=true/\uf y=true)/\Ks K H 8 x y b/\Q (.bl b) H):=by
 subst hK
 intro pins s σ H x y v u Q I rx ry h
 obtain⟨b,hn,he,q⟩:=h
 exact(he.rc I hn rx ry hu).1 X.prog X.w X.xe _ ⟨.bl b,H,I,rfl,q⟩
theorem zpy {K:Frag}(hK:X.K=K)(hu:X.A.units+8<cLine):Qe X (compareOp .NotEq) (fun x y H Q=>∃b,¬(uf x=true/\uf y=true)/\Ks K H 8 x y b/\Q (.bl (!b)) H):=by
 subst hK
 intro pins s σ H x y v u Q I rx ry h
 obtain⟨b,hn,he,q⟩:=h
 exact(he.rc I hn rx ry hu).2 X.prog X.w X.xe _ ⟨.bl (!b),H,I,rfl,q⟩
theorem hu8 {A:Around}{k:Nat}(hr:tZ k A):A.units+8<cLine:=by have:=hr.units;omega
theorem zpz {K:Frag}{H:Hp}{x:V}{n:Nat}{e:V->Bool}:∀{xs:List V} {us:List Value},Vals xs us->(∀y∈xs,Ks K H n y x (e y))->∃f:Value->Bool,(∀(i:Nat) y u,xs[i]?=some y->us[i]?=some u->f u=e y)/\us.any f=xs.any e:=by
 intro xs us r h
 refine⟨fun u=>match zdd u with | some y=>e y | none=>false,fun i y u hy hu=>?_,?_⟩
 ·obtain⟨u',hu',ru⟩:=r.get hy
  rw[hu] at hu'
  cases hu'
  show(match zdd u with | some y=>e y | none=>false)=e y
  rw[ru.abs]
 ·clear h
  induction r with
  | nil=>rfl
  | cons r t ih =>
   rw[List.any_cons,List.any_cons,ih]
   congr 1
   show(match zdd _ with | some y=>e y | none=>false)=_
   rw[r.abs]
theorem zgp:∀{xs:List V} {us:List Value},xs.length=us.length->(∀(j:Nat) u,us[j]?=some u->∃x,xs[j]?=some x/\RelV x u)->Vals xs us
 | [],[],_,_=>.nil
 | [],_::_,h,_=>by simp at h
 | _::_,[],h,_=>by simp at h
 | x::xs,u::us,hl,h=>by
  obtain⟨x',e,r⟩:=h 0 u rfl
  cases e
  refine .cons r (zgp (by simpa using hl) fun j v hv=>?_)
  obtain⟨y,e,r⟩:=h (j+1) v (by simpa using hv)
  exact⟨y,by simpa using e,r⟩
end
end L2
namespace xV
abbrev Rm:=Option (Nat×Nat×Nat)
def Mv (n:Nat)(rs:List Rm)(k:Nat):Nat:=match rs[k]? with
 | some (some (i,_,_))=>i
 | _=>n
structure Bk (n:Nat)(rs:List Rm):Prop where
 h0:rs[0]?=some none
 h1:rs[1]?=some none
 rm:∀k,2<=k->k<rs.length->∃i lo hi,rs[k]?=some (some (i,lo,hi))/\i<n/\lo<k/\hi<k/\lo≠hi/\i<Mv n rs lo/\i<Mv n rs hi
 uq:∀(k l:Nat) (x:Nat×Nat×Nat),rs[k]?=some (some x)->rs[l]?=some (some x)->k=l
abbrev Row:=Nat->Bool
def put (r:Row)(i:Nat)(v:Bool):Row:=fun j=>if j=i then v else r j
def lead (rs:List Rm)(r:Row):Nat->Nat->Nat
 | 0,k=>k
 | f+1,k=>match rs[k]? with
  | some (some (i,lo,hi))=>lead rs r f (if r i then hi else lo)
  | _=>k
theorem zei {n:Nat}{rs:List Rm}(B:Bk n rs)(r:Row):∀(f g k:Nat),k<=f->k<=g->k<rs.length->lead rs r f k=lead rs r g k
 | 0,0,k,_,_,_=>rfl
 | 0,g+1,k,h,_,_=>by
  have e:k=0:=by omega
  subst e
  show 0=lead rs r (g+1) 0
  unfold lead
  rw[B.h0]
 | f+1,0,k,_,h,_=>by
  have e:k=0:=by omega
  subst e
  show lead rs r (f+1) 0=0
  unfold lead
  rw[B.h0]
 | f+1,g+1,k,hf,hg,hk=>by
  by_cases h2:2<=k
  ·obtain⟨i,lo,hi,e,_,hlo,hhi,_⟩:=B.rm k h2 hk
   unfold lead
   rw[e]
   show lead rs r f (if r i then hi else lo)=lead rs r g (if r i then hi else lo)
   refine zei B r f g _ ?_ ?_ ?_<;>(split<;>omega)
  ·have:k=0\/k=1:=by omega
   rcases this with e | e<;>subst e<;>unfold lead
   ·rw[B.h0]
   ·rw[B.h1]
def yes (rs:List Rm)(k:Nat)(r:Row):Bool:=lead rs r k k==1
section
variable {n:Nat}{rs:List Rm}(B:Bk n rs)
include B
theorem len2:2<=rs.length:=by
 have:=(zx7.mp B.h1).1
 omega
theorem zlN (r:Row):yes rs 0 r=false:=rfl
theorem NK (r:Row):yes rs 1 r=true:=by
 unfold yes lead
 rw[B.h1]
 rfl
theorem zkk {k i lo hi:Nat}(e:rs[k]?=some (some (i,lo,hi)))(r:Row):lead rs r k k=lead rs r (if r i then hi else lo) (if r i then hi else lo):=by
 have hk:=(zx7.mp e).1
 have k2:2<=k:=by
  by_cases h:2<=k
  ·exact h
  ·exfalso
   have:k=0\/k=1:=by omega
   rcases this with z | z<;>subst z
   ·rw[B.h0] at e;cases e
   ·rw[B.h1] at e;cases e
 obtain⟨i',lo',hi',e',_,hlo,hhi,_⟩:=B.rm k k2 hk
 rw[e] at e'
 cases e'
 obtain⟨m,rfl⟩:∃m,k=m+1:=⟨k-1,by omega⟩
 show(match rs[m+1]? with | some (some (i,lo,hi))=>lead rs r m (if r i then hi else lo) | _=>m+1)=_
 rw[e]
 show lead rs r m (if r i then hi else lo)=_
 refine zei B r _ _ _ ?_ (zyk _) ?_<;>(split<;>omega)
theorem QC {k i lo hi:Nat}(e:rs[k]?=some (some (i,lo,hi)))(r:Row):yes rs k r=if r i then yes rs hi r else yes rs lo r:=by
 unfold yes
 rw[zkk B e r]
 split<;>rfl
theorem QD {k i lo hi:Nat}(e:rs[k]?=some (some (i,lo,hi))):Mv n rs k=i:=by unfold Mv;rw[e]
theorem zh0:Mv n rs 0=n:=by unfold Mv;rw[B.h0]
theorem zfd:Mv n rs 1=n:=by unfold Mv;rw[B.h1]
theorem T6:∀(m k:Nat),k<=m->k<rs.length->∀{r r':Row},(∀i,Mv n rs k<=i->i<n->r i=r' i)->yes rs k r=yes rs k r'
 | m,k,hm,hk,r,r',h=>by
  by_cases h2:2<=k
  ·obtain⟨i,lo,hi,e,hin,hlo,hhi,_,l1,l2⟩:=B.rm k h2 hk
   have lk:=QD B e
   rw[QC B e,QC B e,h i (by omega) hin]
   match m,hm with
   | 0,hm=>omega
   | m+1,hm =>
    rw[T6 m hi (by omega) (by omega) fun j hj hjn=>h j (by omega) hjn,T6 m lo (by omega) (by omega) fun j hj hjn=>h j (by omega) hjn]
  ·have:k=0\/k=1:=by omega
   rcases this with z | z<;>subst z
   ·rfl
   ·rw[NK B,NK B]
theorem Yx {k i:Nat}(hk:k<rs.length)(h:i<Mv n rs k)(r:Row)(v:Bool):yes rs k (put r i v)=yes rs k r:=by
 refine T6 B k k (zyk _) hk fun j hj _=>?_
 unfold put
 rw[if_neg (by omega)]
theorem Ru {k i lo hi:Nat}(e:rs[k]?=some (some (i,lo,hi)))(hk:k<rs.length)(r:Row):yes rs k (put r i false)=yes rs lo r/\yes rs k (put r i true)=yes rs hi r:=by
 have k2:2<=k:=by
  by_cases h:2<=k
  ·exact h
  ·exfalso
   have:k=0\/k=1:=by omega
   rcases this with z | z<;>subst z
   ·rw[B.h0] at e;cases e
   ·rw[B.h1] at e;cases e
 obtain⟨i',lo',hi',e',_,hlo,hhi,_,l1,l2⟩:=B.rm k k2 hk
 rw[e] at e'
 cases e'
 constructor
 ·rw[QC B e]
  have z:put r i false i=false:=by unfold put;rw[if_pos rfl]
  rw[z,if_neg zx8]
  exact Yx B (by omega) l1 r false
 ·rw[QC B e]
  have z:put r i true i=true:=by unfold put;rw[if_pos rfl]
  rw[z,if_pos rfl]
  exact Yx B (by omega) l2 r true
theorem Wh:∀(m k l:Nat),(k<=m/\l<=m)->k<rs.length->l<rs.length->(∀r,yes rs k r=yes rs l r)->k=l
 | m,k,l,hm,hk,hl,h=>by
  by_cases k2:2<=k
  ·obtain⟨i,lo,hi,e,hin,hlo,hhi,hne,l1,l2⟩:=B.rm k k2 hk
   by_cases l2':2<=l
   ·obtain⟨j,lo',hi',e',hjn,hlo',hhi',hne',l1',l2''⟩:=B.rm l l2' hl
    match m,hm with
    | 0,hm=>omega
    | m+1,hm =>
     rcases Nat.lt_trichotomy i j with q | q | q
     ·exfalso
      refine hne (Wh m lo hi (by omega) (by omega) (by omega) fun r=>?_)
      have z:=Ru B e hk r
      rw[<-z.1,<-z.2,h,h,Yx B hl (by rw[QD B e'];exact q),Yx B hl (by rw[QD B e'];exact q)]
     ·subst q
      have a1:lo=lo':=Wh m lo lo' (by omega) (by omega) (by omega) fun r=>by rw[<-(Ru B e hk r).1,<-(Ru B e' hl r).1,h]
      have a2:hi=hi':=Wh m hi hi' (by omega) (by omega) (by omega) fun r=>by rw[<-(Ru B e hk r).2,<-(Ru B e' hl r).2,h]
      subst a1 a2
      exact B.uq k l _ e e'
     ·exfalso
      refine hne' (Wh m lo' hi' (by omega) (by omega) (by omega) fun r=>?_)
      have z:=Ru B e' hl r
      rw[<-z.1,<-z.2,<-h,<-h,Yx B hk (by rw[QD B e];exact q),Yx B hk (by rw[QD B e];exact q)]
   ·exfalso
    match m,hm with
    | 0,hm=>omega
    | m+1,hm =>
     have ll:Mv n rs l=n:=by
      have:l=0\/l=1:=by omega
      rcases this with z | z<;>subst z
      ·exact zh0 B
      ·exact zfd B
     refine hne (Wh m lo hi (by omega) (by omega) (by omega) fun r=>?_)
     have z:=Ru B e hk r
     rw[<-z.1,<-z.2,h,h,Yx B hl (by omega),Yx B hl (by omega)]
  ·by_cases l2':2<=l
   ·exfalso
    obtain⟨j,lo',hi',e',hjn,hlo',hhi',hne',l1',l2''⟩:=B.rm l l2' hl
    match m,hm with
    | 0,hm=>omega
    | m+1,hm =>
     have ll:Mv n rs k=n:=by
      have:k=0\/k=1:=by omega
      rcases this with z | z<;>subst z
      ·exact zh0 B
      ·exact zfd B
     refine hne' (Wh m lo' hi' (by omega) (by omega) (by omega) fun r=>?_)
     have z:=Ru B e' hl r
     rw[<-z.1,<-z.2,<-h,<-h,Yx B hk (by omega),Yx B hk (by omega)]
   ·have a:k=0\/k=1:=by omega
    have b:l=0\/l=1:=by omega
    have z:=h fun _=>false
    rcases a with a | a<;>rcases b with b | b<;>subst a<;>subst b
    ·rfl
    ·rw[zlN B,NK B] at z;cases z
    ·rw[zlN B,NK B] at z;cases z
    ·rfl
end
theorem Yy {rs:List Rm}{x:Rm}{k:Nat}(h:k<rs.length):(rs++[x])[k]?=rs[k]?:=zyB h
theorem QF {n:Nat}{rs:List Rm}{x:Rm}{k:Nat}(h:k<rs.length):Mv n (rs++[x]) k=Mv n rs k:=by
 unfold Mv;rw[Yy h]
theorem Bk.snoc {n:Nat}{rs:List Rm}(B:Bk n rs){i lo hi:Nat}(hin:i<n)(hlo:lo<rs.length)(hhi:hi<rs.length)(hne:lo≠hi)(l1:i<Mv n rs lo)(l2:i<Mv n rs hi)(new:some (i,lo,hi)∉rs):Bk n (rs++[some (i,lo,hi)]) where
 h0:=by rw[Yy (by have:=len2 B;omega)];exact B.h0
 h1:=by rw[Yy (by have:=len2 B;omega)];exact B.h1
 rm:=fun k h2 hk=>by
  rw[zyc,zyC] at hk
  by_cases hlt:k<rs.length
  ·obtain⟨i',lo',hi',e,a1,a2,a3,a4,a5,a6⟩:=B.rm k h2 hlt
   exact⟨i',lo',hi',by rw[Yy hlt];exact e,a1,a2,a3,a4,by rw[QF (by omega)];exact a5,by rw[QF (by omega)];exact a6⟩
  ·have e:k=rs.length:=by omega
   subst e
   exact⟨i,lo,hi,by simp,hin,hlo,hhi,hne,by rw[QF hlo];exact l1,by rw[QF hhi];exact l2⟩
 uq:=fun k l x hk hl=>by
  have lk:=(zx7.mp hk).1
  have ll:=(zx7.mp hl).1
  rw[zyc,zyC] at lk ll
  have last:∀m,m=rs.length->(rs++[some (i,lo,hi)])[m]?=some (some x)->x=(i,lo,hi):=fun m hm h=>by
   subst hm
   simp at h
   exact h.symm
  by_cases h1:k<rs.length
  ·by_cases h2:l<rs.length
   ·rw[Yy h1] at hk
    rw[Yy h2] at hl
    exact B.uq k l x hk hl
   ·exfalso
    have e:=last l (by omega) hl
    subst e
    rw[Yy h1] at hk
    exact new (zx9 hk)
  ·by_cases h2:l<rs.length
   ·exfalso
    have e:=last k (by omega) hk
    subst e
    rw[Yy h2] at hl
    exact new (zx9 hl)
   ·omega
theorem zej {n:Nat}{rs:List Rm}(B:Bk n rs){x:Rm}(r:Row):∀(f k:Nat),k<rs.length->lead (rs++[x]) r f k=lead rs r f k
 | 0,_,_=>rfl
 | f+1,k,hk=>by
  unfold lead
  rw[Yy hk]
  by_cases h2:2<=k
  ·obtain⟨i,lo,hi,e,_,hlo,hhi,_⟩:=B.rm k h2 hk
   rw[e]
   show lead (rs++[x]) r f (if r i then hi else lo)=lead rs r f (if r i then hi else lo)
   exact zej B r f _ (by split<;>omega)
  ·have:k=0\/k=1:=by omega
   rcases this with z | z<;>subst z
   ·rw[B.h0]
   ·rw[B.h1]
theorem zgq {n:Nat}{rs:List Rm}(B:Bk n rs){x:Rm}{k:Nat}(hk:k<rs.length)(r:Row):yes (rs++[x]) k r=yes rs k r:=by
 unfold yes;rw[zej B r k k hk]
def tW (rs rs':List Rm):Prop:=∃xs,rs'=rs++xs
theorem tW.refl (rs:List Rm):tW rs rs:=⟨[],by simp⟩
theorem tW.trans {a b c:List Rm}(h:tW a b)(k:tW b c):tW a c:=by
 obtain⟨x,rfl⟩:=h
 obtain⟨y,rfl⟩:=k
 exact⟨x++y,by rw[List.append_assoc]⟩
theorem tW.len {a b:List Rm}(h:tW a b):a.length<=b.length:=by
 obtain⟨x,rfl⟩:=h
 rw[zyc];omega
theorem tW.get {a b:List Rm}(h:tW a b){k:Nat}(hk:k<a.length):b[k]?=a[k]?:=by
 obtain⟨x,rfl⟩:=h
 exact zyB hk
theorem tW.snoc (rs:List Rm)(x:Rm):tW rs (rs++[x]):=⟨[x],rfl⟩
theorem tW.Mv {n:Nat}{a b:List Rm}(h:tW a b){k:Nat}(hk:k<a.length):Mv n b k=Mv n a k:=by
 unfold xV.Mv;rw[h.get hk]
theorem tW.lead {n:Nat}{a b:List Rm}(B:Bk n a)(h:tW a b)(r:Row):∀(f k:Nat),k<a.length->lead b r f k=lead a r f k
 | 0,_,_=>rfl
 | f+1,k,hk=>by
  unfold xV.lead
  rw[h.get hk]
  by_cases h2:2<=k
  ·obtain⟨i,lo,hi,e,_,hlo,hhi,_⟩:=B.rm k h2 hk
   rw[e]
   show xV.lead b r f (if r i then hi else lo)=xV.lead a r f (if r i then hi else lo)
   exact tW.lead B h r f _ (by split<;>omega)
  ·have:k=0\/k=1:=by omega
   rcases this with z | z<;>subst z
   ·rw[B.h0]
   ·rw[B.h1]
theorem tW.yes {n:Nat}{a b:List Rm}(B:Bk n a)(h:tW a b){k:Nat}(hk:k<a.length)(r:Row):yes b k r=yes a k r:=by
 unfold xV.yes;rw[tW.lead B h r k k hk]
end xV
namespace L2
theorem hu9 {A:PySem.Around}{k:Nat}(hr:tZ k A):A.units+9<PySem.cLine:=by have:=hr.units;omega
end L2
namespace uh
open PySem L2 xV
abbrev vC:=Addr->Prop
def znG (F:vC)(H H':Hp):Prop:=∀x o,H x=some o->¬F x->H' x=some o
def zek:List Str:=["room", "size", "order", "enter", "worth_at", "below"]
structure zb9 (C:Addr)(B:Hp->Addr->List Str->List Rm->vC->Prop):Prop where
 ins:∀{H b os rs F},B H b os rs F->∃dx fs,H b=some (.ins C dx fs)/\∀m∈zek,fs.lookup m=none
 frame:∀{H H' b os rs F},B H b os rs F->(∀x o,H x=some o->F x->H' x=some o)->yJ H H'->B H' b os rs F
 there:∀{H b os rs F x},B H b os rs F->F x->H x≠none
 bk:∀{H b os rs F},B H b os rs F->Bk os.length rs
 ord:∀{H b os rs F},B H b os rs F->ug os
theorem zb9.same {C:Addr}{B:Hp->Addr->List Str->List Rm->vC->Prop}(L:zb9 C B){H H':Hp}{b:Addr}{os:List Str}{rs:List Rm}{F:vC}(h:B H b os rs F)(g:Same H H'):B H' b os rs F :=
 L.frame h (fun x o e _=>g x o e) (yJ.of g)
def zkl (os:List Str)(r:Row):Str->Bool:=fun x=>r (ix os x)
section
variable (B:Hp->Addr->List Str->List Rm->vC->Prop)(K:Frag)(C:Addr)
inductive Lr (vs:List V)(H:Hp)(Q:VK)(E9:XK):Prop
 | mk (b dx l:Addr) (os:List Str) (_:vs=[.ref b,.ref l]) (_:H b=some (.ins C dx [])) (_:b≠dx) (_:zO K H l (os.map V.str)) (_:ug os) (_:∀(H':Hp) (F:vC),(∀x o,H x=some o->x≠b->H' x=some o)->B H' b os [none,none] F->(∀x,F x->x=b\/x=dx\/H x=none)->Q .non H'):Lr vs H Q E9
inductive xP (vs:List V)(H:Hp)(Q:VK)(E9:XK):Prop
 | mk (b:Addr) (os:List Str) (rs:List Rm) (F:vC) (_:vs=[.ref b]) (_:B H b os rs F) (_:∀(l:Addr) (H':Hp),Same H H'->H l=none->H' l=some (.lst (os.map V.str))->Q (.ref l) H'):xP vs H Q E9
end
theorem zca {xs:List V}{n:Nat}:TQ xs none (some (n:Int))=xs.take n:=by
 unfold TQ
 rw[HT.zbS,HT.Nj,List.drop_zero,Nat.sub_zero]
 by_cases h:n<=xs.length
 ·rw[Nat.min_eq_left h]
 ·rw[Nat.min_eq_right (by omega),zyx,List.take_of_length_le (by omega)]
end uh
namespace xV
def Means (rs:List Rm)(k:Nat)(f:Row->Bool):Prop:=k<rs.length/\∀r,yes rs k r=f r
theorem Means.grown {n:Nat}{a b:List Rm}(B:Bk n a)(g:tW a b){k:Nat}{f:Row->Bool}(h:Means a k f):Means b k f:=⟨zyd h.1 g.len,fun r=>by rw[g.yes B h.1];exact h.2 r⟩
end xV
namespace L2
open PySem
theorem zh1 {X:Cx}{all rest:List Stmt}{D:Ends}{Tf:TS->TS}{Pre:St->Hp->Prop}(Mid:St->Hp->Prop)(h1:∀t,PSs X rest t->PSs X all (Tf t))(h:∀u:TS,(∀ σ H,Mid σ H->u D σ H)->∀ σ H,Pre σ H->Tf u D σ H)
  (hr:∃t,PSs X rest t/\∀ σ H,Mid σ H->t D σ H):∃t,PSs X all t/\∀ σ H,Pre σ H->t D σ H :=
 let ⟨t,a,b⟩:=hr
 ⟨Tf t,h1 t a,h t b⟩
theorem zpA {X:Cx}{all:List Stmt}{D:Ends}{σ:St}{H:Hp}(h:∃t,PSs X all t/\∀ σ' H',(σ'=σ/\H'=H)->t D σ' H'):∃t,PSs X all t/\t D σ H :=
 let ⟨t,a,b⟩:=h
 ⟨t,a,b _ _ ⟨rfl,rfl⟩⟩
end L2
namespace xV
open uh
def Rv (b:Nat):Row:=fun i=>b.testBit i
def bits (r:Row):Nat->Nat
 | 0=>0
 | n+1=>if r n then bits r n+2^n else bits r n
theorem xT (r:Row):∀n,bits r n<2^n
 | 0=>Nat.zero_lt_one
 | n+1=>by
  have ih:=xT r n
  unfold bits
  rw[Nat.pow_succ]
  split<;>omega
theorem Wi (r:Row):∀{n i:Nat},i<n->(bits r n).testBit i=r i
 | 0,i,h=>by omega
 | n+1,i,h=>by
  have lt:=xT r n
  have z:(bits r n).testBit n=false:=Nat.testBit_lt_two_pow lt
  unfold bits
  by_cases e:i=n
  ·subst e
   cases hr:r i
   ·rw[if_neg zx8];exact z
   ·rw[if_pos rfl,uN,z];rfl
  ·have hi:i<n:=by omega
   split
   ·rw[Np hi];exact Wi r hi
   ·exact Wi r hi
theorem Rw {n a b:Nat}(ha:a<2^n)(hb:b<2^n)(h:∀i,i<n->a.testBit i=b.testBit i):a=b :=
 Nat.eq_of_testBit_eq fun i=>by
  by_cases hi:i<n
  ·exact h i hi
  ·have:2^n<=2^i:=zyA (by decide) (by omega)
   rw[Nat.testBit_lt_two_pow (by omega),Nat.testBit_lt_two_pow (by omega)]
theorem zgr {r:Row}{n i:Nat}(hi:i<n)(v:Bool):bits (put r i v) n=zN (bits r n) i v:=by
 refine Rw (xT _ _) (yP (xT _ _) hi) fun j hj=>?_
 rw[Wi _ hj,zT,Wi _ hj]
 rfl
theorem NP {n b:Nat}(h:b<2^n):bits (Rv b) n=b:=Rw (xT _ _) h fun i hi=>by rw[Wi _ hi];rfl
theorem zlO {n:Nat}{rs:List Rm}(B:Bk n rs){k:Nat}(hk:k<rs.length)(r:Row):yes rs k (Rv (bits r n))=yes rs k r :=
 T6 B k k (zyk _) hk fun i _ hi=>Wi r hi
theorem zjr {n N M:Nat}{f g:Nat->Bool}(h:zV n N f)(k:zV n M g)(e:∀b,b<2^n->f b=g b):N=M :=
 Nat.eq_of_testBit_eq fun i=>by
  rw[h i,k i]
  by_cases hi:i<2^n
  ·rw[e i hi]
  ·rw[decide_eq_false hi];rfl
theorem K9 {n N:Nat}{f:Nat->Bool}(h:zV n N f){b:Nat}(hb:b<2^n):N.testBit b=f b:=by rw[h b,decide_eq_true hb];rfl
def Free (n:Nat)(f:Nat->Bool)(p:Nat):Prop:=∀b,b<2^n->∀v,f (zN b p v)=f b
theorem xO (b p:Nat):zN b p (b.testBit p)=b:=by unfold zN;rw[if_pos rfl]
theorem Free.znH {n p:Nat}{f:Nat->Bool}(h:∀b,b<2^n->f (zN b p (!b.testBit p))=f b):Free n f p:=fun b hb v=>by
 by_cases e:v=b.testBit p
 ·rw[e,xO]
 ·have:v=!b.testBit p:=by cases v<;>cases hh:b.testBit p<;>simp_all
  rw[this];exact h b hb
theorem zdj {n:Nat}{f:Nat->Bool}(h:∀p,p<n->Free n f p):∀b,b<2^n->f b=f 0:=by
 have key:∀m b,m<=n->b<2^n->(∀i,m<=i->i<n->b.testBit i=false)->f b=f 0:=by
  intro m
  induction m with
  | zero =>
   intro b _ hb hz
   have:b=0:=Rw hb (Nat.two_pow_pos n) fun i hi=>by rw[hz i (zyr _) hi,Nat.zero_testBit]
   rw[this]
  | succ m ih =>
   intro b hm hb hz
   rw[<-h m (by omega) b hb false]
   refine ih _ (by omega) (yP hb (by omega)) fun i hi hin=>?_
   rw[zT]
   by_cases e:i=m
   ·rw[if_pos e]
   ·rw[if_neg e];exact hz i (by omega) hin
 exact fun b hb=>key n b (zyk _) hb fun i hi hin=>by omega
theorem zpB {n:Nat}{rs:List Rm}(B:Bk n rs){k p:Nat}(hk:k<rs.length)(hp:p<n)(h:∀i,i<=p->∀r v,yes rs k (put r i v)=yes rs k r):p<Mv n rs k:=by
 by_cases k2:2<=k
 ·obtain⟨i,lo,hi,e,hin,hlo,hhi,hne,l1,l2⟩:=B.rm k k2 hk
  rw[QD B e]
  by_cases hip:i<=p
  ·exfalso
   refine hne (Wh B (max lo hi) lo hi ⟨Nat.le_max_left _ _,Nat.le_max_right _ _⟩ (by omega) (by omega) fun r=>?_)
   have z:=Ru B e hk r
   rw[<-z.1,<-z.2,h i hip,h i hip]
  ·omega
 ·have:k=0\/k=1:=by omega
  rcases this with z | z<;>subst z
  ·rw[zh0 B];exact hp
  ·rw[zfd B];exact hp
theorem zlP {n m p k0 k1:Nat}{rs:List Rm}{f:Nat->Bool}(B:Bk n rs)(hp:p<n)(m0:k0<rs.length)(m1:k1<rs.length)
  (y0:∀r,yes rs k0 r=f (zN (bits r n) p false))(y1:∀r,yes rs k1 r=f (zN (bits r n) p true))(fr:∀i,i<p->Free n f i)
  (dep:∃b,b<2^n/\f (zN b p false)≠f (zN b p true))(old:∀j,j<m->¬∀r,yes rs j r=f (bits r n))(hl:∀j,m<=j->j<rs.length->p<Mv n rs j) :
  Bk n (rs++[some (p,k0,k1)])/\∀r,yes (rs++[some (p,k0,k1)]) rs.length r=f (bits r n):=by
 have pb:∀(r:Row) v,zN (bits r n) p v<2^n:=fun r v=>yP (xT _ _) hp
 have low:∀(k:Nat) (w:Bool),k<rs.length->(∀r,yes rs k r=f (zN (bits r n) p w))->p<Mv n rs k:=fun k w hk hy=>zpB B hk hp fun i hi r v=>by
  rw[hy,hy,zgr (by omega)]
  by_cases e:i=p
  ·subst e
   congr 1
   refine Rw (yP (yP (xT _ _) hp) hp) (pb r w) fun j _=>?_
   rw[zT,zT,zT]
   by_cases e:j=i
   ·rw[if_pos e,if_pos e]
   ·rw[if_neg e,if_neg e,if_neg e]
  ·rw[<-fr i (by omega) _ (pb r w) v]
   congr 1
   refine Rw (yP (yP (xT _ _) (by omega)) hp) (yP (pb r w) (by omega)) fun j _=>?_
   rw[zT,zT,zT,zT]
   by_cases e1:j=p
   ·rw[if_pos e1,if_pos e1,if_neg (by omega)]
   ·rw[if_neg e1,if_neg e1]
 have ne:k0≠k1:=fun e=>by
  subst e
  obtain⟨b,hb,hne⟩:=dep
  refine hne ?_
  have a:=y0 (Rv b)
  have c:=y1 (Rv b)
  rw[NP hb] at a c
  exact a.symm.trans c
 have fin:∀(R:List Rm) (k:Nat),Bk n R->R[k]?=some (some (p,k0,k1))->(∀j,j<rs.length->∀r,yes R j r=yes rs j r)->∀r,yes R k r=f (bits r n):=fun R k BR e same r=>by
  rw[QC BR e,same _ m1,same _ m0,y0,y1]
  have hb:=Wi r hp
  cases hr:r p
  ·rw[if_neg zx8]
   rw[hr] at hb
   conv=>rhs;rw[<-xO (bits r n) p,hb]
  ·rw[if_pos rfl]
   rw[hr] at hb
   conv=>rhs;rw[<-xO (bits r n) p,hb]
 have new:some (p,k0,k1)∉rs:=fun h=>by
  obtain⟨j,hj,e⟩:=zyN h
  have e':rs[j]?=some (some (p,k0,k1)):=by rw[zx5 hj,e]
  by_cases hm:j<m
  ·exact old j hm (fin rs j B e' fun _ _ _=>rfl)
  ·have:=hl j (by omega) hj
   rw[QD B e'] at this
   omega
 have B':=B.snoc hp m0 m1 ne (low k0 false m0 y0) (low k1 true m1 y1) new
 refine⟨B',fin _ _ B' (by simp) fun j hj r=>?_⟩
 exact zgq B hj r
structure zgs (n:Nat)(rs:List Rm)(ts:List Nat):Prop where
 len:ts.length=rs.length
 tab:∀(j t:Nat),ts[j]?=some t->zV n t (fun b=>yes rs j (Rv b))
theorem zgs.snoc {n:Nat}{rs:List Rm}(B:Bk n rs){ts:List Nat}{x:Rm}{t:Nat}(h:zgs n rs ts)(k:zV n t (fun b=>yes (rs++[x]) rs.length (Rv b))):zgs n (rs++[x]) (ts++[t]):=by
 refine⟨by rw[zyc,zyc,h.len];rfl,fun j u e=>?_⟩
 by_cases hj:j<ts.length
 ·rw[zyB hj] at e
  refine vM (h.tab j u e) fun b _=>?_
  rw[zgq B (by rw[<-h.len];exact hj)]
 ·have lt:=(zx7.mp e).1
  rw[zyc,zyC] at lt
  have ej:j=ts.length:=by omega
  subst ej
  simp at e
  subst e
  rw[h.len]
  exact k
theorem zgs.find {n:Nat}{rs:List Rm}(B:Bk n rs){ts:List Nat}(h:zgs n rs ts){j t:Nat}{f:Nat->Bool}(e:ts[j]?=some t)(tb:zV n t f)(r:Row):yes rs j r=f (bits r n):=by
 have hj:j<rs.length:=by rw[<-h.len];exact(zx7.mp e).1
 rw[<-zlO B hj,<-K9 tb (xT r n),K9 (h.tab j t e) (xT r n)]
theorem zgs.same {n:Nat}{rs:List Rm}{ts:List Nat}(h:zgs n rs ts){j t:Nat}{f:Nat->Bool}(hj:j<rs.length)(tb:zV n t f)(hy:∀r,yes rs j r=f (bits r n)):ts[j]?=some t:=by
 have lt:j<ts.length:=by rw[h.len];exact hj
 rw[zx5 lt]
 congr 1
 refine zjr (h.tab j _ (zx5 lt)) tb fun b hb=>?_
 show yes rs j (Rv b)=f b
 rw[hy,NP hb]
end xV
namespace uh
open PySem L2 xV
structure Nums (ts:List Nat)(kvs:List (Key×V)):Prop where
 get:∀(j t:Nat),ts[j]?=some t->ZR kvs (Sum.inl (t:Int))=some (.int (j:Nat))
 non:∀t:Nat,t∉ts->ZR kvs (Sum.inl (t:Int))=none
 len:kvs.length<=ts.length
theorem Nums.snoc {ts:List Nat}{kvs:List (Key×V)}(h:Nums ts kvs){t:Nat}(ht:t∉ts):Nums (ts++[t]) (putK kvs (Sum.inl (t:Int)) (.int (ts.length:Nat))):=by
 refine⟨fun j u e=>?_,fun u hu=>?_,?_⟩
 ·rw[wH]
  by_cases hj:j<ts.length
  ·rw[zyB hj] at e
   have hm:=zx9 e
   rw[if_neg fun z=>?_]
   ·exact h.get j u e
   ·have:(u:Int)=(t:Int):=Sum.inl.inj z
    have:u=t:=by omega
    exact ht (this ▸ hm)
  ·have lt:=(zx7.mp e).1
   rw[zyc,zyC] at lt
   have ej:j=ts.length:=by omega
   subst ej
   simp at e
   subst e
   rw[if_pos rfl]
 ·rw[wH,if_neg fun z=>?_]
  ·exact h.non u fun z=>hu (List.mem_append_left _ z)
  ·have:(u:Int)=(t:Int):=Sum.inl.inj z
   have:u=t:=by omega
   exact hu (this ▸ zyl _ zyo)
 ·have:=Um kvs (Sum.inl (t:Int)) (.int (ts.length:Nat))
  have:=h.len
  rw[zyc,zyC]
  omega
def zrh (n j:Nat):Rm->List V
 | none=>[.int (n:Nat),.int (j:Nat),.int (j:Nat)]
 | some (i,lo,hi)=>[.int (i:Nat),.int (lo:Nat),.int (hi:Nat)]
def zak (ml rl tl nd:Addr):List (Str×V):=[("marks", .ref ml),("rooms", .ref rl),("tables", .ref tl),("numbers", .ref nd)]
structure Parts (C:Addr)(H:Hp)(b:Addr)(os:List Str)(rs:List Rm)(F:vC)(dx ml rl tl nd:Addr)(rv:List V)(ts:List Nat)(kvs:List (Key×V)):Prop where
 hb:H b=some (.ins C dx (zak ml rl tl nd))
 hm:H ml=some (.lst (os.map V.str))
 hr:H rl=some (.lst rv)
 ht:H tl=some (.lst (ts.map fun t=>V.int (t:Nat)))
 hd:H nd=some (.dK kvs)
 mr:ml≠rl
 mt:ml≠tl
 rt:rl≠tl
 ord:ug os
 bk:Bk os.length rs
 len:rv.length=rs.length
 rm:∀(j:Nat) x,rs[j]?=some x->∃p,rv[j]?=some (.ref p)/\H p=some (.tup (zrh os.length j x))
 tabs:zgs os.length rs ts
 nums:Nums ts kvs
 ft:∀x,F x↔(x=b\/x=ml\/x=rl\/x=tl\/x=nd)
def yD (C:Addr)(H:Hp)(b:Addr)(os:List Str)(rs:List Rm)(F:vC):Prop:=∃dx ml rl tl nd rv ts kvs,Parts C H b os rs F dx ml rl tl nd rv ts kvs
theorem Parts.frame {C:Addr}{H H':Hp}{b:Addr}{os:List Str}{rs:List Rm}{F:vC}{dx ml rl tl nd:Addr}{rv:List V}{ts:List Nat}{kvs:List (Key×V)}(h:Parts C H b os rs F dx ml rl tl nd rv ts kvs)
  (s:∀x o,H x=some o->F x->H' x=some o)(t:yJ H H'):Parts C H' b os rs F dx ml rl tl nd rv ts kvs :=
 {h with
  hb:=s _ _ h.hb ((h.ft _).mpr (.inl rfl))
  hm:=s _ _ h.hm ((h.ft _).mpr (.inr (.inl rfl)))
  hr:=s _ _ h.hr ((h.ft _).mpr (.inr (.inr (.inl rfl))))
  ht:=s _ _ h.ht ((h.ft _).mpr (.inr (.inr (.inr (.inl rfl)))))
  hd:=s _ _ h.hd ((h.ft _).mpr (.inr (.inr (.inr (.inr rfl)))))
  rm:=fun j x e=>let ⟨p,a,c⟩:=h.rm j x e;⟨p,a,t _ _ c⟩ }
theorem yX (C:Addr):zb9 C (yD C) where
 ins:=fun⟨dx,ml,rl,tl,nd,rv,ts,kvs,h⟩=>⟨dx,_,h.hb,fun m hm=>by
  simp only[zek,List.mem_cons,zyv,or_false] at hm
  rcases hm with z | z | z | z | z | z<;>subst z<;>rfl⟩
 frame:=fun⟨dx,ml,rl,tl,nd,rv,ts,kvs,h⟩ s t=>⟨dx,ml,rl,tl,nd,rv,ts,kvs,h.frame s t⟩
 there:=fun⟨dx,ml,rl,tl,nd,rv,ts,kvs,h⟩ hx=>by
  rcases (h.ft _).mp hx with z | z | z | z | z<;>subst z
  ·rw[h.hb];exact fun z=>by cases z
  ·rw[h.hm];exact fun z=>by cases z
  ·rw[h.hr];exact fun z=>by cases z
  ·rw[h.ht];exact fun z=>by cases z
  ·rw[h.hd];exact fun z=>by cases z
 bk:=fun⟨_,_,_,_,_,_,_,_,h⟩=>h.bk
 ord:=fun⟨_,_,_,_,_,_,_,_,h⟩=>h.ord
theorem Parts.more {C:Addr}{H H':Hp}{b:Addr}{os:List Str}{rs:List Rm}{F:vC}{dx ml rl tl nd:Addr}{rv:List V}{ts:List Nat}{kvs:List (Key×V)}(h:Parts C H b os rs F dx ml rl tl nd rv ts kvs)
  {i lo hi t:Nat}{q:Addr}(t':yJ H H')(hb:H' b=H b)(hm:H' ml=H ml)(hr:H' rl=some (.lst (rv++[.ref q])))(ht:H' tl=some (.lst (ts.map (fun t=>V.int (t:Nat))++[.int (t:Nat)])))
  (hd:H' nd=some (.dK (putK kvs (Sum.inl (t:Int)) (.int (rs.length:Nat)))))(hq:H' q=some (.tup [.int (i:Nat),.int (lo:Nat),.int (hi:Nat)]))(B':Bk os.length (rs++[some (i,lo,hi)]))(hn:t∉ts)(tb:zV os.length t (fun b=>yes (rs++[some (i,lo,hi)]) rs.length (Rv b))) :
  Parts C H' b os (rs++[some (i,lo,hi)]) F dx ml rl tl nd (rv++[.ref q]) (ts++[t]) (putK kvs (Sum.inl (t:Int)) (.int (rs.length:Nat))) :=
 {hb:=by rw[hb];exact h.hb
  hm:=by rw[hm];exact h.hm
  hr:=hr
  ht:=by rw[ht,zyi];rfl
  hd:=hd
  mr:=h.mr
  mt:=h.mt
  rt:=h.rt
  ord:=h.ord
  bk:=B'
  len:=by rw[zyc,zyc,h.len];rfl
  rm:=fun j x e=>by
   by_cases hj:j<rs.length
   ·rw[zyB hj] at e
    obtain⟨p,a,c⟩:=h.rm j x e
    exact⟨p,by rw[zyB (by rw[h.len];exact hj)];exact a,t' _ _ c⟩
   ·have lt:=(zx7.mp e).1
    rw[zyc,zyC] at lt
    have ej:j=rs.length:=by omega
    subst ej
    simp at e
    subst e
    exact⟨q,by rw[<-h.len];simp,hq⟩
  tabs:=h.tabs.snoc h.bk tb
  nums:=by
   have z:=h.nums.snoc hn
   rw[h.tabs.len] at z
   exact z
  ft:=h.ft }
inductive T7 (vs:List V)(H:Hp)(Q:VK)(E9:XK):Prop
 | mk (N p n:Nat) (v:Bool) (f:Nat->Bool) (_:vs=[.int N,.int p,.int (v.toNat:Nat),.int n]) (_:p<n) (_:n<=8) (_:zV n N f) (_:∀R:Nat,zV n R (fun b=>f (zN b p v))->Q (.int R) H):T7 vs H Q E9
inductive zbv (vs:List V)(H:Hp)(Q:VK)(E9:XK):Prop
 | mk (N n:Nat) (f:Nat->Bool) (_:vs=[.int N,.int n]) (_:n<=8) (_:zV n N f) (_:∀p:Nat,p<=n->(∀i,i<p->Free n f i)->(p<n->∃b,b<2^n/\f (zN b p false)≠f (zN b p true))->Q (.int p) H):zbv vs H Q E9
inductive Vu (C:Addr)(vs:List V)(H:Hp)(Q:VK)(E9:XK):Prop
 | mk (b:Addr) (os:List Str) (rs:List Rm) (F:vC) (k:Nat) (_:vs=[.ref b,.int k]) (_:yD C H b os rs F) (_:k<rs.length) (_:Q .non H):Vu C vs H Q E9
inductive Zn (C:Addr)(vs:List V)(H:Hp)(Q:VK)(E9:XK):Prop
 | mk (b:Addr) (os:List Str) (rs:List Rm) (F:vC) (k:Nat) (_:vs=[.ref b,.int k]) (_:yD C H b os rs F) (_:k<rs.length) (_:∀t:Nat,zV os.length t (fun b=>yes rs k (Rv b))->Q (.int t) H):Zn C vs H Q E9
inductive zbw (vs:List V)(H:Hp)(Q:VK)(E9:XK):Prop
 | mk (N p n:Nat) (f:Nat->Bool) (_:vs=[.int N,.int p,.int n]) (_:p<n) (_:n<=8) (_:zV n N f) (_:∀b:Bool,(b=false->Free n f p)->(b=true->∃c,c<2^n/\f (zN c p false)≠f (zN c p true))->Q (.bl b) H):zbw vs H Q E9
inductive Vf (vs:List V)(H:Hp)(Q:VK)(E9:XK):Prop
 | mk (N M n:Nat) (f g:Nat->Bool) (_:vs=[.int N,.int M]) (_:zV n N f) (_:zV n M g) (_:∀R:Nat,zV n R (fun b=>f b&&!g b)->Q (.int R) H):Vf vs H Q E9
inductive zcb (vs:List V)(H:Hp)(Q:VK)(E9:XK):Prop
 | mk (W L M n:Nat) (f g h:Nat->Bool) (_:vs=[.int W,.int L,.int M]) (_:zV n W f) (_:zV n L g) (_:zV n M h) (_:∀R:Nat,zV n R (fun b=>if f b then h b else g b)->Q (.int R) H):zcb vs H Q E9
end uh
namespace L2
open PySem PySem.Spec PyProof.Rows
def Its (x:Str):It:={ go:=fun i _=>i<x.cps.size,JZ:=fun i H v H'=>H'=H/\∃c,x.cps[i]?=some c/\v=.str ⟨#[c]⟩,stop:=fun i _=>i=x.cps.size }
theorem zlQ {P:Program}{w:World}{K:Frag}{tg:Expr}(it:Addr)(x:Str)(t:Tok):Turn P w K tg (Its x) [it] it (fun i h=>h.IsStrIter it "str_ascii_iterator" x t i) where
 mem:=by simp
 obj:=fun i h st b hb=>by
  have e:b=it:=by simpa using hb
  subst e
  obtain⟨o,e,c,d⟩:=st
  exact⟨o,e,fun v z=>by rw[d] at z;cases z⟩
 keep:=fun i h h' st k=>by
  obtain⟨o,e,c,d⟩:=st
  exact⟨o,k it (by simp) o e,c,d⟩
 item:=by
  intro X hP hw hK hc i pins s σ H E I hf st hg
  subst hP hw hK
  obtain⟨f0,f1,f2,f3,f4,f5⟩:=hf it (by simp)
  have W:=Walks.strAscii (prog:=X.prog) (w:=X.w) (I.ok.hd hc) it x t
  refine W.item i s _ _ hg st fun v h' tk hv st' kk=>?_
  obtain⟨c,u,hc',rfl⟩:=hv
  have I1:Inv X pins σ H { s with heap:=h',toks:=tk }:=I.turned (fun b o hb e=>kk b o (by simpa using hb) e) f0 f1 f3 f4 f5
  obtain⟨o,e,cc,d⟩:=id st'
  exact⟨_,rfl,zdT (s:={ s with heap:=h',toks:=tk }) e cc d (by decide) ⟨.str ⟨#[c]⟩,H,I1,⟨u,rfl⟩,⟨rfl,c,hc',rfl⟩,st',fun b hb=>(hf b hb).1⟩⟩
 done:=by
  intro X hP hw hK hc i pins s σ H E I hf st hg
  subst hP hw hK
  obtain⟨f0,f1,f2,f3,f4,f5⟩:=hf it (by simp)
  have W:=Walks.strAscii (prog:=X.prog) (w:=X.w) (I.ok.hd hc) it x t
  have e:i=x.cps.size:=hg
  subst e
  exact W.done s _ _ st fun h' tk kk=>⟨rfl,I.turned (fun b o hb e=>kk b o (by simpa using hb) e) f0 f1 f3 f4 f5⟩
 self:=fun _ _ _ _ _ st h=>wpAny_pyIter_striter_ascii st h
section
variable {X:Cx}{tg:Expr}
def ztq (tl:TE):TI:=fun σ H R=>tl σ H fun x H1=>∃z:Str,x=.str z/\(z.cps.all fun c=>decide (c<128))=true/\R (Its z) H1
theorem zpC {l:Expr}{tl:TE}(hl:PE X l tl):PI X tg l (ztq tl):=by
 intro pins s σ H R I h
 refine vJ (hl pins s σ H _ I h) fun v s1 ⟨x,H1,I1,r1,q1⟩=>?_
 obtain⟨z,e,ha,q⟩:=q1
 subst e
 obtain⟨t,rfl⟩:=r1
 refine wpAny_pyIter_ascii ha ?_
 refine⟨s1.heap.objs.size,[s1.heap.objs.size],_,_,H1,rfl,I1.kept (t':=s1.toks) fun b o e=>zya _ e,zlQ _ z t,⟨_,zyp _ rfl,rfl,rfl⟩,fun b hb=>?_,q⟩
 have e:b=s1.heap.objs.size:=by simpa using hb
 subst e
 exact I1.zhB (zyk _) (I1.hok.fresh (zyk _))
end
end L2
namespace xV
open uh
def allR:Nat->List (List Bool)
 | 0=>[[]]
 | n+1=>(allR n).flatMap fun r=>[r++[false],r++[true]]
def zri (r:List Bool):Row:=fun i=>r.getD i false
theorem Yz:∀(n:Nat) (r:List Bool),r∈allR n->r.length=n
 | 0,r,h=>by
  have:r=[]:=by simpa [allR] using h
  rw[this];rfl
 | n+1,r,h=>by
  obtain⟨x,hx,hr⟩:=List.mem_flatMap.mp h
  have ih:=Yz n x hx
  simp at hr
  rcases hr with z | z<;>rw[z,zyc,ih]<;>rfl
theorem zal {α β:Type}(f:α->List β)(h:∀a,(f a).length=2):∀l:List α,(l.flatMap f).length=2*l.length
 | []=>rfl
 | a::l=>by rw[List.flatMap_cons,zyc,h a,zal f h l,zyg];omega
theorem wN:∀n,(allR n).length=2^n
 | 0=>rfl
 | n+1=>by
  show((allR n).flatMap _).length=_
  rw[zal _ (fun _=>rfl),wN n,Nat.pow_succ];omega
end xV
namespace L2
open PySem PySem.Spec PyProof.Rows
section
variable {X:Cx}{sc ZP:Scope}{xs:List Str}{js:List Nat}{tg:Expr}{g:TG}{elt iter:Expr}{px pos:Pos}{ifs:List Expr}{wi:TI}{tt:TT}{te:TE}
theorem zpD (U4:X.env.scope=ZP)(L:zi8 ZP sc xs (js.map fun j=>X.N.getD j ""))(hc:X.calm=true)(hi:PI X tg iter wi)(hg:∀(cl:List (Str×Addr)) (C:Addr) (s₂:Shared) (H₂:Hp) (fp:List Addr),PG (X.blk sc cl C (Kr X xs js) s₂ H₂ fp) tg g)(hjs:∀j∈js,j<X.N.length)
  (ht:∀(cl:List (Str×Addr)) (C:Addr) (s₂:Shared) (H₂:Hp) (fp:List Addr) (pins:List (Addr×Obj)) (s':Shared) (σ':St) (H':Hp) (Q:Bool->Hp->Prop),Inv (X.blk sc cl C (Kr X xs js) s₂ H₂ fp) pins σ' H' s'->tt σ' H' Q ->
   wpAny (model X.prog X.w) X.A (Xx ifs (compEnvC sc cl C X.env)) (TP (X.blk sc cl C (Kr X xs js) s₂ H₂ fp) pins σ' Q) (fun _ _=>False) s')
  (he:∀(cl:List (Str×Addr)) (C:Addr) (s₂:Shared) (H₂:Hp) (fp:List Addr),PE (X.blk sc cl C (Kr X xs js) s₂ H₂ fp) elt te)
  (hs:∀x,foldedSetIterable iter X.env x=pure x:=by intro _;rfl) :
  PE X (.ListComp elt [⟨tg,iter,ifs,0⟩] sc pos) (zqZ wi xs js g tt te):=by
 intro pins s σ H Q I h
 rw[eval_ListComp]
 refine zgd (use:=none) (Fin:=fun ys H=>∀p,H p=none->Q (.ref p) (upd H p (.lst ys))) U4 L (rd:=Calm) (fun _ _ _ _ _ _ _=>hc) hi hg hjs ht he hs I h fun D C s5 H5 ys its k m5 J oD oC hDC p1 vs z hn fin=>?_
 refine⟨m5,hn,fun h' hsb=>?_⟩
 have J2:Inv X pins σ H5 { s5 with heap:=h',toks:=s5.toks }:=J.turned (it:=C) (fun b o hb e=>hsb.extBut b o hb e) oC.free oC.loc (.inr oC.new) oC.cel oC.pin
 have p1':h'.get? D=some (tU its k):=hsb.extBut _ _ hDC p1
 have J3:Inv X pins σ (upd H5 D (.lst ys)) { s5 with heap:=h',toks:=s5.toks }:=J2.track oD.free oD.loc oD.new oD.cel oD.pin ⟨z,its,k,vs,p1'⟩
 exact⟨.ref D,_,J3,rfl,fin D oD.free⟩
end
theorem Inv.znI {X:Cx}{pins:List (Addr×Obj)}{σ:St}{H:Hp}{s:Shared}{h':Heap}{t':Nat}{fp:List Addr}(I:Inv X pins σ H s)(k:∀b o,b∉fp->s.heap.get? b=some o->h'.get? b=some o)(hf:∀b∈fp,zde X pins H b) :
  Inv X pins σ H { s with heap:=h',toks:=t' }:=by
 have nit:∀b u,H b=some u->b∉fp:=fun b u e z=>by rw[(hf b z).1] at e;cases e
 refine I.step (g':=s.gens) (d':=s.drawn) (ch:=fp) (fun b hb=>⟨(hf b hb).2.2.2.1,(hf b hb).2.1,(hf b hb).2.2.2.2.1,(hf b hb).2.2.2.2.2⟩) (fun b o _ _ hc e _=>k b o hc e) (fun b o _ _ hc e _=>⟨o.slots,k b o hc e⟩) (fun _ _ _ _ n=>n)
  (fun b o hc e=>⟨o,k b o hc e⟩) (fun _ _ e=>e) (fun _ _ _ e=>e) (fun b ps e=>⟨#[],by rw[e];simp⟩) (fun m hm=>?_) (fun b u e=>?_) I.bare
 ·obtain⟨o,es,ep,ho,r⟩:=hm
  exact⟨o,es,ep,k _ o (fun z=>(hf _ z).2.1 rfl) ho,r⟩
 ·refine(I.hok b u e).stay (fun c v hc q=>k c v ?_ q) (fun _ q=>q) fun _ _ q=>q
  rcases hc with z | z
  ·rw[z];exact nit b u e
  ·exact nit c _ z
def Itz (K:Frag)(a b:Addr):It :=
 {go:=fun i H=>∃xs ys x y,zO K H a xs/\zO K H b ys/\xs[i]?=some x/\ys[i]?=some y
  JZ:=fun i H v H'=>∃q x y,(∀xs,zO K H a xs->xs[i]?=some x)/\(∀ys,zO K H b ys->ys[i]?=some y)/\v=.ref q/\H q=none/\H'=upd H q (.tup [x,y])
  stop:=fun i H=>∃xs ys,zO K H a xs/\zO K H b ys/\(xs.length<=i\/ys.length<=i) }
theorem zlR {P:Program}{w:World}{K:Frag}{els:List Expr}{x1}{pt:Pos}(a b z ti to i1 i2:Addr)(D:ZipApart z ti to i1 i2 a b):Turn P w K (.Tuple els x1 pt) (Itz K a b) [z,ti,to,i1,i2] z
  (fun i h=>IsZip h z ti to .none/\IsPair h ti (.ref i1) (.ref i2)/\(∃u v,IsPair h to u v)/\h.IsListIter i1 a i/\h.IsListIter i2 b i) where
 mem:=by simp
 obj:=fun i h st c hc=>by
  obtain⟨q1,q2,⟨u,v,q3⟩,⟨o4,q4,c4,d4⟩,⟨o5,q5,c5,d5⟩⟩:=st
  simp only[List.mem_cons,zyv,or_false] at hc
  rcases hc with e | e | e | e | e<;>subst e
  ·exact⟨_,q1,fun v hv=>by cases hv⟩
  ·exact⟨_,q2,fun v hv=>by cases hv⟩
  ·exact⟨_,q3,fun v hv=>by cases hv⟩
  ·exact⟨_,q4,fun v hv=>by rw[d4] at hv;cases hv⟩
  ·exact⟨_,q5,fun v hv=>by rw[d5] at hv;cases hv⟩
 keep:=fun i h h' st k=>by
  obtain⟨q1,q2,⟨u,v,q3⟩,q4,q5⟩:=st
  exact⟨k z (by simp) _ q1,k ti (by simp) _ q2,⟨u,v,k to (by simp) _ q3⟩,q4.at fun o e=>k i1 (by simp) o e,q5.at fun o e=>k i2 (by simp) o e⟩
 item:=by
  intro X hP hw hK hc i pins s σ H E I hf st hg
  subst hP hw hK
  obtain⟨xs,ys,x,y,hq1,hq2,hx,hy⟩:=hg
  obtain⟨q1,q2,⟨u0,v0,q3⟩,q4,q5⟩:=st
  obtain⟨zcc,rv1,pl1,hz1⟩:=I.list hq1
  obtain⟨its2,rv2,pl2,hz2⟩:=I.list hq2
  obtain⟨u,hu,ru⟩:=rv1.get hx
  obtain⟨v,hv,rv⟩:=rv2.get hy
  refine wpAny_pyNext_zip_item D q1 q2 q3 q4 q5 pl1.isList pl2.isList (x:=u) (y:=v) (by simpa using hu) (by simpa using hv) fun h1 out pto it1 it2 tup sz k1=>?_
  refine⟨.ref s.heap.objs.size,rfl,wpAny_letOwnedTupleGo_zip out fun h2 he2 sb=>?_⟩
  have ltz:=zyb q1
  have ltf:∀c∈[z,ti,to,i1,i2],c<s.heap.objs.size:=fun c hc=>by
   simp only[List.mem_cons,zyv,or_false] at hc
   rcases hc with e | e | e | e | e<;>subst e
   ·exact ltz
   ·exact zyb q2
   ·exact zyb q3
   ·obtain⟨o,e,_⟩:=q4;exact zyb e
   ·obtain⟨o,e,_⟩:=q5;exact zyb e
  have k2:∀c o,c∉[z,ti,to,i1,i2]->s.heap.get? c=some o->h2.get? c=some o:=fun c o hc q=>by
   simp only[List.mem_cons,zyv,or_false,not_or] at hc
   obtain⟨c1,c2,c3,c4,c5⟩:=hc
   exact(sb.2 c c1).trans (k1 c o c1 c3 c4 c5 q)
  have it1':h2.IsListIter i1 a (i+1):=it1.at fun o e=>(sb.2 i1 D.i1z).trans e
  have it2':h2.IsListIter i2 b (i+1):=it2.at fun o e=>(sb.2 i2 D.i2z).trans e
  have hti:IsPair h2 ti (.ref i1) (.ref i2):=(sb.2 ti D.TIz).trans (k1 ti _ D.TIz D.TITO D.TIi1 D.TIi2 q2)
  have hto:IsPair h2 to u v:=(sb.2 to D.TOz).trans pto
  have J1:Inv X pins σ H { s with heap:=h2,toks:=s.toks }:=I.znr (fp:=[z,ti,to,i1,i2]) k2 (fun c hc=>by
   simp only[List.mem_cons,zyv,or_false] at hc
   rcases hc with e | e | e | e | e<;>subst e
   ·exact⟨_,he2⟩
   ·exact⟨_,hti⟩
   ·exact⟨_,hto⟩
   ·obtain⟨o,e,_⟩:=it1';exact⟨o,e⟩
   ·obtain⟨o,e,_⟩:=it2';exact⟨o,e⟩) hf
  have ztr:h2.get? s.heap.objs.size=some { cls:=.type "tuple", data:=.seq #[u,v] }:=(sb.2 _ (Nat.ne_of_gt ltz)).trans tup
  have ltc:∀y c,X.env.cells.lookup y=some c->c≠s.heap.objs.size:=fun y c q=>by
   obtain⟨v,o,z,_⟩:=I.cell y c q
   exact zyj (zyb z)
  have ltp:∀p∈X.pn++pins,p.1≠s.heap.objs.size:=fun p hp=>zyj (zyb (I.pin p hp).1)
  have J2:=J1.track (a:=s.heap.objs.size) (o:=.tup [x,y]) I.fresh (Ne.symm (zyj I.lt)) I.sz ltc ltp ⟨by show 2<=sizeLine;decide,[u,v],.cons ru (.cons rv .nil),⟨_,ztr,rfl,_,rfl⟩⟩
  refine⟨.ref s.heap.objs.size,_,J2,rfl,⟨_,x,y,fun zs hzs=>by rw[I.Vo hzs hq1];exact hx,fun zs hzs=>by rw[I.Vo hzs hq2];exact hy,rfl,I.fresh,rfl⟩,⟨he2,hti,⟨u,v,hto⟩,it1',it2'⟩,fun c hc=>?_⟩
  rw[zG (zyj (ltf c hc))]
  exact(hf c hc).1
 done:=by
  intro X hP hw hK hc i pins s σ H E I hf st hg
  subst hP hw hK
  obtain⟨xs,ys,hq1,hq2,hx⟩:=hg
  obtain⟨q1,q2,⟨u0,v0,q3⟩,q4,q5⟩:=st
  obtain⟨zcc,rv1,pl1,hz1⟩:=I.list hq1
  obtain⟨its2,rv2,pl2,hz2⟩:=I.list hq2
  have l1:=rv1.length
  have l2:=rv2.length
  refine wpAny_pyNext_zip_end (I.ok.hd hc) D q1 q2 q3 q4 q5 pl1.isList pl2.isList (by
   rcases hx with e | e
   ·left;simp;omega
   ·right;simp;omega) fun h' k=>⟨rfl,?_⟩
  refine I.znI (t':=s.toks) (fp:=[z,to,i1,i2]) (fun c o hc e=>?_) fun c hc=>hf c (by simp only[List.mem_cons,zyv,or_false] at hc ⊢;rcases hc with e | e | e | e<;>simp[e])
  simp only[List.mem_cons,zyv,or_false,not_or] at hc
  exact k c o hc.1 hc.2.1 hc.2.2.1 hc.2.2.2 e
 self:=fun _ _ _ _ _ st h=>wpAny_pyIter_zip st.1 h
section
variable {X:Cx}
def zts (K:Frag)(ta:TA):TI:=fun σ H R=>ta σ H fun vs H1=>∃a b xs ys,vs=[.ref a,.ref b]/\zO K H1 a xs/\zO K H1 b ys/\R (Itz K a b) H1
theorem zlT {l m:Expr}{ta:TA}{p pos:Pos}{els:List Expr}{x1}{pt:Pos}(hg:Gl X "zip")(hm:X.mg "zip"=none)(ha:PA X [l,m] ta)(hs:starEach [l,m] X.env=[(false,eval l X.env),(false,eval m X.env)]:=by rfl)(hs2:starEach [m] X.env=[(false,eval m X.env)]:=by rfl) :
  PI X (.Tuple els x1 pt) (.Call (.Name "zip" p) [l,m] [] pos) (zts X.K ta):=by
 intro pins s σ H R I h
 refine Call_ (Ws I hg hm boot_zip (PyProof.Rows.callWith_type1 (vJ (ha pos pins s σ H _ I h) fun us s1 ⟨vs,H1,I1,r1,q1⟩=>?_) (by rw[hs,hs2]) (by rw[hs2];rfl)))
 obtain⟨a,b,xs,ys,e,hq1,hq2,q⟩:=q1
 subst e
 obtain⟨u,v,rfl,ru,rv⟩:=vals2 r1
 cases ru
 cases rv
 obtain⟨zcc,rv1,pl1,hz1⟩:=I1.list hq1
 obtain⟨its2,rv2,pl2,hz2⟩:=I1.list hq2
 obtain⟨o1,e1,_⟩:=id pl1.isList
 obtain⟨o2,e2,_⟩:=id pl2.isList
 refine call_zip_2 pl1.isList pl2.isList fun h' hz hti hto it1 it2 hsz hk=>?_
 have J:Inv X pins σ H1 { s1 with heap:=h',toks:=s1.toks }:=I1.kept hk
 refine wpAny_pyIter_zip hz ?_
 refine⟨s1.heap.objs.size+4,[s1.heap.objs.size+4,s1.heap.objs.size+2,s1.heap.objs.size+3,s1.heap.objs.size,s1.heap.objs.size+1],_,_,H1,rfl,J,zlR a b _ _ _ _ _ (zipApart_new (zyb e1) (zyb e2)),⟨hz,hti,⟨_,_,hto⟩,it1,it2⟩,fun c hc=>?_,q⟩
 have gc:s1.heap.objs.size<=c:=by
  simp only[List.mem_cons,zyv,or_false] at hc
  rcases hc with z | z | z | z | z<;>rw[z]<;>omega
 exact I1.zhB gc (I1.hok.fresh gc)
def zoH (K:Frag):R2:=fun x y H Q=>∃p q xs ys,x=.ref p/\y=.ref q/\zO K H p xs/\zO K H q ys/\xs.length+ys.length<=sizeLine/\∀l,H l=none->Q (.ref l) (upd H l (.lst (xs++ys)))
theorem XC:Qe X (binaryOp .Add) (zoH X.K):=by
 intro pins s σ H x y v u Q I rx ry h
 obtain⟨p,q,xs,ys,rfl,rfl,hp,hq,hz,h⟩:=h
 cases rx
 cases ry
 obtain⟨zcc,rv1,pl1,hz1⟩:=I.list hp
 obtain⟨its2,rv2,pl2,hz2⟩:=I.list hq
 obtain⟨⟨cls,dd,data,sl⟩,ho,hc,n,hd⟩:=id pl1.isList
 obtain⟨⟨cls2,dd2,data2,sl2⟩,ho2,hc2,n2,hd2⟩:=id pl2.isList
 simp only at hc hd hc2 hd2
 subst hc hd hc2 hd2
 have l1:=rv1.length
 have l2:=rv2.length
 have e:zcc.toArray++its2.toArray=(zcc++its2).toArray:=by simp
 refine concat_meets ⟨_,ho,rfl⟩ ⟨_,ho2,rfl⟩ noFill_list_add seq_list_add PySem.F.slot_list_add PySem.F.entry_list_add (PySem.F.args_list_add_2 _ _) (list_addW p q zcc.toArray its2.toArray n n2 dd dd2 sl sl2 (by simp;omega)) ⟨ho,ho2,?_⟩
 rw[e]
 refine⟨.ref s.heap.objs.size,_,I.laid (t':=s.toks) (o:=.lst (xs++ys)) (fun b o e=>zya _ e) (zyk _) ?_,rfl,h _ (I.hok.fresh (zyk _))⟩
 exact⟨by rw[zyc];exact hz,zcc++its2,0,rv1.append rv2,zyp _ rfl⟩
end
end L2
namespace L2
open PySem
section
variable {K:Frag}{a:Addr}{xs:List V}{σ:St}{js:List Nat}{te:TE}{H:Hp}{Qf:Addr->Hp->List V->Prop}
theorem zjt (R:Nat->V->Prop)(hq:zO K H a xs)(hz:xs.length<=sizeLine)
  (hs:∀(i:Nat) x H',xs[i]?=some x->Same H H'->te (Wv σ js (some x)) H' fun v H3=>R i v/\Same H H3)
  (me:∀ σ H Q Q',(∀v H1,Q v H1->Q' v H1)->te σ H Q->te σ H Q')
  (hd:∀ys H' p,ys.length=xs.length->(∀(i:Nat) y,ys[i]?=some y->R i y)->Same H H'->H' p=none->Qf p H' ys) :
  ∃W:Nat->Nat->List V->Hp->Prop,(∃m,W 0 m [] H)/\∀i m ys H,W i m ys H ->
   ((Itl K a).stop i H/\∀p,H p=none->Qf p H ys) \/
   ((Itl K a).go i H/\ys.length<sizeLine/\∀x H',(Itl K a).JZ i H x H'->zdg (Wv σ js (some x)) H' fun b H2 =>
    if b=true then te (Wv σ js (some x)) H2 fun v H3=>∃m',m'<m/\W (i+1) m' (ys++[v]) H3 else ∃m',m'<m/\W (i+1) m' ys H2):=by
 refine zjb (fun i ys H'=>Same H H'/\ys.length=i/\∀(j:Nat) y,ys[j]?=some y->R j y) ⟨Same.refl _,rfl,fun j y e=>by simp at e⟩ hz ?_ ?_ (fun _ _ _ _ h q=>h _ _ q) me ?_
 ·rintro i ys H' hi ⟨g,e,r⟩
  exact⟨g.seq hq,by omega⟩
 ·rintro i x ys H' hx ⟨g,e,r⟩
  show te (Wv σ js (some x)) H' fun v H3=>Same H H3/\(ys++[v]).length=i+1/\∀(j:Nat) y,(ys++[v])[j]?=some y->R j y
  refine me _ _ _ _ (fun v H3 h3=>⟨h3.2,by rw[zyc,e];rfl,fun j y ey=>?_⟩) (hs i x H' hx g)
  by_cases hj:j<ys.length
  ·rw[zyB hj] at ey
   exact r j y ey
  ·have lt:=(zx7.mp ey).1
   rw[zyc,zyC] at lt
   have ej:j=ys.length:=by omega
   subst ej
   simp at ey
   subst ey
   rw[e]
   exact h3.1
 ·rintro ys H' p ⟨g,e,r⟩ hp
  exact hd ys H' p e r g hp
end
end L2
namespace uh
open PySem L2 xV
def zrk (H0 H:Hp)(p:Addr)(r:List Bool):Prop:=H0 p=none/\H p=some (.lst (zY r))
end uh
namespace L2
open PySem
theorem znJ {X:Cx}{x y:Str}{px py pt:Pos}{x1:Nat}(hc:X.calm=true)(hN:X.N.Nodup)(h0:X.N[0]?=some x)(h1:X.N[1]?=some y)(hx:X.env.scope.names.lookup x=some .local)(hy:X.env.scope.names.lookup y=some .local):PG X (.Tuple [.Name x px,.Name y py] x1 pt) (zm5 X.K 2 (zbP (WL 0) (zbP (WL 1) zm4))) :=
 J5 hc (uW (yr hN h0 (.inl hx) (.inr hx)) (uW (yr hN h1 (.inl hy) (.inr hy)) Ni))
end L2
namespace L2
open PySem PySem.Spec PyProof.Rows
structure zlU (ZP sc:Scope)(x y:Str)(fv:List Str):Prop where
 g:zi8 ZP sc [x,y] fv
 hx:sc.names.lookup x=some .local
 hy:sc.names.lookup y=some .local
 nd:([x,y]++fv).Nodup
section
variable {X:Cx}{K:Frag}
theorem zgt {α:Type}(u:α):∀(n:Nat) (acc:Array α),List.foldl (fun x1 x2=>x1++x2) acc (List.replicate n #[u])=acc++(List.replicate n u).toArray
 | 0,acc=>by simp
 | n+1,acc=>by
  rw[List.replicate_succ,List.foldl_cons,zgt u n,List.replicate_succ]
  apply Array.ext'
  simp
theorem zko {prog:Program}{w:World}{A:Around}{E:Value->Shared->Prop}{s:Shared}{l:Addr}{items:Array Value}{k:Nat}{x:Int}{u:Tok}{Q:Value->Shared->Prop}
  (hl:s.heap.get? l=some { cls:=.type "list", dict:=none,data:=.seq items k,slots:=#[] })
  (hlo:-(2^63:Int)<=x)(hhi:x<2^63)(hsz:items.size*x.toNat<=2^24)
  (h:Q (.ref s.heap.objs.size) { s with heap:=s.heap.push { cls:=.type "list", data:=.seq (List.foldl (fun x1 x2=>x1++x2) #[] (List.replicate (if items.isEmpty=true then 0 else x.toNat) items)) } }) :
  wpAny (model prog w) A (binaryOp .Mult (.ref l) (.int x u)) Q E s :=
 wpAny_binaryOp_repeat_ref (T := "list") (U := "int") (by decide) ⟨_,hl,rfl⟩ (fun s'=>typeIs_int s' x u) noFill_list_mul PySem.F.fills_int_mul PySem.F.slot_int_rmul repeat_list PySem.F.slot_int_index.lookup
  (call_meets PySem.F.slot_int_rmul (typeIs_int s x u) PySem.F.entry_int_rmul (PySem.F.args_int_rmul_2 _ _) (int___rmul___int_list x u l items k)
   ⟨hl,rfl,⟨_,hl,rfl⟩,call_meets PySem.F.slot_list_mul ⟨_,hl,rfl⟩ PySem.F.entry_list_mul (PySem.F.args_list_mul_2 _ _)
    (AutoListH.list___mul___list_int_3 l items k x u (by simp[Builtin.List.listFitsIndex];omega) (by omega) (by simp[Builtin.List.listTooLong,sizeLine];omega))
    ⟨hl,h⟩⟩)
def zrl:R2:=fun x y H Q=>∃(p:Addr) (v:V) (n:Nat),x=.ref p/\y=.int n/\H p=some (.lst [v])/\n<=1000/\∀l,H l=none->Q (.ref l) (upd H l (.lst (List.replicate n v)))
theorem zbx:Qe X (binaryOp .Mult) zrl:=by
 intro pins s σ H x y vx vy Q I rx ry h
 obtain⟨p,v,n,rfl,rfl,hp,hn,q⟩:=h
 cases rx
 obtain⟨t,rfl⟩:=ry
 obtain⟨z,its,k,r,hl,e⟩:=I.zga hp
 obtain⟨u,rfl,ru⟩:=vals1 r
 have hsz:[u].toArray.size=1:=rfl
 refine zko e (by omega) (by omega) (by rw[hsz];omega) ?_
 have e2:List.foldl (fun x1 x2=>x1++x2) #[] (List.replicate (if [u].toArray.isEmpty=true then 0 else (n:Int).toNat) [u].toArray)=(List.replicate n u).toArray:=by
  have e3:(if [u].toArray.isEmpty=true then 0 else (n:Int).toNat)=n:=by simp
  rw[e3]
  have:=zgt u n #[]
  simpa using this
 rw[e2]
 refine⟨.ref s.heap.objs.size,_,I.laid (t':=s.toks) (o:=.lst (List.replicate n v)) (fun b o e=>zya _ e) (zyk _) ?_,rfl,q _ (I.hok.fresh (zyk _))⟩
 refine⟨by rw[List.length_replicate];exact zyn (zQ hn),List.replicate n u,0,?_,zyp _ rfl⟩
 clear e2 q hn
 induction n with
 | zero=>exact .nil
 | succ n ih=>exact .cons ru ih
end
end L2
namespace uh
open PySem L2 xV
def ux (ns:List Int)(i:Nat):Int:=(ns[i]?).getD 0
inductive NQ (K:Frag)(vs:List V)(H:Hp)(Q:VK)(E9:XK):Prop
 | mk (l:Addr) (ns:List Int) (i:Nat) (_:vs=[.ref l,.int i]) (_:zO K H l (ns.map V.int)) (_:Q (.int (ux ns i)) H):NQ K vs H Q E9
theorem Sn.zaT:∀s:Sn,s.count+1<=2^s.depth:=by
 have key:∀(d:Nat) (s:Sn),s.depth<=d->s.count+1<=2^d:=by
  intro d
  induction d with
  | zero=>intro s h;have:=Sn.Nm s;omega
  | succ d ih =>
   intro s h
   have hp:=Sn.zaP s
   have hl:=Sn.K4 s
   have hd:=Sn.Qw s
   have hc:∀t∈s.parts,t.count+1<=2^d:=fun t ht=>ih t (by have:=hd t ht;omega)
   have p1:1<=2^d:=Nat.one_le_two_pow
   rw[Nat.pow_succ,hp]
   match hs:s.parts,hl with
   | [],_=>simp;omega
   | [a],_ =>
    have:=hc a (by rw[hs];simp)
    simp;omega
   | [a,b],_ =>
    have h1:=hc a (by rw[hs];simp)
    have h2:=hc b (by rw[hs];simp)
    simp;omega
   | a::b::c::r,h=>simp at h
 exact fun s=>key _ s (zyk _)
end uh
namespace L2
open PySem
theorem zh2:bootBuiltins "max"=some (.builtin "max"):=by decide +kernel
theorem zpE:bootBuiltins "min"=some (.builtin "min"):=by decide +kernel
theorem zcd {xs:List V}{n:Nat}:TQ xs (some (n:Int)) none=xs.drop n:=by
 unfold TQ
 rw[HT.Nj,HT.zbS]
 by_cases h:n<=xs.length
 ·rw[Nat.min_eq_left h]
  exact List.take_of_length_le (by rw[List.length_drop];omega)
 ·rw[Nat.min_eq_right (by omega),List.drop_eq_nil_of_le (zyk _),List.drop_eq_nil_of_le (by omega)]
  simp
end L2
namespace uh
open PySem L2 xV
theorem zju {r:List Bool}{i:Nat}(h:i<r.length)(v:Bool):(zY r).take i++[V.int (v.toNat:Nat)]++(zY r).drop (i+1)=zY (r.set i v):=by
 rw[<-zlL,List.set_eq_take_append_cons_drop]
 rw[if_pos (by rw[zx4];exact h)]
 simp
theorem ztt:w2 0=Str.ofString "and" := rfl
theorem ztu:w2 1=Str.ofString "or" := rfl
theorem ztv:w2 2=Str.ofString "either" := rfl
theorem ztw:w2 3=Str.ofString "if" := rfl
theorem zrm {A B C D:V}(o:Fin 4):ZR (vB [] ([(Sum.inr "and", A),(Sum.inr "or", B),(Sum.inr "either", C),(Sum.inr "if", D)]:List (Key×V))) (Sum.inr (w2 o):Key)=some (match o with | 0=>A | 1=>B | 2=>C | 3=>D):=by
 have ne:∀{x y:Str},x≠y->¬((Sum.inr x:Key)=Sum.inr y):=fun h z=>h (Sum.inr.inj z)
 show ZR (putK (putK (putK (putK ([]:List (Key×V)) (Sum.inr "and") A) (Sum.inr "or") B) (Sum.inr "either") C) (Sum.inr "if") D) (Sum.inr (w2 o))=_
 rcases zpv o with e | e | e | e<;>subst e
 ·rw[ztt,wH,if_neg (ne (by decide +kernel)),wH,if_neg (ne (by decide +kernel)),wH,if_neg (ne (by decide +kernel)),wH,if_pos rfl]
 ·rw[ztu,wH,if_neg (ne (by decide +kernel)),wH,if_neg (ne (by decide +kernel)),wH,if_pos rfl]
 ·rw[ztv,wH,if_neg (ne (by decide +kernel)),wH,if_pos rfl]
 ·rw[ztw,wH,if_pos rfl]
def zlV (x:Addr)(H0 H:Hp)(p:Addr)(r:List Bool):Prop:=H0 p=none/\p≠x/\H p=some (.lst (zY r))
theorem zh3 {x:Addr}{H0 H H':Hp}{ps:List Addr}{es:List (List Bool)}(h:Paired (zlV x H0 H) ps es)(g:Same H H'):Paired (zlV x H0 H') ps es:=wG (fun _ _ r=>⟨r.1,r.2.1,g _ _ r.2.2⟩) h
theorem zkp {x:Addr}{H0 H:Hp}{ps:List Addr}{es:List (List Bool)}{o:HO}(h:Paired (zlV x H0 H) ps es):Paired (zlV x H0 (upd H x o)) ps es:=wG (fun _ _ r=>⟨r.1,r.2.1,by rw[zG r.2.1];exact r.2.2⟩) h
inductive Vg (vs:List V)(H:Hp)(Q:VK)(E9:XK):Prop
 | mk (n:Nat) (_:vs=[.int n]) (_:n<=8) (_:∀(l:Addr) (H':Hp) (ps:List Addr),Same H H'->H l=none->H' l=some (.lst (ps.map V.ref))->Paired (zrk H H') ps (allR n)->Q (.ref l) H'):Vg vs H Q E9
end uh
namespace xV
open PySem
def Qg:List Bool->List Bool->Bool
 | a::r,b::t=>if a==b then Qg r t else !a&&b
 | [],_::_=>true
 | _,[]=>false
theorem zce:∀{r t:List Bool},r.length=t.length->Qg r t=true->∀u v,Qg (r++[u]) (t++[v])=true
 | [],[],_,h,_,_=>by cases h
 | a::r,b::t,hl,h,u,v=>by
  show(if a==b then Qg (r++[u]) (t++[v]) else !a&&b)=true
  have h':(if a==b then Qg r t else !a&&b)=true:=h
  cases hab:a==b with
  | true =>
   rw[hab] at h'
   simp only[if_true] at h' ⊢
   exact zce (by simpa using hl) h' u v
  | false =>
   rw[hab] at h'
   exact h'
theorem zcf:∀(r:List Bool),Qg (r++[false]) (r++[true])=true
 | []=>rfl
 | a::r=>by
  show(if a==a then Qg (r++[false]) (r++[true]) else !a&&a)=true
  rw[beq_self_eq_true,if_pos rfl]
  exact zcf r
theorem zel:∀(l:List (List Bool)),(∀r∈l,∀t∈l,r.length=t.length)->l.Pairwise (fun r t=>Qg r t=true)->(l.flatMap fun r=>[r++[false],r++[true]]).Pairwise (fun r t=>Qg r t=true)
 | [],_,_=>List.Pairwise.nil
 | r::l,hl,h=>by
  rw[List.pairwise_cons] at h
  rw[List.flatMap_cons,List.pairwise_append]
  refine⟨List.pairwise_cons.mpr ⟨fun t ht=>?_,List.pairwise_cons.mpr ⟨fun t ht=>by simp at ht,List.Pairwise.nil⟩⟩,zel l (fun a ha b hb=>hl a (zyf _ ha) b (zyf _ hb)) h.2,fun a ha b hb=>?_⟩
  ·have e:t=r++[true]:=by simpa using ht
   rw[e]
   exact zcf r
  ·obtain⟨t,ht,hb'⟩:=List.mem_flatMap.mp hb
   have hrt:=h.1 t ht
   have hlen:=hl r zyo t (zyf _ ht)
   have ea:a=r++[false]\/a=r++[true]:=by simpa using ha
   have eb:b=t++[false]\/b=t++[true]:=by simpa using hb'
   rcases ea with ea | ea<;>rcases eb with eb | eb<;>rw[ea,eb]<;>exact zce hlen hrt _ _
theorem zem:∀n,(allR n).Pairwise (fun r t=>Qg r t=true)
 | 0=>List.pairwise_cons.mpr ⟨fun t ht=>by simp at ht,List.Pairwise.nil⟩
 | n+1=>zel _ (fun r hr t ht=>(Yz n r hr).trans (Yz n t ht).symm) (zem n)
end xV
namespace L2
open PySem PySem.Spec PyProof.Rows
theorem zrn {x:V}{p q:Prop}(h:q):if (!decide (x=x))=true then p else q:=by
 rw[decide_eq_true rfl]
 exact h
theorem zh4 {x y:V}{p q:Prop}(e:x=y)(h:q):if (!decide (x=y))=true then p else q:=by
 subst e
 exact zrn h
section
variable {X:Cx}
def znK (K:Frag):V->List V->Hp->VK->Prop:=fun x vs H Q=>∃(l:Addr) (xs:List V) (y:V) (e:V->Bool) (j:Nat),x=.ref l/\vs=[y]/\zO K H l xs/\(∀z∈xs,Ks K H 8 z y (e z))/\xs.findIdx? e=some j/\Q (.int (j:Nat)) H
theorem zkq {K:Frag}(hK:X.K=K)(hu:X.A.units+9<cLine):MtM X "list.index" (znK K):=by
 subst hK
 intro pins s σ H x vs v us Q I rx rv h
 obtain⟨l,xs,y,e,j,rfl,rfl,hq,he,hj,q⟩:=h
 cases rx
 obtain⟨u,rfl,ru⟩:=rv.one
 obtain⟨its,r,⟨o,n,e0,hc,hd,hdat⟩,hz⟩:=I.list hq
 obtain⟨cls,dd,dt,sl⟩:=o
 have hc':cls=.type "list" := hc
 have hdat':dt=.seq its.toArray n:=hdat
 subst hc' hdat'
 obtain⟨f,f1,f2⟩:=zpz r he
 have hl:=r.length
 have hn:=U0
 obtain⟨h1,h2,h3⟩:=List.findIdx?_eq_some_iff_getElem.mp hj
 have at_:∀m (hm:m<its.length),f its[m]=e (xs[m]'(by omega)):=fun m hm=>f1 m _ _ (zx5 (by omega)) (zx5 hm)
 refine call_meets F.slot_list_index ⟨_,e0,rfl⟩ F.entry_list_index (F.args_list_index_2 _ _) (SeqAt.list_indexAt l its.toArray n dd sl u f j (by simp;omega) (by omega) (by simp only[List.getElem_toArray];rw[at_];exact h2) (fun m hm hlt=>?_)) ⟨e0,fun w hw=>?_,?_⟩
 ·have hm':m<its.length:=by simpa using hm
  simp only[List.getElem_toArray]
  rw[at_ m hm']
  exact Bool.eq_false_iff.mpr (h3 m hlt)
 ·have hw':w∈its:=by simpa using hw
  obtain⟨i,hi,ew⟩:=zyN hw'
  have hx:i<xs.length:=by omega
  obtain⟨w',hw2,rw'⟩:=r.get (zx5 hx)
  rw[zx5 hi,ew] at hw2
  cases hw2
  have z:=at_ i hi
  rw[ew] at z
  rw[z]
  exact(he _ (zyM hx)).at I rw' ru (by show X.A.units+1+8<cLine;omega)
 exact⟨.int (j:Nat),H,I.tok _,⟨_,rfl⟩,q⟩
end
end L2
namespace xV
open uh
def anyB (n:Nat)(f:Nat->Bool):Bool:=(List.range (2^n)).any f
theorem anyB_iff {n:Nat}{f:Nat->Bool}:anyB n f=true↔∃b,b<2^n/\f b=true:=by
 unfold anyB
 rw[List.any_eq_true]
 exact⟨fun⟨b,h,e⟩=>⟨b,List.mem_range.mp h,e⟩,fun⟨b,h,e⟩=>⟨b,List.mem_range.mpr h,e⟩⟩
theorem KZ {n N:Nat}{f:Nat->Bool}(h:zV n N f):decide (N=0)=!anyB n f:=by
 by_cases e:N=0
 ·subst e
  rw[decide_eq_true rfl]
  cases hb:anyB n f with
  | false=>rfl
  | true =>
   obtain⟨b,hb,e⟩:=anyB_iff.mp hb
   have:=K9 h hb
   rw[e,Nat.zero_testBit] at this
   cases this
 ·rw[decide_eq_false e]
  cases hb:anyB n f with
  | true=>rfl
  | false =>
   exfalso
   refine e (Nat.eq_of_testBit_eq fun i=>?_)
   rw[h i,Nat.zero_testBit]
   by_cases hi:i<2^n
   ·cases hf:f i with
    | false=>rw[Bool.and_false]
    | true=>rw[anyB_iff.mpr ⟨i,hi,hf⟩] at hb;cases hb
   ·rw[decide_eq_false hi];rfl
def fvP (n:Nat):(Nat->Bool)->List Nat->List Bool
 | _,[]=>[]
 | f,p::ps=>(!anyB n fun b=>f (zN b p false))::fvP n (fun b=>f (zN b p (!anyB n fun b=>f (zN b p false)))) ps
end xV
namespace uh
open PySem L2 xV
theorem zlW {r t:List Bool}(h:zY r=zY t):r=t:=by
 unfold zY at h
 refine List.map_inj_right (f:=fun b:Bool=>V.int (b.toNat:Nat)) (fun a b e=>?_) |>.mp h
 cases a<;>cases b<;>first | rfl | (injection e with e;cases e)
inductive U5 (K:Frag)(vs:List V)(H:Hp)(Q:VK)(E9:XK):Prop
 | mk (N n:Nat) (f:Nat->Bool) (pl:Addr) (ps:List Nat) (_:vs=[.int N,.ref pl,.int n]) (_:n<=8) (_:zV n N f) (_:zO K H pl (ps.map fun p=>V.int (p:Nat))) (_:(∀p∈ps,p<n)) (_:ps.length<=1000) (_:∀(l:Addr) (H':Hp),Same H H'->H l=none->H' l=some (.lst (zY (fvP n f ps)))->Q (.ref l) H'):U5 K vs H Q E9
end uh
namespace xV
open PySem uh
def upR (n:Nat)(x:Rm):Bool:=match x with | some (i,_,_)=>decide (i+2<n) | none=>false
def hiN (n:Nat)(rs:List Rm):Nat:=(rs.filter (upR n)).length
theorem znM {n:Nat}{rs:List Rm}{p lo hi:Nat}:hiN n (rs++[some (p,lo,hi)])=hiN n rs+if p+2<n then 1 else 0:=by
 unfold hiN
 rw[zyJ,zyc]
 congr 1
 by_cases h:p+2<n
 ·rw[if_pos h,List.filter_cons_of_pos (show upR n (some (p,lo,hi))=true from decide_eq_true h)]
  rfl
 ·rw[if_neg h,List.filter_cons_of_neg (show ¬upR n (some (p,lo,hi))=true from fun z=>h (of_decide_eq_true z))]
  rfl
def znN (n:Nat)(rs:List Rm)(k:Nat):Bool×Bool×Bool×Bool :=
 (yes rs k (fun i=>if i+1=n then false else false),yes rs k (fun i=>if i+1=n then true else false),yes rs k (fun i=>if i+1=n then false else true),yes rs k (fun i=>if i+1=n then true else true))
theorem znO {n:Nat}{rs:List Rm}(B:Bk n rs){j k:Nat}(hj:j<rs.length)(hk:k<rs.length)(lj:n<=Mv n rs j+2)(lk:n<=Mv n rs k+2)(e:znN n rs j=znN n rs k):j=k:=by
 unfold znN at e
 rw[Prod.mk.injEq,Prod.mk.injEq,Prod.mk.injEq] at e
 obtain⟨e0,e1,e2,e3⟩:=e
 have key:∀{m:Nat},m<rs.length->n<=Mv n rs m+2->∀r:Row,yes rs m r=yes rs m (fun i=>if i+1=n then r (n-1) else r (n-2)):=fun {m} hm lm r=>by
  refine T6 B m m (zyk _) hm fun i h1 h2=>?_
  by_cases h:i+1=n
  ·rw[if_pos h,show i=n-1 by omega]
  ·rw[if_neg h,show i=n-2 by omega]
 refine Wh B (max j k) j k ⟨Nat.le_max_left _ _,Nat.le_max_right _ _⟩ hj hk fun r=>?_
 rw[key hj lj r,key hk lk r]
 cases r (n-1)<;>cases r (n-2)
 ·exact e0
 ·exact e2
 ·exact e1
 ·exact e3
def zro:List (Bool×Bool×Bool×Bool):=[false,true].flatMap fun a=>[false,true].flatMap fun b=>[false,true].flatMap fun c=>[false,true].map fun d=>(a,b,c,d)
theorem zlX:∀x:Bool×Bool×Bool×Bool,x∈zro:=by
 rintro⟨a,b,c,d⟩
 cases a<;>cases b<;>cases c<;>cases d<;>decide
theorem zgu {α:Type}(f:α->Bool)(d:α):∀l:List α,(l.filter f).length=((List.range l.length).filter fun i=>f (l.getD i d)).length
 | []=>rfl
 | a::l=>by
  have ih:=zgu f d l
  rw[zyg,List.range_succ_eq_map,List.filter_cons,List.filter_cons,List.filter_map,]
  have e:((List.range l.length).filter ((fun i=>f ((a::l).getD i d)) ∘ Nat.succ))=((List.range l.length).filter fun i=>f (l.getD i d)):=rfl
  rw[e]
  show(if f a=true then a::l.filter f else l.filter f).length=(if f a=true then 0::_ else _).length
  cases f a
  ·rw[if_neg zx8,if_neg zx8,zx4]
   exact ih
  ·rw[if_pos rfl,if_pos rfl,zyg,zyg,zx4,ih]
theorem zen {α:Type}(f:α->Bool):∀l:List α,l.length=(l.filter f).length+(l.filter fun a=>!f a).length
 | []=>rfl
 | a::l=>by
  have ih:=zen f l
  cases h:f a
  ·rw[List.filter_cons_of_neg (by rw[h];exact zx8),List.filter_cons_of_pos (p:=fun a=>!f a) (by rw[h];rfl),zyg,zyg]
   omega
  ·rw[List.filter_cons_of_pos h,List.filter_cons_of_neg (p:=fun a=>!f a) (by rw[h];exact zx8),zyg,zyg]
   omega
theorem zpF {n:Nat}{rs:List Rm}(B:Bk n rs):rs.length<=hiN n rs+16:=by
 have e1:=zen (fun i=>upR n (rs.getD i none)) (List.range rs.length)
 rw[zym,<-zgu] at e1
 have e2:((List.range rs.length).filter fun i=>!upR n (rs.getD i none)).length<=16:=by
  have nd:(((List.range rs.length).filter fun i=>!upR n (rs.getD i none)).map (znN n rs)).Nodup:=by
   have h:=(List.nodup_range (n:=rs.length)).filter (fun i=>!upR n (rs.getD i none))
   show List.Pairwise _ _
   rw[List.pairwise_map]
   refine List.Pairwise.imp_of_mem (fun {j k} hj hk ne e=>ne ?_) h
   obtain⟨j1,j2⟩:=List.mem_filter.mp hj
   obtain⟨k1,k2⟩:=List.mem_filter.mp hk
   have lv:∀m,m<rs.length->(!upR n (rs.getD m none))=true->n<=Mv n rs m+2:=fun m hm hu=>by
    unfold Mv
    rw[zyh] at hu
    cases hx:rs[m]? with
    | none=>show n<=n+2;omega
    | some x =>
     rw[hx] at hu
     cases x with
     | none=>show n<=n+2;omega
     | some t =>
      obtain⟨i,lo,hi⟩:=t
      have:¬i+2<n:=fun z=>by
       have:upR n (some (i,lo,hi))=true:=decide_eq_true z
       simp[this] at hu
      show n<=i+2
      omega
   exact znO B (List.mem_range.mp j1) (List.mem_range.mp k1) (lv j (List.mem_range.mp j1) j2) (lv k (List.mem_range.mp k1) k2) e
  have:=zb1 nd (ys:=zro) fun x _=>zlX x
  rw[zx4] at this
  exact this
 unfold hiN
 omega
def bH (n u:Nat):Nat:=2^(n-2-u)-1
theorem znP {n u p:Nat}(h:u<=p):bH n (p+1)+bH n (p+1)+(if p+2<n then 1 else 0)<=bH n u:=by
 unfold bH
 by_cases hp:p+2<n
 ·rw[if_pos hp]
  have e:n-2-p=(n-2-(p+1))+1:=by omega
  have m:2^(n-2-p)<=2^(n-2-u):=zyA (by decide) (by omega)
  have p1:1<=2^(n-2-(p+1)):=Nat.one_le_two_pow
  rw[e,Nat.pow_succ] at m
  omega
 ·rw[if_neg hp,show n-2-(p+1)=0 by omega]
  show 1-1+(1-1)+0<=_
  omega
theorem ztx {n:Nat}(h:n<=8):bH n 0<=63:=by
 have:2^(n-2-0)<=2^6:=zyA (by decide) (by omega)
 have e:2^6=64:=rfl
 unfold bH
 omega
end xV
namespace uh
open PySem L2 xV
section
variable (C:Addr)(K:Frag)
inductive Wj (d:Nat)(vs:List V)(H:Hp)(Q:VK)(E9:XK):Prop
 | mk (b:Addr) (os:List Str) (rs:List Rm) (F:vC) (t u:Nat) (f:Nat->Bool) (_:vs=[.ref b,.int t]) (_:yD C H b os rs F) (_:rs.length+2^d<=9000000) (_:u<=os.length) (_:os.length+1<=u+d) (_:zV os.length t f) (_:(∀i,i<u->Free os.length f i)) (_:∀(k:Nat) (rs':List Rm) (H':Hp),znG F H H'->yJ H H'->yD C H' b os rs' F->tW rs rs'->k<rs'.length->(∀r,yes rs' k r=f (bits r os.length))->rs'.length+1<=rs.length+2^d->(∀j,rs.length<=j->j<rs'.length->u<=Mv os.length rs' j)->hiN os.length rs'<=hiN os.length rs+bH os.length u->Q (.int (k:Nat)) H'):Wj d vs H Q E9
def zrp (b:Addr)(os:List Str)(H:Hp)(rs:List Rm)(F:vC)(f:Row->Bool)(Q:VK):Prop:=∀(k:Nat) (rs':List Rm) (H':Hp),znG F H H'->yJ H H'->yD C H' b os rs' F->tW rs rs'->Means rs' k f->hiN os.length rs'<=hiN os.length rs+63->Q (.int (k:Nat)) H'
inductive zcg (vs:List V)(H:Hp)(Q:VK)(E9:XK):Prop
 | mk (b p:Addr) (os:List Str) (rs:List Rm) (F:vC) (s:Sn) (_:vs=[.ref b,.ref p]) (_:yD C H b os rs F) (_:rs.length<=8000000) (_:TJ H s p) (_:s.Ve os) (_:s.count<=200) (_:s.depth<=24) (_:zrp C b os H rs F (fun r=>s.val (zkl os r)) Q):zcg vs H Q E9
end
structure Ls (C:Addr)(H0:Hp)(b:Addr)(os:List Str)(m:Nat)(H:Hp)(rs:List Rm)(F:vC):Prop where
 same:Same H0 H
 away:∀x,F x->H0 x=none
 bk:yD C H b os rs F
 hi:hiN os.length rs<=m
section
variable {C:Addr}{H0:Hp}{b:Addr}{os:List Str}{m:Nat}{H:Hp}{rs:List Rm}{F:vC}
theorem Ls.len (h:Ls C H0 b os m H rs F):rs.length<=m+16:=zyq (zpF ((yX C).bk h.bk)) (Nat.add_le_add_right h.hi _)
theorem Ls.new (h:Ls C H0 b os m H rs F){H':Hp}(g:Same H H'):Ls C H0 b os m H' rs F:=⟨h.same.trans g,h.away,(yX C).same h.bk g,h.hi⟩
end
theorem Ls.up {C:Addr}{H0:Hp}{b:Addr}{os:List Str}{m m':Nat}{H:Hp}{rs:List Rm}{F:vC}(h:Ls C H0 b os m H rs F)(hm:m<=m'):Ls C H0 b os m' H rs F:=⟨h.same,h.away,h.bk,zyq h.hi hm⟩
theorem zeo {os:List Str}{p:Nat}{x:Str}(nd:os.Nodup)(h:os[p]?=some x):ix os x=p:=by
 have hp:=(zx7.mp h).1
 obtain⟨_,h2,h3⟩:=vI (zx9 h)
 exact(List.getElem?_inj h2 nd).mp (h3.trans h.symm)
end uh
namespace L2
open PySem PySem.Spec PyProof.Rows
theorem zjw {K:Frag}{a b:Addr}{xs ys:List V}{g:TG}{tb:TS}{D:Ends}{σ:St}{H:Hp}(hlen:xs.length=ys.length)(Pv:Nat->St->Hp->Prop)(h0:Pv 0 σ H)(hl:∀i σ H,i<=xs.length->Pv i σ H->zO K H a xs/\zO K H b ys)
  (hs:∀i x y σ H p,xs[i]?=some x->ys[i]?=some y->Pv i σ H->H p=none->g (.ref p) σ (upd H p (.tup [x,y])) fun σ2 H2=>tb { D with nx:=Pv (i+1),ct:=Pv (i+1),bk:=D.nx } σ2 H2)(hd:∀ σ H,Pv xs.length σ H->D.nx σ H) :
  ∃W:Nat->Nat->St->Hp->Prop,(∃m,W 0 m σ H)/\∀i m σ H,W i m σ H ->
   ((Itz K a b).stop i H/\D.nx σ H)\/((Itz K a b).go i H/\∃N:St->Hp->Prop,(∀ σ' H',N σ' H'->∃m',m'<m/\W (i+1) m' σ' H')/\∀x H',(Itz K a b).JZ i H x H'->g x σ H' fun σ2 H2=>tb { D with nx:=N,ct:=N,bk:=D.nx } σ2 H2):=by
 refine⟨fun i m σ H=>m=xs.length-i/\i<=xs.length/\Pv i σ H,⟨xs.length,by simp,zyr _,h0⟩,?_⟩
 rintro i m σ H ⟨rfl,hi,p⟩
 obtain⟨q,q'⟩:=hl i σ H hi p
 by_cases hlt:i<xs.length
 ·refine .inr ⟨⟨xs,ys,_,_,q,q',zx5 hlt,zx5 (l:=ys) (i:=i) (by omega)⟩,Pv (i+1),fun σ' H' p'=>⟨xs.length-(i+1),by omega,rfl,hlt,p'⟩,fun x H' y=>?_⟩
  obtain⟨pp,u,v,hu,hv,rfl,hn,rfl⟩:=y
  exact hs i u v σ H pp (hu xs q) (hv ys q') p hn
 ·have e:i=xs.length:=by omega
  subst e
  exact .inl ⟨⟨xs,ys,q,q',.inl (zyk _)⟩,hd σ H p⟩
section
variable {X:Cx}{K:Frag}{o e:Expr}{es:List Expr}{to:TE}{t:TA}{name:Str}{apos cpos:Pos}{T id:String}{r:V->List V->Hp->VK->Prop}
theorem zh5 (hK:X.K=K)(pa:PlainAttrs T)(slot:Slot T name id)(hty:typeOf (.builtin id)=pure (.type "method_descriptor"))(hm:MtR X id r)(ho:PE X o to)(ha:PA X (e::es) t)
  (hbase:attributeBase o name X.env (eval o X.env)=eval o X.env:=by rfl)
  (hfew:((backTo cpos (starEach (e::es) X.env)).all (fun x=>!x.1)&&(backToKw cpos (keywordEach [] X.env)).all (fun x=>x.1.isSome)
   && decide ((e::es).length+([]:List Keyword).length+(if ([]:List Keyword).isEmpty then 0 else 1)<30))=true:=by rfl)
  (hline:(apos.endLine==cpos.line)=true:=by rfl)(hs:starEach (e::es) X.env=(false,eval e X.env)::starEach es X.env:=by rfl)(hplain:(backTo cpos (starEach es X.env)).any (·.1)=false:=by rfl) :
  PE X (.Call (.Attribute o name apos) (e::es) [] cpos) (tBM K T r to t):=by
 subst hK
 exact vd pa slot hty hm ho ha hbase hfew hline hs hplain
theorem zep (hK:X.K=K):MtR X "list.index" (zlr K):=by subst hK;exact T3
end
theorem zjx {X:Cx}{sc ZP:Scope}{x y:Str}{js:List Nat}{elt iter c:Expr}{px py pt pos:Pos}{x1:Nat}{wi:TI}{te:TE}{tt:TT}(U4:X.env.scope=ZP)(L:zlU ZP sc x y (js.map fun j=>X.N.getD j ""))(hc:X.calm=true)(hi:PI X (.Tuple [.Name x px,.Name y py] x1 pt) iter wi)(hjs:∀j∈js,j<X.N.length)
  (ht:∀(cl:List (Str×Addr)) (C:Addr) (s₂:Shared) (H₂:Hp) (fp:List Addr),PT (X.blk sc cl C (Kr X [x,y] js) s₂ H₂ fp) c tt)
  (he:∀(cl:List (Str×Addr)) (C:Addr) (s₂:Shared) (H₂:Hp) (fp:List Addr),PE (X.blk sc cl C (Kr X [x,y] js) s₂ H₂ fp) elt te)
  (hs:∀x,foldedSetIterable iter X.env x=pure x:=by intro _;rfl) :
  PE X (.ListComp elt [⟨.Tuple [.Name x px,.Name y py] x1 pt,iter,[c],0⟩] sc pos) (zqZ wi [x,y] js (zm5 X.K 2 (zbP (WL 0) (zbP (WL 1) zm4))) tt te) :=
 zpD U4 L.g hc hi (fun cl C s₂ H₂ fp=>znJ (X:=X.blk sc cl C (Kr X [x,y] js) s₂ H₂ fp) hc L.nd rfl rfl (lookup_relabel_local L.hx) (lookup_relabel_local L.hy)) hjs (fun cl C s₂ H₂ fp pins s' σ' H' Q I h=>wpAny_tests_one (ht cl C s₂ H₂ fp pins s' σ' H' Q I h)) he hs
theorem zgv {K:Frag}{a:Addr}{xs:List V}{σ:St}{js:List Nat}{tt:TT}{te:TE}{H:Hp}{Qf:Addr->Hp->List V->Prop}{x y:Str}(Pv:Nat->List V->Hp->Prop)(h0:Pv 0 [] H)(hz:xs.length<=sizeLine)
  (hl:∀i ys H,i<=xs.length->Pv i ys H->vL K H a xs/\ys.length<=i)
  (hs:∀i v ys H,xs[i]?=some v->Pv i ys H->∃(p:Addr) (u w:V),v=.ref p/\vL K H p [u,w]/\tt (lcT σ js [some u,some w]) H fun b H2=>if b=true then te (lcT σ js [some u,some w]) H2 fun z H3=>Pv (i+1) (ys++[z]) H3 else Pv (i+1) ys H2)
  (mt:∀ σ H Q Q',(∀b H1,Q b H1->Q' b H1)->tt σ H Q->tt σ H Q')(me:∀ σ H Q Q',(∀v H1,Q v H1->Q' v H1)->te σ H Q->te σ H Q')
  (hd:∀ys H p,Pv xs.length ys H->H p=none->Qf p H ys) :
  ∃W:Nat->Nat->List V->Hp->Prop,(∃m,W 0 m [] H)/\∀i m zs H,W i m zs H ->
   ((Itt K a).stop i H/\∀p,H p=none->Qf p H zs) \/
   ((Itt K a).go i H/\zs.length<sizeLine/\∀v H',(Itt K a).JZ i H v H'->∀o0:List (Option V),o0.length=[x,y].length->zm5 K 2 (zbP (WL 0) (zbP (WL 1) zm4)) v (lcT σ js o0) H' fun σ2 H1=>∃o1,σ2=lcT σ js o1/\o1.length=[x,y].length/\tt σ2 H1 fun b H2 =>
    if b=true then te σ2 H2 fun v H3=>∃m',m'<m/\W (i+1) m' (zs++[v]) H3 else ∃m',m'<m/\W (i+1) m' zs H2):=by
 refine⟨fun i m ys H=>m=xs.length-i/\i<=xs.length/\Pv i ys H,⟨xs.length,by simp,zyr _,h0⟩,?_⟩
 rintro i m ys H ⟨rfl,hi,p⟩
 obtain⟨q,hy⟩:=hl i ys H hi p
 by_cases hlt:i<xs.length
 ·refine .inr ⟨⟨xs,xs[i],q,by simp[hlt]⟩,by omega,fun v H' y o0 l0=>?_⟩
  obtain⟨e,y⟩:=y
  subst e
  obtain⟨pp,u,w,rfl,hp,ht⟩:=hs i v ys _ (y xs q) p
  have eσ:((lcT σ js o0).set 0 (some u)).set 1 (some w)=lcT σ js [some u,some w]:=by
   match o0,l0 with
   | [a0,a1],_=>rfl
  refine⟨pp,[u,w],rfl,hp,rfl,u,[w],rfl,w,[],rfl,rfl,[some u,some w],eσ,rfl,?_⟩
  rw[eσ]
  refine mt _ _ _ _ (fun b H2 h2=>?_) ht
  cases b with
  | true =>
   rw[if_pos rfl] at h2 ⊢
   exact me _ _ _ _ (fun v H3 h3=>⟨_,by omega,rfl,hlt,h3⟩) h2
  | false =>
   rw[if_neg zx8] at h2 ⊢
   exact⟨_,by omega,rfl,hlt,h2⟩
 ·have e:i=xs.length:=by omega
  subst e
  exact .inl ⟨⟨xs,q,zyk _⟩,fun r hr=>hd _ _ r p hr⟩
end L2
namespace uh
open PySem L2 xV
def zch:List Nat->(Nat->Bool)->Nat->Bool
 | [],f=>f
 | p::ps,f=>zch ps fun c=>f c||f (zN c p (!c.testBit p))
theorem zeq (p:Nat):∀(ps:List Nat) (f:Nat->Bool),zch (ps++[p]) f=fun c=>zch ps f c||zch ps f (zN c p (!c.testBit p))
 | [],_=>rfl
 | q::ps,f=>by show zch (ps++[p]) _=_;rw[zeq p ps];rfl
def zci:List (Nat×Nat)->(Nat->Bool)->Nat->Bool
 | [],f=>f
 | pq::r,f=>zci r fun c=>if c.testBit pq.2 then f (zN c pq.1 true) else f (zN c pq.1 false)
theorem zer (pq:Nat×Nat):∀(r:List (Nat×Nat)) (f:Nat->Bool),zci (r++[pq]) f=fun c=>if c.testBit pq.2 then zci r f (zN c pq.1 true) else zci r f (zN c pq.1 false)
 | [],_=>rfl
 | q::r,f=>by show zci (r++[pq]) _=_;rw[zer pq r];rfl
def yd (ps:List Nat):List V:=ps.map fun p=>V.int (p:Nat)
inductive Ja (K:Frag)(vs:List V)(H:Hp)(Q:VK)(E9:XK):Prop
 | mk (N n:Nat) (f:Nat->Bool) (l:Addr) (ps:List Nat) (_:vs=[.int N,.ref l,.int n]) (_:n<=8) (_:zV n N f) (_:zO K H l (yd ps)) (_:(∀p∈ps,p<n)) (_:∀R:Nat,zV n R (zch ps f)->Q (.int R) H):Ja K vs H Q E9
inductive zby (K:Frag)(vs:List V)(H:Hp)(Q:VK)(E9:XK):Prop
 | mk (N n:Nat) (f:Nat->Bool) (l m:Addr) (ps qs:List Nat) (_:vs=[.int N,.ref l,.ref m,.int n]) (_:n<=8) (_:zV n N f) (_:zO K H l (yd ps)) (_:zO K H m (yd qs)) (_:ps.length=qs.length) (_:ps.length<=8) (_:(∀p∈ps,p<n)) (_:(∀p∈qs,p<n)) (_:∀(R:Nat) (H':Hp),Same H H'->zV n R (zci (ps.zip qs) f)->Q (.int R) H'):zby K vs H Q E9
def prs:List (Str×Str):=[("a", "e"),("b", "f"),("c", "g"),("d", "h")]
def z9 (os:List Str):List Str:=(prs.filter fun p=>os.contains p.1).map (·.1)
def uX (os:List Str):List Str:=(prs.filter fun p=>os.contains p.2).map (·.2)
inductive Vv (C:Addr)(vs:List V)(H:Hp)(Q:VK)(E9:XK):Prop
 | mk (b:Addr) (os:List Str) (rs:List Rm) (F:vC) (_:vs=[.ref b]) (_:yD C H b os rs F) (_:∀(l:Addr) (H':Hp),Same H H'->H l=none->H' l=some (.lst ((z9 os).map V.str))->Q (.ref l) H'):Vv C vs H Q E9
inductive QG (C:Addr)(vs:List V)(H:Hp)(Q:VK)(E9:XK):Prop
 | mk (b:Addr) (os:List Str) (rs:List Rm) (F:vC) (_:vs=[.ref b]) (_:yD C H b os rs F) (_:∀(l:Addr) (H':Hp),Same H H'->H l=none->H' l=some (.lst ((uX os).map V.str))->Q (.ref l) H'):QG C vs H Q E9
inductive Yp (C:Addr)(vs:List V)(H:Hp)(Q:VK)(E9:XK):Prop
 | mk (b:Addr) (os:List Str) (rs:List Rm) (F:vC) (_:vs=[.ref b]) (_:yD C H b os rs F) (_:∀(l:Addr) (H':Hp),Same H H'->H l=none->H' l=some (.lst (yd ((z9 os).map (ix os))))->Q (.ref l) H'):Yp C vs H Q E9
inductive YB (C:Addr)(vs:List V)(H:Hp)(Q:VK)(E9:XK):Prop
 | mk (b:Addr) (os:List Str) (rs:List Rm) (F:vC) (_:vs=[.ref b]) (_:yD C H b os rs F) (_:∀(l:Addr) (H':Hp),Same H H'->H l=none->H' l=some (.lst (yd ((uX os).map (ix os))))->Q (.ref l) H'):YB C vs H Q E9
theorem Jb {os:List Str}{x:Str}:inV (.str x) (os.map V.str)=os.contains x:=by
 unfold inV
 rw[List.any_map]
 induction os with
 | nil=>rfl
 | cons a l ih =>
  rw[List.any_cons,List.contains_cons,ih]
  show((a==x)||l.contains x)=((x==a)||l.contains x)
  rw[Bool.beq_comm]
theorem zcj {os:List Str}{x:Str}(h:x∈z9 os):x∈os:=by
 obtain⟨p,hp,e⟩:=List.mem_map.mp h
 rw[<-e]
 exact List.contains_iff_mem.mp (List.mem_filter.mp hp).2
theorem zam {os:List Str}{x:Str}(h:x∈uX os):x∈os:=by
 obtain⟨p,hp,e⟩:=List.mem_map.mp h
 rw[<-e]
 exact List.contains_iff_mem.mp (List.mem_filter.mp hp).2
def yx (os:List Str):Prop:=∀p∈prs,os.contains p.1=os.contains p.2
theorem yx.len {os:List Str}(h:yx os):(z9 os).length=(uX os).length:=by
 unfold z9 uX
 rw[zx4,zx4,List.filter_congr fun p hp=>h p hp]
theorem wV (os:List Str):(z9 os).length<=4:=by
 show((prs.filter _).map _).length<=4
 rw[zx4]
 exact zyD _ _
def yg (os:List Str):List Nat:=(z9 os).map (ix os)
def zW (os:List Str):List Nat:=(uX os).map (ix os)
theorem YC {os:List Str}:∀p∈yg os,p<os.length:=fun p hp=>by
 obtain⟨x,hx,e⟩:=List.mem_map.mp hp
 rw[<-e]
 exact(vI (zcj hx)).2.1
theorem ZS {os:List Str}:∀p∈zW os,p<os.length:=fun p hp=>by
 obtain⟨x,hx,e⟩:=List.mem_map.mp hp
 rw[<-e]
 exact(vI (zam hx)).2.1
def W0 (os:List Str)(t f:Nat->Bool):Nat->Bool:=zci ((zW os).zip (yg os)) (zch (yg os) fun b=>f b&&t b)
def zh6 (os:List Str)(t f:Nat->Bool):Nat->Bool:=zch (zW os) fun b=>zci ((yg os).zip (zW os)) f b&&t b
inductive zbz (C:Addr)(vs:List V)(H:Hp)(Q:VK)(E9:XK):Prop
 | mk (b:Addr) (os:List Str) (rs:List Rm) (F:vC) (k N:Nat) (f:Nat->Bool) (_:vs=[.ref b,.int (k:Nat),.int (N:Nat)]) (_:yD C H b os rs F) (_:k<rs.length) (_:yx os) (_:zV os.length N f) (_:∀(R:Nat) (H':Hp),Same H H'->zV os.length R (W0 os (fun b=>yes rs k (Rv b)) f)->Q (.int R) H'):zbz C vs H Q E9
inductive zck (C:Addr)(vs:List V)(H:Hp)(Q:VK)(E9:XK):Prop
 | mk (b:Addr) (os:List Str) (rs:List Rm) (F:vC) (k N:Nat) (f:Nat->Bool) (_:vs=[.ref b,.int (k:Nat),.int (N:Nat)]) (_:yD C H b os rs F) (_:k<rs.length) (_:yx os) (_:zV os.length N f) (_:∀(R:Nat) (H':Hp),Same H H'->zV os.length R (zh6 os (fun b=>yes rs k (Rv b)) f)->Q (.int R) H'):zck C vs H Q E9
inductive QJ (C:Addr)(vs:List V)(H:Hp)(Q:VK)(E9:XK):Prop
 | mk (b:Addr) (os:List Str) (rs:List Rm) (F:vC) (_:vs=[.ref b]) (_:yD C H b os rs F) (_:yx os) (_:∀H',Same H H'->Q .non H'):QJ C vs H Q E9
def Vw (os:List Str)(rs:List Rm)(k:Nat):Prop:=k<rs.length/\∀p∈zW os,Free os.length (fun b=>yes rs k (Rv b)) p
inductive zan (C:Addr)(vs:List V)(H:Hp)(Q:VK)(E9:XK):Prop
 | mk (b:Addr) (os:List Str) (rs:List Rm) (F:vC) (k:Nat) (_:vs=[.ref b,.int (k:Nat)]) (_:yD C H b os rs F) (_:Vw os rs k) (_:∀H',Same H H'->Q .non H'):zan C vs H Q E9
inductive Vx (C:Addr)(K:Frag)(vs:List V)(H:Hp)(Q:VK)(E9:XK):Prop
 | mk (b l:Addr) (os:List Str) (rs:List Rm) (F:vC) (k:Nat) (ks:List Nat) (_:vs=[.ref b,.int (k:Nat),.ref l]) (_:yD C H b os rs F) (_:yx os) (_:k<rs.length) (_:zO K H l (yd ks)) (_:(∀j∈ks,Vw os rs j)) (_:∀H',Same H H'->Q .non H'):Vx C K vs H Q E9
theorem NT {a b:Nat}(h:∀i,a.testBit i=b.testBit i):a=b:=Nat.eq_of_testBit_eq h
theorem zcl:∀(ps:List Nat) (f:Nat->Bool) (c:Nat),zch ps f c=true↔∃d,(∀i,i∉ps->d.testBit i=c.testBit i)/\f d=true
 | [],f,c=>by
  constructor
  ·exact fun h=>⟨c,fun _ _=>rfl,h⟩
  ·rintro⟨d,h1,h2⟩
   have e:d=c:=NT fun i=>h1 i (by simp)
   rw[e] at h2
   exact h2
 | p::ps,f,c=>by
  show zch ps _ c=true↔_
  rw[zcl ps]
  constructor
  ·rintro⟨d,h1,h2⟩
   rcases (Bool.or_eq_true _ _).mp h2 with z | z
   ·exact⟨d,fun i hi=>h1 i (fun y=>hi (zyf _ y)),z⟩
   ·refine⟨_,fun i hi=>?_,z⟩
    rw[zT,if_neg (fun y=>hi (by rw[y];exact zyo))]
    exact h1 i (fun y=>hi (zyf _ y))
  ·rintro⟨d,h1,h2⟩
   refine⟨zN d p (c.testBit p),fun i hi=>?_,?_⟩
   ·rw[zT]
    by_cases e:i=p
    ·rw[if_pos e,e]
    ·rw[if_neg e]
     exact h1 i (fun y=>(List.mem_cons.mp y).elim e hi)
   ·refine(Bool.or_eq_true _ _).mpr ?_
    by_cases e:c.testBit p=d.testBit p
    ·left
     rw[e,xO]
     exact h2
    ·right
     have e':zN (zN d p (c.testBit p)) p (!(zN d p (c.testBit p)).testBit p)=d:=NT fun i=>by
      rw[zT,zT,zT]
      by_cases y:i=p
      ·rw[if_pos y,if_pos rfl,y]
       cases hc:c.testBit p<;>cases hd:d.testBit p<;>rw[hc,hd] at e<;>first | rfl | exact absurd rfl e
      ·rw[if_neg y,if_neg y]
     rw[e']
     exact h2
def mv:List (Nat×Nat)->Nat->Nat
 | [],c=>c
 | pq::r,c=>zN (mv r c) pq.1 ((mv r c).testBit pq.2)
theorem Jc:∀(r:List (Nat×Nat)) (f:Nat->Bool) (c:Nat),zci r f c=f (mv r c)
 | [],_,_=>rfl
 | pq::r,f,c=>by
  show zci r _ c=_
  rw[Jc r]
  show(if (mv r c).testBit pq.2=true then _ else _)=f (zN (mv r c) pq.1 ((mv r c).testBit pq.2))
  cases (mv r c).testBit pq.2<;>simp
theorem zcm:∀(r:List (Nat×Nat)) (c:Nat),(r.map (·.1)).Nodup->(∀x∈r,∀y∈r,x.2≠y.1)->(∀x∈r,(mv r c).testBit x.1=c.testBit x.2)/\∀i,i∉r.map (·.1)->(mv r c).testBit i=c.testBit i
 | [],c,_,_=>⟨fun x hx=>by simp at hx,fun _ _=>rfl⟩
 | pq::r,c,nd,dj=>by
  rw[zyt,List.nodup_cons] at nd
  obtain⟨h1,h2⟩:=zcm r c nd.2 fun x hx y hy=>dj x (zyf _ hx) y (zyf _ hy)
  have e2:(mv r c).testBit pq.2=c.testBit pq.2:=h2 _ fun h=>by
   obtain⟨y,hy,e⟩:=List.mem_map.mp h
   exact dj pq zyo y (zyf _ hy) e.symm
  constructor
  ·intro x hx
   show(zN (mv r c) pq.1 ((mv r c).testBit pq.2)).testBit x.1=_
   rw[zT]
   rcases List.mem_cons.mp hx with z | z
   ·rw[z,if_pos rfl,e2]
   ·rw[if_neg (fun y=>nd.1 (by rw[<-y];exact List.mem_map.mpr ⟨x,z,rfl⟩))]
    exact h1 x z
  ·intro i hi
   show(zN (mv r c) pq.1 ((mv r c).testBit pq.2)).testBit i=_
   rw[zT,if_neg (fun y=>hi (by rw[zyt,y];exact zyo))]
   exact h2 i fun y=>hi (by rw[zyt];exact zyf _ y)
end uh
namespace L2
open PySem PySem.Spec PyProof.Rows PySem.W
section
variable {X:Cx}
theorem zgw {K:Frag}(h:X.K=K):Qe X (binaryOp .Add) (zoH K):=by subst h;exact XC
end
theorem zlY {X:Cx}{c:Expr}{t:TT}{pins:List (Addr×Obj)}{s:Shared}{σ:St}{H:Hp}{Q:Bool->Hp->Prop}(I:Inv X pins σ H s)(h:t σ H Q)(hp:PT X c t):wpAny (model X.prog X.w) X.A (Xx [c] X.env) (TP X pins σ Q) X.xe s:=wpAny_tests_one (hp pins s σ H Q I h)
end L2
namespace xV
open PySem L2
theorem Mw (R:Row):∀n,(List.range n).map R∈allR n
 | 0=>by simp[allR]
 | n+1=>by
  rw[List.range_succ,zyi,List.map_singleton]
  refine List.mem_flatMap.mpr ⟨_,Mw R n,?_⟩
  cases R n<;>simp
end xV
namespace uh
open PySem L2 xV
def znQ (ks:List Nat):List V:=ks.map fun(n:Nat)=>V.int n
theorem zgx (x:Nat)(ks:List Nat):inV (.int (x:Nat)) (znQ ks)=decide (x∈ks):=by
 unfold znQ
 induction ks with
 | nil=>rfl
 | cons t r ih =>
  have e:inV (.int (x:Nat)) ((t::r).map fun(n:Nat)=>V.int n)=(((t:Int)==(x:Int))||inV (.int (x:Nat)) (r.map fun(n:Nat)=>V.int n)):=rfl
  rw[e,ih]
  by_cases h:t=x
  ·subst h;simp
  ·have h':¬x=t:=fun z=>h z.symm
   have h2:¬(t:Int)=(x:Int):=fun z=>h (Int.ofNat.inj z)
   simp[h2,h']
theorem zao (ks:List Nat):(znQ ks).all uf=true:=by
 unfold znQ
 rw[List.all_map,zyy]
 exact fun _ _=>rfl
theorem zlZ {x:List Bool}{j:Nat}{v:V}(h:(zY x)[j]?=some v):∃b,x[j]?=some b/\v=.int (b.toNat:Nat):=by
 unfold zY at h
 rw[zx6] at h
 cases hx:x[j]? with
 | none=>rw[hx] at h;cases h
 | some b=>rw[hx] at h;exact⟨b,rfl,(zyz h).symm⟩
theorem QK (x:List Bool):(zY x).length=x.length:=zx4 _
theorem zl0 {K:Frag}{H:Hp}{n:Nat}{p q:Addr}{x y:List Bool}(hp:zO K H p (zY x))(hq:zO K H q (zY y)):Ks K H (n+1) (.ref p) (.ref q) (decide (x=y)):=by
 by_cases hl:x.length=y.length
 ·have z:=Ks.ll (n:=n) (e:=fun j=>x[j]?==y[j]?) hp hq (by rw[QK,QK,hl]) fun j u v hu hv=>by
   obtain⟨b,hb,rfl⟩:=zlZ hu
   obtain⟨c,hc,rfl⟩:=zlZ hv
   rw[hb,hc]
   have:eqV (.int (b.toNat:Nat)) (.int (c.toNat:Nat))=(some b==some c):=by cases b<;>cases c<;>rfl
   rw[<-this]
   exact .flat rfl rfl
  have e:((List.range (zY x).length).all fun j=>x[j]?==y[j]?)=decide (x=y):=by
   rw[QK]
   by_cases h:x=y
   ·subst h
    rw[decide_eq_true rfl,zyy]
    exact fun j _=>by simp
   ·rw[decide_eq_false h]
    cases hc:(List.range x.length).all fun j=>x[j]?==y[j]? with
    | false=>rfl
    | true =>
     exfalso
     rw[zyy] at hc
     refine h (List.ext_getElem? fun j=>?_)
     by_cases hj:j<x.length
     ·exact eq_of_beq (hc j (List.mem_range.mpr hj))
     ·rw[zyE (by omega),zyE (by omega)]
  rw[e] at z
  exact z
 ·rw[decide_eq_false (fun z=>hl (by rw[z]))]
  exact .ln hp hq (by rw[QK,QK];exact hl)
open Classical in
noncomputable def Jd (H:Hp) (r:List Bool) (z:V):Bool:=decide (∃p,z=V.ref p/\H p=some (.lst (zY r)))
theorem zes {H:Hp}{r:List Bool}{z:V}:Jd H r z=true↔∃p,z=V.ref p/\H p=some (.lst (zY r)):=by
 unfold Jd
 exact @decide_eq_true_iff _ (Classical.propDecidable _)
theorem zcn {H:Hp}{r x:List Bool}{p:Addr}(h:H p=some (.lst (zY x))):Jd H r (.ref p)=decide (x=r):=by
 by_cases e:x=r
 ·rw[decide_eq_true e]
  exact zes.mpr ⟨p,rfl,e ▸ h⟩
 ·rw[decide_eq_false e]
  cases hc:Jd H r (.ref p) with
  | false=>rfl
  | true =>
   exfalso
   obtain⟨q,hq,h2⟩:=zes.mp hc
   cases hq
   rw[h] at h2
   injection h2 with h2
   injection h2 with h2
   exact e (zlW h2)
end uh
namespace L2
open PySem PySem.Spec PyProof.Rows
section
variable {prog:Program}{w:World}{κ:Type}[DecidableEq κ]{knd:KeyKind prog w κ}{A:Around}{E:Value->Shared->Prop}{s:Shared}
theorem zl1 {a:Addr}{Q:Option Obj->Shared->Prop}(h:Q (s.heap.get? a) s):wpAny (model prog w) A (loadIfAlive a) Q E s:=fun _ _ _=>h
end
theorem Lw {α β:Type}{R:α->β->Prop}:∀{xs:List α} {ys:List β},xs.length=ys.length->(∀(j:Nat) x y,xs[j]?=some x->ys[j]?=some y->R x y)->Paired R xs ys
 | [],[],_,_=>.nil
 | [],_::_,e,_=>by cases e
 | _::_,[],e,_=>by cases e
 | x::xs,y::ys,e,h=>.cons (h 0 x y rfl rfl) (Lw (Nat.succ.inj e) fun j a b h1 h2=>h (j+1) a b h1 h2)
end L2
namespace PySem
open Sem (wp)
theorem zap:isSubtype (.type "AttributeError") (.type "AttributeError")=pure true:=by rw[isSubtype_type];kernel_rfl
theorem zkr (v:Value):ownMembersOf (Value.type "AttributeError") [v]=#[unsetMember,unsetMember]:=rfl
theorem zks:((Manifest.find? "AttributeError").elim false fun t=>t.mro.contains "StopIteration" || t.mro.contains "SystemExit")=false:=by
 rw[find?_eq_fast];kernel_rfl
section
variable {prog:Program}{w:World}{A:Around}{E:Value->Shared->Prop}{h:Heap}{g:Array GenState}{d:Drawn}{t:Nat}{os:OsState}{a:Addr}{its:Array Value}{n:Nat}{sl:Array (Option Value)}
theorem zh7 {α:Type}{o:Value}{name msg:Str}{Q:α->Shared->Prop}(hh:A.handled=none)(zm:msg.length<=sizeLine)(zn:name.length<=sizeLine)
  (hE:∀e h' t',(∀b o,h.get? b=some o->h'.get? b=some o)->Shared.TypeIs ⟨h',g,d,t',os⟩ (.ref e) "AttributeError" -> E (.ref e) ⟨h',g,d,t',os⟩) :
  wpAny (model prog w) A (raiseAttrError o name msg) Q E ⟨h,g,d,t,os⟩:=by
 unfold raiseAttrError
 refine wpAny_bind (wpAny_mkStr ?_ zm)
 refine wpAny_bind ?_
 simp only[newExc,newTuple]
 refine wpAny_bind (wpAny_newObj_type ?_ (by size_fits))
 refine wpAny_bind (m:=firstArgMember _ _) (wpAny_of_eq (a:=Value.none) (by simp only[firstArgMember,zks];rfl) ?_)
 rw[zkr]
 refine wpAny_newObj_type ?_ (by size_fits)
 dsimp only
 have kp:∀b o,h.get? b=some o->((h.push { cls:=.type "tuple", data:=.seq #[Value.str msg t] }).push { cls:=.type "AttributeError", data:=.fields (#[.ref h.objs.size,.none,.none,.none,.bool false,.none] ++ #[unsetMember,unsetMember]) }).get? b=some o:=fun b o e=>zya _ (zya _ e)
 have ex:((h.push { cls:=.type "tuple", data:=.seq #[Value.str msg t] }).push { cls:=.type "AttributeError", data:=.fields (#[.ref h.objs.size,.none,.none,.none,.bool false,.none] ++ #[unsetMember,unsetMember]) }).get? (h.push { cls:=.type "tuple", data:=.seq #[Value.str msg t] }).objs.size=some { cls:=.type "AttributeError", data:=.fields (#[.ref h.objs.size,.none,.none,.none,.bool false,.none] ++ #[unsetMember,unsetMember]) }:=zyp _ rfl
 have lt:∀b o,h.get? b=some o->b≠(h.push { cls:=.type "tuple", data:=.seq #[Value.str msg t] }).objs.size:=fun b o e=>zyj (zyd (zyb e) (by rw[Heap.size_push];exact Nat.le_succ _))
 generalize hs:(h.push { cls:=.type "tuple", data:=.seq #[Value.str msg t] }).objs.size=e at ex lt
 generalize ((h.push { cls:=.type "tuple", data:=.seq #[Value.str msg t] }).push { cls:=.type "AttributeError", data:=.fields (#[.ref h.objs.size,.none,.none,.none,.bool false,.none] ++ #[unsetMember,unsetMember]) })=h2 at kp ex
 refine wpAny_bind (wpAny_mkText ?_)
 have ty:Shared.TypeIs ⟨h2,g,d,t+1+1,os⟩ (.ref e) "AttributeError" := ⟨_,ex,rfl⟩
 refine wpAny_bind ?_
 unfold noteAttr lacksNameAndObj
 refine wpAny_bind (wpAny_bind (wpAny_isInstance ty zap (wpAny_bind (wpAny_load ex (wpAny_pure ?_)))))
 refine wpAny_bind (wpAny_rule (wpAny_bind (wpAny_typeOf ty ?_)))
 show wpAny _ _ (layMembers e 6 #[Value.str name (t+1),o]) _ _ _
 unfold layMembers
 refine wpAny_bind (wpAny_load ex (wpAny_update ex ?_))
 have ex3:=Heap.get?_update_self (Obj.mapFields fun vs=>vs.extract 0 6 ++ #[Value.str name (t+1),o]) ex rfl
 have kp3:∀b o',h.get? b=some o'->(h2.update e (Obj.mapFields fun vs=>vs.extract 0 6 ++ #[Value.str name (t+1),o])).get? b=some o':=fun b o' z=>(Heap.get?_update_other _ _ (Ne.symm (lt b o' z))).trans (kp b o' z)
 simp only[raiseNew]
 refine wpAny_bind (wpAny_handled ?_)
 rw[hh]
 refine wpAny_bind (wpAny_pure (wpAny_throw ?_))
 exact hE e _ _ kp3 ⟨_,ex3,rfl⟩
end
theorem QL:entryFor table "dict.update.loop"=some Builtin.«dict.update.loop»:=entryFor_of_tree (by kernel_rfl)
theorem YD:plainId "dict.update.loop"=true:=by decide +kernel
end PySem
namespace L2
open PySem PySem.Spec PyProof.Rows
theorem znR:bootBuiltins "dict"=some (.type "dict"):=by decide +kernel
end L2
namespace uh
open PySem L2 xV
theorem zjy {n j:Nat}(h:j<n):ixN n (j:Int)=some j:=by
 unfold ixN
 rw[if_pos (by omega),if_pos (by omega),zyI]
theorem zjz {α:Type}{xs:List α}{i:Nat}{y z:α}(h:z∈xs.take i++y::xs.drop i):z=y\/z∈xs:=by
 rcases List.mem_append.mp h with e | e
 ·exact .inr (List.mem_of_mem_take e)
 ·rcases List.mem_cons.mp e with e | e
  ·exact .inl e
  ·exact .inr (List.mem_of_mem_drop e)
theorem znS {α:Type}{xs:List α}{i:Nat}{y:α}:(xs.take i++y::xs.drop i).length=xs.length+1:=by
 rw[zyc,zyg,zys,List.length_drop]
 omega
theorem znT {α β:Type}{f:α->β}{xs:List α}{i:Nat}{y:α}:(xs.map f).take i++f y::(xs.map f).drop i=(xs.take i++y::xs.drop i).map f:=by
 rw[zyi,zyt,List.map_take,List.map_drop]
theorem zjA {α β:Type}{f:α->β}:∀{xs:List α} {i:Nat},(xs.map f).eraseIdx i=(xs.eraseIdx i).map f
 | [],_=>rfl
 | _::_,0=>rfl
 | x::xs,i+1=>congrArg (f x::·) (zjA (xs:=xs) (i:=i))
end uh
namespace L2
open PySem PySem.Spec PyProof.Rows
def zaq (h:Heap)(e:Addr)(cls:Value):Prop:=∃oe vs,h.get? e=some oe/\oe.cls=cls/\oe.dict=none/\oe.data=.fields vs/\vs[2]?=some .none/\(vs[1]?=some .none\/∃T oT ts,vs[1]?=some (.ref T)/\T≠e/\h.get? T=some oT/\oT.data=.fields ts/\ts[3]?=some .none)
structure zjB (l:List Env)(e:Addr)(cls:Value)(h h':Heap):Prop where
 keep:∀b o,h.get? b=some o->b∉frs l->b≠e->h'.get? b=some o
 slot:∀b o,h.get? b=some o->b∈frs l->b≠e->∃sl,h'.get? b=some { o with slots:=sl }
 exc:zaq h' e cls
section
variable {M:Model}{A:Around}{E:Value->Shared->Prop}{s:Shared}
theorem zco (f:Array Value->Array Value)(o:Obj):(Obj.mapFields f o).dict=o.dict:=by
 obtain⟨c,dd,dt,sl⟩:=o
 cases dt<;>rfl
theorem zet {base:Heap}{env:Env}{outer:List Env}{L e:Addr}{oe:Obj}{vs:Array Value}{head:Value}{hadNext:Bool}{Q:Unit->Shared->Prop}(hfr:A.frames=some (env::outer))(hl:s.heap.FunFrames base (env::outer))(hf:env.frame=some L)
  (he:s.heap.get? e=some oe)(hdn:oe.dict=none)(hd:oe.data=.fields vs)(h2:vs[2]?=some .none)(sz:1<vs.size)(h:∀h',zjB (env::outer) e oe.cls s.heap h'->Q () { s with heap:=h' }) :
  wpAny M A (do let a <-frameOf env;let pl <-entryPlaceOf L hadNext;let b <-EntryCells.newEntry head a .none (rawInt L) .none pl;setField (.ref e) 1 b) (fun _ s'=>wpAny M A (setFlight (.ref e) none) Q E s') E s:=by
 have ne:e∉frs (env::outer):=fun hm=>by
  obtain⟨_,o,ho,hnf⟩:=hl.mem hm
  rw[he] at ho;injection ho with ho;subst ho;exact hnf vs hd
 refine wpAny_bind (wpAny_frameOf_fun hfr hl hf fun h1 hs1=>wpAny_bind (wpAny_entryPlaceOf fun pl hpl=>?_))
 unfold EntryCells.newEntry newFields;refine wpAny_bind (wpAny_newObj_type ?_ (hpl.sizeOk5 _ _ _ _ _))
 have he1:h1.get? e=some oe:=(hs1.2.1 e ne).trans he
 have he2:=zya (h:=h1) { cls:=.type "traceback", dict:=none,data:=.fields ([head,.ref L,.none,rawInt L,.none]++(if pl.isEmpty then List.replicate 6 Value.none else pl)).toArray } he1
 refine wpAny_setField he2 hd sz ?_
 have nT:h1.objs.size≠e:=Nat.ne_of_gt (zyb he1)
 have hd3:=Obj.data_mapFields hd (·.setIfInBounds 1 (Value.ref h1.objs.size))
 have he3:=Heap.get?_update_self (Obj.mapFields (·.setIfInBounds 1 (Value.ref h1.objs.size))) he2 (Obj.isFreed_of_fields hd3)
 have hT3:=(Heap.get?_update_other (h1.push { cls:=.type "traceback", dict:=none,data:=.fields ([head,.ref L,.none,rawInt L,.none]++(if pl.isEmpty then List.replicate 6 Value.none else pl)).toArray }) (Obj.mapFields (·.setIfInBounds 1 (Value.ref h1.objs.size))) (Ne.symm nT)).trans (zyp h1 rfl)
 unfold setFlight;refine wpAny_bind (wpAny_field he3 hd3 (x:=.ref h1.objs.size) (by simp[sz]) ?_)
 rw[if_pos (show(Value.ref h1.objs.size != Value.none)=true from by simp)]
 refine wpAny_setField hT3 rfl (by simp only[zye,zyc,zyg,List.length_nil]<;>omega) (h _ ?_)
 have keep:∀b o,b≠e->h1.get? b=some o->(((h1.push { cls:=.type "traceback", dict:=none,data:=.fields ([head,.ref L,.none,rawInt L,.none]++(if pl.isEmpty then List.replicate 6 Value.none else pl)).toArray }).update e (Obj.mapFields (·.setIfInBounds 1 (Value.ref h1.objs.size)))).update h1.objs.size (Obj.mapFields (·.setIfInBounds 3 ((none:Option Addr).elim Value.none fun f=>rawInt f)))).get? b=some o:=fun b o hbe hb=>by
  have hbT:h1.objs.size≠b:=Nat.ne_of_gt (zyb hb)
  rw[Heap.get?_update_other _ _ hbT,Heap.get?_update_other _ _ (Ne.symm hbe)];exact zya _ hb
 refine⟨fun b o hb hnf hbe=>keep b o hbe ((hs1.2.1 b hnf).trans hb),fun b o hb _ hbe=>?_,?_⟩
 ·obtain⟨sl,hs⟩:=hs1.2.2 b o hb
  exact⟨sl,keep b _ hbe hs⟩
 ·refine⟨_,_,?_,Obj.cls_mapFields _ _,(by rw[zco];exact hdn),hd3,(by rw[Array.getElem?_setIfInBounds_ne (by decide)];exact h2),.inr ⟨h1.objs.size,_,_,by simp[sz],nT,Heap.get?_update_self _ hT3 (Obj.isFreed_of_fields (Obj.data_mapFields rfl _)),Obj.data_mapFields rfl _,by first | (simp;done) | (rcases hpl with rfl | ⟨_,_,_,_,_,_,_,rfl⟩<;>simp)⟩⟩
  rw[Heap.get?_update_other _ _ nT];exact he3
theorem zl2 {base:Heap}{env:Env}{outer:List Env}{L e:Addr}{cls:Value}{Q:Unit->Shared->Prop}(hfr:A.frames=some (env::outer))(hl:s.heap.FunFrames base (env::outer))(hf:env.frame=some L)(hx:zaq s.heap e cls)
  (h:∀h',zjB (env::outer) e cls s.heap h'->Q () { s with heap:=h' }):wpAny M A (noteFrame (.ref e) env) (fun _ s1=>wpAny M A (setFlight (.ref e) none) Q E s1) E s:=by
 obtain⟨oe,vs,he,rfl,hdn,hd,h2,h1 | ⟨T,oT,ts,h1,nT,hT,hdT,h3⟩⟩:=hx
 ·unfold noteFrame
  simp only[hf];refine wpAny_bind (wpAny_field he hd h1 ?_)
  rw[if_neg (by decide)]
  exact zet hfr hl hf he hdn hd h2 (Array.getElem?_eq_some_iff.mp h1).1 h
 ·unfold noteFrame
  simp only[hf];refine wpAny_bind (wpAny_field he hd h1 ?_)
  rw[if_pos (show(Value.ref T != Value.none)=true from by simp)];refine wpAny_bind (wpAny_field hT hdT h3 ?_)
  rw[if_neg (show ¬((Value.none==rawInt L)=true) from by simp[rawInt])];refine wpAny_bind (wpAny_setField hT hdT (Array.getElem?_eq_some_iff.mp h3).1 ?_)
  have same:∀b,(s.heap.update T (Obj.mapFields (·.setIfInBounds 3 Value.none))).get? b=s.heap.get? b:=fun b=>by
   by_cases z:b=T
   ·subst z
    rw[Heap.get?_update_self _ hT (Obj.isFreed_of_fields (Obj.data_mapFields hdT _)),hT]
    have et:ts.setIfInBounds 3 Value.none=ts:=by
     obtain⟨q1,q2⟩:=Array.getElem?_eq_some_iff.mp h3
     rw[Array.setIfInBounds,dif_pos q1]
     rw[<-q2]
     exact Array.set_getElem_self ..
    obtain⟨c,dd,dt,sl⟩:=oT
    cases hdT
    show some _=some _
    refine congrArg some ?_
    show Obj.mapFields _ _=_
    simp only[Obj.mapFields,et]
   ·exact Heap.get?_update_other _ _ (Ne.symm z)
  refine zet (base:=base) (s:={ s with heap:=s.heap.update T (Obj.mapFields (·.setIfInBounds 3 Value.none)) }) hfr (hl.of_keeps fun b o hb hnf=>⟨o,(same b).trans hb,rfl⟩) hf ((same e).trans he) hdn hd h2 (Array.getElem?_eq_some_iff.mp h1).1 fun h' x=>h h' ⟨fun b o hb=>x.keep b o ((same b).trans hb),fun b o hb=>x.slot b o ((same b).trans hb),x.exc⟩
theorem znU {base:Heap}{env:Env}{outer:List Env}{L e:Addr}{cls:Value}{Q:Unit->Shared->Prop}(hfr:A.frames=some (env::outer))(hl:s.heap.FunFrames base (env::outer))(hf:env.frame=some L)(hx:zaq s.heap e cls)
  (h:∀h',zjB (env::outer) e cls s.heap h'->Q () { s with heap:=h' }):wpAny M A (leaving env (.ref e)) Q E s:=by
 unfold leaving
 exact wpAny_bind (zl2 hfr hl hf hx h)
theorem zpG {e:Addr}{cls:Value}{Q:Unit->Shared->Prop}(hx:zaq s.heap e cls)(h:∀h',(∀b,h'.get? b=s.heap.get? b)->Q () { s with heap:=h' }):wpAny M A (setFlight (.ref e) none) Q E s:=by
 obtain⟨oe,vs,he,rfl,hdn,hd,h2,h1 | ⟨T,oT,ts,h1,nT,hT,hdT,h3⟩⟩:=hx
 ·unfold setFlight
  refine wpAny_bind (wpAny_field he hd h1 ?_)
  rw[if_neg (by decide)]
  exact wpAny_pure (h s.heap fun _=>rfl)
 ·unfold setFlight
  refine wpAny_bind (wpAny_field he hd h1 ?_)
  rw[if_pos (show(Value.ref T != Value.none)=true from by simp)]
  refine wpAny_setField hT hdT (Array.getElem?_eq_some_iff.mp h3).1 (h _ fun b=>?_)
  by_cases z:b=T
  ·subst z
   rw[Heap.get?_update_self _ hT (Obj.isFreed_of_fields (Obj.data_mapFields hdT _)),hT]
   have et:ts.setIfInBounds 3 Value.none=ts:=by
    obtain⟨q1,q2⟩:=Array.getElem?_eq_some_iff.mp h3
    rw[Array.setIfInBounds,dif_pos q1]
    rw[<-q2]
    exact Array.set_getElem_self ..
   obtain⟨c,dd,dt,sl⟩:=oT
   cases hdT
   refine congrArg some ?_
   show Obj.mapFields _ _=_
   simp only[Obj.mapFields,Option.elim,et]
  ·exact Heap.get?_update_other _ _ (Ne.symm z)
theorem zaq.same {h h':Heap}{e:Addr}{cls:Value}(x:zaq h e cls)(k:∀b,h'.get? b=h.get? b):zaq h' e cls:=by
 obtain⟨oe,vs,he,hc,hdn,hd,h2,h1 | ⟨T,oT,ts,h1,nT,hT,hdT,h3⟩⟩:=x
 ·exact⟨oe,vs,(k e).trans he,hc,hdn,hd,h2,.inl h1⟩
 ·exact⟨oe,vs,(k e).trans he,hc,hdn,hd,h2,.inr ⟨T,oT,ts,h1,nT,(k T).trans hT,hdT,h3⟩⟩
end
theorem Inv.fresh0 {X:Cx}{pins:List (Addr×Obj)}{σ:St}{H:Hp}{s:Shared}{a:Addr}(I:Inv X pins σ H s)(hex:X.ex=[])(hn:s.heap.get? a=none):X.s₀.heap.get? a=none:=by
 cases q:X.s₀.heap.get? a with
 | none=>rfl
 | some o =>
  obtain⟨o',e⟩:=I.base.there a o q (by rw[hex];simp)
  rw[hn] at e;cases e
def CXE (P:Program)(w:World):CXT:=fun outer H s E e s'=>∃(a:Addr) (cls:Value) (H':Hp),e=.ref a/\s'.os=s.os/\AllBare s'.gens/\Un (frs outer) [] H H' s.heap s'.heap/\Qd P w H' s'.heap/\s.heap.get? a=none/\H' a=none/\zaq s'.heap a cls/\E cls none H'
section
variable {P:Program}{w:World}{K:Frag}{mg:Str->Option Value}{base:Heap}{N:List Str}{qual:Str}{scope:Scope}{f:Addr}{cd:Value}{A:Around}{outer:List Env}{s0:Shared}{H0:Hp}{E:XK}
theorem zoI {pins:List (Addr×Obj)}{σ:St}{H:Hp}{s:Shared}{a:Addr}{cls:Value}(I:Inv (zaa (CXE P w) P w K mg base N qual scope f cd A outer s0 H0 E) pins σ H s)(hx:zaq s.heap a cls)(ha:s0.heap.get? a=none)(hn:H a=none)(hE:E cls none H) :
  (zaa (CXE P w) P w K mg base N qual scope f cd A outer s0 H0 E).xe (.ref a) s:=by
 show wpAny (model P w) (A.deeper (envOfC qual scope s0.heap.objs.size f cd)) (leaving (envOfC qual scope s0.heap.objs.size f cd) (.ref a)) _ _ s
 refine znU (base:=base) (outer:=outer) (L:=s0.heap.objs.size) I.ok.frames I.stack rfl hx fun h' lf=>?_
 have fr:∀b,b∈frs (envOfC qual scope s0.heap.objs.size f cd::outer)->b=s0.heap.objs.size\/b∈frs outer:=fun b hb=>List.mem_cons.mp hb
 have nfr:∀b,b<s0.heap.objs.size->b∉frs outer->b∉frs (envOfC qual scope s0.heap.objs.size f cd::outer):=fun b hb hn z=>(fr b z).elim (zyj hb) hn
 have trk:∀b u,H b=some u->b∉frs (envOfC qual scope s0.heap.objs.size f cd::outer)/\b≠a:=fun b u e=>⟨(fun z=>by rw[I.zbp b z] at e;cases e),(fun z=>by rw[z,hn] at e;cases e)⟩
 refine⟨a,cls,H,rfl,I.os,I.bare,⟨fun b o q n hb hx=>?_,fun b o q n hb hx=>?_,I.base.free,fun b o q hx=>?_,I.base.tups,I.base.Ku,I.base.J0⟩,fun b u e=>?_,ha,hn,lf.exc,hE⟩
 ·exact lf.keep b o (I.base.keep b o q n hb hx) (nfr b (zyb q) hb) (fun z=>by rw[z,ha] at q;cases q)
 ·obtain⟨sl,e1⟩:=I.base.slot b o q n hb hx
  obtain⟨sl2,e2⟩:=lf.slot b _ e1 (zyf _ hb) (fun z=>by rw[z,ha] at q;cases q)
  exact⟨sl2,e2⟩
 ·obtain⟨o',e1⟩:=I.base.there b o q hx
  have ne:b≠a:=fun z=>by rw[z,ha] at q;cases q
  by_cases z:b∈frs (envOfC qual scope s0.heap.objs.size f cd::outer)
  ·obtain⟨sl,e2⟩:=lf.slot b o' e1 z ne
   exact⟨_,e2⟩
  ·exact⟨_,lf.keep b o' e1 z ne⟩
 ·refine(I.hok b u e).stay (fun c v hc q=>?_) (fun c q=>q) fun c xs q=>q
  rcases hc with rfl | hc
  ·exact lf.keep _ v q (trk _ u e).1 (trk _ u e).2
  ·exact lf.keep _ v q (trk _ _ hc).1 (trk _ _ hc).2
theorem zjC:Passes (CXE P w) (zaa (CXE P w) P w K mg base N qual scope f cd A outer s0 H0 E) E:=by
 intro pins σ H s e s' I h
 obtain⟨a,cls,H',rfl,os,bare,un,hok,ha,hn,hx,hE⟩:=h
 have I':=I.call' (s':=s') (ch:=[]) os un hok bare (fun b z=>absurd z (by simp))
 exact zoI I' hx (I.fresh0 rfl ha) hn hE
end
theorem zB.lift {P:Program}{w:World}{K:Frag}{mg:Str->Option Value}{base:Heap}{CX:CXT}{k:Nat}{f:Addr}{fd:FuncData}{ps:List Str}{sp:Sp}(F:zB P w K mg base zX k f fd ps sp):zB P w K mg base CX k f fd ps sp :=
 ⟨F.len,fun A outer s H args us vs Q E hr e0 hb r h=>codeAny_mono (F.run A outer s H args us vs Q E hr e0 hb r h) fun r s' hq=>by
  cases r with
  | error e=>exact hq.elim
  | ok fl =>
   cases fl with
   | ret u=>exact hq
   | next=>exact hq
   | brk=>exact hq
   | cont=>exact hq⟩
theorem zB.orE {P:Program}{w:World}{K:Frag}{mg:Str->Option Value}{base:Heap}{CX:CXT}{k:Nat}{f:Addr}{fd:FuncData}{ps:List Str}{sp sp':Sp}(F:zB P w K mg base CX k f fd ps sp)(G:zB P w K mg base CX k f fd ps sp'):zB P w K mg base CX k f fd ps (fun vs H Q E=>sp vs H Q E\/sp' vs H Q E) :=
 ⟨fun vs H Q E h=>h.elim (F.len vs H Q E) (G.len vs H Q E),fun A outer s H args us vs Q E hr e0 hb r h=>h.elim (F.run A outer s H args us vs Q E hr e0 hb r) (G.run A outer s H args us vs Q E hr e0 hb r)⟩
section
variable {P:Program}{w:World}{K:Frag}{mg:Str->Option Value}{base:Heap}
theorem Fun.okE {x qual:Str}{st:Stmt}{f:Addr}{fd:FuncData}{N ps:List Str}{k:Nat}{sp:Sp}(F:Fun K x qual st f fd)(S:zK N ps (zx st))(len:∀vs H Q E,sp vs H Q E->vs.length=ps.length)
  (hbody:∀(cdv:Value) (A:Around) (outer:List Env) (s:Shared) (H:Hp) (vs:List V) (Q:VK) (E:XK),tZ k (A.deeper (envOfC qual (zx st) s.heap.objs.size f cdv))->sp vs H Q E ->
   ∃t,PSs (zaa (CXE P w) P w K mg base N qual (zx st) f cdv A outer s H E) (uo st) t/\t { nx:=fun _ H'=>Q .non H',rt:=Q } (start N vs) H):zB P w K mg base (CXE P w) (k+1) f fd ps sp:=by
 obtain⟨oc,od,kV,doc,pm,an,cdv,ct,osl,rfl,lk,hcd⟩:=F.ex
 exact zoA lk hcd S len fun A outer s H vs Q E hr hsp=>hbody cdv A outer s H vs Q E hr hsp
end
end L2
namespace uh
open PySem L2 xV
section
variable {n:Nat}{rs:List Rm}{c0 c1 c2 c3:Bool}
theorem zpH {α β:Type}{R:α->β->Prop}{xs:List α}{ys:List β}(h:Paired R xs ys)(j:Nat){x:α}{y:β}(r:R x y):Paired R (xs.set j x) (ys.set j y):=by
 have e:=yK h
 refine Lw (by rw[List.length_set,List.length_set,e]) fun i u v hu hv=>?_
 rw[List.getElem?_set] at hu hv
 by_cases c:j=i
 ·rw[if_pos c] at hu hv
  by_cases d:j<xs.length
  ·rw[if_pos (by omega)] at hu
   rw[if_pos (by omega)] at hv
   cases hu;cases hv;exact r
  ·rw[if_neg (by omega)] at hu;cases hu
 ·rw[if_neg c] at hu hv
  obtain⟨v',e',r'⟩:=ZK h hu
  rw[hv] at e'
  cases e'
  exact r'
end
end uh
namespace L2
open PySem PySem.Spec PyProof.Rows
section
variable {X:Cx}
def ztz:V->Option Int->Option Int->Hp->VK->Prop:=fun x lo hi H Q=>∃z:Str,x=.str z/\z.length<=sizeLine/\Q (.str (Txt.slice z lo hi)) H
theorem zpI:SlR X ztz:=by
 intro pins s σ H x v vl vu lo hi sl Q I rx hs pl pu h
 obtain⟨z,rfl,hz,q⟩:=h
 obtain⟨t,rfl⟩:=rx
 refine⟨"str", _,PySem.F.slot_str_getitem.lookup,typeIs_str _ _ _,?_⟩
 have fin:∀(t':Tok) (k:Nat),EP X pins σ Q (.str (Txt.slice z lo hi) t') { s with toks:=k }:=fun t' k=>⟨.str (Txt.slice z lo hi),H,I.tok _,⟨t',rfl⟩,q⟩
 cases pl with
 | none=>cases pu with
  | none=>exact wpAny_getItem_str_slice (l:=none) (u:=none) (st:=none) hs rfl (post_val_or_str ⟨zyq (Txt.slice_le z _ _) hz,fin⟩)
  | int j uj=>exact wpAny_getItem_str_slice (l:=none) (u:=some (j,uj)) (st:=none) hs rfl (post_val_or_str ⟨zyq (Txt.slice_le z _ _) hz,fin⟩)
 | int i ui=>cases pu with
  | none=>exact wpAny_getItem_str_slice (l:=some (i,ui)) (u:=none) (st:=none) hs rfl (post_val_or_str ⟨zyq (Txt.slice_le z _ _) hz,fin⟩)
  | int j uj=>exact wpAny_getItem_str_slice (l:=some (i,ui)) (u:=some (j,uj)) (st:=none) hs rfl (post_val_or_str ⟨zyq (Txt.slice_le z _ _) hz,fin⟩)
def znV:V->List V->Hp->VK->Prop:=fun x vs H Q=>∃(y z:Str) (i:Nat) (rest:List Nat),x=.str y/\vs=[.str z]/\Builtin.Str.occurrences y z 0 y.length 1=i::rest/\Q (.int (i:Nat)) H
theorem zar:MtM X "str.index" znV:=by
 intro pins s σ H x vs v us Q I rx rv h
 obtain⟨y,z,i,rest,rfl,rfl,ho,q⟩:=h
 obtain⟨t,rfl⟩:=rx
 obtain⟨u,rfl,ru⟩:=rv.one
 obtain⟨t',rfl⟩:=ru
 exact SC.index ho ⟨.int (i:Nat),H,I.tok _,⟨_,rfl⟩,q⟩
end
section
variable {x:Str}{σ:St}{js:List Nat}{tt:TT}{te:TE}{H:Hp}{Qf:Addr->Hp->List V->Prop}
theorem znW (Pv:Nat->List V->Hp->Prop)(h0:Pv 0 [] H)(hz:x.cps.size<=sizeLine)(hl:∀i ys H,Pv i ys H->ys.length<=i)
  (hs:∀(i:Nat) c ys H',x.cps[i]?=some c->Pv i ys H'->tt (Wv σ js (some (.str ⟨#[c]⟩))) H' fun b H2=>if b=true then te (Wv σ js (some (.str ⟨#[c]⟩))) H2 fun v H3=>Pv (i+1) (ys++[v]) H3 else Pv (i+1) ys H2)
  (mt:∀ σ H Q Q',(∀b H1,Q b H1->Q' b H1)->tt σ H Q->tt σ H Q')(me:∀ σ H Q Q',(∀v H1,Q v H1->Q' v H1)->te σ H Q->te σ H Q')
  (hd:∀ys H' p,Pv x.cps.size ys H'->H' p=none->Qf p H' ys) :
  ∃W:Nat->Nat->List V->Hp->Prop,(∃m,W 0 m [] H)/\∀i m ys H,W i m ys H ->
   ((Its x).stop i H/\∀p,H p=none->Qf p H ys) \/
   ((Its x).go i H/\ys.length<sizeLine/\∀v H',(Its x).JZ i H v H'->tt (Wv σ js (some v)) H' fun b H2 =>
    if b=true then te (Wv σ js (some v)) H2 fun v H3=>∃m',m'<m/\W (i+1) m' (ys++[v]) H3 else ∃m',m'<m/\W (i+1) m' ys H2):=by
 refine⟨fun i m ys H'=>m=x.cps.size-i/\i<=x.cps.size/\Pv i ys H',⟨_,rfl,zyr _,h0⟩,?_⟩
 rintro i m ys H1 ⟨rfl,hi,hp⟩
 by_cases hlt:i<x.cps.size
 ·have:=hl _ _ _ hp
  refine .inr ⟨hlt,by omega,fun v H' y=>?_⟩
  obtain⟨rfl,c,hc,rfl⟩:=y
  refine mt _ _ _ _ (fun b H2 h2=>?_) (hs i c ys _ hc hp)
  cases b with
  | true =>
   rw[if_pos rfl] at h2 ⊢
   exact me _ _ _ _ (fun v H3 h3=>⟨_,by omega,rfl,hlt,h3⟩) h2
  | false =>
   rw[if_neg zx8] at h2 ⊢
   exact⟨_,by omega,rfl,hlt,h2⟩
 ·have e:i=x.cps.size:=by omega
  subst e
  exact .inl ⟨rfl,fun p h=>hd ys H1 p hp h⟩
end
end L2
namespace uh
open PySem L2 xV
def sg (c:Nat):Str:=⟨#[c]⟩
theorem zfe {a b:Nat}(h:sg a=sg b):a=b:=by
 have e:=congrArg (fun s:Str=>s.cps.toList) h
 have e:[a]=[b]:=e
 injection e
def yZ (i:Nat):Str:=sg (97+i)
def v8 (i:Nat):Str:=sg (101+i)
def nmS (is:List Nat):Str:=⟨(is.map fun i=>97+i).toArray⟩
theorem zh8 {is:List Nat}{k i:Nat}(h:is[k]?=some i):atI (nmS is).cps.toList (k:Int)=some (97+i):=by
 refine yQ ?_
 show((is.map fun i=>97+i).toArray.toList)[k]?=_
 rw[zx6,h];rfl
theorem Je (is:List Nat):(nmS is).length=is.length:=by
 show(is.map fun i=>97+i).toArray.size=_
 rw[zye,zx4]
theorem Lx {i:Nat}(h:i<4):∃rest,Builtin.Str.occurrences (Str.ofString "abcd") (sg (97+i)) 0 (Str.ofString "abcd").length 1=i::rest:=by
 match i,h with
 | 0,_=>exact⟨[],by decide +kernel⟩
 | 1,_=>exact⟨[],by decide +kernel⟩
 | 2,_=>exact⟨[],by decide +kernel⟩
 | 3,_=>exact⟨[],by decide +kernel⟩
theorem zff {i:Nat}(h:i<4):atI (Str.ofString "efgh").cps.toList (i:Int)=some (101+i):=by
 match i,h with
 | 0,_=>decide +kernel
 | 1,_=>decide +kernel
 | 2,_=>decide +kernel
 | 3,_=>decide +kernel
theorem QM {i:Nat}(h:i<4):prs[i]?=some (yZ i,v8 i):=by
 match i,h with
 | 0,_=>decide +kernel
 | 1,_=>decide +kernel
 | 2,_=>decide +kernel
 | 3,_=>decide +kernel
theorem zbA {p:Str×Str}(h:p∈prs):∃i,i<4/\p=(yZ i,v8 i):=by
 obtain⟨i,hi⟩:=List.getElem?_of_mem h
 have h4:i<4:=(zx7.mp hi).1
 rw[QM h4] at hi
 exact⟨i,h4,(zyz hi).symm⟩
theorem zkt {i:Nat}(h:i<4):yZ i∈Yo:=by
 match i,h with
 | 0,_=>decide +kernel
 | 1,_=>decide +kernel
 | 2,_=>decide +kernel
 | 3,_=>decide +kernel
theorem zku {i:Nat}(h:i<4):v8 i∈Yo:=by
 match i,h with
 | 0,_=>decide +kernel
 | 1,_=>decide +kernel
 | 2,_=>decide +kernel
 | 3,_=>decide +kernel
theorem Xh {i j:Nat}(h:i<4):yZ i≠v8 j:=fun e=>by have:=zfe e;omega
def Mks (is:List Nat)(os:List Str):Prop:=os.Nodup/\∀x,x∈os↔∃i∈is,x=yZ i\/x=v8 i
theorem Mks.has {is:List Nat}{os:List Str}(h:Mks is os)(h4:∀i∈is,i<4){j:Nat}(hj:j<4):(yZ j∈os↔j∈is)/\(v8 j∈os↔j∈is):=by
 refine⟨⟨fun z=>?_,fun z=>(h.2 _).mpr ⟨j,z,.inl rfl⟩⟩,⟨fun z=>?_,fun z=>(h.2 _).mpr ⟨j,z,.inr rfl⟩⟩⟩
 ·obtain⟨i,hi,e | e⟩:=(h.2 _).mp z
  ·have:=zfe e
   have:j=i:=by omega
   rw[this];exact hi
  ·exact absurd e (Xh hj)
 ·obtain⟨i,hi,e | e⟩:=(h.2 _).mp z
  ·exact absurd e.symm (Xh (h4 i hi))
  ·have:=zfe e
   have:j=i:=by omega
   rw[this];exact hi
theorem contains_iff {os:List Str}{x:Str}:os.contains x=decide (x∈os):=List.contains_eq_mem ..
theorem Mks.world {is:List Nat}{os:List Str}(h:Mks is os)(h4:∀i∈is,i<4)(ne:is≠[]):ug os/\yx os/\0<(z9 os).length:=by
 obtain⟨i0,hi0⟩:∃i,i∈is:=by
  match is,ne with
  | a::r,_=>exact⟨a,zyo⟩
 have m0:yZ i0∈os:=(h.2 _).mpr ⟨i0,hi0,.inl rfl⟩
 refine⟨⟨h.1,fun x hx=>?_,List.length_pos_of_mem m0⟩,fun p hp=>?_,?_⟩
 ·obtain⟨i,hi,e | e⟩:=(h.2 x).mp hx
  ·rw[e];exact zkt (h4 i hi)
  ·rw[e];exact zku (h4 i hi)
 ·obtain⟨j,hj,rfl⟩:=zbA hp
  obtain⟨a,b⟩:=h.has h4 hj
  rw[contains_iff,contains_iff]
  exact decide_eq_decide.mpr (a.trans b.symm)
 ·refine List.length_pos_of_mem (a:=yZ i0) ?_
  unfold z9
  exact List.mem_map.mpr ⟨(yZ i0,v8 i0),List.mem_filter.mpr ⟨zx9 (QM (h4 _ hi0)),by rw[contains_iff];exact decide_eq_true m0⟩,rfl⟩
theorem mem_mid {α:Type}{x y:α}{os:List α}{j:Nat}:x∈os.take j++y::os.drop j↔x=y\/x∈os:=by
 have e:List.Perm (os.take j++y::os.drop j) (y::os):=(List.perm_middle).trans (by rw[List.take_append_drop])
 rw[e.mem_iff,List.mem_cons]
theorem zeu {α:Type}{y:α}{os:List α}{j:Nat}(nd:os.Nodup)(h:y∉os):(os.take j++y::os.drop j).Nodup:=by
 refine List.perm_middle.nodup_iff.mpr (List.nodup_cons.mpr ⟨?_,?_⟩)
 ·rw[List.take_append_drop];exact h
 ·rw[List.take_append_drop];exact nd
theorem zjD {α:Type}{y:α}{os:List α}{j:Nat}:(os.take j++y::os.drop j).length=os.length+1:=by
 rw[zyc,zyg,zys,List.length_drop]
 omega
structure Ml (os:List Str)(H:Hp)(s:Sn)(p:Addr):Prop where
 is_:TJ H s p
 Ve:s.Ve os
 ct:s.count<=200
 dp:s.depth<=24
theorem Ml.mono {os:List Str}{H H':Hp}{s:Sn}{p:Addr}(h:Ml os H s p)(t:yJ H H'):Ml os H' s p:=⟨h.is_.mono t,h.Ve,h.ct,h.dp⟩
theorem znX {os ps:List Str}(h:∀x∈os,x∈ps):∀{s:Sn},s.Ve os->s.Ve ps:=fun {s} e=>(Sn.WX s).mpr fun x hx=>h x ((Sn.WX s).mp e x hx)
section
variable (K:Frag)
inductive zfg (vs:List V)(H:Hp)(Q:VK)(E9:XK):Prop
 | mk (c:Int) (_:vs=[.int c]) (_:∀(l:Addr) (H':Hp) (os:List Str),Same H H'->H' l=some (.lst (os.map V.str))->ug os->yx os->0<(z9 os).length->Q (.ref l) H'):zfg vs H Q E9
inductive U6 (vs:List V)(H:Hp)(Q:VK)(E9:XK):Prop
 | mk (ol:Addr) (os:List Str) (_:vs=[.ref ol]) (_:zO K H ol (os.map V.str)) (_:∀(l:Addr) (H':Hp),Same H H'->H l=none->H' l=some (.lst ((z9 os).map V.str))->Q (.ref l) H'):U6 vs H Q E9
inductive Ly (vs:List V)(H:Hp)(Q:VK)(E9:XK):Prop
 | mk (ol:Addr) (os:List Str) (_:vs=[.ref ol]) (_:zO K H ol (os.map V.str)) (_:yx os) (_:∀(p:Addr) (H':Hp) (s:Sn),Same H H'->Ml os H' s p->Q (.ref p) H'):Ly vs H Q E9
inductive zcp (vs:List V)(H:Hp)(Q:VK)(E9:XK):Prop
 | mk (ol:Addr) (os:List Str) (c:Int) (_:vs=[.ref ol,.int c]) (_:zO K H ol (os.map V.str)) (_:∀(p:Addr) (H':Hp) (s:Sn),Same H H'->Ml (z9 os) H' s p->Q (.ref p) H'):zcp vs H Q E9
inductive zh9 (vs:List V)(H:Hp)(Q:VK)(E9:XK):Prop
 | mk (sc:Addr) (ns:List Int) (_:vs=[.ref sc]) (_:zO K H sc (ns.map V.int)) (_:∀(t ol p:Addr) (H':Hp) (os:List Str) (s:Sn),Same H H'->H' t=some (.tup [.ref ol,.ref p])->H' ol=some (.lst (os.map V.str))->ug os->yx os->0<(z9 os).length->Ml os H' s p->Q (.ref t) H'):zh9 vs H Q E9
inductive QS (vs:List V)(H:Hp)(Q:VK)(E9:XK):Prop
 | mk (sc ol:Addr) (ns:List Int) (t:Nat) (os:List Str) (_:vs=[.ref sc,.int (t:Nat),.ref ol]) (_:zO K H sc (ns.map V.int)) (_:zO K H ol (os.map V.str)) (_:os.length<=8) (_:0<(z9 os).length) (_:t<=40) (_:∀(p:Addr) (H':Hp) (s:Sn),Same H H'->Ml (z9 os) H' s p->Q (.ref p) H'):QS vs H Q E9
end
section
variable (os:List Str)(t:Nat->Bool)
def ZV (f:Nat->Bool):Nat->(Nat->Bool)×(Nat->Bool)
 | 0=>(f,fun _=>false)
 | i+1=>(fun b=>W0 os t (ZV f i).1 b&&!((ZV f i).2 b||(ZV f i).1 b),fun b=>(ZV f i).2 b||(ZV f i).1 b)
structure zl3 (f:Nat->Bool)(Ns:List Nat):Prop where
 tab:∀(i N:Nat),Ns[i]?=some N->zV os.length N (ZV os t f i).1/\N≠0
 fin:zV os.length 0 (ZV os t f Ns.length).1
end
section
variable {os:List Str}{t:Nat->Bool}
theorem zkv (f:Nat->Bool)(i b:Nat)(h:(ZV os t f i).1 b=true):(ZV os t f i).2 b=false:=by
 cases i with
 | zero=>rfl
 | succ i =>
  have h:(W0 os t (ZV os t f i).1 b&&!((ZV os t f i).2 b||(ZV os t f i).1 b))=true:=h
  show((ZV os t f i).2 b||(ZV os t f i).1 b)=false
  cases e:((ZV os t f i).2 b||(ZV os t f i).1 b) with
  | false=>rfl
  | true=>rw[e,Bool.not_true,Bool.and_false] at h;cases h
theorem zfh {α:Type}{p q:α->Bool}:∀{l:List α},(∀a,p a=true->q a=true)->(∃a∈l,q a=true/\p a=false)->(l.filter p).length<(l.filter q).length
 | [],_,h=>by obtain⟨a,ha,_⟩:=h;cases ha
 | x::l,hpq,h=>by
  have le:(l.filter p).length<=(l.filter q).length:=by
   clear h
   induction l with
   | nil=>exact zyk _
   | cons y l ih =>
    rw[List.filter_cons,List.filter_cons]
    by_cases c:p y=true
    ·rw[if_pos c,if_pos (hpq y c),zyg,zyg];omega
    ·rw[if_neg c]
     split
     ·rw[zyg];omega
     ·exact ih
  rw[List.filter_cons,List.filter_cons]
  by_cases c:p x=true
  ·rw[if_pos c,if_pos (hpq x c),zyg,zyg]
   obtain⟨a,ha,h1,h2⟩:=h
   rcases List.mem_cons.mp ha with e | e
   ·rw[e,c] at h2;cases h2
   ·have:=zfh (l:=l) hpq ⟨a,e,h1,h2⟩
    omega
  ·rw[if_neg c]
   by_cases d:q x=true
   ·rw[if_pos d,zyg];omega
   ·rw[if_neg d]
    obtain⟨a,ha,h1,h2⟩:=h
    rcases List.mem_cons.mp ha with e | e
    ·rw[e] at h1;exact absurd h1 d
    ·exact zfh (l:=l) hpq ⟨a,e,h1,h2⟩
def zkw (os:List Str)(t f:Nat->Bool)(i:Nat):Nat:=((List.range (2^os.length)).filter (ZV os t f i).2).length
theorem zfi (f:Nat->Bool)(i:Nat):zkw os t f i<=2^os.length:=zyq (zyD _ _) (by rw[zym];exact zyk _)
theorem zjE {f:Nat->Bool}{i N:Nat}(h:zV os.length N (ZV os t f i).1)(ne:N≠0):zkw os t f i<zkw os t f (i+1):=by
 unfold zkw
 refine zfh (fun a ha=>by show((ZV os t f i).2 a||(ZV os t f i).1 a)=true;rw[ha];rfl) ?_
 have hb:∃b,N.testBit b=true:=by
  refine Classical.byContradiction fun no=>ne (Nat.eq_of_testBit_eq fun b=>?_)
  rw[Nat.zero_testBit]
  cases e:N.testBit b with
  | false=>rfl
  | true=>exact absurd ⟨b,e⟩ no
 obtain⟨b,hb⟩:=hb
 have z:=h b
 rw[hb] at z
 have z1:b<2^os.length:=by
  by_cases c:b<2^os.length
  ·exact c
  ·rw[decide_eq_false c,Bool.false_and] at z;cases z
 rw[decide_eq_true z1,Bool.true_and] at z
 refine⟨b,List.mem_range.mpr z1,?_,zkv f i b z.symm⟩
 show((ZV os t f i).2 b||(ZV os t f i).1 b)=true
 rw[<-z,Bool.or_true]
theorem zl4 {n N M:Nat}{f g:Nat->Bool}(a:zV n N f)(b:zV n M g):zV n (N|||M) fun c=>f c||g c:=fun c=>by
 rw[Nat.testBit_or,a c,b c]
 cases decide (c<2^n)<;>rfl
theorem YF {os:List Str}{x:Str}(h:x∈z9 os):x∈os/\∃i,i<4/\x=yZ i:=by
 refine⟨zcj h,?_⟩
 obtain⟨p,hp,rfl⟩:=List.mem_map.mp h
 obtain⟨i,hi,rfl⟩:=zbA (List.mem_filter.mp hp).1
 exact⟨i,hi,rfl⟩
theorem zas {os:List Str}{x:Str}(h:x∈uX os):x∈os/\∃i,i<4/\x=v8 i:=by
 refine⟨zam h,?_⟩
 obtain⟨p,hp,rfl⟩:=List.mem_map.mp h
 obtain⟨i,hi,rfl⟩:=zbA (List.mem_filter.mp hp).1
 exact⟨i,hi,rfl⟩
theorem ix_inj' {os:List Str}{x y:Str}(hx:x∈os)(hy:y∈os)(e:ix os x=ix os y):x=y:=(ze7 hy hx).mp e
theorem Jf (os:List Str):(uX os).Nodup:=by
 unfold uX
 have e:(prs.map (·.2)).Nodup:=by decide +kernel
 exact List.Nodup.sublist (List.Sublist.map _ (List.filter_sublist)) e
theorem zgy {os:List Str}(ho:ug os):(zW os).Nodup:=by
 unfold zW
 refine List.pairwise_map.mpr ((Jf os).imp_of_mem fun {a b} ha hb ne e=>ne ?_)
 exact ix_inj' (zas ha).1 (zas hb).1 e
theorem uO {os:List Str}(ho:ug os){i j:Nat}(hi:i∈yg os)(hj:j∈zW os):i≠j:=fun e=>by
 obtain⟨x,hx,rfl⟩:=List.mem_map.mp hi
 obtain⟨y,hy,rfl⟩:=List.mem_map.mp hj
 obtain⟨h1,a,ha,rfl⟩:=YF hx
 obtain⟨h2,b,hb,rfl⟩:=zas hy
 exact Xh ha (ix_inj' h1 h2 e)
theorem zgz (ho:ug os)(hW:yx os)(f:Nat->Bool):∀p∈zW os,Free os.length (W0 os t f) p:=by
 intro p hp b hb v
 unfold W0
 rw[Jc,Jc]
 congr 1
 have e1:((zW os).zip (yg os)).map (·.1)=zW os:=List.map_fst_zip (by unfold zW yg;rw[zx4,zx4,hW.len];exact zyk _)
 have nd:(((zW os).zip (yg os)).map (·.1)).Nodup:=by rw[e1];exact zgy ho
 have ap:∀x∈(zW os).zip (yg os),∀y∈(zW os).zip (yg os),x.2≠y.1:=fun x hx y hy=>uO ho (zyH hx).2 (zyH hy).1
 obtain⟨a1,a2⟩:=zcm _ (zN b p v) nd ap
 obtain⟨b1,b2⟩:=zcm _ b nd ap
 refine NT fun i=>?_
 by_cases c:i∈((zW os).zip (yg os)).map (·.1)
 ·obtain⟨x,hx,rfl⟩:=List.mem_map.mp c
  rw[a1 x hx,b1 x hx,zT,if_neg]
  exact fun e=>uO ho (zyH hx).2 hp e
 ·rw[a2 i c,b2 i c,zT,if_neg]
  exact fun e=>c (by rw[e1,e];exact hp)
theorem zgA (ho:ug os)(hW:yx os){f:Nat->Bool}(hf:∀p∈zW os,Free os.length f p):∀i,∀p∈zW os,Free os.length (ZV os t f i).1 p/\Free os.length (ZV os t f i).2 p
 | 0,p,hp=>⟨hf p hp,fun _ _ _=>rfl⟩
 | i+1,p,hp=>by
  obtain⟨a,b⟩:=zgA ho hW hf i p hp
  refine⟨fun c hc v=>?_,fun c hc v=>?_⟩
  ·show(W0 os t (ZV os t f i).1 (zN c p v)&&!((ZV os t f i).2 (zN c p v)||(ZV os t f i).1 (zN c p v)))=_
   rw[zgz ho hW _ p hp c hc v,a c hc v,b c hc v]
   rfl
  ·show((ZV os t f i).2 (zN c p v)||(ZV os t f i).1 (zN c p v))=_
   rw[a c hc v,b c hc v]
   rfl
theorem zew {rs:List Rm}(ho:ug os){j:Nat}{s:Sn}(hs:s.Ve (z9 os))(m:Means rs j fun r=>s.val (zkl os r)):Vw os rs j:=⟨m.1,fun p hp b hb v=>by
 show yes rs j _=yes rs j _
 rw[m.2,m.2]
 refine Sn.val_congr s hs fun x hx=>?_
 show Rv (zN b p v) (ix os x)=Rv b (ix os x)
 unfold Rv
 rw[zT,if_neg]
 exact fun e=>uO ho (List.mem_map_of_mem hx) hp e⟩
theorem zfj {x:List Nat}{j:Nat}{v:V}(h:(yd x)[j]?=some v):∃b,x[j]?=some b/\v=.int (b:Nat):=by
 unfold yd at h
 rw[zx6] at h
 cases hx:x[j]? with
 | none=>rw[hx] at h;cases h
 | some b=>rw[hx] at h;exact⟨b,rfl,(zyz h).symm⟩
theorem ZW (x:List Nat):(yd x).length=x.length:=zx4 _
theorem zl5 {K:Frag}{H:Hp}{n:Nat}{p q:Addr}{x y:List Nat}(hp:zO K H p (yd x))(hq:zO K H q (yd y)):Ks K H (n+1) (.ref p) (.ref q) (decide (x=y)):=by
 by_cases hl:x.length=y.length
 ·have z:=Ks.ll (n:=n) (e:=fun j=>x[j]?==y[j]?) hp hq (by rw[ZW,ZW,hl]) fun j u v hu hv=>by
   obtain⟨b,hb,rfl⟩:=zfj hu
   obtain⟨c,hc,rfl⟩:=zfj hv
   rw[hb,hc]
   have:eqV (.int (b:Nat)) (.int (c:Nat))=(some b==some c):=by
    show(((b:Nat):Int)==((c:Nat):Int))=(some b==some c)
    by_cases e:b=c
    ·subst e;simp
    ·have e':¬((b:Nat):Int)=((c:Nat):Int):=by omega
     rw[beq_eq_false_iff_ne.mpr e',beq_eq_false_iff_ne.mpr (fun z=>e (zyz z))]
   rw[<-this]
   exact .flat rfl rfl
  have e:((List.range (yd x).length).all fun j=>x[j]?==y[j]?)=decide (x=y):=by
   rw[ZW]
   by_cases h:x=y
   ·subst h
    rw[decide_eq_true rfl,zyy]
    exact fun j _=>by simp
   ·rw[decide_eq_false h]
    cases hc:(List.range x.length).all fun j=>x[j]?==y[j]? with
    | false=>rfl
    | true =>
     exfalso
     refine h (List.ext_getElem? fun j=>?_)
     by_cases hj:j<x.length
     ·exact eq_of_beq (zyy.mp hc j (List.mem_range.mpr hj))
     ·rw[zyE (by omega),zyE (by omega)]
  rw[e] at z
  exact z
 ·rw[decide_eq_false fun e=>hl (by rw[e])]
  exact .ln hp hq (by rw[ZW,ZW];exact hl)
end
section
variable (C:Addr)(K:Frag)
def tB (rs:List Rm)(k:Nat):Nat->Bool:=fun b=>yes rs k (Rv b)
inductive U7 (vs:List V)(H:Hp)(Q:VK)(E9:XK):Prop
 | mk (b:Addr) (os:List Str) (rs:List Rm) (F:vC) (k j:Nat) (_:vs=[.ref b,.int (k:Nat),.int (j:Nat)]) (_:yD C H b os rs F) (_:yx os) (_:k<rs.length) (_:j<rs.length) (_:∀(l:Addr) (H':Hp) (Ns:List Nat),Same H H'->H l=none->H' l=some (.lst (yd Ns))->zl3 os (tB rs k) (tB rs j) Ns->Ns.length<=256->Q (.ref l) H'):U7 vs H Q E9
end
theorem Ls.rise {C:Addr}{H0:Hp}{b:Addr}{os:List Str}{m n:Nat}{H:Hp}{rs:List Rm}{F:vC}(h:Ls C H0 b os m H rs F){H':Hp}{rs':List Rm}(aw:znG F H H')(hB:yD C H' b os rs' F)(hh:hiN os.length rs'<=hiN os.length rs+n):Ls C H0 b os (m+n) H' rs' F :=
 ⟨fun x o e=>aw x o (h.same _ _ e) fun z=>(by have:=h.away x z;rw[this] at e;cases e),h.away,hB,zyq hh (Nat.add_le_add_right h.hi _)⟩
end uh
namespace PySem
namespace F
theorem zia:typeLookup (.type "list_reverseiterator") "__len__"=pure none:=by rw[typeLookup_type,builtinLookup_eq_fast];kernel_rfl
theorem zl6:typeLookup (.type "list_reverseiterator") "__length_hint__"=pure (some (.builtin "list_reverseiterator.__length_hint__")):=by rw[typeLookup_type,builtinLookup_eq_fast];kernel_rfl
end F
end PySem
namespace L2
open PySem PySem.W PySem.Spec PyProof.Rows PySem.Calls PyProof.V
section
variable {prog:Program}{w:World}{A:Around}{E:Value->Shared->Prop}{s:Shared}{r l:Addr}{items:Array Value}
theorem zl7 {Q:Bool->Shared->Prop}(hT:s.TypeIs (.ref r) "list_reverseiterator")(h:Q false s):wpAny (model prog w) A (Builtin.List.listLengthHint (.ref r)) Q E s:=by
 unfold Builtin.List.listLengthHint
 refine wpAny_bind (wpAny_specialOf hT PySem.F.zia ?_)
 refine wpAny_ite_split (fun hab=>absurd hab (by decide)) (fun _=>?_)
 refine wpAny_ite_split (fun hab=>absurd hab (by decide)) (fun _=>?_)
 refine wpAny_bind (wpAny_specialOf hT PySem.F.zl6 ?_)
 generalize hid:("list_reverseiterator.__length_hint__" : String)=id0
 wp_delta
 rw[show splitId id0=some ("list_reverseiterator", "__length_hint__") from by subst hid;decide +kernel]
 subst hid
 refine wpAny_bind (wpAny_isInstance (T := "list_reverseiterator") (b:=true) hT (by rw[isSubtype_type];kernel_rfl) ?_)
 refine wpAny_ite_split (fun hab=>absurd hab (by decide)) (fun _=>?_)
 refine wpAny_ite_split (fun _=>?_) (fun hab=>absurd (by decide +kernel) hab)
 refine wpAny_ite_split (fun hab=>absurd hab (by decide +kernel)) (fun _=>?_)
 exact wpAny_pure h
theorem zib {R:Result->Shared->Prop}(hh:A.handled=none)(hne:l≠r)(hit:s.heap.IsRevIter r l ((items.size:Int)-1))(hl:s.heap.IsList l items)(S:Addr)(hSr:S≠r)(hSl:S≠l)(res:Value)(c₀:Nat)(hS:s.heap.get? S=some { cls:=.type "list", data:=.seq #[] c₀ })
  (hR:∀h' tk acc' c',(∀b o,b≠S->b≠r->s.heap.get? b=some o->h'.get? b=some o)->h'.get? S=some { cls:=.type "list", dict:=none,data:=.seq acc' c',slots:=#[] }->ItemsOf (fun i v=>items[items.size-1-i]?=some v) acc' items.size->R (.ok (.ret res)) { s with heap:=h',toks:=tk })(hn:items.size<=sizeLine) :
  wpAny (model prog w) A.in1 (Builtin.List.listExtendWith (.ref S) (.ref r) res)
   (fun fin s'=>match fin with | .done f=>R (.ok f) s' | .again c'=>c'.quiet=true/\codeAny (model prog w) A c' R s') (fun e s'=>R (.error e) s') s:=by
 have hSf:S∉[r,l]:=by simp only[List.mem_cons,zyv,or_false,not_or];exact⟨hSr,hSl⟩
 have W:=Walks.listRev (prog:=prog) (w:=w) (A:=A.in1) hh r l hne items
 have st0:(0<=items.size/\s.heap.IsRevIter r l ((items.size:Int)-1-((0:Nat):Int))/\s.heap.IsList l items):=⟨zyr _,by rw[show(items.size:Int)-1-((0:Nat):Int)=(items.size:Int)-1 by omega];exact hit,hl⟩
 unfold Builtin.List.listExtendWith
 refine wpAny_bind (wpAny_typeOf (T := "list_reverseiterator") hit.typeIs ?_)
 have h1:Builtin.List.listSameRef (.ref S) (.ref r)=false:=by simp[Builtin.List.listSameRef,hSr]
 have h2:(Value.type "list_reverseiterator" == Value.type "list")=false:=by decide
 have h3:(Value.type "list_reverseiterator" == Value.type "tuple")=false:=by decide
 simp only[h1,h2,h3,Bool.or_false,Bool.false_eq_true,if_false]
 refine wpAny_bind (wpAny_pyIter_revIter hit ?_)
 refine wpAny_bind (wpAny_holding (zl7 hit.typeIs ?_))
 refine wpAny_ite_split (fun hab=>absurd hab zx8) (fun _=>wpAny_pure ⟨plainId_quiet PySem.F.plain_extend_loop _,?_⟩)
 refine codeAny_extend_loopS W.toS hn S hSf res items.size 0 _ #[] c₀ rfl (zyr _) st0 hS (ItemsOf.nil _) fun s' acc' c' hm hS' hacc=>?_
 rw[Moved.eq_with hm]
 refine hR s'.heap s'.toks acc' c' (fun b o hb hbr e=>hm.heap b o (fun hmem=>?_) e) hS' hacc
 rcases List.mem_cons.mp hmem with e' | hmem
 ·exact hb e'
 ·exact hbr (List.mem_singleton.mp hmem)
theorem zl8 {Q:Value->Shared->Prop}(hh:A.handled=none)(hne:l≠r)(hit:s.heap.IsRevIter r l ((items.size:Int)-1))(hl:s.heap.IsList l items)(hn:items.size<=sizeLine)
  (hQ:∀h' tk acc' c',(∀b o,b≠r->s.heap.get? b=some o->h'.get? b=some o)->h'.get? s.heap.objs.size=some { cls:=.type "list", dict:=none,data:=.seq acc' c',slots:=#[] }->ItemsOf (fun i v=>items[items.size-1-i]?=some v) acc' items.size->Q (.ref s.heap.objs.size) { s with heap:=h',toks:=tk }) :
  wpAny (model prog w) A (call (.type "list") [.ref r]) Q E s:=by
 refine callType_codes (Q₁:=fun obj s₁=>obj=.ref s.heap.objs.size/\s₁={ s with heap:=s.heap.push { cls:=.type "list", data:=.seq #[] } }) PySem.F.called_list (PySem.F.typeCall_list_1 _) PySem.F.entry_list_init
  (code_list_new _ ⟨rfl,rfl⟩) fun obj s₁ h₁=>?_
 obtain⟨rfl,rfl⟩:=h₁
 have hS:(s.heap.push { cls:=.type "list", data:=.seq #[] }).get? s.heap.objs.size=some { cls:=.type "list", data:=.seq #[] }:=zyp _ rfl
 obtain⟨o1,ho1,_⟩:=id hit
 obtain⟨o2,ho2,_⟩:=id hl
 have lr:r<s.heap.objs.size:=zyb ho1
 have ll:l<s.heap.objs.size:=zyb ho2
 refine⟨⟨_,hS,rfl⟩,PySem.F.args_list_init_2 _ _,?_⟩
 show wpAny _ _ (do let old <-Builtin.List.listItems (.ref s.heap.objs.size);Builtin.List.listUpdate (.ref s.heap.objs.size) (fun _=>#[]);letGo old.toList.reverse;Builtin.List.listExtendWith (.ref s.heap.objs.size) (.ref r) .none) _ _ _
 refine wpAny_bind ?_
 unfold Builtin.List.listItems
 refine wpAny_bind (wpAny_seqItems hS rfl (wpAny_pure ?_))
 show wpAny _ _ (updateSeq s.heap.objs.size (fun _=>#[])>>=fun _=>letGo (#[]:Array Value).toList.reverse>>=fun _=>Builtin.List.listExtendWith (.ref s.heap.objs.size) (.ref r) .none) _ _ _
 refine wpAny_bind (wpAny_updateSeq hS rfl ?_)
 have hS₂:=Heap.get?_update_self (Obj.mapSeq (fun _=>(#[]:Array Value))) hS rfl
 have oth:∀b o,b≠s.heap.objs.size->s.heap.get? b=some o->((s.heap.push { cls:=.type "list", data:=.seq #[] }).update s.heap.objs.size (Obj.mapSeq (fun _=>(#[]:Array Value)))).get? b=some o :=
  fun b o hb e=>(Heap.get?_update_other _ _ (Ne.symm hb)).trans (zya _ e)
 refine wpAny_bind (wpAny_letGo ?_)
 refine zib (A:=A.in1) hh hne (hit.at fun o e=>oth r o (zyj lr) e) (hl.at fun o e=>oth l o (zyj ll) e) s.heap.objs.size (Nat.ne_of_gt lr) (Nat.ne_of_gt ll) .none _ hS₂ (fun h' tk acc' c' hk hS' hacc=>?_) hn
 exact⟨rfl,hQ h' tk acc' c' (fun b o hbr e=>hk b o (zyj (zyb e)) hbr (oth b o (zyj (zyb e)) e)) hS' hacc⟩
end
section
variable {X:Cx}
def zrr (K:Frag)(ta:TA):TE:=fun σ H Q=>ta σ H fun vs H1=>∃(a:Addr) (xs:List V),vs=[.ref a]/\zO K H1 a xs/\∀l,H1 l=none->Q (.ref l) (upd H1 l (.lst xs.reverse))
theorem zic {e:Expr}{ta:TA}{p p2 pos pos2:Pos}(hc:X.calm=true)(hg:Gl X "list")(hm:X.mg "list"=none)(hg2:Gl X "reversed")(hm2:X.mg "reversed"=none)(ha:PA X [e] ta)
  (hs:starEach [e] X.env=[(false,eval e X.env)]:=by rfl)
  (hs2:starEach [.Call (.Name "reversed" p2) [e] [] pos2] X.env=[(false,eval (.Call (.Name "reversed" p2) [e] [] pos2) X.env)]:=by rfl) :
  PE X (.Call (.Name "list" p) [.Call (.Name "reversed" p2) [e] [] pos2] [] pos) (zrr X.K ta):=by
 intro pins s σ H Q I h
 refine wpAny_Call_Name_kw (Ws I hg hm KR ?_ (by decide) (by decide))
 refine PyProof.Rows.callWith_type1 ?_ hs2 rfl
 rw[hs2]
 show wpAny _ _ (spliced ((false,eval (.Call (.Name "reversed" p2) [e] [] pos2) X.env)::[])) _ _ s
 refine Calls.spliced_cons ?_
 refine Call_ (Ws I hg2 hm2 (by rfl) (PyProof.Rows.callWith_type1 (vJ (ha pos2 pins s σ H _ I h) fun us s1 ⟨vs,H1,I1,r1,q1⟩=>?_) hs rfl))
 obtain⟨a,xs,e1,hq,q⟩:=q1
 subst e1
 obtain⟨u,rfl,ru⟩:=vals1 r1
 cases ru
 obtain⟨its,rv,pl,hz⟩:=I1.list hq
 have hlen:=rv.length
 refine call_reversed_list pl.isList (Calls.spliced_nil ?_)
 obtain⟨oa,hoa,_⟩:=id pl.isList
 have la:a<s1.heap.objs.size:=zyb hoa
 have es:(s1.heap.push (revObj a ((its.toArray.size:Int)-1))).objs.size=s1.heap.objs.size+1:=Heap.size_push ..
 refine zl8 (s:={ s1 with heap:=s1.heap.push (revObj a ((its.toArray.size:Int)-1)) }) (l:=a) (items:=its.toArray) (I1.ok.hd hc) (zyj la) ⟨_,zyp _ rfl,rfl,rfl⟩ (pl.isList.at fun o e=>zya _ e) (by rw[zye];omega) fun h' tk acc c kp hD hacc=>?_
 have kk:∀b o,s1.heap.get? b=some o->h'.get? b=some o:=fun b o e=>kp b o (zyj (zyb e)) (zya _ e)
 show EP X pins σ Q (.ref (s1.heap.push (revObj a ((its.toArray.size:Int)-1))).objs.size) { s1 with heap:=h',toks:=tk }
 rw[es] at hD ⊢
 refine⟨.ref (s1.heap.objs.size+1),_,I1.laid (t':=tk) (o:=.lst xs.reverse) kk (Nat.le_succ _) ?_,rfl,q _ (I1.hok.fresh (Nat.le_succ _))⟩
 refine⟨by rw[List.length_reverse];exact hz,acc.toList,c,?_,by simpa using hD⟩
 have hsz:acc.size=xs.length:=by rw[hacc.1,zye];omega
 refine zgp (by rw[List.length_reverse];simp;omega) fun j v hv=>?_
 have hjl:j<xs.length:=by
  have:=(zx7.mp hv).1
  rw[Array.length_toList] at this
  omega
 have hx:=hacc.2 j v (by rw[<-Array.getElem?_toList];exact hv)
 rw[zye,List.getElem?_toArray] at hx
 obtain⟨y,hy⟩:∃y,xs[xs.length-1-j]?=some y:=⟨_,zx5 (by omega)⟩
 obtain⟨u2,hu2,ru2⟩:=rv.get hy
 rw[<-hlen,hu2] at hx
 cases hx
 exact⟨y,by rw[List.getElem?_reverse hjl];exact hy,ru2⟩
end
end L2
namespace uh
open PySem L2 xV
section
variable {os:List Str}
theorem zfk (t f:Nat->Bool)(b:Nat):W0 os t f b=true↔∃d,(∀i,i∉yg os->d.testBit i=(mv ((zW os).zip (yg os)) b).testBit i)/\f d=true/\t d=true:=by
 unfold W0
 rw[Jc,zcl]
 simp only[zyw]
theorem zjF (t f:Nat->Bool)(b:Nat):zh6 os t f b=true↔∃e,(∀i,i∉zW os->e.testBit i=b.testBit i)/\f (mv ((yg os).zip (zW os)) e)=true/\t e=true:=by
 unfold zh6
 rw[zcl]
 simp only[zyw,Jc]
theorem Jg {n b:Nat}(h:∀i,n<=i->b.testBit i=false):b<2^n:=Nat.lt_pow_two_of_testBit b h
theorem xT {n b i:Nat}(h:b<2^n)(hi:n<=i):b.testBit i=false:=Nat.testBit_lt_two_pow (zyd h (zyA (by decide) hi))
theorem free_eq {n:Nat}:∀(ps:List Nat) {f:Nat->Bool},(∀p∈ps,p<n/\Free n f p)->∀{b c:Nat},b<2^n->c<2^n->(∀i,i∉ps->b.testBit i=c.testBit i)->f b=f c
 | [],f,_,b,c,_,_,h=>by rw[NT fun i=>h i (by simp)]
 | p::ps,f,hf,b,c,hb,hc,h=>by
  obtain⟨pn,fr⟩:=hf p zyo
  rw[<-fr b hb (c.testBit p)]
  refine free_eq ps (fun q hq=>hf q (zyf _ hq)) (yP hb pn) hc fun i hi=>?_
  rw[zT]
  by_cases e:i=p
  ·rw[if_pos e,e]
  ·rw[if_neg e];exact h i fun y=>(List.mem_cons.mp y).elim e hi
section
variable (ho:ug os)(hW:yx os)
include ho hW
theorem zfl:(z9 os).Nodup:=by
 have e:(prs.map (·.1)).Nodup:=by decide +kernel
 exact List.Nodup.sublist (List.Sublist.map _ (List.filter_sublist)) e
theorem zfm:(yg os).Nodup:=by
 unfold yg
 refine List.pairwise_map.mpr ((zfl ho hW).imp_of_mem fun {a b} ha hb ne e=>ne ?_)
 exact ix_inj' (YF ha).1 (YF hb).1 e
theorem mvT (b:Nat):(∀x∈(zW os).zip (yg os),(mv ((zW os).zip (yg os)) b).testBit x.1=b.testBit x.2)/\∀i,i∉zW os->(mv ((zW os).zip (yg os)) b).testBit i=b.testBit i:=by
 have e1:((zW os).zip (yg os)).map (·.1)=zW os:=List.map_fst_zip (by unfold zW yg;rw[zx4,zx4,hW.len];exact zyk _)
 have z:=zcm ((zW os).zip (yg os)) b (by rw[e1];exact zgy ho) fun x hx y hy=>uO ho (zyH hx).2 (zyH hy).1
 rw[e1] at z
 exact z
theorem mvN (b:Nat):(∀x∈(yg os).zip (zW os),(mv ((yg os).zip (zW os)) b).testBit x.1=b.testBit x.2)/\∀i,i∉yg os->(mv ((yg os).zip (zW os)) b).testBit i=b.testBit i:=by
 have e1:((yg os).zip (zW os)).map (·.1)=yg os:=List.map_fst_zip (by unfold zW yg;rw[zx4,zx4,hW.len];exact zyk _)
 have z:=zcm ((yg os).zip (zW os)) b (by rw[e1];exact zfm ho hW) fun x hx y hy=>Ne.symm (uO ho (zyH hy).1 (zyH hx).2)
 rw[e1] at z
 exact z
theorem zgB {i:Nat}(h:i∈zW os):∃j,(i,j)∈(zW os).zip (yg os):=by
 obtain⟨m,hm,e⟩:=List.mem_iff_getElem.mp h
 have l:m<(yg os).length:=by
  have:(yg os).length=(zW os).length:=by unfold zW yg;rw[zx4,zx4,hW.len]
  omega
 refine⟨(yg os)[m],List.mem_iff_getElem.mpr ⟨m,by rw[List.length_zip];omega,?_⟩⟩
 rw[List.getElem_zip,e]
theorem znY {i:Nat}(h:i∈yg os):∃j,(i,j)∈(yg os).zip (zW os):=by
 obtain⟨m,hm,e⟩:=List.mem_iff_getElem.mp h
 have l:m<(zW os).length:=by
  have:(yg os).length=(zW os).length:=by unfold zW yg;rw[zx4,zx4,hW.len]
  omega
 refine⟨(zW os)[m],List.mem_iff_getElem.mpr ⟨m,by rw[List.length_zip];omega,?_⟩⟩
 rw[List.getElem_zip,e]
theorem zgC {i j:Nat}:(i,j)∈(zW os).zip (yg os)↔(j,i)∈(yg os).zip (zW os):=by
 constructor
 ·intro h
  obtain⟨m,hm,e⟩:=List.mem_iff_getElem.mp h
  rw[List.length_zip] at hm
  rw[List.getElem_zip,Prod.mk.injEq] at e
  refine List.mem_iff_getElem.mpr ⟨m,by rw[List.length_zip];omega,?_⟩
  rw[List.getElem_zip,e.1,e.2]
 ·intro h
  obtain⟨m,hm,e⟩:=List.mem_iff_getElem.mp h
  rw[List.length_zip] at hm
  rw[List.getElem_zip,Prod.mk.injEq] at e
  refine List.mem_iff_getElem.mpr ⟨m,by rw[List.length_zip];omega,?_⟩
  rw[List.getElem_zip,e.1,e.2]
theorem zjG {t f g:Nat->Bool}(hf:∀p∈zW os,Free os.length f p)(hg:∀p∈zW os,Free os.length g p):(∃b,b<2^os.length/\W0 os t f b=true/\g b=true)↔∃b,b<2^os.length/\f b=true/\zh6 os t g b=true:=by
 have hf':∀p∈zW os,p<os.length/\Free os.length f p:=fun p hp=>⟨ZS p hp,hf p hp⟩
 have hg':∀p∈zW os,p<os.length/\Free os.length g p:=fun p hp=>⟨ZS p hp,hg p hp⟩
 constructor
 ·rintro⟨b,hb,ha,gb⟩
  obtain⟨d,h1,fd,td⟩:=(zfk _ _ _).mp ha
  obtain⟨m1,m2⟩:=mvT ho hW b
  obtain⟨k1,k2⟩:=mvN ho hW d
  have dl:d<2^os.length:=Jg fun i hi=>by
   have a1:i∉yg os:=fun z=>by have:=YC i z;omega
   have a2:i∉zW os:=fun z=>by have:=ZS i z;omega
   rw[h1 i a1,m2 i a2];exact xT hb hi
  have ml:mv ((yg os).zip (zW os)) d<2^os.length:=Jg fun i hi=>by
   have a1:i∉yg os:=fun z=>by have:=YC i z;omega
   rw[k2 i a1];exact xT dl hi
  refine⟨d,dl,fd,(zjF _ _ _).mpr ⟨d,fun _ _=>rfl,?_,td⟩⟩
  rw[free_eq (zW os) hg' ml hb fun i hi=>?_]
  ·exact gb
  by_cases c:i∈yg os
  ·obtain⟨j,hj⟩:=znY ho hW c
   rw[k1 _ hj]
   have tj:=(zyH hj).2
   have nj:j∉yg os:=fun z=>uO ho z tj rfl
   show d.testBit j=b.testBit i
   rw[h1 j nj,m1 _ ((zgC ho hW).mpr hj)]
  ·rw[k2 i c,h1 i c,m2 i hi]
 ·rintro⟨c,hc,fc,hb⟩
  obtain⟨e,h1,ge,te⟩:=(zjF _ _ _).mp hb
  obtain⟨k1,k2⟩:=mvN ho hW e
  have el:e<2^os.length:=Jg fun i hi=>by
   have a2:i∉zW os:=fun z=>by have:=ZS i z;omega
   rw[h1 i a2];exact xT hc hi
  have ml:mv ((yg os).zip (zW os)) e<2^os.length:=Jg fun i hi=>by
   have a1:i∉yg os:=fun z=>by have:=YC i z;omega
   rw[k2 i a1];exact xT el hi
  obtain⟨m1,m2⟩:=mvT ho hW (mv ((yg os).zip (zW os)) e)
  refine⟨_,ml,(zfk _ _ _).mpr ⟨e,fun i hi=>?_,?_,te⟩,ge⟩
  ·by_cases z:i∈zW os
   ·obtain⟨j,hj⟩:=zgB ho hW z
    rw[m1 _ hj]
    show e.testBit i=_
    rw[k1 _ ((zgC ho hW).mp hj)]
   ·rw[m2 i z,k2 i hi]
  ·rw[free_eq (zW os) hf' el hc h1];exact fc
end
variable {t:Nat->Bool}
theorem Jh {n N M:Nat}{f g:Nat->Bool}(a:zV n N f)(b:zV n M g):zV n (N&&&M) fun c=>f c&&g c:=fun c=>by
 rw[Nat.testBit_and,a c,b c]
 cases decide (c<2^n)<;>simp
end
end uh
namespace L2
open PySem PySem.W PySem.Spec PyProof.Rows PySem.Calls PyProof.V
def Itv (K:Frag)(a:Addr)(n:Nat):It :=
 ⟨fun i H=>i<n/\∃xs,zO K H a xs/\xs.length=n,fun i H x H'=>H'=H/\∀xs,zO K H a xs->xs[n-1-i]?=some x,fun i H=>n<=i⟩
theorem zl9 {P:Program}{w:World}{K:Frag}{tg:Expr}(a it:Addr)(n:Nat):Turn P w K tg (Itv K a n) [it] it (fun i h=>i<=n/\h.IsRevIter it a ((n:Int)-1-(i:Int))) where
 mem:=by simp
 obj:=fun i h st b hb=>by
  have e:b=it:=by simpa using hb
  subst e
  obtain⟨o,e,c,d⟩:=st.2
  exact⟨o,e,fun v z=>by rw[d] at z;cases z⟩
 keep:=fun i h h' st k=>⟨st.1,st.2.at fun o e=>k it (by simp) o e⟩
 item:=by
  intro X hP hw hK hc i pins s σ H E I hf st hg
  subst hP hw hK
  obtain⟨hi,xs,hq,hn⟩:=hg
  obtain⟨its,rv,p,hz⟩:=I.list hq
  have hx:xs[n-1-i]?=some (xs[n-1-i]'(by omega)):=zx5 (by omega)
  obtain⟨u,hu,ru⟩:=rv.get hx
  obtain⟨f0,f1,f2,f3,f4,f5⟩:=hf it (by simp)
  have e:(n:Int)-1-(i:Int)=((n-1-i:Nat):Int):=by omega
  have st2:=st.2
  rw[e] at st2
  refine wpAny_pyNext_rev_item st2 p.isList (x:=u) (by simpa using hu) fun h' st' sb=>?_
  have I1:Inv X pins σ H { s with heap:=h' }:=I.turned (t':=s.toks) (fun b o hb e=>(sb.2 b hb).trans e) f0 f1 f3 f4 f5
  have e2:((n-1-i:Nat):Int)-1=(n:Int)-1-((i+1:Nat):Int):=by omega
  rw[e2] at st'
  obtain⟨o,e,c,d⟩:=id st'
  exact⟨u,rfl,zdT (s:={ s with heap:=h' }) e c d (by decide) ⟨_,H,I1,ru,⟨rfl,fun ys hy=>by rw[I.Vo hy hq];exact hx⟩,⟨hi,st'⟩,fun b hb=>(hf b hb).1⟩⟩
 done:=by
  intro X hP hw hK hc i pins s σ H E I hf st hg
  subst hP hw hK
  obtain⟨f0,f1,f2,f3,f4,f5⟩:=hf it (by simp)
  have hg:n<=i:=hg
  have e:(n:Int)-1-(i:Int)=-1:=by have:=st.1;omega
  have st2:=st.2
  rw[e] at st2
  exact wpAny_pyNext_rev_end (I.ok.hd hc) st2 fun h' eb=>⟨rfl,I.turned (t':=s.toks) (fun b o hb e=>eb b o hb e) f0 f1 f3 f4 f5⟩
 self:=fun _ _ _ _ _ st h=>wpAny_pyIter_revIter st.2 h
section
variable {X:Cx}{tg:Expr}
def ztB (K:Frag)(ta:TA):TI:=fun σ H R=>ta σ H fun vs H1=>∃(a:Addr) (xs:List V),vs=[.ref a]/\zO K H1 a xs/\R (Itv K a xs.length) H1
theorem zpJ {e:Expr}{ta:TA}{p pos:Pos}(hg:Gl X "reversed")(hm:X.mg "reversed"=none)(ha:PA X [e] ta)(hs:starEach [e] X.env=[(false,eval e X.env)]:=by rfl):PI X tg (.Call (.Name "reversed" p) [e] [] pos) (ztB X.K ta):=by
 intro pins s σ H R I h
 refine Call_ (Ws I hg hm (by rfl) (PyProof.Rows.callWith_type1 (vJ (ha pos pins s σ H _ I h) fun us s1 ⟨vs,H1,I1,r1,q1⟩=>?_) hs rfl))
 obtain⟨a,xs,e1,hq,q⟩:=q1
 subst e1
 obtain⟨u,rfl,ru⟩:=vals1 r1
 cases ru
 obtain⟨its,rv,pl,hz⟩:=I1.list hq
 have hlen:=rv.length
 refine call_reversed_list pl.isList ?_
 have hit:(s1.heap.push (revObj a ((its.toArray.size:Int)-1))).IsRevIter s1.heap.objs.size a ((its.toArray.size:Int)-1):=⟨_,zyp _ rfl,rfl,rfl⟩
 refine wpAny_pyIter_revIter (s:={ s1 with heap:=s1.heap.push (revObj a ((its.toArray.size:Int)-1)) }) hit ?_
 refine⟨s1.heap.objs.size,[s1.heap.objs.size],_,_,H1,rfl,I1.kept (t':=s1.toks) fun b o e=>zya _ e,zl9 a _ xs.length,⟨zyr _,?_⟩,fun b hb=>?_,q⟩
 ·have e:((its.toArray.size:Nat):Int)-1=(xs.length:Int)-1-((0:Nat):Int):=by rw[zye];omega
  show(s1.heap.push (revObj a ((its.toArray.size:Int)-1))).IsRevIter s1.heap.objs.size a ((xs.length:Int)-1-((0:Nat):Int))
  rw[<-e]
  exact hit
 ·have e:b=s1.heap.objs.size:=by simpa using hb
  subst e
  exact I1.zhB (zyk _) (I1.hok.fresh (zyk _))
end
theorem znZ {K:Frag}{a:Addr}{xs:List V}{g:TG}{tb:TS}{D:Ends}{σ:St}{H:Hp}(Pv:Nat->St->Hp->Prop)(h0:Pv 0 σ H)(hl:∀i σ H,i<=xs.length->Pv i σ H->zO K H a xs)
  (hs:∀i x σ H,i<xs.length->xs[xs.length-1-i]?=some x->Pv i σ H->g x σ H fun σ2 H2=>tb { D with nx:=Pv (i+1),ct:=Pv (i+1),bk:=D.nx } σ2 H2)(hd:∀ σ H,Pv xs.length σ H->D.nx σ H) :
  ∃W:Nat->Nat->St->Hp->Prop,(∃m,W 0 m σ H)/\∀i m σ H,W i m σ H ->
   ((Itv K a xs.length).stop i H/\D.nx σ H)\/((Itv K a xs.length).go i H/\∃N:St->Hp->Prop,(∀ σ' H',N σ' H'->∃m',m'<m/\W (i+1) m' σ' H')/\∀x H',(Itv K a xs.length).JZ i H x H'->g x σ H' fun σ2 H2=>tb { D with nx:=N,ct:=N,bk:=D.nx } σ2 H2):=by
 refine⟨fun i m σ H=>m=xs.length-i/\i<=xs.length/\Pv i σ H,⟨xs.length,by simp,zyr _,h0⟩,?_⟩
 rintro i m σ H ⟨rfl,hi,p⟩
 have q:=hl i σ H hi p
 by_cases hlt:i<xs.length
 ·refine .inr ⟨⟨hlt,xs,q,rfl⟩,Pv (i+1),fun σ' H' p'=>⟨xs.length-(i+1),by omega,rfl,hlt,p'⟩,fun x H' y=>?_⟩
  obtain⟨e,y⟩:=y
  subst e
  exact hs i x σ _ hlt (y xs q) p
 ·have e:i=xs.length:=by omega
  subst e
  exact .inl ⟨zyk _,hd σ H p⟩
end L2
namespace uh
open PySem L2 xV
def hav (l:List (Nat×Bool))(b:Nat):Bool:=l.all fun x=>b.testBit x.1==x.2
def Mp (os:List Str)(t:Nat->Bool):List (Nat->Bool)->List Bool->List (List Bool)
 | [],r=>[r]
 | f::fs,r=>r::Mp os t fs (fvP os.length (fun b=>f b&&zh6 os t (hav ((yg os).zip r)) b) (yg os))
theorem zgD (os:List Str)(t:Nat->Bool):∀(fs:List (Nat->Bool)) (r:List Bool),(Mp os t fs r).length=fs.length+1
 | [],_=>rfl
 | f::fs,r=>by
  show(Mp os t fs _).length+1=_
  rw[zgD os t fs];rfl
theorem Ji (n:Nat):∀(f:Nat->Bool) (ps:List Nat),(fvP n f ps).length=ps.length
 | _,[]=>rfl
 | f,p::ps=>by
  show(fvP n _ ps).length+1=_
  rw[Ji n _ ps];rfl
theorem zma {α β:Type}{R:α->β->Prop}:∀{xs:List α} {ys:List β},Paired R xs ys->Paired R xs.reverse ys.reverse
 | _,_,.nil=>.nil
 | _,_,.cons h hs=>by
  rw[List.reverse_cons,List.reverse_cons]
  exact Yc (zma hs) (.cons h .nil)
section
variable (C:Addr)(K:Frag)
inductive Rx (vs:List V)(H:Hp)(Q:VK)(E9:XK):Prop
 | mk (pl rl:Addr) (n:Nat) (ps:List Nat) (r:List Bool) (_:vs=[.ref pl,.ref rl,.int (n:Nat)]) (_:n<=8) (_:zO K H pl (yd ps)) (_:zO K H rl (zY r)) (_:(∀p∈ps,p<n)) (_:ps.length=r.length) (_:ps.length<=8) (_:∀(R:Nat) (H':Hp),Same H H'->zV n R (hav (ps.zip r))->Q (.int (R:Nat)) H'):Rx vs H Q E9
inductive Lz (vs:List V)(H:Hp)(Q:VK)(E9:XK):Prop
 | mk (b:Addr) (os:List Str) (rs:List Rm) (F:vC) (N:Nat) (f:Nat->Bool) (_:vs=[.ref b,.int (N:Nat)]) (_:yD C H b os rs F) (_:zV os.length N f) (_:∀(l:Addr) (H':Hp),Same H H'->H l=none->H' l=some (.lst (zY (fvP os.length f (yg os))))->Q (.ref l) H'):Lz vs H Q E9
inductive zfn (vs:List V)(H:Hp)(Q:VK)(E9:XK):Prop
 | mk (b rl:Addr) (os:List Str) (rs:List Rm) (F:vC) (r:List Bool) (_:vs=[.ref b,.ref rl]) (_:yD C H b os rs F) (_:zO K H rl (zY r)) (_:(yg os).length=r.length) (_:∀(R:Nat) (H':Hp),Same H H'->zV os.length R (hav ((yg os).zip r))->Q (.int (R:Nat)) H'):zfn vs H Q E9
def QT (H:Hp)(p:Addr)(r:List Bool):Prop:=H p=some (.lst (zY r))
inductive Ry (vs:List V)(H:Hp)(Q:VK)(E9:XK):Prop
 | mk (b al:Addr) (os:List Str) (rs:List Rm) (F:vC) (k N:Nat) (Ns:List Nat) (f:Nat->Bool) (fs:List (Nat->Bool)) (_:vs=[.ref b,.int (k:Nat),.ref al,.int (N:Nat)]) (_:yD C H b os rs F) (_:yx os) (_:k<rs.length) (_:zO K H al (yd Ns)) (_:Ns.length<=256) (_:Paired (zV os.length) Ns fs) (_:zV os.length N f) (_:∀(l:Addr) (H':Hp) (qs:List Addr),Same H H'->H l=none->H' l=some (.lst (qs.map V.ref))->Paired (QT H') qs (Mp os (tB rs k) fs.reverse (fvP os.length f (yg os))).reverse->(∀x∈qs,H x=none)->Q (.ref l) H'):Ry vs H Q E9
def Meet (os:List Str)(t f g:Nat->Bool)(i:Nat):Prop:=(∃b,b<2^os.length/\(ZV os t f i).1 b=true/\g b=true)/\∀j,j<i->∀b,b<2^os.length->(ZV os t f j).1 b=true->g b=false
inductive zfo (vs:List V)(H:Hp)(Q:VK)(E9:XK):Prop
 | mk (b:Addr) (os:List Str) (rs:List Rm) (F:vC) (k i j:Nat) (_:vs=[.ref b,.int (k:Nat),.int (i:Nat),.int (j:Nat)]) (_:yD C H b os rs F) (_:yx os) (_:k<rs.length) (_:Vw os rs i) (_:Vw os rs j) (_:(∀(H':Hp) (Ns:List Nat),Same H H'->zl3 os (tB rs k) (tB rs i) Ns->(∀m,m<Ns.length->∀b,b<2^os.length->(ZV os (tB rs k) (tB rs i) m).1 b=true->tB rs j b=false)->Q .non H')) (_:∀(l:Addr) (H':Hp) (qs:List Addr) (Ns:List Nat) (m:Nat),Same H H'->H l=none->H' l=some (.lst (qs.map V.ref))->zl3 os (tB rs k) (tB rs i) Ns->m<Ns.length->Meet os (tB rs k) (tB rs i) (tB rs j) m->Paired (QT H') qs (Mp os (tB rs k) ((List.range m).map fun d=>(ZV os (tB rs k) (tB rs i) d).1).reverse (fvP os.length (fun b=>(ZV os (tB rs k) (tB rs i) m).1 b&&tB rs j b) (yg os))).reverse->(∀x∈qs,H x=none)->Q (.ref l) H'):zfo vs H Q E9
end
theorem ztC {m:Nat}:(V.int (m:Nat)=V.int 0)↔m=0:=⟨fun e=>by injection e;omega,fun e=>by rw[e];rfl⟩
section
variable {os:List Str}{t f:Nat->Bool}
theorem zfp {x:Str}(h:x∈Yo):∃i,i<4/\(x=yZ i\/x=v8 i):=by
 have key:∀x∈Yo,(List.range 4).any (fun i=>decide (x=yZ i)||decide (x=v8 i))=true:=by decide +kernel
 obtain⟨i,hi,e⟩:=List.any_eq_true.mp (key x h)
 refine⟨i,List.mem_range.mp hi,?_⟩
 rcases (Bool.or_eq_true _ _).mp e with z | z
 ·exact .inl (of_decide_eq_true z)
 ·exact .inr (of_decide_eq_true z)
theorem LC (hW:yx os){i:Nat}(hi:i<4):yZ i∈os↔v8 i∈os:=by
 have h:=hW (yZ i,v8 i) (zx9 (QM hi))
 dsimp only at h
 rw[contains_iff,contains_iff] at h
 exact decide_eq_decide.mp h
theorem zjH (hW:yx os):(zW os).zip (yg os)=(prs.filter fun p=>os.contains p.1).map fun p=>(ix os p.2,ix os p.1):=by
 have e:(prs.filter fun p=>os.contains p.2)=prs.filter fun p=>os.contains p.1:=List.filter_congr fun p hp=>by rw[hW p hp]
 unfold zW yg uX z9
 rw[e,zyG,zyG,List.zip_map']
 rfl
theorem zpK (hW:yx os){i:Nat}(hi:i<4)(h:yZ i∈os):(ix os (v8 i),ix os (yZ i))∈(zW os).zip (yg os):=by
 rw[zjH hW]
 refine List.mem_map.mpr ⟨(yZ i,v8 i),List.mem_filter.mpr ⟨zx9 (QM hi),?_⟩,rfl⟩
 show os.contains (yZ i)=true
 rw[contains_iff];exact decide_eq_true h
theorem zpL (hW:yx os){x y:Nat}(h:(x,y)∈(zW os).zip (yg os)):∃i,i<4/\yZ i∈os/\x=ix os (v8 i)/\y=ix os (yZ i):=by
 rw[zjH hW] at h
 obtain⟨p,hp,e⟩:=List.mem_map.mp h
 obtain⟨h1,h2⟩:=List.mem_filter.mp hp
 obtain⟨i,hi,rfl⟩:=zbA h1
 rw[Prod.mk.injEq] at e
 rw[contains_iff] at h2
 exact⟨i,hi,of_decide_eq_true h2,e.1.symm,e.2.symm⟩
theorem zgE (ho:ug os){i:Nat}(hi:i<os.length):i∈yg os\/i∈zW os:=by
 have hx:os[i]?=some os[i]:=zx5 hi
 have mx:os[i]∈os:=zyM hi
 have ei:=zeo ho.nd hx
 obtain⟨j,hj,e⟩:=zfp (ho.mem _ mx)
 rcases e with e | e
 ·left
  refine List.mem_map.mpr ⟨os[i],?_,ei⟩
  rw[e] at mx ⊢
  unfold z9
  refine List.mem_map.mpr ⟨(yZ j,v8 j),List.mem_filter.mpr ⟨zx9 (QM hj),?_⟩,rfl⟩
  show os.contains (yZ j)=true
  rw[contains_iff];exact decide_eq_true mx
 ·right
  refine List.mem_map.mpr ⟨os[i],?_,ei⟩
  rw[e] at mx ⊢
  unfold uX
  refine List.mem_map.mpr ⟨(yZ j,v8 j),List.mem_filter.mpr ⟨zx9 (QM hj),?_⟩,rfl⟩
  show os.contains (v8 j)=true
  rw[contains_iff];exact decide_eq_true mx
theorem zn0 (ho:ug os)(hW:yx os){b:Nat}(hb:b<2^os.length):W0 os t f b=true↔∃d,d<2^os.length/\(∀i,i<4->yZ i∈os->d.testBit (ix os (v8 i))=b.testBit (ix os (yZ i)))/\f d=true/\t d=true:=by
 rw[zfk]
 obtain⟨m1,m2⟩:=mvT ho hW b
 constructor
 ·rintro⟨d,h1,fd,td⟩
  refine⟨d,Jg fun i hi=>?_,fun i hi hn=>?_,fd,td⟩
  ·have a1:i∉yg os:=fun z=>by have:=YC i z;omega
   have a2:i∉zW os:=fun z=>by have:=ZS i z;omega
   rw[h1 i a1,m2 i a2];exact xT hb hi
  ·have z:=zpK hW hi hn
   have tj:=(zyH z).1
   rw[h1 _ fun y=>uO ho y tj rfl]
   exact m1 _ z
 ·rintro⟨d,dl,h1,fd,td⟩
  refine⟨d,fun i hi=>?_,fd,td⟩
  by_cases c:i∈zW os
  ·obtain⟨j,hj⟩:=zgB ho hW c
   obtain⟨e,he,hn,rfl,rfl⟩:=zpL hW hj
   rw[h1 e he hn]
   exact(m1 _ hj).symm
  ·rw[m2 i c]
   rcases Nat.lt_or_ge i os.length with z | z
   ·rcases zgE ho z with y | y
    ·exact absurd y hi
    ·exact absurd y c
   ·rw[xT dl z,xT hb z]
end
theorem zid {n:Nat}:∀(ps:List Nat) (f:Nat->Bool),ps.Nodup->(∀p∈ps,p<n)->(∃b,b<2^n/\f b=true)->∃b,b<2^n/\f b=true/\hav (ps.zip (fvP n f ps)) b=true
 | [],f,_,_,⟨b,hb,e⟩=>⟨b,hb,e,rfl⟩
 | p::ps,f,nd,hp,⟨b,hb,e⟩=>by
  rw[List.nodup_cons] at nd
  have pn:=hp p zyo
  have go:∀v,(!anyB n fun b=>f (zN b p false))=v->∃b,b<2^n/\f b=true/\hav ((p,v)::ps.zip (fvP n (fun b=>f (zN b p v)) ps)) b=true:=fun v hv=>by
   have ex:∃b,b<2^n/\f (zN b p v)=true:=by
    cases v with
    | false =>
     have z:(anyB n fun b=>f (zN b p false))=true:=by
      cases y:(anyB n fun b=>f (zN b p false)) with
      | true=>rfl
      | false=>rw[y] at hv;cases hv
     exact anyB_iff.mp z
    | true =>
     have z:(anyB n fun b=>f (zN b p false))=false:=by
      cases y:(anyB n fun b=>f (zN b p false)) with
      | false=>rfl
      | true=>rw[y] at hv;cases hv
     cases c:b.testBit p with
     | true =>
      have z2:=xV.xO b p
      rw[c] at z2
      exact⟨b,hb,by rw[z2];exact e⟩
     | false =>
      have y:=anyB_iff.mpr (⟨b,hb,by rw[<-c,xV.xO];exact e⟩:∃b,b<2^n/\f (zN b p false)=true)
      rw[z] at y
      cases y
   obtain⟨d,dl,fd,hd⟩:=zid ps (fun b=>f (zN b p v)) nd.2 (fun q hq=>hp q (zyf _ hq)) ex
   refine⟨zN d p v,yP dl pn,fd,?_⟩
   unfold hav
   rw[List.all_cons,zyw]
   constructor
   ·dsimp only
    rw[zT,if_pos rfl]
    exact beq_self_eq_true v
   ·rw[zyy]
    intro x hx
    have y:=zyy.mp hd x hx
    have xp:x.1≠p:=fun z=>nd.1 (by rw[<-z];exact(zyH hx).1)
    rw[zT,if_neg xp]
    exact y
  exact go _ rfl
section
variable (os:List Str)(t:Nat->Bool)
def zoK (r r':List Bool):Prop:=∃b,b<2^os.length/\W0 os t (hav ((yg os).zip r)) b=true/\hav ((yg os).zip r') b=true
def zfq:List (List Bool)->Prop
 | x::y::L=>zoK os t y x/\zfq (y::L)
 | _=>True
end
section
variable {os:List Str}{t f:Nat->Bool}
theorem Jj (ho:ug os)(r:List Bool):∀p∈zW os,Free os.length (hav ((yg os).zip r)) p:=fun p hp b _ v=>by
 unfold hav
 rw[zyL,zyy,zyy]
 have key:∀x∈(yg os).zip r,(zN b p v).testBit x.1=b.testBit x.1:=fun x hx=>by
  rw[zT,if_neg]
  exact uO ho (zyH hx).1 hp
 constructor<;>intro h x hx
 ·rw[<-key x hx];exact h x hx
 ·rw[key x hx];exact h x hx
theorem zex (fs:List (Nat->Bool))(r:List Bool):∃L,Mp os t fs r=r::L:=by
 cases fs with
 | nil=>exact⟨_,rfl⟩
 | cons g fs=>exact⟨_,rfl⟩
theorem zmb (i b:Nat)(h:(ZV os t f (i+1)).1 b=true):W0 os t (ZV os t f i).1 b=true:=((zyw _ _).mp (show(W0 os t (ZV os t f i).1 b&&!((ZV os t f i).2 b||(ZV os t f i).1 b))=true from h)).1
theorem zjI (ho:ug os)(hW:yx os)(hf:∀p∈zW os,Free os.length f p):∀(i:Nat) (r:List Bool),(∃b,b<2^os.length/\(ZV os t f i).1 b=true/\hav ((yg os).zip r) b=true) ->
  zfq os t (Mp os t ((List.range i).map fun d=>(ZV os t f d).1).reverse r)/\∃z,(Mp os t ((List.range i).map fun d=>(ZV os t f d).1).reverse r).getLast?=some z/\∃b,b<2^os.length/\f b=true/\hav ((yg os).zip z) b=true
 | 0,r,h=>⟨trivial,r,rfl,h⟩
 | i+1,r,⟨b,hb,h1,h2⟩=>by
  have fi:=fun p hp=>(zgA (t:=t) ho hW hf i p hp).1
  have fr:=Jj ho r
  obtain⟨c,hc,c1,c2⟩:=(zjG (t:=t) ho hW fi fr).mp ⟨b,hb,zmb i b h1,h2⟩
  obtain⟨d,hd,d1,d2⟩:=zid (yg os) (fun b=>(ZV os t f i).1 b&&zh6 os t (hav ((yg os).zip r)) b) (zfm ho hW) YC ⟨c,hc,by rw[c1,c2];rfl⟩
  obtain⟨d3,d4⟩:=(zyw _ _).mp d1
  have e:((List.range (i+1)).map fun d=>(ZV os t f d).1).reverse=(ZV os t f i).1::((List.range i).map fun d=>(ZV os t f d).1).reverse:=by
   rw[List.range_succ,zyi,List.reverse_append]
   rfl
  rw[e]
  obtain⟨a1,z,a2,a3⟩:=zjI ho hW hf i _ ⟨d,hd,d3,d2⟩
  obtain⟨L,eL⟩:=zex (os:=os) (t:=t) ((List.range i).map fun d=>(ZV os t f d).1).reverse (fvP os.length (fun b=>(ZV os t f i).1 b&&zh6 os t (hav ((yg os).zip r)) b) (yg os))
  show zfq os t (r::Mp os t _ _)/\∃z,(r::Mp os t _ _).getLast?=some z/\_
  rw[eL] at a1 a2 ⊢
  refine⟨⟨?_,a1⟩,z,?_,a3⟩
  ·exact(zjG (t:=t) ho hW (Jj ho _) fr).mpr ⟨d,hd,d2,d4⟩
  ·rw[List.getLast?_cons_cons];exact a2
end
end uh
namespace PySem
open Sem (wp)
theorem zgF:typeLookup (.type "zip") "keys"=pure none:=by rw[typeLookup_type,builtinLookup_eq_fast];kernel_rfl
theorem zie:entryFor table "zip.__getattribute__"=some Builtin.«object.__getattribute__» :=
 entryFor_alias (id' := "object.__getattribute__") (by kernel_rfl) (by first | rfl | decide +kernel | (unfold String.splitOn;simp +decide [String.splitOnAux])) (by decide +kernel) (by kernel_rfl)
abbrev zif (h:Heap)(z TI TO:Addr)(f0:Value)(fl:Bool):Prop :=
 h.get? z=some { cls:=.type "zip", dict:=none,data:=.fields #[f0,.bool fl,.bool false,.ref TI,.ref TO],slots:=#[] }
section
variable {prog:Program}{w:World}{A:Around}{E:Value->Shared->Prop}{h:Heap}{g:Array GenState}{d:Drawn}{t:Nat}{os:OsState}{a:Addr}{fs:Array Value}{sl:Array (Option Value)}
theorem zcq (hh:A.handled=none){tk:Tok}{Q:Fin->Shared->Prop}(hx:h.get? a=some { cls:=.type "zip", dict:=none,data:=.fields fs,slots:=sl })
  (hE:∀e h' t',(∀b o,h.get? b=some o->h'.get? b=some o)->Shared.TypeIs ⟨h',g,d,t',os⟩ (.ref e) "AttributeError" -> E (.ref e) ⟨h',g,d,t',os⟩) :
  wpAny (model prog w) A (Builtin.«object.__getattribute__» ⟨[.ref a,.str "keys" tk],[]⟩) Q E ⟨h,g,d,t,os⟩:=by
 have hT:(⟨h,g,d,t,os⟩:Shared).TypeIs (.ref a) "zip" := ⟨_,hx,rfl⟩
 have f4:=zgF
 repeat (any_goals (first | assumption | wp_step))
 have em:(Manifest.find? "zip").elim "zip" (fun x=>x.tpName)="zip" := by rw[find?_eq_fast];kernel_rfl
 rw[em]
 exact zh7 hh (by decide +kernel) (by decide +kernel) hE
theorem zdm (hh:A.handled=none){tk:Tok}{R:Result->Shared->Prop}(hx:h.get? a=some { cls:=.type "zip", dict:=none,data:=.fields fs,slots:=sl })
  (hE:∀e h' t',(∀b o,h.get? b=some o->h'.get? b=some o)->Shared.TypeIs ⟨h',g,d,t',os⟩ (.ref e) "AttributeError" -> R (.error (.ref e)) ⟨h',g,d,t',os⟩) :
  codeAny (model prog w) A (.call (.builtin "zip.__getattribute__") ⟨[.ref a,.str "keys" tk],[]⟩) R ⟨h,g,d,t,os⟩ :=
 codeAny_call_builtin F.slot_zip_getattribute.plain zie (F.slot_zip_getattribute.check _ _ _ _ _ _ _ _ (show(⟨h,g,d,t,os⟩:Shared).TypeIs (.ref a) "zip" from ⟨_,hx,rfl⟩) (F.args_zip_getattribute_2 _ _) (zcq (A:=A.in1) hh hx hE))
theorem zgG (hh:A.handled=none){tk:Tok}{Q:Value->Shared->Prop}(hx:h.get? a=some { cls:=.type "zip", dict:=none,data:=.fields fs,slots:=sl })
  (hE:∀e h' t',(∀b o,h.get? b=some o->h'.get? b=some o)->Shared.TypeIs ⟨h',g,d,t',os⟩ (.ref e) "AttributeError" -> E (.ref e) ⟨h',g,d,t',os⟩):wpAny (model prog w) A (getAttrBy (.ref a) (.str "keys" tk) false) Q E ⟨h,g,d,t,os⟩:=by
 have hT:(⟨h,g,d,t,os⟩:Shared).TypeIs (.ref a) "zip" := ⟨_,hx,rfl⟩
 have f2:=F.slot_zip_getattribute.lookup
 have f3:=F.slot_zip_getattribute.bind (.ref a)
 repeat (any_goals (first | assumption | wp_step))
 refine zdm hh hx fun e h' t' k ty=>?_
 show wpAny _ _ (getattributeRaised (Value.ref a) (Value.str (Str.ofString "keys") tk) (Value.type "zip") (.ref e) none false false) _ _ _
 unfold getattributeRaised
 refine wpAny_bind (wpAny_isInstance ty zap ?_)
 rw[if_pos rfl]
 have lk:hookBehind (.type "zip") none=pure none:=by
  unfold hookBehind
  rw[if_neg (by decide),typeLookup_type,builtinLookup_eq_fast]
  kernel_rfl
 rw[lk]
 refine wpAny_bind (wpAny_pure ?_)
 show wpAny _ _ (attributeErrorLeaves _ _ _ false false) _ _ _
 unfold attributeErrorLeaves
 exact wpAny_bind (wpAny_throw (hE e h' t' k ty))
theorem zdn (hh:A.handled=none){Q:Option Value->Shared->Prop}(hx:h.get? a=some { cls:=.type "zip", dict:=none,data:=.fields fs,slots:=sl })
  (hQ:∀h' t',(∀b o,h.get? b=some o->h'.get? b=some o)->Q none ⟨h',g,d,t',os⟩):wpAny (model prog w) A (getAttr? (.ref a) "keys") Q E ⟨h,g,d,t,os⟩:=by
 unfold getAttr? getAttrBy?
 refine wpAny_bind (wpAny_mkText ?_)
 refine wpAny_bind (wpAny_attempt (zgG hh hx fun e h' t' k ty=>?_))
 refine wpAny_bind (wpAny_isInstance ty zap ?_)
 exact wpAny_pure (hQ h' t' k)
end
section
variable {prog:Program}{w:World}{A:Around}{E:Value->Shared->Prop}{s:Shared}
theorem zgH {z TI TO a0:Addr}{fl:Bool}{oA:Obj}(hz:zif s.heap z TI TO (rawInt a0) fl)(hA:s.heap.get? a0=some oA):wpAny (model prog w) A (Builtin.SmallTypes.ownedTupleIsFree (.ref z)) (fun b s'=>b=false/\∃h0,s'={ s with heap:=h0 }/\zif h0 z TI TO (rawInt a0) true/\Heap.SameBut z s.heap h0) E s:=by
 unfold Builtin.SmallTypes.ownedTupleIsFree
 refine wpAny_bind (wpAny_field hz rfl (x:=rawInt a0) rfl ?_)
 show wpAny _ _ (loadIfAlive ((a0:Nat):Int).toNat>>=_) _ _ _
 rw[zyI]
 refine wpAny_bind (L2.zl1 ?_)
 rw[hA]
 show wpAny _ _ (field (.ref z) 1>>=_) _ _ _
 refine wpAny_bind (wpAny_field hz rfl (x:=.bool fl) rfl ?_)
 cases fl with
 | true=>exact wpAny_pure ⟨rfl,_,rfl,hz,Heap.SameBut.refl ..⟩
 | false =>
  refine wpAny_bind (wpAny_setField_rec hz (by simp) fun h3 he3 hs3=>?_)
  exact wpAny_pure ⟨rfl,_,rfl,he3,hs3⟩
theorem zmc {z TI TO i1 i2 l1 l2 a0:Addr}{k1 k2:Nat}{xs ys:Array Value}{x y:Value}{fl:Bool}{oA:Obj}{Q:Option Value->Shared->Prop}(D:ZipApart z TI TO i1 i2 l1 l2)
  (hz:zif s.heap z TI TO (rawInt a0) fl)(hA:s.heap.get? a0=some oA)(hTI:IsPair s.heap TI (.ref i1) (.ref i2))
  (h1:s.heap.IsListIter i1 l1 k1)(h2:s.heap.IsListIter i2 l2 k2)(hl1:s.heap.IsList l1 xs)(hl2:s.heap.IsList l2 ys)(hx:xs[k1]?=some x)(hy:ys[k2]?=some y)
  (hQ:∀h',zif h' z TI TO (rawInt a0) true->h'.IsListIter i1 l1 (k1+1)->h'.IsListIter i2 l2 (k2+1)->IsPair h' s.heap.objs.size x y->h'.objs.size=s.heap.objs.size+1 ->
   (∀c o,c≠z->c≠i1->c≠i2->s.heap.get? c=some o->h'.get? c=some o)->Q (some (.ref s.heap.objs.size)) { s with heap:=h' }) :
  wpAny (model prog w) A (pyNext (.ref z)) Q E s:=by
 have hT:s.TypeIs (.ref z) "zip" := ⟨_,hz,rfl⟩
 unfold pyNext
 refine wpAny_bind (wpAny_attempt (wpAny_callSpecial?_slot (name:=Str.ofString "__next__") hT F.slot_zip_next
  (wpAny_call_entry F.slot_zip_next hT F.entry_zip_next ?_ (F.args_zip_next_1 _))))
 show wpAny _ _ (field (.ref z) 2>>=_) _ _ _
 refine wpAny_bind (wpAny_field hz rfl (x:=.bool false) rfl ?_)
 show wpAny _ _ (field (.ref z) 3>>=_) _ _ _
 refine wpAny_bind (wpAny_field hz rfl (x:=.ref TI) rfl ?_)
 refine wpAny_bind (wpAny_seqItems hTI rfl ?_)
 show wpAny _ _ (Builtin.SmallTypes.ownedTupleIsFree (.ref z)>>=_) _ _ _
 refine wpAny_bind (wpAny_mono (zgH hz hA) ?_ fun _ _ h=>h)
 rintro b s' ⟨rfl,h0,rfl,hz0,hs0⟩
 simp only[Bool.false_eq_true,if_false]
 rw[<-Array.forIn_toList]
 simp only[List.forIn_cons,List.forIn_nil]
 refine wpAny_bind (wpAny_bind (wpAny_bind (wpAny_holding ?_)))
 show wpAny _ _ (Builtin.SmallTypes.nextOf (.ref i1)>>=_) _ _ _
 refine wpAny_bind (wpAny_nextOf_list_item (h1.extBut hs0.extBut D.i1z) (hl1.extBut hs0.extBut D.l1z) hx fun h₂ h1₂ hs₂=>wpAny_pure (wpAny_pure ?_))
 refine wpAny_bind (wpAny_bind (wpAny_holding ?_))
 show wpAny _ _ (Builtin.SmallTypes.nextOf (.ref i2)>>=_) _ _ _
 refine wpAny_bind (wpAny_nextOf_list_item ((h2.extBut hs0.extBut D.i2z).extBut hs₂.extBut D.i12.symm) ((hl2.extBut hs0.extBut D.l2z).extBut hs₂.extBut D.l2i1) hy fun h₄ h2₄ hs₄=>wpAny_pure (wpAny_pure (wpAny_pure ?_)))
 refine wpAny_bind (wpAny_newTuple ?_ (by show 2<=sizeLine;decide))
 have hsz:h₄.objs.size=s.heap.objs.size:=by rw[hs₄.1,hs₂.1,hs0.1]
 have hz₄:zif h₄ z TI TO (rawInt a0) true:=hs₄.extBut _ _ D.i2z.symm (hs₂.extBut _ _ D.i1z.symm hz0)
 refine wpAny_pure ⟨_,rfl,wpAny_pure ?_⟩
 rw[hsz]
 refine hQ _ (zya _ hz₄) ((h1₂.extBut hs₄.extBut D.i12).at fun o e=>zya _ e) (h2₄.at fun o e=>zya _ e) ?_ (by rw[Heap.size_push,hsz]) fun c o c1 c2 c3 e=>zya _ (hs₄.extBut _ _ c3 (hs₂.extBut _ _ c2 (hs0.extBut _ _ c1 e)))
 rw[<-hsz]
 exact zyp _ rfl
theorem zmd {z TI TO i1 i2 l1 l2 a0:Addr}{k1:Nat}{xs:Array Value}{fl:Bool}{oA:Obj}{Q:Option Value->Shared->Prop}(hh:A.handled=none)(D:ZipApart z TI TO i1 i2 l1 l2)
  (hz:zif s.heap z TI TO (rawInt a0) fl)(hA:s.heap.get? a0=some oA)(hTI:IsPair s.heap TI (.ref i1) (.ref i2))
  (h1:s.heap.IsListIter i1 l1 k1)(hl1:s.heap.IsList l1 xs)(hx:xs[k1]?=none)
  (hQ:∀h',(∀c o,c≠z->c≠i1->s.heap.get? c=some o->h'.get? c=some o)->Q none { s with heap:=h' }) :
  wpAny (model prog w) A (pyNext (.ref z)) Q E s:=by
 have hT:s.TypeIs (.ref z) "zip" := ⟨_,hz,rfl⟩
 unfold pyNext
 refine wpAny_bind (wpAny_attempt (wpAny_callSpecial?_slot (name:=Str.ofString "__next__") hT F.slot_zip_next
  (wpAny_call_entry F.slot_zip_next hT F.entry_zip_next ?_ (F.args_zip_next_1 _))))
 show wpAny _ _ (field (.ref z) 2>>=_) _ _ _
 refine wpAny_bind (wpAny_field hz rfl (x:=.bool false) rfl ?_)
 show wpAny _ _ (field (.ref z) 3>>=_) _ _ _
 refine wpAny_bind (wpAny_field hz rfl (x:=.ref TI) rfl ?_)
 refine wpAny_bind (wpAny_seqItems hTI rfl ?_)
 show wpAny _ _ (Builtin.SmallTypes.ownedTupleIsFree (.ref z)>>=_) _ _ _
 refine wpAny_bind (wpAny_mono (zgH hz hA) ?_ fun _ _ h=>h)
 rintro b s' ⟨rfl,h0,rfl,hz0,hs0⟩
 simp only[Bool.false_eq_true,if_false]
 rw[<-Array.forIn_toList]
 simp only[List.forIn_cons,List.forIn_nil]
 refine wpAny_bind (wpAny_bind (wpAny_bind (wpAny_holding ?_)))
 show wpAny _ _ (Builtin.SmallTypes.nextOf (.ref i1)>>=_) _ _ _
 refine wpAny_bind (wpAny_nextOf_list_end hh (h1.extBut hs0.extBut D.i1z) (hl1.extBut hs0.extBut D.l1z) hx fun h₂ e hs₂ he=>?_)
 obtain⟨o,ho,hc⟩:=he
 refine wpAny_bind (wpAny_isInstance (T := "StopIteration") (b:=true) ⟨o,ho,hc⟩ isSubtype_stop ?_)
 exact wpAny_pure (hQ _ fun c o c1 c2 e=>hs₂ _ _ c2 (hs0.extBut _ _ c1 e))
end
section
variable {prog:Program}{w:World}{κ:Type}[DecidableEq κ]{knd:KeyKind prog w κ}{A:Around}{E:Value->Shared->Prop}
def zpM (h:Heap)(z TI TO i1 i2 D:Addr)(i:Nat):Prop:=(i=0/\IsZip h z TI TO .none)\/∃(a0:Addr) (fl:Bool) (oA:Obj),0<i/\zif h z TI TO (rawInt a0) fl/\h.get? a0=some oA/\a0≠z/\a0≠i1/\a0≠i2/\a0≠D
theorem zkx {s:Shared}{z TI TO i1 i2 l1 l2 D:Addr}{i:Nat}{xs ys:Array Value}{x y:Value}{Q:Option Value->Shared->Prop}(AP:ZipApart z TI TO i1 i2 l1 l2)(hZ:zpM s.heap z TI TO i1 i2 D i)(hTI:IsPair s.heap TI (.ref i1) (.ref i2))(hTO:∃u v,IsPair s.heap TO u v)
  (h1:s.heap.IsListIter i1 l1 i)(h2:s.heap.IsListIter i2 l2 i)(hl1:s.heap.IsList l1 xs)(hl2:s.heap.IsList l2 ys)(hx:xs[i]?=some x)(hy:ys[i]?=some y)(dlt:D<s.heap.objs.size)
  (hQ:∀h',zpM h' z TI TO i1 i2 D (i+1)->(∃u v,IsPair h' TO u v)->h'.IsListIter i1 l1 (i+1)->h'.IsListIter i2 l2 (i+1)->IsPair h' s.heap.objs.size x y ->
   (∀c o,c≠z->c≠TO->c≠i1->c≠i2->s.heap.get? c=some o->h'.get? c=some o)->Q (some (.ref s.heap.objs.size)) { s with heap:=h' }) :
  wpAny (model prog w) A (pyNext (.ref z)) Q E s:=by
 obtain⟨u,v,hTO⟩:=hTO
 have l1':i1<s.heap.objs.size:=by obtain⟨_,e,_⟩:=h1;exact zyb e
 have l2':i2<s.heap.objs.size:=by obtain⟨_,e,_⟩:=h2;exact zyb e
 rcases hZ with ⟨_,hZ⟩ | ⟨a0,fl,oA,_,hZ,hA,n1,n2,n3,n4⟩
 ·exact wpAny_pyNext_zip_item AP hZ hTI hTO h1 h2 hl1 hl2 hx hy fun h' b1 b2 b3 b4 b5 b6 b7=>hQ h' (.inr ⟨s.heap.objs.size,false,_,Nat.succ_pos _,b1,b5,Nat.ne_of_gt (zyb hZ),Nat.ne_of_gt l1',Nat.ne_of_gt l2',Nat.ne_of_gt dlt⟩) ⟨_,_,b2⟩ b3 b4 b5 b7
 ·exact zmc AP hZ hA hTI h1 h2 hl1 hl2 hx hy fun h' b1 b2 b3 b4 b5 b6=>hQ h' (.inr ⟨a0,true,oA,Nat.succ_pos _,b1,b6 _ _ n1 n2 n3 hA,n1,n2,n3,n4⟩) ⟨_,_,b6 _ _ AP.TOz AP.TOi1 AP.TOi2 hTO⟩ b2 b3 b4 fun c o c1 _ c3 c4=>b6 c o c1 c3 c4
theorem zky {R:Result->Shared->Prop}{res:Value}{D z TI TO i1 i2 l1 l2:Addr}{xs ys:Array Value}{ps:List (κ×Value)}(hh:A.handled=none)(AP:ZipApart z TI TO i1 i2 l1 l2)(hl:ps.length=xs.size)(hl2:ps.length=ys.size)(zz:ps.length<=sizeLine)
  (nD:D≠z/\D≠TI/\D≠TO/\D≠i1/\D≠i2/\D≠l1/\D≠l2) :
  ∀(m i:Nat) (s:Shared) (kvs:List (κ×Value)),ps.length-i=m->i<=ps.length->zpM s.heap z TI TO i1 i2 D i->IsPair s.heap TI (.ref i1) (.ref i2)->(∃u v,IsPair s.heap TO u v)->s.heap.IsListIter i1 l1 i->s.heap.IsListIter i2 l2 i->s.heap.IsList l1 xs->s.heap.IsList l2 ys->s.heap.DictOf knd D kvs->kvs.length<=i ->
  (∀(j:Nat) k v,ps[j]?=some (k,v)->∃key,xs[j]?=some key/\ys[j]?=some v/\knd.is k key=true) ->
  (∀h' tk,h'.DictOf knd D ((ps.drop i).foldl (fun acc kv=>stored acc kv.1 kv.2) kvs)->(∀b o,b≠D->b≠z->b≠TO->b≠i1->b≠i2->s.heap.get? b=some o->h'.get? b=some o)->R (.ok (.ret res)) { s with heap:=h',toks:=tk }) ->
  codeAny (model prog w) A (.builtin "dict.update.loop" ⟨[.ref D,.ref z,.int (i:Nat) 0,res],[]⟩) R s:=by
 obtain⟨nz,nTI,nTO,n1,n2,m1,m2⟩:=nD
 intro m
 induction m with
 | zero =>
  intro i s kvs hk hi hZ hTI hTO hi1 hi2 hL1 hL2 hD hz hp hR
  obtain rfl:i=ps.length:=by omega
  refine codeAny_builtin QL ?_
  rw[Around.under_plainId YD _];show wpAny _ A.in1 (pyNext (.ref z)>>=_) _ _ s
  have fin:∀h':Heap,(∀c o,c≠z->c≠TO->c≠i1->c≠i2->s.heap.get? c=some o->h'.get? c=some o)->R (.ok (.ret res)) { s with heap:=h' }:=fun h' e=>by
   refine hR h' s.toks ?_ fun b o _ b1 b2 b3 b4 q=>e b o b1 b2 b3 b4 q
   rw[List.drop_length]
   obtain⟨o,es,ep,h1,h2⟩:=hD
   exact⟨o,es,ep,e D o nz nTO n1 n2 h1,h2⟩
  obtain⟨u,v,hTO⟩:=hTO
  have x0:xs[ps.length]?=none:=by rw[hl];simp
  rcases hZ with ⟨_,hZ⟩ | ⟨a0,fl,oA,_,hZ,hA,_⟩
  ·refine wpAny_bind (wpAny_pyNext_zip_end hh AP hZ hTI hTO hi1 hi2 hL1 hL2 (.inl x0) fun h' e=>?_)
   show wpAny _ _ (Builtin.Dict.addKeywords D []>>=_) _ _ _
   exact wpAny_bind (wpAny_pure (wpAny_pure (fin h' e)))
  ·refine wpAny_bind (zmd hh AP hZ hA hTI hi1 hL1 x0 fun h' e=>?_)
   show wpAny _ _ (Builtin.Dict.addKeywords D []>>=_) _ _ _
   exact wpAny_bind (wpAny_pure (wpAny_pure (fin h' fun c o c1 _ c3 _=>e c o c1 c3)))
 | succ m ih =>
  intro i s kvs hk hi hZ hTI hTO hi1 hi2 hL1 hL2 hD hz hp hR
  have lt:i<ps.length:=by omega
  obtain⟨⟨k,v⟩,hx⟩:∃x,ps[i]?=some x:=⟨_,zx5 lt⟩
  obtain⟨key,e1,e2,h4⟩:=hp i k v hx
  refine codeAny_builtin QL ?_
  rw[Around.under_plainId YD _];show wpAny _ A.in1 (pyNext (.ref z)>>=_) _ _ s
  have dlt:D<s.heap.objs.size:=by obtain⟨o,es,ep,a1,_⟩:=hD;exact zyb a1
  refine wpAny_bind (zkx AP hZ hTI hTO hi1 hi2 hL1 hL2 e1 e2 dlt fun h' hZ' hTO' hi1' hi2' t1 kp=>?_)
  have klt:∀b o,s.heap.get? b=some o->b≠s.heap.objs.size:=fun b o e=>zyj (zyb e)
  refine wpAny_bind (wpAny_holding (wpAny_bind (wpAny_tryCatch ?_)))
  unfold Builtin.Dict.pairItems
  refine wpAny_bind (wpAny_typeOf (T := "tuple") ⟨_,t1,rfl⟩ ?_)
  rw[if_pos (by decide)]
  refine wpAny_bind ?_
  unfold seqItems?
  refine wpAny_bind (wpAny_load t1 ?_)
  refine wpAny_pure (wpAny_pure ?_)
  have hD':h'.DictOf knd D kvs:=by
   obtain⟨o,es,ep,a1,a2⟩:=hD
   exact⟨o,es,ep,kp D o nz nTO n1 n2 a1,a2⟩
  show wpAny _ _ (holding [key,v] (dictSet D key v)) _ _ _
  refine wpAny_holding (wpAny_dictSet_pairs (s:={ s with heap:=h' }) h4 hD' (fun h2' hD2 hs2=>?_) (by omega))
  refine wpAny_pure ⟨plainId_quiet YD _,?_⟩
  have nx:((i:Nat):Int)+1=((i+1:Nat):Int):=by omega
  show codeAny _ A (.builtin "dict.update.loop" ⟨[.ref D,.ref z,.int (((i:Nat):Int)+1) 0,res],[]⟩) R _
  rw[nx]
  have st:∀b o,b≠D->h'.get? b=some o->h2'.get? b=some o:=fun b o hb e=>hs2.extBut b o hb e
  have kp2:∀b o,b≠D->b≠z->b≠TO->b≠i1->b≠i2->s.heap.get? b=some o->h2'.get? b=some o:=fun b o b0 b1 b2 b3 b4 e=>st b o b0 (kp b o b1 b2 b3 b4 e)
  refine ih (i+1) _ (stored kvs k v) (by omega) lt ?_ ?_ ?_ ?_ ?_ ?_ ?_ hD2 ?_ hp (fun h3' tk hD3 kp3=>?_)
  ·rcases hZ' with ⟨e,_⟩ | ⟨a0,fl,oA,p1,p2,p3,p4,p5,p6,p7⟩
   ·omega
   ·exact .inr ⟨a0,fl,oA,p1,st _ _ (Ne.symm nz) p2,st _ _ p7 p3,p4,p5,p6,p7⟩
  ·exact st _ _ (Ne.symm nTI) (kp _ _ AP.TIz AP.TITO AP.TIi1 AP.TIi2 hTI)
  ·obtain⟨u,v,e⟩:=hTO'
   exact⟨u,v,st _ _ (Ne.symm nTO) e⟩
  ·exact hi1'.at fun o e=>st _ _ (Ne.symm n1) e
  ·exact hi2'.at fun o e=>st _ _ (Ne.symm n2) e
  ·obtain⟨o,a1,a2⟩:=hL1
   exact⟨o,kp2 l1 o (Ne.symm m1) AP.l1z AP.l1TO AP.l1i1 AP.l1i2 a1,a2⟩
  ·obtain⟨o,a1,a2⟩:=hL2
   exact⟨o,kp2 l2 o (Ne.symm m2) AP.l2z AP.l2TO AP.l2i1 AP.l2i2 a1,a2⟩
  ·unfold stored
   split
   ·rw[zx4];omega
   ·rw[zyc];simp;omega
  ·refine hR h3' tk ?_ fun b o b0 b1 b2 b3 b4 e=>kp3 b o b0 b1 b2 b3 b4 (kp2 b o b0 b1 b2 b3 b4 e)
   rw[List.drop_eq_getElem_cons lt]
   obtain⟨_,e⟩:=zx7.mp hx
   rw[e]
   exact hD3
end
end PySem
namespace L2
open PySem PySem.Spec PyProof.Rows
section
variable {X:Cx}
def tDz (K:Frag)(ta:TA):TE:=fun σ H Q=>ta σ H fun vs H1=>∃(a b:Addr) (ks:List Key) (vs':List V),vs=[.ref a,.ref b]/\zO K H1 a (ks.map kV)/\zO K H1 b vs'/\ks.length=vs'.length/\∀d,H1 d=none->Q (.ref d) (upd H1 d (.dK (vB [] (ks.zip vs'))))
theorem zig {l m:Expr}{ta:TA}{p p' pos pos':Pos}(hc:X.calm=true)(hg:Gl X "zip")(hm:X.mg "zip"=none)(hg2:Gl X "dict")(hm2:X.mg "dict"=none)(ha:PA X [l,m] ta)(hs:starEach [l,m] X.env=[(false,eval l X.env),(false,eval m X.env)]:=by rfl)(hs2:starEach [m] X.env=[(false,eval m X.env)]:=by rfl)
  (hs3:starEach [.Call (.Name "zip" p) [l,m] [] pos] X.env=[(false,eval (.Call (.Name "zip" p) [l,m] [] pos) X.env)]:=by rfl) :
  PE X (.Call (.Name "dict" p') [.Call (.Name "zip" p) [l,m] [] pos] [] pos') (tDz X.K ta):=by
 intro pins s σ H Q I h
 refine wpAny_Call_Name_kw (Ws I hg2 hm2 znR ?_ (by decide) (by decide))
 refine PyProof.Rows.callWith_type1 ?_ hs3 rfl
 rw[hs3]
 show wpAny _ _ (spliced ((false,eval (.Call (.Name "zip" p) [l,m] [] pos) X.env)::[])) _ _ s
 refine Calls.spliced_cons ?_
 refine Call_ (Ws I hg hm boot_zip (PyProof.Rows.callWith_type1 (vJ (ha pos pins s σ H _ I h) fun us s1 ⟨vs,H1,I1,r1,q1⟩=>?_) (by rw[hs,hs2]) (by rw[hs2];rfl)))
 obtain⟨a,b,ks,vs',e,hq1,hq2,hlen,q⟩:=q1
 subst e
 obtain⟨u,v,rfl,ru,rv⟩:=vals2 r1
 cases ru
 cases rv
 obtain⟨zcc,rv1,pl1,hz1⟩:=I1.list hq1
 obtain⟨its2,rv2,pl2,hz2⟩:=I1.list hq2
 have la:a<s1.heap.objs.size:=by obtain⟨_,e,_⟩:=pl1.isList;exact zyb e
 have lb:b<s1.heap.objs.size:=by obtain⟨_,e,_⟩:=pl2.isList;exact zyb e
 have ln1:=rv1.length
 have ln2:=rv2.length
 rw[zx4] at ln1 hz1
 refine call_zip_2 pl1.isList pl2.isList fun h1 hz hti hto it1 it2 hsz hk=>?_
 have pr:∃rs:List (Key×Value),KV (ks.zip vs') rs/\∀(j:Nat) k v,rs[j]?=some (k,v)->∃key,zcc.toArray[j]?=some key/\its2.toArray[j]?=some v/\(wY X.prog X.w).is k key=true:=by
  clear hq1 hq2 q hz1 hz2 ln1 ln2 hlen it1 it2 hz hti hto hk hsz h1 la lb pl1 pl2
  induction ks generalizing zcc its2 vs' with
  | nil=>exact⟨[],.nil,fun j k v e=>by cases e⟩
  | cons k ks ih =>
   cases rv1 with
   | @cons _ u1 _ us1 a1 rv1' =>
    cases vs' with
    | nil=>exact⟨[],.nil,fun j k v e=>by cases e⟩
    | cons v vs' =>
     cases rv2 with
     | @cons _ u2 _ us2 a2 rv2' =>
      obtain⟨rs,r1,r2⟩:=ih vs' us1 rv1' us2 rv2'
      refine⟨(k,u2)::rs,.cons ⟨rfl,a2⟩ r1,fun j k' v' e=>?_⟩
      cases j with
      | zero=>cases e;exact⟨u1,rfl,rfl,zeg a1⟩
      | succ j =>
       obtain⟨key,b1,b2,b3⟩:=r2 j k' v' e
       exact⟨key,by simpa using b1,by simpa using b2,b3⟩
 obtain⟨rs,kv,r2⟩:=pr
 have lr:(ks.zip vs').length=rs.length:=Paired.length kv
 have lz:(ks.zip vs').length=ks.length:=by rw[List.length_zip];omega
 refine Calls.spliced_nil ?_
 have nn:∀x:Nat,x<s1.heap.objs.size+5->h1.objs.size≠x:=fun x hx=>Nat.ne_of_gt (by rw[hsz];exact hx)
 have hbig:(h1.objs.size==sysModules)=false:=beq_eq_false_iff_ne.mpr (Ne.symm (zyj (zyd I1.big (by rw[hsz];exact zyF _ _))))
 refine callType_codes (Q₁:=fun obj s₁=>obj=.ref h1.objs.size/\s₁={ s1 with heap:=h1.push { cls:=.type "dict", data:=.dict #[] } }) F.kt_called_dict (F.kt_typeCall_dict_1 _) F.entry_dict_init (kt_code_dict_new _ ⟨rfl,rfl⟩) ?_
 rintro obj s₁ ⟨rfl,rfl⟩
 have hnew:(h1.push { cls:=.type "dict", data:=.dict #[] }).DictOf (wY X.prog X.w) h1.objs.size []:=Heap.DictOf.new h1
 have kp:∀b o,h1.get? b=some o->(h1.push { cls:=.type "dict", data:=.dict #[] }).get? b=some o:=fun b o e=>zya _ e
 refine⟨hnew.typeIs,F.args_dict_init_2 _ _,?_⟩
 unfold Builtin.«dict.__init__»;refine wpAny_bind ?_
 unfold Builtin.Dict.selfAndRest;refine wpAny_bind (wpAny_notOrdered_dict hnew.typeIs ?_)
 show wpAny _ _ (pure (h1.objs.size,[Value.ref (s1.heap.objs.size+4)])) _ _ _
 refine wpAny_pure ?_
 show wpAny _ _ (Builtin.Dict.updateFrom "dict.__init__" h1.objs.size (.ref (s1.heap.objs.size+4)) [] .none) _ _ { s1 with heap:=h1.push { cls:=.type "dict", data:=.dict #[] } }
 generalize h1.push { cls:=.type "dict", data:=.dict #[] }=h2 at hnew kp
 have hz':=kp _ _ hz
 unfold Builtin.Dict.updateFrom;refine wpAny_bind (wpAny_typeOf (T := "zip") ⟨_,hz',rfl⟩ ?_)
 rw[if_pos (by decide)]
 refine wpAny_bind (zdn (A:=X.A.in1.in1) (h:=h2) (g:=s1.gens) (d:=s1.drawn) (t:=s1.toks) (os:=s1.os) (I1.ok.hd hc) hz' fun h3 t3 k3=>?_)
 refine wpAny_bind (m:=rule _) (wpAny_rule ?_)
 refine wpAny_bind (wpAny_pyIter_zip (s:=⟨h3,s1.gens,s1.drawn,t3,s1.os⟩) (k3 _ _ hz') ?_)
 have k13:∀b o,h1.get? b=some o->h3.get? b=some o:=fun b o e=>k3 _ _ (kp _ _ e)
 refine wpAny_pure ⟨plainId_quiet YD _,?_⟩
 obtain⟨oD,esD,epD,aD,bD⟩:=hnew
 refine zky (A:=X.A.in1) (knd:=wY X.prog X.w) (D:=h1.objs.size) (z:=s1.heap.objs.size+4) (TI:=s1.heap.objs.size+2) (TO:=s1.heap.objs.size+3) (i1:=s1.heap.objs.size) (i2:=s1.heap.objs.size+1) (l1:=a) (l2:=b) (xs:=zcc.toArray) (ys:=its2.toArray) (ps:=rs) (I1.ok.hd hc) (zipApart_new la lb) (by simp;omega) (by simp;omega) (by omega)
  ⟨nn _ (Nat.add_lt_add_left (by decide) _),nn _ (Nat.add_lt_add_left (by decide) _),nn _ (Nat.add_lt_add_left (by decide) _),nn _ (Nat.lt_add_of_pos_right (by decide)),nn _ (Nat.add_lt_add_left (by decide) _),nn _ (zyd la (zyF _ _)),nn _ (zyd lb (zyF _ _))⟩ rs.length 0 _ [] rfl (zyr _) (.inl ⟨rfl,k13 _ _ hz⟩) (k13 _ _ hti) ⟨_,_,k13 _ _ hto⟩ (it1.at fun o e=>k13 _ _ e) (it2.at fun o e=>k13 _ _ e) (pl1.isList.at fun o e=>k13 _ _ (hk _ _ e)) (pl2.isList.at fun o e=>k13 _ _ (hk _ _ e)) ⟨oD,esD,epD,k3 _ _ aD,bD⟩ (zyr _) r2 (fun h' tk hD kp'=>?_)
 have kk:∀b o,s1.heap.get? b=some o->h'.get? b=some o:=fun b o e=>by
  have hb:b<s1.heap.objs.size:=zyb e
  have h0:∀x:Nat,s1.heap.objs.size<=x->b≠x:=fun x hx=>zyj (zyd hb hx)
  exact kp' b o (h0 _ (by rw[hsz];exact zyF _ _)) (h0 _ (zyF _ _)) (h0 _ (zyF _ _)) (h0 _ (zyk _)) (h0 _ (zyF _ _)) (k13 _ _ (hk _ _ e))
 refine⟨rfl,.ref h1.objs.size,_,I1.laid (a:=h1.objs.size) (o:=.dK (vB [] (ks.zip vs'))) (t':=tk) kk (by rw[hsz];exact zyF _ _) ?_,rfl,q _ (I1.hok.fresh (by rw[hsz];exact zyF _ _))⟩
 have lm:=Xz (ks.zip vs') []
 exact zhY (by simp at lm;omega) hbig (KV.merge kv .nil) hD
end
end L2
namespace uh
open PySem L2 xV
def nis (os:List Str):List Nat:=(List.range 4).filter fun i=>os.contains (yZ i)
theorem zey:prs=(List.range 4).map fun i=>(yZ i,v8 i):=by decide +kernel
theorem zbB {os:List Str}{i:Nat}:i∈nis os↔i<4/\yZ i∈os:=by
 unfold nis
 rw[List.mem_filter,List.mem_range,contains_iff,decide_eq_true_iff]
theorem ZX (os:List Str):z9 os=(nis os).map yZ:=by
 unfold z9 nis
 rw[zey,List.filter_map,zyG]
 rfl
theorem T8 {os:List Str}(hW:yx os):uX os=(nis os).map v8:=by
 have e:(prs.filter fun p=>os.contains p.2)=prs.filter fun p=>os.contains p.1:=List.filter_congr fun p hp=>by rw[hW p hp]
 unfold uX nis
 rw[e,zey,List.filter_map,zyG]
 rfl
def pv (os:List Str)(r s:List Bool)(x:Str):Bool:=if x∈z9 os then r.getD (ix (z9 os) x) false else s.getD (ix (uX os) x) false
def prR (os:List Str)(r s:List Bool):List Bool:=os.map (pv os r s)
def pB (os:List Str)(r s:List Bool):Nat:=yj (prR os r s)
def nb (os:List Str)(d:Nat):List Bool:=(nis os).map fun i=>d.testBit (ix os (yZ i))
theorem zpN (os:List Str)(d:Nat):(nb os d).length=(z9 os).length:=by unfold nb;rw[ZX,zx4,zx4]
theorem zfr (os:List Str)(r s:List Bool):(prR os r s).length=os.length:=zx4 _
theorem zjJ (os:List Str)(r s:List Bool):pB os r s<2^os.length:=by have:=zbZ (prR os r s);rwa [zfr] at this
theorem zih {os:List Str}{x:Str}(hx:x∈os)(r s:List Bool):(pB os r s).testBit (ix os x)=pv os r s x:=by
 unfold pB prR
 rw[Wd,zx6,(vI hx).2.2]
 rfl
section
variable {os:List Str}(ho:ug os)(hW:yx os)
include ho hW
theorem zcr {j i:Nat}(h:(nis os)[j]?=some i):i<4/\yZ i∈os/\v8 i∈os/\ix (z9 os) (yZ i)=j/\ix (uX os) (v8 i)=j/\yZ i∈z9 os/\v8 i∉z9 os:=by
 obtain⟨i4,hi⟩:=zbB.mp (zx9 h)
 have e1:(z9 os)[j]?=some (yZ i):=by rw[ZX,zx6,h];rfl
 have e2:(uX os)[j]?=some (v8 i):=by rw[T8 hW,zx6,h];rfl
 refine⟨i4,hi,(LC hW i4).mp hi,zeo (zfl ho hW) e1,zeo (Jf os) e2,zx9 e1,fun z=>?_⟩
 obtain⟨_,k,hk,e⟩:=YF z
 exact Xh hk e.symm
theorem zme {j i:Nat}(h:(nis os)[j]?=some i)(r s:List Bool):pv os r s (yZ i)=r.getD j false:=by
 obtain⟨_,_,_,e1,_,m1,_⟩:=zcr ho hW h
 unfold pv
 rw[if_pos m1,e1]
theorem zpO {j i:Nat}(h:(nis os)[j]?=some i)(r s:List Bool):pv os r s (v8 i)=s.getD j false:=by
 obtain⟨_,_,_,_,e2,_,m2⟩:=zcr ho hW h
 unfold pv
 rw[if_neg m2,e2]
theorem zgI {i:Nat}(hi:i<4)(h:yZ i∈os):∃j:Nat,(nis os)[j]?=some i:=by
 obtain⟨j,hj,e⟩:=List.mem_iff_getElem.mp (zbB.mpr ⟨hi,h⟩)
 exact⟨j,by rw[zx5 hj,e]⟩
theorem zkz {d c:Nat}(dl:d<2^os.length)(cl:c<2^os.length)(h:∀i,i<4->yZ i∈os->d.testBit (ix os (yZ i))=c.testBit (ix os (yZ i))/\d.testBit (ix os (v8 i))=c.testBit (ix os (v8 i))):d=c:=by
 refine NT fun p=>?_
 rcases Nat.lt_or_ge p os.length with z | z
 ·have hx:os[p]?=some os[p]:=zx5 z
  have mx:os[p]∈os:=zyM z
  have ei:=zeo ho.nd hx
  obtain⟨i,hi,e⟩:=zfp (ho.mem _ mx)
  rcases e with e | e
  ·rw[e] at mx ei
   rw[<-ei];exact(h i hi mx).1
  ·rw[e] at mx ei
   rw[<-ei];exact(h i hi ((LC hW hi).mpr mx)).2
 ·rw[xT dl z,xT cl z]
theorem zcs {f:Nat->Bool}(hf:∀p∈zW os,Free os.length f p){d c:Nat}(dl:d<2^os.length)(cl:c<2^os.length)(h:∀i,i<4->yZ i∈os->d.testBit (ix os (yZ i))=c.testBit (ix os (yZ i))):f d=f c:=by
 refine free_eq (zW os) (fun p hp=>⟨ZS p hp,hf p hp⟩) dl cl fun p hp=>?_
 rcases Nat.lt_or_ge p os.length with z | z
 ·rcases zgE ho z with y | y
  ·obtain⟨x,hx,e⟩:=List.mem_map.mp y
   obtain⟨mx,i,hi,ex⟩:=YF hx
   rw[ex] at mx e
   rw[<-e];exact h i hi mx
  ·exact absurd y hp
 ·rw[xT dl z,xT cl z]
end
def Yu (os:List Str)(k:Nat):List Bool:=(allR (z9 os).length).getD k []
def eb (os:List Str)(k:Nat):Nat:=pB os (Yu os k) (Yu os k)
def nM (os:List Str):Nat:=2^(z9 os).length
theorem NZ {os:List Str}{k:Nat}(h:k<nM os):(Yu os k).length=(z9 os).length:=by
 unfold Yu
 have l:k<(allR (z9 os).length).length:=by rw[wN];exact h
 rw[zyh,zx5 l]
 exact Yz _ _ (zyM l)
theorem list_range (r:List Bool):(List.range r.length).map (zri r)=r:=by
 refine List.ext_getElem? fun i=>?_
 rw[zx6]
 rcases Nat.lt_or_ge i r.length with z | z
 ·rw[List.getElem?_range z,zx5 z]
  show some (r.getD i false)=_
  rw[zyh,zx5 z]
  rfl
 ·rw[zyE (by rw[zym];exact z),zyE z]
  rfl
theorem zmf (r:List Bool):r∈allR r.length:=by
 have:=Mw (zri r) r.length
 rwa [list_range] at this
theorem zmg {os:List Str}{r:List Bool}(h:r.length=(z9 os).length):∃k,k<nM os/\Yu os k=r:=by
 have m:=zmf r
 rw[h] at m
 obtain⟨k,hk,e⟩:=List.mem_iff_getElem.mp m
 rw[wN] at hk
 refine⟨k,hk,?_⟩
 unfold Yu
 rw[zyh,zx5 (by rw[wN];exact hk),e]
 rfl
theorem zez (os:List Str)(k:Nat):eb os k<2^os.length:=zjJ ..
def gr (os:List Str)(t:Nat->Bool)(j k:Nat):Bool:=t (pB os (Yu os j) (Yu os k))
section
variable {os:List Str}{t f g:Nat->Bool}(ho:ug os)(hW:yx os)
include ho hW
theorem QV {k:Nat}{j i:Nat}(h:(nis os)[j]?=some i):(eb os k).testBit (ix os (yZ i))=(Yu os k).getD j false:=by
 obtain⟨_,h1,_⟩:=zcr ho hW h
 unfold eb
 rw[zih h1,zme ho hW h]
theorem zii {r s:List Bool}{j i:Nat}(h:(nis os)[j]?=some i):(pB os r s).testBit (ix os (yZ i))=r.getD j false/\(pB os r s).testBit (ix os (v8 i))=s.getD j false:=by
 obtain⟨_,h1,h2,_⟩:=zcr ho hW h
 rw[zih h1,zme ho hW h,zih h2,zpO ho hW h]
 exact⟨rfl,rfl⟩
theorem zmh (hf:∀p∈zW os,Free os.length f p)(k:Nat):W0 os t f (eb os k)=true↔∃j,j<nM os/\f (eb os j)=true/\gr os t j k=true:=by
 rw[zn0 ho hW (zez os k)]
 constructor
 ·rintro⟨d,dl,h1,fd,td⟩
  obtain⟨j,hj,ej⟩:=zmg (zpN os d)
  refine⟨j,hj,?_,?_⟩
  ·rw[<-fd]
   refine zcs ho hW hf (zez os j) dl fun i hi hn=>?_
   obtain⟨p,hp⟩:=zgI ho hW hi hn
   rw[QV ho hW hp,ej]
   unfold nb
   rw[zyh,zx6,hp]
   rfl
  ·unfold gr
   rw[ej,<-td]
   congr 1
   refine zkz ho hW (zjJ ..) dl fun i hi hn=>?_
   obtain⟨p,hp⟩:=zgI ho hW hi hn
   obtain⟨a1,a2⟩:=zii ho hW (r:=nb os d) (s:=Yu os k) hp
   rw[a1,a2,h1 i hi hn,QV ho hW hp]
   refine⟨?_,rfl⟩
   unfold nb
   rw[zyh,zx6,hp]
   rfl
 ·rintro⟨j,hj,fj,gj⟩
  refine⟨pB os (Yu os j) (Yu os k),zjJ ..,fun i hi hn=>?_,?_,gj⟩
  ·obtain⟨p,hp⟩:=zgI ho hW hi hn
   rw[(zii ho hW hp).2,QV ho hW hp]
  ·rw[<-fj]
   refine zcs ho hW hf (zjJ ..) (zez os j) fun i hi hn=>?_
   obtain⟨p,hp⟩:=zgI ho hW hi hn
   rw[(zii ho hW hp).1,QV ho hW hp]
end
end uh
namespace L2
open PySem
section
variable {K:Frag}{σ:St}{js:List Nat}{tt:TT}{te:TE}{H:Hp}{Qf:Addr->Hp->List V->Prop}
open uh
theorem zmi {n:Nat}(p:Nat->Bool)(hz:n<=sizeLine)(hte:∀x H' Q,Q x H'->te (Wv σ js (some x)) H' Q)
  (hs:∀(i:Nat) H' (Q:Bool->Hp->Prop),i<n->Same H H'->(∀H2,Same H H2->Q (p i) H2)->tt (Wv σ js (some (.int ((0:Int)+i)))) H' Q)
  (hd:∀H' l,Same H H'->H' l=none->Qf l H' (yd ((List.range n).filter p))) :
  ∃W:Nat->Nat->List V->Hp->Prop,(∃m,W 0 m [] H)/\∀i m ys H,W i m ys H ->
   ((Itr 0 n).stop i H/\∀p,H p=none->Qf p H ys) \/
   ((Itr 0 n).go i H/\ys.length<sizeLine/\∀x H',(Itr 0 n).JZ i H x H'->tt (Wv σ js (some x)) H' fun b H2 =>
    if b=true then te (Wv σ js (some x)) H2 fun v H3=>∃m',m'<m/\W (i+1) m' (ys++[v]) H3 else ∃m',m'<m/\W (i+1) m' ys H2):=by
 refine⟨fun i m ys H'=>m=n-i/\i<=n/\Same H H'/\ys=yd ((List.range i).filter p),⟨n,by simp,zyr _,Same.refl _,rfl⟩,?_⟩
 rintro i m ys H1 ⟨rfl,hi,g,rfl⟩
 have hy:(yd ((List.range i).filter p)).length<=i:=by
  have:=zyD p (List.range i)
  rw[zym] at this
  unfold yd
  rw[zx4]
  exact this
 by_cases hlt:i<n
 ·refine .inr ⟨hlt,by omega,fun x H' y=>?_⟩
  obtain⟨e,y⟩:=y
  subst e y
  refine hs i _ _ hlt g fun H2 g2=>?_
  cases e:p i with
  | true =>
   rw[if_pos rfl]
   refine hte _ _ _ ⟨_,Nat.sub_lt_sub_left hlt (Nat.lt_succ_self i),rfl,hlt,g2,?_⟩
   rw[List.range_succ,zyJ,List.filter_cons_of_pos e]
   unfold yd
   rw[zyi]
   show _++[V.int ((0:Int)+(i:Nat))]=_++[V.int (i:Nat)]
   rw[Int.zero_add]
  | false =>
   rw[if_neg zx8]
   refine⟨_,Nat.sub_lt_sub_left hlt (Nat.lt_succ_self i),rfl,hlt,g2,?_⟩
   rw[List.range_succ,zyJ,List.filter_cons_of_neg (by rw[e];exact zx8),List.filter_nil,List.append_nil]
 ·have e:i=n:=by omega
  subst e
  exact .inl ⟨zyk _,fun l hl=>hd _ l g hl⟩
theorem zct {a:Addr}{xs:List V}(Pv:Nat->List V->Hp->Prop)(h0:Pv 0 [] H)(hz:xs.length<=sizeLine)
  (hl:∀i ys H,i<=xs.length->Pv i ys H->zO K H a xs/\ys.length<=i)
  (hs:∀i x ys H (Q:V->Hp->Prop),xs[i]?=some x->Pv i ys H->(∀v H3,Pv (i+1) (ys++[v]) H3->Q v H3)->te (Wv σ js (some x)) H Q)
  (hd:∀ys H p,Pv xs.length ys H->H p=none->Qf p H ys) :
  ∃W:Nat->Nat->List V->Hp->Prop,(∃m,W 0 m [] H)/\∀i m ys H,W i m ys H ->
   ((Itl K a).stop i H/\∀p,H p=none->Qf p H ys) \/
   ((Itl K a).go i H/\ys.length<sizeLine/\∀x H',(Itl K a).JZ i H x H'->zdg (Wv σ js (some x)) H' fun b H2 =>
    if b=true then te (Wv σ js (some x)) H2 fun v H3=>∃m',m'<m/\W (i+1) m' (ys++[v]) H3 else ∃m',m'<m/\W (i+1) m' ys H2):=by
 refine⟨fun i m ys H=>m=xs.length-i/\i<=xs.length/\Pv i ys H,⟨xs.length,by simp,zyr _,h0⟩,?_⟩
 rintro i m ys H ⟨rfl,hi,p⟩
 obtain⟨q,hy⟩:=hl i ys H hi p
 by_cases hlt:i<xs.length
 ·refine .inr ⟨⟨xs,xs[i],q,by simp[hlt]⟩,by omega,fun x H' y=>?_⟩
  obtain⟨e,y⟩:=y
  subst e
  show te (Wv σ js (some x)) H' fun v H3=>∃m',m'<xs.length-i/\(m'=xs.length-(i+1)/\i+1<=xs.length/\Pv (i+1) (ys++[v]) H3)
  exact hs i x ys _ _ (y xs q) p fun v H3 h3=>⟨_,Nat.sub_lt_sub_left hlt (Nat.lt_succ_self i),rfl,hlt,h3⟩
 ·have e:i=xs.length:=by omega
  subst e
  exact .inl ⟨⟨xs,q,zyk _⟩,fun pp hp=>hd ys H pp p hp⟩
end
end L2
namespace uh
open PySem L2 xV
theorem zn1 {ks:List Str}{vs:List V}(nd:ks.Nodup):∀{j:Nat} {x:Str} {v:V},ks[j]?=some x->vs[j]?=some v->ZR (vB [] ((ks.map fun x=>(Sum.inr x:Key)).zip vs)) (Sum.inr x:Key)=some v:=by
 have key:∀(ks:List Str) (vs:List V) (acc:List (Key×V)),ks.Nodup->(∀(j:Nat) (x:Str) (v:V),ks[j]?=some x->vs[j]?=some v->ZR (vB acc ((ks.map fun x=>(Sum.inr x:Key)).zip vs)) (Sum.inr x:Key)=some v)/\∀x:Str,x∉ks->ZR (vB acc ((ks.map fun x=>(Sum.inr x:Key)).zip vs)) (Sum.inr x:Key)=ZR acc (Sum.inr x:Key):=by
  intro ks
  induction ks with
  | nil=>exact fun vs acc _=>⟨fun j x v e=>by simp at e,fun x _=>rfl⟩
  | cons y ks ih =>
   intro vs acc nd
   cases vs with
   | nil=>exact⟨fun j x v _ e=>by simp at e,fun x _=>rfl⟩
   | cons u vs =>
    obtain⟨n1,n2⟩:=List.nodup_cons.mp nd
    obtain⟨i1,i2⟩:=ih vs (putK acc (Sum.inr y) u) n2
    refine⟨fun j x v e1 e2=>?_,fun x hx=>?_⟩
    ·cases j with
     | zero =>
      cases e1;cases e2
      refine(i2 y n1).trans ?_
      rw[wH,if_pos rfl]
     | succ j=>exact i1 j x v (by simpa using e1) (by simpa using e2)
    ·have hx':¬(x=y\/x∈ks):=fun z=>hx (List.mem_cons.mpr z)
     refine(i2 x fun z=>hx' (.inr z)).trans ?_
     rw[wH,if_neg fun z=>hx' (.inl (by injection z))]
 intro j x v e1 e2
 exact(key ks vs [] nd).1 j x v e1 e2
def chs (os:List Str)(p:Nat->Bool):List Nat:=(List.range (nM os)).filter p
theorem zbC {os:List Str}{p:Nat->Bool}{k:Nat}:k∈chs os p↔k<nM os/\p k=true:=by unfold chs;rw[List.mem_filter,List.mem_range]
theorem zn2 (os:List Str)(p:Nat->Bool):(chs os p).length<=nM os:=zyq (zyD _ _) (by rw[zym];exact zyk _)
theorem zmj {os:List Str}:nM os<=16:=by
 have l:(z9 os).length<=4:=by
  rw[ZX,zx4]
  exact zyq (zyD _ _) (by rw[zym];exact zyk _)
 exact zyA (n:=2) (j:=4) (by decide) l
section
variable (K:Frag)
inductive zbD (vs:List V)(H:Hp)(Q:VK)(E9:XK):Prop
 | mk (ol rl sl:Addr) (os:List Str) (r s:List Bool) (_:vs=[.ref ol,.ref rl,.ref sl]) (_:zO K H ol (os.map V.str)) (_:ug os) (_:yx os) (_:zO K H rl (zY r)) (_:zO K H sl (zY s)) (_:r.length=(z9 os).length) (_:s.length=(z9 os).length) (_:∀(l:Addr) (H':Hp),Same H H'->H l=none->H' l=some (.lst (zY (prR os r s)))->Q (.ref l) H'):zbD vs H Q E9
def GrL (os:List Str)(t:Nat->Bool)(H:Hp)(l:Addr)(k:Nat):Prop:=H l=some (.lst (yd (chs os (gr os t k))))
structure GrA (os:List Str)(t:Nat->Bool)(H0 H:Hp)(l:Addr)(ls:List Addr):Prop where
 hl:H l=some (.lst (ls.map V.ref))
 pd:Paired (GrL os t H) ls (List.range (nM os))
 fr:H0 l=none
 fs:∀x∈ls,H0 x=none
inductive zfs (vs:List V)(H:Hp)(Q:VK)(E9:XK):Prop
 | mk (p ol:Addr) (os:List Str) (s:Sn) (_:vs=[.ref p,.ref ol]) (_:zO K H ol (os.map V.str)) (_:ug os) (_:yx os) (_:Ml os H s p) (_:∀(l:Addr) (ls:List Addr) (H':Hp),Same H H'->GrA os (fun b=>s.val (wB os b)) H H' l ls->Q (.ref l) H'):zfs vs H Q E9
inductive zcu (vs:List V)(H:Hp)(Q:VK)(E9:XK):Prop
 | mk (p ol:Addr) (os:List Str) (s:Sn) (_:vs=[.ref p,.ref ol]) (_:zO K H ol (os.map V.str)) (_:ug os) (_:yx os) (_:Ml os H s p) (_:∀(l:Addr) (H':Hp),Same H H'->H l=none->H' l=some (.lst (yd (chs os fun k=>s.val (wB os (eb os k)))))->Q (.ref l) H'):zcu vs H Q E9
end
theorem GrA.same {os:List Str}{t:Nat->Bool}{H0 H H':Hp}{l:Addr}{ls:List Addr}(h:GrA os t H0 H l ls)(g:Same H H'):GrA os t H0 H' l ls:=⟨g _ _ h.hl,wG (fun _ _ z=>g _ _ z) h.pd,h.fr,h.fs⟩
theorem GrA.at {os:List Str}{t:Nat->Bool}{H0 H:Hp}{l:Addr}{ls:List Addr}(h:GrA os t H0 H l ls){k:Nat}(hk:k<nM os):∃a,ls[k]?=some a/\H a=some (.lst (yd (chs os (gr os t k)))):=by
 have e:=yK h.pd
 rw[zym] at e
 obtain⟨a,ha⟩:∃a,ls[k]?=some a:=⟨_,zx5 (by omega)⟩
 obtain⟨j,hj,z⟩:=ZK h.pd ha
 rw[List.getElem?_range (by omega)] at hj
 cases hj
 exact⟨a,ha,z⟩
section
variable {os:List Str}{t t' f:Nat->Bool}
theorem zcv {rs:List Rm}{k:Nat}{s:Sn}(m:Means rs k fun r=>s.val (zkl os r))(b:Nat):tB rs k b=s.val (wB os b):=by
 unfold tB
 rw[m.2]
 rfl
end
structure Gst (C:Addr)(K:Frag)(sc:Addr)(ns:List Int)(H1:Hp)(ol bk:Addr)(os:List Str)(m:Nat)(H:Hp)(rs:List Rm)(F:vC):Prop where
 led:Ls C H1 bk os m H rs F
 hS:zO K H1 sc (ns.map V.int)
 hol:H1 ol=some (.lst (os.map V.str))
 ho:ug os
 hW:yx os
 hn:0<(z9 os).length
section
variable {C:Addr}{K:Frag}{sc:Addr}{ns:List Int}{H1:Hp}{ol bk:Addr}{os:List Str}{m:Nat}{H H':Hp}{rs rs':List Rm}{F:vC}
theorem Gst.new (h:Gst C K sc ns H1 ol bk os m H rs F)(g:Same H H'):Gst C K sc ns H1 ol bk os m H' rs F:=⟨h.led.new g,h.hS,h.hol,h.ho,h.hW,h.hn⟩
theorem Gst.up {m':Nat}(h:Gst C K sc ns H1 ol bk os m H rs F)(g:m<=m'):Gst C K sc ns H1 ol bk os m' H rs F:=⟨h.led.up g,h.hS,h.hol,h.ho,h.hW,h.hn⟩
theorem Gst.B (h:Gst C K sc ns H1 ol bk os m H rs F):Bk os.length rs:=(yX C).bk h.led.bk
theorem Gst.grow {n:Nat}(h:Gst C K sc ns H1 ol bk os m H rs F)(aw:znG F H H')(hB:yD C H' bk os rs' F)(hh:hiN os.length rs'<=hiN os.length rs+n):Gst C K sc ns H1 ol bk os (m+n) H' rs' F :=
 ⟨h.led.rise aw hB hh,h.hS,h.hol,h.ho,h.hW,h.hn⟩
theorem Gst.olL (h:Gst C K sc ns H1 ol bk os m H rs F):zO K H ol (os.map V.str):=zO.of (h.led.same _ _ h.hol)
theorem Gst.scL (h:Gst C K sc ns H1 ol bk os m H rs F):zO K H sc (ns.map V.int):=h.led.same.seq h.hS
end
theorem Ls.made {C:Addr}{H0 H':Hp}{bk dx:Addr}{os:List Str}{F:vC}{o1 o2:HO}(hbk:H0 bk=none)(hdx:H0 dx=none)(hne:dx≠bk)(keep:∀x o,upd (upd H0 dx o1) bk o2 x=some o->x≠bk->H' x=some o)
  (hB:yD C H' bk os [none,none] F)(hF:∀x,F x->x=bk\/x=dx\/upd (upd H0 dx o1) bk o2 x=none):Ls C H0 bk os 0 H' [none,none] F:=by
 refine⟨fun x o e=>keep x o (by rw[zG (zH e hbk),zG (zH e hdx)];exact e) (zH e hbk),fun x hx=>?_,hB,zyk _⟩
 rcases hF x hx with z | z | z
 ·rw[z];exact hbk
 ·rw[z];exact hdx
 ·by_cases e1:x=bk
  ·rw[e1] at z;rw[zj] at z;cases z
  ·by_cases e2:x=dx
   ·rw[e2,zG hne,zj] at z;cases z
   ·rw[zG e1,zG e2] at z;exact z
theorem Ml.all {os:List Str}{H:Hp}{s:Sn}{p:Addr}(h:Ml (z9 os) H s p):Ml os H s p:=⟨h.is_,znX (fun x hx=>(YF hx).1) h.Ve,h.ct,h.dp⟩
end uh
namespace L2
open PySem PySem.Spec PyProof.Rows
section
variable {K:Frag}{σ:St}{js:List Nat}{te:TE}{H:Hp}{Qf:Addr->Hp->List V->Prop}
open uh
theorem zjK {n:Nat}(f:Nat->V)(hz:n<=sizeLine)
  (hs:∀(i:Nat) H' (Q:V->Hp->Prop),i<n->Same H H'->(∀H3,Same H' H3->Q (f i) H3)->te (Wv σ js (some (.int ((0:Int)+i)))) H' Q)
  (hd:∀H' p,Same H H'->H' p=none->Qf p H' ((List.range n).map f)) :
  ∃W:Nat->Nat->List V->Hp->Prop,(∃m,W 0 m [] H)/\∀i m ys H,W i m ys H ->
   ((Itr 0 n).stop i H/\∀p,H p=none->Qf p H ys) \/
   ((Itr 0 n).go i H/\ys.length<sizeLine/\∀x H',(Itr 0 n).JZ i H x H'->zdg (Wv σ js (some x)) H' fun b H2 =>
    if b=true then te (Wv σ js (some x)) H2 fun v H3=>∃m',m'<m/\W (i+1) m' (ys++[v]) H3 else ∃m',m'<m/\W (i+1) m' ys H2):=by
 refine⟨fun i m ys H'=>m=n-i/\i<=n/\Same H H'/\ys=(List.range i).map f,⟨n,by simp,zyr _,Same.refl _,rfl⟩,?_⟩
 rintro i m ys H1 ⟨rfl,hi,g,rfl⟩
 by_cases hlt:i<n
 ·refine .inr ⟨hlt,by rw[zx4,zym];omega,fun x H' y=>?_⟩
  obtain⟨e,y⟩:=y
  subst e y
  refine hs i _ _ hlt g fun H3 g3=>⟨_,Nat.sub_lt_sub_left hlt (Nat.lt_succ_self i),rfl,hlt,g.trans g3,?_⟩
  rw[List.range_succ,zyi]
  rfl
 ·have e:i=n:=by omega
  subst e
  exact .inl ⟨zyk _,fun l hl=>hd _ l g hl⟩
end
end L2
namespace uh
open PySem L2 xV
section
variable (C:Addr)(K:Frag)
def Mx (os:List Str)(H:Hp)(rl:Addr)(ps:List Addr):Prop:=H rl=some (.lst (ps.map V.ref))/\Paired (fun p r=>H p=some (.lst (zY r))) ps (allR (z9 os).length)
end
theorem Mx.same {os:List Str}{H H':Hp}{rl:Addr}{ps:List Addr}(h:Mx os H rl ps)(g:Same H H'):Mx os H' rl ps:=⟨g _ _ h.1,wG (fun _ _ z=>g _ _ z) h.2⟩
theorem Mx.len {os:List Str}{H:Hp}{rl:Addr}{ps:List Addr}(h:Mx os H rl ps):ps.length=nM os:=by
 have:=yK h.2
 rwa [wN] at this
theorem Mx.at {os:List Str}{H:Hp}{rl:Addr}{ps:List Addr}(h:Mx os H rl ps){i:Nat}{p:Addr}(e:ps[i]?=some p):H p=some (.lst (zY (Yu os i)))/\i<nM os:=by
 obtain⟨r,hr,z⟩:=ZK h.2 e
 refine⟨?_,by rw[<-h.len];exact(zx7.mp e).1⟩
 unfold Yu
 rw[zyh,hr]
 exact z
section
variable {os:List Str}{t f:Nat->Bool}
theorem Rz {xs:List Nat}{j x:Nat}(h:xs[j]?=some x):(yd xs)[j]?=some (.int (x:Nat)):=by unfold yd;rw[zx6,h];rfl
end
def hv (os:List Str)(r:List Bool):Nat->Bool:=hav ((yg os).zip r)
theorem zpP {n N M:Nat}{f g:Nat->Bool}(a:zV n N f)(b:zV n M g)(h:∃c,c<2^n/\f c=true/\g c=true):N&&&M≠0:=fun e=>by
 obtain⟨c,hc,x,y⟩:=h
 have z:=Jh a b c
 dsimp only at z
 rw[e,Nat.zero_testBit,decide_eq_true hc,x,y] at z
 cases z
end uh
namespace L2
open PySem PySem.Spec PyProof.Rows
theorem zjL:bootBuiltins "repr"=some (.builtin "repr"):=by decide +kernel
def Jk (r:List Bool):PyData:=.list (r.map fun b=>.int ((b.toNat:Nat):Int))
def zoM (rr:List (List Bool)):PyData:=.list (rr.map Jk)
def shR (rr:List (List Bool)):Str:=(zoM rr).shown
theorem zij (b:Bool):(PyData.int ((b.toNat:Nat):Int)).weight<=1:=by cases b<;>decide
theorem zeA:∀(r:List Bool),PyData.showableAll (r.map fun b=>.int ((b.toNat:Nat):Int))=true/\PyData.hasDictAll (r.map fun b=>.int ((b.toNat:Nat):Int))=false/\PyData.depthAll (r.map fun b=>.int ((b.toNat:Nat):Int))<=1/\PyData.leavesShortAll 13 (r.map fun b=>.int ((b.toNat:Nat):Int))=true/\PyData.weightAll (r.map fun b=>.int ((b.toNat:Nat):Int))<=2*r.length
 | []=>⟨rfl,rfl,zyr _,rfl,zyr _⟩
 | b::r=>by
  obtain⟨a1,a2,a3,a4,a5⟩:=zeA r
  have w:=zij b
  refine⟨?_,?_,?_,?_,?_⟩
  ·simp only[zyt,PyData.showableAll,a1,Bool.and_true]
   cases b<;>decide
  ·simp only[zyt,PyData.hasDictAll,a2,PyData.hasDict,Bool.or_false]
  ·simp only[zyt,PyData.depthAll,PyData.depth]
   omega
  ·simp only[zyt,PyData.leavesShortAll,a4,Bool.and_true,PyData.leavesShort]
   refine decide_eq_true ?_
   exact PyData.shown_int_le (by cases b<;>decide)
  ·simp only[zyt,PyData.weightAll,zyg]
   omega
theorem zcw:∀(rr:List (List Bool)),(∀r∈rr,r.length<=8)->PyData.showableAll (rr.map Jk)=true/\PyData.hasDictAll (rr.map Jk)=false/\PyData.depthAll (rr.map Jk)<=2/\PyData.leavesShortAll 13 (rr.map Jk)=true/\PyData.weightAll (rr.map Jk)<=17*rr.length
 | [],_=>⟨rfl,rfl,zyr _,rfl,zyr _⟩
 | r::rr,h=>by
  obtain⟨a1,a2,a3,a4,a5⟩:=zcw rr fun x hx=>h x (zyf _ hx)
  obtain⟨b1,b2,b3,b4,b5⟩:=zeA r
  have lr:=h r zyo
  refine⟨?_,?_,?_,?_,?_⟩
  ·simp only[zyt,PyData.showableAll,a1,Bool.and_true,Jk,PyData.showable,b1]
  ·simp only[zyt,PyData.hasDictAll,a2,Jk,PyData.hasDict,b2,Bool.or_false]
  ·simp only[zyt,PyData.depthAll,Jk,PyData.depth]
   omega
  ·simp only[zyt,PyData.leavesShortAll,a4,Bool.and_true,Jk,PyData.leavesShort,b4]
  ·simp only[zyt,PyData.weightAll,zyg,Jk,PyData.weight]
   omega
theorem zeB {h:Heap}:∀{r:List Bool} {us:List Value},Vals (uh.zY r) us->∃as,ReadsAll h us (r.map fun b=>.int ((b.toNat:Nat):Int)) as
 | [],_,.nil=>⟨_,.nil⟩
 | b::r,_,.cons e t=>by
  obtain⟨as,z⟩:=zeB t
  obtain⟨tk,rfl⟩:=e
  exact⟨_,.cons (.int _ _) z⟩
section
variable {X:Cx}
theorem Mz (hg:X.A.guards=some [])(hu:X.A.units+9<cLine):Vq X (.builtin "repr") (fun xs H Q=>∃(p:Addr) (ps:List Addr) (rr:List (List Bool)),xs=[.ref p]/\H p=some (.lst (ps.map V.ref))/\Paired (uh.QT H) ps rr/\rr.length<=300/\(∀r∈rr,r.length<=8)/\Q (.str (shR rr)) H):=by
 intro pins s σ H xs us Q I r h
 obtain⟨p,ps,rr,rfl,hp,pr,l3,l8,q⟩:=h
 obtain⟨u,rfl,rx⟩:=vals1 r
 cases rx
 obtain⟨hz,its,c,rv,hl⟩:=(show wU X.prog X.w H s.heap p (.lst (ps.map V.ref)) from I.hok p _ hp)
 have all:∃as,ReadsAll s.heap its (rr.map Jk) as:=by
  clear hp q hl hz c l3 l8
  induction pr generalizing its with
  | nil=>cases rv;exact⟨_,.nil⟩
  | @cons t r ps rr ht _ ih =>
   cases rv with
   | @cons _ u _ us ru rv' =>
    cases ru
    obtain⟨as,z⟩:=ih us rv'
    obtain⟨_,ks,c2,rk,hk⟩:=(show wU X.prog X.w H s.heap t (.lst (uh.zY r)) from I.hok t _ ht)
    obtain⟨bs,y⟩:=zeB (h:=s.heap) rk
    exact⟨_,.cons (.list hk rfl rfl (by simpa using y)) z⟩
 obtain⟨as,z⟩:=all
 obtain⟨f1,f2,f3,f4,f5⟩:=zcw rr l8
 have rd:Reads s.heap (.ref p) (zoM rr) (p::as):=.list hl rfl rfl (by simpa using z)
 refine repr_of_reads' rd (by show PyData.showableAll _=true;exact f1) (PyData.noDict_hsm (by show PyData.hasDictAll _=false;exact f2)) hg (by show X.A.units+(PyData.depthAll (rr.map Jk)+1+1)<cLine;omega) (fun _ _ e=>e) (fun h' u tk k=>?_) (PyData.shown_fits (B:=13) (by decide) (by decide) (by show PyData.leavesShortAll 13 _=true;exact f4) (by show PyData.weightAll (rr.map Jk)<=2^20;have:2^20=1048576:=rfl;omega))
 exact⟨.str (shR rr),H,I.kept k,⟨u,rfl⟩,q⟩
end
end L2
namespace uh
open PySem L2 xV
theorem zn3 (n:Nat):(allR n).Nodup:=(zem n).imp fun {a b} h e=>by
 subst e
 have:∀r:List Bool,Qg r r=false:=by
  intro r
  induction r with
  | nil=>rfl
  | cons x r ih=>cases x<;>simpa [Qg] using ih
 rw[this] at h
 cases h
theorem zjM {os:List Str}{x y:Nat}(hx:x<nM os)(hy:y<nM os)(e:Yu os x=Yu os y):x=y:=by
 unfold Yu at e
 have lx:x<(allR (z9 os).length).length:=by rw[wN];exact hx
 have ly:y<(allR (z9 os).length).length:=by rw[wN];exact hy
 rw[zyh,zyh,zx5 lx,zx5 ly] at e
 exact(List.getElem_inj (zn3 _)).mp e
def zcx (os:List Str)(t f g:Nat->Bool)(m:Nat):List (List Bool):=(Mp os t ((List.range m).map fun d=>(ZV os t f d).1).reverse (fvP os.length (fun b=>(ZV os t f m).1 b&&g b) (yg os))).reverse
section
variable {os:List Str}{t f g:Nat->Bool}(ho:ug os)(hW:yx os)
include ho hW
theorem zmk {m:Nat}(hf:∀p∈zW os,Free os.length f p)(M:Meet os t f g m) :
  (zcx os t f g m).length=m+1/\(∃r,(zcx os t f g m)[0]?=some r/\∃c,c<2^os.length/\hv os r c=true/\f c=true)/\(∃r,(zcx os t f g m)[(zcx os t f g m).length-1]?=some r/\∃c,c<2^os.length/\hv os r c=true/\g c=true) /\
   (∀(x:Nat) r r',(zcx os t f g m)[x]?=some r->(zcx os t f g m)[x+1]?=some r'->∃c,c<2^os.length/\W0 os t (hv os r) c=true/\hv os r' c=true):=by
 obtain⟨b,hb,b1,b2⟩:=M.1
 obtain⟨d,hd,d1,d2⟩:=zid (yg os) (fun b=>(ZV os t f m).1 b&&g b) (zfm ho hW) YC ⟨b,hb,by rw[b1,Bool.true_and];exact b2⟩
 obtain⟨d3,d4⟩:=(zyw _ _).mp d1
 obtain⟨a1,z,a2,c0,hc0,f0,v0⟩:=zjI ho hW hf m _ ⟨d,hd,d3,d2⟩
 have wl:=zgD os t ((List.range m).map fun d=>(ZV os t f d).1).reverse (fvP os.length (fun b=>(ZV os t f m).1 b&&g b) (yg os))
 obtain⟨L,eL⟩:=zex (os:=os) (t:=t) ((List.range m).map fun d=>(ZV os t f d).1).reverse (fvP os.length (fun b=>(ZV os t f m).1 b&&g b) (yg os))
 rw[List.length_reverse,zx4,zym] at wl
 unfold zcx
 refine⟨by rw[List.length_reverse];exact wl,⟨z,?_,c0,hc0,v0,f0⟩,⟨fvP os.length (fun b=>(ZV os t f m).1 b&&g b) (yg os),?_,d,hd,d2,d4⟩,fun x r r' e1 e2=>?_⟩
 ·rw[List.getElem?_reverse (by omega),<-a2,List.getLast?_eq_getElem?]
  rfl
 ·rw[List.length_reverse,List.getElem?_reverse (by omega),eL]
  rw[show(fvP os.length (fun b=>(ZV os t f m).1 b&&g b) (yg os)::L).length-1-((fvP os.length (fun b=>(ZV os t f m).1 b&&g b) (yg os)::L).length-1)=0 by omega]
  rfl
 ·have back:∀(W:List (List Bool)) (y:Nat) (u v:List Bool),zfq os t W->W[y]?=some u->W[y+1]?=some v->zoK os t v u:=by
   intro W
   induction W with
   | nil=>intro y u v _ e;simp at e
   | cons w W ih =>
    intro y u v B e e'
    cases W with
    | nil=>simp at e'
    | cons w2 W =>
     cases y with
     | zero =>
      have q1:w=u:=by simpa using e
      have q2:w2=v:=by simpa using e'
      rw[<-q1,<-q2]
      exact B.1
     | succ y=>exact ih y u v B.2 (by simpa using e) (by simpa using e')
  have lx:=(zx7.mp e2).1
  rw[List.length_reverse] at lx
  rw[List.getElem?_reverse (by omega)] at e1 e2
  rw[wl] at e1 e2 lx
  exact back _ _ r' r a1 e2 (by rw[show m+1-1-(x+1)+1=m+1-1-x by omega];exact e1)
omit ho hW in
theorem zml (m:Nat):∀r∈zcx os t f g m,r.length=(z9 os).length:=fun r hr=>by
 have ll:∀(fs:List (Nat->Bool)) (r:List Bool),r.length=(yg os).length->∀x∈Mp os t fs r,x.length=(yg os).length:=by
  intro fs
  induction fs with
  | nil =>
   intro r h x hx
   have:x=r:=by simpa [Mp] using hx
   rw[this];exact h
  | cons g fs ih =>
   intro r h x hx
   rcases List.mem_cons.mp (show x∈r::Mp os t fs _ from hx) with z | z
   ·rw[z];exact h
   ·exact ih _ (Ji _ _ _) x z
 rw[ll _ _ (Ji _ _ _) r (List.mem_reverse.mp hr)]
 exact zx4 _
theorem zjN {x b:Nat}(hx:x<nM os)(h:hv os (Yu os x) b=true):∀i,i<4->yZ i∈os->b.testBit (ix os (yZ i))=(eb os x).testBit (ix os (yZ i)):=fun i hi hn=>by
 obtain⟨p,hp⟩:=zgI ho hW hi hn
 rw[QV ho hW hp]
 unfold hv hav at h
 rw[zyy] at h
 have pl:=(zx7.mp hp).1
 have e1:(yg os)[p]?=some (ix os (yZ i)):=by unfold yg;rw[ZX,zx6,zx6,hp];rfl
 have l1:(Yu os x).length=(z9 os).length:=NZ hx
 have l2:(z9 os).length=(nis os).length:=by rw[ZX,zx4]
 have pr:p<(Yu os x).length:=by omega
 have m:(ix os (yZ i),(Yu os x)[p])∈(yg os).zip (Yu os x):=zx9 (i:=p) (List.getElem?_zip_eq_some.mpr ⟨e1,zx5 pr⟩)
 have z:=h _ m
 rw[beq_iff_eq] at z
 rw[z,zyh,zx5 pr]
 rfl
theorem zoN {x b:Nat}(hx:x<nM os)(hb:b<2^os.length)(h:hv os (Yu os x) b=true)(hf:∀p∈zW os,Free os.length f p):f b=f (eb os x):=zcs ho hW hf hb (zez os x) (zjN ho hW hx h)
theorem zmm {x y:Nat}(hx:x<nM os)(hy:y<nM os)(h:hv os (Yu os x) (eb os y)=true):y=x:=by
 refine zjM hy hx (List.ext_getElem? fun p=>?_)
 have l1:(Yu os x).length=(z9 os).length:=NZ hx
 have l3:(Yu os y).length=(z9 os).length:=NZ hy
 have l2:(z9 os).length=(nis os).length:=by rw[ZX,zx4]
 by_cases c:p<(nis os).length
 ·have hp:(nis os)[p]?=some (nis os)[p]:=zx5 c
  obtain⟨hi,hn,_⟩:=zcr ho hW hp
  have z:=zjN ho hW hx h _ hi hn
  rw[QV ho hW hp,QV ho hW hp,zyh,zyh,zx5 (by omega),zx5 (by omega)] at z
  rw[zx5 (by omega),zx5 (by omega)]
  exact congrArg some z
 ·rw[zyE (by omega),zyE (by omega)]
theorem zmn {x y:Nat}(hx:x<nM os)(hy:y<nM os)(h:∃c,c<2^os.length/\W0 os t (hv os (Yu os x)) c=true/\hv os (Yu os y) c=true):gr os t x y=true:=by
 obtain⟨c,hc,h1,h2⟩:=h
 have fr:∀p∈zW os,Free os.length (hv os (Yu os x)) p:=Jj ho _
 have z:=zoN ho hW hy hc h2 fun p hp=>zgz (t:=t) ho hW (hv os (Yu os x)) p hp
 rw[h1] at z
 obtain⟨j,hj,a,b⟩:=(zmh ho hW fr y).mp z.symm
 rw[zmm ho hW hx hj a] at b
 exact b
end
end uh
namespace L2
open PySem PySem.Spec PyProof.Rows
structure zgK (K:Frag)(D:Addr):Prop where
 ga:findIn K (.ref D) "__getattribute__"=some (some (.builtin "BaseException.__getattribute__"))
 gt:findIn K (.ref D) "__getattr__"=some none
 ca:findIn K (.ref D) "__class__"=some (some (.builtin "object.__class__"))
 bx:PySem.W.mroIn K D (.type "BaseException")=some true
 ob:PySem.W.mroIn K D (.type "object")=some true
 cl:(PySem.W.clsIn K D).isSome=true
theorem Jl:Slot "BaseException" "__getattribute__" "BaseException.__getattribute__" :=
 .of (owner := "BaseException") (n := "__getattribute__") (by rw[typeLookup_type,builtinLookup_eq_fast];kernel_rfl) (by decide +kernel) (by decide +kernel) (by decide +kernel)
  (by first | exact .inl (by decide +kernel) | exact .inr (by decide +kernel)) (by rw[isSubtype_type];kernel_rfl)
section
variable {prog:Program}{w:World}{A:Around}{E:Value->Shared->Prop}{h:Heap}{g:Array GenState}{d:Drawn}{t:Nat}{os:OsState}{a D:Addr}{o:Obj}{K:Frag}
theorem za9 {tk:Tok}{Q:Fin->Shared->Prop}(X:K.In h)(c:zgK K D)(I:PySem.W.InstAt h a o D none)(hq:Q (.done (.ret (.ref D))) ⟨h,g,d,t,os⟩) :
  wpAny (model prog w) A (Builtin.«object.__getattribute__» ⟨[.ref a,.str "__class__" tk],[]⟩) Q E ⟨h,g,d,t,os⟩:=by
 have hT5:(⟨h,g,d,t,os⟩:Shared).TypeIs (.builtin "object.__class__") "getset_descriptor" := F.typeOf_object_class
 have f5:=F.typeOf_object_class
 have f6:=F.slot_gs_get.lookup
 have f7:=F.slot_gs_set.lookup
 have hx:=I.at_
 have hc:=I.cls
 have L1:=PySem.W.looks_findIn (M:=model prog w) X c.ca
 repeat (any_goals (first | assumption | (with_reducible refine wpAny_loadPart_at hx ?_;rw[hc]) | with_reducible refine L1.at ?_ | wp_step))
 refine PySem.W.class_get (s:=⟨h,g,d,t,os⟩) X I c.ob ?_
 repeat (any_goals (first | assumption | wp_step))
theorem zft {M:Model}{nameV:Value}{Q:Unit->Shared->Prop}(X:K.In h)(c:zgK K D)(I:PySem.W.InstAt h a o D none)(hq:Q () ⟨h,g,d,t,os⟩):wpAny M A (checkBuiltinCall "BaseException.__getattribute__" ⟨[.ref a,nameV],[]⟩) Q E ⟨h,g,d,t,os⟩:=by
 have hk:builtinKind "BaseException.__getattribute__"=some .slot:=by decide +kernel
 have hsplit:splitId "BaseException.__getattribute__"=some ("BaseException", "__getattribute__"):=by decide +kernel
 have ha:=F.args_bexc_ga (.ref a) nameV
 have hx:=I.at_
 have hc:=I.cls
 have L1:=PySem.W.looks_mroIn (M:=M) X c.bx
 simp only[checkBuiltinCall,hk,hsplit]
 refine wpAny_bind ?_
 ·unfold isInstance
  repeat (first | (with_reducible refine wpAny_loadPart_at hx ?_;rw[hc]) | with_reducible refine L1.at ?_ | wp_step)
  exact hq
theorem zcy {tk:Tok}{R:Result->Shared->Prop}(X:K.In h)(c:zgK K D)(I:PySem.W.InstAt h a o D none)(hq:R (.ok (.ret (.ref D))) ⟨h,g,d,t,os⟩) :
  codeAny (model prog w) A (.call (.builtin "BaseException.__getattribute__") ⟨[.ref a,.str "__class__" tk],[]⟩) R ⟨h,g,d,t,os⟩ :=
 codeAny_call_builtin Jl.plain F.entry_bexc_ga (zft X c I (za9 X c I hq))
theorem zfu {tk:Tok}{Q:Value->Shared->Prop}(X:K.In h)(c:zgK K D)(I:PySem.W.InstAt h a o D none)(hq:Q (.ref D) ⟨h,g,d,t,os⟩):wpAny (model prog w) A (getAttrBy (.ref a) (.str "__class__" tk) false) Q E ⟨h,g,d,t,os⟩:=by
 have f3:=Jl.bind (.ref a)
 have hx2:(Value.builtin "BaseException.__getattribute__" == Value.builtin "object.__getattribute__")=false:=by decide +kernel
 have hx1:(onTheHeap (Value.ref D)&&Value.builtin "BaseException.__getattribute__" == Value.builtin "object.__getattribute__")=false:=by rw[hx2];rfl
 have hx:=I.at_
 have hc:=I.cls
 have L1:=PySem.W.looks_findIn (M:=model prog w) X c.ga
 have L2:=PySem.W.looks_findIn (M:=model prog w) X c.gt
 repeat (any_goals (first | assumption | (with_reducible refine wpAny_loadPart_at hx ?_;rw[hc]) | with_reducible refine L1.at ?_ | with_reducible refine L2.at ?_ | wp_step))
 refine zcy X c I ?_
 repeat (any_goals (first | assumption | wp_step))
theorem zcz {Q:Option Value->Shared->Prop}(X:K.In h)(c:zgK K D)(I:PySem.W.InstAt h a o D none)(hq:Q (some (.ref D)) ⟨h,g,d,t+1,os⟩):wpAny (model prog w) A (getAttr? (.ref a) "__class__") Q E ⟨h,g,d,t,os⟩:=by
 unfold getAttr? getAttrBy?
 repeat (any_goals (first | assumption | with_reducible apply zfu X c I | wp_step))
end
theorem zmo {K:Frag}{a D:Addr}(c:zgK K D):PySem.W.KitX K (.ref a) (.ref D) (fun h=>∃o,PySem.W.InstAt h a o D none) where
 ty:=fun _ _ _ ⟨_,I⟩=>I.type
 it:=fun _ _ X _=>by
  obtain⟨cdD,hcD⟩:=Option.isSome_iff_exists.mp c.cl
  unfold PySem.W.clsIn at hcD
  split at hcD
  ·rename_i c' d' cd' sl' ho
   intro A' Q' E' s' k q
   unfold isType loadHead
   exact wpAny_bind (wpAny_loadPart (k _ _ (X _ _ ho)) (wpAny_pure q))
  ·cases hcD
 ne:=fun h tp dd its n sl X htp=>by
  obtain⟨cdD,hcD⟩:=Option.isSome_iff_exists.mp c.cl
  refine Bool.eq_false_iff.mpr fun q=>?_
  have e:D=tp:=Value.ref.inj (beq_iff_eq.mp q)
  subst e
  unfold PySem.W.clsIn at hcD
  split at hcD
  ·rename_i c' d' cd' sl' ho
   have z:=(X _ _ ho).symm.trans htp
   cases z
  ·cases hcD
 ca:=fun {_ _ _ _ _ s} X ⟨o,I⟩ k=>by
  obtain⟨h,g,d,t,os⟩:=s
  exact zcz X c I k
def zdo (a D:Addr):HO:=.ext fun h=>∃o vs,PySem.W.InstAt h a o D none/\o.data=.fields vs/\vs[2]?=some .none
theorem InstAt.none_ {h:Heap}{a D:Addr}{o:Obj}(e:h.get? a=some o)(hc:o.cls=.ref D)(hd:o.dict=none)(hn:PySem.W.notCls o=true):PySem.W.InstAt h a o D none :=
 ⟨e,hc,hn,by rw[hd];trivial⟩
theorem zn4 {P:Program}{w:World}{H:Hp}{h:Heap}{a D:Addr}(hx:zaq h a (.ref D)):wU P w H h a (zdo a D):=by
 obtain⟨oe,vs,he,hc,hdn,hd,h2,_⟩:=hx
 refine⟨⟨oe,vs,InstAt.none_ he hc hdn ?_,hd,h2⟩,⟨_,he⟩,fun h1 h2 ⟨o,vs,I,q1,q2⟩ k=>⟨o,vs,⟨k o I.at_,I.cls,I.no,?_⟩,q1,q2⟩⟩
 ·obtain⟨c,dd,dt,sl⟩:=oe
  cases hd
  rfl
 ·have:=I.dict
  revert this
  cases o.dict<;>exact fun z=>z
theorem Rd.exc {P:Program}{w:World}{H:Hp}{h:Heap}{a D:Addr}(ok:Qd P w H h)(e:H a=some (zdo a D)):∃o vs,PySem.W.InstAt h a o D none/\o.data=.fields vs/\vs[2]?=some .none:=(ok a _ e).1
structure Fly (X:Cx)(pins:List (Addr×Obj))(H:Hp)(s:Shared)(a:Addr)(cls:Value):Prop where
 exc:zaq s.heap a cls
 hn:H a=none
 s0:X.s₀.heap.get? a=none
 loc:a≠X.env.locals
 cell:∀x c,X.env.cells.lookup x=some c->c≠a
 pin:∀p∈X.pn++pins,p.1≠a
 st:a∉frs X.stack
section
variable {X:Cx}{pins:List (Addr×Obj)}{σ:St}{H H':Hp}{s s':Shared}{a:Addr}{cls:Value}
theorem Inv.fly (I:Inv X pins σ H s)(hex:X.ex=[])(hn:s.heap.get? a=none)(hn':H' a=none)(hx:zaq s'.heap a cls):Fly X pins H' s' a cls where
 exc:=hx
 hn:=hn'
 s0:=I.fresh0 hex hn
 loc:=fun z=>by
  obtain⟨m,⟨o,_,_,ho,_⟩,_⟩:=I.loc
  rw[<-z,hn] at ho;cases ho
 cell:=fun x c e z=>by
  obtain⟨v,o,ho,_⟩:=I.cell x c e
  rw[z,hn] at ho;cases ho
 pin:=fun p hp z=>by
  have:=(I.pin p hp).1
  rw[z,hn] at this;cases this
 st:=fun z=>by
  obtain⟨_,o,ho,_⟩:=I.stack.mem z
  rw[hn] at ho;cases ho
theorem Inv.left {h':Heap}(I:Inv X pins σ H s)(f:Fly X pins H s a cls)(lf:zjB X.stack a cls s.heap h'):Inv X pins σ H { s with heap:=h' }:=by
 have nst:∀b,b≠X.env.locals->b∉X.fs->b∉frs X.stack:=fun b h1 h2 z=>(List.mem_cons.mp (I.zbM b z)).elim h1 h2
 have upto:∀b o,s.heap.get? b=some o->b≠a->∃sl,h'.get? b=some { o with slots:=sl }:=fun b o e ne=>by
  by_cases z:b∈frs X.stack
  ·exact lf.slot b o e z ne
  ·exact⟨o.slots,lf.keep b o e z ne⟩
 have cellK:∀x c,X.env.cells.lookup x=some c->∀v,s.heap.IsCell c v->h'.IsCell c v:=fun x c e v ⟨o,ho,hd⟩=>by
  obtain⟨sl,q⟩:=upto c o ho (f.cell x c e)
  exact⟨_,q,hd⟩
 have ne0:∀b o,X.s₀.heap.get? b=some o->b≠a:=fun b o e z=>by rw[z,f.s0] at e;cases e
 refine⟨I.ok,I.os,I.bare,⟨fun b o e n hb hx=>?_,fun b o e n hb hx=>?_,I.base.free,fun b o e hx=>?_,I.base.tups,I.base.Ku,I.base.J0⟩,?_,fun x c e=>?_,I.free,I.Wc,fun p hp=>?_,fun b u e=>?_,I.len⟩
 ·exact lf.keep b o (I.base.keep b o e n hb hx) (nst b (zyj (zyd (zyb e) I.ok.above)) hb) (ne0 b o e)
 ·obtain⟨sl,e1⟩:=I.base.slot b o e n hb hx
  obtain⟨sl2,e2⟩:=upto b _ e1 (ne0 b o e)
  exact⟨sl2,e2⟩
 ·obtain⟨o',e1⟩:=I.base.there b o e hx
  obtain⟨sl2,e2⟩:=upto b _ e1 (ne0 b o e)
  exact⟨_,e2⟩
 ·obtain⟨m,⟨o,es,ep,ho,r⟩,hl⟩:=I.loc
  obtain⟨sl,q⟩:=upto _ o ho (Ne.symm f.loc)
  refine⟨m,⟨_,es,ep,q,r⟩,fun i x v e1 e2 e3=>?_⟩
  obtain⟨u,r,l⟩:=hl i x v e1 e2 e3
  refine⟨u,r,?_⟩
  rcases l with l | ⟨k,c,e,z⟩
  ·exact .inl l
  ·exact .inr ⟨k,c,e,cellK x c e _ z⟩
 ·obtain⟨v,z⟩:=I.cell x c e
  exact⟨v,cellK x c e v z⟩
 ·obtain⟨e,n,ne,nf,d⟩:=I.pin p hp
  exact⟨lf.keep p.1 p.2 e (nst p.1 ne nf) (f.pin p hp),n,ne,nf,d⟩
 ·have tr:∀b u,H b=some u->b∉frs X.stack/\b≠a:=fun b u e=>⟨(fun z=>by rw[I.zbp b z] at e;cases e),(fun z=>by rw[z,f.hn] at e;cases e)⟩
  refine(I.hok b u e).stay (fun c v hc q=>?_) (fun c q=>q) fun c xs q=>q
  rcases hc with rfl | hc
  ·exact lf.keep _ v q (tr _ u e).1 (tr _ u e).2
  ·exact lf.keep _ v q (tr _ _ hc).1 (tr _ _ hc).2
theorem Inv.zpQ {D:Addr}(I:Inv X pins σ H s)(f:Fly X pins H s a (.ref D)):Inv X pins σ (upd H a (zdo a D)) s:=by
 have ne0:∀b o,X.s₀.heap.get? b=some o->b≠a:=fun b o e z=>by rw[z,f.s0] at e;cases e
 have neH:∀b u,H b=some u->b≠a:=fun b u e z=>by rw[z,f.hn] at e;cases e
 refine⟨I.ok,I.os,I.bare,⟨I.base.keep,I.base.slot,fun b o e n hx=>?_,I.base.there,fun b xs e=>?_,fun b o u e=>?_,fun b ps e=>?_⟩,I.loc,I.cell,?_,fun x c e=>?_,fun p hp=>?_,fun b u e=>?_,I.len⟩
 ·rw[zG (ne0 b o e)];exact I.base.free b o e n hx
 ·have:=I.base.tups b xs e
  rw[zG (neH b _ this)];exact this
 ·have:=I.base.Ku b o u e
  rw[zG (neH b _ this)];exact this
 ·obtain⟨m,this⟩:=I.base.J0 b ps e
  exact⟨m,by rw[zG (neH b _ this)];exact this⟩
 ·rw[zG (Ne.symm f.loc)];exact I.free
 ·rw[zG (f.cell x c e)];exact I.Wc x c e
 ·obtain⟨e,n,ne,nf,d⟩:=I.pin p hp
  exact⟨e,by rw[zG (f.pin p hp)];exact n,ne,nf,d⟩
 ·by_cases z:b=a
  ·subst z
   rw[zj] at e;cases e
   exact zn4 f.exc
  ·rw[zG z] at e
   refine(I.hok b u e).stay (fun c v _ q=>q) (fun c q=>?_) fun c xs q=>?_
   ·rw[zG (neH c _ q)];exact q
   ·rw[zG (neH c _ q)];exact q
end
abbrev XR:=Value->St->Hp->Prop
def XP (X:Cx)(pins:List (Addr×Obj))(R:XR)(e:Value)(s':Shared):Prop:=∃a cls σ H',e=.ref a/\Inv X pins σ H' s'/\Fly X pins H' s' a cls/\R cls σ H'
abbrev TEx:=St->Hp->VK->(Value->Hp->Prop)->Prop
abbrev TSx:=Ends->XR->St->Hp->Prop
def PEx (X:Cx)(e:Expr)(t:TEx):Prop :=
 ∀(pins:List (Addr×Obj)) (s:Shared) (σ:St) (H:Hp) (Q:VK) (R:Value->Hp->Prop),Inv X pins σ H s->t σ H Q R->wpAny (model X.prog X.w) X.A (eval e X.env) (EP X pins σ Q) (XP X pins fun cls σ' H'=>σ'=σ/\R cls H') s
def zpS (X:Cx)(st:Stmt)(t:TSx):Prop :=
 ∀(pins:List (Addr×Obj)) (s:Shared) (σ:St) (H:Hp) (D:Ends) (R:XR),Inv X pins σ H s->t D R σ H->wpAny (model X.prog X.w) X.A (exec st X.env) (SP X pins D) (XP X pins R) s
def PSx (X:Cx)(st:List Stmt)(t:TSx):Prop :=
 ∀(pins:List (Addr×Obj)) (s:Shared) (σ:St) (H:Hp) (D:Ends) (R:XR),Inv X pins σ H s->t D R σ H->wpAny (model X.prog X.w) X.A (execs st X.env) (SP X pins D) (XP X pins R) s
section
variable {X:Cx}{e:Expr}{te:TE}{tx:TEx}{st:Stmt}{rest:List Stmt}{ts:TS}{t u:TSx}{pos pos':Pos}
def zrv (tx:TEx):TSx:=fun D R σ H=>tx σ H (fun _ H1=>D.nx σ H1) fun cls H'=>R cls σ H'
theorem zrw (he:PEx X e tx)(hs:swapsWith e none pos.line X.env=pure false:=by rfl):zpS X (.Expr e pos) (zrv tx):=by
 intro pins s σ H D R I h
 refine wpAny_Expr_any (wpAny_mono (he pins s σ H _ _ I h) (fun v s1 ⟨x,H1,I1,r1,q1⟩=>⟨σ,H1,I1,q1⟩) fun v s1 ⟨a,cls,σ',H',e1,I1,f,e2,q⟩=>?_) I.quiet hs
 subst e2
 exact⟨a,cls,_,H',e1,I1,f,q⟩
def ztI (i:Nat)(tx:TEx):TSx:=fun D R σ H=>tx σ H (fun v H1=>D.nx (σ.set i (some v)) H1) fun cls H'=>R cls σ H'
theorem zn5 {i:Nat}{x:Str}(hN:X.N.Nodup)(hi:X.N[i]?=some x)(hx:Loc X.env.scope x)(he:PEx X e tx)(hs:swapsWith e (some (.Name x pos')) pos.line X.env=pure false:=by rfl)(hf:X.fn x=true\/X.env.scope.names.lookup x=some .local:=by first | exact .inl rfl | exact .inr rfl | assumption) :
  zpS X (.Assign [.Name x pos'] e pos) (ztI i tx):=by
 intro pins s σ H D R I h
 refine wpAny_Assign_Name (wpAny_mono (he pins s σ H _ _ I h) (fun v s1 ⟨y,H1,I1,r1,q1⟩=>?_) fun v s1 ⟨a,cls,σ',H',e1,I1,f,e2,q⟩=>?_) hs
 ·exact Vn I1 hN hi hx r1 (fun s2 I2=>⟨_,H1,I2,q1⟩) hf
 ·subst e2
  exact⟨a,cls,_,H',e1,I1,f,q⟩
theorem zmp (h1:zpS X st t):PSx X [st] t:=by
 intro pins s σ H D R I h
 refine wpAny_execs_cons (vJ (h1 pins s σ H D R I h) fun f s1 q=>?_)
 cases f with
 | next=>exact wpAny_execs_nil q
 | ret v=>exact q
 | brk=>exact q
 | cont=>exact q
end
section
variable {X:Cx}{k:Nat}{f C:Addr}{fd:FuncData}{ps:List Str}{sp:Sp}{Qv:List V}{ds:List Value}{x m:Str}{p pos apos:Pos}{e o:Expr}{es:List Expr}{ta:TE}{t:TA}
theorem zrx {pins:List (Addr×Obj)}{σ:St}{H:Hp}{s s':Shared}{ev:Value}{R:Value->Hp->Prop}(hex:X.ex=[])(I:Inv X pins σ H s)(h:CXE X.prog X.w X.stack H s (fun cls _ H'=>R cls H') ev s') :
  XP X pins (fun cls σ' H'=>σ'=σ/\R cls H') ev s':=by
 obtain⟨a,cls,H',rfl,os,bare,un,hok,ha,hn,hx,hE⟩:=h
 exact⟨a,cls,σ,H',rfl,I.call' (s':=s') (ch:=[]) os un hok bare (fun b z=>absurd z (by simp)),I.fly hex ha hn hx,rfl,hE⟩
theorem zn6 {pins:List (Addr×Obj)}{σ:St}{H:Hp}{s:Shared}{Q:VK}{R:Value->Hp->Prop}{us:List Value}{vs:List V}(F:zB X.prog X.w X.K X.mg X.base (CXE X.prog X.w) k f fd ps sp)(hr:tZ k X.A)(hb:Binds X.K fd ps ds)(hd:Vals Qv ds)(hex:X.ex=[])
  (I:Inv X pins σ H s)(r:Vals vs us)(h:sp (vs++Qv) H Q fun cls _ H'=>R cls H'):wpAny (model X.prog X.w) X.A (call (.ref f) us) (EP X pins σ Q) (XP X pins fun cls σ' H'=>σ'=σ/\R cls H') s:=by
 have r2:Vals (vs++Qv) (us++ds):=r.append hd
 have hl:(us++ds).length=ps.length:=by rw[<-r2.length];exact F.len _ _ _ _ h
 refine wpAny_call (codeAny_mono (F.run X.A X.stack s H ⟨us,[]⟩ (us++ds) (vs++Qv) Q _ hr I.env0 (hb s us I.Mi hl) r2 h) fun r s' hq=>?_)
 cases r with
 | error e=>exact zrx hex I hq
 | ok fl =>
  cases fl with
  | ret u=>exact I.after hq
  | next=>exact False.elim hq
  | brk=>exact False.elim hq
  | cont=>exact False.elim hq
def zry (sp:Sp)(Qv:List V)(t:TA):TEx:=fun σ H Q R=>t σ H fun vs H1=>sp (vs++Qv) H1 Q fun cls _ H'=>R cls H'
theorem zmq {α:Type}{pins:List (Addr×Obj)}{σ:St}{H:Hp}{s:Shared}{Qn:List V->Hp->Prop}{Q:List Value->Shared->Prop}{E:Value->Shared->Prop}{cpos:Pos}(ha:PA X.nox es t)(I:Inv X pins σ H s)(h:t σ H Qn)
  (hf:∀us s1 vs H1,Inv X pins σ H1 s1->Vals vs us->Qn vs H1->Q us s1):wpAny (model X.prog X.w) X.A (spliced (backTo cpos (starEach es X.env))) Q E s :=
 wpAny_mono (ha cpos pins s σ H Qn (I.wish _) h) (fun us s1 ⟨vs,H1,I1,r,q⟩=>hf us s1 vs H1 I1.Ri r q) fun _ _ z=>False.elim z
theorem zmr (F:zB X.prog X.w X.K X.mg X.base (CXE X.prog X.w) k f fd ps sp)(hr:tZ k X.A)(hg:Gl X x)(hm:X.mg x=some (.ref f))(hk:PySem.W.keepIn X.K (.ref f)=true)(hb:Binds X.K fd ps ds)(hd:Vals Qv ds)(hex:X.ex=[])
  (ha:PA X.nox (e::es) t)(hdb:(x==("__debug__" : Str))=false:=by decide)(he:starEach (e::es) X.env=(false,eval e X.env)::starEach es X.env:=by rfl)(hpl:(backTo pos (starEach es X.env)).any (·.1)=false:=by rfl) :
  PEx X (.Call (.Name x p) (e::es) [] pos) (zry sp Qv t):=by
 intro pins s σ H Q R I h
 refine wpAny_Call_Name_kw (Rg I hg hm ?_ hdb)
 refine PySem.W.callWith_K (h₀:=X.base) I.ok.mod.kin hk (zmq (α:=Unit) ha I h fun us s1 vs H1 I1 r q=>⟨I1.Mi,?_⟩) he hpl
 exact zn6 F hr hb hd hex I1 r q
end
abbrev Cx.suite (X:Cx)(a:Addr):Cx:={ X with A:=X.A.mark (some (.ref a)),calm:=false,xe:=fun _ _=>False }
section
variable {X:Cx}{pins:List (Addr×Obj)}{σ:St}{H:Hp}{s:Shared}{a:Addr}
theorem Inv.suite (I:Inv X pins σ H s)(a:Addr):Inv (X.suite a) pins σ H s :=
 ⟨⟨I.ok.mod,I.ok.kind,I.ok.glob,I.ok.blt,I.ok.above,I.ok.inj,I.ok.has,I.ok.cab,(fun z=>nomatch z),I.ok.frames,I.ok.stk,I.ok.exf,I.ok.bs,I.ok.bsz,I.ok.zf4,I.ok.zf5,I.ok.Mh,I.ok.frf⟩,I.os,I.bare,I.base,I.loc,I.cell,I.free,I.Wc,I.pin,I.hok,I.len⟩
theorem Inv.zn7 (ok:X.Ok)(I:Inv (X.suite a) pins σ H s):Inv X pins σ H s :=
 ⟨ok,I.os,I.bare,I.base,I.loc,I.cell,I.free,I.Wc,I.pin,I.hok,I.len⟩
theorem zn8 {M:Model}{A:Around}{E:Value->Shared->Prop}{i:Nat}{n:Str}{pos:Pos}{Q:Unit->Shared->Prop}(I:Inv X pins σ H s)(hN:X.N.Nodup)(hi:X.N[i]?=some n)(hk:X.env.kindOf n=some .local)
  (h:∀s',Inv X pins (σ.set i none) H s'->Q () s'):wpAny M A (do bindName X.env n .none;unbindBehindTheSuite X.env n pos) Q E s:=by
 obtain⟨m,hn,hl⟩:=id I.loc
 have hcls:(X.env.scope.kind==.class||(X.env.scope.kind==.module&&X.env.locals != X.env.globals))=false:=by rw[I.ok.kind];rfl
 have hiσ:i < σ.length:=by rw[I.len];exact(zx7.mp hi).1
 have cne:=I.cne
 refine wpAny_nameGoes_keeps hk hn hcls fun h' v hn' hs=>?_
 obtain⟨oL,_,_,hoL,_⟩:=id hn
 have hok:Qd X.prog X.w H h':=fun b ob e=>by
  refine(I.hok b ob e).stay (fun c w' hc q=>(hs.2 c ?_).trans q) (fun _ q=>q) fun _ _ q=>q
  rintro rfl
  rcases hc with z | hc
  ·rw[<-z,I.free] at e;cases e
  ·rw[I.free] at hc;cases hc
 refine h _ ⟨I.ok,I.os,I.bare,⟨fun b o e n hb hx=>?_,fun b o e n hb hx=>?_,I.base.free,fun b o e hx=>?_,I.base.tups,I.base.Ku,I.base.J0⟩,⟨_,hn',fun j y v' e1 e2 e3=>?_⟩,fun y c e=>?_,I.free,I.Wc,fun p hp=>?_,hok,by simpa using I.len⟩
 ·exact(hs.2 b (zyj (zyd (zyb e) I.ok.above))).trans (I.base.keep b o e n hb hx)
 ·obtain⟨sl,e1⟩:=I.base.slot b o e n hb hx
  exact⟨sl,(hs.2 b (zyj (zyd (zyb e) I.ok.above))).trans e1⟩
 ·obtain⟨o',e1⟩:=I.base.there b o e hx
  exact⟨o',(hs.2 b (zyj (zyd (zyb e) I.ok.above))).trans e1⟩
 ·by_cases hj:j=i
  ·subst hj
   rw[List.getElem?_set_self hiσ] at e2
   cases e2
  ·rw[List.getElem?_set_ne (Ne.symm hj)] at e2
   obtain⟨u',r',q⟩:=hl j y v' e1 e2 e3
   refine⟨u',r',?_⟩
   rcases q with ⟨k,e⟩ | ⟨k,c,e,z⟩
   ·refine .inl ⟨k,?_⟩
    have:y≠n:=fun e=>hj (zbN hN e1 (e ▸ hi))
    simp[this,e]
   ·exact .inr ⟨k,c,e,z.sameBut hs (cne y c e)⟩
 ·obtain⟨w',z⟩:=I.cell y c e
  exact⟨w',z.sameBut hs (cne y c e)⟩
 ·obtain⟨e,n,ne,nf,d⟩:=I.pin p hp
  exact⟨(hs.2 p.1 ne).trans e,n,ne,nf,d⟩
end
def ztJ (K:Frag)(B:Addr)(i:Nat)(tb:TSx)(ts:Addr->TS):TS:=fun D σ H=>tb D (fun cls σ' H'=>∃C,cls=.ref C/\PySem.W.exmOne K (.ref C) (.ref B)=some true/\∀a,H' a=none ->
 ts a { nx:=fun σ2 H2=>D.nx (σ2.set i none) H2,rt:=D.rt,bk:=fun σ2 H2=>D.bk (σ2.set i none) H2,ct:=fun σ2 H2=>D.ct (σ2.set i none) H2 } (σ'.set i (some (.ref a))) (upd H' a (zdo a C))) σ H
section
variable {X:Cx}{i:Nat}{n y:Str}{B:Addr}{body suite:List Stmt}{b₀:Stmt}{tb:TSx}{ts:Addr->TS}{np hp pos:Pos}
theorem zpT {pins:List (Addr×Obj)}{σ:St}{H:Hp}{s:Shared}{D:Ends}{R:XR}{ev:Value}(hst:X.stack=X.env::X.outer)(hfr:X.env.frame=some X.env.locals)(hs:∀a,PSs (X.suite a) (b₀::suite) (ts a))(hg:Gl X y)(hm:X.mg y=some (.ref B))
  (hN:X.N.Nodup)(hi:X.N[i]?=some n)(hk:X.env.kindOf n=some .local)
  (hx:XP X pins (fun cls σ' H'=>∃C,cls=.ref C/\PySem.W.exmOne X.K (.ref C) (.ref B)=some true/\∀a,H' a=none ->
   ts a { nx:=fun σ2 H2=>D.nx (σ2.set i none) H2,rt:=D.rt,bk:=fun σ2 H2=>D.bk (σ2.set i none) H2,ct:=fun σ2 H2=>D.ct (σ2.set i none) H2 } (σ'.set i (some (.ref a))) (upd H' a (zdo a C))) ev s)
  (hdb:(y==("__debug__" : Str))=false:=by decide) :
  wpAny (model X.prog X.w) X.A (noteFrame ev X.env) (fun _ s₂=>wpAny (model X.prog X.w) X.A (setFlight ev none) (fun _ s₃=>wpAny (model X.prog X.w) X.A (handleBy ev X.env [.ExceptHandler (some (.Name y np)) (some n) (b₀::suite) hp]) (SP X pins D) X.xe s₃) X.xe s₂) X.xe s:=by
 obtain⟨a,cls,σ,H,rfl,I,fl,C,rfl,hex,hq⟩:=hx
 refine zl2 (base:=X.base) (outer:=X.outer) (L:=X.env.locals) (by rw[<-hst];exact I.ok.frames) (by rw[<-hst];exact I.stack) hfr fl.exc fun h' lf=>?_
 rw[<-hst] at lf
 have I1:=I.left fl lf
 have fl1:Fly X pins H { s with heap:=h' } a (.ref C):=⟨lf.exc,fl.hn,fl.s0,fl.loc,fl.cell,fl.pin,fl.st⟩
 refine wpAny_handleBy_cons (codeAny_handlers_test (Rg (X:=X.suite a) (I1.suite a) hg hm ?_ hdb)) (by intro q;cases q)
 have LT:PySem.W.Looks (model X.prog X.w) h' (typeOf (.ref a)) (.ref C):=by
  obtain⟨oe,vs,he,hc,_⟩:=lf.exc
  exact hc ▸ (PySem.W.Looks.ld he).andThen .now
 refine(PySem.W.exm_one I1.Mi LT hex) _ _ _ _ (fun _ _ e=>e) ?_
 refine codeAny_handlers_suite_as ?_
 refine zpG fl1.exc fun h2 k2=>?_
 have I2:Inv X pins σ H { s with heap:=h2 }:=I1.kept (t':=s.toks) fun b u q=>(k2 b).trans q
 have fl2:Fly X pins H { s with heap:=h2 } a (.ref C):=⟨fl1.exc.same k2,fl.hn,fl.s0,fl.loc,fl.cell,fl.pin,fl.st⟩
 have I3:=(I2.zpQ fl2).suite a
 refine Vn (X:=X.suite a) (v:=.ref a) I3 hN hi (.inl hk) rfl (fun s4 I4=>?_) (.inr hk)
 refine wpAny_mono (hs a pins s4 _ _ _ I4 (hq a fl.hn)) (fun f s5 hf=>?_) fun _ _ z=>False.elim z
 have fin:∀{σ2:St} {H2:Hp},Inv (X.suite a) pins σ2 H2 s5->∀Q:Unit->Shared->Prop,(∀s',Inv X pins (σ2.set i none) H2 s'->Q () s')->wpAny (model X.prog X.w) X.A (do bindName X.env n .none;unbindBehindTheSuite X.env n hp) Q X.xe s5 :=
  fun J Q hQ=>zn8 (J.zn7 I.ok) hN hi hk hQ
 cases f with
 | next=>obtain⟨σ2,H2,J,q⟩:=hf;exact fin J _ fun s' I'=>⟨_,_,I',q⟩
 | brk=>obtain⟨σ2,H2,J,q⟩:=hf;exact fin J _ fun s' I'=>⟨_,_,I',q⟩
 | cont=>obtain⟨σ2,H2,J,q⟩:=hf;exact fin J _ fun s' I'=>⟨_,_,I',q⟩
 | ret u=>obtain⟨v,σ2,H2,J,r,q⟩:=hf;exact fin J _ fun s' I'=>⟨v,_,_,I',r,q⟩
theorem zpU (hst:X.stack=X.env::X.outer)(hfr:X.env.frame=some X.env.locals)(hb:PSx X body tb)(hs:∀a,PSs (X.suite a) (b₀::suite) (ts a))(hg:Gl X y)(hm:X.mg y=some (.ref B))
  (hN:X.N.Nodup)(hi:X.N[i]?=some n)(hk:X.env.kindOf n=some .local)(hdb:(y==("__debug__" : Str))=false:=by decide) :
  PS X (.Try body [.ExceptHandler (some (.Name y np)) (some n) (b₀::suite) hp] [] [] pos) (ztJ X.K B i tb ts):=by
 intro pins s σ H D I h
 refine wpAny_Try_except (wpAny_mono (hb pins s σ H _ _ I h) (fun f s1 q=>?_) fun e s1 q=>zpT (σ:=σ) (H:=H) (R:=fun _ _ _=>True) hst hfr hs hg hm hN hi hk q hdb)
 cases f with
 | next=>exact wpAny_execs_nil q
 | ret v=>exact q
 | brk=>exact q
 | cont=>exact q
end
abbrev zkA:List Value:=[.type "ValueError", .type "Exception", .type "BaseException", .type "object"]
def zoO (K:Frag)(C:Addr):Prop:=PySem.W.excIn K C zkA "ValueError.__new__"=true
theorem zn9 {K:Frag}{h:Heap}{C:Addr}{bmB:List Value}{newId:String}(X:K.In h)(q:PySem.W.excIn K C bmB newId=true):∃bm N nm q bs hdct sn sub ab col dd k0 k1 k2 k3 k5 mN,h.get? C=some (excClassObj nm q C N bs bm hdct sn sub ab col dd k0 k1 k2 k3 k5 newId)/\h.Ns N mN/\mN "__init__"=none/\OwnTail h bmB bm:=by
 unfold PySem.W.excIn at q
 split at q
 ·rename_i dd cd sl ho
  split at q
  ·rename_i C' bm k0 k1 k2 k3 n k5 hm hs
   simp only[zyw,beq_iff_eq,Bool.not_eq_true'] at q
   obtain⟨⟨⟨⟨⟨rfl,rfl⟩,hdel⟩,ht⟩,hok⟩,hni⟩:=q
   obtain⟨nm,bs,mro,ns,qn,hd,sn,sub,ab,col,del⟩:=cd
   dsimp only at hm hdel hok hni
   subst hm hdel
   have hsl:sl=#[k0,k1,k2,k3,some (.builtin n),k5]:=by
    obtain⟨l⟩:=sl
    simp only at hs
    rw[hs]
   subst hsl
   exact⟨bm,ns,nm,qn,bs,hd,sn,sub,ab,col,dd,k0,k1,k2,k3,k5,_,X _ _ ho,.of_isNs (PySem.W.isNs_of_in X hok),PySem.W.nsMap_none_of_in X hok hni,PySem.W.tail_of_in X ht⟩
  ·cases q
 ·cases q
theorem wU.get {P:Program}{w:World}{H:Hp}{h:Heap}{a:Addr}{o:HO}(x:wU P w H h a o):∃ob,h.get? a=some ob:=by
 cases o with
 | lst xs=>obtain⟨_,_,_,_,e⟩:=x;exact⟨_,e⟩
 | tup xs=>obtain⟨_,_,_,ob,e,_⟩:=x;exact⟨_,e⟩
 | dK kvs=>obtain⟨_,_,_,_,o,_,_,e,_⟩:=x;exact⟨_,e⟩
 | dT kvs=>obtain⟨_,_,_,_,o,_,_,e,_⟩:=x;exact⟨_,e⟩
 | set S n=>obtain⟨o,_,_,_,e,_⟩:=x;exact⟨_,e⟩
 | ins C dx fs=>obtain⟨_,_,_,e,_⟩:=x;exact⟨_,e⟩
 | own y=>obtain⟨_,e⟩:=x;exact⟨_,e⟩
 | xd fs=>obtain⟨_,⟨_,_,_,e,_⟩,_⟩:=x;exact⟨_,e⟩
 | rng lo hi=>obtain⟨_,_,_,e⟩:=x;exact⟨_,e⟩
 | frz ob u=>obtain⟨e,_⟩:=x;exact⟨_,e⟩
 | tbl ps=>exact⟨_,(show h.get? a=some _ from x)⟩
 | met f y=>exact⟨_,(show h.get? a=some _ from x)⟩
 | ext φ=>obtain⟨_,⟨_,e⟩,_⟩:=x;exact⟨_,e⟩
theorem Qd.off {P:Program}{w:World}{H:Hp}{h:Heap}{a:Addr}(x:Qd P w H h)(e:h.get? a=none):H a=none:=by
 cases q:H a with
 | none=>rfl
 | some u =>
  obtain⟨ob,z⟩:=(x a u q).get
  rw[e] at z;cases z
def Raises (X:Cx)(E:XK):Prop:=∀(pins:List (Addr×Obj)) (σ:St) (H:Hp) (s:Shared) (a:Addr) (cls:Value),Inv X pins σ H s->zaq s.heap a cls->X.s₀.heap.get? a=none->H a=none->E cls none H->X.xe (.ref a) s
def zpV (C:Addr)(E:XK)(t:TA):TS:=fun _ σ H=>t σ H fun vs H1=>vs.length<=sizeLine/\E (.ref C) none H1
theorem zoa {P:Program}{w:World}{K:Frag}{mg:Str->Option Value}{base:Heap}{N:List Str}{qual:Str}{scope:Scope}{f:Addr}{cd:Value}{A:Around}{outer:List Env}{s0:Shared}{H0:Hp}{E:XK} :
  Raises (zaa (CXE P w) P w K mg base N qual scope f cd A outer s0 H0 E) E:=fun pins σ H s a cls I hx ha hn hE=>zoI I hx ha hn hE
section
variable {X:Cx}{C:Addr}{E:XK}{x:Str}{e₀:Expr}{rest:List Expr}{t:TA}{np cpos pos:Pos}
theorem zms (hc:X.calm=true)(hex:X.ex=[])(own:zoO X.K C)(hg:Gl X x)(hm:X.mg x=some (.ref C))(hE:Raises X E)(ha:PA X (e₀::rest) t)
  (hd:(x==("__debug__" : Str))=false:=by decide)(he:starEach (e₀::rest) X.env=(false,eval e₀ X.env)::starEach rest X.env:=by rfl)(hplain:(backTo cpos (starEach rest X.env)).any (·.1)=false:=by rfl) :
  PS X (.Raise (some (.Call (.Name x np) (e₀::rest) [] cpos)) none pos) (zpV C E t):=by
 intro pins s σ H D I h
 obtain⟨tl,N,nm,q,bs,hdct,sn,sub,ab,col,dd,k0,k1,k2,k3,k5,mN,hC,hN,hni,T⟩:=zn9 I.mod.kin own
 have FB:=PySem.F.excBase_ValueError
 refine wpAny_Raise_call_subT (C:=C) (nm:=nm) (q:=q) (N:=N) (bs:=bs) (bm:=tl) (hdct:=hdct) (sn:=sn) (sub:=sub) (ab:=ab) (col:=col) (dd:=dd) (k0:=k0) (k1:=k1) (k2:=k2) (k3:=k3) (k5:=k5)
  FB (mN:=mN) (T.hasType FB.hasBase) (I.ok.hd hc) (by rw[he];show(false||(backTo cpos (starEach rest X.env)).any (·.1))=false;rw[hplain];rfl) hni (Rg I hg hm ⟨rfl,?_⟩ hd)
 have hA:=vJ (ha cpos pins s σ H _ I h) (Q':=fun us s2=>us.length<=sizeLine/\(∀b o,X.base.get? b=some o->s2.heap.get? b=some o)/\∀h' e,Heap.MadeExcOf s2.heap h' e (.ref C) us->X.xe (.ref e) { s2 with heap:=h' }) fun us s2 ⟨vs,H1,I1,r,hl,hq⟩=>by
  refine⟨by rw[<-r.length];exact hl,I1.bk,fun h' e mk=>?_⟩
  obtain⟨t,h1,h2,h3⟩:=mk.there
  have hn:=I1.hok.off mk.new
  exact hE pins σ H1 _ e (.ref C) (I1.kept (t':=s2.toks) mk.keeps) ⟨_,_,h1,rfl,rfl,rfl,by rfl,.inl (by rfl)⟩ (I1.fresh0 hex mk.new) hn hq
 rw[he] at hA ⊢
 exact Calls.evalArgs_plain (wpAny_mono hA (fun vs s₂ h₂=>⟨rfl,h₂.1,h₂.2.1 _ _ hC,hN.keeps h₂.2.1,T.keeps h₂.2.1,h₂.2.2⟩) fun _ _ y=>y)
end
theorem zdp:entryFor table "proto.unchain"=some Builtin.«proto.unchain»:=entryFor_of_tree (by kernel_rfl)
section
variable {prog:Program}{w:World}{A:Around}{E:Value->Shared->Prop}{s:Shared}
theorem zik {it e:Addr}{oe:Obj}{vs:Array Value}{x left step:Int}{Q:Option Value->Shared->Prop}(hh:A.handled=some (.ref e))(he:s.heap.get? e=some oe)(hd:oe.data=.fields vs)(h2:vs[2]?=some .none)
  (hit:IsRangeIter s.heap it x left step)(hleft:left<=0)(hQ:∀h',Heap.ExtBut it s.heap h'->Q none { s with heap:=h' }):wpAny (model prog w) A (pyNext (.ref it)) Q E s:=by
 have hT:s.TypeIs (.ref it) "range_iterator" := ⟨_,hit,rfl⟩
 unfold pyNext
 refine wpAny_bind (wpAny_attempt (wpAny_callSpecial?_slot (name:=Str.ofString "__next__") hT F.slot_range_iterator_next
  (wpAny_call_entry F.slot_range_iterator_next hT F.entry_range_iterator_next ?_ (F.args_range_iterator_next_1 _))))
 show wpAny _ _ (field (.ref it) 0>>=_) _ _ s
 refine wpAny_bind (wpAny_field hit rfl (x:=rawInt x) rfl ?_)
 show wpAny _ _ (field (.ref it) 1>>=_) _ _ s
 refine wpAny_bind (wpAny_field hit rfl (x:=rawInt left) rfl ?_)
 show wpAny _ _ (field (.ref it) 2>>=_) _ _ s
 refine wpAny_bind (wpAny_field hit rfl (x:=rawInt step) rfl ?_)
 show wpAny _ _ (if left<=0 then _ else _) _ _ s
 rw[if_pos hleft]
 refine wpAny_bind (wpAny_rule ?_)
 refine wpAny_bind ?_
 show wpAny _ _ (newExc (.type "StopIteration") []>>=_) _ _ _
 refine wpAny_bind ?_
 simp only[newExc,newTuple]
 refine wpAny_bind (wpAny_newObj_type ?_ (by size_fits))
 refine wpAny_bind (m:=firstArgMember _ _) (wpAny_of_eq (a:=Value.none) (by first | rfl | (simp only[firstArgMember];rfl)) ?_)
 refine wpAny_newObj_type ?_ (by size_fits)
 simp only[raiseNew]
 refine wpAny_bind (wpAny_handled ?_)
 rw[show A.in1.handled=some (.ref e) from hh]
 dsimp only
 have lt:e<s.heap.objs.size:=zyb he
 have ne:(Value.ref e != Value.ref (s.heap.push { cls:=.type "tuple", data:=.seq #[] }).objs.size)=true:=by
  have:e≠(s.heap.push { cls:=.type "tuple", data:=.seq #[] }).objs.size:=by rw[Heap.size_push];exact zyj (Nat.lt_succ_of_lt lt)
  simpa using this
 rw[if_pos ne]
 refine wpAny_bind (wpAny_holding (wpAny_runValue (codeAny_builtin zdp ?_)))
 show wpAny _ _ (field (.ref e) 2>>=_) _ _ _
 refine wpAny_bind (wpAny_field (zya _ (zya _ he)) hd h2 ?_)
 rw[if_pos (by rfl)]
 refine wpAny_bind (wpAny_pure (wpAny_pure ?_))
 refine wpAny_bind (show wpAny _ _ (setField (.ref _) 2 (.ref e)) _ _ _ from wpAny_setField (zyp _ rfl) rfl (by simp;omega) ?_)
 refine wpAny_throw ?_
 refine wpAny_bind (wpAny_isInstance (T := "StopIteration") (b:=true) ⟨_,Heap.get?_update_self _ (zyp _ rfl) (by rfl),rfl⟩ isSubtype_stop ?_)
 refine wpAny_pure (hQ _ fun b o hb q=>?_)
 have hb2:b≠(s.heap.push { cls:=.type "tuple", data:=.seq #[] }).objs.size:=by
  rw[Heap.size_push];exact zyj (Nat.lt_succ_of_lt (zyb q))
 rw[Heap.get?_update_other _ _ (Ne.symm hb2)]
 exact zya _ (zya _ q)
end
abbrev zjO (e:Addr)(X:Cx):Prop:=X.A.handled=some (.ref e)
def zkB (e:Addr)(lo:Int)(n:Nat):It:=⟨fun i _=>i<n,fun i H x H'=>H'=H/\x=.int (lo+i),fun i H=>n<=i/\∃D,H e=some (zdo e D)⟩
theorem zgL {P:Program}{w:World}{K:Frag}{tg:Expr}(e it:Addr)(lo:Int)(n:Nat):Turn P w K tg (zkB e lo n) [it] it (fun i h=>IsRangeIter h it (lo+(i:Nat)*1) ((n:Int)-(i:Nat)) 1) (zjO e) where
 mem:=by simp
 obj:=fun i h st b hb=>by
  have e:b=it:=by simpa using hb
  subst e
  exact⟨_,st,fun v z=>by
   have z':Data.fields _=Data.cell v:=z
   cases z'⟩
 keep:=fun i h h' st k=>k it (by simp) _ st
 item:=by
  intro X hP hw hK hc i pins s σ H E I hf st hg
  subst hP hw hK
  obtain⟨f0,f1,f2,f3,f4,f5⟩:=hf it (by simp)
  refine wpAny_pyNext_range_item st (by have:i<n:=hg;omega) fun h' hit' hs'=>?_
  have I1:Inv X pins σ H { s with heap:=h',toks:=s.toks+1 }:=I.turned (fun b o hb e=>hs'.extBut b o hb e) f0 f1 f3 f4 f5
  have st':IsRangeIter h' it (lo+((i+1:Nat):Int)*1) ((n:Int)-((i+1:Nat):Int)) 1:=by
   have e1:lo+((i+1:Nat):Int)*1=lo+(i:Int)*1+1:=by push_cast;omega
   have e2:(n:Int)-((i+1:Nat):Int)=(n:Int)-(i:Int)-1:=by push_cast;omega
   rw[e1,e2];exact hit'
  refine⟨_,rfl,zdT (s:={ s with heap:=h',toks:=s.toks+1 }) (n := "range_iterator") st' rfl rfl (by decide) ⟨.int (lo+i),H,I1,⟨s.toks,?_⟩,⟨rfl,rfl⟩,st',fun b hb=>(hf b hb).1⟩⟩
  rw[Int.mul_one]
 done:=by
  intro X hP hw hK hc i pins s σ H E I hf st hg
  subst hP hw hK
  obtain⟨f0,f1,f2,f3,f4,f5⟩:=hf it (by simp)
  obtain⟨hn,D,hD⟩:=hg
  obtain⟨oe,vs,J,hd,h2⟩:=Rd.exc I.hok hD
  exact zik hc J.at_ hd h2 st (by omega) fun h' eb=>⟨rfl,I.turned (t':=s.toks) (fun b o hb e=>eb b o hb e) f0 f1 f3 f4 f5⟩
 self:=fun _ _ _ _ _ st h=>wpAny_pyIter_rangeiter st h
section
variable {X:Cx}{tg:Expr}{e:Addr}
theorem zkC {pins:List (Addr×Obj)}{σ:St}{H:Hp}{s:Shared}{R:It->Hp->Prop}{E:Value->Shared->Prop}{lo hi:Int}{t u v:Tok}{tk:Nat}(I:Inv X pins σ H s)(h1:-(2^62)<=lo)(h2:lo<2^62)(h3:-(2^62)<=hi)(h4:hi<2^62)
  (q:R (zkB e lo (hi-lo).toNat) H):wpAny (model X.prog X.w) X.A (pyIter (.ref s.heap.objs.size)) (zo7 (zjO e) X pins σ tg R) E { s with heap:=s.heap.push { cls:=.type "range", data:=.fields #[.int lo t,.int hi u,.int 1 v] },toks:=tk }:=by
 refine wpAny_pyIter_range (IsRange.new ..) (small_one h1 h2 h3 h4) ?_
 have I1:Inv X pins σ H { s with heap:=s.heap.push { cls:=.type "range", data:=.fields #[.int lo t,.int hi u,.int 1 v] },toks:=tk }:=I.kept fun b o e=>zya _ e
 refine⟨(s.heap.push { cls:=.type "range", data:=.fields #[.int lo t,.int hi u,.int 1 v] }).objs.size,[(s.heap.push { cls:=.type "range", data:=.fields #[.int lo t,.int hi u,.int 1 v] }).objs.size],_,_,H,rfl,
  I1.kept (t':=tk) fun b o e=>zya _ e,zgL e _ lo (hi-lo).toNat,?_,fun b hb=>?_,q⟩
 ·have e1:lo+((0:Nat):Int)*1=lo:=by simp
  have e2:(((hi-lo).toNat:Nat):Int)-((0:Nat):Int)=Builtin.Range.rangeSize lo hi 1:=by rw[rangeSize_one];split<;>omega
  show IsRangeIter _ _ (lo+((0:Nat):Int)*1) ((((hi-lo).toNat:Nat):Int)-((0:Nat):Int)) 1
  rw[e1,e2]
  exact zyp _ rfl
 ·have e:b=(s.heap.push { cls:=.type "range", data:=.fields #[.int lo t,.int hi u,.int 1 v] }).objs.size:=by simpa using hb
  subst e
  exact I1.zhB (zyk _) (I1.hok.fresh (zyk _))
def zpW (e:Addr)(ta:TA):TI:=fun σ H R=>ta σ H fun vs H1=>∃j:Int,vs=[.int j]/\-(2^62)<=j/\j<2^62/\R (zkB e 0 j.toNat) H1
theorem zil {a:Expr}{ta:TA}{p pos:Pos}(hg:Gl X "range")(hm:X.mg "range"=none)(ha:PA X [a] ta)(hs:starEach [a] X.env=[(false,eval a X.env)]:=by rfl):PIr (zjO e) X tg (.Call (.Name "range" p) [a] [] pos) (zpW e ta):=by
 intro pins s σ H R I h
 refine Call_ (Ws I hg hm boot_range (PyProof.Rows.callWith_type1 (vJ (ha pos pins s σ H _ I h) fun us s1 ⟨vs,H1,I1,r1,q1⟩=>?_) hs rfl))
 obtain⟨j,e,q1,q2,q⟩:=q1
 subst e
 cases r1 with
 | cons r rr =>
  cases rr
  obtain⟨t,rfl⟩:=r
  exact call_range_1 (zkC I1 (by omega) (by omega) q1 q2 (by simpa using q))
def zrz:V->Value
 | .ref a=>.ref a
 | .ty n=>.type n
 | _=>.none
def ztK:V->Bool
 | .ref _=>true
 | .ty _=>true
 | _=>false
theorem u9 {K:Frag}(hK:X.K=K):Vq X (.builtin "isinstance") (fun xs H Q=>∃a D c b,xs=[.ref a,c]/\H a=some (zdo a D)/\zgK K D/\ztK c=true/\PySem.W.kitOne K (.ref D) (zrz c)=some b/\Q (.bl b) H):=by
 subst hK
 rintro pins s σ H xs us Q I r ⟨a,D,c,b,rfl,ha,cl,ic,ek,q⟩
 cases r with
 | cons r1 r2 =>
  cases r2 with
  | cons r3 r4 =>
   cases r4
   rename_i u1 u2
   obtain⟨o,vs,J,_⟩:=Rd.exc I.hok ha
   have eu1:u1=Value.ref a:=r1
   subst eu1
   have eu:u2=zrz c:=by
    cases c with
    | ref a=>exact r3
    | ty n=>exact r3
    | _=>cases ic
   subst eu
   exact PySem.W.kia_one (zmo cl) I.Mi ⟨o,J⟩ ek (fun z=>nomatch z) fun tk=>⟨.bl b,H,I.tok _,rfl,q⟩
end
structure zaU (k:Nat)(A:Around):Prop where
 gd:A.guards=some []
 dp:A.depth+3*k+5<recursionLimit
 un:A.units+16*k+200<cLine
theorem zaU.of {k:Nat}{A:Around}(r:tZ k A)(v:Option Value):zaU k (A.mark v):=⟨r.gd,r.dp,r.un⟩
structure zeC (P:Program)(w:World)(K:Frag)(mg:Str->Option Value)(base:Heap)(ex:Addr)(k:Nat)(f:Addr)(fd:FuncData)(ps:List Str)(sp:Sp):Prop where
 len:∀vs H Q E,sp vs H Q E->vs.length=ps.length
 run:∀(A:Around) (outer:List Env) (s:Shared) (H:Hp) (args:Args) (us:List Value) (vs:List V) (Q:VK) (E:XK),zaU k A->A.handled=some (.ref ex)->zeO P w K mg base A outer s H->BindsTo s fd args (ps.zip us)->Vals vs us->sp vs H Q E ->
  codeAny (model P w) A (.call (.ref f) args) (CR zX outer P w H s Q E) s
abbrev zjP (P:Program)(w:World)(K:Frag)(mg:Str->Option Value)(base:Heap)(N:List Str)(qual:Str)(scope:Scope)(f:Addr)(cd:Value)(A:Around)(outer:List Env)(s:Shared)(H:Hp)(E:XK):Cx :=
 {zaa zX P w K mg base N qual scope f cd A outer s H E with calm:=false }
theorem zpX {P:Program}{w:World}{K:Frag}{mg:Str->Option Value}{base:Heap}{ex:Addr}{k:Nat}{f:Addr}{name qual:Str}{params:Arguments}{body:List Stmt}{scope:Scope}{dV kV doc pm cdv ct oc:Value}{an od:Option Addr}
  {osl:Array (Option Value)}{N ps:List Str}{sp:Sp}(lk:K.lookup f=some ⟨oc,od,.func (PySem.W.fnOf name qual params body scope dV kV doc pm an cdv ct),osl⟩)(hcd:PySem.W.codeIn K cdv qual=true)(S:zK N ps scope)
  (len:∀vs H Q E,sp vs H Q E->vs.length=ps.length)
  (hbody:∀(A:Around) (outer:List Env) (s:Shared) (H:Hp) (vs:List V) (Q:VK) (E:XK),zaU k (A.deeper (envOfC qual scope s.heap.objs.size f cdv))->A.handled=some (.ref ex)->sp vs H Q E ->
   ∃t,PSs (zjP P w K mg base N qual scope f cdv A outer s H E) body t/\t { nx:=fun _ H'=>Q .non H',rt:=Q } (start N vs) H) :
  zeC P w K mg base ex (k+1) f (PySem.W.fnOf name qual params body scope dV kV doc pm an cdv ct) ps sp:=by
 refine⟨len,fun A outer s H args us vs Q E hr hh e0 hb r hsp=>?_⟩
 have hl:=len _ _ _ _ hsp
 have KX:K.In s.heap:=e0.mod.kin.keeps fun b o e=>(e0.bs b o e).1
 have lim:s.heap.NoLimit:=e0.mod.nolimit.keeps fun b o e=>(e0.bs b o e).1
 have hkind:∀y∈ps.zip us,scope.names.lookup y.1=some .local\/(scope.names.lookup y.1=some .cell/\((cellsFrom (s.heap.objs.size+1) scope.names []).lookup y.1).isSome=true):=fun⟨n,v⟩ hy=>by
  rcases S.par n (zyH hy).1 with q | q
  ·exact .inl q
  ·exact .inr ⟨q,PySem.W.cellsFrom_some _ _ _ (.inl q)⟩
 refine codeAny_call_function (by have:=hr.dp;omega) (KX _ _ lk) rfl S.co S.gen rfl (PySem.W.codeRec_of KX hcd) (hb _ _ _ _ ?_)
 refine wpAny_newFunctionEnv_cells S.kind hkind fun env he s1 x=>?_
 subst he
 refine⟨lim.keeps x.toInCall.keep,codeAny_func ?_⟩
 have hrd:zaU k (A.deeper (envOfC qual scope s.heap.objs.size f cdv)):=⟨hr.gd,by have:=hr.dp;show A.depth+1+3*k+5<_;omega,by have:=hr.un;show A.units+3+16*k+200<_;omega⟩
 obtain⟨t,ht,hq⟩:=hbody A outer s H vs Q E hrd hh hsp
 have e1:zeO P w K mg base { A with handled:=none } outer s H:=⟨e0.frames,e0.mod,e0.bs,e0.bsz,e0.Mh,e0.frf,e0.hok,e0.bare⟩
 have I0:Inv (zaa zX P w K mg base N qual scope f cdv { A with handled:=none } outer s H E) [] (start N vs) H s1:=zd3 S rfl e1 hl r x
 have I:Inv (zjP P w K mg base N qual scope f cdv A outer s H E) [] (start N vs) H s1 :=
  ⟨⟨I0.ok.mod,I0.ok.kind,I0.ok.glob,I0.ok.blt,I0.ok.above,I0.ok.inj,I0.ok.has,I0.ok.cab,(fun z=>nomatch z),I0.ok.frames,I0.ok.stk,I0.ok.exf,I0.ok.bs,I0.ok.bsz,I0.ok.zf4,I0.ok.zf5,I0.ok.Mh,I0.ok.frf⟩,I0.os,I0.bare,I0.base,I0.loc,I0.cell,I0.free,I0.Wc,I0.pin,I0.hok,I0.len⟩
 refine wpAny_mono (ht [] s1 (start N vs) H _ I hq) (fun fl s' hs=>?_) fun e s' hs=>hs
 have fin:∀{σ':St} {H':Hp} {v:V} {u:Value},Inv (zjP P w K mg base N qual scope f cdv A outer s H E) [] σ' H' s'->RelV v u->Q v H'->CE outer P w H s Q u s' :=
  fun {σ' H' v u} J rv q=>⟨v,H',J.os,J.bare,J.base,J.hok,rv,q⟩
 cases fl with
 | ret u =>
  obtain⟨v,σ',H',J,rv,q⟩:=hs
  exact fin J rv q
 | next =>
  obtain⟨σ',H',J,q⟩:=hs
  exact fin (v:=V.non) (u:=Value.none) J rfl q
 | brk =>
  obtain⟨_,_,_,q⟩:=hs
  exact False.elim q
 | cont =>
  obtain⟨_,_,_,q⟩:=hs
  exact False.elim q
theorem Fun.okH {P:Program}{w:World}{K:Frag}{mg:Str->Option Value}{base:Heap}{ex:Addr}{x qual:Str}{st:Stmt}{f:Addr}{fd:FuncData}{N ps:List Str}{k:Nat}{sp:Sp}(F:Fun K x qual st f fd)(S:zK N ps (zx st))(len:∀vs H Q E,sp vs H Q E->vs.length=ps.length)
  (hbody:∀(cdv:Value) (A:Around) (outer:List Env) (s:Shared) (H:Hp) (vs:List V) (Q:VK) (E:XK),zaU k (A.deeper (envOfC qual (zx st) s.heap.objs.size f cdv))->A.handled=some (.ref ex)->sp vs H Q E ->
   ∃t,PSs (zjP P w K mg base N qual (zx st) f cdv A outer s H E) (uo st) t/\t { nx:=fun _ H'=>Q .non H',rt:=Q } (start N vs) H):zeC P w K mg base ex (k+1) f fd ps sp:=by
 obtain⟨oc,od,kV,doc,pm,an,cdv,ct,osl,rfl,lk,hcd⟩:=F.ex
 exact zpX lk hcd S len fun A outer s H vs Q E hr hh hsp=>hbody cdv A outer s H vs Q E hr hh hsp
section
variable {X:Cx}{k:Nat}{f ex:Addr}{fd:FuncData}{ps:List Str}{sp:Sp}{Qv:List V}{ds:List Value}{x:Str}{p pos:Pos}{e:Expr}{es:List Expr}{t:TA}{E:XK}
theorem zmt (F:zeC X.prog X.w X.K X.mg X.base ex k f fd ps sp)(hr:zaU k X.A)(hh:X.A.handled=some (.ref ex))(hg:Gl X x)(hm:X.mg x=some (.ref f))(hk:PySem.W.keepIn X.K (.ref f)=true)(hb:Binds X.K fd ps ds)(hd:Vals Qv ds)
  (ha:PA X (e::es) t)(hdb:(x==("__debug__" : Str))=false:=by decide)(he:starEach (e::es) X.env=(false,eval e X.env)::starEach es X.env:=by rfl)(hpl:(backTo pos (starEach es X.env)).any (·.1)=false:=by rfl) :
  PE X (.Call (.Name x p) (e::es) [] pos) (KJ sp Qv E t):=by
 intro pins s σ H Q I h
 refine wpAny_Call_Name_kw (Rg I hg hm ?_ hdb)
 refine PySem.W.callWith_K (h₀:=X.base) I.ok.mod.kin hk (vJ (ha pos pins s σ H _ I h) fun us s1 ⟨vs,H1,I1,r,q⟩=>⟨I1.Mi,?_⟩) he hpl
 have r2:Vals (vs++Qv) (us++ds):=r.append hd
 have hl:(us++ds).length=ps.length:=by rw[<-r2.length];exact F.len _ _ _ _ q
 refine wpAny_call (codeAny_mono (F.run X.A X.stack s1 H1 ⟨us,[]⟩ (us++ds) (vs++Qv) Q E hr hh I1.env0 (hb s1 us I1.Mi hl) r2 q) fun r s' hq=>?_)
 cases r with
 | error e=>exact hq.elim
 | ok fl =>
  cases fl with
  | ret u=>exact I1.after hq
  | next=>exact False.elim hq
  | brk=>exact False.elim hq
  | cont=>exact False.elim hq
end
theorem zdq:bootBuiltins "ValueError"=some (.type "ValueError"):=by decide +kernel
structure Jm (K:Frag)(C:Addr):Prop where
 cl:(PySem.W.clsIn K C).isSome=true
 ty:PySem.W.typeIn K (.ref C)=some (.type "type")
structure zpY (K:Frag)(B:Addr):Prop where
 cl:(PySem.W.clsIn K B).isSome=true
 ty:PySem.W.typeIn K (.ref B)=some (.type "type")
 bx:PySem.W.mroIn K B (.type "BaseException")=some true
structure LK (K:Frag)(B D:Addr):Prop where
 own:zoO K D
 ga:findIn K (.ref D) "__getattribute__"=some (some (.builtin "BaseException.__getattribute__"))
 gt:findIn K (.ref D) "__getattr__"=some none
 ca:findIn K (.ref D) "__class__"=some (some (.builtin "object.__class__"))
 mro:(PySem.W.clsIn K D).map (·.mro)=some (.ref D::.ref B::zkA)
section
variable {K:Frag}{B C D:Addr}
theorem LK.mroIn (x:LK K B D)(v:Value):PySem.W.mroIn K D v=some ((Value.ref D::.ref B::zkA).contains v):=by
 have m:=x.mro
 unfold PySem.W.mroIn
 cases h:PySem.W.clsIn K D with
 | none=>rw[h] at m;cases m
 | some cd =>
  rw[h] at m
  have e:cd.mro=.ref D::.ref B::zkA:=zyz m
  show(if cd.mro.isEmpty=true then none else some (cd.mro.contains v))=_
  rw[e]
  rfl
theorem LK.ztL (x:LK K B D):zgK K D:=⟨x.ga,x.gt,x.ca,by rw[x.mroIn];rfl,by rw[x.mroIn];rfl,by
 have m:=x.mro
 cases h:PySem.W.clsIn K D with
 | none=>rw[h] at m;cases m
 | some cd=>rfl⟩
theorem zcA (q:Jm K C)(t:Value):PySem.W.kitCls K t (.ref C)=PySem.W.subIn K t (.ref C):=by
 show(if ((PySem.W.clsIn K C).isSome&&PySem.W.typeIn K (.ref C)==some (.type "type"))=true then PySem.W.subIn K t (.ref C) else none)=_
 rw[if_pos (by rw[q.cl,q.ty];rfl)]
theorem zmu:PySem.W.kitOne K (.ref D) (.ref D)=some true:=by
 unfold PySem.W.kitOne
 rw[if_pos (by simp)]
theorem zpZ (x:LK K B D)(q:Jm K C)(h1:D≠C)(h2:B≠C):PySem.W.kitOne K (.ref D) (.ref C)=some false:=by
 unfold PySem.W.kitOne
 rw[if_neg (by simpa using h1),zcA q]
 show PySem.W.mroIn K D (.ref C)=some false
 rw[x.mroIn]
 have e1:(Value.ref C==Value.ref D)=false:=by simpa using Ne.symm h1
 have e2:(Value.ref C==Value.ref B)=false:=by simpa using Ne.symm h2
 rw[List.contains_cons,List.contains_cons,e1,e2]
 rfl
theorem RB (x:LK K B D)(q:Jm K C)(h2:B≠C):PySem.W.kitOne K (.ref D) (.ref C)=some (decide (D=C)):=by
 by_cases z:D=C
 ·subst z;rw[zmu];simp
 ·rw[zpZ x q z h2];simp[z]
theorem zp0 (x:LK K B D):PySem.W.kitOne K (.ref D) (.type "ValueError")=some true:=by
 unfold PySem.W.kitOne
 rw[if_neg (by simp)]
 unfold PySem.W.kitCls
 have h:PySem.W.kitMeta "ValueError"=true:=by decide +kernel
 show(if PySem.W.kitMeta "ValueError"=true then PySem.W.subIn K (.ref D) (.type "ValueError") else none)=_
 rw[if_pos h]
 show PySem.W.mroIn K D (.type "ValueError")=_
 rw[x.mroIn]
 rfl
theorem zp1 (b:zpY K B)(x:LK K B D):PySem.W.exmOne K (.ref D) (.ref B)=some true:=by
 unfold PySem.W.exmOne
 have e:PySem.W.subIn K (.ref B) (.type "BaseException")=some true:=b.bx
 rw[e,if_pos (by rfl),zcA ⟨b.cl,b.ty⟩]
 show PySem.W.mroIn K D (.ref B)=_
 rw[x.mroIn]
 simp
end
theorem zob {K:Frag}{C:Addr}(cl:PySem.W.isClsIn K C=true)(ty:PySem.W.typeIn K (.ref C)=some (.type "type")):Jm K C:=⟨cl,ty⟩
theorem zoc {K:Frag}{C:Addr}(cl:PySem.W.isClsIn K C=true)(ty:PySem.W.typeIn K (.ref C)=some (.type "type"))(bx:PySem.W.mroIn K C (.type "BaseException")=some true):zpY K C:=⟨cl,ty,bx⟩
theorem zod {K:Frag}{B C:Addr}(ow:PySem.W.excIn K C zkA "ValueError.__new__"=true)(ga:findIn K (.ref C) "__getattribute__"=some (some (.builtin "BaseException.__getattribute__")))(gt:findIn K (.ref C) "__getattr__"=some none)(ca:findIn K (.ref C) "__class__"=some (some (.builtin "object.__class__")))(mr:(PySem.W.clsIn K C).map (·.mro)=some (.ref C::.ref B::zkA)):LK K B C:=⟨ow,ga,gt,ca,mr⟩
end L2
namespace uh
open PySem L2 xV
inductive zim (D:Addr)(K:Frag)(vs:List V)(H:Hp)(Q9:VK)(E:XK):Prop
 | mk (l r:Addr) (xs:List V) (ns:List Int) (_:vs=[.ref l,.ref r]) (_:zO K H l xs) (_:zO K H r (ns.map V.int)) (_:ns.length<=1000) (_:Rp xs.length ns=false) (_:∀H',Same H H'->E (.ref D) none H'):zim D K vs H Q9 E
end uh
namespace L2
open PySem PySem.Spec PyProof.Rows
theorem zoe {ex:Addr}{n:Nat}{σ:St}{js:List Nat}{tt:TT}{te:TE}{H:Hp}{Qf:Addr->Hp->List V->Prop}(Pv:Nat->List V->Hp->Prop)(h0:Pv 0 [] H)(hz:n<=sizeLine)(hl:∀i ys H,i<=n->Pv i ys H->ys.length<=i)
  (hx:∀ys H,Pv n ys H->∃D,H ex=some (zdo ex D))
  (hs:∀(i:Nat) ys H (N1:V->Hp->Prop) (N2:Hp->Prop),i<n->Pv i ys H->(∀v H3,Pv (i+1) (ys++[v]) H3->N1 v H3)->(∀H2,Pv (i+1) ys H2->N2 H2) ->
   tt (Wv σ js (some (.int ((0:Int)+i)))) H fun b H2=>if b=true then te (Wv σ js (some (.int ((0:Int)+i)))) H2 N1 else N2 H2)
  (hd:∀ys H p,Pv n ys H->H p=none->Qf p H ys) :
  ∃W:Nat->Nat->List V->Hp->Prop,(∃m,W 0 m [] H)/\∀i m ys H,W i m ys H ->
   ((zkB ex 0 n).stop i H/\∀p,H p=none->Qf p H ys) \/
   ((zkB ex 0 n).go i H/\ys.length<sizeLine/\∀x H',(zkB ex 0 n).JZ i H x H'->tt (Wv σ js (some x)) H' fun b H2 =>
    if b=true then te (Wv σ js (some x)) H2 fun v H3=>∃m',m'<m/\W (i+1) m' (ys++[v]) H3 else ∃m',m'<m/\W (i+1) m' ys H2):=by
 refine⟨fun i m ys H=>m=n-i/\i<=n/\Pv i ys H,⟨n,by simp,zyr _,h0⟩,?_⟩
 rintro i m ys H ⟨rfl,hi,p⟩
 have hy:=hl i ys H hi p
 by_cases hlt:i<n
 ·refine .inr ⟨hlt,by omega,fun x H' y=>?_⟩
  obtain⟨e,y⟩:=y
  subst e y
  exact hs i ys _ _ _ hlt p (fun v H3 p3=>⟨_,Nat.sub_lt_sub_left hlt (Nat.lt_succ_self i),rfl,hlt,p3⟩) (fun H2 p2=>⟨_,Nat.sub_lt_sub_left hlt (Nat.lt_succ_self i),rfl,hlt,p2⟩)
 ·have e:i=n:=by omega
  subst e
  exact .inl ⟨⟨zyk _,hx ys H p⟩,fun q hq=>hd ys H q p hq⟩
end L2
namespace uh
open PySem L2 xV
def U8:List Str:=["order", "mark", "room", "row", "number", "weights", "shares", "cover", "great"]
inductive Jo (K:Frag)(B:Addr)(cs:List Addr)(e:Addr)(vs:List V)(H:Hp)(Q:VK)(E9:XK):Prop
 | mk (D:Addr) (n:Nat) (_:vs=[.ref e]) (_:H e=some (zdo e D)) (_:LK K B D) (_:n<9) (_:cs.map (fun C=>decide (D=C))=(List.range 9).map (fun i=>decide (i=n))) (_:∀(t l:Addr) (H':Hp),Same H H'->H' t=some (.tup [.str "refused", .ref l])->H' l=some (.lst [.str (U8.getD n "")])->Q (.ref t) H'):Jo K B cs e vs H Q E9
inductive zjQ (K:Frag)(vs:List V)(H:Hp)(Q:VK)(E9:XK):Prop
 | mk (t l:Addr) (x:Str) (_:vs=[.ref t,.str x]) (_:H t=some (.tup [.str "refused", .ref l])) (_:zO K H l [.str x]) (_:∀H',Same H H'->Q (.bl true) H'):zjQ K vs H Q E9
theorem zrA {l:List Addr}(h:l.Nodup){n:Nat}{c:Addr}(e:l[n]?=some c):l.map (fun C=>decide (c=C))=(List.range l.length).map (fun i=>decide (i=n)):=by
 obtain⟨hn,rfl⟩:=zx7.mp e
 have p:=List.pairwise_iff_getElem.mp h
 refine List.ext_getElem (by rw[zx4,zx4,zym]) fun i h1 h2=>?_
 rw[zx4] at h1
 rw[List.getElem_map,List.getElem_map,List.getElem_range]
 rcases Nat.lt_trichotomy i n with z | z | z
 ·rw[decide_eq_false (Ne.symm (p i n h1 hn z)),decide_eq_false (zyj z)]
 ·subst z;rw[decide_eq_true rfl,decide_eq_true rfl]
 ·rw[decide_eq_false (p n i hn h1 z),decide_eq_false (Nat.ne_of_gt z)]
end uh
namespace L2
open PySem
theorem zin {t u:TS}{D:Ends}{σ:St}{H:Hp}(M:St->Hp->Prop)(h1:∀N:St->Hp->Prop,(∀ σ' H',M σ' H'->N σ' H')->t { D with nx:=N } σ H)(h2:∀ σ' H',M σ' H'->u D σ' H'):zqI t u D σ H:=h1 _ h2
theorem ifA {c:Bool}{A B:Prop}(e:c=true)(h:A):if c=true then A else B:=by rw[if_pos e];exact h
theorem ifB {c:Bool}{A B:Prop}(e:c=false)(h:B):if c=true then A else B:=by rw[e,if_neg zx8];exact h
end L2
namespace uh
open PySem L2 xV
section
variable {α β:Type}{R S:α->β->Prop}
theorem zgM:∀{xs:List α} {ys:List β} (i:Nat),Paired R xs ys->Paired R (xs.eraseIdx i) (ys.eraseIdx i)
 | [],[],_,.nil=>.nil
 | x::xs,y::ys,0,.cons _ t=>t
 | x::xs,y::ys,i+1,.cons h t=>.cons h (zgM i t)
theorem zbE:∀{xs:List α} {ys:List β} (i:Nat),Paired R xs ys->Paired R (xs.take i) (ys.take i)
 | [],[],_,.nil=>by simp only[List.take_nil];exact .nil
 | x::xs,y::ys,0,.cons _ t=>.nil
 | x::xs,y::ys,i+1,.cons h t=>.cons h (zbE i t)
theorem zfv:∀{xs:List α} {ys:List β} (i:Nat),Paired R xs ys->Paired R (xs.drop i) (ys.drop i)
 | [],[],_,.nil=>by simp only[List.drop_nil];exact .nil
 | x::xs,y::ys,0,.cons h t=>.cons h t
 | x::xs,y::ys,i+1,.cons h t=>zfv i t
end
def U9 (n:Nat)(f g:Nat->Bool):Bool:=(List.range (2^n)).any fun c=>f c&&g c
theorem Jp {n:Nat}{f g:Nat->Bool}:U9 n f g=true↔∃c,c<2^n/\f c=true/\g c=true:=by
 unfold U9
 rw[List.any_eq_true]
 constructor
 ·rintro⟨c,hc,h⟩
  rw[zyw] at h
  exact⟨c,List.mem_range.mp hc,h⟩
 ·rintro⟨c,hc,h⟩
  exact⟨c,List.mem_range.mpr hc,by rw[zyw];exact h⟩
theorem zfw {n N M:Nat}{f g:Nat->Bool}(a:zV n N f)(b:zV n M g):decide (V.int ((N&&&M:Nat):Int)=V.int 0)=!U9 n f g:=by
 cases e:U9 n f g with
 | true =>
  have:=zpP a b (Jp.mp e)
  rw[decide_eq_false fun z=>this (ztC.mp z)]
  rfl
 | false =>
  refine(decide_eq_true ?_).trans rfl
  have z:N&&&M=0:=by
   refine Nat.eq_of_testBit_eq fun c=>?_
   have y:=Jh a b c
   dsimp only at y
   rw[y,Nat.zero_testBit]
   by_cases hc:c<2^n
   ·cases hf:f c with
    | false=>simp
    | true =>
     cases hg:g c with
     | false=>simp
     | true=>rw[Jp.mpr ⟨c,hc,hf,hg⟩] at e;cases e
   ·rw[decide_eq_false hc]
    simp
  rw[z]
  rfl
def wsB (os:List Str)(fs fi fj:Nat->Bool)(rr:List (List Bool)):Bool :=
 !decide (rr.length=0)&&(U9 os.length (hv os (rr.getD 0 [])) fi&&(U9 os.length (hv os (rr.getD (rr.length-1) [])) fj&&(List.range (rr.length-1)).all fun x=>U9 os.length (W0 os fs (hv os (rr.getD x []))) (hv os (rr.getD (x+1) []))))
inductive QW (C:Addr)(K:Frag)(vs:List V)(H:Hp)(Q:VK)(E9:XK):Prop
 | mk (b rl:Addr) (os:List Str) (rs:List Rm) (F:vC) (k i j:Nat) (ps:List Addr) (rr:List (List Bool)) (_:vs=[.ref b,.int (k:Nat),.int (i:Nat),.int (j:Nat),.ref rl]) (_:yD C H b os rs F) (_:yx os) (_:k<rs.length) (_:Vw os rs i) (_:Vw os rs j) (_:H rl=some (.lst (ps.map V.ref))) (_:Paired (QT H) ps rr) (_:(∀r∈rr,r.length=(z9 os).length)) (_:rr.length<=300) (_:∀H',Same H H'->Q (.bl (wsB os (tB rs k) (tB rs i) (tB rs j) rr)) H'):QW C K vs H Q E9
def zmv (D:Addr)(K:Frag):Sp:=fun vs H Q E=>Nu K vs H Q E\/zim D K vs H Q E
inductive zat (C D:Addr)(vs:List V)(H:Hp)(Q9:VK)(E:XK):Prop
 | mk (b rl:Addr) (os:List Str) (rs:List Rm) (F:vC) (k i j:Nat) (ps:List Addr) (rows:List (List Int)) (x:Nat) (bad:List Int) (_:vs=[.ref b,.int (k:Nat),.int (i:Nat),.int (j:Nat),.ref rl]) (_:yD C H b os rs F) (_:yx os) (_:k<rs.length) (_:Vw os rs i) (_:Vw os rs j) (_:H rl=some (.lst (ps.map V.ref))) (_:Paired (fun p (ns:List Int)=>H p=some (.lst (ns.map V.int))) ps rows) (_:∀ns∈rows,ns.length<=1000) (_:rows[x]?=some bad) (_:uh.Rp (z9 os).length bad=false) (_:∀(y:Nat) ns,y<x->rows[y]?=some ns->uh.Rp (z9 os).length ns=true) (_:∀H',Same H H'->E (.ref D) none H'):zat C D vs H Q9 E
def zmw (C D:Addr)(K:Frag):Sp:=fun vs H Q E=>QW C K vs H Q E\/zat C D vs H Q E
inductive zbF (C:Addr)(K:Frag)(vs:List V)(H:Hp)(Q:VK)(E9:XK):Prop
 | good (b rl:Addr) (os:List Str) (rs:List Rm) (F:vC) (k i j:Nat) (ps:List Addr) (rr:List (List Bool)) (_:vs=[.ref b,.int (k:Nat),.int (i:Nat),.int (j:Nat),.ref rl]) (_:yD C H b os rs F) (_:yx os) (_:k<rs.length) (_:Vw os rs i) (_:Vw os rs j) (_:H rl=some (.lst (ps.map V.ref))) (_:Paired (QT H) ps rr) (_:(∀r∈rr,r.length=(z9 os).length)) (_:rr.length<=300) (_:∀H',Same H H'->Q (.bl (wsB os (tB rs k) (tB rs i) (tB rs j) rr)) H'):zbF C K vs H Q E9
 | bad (b rl:Addr) (os:List Str) (rs:List Rm) (F:vC) (k i j:Nat) (ps:List Addr) (rows:List (List Int)) (x:Nat) (bad:List Int) (_:vs=[.ref b,.int (k:Nat),.int (i:Nat),.int (j:Nat),.ref rl]) (_:yD C H b os rs F) (_:yx os) (_:k<rs.length) (_:Vw os rs i) (_:Vw os rs j) (_:H rl=some (.lst (ps.map V.ref))) (_:Paired (fun p (ns:List Int)=>H p=some (.lst (ns.map V.int))) ps rows) (_:∀ns∈rows,ns.length<=1000) (_:rows[x]?=some bad) (_:uh.Rp (z9 os).length bad=false) (_:∀(y:Nat) ns,y<x->rows[y]?=some ns->uh.Rp (z9 os).length ns=true) (_:∀(t l:Addr) (H':Hp),Same H H'->H' t=some (.tup [.str "refused", .ref l])->H' l=some (.lst [.str "row"])->Q (.ref t) H'):zbF C K vs H Q E9
theorem zgN {xs:List Nat}(h:0<xs.length)(r:Int):∃m:Nat,m∈xs/\atI (yd xs) (r%((yd xs).length:Int))=some (.int (m:Nat)):=by
 have ln:(yd xs).length=xs.length:=zx4 _
 have a1:=zyK r (show(0:Int)<(yd xs).length by omega)
 have a2:=zyO r (show((yd xs).length:Int)≠0 by omega)
 obtain⟨j,ej⟩:∃j:Nat,r%((yd xs).length:Int)=(j:Int):=⟨_,(Int.toNat_of_nonneg a2).symm⟩
 rw[ej] at a1 ⊢
 have hj:j<xs.length:=by omega
 exact⟨xs[j],zyM hj,yQ (Rz (zx5 hj))⟩
inductive zfx (vs:List V)(H:Hp)(Q:VK)(E9:XK):Prop
 | mk (cell:Int) (gl pl rl:Addr) (os:List Str) (t p:Nat->Bool) (H0:Hp) (ls qs:List Addr) (_:vs=[.int cell,.ref gl,.ref pl,.ref rl]) (_:GrA os t H0 H gl ls) (_:H pl=some (.lst (yd (chs os p)))) (_:H rl=some (.lst (qs.map V.ref))) (_:Paired (fun q r=>H q=some (.lst (zY r))) qs (allR (z9 os).length)) (_:∀(l:Addr) (zs:List Addr) (rr:List (List Bool)) (H':Hp),Same H H'->H l=none->H' l=some (.lst (zs.map V.ref))->Paired (fun z r=>H z=none/\z≠l/\H' z=some (.lst (zY r))) zs rr->zs.Nodup->(∀r∈rr,r∈allR (z9 os).length)->rr.length<=6->Q (.ref l) H'):zfx vs H Q E9
inductive N5 (vs:List V)(H:Hp)(Q:VK)(E9:XK):Prop
 | none_ (rl:Addr) (cell:Int) (_:vs=[.non,.ref rl,.int cell]) (_:∀(l:Addr) (H':Hp),Same H H'->H l=none->H' l=some (.lst [])->Q (.ref l) H'):N5 vs H Q E9
 | told (tl rl:Addr) (cell:Int) (n:Nat) (H0:Hp) (zs qs:List Addr) (rr:List (List Bool)) (_:vs=[.ref tl,.ref rl,.int cell]) (_:Same H0 H) (_:H0 tl=none) (_:H tl=some (.lst (zs.map V.ref))) (_:Paired (fun z r=>H0 z=none/\z≠tl/\H z=some (.lst (zY r))) zs rr) (_:0<rr.length) (_:rr.length<=300) (_:H rl=some (.lst (qs.map V.ref))) (_:rl≠tl) (_:Paired (fun q r=>q≠tl/\H q=some (.lst (zY r))) qs (allR n)) (_:n<=8) (_:∀(zs':List Addr) (rr':List (List Bool)) (H':Hp),Same H0 H'->H' tl=some (.lst (zs'.map V.ref))->Paired (fun z r=>H0 z=none/\z≠tl/\H' z=some (.lst (zY r))) zs' rr'->(∀r∈rr',r∈rr\/r∈allR n)->rr'.length<=rr.length+1->Q (.ref tl) H'):N5 vs H Q E9
section
variable {os:List Str}{t f g:Nat->Bool}(ho:ug os)(hW:yx os)
include ho hW
theorem zfy {x:Nat}:hv os (Yu os x) (eb os x)=true:=by
 unfold hv hav
 rw[zyy]
 rintro⟨p,b⟩ h
 obtain⟨j,hj⟩:=List.mem_iff_getElem?.mp h
 obtain⟨h1,h2⟩:=List.getElem?_zip_eq_some.mp hj
 unfold yg at h1
 rw[ZX,zx6,zx6] at h1
 cases hn:(nis os)[j]? with
 | none=>rw[hn] at h1;cases h1
 | some i =>
  rw[hn] at h1
  cases h1
  rw[beq_iff_eq]
  show(eb os x).testBit (ix os (yZ i))=b
  have h2:(Yu os x)[j]?=some b:=h2
  rw[QV ho hW hn,zyh,h2]
  rfl
theorem zjR {x:Nat}(hx:x<nM os)(hf:∀p∈zW os,Free os.length f p):U9 os.length (hv os (Yu os x)) f=f (eb os x):=by
 rw[zyL,Jp]
 constructor
 ·rintro⟨c,hc,h1,h2⟩
  rw[<-zoN ho hW hx hc h1 hf]
  exact h2
 ·intro h
  exact⟨eb os x,zez os x,zfy ho hW,h⟩
theorem zmx {x y:Nat}(hx:x<nM os)(hy:y<nM os):U9 os.length (W0 os t (hv os (Yu os x))) (hv os (Yu os y))=gr os t x y:=by
 rw[zyL,Jp]
 constructor
 ·exact zmn ho hW hx hy
 ·intro h
  exact⟨eb os y,zez os y,(zmh ho hW (f:=hv os (Yu os x)) (Jj ho _) y).mpr ⟨x,hx,zfy ho hW,h⟩,zfy ho hW⟩
omit ho hW in
theorem zof:∀(rr:List (List Bool)),(∀r∈rr,r.length=(z9 os).length)->∃hs:List Nat,Paired (fun r x=>x<nM os/\Yu os x=r) rr hs:=by
 intro rr
 induction rr with
 | nil=>intro _;exact⟨[],.nil⟩
 | cons r rr ih =>
  intro h
  obtain⟨hs,p⟩:=ih fun x hx=>h x (zyf _ hx)
  obtain⟨k,hk,e⟩:=zmg (h r zyo)
  exact⟨k::hs,.cons ⟨hk,e⟩ p⟩
def zog (os:List Str)(t f g:Nat->Bool)(hs:List Nat):Bool:=!decide (hs=[])&&((List.range (hs.length-1)).all (fun j=>gr os t (hs.getD j 0) (hs.getD (j+1) 0))&&(f (eb os (hs.getD 0 0))&&g (eb os (hs.getD (hs.length-1) 0))))
theorem zp2 (hf:∀p∈zW os,Free os.length f p)(hg:∀p∈zW os,Free os.length g p){rr:List (List Bool)}{hs:List Nat}(p:Paired (fun r x=>x<nM os/\Yu os x=r) rr hs):wsB os t f g rr=zog os t f g hs:=by
 have l:=yK p
 unfold wsB zog
 by_cases z:hs=[]
 ·subst z
  have:rr.length=0:=l
  rw[decide_eq_true this,decide_eq_true rfl]
  rfl
 have z1:¬rr.length=0:=fun e=>z (List.length_eq_zero_iff.mp (by omega))
 have rp:0<rr.length:=Nat.pos_of_ne_zero z1
 have at':∀{x:Nat},x<rr.length->rr.getD x []=Yu os (hs.getD x 0)/\hs.getD x 0<nM os:=fun {x} h=>by
  have e1:rr[x]?=some rr[x]:=zx5 h
  obtain⟨y,hy,yl,ye⟩:=ZK p e1
  rw[zyh,zyh,e1,hy]
  exact⟨ye.symm,yl⟩
 rw[decide_eq_false z1,decide_eq_false z,(at' rp).1,zjR ho hW (at' rp).2 hf,(at' (x:=rr.length-1) (by omega)).1,zjR ho hW (at' (x:=rr.length-1) (by omega)).2 hg,l]
 have e3:((List.range (hs.length-1)).all fun x=>U9 os.length (W0 os t (hv os (rr.getD x []))) (hv os (rr.getD (x+1) [])))=(List.range (hs.length-1)).all (fun j=>gr os t (hs.getD j 0) (hs.getD (j+1) 0)):=by
  rw[zyL,zyy,zyy]
  refine forall_congr' fun x=>forall_congr' fun hx=>?_
  have hx:=List.mem_range.mp hx
  rw[(at' (x:=x) (by omega)).1,(at' (x:=x+1) (by omega)).1,zmx ho hW (at' (x:=x) (by omega)).2 (at' (x:=x+1) (by omega)).2]
 rw[e3]
 generalize (List.range (hs.length-1)).all (fun j=>gr os t (hs.getD j 0) (hs.getD (j+1) 0))=A
 generalize f (eb os (hs.getD 0 0))=B
 generalize g (eb os (hs.getD (hs.length-1) 0))=D
 cases A<;>cases B<;>cases D<;>rfl
omit hW in
theorem zl3.few {Ns:List Nat}(h:zl3 os t f Ns):Ns.length<=256:=by
 have key:∀i,i<=Ns.length->i<=zkw os t f i:=by
  intro i
  induction i with
  | zero=>intro _;exact zyr _
  | succ i ih =>
   intro hi
   obtain⟨a,b⟩:=h.tab i _ (zx5 (show i<Ns.length by omega))
   have:=zjE a b
   have:=ih (by omega)
   omega
 exact zyq (key _ (zyk _)) (zyq (zfi _ _) (zgj ho.le))
end
structure zkD (C:Addr)(K:Frag)(sc:Addr)(ns:List Int)(bk gl pl ql rl:Addr)(os:List Str)(rs:List Rm)(F:vC)(k i j:Nat)(Hg:Hp)(ls qs:List Addr)(H:Hp):Prop where
 hB:yD C H bk os rs F
 hW:yx os
 hn:0<(z9 os).length
 hS:zO K H sc (ns.map V.int)
 hk:k<rs.length
 hI:Vw os rs i
 hJ:Vw os rs j
 hG:GrA os (tB rs k) Hg H gl ls
 hp:H pl=some (.lst (yd (chs os fun x=>tB rs i (eb os x))))
 hq:H ql=some (.lst (yd (chs os fun x=>tB rs j (eb os x))))
 hR:Mx os H rl qs
theorem zkD.same {C:Addr}{K:Frag}{sc:Addr}{ns:List Int}{bk gl pl ql rl:Addr}{os:List Str}{rs:List Rm}{F:vC}{k i j:Nat}{Hg:Hp}{ls qs:List Addr}{H H':Hp}(h:zkD C K sc ns bk gl pl ql rl os rs F k i j Hg ls qs H)(g:Same H H'):zkD C K sc ns bk gl pl ql rl os rs F k i j Hg ls qs H' :=
 ⟨(yX C).same h.hB g,h.hW,h.hn,g.seq h.hS,h.hk,h.hI,h.hJ,h.hG.same g,g _ _ h.hp,g _ _ h.hq,h.hR.same g⟩
inductive zfz (os:List Str)(H:Hp)(l:Addr):Prop
 | mk (zs:List Addr) (rr:List (List Bool)) (_:H l=some (.lst (zs.map V.ref))) (_:Paired (QT H) zs rr) (_:∀r∈rr,r.length=(z9 os).length) (_:rr.length<=300):zfz os H l
theorem zfz.same {os:List Str}{H H':Hp}{l:Addr}(h:zfz os H l)(g:Same H H'):zfz os H' l:=by
 obtain⟨zs,rr,a,b,c,d⟩:=h
 exact⟨zs,rr,g _ _ a,wG (fun _ _ z=>g _ _ z) b,c,d⟩
theorem zmy {K:Frag}{os:List Str}{H:Hp}{rl:Addr}{ps:List Addr}(R:Mx os H rl ps){w:Addr}{y:Nat}(hw:H w=some (.lst (zY (Yu os y))))(yl:y<nM os):(∀z∈ps.map V.ref,Ks K H 8 z (.ref w) (Jd H (Yu os y) z))/\(ps.map V.ref).findIdx? (fun z=>Jd H (Yu os y) z)=some y:=by
 have pl':=R.len
 have at':∀{j:Nat} {z:V},(ps.map V.ref)[j]?=some z->∃p,z=.ref p/\H p=some (.lst (zY (Yu os j)))/\j<nM os:=fun {j z} hz=>by
  rw[zx6] at hz
  cases hp':ps[j]? with
  | none=>rw[hp'] at hz;cases hz
  | some p =>
   rw[hp'] at hz
   cases hz
   exact⟨p,rfl,(R.at hp').1,(R.at hp').2⟩
 refine⟨fun z hz=>?_,?_⟩
 ·obtain⟨j,hj⟩:=List.mem_iff_getElem?.mp hz
  obtain⟨p,rfl,e,_⟩:=at' hj
  rw[zcn e]
  exact zl0 (zO.of e) (zO.of hw)
 ·rw[List.findIdx?_eq_some_iff_getElem]
  have ly:y<(ps.map V.ref).length:=by rw[zx4];omega
  refine⟨ly,?_,fun j hj=>?_⟩
  ·obtain⟨p,e1,e2,_⟩:=at' (zx5 ly)
   rw[e1,zcn e2]
   exact decide_eq_true rfl
  ·obtain⟨p,e1,e2,jl⟩:=at' (zx5 (Nat.lt_trans hj ly))
   rw[e1,zcn e2]
   simp only[Bool.not_eq_true,decide_eq_false_iff_not]
   exact fun z=>absurd (zjM jl yl z) (by omega)
def zgO (n:Nat)(H:Hp)(x:Addr):Prop:=∃bs:List Int,H x=some (.lst (bs.map V.int))/\bs.length<=1000/\Rp n bs=false
end uh
namespace K76
open PySem L2
def top (i:Nat):Stmt:=PySem.Challenge.pw_decidebook_k76_ways_judged.main.body.getD i (.Pass ⟨0,0,0,0⟩)
abbrev zcB:Stmt:=top 14
abbrev Zd:List Str:=["marks"]
theorem zgP:zK ["marks"] Zd (zx zcB):=fsc (by decide +kernel)
abbrev zaV:Stmt:=top 15
abbrev vf:List Str:=["place", "marks"]
theorem YG:zK ["place", "marks", "half", "table", "further"] vf (zx zaV):=fsc (by decide +kernel)
abbrev zeD:Stmt:=top 16
abbrev Yq:List Str:=["table", "place", "marks"]
theorem LQ:zK ["table", "place", "marks", "ones", "noughts"] Yq (zx zeD):=fsc (by decide +kernel)
abbrev zeE:Stmt:=top 17
abbrev Xi:List Str:=["table", "place", "value", "marks"]
theorem LR:zK ["table", "place", "value", "marks", "ones", "kept"] Xi (zx zeE):=fsc (by decide +kernel)
abbrev zcC:Stmt:=top 18
abbrev Vy:List Str:=["table", "place", "marks"]
theorem zgQ:zK ["table", "place", "marks"] Vy (zx zcC):=fsc (by decide +kernel)
abbrev MF:Stmt:=top 19
abbrev Z0:List Str:=["table", "marks"]
theorem Vz:zK ["table", "marks", "place"] Z0 (zx MF):=fsc (by decide +kernel)
abbrev zeF:Stmt:=top 20
abbrev Xj:List Str:=["table", "other"]
theorem zio:zK ["table", "other"] Xj (zx zeF):=fsc (by decide +kernel)
abbrev MJ:Stmt:=top 21
abbrev XD:List Str:=["places", "values", "marks"]
theorem uy:zK ["places", "values", "marks", "table", "place", "value", "ones"] XD (zx MJ):=fsc (by decide +kernel)
abbrev QX:Stmt:=top 22
abbrev YH:List Str:=["table", "places", "marks"]
theorem vN:zK ["table", "places", "marks", "values", "place", "low", "value"] YH (zx QX):=fsc (by decide +kernel)
abbrev zgR:Stmt:=top 23
abbrev Jq:List Str:=["where", "low", "high"]
theorem zkE:zK ["where", "low", "high"] Jq (zx zgR):=fsc (by decide +kernel)
abbrev zeG:Stmt:=top 29
abbrev Vh:List Str:=["letter"]
theorem ziq:zK ["letter"] Vh (zx zeG):=fsc (by decide +kernel)
abbrev Ka:Stmt:=top 30
abbrev RD:List Str:=["order"]
theorem zgS:zK ["order"] RD (zx Ka):=fsc (by decide +kernel)
abbrev zcD:Stmt:=top 31
abbrev T9:List Str:=["order", "row"]
theorem zkF:zK ["order", "row"] T9 (zx zcD):=fsc (by decide +kernel)
abbrev Jr:Stmt:=top 32
abbrev Zo:List Str:=["sentence"]
theorem zdr:zK ["sentence"] Zo (zx Jr):=fsc (by decide +kernel)
abbrev zcE:Stmt:=top 33
abbrev Ze:List Str:=["sentence"]
theorem zgT:zK ["sentence"] Ze (zx zcE):=fsc (by decide +kernel)
abbrev QZ:Stmt:=top 34
abbrev Zf:List Str:=["level"]
theorem Wx:zK ["level", "found", "sentence"] Zf (zx QZ):=fsc (by decide +kernel)
abbrev Uo:Stmt:=top 35
abbrev Uq:List Str:=["some"]
theorem Js:zK ["some", "shape"] Uq (zx Uo):=fsc (by decide +kernel)
abbrev Tc:Stmt:=top 36
abbrev XF:List Str:=["some"]
theorem vD:zK ["some", "level", "deep", "tuples"] XF (zx Tc):=fsc (by decide +kernel)
abbrev Qh:Stmt:=top 37
abbrev Z8:List Str:=["order"]
theorem zau:zK ["order"] Z8 (zx Qh):=fsc (by decide +kernel)
abbrev VB:Stmt:=top 38
abbrev uR:List Str:=["some"]
theorem Mq:zK ["some"] uR (zx VB):=fsc (by decide +kernel)
abbrev Sd:Stmt:=top 39
abbrev uz:List Str:=["order", "letter"]
theorem Jt:zK ["order", "letter"] uz (zx Sd):=fsc (by decide +kernel)
abbrev Ur:Stmt:=top 40
abbrev tX:List Str:=["order", "sentence"]
theorem VD:zK ["order", "sentence", "letter"] tX (zx Ur):=fsc (by decide +kernel)
abbrev MK:Stmt:=top 41
abbrev v9:List Str:=["order", "row"]
theorem Q5:zK ["order", "row"] v9 (zx MK):=fsc (by decide +kernel)
abbrev zaW:Stmt:=top 42
abbrev Us:List Str:=["sentence"]
theorem W2:zK ["sentence", "found", "level"] Us (zx zaW):=fsc (by decide +kernel)
abbrev Ju:Stmt:=top 43
abbrev W3:List Str:=["sentence"]
theorem Td:zK ["sentence", "found", "part"] W3 (zx Ju):=fsc (by decide +kernel)
abbrev Kc:Stmt:=top 44
abbrev Xk:List Str:=["sentence", "order"]
theorem Ut:zK ["sentence", "order", "word", "marks", "tables"] Xk (zx Kc):=fsc (by decide +kernel)
abbrev Q6:Stmt:=top 45
abbrev uD:List Str:=["word", "one", "other", "every"]
theorem zba:zK ["word", "one", "other", "every"] uD (zx Q6):=fsc (by decide +kernel)
abbrev Uu:Stmt:=top 48
abbrev Yr:List Str:=["book"]
theorem zfA:zK ["book"] Yr (zx Uu):=fsc (by decide +kernel)
abbrev W4:Stmt:=top 49
abbrev W5:List Str:=["book"]
theorem zds:zK ["book"] W5 (zx W4):=fsc (by decide +kernel)
abbrev RG:Stmt:=top 50
abbrev uT:List Str:=["book"]
theorem zdu:zK ["book"] uT (zx RG):=fsc (by decide +kernel)
abbrev Te:Stmt:=top 51
abbrev tD:List Str:=["book"]
theorem zcF:zK ["book"] tD (zx Te):=fsc (by decide +kernel)
abbrev Qi:Stmt:=top 52
abbrev Z9:List Str:=["book"]
theorem Zq:zK ["book", "order", "now", "then"] Z9 (zx Qi):=fsc (by decide +kernel)
abbrev Sg:Stmt:=top 53
abbrev Zr:List Str:=["book", "room"]
theorem Uv:zK ["book", "room", "place"] Zr (zx Sg):=fsc (by decide +kernel)
abbrev Wk:Stmt:=top 54
abbrev xQ:List Str:=["book", "steps", "rooms"]
theorem Xb:zK ["book", "steps", "rooms", "room"] xQ (zx Wk):=fsc (by decide +kernel)
abbrev zjS:Stmt:=top 55
abbrev Jv:List Str:=["book", "steps", "table"]
theorem zcG:zK ["book", "steps", "table", "marks", "led"] Jv (zx zjS):=fsc (by decide +kernel)
abbrev zgU:Stmt:=top 56
abbrev Jw:List Str:=["book", "steps", "table"]
theorem zav:zK ["book", "steps", "table", "marks", "goal"] Jw (zx zgU):=fsc (by decide +kernel)
abbrev zeH:Stmt:=top 57
abbrev Sh:List Str:=["table", "places", "marks"]
theorem Kd:zK ["table", "places", "marks", "place"] Sh (zx zeH):=fsc (by decide +kernel)
abbrev zjT:Stmt:=top 58
abbrev Jx:List Str:=["table", "places", "others", "marks"]
theorem Sq:zK ["table", "places", "others", "marks", "place", "other", "low", "high"] Jx (zx zjT):=fsc (by decide +kernel)
abbrev Q7:Stmt:=top 59
abbrev YJ:List Str:=["book", "steps", "start"]
theorem vO:zK ["book", "steps", "start", "found", "table", "told"] YJ (zx Q7):=fsc (by decide +kernel)
abbrev zgV:Stmt:=top 60
abbrev Jy:List Str:=["book", "steps", "start", "goal"]
theorem N6:zK ["book", "steps", "start", "goal", "ahead", "table", "met"] Jy (zx zgV):=fsc (by decide +kernel)
abbrev MN:Stmt:=top 61
abbrev XH:List Str:=["book", "steps", "ahead", "met"]
theorem VF:zK ["book", "steps", "ahead", "met", "rows", "table"] XH (zx MN):=fsc (by decide +kernel)
abbrev Q8:Stmt:=top 62
abbrev YK:List Str:=["book", "table"]
theorem zbb:zK ["book", "table"] YK (zx Q8):=fsc (by decide +kernel)
abbrev zmz:Stmt:=top 63
abbrev zcH:List Str:=["book", "row"]
theorem zoh:zK ["book", "row"] zcH (zx zmz):=fsc (by decide +kernel)
abbrev Uw:Stmt:=top 64
abbrev Ys:List Str:=["book", "steps", "start", "goal", "rows"]
theorem YL:zK ["book", "steps", "start", "goal", "rows", "row", "tables"] Ys (zx Uw):=fsc (by decide +kernel)
abbrev zaX:Stmt:=inClass (top 66) 0
abbrev Ux:List Str:=["self", "order"]
theorem Jz:zK ["self", "order", "marks"] Ux (zx zaX):=fsc (by decide +kernel)
abbrev JB:Stmt:=inClass (top 66) 1
abbrev yL:List Str:=["self"]
theorem zdv:zK ["self"] yL (zx JB):=fsc (by decide +kernel)
abbrev zgW:Stmt:=inClass (top 66) 2
abbrev zgX:List Str:=["self"]
abbrev JC:Stmt:=inClass (top 66) 3
abbrev W6:List Str:=["self", "sentence"]
theorem zdw:zK ["self", "sentence"] W6 (zx JC):=fsc (by decide +kernel)
abbrev zgY:Stmt:=inClass (top 66) 4
abbrev zgZ:List Str:=["self", "number"]
abbrev WM:Stmt:=inClass (top 66) 7
abbrev wj:List Str:=["self", "number"]
theorem Pa:zK ["self", "number"] wj (zx WM):=fsc (by decide +kernel)
abbrev zbc:Stmt:=inClass (top 66) 8
abbrev zbd:List Str:=["self", "number"]
abbrev zfB:Stmt:=inClass (top 66) 9
abbrev zfC:List Str:=["self", "number", "value"]
abbrev zir:Stmt:=inClass (top 66) 10
abbrev zis:List Str:=["self", "number", "place", "value"]
abbrev Qj:Stmt:=inClass (top 66) 11
abbrev yS:List Str:=["self", "number"]
theorem zaw:zK ["self", "number"] yS (zx Qj):=fsc (by decide +kernel)
abbrev Ss:Stmt:=inClass (top 66) 12
abbrev vp:List Str:=["self", "table"]
theorem vV:zK ["self", "table", "marks", "place", "low", "high"] vp (zx Ss):=fsc (by decide +kernel)
abbrev Qk:Stmt:=top 68
abbrev yU:List Str:=["script", "k"]
theorem Sv:zK ["script", "k"] yU (zx Qk):=fsc (by decide +kernel)
abbrev JD:Stmt:=top 69
abbrev xr:List Str:=["cell", "k", "bound"]
theorem tE:zK ["cell", "k", "bound", "stir", "left", "j"] xr (zx JD):=fsc (by decide +kernel)
abbrev uE:Stmt:=top 70
abbrev uF:List Str:=["script", "at", "many", "order"]
theorem yM:zK ["script", "at", "many", "order", "kinds", "made", "k", "cell", "kind", "one", "other", "letter"] uF (zx uE):=fsc (by decide +kernel)
abbrev JF:Stmt:=top 71
abbrev uU:List Str:=["size"]
theorem tG:zK ["size", "found", "k", "longer", "row"] uU (zx JF):=fsc (by decide +kernel)
abbrev MP:Stmt:=top 72
abbrev uc:List Str:=["sentence", "order", "row"]
theorem vG:zK ["sentence", "order", "row", "word", "one", "other", "at", "low", "high"] uc (zx MP):=fsc (by decide +kernel)
abbrev M4:Stmt:=top 73
abbrev XJ:List Str:=["cell"]
theorem xq:zK ["cell", "first", "size", "names", "found", "k", "later"] XJ (zx M4):=fsc (by decide +kernel)
abbrev Pb:Stmt:=top 74
abbrev wI:List Str:=["order"]
theorem zfD:zK ["order"] wI (zx Pb):=fsc (by decide +kernel)
abbrev RJ:Stmt:=top 75
abbrev YM:List Str:=["order", "row", "other"]
theorem XM:zK ["order", "row", "other", "marks", "values", "k"] YM (zx RJ):=fsc (by decide +kernel)
abbrev M5:Stmt:=top 76
abbrev XQ:List Str:=["sentence", "order"]
theorem uG:zK ["sentence", "order", "rows", "found", "row", "here", "k"] XQ (zx M5):=fsc (by decide +kernel)
abbrev YQ:Stmt:=top 77
abbrev YS:List Str:=["sentence", "order"]
theorem Ql:zK ["sentence", "order", "rows"] YS (zx YQ):=fsc (by decide +kernel)
abbrev Sw:Stmt:=top 78
abbrev Zt:List Str:=["order"]
theorem xX:zK ["order", "carry", "found", "mark", "later"] Zt (zx Sw):=fsc (by decide +kernel)
abbrev Pg:Stmt:=top 79
abbrev YT:List Str:=["order", "cell"]
theorem vP:zK ["order", "cell", "found", "now", "k", "one"] YT (zx Pg):=fsc (by decide +kernel)
abbrev JG:Stmt:=top 80
abbrev W7:List Str:=["script"]
theorem XS:zK ["script", "order", "steps"] W7 (zx JG):=fsc (by decide +kernel)
abbrev VG:Stmt:=top 81
abbrev uV:List Str:=["script", "at", "order"]
theorem Mr:zK ["script", "at", "order"] uV (zx VG):=fsc (by decide +kernel)
abbrev Tg:Stmt:=top 82
abbrev Z1:List Str:=["e"]
theorem YW:zK ["e", "kinds", "terms"] Z1 (zx Tg):=fsc (by decide +kernel)
abbrev zcI:Stmt:=top 83
abbrev VH:List Str:=["told", "word"]
theorem zg0:zK ["told", "word"] VH (zx zcI):=fsc (by decide +kernel)
abbrev JH:Stmt:=top 84
abbrev W8:List Str:=["cell", "graph", "places", "rows"]
theorem vg:zK ["cell", "graph", "places", "rows", "here", "found", "k", "nexts"] W8 (zx JH):=fsc (by decide +kernel)
abbrev zaY:Stmt:=top 85
abbrev Uy:List Str:=["book", "steps", "start", "end", "rows"]
theorem YX:zK ["book", "steps", "start", "end", "rows", "told", "e"] Uy (zx zaY):=fsc (by decide +kernel)
abbrev Ph:Stmt:=top 86
abbrev YZ:List Str:=["told", "rows", "cell"]
theorem Yb:zK ["told", "rows", "cell", "kind", "at", "row"] YZ (zx Ph):=fsc (by decide +kernel)
abbrev S_law:Stmt:=top 87
abbrev p_law:List Str:=["script"]
theorem sc_law:zK ["script", "one", "other", "book", "steps", "graph", "rows", "k", "size", "bad", "at", "none", "odd", "order", "sentence", "start", "end", "places", "goal", "told", "here", "goes", "due", "kept", "found"] p_law (zx S_law):=fsc (by decide +kernel)
def wM:List (Str×Int×Int):=[("yes", 0,0),("no", 0,0),("mark", 1,0),("not", 0,1),("and", 0,2),("or", 0,2),("either", 0,2),("if", 0,2),("some", 1,1),("each", 1,1)]
set_option genInjectivity false in
set_option genSizeOf false in
structure Ad where
 Yd:Addr
 Ye:FuncData
 vW:Addr
 vX:FuncData
 Xl:Addr
 Xm:FuncData
 Vi:Addr
 Vj:FuncData
 RK:Addr
 RL:FuncData
 X3:Addr
 X4:FuncData
 Vk:Addr
 Vl:FuncData
 Ti:Addr
 Tj:FuncData
 VJ:Addr
 VL:FuncData
 zcJ:Addr
 zcK:FuncData
 Sx:Addr
 Sy:FuncData
 Ke:Addr
 Kf:FuncData
 Pj:Addr
 Pk:FuncData
 Y0:Addr
 Y4:FuncData
 Yg:Addr
 Yh:FuncData
 Y5:Addr
 Y6:FuncData
 Pn:Addr
 Pq:FuncData
 Tn:Addr
 Tp:FuncData
 Wy:Addr
 Wz:FuncData
 Yi:Addr
 Yj:FuncData
 Zu:Addr
 Zv:FuncData
 Y7:Addr
 Y8:FuncData
 tH:Addr
 tK:FuncData
 Pr:Addr
 Pu:FuncData
 RM:Addr
 RN:FuncData
 VN:Addr
 VP:FuncData
 Zg:Addr
 Zh:FuncData
 Wm:Addr
 Wn:FuncData
 RP:Addr
 RQ:FuncData
 Zw:Addr
 Zx:FuncData
 Z2:Addr
 Z4:FuncData
 WD:Addr
 WK:FuncData
 Xn:Addr
 Xo:FuncData
 wJ:Addr
 wK:FuncData
 zbG:Addr
 zbH:FuncData
 zcL:Addr
 zcM:FuncData
 N7:Addr
 N8:FuncData
 zbI:Addr
 zbJ:FuncData
 VR:Addr
 V0:FuncData
 zcN:Addr
 zcO:FuncData
 Tq:Addr
 Tr:FuncData
 V1:Addr
 V2:FuncData
 zfE:Addr
 zfF:FuncData
 Wo:Addr
 Wq:FuncData
 Uz:Addr
 Px:FuncData
 yV:Addr
 yW:FuncData
 zg1:Addr
 zg2:FuncData
 RT:Addr
 RV:FuncData
 zg3:Addr
 zg4:FuncData
 wW:Addr
 wX:FuncData
 zbe:Addr
 zbf:FuncData
 zfG:Addr
 zfH:FuncData
 zit:Addr
 ziu:FuncData
 xu:Addr
 xG:FuncData
 uH:Addr
 uI:FuncData
 xH:Addr
 xJ:FuncData
 xY:Addr
 xZ:FuncData
 Zy:Addr
 Zz:FuncData
 ZC:Addr
 ZD:FuncData
 tL:Addr
 tO:FuncData
 Tt:Addr
 Tv:FuncData
 vh:Addr
 vm:FuncData
 W9:Addr
 Va:FuncData
 Tw:Addr
 Tz:FuncData
 V3:Addr
 V4:FuncData
 Xp:Addr
 Xq:FuncData
 V5:Addr
 V6:FuncData
 RW:Addr
 RX:FuncData
 Yk:Addr
 Yl:FuncData
 X5:Addr
 X6:FuncData
 RZ:Addr
 R3:FuncData
 R4:Addr
 R5:FuncData
 Py:Addr
 Pz:FuncData
 V7:Addr
 V8:FuncData
 a_law:Addr
 d_law:FuncData
 zy:Addr
 wk:Addr
 vq:Addr
 Vb:Addr
 uJ:Addr
 uK:Addr
 wO:Addr
 wQ:Addr
 wu:Addr
 wR:Addr
 vQ:Addr
 Zi:Addr
 zbK:Addr
 zdx:Tok
 zg5:Tok
 SJ:Addr
 zkG:List (Str×Value)
 UG:Addr
 SM:Addr
 SN:Addr
 SQ:Addr
 SX:Addr
structure Txt (P:Program)(w:World)(K:Frag)(mg:Str->Option Value)(a:Ad):Prop where
 zp3:mg "Book"=some (.ref a.zy)
 zg6:mg "BookError"=some (.ref a.wk)
 zkH:mg "NoOrder"=some (.ref a.vq)
 zoi:mg "NoSentence"=some (.ref a.Vb)
 zmA:mg "NoMark"=some (.ref a.uJ)
 zmB:mg "NoRoom"=some (.ref a.uK)
 zjU:mg "NoRow"=some (.ref a.wO)
 ziv:mg "NoNumber"=some (.ref a.wQ)
 zg7:mg "NoWeights"=some (.ref a.wu)
 ziw:mg "NoShares"=some (.ref a.wR)
 zkI:mg "NoCover"=some (.ref a.vQ)
 zix:mg "TooGreat"=some (.ref a.Zi)
 Ym:Df K mg "all_rows" zcB a.Yd a.Ye Zd
 Yt:Df K mg "rows_with" zaV a.vW a.vX vf
 Vm:Df K mg "flipped" zeD a.Xl a.Xm Yq
 Xr:Df K mg "held_at" zeE a.Vi a.Vj Xi
 Kg:Df K mg "hangs_on" zcC a.RK a.RL Vy
 M6:Df K mg "first_place" MF a.X3 a.X4 Z0
 Ma:Df K mg "without" zeF a.Vk a.Vl Xj
 M7:Df K mg "rows_having" MJ a.Ti a.Tj XD
 PB:Df K mg "first_values" QX a.VJ a.VL YH
 zg8:Df K mg "chosen" zgR a.zcJ a.zcK Jq
 zax:Df K mg "is_mark" zeG a.Sx a.Sy Vh
 zcP:Df K mg "is_order" Ka a.Ke a.Kf RD
 zcQ:Df K mg "is_row" zcD a.Pj a.Pk T9
 R6:Df K mg "letters_of" Jr a.Y0 a.Y4 Zo
 R7:Df K mg "parts_of" zcE a.Yg a.Yh Ze
 V9:Df K mg "parts_of_all" QZ a.Y5 a.Y6 Zf
 zaZ:Df K mg "is_shaped" Uo a.Pn a.Pq Uq
 M8:Df K mg "is_sentence" Tc a.Tn a.Tp XF
 Qm:Df K mg "must_be_order" Qh a.Wy a.Wz Z8
 Ua:Df K mg "must_be_sentence" VB a.Yi a.Yj uR
 S7:Df K mg "must_have_mark" Sd a.Zu a.Zv uz
 UJ:Df K mg "must_have_marks" Ur a.Y7 a.Y8 tX
 X7:Df K mg "must_be_row" MK a.tH a.tK v9
 za0:Df K mg "tuples_in" zaW a.Pr a.Pu Us
 JK:Df K mg "letters_in" Ju a.RM a.RN W3
 Kh:Df K mg "table_of" Kc a.VN a.VP Xk
 PJ:Df K mg "table_of_two" Q6 a.Zg a.Zh uD
 UL:Df K mg "now_marks" Uu a.Wm a.Wn Yr
 JL:Df K mg "then_marks" W4 a.RP a.RQ W5
 ZF:Df K mg "now_places" RG a.Zw a.Zx uT
 Z5:Df K mg "then_places" Te a.Z2 a.Z4 tD
 Qo:Df K mg "must_be_world" Qi a.WD a.WK Z9
 S9:Df K mg "must_be_of_now" Sg a.Xn a.Xo Zr
 vY:Df K mg "must_be_world_with" Wk a.wJ a.wK xQ
 zfI:Df K mg "after" zjS a.zbG a.zbH Jv
 zg9:Df K mg "before" zgU a.zcL a.zcM Jw
 zay:Df K mg "for_any" zeH a.N7 a.N8 Sh
 zfJ:Df K mg "moved" zjT a.zbI a.zbJ Jx
 PK:Df K mg "round_tables" Q7 a.VR a.V0 YJ
 zha:Df K mg "way_to" zgV a.zcN a.zcO Jy
 M9:Df K mg "way_through" MN a.Tq a.Tr XH
 Ub:Df K mg "first_of_now" Q8 a.V1 a.V2 YK
 ziy:Df K mg "only" zmz a.zfE a.zfF zcH
 Wr:Df K mg "way_shows" Uw a.Wo a.Wq Ys
 yt:Df K mg "_law_cell_at" Qk a.xH a.xJ yU
 zR:Df K mg "_law_draw" JD a.xY a.xZ xr
 Xu:Df K mg "_law_sentence" uE a.Zy a.Zz uF
 Vc:Df K mg "_law_rows" JF a.ZC a.ZD uU
 ud:Df K mg "_law_value" MP a.tL a.tO uc
 La:Df K mg "_law_world" M4 a.Tt a.Tv XJ
 uP:Df K mg "_law_now" Pb a.vh a.vm wI
 R8:Df K mg "_law_pair" RJ a.W9 a.Va YM
 Lb:Df K mg "_law_graph" M5 a.Tw a.Tz XQ
 Uc:Df K mg "_law_places" YQ a.V3 a.V4 YS
 Ra:Df K mg "_law_counting" Sw a.Xp a.Xq Zt
 PL:Df K mg "_law_single" Pg a.V5 a.V6 YT
 JM:Df K mg "_law_both" JG a.RW a.RX W7
 Yn:Df K mg "_law_told_place" VG a.Yk a.Yl uV
 X8:Df K mg "_law_which" Tg a.X5 a.X6 Z1
 zcR:Df K mg "_law_is" zcI a.RZ a.R3 VH
 JN:Df K mg "_law_walk" JH a.R4 a.R5 W8
 PN:Df K mg "_law_met" zaY a.Py a.Pz Uy
 PX:Df K mg "_law_forged" Ph a.V7 a.V8 YZ
 f_law:Df K mg "law" S_law a.a_law a.d_law p_law
 za1:Dm K a.zy "__init__" "Book.__init__" zaX a.Uz a.Px Ux
 wg:Dm K a.zy "order" "Book.order" JB a.yV a.yW yL
 zoP:Dm K a.zy "size" "Book.size" zgW a.zg1 a.zg2 zgX
 Vd:Dm K a.zy "enter" "Book.enter" JC a.RT a.RV W6
 zoQ:Dm K a.zy "room" "Book.room" zgY a.zg3 a.zg4 zgZ
 ZL:Dm K a.zy "must_be_room" "Book.must_be_room" WM a.wW a.wX wj
 zk0:Dm K a.zy "place_of" "Book.place_of" zbc a.zbe a.zbf zbd
 zoj:Dm K a.zy "going" "Book.going" zfB a.zfG a.zfH zfC
 zp4:Dm K a.zy "led" "Book.led" zir a.zit a.ziu zis
 wz:Dm K a.zy "table_at" "Book.table_at" Qj a.xu a.xG yS
 ZG:Dm K a.zy "room_with" "Book.room_with" Ss a.uH a.uI vp
 yF:Cls K a.zy
 zok:Mk K a.zy a.Uz
 Z6:Vr K a.zy "marks"
 Wa:Vr K a.zy "rooms"
 Ud:Vr K a.zy "tables"
 uY:Vr K a.zy "numbers"
 ziz:Jm K a.vq
 zm0:Jm K a.Vb
 zkJ:Jm K a.uJ
 zkK:Jm K a.uK
 zmC:Jm K a.wO
 zhb:Jm K a.wQ
 zfK:Jm K a.wu
 zhc:Jm K a.wR
 ziA:Jm K a.vQ
 zhd:Jm K a.Zi
 zp5:LK K a.wk a.vq
 zm1:LK K a.wk a.Vb
 zqr:LK K a.wk a.uJ
 zqs:LK K a.wk a.uK
 zcS:LK K a.wk a.wO
 xb:zpY K a.wk
 xd:[a.wk,a.vq,a.Vb,a.uJ,a.uK,a.wO,a.wQ,a.wu,a.wR,a.vQ,a.Zi].Nodup
 zfL:mg "ValueError"=none
 zol:mg "MARKS"=some (.ref a.zbK)
 zom:∀H,vL K H a.zbK ((["a", "b", "c", "d", "e", "f", "g", "h"]:List Str).map V.str)
 zdy:mg "MOST_TUPLES"=some (.int 200 a.zdx)
 zhe:mg "MOST_DEEP"=some (.int 24 a.zg5)
 JQ:mg "SHAPES"=some (.ref a.SJ)
 Ue:Shp K P w a.SJ a.zkG wM
 zfM:mg "PAIRS"=some (.ref a.UG)
 Mf:∀H,vL K H a.UG [.ref a.SM,.ref a.SN,.ref a.SQ,.ref a.SX]
 zaz:∀H,vL K H a.SM ((["a", "e"]:List Str).map V.str)
 zaA:∀H,vL K H a.SN ((["b", "f"]:List Str).map V.str)
 zaB:∀H,vL K H a.SQ ((["c", "g"]:List Str).map V.str)
 zaC:∀H,vL K H a.SX ((["d", "h"]:List Str).map V.str)
 zcT:mg "all"=none
 zp6:mg "bool"=none
 zp7:mg "dict"=none
 zoR:mg "int"=none
 yN:mg "isinstance"=none
 yO:mg "len"=none
 zcU:mg "list"=none
 zmD:mg "max"=none
 zrC:mg "min"=none
 tY:mg "range"=none
 zmE:mg "repr"=none
 zcV:mg "reversed"=none
 zrD:mg "set"=none
 zrE:mg "str"=none
 zjV:mg "tuple"=none
 zmF:mg "zip"=none
theorem x_law {K:Frag}{mg:Str->Option Value}{f:Addr}{d:FuncData}(F:Df K mg "law" S_law f d p_law):∀(s:Shared) (u:Value),BindsTo s d ⟨[u],[]⟩ [("script", u)]:=by
 obtain⟨_,_,_,_,_,_,_,_,_,rfl,_,_⟩:=F.F.ex
 exact fun s u=>.of_eq rfl
theorem zrF {P:Program}{w:World}{K:Frag}{mg:Str->Option Value}{x0 x2 x4 x6 x8 x10 x12 x14 x16 x18 x20 x22 x24 x26 x28 x30 x32 x34 x36 x38 x40 x42 x44 x46 x48 x50 x52 x54 x56 x58 x60 x62 x64 x66 x68 x70 x72 x74 x76 x78 x80 x82 x84 x86 x88 x90 x92 x94 x96 x98 x100 x102 x104 x106 x108 x110 x112 x114 x116 x118 x120 x122 x124 x126 x128 x130 x132 x134 x136 x138 x140 x142 x144 x146 x148 x150 x151 x152 x153 x154 x155 x156 x157 x158 x159 x160 x161 x162 x165 x167 x168 x169 x170 x171:Addr}{x1 x3 x5 x7 x9 x11 x13 x15 x17 x19 x21 x23 x25 x27 x29 x31 x33 x35 x37 x39 x41 x43 x45 x47 x49 x51 x53 x55 x57 x59 x61 x63 x65 x67 x69 x71 x73 x75 x77 x79 x81 x83 x85 x87 x89 x91 x93 x95 x97 x99 x101 x103 x105 x107 x109 x111 x113 x115 x117 x119 x121 x123 x125 x127 x129 x131 x133 x135 x137 x139 x141 x143 x145 x147 x149:FuncData}{x163 x164:Tok}{x166:List (Str×Value)}(t:Txt P w K mg ⟨x0,x1,x2,x3,x4,x5,x6,x7,x8,x9,x10,x11,x12,x13,x14,x15,x16,x17,x18,x19,x20,x21,x22,x23,x24,x25,x26,x27,x28,x29,x30,x31,x32,x33,x34,x35,x36,x37,x38,x39,x40,x41,x42,x43,x44,x45,x46,x47,x48,x49,x50,x51,x52,x53,x54,x55,x56,x57,x58,x59,x60,x61,x62,x63,x64,x65,x66,x67,x68,x69,x70,x71,x72,x73,x74,x75,x76,x77,x78,x79,x80,x81,x82,x83,x84,x85,x86,x87,x88,x89,x90,x91,x92,x93,x94,x95,x96,x97,x98,x99,x100,x101,x102,x103,x104,x105,x106,x107,x108,x109,x110,x111,x112,x113,x114,x115,x116,x117,x118,x119,x120,x121,x122,x123,x124,x125,x126,x127,x128,x129,x130,x131,x132,x133,x134,x135,x136,x137,x138,x139,x140,x141,x142,x143,x144,x145,x146,x147,x148,x149,x150,x151,x152,x153,x154,x155,x156,x157,x158,x159,x160,x161,x162,x163,x164,x165,x166,x167,x168,x169,x170,x171⟩):∃a,Txt P w K mg a:=⟨_,t⟩
end K76
namespace K76
open PySem L2 uh
section
variable {P:Program}{w:World}{K:Frag}{mg:Str->Option Value}{base:Heap}{a:Ad}{k:Nat}
theorem zhf (T:Txt P w K mg a):zB P w K mg base zX (k+1) a.Yd a.Ye Zd Xe:=by
 refine T.Ym.F.ok zgP (fun vs H Q E h=>?_) (fun cdv A outer s H vs Q E hr h=>?_)
 ·obtain⟨n,rfl,_⟩:=h
  rfl
 obtain⟨n,rfl,hn,q⟩:=h
 refine⟨_,(zu (zL (zJ UW (zJ Xy zq (zJ Xy zq (pv 0))) zq))),?_⟩
 have h1:=zgj hn
 have one:1<2^10000:=zgi (k:=1) (by decide) (by decide)
 refine⟨_,rfl,1,n,rfl,rfl,one,by omega,1,1*2^n,rfl,rfl,one,by omega,_,1,rfl,rfl,?_⟩
 have e:(((1*2^(1*2^n):Nat):Int)-1)=((2^2^n-1:Nat):Int):=by
  rw[Nat.one_mul,Nat.one_mul]
  have:=Nat.two_pow_pos (2^n)
  omega
 show Q (.int (((1*2^(1*2^n):Nat):Int)-1)) H
 rw[e]
 exact q
theorem zfN (T:Txt P w K mg a):zB P w K mg base zX (k+1) a.vW a.vX vf uQ:=by
 refine T.Yt.F.ok YG (fun vs H Q E h=>?_) (fun cdv A outer s H vs Q E hr h=>?_)
 ·obtain⟨p,n,rfl,_⟩:=h
  rfl
 obtain⟨p,n,rfl,hp,hn,q⟩:=h
 refine⟨_,(zf (zA 2 YG.nd (zJ Xy zq (pv 0)))
   (zf (zA 3 YG.nd (zJ Xy (zJ UW (zJ Xy zq (pv 2)) zq) (pv 2)))
   (zf (wD PassesOwn.never rfl (zdV rfl T.tY (za (zJ xU (pv 0) zq) (za (pv 1) zc))) (yr (i:=4) YG.nd rfl (Or.inl rfl)) (zu (zA 3 YG.nd (zJ Rn (pv 3) (zJ Xy (pv 3) (zJ Xy zq (pv 4)))))))
   (zu (zL (pv 3)))))),?_⟩
 have one:1<2^10000:=zgi (k:=1) (by decide) (by decide)
 have h1:=zgj (n:=p) (by omega)
 have hh:2^p<2^10000:=Nat.pow_lt_pow_right (by decide) (by omega)
 have pp:=Nat.two_pow_pos (2^p)
 have e1:((1*2^(1*2^p):Nat):Int)-1=((2^2^p-1:Nat):Int):=by
  rw[Nat.one_mul,Nat.one_mul]
  omega
 have lt1:2^2^p-1<2^10000:=zyd (Nat.sub_lt pp (by decide)) (zyA (by decide) (by omega))
 refine⟨_,rfl,1,p,rfl,rfl,one,by omega,?_⟩
 refine⟨_,rfl,1,1*2^p,rfl,rfl,one,by omega,_,1,rfl,rfl,_,rfl,2^2^p-1,1*2^p,congrArg V.int e1,rfl,lt1,by omega,?_⟩
 refine⟨_,rfl,_,1,rfl,rfl,_,rfl,(p:Int)+1,(n:Int),rfl,⟨by omega,by omega,by omega,by omega⟩,?_⟩
 refine uZ (fun i σ H'=>H'=H/\∃(N:Nat) (f:Option V),σ=[some (.int p),some (.int n),some (.int ((1*2^p:Nat):Int)),some (.int N),f]/\zV (p+1+i) N (fun b=>b.testBit p)) ⟨rfl,_,_,rfl,?_⟩ ?_ ?_
 ·rw[Nat.one_mul]
  exact zkf p
 ·rintro i σ H' hi ⟨rfl,N,f,rfl,tb⟩
  have hi':p+1+i<n:=by omega
  have h2:=zgj (n:=p+1+i) (by omega)
  have e2:V.int ((p:Int)+1+(i:Nat))=V.int ((p+1+i:Nat):Int):=congrArg V.int (by omega)
  have lt2:N<2^10000:=zgi (zlB tb) (zyq h2 (by decide))
  refine⟨_,rfl,_,rfl,_,rfl,1,p+1+i,rfl,e2,one,by omega,N,1*2^(p+1+i),rfl,rfl,lt2,by omega,N,N*2^(1*2^(p+1+i)),rfl,rfl,?_⟩
  refine⟨rfl,_,_,rfl,?_⟩
  rw[Nat.one_mul]
  exact zhW (m:=p+1+i) (by omega) tb
 ·rintro σ H' ⟨rfl,N,f,rfl,tb⟩
  have e3:p+1+((n:Int)-((p:Int)+1)).toNat=n:=by omega
  rw[e3] at tb
  exact⟨_,rfl,q N tb⟩
theorem ziB (T:Txt P w K mg a)(wA:zB P w K mg base zX k a.vW a.vX vf uQ):zB P w K mg base zX (k+1) a.Xl a.Xm Yq Xf:=by
 refine T.Vm.F.ok LQ (fun vs H Q E h=>?_) (fun cdv A outer s H vs Q E hr h=>?_)
 ·obtain⟨N,p,n,f,rfl,_⟩:=h
  rfl
 obtain⟨N,p,n,f,rfl,hp,hn,tb,q⟩:=h
 refine⟨_,(zf (zA 3 LQ.nd (zJ tV (pv 0) (zp wA hr T.Yt (za (pv 1) (za (pv 2) zc)))))
   (zf (zA 4 LQ.nd (zJ Nq (pv 0) (pv 3)))
   (zu (zL (zJ Rn (zJ znv (pv 3) (zJ Xy zq (pv 1))) (zJ Xy (pv 4) (zJ Xy zq (pv 1)))))))),?_⟩
 have one:1<2^10000:=zgi (k:=1) (by decide) (by decide)
 have h1:=zgj (n:=p) (by omega)
 have h2:=zgj (n:=n) (by omega)
 refine⟨_,rfl,_,rfl,_,rfl,p,n,rfl,hp,hn,fun R tr=>?_⟩
 refine⟨N,R,rfl,rfl,?_⟩
 refine⟨_,rfl,_,rfl,N,N&&&R,rfl,rfl,?_⟩
 have o:=WW tb tr
 have z:=Rk tb o
 have lt2:N ^^^ (N&&&R)<2^10000:=zgi (zlB z) (zyq h2 (by decide))
 refine⟨_,rfl,_,rfl,1,p,rfl,rfl,one,by omega,N&&&R,1*2^p,rfl,rfl,_,rfl,_,rfl,1,p,rfl,rfl,one,by omega,N ^^^ (N&&&R),1*2^p,rfl,rfl,lt2,by omega,_,_,rfl,rfl,?_⟩
 refine q _ ?_
 rw[Nat.one_mul]
 exact zlC hp tb tr
theorem ziC (T:Txt P w K mg a):zB P w K mg base zX (k+1) a.xH a.xJ yU (K1 K):=by
 refine T.yt.F.ok Sv (fun vs H Q E h=>?_) (fun cdv A outer s H vs Q E hr h=>?_)
 ·obtain⟨l,ns,i,rfl,_⟩:=h
  rfl
 obtain⟨l,ns,i,rfl,hS,h0,q⟩:=h
 refine⟨_,(zf (yI (zP zi0 (pv 1) (zF zE rfl T.yO yp (za (pv 0) zc)) (zU _)) (zu (zL (yc yw (pv 0) (pv 1) (fun _ _=>rfl)))) z8)
   (zu (zL zq))),?_⟩
 refine⟨_,rfl,_,rfl,l,_,rfl,.inl hS,_,_,rfl,rfl,_,rfl,?_⟩
 refine yC (fun c=>?_) (fun c=>?_)
 ·have c':i<(((ns.map V.int).length:Nat):Int):=of_decide_eq_true c
  rw[zx4] at c'
  have hi:i.toNat<ns.length:=by omega
  have e:atI (ns.map V.int) i=some (.int ns[i.toNat]):=by
   have q:=yQ (xs:=ns.map V.int) (j:=i.toNat) (v:=.int ns[i.toNat]) (by rw[zx6,zx5 hi];rfl)
   have ei:((i.toNat:Nat):Int)=i:=by omega
   rw[ei] at q
   exact q
  exact⟨_,rfl,_,rfl,l,_,i,_,rfl,rfl,hS,e,q _⟩
 ·exact q 0
theorem zon (T:Txt P w K mg a):zB P w K mg base zX (k+1) a.xY a.xZ xr Vt:=by
 refine T.zR.F.ok tE (fun vs H Q E h=>?_) (fun cdv A outer s H vs Q E hr h=>?_)
 ·obtain⟨c,m,b,rfl,_⟩:=h
  rfl
 obtain⟨c,m,b,rfl,hm,b0,b1,q⟩:=h
 refine⟨_,(zf (yI (zP zoy (pv 0) (zJ zpb zq zq) (zU _)) (zf (zA 4 tE.nd (pv 0))
   (zf (wD PassesOwn.never rfl (ur rfl T.tY (za (pv 1) zc)) (yr (i:=5) tE.nd rfl (Or.inl rfl)) (zu (zA 4 tE.nd (zJ ziW (pv 4) (pv 2)))))
   (zu (zL (zJ vK (pv 4) (pv 2)))))) z8)
   (zf (zA 3 tE.nd (zJ vK (zJ Qu (zJ xU (zJ xU (zJ vK (pv 0) zq) (zJ Qu zq (pv 1))) zq) zq) zq))
   (zf (zA 3 tE.nd (zJ vK (zJ xU (zJ xU (zJ Qu (pv 3) (pv 3)) (zJ Qu zq (pv 1))) zq) zq))
   (zu (zL (zJ vK (zJ ziW (zJ vK (zJ Qu (pv 3) zq) zq) zq) (pv 2))))))),?_⟩
 refine⟨_,rfl,10,18,rfl,rfl,⟨by decide,by decide,by decide⟩,_,_,rfl,rfl,_,rfl,?_⟩
 refine yC (fun _=>?_) (fun _=>?_)
 ·refine⟨_,rfl,?_⟩
  refine⟨_,rfl,(m:Int),rfl,by omega,by omega,?_⟩
  refine uZ (fun i σ H'=>H'=H/\∃(x:Int) (f1 f2:Option V),σ=[some (.int c),some (.int m),some (.int b),f1,some (.int x),f2]) ⟨rfl,c,_,_,rfl⟩ ?_ ?_
  ·rintro i σ H' hi ⟨rfl,x,f1,f2,rfl⟩
   refine⟨_,rfl,_,rfl,x,b,rfl,rfl,⟨b0,b1⟩,?_⟩
   exact⟨rfl,x / b,_,_,rfl⟩
  ·rintro σ H' ⟨rfl,x,f1,f2,rfl⟩
   refine⟨_,rfl,_,rfl,x,b,rfl,rfl,b0,?_⟩
   exact q _ (zyO _ (by omega)) (zyK _ b0)
 ·have p1:(0:Int)<1000000007:=by decide
  have p2:(0:Int)<2147483647:=by decide
  have p3:(0:Int)<2147483629:=by decide
  refine⟨_,rfl,c,1000000007,rfl,rfl,p1,_,rfl,1009,(m:Int),rfl,rfl,.inl ⟨by decide,by decide⟩,_,_,rfl,rfl,_,17,rfl,rfl,_,69621,rfl,rfl,.inr ⟨by decide,by decide⟩,_,2147483647,rfl,rfl,p2,?_⟩
  have z0:0<=(c%1000000007+1009*(m:Int)+17)*69621%2147483647:=zyO _ (by decide)
  have z1:(c%1000000007+1009*(m:Int)+17)*69621%2147483647<2147483647:=zyK _ p2
  refine⟨_,rfl,_,rfl,_,_,rfl,rfl,.inl ⟨Int.lt_of_lt_of_le (by decide) z0,Int.lt_trans z1 (by decide)⟩,_,rfl,40503,(m:Int),rfl,rfl,.inl ⟨by decide,by decide⟩,_,_,rfl,rfl,_,5,rfl,rfl,_,2147483629,rfl,rfl,p3,?_⟩
  refine⟨_,rfl,_,48271,rfl,rfl,.inr ⟨by decide,by decide⟩,_,2147483647,rfl,rfl,p2,_,32,rfl,rfl,⟨by decide,by decide⟩,_,rfl,_,b,rfl,rfl,b0,?_⟩
  exact q _ (zyO _ (by omega)) (zyK _ b0)
theorem zhg (T:Txt P w K mg a)(yh:zB P w K mg base zX k a.xH a.xJ yU (K1 K))(zM:zB P w K mg base zX k a.xY a.xZ xr Vt) :
  zB P w K mg base zX (k+1) a.Zy a.Zz uF (Ro K):=by
 refine T.Xu.F.ok yM (fun vs H Q E h=>?_) (fun cdv A outer s H vs Q E hr h=>?_)
 ·obtain⟨sc,ol,ns,t,m,os,rfl,_⟩:=h
  rfl
 obtain⟨sc,ol,ns,t,m,os,rfl,hS,hO,o0,o8,m0,m40,t60,q⟩:=h
 obtain⟨st0,h0⟩:∃st0,st0=(uo uE).headD (.Pass ⟨0,0,0,0⟩):=⟨_,rfl⟩
 have hb:uo uE=st0::(uo uE).tail:=by rw[h0];rfl
 rw[hb]
 have hk:zeZ st0=some (Str.ofString "kinds", Ln):=by rw[h0];rfl
 refine⟨_,zf (znx (i:=4) hk yM.nd rfl (Or.inl rfl) (.inl rfl)) (zf (zA 5 yM.nd (yE (za (xM (za zZ (za (yc yw (pv 3) (zJ vK (zp zM hr T.zR (za (zp yh hr T.yt (za (pv 0) (za (pv 1) zc))) (za zq (za zq zc)))) (zF zE rfl T.yO yp (za (pv 3) zc))) (fun _ _=>rfl)) zc))) zc)))
   (zf (wD PassesOwn.never rfl (zdV rfl T.tY (za zq (za (pv 2) zc))) (yr (i:=6) yM.nd rfl (Or.inl rfl)) (zf (zA 7 yM.nd (zp yh hr T.yt (za (pv 0) (za (zJ xU (pv 1) (pv 6)) zc))))
   (zf (zA 8 yM.nd (yc yw (pv 4) (zp zM hr T.zR (za (pv 7) (za zq (za zq zc)))) (fun _ _=>rfl)))
   (zf (zA 9 yM.nd (yc yw (pv 5) (zJ UW (zdX J7 zq) (zJ vK (zp zM hr T.zR (za (pv 7) (za zq (za zq zc)))) (zF zE rfl T.yO yp (za (pv 5) zc)))) (fun _ _=>rfl)))
   (zf (zA 10 yM.nd (yc yw (pv 5) (zJ vK (zp zM hr T.zR (za (pv 7) (za zq (za zq zc)))) (zF zE rfl T.yO yp (za (pv 5) zc))) (fun _ _=>rfl)))
   (zf (zA 11 yM.nd (yc yw (pv 3) (zJ vK (zp zM hr T.zR (za (pv 7) (za zq (za zq zc)))) (zF zE rfl T.yO yp (za (pv 3) zc))) (fun _ _=>rfl)))
   (zu (yI (PW.pt (Ky (zP xW (pv 8) zZ (zU _)) (Le (zP xW (pv 8) zZ (zU _))))) (zu (yu (vd PySem.F.plainAttrs_list PySem.F.slot_list_append PySem.F.type_list_append wF (pv 5) (za (xM (za (pv 8) zc)) zc)))) (zu (yI (zP xW (pv 8) zZ (zU _)) (zu (yu (vd PySem.F.plainAttrs_list PySem.F.slot_list_append PySem.F.type_list_append wF (pv 5) (za (xM (za zZ (za (pv 11) zc))) zc)))) (zu (yI (zP xW (pv 8) zZ (zU _)) (zu (yu (vd PySem.F.plainAttrs_list PySem.F.slot_list_append PySem.F.type_list_append wF (pv 5) (za (xM (za zZ (za (pv 9) zc))) zc)))) (zu (yI (PW.pt (Ky (zP xW (pv 8) zZ (zU _)) (Le (zP xW (pv 8) zZ (zU _))))) (zu (yu (vd PySem.F.plainAttrs_list PySem.F.slot_list_append PySem.F.type_list_append wF (pv 5) (za (xM (za (pv 8) (za (pv 11) (za (pv 9) zc)))) zc)))) (zu (yu (vd PySem.F.plainAttrs_list PySem.F.slot_list_append PySem.F.type_list_append wF (pv 5) (za (xM (za (pv 8) (za (pv 10) (za (pv 9) zc)))) zc))))))))))))))))))
   (zu (zL (yc yw (pv 5) (zdX J7 zq) (fun _ _=>rfl)))))),?_⟩
 refine⟨by show 14<=sizeLine;decide,fun kd hkd=>?_⟩
 have g1:=zb0 hkd (.lst (Ln.map V.str))
 have hS1:=g1.seq hS
 have hO1:=g1.seq hO
 refine⟨_,rfl,_,rfl,_,rfl,sc,ns,(t:Int),rfl,hS1,by omega,fun c0=>?_⟩
 refine⟨c0,3,40320,rfl,by decide,by decide,by decide,fun r0 _ _=>?_⟩
 obtain⟨x0,hx0,hx0'⟩:=zaQ o0 r0
 have pl:(0:Int)<((os.map V.str).length:Nat):=by rw[zx4];omega
 refine⟨_,rfl,ol,_,rfl,.inl hO1,_,_,rfl,rfl,pl,ol,_,_,.str x0,rfl,rfl,hO1,hx0',by show 2<=sizeLine;decide,fun p0 hp0=>?_⟩
 refine⟨by show 1<=sizeLine;decide,fun md hmd=>?_⟩
 have g2:=zb0 hp0 (.tup [.str "mark", .str x0])
 have g3:=zb0 hmd (.lst [.ref p0])
 have f0:H md=none:=(g1.trans g2).free hmd
 have nk:md≠kd:=Ne.symm (zH (g2 _ _ zj) hmd)
 have M0:Made H (upd (upd (upd H kd (.lst (Ln.map V.str))) p0 (.tup [.str "mark", .str x0])) md (.lst [.ref p0])) os md kd [p0] 1:=by
  refine⟨g1.trans (g2.trans g3),zj,g3 _ _ (g2 _ _ zj),by simp,fun p hp=>?_⟩
  have e:p=p0:=by simpa using hp
  subst e
  exact⟨.mk x0,g3 _ _ zj,hx0,zyk _⟩
 refine⟨_,rfl,1,(m:Int),rfl,⟨by omega,by omega,by omega,by omega⟩,?_⟩
 refine uZ (fun i σ H'=>∃(ps:List Addr) (f1 f2 f3 f4 f5 f6:Option V),Made H H' os md kd ps (i+1)/\ps.length=i+1/\σ=[some (.ref sc),some (.int t),some (.int m),some (.ref ol),some (.ref kd),some (.ref md),f1,f2,f3,f4,f5,f6])
  ⟨[p0],_,_,_,_,_,_,M0,rfl,rfl⟩ ?_ ?_
 ·rintro i σ H' hi ⟨ps,f1,f2,f3,f4,f5,f6,M,lp,rfl⟩
  have hS2:=M.old.seq hS
  have hO2:=M.old.seq hO
  have e1:(t:Int)+(1+(i:Nat))=((t+(1+i):Nat):Int):=by omega
  refine⟨_,rfl,_,rfl,_,rfl,_,_,rfl,rfl,sc,ns,_,rfl,hS2,by omega,fun c=>?_⟩
  refine⟨_,rfl,_,rfl,c,0,14,rfl,by decide,by decide,by decide,fun d d0 d1=>?_⟩
  obtain⟨jk,vk,qk1,qk2⟩:=ze2 (xs:=Ln.map V.str) (i:=d) (by show -((14:Nat):Int)<=d;omega) (by show d<((14:Nat):Int);omega)
  obtain⟨kind,hkm,hkv⟩:∃kind,kind∈Ln/\vk=.str kind:=by
   rw[zx6] at qk2
   cases hx:Ln[jk]? with
   | none=>rw[hx] at qk2;cases qk2
   | some x=>rw[hx] at qk2;cases qk2;exact⟨x,zx9 hx,rfl⟩
  subst hkv
  refine⟨kd,_,_,_,rfl,rfl,zO.of M.kin,qk1,?_⟩
  have lm:((ps.map V.ref).length:Nat)=i+1:=by rw[zx4];exact lp
  have pm:(0:Int)<((ps.map V.ref).length:Nat):=by rw[lm];omega
  refine⟨_,rfl,1,rfl,_,rfl,c,1,2,rfl,by decide,by decide,by decide,fun d2 _ _=>?_⟩
  refine⟨_,rfl,md,_,rfl,.inl (zO.of M.mad),_,_,rfl,rfl,pm,_,_,rfl,rfl,?_⟩
  have a0:=zyO d2 (show((ps.map V.ref).length:Int)≠0 by omega)
  have a1:=zyK d2 pm
  obtain⟨q1,hq1,hq1'⟩:=zae (ps:=ps) (i:=-1-d2%((ps.map V.ref).length:Nat)) (by rw[lm] at a0 a1 ⊢;omega) (by rw[lm] at a0 a1 ⊢;omega)
  refine⟨md,_,_,_,rfl,rfl,zO.of M.mad,hq1',?_⟩
  refine⟨_,rfl,_,rfl,c,2,60,rfl,by decide,by decide,by decide,fun d3 _ _=>?_⟩
  refine⟨_,rfl,md,_,rfl,.inl (zO.of M.mad),_,_,rfl,rfl,pm,?_⟩
  have b0:=zyO d3 (show((ps.map V.ref).length:Int)≠0 by omega)
  have b1:=zyK d3 pm
  obtain⟨q2,hq2,hq2'⟩:=zae (ps:=ps) (i:=d3%((ps.map V.ref).length:Nat)) (by rw[lm] at b0 b1 ⊢;omega) (by rw[lm] at b0 b1 ⊢;omega)
  refine⟨md,_,_,_,rfl,rfl,zO.of M.mad,hq2',?_⟩
  refine⟨_,rfl,_,rfl,c,3,40320,rfl,by decide,by decide,by decide,fun d4 _ _=>?_⟩
  obtain⟨x,hx,hx'⟩:=zaQ o0 d4
  refine⟨_,rfl,ol,_,rfl,.inl hO2,_,_,rfl,rfl,pl,ol,_,_,.str x,rfl,rfl,hO2,hx',?_⟩
  obtain⟨s1,s1i,s1o,s1d⟩:=M.all q1 hq1
  obtain⟨s2,s2i,s2o,s2d⟩:=M.all q2 hq2
  have big:ps.length<sizeLine:=Nat.lt_of_le_of_lt (show ps.length<=100 by omega) (by decide)
  have ziD:(ps.map V.ref).length<sizeLine:=by rw[zx4];exact big
  have mdu:∀(p:Addr) (o:HO),H' p=none->(upd H' p o) md=some (.lst (ps.map V.ref)):=fun p o hp=>by rw[zG (zH M.mad hp)];exact M.mad
  have fin:∀(p:Addr) (xs:List V) (s':Sn),H' p=none->TJ (upd H' p (.tup xs)) s' p->s'.Ve os->s'.depth<=i+1+1 ->
    ∃(ps':List Addr) (f1 f2 f3 f4 f5 f6:Option V),Made H (upd (upd H' p (.tup xs)) md (.lst (ps.map V.ref++[.ref p]))) os md kd ps' (i+1+1)/\ps'.length=i+1+1 /\
     [some (.ref sc),some (.int t),some (.int m),some (.ref ol),some (.ref kd),some (.ref md),some (.int (1+(i:Nat))),some (.int c),some (.str kind),some (.ref q1),some (.ref q2),some (.str x)]=[some (.ref sc),some (.int t),some (.int m),some (.ref ol),some (.ref kd),some (.ref md),f1,f2,f3,f4,f5,f6]:=fun p xs s' hp hs ho hd=>by
   have:=M.push f0 hp hs ho hd nk
   rw[zyi] at this
   exact⟨ps++[p],_,_,_,_,_,_,this,by simp[lp],rfl⟩
  refine⟨_,rfl,rfl,_,rfl,yC (fun c1=>?_) (fun c1=>?_)⟩
  ·have ek:kind="yes" := by have:=of_decide_eq_true c1;cases this;rfl
   subst ek
   refine TX ⟨_,rfl,.inl ⟨rfl,_,zO.of M.mad⟩,_,rfl,by show 1<=sizeLine;decide,fun p hp=>⟨md,_,_,rfl,rfl,mdu p _ hp,ziD,?_⟩⟩
   exact fin p _ (.c0 true) hp zj trivial (by show 1<=_;omega)
  have n1:kind ≠ "yes" := fun e=>c1 (decide_eq_true (by rw[e]))
  refine⟨_,rfl,rfl,_,rfl,yC (fun c2=>?_) (fun c2=>?_)⟩
  ·have ek:kind="no" := by have:=of_decide_eq_true c2;cases this;rfl
   subst ek
   refine⟨_,rfl,.inl ⟨rfl,_,zO.of M.mad⟩,_,rfl,by show 1<=sizeLine;decide,fun p hp=>⟨md,_,_,rfl,rfl,mdu p _ hp,ziD,?_⟩⟩
   exact fin p _ (.c0 false) hp zj trivial (by show 1<=_;omega)
  have n2:kind ≠ "no" := fun e=>c2 (decide_eq_true (by rw[e]))
  refine⟨_,rfl,rfl,_,rfl,yC (fun c3=>?_) (fun c3=>?_)⟩
  ·have ek:kind="mark" := by have:=of_decide_eq_true c3;cases this;rfl
   subst ek
   refine⟨_,rfl,.inl ⟨rfl,_,zO.of M.mad⟩,_,rfl,by show 2<=sizeLine;decide,fun p hp=>⟨md,_,_,rfl,rfl,mdu p _ hp,ziD,?_⟩⟩
   exact fin p _ (.mk x) hp zj hx (by show 1<=_;omega)
  have n3:kind ≠ "mark" := fun e=>c3 (decide_eq_true (by rw[e]))
  refine⟨_,rfl,rfl,_,rfl,yC (fun c4=>?_) (fun c4=>?_)⟩
  ·have ek:kind="not" := by have:=of_decide_eq_true c4;cases this;rfl
   subst ek
   refine⟨_,rfl,.inl ⟨rfl,_,zO.of M.mad⟩,_,rfl,by show 2<=sizeLine;decide,fun p hp=>⟨md,_,_,rfl,rfl,mdu p _ hp,ziD,?_⟩⟩
   exact fin p _ (.nt s1) hp ⟨q1,zj,s1i.mono (yJ.new hp _)⟩ s1o (by show 1+s1.depth<=_;omega)
  have n4:kind ≠ "not" := fun e=>c4 (decide_eq_true (by rw[e]))
  refine⟨_,rfl,rfl,_,rfl,yC (fun c5=>?_) (fun c5=>?_)⟩
  ·have ek:kind="some" := by have:=of_decide_eq_true c5;cases this;rfl
   subst ek
   refine TX ⟨_,rfl,.inl ⟨rfl,_,zO.of M.mad⟩,_,rfl,_,rfl,_,rfl,by show 3<=sizeLine;decide,fun p hp=>⟨md,_,_,rfl,rfl,mdu p _ hp,ziD,?_⟩⟩
   exact fin p _ (.q1 true x s1) hp ⟨q1,zj,s1i.mono (yJ.new hp _)⟩ ⟨hx,s1o⟩ (by show 1+s1.depth<=_;omega)
  have n5:kind ≠ "some" := fun e=>c5 (decide_eq_true (by rw[e]))
  refine⟨_,rfl,rfl,_,rfl,yC (fun c6=>?_) (fun c6=>?_)⟩
  ·have ek:kind="each" := by have:=of_decide_eq_true c6;cases this;rfl
   subst ek
   refine⟨_,rfl,.inl ⟨rfl,_,zO.of M.mad⟩,_,rfl,_,rfl,_,rfl,by show 3<=sizeLine;decide,fun p hp=>⟨md,_,_,rfl,rfl,mdu p _ hp,ziD,?_⟩⟩
   exact fin p _ (.q1 false x s1) hp ⟨q1,zj,s1i.mono (yJ.new hp _)⟩ ⟨hx,s1o⟩ (by show 1+s1.depth<=_;omega)
  have n6:kind ≠ "each" := fun e=>c6 (decide_eq_true (by rw[e]))
  obtain⟨o,ho⟩:∃o:Fin 4,kind=w2 o:=by
   have:kind∈([Str.ofString "mark", Str.ofString "mark", Str.ofString "not", Str.ofString "and", Str.ofString "or", Str.ofString "either", Str.ofString "if", Str.ofString "and", Str.ofString "or", Str.ofString "some", Str.ofString "each", Str.ofString "yes", Str.ofString "no", Str.ofString "mark"]:List Str):=hkm
   simp only[List.mem_cons,zyv,or_false] at this
   rcases this with h | h | h | h | h | h | h | h | h | h | h | h | h | h<;>first | exact absurd h n1 | exact absurd h n2 | exact absurd h n3 | exact absurd h n4 | exact absurd h n5 | exact absurd h n6 | exact⟨0,h⟩ | exact⟨1,h⟩ | exact⟨2,h⟩ | exact⟨3,h⟩
  subst ho
  refine⟨_,rfl,.inl ⟨rfl,_,zO.of M.mad⟩,_,rfl,_,rfl,_,rfl,by show 3<=sizeLine;decide,fun p hp=>⟨md,_,_,rfl,rfl,mdu p _ hp,ziD,?_⟩⟩
  exact fin p _ (.b2 o s2 s1) hp ⟨q2,q1,zj,s2i.mono (yJ.new hp _),s1i.mono (yJ.new hp _)⟩ ⟨s2o,s1o⟩ (by show 1+max s2.depth s1.depth<=_;omega)
 ·rintro σ H' ⟨ps,f1,f2,f3,f4,f5,f6,M,lp,rfl⟩
  obtain⟨p,hp,hp'⟩:=zae (ps:=ps) (i:=-1) (by omega) (by omega)
  obtain⟨s',z1,z2,z3⟩:=M.all p hp
  have e:((m:Int)-1).toNat+1=m:=by omega
  rw[e] at z3
  exact⟨_,rfl,1,rfl,md,_,-1,_,rfl,rfl,zO.of M.mad,hp',q p H' s' M.old z1 z2 z3⟩
theorem ziE (T:Txt P w K mg a):zB P w K mg base zX (k+1) a.Sx a.Sy Vh T4:=by
 refine T.zax.F.ok ziq (fun vs H Q E h=>?_) (fun cdv A outer s H vs Q E hr h=>?_)
 ·obtain⟨x,rfl,_⟩:=h
  rfl
 obtain⟨x,rfl,q⟩:=h
 refine⟨_,(zu (zL (vU Zm (pv 0) (wZ (v:=.ref a.zbK) rfl T.zol rfl) (by with_unfolding_all rfl)))),?_⟩
 refine⟨_,rfl,a.zbK,Yo.map V.str,rfl,.inr (T.zom H),rfl,wL _,?_⟩
 show Q (.bl (inV (.str x) (Yo.map V.str))) H
 rw[K3]
 exact q
theorem zhh (T:Txt P w K mg a)(zaD:zB P w K mg base zX k a.Sx a.Sy Vh T4):zB P w K mg base zX (k+1) a.Ke a.Kf RD (zag K):=by
 refine T.zcP.F.ok zgS (fun vs H Q E h=>?_) (fun cdv A outer s H vs Q E hr h=>?_)
 ·obtain⟨l,os,rfl,_⟩:=h
  rfl
 obtain⟨l,os,rfl,hq,h100,q⟩:=h
 refine⟨_,(zu (zL (Qs (vU KC (zF zE rfl T.yO yp (za (pv 0) zc)) zq (zU _)) (Qs (zF (Vs rfl) rfl T.zcT Lj (za (Ww (ZP:=zx Ka) (js:=[]) rfl (by show WR _ _ "letter" [];exact lco (by decide +kernel)) rfl (wC (pv 0)) (by show ∀j∈([]:List Nat),j<1;decide) (fun cl C s₂ H₂ fp=>(zp zaD hr T.zax (za (pv 0) zc)))) zc)) (zeL (vU xW (zF call_len_set' rfl T.yO yp (za (Xd (zlx rfl) rfl T.zrD zps (za (pv 0) zc)) zc)) (zF zE rfl T.yO yp (za (pv 0) zc)) (zU _))))))),?_⟩
 have hlen:(os.map V.str).length=os.length:=zx4 _
 refine⟨_,rfl,l,_,rfl,.inl hq,_,_,rfl,rfl,_,rfl,yC (fun c=>?_) (fun c=>?_)⟩
 ·have c':0<os.length:=by have:=of_decide_eq_true c;rw[hlen] at this;omega
  refine⟨_,rfl,l,rfl,⟨_,hq⟩,zbt (fun x v=>v=(match x with | .str y=>.bl (decide (y∈Yo)) | _=>.non)) hq (by rw[hlen];exact zyn (zQ (by omega))) ?_ (zlE zaS) ?_⟩
  ·intro i x H' hx g
   rw[zx6] at hx
   cases ho:os[i]? with
   | none=>rw[ho] at hx;cases hx
   | some y =>
    rw[ho] at hx
    cases hx
    exact⟨_,rfl,y,rfl,rfl,g⟩
  ·intro ys H' p hr' g hp
   have e:=Lp (f:=fun x=>match x with | .str y=>.bl (decide (y∈Yo)) | _=>.non) hr'
   rw[zyG] at e
   have e2:ys=(os.map fun y=>decide (y∈Yo)).map V.bl:=by rw[e,zyG];rfl
   subst e2
   have g1:=Same.new hp (.lst ((os.map fun y=>decide (y∈Yo)).map V.bl))
   refine⟨p,_,rfl,zO.of zj,_,rfl,yC (fun c2=>?_) (fun c2=>?_)⟩
   ·have hq2:=(g.trans g1).seq hq
    refine⟨_,rfl,l,os,rfl,hq2,h100,fun z hz=>⟨z,_,rfl,zj,?_⟩⟩
    have g2:=Same.new hz (znp P w z (dd os).length)
    refine⟨_,rfl,l,_,rfl,.inl (g2.seq hq2),rfl,?_⟩
    have e3:decide (V.int ((dd os).length:Nat)=V.int ((os.map V.str).length:Nat))=ze5 os:=by
     unfold ze5
     have c2':os.all (fun x=>decide (x∈Yo))=true:=by rw[List.all_map] at c2;exact c2
     rw[decide_eq_true c',c2',hlen]
     by_cases nd:os.Nodup
     ·rw[decide_eq_true nd,zlt nd];simp
     ·have:=zpp nd
      rw[decide_eq_false nd,decide_eq_false (fun z=>by injection z with z;omega)];rfl
    rw[e3]
    exact q _ ((g.trans g1).trans g2)
   ·have e4:ze5 os=false:=by
     unfold ze5
     have c2':os.all (fun x=>decide (x∈Yo))=false:=by
      rw[List.all_map] at c2
      exact Bool.eq_false_iff.mpr c2
     rw[c2',Bool.false_and,Bool.and_false]
    rw[<-e4]
    exact q _ (g.trans g1)
 ·have e4:ze5 os=false:=by
   unfold ze5
   rw[decide_eq_false (fun z=>c (decide_eq_true (by rw[hlen];omega))),Bool.false_and]
  rw[<-e4]
  exact q _ (Same.refl _)
theorem zdz (T:Txt P w K mg a):zB P w K mg base zX (k+1) a.Y0 a.Y4 Zo Wg:=by
 refine T.R6.F.ok zdr (fun vs H Q E h=>?_) (fun cdv A outer s H vs Q E hr h=>?_)
 ·obtain⟨p,x,m,n,rest,rfl,_⟩:=h
  rfl
 obtain⟨p,x,m,n,rest,rfl,hp,hm,hl,q⟩:=h
 refine⟨_,(zu (zL (ZQ zhP (pv 0) (Z7 zq) (Z7 (zJ xU zq (yc v7 (yc (zeY T.Ue.d) (wZ (v:=.ref a.SJ) rfl T.JQ rfl) (yc v7 (pv 0) zq (fun _ _=>rfl)) (fun _ _=>rfl)) zq (fun _ _=>rfl))))))),?_⟩
 obtain⟨pt,hv,hpt⟩:=T.Ue.y x m n hm
 refine⟨_,rfl,1,rfl,_,rfl,p,_,0,_,rfl,rfl,vL.of hp,at0,x,.ref pt,.ref pt,rfl,rfl,hv,rfl,pt,_,0,_,rfl,rfl,hpt H,at0,1,(m:Int),rfl,rfl,_,rfl,p,_,rfl,vL.of hp,zb4 (by decide),fun z hz=>?_⟩
 rw[zlF hl]
 exact q z hz
theorem zhi (T:Txt P w K mg a):zB P w K mg base zX (k+1) a.Yg a.Yh Ze Xg:=by
 refine T.R7.F.ok zgT (fun vs H Q E h=>?_) (fun cdv A outer s H vs Q E hr h=>?_)
 ·obtain⟨p,x,m,n,rest,rfl,_⟩:=h
  rfl
 obtain⟨p,x,m,n,rest,rfl,hp,hm,hl,q⟩:=h
 refine⟨_,(zu (zL (ZQ zhP (pv 0) (Z7 (zJ xU zq (yc v7 (yc (zeY T.Ue.d) (wZ (v:=.ref a.SJ) rfl T.JQ rfl) (yc v7 (pv 0) zq (fun _ _=>rfl)) (fun _ _=>rfl)) zq (fun _ _=>rfl)))) Uj))),?_⟩
 obtain⟨pt,hv,hpt⟩:=T.Ue.y x m n hm
 refine⟨_,rfl,_,rfl,p,_,0,_,rfl,rfl,vL.of hp,at0,x,.ref pt,.ref pt,rfl,rfl,hv,rfl,pt,_,0,_,rfl,rfl,hpt H,at0,1,(m:Int),rfl,rfl,_,rfl,p,_,rfl,vL.of hp,zb4 (by omega),fun z hz=>?_⟩
 rw[zlG hl]
 exact q z hz
theorem zbg (T:Txt P w K mg a)(Zj:zB P w K mg base zX k a.Yg a.Yh Ze Xg):zB P w K mg base zX (k+1) a.Y5 a.Y6 Zf (WY K):=by
 refine T.V9.F.ok Wx (fun vs H Q E h=>?_) (fun cdv A outer s H vs Q E hr h=>?_)
 ·obtain⟨l,ss,ps,rfl,_⟩:=h
  rfl
 obtain⟨l,ss,ps,rfl,hl,hp,hz,q⟩:=h
 refine⟨_,(zf (zA 1 Wx.nd (yE zc))
   (zf (wD PassesOwn.never rfl (wC (pv 0)) (yr (i:=2) Wx.nd rfl (Or.inl rfl)) (zu (yu (vd PySem.F.plainAttrs_list PySem.F.slot_list_extend PySem.F.type_list_extend zbX (pv 1) (za (zp Zj hr T.R7 (za (pv 2) zc)) zc)))))
   (zu (zL (pv 1))))),?_⟩
 have pl:=yK hp
 refine⟨by show 0<=sizeLine;decide,fun f hf=>?_⟩
 have g0:=Same.new hf (.lst [])
 refine⟨_,rfl,l,rfl,⟨_,g0.seq hl⟩,?_⟩
 refine uw (xs:=ps.map V.ref) (fun i σ H'=>∃(qs:List Addr) (f1:Option V),Same H H'/\H' f=some (.lst (qs.map V.ref))/\Paired (TJ H') ((ss.take i).flatMap Sn.parts) qs/\qs.length<=2*i/\i<=ss.length/\σ=[some (.ref l),some (.ref f),f1])
  ⟨[],_,g0,zj,.nil,by simp,zyr _,rfl⟩ ?_ ?_ ?_
 ·rintro i σ H' _ ⟨qs,f1,g,_⟩
  exact g.seq hl
 ·rintro i x σ H' hx ⟨qs,f1,g,hf',hqs,lq,li,rfl⟩
  rw[zx6] at hx
  cases ho:ps[i]? with
  | none=>rw[ho] at hx;cases hx
  | some p =>
   rw[ho] at hx
   cases hx
   obtain⟨sn,hsn,isp⟩:=zaR hp ho
   have hlt:=(zx7.mp hsn).1
   obtain⟨zs,c1,c2,c3,c4,c5⟩:=Nt (isp.mono (yJ.of g))
   have lz:=yK c2
   have lp2:=Sn.K4 sn
   refine⟨_,rfl,.inl ⟨rfl,_,zO.of hf'⟩,_,rfl,p,sn.word,sn.letters.length,sn.parts.length,_,rfl,c1,Yw sn,c3,fun b hb=>?_⟩
   rw[c5]
   have nfb:f≠b:=zH hf' hb
   have hf2:(upd H' b (.tup (zs.map V.ref))) f=some (.lst (qs.map V.ref)):=by rw[zG nfb];exact hf'
   refine⟨f,b,qs.map V.ref,zs.map V.ref,rfl,rfl,hf2,?_,?_,?_⟩
   ·exact vL.of zj
   ·rw[zx4,zx4]
    exact zyn (zQ (by omega))
   ·refine⟨qs++zs,_,(g.trans (Same.new hb _)).over hf _,by rw[zj,zyi],?_,?_,hlt,rfl⟩
    ·rw[xg hsn,List.flatMap_append,List.flatMap_singleton]
     have t1:yJ H' (upd (upd H' b (.tup (zs.map V.ref))) f (.lst (qs.map V.ref++zs.map V.ref))):=(yJ.new hb _).trans (yJ.lst hf2 _)
     exact Yc (wG (fun _ _ z=>z.mono t1) hqs) (wG (fun _ _ z=>z.mono t1) c2)
    ·rw[zyc];omega
 ·rintro σ H' ⟨qs,f1,g,hf',hqs,lq,li,rfl⟩
  rw[zx4,<-pl,zyx] at hqs
  exact⟨_,rfl,q f H' qs g hf hf' hqs⟩
theorem zfO (T:Txt P w K mg a)(zaD:zB P w K mg base zX k a.Sx a.Sy Vh T4)(R9:zB P w K mg base zX k a.Y0 a.Y4 Zo Wg)(Zj:zB P w K mg base zX k a.Yg a.Yh Ze Xg) :
  zB P w K mg base zX (k+1) a.Pn a.Pq Uq K6:=by
 refine T.zaZ.F.ok Js (fun vs H Q E h=>?_) (fun cdv A outer s H vs Q E hr h=>?_)
 ·obtain⟨p,s,rfl,_⟩:=h
  rfl
 obtain⟨p,sn,rfl,isp,hle,q⟩:=h
 refine⟨_,(zf (yI (PW.pt (Ky (zP xW (zF zE rfl T.yO yp (za (pv 0) zc)) zq (zU _)) (Ky (Rh (Za (zF Uk rfl T.yN yH (za (yc v7 (pv 0) zq (fun _ _=>rfl)) (za (Kw (v:=.ty "str") rfl T.zrE zpr rfl) zc))) (fun _=>rfl))) (Le (zP (zdi T.Ue.d) (yc v7 (pv 0) zq (fun _ _=>rfl)) (wZ (v:=.ref a.SJ) rfl T.JQ rfl) (by with_unfolding_all rfl)))))) (zu (zL Kv)) z8)
   (zf (zA 1 Js.nd (yc (zeY T.Ue.d) (wZ (v:=.ref a.SJ) rfl T.JQ rfl) (yc v7 (pv 0) zq (fun _ _=>rfl)) (fun _ _=>rfl)))
   (zf (yI (zP Mt (zF zE rfl T.yO yp (za (pv 0) zc)) (zJ xU (zJ xU zq (yc v7 (pv 1) zq (fun _ _=>rfl))) (yc v7 (pv 1) zq (fun _ _=>rfl))) (zU _)) (zu (zL Kv)) z8)
   (zf (yI (Rh (Za (zF (Vs rfl) rfl T.zcT Lj (za (Ww (ZP:=zx Uo) (js:=[]) rfl (by show WR _ _ "letter" [];exact lco (by decide +kernel)) rfl (J6 (zp R9 hr T.R6 (za (pv 0) zc))) (by show ∀j∈([]:List Nat),j<2;decide) (fun cl C s₂ H₂ fp=>(zp zaD hr T.zax (za (pv 0) zc)))) zc)) (fun _=>rfl))) (zu (zL Kv)) z8)
   (zu (zL (zF (Vs rfl) rfl T.zcT Lj (za (Ww (ZP:=zx Uo) (js:=[]) rfl (by show WR _ _ "part" [];exact lco (by decide +kernel)) rfl (J6 (zp Zj hr T.R7 (za (pv 0) zc))) (by show ∀j∈([]:List Nat),j<2;decide) (fun cl C s₂ H₂ fp=>(zF (ze3 (K:=K) rfl) rfl T.yN yH (za (pv 0) (za (Kw (v:=.ty "tuple") rfl T.zjV zgf rfl) zc))))) zc)))))))),?_⟩
 obtain⟨zs,c1,c2,c3,c4,c5⟩:=Nt isp
 have lz:=yK c2
 obtain⟨pt,hv,hpt⟩:=T.Ue.y _ _ _ (Yw sn)
 have lp2:=Sn.K4 sn
 have ll1:=Sn.zb5 sn
 refine⟨_,rfl,p,_,rfl,.inr (vL.of c1),rfl,_,rfl,yC (fun c=>?_) (fun _=>?_)⟩
 ·exfalso
  have:=of_decide_eq_true c
  injection this with this
  rw[zyg] at this
  omega
 refine⟨_,rfl,p,_,0,_,rfl,rfl,vL.of c1,at0,_,_,_,true,rfl,.str sn.word,rfl,_,rfl,U3 ?_⟩
 refine⟨_,rfl,p,_,0,_,rfl,rfl,vL.of c1,at0,sn.word,rfl,rfl,_,rfl,?_⟩
 rw[hv]
 refine U3 ?_
 refine⟨_,rfl,p,_,0,_,rfl,rfl,vL.of c1,at0,sn.word,.ref pt,.ref pt,rfl,rfl,hv,rfl,?_⟩
 refine⟨_,rfl,p,_,rfl,.inr (vL.of c1),_,rfl,pt,_,0,_,rfl,rfl,hpt H,at0,1,_,rfl,rfl,_,rfl,pt,_,1,_,rfl,rfl,hpt H,at1,_,_,rfl,rfl,rfl,_,rfl,yC (fun c=>?_) (fun _=>?_)⟩
 ·exfalso
  have z:V.int ((VC sn zs).length:Nat)=V.int (1+((sn.letters.length:Nat):Int)+((sn.parts.length:Nat):Int)):=by
   congr 1
   show(((V.str sn.word::(sn.letters.map V.str++zs.map V.ref)).length:Nat):Int)=_
   rw[zyg,c3]
   omega
  have c':(!decide (V.int ((VC sn zs).length:Nat)=V.int (1+((sn.letters.length:Nat):Int)+((sn.parts.length:Nat):Int))))=true:=c
  rw[decide_eq_true z] at c'
  cases c'
 refine⟨_,rfl,p,sn.word,sn.letters.length,sn.parts.length,_,rfl,c1,Yw sn,c3,fun b hb=>?_⟩
 rw[c4]
 have g1:=Same.new hb (.tup (sn.letters.map V.str))
 refine⟨b,rfl,⟨_,vL.of zj⟩,zjf (xs:=sn.letters.map V.str) (fun _ v=>v=.bl true) (vL.of zj) (by rw[zx4];exact zyn (zQ (by omega))) ?_ (zlE zaS) ?_⟩
 ·intro i x H' hx g
  rw[zx6] at hx
  cases ho:sn.letters[i]? with
  | none=>rw[ho] at hx;cases hx
  | some y =>
   rw[ho] at hx
   cases hx
   refine⟨_,rfl,y,rfl,?_,g⟩
   rw[decide_eq_true (hle y (zx9 ho))]
 intro ys H' p2 hr' g hp2
 have e:=Lp (f:=fun _=>.bl true) hr'
 have e2:ys=(sn.letters.map fun _=>true).map V.bl:=by rw[e,zyG,zyG];rfl
 subst e2
 have g2:=Same.new hp2 (.lst ((sn.letters.map fun _=>true).map V.bl))
 have ea:(sn.letters.map fun _=>true).all id=true:=by rw[List.all_map,zyy];exact fun _ _=>rfl
 refine⟨p2,_,rfl,zO.of zj,_,rfl,?_⟩
 rw[ea]
 refine U3 ?_
 have gg:=(g1.trans g).trans g2
 have c1':=gg _ _ c1
 refine⟨_,rfl,p,sn.word,sn.letters.length,sn.parts.length,_,rfl,c1',Yw sn,c3,fun b3 hb3=>?_⟩
 rw[c5]
 have g3:=Same.new hb3 (.tup (zs.map V.ref))
 refine⟨b3,rfl,⟨_,vL.of zj⟩,zjf (xs:=zs.map V.ref) (fun _ v=>v=.bl true) (vL.of zj) (by rw[zx4];exact zyn (zQ (by omega))) ?_ ?_ ?_⟩
 ·intro i x H4 hx g4
  rw[zx6] at hx
  cases ho:zs[i]? with
  | none=>rw[ho] at hx;cases hx
  | some y =>
   rw[ho] at hx
   cases hx
   obtain⟨sy,_,iy⟩:=zaR c2 ho
   obtain⟨ws,d1,_⟩:=Nt iy
   have d1':=((gg.trans g3).trans g4) _ _ d1
   exact⟨_,rfl,_,_,_,true,rfl,.tup d1',rfl,rfl,g4⟩
 ·rintro σ' H' Q1 Q2 hQ ⟨v,e,x,T',t,b',h1,h2,h3,h4⟩
  exact⟨v,e,x,T',t,b',h1,h2,h3,hQ _ _ h4⟩
 ·intro ys H4 p4 hr4 g4 hp4
  have e:=Lp (f:=fun _=>.bl true) hr4
  have e2:ys=(zs.map fun _=>true).map V.bl:=by rw[e,zyG,zyG];rfl
  subst e2
  have ea:(zs.map fun _=>true).all id=true:=by rw[List.all_map,zyy];exact fun _ _=>rfl
  refine⟨p4,_,rfl,zO.of zj,?_⟩
  rw[ea]
  exact q _ (((gg.trans g3).trans g4).trans (Same.new hp4 _))
theorem zcW (T:Txt P w K mg a)(zhj:zB P w K mg base zX k a.Pn a.Pq Uq K6)(Ug:zB P w K mg base zX k a.Y5 a.Y6 Zf (WY K)) :
  zB P w K mg base zX (k+1) a.Tn a.Tp XF ze6:=by
 refine T.M8.F.ok vD (fun vs H Q E h=>?_) (fun cdv A outer s H vs Q E hr h=>?_)
 ·obtain⟨p,s,rfl,_⟩:=h
  rfl
 obtain⟨p,sn,rfl,isp,hin,hc,hd,q⟩:=h
 refine⟨_,(zf (zA 1 vD.nd (yE (za (pv 0) zc)))
   (zf (zA 2 vD.nd zq)
   (zf (zA 3 vD.nd zq)
   (zf (Kz PassesOwn.never (zP KC (zF zE rfl T.yO yp (za (pv 1) zc)) zq (zU _)) (zf (zhA (i:=2) vD.nd rfl (Or.inl rfl) zq zeM)
   (zf (zhA (i:=3) vD.nd rfl (Or.inl rfl) (zF zE rfl T.yO yp (za (pv 1) zc)) zeM)
   (zf (yI (PW.pt (Ky (zP KC (pv 2) (wZ (v:=.int 24) rfl T.zhe ⟨_,rfl⟩) (zU _)) (Le (zP KC (pv 3) (wZ (v:=.int 200) rfl T.zdy ⟨_,rfl⟩) (zU _))))) (zu (zL Kv)) z8)
   (zf (yI (Rh (Za (zF (Vs rfl) rfl T.zcT Lj (za (Ww (ZP:=zx Tc) (js:=[]) rfl (by show WR _ _ "part" [];exact lco (by decide +kernel)) rfl (wC (pv 1)) (by show ∀j∈([]:List Nat),j<4;decide) (fun cl C s₂ H₂ fp=>(zp zhj hr T.zaZ (za (pv 0) zc)))) zc)) (fun _=>rfl))) (zu (zL Kv)) z8)
   (zu (zA 1 vD.nd (zp Ug hr T.V9 (za (pv 1) zc)))))))))
   (zu (zL Kv)))))),?_⟩
 refine⟨_,rfl,by show 1<=sizeLine;decide,fun l0 hl0=>?_⟩
 have g0:=Same.new hl0 (.lst [.ref p])
 refine⟨fun m σ H'=>∃(ss:List Sn) (ps:List Addr) (l:Addr) (d t:Nat),m=cnt ss/\Same H H'/\H' l=some (.lst (ps.map V.ref))/\Paired (TJ H') ss ps/\(∀u∈ss,u.Ve Yo/\d+u.depth<=24)/\t+cnt ss<=200/\σ=[some (.ref p),some (.ref l),some (.int d),some (.int t)],
  ⟨_,[sn],[p],l0,0,0,rfl,g0,zj,.cons (isp.mono (yJ.of g0)) .nil,?_,?_,rfl⟩,?_⟩
 ·intro u hu
  have e:u=sn:=by simpa using hu
  subst e
  exact⟨hin,by omega⟩
 ·show 0+(sn.count+0)<=200
  omega
 rintro m σ H' ⟨ss,ps,l,d,t,rfl,g,hl,hp,hi,ht,rfl⟩
 have lp:=yK hp
 have le:(ps.map V.ref).length=ss.length:=by rw[zx4];exact lp.symm
 have cl:=zjg ss
 refine⟨_,rfl,l,_,rfl,.inl (zO.of hl),_,_,rfl,rfl,_,rfl,yC (fun c=>?_) (fun c=>?_)⟩
 ·have c':0<ss.length:=by have:=of_decide_eq_true c;rw[le] at this;omega
  have hd1:d+1<=24:=by
   have hm:ss[0]∈ss:=zyM c'
   have:=(hi _ hm).2
   have:=Sn.Nm ss[0]
   omega
  refine⟨_,fun σ' H2 h=>h,?_⟩
  refine⟨_,rfl,(d:Int),1,rfl,rfl,?_⟩
  refine⟨_,rfl,_,rfl,l,_,rfl,.inl (zO.of hl),(t:Int),_,rfl,rfl,?_⟩
  refine⟨_,rfl,_,_,rfl,rfl,_,rfl,yC (fun c2=>?_) (fun _=>?_)⟩
  ·exfalso
   have:=of_decide_eq_true c2
   omega
  refine⟨_,rfl,_,_,rfl,rfl,_,rfl,yC (fun c2=>?_) (fun _=>?_)⟩
  ·exfalso
   have:=of_decide_eq_true c2
   rw[le] at this
   omega
  refine⟨_,rfl,l,rfl,⟨_,zO.of hl⟩,zbt (fun _ v=>v=.bl true) (zO.of hl) (by rw[le];exact zyn (zQ (by omega))) ?_ (zlE zgk) ?_⟩
  ·intro i x H2 hx g2
   rw[zx6] at hx
   cases ho:ps[i]? with
   | none=>rw[ho] at hx;cases hx
   | some y =>
    rw[ho] at hx
    cases hx
    obtain⟨sy,hsy,iy⟩:=zaR hp ho
    exact⟨_,rfl,y,sy,rfl,iy.mono (yJ.of g2),Sn.zgg sy (hi sy (zx9 hsy)).1,fun H3 g3=>⟨rfl,g2.trans g3⟩⟩
  intro ys H2 p2 hr' g2 hp2
  have e:=Lp (f:=fun _=>.bl true) hr'
  have e2:ys=(ps.map fun _=>true).map V.bl:=by rw[e,zyG,zyG];rfl
  subst e2
  have g3:=Same.new hp2 (.lst ((ps.map fun _=>true).map V.bl))
  have ea:(ps.map fun _=>true).all id=true:=by rw[List.all_map,zyy];exact fun _ _=>rfl
  refine⟨p2,_,rfl,zO.of zj,_,rfl,?_⟩
  rw[ea]
  refine U3 ?_
  have gg:=g2.trans g3
  refine⟨_,rfl,l,ss,ps,rfl,gg.seq (zO.of hl),wG (fun _ _ z=>z.mono (yJ.of gg)) hp,by omega,fun l' H4 ps' g4 hn hl' hp'=>?_⟩
  have cp:=Nr ss
  refine⟨cnt (ss.flatMap Sn.parts),by omega,ss.flatMap Sn.parts,ps',l',d+1,t+(ps.map V.ref).length,rfl,(g.trans gg).trans g4,hl',hp',?_,by omega,rfl⟩
  intro u hu
  obtain⟨s',hs',hu'⟩:=zaf.mp hu
  obtain⟨i1,i2⟩:=hi s' hs'
  have:=Sn.Qw s' u hu'
  exact⟨Sn.zea s' i1 u hu',by omega⟩
 ·exact q _ g
theorem zaE (T:Txt P w K mg a)(ziF:zB P w K mg base zX k a.Ke a.Kf RD (zag K)):zB P w K mg base zX (k+1) a.Wy a.Wz Z8 (Qx K):=by
 refine T.Qm.F.ok zau (fun vs H Q E h=>?_) (fun cdv A outer s H vs Q E hr h=>?_)
 ·obtain⟨l,os,rfl,_⟩:=h
  rfl
 obtain⟨l,os,rfl,hq,ho,q⟩:=h
 refine⟨_,(zu (yI (Rh (Za (zp ziF hr T.zcP (za (pv 0) zc)) (fun _=>rfl))) (zu Vp) z8)),?_⟩
 refine⟨_,rfl,l,os,rfl,hq,zyq ho.le (by decide),fun H' g=>⟨_,rfl,?_⟩⟩
 rw[znz ho]
 exact U3 (q H' g)
theorem Ms (T:Txt P w K mg a)(zdA:zB P w K mg base zX k a.Tn a.Tp XF ze6):zB P w K mg base zX (k+1) a.Yi a.Yj uR zah:=by
 refine T.Ua.F.ok Mq (fun vs H Q E h=>?_) (fun cdv A outer s H vs Q E hr h=>?_)
 ·obtain⟨p,s,rfl,_⟩:=h
  rfl
 obtain⟨p,sn,rfl,h1,h2,h3,h4,q⟩:=h
 refine⟨_,(zu (yI (Rh (Za (zp zdA hr T.M8 (za (pv 0) zc)) (fun _=>rfl))) (zu Vp) z8)),?_⟩
 exact⟨_,rfl,p,sn,rfl,h1,h2,h3,h4,fun H' g=>⟨_,rfl,U3 (q H' g)⟩⟩
theorem zfP (T:Txt P w K mg a)(Ug:zB P w K mg base zX k a.Y5 a.Y6 Zf (WY K)):zB P w K mg base zX (k+1) a.Pr a.Pu Us Lq:=by
 refine T.za0.F.ok W2 (fun vs H Q E h=>?_) (fun cdv A outer s H vs Q E hr h=>?_)
 ·obtain⟨p,s,rfl,_⟩:=h
  rfl
 obtain⟨p,sn,rfl,isp,hc,q⟩:=h
 refine⟨_,(zf (zA 1 W2.nd (yE zc))
   (zf (zA 2 W2.nd (yE (za (pv 0) zc)))
   (zf (Kz PassesOwn.never (zP KC (zF zE rfl T.yO yp (za (pv 2) zc)) zq (zU _)) (zf (yu (vd PySem.F.plainAttrs_list PySem.F.slot_list_extend PySem.F.type_list_extend zd6 (pv 1) (za (pv 2) zc)))
   (zu (zA 2 W2.nd (zp Ug hr T.V9 (za (pv 2) zc))))))
   (zu (zL (pv 1)))))),?_⟩
 refine⟨by show 0<=sizeLine;decide,fun f hf=>?_⟩
 refine⟨_,rfl,by show 1<=sizeLine;decide,fun l0 hl0=>?_⟩
 have g0:=(Same.new hf (.lst [])).trans (Same.new hl0 (.lst [.ref p]))
 have nfl:f≠l0:=zH zj hl0
 refine⟨fun m σ H'=>∃(ts ss:List Sn) (qs ps:List Addr) (l:Addr),m=cnt ss/\Same H H'/\H' f=some (.lst (qs.map V.ref))/\H' l=some (.lst (ps.map V.ref))/\f≠l/\Paired (TJ H') ts qs/\Paired (TJ H') ss ps/\ts.length+cnt ss=sn.count /\
   (∀x,((∃t∈ts,x∈t.letters)\/∃u∈ss,x∈u.all)↔x∈sn.all)/\σ=[some (.ref p),some (.ref f),some (.ref l)],
  ⟨_,[],[sn],[],[p],l0,rfl,g0,by rw[zG nfl];exact zj,zj,nfl,.nil,.cons (isp.mono (yJ.of g0)) .nil,?_,?_,rfl⟩,?_⟩
 ·show 0+(sn.count+0)=sn.count
  omega
 ·intro x
  simp
 rintro m σ H' ⟨ts,ss,qs,ps,l,rfl,g,hf',hl,nfl,hts,hss,hcn,hle,rfl⟩
 have lt:=yK hts
 have lp:=yK hss
 have cl:=zjg ss
 have le:(ps.map V.ref).length=ss.length:=by rw[zx4];exact lp.symm
 refine⟨_,rfl,l,_,rfl,.inl (zO.of hl),_,_,rfl,rfl,_,rfl,yC (fun c=>?_) (fun c=>?_)⟩
 ·have c':0<ss.length:=by have:=of_decide_eq_true c;rw[le] at this;omega
  refine⟨_,fun σ' H2 h=>h,?_⟩
  refine⟨_,rfl,.inl ⟨rfl,_,zO.of hf'⟩,_,rfl,f,l,_,_,rfl,rfl,hf',hl,by rw[zx4,zx4];exact zyn (zQ (by omega)),?_⟩
  have t1:yJ H' (upd H' f (.lst (qs.map V.ref++ps.map V.ref))):=yJ.lst hf' _
  have g1:Same H (upd H' f (.lst (qs.map V.ref++ps.map V.ref))):=g.over hf _
  have hl1:(upd H' f (.lst (qs.map V.ref++ps.map V.ref))) l=some (.lst (ps.map V.ref)):=by rw[zG (Ne.symm nfl)];exact hl
  refine⟨_,rfl,l,ss,ps,rfl,zO.of hl1,wG (fun _ _ z=>z.mono t1) hss,by omega,fun l' H3 ps' g3 hn hl' hp'=>?_⟩
  have cp:=Nr ss
  have t3:=t1.trans (yJ.of g3)
  refine⟨cnt (ss.flatMap Sn.parts),by omega,ts++ss,ss.flatMap Sn.parts,qs++ps,ps',l',rfl,g1.trans g3,by rw[zyi];exact g3 _ _ zj,hl',zH zj hn,
   Yc (wG (fun _ _ z=>z.mono t3) hts) (wG (fun _ _ z=>z.mono t3) hss),hp',by rw[zyc];omega,fun x=>?_,rfl⟩
  rw[<-hle x]
  constructor
  ·rintro (⟨t,ht,hx⟩ | ⟨u,hu,hx⟩)
   ·rcases List.mem_append.mp ht with z | z
    ·exact .inl ⟨t,z,hx⟩
    ·exact .inr ⟨t,z,(Sn.ze4 t x).mpr (.inl hx)⟩
   ·obtain⟨s',hs',hu'⟩:=zaf.mp hu
    exact .inr ⟨s',hs',(Sn.ze4 s' x).mpr (.inr ⟨u,hu',hx⟩)⟩
  ·rintro (⟨t,ht,hx⟩ | ⟨u,hu,hx⟩)
   ·exact .inl ⟨t,List.mem_append_left _ ht,hx⟩
   ·rcases (Sn.ze4 u x).mp hx with z | ⟨v,hv,z⟩
    ·exact .inl ⟨u,zyl _ hu,z⟩
    ·exact .inr ⟨v,zaf.mpr ⟨u,hu,hv⟩,z⟩
 ·have c':ss=[]:=by
   have:¬ 0<ss.length:=fun z=>c (decide_eq_true (by rw[le];omega))
   exact List.length_eq_zero_iff.mp (by omega)
  subst c'
  refine⟨_,rfl,q f H' ts qs g hf hf' hts ?_ fun x=>?_⟩
  ·have:cnt []=0:=rfl
   omega
  ·rw[<-hle x]
   constructor
   ·exact fun z=>.inl z
   ·rintro (z | ⟨u,hu,_⟩)
    ·exact z
    ·cases hu
theorem zdB (T:Txt P w K mg a)(zhk:zB P w K mg base zX k a.Pr a.Pu Us Lq)(R9:zB P w K mg base zX k a.Y0 a.Y4 Zo Wg):zB P w K mg base zX (k+1) a.RM a.RN W3 Qy:=by
 refine T.JK.F.ok Td (fun vs H Q E h=>?_) (fun cdv A outer s H vs Q E hr h=>?_)
 ·obtain⟨p,s,rfl,_⟩:=h
  rfl
 obtain⟨p,sn,rfl,isp,hc,q⟩:=h
 refine⟨_,(zf (zA 1 Td.nd (yE zc))
   (zf (wD PassesOwn.never rfl (wC (zp zhk hr T.za0 (za (pv 0) zc))) (yr (i:=2) Td.nd rfl (Or.inl rfl)) (zu (yu (vd PySem.F.plainAttrs_list PySem.F.slot_list_extend PySem.F.type_list_extend zbX (pv 1) (za (zp R9 hr T.R6 (za (pv 2) zc)) zc)))))
   (zu (zL (pv 1))))),?_⟩
 refine⟨by show 0<=sizeLine;decide,fun f hf=>?_⟩
 have g0:=Same.new hf (.lst [])
 refine⟨_,rfl,p,sn,rfl,isp.mono (yJ.of g0),hc,fun l H1 ts ps g1 hn hl hts htl hle=>?_⟩
 have nfl:f≠l:=zH zj hn
 have lt:=yK hts
 refine⟨l,rfl,⟨_,zO.of hl⟩,?_⟩
 refine uw (xs:=ps.map V.ref) (fun i σ H'=>∃(f1:Option V),Same H H'/\H' f=some (.lst (((ts.take i).flatMap Sn.letters).map V.str))/\H' l=some (.lst (ps.map V.ref))/\Paired (TJ H') ts ps/\((ts.take i).flatMap Sn.letters).length<=i/\i<=ts.length/\σ=[some (.ref p),some (.ref f),f1])
  ⟨_,g0.trans g1,g1 _ _ zj,hl,hts,by simp,zyr _,rfl⟩ ?_ ?_ ?_
 ·rintro i σ H' _ ⟨f1,g,hf',hl',_⟩
  exact zO.of hl'
 ·rintro i x σ H' hx ⟨f1,g,hf',hl',hts',lq,li,rfl⟩
  rw[zx6] at hx
  cases ho:ps[i]? with
  | none=>rw[ho] at hx;cases hx
  | some pp =>
   rw[ho] at hx
   cases hx
   obtain⟨sy,hsy,iy⟩:=zaR hts' ho
   have hlt:=(zx7.mp hsy).1
   obtain⟨zs,c1,c2,c3,c4,c5⟩:=Nt iy
   have l1:=Sn.zb5 sy
   refine⟨_,rfl,.inl ⟨rfl,_,zO.of hf'⟩,_,rfl,pp,sy.word,sy.letters.length,sy.parts.length,_,rfl,c1,Yw sy,c3,fun b hb=>?_⟩
   rw[c4]
   have hf2:(upd H' b (.tup (sy.letters.map V.str))) f=some (.lst (((ts.take i).flatMap Sn.letters).map V.str)):=by rw[zG (zH hf' hb)];exact hf'
   refine⟨f,b,_,sy.letters.map V.str,rfl,rfl,hf2,vL.of zj,?_,?_⟩
   ·rw[zx4,zx4]
    exact zyn (zQ (by omega))
   ·have t1:yJ H' (upd (upd H' b (.tup (sy.letters.map V.str))) f (.lst (((ts.take i).flatMap Sn.letters).map V.str++sy.letters.map V.str))):=(yJ.new hb _).trans (yJ.lst hf2 _)
    have e:(ts.take (i+1)).flatMap Sn.letters=(ts.take i).flatMap Sn.letters++sy.letters:=by rw[xg hsy,List.flatMap_append,List.flatMap_singleton]
    refine⟨_,(g.trans (Same.new hb _)).over hf _,by rw[zj,e,zyi],?_,wG (fun _ _ z=>z.mono t1) hts',by rw[e,zyc];omega,hlt,rfl⟩
    rw[zG (Ne.symm nfl),zG (zH hl' hb)]
    exact hl'
 ·rintro σ H' ⟨f1,g,hf',hl',hts',lq,li,rfl⟩
  rw[zx4,<-lt,zyx] at hf' lq
  refine⟨_,rfl,q f H' _ g hf hf' (fun x=>?_) (by omega)⟩
  rw[<-hle x,List.mem_flatMap]
theorem JR (T:Txt P w K mg a):zB P w K mg base zX (k+1) a.Zu a.Zv uz (Rq K):=by
 refine T.S7.F.ok Jt (fun vs H Q E h=>?_) (fun cdv A outer s H vs Q E hr h=>?_)
 ·obtain⟨l,x,os,rfl,_⟩:=h
  rfl
 obtain⟨l,x,os,rfl,hO,hx,q⟩:=h
 refine⟨_,(zu (yI (zP zeU (pv 1) (pv 0) (by with_unfolding_all rfl)) (zu Vp) z8)),?_⟩
 refine⟨_,rfl,_,rfl,l,_,rfl,.inl hO,rfl,wL _,_,rfl,?_⟩
 have e:(if true=true then !inV (.str x) (os.map V.str) else inV (.str x) (os.map V.str))=false:=by
  rw[if_pos rfl,K3,decide_eq_true hx];rfl
 rw[e]
 exact U3 q
theorem Kl (T:Txt P w K mg a)(zfQ:zB P w K mg base zX k a.RM a.RN W3 Qy)(zaF:zB P w K mg base zX k a.Zu a.Zv uz (Rq K)):zB P w K mg base zX (k+1) a.Y7 a.Y8 tX (Qz K):=by
 refine T.UJ.F.ok VD (fun vs H Q E h=>?_) (fun cdv A outer s H vs Q E hr h=>?_)
 ·obtain⟨l,p,os,s,rfl,_⟩:=h
  rfl
 obtain⟨l,p,os,sn,rfl,hO,isp,hc,hin,q⟩:=h
 refine⟨_,(zu (wD PassesOwn.never rfl (wC (zp zfQ hr T.JK (za (pv 1) zc))) (yr (i:=2) VD.nd rfl (Or.inl rfl)) (zu (yu (zp zaF hr T.S7 (za (pv 0) (za (pv 2) zc))))))),?_⟩
 refine⟨_,rfl,p,sn,rfl,isp,hc,fun f H1 xs g1 hn hl hmem hxl=>?_⟩
 refine⟨f,rfl,⟨_,zO.of hl⟩,?_⟩
 refine uw (xs:=xs.map V.str) (fun i σ H'=>∃f1:Option V,H'=H1/\σ=[some (.ref l),some (.ref p),f1]) ⟨_,rfl,rfl⟩ ?_ ?_ ?_
 ·rintro i σ H' _ ⟨f1,rfl,_⟩
  exact zO.of hl
 ·rintro i x σ H' hx ⟨f1,rfl,rfl⟩
  rw[zx6] at hx
  cases ho:xs[i]? with
  | none=>rw[ho] at hx;cases hx
  | some y =>
   rw[ho] at hx
   cases hx
   have hy:y∈os:=(Sn.WX sn).mp hin y ((hmem y).mp (zx9 ho))
   exact⟨_,rfl,_,rfl,l,y,os,rfl,g1.seq hO,hy,_,rfl,rfl⟩
 ·rintro σ H' ⟨f1,rfl,rfl⟩
  exact q _ g1
theorem zbh (T:Txt P w K mg a):zB P w K mg base zX (k+1) a.Zg a.Zh uD zgl:=by
 refine T.PJ.F.ok zba (fun vs H Q E h=>?_) (fun cdv A outer s H vs Q E hr h=>?_)
 ·obtain⟨o,N,M,n,f,g,rfl,_⟩:=h
  rfl
 obtain⟨o,N,M,n,f,g,rfl,hN,hM,q⟩:=h
 refine⟨_,(zf (yI (zP xW (pv 0) zZ (zU _)) (zu (zL (zJ tV (pv 1) (pv 2)))) z8)
   (zf (yI (zP xW (pv 0) zZ (zU _)) (zu (zL (zJ Rn (pv 1) (pv 2)))) z8)
   (zf (yI (zP xW (pv 0) zZ (zU _)) (zu (zL (zJ Nq (pv 1) (pv 2)))) z8)
   (zu (zL (zJ Rn (zJ Nq (pv 3) (pv 1)) (pv 2))))))),?_⟩
 rcases zpv o with e | e | e | e
 ·subst e
  exact⟨_,rfl,rfl,_,rfl,yC (fun _=>⟨_,rfl,_,rfl,N,M,rfl,rfl,q _ (WW hN hM)⟩) (fun c=>absurd (decide_eq_true rfl) c)⟩
 ·subst e
  refine⟨_,rfl,rfl,_,rfl,yC (fun c=>absurd c (ne_str (show Str.ofString "or" ≠ Str.ofString "and" by decide +kernel))) (fun _=>?_)⟩
  exact⟨_,rfl,rfl,_,rfl,yC (fun _=>⟨_,rfl,_,rfl,N,M,rfl,rfl,q _ (Lk hN hM)⟩) (fun c=>absurd (decide_eq_true rfl) c)⟩
 ·subst e
  refine⟨_,rfl,rfl,_,rfl,yC (fun c=>absurd c (ne_str (show Str.ofString "either" ≠ Str.ofString "and" by decide +kernel))) (fun _=>?_)⟩
  refine⟨_,rfl,rfl,_,rfl,yC (fun c=>absurd c (ne_str (show Str.ofString "either" ≠ Str.ofString "or" by decide +kernel))) (fun _=>?_)⟩
  exact⟨_,rfl,rfl,_,rfl,yC (fun _=>⟨_,rfl,_,rfl,N,M,rfl,rfl,q _ (Rk hN hM)⟩) (fun c=>absurd (decide_eq_true rfl) c)⟩
 ·subst e
  refine⟨_,rfl,rfl,_,rfl,yC (fun c=>absurd c (ne_str (show Str.ofString "if" ≠ Str.ofString "and" by decide +kernel))) (fun _=>?_)⟩
  refine⟨_,rfl,rfl,_,rfl,yC (fun c=>absurd c (ne_str (show Str.ofString "if" ≠ Str.ofString "or" by decide +kernel))) (fun _=>?_)⟩
  refine⟨_,rfl,rfl,_,rfl,yC (fun c=>absurd c (ne_str (show Str.ofString "if" ≠ Str.ofString "either" by decide +kernel))) (fun _=>?_)⟩
  refine⟨_,rfl,_,rfl,_,N,rfl,rfl,_,rfl,_,M,rfl,rfl,q _ (vM (Lk (Rk (KY n) hN) hM) fun b _=>?_)⟩
  show((true != f b)||g b)=(!f b||g b)
  cases f b<;>rfl
theorem zdC {d:Nat}(T:Txt P w K mg a)(vH:zB P w K mg base zX k a.Yd a.Ye Zd Xe)(wA:zB P w K mg base zX k a.vW a.vX vf uQ)
  (uL:zB P w K mg base zX k a.Xl a.Xm Yq Xf)(Zj:zB P w K mg base zX k a.Yg a.Yh Ze Xg)
  (Y9:zB P w K mg base zX k a.Zg a.Zh uD zgl)
  (Km:zB P w K mg base zX k a.VN a.VP Xk (Rr K d)):zB P w K mg base zX (k+1) a.VN a.VP Xk (Rr K (d+1)):=by
 refine T.Kh.F.ok Ut (fun vs H Q E h=>?_) (fun cdv A outer s H vs Q E hr h=>?_)
 ·obtain⟨p,l,sn,os,rfl,_⟩:=h
  rfl
 obtain⟨p,l,sn,os,rfl,isp,hO,hin,h8,hd,q⟩:=h
 refine⟨_,(zf (zA 2 Ut.nd (yc v7 (pv 0) zq (fun _ _=>rfl)))
   (zf (zA 3 Ut.nd (zF zE rfl T.yO yp (za (pv 1) zc)))
   (zf (yI (zP xW (pv 2) zZ (zU _)) (zu (zL zq)) z8)
   (zf (yI (zP xW (pv 2) zZ (zU _)) (zu (zL (zp vH hr T.Ym (za (pv 3) zc)))) z8)
   (zf (yI (zP xW (pv 2) zZ (zU _)) (zu (zL (zp wA hr T.Yt (za (vd PySem.F.plainAttrs_list PySem.F.slot_list_index PySem.F.type_list_index T3 (pv 1) (za (yc v7 (pv 0) zq (fun _ _=>rfl)) zc)) (za (pv 3) zc))))) z8)
   (zf (zge (tt:=zdg) (i:=4) Ut.nd rfl (Or.inl rfl) (.inl rfl) (ZP:=zx Kc) (js:=[1]) rfl (by show WR _ _ "part" ["order"];exact lco (by decide +kernel)) rfl (J6 (zp Zj hr T.R7 (za (pv 0) zc))) (by show ∀j∈([1]:List Nat),j<5;decide) (fun cl C s₂ H₂ fp pins s' σ' H' Q I h=>wpAny_pure ⟨H',I,h⟩) (fun cl C s₂ H₂ fp=>(zp Km hr T.Kh (za (pv 0) (za (pv 1) zc)))) rfl)
   (zf (yI (zP xW (pv 2) zZ (zU _)) (zu (zL (zJ Nq (zp vH hr T.Ym (za (pv 3) zc)) (yc yw (pv 4) zq (fun _ _=>rfl))))) z8)
   (zf (yI (zP xW (pv 2) zZ (zU _)) (zu (zL (zJ Rn (yc yw (pv 4) zq (fun _ _=>rfl)) (zp uL hr T.Vm (za (yc yw (pv 4) zq (fun _ _=>rfl)) (za (vd PySem.F.plainAttrs_list PySem.F.slot_list_index PySem.F.type_list_index T3 (pv 1) (za (yc v7 (pv 0) zq (fun _ _=>rfl)) zc)) (za (pv 3) zc))))))) z8)
   (zf (yI (zP xW (pv 2) zZ (zU _)) (zu (zL (zJ tV (yc yw (pv 4) zq (fun _ _=>rfl)) (zp uL hr T.Vm (za (yc yw (pv 4) zq (fun _ _=>rfl)) (za (vd PySem.F.plainAttrs_list PySem.F.slot_list_index PySem.F.type_list_index T3 (pv 1) (za (yc v7 (pv 0) zq (fun _ _=>rfl)) zc)) (za (pv 3) zc))))))) z8)
   (zu (zL (zp Y9 hr T.PJ (za (pv 2) (za (yc yw (pv 4) zq (fun _ _=>rfl)) (za (yc yw (pv 4) zq (fun _ _=>rfl)) (za (zp vH hr T.Ym (za (pv 3) zc)) zc)))))))))))))))),?_⟩
 have hlen:(os.map V.str).length=os.length:=zx4 _
 obtain⟨zs,c1,c2,c3,c4,c5⟩:=Nt isp
 have lz:=yK c2
 have lp2:=Sn.K4 sn
 refine⟨_,rfl,p,_,0,_,rfl,rfl,vL.of c1,at0,?_⟩
 refine⟨_,rfl,l,_,rfl,.inl hO,?_⟩
 rw[hlen]
 have comp:∀{σ:St} {Q2:Addr->Hp->List V->Prop},σ.getD 1 none=some (.ref l)->(∀(b:Addr) (ys:List V) (H':Hp),Same H H'->H' b=none->ys.length=sn.parts.length->(∀(j:Nat) v,ys[j]?=some v->∃t N,sn.parts[j]?=some t/\v=.int (N:Nat)/\TabOf os t N)->Q2 b H' ys) ->
   ∀b0,H b0=none->∃W:Nat->Nat->List V->Hp->Prop,(∃m,W 0 m [] (upd H b0 (.tup (zs.map V.ref))))/\∀i m ys H,W i m ys H ->
    ((Itt K b0).stop i H/\∀p,H p=none->Q2 p H ys) \/
    ((Itt K b0).go i H/\ys.length<sizeLine/\∀x H',(Itt K b0).JZ i H x H'->zdg (Wv σ [1] (some x)) H' fun b H2 =>
     if b=true then KJ (Rr K d) [] E0 (KH (zbO 0) (KH (zbO 1) zf8)) (Wv σ [1] (some x)) H2 fun v H3=>∃m',m'<m/\W (i+1) m' (ys++[v]) H3 else ∃m',m'<m/\W (i+1) m' ys H2):=by
  intro σ Q2 hσ hQ2 b0 hb0
  have g0:=Same.new hb0 (.tup (zs.map V.ref))
  refine znA (fun j v=>∃t N,sn.parts[j]?=some t/\v=.int ((N:Nat):Int)/\TabOf os t N) (vL.of zj) (by rw[zx4];exact zyn (zQ (by omega))) ?_ (zq9 (zhX d)) ?_
  ·intro i x H' hx g
   rw[zx6] at hx
   cases ho:zs[i]? with
   | none=>rw[ho] at hx;cases hx
   | some y =>
    rw[ho] at hx
    cases hx
    obtain⟨t,ht,it⟩:=zaR c2 ho
    have htm:=zx9 ht
    have dp:=Sn.Qw sn t htm
    refine⟨_,rfl,.ref l,?_,y,l,t,os,rfl,it.mono (yJ.of (g0.trans g)),(g0.trans g).seq hO,Sn.zea sn hin t htm,h8,by omega,fun N H3 g3 hN=>⟨⟨t,N,ht,rfl,hN⟩,g.trans g3⟩⟩
    show some (σ.getD 1 none)=_
    rw[hσ]
  ·intro ys H' pp hl hy g hpp
   exact hQ2 pp ys H' (g0.trans g) hpp (by rw[hl,zx4];exact lz.symm) hy
 cases sn with
 | c0 y =>
  cases y with
  | false=>exact⟨_,rfl,rfl,_,rfl,yC (fun _=>q 0 _ (Same.refl _) (KZ _)) (fun c=>absurd (decide_eq_true rfl) c)⟩
  | true =>
   refine⟨_,rfl,rfl,_,rfl,yC (fun c=>absurd c (ne_str (show Str.ofString "yes" ≠ Str.ofString "no" by decide +kernel))) (fun _=>?_)⟩
   exact⟨_,rfl,rfl,_,rfl,yC (fun _=>⟨_,rfl,os.length,rfl,h8,q _ _ (Same.refl _) (KY _)⟩) (fun c=>absurd (decide_eq_true rfl) c)⟩
 | mk x =>
  refine⟨_,rfl,rfl,_,rfl,yC (fun c=>absurd c (ne_str (show Str.ofString "mark" ≠ Str.ofString "no" by decide +kernel))) (fun _=>?_)⟩
  refine⟨_,rfl,rfl,_,rfl,yC (fun c=>absurd c (ne_str (show Str.ofString "mark" ≠ Str.ofString "yes" by decide +kernel))) (fun _=>?_)⟩
  obtain⟨i1,i2,i3⟩:=vI (show x∈os from hin)
  have isp':H p=some (.tup [.str "mark", .str x]):=isp
  exact⟨_,rfl,rfl,_,rfl,yC (fun _=>⟨_,rfl,.inl ⟨rfl,_,hO⟩,_,rfl,p,_,1,_,rfl,rfl,vL.of isp',at1,l,_,.str x,_,rfl,rfl,hO,rfl,wL _,i1,_,rfl,ix os x,os.length,rfl,i2,h8,fun R hR=>q R _ (Same.refl _) hR⟩) (fun c=>absurd (decide_eq_true rfl) c)⟩
 | nt s1 =>
  refine⟨_,rfl,rfl,_,rfl,yC (fun c=>absurd c (ne_str (show Str.ofString "not" ≠ Str.ofString "no" by decide +kernel))) (fun _=>?_)⟩
  refine⟨_,rfl,rfl,_,rfl,yC (fun c=>absurd c (ne_str (show Str.ofString "not" ≠ Str.ofString "yes" by decide +kernel))) (fun _=>?_)⟩
  refine⟨_,rfl,rfl,_,rfl,yC (fun c=>absurd c (ne_str (show Str.ofString "not" ≠ Str.ofString "mark" by decide +kernel))) (fun _=>?_)⟩
  refine⟨_,rfl,p,_,_,_,_,rfl,c1,Yw (.nt s1),c3,fun b0 hb0=>?_⟩
  rw[c5]
  refine⟨b0,rfl,⟨_,vL.of zj⟩,comp rfl (fun b ys H0 g0 hb0' hyl hy=>?_) b0 hb0⟩
  have hb:=zj (H:=H0) (a:=b) (o:=.lst ys)
  have g:=g0.trans (Same.new hb0' (.lst ys))
  obtain⟨v,rfl⟩:=len1 hyl
  obtain⟨t,N,ht,rfl,hN⟩:=hy 0 v rfl
  cases ht
  refine⟨_,rfl,rfl,_,rfl,yC (fun _=>⟨_,rfl,os.length,rfl,h8,_,rfl,b,_,0,_,rfl,rfl,zO.of hb,at0,_,N,rfl,rfl,q _ _ g (vM (Rk (KY _) hN) fun z _=>?_)⟩) (fun c=>absurd (decide_eq_true rfl) c)⟩
  show(true != s1.val (wB os z))=!s1.val (wB os z)
  cases s1.val (wB os z)<;>rfl
 | b2 o s1 s2 =>
  have w1:w2 o≠Str.ofString "no" := zoE o
  have w2':w2 o≠Str.ofString "yes" := zlJ o
  have w3:w2 o≠Str.ofString "mark" := zjh o
  have w4:w2 o≠Str.ofString "not" := zlK o
  have w5:w2 o≠Str.ofString "some" := zji o
  have w6:w2 o≠Str.ofString "each" := zjj o
  refine⟨_,rfl,rfl,_,rfl,yC (fun c=>absurd c (ne_str w1)) (fun _=>?_)⟩
  refine⟨_,rfl,rfl,_,rfl,yC (fun c=>absurd c (ne_str w2')) (fun _=>?_)⟩
  refine⟨_,rfl,rfl,_,rfl,yC (fun c=>absurd c (ne_str w3)) (fun _=>?_)⟩
  refine⟨_,rfl,p,_,_,_,_,rfl,c1,Yw (.b2 o s1 s2),c3,fun b0 hb0=>?_⟩
  rw[c5]
  refine⟨b0,rfl,⟨_,vL.of zj⟩,comp rfl (fun b ys H0 g0 hb0' hyl hy=>?_) b0 hb0⟩
  have hb:=zj (H:=H0) (a:=b) (o:=.lst ys)
  have g:=g0.trans (Same.new hb0' (.lst ys))
  obtain⟨v,u,rfl⟩:=len2 hyl
  obtain⟨t,N,ht,rfl,hN⟩:=hy 0 v rfl
  obtain⟨t',M,ht',rfl,hM⟩:=hy 1 u rfl
  cases ht
  cases ht'
  refine⟨_,rfl,rfl,_,rfl,yC (fun c=>absurd c (ne_str w4)) (fun _=>?_)⟩
  refine⟨_,rfl,rfl,_,rfl,yC (fun c=>absurd c (ne_str w5)) (fun _=>?_)⟩
  refine⟨_,rfl,rfl,_,rfl,yC (fun c=>absurd c (ne_str w6)) (fun _=>?_)⟩
  exact⟨_,rfl,_,rfl,b,_,0,_,rfl,rfl,zO.of hb,at0,_,rfl,b,_,1,_,rfl,rfl,zO.of hb,at1,_,rfl,os.length,rfl,h8,o,N,M,os.length,_,_,rfl,hN,hM,fun R hR=>q R _ g hR⟩
 | q1 o x s1 =>
  obtain⟨hx,hs1⟩:=hin
  obtain⟨i1,i2,i3⟩:=vI hx
  cases o with
  | true =>
   refine⟨_,rfl,rfl,_,rfl,yC (fun c=>absurd c (ne_str (show Str.ofString "some" ≠ Str.ofString "no" by decide +kernel))) (fun _=>?_)⟩
   refine⟨_,rfl,rfl,_,rfl,yC (fun c=>absurd c (ne_str (show Str.ofString "some" ≠ Str.ofString "yes" by decide +kernel))) (fun _=>?_)⟩
   refine⟨_,rfl,rfl,_,rfl,yC (fun c=>absurd c (ne_str (show Str.ofString "some" ≠ Str.ofString "mark" by decide +kernel))) (fun _=>?_)⟩
   refine⟨_,rfl,p,_,_,_,_,rfl,c1,Yw (.q1 true x s1),c3,fun b0 hb0=>?_⟩
   rw[c5]
   refine⟨b0,rfl,⟨_,vL.of zj⟩,comp rfl (fun b ys H0 g0 hb0' hyl hy=>?_) b0 hb0⟩
   have hb:=zj (H:=H0) (a:=b) (o:=.lst ys)
   have g:=g0.trans (Same.new hb0' (.lst ys))
   obtain⟨v,rfl⟩:=len1 hyl
   obtain⟨t,N,ht,rfl,hN⟩:=hy 0 v rfl
   cases ht
   have c1':=g _ _ c1
   refine⟨_,rfl,rfl,_,rfl,yC (fun c=>absurd c (ne_str (show Str.ofString "some" ≠ Str.ofString "not" by decide +kernel))) (fun _=>?_)⟩
   refine⟨_,rfl,rfl,_,rfl,yC (fun _=>?_) (fun c=>absurd (decide_eq_true rfl) c)⟩
   refine⟨_,rfl,b,_,0,_,rfl,rfl,zO.of hb,at0,_,rfl,b,_,0,_,rfl,rfl,zO.of hb,at0,_,rfl,.inl ⟨rfl,_,g.seq hO⟩,_,rfl,p,_,1,_,rfl,rfl,vL.of c1',at1,l,_,.str x,_,rfl,rfl,g.seq hO,rfl,wL _,i1,_,rfl,N,ix os x,os.length,_,rfl,i2,h8,hN,fun R hR=>⟨N,R,rfl,rfl,q _ _ g (vM (Lk hN hR) fun z _=>?_)⟩⟩
   exact(zlH hs1 hx z).symm
  | false =>
   refine⟨_,rfl,rfl,_,rfl,yC (fun c=>absurd c (ne_str (show Str.ofString "each" ≠ Str.ofString "no" by decide +kernel))) (fun _=>?_)⟩
   refine⟨_,rfl,rfl,_,rfl,yC (fun c=>absurd c (ne_str (show Str.ofString "each" ≠ Str.ofString "yes" by decide +kernel))) (fun _=>?_)⟩
   refine⟨_,rfl,rfl,_,rfl,yC (fun c=>absurd c (ne_str (show Str.ofString "each" ≠ Str.ofString "mark" by decide +kernel))) (fun _=>?_)⟩
   refine⟨_,rfl,p,_,_,_,_,rfl,c1,Yw (.q1 false x s1),c3,fun b0 hb0=>?_⟩
   rw[c5]
   refine⟨b0,rfl,⟨_,vL.of zj⟩,comp rfl (fun b ys H0 g0 hb0' hyl hy=>?_) b0 hb0⟩
   have hb:=zj (H:=H0) (a:=b) (o:=.lst ys)
   have g:=g0.trans (Same.new hb0' (.lst ys))
   obtain⟨v,rfl⟩:=len1 hyl
   obtain⟨t,N,ht,rfl,hN⟩:=hy 0 v rfl
   cases ht
   have c1':=g _ _ c1
   refine⟨_,rfl,rfl,_,rfl,yC (fun c=>absurd c (ne_str (show Str.ofString "each" ≠ Str.ofString "not" by decide +kernel))) (fun _=>?_)⟩
   refine⟨_,rfl,rfl,_,rfl,yC (fun c=>absurd c (ne_str (show Str.ofString "each" ≠ Str.ofString "some" by decide +kernel))) (fun _=>?_)⟩
   refine⟨_,rfl,rfl,_,rfl,yC (fun _=>?_) (fun c=>absurd (decide_eq_true rfl) c)⟩
   refine⟨_,rfl,b,_,0,_,rfl,rfl,zO.of hb,at0,_,rfl,b,_,0,_,rfl,rfl,zO.of hb,at0,_,rfl,.inl ⟨rfl,_,g.seq hO⟩,_,rfl,p,_,1,_,rfl,rfl,vL.of c1',at1,l,_,.str x,_,rfl,rfl,g.seq hO,rfl,wL _,i1,_,rfl,N,ix os x,os.length,_,rfl,i2,h8,hN,fun R hR=>⟨N,R,rfl,rfl,q _ _ g (vM (WW hN hR) fun z _=>?_)⟩⟩
   exact(zlI hs1 hx z).symm
theorem za2 (T:Txt P w K mg a)(vH:zB P w K mg base zX k a.Yd a.Ye Zd Xe)(wA:zB P w K mg base zX k a.vW a.vX vf uQ)
  (uL:zB P w K mg base zX k a.Xl a.Xm Yq Xf)(Zj:zB P w K mg base zX k a.Yg a.Yh Ze Xg)
  (Y9:zB P w K mg base zX k a.Zg a.Zh uD zgl):∀d:Nat,zB P w K mg base zX (k+d) a.VN a.VP Xk (Rr K d)
 | 0=>by
  refine⟨fun vs H Q E h=>?_,fun A outer s H args us vs Q E _ _ _ _ h=>?_⟩
  ·obtain⟨p,l,sn,os,rfl,_⟩:=h
   rfl
  ·obtain⟨p,l,sn,os,_,_,_,_,_,hd,_⟩:=h
   have:=Sn.Nm sn
   omega
 | d+1=>zdC T (vH.mono (zyF _ _)) (wA.mono (zyF _ _)) (uL.mono (zyF _ _)) (Zj.mono (zyF _ _)) (Y9.mono (zyF _ _)) (za2 T vH wA uL Zj Y9 d)
theorem ziG (T:Txt P w K mg a)(wA:zB P w K mg base zX k a.vW a.vX vf uQ)(uL:zB P w K mg base zX k a.Xl a.Xm Yq Xf):zB P w K mg base zX (k+1) a.Vi a.Vj Xi T7:=by
 refine T.Xr.F.ok LR (fun vs H Q E h=>?_) (fun cdv A outer s H vs Q E hr h=>?_)
 ·obtain⟨N,p,n,v,f,rfl,_⟩:=h
  rfl
 obtain⟨N,p,n,v,f,rfl,hp,hn,tb,q⟩:=h
 refine⟨_,(zf (zA 4 LR.nd (zJ tV (pv 0) (zp wA hr T.Yt (za (pv 1) (za (pv 3) zc)))))
   (zf (zA 5 LR.nd (Qt (zP xW (pv 2) zq (zU _)) (pv 4) (zJ Nq (pv 0) (pv 4))))
   (zu (zL (zJ Rn (pv 5) (zp uL hr T.Vm (za (pv 5) (za (pv 1) (za (pv 3) zc))))))))),?_⟩
 refine⟨_,rfl,_,rfl,_,rfl,p,n,rfl,hp,hn,fun R tr=>?_⟩
 refine⟨N,R,rfl,rfl,?_⟩
 have o:=uh.WW tb tr
 refine⟨_,rfl,rfl,_,rfl,?_⟩
 cases v with
 | true =>
  refine yC (fun _=>?_) (fun c=>absurd (decide_eq_true rfl) c)
  refine⟨_,rfl,?_⟩
  refine⟨_,rfl,_,rfl,_,rfl,_,rfl,N&&&R,p,n,_,rfl,hp,hn,o,fun R2 t2=>?_⟩
  refine⟨_,_,rfl,rfl,q _ (vM (uh.Lk o t2) fun b hb=>?_)⟩
  show((f b&&b.testBit p)||(f (zN b p (!b.testBit p))&&(zN b p (!b.testBit p)).testBit p))=f (zN b p true)
  rw[zT,if_pos rfl]
  cases e:b.testBit p
  ·simp
  ·rw[<-e,xV.xO,e];simp
 | false =>
  refine yC (fun c=>absurd (of_decide_eq_true c) (fun z=>by injection z with z;revert z;decide)) (fun _=>?_)
  have z:=uh.Rk tb o
  refine⟨_,rfl,_,rfl,N,N&&&R,rfl,rfl,?_⟩
  refine⟨_,rfl,_,rfl,_,rfl,_,rfl,N ^^^ (N&&&R),p,n,_,rfl,hp,hn,z,fun R2 t2=>?_⟩
  refine⟨_,_,rfl,rfl,q _ (vM (uh.Lk z t2) fun b hb=>?_)⟩
  show((f b != (f b&&b.testBit p))||(f (zN b p (!b.testBit p)) != (f (zN b p (!b.testBit p))&&(zN b p (!b.testBit p)).testBit p)))=f (zN b p false)
  rw[zT,if_pos rfl]
  cases e:b.testBit p
  ·rw[<-e,xV.xO,e];simp
  ·simp
theorem zhl (T:Txt P w K mg a)(uL:zB P w K mg base zX k a.Xl a.Xm Yq Xf):zB P w K mg base zX (k+1) a.RK a.RL Vy zbw:=by
 refine T.Kg.F.ok zgQ (fun vs H Q E h=>?_) (fun cdv A outer s H vs Q E hr h=>?_)
 ·obtain⟨N,p,n,f,rfl,_⟩:=h
  rfl
 obtain⟨N,p,n,f,rfl,hp,hn,tb,q⟩:=h
 refine⟨_,(zu (zL (vU Mt (zp uL hr T.Vm (za (pv 0) (za (pv 1) (za (pv 2) zc)))) (pv 0) (zU _)))),?_⟩
 refine⟨_,rfl,_,rfl,_,rfl,N,p,n,f,rfl,hp,hn,tb,fun R tr=>?_⟩
 refine⟨_,rfl,rfl,?_⟩
 refine q _ (fun e=>?_) (fun e=>?_)
 ·have e1:R=N:=by
   have z:V.int (R:Nat)=V.int (N:Nat):=of_decide_eq_true (by simpa using e)
   injection z with z
   omega
  subst e1
  refine xV.Free.znH fun b hb=>?_
  rw[<-xV.K9 tr hb,xV.K9 tb hb]
 ·refine Classical.byContradiction fun no=>?_
  have e1:R=N:=xV.zjr tr tb fun b hb=>by
   refine Classical.byContradiction fun ne=>no ⟨b,hb,fun z=>ne ?_⟩
   show f (zN b p (!b.testBit p))=f b
   cases e:b.testBit p
   ·rw[Bool.not_false,<-z,<-e,xV.xO]
   ·rw[Bool.not_true,z,<-e,xV.xO]
  subst e1
  rw[decide_eq_true rfl] at e
  cases e
theorem zcX (T:Txt P w K mg a)(Ko:zB P w K mg base zX k a.RK a.RL Vy zbw):zB P w K mg base zX (k+1) a.X3 a.X4 Z0 zbv:=by
 refine T.M6.F.ok Vz (fun vs H Q E h=>?_) (fun cdv A outer s H vs Q E hr h=>?_)
 ·obtain⟨N,n,f,rfl,_⟩:=h
  rfl
 obtain⟨N,n,f,rfl,hn,tb,q⟩:=h
 refine⟨_,(zf (zA 2 Vz.nd zq)
   (zf (Kz PassesOwn.never (PW.pt (zeK (zP zi0 (pv 2) (pv 1) (zU _)) (zbq (Rh (Za (zp Ko hr T.Kg (za (pv 0) (za (pv 2) (za (pv 1) zc)))) (fun _=>rfl)))))) (zu (zhA (i:=2) Vz.nd rfl (Or.inl rfl) zq zeM)))
   (zu (zL (pv 2))))),?_⟩
 refine⟨fun m σ H'=>∃p:Nat,m=n-p/\H'=H/\p<=n/\(∀i,i<p->xV.Free n f i)/\σ=[some (.int N),some (.int n),some (.int p)],⟨_,0,rfl,rfl,zyr _,fun i hi=>absurd hi (Nat.not_lt_zero _),rfl⟩,?_⟩
 rintro m σ H' ⟨p,rfl,rfl,hp,fr,rfl⟩
 refine⟨_,rfl,_,rfl,_,_,rfl,rfl,_,rfl,yC (fun c=>?_) (fun c=>?_)⟩
 ·have hpn:p<n:=by have:=of_decide_eq_true c;omega
  refine⟨_,rfl,_,rfl,_,rfl,N,p,n,f,rfl,hpn,hn,tb,fun b hf ht=>?_⟩
  cases b with
  | false =>
   refine⟨_,rfl,yC (fun c2=>?_) (fun c2=>absurd rfl c2)⟩
   refine⟨_,fun σ' H2 h=>h,?_⟩
   refine⟨_,rfl,_,_,rfl,rfl,n-(p+1),by omega,p+1,rfl,rfl,hpn,fun i hi=>?_,rfl⟩
   by_cases e:i=p
   ·subst e
    exact hf rfl
   ·exact fr i (by omega)
  | true =>
   refine⟨_,rfl,yC (fun c2=>absurd c2 zx8) (fun c2=>?_)⟩
   exact⟨_,rfl,q p hp fr fun _=>ht rfl⟩
 ·refine⟨_,rfl,q p hp fr fun h=>absurd (decide_eq_true (by omega)) c⟩
theorem Kp {d:Nat}(T:Txt P w K mg a)(Wb:zB P w K mg base zX k a.X3 a.X4 Z0 zbv)(uM:zB P w K mg base zX k a.Vi a.Vj Xi T7)
  (ZJ:zB P w K mg base zX k a.uH a.uI vp (Wj a.zy d)):zB P w K mg base zX (k+1) a.uH a.uI vp (Wj a.zy (d+1)):=by
 refine T.ZG.F.ok vV (fun vs H Q E h=>?_) (fun cdv A outer s H vs Q E hr h=>?_)
 ·obtain⟨b,os,rs,F,t,u,f,rfl,_⟩:=h
  rfl
 obtain⟨b,os,rs,F,t,u,f,rfl,hB,hlen,hu,hd,tb,fr,q⟩:=h
 refine⟨_,(zf (yI (zo2 (zkj (zd8 hr) (pv 1) (Wu (pv 0) rfl))) (zf (zA 2 vV.nd (zF zE rfl T.yO yp (za (Wu (pv 0) rfl) zc)))
   (zf (zA 3 vV.nd (zp Wb hr T.M6 (za (pv 1) (za (pv 2) zc))))
   (zf (zA 4 vV.nd (vA (pv 0) T.yF T.ZG ZJ hr (za (zp uM hr T.Xr (za (pv 1) (za (pv 3) (za zq (za (pv 2) zc))))) zc)))
   (zf (zA 5 vV.nd (vA (pv 0) T.yF T.ZG ZJ hr (za (zp uM hr T.Xr (za (pv 1) (za (pv 3) (za zq (za (pv 2) zc))))) zc)))
   (zf (zjo (zd8 hr) (Wu (pv 0) rfl) (pv 1) (zF zE rfl T.yO yp (za (Wu (pv 0) rfl) zc)) rfl)
   (zf (yu (vd PySem.F.plainAttrs_list PySem.F.slot_list_append PySem.F.type_list_append wF (Wu (pv 0) rfl) (za (xM (za (pv 3) (za (pv 4) (za (pv 5) zc)))) zc)))
   (zu (yu (vd PySem.F.plainAttrs_list PySem.F.slot_list_append PySem.F.type_list_append wF (Wu (pv 0) rfl) (za (pv 1) zc)))))))))) z8)
   (zu (zL (zfc (zd8 hr) (Wu (pv 0) rfl) (pv 1) (fun _ _=>rfl))))),?_⟩
 have hB0:=hB
 obtain⟨dx,ml,rl,tl,nd,rv,ts,kvs,h⟩:=hB
 have n8:os.length<=8:=h.ord.le
 have hml:(os.map V.str).length=os.length:=zx4 _
 have pw:2^(d+1)=2^d+2^d:=by rw[Nat.pow_succ];omega
 have pd:1<=2^d:=Nat.one_le_two_pow
 have pn:2^os.length<=256:=uh.zgj n8
 refine⟨_,rfl,_,rfl,b,a.zy,dx,_,_,rfl,h.hb,T.yF,T.uY,rfl,nd,_,rfl,za8.k (k:=.inl (t:Int)) h.hd,?_⟩
 by_cases hm:t∈ts
 ·obtain⟨j,hj,ej⟩:=zyN hm
  have ej':ts[j]?=some t:=by rw[zx5 hj,ej]
  have ev:=h.nums.get j t ej'
  have z:=za8.k (k:=.inl (t:Int)) h.hd
  rw[ev] at z
  rw[ev]
  refine⟨_,rfl,U3 ?_⟩
  refine⟨_,rfl,b,a.zy,dx,_,_,rfl,h.hb,T.yF,T.uY,rfl,_,rfl,nd,_,rfl,z,?_⟩
  refine q j rs H (fun x o e _=>e) (fun _ _ e=>e) hB0 (.refl _) (by rw[<-h.tabs.len];exact hj) (h.tabs.find h.bk ej' tb) (by omega) (fun j h1 h2=>by omega) (zyF _ _)
 ·have ev:=h.nums.non t hm
  rw[ev]
  refine⟨_,rfl,TX ?_⟩
  refine⟨_,rfl,b,a.zy,dx,_,_,rfl,h.hb,T.yF,T.Z6,rfl,ml,_,rfl,.inl (zO.of h.hm),?_⟩
  rw[hml]
  refine⟨_,rfl,_,rfl,t,os.length,f,rfl,n8,tb,fun p hp0 frp dep=>?_⟩
  have hp:p<os.length:=by
   refine Nat.lt_of_le_of_ne hp0 fun e=>hm ?_
   subst e
   have cs:=xV.zdj frp
   have two:=xV.len2 h.bk
   cases hf:f 0 with
   | false=>exact zx9 (h.tabs.same (j:=0) (by omega) tb fun r=>by rw[cs _ (xV.xT _ _),hf];rfl)
   | true=>exact zx9 (h.tabs.same (j:=1) (by omega) tb fun r=>by rw[cs _ (xV.xT _ _),hf];exact xV.NK h.bk r)
  have hup:u<=p:=by
   refine Nat.le_of_not_lt fun hlt=>?_
   obtain⟨c,hc,hne⟩:=dep hp
   exact hne (by rw[fr p hlt c hc,fr p hlt c hc])
  have fre:∀(v:Bool) i,i<p+1->xV.Free os.length (fun c=>f (zN c p v)) i:=fun v i hi c hc v'=>by
   show f (zN (zN c i v') p v)=f (zN c p v)
   by_cases e:i=p
   ·subst e
    congr 1
    refine xV.Rw (yP (yP hc hp) hp) (yP hc hp) fun j _=>?_
    rw[zT,zT,zT]
    by_cases e:j=i
    ·rw[if_pos e,if_pos e]
    ·rw[if_neg e,if_neg e,if_neg e]
   ·rw[<-frp i (by omega) _ (yP (v:=v) hc hp) v']
    congr 1
    refine xV.Rw (yP (yP hc (by omega)) hp) (yP (yP hc hp) (by omega)) fun j _=>?_
    rw[zT,zT,zT,zT]
    by_cases e1:j=p
    ·rw[if_pos e1,if_pos e1,if_neg (by omega)]
    ·rw[if_neg e1,if_neg e1]
  refine⟨_,rfl,b,dx,_,rfl,h.hb,rfl,_,rfl,_,rfl,_,rfl,t,p,os.length,false,f,rfl,hp,n8,tb,fun R0 tr0=>?_⟩
  refine⟨b,os,rs,F,R0,p+1,_,rfl,hB0,by omega,hp,by omega,tr0,fre false,fun k0 rs1 H1 aw1 tu1 Ld gr1 lt1 y1 ln1 lv1 hh1=>?_⟩
  have hB1':=Ld
  obtain⟨dx1,ml1,rl1,tl1,nd1,rv1,ts1,zwy,h1⟩:=Ld
  refine⟨_,rfl,b,dx1,_,rfl,h1.hb,rfl,_,rfl,_,rfl,_,rfl,t,p,os.length,true,f,rfl,hp,n8,tb,fun R1 tr1=>?_⟩
  refine⟨b,os,rs1,F,R1,p+1,_,rfl,hB1',by omega,hp,by omega,tr1,fre true,fun k1 rs2 H2 aw2 tu2 hB2 gr2 lt2 y2 ln2 lv2 hh2=>?_⟩
  obtain⟨dx2,ml2,rl2,tl2,JT,rv2,ts2,zrK,h2⟩:=hB2
  have lt1':k0<rs2.length:=zyd lt1 gr2.len
  have y1':∀r,xV.yes rs2 k0 r=f (zN (xV.bits r os.length) p false):=fun r=>by rw[gr2.yes h1.bk lt1];exact y1 r
  have g02:=gr1.trans gr2
  have lrs:=g02.len
  have lvs:∀j,rs.length<=j->j<rs2.length->p<xV.Mv os.length rs2 j:=fun j a1 a2=>by
   by_cases hj:j<rs1.length
   ·rw[gr2.Mv hj];exact lv1 j a1 hj
   ·exact lv2 j (by omega) a2
  have old:∀j,j<rs.length->¬∀r,xV.yes rs2 j r=f (xV.bits r os.length):=fun j hj hy=>hm (zx9 (h.tabs.same hj tb fun r=>by rw[<-g02.yes h.bk hj];exact hy r))
  obtain⟨B',yn⟩:=xV.zlP h2.bk hp lt1' lt2 y1' y2 frp (dep hp) old lvs
  have hn2:t∉ts2:=fun hm2=>by
   obtain⟨j,hj,ej⟩:=zyN hm2
   have ej':ts2[j]?=some t:=by rw[zx5 hj,ej]
   have hjr:j<rs2.length:=by rw[<-h2.tabs.len];exact hj
   have hy:=h2.tabs.find h2.bk ej' tb
   by_cases hjo:j<rs.length
   ·exact old j hjo hy
   ·obtain⟨c,hc,hne⟩:=dep hp
    have lv:=lvs j (by omega) hjr
    refine hne ?_
    have a1:=hy (xV.put (xV.Rv c) p false)
    have a2:=hy (xV.put (xV.Rv c) p true)
    rw[xV.Yx h2.bk hjr lv,xV.zgr hp,xV.NP hc] at a1 a2
    exact a1.symm.trans a2
  have l2:=h2.len
  have s2:rs2.length<sizeLine:=zyd (show rs2.length<9000001 by omega) (by decide)
  refine⟨_,rfl,b,a.zy,dx2,_,_,rfl,h2.hb,T.yF,T.Wa,rfl,rl2,_,rfl,.inl (zO.of h2.hr),?_⟩
  rw[l2]
  refine⟨_,rfl,b,a.zy,dx2,_,_,rfl,h2.hb,T.yF,T.uY,rfl,_,rfl,JT,_,rfl,zkg.k (k:=.inl (t:Int)) h2.hd (by have:=h2.nums.len;have:=h2.tabs.len;omega),?_⟩
  have nb:JT≠b:=Qq h2.hd h2.hb (by intro z;cases z)
  have nm:JT≠ml2:=Qq h2.hd h2.hm (by intro z;cases z)
  have nr:JT≠rl2:=Qq h2.hd h2.hr (by intro z;cases z)
  have nt:JT≠tl2:=Qq h2.hd h2.ht (by intro z;cases z)
  have br:b≠rl2:=Qq h2.hb h2.hr (by intro z;cases z)
  have bt:b≠tl2:=Qq h2.hb h2.ht (by intro z;cases z)
  generalize hO3:HO.dK (putK zrK (Sum.inl (t:Int)) (V.int (rs2.length:Nat)))=o3
  have b3:upd H2 JT o3 b=some (.ins a.zy dx2 (zak ml2 rl2 tl2 JT)):=by rw[zG (Ne.symm nb)];exact h2.hb
  have r3:upd H2 JT o3 rl2=some (.lst rv2):=by rw[zG (Ne.symm nr)];exact h2.hr
  refine⟨_,rfl,b,a.zy,dx2,_,_,rfl,b3,T.yF,T.Wa,rfl,.inl ⟨rfl,_,zO.of r3⟩,?_⟩
  refine⟨_,rfl,_,rfl,_,rfl,by show 3<=sizeLine;decide,fun q4 hq4=>?_⟩
  generalize hO4:HO.tup [V.int (p:Nat),V.int (k0:Nat),V.int (k1:Nat)]=o4
  have r4:upd (upd H2 JT o3) q4 o4 rl2=some (.lst rv2):=by rw[zG (zH r3 hq4)];exact r3
  refine⟨rl2,_,_,rfl,rfl,r4,by rw[l2];exact s2,?_⟩
  have b4:upd (upd H2 JT o3) q4 o4 b=some (.ins a.zy dx2 (zak ml2 rl2 tl2 JT)):=by rw[zG (zH b3 hq4)];exact b3
  have t3:upd H2 JT o3 tl2=some (.lst (ts2.map fun t=>V.int (t:Nat))):=by rw[zG (Ne.symm nt)];exact h2.ht
  have t4:upd (upd H2 JT o3) q4 o4 tl2=some (.lst (ts2.map fun t=>V.int (t:Nat))):=by rw[zG (zH t3 hq4)];exact t3
  have m3:upd H2 JT o3 ml2=some (.lst (os.map V.str)):=by rw[zG (Ne.symm nm)];exact h2.hm
  have m4:upd (upd H2 JT o3) q4 o4 ml2=some (.lst (os.map V.str)):=by rw[zG (zH m3 hq4)];exact m3
  have n3:upd H2 JT o3 JT=some o3:=zj
  have n4:upd (upd H2 JT o3) q4 o4 JT=some o3:=by rw[zG (zH n3 hq4)];exact n3
  have qr:q4≠rl2:=Ne.symm (zH r3 hq4)
  have qt:q4≠tl2:=Ne.symm (zH t3 hq4)
  have q4':upd (upd H2 JT o3) q4 o4 q4=some o4:=zj
  have tu4:yJ H2 (upd (upd H2 JT o3) q4 o4):=fun x xs e=>by
   have e3:upd H2 JT o3 x=some (.tup xs):=by rw[zG (Qq e h2.hd (by intro z;cases z))];exact e
   rw[zG (zH e3 hq4)];exact e3
  have aw4:∀x o,H2 x=some o->¬F x->upd (upd H2 JT o3) q4 o4 x=some o:=fun x o e nf=>by
   have e3:upd H2 JT o3 x=some o:=by rw[zG (fun z=>nf ((h2.ft x).mpr (.inr (.inr (.inr (.inr z))))))];exact e
   rw[zG (zH e3 hq4)];exact e3
  generalize upd (upd H2 JT o3) q4 o4=H4 at b4 t4 m4 n4 r4 q4' tu4 aw4
  generalize hO5:HO.lst (rv2++[V.ref q4])=o5
  have b5:upd H4 rl2 o5 b=some (.ins a.zy dx2 (zak ml2 rl2 tl2 JT)):=by rw[zG br];exact b4
  have t5:upd H4 rl2 o5 tl2=some (.lst (ts2.map fun t=>V.int (t:Nat))):=by rw[zG (Ne.symm h2.rt)];exact t4
  refine⟨_,rfl,b,a.zy,dx2,_,_,rfl,b5,T.yF,T.Ud,rfl,.inl ⟨rfl,_,zO.of t5⟩,_,rfl,tl2,_,_,rfl,rfl,t5,by rw[zx4,h2.tabs.len];exact s2,?_⟩
  generalize hO6:HO.lst (ts2.map (fun t=>V.int (t:Nat))++[V.int (t:Nat)])=o6
  have b6:upd (upd H4 rl2 o5) tl2 o6 b=some (.ins a.zy dx2 (zak ml2 rl2 tl2 JT)):=by rw[zG bt];exact b5
  have n6:upd (upd H4 rl2 o5) tl2 o6 JT=some (.dK (putK zrK (Sum.inl (t:Int)) (V.int (rs2.length:Nat)))):=by rw[zG nt,zG nr,n4,hO3]
  have z:=za8.k (k:=.inl (t:Int)) n6
  rw[wH,if_pos rfl] at z
  refine⟨_,rfl,b,a.zy,dx2,_,_,rfl,b6,T.yF,T.uY,rfl,_,rfl,JT,_,rfl,z,?_⟩
  have tu6:yJ H4 (upd (upd H4 rl2 o5) tl2 o6):=fun x xs e=>by
   rw[zG (Qq e t4 (by intro z;cases z)),zG (Qq e r4 (by intro z;cases z))];exact e
  have parts:=h2.more (H':=upd (upd H4 rl2 o5) tl2 o6) (i:=p) (lo:=k0) (hi:=k1) (t:=t) (q:=q4) (fun x xs e=>tu6 _ _ (tu4 _ _ e)) (b6.trans h2.hb.symm)
   (by rw[zG h2.mt,zG h2.mr,m4,h2.hm]) (by rw[zG h2.rt,zj,hO5]) (by rw[zj,hO6]) n6
   (by rw[zG qt,zG qr,q4',hO4]) B' hn2 (vM tb fun c hc=>by rw[yn,xV.NP hc])
  refine q rs2.length _ _ (fun x o e nf=>?_) (fun x xs e=>tu6 _ _ (tu4 _ _ (tu2 _ _ (tu1 _ _ e)))) ⟨_,_,_,_,_,_,_,_,parts⟩ (g02.trans (xV.tW.snoc _ _)) (by simp) yn (by rw[zyc,zyC];omega) (fun j a1 a2=>?_) ?_
  ·have e2:=aw2 x o (aw1 x o e nf) nf
   rw[zG (fun z=>nf ((h2.ft x).mpr (.inr (.inr (.inr (.inl z)))))),zG (fun z=>nf ((h2.ft x).mpr (.inr (.inr (.inl z)))))]
   exact aw4 x o e2 nf
  ·rw[zyc,zyC] at a2
   by_cases hj:j<rs2.length
   ·rw[xV.QF hj]
    have:=lvs j a1 hj
    omega
   ·have:j=rs2.length:=by omega
    subst this
    rw[xV.QD B' (i:=p) (lo:=k0) (hi:=k1) (by simp)]
    exact hup
  ·rw[xV.znM]
   have:=xV.znP (n:=os.length) hup
   omega
theorem Uh (T:Txt P w K mg a)(Wb:zB P w K mg base zX k a.X3 a.X4 Z0 zbv)(uM:zB P w K mg base zX k a.Vi a.Vj Xi T7) :
  ∀d:Nat,zB P w K mg base zX (k+d) a.uH a.uI vp (Wj a.zy d)
 | 0=>by
  refine⟨fun vs H Q E h=>?_,fun A outer s H args us vs Q E _ _ _ _ h=>?_⟩
  ·obtain⟨b,os,rs,F,t,u,f,rfl,_⟩:=h
   rfl
  ·obtain⟨b,os,rs,F,t,u,f,_,_,_,hu,hd,_⟩:=h
   omega
 | d+1=>Kp T (Wb.mono (zyF _ _)) (uM.mono (zyF _ _)) (Uh T Wb uM d)
theorem zcZ (T:Txt P w K mg a)(Kq:zB P w K mg base zX k a.Yi a.Yj uR zah)(JV:zB P w K mg base zX k a.Y7 a.Y8 tX (Qz K))
  (Km:zB P w K mg base zX k a.VN a.VP Xk (Rr K 24))(ZJ:zB P w K mg base zX k a.uH a.uI vp (Wj a.zy 9)) :
  zB P w K mg base zX (k+1) a.RT a.RV W6 (zcg a.zy):=by
 refine T.Vd.F.ok zdw (fun vs H Q E h=>?_) (fun cdv A outer s H vs Q E hr h=>?_)
 ·obtain⟨b,p,os,rs,F,sn,rfl,_⟩:=h
  rfl
 obtain⟨b,p,os,rs,F,sn,rfl,hB,hlen,isp,hin,hc,hd,q⟩:=h
 refine⟨_,(zf (yu (zp Kq hr T.Ua (za (pv 1) zc)))
   (zf (yu (zp JV hr T.UJ (za (Wu (pv 0) rfl) (za (pv 1) zc))))
   (zu (zL (vA (pv 0) T.yF T.ZG ZJ hr (za (zp Km hr T.Kh (za (pv 1) (za (Wu (pv 0) rfl) zc))) zc)))))),?_⟩
 have L:=yX a.zy
 have ho:=L.ord hB
 have hlt:sn.Ve Yo:=(Sn.WX sn).mpr fun x hx=>ho.mem x ((Sn.WX sn).mp hin x hx)
 refine⟨_,rfl,p,sn,rfl,isp,hlt,hc,hd,fun H1 g1=>?_⟩
 have Ld:=L.same hB g1
 obtain⟨dx,ml,rl,tl,nd,rv,ts,kvs,h1⟩:=Ld
 refine⟨_,rfl,b,a.zy,dx,_,_,rfl,h1.hb,T.yF,T.Z6,rfl,_,rfl,ml,p,os,sn,rfl,zO.of h1.hm,isp.mono (yJ.of g1),by omega,hin,fun H2 g2=>?_⟩
 have g12:=g1.trans g2
 have h2:=h1.frame (fun x o e _=>g2 x o e) (yJ.of g2)
 refine⟨_,rfl,b,dx,_,rfl,h2.hb,rfl,_,rfl,_,rfl,b,a.zy,dx,_,_,rfl,h2.hb,T.yF,T.Z6,rfl,p,ml,sn,os,rfl,isp.mono (yJ.of g12),zO.of h2.hm,hin,ho.le,hd,fun N H3 g3 hN=>?_⟩
 have g13:=g12.trans g3
 have hB3:=L.same hB g13
 refine⟨b,os,rs,F,N,0,_,rfl,hB3,by show rs.length+512<=9000000;omega,zyr _,by have:=ho.le;omega,hN,fun i hi=>absurd hi (Nat.not_lt_zero _),fun j rs' H' aw tu hB' gr lt y ln _ hh=>?_⟩
 refine q j rs' H' (fun x o e nf=>aw x o (g13 _ _ e) nf) (fun x xs e=>tu _ _ (g13 _ _ e)) hB' gr ⟨lt,fun r=>?_⟩ (zyq hh (Nat.add_le_add_left (xV.ztx ho.le) _))
 rw[y]
 refine Sn.val_congr sn hin fun x hx=>?_
 show(xV.bits r os.length).testBit (ix os x)=r (ix os x)
 exact xV.Wi r (vI hx).2.1
theorem zfR (T:Txt P w K mg a)(zbi:zB P w K mg base zX k a.Wy a.Wz Z8 (Qx K))(vH:zB P w K mg base zX k a.Yd a.Ye Zd Xe) :
  zB P w K mg base zX (k+1) a.Uz a.Px Ux (Lr (yD a.zy) K a.zy):=by
 refine T.za1.F.ok Jz (fun vs H Q E h=>?_) (fun cdv A outer s H vs Q E hr h=>?_)
 ·obtain⟨b,dx,l,os,rfl,_⟩:=h
  rfl
 obtain⟨b,dx,l,os,rfl,hb,bd,hl,ho,q⟩:=h
 refine⟨_,(zf (yu (zp zbi hr T.Qm (za (pv 1) zc)))
   (zf (zA 2 Jz.nd (zF zE rfl T.yO yp (za (pv 1) zc)))
   (zf (zeN (pv 0) (Xd WQ rfl T.zcU KR (za (pv 1) zc)) rfl)
   (zf (zeN (pv 0) (yE (za (xM (za (pv 2) (za zq (za zq zc)))) (za (xM (za (pv 2) (za zq (za zq zc)))) zc))) rfl)
   (zf (zeN (pv 0) (yE (za zq (za (zp vH hr T.Ym (za (pv 2) zc)) zc))) rfl)
   (zu (zeN (pv 0) (zjq (T5 zq zq (T5 (zp vH hr T.Ym (za (pv 2) zc)) zq zjp)) rfl rfl (List.cons_ne_nil _ _) (Nat.le_of_ble_eq_true rfl)) rfl))))))),?_⟩
 have n8:=ho.le
 have hml:(os.map V.str).length=os.length:=zx4 _
 refine⟨_,rfl,l,os,rfl,hl,ho,fun H1 g1=>?_⟩
 have hl1:=g1.seq hl
 refine⟨_,rfl,l,_,rfl,.inl hl1,?_⟩
 rw[hml]
 have b1:=g1 _ _ hb
 refine⟨_,rfl,l,_,rfl,.inl hl1,fun ml hm1=>?_⟩
 have bm:b≠ml:=zH b1 hm1
 have b2:upd H1 ml (.lst (os.map V.str)) b=some (.ins a.zy dx []):=by rw[zG bm];exact b1
 refine⟨_,rfl,b,a.zy,dx,_,rfl,b2,T.yF,T.Z6,by decide,?_⟩
 have s2:∀x o,H x=some o->x≠b->upd (upd H1 ml (.lst (os.map V.str))) b (.ins a.zy dx (Xc "marks" (.ref ml) [])) x=some o:=fun x o e nb=>by
  rw[zG nb,zG (zH (g1 _ _ e) hm1)];exact g1 _ _ e
 have hm2:upd (upd H1 ml (.lst (os.map V.str))) b (.ins a.zy dx (Xc "marks" (.ref ml) [])) ml=some (.lst (os.map V.str)):=by rw[zG (Ne.symm bm)];exact zj
 have f2:∀x,upd (upd H1 ml (.lst (os.map V.str))) b (.ins a.zy dx (Xc "marks" (.ref ml) [])) x=none->H x=none:=fun x e=>by
  have nb:x≠b:=fun z=>by rw[z,zj] at e;cases e
  cases hx:H x with
  | none=>rfl
  | some o=>rw[s2 x o hx nb] at e;cases e
 have fm:H ml=none:=g1.free hm1
 have b2':upd (upd H1 ml (.lst (os.map V.str))) b (.ins a.zy dx (Xc "marks" (.ref ml) [])) b=some (.ins a.zy dx (Xc "marks" (.ref ml) [])):=zj
 generalize upd (upd H1 ml (.lst (os.map V.str))) b (.ins a.zy dx (Xc "marks" (.ref ml) []))=H2 at s2 hm2 f2 b2'
 refine⟨_,rfl,by show 3<=sizeLine;decide,fun p0 hp0=>?_⟩
 refine⟨_,rfl,by show 3<=sizeLine;decide,fun p1 hp1=>?_⟩
 refine⟨by show 2<=sizeLine;decide,fun rl hrl=>?_⟩
 have g2:=((Same.new hp0 (.tup [.int (os.length:Nat),.int 0,.int 0])).trans (Same.new hp1 (.tup [.int (os.length:Nat),.int 1,.int 1]))).trans (Same.new hrl (.lst [.ref p0,.ref p1]))
 have hp0':=((Same.new hp1 (.tup [.int (os.length:Nat),.int 1,.int 1])).trans (Same.new hrl (.lst [.ref p0,.ref p1]))) p0 (.tup [.int (os.length:Nat),.int 0,.int 0]) zj
 have hp1':=(Same.new hrl (.lst [.ref p0,.ref p1])) p1 (.tup [.int (os.length:Nat),.int 1,.int 1]) zj
 have hr3:upd (upd (upd H2 p0 (.tup [.int (os.length:Nat),.int 0,.int 0])) p1 (.tup [.int (os.length:Nat),.int 1,.int 1])) rl (.lst [.ref p0,.ref p1]) rl=some (.lst [.ref p0,.ref p1]):=zj
 have frl:H2 rl=none:=((Same.new hp0 _).trans (Same.new hp1 _)).free hrl
 have brl:b≠rl:=zH b2' frl
 have mr:ml≠rl:=zH hm2 frl
 have b0:b≠p0:=zH b2' hp0
 have b1':b≠p1:=zH b2' ((Same.new hp0 _).free hp1)
 generalize upd (upd (upd H2 p0 (.tup [.int (os.length:Nat),.int 0,.int 0])) p1 (.tup [.int (os.length:Nat),.int 1,.int 1])) rl (.lst [.ref p0,.ref p1])=H3 at g2 hp0' hp1' hr3
 refine⟨_,rfl,b,a.zy,dx,_,rfl,g2 _ _ b2',T.yF,T.Wa,by show 1<1000;decide,?_⟩
 generalize hfs:Xc "rooms" (V.ref rl) (Xc "marks" (V.ref ml) [])=fs3
 have u3:∀x,x≠b->upd H3 b (.ins a.zy dx fs3) x=H3 x:=fun x nb=>zG nb
 have b3:upd H3 b (.ins a.zy dx fs3) b=some (.ins a.zy dx fs3):=zj
 generalize upd H3 b (.ins a.zy dx fs3)=H4 at u3 b3
 refine⟨_,rfl,os.length,rfl,n8,by show 2<=sizeLine;decide,fun tl htl=>?_⟩
 have btl:b≠tl:=zH b3 htl
 have g4:=Same.new htl (.lst [.int 0,.int ((2^2^os.length-1:Nat):Int)])
 have ht5:upd H4 tl (.lst [.int 0,.int ((2^2^os.length-1:Nat):Int)]) tl=some (.lst [.int 0,.int ((2^2^os.length-1:Nat):Int)]):=zj
 generalize upd H4 tl (.lst [.int 0,.int ((2^2^os.length-1:Nat):Int)])=H5 at g4 ht5
 refine⟨_,rfl,b,a.zy,dx,_,rfl,g4 _ _ b3,T.yF,T.Ud,by rw[<-hfs];show 2<1000;decide,?_⟩
 generalize zrM:Xc "tables" (V.ref tl) fs3=fs4
 have u5:∀x,x≠b->upd H5 b (.ins a.zy dx fs4) x=H5 x:=fun x nb=>zG nb
 have b5:upd H5 b (.ins a.zy dx fs4) b=some (.ins a.zy dx fs4):=zj
 generalize upd H5 b (.ins a.zy dx fs4)=H6 at u5 b5
 refine fun nd hnd=>?_
 have bnd:b≠nd:=zH b5 hnd
 have g6:=Same.new hnd (.dK [])
 refine⟨_,rfl,os.length,rfl,n8,zj,[(Sum.inl 0,.int 0),(Sum.inl ((2^2^os.length-1:Nat):Int),.int 1)],rfl,(by show 2<=15;decide),?_⟩
 rw[ziV]
 have g7:=Same.new hnd (.dK (vB [] [(Sum.inl 0,.int 0),(Sum.inl ((2^2^os.length-1:Nat):Int),.int 1)]))
 have hn7:upd H6 nd (.dK (vB [] [(Sum.inl 0,.int 0),(Sum.inl ((2^2^os.length-1:Nat):Int),.int 1)])) nd=some (.dK (vB [] [(Sum.inl 0,.int 0),(Sum.inl ((2^2^os.length-1:Nat):Int),.int 1)])):=zj
 generalize upd H6 nd (.dK (vB [] [(Sum.inl 0,.int 0),(Sum.inl ((2^2^os.length-1:Nat):Int),.int 1)]))=H7 at g7 hn7
 refine⟨_,rfl,b,a.zy,dx,_,rfl,g7 _ _ b5,T.yF,T.uY,by rw[<-zrM,<-hfs];show 3<1000;decide,?_⟩
 have big:2^2^os.length-1≠0:=by
  have:2^1<=2^2^os.length:=zyA (by decide) Nat.one_le_two_pow
  omega
 have to7:∀x o,H3 x=some o->x≠b->upd H7 b (.ins a.zy dx (Xc "numbers" (.ref nd) fs4)) x=some o:=fun x o e nb=>by
  rw[zG nb]
  refine g7 _ _ ?_
  rw[u5 x nb]
  refine g4 _ _ ?_
  rw[u3 x nb]
  exact e
 have tl6:H6 tl=some (.lst [.int 0,.int ((2^2^os.length-1:Nat):Int)]):=by rw[u5 tl (Ne.symm btl)];exact ht5
 have efs:Xc "numbers" (.ref nd) fs4=zak ml rl tl nd:=by rw[<-zrM,<-hfs];rfl
 have up:∀x o,H3 x=some o->x≠b->H4 x=some o:=fun x o e nb=>by rw[u3 x nb];exact e
 have mt:ml≠tl:=zH (up _ _ (g2 _ _ hm2) (Ne.symm bm)) htl
 have rt:rl≠tl:=zH (up _ _ hr3 (Ne.symm brl)) htl
 have fr4:∀x,H4 x=none->H x=none:=fun x e=>f2 x (by
  cases hx:H2 x with
  | none=>rfl
  | some o =>
   by_cases nb:x=b
   ·rw[nb,b3] at e;cases e
   ·rw[up x o (g2 _ _ hx) nb] at e;cases e)
 have fr6:∀x,H6 x=none->H x=none:=fun x e=>by
  have nb:x≠b:=fun z=>by rw[z,b5] at e;cases e
  rw[u5 x nb] at e
  exact fr4 x (g4.free e)
 have two:∀{j:Nat},j<2->j=0\/j=1:=fun h=>by omega
 have bk0:xV.Bk os.length [none,none]:=⟨rfl,rfl,fun k h1 h2=>by simp at h2;omega,fun i j x e _=>by
  have:=(zx7.mp e).1
  rcases two (by simpa using this) with z | z<;>subst z<;>cases e⟩
 refine q _ (fun x=>x=b\/x=ml\/x=rl\/x=tl\/x=nd) (fun x o e nb=>to7 x o (g2 _ _ (s2 x o e nb)) nb) ⟨dx,ml,rl,tl,nd,[.ref p0,.ref p1],[0,2^2^os.length-1],vB [] [(Sum.inl 0,.int 0),(Sum.inl ((2^2^os.length-1:Nat):Int),.int 1)],?_⟩ (fun x hx=>?_)
 ·refine { hb:=by rw[zj,efs],hm:=to7 _ _ (g2 _ _ hm2) (Ne.symm bm),hr:=to7 _ _ hr3 (Ne.symm brl),ht:=by rw[zG (Ne.symm btl)];exact g7 _ _ tl6,hd:=by rw[zG (Ne.symm bnd)];exact hn7,mr:=mr,mt:=mt,rt:=rt,ord:=ho,bk:=bk0,len:=rfl,rm:=?_,tabs:=?_,nums:=?_,ft:=fun x=>Iff.rfl }
  ·intro j x e
   have:=(zx7.mp e).1
   rcases two (by simpa using this) with z | z<;>subst z<;>cases e
   ·exact⟨p0,rfl,to7 _ _ hp0' (Ne.symm b0)⟩
   ·exact⟨p1,rfl,to7 _ _ hp1' (Ne.symm b1')⟩
  ·refine⟨rfl,fun j t e=>?_⟩
   have:=(zx7.mp e).1
   rcases two (by simpa using this) with z | z<;>subst z<;>cases e
   ·exact vM (KZ _) fun b _=>rfl
   ·exact vM (KY _) fun b _=>(xV.NK bk0 _).symm
  ·have z0:Nums [] []:=⟨fun j t e=>by simp at e,fun t _=>rfl,zyk _⟩
   have z1:=z0.snoc (t:=0) (by simp)
   exact z1.snoc (t:=2^2^os.length-1) (fun hm=>by simp at hm;omega)
 ·rcases hx with z | z | z | z | z<;>subst z
  ·exact .inl rfl
  ·exact .inr (.inr fm)
  ·exact .inr (.inr (f2 _ frl))
  ·exact .inr (.inr (fr4 _ htl))
  ·exact .inr (.inr (fr6 _ hnd))
theorem zkL (T:Txt P w K mg a):zB P w K mg base zX (k+1) a.xH a.xJ yU (NQ K):=by
 refine T.yt.F.ok Sv (fun vs H Q E h=>?_) (fun cdv A outer s H vs Q E hr h=>?_)
 ·obtain⟨l,ns,i,rfl,_⟩:=h
  rfl
 obtain⟨l,ns,i,rfl,hS,q⟩:=h
 refine⟨_,(zf (yI (zP zi0 (pv 1) (zF zE rfl T.yO yp (za (pv 0) zc)) (zU _)) (zu (zL (yc yw (pv 0) (pv 1) (fun _ _=>rfl)))) z8)
   (zu (zL zq))),?_⟩
 refine⟨_,rfl,_,rfl,l,_,rfl,.inl hS,_,_,rfl,rfl,_,rfl,?_⟩
 refine yC (fun c=>?_) (fun c=>?_)
 ·have c':(i:Int)<(((ns.map V.int).length:Nat):Int):=of_decide_eq_true c
  rw[zx4] at c'
  have hi:i<ns.length:=by omega
  have ec:ux ns i=ns[i]:=by unfold ux;rw[zx5 hi];rfl
  rw[ec] at q
  exact⟨_,rfl,_,rfl,l,_,i,_,rfl,rfl,hS,yQ (by rw[zx6,zx5 hi];rfl),q⟩
 ·have hi:ns.length<=i:=by
   refine Nat.le_of_not_lt fun hlt=>c (decide_eq_true ?_)
   rw[zx4];omega
  have ec:ux ns i=0:=by unfold ux;rw[zyE hi];rfl
  rw[ec] at q
  exact q
theorem P0 (T:Txt P w K mg a):zB P w K mg base zX (k+1) a.wW a.wX wj (Vu a.zy):=by
 refine T.ZL.F.ok Pa (fun vs H Q E h=>?_) (fun cdv A outer s H vs Q E hr h=>?_)
 ·obtain⟨b,os,rs,F,j,rfl,_⟩:=h
  rfl
 obtain⟨b,os,rs,F,j,rfl,⟨dx,ml,rl,tl,nd,rv,ts,kvs,h⟩,hk,q⟩:=h
 refine⟨_,(zu (yI (PW.pt (Ky (zP zi0 (pv 1) zq (zU _)) (Le (zP zoy (pv 1) (zF zE rfl T.yO yp (za (Wu (pv 0) rfl) zc)) (zU _))))) (zu Vp) z8)),?_⟩
 have hl:=h.len
 refine⟨_,rfl,_,_,rfl,rfl,_,rfl,yC (fun c=>absurd (of_decide_eq_true c) (by omega)) (fun _=>?_)⟩
 refine⟨_,rfl,_,rfl,b,a.zy,dx,_,_,rfl,h.hb,T.yF,T.Wa,rfl,rl,_,rfl,.inl (zO.of h.hr),_,_,rfl,rfl,_,rfl,yC (fun c=>absurd (of_decide_eq_true c) (by omega)) (fun _=>?_)⟩
 exact q
theorem zaG (T:Txt P w K mg a):zB P w K mg base zX (k+1) a.xu a.xG yS (Zn a.zy):=by
 refine T.wz.F.ok zaw (fun vs H Q E h=>?_) (fun cdv A outer s H vs Q E hr h=>?_)
 ·obtain⟨b,os,rs,F,j,rfl,_⟩:=h
  rfl
 obtain⟨b,os,rs,F,j,rfl,⟨dx,ml,rl,tl,nd,rv,ts,kvs,h⟩,hk,q⟩:=h
 refine⟨_,(zu (zL (yc yw (Wu (pv 0) rfl) (pv 1) (fun _ _=>rfl)))),?_⟩
 have ht:j<ts.length:=by rw[h.tabs.len];exact hk
 have ex:=zx5 ht
 refine⟨_,rfl,b,a.zy,dx,_,_,rfl,h.hb,T.yF,T.Ud,rfl,_,rfl,tl,_,_,.int (ts[j]:Nat),rfl,rfl,zO.of h.ht,yQ (by rw[zx6,ex];rfl),?_⟩
 exact q _ (h.tabs.tab j _ ex)
theorem zdD (T:Txt P w K mg a):zB P w K mg base zX (k+1) a.yV a.yW yL (xP (yD a.zy)):=by
 refine T.wg.F.ok zdv (fun vs H Q E h=>?_) (fun cdv A outer s H vs Q E hr h=>?_)
 ·obtain⟨b,os,rs,F,rfl,_⟩:=h
  rfl
 obtain⟨b,os,rs,F,rfl,⟨dx,ml,rl,tl,nd,rv,ts,kvs,h⟩,q⟩:=h
 refine⟨_,(zu (zL (Xd WQ rfl T.zcU KR (za (Wu (pv 0) rfl) zc)))),?_⟩
 exact⟨_,rfl,b,a.zy,dx,_,_,rfl,h.hb,T.yF,T.Z6,rfl,ml,_,rfl,.inl (zO.of h.hm),fun l hl=>q l _ (Same.new hl _) hl zj⟩
theorem ziJ (T:Txt P w K mg a):zB P w K mg base zX (k+1) a.Vk a.Vl Xj Vf:=by
 refine T.Ma.F.ok zio (fun vs H Q E h=>?_) (fun cdv A outer s H vs Q E hr h=>?_)
 ·obtain⟨N,M,n,f,g,rfl,_⟩:=h
  rfl
 obtain⟨N,M,n,f,g,rfl,tb,tg,q⟩:=h
 refine⟨_,(zu (zL (zJ Nq (pv 0) (zJ tV (pv 0) (pv 1))))),?_⟩
 refine⟨_,rfl,_,rfl,_,rfl,N,M,rfl,rfl,N,N&&&M,rfl,rfl,q _ (vM (uh.Rk tb (uh.WW tb tg)) fun b _=>?_)⟩
 show(f b != (f b&&g b))=(f b&&!g b)
 cases f b<;>cases g b<;>rfl
theorem zkM (T:Txt P w K mg a)(Rb:zB P w K mg base zX k a.Vk a.Vl Xj Vf):zB P w K mg base zX (k+1) a.zcJ a.zcK Jq zcb:=by
 refine T.zg8.F.ok zkE (fun vs H Q E h=>?_) (fun cdv A outer s H vs Q E hr h=>?_)
 ·obtain⟨W,L,M,n,f,g,h,rfl,_⟩:=h
  rfl
 obtain⟨W,L,M,n,f,g,h,rfl,tf,tg,th,q⟩:=h
 refine⟨_,(zu (zL (zJ Rn (zJ tV (pv 2) (pv 0)) (zp Rb hr T.Ma (za (pv 1) (za (pv 0) zc)))))),?_⟩
 refine⟨_,rfl,_,rfl,M,W,rfl,rfl,_,rfl,_,rfl,L,W,n,g,f,rfl,tg,tf,fun R tr=>?_⟩
 refine⟨M&&&W,R,rfl,rfl,q _ (vM (uh.Lk (uh.WW th tf) tr) fun b _=>?_)⟩
 show((h b&&f b)||(g b&&!f b))=if f b then h b else g b
 cases f b<;>simp
theorem zkN (T:Txt P w K mg a):zB P w K mg base zX (k+1) a.Pj a.Pk T9 (K5 K):=by
 refine T.zcQ.F.ok zkF (fun vs H Q E h=>?_) (fun cdv A outer s H vs Q E hr h=>?_)
 ·obtain⟨l,r,xs,ns,rfl,_⟩:=h
  rfl
 obtain⟨l,r,xs,ns,rfl,hl,hq,hz,q⟩:=h
 refine⟨_,(zu (zL (Qs (vU xW (zF zE rfl T.yO yp (za (pv 1) zc)) (zF zE rfl T.yO yp (za (pv 0) zc)) (zU _)) (zeL (zF (Vs rfl) rfl T.zcT Lj (za (Ww (ZP:=zx zcD) (js:=[]) rfl (by show WR _ _ "value" [];exact lco (by decide +kernel)) rfl (wC (pv 1)) (by show ∀j∈([]:List Nat),j<2;decide) (fun cl C s₂ H₂ fp=>(vU (zb2 (K:=K) rfl) (pv 0) (xM (za zq (za zq zc))) (by with_unfolding_all rfl)))) zc)))))),?_⟩
 have hlen:(ns.map V.int).length=ns.length:=zx4 _
 refine⟨_,rfl,r,_,rfl,.inl hq,_,rfl,l,_,rfl,.inl hl,rfl,_,rfl,yC (fun c=>?_) (fun c=>?_)⟩
 ·have c':ns.length=xs.length:=by
   have:=of_decide_eq_true c
   injection this with this
   rw[hlen] at this;omega
  refine⟨_,rfl,r,rfl,⟨_,hq⟩,zbt (fun x v=>v=(match x with | .int i=>.bl (i==0||i==1) | _=>.non)) hq (by rw[hlen];exact zyn (zQ hz)) ?_ ?_ ?_⟩
  ·intro i x H' hx g
   rw[zx6] at hx
   cases ho:ns[i]? with
   | none=>rw[ho] at hx;cases hx
   | some y =>
    rw[ho] at hx
    cases hx
    refine⟨_,rfl,by show 2<=sizeLine;decide,fun p hp=>⟨p,_,rfl,.inr (vL.of zj),rfl,rfl,?_,g.trans (Same.new hp _)⟩⟩
    show V.bl ((0==y)||((1==y)||false))=V.bl (y==0||y==1)
    have e0:((0:Int)==y)=(y==0):=by rw[zyL];simp;exact eq_comm
    have e1:((1:Int)==y)=(y==1):=by rw[zyL];simp;exact eq_comm
    rw[e0,e1,Bool.or_false]
  ·rintro σ' H' Q1 Q2 hQ ⟨v,e,z,h2⟩
   exact⟨v,e,z,fun p hp=>let ⟨a1,a2,a3,a4,a5,a6,a7⟩:=h2 p hp;⟨a1,a2,a3,a4,a5,a6,hQ _ _ a7⟩⟩
  ·intro ys H' p hr' g hp
   have e:=Lp (f:=fun x=>match x with | .int i=>.bl (i==0||i==1) | _=>.non) hr'
   have e2:ys=(ns.map fun i=>(i==0||i==1)).map V.bl:=by rw[e,zyG,zyG];rfl
   subst e2
   refine⟨p,_,rfl,zO.of zj,?_⟩
   have e4:(ns.map fun i=>(i==0||i==1)).all id=Rp xs.length ns:=by
    unfold Rp
    rw[decide_eq_true c',Bool.true_and,List.all_map]
    rfl
   rw[e4]
   exact q _ (g.trans (Same.new hp _))
 ·have e4:Rp xs.length ns=false:=by
   unfold Rp
   rw[decide_eq_false (fun z=>c (decide_eq_true (by rw[hlen,z]))),Bool.false_and]
  rw[<-e4]
  exact q _ (Same.refl _)
theorem zc0 (T:Txt P w K mg a)(Nb:zB P w K mg base zX k a.Pj a.Pk T9 (K5 K)):zB P w K mg base zX (k+1) a.tH a.tK v9 (Nu K):=by
 refine T.X7.F.ok Q5 (fun vs H Q E h=>?_) (fun cdv A outer s H vs Q E hr h=>?_)
 ·obtain⟨l,r,xs,ns,rfl,_⟩:=h
  rfl
 obtain⟨l,r,xs,ns,rfl,h1,h2,h3,h4,q⟩:=h
 refine⟨_,(zu (yI (Rh (Za (zp Nb hr T.zcQ (za (pv 0) (za (pv 1) zc))) (fun _=>rfl))) (zu Vp) z8)),?_⟩
 refine⟨_,rfl,_,rfl,l,r,xs,ns,rfl,h1,h2,h3,fun H' g=>⟨_,rfl,?_⟩⟩
 rw[h4]
 exact U3 (q H' g)
theorem ziK (T:Txt P w K mg a)(uL:zB P w K mg base zX k a.Xl a.Xm Yq Xf):zB P w K mg base zX (k+1) a.N7 a.N8 Sh (Ja K):=by
 refine T.zay.F.ok Kd (fun vs H Q E h=>?_) (fun cdv A outer s H vs Q E hr h=>?_)
 ·obtain⟨N,n,f,l,ps,rfl,_⟩:=h
  rfl
 obtain⟨N,n,f,l,ps,rfl,n8,tf,hl,hp,q⟩:=h
 refine⟨_,(zf (wD PassesOwn.never rfl (wC (pv 1)) (yr (i:=3) Kd.nd rfl (Or.inl rfl)) (zu (zA 0 Kd.nd (zJ Rn (pv 0) (zp uL hr T.Vm (za (pv 0) (za (pv 3) (za (pv 2) zc))))))))
   (zu (zL (pv 0)))),?_⟩
 refine⟨_,rfl,l,rfl,⟨_,hl⟩,?_⟩
 refine uw (xs:=yd ps) (fun i σ H'=>H'=H/\∃(M:Nat) (f3:Option V),zV n M (zch (ps.take i) f)/\σ=[some (.int M),some (.ref l),some (.int (n:Nat)),f3]) ⟨rfl,N,_,tf,rfl⟩ ?_ ?_ ?_
 ·rintro i σ H' _ ⟨rfl,_⟩
  exact hl
 ·rintro i v σ H' hv ⟨rfl,M,f3,tm,rfl⟩
  unfold yd at hv
  rw[zx6] at hv
  cases hj:ps[i]? with
  | none=>rw[hj] at hv;cases hv
  | some p =>
   rw[hj] at hv
   cases hv
   refine⟨_,rfl,_,rfl,_,rfl,_,rfl,M,p,n,_,rfl,hp p (zx9 hj),n8,tm,fun R tr=>?_⟩
   refine⟨M,R,rfl,rfl,rfl,M|||R,some (.int (p:Nat)),?_,rfl⟩
   rw[xg hj,zeq]
   exact uh.Lk tm tr
 ·rintro σ H' ⟨rfl,M,f3,tm,rfl⟩
  have el:(yd ps).length=ps.length:=zx4 _
  rw[el,zyx] at tm
  exact⟨_,rfl,q M tm⟩
theorem zmI (T:Txt P w K mg a)(uM:zB P w K mg base zX k a.Vi a.Vj Xi T7)
  (wA:zB P w K mg base zX k a.vW a.vX vf uQ)
  (zmJ:zB P w K mg base zX k a.zcJ a.zcK Jq zcb):zB P w K mg base zX (k+1) a.zbI a.zbJ Jx (zby K):=by
 refine T.zfJ.F.ok Sq (fun vs H Q E h=>?_) (fun cdv A outer s H vs Q E hr h=>?_)
 ·obtain⟨N,n,f,l,m,ps,qs,rfl,_⟩:=h
  rfl
 obtain⟨N,n,f,l,m,ps,qs,rfl,n8,tf,hl,hm,le,l8,hp,hq,q⟩:=h
 refine⟨_,(zf (wD PassesOwn.never rfl (zlT rfl T.zmF (za (pv 1) (za (pv 2) zc))) (J5 rfl (uW (yr (i:=4) Sq.nd rfl (Or.inl rfl)) (uW (yr (i:=5) Sq.nd rfl (Or.inl rfl)) Ni))) (zf (zA 6 Sq.nd (zp uM hr T.Xr (za (pv 0) (za (pv 4) (za zq (za (pv 3) zc))))))
   (zf (zA 7 Sq.nd (zp uM hr T.Xr (za (pv 0) (za (pv 4) (za zq (za (pv 3) zc))))))
   (zu (zA 0 Sq.nd (zp zmJ hr T.zg8 (za (zp wA hr T.Yt (za (pv 5) (za (pv 3) zc))) (za (pv 6) (za (pv 7) zc)))))))))
   (zu (zL (pv 0)))),?_⟩
 have e1:(yd ps).length=ps.length:=zx4 _
 have e2:(yd qs).length=qs.length:=zx4 _
 refine⟨_,rfl,_,rfl,l,m,_,_,rfl,hl,hm,?_⟩
 refine zjw (xs:=yd ps) (ys:=yd qs) (by omega) (fun i σ H'=>Same H H'/\∃(M:Nat) (f4 f5 f6 f7:Option V),zV n M (zci ((ps.zip qs).take i) f)/\σ=[some (.int M),some (.ref l),some (.ref m),some (.int (n:Nat)),f4,f5,f6,f7]) ⟨Same.refl _,N,_,_,_,_,tf,rfl⟩ ?_ ?_ ?_
 ·rintro i σ H' _ ⟨g,_⟩
  exact⟨g.seq hl,g.seq hm⟩
 ·rintro i x y σ H' t hx hy ⟨g,M,f4,f5,f6,f7,tm,rfl⟩ ht
  unfold yd at hx hy
  rw[zx6] at hx hy
  cases hj:ps[i]? with
  | none=>rw[hj] at hx;cases hx
  | some p =>
   rw[hj] at hx
   cases hx
   cases hk:qs[i]? with
   | none=>rw[hk] at hy;cases hy
   | some o =>
    rw[hk] at hy
    cases hy
    have hz:(ps.zip qs)[i]?=some (p,o):=List.getElem?_zip_eq_some.mpr ⟨hj,hk⟩
    have pn:=hp p (zx9 hj)
    have on:=hq o (zx9 hk)
    refine⟨t,_,rfl,vL.of zj,rfl,_,_,rfl,_,_,rfl,rfl,?_⟩
    refine⟨_,rfl,_,rfl,_,rfl,M,p,n,false,_,rfl,pn,n8,tm,fun R0 t0=>?_⟩
    refine⟨_,rfl,_,rfl,_,rfl,M,p,n,true,_,rfl,pn,n8,tm,fun R1 t1=>?_⟩
    refine⟨_,rfl,_,rfl,o,n,rfl,on,n8,fun W tw=>?_⟩
    refine⟨_,rfl,_,rfl,W,R0,R1,n,_,_,_,rfl,tw,t0,t1,fun R tr=>?_⟩
    refine⟨g.trans (Same.new ht _),R,_,_,_,_,?_,rfl⟩
    rw[xg hz,zer]
    exact tr
 ·rintro σ H' ⟨g,M,f4,f5,f6,f7,tm,rfl⟩
  have el:(ps.zip qs).length=(yd ps).length:=by rw[List.length_zip,e1];omega
  rw[<-el,zyx] at tm
  exact⟨_,rfl,q M H' g tm⟩
theorem zfS (T:Txt P w K mg a)(yq:zB P w K mg base zX k a.yV a.yW yL (xP (yD a.zy))):zB P w K mg base zX (k+1) a.Wm a.Wn Yr (Vv a.zy):=by
 refine T.UL.F.ok zfA (fun vs H Q E h=>?_) (fun cdv A outer s H vs Q E hr h=>?_)
 ·obtain⟨b,os,rs,F,rfl,_⟩:=h
  rfl
 obtain⟨b,os,rs,F,rfl,hB,q⟩:=h
 refine⟨_,(zu (zL (zjx (ZP:=zx Uu) (js:=[0]) rfl (by show zlU (zx Uu) _ "now" "then" ["book"];exact⟨⟨rfl,by decide +kernel,by decide +kernel,by decide +kernel,by decide +kernel⟩,by decide +kernel,by decide +kernel,by decide +kernel⟩) rfl (J6 (wZ (v:=.ref a.UG) rfl T.zfM rfl)) (by show ∀j∈([0]:List Nat),j<1;decide) (fun cl C s₂ H₂ fp=>(zP (zb2 (K:=K) rfl) (pv 0) (u6 (pv 2) T.yF T.wg yq hr) (by with_unfolding_all rfl))) (fun cl C s₂ H₂ fp=>(pv 0))))),?_⟩
 have L:=yX a.zy
 refine⟨a.UG,rfl,⟨_,T.Mf H⟩,?_⟩
 refine zgv (xs:=[.ref a.SM,.ref a.SN,.ref a.SQ,.ref a.SX]) (fun i zs H'=>Same H H'/\zs=(((prs.take i).filter fun p=>os.contains p.1).map (·.1)).map V.str) ⟨Same.refl _,rfl⟩ (by show 4<=sizeLine;decide) ?_ ?_ ?_ ?_ ?_
 ·rintro i zs H' hi ⟨g,rfl⟩
  refine⟨T.Mf H',?_⟩
  have:=zyD (fun p:Str×Str=>os.contains p.1) (prs.take i)
  rw[zys] at this
  rw[zx4,zx4]
  omega
 ·rintro i v zs H' hv ⟨g,rfl⟩
  obtain⟨p,pr,rfl,hp,hpr⟩:∃(p:Addr) (pr:Str×Str),v=.ref p/\vL K H' p [.str pr.1,.str pr.2]/\prs[i]?=some pr:=by
   match i,hv with
   | 0,hv=>cases hv;exact⟨_,("a", "e"),rfl,T.zaz H',rfl⟩
   | 1,hv=>cases hv;exact⟨_,("b", "f"),rfl,T.zaA H',rfl⟩
   | 2,hv=>cases hv;exact⟨_,("c", "g"),rfl,T.zaB H',rfl⟩
   | 3,hv=>cases hv;exact⟨_,("d", "h"),rfl,T.zaC H',rfl⟩
  refine⟨p,.str pr.1,.str pr.2,rfl,hp,?_⟩
  have Ld:=L.same hB g
  obtain⟨dx,fs,zc1,hm⟩:=L.ins Ld
  refine⟨_,rfl,_,rfl,b,dx,_,rfl,zc1,hm _ (by decide +kernel),b,os,rs,F,rfl,Ld,fun l1 H1 g1 fl1 hl1=>?_⟩
  refine⟨l1,_,rfl,.inl (zO.of hl1),rfl,wL os,_,rfl,?_⟩
  rw[xg hpr,zyJ]
  show if inV (.str pr.1) (os.map V.str)=true then _ else _
  rw[Jb]
  cases hn:os.contains pr.1
  ·refine U3 ⟨g.trans g1,?_⟩
   rw[List.filter_cons_of_neg (p:=fun p:Str×Str=>os.contains p.1) (by rw[hn];exact zx8),List.filter_nil,List.append_nil]
  ·refine TX ⟨_,rfl,g.trans g1,?_⟩
   rw[List.filter_cons_of_pos (p:=fun p:Str×Str=>os.contains p.1) hn,List.filter_nil,zyi,zyi]
   rfl
 ·rintro σ' H' Q1 Q2 hQ ⟨v1,e1,v2,e2,b',dx',fs',y1,y2,y3,b2,os2,rs2,F2,y4,y5,y6⟩
  refine⟨v1,e1,v2,e2,b',dx',fs',y1,y2,y3,b2,os2,rs2,F2,y4,y5,fun l1 H1 g1 f1 h1=>?_⟩
  obtain⟨p5,xs5,z1,z2,z3,z4,b6,z5,z6⟩:=y6 l1 H1 g1 f1 h1
  exact⟨p5,xs5,z1,z2,z3,z4,b6,z5,hQ _ _ z6⟩
 ·rintro σ' H' Q1 Q2 hQ ⟨v,e,z⟩
  exact⟨v,e,hQ _ _ z⟩
 rintro zs H7 zl ⟨g,rfl⟩ hzl
 exact q zl _ (g.trans (Same.new hzl _)) (g.free hzl) zj
theorem zdE (T:Txt P w K mg a)(yq:zB P w K mg base zX k a.yV a.yW yL (xP (yD a.zy))):zB P w K mg base zX (k+1) a.RP a.RQ W5 (QG a.zy):=by
 refine T.JL.F.ok zds (fun vs H Q E h=>?_) (fun cdv A outer s H vs Q E hr h=>?_)
 ·obtain⟨b,os,rs,F,rfl,_⟩:=h
  rfl
 obtain⟨b,os,rs,F,rfl,hB,q⟩:=h
 refine⟨_,(zu (zL (zjx (ZP:=zx W4) (js:=[0]) rfl (by show zlU (zx W4) _ "now" "then" ["book"];exact⟨⟨rfl,by decide +kernel,by decide +kernel,by decide +kernel,by decide +kernel⟩,by decide +kernel,by decide +kernel,by decide +kernel⟩) rfl (J6 (wZ (v:=.ref a.UG) rfl T.zfM rfl)) (by show ∀j∈([0]:List Nat),j<1;decide) (fun cl C s₂ H₂ fp=>(zP (zb2 (K:=K) rfl) (pv 1) (u6 (pv 2) T.yF T.wg yq hr) (by with_unfolding_all rfl))) (fun cl C s₂ H₂ fp=>(pv 1))))),?_⟩
 have L:=yX a.zy
 refine⟨a.UG,rfl,⟨_,T.Mf H⟩,?_⟩
 refine zgv (xs:=[.ref a.SM,.ref a.SN,.ref a.SQ,.ref a.SX]) (fun i zs H'=>Same H H'/\zs=(((prs.take i).filter fun p=>os.contains p.2).map (·.2)).map V.str) ⟨Same.refl _,rfl⟩ (by show 4<=sizeLine;decide) ?_ ?_ ?_ ?_ ?_
 ·rintro i zs H' hi ⟨g,rfl⟩
  refine⟨T.Mf H',?_⟩
  have:=zyD (fun p:Str×Str=>os.contains p.2) (prs.take i)
  rw[zys] at this
  rw[zx4,zx4]
  omega
 ·rintro i v zs H' hv ⟨g,rfl⟩
  obtain⟨p,pr,rfl,hp,hpr⟩:∃(p:Addr) (pr:Str×Str),v=.ref p/\vL K H' p [.str pr.1,.str pr.2]/\prs[i]?=some pr:=by
   match i,hv with
   | 0,hv=>cases hv;exact⟨_,("a", "e"),rfl,T.zaz H',rfl⟩
   | 1,hv=>cases hv;exact⟨_,("b", "f"),rfl,T.zaA H',rfl⟩
   | 2,hv=>cases hv;exact⟨_,("c", "g"),rfl,T.zaB H',rfl⟩
   | 3,hv=>cases hv;exact⟨_,("d", "h"),rfl,T.zaC H',rfl⟩
  refine⟨p,.str pr.1,.str pr.2,rfl,hp,?_⟩
  have Ld:=L.same hB g
  obtain⟨dx,fs,zc1,hm⟩:=L.ins Ld
  refine⟨_,rfl,_,rfl,b,dx,_,rfl,zc1,hm _ (by decide +kernel),b,os,rs,F,rfl,Ld,fun l1 H1 g1 fl1 hl1=>?_⟩
  refine⟨l1,_,rfl,.inl (zO.of hl1),rfl,wL os,_,rfl,?_⟩
  rw[xg hpr,zyJ]
  show if inV (.str pr.2) (os.map V.str)=true then _ else _
  rw[Jb]
  cases hn:os.contains pr.2
  ·refine U3 ⟨g.trans g1,?_⟩
   rw[List.filter_cons_of_neg (p:=fun p:Str×Str=>os.contains p.2) (by rw[hn];exact zx8),List.filter_nil,List.append_nil]
  ·refine TX ⟨_,rfl,g.trans g1,?_⟩
   rw[List.filter_cons_of_pos (p:=fun p:Str×Str=>os.contains p.2) hn,List.filter_nil,zyi,zyi]
   rfl
 ·rintro σ' H' Q1 Q2 hQ ⟨v1,e1,v2,e2,b',dx',fs',y1,y2,y3,b2,os2,rs2,F2,y4,y5,y6⟩
  refine⟨v1,e1,v2,e2,b',dx',fs',y1,y2,y3,b2,os2,rs2,F2,y4,y5,fun l1 H1 g1 f1 h1=>?_⟩
  obtain⟨p5,xs5,z1,z2,z3,z4,b6,z5,z6⟩:=y6 l1 H1 g1 f1 h1
  exact⟨p5,xs5,z1,z2,z3,z4,b6,z5,hQ _ _ z6⟩
 ·rintro σ' H' Q1 Q2 hQ ⟨v,e,z⟩
  exact⟨v,e,hQ _ _ z⟩
 rintro zs H7 zl ⟨g,rfl⟩ hzl
 exact q zl _ (g.trans (Same.new hzl _)) (g.free hzl) zj
theorem zdF (T:Txt P w K mg a)(yq:zB P w K mg base zX k a.yV a.yW yL (xP (yD a.zy)))
  (Zk:zB P w K mg base zX k a.Wm a.Wn Yr (Vv a.zy)):zB P w K mg base zX (k+1) a.Zw a.Zx uT (Yp a.zy):=by
 refine T.ZF.F.ok zdu (fun vs H Q E h=>?_) (fun cdv A outer s H vs Q E hr h=>?_)
 ·obtain⟨b,os,rs,F,rfl,_⟩:=h
  rfl
 obtain⟨b,os,rs,F,rfl,hB,q⟩:=h
 refine⟨_,(zu (zL (Ww (ZP:=zx RG) (js:=[0]) rfl (by show WR _ _ "mark" ["book"];exact lco (by decide +kernel)) rfl (wC (zp Zk hr T.UL (za (pv 0) zc))) (by show ∀j∈([0]:List Nat),j<1;decide) (fun cl C s₂ H₂ fp=>(zh5 (K:=K) rfl PySem.F.plainAttrs_list PySem.F.slot_list_index PySem.F.type_list_index (zep (K:=K) rfl) (u6 (pv 1) T.yF T.wg yq hr) (za (pv 0) zc)))))),?_⟩
 have L:=yX a.zy
 refine⟨_,rfl,b,os,rs,F,rfl,hB,fun l0 H0 g0 fl0 hl0=>?_⟩
 have hB0:=L.same hB g0
 have l4:(z9 os).length<=4:=by
  show((prs.filter _).map _).length<=4
  rw[zx4]
  exact zyD _ _
 refine⟨l0,rfl,⟨_,zO.of hl0⟩,zjt (fun i v=>∃x,(z9 os)[i]?=some x/\v=.int ((ix os x:Nat):Int)) (zO.of hl0) (by rw[zx4];exact zyn (zQ (by omega))) ?_ ?_ ?_⟩
 ·intro i v H' hv g
  rw[zx6] at hv
  cases hj:(z9 os)[i]? with
  | none=>rw[hj] at hv;cases hv
  | some x =>
   rw[hj] at hv
   cases hv
   have hx:x∈os:=zcj (zx9 hj)
   obtain⟨i1,i2,i3⟩:=vI hx
   have Ld:=L.same hB0 g
   obtain⟨dx,fs,zc1,hm⟩:=L.ins Ld
   refine⟨_,rfl,b,dx,_,rfl,zc1,hm _ (by decide +kernel),b,os,rs,F,rfl,Ld,fun l1 H1 g1 fl1 hl1=>?_⟩
   exact⟨.inl ⟨rfl,_,zO.of hl1⟩,_,rfl,l1,_,_,_,rfl,rfl,zO.of hl1,rfl,wL _,i1,⟨x,rfl,rfl⟩,g.trans g1⟩
 ·rintro σ' H' Q1 Q2 hQ ⟨v1,e1,b',dx',fs',y1,y2,y3,b2,os2,rs2,F2,y4,y5,y6⟩
  refine⟨v1,e1,b',dx',fs',y1,y2,y3,b2,os2,rs2,F2,y4,y5,fun l1 H1 g1 f1 h1=>?_⟩
  obtain⟨z0,v2,e2,p5,xs5,w5,j5,z1,z2,z3,z4,z5,z6,z7⟩:=y6 l1 H1 g1 f1 h1
  exact⟨z0,v2,e2,p5,xs5,w5,j5,z1,z2,z3,z4,z5,z6,hQ _ _ z7⟩
 intro us H7 zl hul huv g7 hzl
 rw[zx4] at hul
 have eu:us=yd ((z9 os).map (ix os)):=by
  refine List.ext_getElem? fun i=>?_
  unfold yd
  by_cases hi:i<us.length
  ·obtain⟨x,hx,e⟩:=huv i _ (zx5 hi)
   rw[zx5 hi,e,zx6,zx6,hx]
   rfl
  ·rw[zyE (by omega),zyE (by rw[zx4,zx4];omega)]
 subst eu
 exact q zl _ (g0.trans (g7.trans (Same.new hzl _))) (g0.free (g7.free hzl)) zj
theorem zc2 (T:Txt P w K mg a)(yq:zB P w K mg base zX k a.yV a.yW yL (xP (yD a.zy)))
  (zfT:zB P w K mg base zX k a.RP a.RQ W5 (QG a.zy)):zB P w K mg base zX (k+1) a.Z2 a.Z4 tD (YB a.zy):=by
 refine T.Z5.F.ok zcF (fun vs H Q E h=>?_) (fun cdv A outer s H vs Q E hr h=>?_)
 ·obtain⟨b,os,rs,F,rfl,_⟩:=h
  rfl
 obtain⟨b,os,rs,F,rfl,hB,q⟩:=h
 refine⟨_,(zu (zL (Ww (ZP:=zx Te) (js:=[0]) rfl (by show WR _ _ "mark" ["book"];exact lco (by decide +kernel)) rfl (wC (zp zfT hr T.JL (za (pv 0) zc))) (by show ∀j∈([0]:List Nat),j<1;decide) (fun cl C s₂ H₂ fp=>(zh5 (K:=K) rfl PySem.F.plainAttrs_list PySem.F.slot_list_index PySem.F.type_list_index (zep (K:=K) rfl) (u6 (pv 1) T.yF T.wg yq hr) (za (pv 0) zc)))))),?_⟩
 have L:=yX a.zy
 refine⟨_,rfl,b,os,rs,F,rfl,hB,fun l0 H0 g0 fl0 hl0=>?_⟩
 have hB0:=L.same hB g0
 have l4:(uX os).length<=4:=by
  show((prs.filter _).map _).length<=4
  rw[zx4]
  exact zyD _ _
 refine⟨l0,rfl,⟨_,zO.of hl0⟩,zjt (fun i v=>∃x,(uX os)[i]?=some x/\v=.int ((ix os x:Nat):Int)) (zO.of hl0) (by rw[zx4];exact zyn (zQ (by omega))) ?_ ?_ ?_⟩
 ·intro i v H' hv g
  rw[zx6] at hv
  cases hj:(uX os)[i]? with
  | none=>rw[hj] at hv;cases hv
  | some x =>
   rw[hj] at hv
   cases hv
   have hx:x∈os:=zam (zx9 hj)
   obtain⟨i1,i2,i3⟩:=vI hx
   have Ld:=L.same hB0 g
   obtain⟨dx,fs,zc1,hm⟩:=L.ins Ld
   refine⟨_,rfl,b,dx,_,rfl,zc1,hm _ (by decide +kernel),b,os,rs,F,rfl,Ld,fun l1 H1 g1 fl1 hl1=>?_⟩
   exact⟨.inl ⟨rfl,_,zO.of hl1⟩,_,rfl,l1,_,_,_,rfl,rfl,zO.of hl1,rfl,wL _,i1,⟨x,rfl,rfl⟩,g.trans g1⟩
 ·rintro σ' H' Q1 Q2 hQ ⟨v1,e1,b',dx',fs',y1,y2,y3,b2,os2,rs2,F2,y4,y5,y6⟩
  refine⟨v1,e1,b',dx',fs',y1,y2,y3,b2,os2,rs2,F2,y4,y5,fun l1 H1 g1 f1 h1=>?_⟩
  obtain⟨z0,v2,e2,p5,xs5,w5,j5,z1,z2,z3,z4,z5,z6,z7⟩:=y6 l1 H1 g1 f1 h1
  exact⟨z0,v2,e2,p5,xs5,w5,j5,z1,z2,z3,z4,z5,z6,hQ _ _ z7⟩
 intro us H7 zl hul huv g7 hzl
 rw[zx4] at hul
 have eu:us=yd ((uX os).map (ix os)):=by
  refine List.ext_getElem? fun i=>?_
  unfold yd
  by_cases hi:i<us.length
  ·obtain⟨x,hx,e⟩:=huv i _ (zx5 hi)
   rw[zx5 hi,e,zx6,zx6,hx]
   rfl
  ·rw[zyE (by omega),zyE (by rw[zx4,zx4];omega)]
 subst eu
 exact q zl _ (g0.trans (g7.trans (Same.new hzl _))) (g0.free (g7.free hzl)) zj
theorem zmL (T:Txt P w K mg a)(yq:zB P w K mg base zX k a.yV a.yW yL (xP (yD a.zy)))(yG:zB P w K mg base zX k a.xu a.xG yS (Zn a.zy))
  (vZ:zB P w K mg base zX k a.Zw a.Zx uT (Yp a.zy))(tQ:zB P w K mg base zX k a.Z2 a.Z4 tD (YB a.zy))
  (zaH:zB P w K mg base zX k a.N7 a.N8 Sh (Ja K))(zfU:zB P w K mg base zX k a.zbI a.zbJ Jx (zby K)):zB P w K mg base zX (k+1) a.zbG a.zbH Jv (zbz a.zy):=by
 refine T.zfI.F.ok zcG (fun vs H Q E h=>?_) (fun cdv A outer s H vs Q E hr h=>?_)
 ·obtain⟨b,os,rs,F,k0,N,f,rfl,_⟩:=h
  rfl
 obtain⟨b,os,rs,F,k0,N,f,rfl,hB,hk,hW,tf,q⟩:=h
 refine⟨_,(zf (zA 3 zcG.nd (zF zE rfl T.yO yp (za (u6 (pv 0) T.yF T.wg yq hr) zc)))
   (zf (zA 4 zcG.nd (zp zaH hr T.zay (za (zJ tV (pv 2) (vA (pv 0) T.yF T.wz yG hr (za (pv 1) zc))) (za (zp vZ hr T.ZF (za (pv 0) zc)) (za (pv 3) zc)))))
   (zu (zL (zp zfU hr T.zfJ (za (pv 4) (za (zp tQ hr T.Z5 (za (pv 0) zc)) (za (zp vZ hr T.ZF (za (pv 0) zc)) (za (pv 3) zc))))))))),?_⟩
 have L:=yX a.zy
 have o8:=(L.ord hB).le
 have lo5:(os.map V.str).length=os.length:=zx4 _
 have ln:(yg os).length=(zW os).length:=by unfold yg zW;rw[zx4,zx4];exact hW.len
 have l4:(yg os).length<=8:=by unfold yg;rw[zx4];have:=wV os;omega
 have hB0:=hB
 obtain⟨dx,ml,rl,tl,nd,rv,ts,kvs,h⟩:=hB
 refine⟨_,rfl,b,dx,_,rfl,h.hb,rfl,b,os,rs,F,rfl,hB0,fun l1 H1 g1 fl1 hl1=>?_⟩
 refine⟨l1,_,rfl,.inl (zO.of hl1),?_⟩
 rw[lo5]
 have Ld:=L.same hB0 g1
 refine⟨_,rfl,_,rfl,b,dx,_,rfl,(g1 _ _ h.hb),rfl,_,rfl,b,os,rs,F,k0,rfl,Ld,hk,fun t tt=>?_⟩
 refine⟨N,t,rfl,rfl,?_⟩
 refine⟨_,rfl,b,os,rs,F,rfl,Ld,fun l2 H2 g2 fl2 hl2=>?_⟩
 have hB2:=L.same Ld g2
 refine⟨_,rfl,_,os.length,_,l2,yg os,rfl,o8,uh.WW tf tt,zO.of hl2,YC,fun R tr=>?_⟩
 refine⟨_,rfl,_,rfl,b,os,rs,F,rfl,hB2,fun l3 H3 g3 fl3 hl3=>?_⟩
 have hB3:=L.same hB2 g3
 refine⟨_,rfl,b,os,rs,F,rfl,hB3,fun l4' H4 g4 fl4 hl4=>?_⟩
 refine⟨_,rfl,R,os.length,_,l3,l4',zW os,yg os,rfl,o8,tr,zO.of (g4 _ _ hl3),zO.of hl4,ln.symm,by omega,ZS,YC,fun R2 H5 g5 t5=>?_⟩
 exact q R2 H5 (g1.trans (g2.trans (g3.trans (g4.trans g5)))) t5
theorem zkO (T:Txt P w K mg a)(yq:zB P w K mg base zX k a.yV a.yW yL (xP (yD a.zy)))(yG:zB P w K mg base zX k a.xu a.xG yS (Zn a.zy))
  (vZ:zB P w K mg base zX k a.Zw a.Zx uT (Yp a.zy))(tQ:zB P w K mg base zX k a.Z2 a.Z4 tD (YB a.zy))
  (zaH:zB P w K mg base zX k a.N7 a.N8 Sh (Ja K))(zfU:zB P w K mg base zX k a.zbI a.zbJ Jx (zby K)):zB P w K mg base zX (k+1) a.zcL a.zcM Jw (zck a.zy):=by
 refine T.zg9.F.ok zav (fun vs H Q E h=>?_) (fun cdv A outer s H vs Q E hr h=>?_)
 ·obtain⟨b,os,rs,F,k0,N,f,rfl,_⟩:=h
  rfl
 obtain⟨b,os,rs,F,k0,N,f,rfl,hB,hk,hW,tf,q⟩:=h
 refine⟨_,(zf (zA 3 zav.nd (zF zE rfl T.yO yp (za (u6 (pv 0) T.yF T.wg yq hr) zc)))
   (zf (zA 4 zav.nd (zp zfU hr T.zfJ (za (pv 2) (za (zp vZ hr T.ZF (za (pv 0) zc)) (za (zp tQ hr T.Z5 (za (pv 0) zc)) (za (pv 3) zc))))))
   (zu (zL (zp zaH hr T.zay (za (zJ tV (pv 4) (vA (pv 0) T.yF T.wz yG hr (za (pv 1) zc))) (za (zp tQ hr T.Z5 (za (pv 0) zc)) (za (pv 3) zc)))))))),?_⟩
 have L:=yX a.zy
 have o8:=(L.ord hB).le
 have lo5:(os.map V.str).length=os.length:=zx4 _
 have ln:(yg os).length=(zW os).length:=by unfold yg zW;rw[zx4,zx4];exact hW.len
 have l4:(yg os).length<=8:=by unfold yg;rw[zx4];have:=wV os;omega
 have hB0:=hB
 obtain⟨dx,ml,rl,tl,nd,rv,ts,kvs,h⟩:=hB
 refine⟨_,rfl,b,dx,_,rfl,h.hb,rfl,b,os,rs,F,rfl,hB0,fun l1 H1 g1 fl1 hl1=>?_⟩
 refine⟨l1,_,rfl,.inl (zO.of hl1),?_⟩
 rw[lo5]
 have Ld:=L.same hB0 g1
 refine⟨_,rfl,_,rfl,b,os,rs,F,rfl,Ld,fun l2 H2 g2 fl2 hl2=>?_⟩
 have hB2:=L.same Ld g2
 refine⟨_,rfl,b,os,rs,F,rfl,hB2,fun l3 H3 g3 fl3 hl3=>?_⟩
 refine⟨_,rfl,N,os.length,_,l2,l3,yg os,zW os,rfl,o8,tf,zO.of (g3 _ _ hl2),zO.of hl3,ln,by omega,YC,ZS,fun R H4 g4 tr=>?_⟩
 have hB4:=L.same hB2 (g3.trans g4)
 refine⟨_,rfl,_,rfl,b,dx,_,rfl,((g1.trans (g2.trans (g3.trans g4))) _ _ h.hb),rfl,_,rfl,b,os,rs,F,k0,rfl,hB4,hk,fun t tt=>?_⟩
 refine⟨R,t,rfl,rfl,?_⟩
 refine⟨_,rfl,b,os,rs,F,rfl,hB4,fun l5 H5 g5 fl5 hl5=>?_⟩
 refine⟨_,rfl,_,os.length,_,l5,zW os,rfl,o8,uh.WW tr tt,zO.of hl5,ZS,fun R2 t2=>?_⟩
 exact q R2 H5 (g1.trans (g2.trans (g3.trans (g4.trans g5)))) t2
theorem zaI (T:Txt P w K mg a)(yq:zB P w K mg base zX k a.yV a.yW yL (xP (yD a.zy))):zB P w K mg base zX (k+1) a.WD a.WK Z9 (QJ a.zy):=by
 refine T.Qo.F.ok Zq (fun vs H Q E h=>?_) (fun cdv A outer s H vs Q E hr h=>?_)
 ·obtain⟨b,os,rs,F,rfl,_⟩:=h
  rfl
 obtain⟨b,os,rs,F,rfl,hB,hW,q⟩:=h
 refine⟨_,(zf (zA 1 Zq.nd (u6 (pv 0) T.yF T.wg yq hr))
   (zu (wD PassesOwn.never rfl (J6 (wZ (v:=.ref a.UG) rfl T.zfM rfl)) (J5 rfl (uW (yr (i:=2) Zq.nd rfl (Or.inl rfl)) (uW (yr (i:=3) Zq.nd rfl (Or.inl rfl)) Ni))) (zu (yI (zP Mt (vU Zm (pv 2) (pv 1) (by with_unfolding_all rfl)) (vU Zm (pv 3) (pv 1) (by with_unfolding_all rfl)) (zU _)) (zu Vp) z8))))),?_⟩
 have L:=yX a.zy
 obtain⟨dx,fs,zc1,hm⟩:=L.ins hB
 refine⟨_,rfl,b,dx,_,rfl,zc1,hm _ (by decide +kernel),b,os,rs,F,rfl,hB,fun l1 H1 g1 fl1 hl1=>?_⟩
 refine⟨a.UG,rfl,⟨_,T.Mf H1⟩,?_⟩
 refine zm7 (xs:=[.ref a.SM,.ref a.SN,.ref a.SQ,.ref a.SX]) (fun i σ H'=>H'=H1/\∃f2 f3:Option V,σ=[some (.ref b),some (.ref l1),f2,f3]) ⟨rfl,_,_,rfl⟩ ?_ ?_ ?_
 ·rintro i σ H' _ ⟨rfl,_⟩
  exact T.Mf H'
 ·rintro i v σ H' hv ⟨rfl,f2,f3,rfl⟩
  obtain⟨p,pr,rfl,hp,hpr⟩:∃(p:Addr) (pr:Str×Str),v=.ref p/\vL K H' p [.str pr.1,.str pr.2]/\prs[i]?=some pr:=by
   match i,hv with
   | 0,hv=>cases hv;exact⟨_,("a", "e"),rfl,T.zaz H',rfl⟩
   | 1,hv=>cases hv;exact⟨_,("b", "f"),rfl,T.zaA H',rfl⟩
   | 2,hv=>cases hv;exact⟨_,("c", "g"),rfl,T.zaB H',rfl⟩
   | 3,hv=>cases hv;exact⟨_,("d", "h"),rfl,T.zaC H',rfl⟩
  have e:=hW pr (zx9 hpr)
  refine⟨p,_,rfl,hp,rfl,_,_,rfl,_,_,rfl,rfl,?_⟩
  refine⟨_,rfl,_,rfl,l1,_,rfl,.inl (zO.of hl1),rfl,wL os,?_⟩
  refine⟨_,rfl,_,rfl,l1,_,rfl,.inl (zO.of hl1),rfl,wL os,rfl,_,rfl,zh4 (congrArg V.bl ?_) ⟨rfl,_,_,rfl⟩⟩
  show inV (.str pr.1) (os.map V.str)=inV (.str pr.2) (os.map V.str)
  rw[Jb,Jb,e]
 ·rintro σ H' ⟨rfl,f2,f3,rfl⟩
  exact q _ g1
theorem JW (T:Txt P w K mg a)(yq:zB P w K mg base zX k a.yV a.yW yL (xP (yD a.zy)))(yG:zB P w K mg base zX k a.xu a.xG yS (Zn a.zy))
  (ZM:zB P w K mg base zX k a.wW a.wX wj (Vu a.zy))(tQ:zB P w K mg base zX k a.Z2 a.Z4 tD (YB a.zy))
  (Ko:zB P w K mg base zX k a.RK a.RL Vy zbw):zB P w K mg base zX (k+1) a.Xn a.Xo Zr (zan a.zy):=by
 refine T.S9.F.ok Uv (fun vs H Q E h=>?_) (fun cdv A outer s H vs Q E hr h=>?_)
 ·obtain⟨b,os,rs,F,k0,rfl,_⟩:=h
  rfl
 obtain⟨b,os,rs,F,k0,rfl,hB,hN,q⟩:=h
 refine⟨_,(zf (yu (vA (pv 0) T.yF T.ZL ZM hr (za (pv 1) zc)))
   (zu (wD PassesOwn.never rfl (wC (zp tQ hr T.Z5 (za (pv 0) zc))) (yr (i:=2) Uv.nd rfl (Or.inl rfl)) (zu (yI (Za (zp Ko hr T.Kg (za (vA (pv 0) T.yF T.wz yG hr (za (pv 1) zc)) (za (pv 2) (za (zF zE rfl T.yO yp (za (u6 (pv 0) T.yF T.wg yq hr) zc)) zc)))) (fun _=>rfl)) (zu Vp) z8))))),?_⟩
 have L:=yX a.zy
 have o8:=(L.ord hB).le
 have lo5:(os.map V.str).length=os.length:=zx4 _
 have hB0:=hB
 obtain⟨dx,ml,rl,tl,nd,rv,ts,kvs,h⟩:=hB
 refine⟨_,rfl,b,dx,_,rfl,h.hb,rfl,_,rfl,b,os,rs,F,k0,rfl,hB0,hN.1,?_⟩
 refine⟨_,rfl,b,os,rs,F,rfl,hB0,fun l1 H1 g1 fl1 hl1=>?_⟩
 refine⟨l1,rfl,⟨_,zO.of hl1⟩,?_⟩
 refine uw (xs:=yd (zW os)) (fun i σ H'=>Same H1 H'/\∃f2:Option V,σ=[some (.ref b),some (.int (k0:Nat)),f2]) ⟨Same.refl _,_,rfl⟩ ?_ ?_ ?_
 ·rintro i σ H' _ ⟨g,_⟩
  exact zO.of (g _ _ hl1)
 ·rintro i v σ H' hv ⟨g,f2,rfl⟩
  unfold yd at hv
  rw[zx6] at hv
  cases hj:(zW os)[i]? with
  | none=>rw[hj] at hv;cases hv
  | some p =>
   rw[hj] at hv
   cases hv
   have hp:=zx9 hj
   have Ld:=L.same hB0 (g1.trans g)
   have b1:=(g1.trans g) _ _ h.hb
   refine⟨_,rfl,b,dx,_,rfl,b1,rfl,_,rfl,b,os,rs,F,k0,rfl,Ld,hN.1,fun t tt=>?_⟩
   refine⟨_,rfl,_,rfl,b,dx,_,rfl,b1,rfl,b,os,rs,F,rfl,Ld,fun l2 H2 g2 fl2 hl2=>?_⟩
   refine⟨l2,_,rfl,.inl (zO.of hl2),?_⟩
   rw[lo5]
   refine⟨t,p,os.length,_,rfl,ZS p hp,o8,tt,fun c cf ct=>?_⟩
   cases c with
   | true =>
    obtain⟨z,z1,z2⟩:=ct rfl
    exact absurd ((hN.2 p hp z z1 false).trans (hN.2 p hp z z1 true).symm) z2
   | false=>exact⟨_,rfl,U3 ⟨g.trans g2,_,rfl⟩⟩
 ·rintro σ H' ⟨g,f2,rfl⟩
  exact q _ (g1.trans g)
theorem Qp (T:Txt P w K mg a)(zbj:zB P w K mg base zX k a.WD a.WK Z9 (QJ a.zy))
  (ZM:zB P w K mg base zX k a.wW a.wX wj (Vu a.zy))
  (zaJ:zB P w K mg base zX k a.Xn a.Xo Zr (zan a.zy)):zB P w K mg base zX (k+1) a.wJ a.wK xQ (Vx a.zy K):=by
 refine T.vY.F.ok Xb (fun vs H Q E h=>?_) (fun cdv A outer s H vs Q E hr h=>?_)
 ·obtain⟨b,l,os,rs,F,k0,ks,rfl,_⟩:=h
  rfl
 obtain⟨b,l,os,rs,F,k0,ks,rfl,hB,hW,hk,hl,hN,q⟩:=h
 refine⟨_,(zf (yu (zp zbj hr T.Qo (za (pv 0) zc)))
   (zf (yu (vA (pv 0) T.yF T.ZL ZM hr (za (pv 1) zc)))
   (zu (wD PassesOwn.never rfl (wC (pv 2)) (yr (i:=3) Xb.nd rfl (Or.inl rfl)) (zu (yu (zp zaJ hr T.S9 (za (pv 0) (za (pv 3) zc))))))))),?_⟩
 have L:=yX a.zy
 have hB0:=hB
 obtain⟨dx,ml,rl,tl,nd,rv,ts,kvs,h⟩:=hB
 refine⟨_,rfl,b,os,rs,F,rfl,hB0,hW,fun H1 g1=>?_⟩
 refine⟨_,rfl,b,dx,_,rfl,g1 _ _ h.hb,rfl,_,rfl,b,os,rs,F,k0,rfl,L.same hB0 g1,hk,?_⟩
 refine⟨_,rfl,l,rfl,⟨_,g1.seq hl⟩,?_⟩
 refine uw (xs:=yd ks) (fun i σ H'=>Same H H'/\∃f3:Option V,σ=[some (.ref b),some (.int (k0:Nat)),some (.ref l),f3]) ⟨g1,_,rfl⟩ ?_ ?_ ?_
 ·rintro i σ H' _ ⟨g,_⟩
  exact g.seq hl
 ·rintro i v σ H' hv ⟨g,f3,rfl⟩
  unfold yd at hv
  rw[zx6] at hv
  cases hj:ks[i]? with
  | none=>rw[hj] at hv;cases hv
  | some j =>
   rw[hj] at hv
   cases hv
   exact⟨_,rfl,_,rfl,b,os,rs,F,j,rfl,L.same hB0 g,hN j (zx9 hj),fun H2 g2=>⟨g.trans g2,_,rfl⟩⟩
 ·rintro σ H' ⟨g,f3,rfl⟩
  exact q _ g
theorem zbk (T:Txt P w K mg a)(yG:zB P w K mg base zX k a.xu a.xG yS (Zn a.zy))(zfV:zB P w K mg base zX k a.zbG a.zbH Jv (zbz a.zy))(Rb:zB P w K mg base zX k a.Vk a.Vl Xj Vf):zB P w K mg base zX (k+1) a.VR a.V0 YJ (U7 a.zy):=by
 refine T.PK.F.ok vO (fun vs H Q E h=>?_) (fun cdv A outer s H vs Q E hr h=>?_)
 ·obtain⟨b,os,rs,F,k0,j,rfl,_⟩:=h
  rfl
 obtain⟨b,os,rs,F,k0,j,rfl,hB,hW,hk,hj,q⟩:=h
 refine⟨_,(zf (zA 3 vO.nd (yE zc))
   (zf (zA 4 vO.nd (vA (pv 0) T.yF T.wz yG hr (za (pv 2) zc)))
   (zf (zA 5 vO.nd zq)
   (zf (Kz PassesOwn.never (zP Mt (pv 4) zq (zU _)) (zf (yu (vd PySem.F.plainAttrs_list PySem.F.slot_list_append PySem.F.type_list_append wF (pv 3) (za (pv 4) zc)))
   (zf (zA 5 vO.nd (zJ Rn (pv 5) (pv 4)))
   (zu (zA 4 vO.nd (zp Rb hr T.Ma (za (zp zfV hr T.zfI (za (pv 0) (za (pv 1) (za (pv 4) zc)))) (za (pv 5) zc))))))))
   (zu (zL (pv 3))))))),?_⟩
 have L:=yX a.zy
 have o8:=(L.ord hB).le
 have p256:2^os.length<=256:=zgj o8
 obtain⟨dx,ml,rl,tl,nd,rv,ts,kvs,h⟩:=id hB
 refine⟨by show 0<=sizeLine;decide,fun l hl=>?_⟩
 have g0:=Same.new hl (.lst [])
 have e0:upd H l (.lst []) l=some (.lst (yd [])):=zj
 generalize upd H l (.lst [])=H1 at g0 e0
 refine⟨_,rfl,b,dx,_,rfl,g0 _ _ h.hb,rfl,_,rfl,b,os,rs,F,j,rfl,L.same hB g0,hj,fun N tN=>?_⟩
 refine⟨fun m σ H'=>∃(Ns:List Nat) (cur told:Nat),m=256-Ns.length/\Ns.length<=zkw os (tB rs k0) (tB rs j) Ns.length/\Same H H'/\H' l=some (.lst (yd Ns))/\(∀(i N:Nat),Ns[i]?=some N->zV os.length N (ZV os (tB rs k0) (tB rs j) i).1/\N≠0)/\zV os.length cur (ZV os (tB rs k0) (tB rs j) Ns.length).1/\zV os.length told (ZV os (tB rs k0) (tB rs j) Ns.length).2/\σ=[some (.ref b),some (.int (k0:Nat)),some (.int (j:Nat)),some (.ref l),some (.int (cur:Nat)),some (.int (told:Nat))],⟨_,[],N,0,rfl,zyr _,g0,e0,(fun i N e=>by cases e),tN,(fun c=>by rw[Nat.zero_testBit];show false=(_&&false);rw[Bool.and_false]),rfl⟩,?_⟩
 rintro m σ H' ⟨Ns,cur,told,rfl,hc,g,hl',ok,tc,tt,rfl⟩
 refine⟨_,rfl,rfl,_,rfl,?_⟩
 by_cases c0:cur=0
 ·subst c0
  refine zh4 rfl ⟨_,rfl,?_⟩
  exact q l H' Ns g hl hl' ⟨ok,tc⟩ (zyq hc (zyq (zfi _ _) p256))
 ·have ct:=zjE tc c0
  have cl:=zfi (os:=os) (t:=tB rs k0) (tB rs j) (Ns.length+1)
  show if (!decide (V.int (cur:Nat)=V.int 0))=true then _ else _
  rw[decide_eq_false (fun e=>c0 (by injection e;omega))]
  refine TX ⟨_,fun σ' H2 h=>h,?_⟩
  refine⟨_,rfl,.inl ⟨rfl,_,zO.of hl'⟩,_,rfl,l,_,_,rfl,rfl,hl',by rw[ZW];exact zQ (by omega),?_⟩
  have g2:Same H (upd H' l (.lst (yd Ns++[V.int (cur:Nat)]))):=g.over hl _
  have e2:upd H' l (.lst (yd Ns++[V.int (cur:Nat)])) l=some (.lst (yd (Ns++[cur]))):=by rw[zj];unfold yd;rw[zyi];rfl
  generalize upd H' l (.lst (yd Ns++[V.int (cur:Nat)]))=H2 at g2 e2
  refine⟨_,rfl,_,rfl,told,cur,rfl,rfl,?_⟩
  refine⟨_,rfl,_,rfl,_,rfl,b,os,rs,F,k0,cur,_,rfl,L.same hB g2,hk,hW,tc,fun R H3 g3 tr=>?_⟩
  refine⟨_,rfl,R,told|||cur,os.length,_,_,rfl,tr,zl4 tt tc,fun R2 tr2=>?_⟩
  have el:(Ns++[cur]).length=Ns.length+1:=by rw[zyc];rfl
  refine⟨256-(Ns++[cur]).length,by rw[el];omega,Ns++[cur],R2,told|||cur,rfl,by rw[el];omega,g2.trans g3,g3 _ _ e2,fun i N e=>?_,by rw[el];exact tr2,by rw[el];exact zl4 tt tc,rfl⟩
  rcases Nat.lt_or_ge i Ns.length with z | z
  ·rw[zyB z] at e
   exact ok i N e
  ·have hi:=(zx7.mp e).1
   have ei:i=Ns.length:=by omega
   subst ei
   rw[List.getElem?_append_right (zyk _),Nat.sub_self] at e
   cases e
   exact⟨tc,c0⟩
theorem zbl (T:Txt P w K mg a)(Nb:zB P w K mg base zX k a.Pj a.Pk T9 (K5 K)):zB P w K mg base (CXE P w) (k+1) a.tH a.tK v9 (zim a.wO K):=by
 refine T.X7.F.okE Q5 (fun vs H Q E h=>?_) (fun cdv A outer s H vs Q E hr h=>?_)
 ·obtain⟨l,r,xs,ns,rfl,_⟩:=h
  rfl
 obtain⟨l,r,xs,ns,rfl,h1,h2,h3,h4,q⟩:=h
 have Nb:=Nb.lift (CX:=CXE P w)
 refine⟨_,(zu (yI (Rh (Za (Nx zjC Nb hr T.zcQ (za (pv 0) (za (pv 1) zc))) (fun _=>rfl))) (zu (zms rfl rfl T.zcS.own rfl T.zjU zoa (za zZ zc))) z8)),?_⟩
 refine⟨_,rfl,_,rfl,l,r,xs,ns,rfl,h1,h2,h3,fun H' g=>⟨_,rfl,?_⟩⟩
 rw[h4]
 exact TX ⟨by show 1<=sizeLine;decide,q H' g⟩
theorem ziL (T:Txt P w K mg a)  : zB P w K mg base zX (k+1) a.vh a.vm wI (U6 K):=by
 refine T.uP.F.ok zfD (fun vs H Q E h=>?_) (fun cdv A outer s H vs Q E hr h=>?_)
 ·obtain⟨ol,os,rfl,_⟩:=h
  rfl
 obtain⟨ol,os,rfl,hol,q⟩:=h
 refine⟨_,(zu (zL (zlp (ZP:=zx Pb) (js:=[0]) rfl (by show WR _ _ "mark" ["order"];exact lco (by decide +kernel)) rfl (zpC zZ) (by show ∀j∈([0]:List Nat),j<1;decide) (fun cl C s₂ H₂ fp=>(zP (zb2 (K:=K) rfl) (pv 0) (pv 1) (by with_unfolding_all rfl))) (fun cl C s₂ H₂ fp=>(pv 0))))),?_⟩
 refine⟨_,rfl,by decide +kernel,?_⟩
 refine znW (x:=Str.ofString "abcd") (fun i ys H'=>H'=H/\ys=(((prs.take i).filter fun p=>os.contains p.1).map (·.1)).map V.str) ⟨rfl,rfl⟩ (by decide +kernel) ?_ ?_ ?_ (fun _ _ _ _ h ⟨v,e,q⟩=>⟨v,e,h _ _ q⟩) ?_
 ·rintro i ys H' ⟨rfl,rfl⟩
  have:=zyD (fun p:Str×Str=>os.contains p.1) (prs.take i)
  rw[zys] at this
  rw[zx4,zx4]
  omega
 ·rintro i c ys H' hc ⟨rfl,rfl⟩
  have h4:i<4:=by
   have:=(Array.getElem?_eq_some_iff.mp hc).1
   have e:(Str.ofString "abcd").cps.size=4:=by decide +kernel
   omega
  have ec:c=97+i:=by
   match i,h4 with
   | 0,_=>exact(zyz (hc.symm.trans (by decide +kernel)))
   | 1,_=>exact(zyz (hc.symm.trans (by decide +kernel)))
   | 2,_=>exact(zyz (hc.symm.trans (by decide +kernel)))
   | 3,_=>exact(zyz (hc.symm.trans (by decide +kernel)))
  subst ec
  refine⟨_,rfl,_,rfl,ol,_,rfl,.inl hol,rfl,wL os,_,rfl,?_⟩
  rw[xg (QM h4),zyJ]
  show if inV (.str (yZ i)) (os.map V.str)=true then _ else _
  rw[Jb]
  cases e:os.contains (yZ i) with
  | true =>
   refine TX ⟨_,rfl,rfl,?_⟩
   rw[List.filter_cons,if_pos (show os.contains (yZ i,v8 i).1=true from e),zyi,zyi]
   rfl
  | false =>
   refine U3 ⟨rfl,?_⟩
   rw[List.filter_cons,if_neg (by show ¬os.contains (yZ i)=true;rw[e];exact zx8),List.filter_nil,List.append_nil]
 ·rintro σ' H' Q1 Q2 hQ ⟨v1,e1,v2,e2,p,xs,z1,z2,z3,z4,z5,z6,z7⟩
  exact⟨v1,e1,v2,e2,p,xs,z1,z2,z3,z4,z5,z6,hQ _ _ z7⟩
 rintro ys H' l ⟨rfl,rfl⟩ hl
 refine q l _ (Same.new hl _) hl ?_
 rw[zj]
 rfl
theorem zfW (T:Txt P w K mg a)(zM:zB P w K mg base zX k a.xY a.xZ xr Vt):zB P w K mg base zX (k+1) a.Tt a.Tv XJ zfg:=by
 refine T.La.F.ok xq (fun vs H Q E h=>?_) (fun cdv A outer s H vs Q E hr h=>?_)
 ·obtain⟨c,rfl,_⟩:=h
  rfl
 obtain⟨c,rfl,q⟩:=h
 refine zpA ?_
 refine zh1 (fun σ H'=>Same H H'/\∃(f z:Nat) (f3 f4 f5 f6:Option V),(f,z)∈[(0,1),(0,2),(0,3),(1,1),(1,2),(1,3),(0,4)]/\σ=[some (.int c),some (.int (f:Nat)),some (.int (z:Nat)),f3,f4,f5,f6]) (fun t z=>(zf (zA 1 xq.nd (zp zM hr T.zR (za (pv 0) (za zq (za zq zc)))))
   (zf (zA 2 xq.nd (zJ xU zq (zp zM hr T.zR (za (pv 0) (za zq (za zq zc))))))
   (zf (yI (zP xW (zp zM hr T.zR (za (pv 0) (za zq (za zq zc)))) zq (zU _)) (zu (zhz (xM (za zq (za zq zc))) (J5 rfl (uW (yr (i:=1) xq.nd rfl (Or.inl rfl)) (uW (yr (i:=2) xq.nd rfl (Or.inl rfl)) Ni))))) z8)
   z)))) ?_ ?_
 ·rintro u hu σ H' ⟨rfl,rfl⟩
  refine⟨_,rfl,c,1,2,rfl,by decide,by decide,by decide,fun r1 a0 a1=>?_⟩
  refine⟨_,rfl,c,0,3,rfl,by decide,by decide,by decide,fun r2 b0 b1=>⟨1,r2,rfl,rfl,?_⟩⟩
  refine⟨_,rfl,c,12,8,rfl,by decide,by decide,by decide,fun r3 d0 d1=>⟨rfl,_,rfl,yC (fun _=>?_) (fun _=>?_)⟩⟩
  ·refine⟨by show 2<=sizeLine;decide,fun t ht=>⟨t,_,rfl,vL.of zj,rfl,_,_,rfl,_,_,rfl,rfl,?_⟩⟩
   exact hu _ _ ⟨Same.new ht _,0,4,_,_,_,_,by decide,rfl⟩
  ·obtain⟨f,rfl⟩:∃f:Nat,r1=(f:Int):=⟨r1.toNat,by omega⟩
   obtain⟨z,rfl⟩:∃z:Nat,r2=(z:Int):=⟨r2.toNat,by omega⟩
   refine hu _ _ ⟨Same.refl _,f,1+z,none,none,none,none,?_,?_⟩
   ·have f2:f=0\/f=1:=by omega
    have z3:z=0\/z=1\/z=2:=by omega
    rcases f2 with rfl | rfl<;>rcases z3 with rfl | rfl | rfl<;>decide
   ·show [some (V.int c),some (V.int (f:Nat)),some (V.int (1+(z:Int))),none,none,none,none]=_
    rw[show(1+(z:Int))=((1+z:Nat):Int) by omega]
 refine zh1 (fun σ H'=>Same H H'/\∃(is:List Nat) (v1 v2:Option V) (f4 f5 f6:Option V),is.Nodup/\(∀i∈is,i<4)/\is≠[]/\is.length<=4/\σ=[some (.int c),v1,v2,some (.str (nmS is)),f4,f5,f6]) (fun t z=>(zf (zA 3 xq.nd (ZQ zpI zZ (Z7 (pv 1)) (Z7 (zJ xU (pv 1) (pv 2)))))
   (zf (yI (PW.pt (zeK (zP xW (pv 2) zq (zU _)) (zbq (zP xW (zp zM hr T.zR (za (pv 0) (za zq (za zq zc)))) zq (zU _))))) (zu (zA 3 xq.nd (zJ zhG (yc Lh (pv 3) zq (fun _ _=>rfl)) (yc Lh (pv 3) zq (fun _ _=>rfl))))) z8)
   z))) ?_ ?_
 ·rintro u hu σ H' ⟨g,f,z,f3,f4,f5,f6,hfz,rfl⟩
  have sl:Txt.slice (Str.ofString "abcd") (some ((f:Nat):Int)) (some (((f:Nat):Int)+((z:Nat):Int)))=nmS (List.range' f z):=by
   simp only[List.mem_cons,Prod.mk.injEq,zyv,or_false] at hfz
   rcases hfz with ⟨rfl,rfl⟩ | ⟨rfl,rfl⟩ | ⟨rfl,rfl⟩ | ⟨rfl,rfl⟩ | ⟨rfl,rfl⟩ | ⟨rfl,rfl⟩ | ⟨rfl,rfl⟩<;>decide +kernel
  have fz:0<z/\f+z<=4/\(z=3->f=0\/f=1):=by
   simp only[List.mem_cons,Prod.mk.injEq,zyv,or_false] at hfz
   omega
  refine⟨_,rfl,_,rfl,_,rfl,_,rfl,_,_,rfl,rfl,_,rfl,_,rfl,by show(Str.ofString "abcd").length<=sizeLine;decide,?_⟩
  rw[sl]
  have nd:(List.range' f z).Nodup:=List.nodup_range'
  have l4:∀i∈List.range' f z,i<4:=fun i hi=>by have:=List.mem_range'_1.mp hi;omega
  have ne:List.range' f z≠[]:=fun e=>by have:=congrArg List.length e;rw[List.length_range'] at this;have:z=0:=this;omega
  have go:u _ [some (.int c),some (.int (f:Nat)),some (.int (z:Nat)),some (.str (nmS (List.range' f z))),f4,f5,f6] H':=hu _ _ ⟨g,List.range' f z,_,_,_,_,_,nd,l4,ne,by rw[List.length_range'];omega,rfl⟩
  refine⟨_,rfl,rfl,_,rfl,yC (fun c3=>?_) (fun _=>U3 go)⟩
  have z3:z=3:=by
   have:=of_decide_eq_true c3
   injection this
   omega
  subst z3
  refine⟨_,rfl,c,14,3,rfl,by decide,by decide,by decide,fun r4 _ _=>⟨rfl,_,rfl,yC (fun _=>?_) (fun _=>go)⟩⟩
  have e3:List.range' f 3=[f,f+1,f+2]:=rfl
  rw[e3]
  refine⟨_,rfl,_,_,_,rfl,rfl,by rw[Je];show 3<=sizeLine;decide,zh8 (k:=0) rfl,_,rfl,_,_,_,rfl,rfl,by rw[Je];show 3<=sizeLine;decide,zh8 (k:=2) rfl,_,_,rfl,rfl,by show 2<=sizeLine;decide,?_⟩
  refine hu _ _ ⟨g,[f,f+2],some (.int (f:Nat)),some (.int (3:Nat)),f4,f5,f6,?_,?_,List.cons_ne_nil _ _,by show 2<=4;decide,?_⟩
  ·rw[List.nodup_cons];exact⟨fun h=>by have:=List.mem_singleton.mp h;omega,by rw[List.nodup_cons];exact⟨zyv,List.nodup_nil⟩⟩
  ·intro i hi
   rcases List.mem_cons.mp hi with z | z
   ·omega
   ·have:=List.mem_singleton.mp z;omega
  ·have f01:=fz.2.2 rfl
   rcases f01 with rfl | rfl<;>rfl
 refine⟨_,(zf (zA 4 xq.nd (yE zc))
   (zf (wD PassesOwn.never rfl (ur rfl T.tY (za (zF zeV rfl T.yO yp (za (pv 3) zc)) zc)) (yr (i:=5) xq.nd rfl (Or.inl rfl)) (zf (zA 6 xq.nd (yc Lh zZ (vd PySem.F.plainAttrs_str PySem.F.slot_str_index PySem.F.type_str_index zar zZ (za (yc Lh (pv 3) (pv 5) (fun _ _=>rfl)) zc)) (fun _ _=>rfl)))
   (zf (yu (vd PySem.F.plainAttrs_list PySem.F.slot_list_insert PySem.F.type_list_insert zac (pv 4) (za (zJ vK (zp zM hr T.zR (za (pv 0) (za (zJ xU zq (zJ Qu zq (pv 5))) (za zq zc)))) (zJ xU (zF zE rfl T.yO yp (za (pv 4) zc)) zq)) (za (yc Lh (pv 3) (pv 5) (fun _ _=>rfl)) zc))))
   (zu (yu (vd PySem.F.plainAttrs_list PySem.F.slot_list_insert PySem.F.type_list_insert zac (pv 4) (za (zJ vK (zp zM hr T.zR (za (pv 0) (za (zJ xU zq (zJ Qu zq (pv 5))) (za zq zc)))) (zJ xU (zF zE rfl T.yO yp (za (pv 4) zc)) zq)) (za (pv 6) zc))))))))
   (zu (zL (pv 4))))),?_⟩
 rintro σ H' ⟨g0,is,v1,v2,f4,f5,f6,nd,l4,ne,len,rfl⟩
 refine⟨by show 0<=sizeLine;decide,fun l hl=>?_⟩
 have fl:H l=none:=g0.free hl
 refine⟨_,rfl,_,rfl,by rw[Je];exact zyn (zQ (by omega)),_,rfl,?_⟩
 rw[Je]
 refine⟨by omega,by omega,?_⟩
 rw[zyI]
 refine uZ (fun i σ H'=>Same H H'/\∃(os:List Str) (f5 f6:Option V),H' l=some (.lst (os.map V.str))/\Mks (is.take i) os/\os.length=2*i/\σ=[some (.int c),v1,v2,some (.str (nmS is)),some (.ref l),f5,f6]) ⟨g0.trans (Same.new hl _),[],_,_,zj,⟨List.nodup_nil,fun x=>⟨(fun h=>by cases h),(fun⟨i,h,_⟩=>by cases h)⟩⟩,rfl,rfl⟩ ?_ ?_
 ·rintro i σ H' hi ⟨g,os,f5,f6,hl',mk,lo,rfl⟩
  obtain⟨j,hj⟩:∃j,is[i]?=some j:=⟨_,zx5 hi⟩
  have j4:=l4 j (zx9 hj)
  obtain⟨rest,hx⟩:=Lx j4
  have t4:∀i'∈is.take i,i'<4:=fun i' h=>l4 i' (List.mem_of_mem_take h)
  have jn:j∉is.take i:=fun h=>by
   have e:=nd
   rw[<-List.take_append_drop i is] at e
   have z:=(List.nodup_append.mp e).2.2 j h j (by
    rw[List.drop_eq_getElem_cons hi]
    have:is[i]=j:=(zx7.mp hj).2
    rw[this];exact zyo)
   exact z rfl
  have e2:(0:Int)+(i:Nat)=((i:Nat):Int):=by omega
  have nam:atI (nmS is).cps.toList ((i:Nat):Int)=some (97+j):=zh8 hj
  have nml:(nmS is).length<=sizeLine:=by rw[Je];exact zyn (zQ (by omega))
  refine⟨rfl,_,rfl,_,rfl,_,_,_,rfl,congrArg V.int e2,nml,nam,_,_,j,rest,rfl,rfl,hx,_,_,_,rfl,rfl,by show(Str.ofString "efgh").length<=sizeLine;decide,zff j4,?_⟩
  have k1:yZ j∉os:=fun h=>jn ((mk.has t4 j4).1.mp h)
  have k2:v8 j∉os:=fun h=>jn ((mk.has t4 j4).2.mp h)
  have lmap:(os.map V.str).length=os.length:=zx4 _
  refine⟨_,rfl,.inl ⟨rfl,_,zO.of hl'⟩,?_⟩
  refine⟨_,rfl,_,rfl,2,_,rfl,rfl,.inl ⟨by decide,by decide⟩,2,_,rfl,rfl,c,2+2*i,5040,?_,by omega,by decide,by decide,fun r1 a0 a1=>?_⟩
  ·show [V.int c,V.int (2+2*(0+(i:Int))),V.int 5040]=[V.int c,V.int ((2+2*i:Nat):Int),V.int 5040]
   rw[show(2+2*(0+(i:Int)))=((2+2*i:Nat):Int) by omega]
  refine⟨_,rfl,l,_,rfl,.inl (zO.of hl'),_,1,rfl,rfl,r1,_,rfl,rfl,by show(0:Int)<((os.map V.str).length:Int)+1;omega,?_⟩
  refine⟨_,rfl,_,rfl,_,_,_,rfl,congrArg V.int e2,nml,nam,?_⟩
  have m0:0<=r1%(((os.map V.str).length:Int)+1):=zyO _ (by omega)
  have m1:r1%(((os.map V.str).length:Int)+1)<((os.map V.str).length:Int)+1:=zyK _ (by omega)
  generalize hj1:r1%(((os.map V.str).length:Int)+1)=j1 at m0 m1
  refine⟨l,os.map V.str,j1,_,rfl,by rw[<-hj1],hl',m0,by omega,by rw[lmap];exact zQ (by omega),?_⟩
  have G1:Same H (upd H' l (.lst ((os.map V.str).take j1.toNat++V.str (⟨#[97+j]⟩:Str)::(os.map V.str).drop j1.toNat))):=g.over fl _
  have E1:upd H' l (.lst ((os.map V.str).take j1.toNat++V.str (⟨#[97+j]⟩:Str)::(os.map V.str).drop j1.toNat)) l=some (.lst ((os.take j1.toNat++yZ j::os.drop j1.toNat).map V.str)):=by
   rw[zj];simp;rfl
  have n1:(os.take j1.toNat++yZ j::os.drop j1.toNat).Nodup:=zeu mk.1 k1
  have l1:(os.take j1.toNat++yZ j::os.drop j1.toNat).length=os.length+1:=zjD
  have x1:∀x,x∈os.take j1.toNat++yZ j::os.drop j1.toNat↔x=yZ j\/x∈os:=fun x=>mem_mid
  generalize upd H' l (.lst ((os.map V.str).take j1.toNat++V.str (⟨#[97+j]⟩:Str)::(os.map V.str).drop j1.toNat))=H1 at G1 E1
  generalize os.take j1.toNat++yZ j::os.drop j1.toNat=o1 at E1 n1 l1 x1
  have lm1:(o1.map V.str).length=o1.length:=zx4 _
  refine⟨_,rfl,.inl ⟨rfl,_,zO.of E1⟩,?_⟩
  refine⟨_,rfl,_,rfl,2,_,rfl,rfl,.inl ⟨by decide,by decide⟩,3,_,rfl,rfl,c,3+2*i,5040,?_,by omega,by decide,by decide,fun r2 b0 b1=>?_⟩
  ·show [V.int c,V.int (3+2*(0+(i:Int))),V.int 5040]=[V.int c,V.int ((3+2*i:Nat):Int),V.int 5040]
   rw[show(3+2*(0+(i:Int)))=((3+2*i:Nat):Int) by omega]
  refine⟨_,rfl,l,_,rfl,.inl (zO.of E1),_,1,rfl,rfl,r2,_,rfl,rfl,by show(0:Int)<((o1.map V.str).length:Int)+1;omega,_,rfl,?_⟩
  have m2:0<=r2%(((o1.map V.str).length:Int)+1):=zyO _ (by omega)
  have m3:r2%(((o1.map V.str).length:Int)+1)<((o1.map V.str).length:Int)+1:=zyK _ (by omega)
  generalize hj2:r2%(((o1.map V.str).length:Int)+1)=j2 at m2 m3
  refine⟨l,o1.map V.str,j2,_,rfl,by rw[<-hj2],E1,m2,by omega,by rw[lm1];exact zQ (by omega),?_⟩
  refine⟨G1.over fl _,o1.take j2.toNat++v8 j::o1.drop j2.toNat,_,_,?_,⟨?_,fun x=>?_⟩,?_,rfl⟩
  ·rw[zj];simp;rfl
  ·exact zeu n1 fun h=>((x1 _).mp h).elim (fun e=>Xh j4 e.symm) k2
  ·rw[mem_mid,x1,mk.2,xg hj]
   constructor
   ·rintro (e | e | ⟨i',hi',e⟩)
    ·exact⟨j,zyl _ (List.mem_singleton.mpr rfl),.inr e⟩
    ·exact⟨j,zyl _ (List.mem_singleton.mpr rfl),.inl e⟩
    ·exact⟨i',List.mem_append_left _ hi',e⟩
   ·rintro⟨i',hi',e⟩
    rcases List.mem_append.mp hi' with z | z
    ·exact .inr (.inr ⟨i',z,e⟩)
    ·rw[List.mem_singleton.mp z] at e
     rcases e with e | e
     ·exact .inr (.inl e)
     ·exact .inl e
  ·rw[zjD,l1];omega
 ·rintro σ H' ⟨g,os,f5,f6,hl',mk,lo,rfl⟩
  rw[zyx] at mk
  obtain⟨w1,w2,w3⟩:=mk.world l4 ne
  exact⟨_,rfl,q l H' os g hl' w1 w2 w3⟩
theorem zbm (T:Txt P w K mg a)(xR:zB P w K mg base zX k a.vh a.vm wI (U6 K)):zB P w K mg base zX (k+1) a.Xp a.Xq Zt (Ly K):=by
 refine T.Ra.F.ok xX (fun vs H Q E h=>?_) (fun cdv A outer s H vs Q E hr h=>?_)
 ·obtain⟨ol,os,rfl,_⟩:=h
  rfl
 obtain⟨ol,os,rfl,hol,hW,q⟩:=h
 refine⟨_,(zf (zA 1 xX.nd (xM (za zZ zc)))
   (zf (zA 2 xX.nd (xM (za zZ zc)))
   (zf (wD PassesOwn.never rfl (wC (zp xR hr T.uP (za (pv 0) zc))) (yr (i:=3) xX.nd rfl (Or.inl rfl)) (zf (zA 4 xX.nd (xM (za zZ (za (yc Lh zZ (vd PySem.F.plainAttrs_str PySem.F.slot_str_index PySem.F.type_str_index zar zZ (za (pv 3) zc)) (fun _ _=>rfl)) zc))))
   (zf (zA 2 xX.nd (xM (za zZ (za (pv 2) (za (xM (za zZ (za (xM (za zZ (za (pv 4) (za (xM (za zZ (za (xM (za zZ (za (pv 3) zc))) (za (pv 1) zc)))) zc)))) zc))) zc)))))
   (zu (zA 1 xX.nd (xM (za zZ (za (pv 1) (za (xM (za zZ (za (pv 3) zc))) zc)))))))))
   (zu (zL (pv 2)))))),?_⟩
 refine⟨by show 1<=sizeLine;decide,fun p1 hp1=>?_⟩
 have g1:=Same.new hp1 (.tup [.str "yes"])
 have i1:TJ (upd H p1 (.tup [.str "yes"])) (.c0 true) p1:=zj
 generalize upd H p1 (.tup [.str "yes"])=H1 at g1 i1
 refine⟨by show 1<=sizeLine;decide,fun p2 hp2=>?_⟩
 have g2:=Same.new hp2 (.tup [.str "yes"])
 have i2:TJ (upd H1 p2 (.tup [.str "yes"])) (.c0 true) p2:=zj
 have i1:=i1.mono (yJ.of g2)
 generalize upd H1 p2 (.tup [.str "yes"])=H2 at g2 i1 i2
 have g12:=g1.trans g2
 refine⟨_,rfl,ol,os,rfl,g12.seq hol,fun nl H3 g3 _ hnl=>?_⟩
 have g13:=g12.trans g3
 have n4:=wV os
 refine⟨nl,rfl,⟨_,zO.of hnl⟩,?_⟩
 refine uw (xs:=(z9 os).map V.str) (fun i σ H'=>Same H3 H'/\∃(pc pf:Addr) (sc sf:Sn) (f3 f4:Option V),TJ H' sc pc/\TJ H' sf pf/\sc.Ve os/\sf.Ve os/\sc.depth<=1+i/\sf.depth<=4+i/\sc.count<=1+2*i/\sf.count<=1+15*i/\σ=[some (.ref ol),some (.ref pc),some (.ref pf),f3,f4]) ⟨Same.refl _,p1,p2,.c0 true,.c0 true,_,_,i1.mono (yJ.of g3),i2.mono (yJ.of g3),trivial,trivial,by decide,by decide,by decide,by decide,rfl⟩ (fun i σ H' _ ⟨g,_⟩=>zO.of (g _ _ hnl)) ?_ ?_
 ·rintro i x σ H' hx ⟨g,pc,pf,sc,sf,f3,f4,ic,if_,oc,of_,dc,df,cc,cf,rfl⟩
  rw[zx6] at hx
  cases hm:(z9 os)[i]? with
  | none=>rw[hm] at hx;cases hx
  | some y =>
   rw[hm] at hx
   cases hx
   have hi:=(zx7.mp hm).1
   obtain⟨yo,j,j4,rfl⟩:=YF (zx9 hm)
   have lo:v8 j∈os:=by
    have z:=hW (yZ j,v8 j) (zx9 (QM j4))
    rw[contains_iff,contains_iff] at z
    exact of_decide_eq_true (z.symm.trans (decide_eq_true yo))
   obtain⟨rest,hx⟩:=Lx j4
   refine⟨rfl,_,rfl,_,_,j,rest,rfl,rfl,hx,_,_,_,rfl,rfl,by show(Str.ofString "efgh").length<=sizeLine;decide,zff j4,by show 2<=sizeLine;decide,fun q1 hq1=>?_⟩
   have h1:=Same.new hq1 (.tup [.str "mark", .str (v8 j)])
   have e1:TJ (upd H' q1 (.tup [.str "mark", .str (v8 j)])) (.mk (v8 j)) q1:=zj
   refine⟨_,rfl,_,rfl,_,rfl,by show 2<=sizeLine;decide,fun q2 hq2=>?_⟩
   have h2:=Same.new hq2 (.tup [.str "mark", .str (yZ j)])
   refine⟨_,rfl,by show 3<=sizeLine;decide,fun q3 hq3=>⟨by show 3<=sizeLine;decide,fun q4 hq4=>⟨by show 2<=sizeLine;decide,fun q5 hq5=>⟨by show 3<=sizeLine;decide,fun q6 hq6=>?_⟩⟩⟩⟩
   have h3:=Same.new hq3 (.tup [.str "either", .ref q2,.ref pc])
   have h4:=Same.new hq4 (.tup [.str "either", .ref q1,.ref q3])
   have h5:=Same.new hq5 (.tup [.str "not", .ref q4])
   have h6:=Same.new hq6 (.tup [.str "and", .ref pf,.ref q5])
   have h36:=h3.trans (h4.trans (h5.trans h6))
   have h16:=h1.trans (h2.trans h36)
   refine⟨_,rfl,_,rfl,by show 2<=sizeLine;decide,fun q7 hq7=>⟨by show 3<=sizeLine;decide,fun q8 hq8=>?_⟩⟩
   have h7:=Same.new hq7 (.tup [.str "mark", .str (yZ j)])
   have h8:=Same.new hq8 (.tup [.str "and", .ref pc,.ref q7])
   have h78:=h7.trans h8
   have h18:=h16.trans h78
   refine⟨g.trans h18,q8,q6,.b2 0 sc (.mk (yZ j)),.b2 0 sf (.nt (.b2 2 (.mk (v8 j)) (.b2 2 (.mk (yZ j)) sc))),_,_,⟨pc,q7,zj,ic.mono (yJ.of h18),h8 _ _ zj⟩,⟨pf,q5,h78 _ _ zj,if_.mono (yJ.of h18),q4,h78 _ _ (h6 _ _ zj),q1,q3,h78 _ _ (h6 _ _ (h5 _ _ zj)),h78 _ _ (h36 _ _ (h2 _ _ zj)),q2,pc,h78 _ _ (h6 _ _ (h5 _ _ (h4 _ _ zj))),h78 _ _ (h36 _ _ zj),ic.mono (yJ.of h18)⟩,⟨oc,yo⟩,⟨of_,lo,yo,oc⟩,?_,?_,?_,?_,rfl⟩
   ·show 1+max sc.depth 1<=_;omega
   ·show 1+max sf.depth (1+(1+max 1 (1+max 1 sc.depth)))<=_;omega
   ·show 1+(sc.count+1)<=_;omega
   ·show 1+(sf.count+(1+(1+(1+(1+(1+sc.count))))))<=_;omega
 ·rintro σ H' ⟨g,pc,pf,sc,sf,f3,f4,ic,if_,oc,of_,dc,df,cc,cf,rfl⟩
  have el:((z9 os).map V.str).length<=4:=by rw[zx4];exact n4
  exact⟨_,rfl,q pf H' sf (g13.trans g) ⟨if_,of_,by omega,by omega⟩⟩
theorem zdG (T:Txt P w K mg a)(zM:zB P w K mg base zX k a.xY a.xZ xr Vt)(xR:zB P w K mg base zX k a.vh a.vm wI (U6 K)):zB P w K mg base zX (k+1) a.V5 a.V6 YT (zcp K):=by
 refine T.PL.F.ok vP (fun vs H Q E h=>?_) (fun cdv A outer s H vs Q E hr h=>?_)
 ·obtain⟨ol,os,c,rfl,_⟩:=h
  rfl
 obtain⟨ol,os,c,rfl,hol,q⟩:=h
 refine⟨_,(zf (zA 2 vP.nd (xM (za zZ zc)))
   (zf (zA 3 vP.nd (zp xR hr T.uP (za (pv 0) zc)))
   (zf (wD PassesOwn.never rfl (ur rfl T.tY (za (zF zE rfl T.yO yp (za (pv 3) zc)) zc)) (yr (i:=4) vP.nd rfl (Or.inl rfl)) (zf (zA 5 vP.nd (xM (za zZ (za (yc yw (pv 3) (pv 4) (fun _ _=>rfl)) zc))))
   (zu (zA 2 vP.nd (xM (za zZ (za (pv 2) (za (yc yw (yE (za (pv 5) (za (xM (za zZ (za (pv 5) zc))) zc))) (zp zM hr T.zR (za (pv 1) (za (zJ xU zq (pv 4)) (za zq zc)))) (fun _ _=>rfl)) zc))))))))
   (zu (zL (yc yw (yE (za (pv 2) (za (xM (za zZ (za (pv 2) zc))) zc))) (zp zM hr T.zR (za (pv 1) (za zq (za zq zc)))) (fun _ _=>rfl))))))),?_⟩
 refine⟨by show 1<=sizeLine;decide,fun p1 hp1=>?_⟩
 have g1:=Same.new hp1 (.tup [.str "yes"])
 have i1:TJ (upd H p1 (.tup [.str "yes"])) (.c0 true) p1:=zj
 generalize upd H p1 (.tup [.str "yes"])=H1 at g1 i1
 refine⟨_,rfl,ol,os,rfl,g1.seq hol,fun nl H3 g3 _ hnl=>?_⟩
 have g13:=g1.trans g3
 have n4:=wV os
 have lnm:((z9 os).map V.str).length=(z9 os).length:=zx4 _
 refine⟨_,rfl,nl,_,rfl,.inl (zO.of hnl),_,rfl,by omega,by omega,?_⟩
 rw[zyI,lnm]
 refine uZ (fun i σ H'=>Same H3 H'/\∃(pf:Addr) (sf:Sn) (f4 f5:Option V),TJ H' sf pf/\sf.Ve (z9 os)/\sf.depth<=2+i/\sf.count<=1+3*i/\σ=[some (.ref ol),some (.int c),some (.ref pf),some (.ref nl),f4,f5]) ⟨Same.refl _,p1,.c0 true,_,_,i1.mono (yJ.of g3),trivial,by decide,by decide,rfl⟩ ?_ ?_
 ·rintro i σ H' hi ⟨g,pf,sf,f4,f5,if_,of_,df,cf,rfl⟩
  obtain⟨y,hm⟩:∃y,(z9 os)[i]?=some y:=⟨_,zx5 hi⟩
  have e2:(0:Int)+(i:Nat)=((i:Nat):Int):=by omega
  refine⟨_,rfl,_,rfl,nl,_,_,_,rfl,congrArg V.int e2,zO.of (g _ _ hnl),yQ (by rw[zx6,hm];rfl),by show 2<=sizeLine;decide,fun q1 hq1=>?_⟩
  have h1:=Same.new hq1 (.tup [.str "mark", .str y])
  refine⟨_,rfl,_,rfl,_,rfl,by show 2<=sizeLine;decide,fun q2 hq2=>⟨by show 2<=sizeLine;decide,fun ll hll=>?_⟩⟩
  have h2:=Same.new hq2 (.tup [.str "not", .ref q1])
  have h3:=Same.new hll (.lst [.ref q1,.ref q2])
  refine⟨_,rfl,_,rfl,20,_,rfl,rfl,c,20+i,2,?_,by omega,by decide,by decide,fun r r0 r1=>?_⟩
  ·show [V.int c,V.int (20+(0+(i:Int))),V.int 2]=[V.int c,V.int ((20+i:Nat):Int),V.int 2]
   rw[show(20+(0+(i:Int)))=((20+i:Nat):Int) by omega]
  have h13:=h1.trans (h2.trans h3)
  have pick:∃(qq:Addr) (ss:Sn),atI [V.ref q1,V.ref q2] r=some (.ref qq)/\TJ (upd (upd (upd H' q1 (.tup [.str "mark", .str y])) q2 (.tup [.str "not", .ref q1])) ll (.lst [.ref q1,.ref q2])) ss qq/\ss.Ve (z9 os)/\ss.depth<=2/\ss.count<=2:=by
   rcases (by omega:r=0\/r=1) with rfl | rfl
   ·exact⟨q1,.mk y,at0,h3 _ _ (h2 _ _ zj),zx9 hm,by show 1<=2;decide,by show 1<=2;decide⟩
   ·exact⟨q2,.nt (.mk y),at1,⟨q1,h3 _ _ zj,h3 _ _ (h2 _ _ zj)⟩,zx9 hm,by show 1+1<=2;decide,by show 1+1<=2;decide⟩
  obtain⟨qq,ss,ea,is_,os_,ds,cs⟩:=pick
  refine⟨ll,_,_,_,rfl,rfl,zO.of zj,ea,by show 3<=sizeLine;decide,fun q3 hq3=>?_⟩
  have h4:=Same.new hq3 (.tup [.str "and", .ref pf,.ref qq])
  refine⟨g.trans (h13.trans h4),q3,.b2 0 sf ss,_,_,⟨pf,qq,zj,if_.mono (yJ.of (h13.trans h4)),is_.mono (yJ.of h4)⟩,⟨of_,os_⟩,?_,?_,rfl⟩
  ·show 1+max sf.depth ss.depth<=_;omega
  ·show 1+(sf.count+ss.count)<=_;omega
 ·rintro σ H' ⟨g,pf,sf,f4,f5,if_,of_,df,cf,rfl⟩
  refine⟨_,rfl,_,rfl,by show 2<=sizeLine;decide,fun q2 hq2=>⟨by show 2<=sizeLine;decide,fun ll hll=>?_⟩⟩
  have h2:=Same.new hq2 (.tup [.str "not", .ref pf])
  have h3:=Same.new hll (.lst [.ref pf,.ref q2])
  refine⟨_,rfl,c,25,2,rfl,by decide,by decide,by decide,fun r r0 r1=>?_⟩
  rcases (by omega:r=0\/r=1) with rfl | rfl
  ·refine⟨ll,_,_,_,rfl,rfl,zO.of zj,at0,?_⟩
   exact q pf _ sf (g13.trans (g.trans (h2.trans h3))) ⟨if_.mono (yJ.of (h2.trans h3)),of_,by omega,by omega⟩
  ·refine⟨ll,_,_,_,rfl,rfl,zO.of zj,at1,?_⟩
   exact q q2 _ (.nt sf) (g13.trans (g.trans (h2.trans h3))) ⟨⟨pf,h3 _ _ zj,if_.mono (yJ.of (h2.trans h3))⟩,of_,by show 1+sf.count<=_;omega,by show 1+sf.depth<=_;omega⟩
theorem zhn (T:Txt P w K mg a)(yh:zB P w K mg base zX k a.xH a.xJ yU (NQ K))(zM:zB P w K mg base zX k a.xY a.xZ xr Vt)(Xv:zB P w K mg base zX k a.Zy a.Zz uF (Ro K))(zdH:zB P w K mg base zX k a.Tt a.Tv XJ zfg)(zaK:zB P w K mg base zX k a.Xp a.Xq Zt (Ly K)):zB P w K mg base zX (k+1) a.RW a.RX W7 (zh9 K):=by
 refine T.JM.F.ok XS (fun vs H Q E h=>?_) (fun cdv A outer s H vs Q E hr h=>?_)
 ·obtain⟨sc,ns,rfl,_⟩:=h
  rfl
 obtain⟨sc,ns,rfl,hS,q⟩:=h
 refine⟨_,(zf (zA 1 XS.nd (zp zdH hr T.La (za (zp yh hr T.yt (za (pv 0) (za zq zc))) zc)))
   (zf (zA 2 XS.nd (zp Xv hr T.Xu (za (pv 0) (za zq (za (zJ xU zq (zJ vK (zp yh hr T.yt (za (pv 0) (za zq zc))) zq)) (za (pv 1) zc))))))
   (zf (yI (zP xW (zp zM hr T.zR (za (zp yh hr T.yt (za (pv 0) (za zq zc))) (za zq (za zq zc)))) zq (zU _)) (zu (zA 2 XS.nd (zp zaK hr T.Ra (za (pv 1) zc)))) z8)
   (zu (zL (xM (za (pv 1) (za (pv 2) zc)))))))),?_⟩
 refine⟨_,rfl,sc,ns,0,rfl,hS,ux ns 0,rfl,fun ol H1 os g1 hol ho hW hn=>?_⟩
 have o8:=ho.le
 have m0:0<=ux ns 1%6:=zyO _ (by decide)
 have m1:ux ns 1%6<6:=zyK _ (by decide)
 have em:(2:Int)+ux ns 1%6=(((2+ux ns 1%6).toNat:Nat):Int):=by omega
 have ziM:∀{s:Sn} {m:Nat},s.depth<=m->m<=7->s.count<=200:=fun {s m} h1 h2=>by
  have h3:=Sn.zaT s
  have h4:2^s.depth<=2^7:=zyA (by decide) (by omega)
  have h5:2^7=128:=rfl
  omega
 have hS1:=g1.seq hS
 refine⟨_,rfl,_,rfl,sc,ns,1,rfl,hS1,ux ns 1,6,rfl,rfl,(show(0:Int)<6 by decide),2,_,rfl,rfl,_,rfl,sc,ol,ns,2,(2+ux ns 1%6).toNat,os,?_,hS1,zO.of hol,ho.pos,o8,by omega,by omega,by decide,fun p1 H2 s1 g2 is1 in1 d1=>?_⟩
 ·show [V.ref sc,V.int 2,V.int (2+ux ns 1%6),V.ref ol]=_
  rw[em];rfl
 have hS2:=g2.seq hS1
 refine⟨_,rfl,sc,ns,0,rfl,hS2,_,13,8,rfl,by decide,by decide,by decide,fun r r0 r1=>⟨rfl,_,rfl,yC (fun _=>?_) (fun _=>?_)⟩⟩
 ·refine⟨_,rfl,ol,os,rfl,zO.of (g2 _ _ hol),hW,fun p2 H3 s2 g3 sp=>?_⟩
  refine⟨_,rfl,_,rfl,by show 2<=sizeLine;decide,fun t ht=>?_⟩
  have g4:=Same.new ht (.tup [.ref ol,.ref p2])
  exact q t ol p2 _ os s2 (g1.trans (g2.trans (g3.trans g4))) zj (g4 _ _ (g3 _ _ (g2 _ _ hol))) ho hW hn (sp.mono (yJ.of g4))
 ·refine⟨_,rfl,_,rfl,by show 2<=sizeLine;decide,fun t ht=>?_⟩
  have g4:=Same.new ht (.tup [.ref ol,.ref p1])
  exact q t ol p1 _ os s1 (g1.trans (g2.trans g4)) zj (g4 _ _ (g2 _ _ hol)) ho hW hn (Ml.mono ⟨is1,in1,ziM d1 (by omega),by omega⟩ (yJ.of g4))
theorem JX (T:Txt P w K mg a)(yh:zB P w K mg base zX k a.xH a.xJ yU (NQ K))(zM:zB P w K mg base zX k a.xY a.xZ xr Vt)(Xv:zB P w K mg base zX k a.Zy a.Zz uF (Ro K))(xR:zB P w K mg base zX k a.vh a.vm wI (U6 K))(zc3:zB P w K mg base zX k a.V5 a.V6 YT (zcp K)):zB P w K mg base zX (k+1) a.Yk a.Yl uV (QS K):=by
 refine T.Yn.F.ok Mr (fun vs H Q E h=>?_) (fun cdv A outer s H vs Q E hr h=>?_)
 ·obtain⟨sc,ol,ns,t,os,rfl,_⟩:=h
  rfl
 obtain⟨sc,ol,ns,t,os,rfl,hS,hol,o8,hn,t40,q⟩:=h
 refine⟨_,(zf (yI (zP xW (zp zM hr T.zR (za (zp yh hr T.yt (za (pv 0) (za zq zc))) (za zq (za zq zc)))) zq (zU _)) (zu (zL (zp zc3 hr T.PL (za (pv 2) (za (zp yh hr T.yt (za (pv 0) (za (pv 1) zc))) zc))))) z8)
   (zu (zL (zp Xv hr T.Xu (za (pv 0) (za (zJ xU (pv 1) zq) (za (zJ xU zq (zJ vK (zp yh hr T.yt (za (pv 0) (za (pv 1) zc))) zq)) (za (zp xR hr T.uP (za (pv 2) zc)) zc)))))))),?_⟩
 have ziM:∀{s:Sn} {m:Nat},s.depth<=m->m<=7->s.count<=200:=fun {s m} h1 h2=>by
  have h3:=Sn.zaT s
  have h4:2^s.depth<=2^7:=zyA (by decide) (by omega)
  have h5:2^7=128:=rfl
  omega
 refine⟨_,rfl,sc,ns,0,rfl,hS,_,13,8,rfl,by decide,by decide,by decide,fun r r0 r1=>⟨rfl,_,rfl,yC (fun _=>?_) (fun _=>?_)⟩⟩
 ·refine⟨_,rfl,_,rfl,_,rfl,sc,ns,t,rfl,hS,ol,os,_,rfl,hol,fun p H1 s1 g1 sp=>?_⟩
  exact q p H1 s1 g1 sp
 ·have m0:0<=ux ns t%6:=zyO _ (by decide)
  have m1:ux ns t%6<6:=zyK _ (by decide)
  have em:(1:Int)+ux ns t%6=(((1+ux ns t%6).toNat:Nat):Int):=by omega
  refine⟨_,rfl,_,rfl,_,1,rfl,rfl,_,rfl,_,rfl,sc,ns,t,rfl,hS,ux ns t,6,rfl,rfl,(show(0:Int)<6 by decide),1,_,rfl,rfl,_,rfl,ol,os,rfl,hol,fun nl H1 g1 _ hnl=>?_⟩
  refine⟨sc,nl,ns,t+1,(1+ux ns t%6).toNat,z9 os,?_,g1.seq hS,zO.of hnl,hn,by have:=wV os;omega,by omega,by omega,by omega,fun p1 H2 s1 g2 is1 in1 d1=>?_⟩
  ·show [V.ref sc,V.int ((t:Int)+1),V.int (1+ux ns t%6),V.ref nl]=_
   rw[em];rfl
  exact q p1 H2 s1 (g1.trans g2) ⟨is1,in1,ziM d1 (by omega),by omega⟩
theorem zho (T:Txt P w K mg a):zB P w K mg base zX (k+1) a.ZC a.ZD uU Vg:=by
 refine T.Vc.F.ok tG (fun vs H Q E h=>?_) (fun cdv A outer s H vs Q E hr h=>?_)
 ·obtain⟨n,rfl,_⟩:=h
  rfl
 obtain⟨n,rfl,n8,q⟩:=h
 refine⟨_,(zf (zA 1 tG.nd (yE (za (yE zc) zc)))
   (zf (wD PassesOwn.never rfl (ur rfl T.tY (za (pv 0) zc)) (yr (i:=2) tG.nd rfl (Or.inl rfl)) (zf (zA 3 tG.nd (yE zc))
   (zf (wD PassesOwn.never rfl (wC (pv 1)) (yr (i:=4) tG.nd rfl (Or.inl rfl)) (zu (yu (vd PySem.F.plainAttrs_list PySem.F.slot_list_extend PySem.F.type_list_extend zd6 (pv 3) (za (yE (za (zJ (zgw rfl) (pv 4) (yE (za zq zc))) (za (zJ (zgw rfl) (pv 4) (yE (za zq zc))) zc))) zc)))))
   (zu (zA 1 tG.nd (pv 3))))))
   (zu (zL (pv 1))))),?_⟩
 have p256:∀i,i<=n->(xV.allR i).length<=256:=fun i hi=>by rw[xV.wN];exact zyq (zyA (n:=2) (by decide) (show i<=8 by omega)) (by decide)
 refine⟨by show 0<=sizeLine;decide,fun q0 hq0=>⟨by show 1<=sizeLine;decide,fun l0 hl0=>?_⟩⟩
 have g0:=(Same.new hq0 (.lst [])).trans (Same.new hl0 (.lst [.ref q0]))
 have e2:=(Same.new hl0 (.lst [.ref q0])) q0 (.lst []) zj
 have fl0:H l0=none:=(Same.new hq0 _).free hl0
 refine⟨_,rfl,(n:Int),rfl,by omega,by omega,?_⟩
 rw[zyI]
 refine uZ (fun i σ H'=>∃(l:Addr) (es:List Addr) (f2 f3 f4:Option V),Same H H'/\H l=none/\H' l=some (.lst (es.map V.ref))/\Paired (zrk H H') es (xV.allR i)/\σ=[some (.int (n:Nat)),some (.ref l),f2,f3,f4])
  ⟨l0,[q0],_,_,_,g0,fl0,zj,.cons ⟨hq0,e2⟩ .nil,rfl⟩ ?_ ?_
 ·rintro i σ H2 hi ⟨l,es,f2,f3,f4,g2,fl,hl,he,rfl⟩
  have el:=yK he
  have lt:=p256 i (by omega)
  refine⟨by show 0<=sizeLine;decide,fun lg hlg=>?_⟩
  have g3:=Same.new hlg (.lst [])
  have flg:H lg=none:=g2.free hlg
  refine⟨_,rfl,l,rfl,⟨_,zO.of (g3 _ _ hl)⟩,?_⟩
  refine uw (xs:=es.map V.ref) (fun m σ H'=>∃(us:List Addr) (f4:Option V),Same H2 H'/\H' lg=some (.lst (us.map V.ref))/\Paired (zlV lg H H') us (((xV.allR i).take m).flatMap fun r=>[r++[false],r++[true]])/\σ=[some (.int (n:Nat)),some (.ref l),some (.int (0+(i:Nat))),some (.ref lg),f4])
   ⟨[],_,g3,zj,.nil,rfl⟩ ?_ ?_ ?_
  ·rintro m σ H' _ ⟨us,f4,g,_⟩
   exact zO.of (g _ _ hl)
  ·rintro m x σ H3 hx ⟨us,f4,g,hL0,hu,rfl⟩
   rw[zx6] at hx
   cases hp:es[m]? with
   | none=>rw[hp] at hx;cases hx
   | some p =>
    rw[hp] at hx
    cases hx
    obtain⟨e,hee,fp,hpt⟩:=ZK he hp
    have hp2:=g _ _ hpt
    have eln:=xV.Yz i e (zx9 hee)
    have ul:=yK hu
    rw[xV.zal _ (fun _=>rfl),zys] at ul
    have gr:Same H3 H3:=Same.refl _
    refine⟨_,rfl,.inl ⟨rfl,_,zO.of hL0⟩,?_⟩
    refine⟨_,rfl,by show 1<=sizeLine;decide,fun a0 ha0=>?_⟩
    have ka0:=Same.new ha0 (.lst [.int 0])
    refine⟨p,a0,_,_,rfl,rfl,zO.of ((gr.trans ka0) _ _ hp2),zO.of zj,by rw[zx4,eln];exact zyq (show i+1<=9 by omega) (by decide),fun r0 hr0=>?_⟩
    have nr0:r0≠lg:=Ne.symm (zH ((gr.trans ka0) _ _ hL0) hr0)
    have fr0:H r0=none:=(g2.trans (g.trans (gr.trans ka0))).free hr0
    have kb0:=(gr.trans ka0).trans (Same.new hr0 (.lst (zY e++[.int 0])))
    have er0:upd (upd H3 a0 (.lst [.int 0])) r0 (.lst (zY e++[.int 0])) r0=some (.lst (zY (e++[false]))):=by rw[zj];unfold zY;rw[zyi];rfl
    generalize upd (upd H3 a0 (.lst [.int 0])) r0 (.lst (zY e++[.int 0]))=Hb0 at kb0 er0
    refine⟨_,rfl,by show 1<=sizeLine;decide,fun a1 ha1=>?_⟩
    have ka1:=Same.new ha1 (.lst [.int 1])
    refine⟨p,a1,_,_,rfl,rfl,zO.of ((kb0.trans ka1) _ _ hp2),zO.of zj,by rw[zx4,eln];exact zyq (show i+1<=9 by omega) (by decide),fun r1 hr1=>?_⟩
    have nr1:r1≠lg:=Ne.symm (zH ((kb0.trans ka1) _ _ hL0) hr1)
    have fr1:H r1=none:=(g2.trans (g.trans (kb0.trans ka1))).free hr1
    have kb1:=(kb0.trans ka1).trans (Same.new hr1 (.lst (zY e++[.int 1])))
    have er1:upd (upd Hb0 a1 (.lst [.int 1])) r1 (.lst (zY e++[.int 1])) r1=some (.lst (zY (e++[true]))):=by rw[zj];unfold zY;rw[zyi];rfl
    have kbs:Same Hb0 (upd (upd Hb0 a1 (.lst [.int 1])) r1 (.lst (zY e++[.int 1]))):=(Same.new ha1 (.lst [.int 1])).trans (Same.new hr1 (.lst (zY e++[.int 1])))
    generalize upd (upd Hb0 a1 (.lst [.int 1])) r1 (.lst (zY e++[.int 1]))=Hb1 at kb1 er1 kbs
    refine⟨by show 2<=sizeLine;decide,fun l2 hl2=>?_⟩
    have kc:=kb1.trans (Same.new hl2 (.lst [.ref r0,.ref r1]))
    have hLc:=kc _ _ hL0
    have er0':upd Hb1 l2 (.lst [.ref r0,.ref r1]) r0=some (.lst (zY (e++[false]))):=(Same.new hl2 _) _ _ (by
     have z:Same Hb0 Hb1:=kbs
     exact z _ _ er0)
    have er1':upd Hb1 l2 (.lst [.ref r0,.ref r1]) r1=some (.lst (zY (e++[true]))):=(Same.new hl2 _) _ _ er1
    refine⟨lg,l2,_,_,rfl,rfl,hLc,zj,by rw[zx4];exact zyn (zQ (by show us.length+2<=1000;omega)),?_⟩
    refine⟨us++[r0,r1],_,(g.trans kc).over hlg _,by rw[zj,zyi];rfl,?_,rfl⟩
    rw[xg hee,List.flatMap_append]
    exact Yc (zkp (zh3 hu kc)) (.cons ⟨fr0,nr0,by rw[zG nr0];exact er0'⟩ (.cons ⟨fr1,nr1,by rw[zG nr1];exact er1'⟩ .nil))
  ·rintro σ H3 ⟨us,f4,g,hL0,hu,rfl⟩
   rw[zx4,el,zyx] at hu
   exact⟨_,rfl,lg,us,_,_,_,g2.trans g,flg,hL0,wG (fun _ _ r=>⟨r.1,r.2.2⟩) hu,rfl⟩
 ·rintro σ H2 ⟨l,es,f2,f3,f4,g2,fl,hl,he,rfl⟩
  exact⟨_,rfl,q l H2 es g2 fl hl he⟩
theorem zc4 {d:Nat}(T:Txt P w K mg a)(vo:zB P w K mg base zX k a.tL a.tO uc (Nv K d)):zB P w K mg base zX (k+1) a.tL a.tO uc (Nv K (d+1)):=by
 refine T.ud.F.ok vG (fun vs H Q E h=>?_) (fun cdv A outer s H vs Q E hr h=>?_)
 ·obtain⟨p,l,rl,sn,os,r,rfl,_⟩:=h
  rfl
 obtain⟨p,l,rl,sn,os,r,rfl,isp,hO,hR,hin,h8,hrl,hd,q⟩:=h
 refine⟨_,(zf (zA 3 vG.nd (yc v7 (pv 0) zq (fun _ _=>rfl)))
   (zf (yI (zP Zm (pv 3) (xM (za zZ (za zZ zc))) (by with_unfolding_all rfl)) (zu (zL (Xd zdY rfl T.zoR zly (za (vU xW (pv 3) zZ (zU _)) zc)))) z8)
   (zf (yI (zP xW (pv 3) zZ (zU _)) (zu (zL (yc yw (pv 2) (vd PySem.F.plainAttrs_list PySem.F.slot_list_index PySem.F.type_list_index T3 (pv 1) (za (yc v7 (pv 0) zq (fun _ _=>rfl)) zc)) (fun _ _=>rfl)))) z8)
   (zf (yI (zP Zm (pv 3) (xM (za zZ (za zZ zc))) (by with_unfolding_all rfl)) (zf (zA 6 vG.nd (vd PySem.F.plainAttrs_list PySem.F.slot_list_index PySem.F.type_list_index T3 (pv 1) (za (yc v7 (pv 0) zq (fun _ _=>rfl)) zc)))
   (zf (zA 7 vG.nd (zp vo hr T.ud (za (yc v7 (pv 0) zq (fun _ _=>rfl)) (za (pv 1) (za (zJ XC (zJ XC (ZQ Nk (pv 2) Uj (Z7 (pv 6))) (yE (za zq zc))) (ZQ Nk (pv 2) (Z7 (zJ xU (pv 6) zq)) Uj)) zc)))))
   (zf (zA 8 vG.nd (zp vo hr T.ud (za (yc v7 (pv 0) zq (fun _ _=>rfl)) (za (pv 1) (za (zJ XC (zJ XC (ZQ Nk (pv 2) Uj (Z7 (pv 6))) (yE (za zq zc))) (ZQ Nk (pv 2) (Z7 (zJ xU (pv 6) zq)) Uj)) zc)))))
   (zu (zL (Qt (zP xW (pv 3) zZ (zU _)) (zF (J8 rfl) rfl T.zmD zh2 (za (pv 7) (za (pv 8) zc))) (zF (zj8 rfl) rfl T.zrC zpE (za (pv 7) (za (pv 8) zc))))))))) z8)
   (zf (zA 4 vG.nd (zp vo hr T.ud (za (yc v7 (pv 0) zq (fun _ _=>rfl)) (za (pv 1) (za (pv 2) zc)))))
   (zf (yI (zP xW (pv 3) zZ (zU _)) (zu (zL (zJ UW zq (pv 4)))) z8)
   (zf (zA 5 vG.nd (zp vo hr T.ud (za (yc v7 (pv 0) zq (fun _ _=>rfl)) (za (pv 1) (za (pv 2) zc)))))
   (zu (zL (zfc (zd8 hr) (zjq (T5 zZ (zJ Qu (pv 4) (pv 5)) (T5 zZ (zF (J8 rfl) rfl T.zmD zh2 (za (pv 4) (za (pv 5) zc))) (T5 zZ (Xd zdY rfl T.zoR zly (za (vU Mt (pv 4) (pv 5) (zU _)) zc)) (T5 zZ (zF (J8 rfl) rfl T.zmD zh2 (za (zJ UW zq (pv 4)) (za (pv 5) zc))) zjp)))) rfl rfl (List.cons_ne_nil _ _) (Nat.le_of_ble_eq_true rfl)) (pv 3) (fun _ _=>rfl))))))))))),?_⟩
 obtain⟨zs,c1,c2,c3,c4,c5⟩:=Nt isp
 refine⟨_,rfl,p,_,0,_,rfl,rfl,vL.of c1,at0,?_⟩
 refine⟨_,rfl,by show 2<=sizeLine;decide,fun z1 hz1=>⟨z1,_,rfl,.inr (vL.of zj),rfl,rfl,_,rfl,?_⟩⟩
 have g1:=Same.new hz1 (.tup [.str "yes", .str "no"])
 cases sn with
 | c0 y =>
  cases y with
  | true=>exact yC (fun _=>⟨_,rfl,rfl,.inr ⟨_,rfl,q _ g1⟩⟩) (fun c=>absurd (ze8 (.inl rfl)) c)
  | false=>exact yC (fun _=>⟨_,rfl,rfl,.inr ⟨_,rfl,q _ g1⟩⟩) (fun c=>absurd (ze8 (.inr rfl)) c)
 | mk x =>
  refine yC (fun c=>absurd c (zai (show Str.ofString "mark" ≠ Str.ofString "yes" by decide +kernel) (show Str.ofString "mark" ≠ Str.ofString "no" by decide +kernel))) (fun _=>?_)
  have isp':H p=some (.tup [.str "mark", .str x]):=isp
  obtain⟨i1,i2,i3⟩:=vI (show x∈os from hin)
  refine⟨_,rfl,rfl,_,rfl,yC (fun _=>?_) (fun c=>absurd (decide_eq_true rfl) c)⟩
  refine⟨_,rfl,_,rfl,.inl ⟨rfl,_,g1.seq hO⟩,_,rfl,p,_,1,_,rfl,rfl,vL.of (g1 _ _ isp'),at1,l,_,.str x,_,rfl,rfl,g1.seq hO,rfl,wL _,i1,rl,_,_,_,rfl,rfl,g1.seq hR,yQ (znB (by rw[hrl];exact i2)),?_⟩
  rw[<-Wd]
  exact q _ g1
 | nt s1 =>
  refine yC (fun c=>absurd c (zai (show Str.ofString "not" ≠ Str.ofString "yes" by decide +kernel) (show Str.ofString "not" ≠ Str.ofString "no" by decide +kernel))) (fun _=>?_)
  refine⟨_,rfl,rfl,_,rfl,yC (fun c=>absurd c (ne_str (show Str.ofString "not" ≠ Str.ofString "mark" by decide +kernel))) (fun _=>?_)⟩
  refine⟨_,rfl,by show 2<=sizeLine;decide,fun z2 hz2=>⟨z2,_,rfl,.inr (vL.of zj),rfl,rfl,_,rfl,?_⟩⟩
  refine yC (fun c=>absurd c (zai (show Str.ofString "not" ≠ Str.ofString "some" by decide +kernel) (show Str.ofString "not" ≠ Str.ofString "each" by decide +kernel))) (fun _=>?_)
  have g2:=g1.trans (Same.new hz2 (.tup [.str "some", .str "each"]))
  obtain⟨q1,e1,is1⟩:=isp
  have dp:s1.depth<=d:=by have:1+s1.depth<=d+1:=hd;omega
  refine⟨_,rfl,p,_,1,_,rfl,rfl,vL.of (g2 _ _ e1),at1,_,rfl,_,rfl,q1,l,rl,s1,os,r,rfl,is1.mono (yJ.of g2),g2.seq hO,g2.seq hR,hin,h8,hrl,dp,fun H3 g3=>?_⟩
  refine⟨_,rfl,rfl,_,rfl,yC (fun _=>?_) (fun c=>absurd (decide_eq_true rfl) c)⟩
  refine⟨_,rfl,1,_,rfl,rfl,?_⟩
  have e:(1:Int)-(((s1.val (wB os (yj r))).toNat:Nat):Int)=(((!s1.val (wB os (yj r))).toNat:Nat):Int):=by cases s1.val (wB os (yj r))<;>rfl
  show Q (.int ((1:Int)-(((s1.val (wB os (yj r))).toNat:Nat):Int))) H3
  rw[e]
  exact q _ (g2.trans g3)
 | b2 o s1 s2 =>
  have w0:w2 o≠Str.ofString "yes" := zlJ o
  have w1:w2 o≠Str.ofString "no" := zoE o
  have w3:w2 o≠Str.ofString "mark" := zjh o
  have w4:w2 o≠Str.ofString "not" := zlK o
  have w5:w2 o≠Str.ofString "some" := zji o
  have w6:w2 o≠Str.ofString "each" := zjj o
  refine yC (fun c=>absurd c (zai w0 w1)) (fun _=>?_)
  refine⟨_,rfl,rfl,_,rfl,yC (fun c=>absurd c (ne_str w3)) (fun _=>?_)⟩
  refine⟨_,rfl,by show 2<=sizeLine;decide,fun z2 hz2=>⟨z2,_,rfl,.inr (vL.of zj),rfl,rfl,_,rfl,?_⟩⟩
  refine yC (fun c=>absurd c (zai w5 w6)) (fun _=>?_)
  have g2:=g1.trans (Same.new hz2 (.tup [.str "some", .str "each"]))
  obtain⟨q1,q2,e1,is1,is2⟩:=isp
  have dp:1+max s1.depth s2.depth<=d+1:=hd
  refine⟨_,rfl,p,_,1,_,rfl,rfl,vL.of (g2 _ _ e1),at1,_,rfl,_,rfl,q1,l,rl,s1,os,r,rfl,is1.mono (yJ.of g2),g2.seq hO,g2.seq hR,hin.1,h8,hrl,by omega,fun H3 g3=>?_⟩
  have g23:=g2.trans g3
  refine⟨_,rfl,rfl,_,rfl,yC (fun c=>absurd c (ne_str w4)) (fun _=>?_)⟩
  refine⟨_,rfl,p,_,2,_,rfl,rfl,vL.of (g23 _ _ e1),at2,_,rfl,_,rfl,q2,l,rl,s2,os,r,rfl,is2.mono (yJ.of g23),g23.seq hO,g23.seq hR,hin.2,h8,hrl,by omega,fun H4 g4=>?_⟩
  have g24:=g23.trans g4
  have q':∀H5,Same H4 H5->Q (.int (((Sn.op2 o (s1.val (wB os (yj r))) (s2.val (wB os (yj r)))).toNat:Nat):Int)) H5:=fun H5 g5=>q _ (g24.trans g5)
  clear q
  generalize s1.val (wB os (yj r))=A1 at q' ⊢
  generalize s2.val (wB os (yj r))=A2 at q' ⊢
  refine fun dp hdp=>?_
  refine⟨_,rfl,_,rfl,_,_,rfl,rfl,.inl ?_,?_⟩
  ·cases A1<;>exact⟨by decide,by decide⟩
  refine⟨_,rfl,_,rfl,_,_,rfl,?_⟩
  refine⟨_,rfl,_,rfl,rfl,.inr ⟨_,rfl,?_⟩⟩
  refine⟨_,rfl,1,_,rfl,rfl,_,rfl,_,_,rfl,?_⟩
  refine⟨zj,([(Sum.inr "and", _),(Sum.inr "or", _),(Sum.inr "either", _),(Sum.inr "if", _)]:List (Key×V)),rfl,(by show 4<=15;decide),?_⟩
  rw[ziV]
  have gd:=Same.new hdp (.dK (vB [] ([(Sum.inr "and", V.int ((A1.toNat:Int)*(A2.toNat:Int))),(Sum.inr "or", V.int (if (A2.toNat:Int) > (A1.toNat:Int) then (A2.toNat:Int) else (A1.toNat:Int))),(Sum.inr "either", V.int (if (!decide (V.int (A1.toNat:Nat)=V.int (A2.toNat:Nat)))=true then 1 else 0)),(Sum.inr "if", V.int (if (A2.toNat:Int) > 1-(A1.toNat:Int) then (A2.toNat:Int) else 1-(A1.toNat:Int)))]:List (Key×V))))
  have z:=za8.k (k:=(Sum.inr (w2 o):Key)) (zj (H:=H4) (a:=dp) (o:=.dK (vB [] ([(Sum.inr "and", V.int ((A1.toNat:Int)*(A2.toNat:Int))),(Sum.inr "or", V.int (if (A2.toNat:Int) > (A1.toNat:Int) then (A2.toNat:Int) else (A1.toNat:Int))),(Sum.inr "either", V.int (if (!decide (V.int (A1.toNat:Nat)=V.int (A2.toNat:Nat)))=true then 1 else 0)),(Sum.inr "if", V.int (if (A2.toNat:Int) > 1-(A1.toNat:Int) then (A2.toNat:Int) else 1-(A1.toNat:Int)))]:List (Key×V)))))
  rw[zrm] at z
  refine⟨_,rfl,dp,_,rfl,z,?_⟩
  have q2:=q' _ gd
  rcases zpv o with e | e | e | e<;>subst e<;>cases A1<;>cases A2<;>exact q2
 | q1 o x s1 =>
  obtain⟨hx,hs1⟩:=hin
  obtain⟨i1,i2,i3⟩:=vI hx
  have wq:(Sn.q1 o x s1).word≠Str.ofString "yes" /\ (Sn.q1 o x s1).word≠Str.ofString "no" /\ (Sn.q1 o x s1).word≠Str.ofString "mark" := by
   rw[ze1];exact zra o
  have wi:(Sn.q1 o x s1).word=Str.ofString "some" \/ (Sn.q1 o x s1).word=Str.ofString "each" := by cases o;exact .inr rfl;exact .inl rfl
  refine yC (fun c=>absurd c (zai wq.1 wq.2.1)) (fun _=>?_)
  refine⟨_,rfl,rfl,_,rfl,yC (fun c=>absurd c (ne_str wq.2.2)) (fun _=>?_)⟩
  refine⟨_,rfl,by show 2<=sizeLine;decide,fun z2 hz2=>⟨z2,_,rfl,.inr (vL.of zj),rfl,rfl,_,rfl,?_⟩⟩
  refine yC (fun _=>?_) (fun c=>absurd (ze8 wi) c)
  have g2:=g1.trans (Same.new hz2 (.tup [.str "some", .str "each"]))
  obtain⟨qq,e1',is1⟩:=isp
  have e1:H p=some (.tup [.str (Sn.q1 o x s1).word,.str x,.ref qq]):=by rw[ze1];exact e1'
  have dp:s1.depth<=d:=by have:1+s1.depth<=d+1:=hd;omega
  have hlr:(zY r).length=r.length:=zx4 _
  have ixr:ix os x<r.length:=by rw[hrl];exact i2
  have l9:r.length<=8:=by rw[hrl];exact h8
  refine⟨_,rfl,.inl ⟨rfl,_,g2.seq hO⟩,_,rfl,p,_,1,_,rfl,rfl,vL.of (g2 _ _ e1),at1,l,_,.str x,_,rfl,rfl,g2.seq hO,rfl,wL _,i1,?_⟩
  refine⟨_,rfl,p,_,2,_,rfl,rfl,vL.of (g2 _ _ e1),at2,_,rfl,_,rfl,_,rfl,_,rfl,rl,_,rfl,g2.seq hR,fun sa5 ztZ=>?_⟩
  rw[zca] at *
  have ga5:=g2.trans (Same.new ztZ (.lst ((zY r).take (ix os x))))
  refine⟨by show 1<=sizeLine;decide,fun sb5 zrS=>?_⟩
  have gb5:=ga5.trans (Same.new zrS (.lst [.int 0]))
  have ea5:=(Same.new zrS (.lst [.int 0])) sa5 (.lst ((zY r).take (ix os x))) zj
  refine⟨sa5,sb5,_,_,rfl,rfl,zO.of ea5,zO.of zj,by rw[zys,hlr];exact zyn (zQ (by show min _ _+1<=1000;omega)),fun sc5 zt0=>?_⟩
  have gc5:=gb5.trans (Same.new zt0 (.lst ((zY r).take (ix os x)++[.int 0])))
  refine⟨_,rfl,_,rfl,_,1,rfl,rfl,_,rfl,rl,_,rfl,gc5.seq hR,fun sd5 zrT=>?_⟩
  have ei5:TQ (zY r) (some ((ix os x:Nat)+1)) none=(zY r).drop (ix os x+1):=zcd (n:=ix os x+1)
  rw[ei5] at *
  have gd5:=gc5.trans (Same.new zrT (.lst ((zY r).drop (ix os x+1))))
  have ec5:=(Same.new zrT (.lst ((zY r).drop (ix os x+1)))) sc5 (.lst ((zY r).take (ix os x)++[.int 0])) zj
  refine⟨sc5,sd5,_,_,rfl,rfl,zO.of ec5,zO.of zj,by rw[zyc,zys,List.length_drop,hlr];exact zyn (zQ (by show min _ _+1+_<=1000;omega)),fun se5 zt1=>?_⟩
  have er5:(zY r).take (ix os x)++[V.int 0]++(zY r).drop (ix os x+1)=zY (r.set (ix os x) false):=zju ixr false
  rw[er5]
  have ge5:=gd5.trans (Same.new zt1 (.lst (zY (r.set (ix os x) false))))
  refine⟨qq,l,se5,s1,os,r.set (ix os x) false,rfl,is1.mono (yJ.of ge5),ge5.seq hO,zO.of zj,hs1,h8,by rw[List.length_set];exact hrl,dp,fun H5 gf5=>?_⟩
  rw[zjk hs1 hx hrl]
  have gg5:=ge5.trans gf5
  refine⟨_,rfl,p,_,2,_,rfl,rfl,vL.of (gg5 _ _ e1),at2,_,rfl,_,rfl,_,rfl,_,rfl,rl,_,rfl,gg5.seq hR,fun sa6 zt4=>?_⟩
  rw[zca] at *
  have ga6:=gg5.trans (Same.new zt4 (.lst ((zY r).take (ix os x))))
  refine⟨by show 1<=sizeLine;decide,fun sb6 zrU=>?_⟩
  have gb6:=ga6.trans (Same.new zrU (.lst [.int 1]))
  have ea6:=(Same.new zrU (.lst [.int 1])) sa6 (.lst ((zY r).take (ix os x))) zj
  refine⟨sa6,sb6,_,_,rfl,rfl,zO.of ea6,zO.of zj,by rw[zys,hlr];exact zyn (zQ (by show min _ _+1<=1000;omega)),fun sc6 zt5=>?_⟩
  have gc6:=gb6.trans (Same.new zt5 (.lst ((zY r).take (ix os x)++[.int 1])))
  refine⟨_,rfl,_,rfl,_,1,rfl,rfl,_,rfl,rl,_,rfl,gc6.seq hR,fun sd6 zrV=>?_⟩
  have ei6:TQ (zY r) (some ((ix os x:Nat)+1)) none=(zY r).drop (ix os x+1):=zcd (n:=ix os x+1)
  rw[ei6] at *
  have gd6:=gc6.trans (Same.new zrV (.lst ((zY r).drop (ix os x+1))))
  have ec6:=(Same.new zrV (.lst ((zY r).drop (ix os x+1)))) sc6 (.lst ((zY r).take (ix os x)++[.int 1])) zj
  refine⟨sc6,sd6,_,_,rfl,rfl,zO.of ec6,zO.of zj,by rw[zyc,zys,List.length_drop,hlr];exact zyn (zQ (by show min _ _+1+_<=1000;omega)),fun se6 zt6=>?_⟩
  have er6:(zY r).take (ix os x)++[V.int 1]++(zY r).drop (ix os x+1)=zY (r.set (ix os x) true):=zju ixr true
  rw[er6]
  have ge6:=gd6.trans (Same.new zt6 (.lst (zY (r.set (ix os x) true))))
  refine⟨qq,l,se6,s1,os,r.set (ix os x) true,rfl,is1.mono (yJ.of ge6),ge6.seq hO,zO.of zj,hs1,h8,by rw[List.length_set];exact hrl,dp,fun H6 gf6=>?_⟩
  rw[zjk hs1 hx hrl]
  have gg6:=ge6.trans gf6
  have q':Q (.int ((((Sn.q1 o x s1).val (wB os (yj r))).toNat:Nat):Int)) H6:=q _ gg6
  clear q
  cases o with
  | true =>
   refine⟨_,rfl,rfl,_,rfl,yC (fun _=>?_) (fun c=>absurd (decide_eq_true rfl) c)⟩
   refine⟨_,rfl,_,rfl,_,_,rfl,?_⟩
   have e9:((((Sn.q1 true x s1).val (wB os (yj r))).toNat:Nat):Int)=(((s1.val (fun y=>if y=x then true else wB os (yj r) y)||s1.val (fun y=>if y=x then false else wB os (yj r) y)).toNat:Nat):Int):=rfl
   rw[e9] at q'
   revert q'
   cases s1.val (fun y=>if y=x then true else wB os (yj r) y)<;>cases s1.val (fun y=>if y=x then false else wB os (yj r) y)<;>exact id
  | false =>
   refine⟨_,rfl,rfl,_,rfl,yC (fun c=>absurd c (ne_str (show Str.ofString "each" ≠ Str.ofString "some" by decide +kernel))) (fun _=>?_)⟩
   refine⟨_,rfl,_,rfl,_,_,rfl,?_⟩
   have e9:((((Sn.q1 false x s1).val (wB os (yj r))).toNat:Nat):Int)=(((s1.val (fun y=>if y=x then true else wB os (yj r) y)&&s1.val (fun y=>if y=x then false else wB os (yj r) y)).toNat:Nat):Int):=rfl
   rw[e9] at q'
   revert q'
   cases s1.val (fun y=>if y=x then true else wB os (yj r) y)<;>cases s1.val (fun y=>if y=x then false else wB os (yj r) y)<;>exact id
theorem zeI (T:Txt P w K mg a):∀d:Nat,zB P w K mg base zX (k+d) a.tL a.tO uc (Nv K d)
 | 0=>by
  refine⟨fun vs H Q E h=>?_,fun A outer s H args us vs Q E _ _ _ _ h=>?_⟩
  ·obtain⟨p,l,rl,sn,os,r,rfl,_⟩:=h
   rfl
  ·obtain⟨p,l,rl,sn,os,r,_,_,_,_,_,_,_,hd,_⟩:=h
   have:=Sn.Nm sn
   omega
 | d+1=>zc4 T (zeI T d)
theorem zhp (T:Txt P w K mg a)(xR:zB P w K mg base zX k a.vh a.vm wI (U6 K)):zB P w K mg base zX (k+1) a.W9 a.Va YM (zbD K):=by
 refine T.R8.F.ok XM (fun vs H Q E h=>?_) (fun cdv A outer s H vs Q E hr h=>?_)
 ·obtain⟨ol,rl,sl,os,r,s',rfl,_⟩:=h
  rfl
 obtain⟨ol,rl,sl,os,r,s',rfl,hol,ho,hW,hrl,hsl,lr,ls,q⟩:=h
 refine⟨_,(zf (zA 3 XM.nd (zp xR hr T.uP (za (pv 0) zc)))
   (zf (Wt (i:=4) XM.nd rfl (Or.inr rfl) (zig rfl rfl T.zmF rfl T.zp7 (za (pv 3) (za (pv 1) zc))))
   (zf (wD PassesOwn.never rfl (ur rfl T.tY (za (zF zE rfl T.yO yp (za (pv 3) zc)) zc)) (yr (i:=5) XM.nd rfl (Or.inl rfl)) (zu (zjo (zd8 hr) (pv 4) (yc Lh zZ (vd PySem.F.plainAttrs_str PySem.F.slot_str_index PySem.F.type_str_index zar zZ (za (yc yw (pv 3) (pv 5) (fun _ _=>rfl)) zc)) (fun _ _=>rfl)) (yc yw (pv 2) (pv 5) (fun _ _=>rfl)) rfl)))
   (zu (zL (Ww (ZP:=zx RJ) (js:=[4]) rfl (by show WR _ _ "mark" ["values"];exact lco (by decide +kernel)) rfl (wC (pv 0)) (by show ∀j∈([4]:List Nat),j<6;decide) (fun cl C s₂ H₂ fp=>(zfc (zd8 hr) (pv 1) (pv 0) (fun _ _=>rfl))))))))),?_⟩
 refine⟨_,rfl,ol,os,rfl,hol,fun nl H1 g1 _ hnl=>?_⟩
 have en:(z9 os).map V.str=((z9 os).map fun x=>(Sum.inr x:Key)).map kV:=by rw[zyG];rfl
 have n4:=wV os
 refine⟨_,rfl,_,rfl,nl,rl,(z9 os).map fun x=>(Sum.inr x:Key),zY r,rfl,by rw[<-en];exact zO.of hnl,g1.seq hrl,by rw[zx4];unfold zY;rw[zx4];exact lr.symm,fun d hd=>?_⟩
 have g2:=Same.new hd (.dK (vB [] (((z9 os).map fun x=>(Sum.inr x:Key)).zip (zY r))))
 have d2:upd H1 d (.dK (vB [] (((z9 os).map fun x=>(Sum.inr x:Key)).zip (zY r)))) d=some (.dK (vB [] (((z9 os).map fun x=>(Sum.inr x:Key)).zip (zY r)))):=zj
 have lm:=Xz (((z9 os).map fun x=>(Sum.inr x:Key)).zip (zY r)) []
 have lz:=List.length_zip (l₁:=(z9 os).map fun x=>(Sum.inr x:Key)) (l₂:=zY r)
 rw[zx4] at lz
 have hvN:∀(j:Nat) (x:Str),(z9 os)[j]?=some x->ZR (vB [] (((z9 os).map fun x=>(Sum.inr x:Key)).zip (zY r))) (Sum.inr x:Key)=some (.int ((r.getD j false).toNat:Nat)):=fun j x e=>by
  have jl:=(zx7.mp e).1
  refine zn1 (zfl ho hW) e ?_
  unfold zY
  rw[zx6,zx5 (by omega),zyh,zx5 (by omega)]
  rfl
 generalize vB [] (((z9 os).map fun x=>(Sum.inr x:Key)).zip (zY r))=kv0 at g2 d2 lm hvN
 have fd:=g1.free hd
 generalize upd H1 d (.dK kv0)=H2 at g2 d2
 have zrW:=g2 _ _ hnl
 have lnm:((z9 os).map V.str).length=(z9 os).length:=zx4 _
 refine⟨_,rfl,nl,_,rfl,.inl (zO.of zrW),_,rfl,by omega,by omega,?_⟩
 rw[zyI,lnm]
 have g12:=g1.trans g2
 refine uZ (fun i σ H'=>Same H H'/\H' nl=some (.lst ((z9 os).map V.str))/\∃(kvs:List (Key×V)) (f5:Option V),H' d=some (.dK kvs)/\kvs.length<=4+i/\(∀(j:Nat) (x:Str),(z9 os)[j]?=some x->ZR kvs (Sum.inr x:Key)=some (.int ((r.getD j false).toNat:Nat)))/\(∀(j:Nat) (x:Str),j<i->(uX os)[j]?=some x->ZR kvs (Sum.inr x:Key)=some (.int ((s'.getD j false).toNat:Nat)))/\σ=[some (.ref ol),some (.ref rl),some (.ref sl),some (.ref nl),some (.ref d),f5])
  ⟨g12,zrW,kv0,none,d2,by simp at lm;omega,hvN,fun j x hj=>by omega,rfl⟩ ?_ ?_
 ·rintro i σ H' hi ⟨g,hn,kvs,f5,hd',hl,v1,v2,rfl⟩
  have em:(z9 os)[i]?=some (z9 os)[i]:=zx5 hi
  obtain⟨yo,j,j4,ey⟩:=YF (zx9 em)
  rw[ey] at em
  obtain⟨rest,hx⟩:=Lx j4
  have e2:(uX os)[i]?=some (v8 j):=by
   rw[ZX,zx6] at em
   cases hj:(nis os)[i]? with
   | none=>rw[hj] at em;cases em
   | some j' =>
    rw[hj] at em
    have:yZ j'=yZ j:=by injection em
    have:j'=j:=by have:=zfe this;omega
    rw[T8 hW,zx6,hj,this]
    rfl
  have nt:v8 j∉z9 os:=fun z=>by
   obtain⟨_,k',hk',e⟩:=YF z
   exact Xh hk' e.symm
  have es:(zY s')[i]?=some (.int ((s'.getD i false).toNat:Nat)):=by
   unfold zY
   rw[zx6,zx5 (by omega),zyh,zx5 (by omega)]
   rfl
  have dn:d≠nl:=fun z=>by rw[z,hn] at hd';cases hd'
  have hx2:=em
  have ei:(0:Int)+(i:Nat)=((i:Nat):Int):=by omega
  refine⟨_,rfl,_,rfl,sl,_,_,_,rfl,congrArg V.int ei,g.seq hsl,yQ es,_,rfl,rfl,_,rfl,_,rfl,nl,_,_,_,rfl,congrArg V.int ei,zO.of hn,yQ (by rw[zx6,em];rfl),_,_,j,rest,rfl,rfl,hx,_,_,_,rfl,rfl,by show(Str.ofString "efgh").length<=sizeLine;decide,zff j4,d,_,rfl,zkg.k (k:=Sum.inr (v8 j)) hd' (Nat.lt_of_le_of_lt hl (zQ (by omega))),?_⟩
  refine⟨g.over fd _,by rw[zG (Ne.symm dn)];exact hn,_,_,zj,?_,fun j' x e=>?_,fun j' x hj' e=>?_,rfl⟩
  ·unfold putK
   split
   ·rw[zx4];omega
   ·rw[zyc];simp;omega
  ·rw[wH,if_neg fun z=>?_]
   ·exact v1 j' x e
   ·have:x=v8 j:=by injection z
    rw[this] at e
    exact nt (zx9 e)
  ·rw[wH]
   by_cases c:j'=i
   ·rw[c,e2] at e
    cases e
    rw[if_pos rfl,c]
   ·rw[if_neg fun z=>?_]
    ·exact v2 j' x (by omega) e
    ·have ex:x=v8 j:=by injection z
     rw[ex] at e
     have i1:=zeo (Jf os) e
     have i2:=zeo (Jf os) e2
     exact c (i1.symm.trans i2)
 ·rintro σ H' ⟨g,hn,kvs,f5,hd',hl,v1,v2,rfl⟩
  refine⟨_,rfl,ol,rfl,⟨_,g.seq hol⟩,?_⟩
  refine zbt (xs:=os.map V.str) (fun x v=>v=(match x with | .str y=>V.int ((pv os r s' y).toNat:Nat) | _=>V.non)) (g.seq hol) (by rw[zx4];exact zyn (zQ (by have:=ho.le;omega))) (fun i x H2 hx g2=>?_) (fun _ _ _ _ h ⟨v1,e1,v2,e2,a0,v0,z1,z2,z3⟩=>⟨v1,e1,v2,e2,a0,v0,z1,z2,h _ _ z3⟩) (fun ys H2 p hp g2 hp0=>?_)
  ·rw[zx6] at hx
   cases hm:os[i]? with
   | none=>rw[hm] at hx;cases hx
   | some y =>
    rw[hm] at hx
    cases hx
    refine⟨_,rfl,_,rfl,d,.int ((pv os r s' y).toNat:Nat),rfl,?_,rfl,g2⟩
    have yo:=zx9 hm
    have key:ZR kvs (Sum.inr y:Key)=some (.int ((pv os r s' y).toNat:Nat)):=by
     unfold uh.pv
     by_cases c:y∈z9 os
     ·rw[if_pos c]
      exact v1 _ _ (vI c).2.2
     ·rw[if_neg c]
      have ct:y∈uX os:=by
       obtain⟨i',hi',e⟩:=zfp (ho.mem _ yo)
       rcases e with e | e
       ·rw[e] at c yo
        refine absurd ?_ c
        rw[ZX]
        exact List.mem_map.mpr ⟨i',zbB.mpr ⟨hi',yo⟩,rfl⟩
       ·rw[e] at yo ⊢
        rw[T8 hW]
        exact List.mem_map.mpr ⟨i',zbB.mpr ⟨hi',(LC hW hi').mpr yo⟩,rfl⟩
      refine v2 _ _ ?_ (vI ct).2.2
      have:=(vI ct).2.1
      rw[T8 hW,zx4] at this
      rw[ZX,zx4,T8 hW]
      exact this
    rw[<-key]
    exact za8.k (k:=Sum.inr y) (g2 _ _ hd')
  ·have ey:ys=zY (prR os r s'):=by
    rw[Lp hp]
    unfold zY prR
    rw[zyG,zyG]
    rfl
   rw[ey]
   exact q p _ (g.trans (g2.trans (Same.new hp0 _))) ((g.trans g2).free hp0) zj
theorem zfX (T:Txt P w K mg a)(xR:zB P w K mg base zX k a.vh a.vm wI (U6 K))(Xa:zB P w K mg base zX k a.ZC a.ZD uU Vg)(vo:zB P w K mg base zX k a.tL a.tO uc (Nv K 24))(Qa:zB P w K mg base zX k a.W9 a.Va YM (zbD K)) :
  zB P w K mg base zX (k+1) a.Tw a.Tz XQ (zfs K):=by
 refine T.Lb.F.ok uG (fun vs H Q E h=>?_) (fun cdv A outer s H vs Q E hr h=>?_)
 ·obtain⟨p,ol,os,sn,rfl,_⟩:=h
  rfl
 obtain⟨p,ol,os,sn,rfl,hol,ho,hW,hS,q⟩:=h
 refine⟨_,(zf (zA 2 uG.nd (zp Xa hr T.Vc (za (zF zE rfl T.yO yp (za (zp xR hr T.uP (za (pv 1) zc)) zc)) zc)))
   (zf (zA 3 uG.nd (yE zc))
   (zf (wD PassesOwn.never rfl (wC (pv 2)) (yr (i:=4) uG.nd rfl (Or.inl rfl)) (zf (zA 5 uG.nd (yE zc))
   (zf (wD PassesOwn.never rfl (ur rfl T.tY (za (zF zE rfl T.yO yp (za (pv 2) zc)) zc)) (yr (i:=6) uG.nd rfl (Or.inl rfl)) (zu (yI (zP xW (zp vo hr T.ud (za (pv 0) (za (pv 1) (za (zp Qa hr T.R8 (za (pv 1) (za (pv 4) (za (yc yw (pv 2) (pv 6) (fun _ _=>rfl)) zc)))) zc)))) zq (zU _)) (zu (yu (vd PySem.F.plainAttrs_list PySem.F.slot_list_append PySem.F.type_list_append wF (pv 5) (za (pv 6) zc)))) z8)))
   (zu (yu (vd PySem.F.plainAttrs_list PySem.F.slot_list_append PySem.F.type_list_append wF (pv 3) (za (pv 5) zc)))))))
   (zu (zL (pv 3)))))),?_⟩
 have n4:=wV os
 have M16:=zmj (os:=os)
 refine⟨_,rfl,ol,os,rfl,hol,fun nl H1 g1 _ hnl=>⟨nl,_,rfl,.inl (zO.of hnl),(z9 os).length,by rw[zx4];rfl,by omega,fun rl H2 ps g2 frl hrl he=>?_⟩⟩
 have el:=yK he
 rw[xV.wN] at el
 have el':ps.length=nM os:=el
 have g12:=g1.trans g2
 refine⟨by show 0<=sizeLine;decide,fun fl hfl=>?_⟩
 have g3:=Same.new hfl (.lst [])
 refine⟨_,rfl,rl,rfl,⟨_,zO.of (g3 _ _ hrl)⟩,?_⟩
 have zmM:∀{i:Nat} {x:Addr},ps[i]?=some x->H1 x=none/\H2 x=some (.lst (zY (Yu os i)))/\i<nM os:=fun {i x} hx=>by
  obtain⟨r,hr',f1,f2⟩:=ZK he hx
  refine⟨f1,?_,by rw[<-el'];exact(zx7.mp hx).1⟩
  unfold Yu
  rw[zyh,hr']
  exact f2
 refine uw (xs:=ps.map V.ref) (fun i σ H'=>Same H2 H'/\∃(hs:List Addr) (f4 f5 f6:Option V),H' fl=some (.lst (hs.map V.ref))/\Paired (GrL os (fun b=>sn.val (wB os b)) H') hs (List.range i)/\(∀x∈hs,H x=none/\x≠fl)/\σ=[some (.ref p),some (.ref ol),some (.ref rl),some (.ref fl),f4,f5,f6])
  ⟨g3,[],_,_,_,zj,.nil,(fun _ h=>nomatch h),rfl⟩ (fun i σ H' _ ⟨g,_⟩=>zO.of (g _ _ hrl)) ?_ ?_
 ·rintro i x σ H' hx ⟨g,hs,f4,f5,f6,hf,pd,fs,rfl⟩
  rw[zx6] at hx
  cases hp:ps[i]? with
  | none=>rw[hp] at hx;cases hx
  | some rp =>
   rw[hp] at hx
   cases hx
   obtain⟨_,ri,il⟩:=zmM hp
   have hsl:=yK pd
   rw[zym] at hsl
   refine⟨by show 0<=sizeLine;decide,fun hl hhl=>?_⟩
   have g4:=Same.new hhl (.lst [])
   have gA:=g.trans g4
   have nfl:hl≠fl:=Ne.symm (zH hf hhl)
   have fhl:H hl=none:=(g12.trans g).free hhl
   have lpm:(ps.map V.ref).length=ps.length:=zx4 _
   refine⟨_,rfl,rl,_,rfl,.inl (zO.of (gA _ _ hrl)),_,rfl,by omega,by omega,?_⟩
   rw[zyI,lpm]
   refine uZ (fun j σ H3=>Same H' H3/\∃f6:Option V,H3 hl=some (.lst (yd ((List.range j).filter (gr os (fun b=>sn.val (wB os b)) i))))/\σ=[some (.ref p),some (.ref ol),some (.ref rl),some (.ref fl),some (.ref rp),some (.ref hl),f6])
    ⟨g4,_,zj,rfl⟩ ?_ ?_
   ·rintro j σ H3 hj ⟨h1,f6,hh,rfl⟩
    obtain⟨y,hy⟩:∃y,ps[j]?=some y:=⟨_,zx5 hj⟩
    obtain⟨_,rj,jl⟩:=zmM hy
    have e2:(0:Int)+(j:Nat)=((j:Nat):Int):=by omega
    have gB:=g.trans h1
    have gC:=g12.trans gB
    refine⟨_,rfl,_,rfl,_,rfl,_,rfl,_,rfl,_,rfl,rl,_,_,_,rfl,congrArg V.int e2,zO.of (gB _ _ hrl),yQ (by rw[zx6,hy];rfl),ol,rp,y,os,Yu os i,Yu os j,rfl,gC.seq hol,ho,hW,zO.of (gB _ _ ri),zO.of (gB _ _ rj),NZ il,NZ jl,fun pl H4 g4' fpl hpl=>?_⟩
    have gD:=gC.trans g4'
    refine⟨p,ol,pl,sn,os,prR os (Yu os i) (Yu os j),rfl,hS.is_.mono (yJ.of gD),gD.seq hol,zO.of hpl,hS.Ve,ho.le,zfr ..,hS.dp,fun H5 g5=>?_⟩
    have hh5:=g5 _ _ (g4' _ _ hh)
    refine⟨rfl,_,rfl,?_⟩
    have ed:decide (V.int ((sn.val (wB os (yj (prR os (Yu os i) (Yu os j))))).toNat:Nat)=V.int 1)=gr os (fun b=>sn.val (wB os b)) i j:=by
     show _=sn.val (wB os (yj (prR os (Yu os i) (Yu os j))))
     cases sn.val (wB os (yj (prR os (Yu os i) (Yu os j))))<;>decide
    rw[ed]
    have gE:=h1.trans (g4'.trans g5)
    cases hb:gr os (fun b=>sn.val (wB os b)) i j with
    | true =>
     refine TX ⟨_,rfl,.inl ⟨rfl,_,zO.of hh5⟩,_,rfl,hl,_,_,rfl,rfl,hh5,?_,?_⟩
     ·have:=zyD (gr os (fun b=>sn.val (wB os b)) i) (List.range j)
      rw[zym] at this
      unfold yd;rw[zx4];exact zQ (by omega)
     ·refine⟨gE.over hhl _,_,?_,rfl⟩
      rw[zj,List.range_succ,zyJ,List.filter_cons_of_pos hb]
      unfold yd
      rw[zyi]
      show some (HO.lst (_++[V.int ((0:Int)+(j:Nat))]))=some (HO.lst (_++[V.int (j:Nat)]))
      rw[e2]
    | false =>
     refine U3 ⟨gE,_,?_,rfl⟩
     rw[hh5,List.range_succ,zyJ,List.filter_cons_of_neg (by rw[hb];exact zx8),List.filter_nil,List.append_nil]
   ·rintro σ H3 ⟨h1,f6,hh,rfl⟩
    have hf3:=h1 _ _ hf
    refine⟨_,rfl,.inl ⟨rfl,_,zO.of hf3⟩,_,rfl,fl,_,_,rfl,rfl,hf3,by rw[zx4];exact zQ (by omega),?_⟩
    refine⟨(g.trans h1).over hfl _,hs++[hl],_,_,_,by rw[zj,zyi];rfl,?_,fun z hz=>?_,rfl⟩
    ·rw[List.range_succ]
     refine Yc (Lw (by rw[zym];exact hsl) fun j x y e1 e2=>?_) (.cons ?_ .nil)
     ·obtain⟨u,hu,gu⟩:=ZK pd e1
      rw[hu] at e2
      cases e2
      have nx:=(fs x (zx9 e1)).2
      show upd H3 fl _ x=_
      rw[zG nx]
      exact h1 _ _ gu
     ·show upd H3 fl _ hl=_
      rw[zG nfl,hh,el']
      rfl
    ·rcases List.mem_append.mp hz with z' | z'
     ·exact fs z z'
     ·have:z=hl:=by simpa using z'
      rw[this];exact⟨fhl,nfl⟩
 ·rintro σ H' ⟨g,hs,f4,f5,f6,hf,pd,fs,rfl⟩
  rw[zx4,el'] at pd
  exact⟨_,rfl,q fl hs H' (g12.trans g) ⟨hf,pd,g12.free hfl,fun x hx=>(fs x hx).1⟩⟩
theorem zdI (T:Txt P w K mg a)(xR:zB P w K mg base zX k a.vh a.vm wI (U6 K))(Xa:zB P w K mg base zX k a.ZC a.ZD uU Vg)(vo:zB P w K mg base zX k a.tL a.tO uc (Nv K 24))(Qa:zB P w K mg base zX k a.W9 a.Va YM (zbD K)) :
  zB P w K mg base zX (k+1) a.V3 a.V4 YS (zcu K):=by
 refine T.Uc.F.ok Ql (fun vs H Q E h=>?_) (fun cdv A outer s H vs Q E hr h=>?_)
 ·obtain⟨p,ol,os,sn,rfl,_⟩:=h
  rfl
 obtain⟨p,ol,os,sn,rfl,hol,ho,hW,hS,q⟩:=h
 refine⟨_,(zf (Wt (i:=2) Ql.nd rfl (Or.inr rfl) (Ww (ZP:=zx YQ) (js:=[1]) rfl (by show WR _ _ "row" ["order"];exact lco (by decide +kernel)) rfl (wC (zp Xa hr T.Vc (za (zF zE rfl T.yO yp (za (zp xR hr T.uP (za (pv 1) zc)) zc)) zc))) (by show ∀j∈([1]:List Nat),j<3;decide) (fun cl C s₂ H₂ fp=>(zp Qa hr T.R8 (za (pv 1) (za (pv 0) (za (pv 0) zc)))))))
   (zu (zL (zlp (ZP:=zx YQ) (js:=[0,1,2]) rfl (by show WR _ _ "k" ["sentence", "order", "rows"];exact lco (by decide +kernel)) rfl (ur rfl T.tY (za (zF zE rfl T.yO yp (za (pv 2) zc)) zc)) (by show ∀j∈([0,1,2]:List Nat),j<3;decide) (fun cl C s₂ H₂ fp=>(zP xW (zp vo hr T.ud (za (pv 1) (za (pv 2) (za (yc (Wf (K:=K) rfl) (pv 3) (pv 0) (fun _ _=>rfl)) zc)))) zq (zU _))) (fun cl C s₂ H₂ fp=>(pv 0)))))),?_⟩
 have n4:=wV os
 have M16:=zmj (os:=os)
 refine⟨_,rfl,ol,os,rfl,hol,fun nl H1 g1 _ hnl=>⟨nl,_,rfl,.inl (zO.of hnl),(z9 os).length,by rw[zx4];rfl,by omega,fun rl H2 ps g2 frl hrl he=>?_⟩⟩
 have el:=yK he
 rw[xV.wN] at el
 have el':ps.length=nM os:=el
 have g12:=g1.trans g2
 refine⟨rl,rfl,⟨_,zO.of hrl⟩,?_⟩
 refine zct (xs:=ps.map V.ref) (fun i ys H'=>Same H2 H'/\∃us:List Addr,ys=us.map V.ref/\Paired (fun u r=>H' u=some (.lst (zY (prR os r r)))) us ((xV.allR (z9 os).length).take i)) ⟨Same.refl _,[],rfl,.nil⟩ (by rw[zx4];exact zyn (zQ (by omega))) ?_ ?_ ?_
 ·rintro i ys H' hi ⟨g,us,rfl,pu⟩
  have:=yK pu
  rw[zys] at this
  exact⟨zO.of (g _ _ hrl),by rw[zx4];omega⟩
 ·rintro i x ys H' Q0 hx ⟨g,us,rfl,pu⟩ hQ
  rw[zx6] at hx
  cases hp:ps[i]? with
  | none=>rw[hp] at hx;cases hx
  | some rp =>
   rw[hp] at hx
   cases hx
   obtain⟨r,hr',_,ar⟩:=ZK he hp
   have rlen:=xV.Yz _ r (zx9 hr')
   refine⟨_,rfl,_,rfl,_,rfl,ol,rp,rp,os,r,r,rfl,(g12.trans g).seq hol,ho,hW,zO.of (g _ _ ar),zO.of (g _ _ ar),rlen,rlen,fun l H3 g3 fl hl=>hQ _ _ ⟨g.trans g3,us++[l],by rw[zyi];rfl,?_⟩⟩
   rw[xg hr']
   exact Yc (wG (fun _ _ z=>g3 _ _ z) pu) (.cons hl .nil)
 ·rintro ys H' rl' ⟨g,us,rfl,pu⟩ hrl'
  rw[zx4,el,<-xV.wN,zyx] at pu
  have gn:=Same.new hrl' (.lst (us.map V.ref))
  have hn:upd H' rl' (.lst (us.map V.ref)) rl'=some (.lst (us.map V.ref)):=zj
  have pu':=wG (fun _ _ z=>gn _ _ z) pu
  have gA:=g12.trans (g.trans gn)
  generalize upd H' rl' (.lst (us.map V.ref))=H4 at gn hn pu' gA
  have ul:=yK pu
  rw[xV.wN] at ul
  have lum:(us.map V.ref).length=nM os:=by rw[zx4];exact ul
  refine⟨_,rfl,rl',_,rfl,.inl (zO.of hn),_,rfl,by omega,by omega,?_⟩
  rw[zyI,lum]
  refine zmi (fun k=>sn.val (wB os (eb os k))) (zyn (zQ (by omega))) (fun x H' Q h=>⟨_,rfl,h⟩) (fun i H5 Q0 hi g5 hQ=>?_) (fun H5 l g5 hl=>?_)
  ·obtain⟨y,hy⟩:∃y,us[i]?=some y:=⟨_,zx5 (by rw[ul];exact hi)⟩
   obtain⟨r,hr',ar⟩:=ZK pu' hy
   have er:Yu os i=r:=by unfold Yu;rw[zyh,hr'];rfl
   have e2:(0:Int)+(i:Nat)=((i:Nat):Int):=by omega
   have gB:=gA.trans g5
   refine⟨_,rfl,_,rfl,_,rfl,_,rfl,rl',_,_,_,rfl,congrArg V.int e2,zO.of (g5 _ _ hn),yQ (by rw[zx6,hy];rfl),p,ol,y,sn,os,prR os r r,rfl,hS.is_.mono (yJ.of gB),gB.seq hol,zO.of (g5 _ _ ar),hS.Ve,ho.le,zfr ..,hS.dp,fun H6 g6=>?_⟩
   refine⟨rfl,_,rfl,?_⟩
   have ed:decide (V.int ((sn.val (wB os (yj (prR os r r)))).toNat:Nat)=V.int 1)=sn.val (wB os (eb os i)):=by
    show _=sn.val (wB os (yj (prR os (Yu os i) (Yu os i))))
    rw[er]
    cases sn.val (wB os (yj (prR os r r)))<;>decide
   rw[ed]
   exact hQ _ (g5.trans g6)
  ·exact q l _ (gA.trans (g5.trans (Same.new hl _))) ((gA.trans g5).free hl) zj
theorem zbn (T:Txt P w K mg a)(uM:zB P w K mg base zX k a.Vi a.Vj Xi T7):zB P w K mg base zX (k+1) a.VJ a.VL YH (U5 K):=by
 refine T.PB.F.ok vN (fun vs H Q E h=>?_) (fun cdv A outer s H vs Q E hr h=>?_)
 ·obtain⟨N,n,f,pl,ps,rfl,_⟩:=h
  rfl
 obtain⟨N,n,f,pl,ps,rfl,hn,tb,hpl,hps,zvt,q⟩:=h
 refine⟨_,(zf (zA 3 vN.nd (yE zc))
   (zf (wD PassesOwn.never rfl (wC (pv 1)) (yr (i:=4) vN.nd rfl (Or.inl rfl)) (zf (zA 5 vN.nd (zp uM hr T.Xr (za (pv 0) (za (pv 4) (za zq (za (pv 2) zc))))))
   (zf (zA 6 vN.nd (Qt (zP Mt (pv 5) zq (zU _)) zq zq))
   (zf (zA 0 vN.nd (zp uM hr T.Xr (za (pv 0) (za (pv 4) (za (pv 6) (za (pv 2) zc))))))
   (zu (yu (vd PySem.F.plainAttrs_list PySem.F.slot_list_append PySem.F.type_list_append wF (pv 3) (za (pv 6) zc))))))))
   (zu (zL (pv 3))))),?_⟩
 refine⟨by show 0<=sizeLine;decide,fun l hl=>?_⟩
 have g0:=Same.new hl (.lst [])
 refine⟨_,rfl,pl,rfl,⟨_,g0.seq hpl⟩,?_⟩
 refine uw (xs:=ps.map fun p=>V.int (p:Nat)) (fun i σ H'=>∃(M:Nat) (g:Nat->Bool) (r:List Bool) (f4 f5 f6:Option V),Same H H'/\H' l=some (.lst (zY r))/\zV n M g/\r.length=i/\xV.fvP n f ps=r++xV.fvP n g (ps.drop i)/\σ=[some (.int M),some (.ref pl),some (.int n),some (.ref l),f4,f5,f6])
  ⟨N,f,[],_,_,_,g0,zj,tb,rfl,rfl,rfl⟩ ?_ ?_ ?_
 ·rintro i σ H' _ ⟨M,g,r,f4,f5,f6,gg,_⟩
  exact gg.seq hpl
 ·rintro i x σ H' hx ⟨M,g,r,f4,f5,f6,gg,hL,tg,hr',e,rfl⟩
  rw[zx6] at hx
  cases hp:ps[i]? with
  | none=>rw[hp] at hx;cases hx
  | some p =>
   rw[hp] at hx
   cases hx
   have hpn:=hps p (zx9 hp)
   obtain⟨lt,e'⟩:=zx7.mp hp
   rw[List.drop_eq_getElem_cons lt,e'] at e
   refine⟨_,rfl,_,rfl,_,rfl,M,p,n,false,g,rfl,hpn,hn,tg,fun R tr=>?_⟩
   have tz:=xV.KZ tr
   refine⟨_,rfl,rfl,_,rfl,?_⟩
   have ee:(!decide (V.int (R:Nat)=V.int 0))=xV.anyB n fun b=>g (zN b p false):=by
    cases hz:xV.anyB n fun b=>g (zN b p false) with
    | true =>
     rw[hz] at tz
     rw[decide_eq_false fun z=>by injection z with z;exact absurd (decide_eq_true (show R=0 by omega)) (by rw[tz];exact zx8)]
     rfl
    | false =>
     rw[hz] at tz
     have z:R=0:=of_decide_eq_true tz
     subst z
     rfl
   rw[ee]
   cases hz:xV.anyB n fun b=>g (zN b p false) with
   | true =>
    refine yC (fun _=>?_) (fun c=>absurd rfl c)
    refine⟨_,rfl,_,rfl,_,rfl,_,rfl,M,p,n,false,g,rfl,hpn,hn,tg,fun R2 t2=>?_⟩
    refine⟨_,rfl,.inl ⟨rfl,_,zO.of hL⟩,_,rfl,l,_,_,rfl,rfl,hL,?_,?_⟩
    ·unfold zY;rw[zx4,hr'];exact zQ (by omega)
    ·refine⟨R2,_,r++[false],_,_,_,gg.over hl _,by rw[zj];unfold zY;rw[zyi];rfl,t2,by rw[zyc,hr'];rfl,?_,rfl⟩
     rw[e,List.append_assoc]
     show r++(_::_)=r++([false]++_)
     rw[hz]
     rfl
   | false =>
    refine yC (fun c=>absurd c zx8) (fun _=>?_)
    refine⟨_,rfl,_,rfl,_,rfl,_,rfl,M,p,n,true,g,rfl,hpn,hn,tg,fun R2 t2=>?_⟩
    refine⟨_,rfl,.inl ⟨rfl,_,zO.of hL⟩,_,rfl,l,_,_,rfl,rfl,hL,?_,?_⟩
    ·unfold zY;rw[zx4,hr'];exact zQ (by omega)
    ·refine⟨R2,_,r++[true],_,_,_,gg.over hl _,by rw[zj];unfold zY;rw[zyi];rfl,t2,by rw[zyc,hr'];rfl,?_,rfl⟩
     rw[e,List.append_assoc]
     show r++(_::_)=r++([true]++_)
     rw[hz]
     rfl
 ·rintro σ H' ⟨M,g,r,f4,f5,f6,gg,hL,tg,hr',e,rfl⟩
  rw[zx4,List.drop_length] at e
  have e1:xV.fvP n f ps=r:=by rw[e];exact List.append_nil _
  refine⟨_,rfl,q l H' gg hl ?_⟩
  rw[e1]
  exact hL
theorem zc5 (T:Txt P w K mg a)(vH:zB P w K mg base zX k a.Yd a.Ye Zd Xe)(wA:zB P w K mg base zX k a.vW a.vX vf uQ)(Rb:zB P w K mg base zX k a.Vk a.Vl Xj Vf):zB P w K mg base zX (k+1) a.Ti a.Tj XD (Rx K):=by
 refine T.M7.F.ok uy (fun vs H Q E h=>?_) (fun cdv A outer s H vs Q E hr h=>?_)
 ·obtain⟨pl,rl,n,ps,r,rfl,_⟩:=h
  rfl
 obtain⟨pl,rl,n,ps,r,rfl,n8,hl,hm,hp,el,l8,q⟩:=h
 refine⟨_,(zf (zA 3 uy.nd (zp vH hr T.Ym (za (pv 2) zc)))
   (zf (wD PassesOwn.never rfl (zlT rfl T.zmF (za (pv 0) (za (pv 1) zc))) (J5 rfl (uW (yr (i:=4) uy.nd rfl (Or.inl rfl)) (uW (yr (i:=5) uy.nd rfl (Or.inl rfl)) Ni))) (zf (zA 6 uy.nd (zp wA hr T.Yt (za (pv 4) (za (pv 2) zc))))
   (zu (zA 3 uy.nd (Qt (zP xW (pv 5) zq (zU _)) (zJ tV (pv 3) (pv 6)) (zp Rb hr T.Ma (za (pv 3) (za (pv 6) zc))))))))
   (zu (zL (pv 3))))),?_⟩
 refine⟨_,rfl,n,rfl,n8,?_⟩
 refine⟨_,rfl,_,rfl,pl,rl,yd ps,zY r,rfl,hl,hm,?_⟩
 have e1:(yd ps).length=ps.length:=zx4 _
 have e2:(zY r).length=r.length:=zx4 _
 refine zjw (xs:=yd ps) (ys:=zY r) (by omega) (fun i σ H'=>Same H H'/\∃(M:Nat) (f4 f5 f6:Option V),zV n M (hav ((ps.zip r).take i))/\σ=[some (.ref pl),some (.ref rl),some (.int (n:Nat)),some (.int (M:Nat)),f4,f5,f6]) ⟨Same.refl _,_,_,_,_,KY n,rfl⟩ ?_ ?_ ?_
 ·rintro i σ H' _ ⟨g,_⟩
  exact⟨g.seq hl,g.seq hm⟩
 ·rintro i x y σ H' t hx hy ⟨g,M,f4,f5,f6,tm,rfl⟩ ht
  unfold yd at hx
  unfold zY at hy
  rw[zx6] at hx hy
  cases hj:ps[i]? with
  | none=>rw[hj] at hx;cases hx
  | some p =>
   rw[hj] at hx
   cases hx
   cases hk:r[i]? with
   | none=>rw[hk] at hy;cases hy
   | some v =>
    rw[hk] at hy
    cases hy
    have hz:(ps.zip r)[i]?=some (p,v):=List.getElem?_zip_eq_some.mpr ⟨hj,hk⟩
    have pn:=hp p (zx9 hj)
    have nx:hav ((ps.zip r).take (i+1))=fun b=>hav ((ps.zip r).take i) b&&(b.testBit p==v):=funext fun b=>by
     rw[xg hz]
     unfold hav
     rw[List.all_append]
     simp
    refine⟨t,_,rfl,vL.of zj,rfl,_,_,rfl,_,_,rfl,rfl,?_⟩
    refine⟨_,rfl,_,rfl,p,n,rfl,pn,n8,fun W tw=>?_⟩
    refine⟨_,rfl,rfl,_,rfl,?_⟩
    cases v with
    | true =>
     refine TX ⟨_,rfl,_,rfl,M,W,rfl,rfl,g.trans (Same.new ht _),_,_,_,_,?_,rfl⟩
     rw[nx]
     have e:(fun b=>hav ((ps.zip r).take i) b&&(b.testBit p==true))=fun b=>hav ((ps.zip r).take i) b&&b.testBit p:=funext fun b=>by simp
     rw[e]
     exact Jh tm tw
    | false =>
     refine U3 ⟨_,rfl,_,rfl,M,W,n,_,_,rfl,tm,tw,fun R tr=>⟨g.trans (Same.new ht _),R,_,_,_,?_,rfl⟩⟩
     rw[nx]
     have e:(fun b=>hav ((ps.zip r).take i) b&&(b.testBit p==false))=fun b=>hav ((ps.zip r).take i) b&&!b.testBit p:=funext fun b=>by cases b.testBit p<;>rfl
     rw[e]
     exact tr
 ·rintro σ H' ⟨g,M,f4,f5,f6,tm,rfl⟩
  have el:(ps.zip r).length=(yd ps).length:=by rw[List.length_zip,e1];omega
  rw[<-el,zyx] at tm
  exact⟨_,rfl,q M H' g tm⟩
theorem zbo (T:Txt P w K mg a)(zc6:zB P w K mg base zX k a.VJ a.VL YH (U5 K))(vZ:zB P w K mg base zX k a.Zw a.Zx uT (Yp a.zy))(yq:zB P w K mg base zX k a.yV a.yW yL (xP (yD a.zy))):zB P w K mg base zX (k+1) a.V1 a.V2 YK (Lz a.zy):=by
 refine T.Ub.F.ok zbb (fun vs H Q E h=>?_) (fun cdv A outer s H vs Q E hr h=>?_)
 ·obtain⟨b,os,rs,F,N,f,rfl,_⟩:=h
  rfl
 obtain⟨b,os,rs,F,N,f,rfl,hB,tf,q⟩:=h
 refine⟨_,(zu (zL (zp zc6 hr T.PB (za (pv 1) (za (zp vZ hr T.ZF (za (pv 0) zc)) (za (zF zE rfl T.yO yp (za (u6 (pv 0) T.yF T.wg yq hr) zc)) zc)))))),?_⟩
 have L:=yX a.zy
 have o8:=(L.ord hB).le
 have lo5:(os.map V.str).length=os.length:=zx4 _
 have l4:(yg os).length<=8:=by unfold yg;rw[zx4];have:=wV os;omega
 have hB0:=hB
 obtain⟨dx,ml,rl,tl,nd,rv,ts,kvs,h⟩:=hB
 refine⟨_,rfl,_,rfl,b,os,rs,F,rfl,hB0,fun l1 H1 g1 fl1 hl1=>?_⟩
 have Ld:=L.same hB0 g1
 refine⟨_,rfl,b,dx,_,rfl,g1 _ _ h.hb,rfl,b,os,rs,F,rfl,Ld,fun l2 H2 g2 fl2 hl2=>?_⟩
 refine⟨l2,_,rfl,.inl (zO.of hl2),?_⟩
 rw[lo5]
 refine⟨N,os.length,f,l1,yg os,rfl,o8,tf,zO.of (g2 _ _ hl1),YC,by omega,fun l H' g3 fl hl=>?_⟩
 exact q l H' (g1.trans (g2.trans g3)) (g1.free (g2.free fl)) hl
theorem zoq (T:Txt P w K mg a)(zdJ:zB P w K mg base zX k a.Ti a.Tj XD (Rx K))(vZ:zB P w K mg base zX k a.Zw a.Zx uT (Yp a.zy))(yq:zB P w K mg base zX k a.yV a.yW yL (xP (yD a.zy))):zB P w K mg base zX (k+1) a.zfE a.zfF zcH (zfn a.zy K):=by
 refine T.ziy.F.ok zoh (fun vs H Q E h=>?_) (fun cdv A outer s H vs Q E hr h=>?_)
 ·obtain⟨b,rl,os,rs,F,r,rfl,_⟩:=h
  rfl
 obtain⟨b,rl,os,rs,F,r,rfl,hB,hr',lr,q⟩:=h
 refine⟨_,(zu (zL (zp zdJ hr T.M7 (za (zp vZ hr T.ZF (za (pv 0) zc)) (za (pv 1) (za (zF zE rfl T.yO yp (za (u6 (pv 0) T.yF T.wg yq hr) zc)) zc)))))),?_⟩
 have L:=yX a.zy
 have o8:=(L.ord hB).le
 have lo5:(os.map V.str).length=os.length:=zx4 _
 have l4:(yg os).length<=8:=by unfold yg;rw[zx4];have:=wV os;omega
 have hB0:=hB
 obtain⟨dx,ml,rl',tl,nd,rv,ts,kvs,h⟩:=hB
 refine⟨_,rfl,b,os,rs,F,rfl,hB0,fun l1 H1 g1 fl1 hl1=>?_⟩
 have Ld:=L.same hB0 g1
 refine⟨_,rfl,_,rfl,b,dx,_,rfl,g1 _ _ h.hb,rfl,b,os,rs,F,rfl,Ld,fun l2 H2 g2 fl2 hl2=>?_⟩
 refine⟨l2,_,rfl,.inl (zO.of hl2),?_⟩
 rw[lo5]
 refine⟨l1,rl,os.length,yg os,r,rfl,o8,zO.of (g2 _ _ hl1),(g1.trans g2).seq hr',YC,lr,l4,fun R H' g3 tr=>?_⟩
 exact q R H' (g1.trans (g2.trans g3)) tr
theorem zc7 (T:Txt P w K mg a)(Nf:zB P w K mg base zX k a.V1 a.V2 YK (Lz a.zy))(zmN:zB P w K mg base zX k a.zcL a.zcM Jw (zck a.zy))(ziN:zB P w K mg base zX k a.zfE a.zfF zcH (zfn a.zy K)):zB P w K mg base zX (k+1) a.Tq a.Tr XH (Ry a.zy K):=by
 refine T.M9.F.ok VF (fun vs H Q E h=>?_) (fun cdv A outer s H vs Q E hr h=>?_)
 ·obtain⟨b,al,os,rs,F,k0,N,Ns,f,fs,rfl,_⟩:=h
  rfl
 obtain⟨b,al,os,rs,F,k0,N,Ns,f,fs,rfl,hB,hW,hk,hal,ln,pf,tf,q⟩:=h
 refine⟨_,(zf (zA 4 VF.nd (yE (za (zp Nf hr T.Ub (za (pv 0) (za (pv 3) zc))) zc)))
   (zf (wD PassesOwn.never rfl (zpJ rfl T.zcV (za (pv 2) zc)) (yr (i:=5) VF.nd rfl (Or.inl rfl)) (zu (yu (vd PySem.F.plainAttrs_list PySem.F.slot_list_append PySem.F.type_list_append wF (pv 4) (za (zp Nf hr T.Ub (za (pv 0) (za (zJ tV (pv 5) (zp zmN hr T.zg9 (za (pv 0) (za (pv 1) (za (zp ziN hr T.ziy (za (pv 0) (za (yc yw (pv 4) (zdX J7 zq) (fun _ _=>rfl)) zc))) zc))))) zc))) zc)))))
   (zu (zL (zic rfl rfl T.zcU rfl T.zcV (za (pv 4) zc)))))),?_⟩
 have L:=yX a.zy
 have lf:=yK pf
 refine⟨_,rfl,_,rfl,b,os,rs,F,N,f,rfl,hB,tf,fun l0 H1 g1 fl0 hl0=>⟨by show 1<=sizeLine;decide,fun rl hrl=>?_⟩⟩
 have j1:=Same.new hrl (.lst [V.ref l0])
 have e1:upd H1 rl (.lst [V.ref l0]) rl=some (.lst (([]++[l0]).map V.ref)):=zj
 have hl0':=j1 _ _ hl0
 have fr:=g1.free hrl
 have ne0:l0≠rl:=fun e=>by rw[e,hrl] at hl0;cases hl0
 generalize upd H1 rl (.lst [V.ref l0])=H2 at j1 e1 hl0'
 have g2:=g1.trans j1
 refine⟨_,rfl,al,yd Ns,rfl,g2.seq hal,?_⟩
 refine znZ (xs:=yd Ns) (fun i σ H'=>∃(q0:List Addr) (p:Addr) (w0:List (List Bool)) (r:List Bool) (f5:Option V),Same H H'/\H' rl=some (.lst ((q0++[p]).map V.ref))/\q0.length=i/\Paired (QT H') q0 w0/\QT H' p r/\(yg os).length=r.length/\(∀y∈q0++[p],H y=none)/\Mp os (tB rs k0) fs.reverse (xV.fvP os.length f (yg os))=w0++Mp os (tB rs k0) (fs.reverse.drop i) r/\σ=[some (.ref b),some (.int (k0:Nat)),some (.ref al),some (.int (N:Nat)),some (.ref rl),f5])
  ⟨[],l0,[],_,_,g2,e1,rfl,.nil,hl0',(Ji _ _ _).symm,(fun y hy=>by rw[List.nil_append,List.mem_singleton] at hy;rw[hy];exact fl0),rfl,rfl⟩ ?_ ?_ ?_
 ·rintro i σ H' _ ⟨q0,p,w0,r,f5,g,_⟩
  exact g.seq hal
 ·rintro i x σ H' hi hx ⟨q0,p,w0,r,f5,g,hr',lq,pq,pr,lr,fq,ew,rfl⟩
  rw[ZW] at hi hx
  obtain⟨M,hM,rfl⟩:=zfj hx
  obtain⟨fm,hfm,tm⟩:=ZK pf hM
  have hfr:fs.reverse[i]?=some fm:=by
   rw[List.getElem?_reverse (by omega),<-lf]
   exact hfm
  obtain⟨lt,efm⟩:=zx7.mp hfr
  have hB':=L.same hB g
  refine⟨_,rfl,.inl ⟨rfl,_,zO.of hr'⟩,?_⟩
  refine⟨_,rfl,_,rfl,_,rfl,_,rfl,_,rfl,_,rfl,_,rfl,rl,_,-1,_,rfl,rfl,zO.of hr',by rw[zyi];exact zbU _ _,?_⟩
  refine⟨b,p,os,rs,F,r,rfl,hB',zO.of pr,lr,fun R H3 g3 tR=>?_⟩
  have hB3:=L.same hB' g3
  refine⟨b,os,rs,F,k0,R,_,rfl,hB3,hk,hW,tR,fun R2 H4 g4 tR2=>⟨M,R2,rfl,rfl,?_⟩⟩
  have hB4:=L.same hB3 g4
  refine⟨b,os,rs,F,_,_,rfl,hB4,Jh tm tR2,fun l5 H5 g5 fl5 hl5=>?_⟩
  have G5:=g3.trans (g4.trans g5)
  have hr5:=G5 _ _ hr'
  have lq2:(q0++[p]).length=i+1:=by rw[zyc,lq];rfl
  refine⟨rl,_,_,rfl,rfl,hr5,by rw[zx4,lq2];exact zQ (by omega),?_⟩
  have gO:Same H (upd H5 rl (.lst ((q0++[p]).map V.ref++[V.ref l5]))):=(g.trans G5).over fr _
  have keep:∀{y:Addr} {c:List Bool},QT H' y c->y≠rl->QT (upd H5 rl (.lst ((q0++[p]).map V.ref++[V.ref l5]))) y c:=fun {y c} hy ny=>by
   unfold QT
   rw[zG ny]
   exact G5 _ _ hy
  have nrl:∀{y:Addr} {c:List Bool},QT H' y c->y≠rl:=fun {y c} hy e=>by
   unfold QT at hy
   rw[e,hr'] at hy
   injection hy with z
   injection z with z
   cases c with
   | nil=>rw[zyi] at z;cases hq:q0.map V.ref with
    | nil=>rw[hq] at z;cases z
    | cons _ _=>rw[hq] at z;cases z
   | cons v c =>
    cases q0 with
    | nil=>injection z with z1 z2;cases z1
    | cons _ _=>injection z with z1 z2;cases z1
  have n5:l5≠rl:=fun e=>by rw[e,(g3.trans g4) _ _ hr'] at fl5;cases fl5
  refine⟨q0++[p],l5,w0++[r],_,_,gO,by rw[zj,zyi (l₁:=q0++[p])];rfl,lq2,Yc (wG (fun _ _ e=>keep e (nrl e)) pq) (.cons (keep pr (nrl pr)) .nil),by unfold QT;rw[zG n5];exact hl5,(Ji _ _ _).symm,(fun y hy=>(List.mem_append.mp hy).elim (fq y) fun hy=>by rw[List.mem_singleton] at hy;rw[hy];exact(g.trans (g3.trans g4)).free fl5),?_,rfl⟩
  rw[ew,List.drop_eq_getElem_cons lt,efm,List.append_assoc]
  rfl
 ·rintro σ H' ⟨q0,p,w0,r,f5,g,hr',lq,pq,pr,lr,fq,ew,rfl⟩
  rw[ZW] at ew
  rw[List.drop_eq_nil_of_le (by rw[List.length_reverse];omega)] at ew
  refine⟨_,rfl,rl,_,rfl,zO.of hr',fun l hl=>?_⟩
  have gN:=Same.new hl (.lst ((q0++[p]).map V.ref).reverse)
  refine q l _ (q0++[p]).reverse (g.trans gN) (g.free hl) (by rw[zj,List.map_reverse]) ?_ (fun y hy=>fq y (List.mem_reverse.mp hy))
  rw[ew]
  exact zma (Yc (wG (fun _ _ e=>gN _ _ e) pq) (.cons (gN _ _ pr) .nil))
theorem zkQ (T:Txt P w K mg a)(yR:zB P w K mg base zX k a.wJ a.wK xQ (Vx a.zy K))(zc8:zB P w K mg base zX k a.VR a.V0 YJ (U7 a.zy))(yG:zB P w K mg base zX k a.xu a.xG yS (Zn a.zy))(zdK:zB P w K mg base zX k a.Tq a.Tr XH (Ry a.zy K)):zB P w K mg base zX (k+1) a.zcN a.zcO Jy (zfo a.zy):=by
 refine T.zha.F.ok N6 (fun vs H Q E h=>?_) (fun cdv A outer s H vs Q E hr h=>?_)
 ·obtain⟨b,os,rs,F,k0,i0,j0,rfl,_⟩:=h
  rfl
 obtain⟨b,os,rs,F,k0,i0,j0,rfl,hB,hW,hk,hI,hJ,q1,q2⟩:=h
 refine⟨_,(zf (yu (zp yR hr T.vY (za (pv 0) (za (pv 1) (za (yE (za (pv 2) (za (pv 3) zc))) zc)))))
   (zf (zA 4 N6.nd (yE zc))
   (zf (wD PassesOwn.never rfl (wC (zp zc8 hr T.PK (za (pv 0) (za (pv 1) (za (pv 2) zc))))) (yr (i:=5) N6.nd rfl (Or.inl rfl)) (zf (zA 6 N6.nd (zJ tV (pv 5) (vA (pv 0) T.yF T.wz yG hr (za (pv 3) zc))))
   (zf (yI (zP Mt (pv 6) zq (zU _)) (zu (zL (zp zdK hr T.M9 (za (pv 0) (za (pv 1) (za (pv 4) (za (pv 6) zc))))))) z8)
   (zu (yu (vd PySem.F.plainAttrs_list PySem.F.slot_list_append PySem.F.type_list_append wF (pv 4) (za (pv 5) zc)))))))
   (zu (zL zhy))))),?_⟩
 have L:=yX a.zy
 refine⟨_,rfl,_,rfl,_,rfl,_,rfl,by show 2<=sizeLine;decide,fun l0 hl0=>?_⟩
 have g0:=Same.new hl0 (.lst [.int (i0:Nat),.int (j0:Nat)])
 refine⟨b,l0,os,rs,F,k0,[i0,j0],rfl,L.same hB g0,hW,hk,zO.of zj,fun j' hj'=>?_,fun H1 g1=>?_⟩
 ·simp only[List.mem_cons,zyv,or_false] at hj'
  rcases hj' with e | e<;>subst e
  ·exact hI
  ·exact hJ
 have G1:=g0.trans g1
 generalize upd H l0 (.lst [.int (i0:Nat),.int (j0:Nat)])=Hx at g0 g1
 refine⟨by show 0<=sizeLine;decide,fun al hal=>?_⟩
 have g2:=Same.new hal (.lst [])
 have e2:upd H1 al (.lst []) al=some (.lst (yd [])):=zj
 have fal:=G1.free hal
 generalize upd H1 al (.lst [])=H2 at g2 e2
 have G2:=G1.trans g2
 refine⟨_,rfl,_,rfl,_,rfl,b,os,rs,F,k0,i0,rfl,L.same hB G2,hW,hk,hI.1,fun l H3 Ns g3 fl hl rn ln=>?_⟩
 have G3:=G2.trans g3
 have nl:l≠al:=fun e=>by rw[e,e2] at fl;cases fl
 have fll:=G2.free fl
 refine⟨l,rfl,⟨_,zO.of hl⟩,?_⟩
 refine uw (xs:=yd Ns) (fun i σ H'=>∃(f5 f6:Option V),Same H H'/\H' l=some (.lst (yd Ns))/\H' al=some (.lst (yd (Ns.take i)))/\(∀m,m<i->∀c,c<2^os.length->(ZV os (tB rs k0) (tB rs i0) m).1 c=true->tB rs j0 c=false)/\σ=[some (.ref b),some (.int (k0:Nat)),some (.int (i0:Nat)),some (.int (j0:Nat)),some (.ref al),f5,f6])
  ⟨_,_,G3,hl,g3 _ _ e2,(fun m hm=>absurd hm (Nat.not_lt_zero _)),rfl⟩ ?_ ?_ ?_
 ·rintro i σ H' _ ⟨f5,f6,g,h1,_⟩
  exact zO.of h1
 ·rintro i x σ H' hx ⟨f5,f6,g,h1,h2,no,rfl⟩
  obtain⟨N,hN,rfl⟩:=zfj hx
  have hi:=(zx7.mp hN).1
  obtain⟨tN,_⟩:=rn.tab i N hN
  have hB':=L.same hB g
  obtain⟨dx,ml,rl,tl,nd,rv,ts,kvs,h⟩:=id hB'
  refine⟨_,rfl,_,rfl,b,dx,_,rfl,h.hb,rfl,_,rfl,b,os,rs,F,j0,rfl,hB',hJ.1,fun M tM=>⟨N,M,rfl,rfl,?_⟩⟩
  have tNM:=Jh tN tM
  refine⟨_,rfl,rfl,_,rfl,?_⟩
  by_cases c0:N&&&M=0
  ·refine zh4 (show V.int ((N&&&M:Nat):Int)=V.int 0 by rw[c0];rfl) ?_
   refine⟨_,rfl,.inl ⟨rfl,_,zO.of h2⟩,_,rfl,al,_,_,rfl,rfl,h2,by rw[ZW,zys];exact zQ (by omega),?_⟩
   refine⟨_,_,g.over fal _,by rw[zG nl];exact h1,?_,fun m hm c hc e=>?_,rfl⟩
   ·rw[zj,xg hN]
    unfold yd
    rw[zyi]
    rfl
   ·rcases (by omega:m<i\/m=i) with z | z
    ·exact no m z c hc e
    ·subst z
     have y:=tNM c
     rw[c0,Nat.zero_testBit,decide_eq_true hc,Bool.true_and] at y
     have y2:((ZV os (tB rs k0) (tB rs i0) m).1 c&&tB rs j0 c)=false:=y.symm
     rw[e,Bool.true_and] at y2
     exact y2
  ·show if (!decide (V.int ((N&&&M:Nat):Int)=V.int 0))=true then _ else _
   rw[decide_eq_false (fun e=>c0 (by injection e;omega))]
   refine TX ?_
   have pf:Paired (zV os.length) (Ns.take i) ((List.range i).map fun d=>(ZV os (tB rs k0) (tB rs i0) d).1):=by
    refine Lw (by rw[zys,zx4,zym];omega) fun j x y hx hy=>?_
    rw[List.getElem?_take] at hx
    split at hx
    ·rename_i lt
     rw[zx6,List.getElem?_range lt] at hy
     cases hy
     exact(rn.tab j x hx).1
    ·cases hx
   refine⟨_,rfl,_,rfl,_,rfl,_,rfl,b,al,os,rs,F,k0,N&&&M,Ns.take i,_,_,rfl,hB',hW,hk,zO.of h2,by rw[zys];omega,pf,tNM,fun l5 H5 qs g5 fl5 hl5 hp5 fq5=>?_⟩
   refine q2 l5 H5 qs Ns i (g.trans g5) (g.free fl5) hl5 rn hi ⟨?_,fun j hj c hc e=>no j hj c hc e⟩ hp5 fun y hy=>g.free (fq5 y hy)
   refine Classical.byContradiction fun nx=>c0 (NT fun c=>?_)
   rw[tNM c,Nat.zero_testBit]
   by_cases hc:c<2^os.length
   ·rw[decide_eq_true hc,Bool.true_and]
    dsimp only
    cases e:((ZV os (tB rs k0) (tB rs i0) i).1 c&&xV.yes rs j0 (xV.Rv c)) with
    | false=>rfl
    | true=>exact absurd ⟨c,hc,((zyw _ _).mp e).1,((zyw _ _).mp e).2⟩ nx
   ·rw[decide_eq_false hc,Bool.false_and]
 ·rintro σ H' ⟨f5,f6,g,h1,h2,no,rfl⟩
  rw[ZW] at no
  exact q1 H' Ns g rn no
theorem zfY (T:Txt P w K mg a)(ex:Addr):zeC P w K mg base ex (k+1) a.X5 a.X6 Z1 (Jo K a.wk [a.vq,a.uJ,a.uK,a.wO,a.wQ,a.wu,a.wR,a.vQ,a.Zi] ex):=by
 refine T.X8.F.okH YW (fun vs H Q E h=>?_) (fun cdv A outer s H vs Q E hr hh h=>?_)
 ·obtain⟨D,n,rfl,_⟩:=h
  rfl
 obtain⟨D,n,rfl,he,xc,hn9,hcs,q⟩:=h
 refine⟨_,(zf (Wt (i:=1) YW.nd rfl (Or.inr rfl) (yE (za (zF (u9 (K:=K) rfl) rfl T.yN yH (za (pv 0) (za (wZ (v:=.ref a.vq) rfl T.zkH rfl) zc))) (za (zF (u9 (K:=K) rfl) rfl T.yN yH (za (pv 0) (za (wZ (v:=.ref a.uJ) rfl T.zmA rfl) zc))) (za (zF (u9 (K:=K) rfl) rfl T.yN yH (za (pv 0) (za (wZ (v:=.ref a.uK) rfl T.zmB rfl) zc))) (za (zF (u9 (K:=K) rfl) rfl T.yN yH (za (pv 0) (za (wZ (v:=.ref a.wO) rfl T.zjU rfl) zc))) zc))))))
   (zf (Wt (i:=1) YW.nd rfl (Or.inr rfl) (zJ XC (pv 1) (yE (za (zF (u9 (K:=K) rfl) rfl T.yN yH (za (pv 0) (za (wZ (v:=.ref a.wQ) rfl T.ziv rfl) zc))) (za (zF (u9 (K:=K) rfl) rfl T.yN yH (za (pv 0) (za (wZ (v:=.ref a.wu) rfl T.zg7 rfl) zc))) (za (zF (u9 (K:=K) rfl) rfl T.yN yH (za (pv 0) (za (wZ (v:=.ref a.wR) rfl T.ziw rfl) zc))) (za (zF (u9 (K:=K) rfl) rfl T.yN yH (za (pv 0) (za (wZ (v:=.ref a.vQ) rfl T.zkI rfl) zc))) zc)))))))
   (zf (yu (vd PySem.F.plainAttrs_list PySem.F.slot_list_append PySem.F.type_list_append wF (pv 1) (za (zF (u9 (K:=K) rfl) rfl T.yN yH (za (pv 0) (za (wZ (v:=.ref a.Zi) rfl T.zix rfl) zc))) zc)))
   (zf (Wt (i:=2) YW.nd rfl (Or.inr rfl) (zje (xs:=["order", "mark", "room", "row", "number", "weights", "shares", "cover", "great"]) (by rfl)))
   (zu (zL (xM (za zZ (za (zja (rd:=zjO ex) (ZP:=zx Tg) (js:=[2,1,0]) rfl (by show WR _ _ "k" ["terms", "kinds", "e"];exact lco (by decide +kernel)) (fun _ _ _ _ _ _ _=>hh) (zil rfl T.tY (za zq zc)) (by show ∀j∈([2,1,0]:List Nat),j<3;decide) (fun cl C s₂ H₂ fp pins s' σ' H' Q I h=>zlY I h (PW.pt (zeK (zed (K:=K) rfl (yc (Wf (K:=K) rfl) (pv 2) (pv 0) (fun _ _=>rfl)) (fun _=>rfl)) (zbq (zed (K:=K) rfl (zF (u9 (K:=K) rfl) rfl T.yN yH (za (pv 3) (za (Kw (v:=.ty "ValueError") rfl T.zfL zdq rfl) zc))) (fun _=>rfl)))))) (fun cl C s₂ H₂ fp=>(yc (Wf (K:=K) rfl) (pv 1) (pv 0) (fun _ _=>rfl)))) zc))))))))),?_⟩
 have nb:=T.xd
 simp only[List.nodup_cons,List.mem_cons,zyv,or_false,not_or] at nb
 have nb:=nb.1
 have cl:=xc.ztL
 have s1:∀{H':Hp},Same H H'->H' ex=some (zdo ex D):=fun g=>g _ _ he
 have ne:∀C,C∈[a.vq,a.uJ,a.uK,a.wO,a.wQ,a.wu,a.wR,a.vQ,a.Zi]->a.wk≠C:=by
  intro C hC
  simp only[List.mem_cons,zyv,or_false] at hC
  rcases hC with rfl | rfl | rfl | rfl | rfl | rfl | rfl | rfl | rfl<;>simp[nb]
 refine⟨_,rfl,ex,D,_,_,rfl,he,cl,rfl,RB xc T.ziz (ne _ (by simp)),_,rfl,ex,D,_,_,rfl,he,cl,rfl,RB xc T.zkJ (ne _ (by simp)),_,rfl,ex,D,_,_,rfl,he,cl,rfl,RB xc T.zkK (ne _ (by simp)),_,rfl,ex,D,_,_,rfl,he,cl,rfl,RB xc T.zmC (ne _ (by simp)),by show 4<=sizeLine;decide,fun l1 h1=>?_⟩
 have g1:=Same.new h1 (.lst [.bl (decide (D=a.vq)),.bl (decide (D=a.uJ)),.bl (decide (D=a.uK)),.bl (decide (D=a.wO))])
 have e1:=s1 g1
 have f1:upd H l1 (.lst [.bl (decide (D=a.vq)),.bl (decide (D=a.uJ)),.bl (decide (D=a.uK)),.bl (decide (D=a.wO))]) l1=some _:=zj
 generalize upd H l1 _=H1 at g1 e1 f1
 refine⟨_,rfl,_,rfl,ex,D,_,_,rfl,e1,cl,rfl,RB xc T.zhb (ne _ (by simp)),_,rfl,ex,D,_,_,rfl,e1,cl,rfl,RB xc T.zfK (ne _ (by simp)),_,rfl,ex,D,_,_,rfl,e1,cl,rfl,RB xc T.zhc (ne _ (by simp)),_,rfl,ex,D,_,_,rfl,e1,cl,rfl,RB xc T.ziA (ne _ (by simp)),by show 4<=sizeLine;decide,fun l2 h2=>?_⟩
 have g2:=Same.new h2 (.lst [.bl (decide (D=a.wQ)),.bl (decide (D=a.wu)),.bl (decide (D=a.wR)),.bl (decide (D=a.vQ))])
 have f2:upd H1 l2 (.lst [.bl (decide (D=a.wQ)),.bl (decide (D=a.wu)),.bl (decide (D=a.wR)),.bl (decide (D=a.vQ))]) l2=some _:=zj
 generalize upd H1 l2 _=H2 at g2 f2
 refine⟨l1,l2,_,_,rfl,rfl,zO.of (g2 _ _ f1),zO.of f2,by show 8<=sizeLine;decide,fun l3 h3=>?_⟩
 have n3:H l3=none:=(g1.trans g2).free h3
 have g3:=Same.new h3 (.lst ([.bl (decide (D=a.vq)),.bl (decide (D=a.uJ)),.bl (decide (D=a.uK)),.bl (decide (D=a.wO))]++[.bl (decide (D=a.wQ)),.bl (decide (D=a.wu)),.bl (decide (D=a.wR)),.bl (decide (D=a.vQ))]))
 have f3:upd H2 l3 (.lst ([.bl (decide (D=a.vq)),.bl (decide (D=a.uJ)),.bl (decide (D=a.uK)),.bl (decide (D=a.wO))]++[.bl (decide (D=a.wQ)),.bl (decide (D=a.wu)),.bl (decide (D=a.wR)),.bl (decide (D=a.vQ))])) l3=some _:=zj
 generalize upd H2 l3 _=H3 at g3 f3
 have g03:=(g1.trans g2).trans g3
 refine⟨_,rfl,.inl ⟨rfl,_,zO.of f3⟩,_,rfl,ex,D,_,_,rfl,s1 g03,cl,rfl,RB xc T.zhd (ne _ (by simp)),l3,_,_,rfl,rfl,f3,by show 8<sizeLine;decide,?_⟩
 refine⟨by show 9<=sizeLine;decide,fun l4 h4=>?_⟩
 have ev:([.bl (decide (D=a.vq)),.bl (decide (D=a.uJ)),.bl (decide (D=a.uK)),.bl (decide (D=a.wO))]++[.bl (decide (D=a.wQ)),.bl (decide (D=a.wu)),.bl (decide (D=a.wR)),.bl (decide (D=a.vQ))]++[V.bl (decide (D=a.Zi))]:List V)=((List.range 9).map (fun i=>decide (i=n))).map V.bl:=by
  rw[<-hcs];rfl
 rw[ev] at h4 ⊢
 have g4:Same H (upd H3 l3 (.lst (((List.range 9).map (fun i=>decide (i=n))).map V.bl))):=g03.over n3 _
 have f4:upd H3 l3 (.lst (((List.range 9).map (fun i=>decide (i=n))).map V.bl)) l3=some _:=zj
 generalize upd H3 l3 _=H4 at h4 g4 f4 ⊢
 have g5:=g4.trans (Same.new h4 (.lst (U8.map V.str)))
 have f5:upd H4 l4 (.lst (U8.map V.str)) l4=some _:=zj
 have f4':=(Same.new h4 (.lst (U8.map V.str))) _ _ f4
 refine⟨9,rfl,by decide,by decide,?_⟩
 have key:∀i:Nat,i<9->(((List.range 9).map (fun i=>decide (i=n))).map V.bl)[i]?=some (.bl (decide (i=n))):=fun i hi=>by
  rw[zx6,zx6,List.getElem?_range hi]
  rfl
 have kt:∀i:Nat,i<9->(U8.map V.str)[i]?=some (.str (U8.getD i "")):=fun i hi=>by
  have:i<U8.length:=hi
  rw[zx6,zyh,zx5 this]
  rfl
 refine zoe (n:=9) (fun i ys H'=>Same (upd H4 l4 (.lst (U8.map V.str))) H'/\ys=if n<i then [.str (U8.getD n "")] else []) ⟨Same.refl _,by rw[if_neg (Nat.not_lt_zero _)]⟩ (by decide) ?_ ?_ ?_ ?_
 ·rintro i ys H' _ ⟨_,rfl⟩
  split
  ·show 1<=i
   omega
  ·exact zyr _
 ·rintro ys H' ⟨g,_⟩
  exact⟨D,s1 (g5.trans g)⟩
 ·rintro i ys H' N1 N2 hi ⟨g,rfl⟩ h1 h2
  have ei:(0:Int)+(i:Int)=(i:Int):=by omega
  refine⟨_,rfl,_,rfl,l3,_,_,.bl (decide (i=n)),rfl,rfl,zO.of (g _ _ f4'),by rw[ei];exact yQ (key i hi),_,rfl,?_⟩
  by_cases z:i=n
  ·subst z
   rw[decide_eq_true rfl]
   refine TX ⟨_,rfl,ex,D,_,_,rfl,s1 (g5.trans g),cl,rfl,zp0 xc,_,rfl,TX ?_⟩
   refine⟨_,rfl,_,rfl,l4,_,_,_,rfl,rfl,zO.of (g _ _ f5),by rw[ei];exact yQ (kt i hi),h1 _ _ ⟨g,?_⟩⟩
   rw[if_neg (Nat.lt_irrefl _),if_pos (Nat.lt_succ_self _)]
   rfl
  ·rw[decide_eq_false z]
   refine U3 (U3 (h2 _ ⟨g,?_⟩))
   by_cases y:n<i
   ·rw[if_pos y,if_pos (by omega)]
   ·rw[if_neg y,if_neg (by omega)]
 ·rintro ys H' p ⟨g,rfl⟩ hp
  rw[if_pos hn9]
  refine⟨by show 2<=sizeLine;decide,fun t ht=>?_⟩
  have g7:=Same.new hp (.lst [.str (U8.getD n "")])
  have g8:=Same.new ht (.tup [.str "refused", .ref p])
  exact q t p _ (((g5.trans g).trans g7).trans g8) zj (g8 _ _ zj)
theorem zdL (T:Txt P w K mg a)(yR:zB P w K mg base zX k a.wJ a.wK xQ (Vx a.zy K))(Zk:zB P w K mg base zX k a.Wm a.Wn Yr (Vv a.zy))(TF:zB P w K mg base zX k a.tH a.tK v9 (Nu K))(ziN:zB P w K mg base zX k a.zfE a.zfF zcH (zfn a.zy K))(yG:zB P w K mg base zX k a.xu a.xG yS (Zn a.zy))(zfV:zB P w K mg base zX k a.zbG a.zbH Jv (zbz a.zy)) :
  zB P w K mg base zX (k+1) a.Wo a.Wq Ys (QW a.zy K):=by
 refine T.Wr.F.ok YL (fun vs H Q E h=>?_) (fun cdv A outer s H vs Q E hr h=>?_)
 ·obtain⟨b,rl,os,rs,F,k0,i0,j0,ps,rr,rfl,_⟩:=h
  rfl
 obtain⟨b,rl,os,rs,F,k0,i0,j0,ps,rr,rfl,hB,hW,hk,hI,hJ,hrl,hp,hlen,ziO,q⟩:=h
 refine⟨_,(zf (yu (zp yR hr T.vY (za (pv 0) (za (pv 1) (za (yE (za (pv 2) (za (pv 3) zc))) zc)))))
   (zf (wD PassesOwn.never rfl (wC (pv 4)) (yr (i:=5) YL.nd rfl (Or.inl rfl)) (zu (yu (zp TF hr T.X7 (za (zp Zk hr T.UL (za (pv 0) zc)) (za (pv 5) zc))))))
   (zf (yI (zP xW (zF zE rfl T.yO yp (za (pv 4) zc)) zq (zU _)) (zu (zL Kv)) z8)
   (zf (Wt (i:=6) YL.nd rfl (Or.inr rfl) (Ww (ZP:=zx Uw) (js:=[0]) rfl (by show WR _ _ "row" ["book"];exact lco (by decide +kernel)) rfl (wC (pv 4)) (by show ∀j∈([0]:List Nat),j<7;decide) (fun cl C s₂ H₂ fp=>(zp ziN hr T.ziy (za (pv 1) (za (pv 0) zc))))))
   (zf (yI (PW.pt (Ky (zP xW (zJ tV (yc yw (pv 6) zq (fun _ _=>rfl)) (vA (pv 0) T.yF T.wz yG hr (za (pv 2) zc))) zq (zU _)) (Le (zP xW (zJ tV (yc yw (pv 6) (zdX J7 zq) (fun _ _=>rfl)) (vA (pv 0) T.yF T.wz yG hr (za (pv 3) zc))) zq (zU _))))) (zu (zL Kv)) z8)
   (zu (zL (zF (Vs rfl) rfl T.zcT Lj (za (Ww (ZP:=zx Uw) (js:=[0,1,6]) rfl (by show WR _ _ "at" ["book", "steps", "tables"];exact lco (by decide +kernel)) rfl (ur rfl T.tY (za (zJ UW (zF zE rfl T.yO yp (za (pv 6) zc)) zq) zc)) (by show ∀j∈([0,1,6]:List Nat),j<7;decide) (fun cl C s₂ H₂ fp=>(vU Mt (zJ tV (zp zfV hr T.zfI (za (pv 1) (za (pv 2) (za (yc (Wf (K:=K) rfl) (pv 3) (pv 0) (fun _ _=>rfl)) zc)))) (yc (Wf (K:=K) rfl) (pv 3) (zJ xU (pv 0) zq) (fun _ _=>rfl))) zq (zU _)))) zc))))))))),?_⟩
 have L:=yX a.zy
 have ho:=L.ord hB
 have n4:=wV os
 have pl:=yK hp
 refine⟨_,rfl,_,rfl,_,rfl,_,rfl,by show 2<=sizeLine;decide,fun l0 hl0=>?_⟩
 have g0:=Same.new hl0 (.lst [.int (i0:Nat),.int (j0:Nat)])
 refine⟨b,l0,os,rs,F,k0,[i0,j0],rfl,L.same hB g0,hW,hk,zO.of zj,fun j' hj'=>?_,fun H1 g1=>?_⟩
 ·simp only[List.mem_cons,zyv,or_false] at hj'
  rcases hj' with e | e<;>subst e
  ·exact hI
  ·exact hJ
 have G1:=g0.trans g1
 generalize upd H l0 (.lst [.int (i0:Nat),.int (j0:Nat)])=Hx at g0 g1
 have zqc:=G1 _ _ hrl
 refine⟨_,rfl,rl,rfl,⟨_,zO.of zqc⟩,?_⟩
 refine uw (xs:=ps.map V.ref) (fun i σ H'=>Same H H'/\∃f5:Option V,σ=[some (.ref b),some (.int (k0:Nat)),some (.int (i0:Nat)),some (.int (j0:Nat)),some (.ref rl),f5,none]) ⟨G1,_,rfl⟩ (fun i σ H' _ ⟨g,_⟩=>zO.of (g _ _ hrl)) ?_ ?_
 ·rintro i x σ H' hx ⟨g,f5,rfl⟩
  rw[zx6] at hx
  cases hpp:ps[i]? with
  | none=>rw[hpp] at hx;cases hx
  | some p =>
   rw[hpp] at hx
   cases hx
   obtain⟨r,hr',hpr⟩:=ZK hp hpp
   have rl':=hlen r (zx9 hr')
   refine⟨_,rfl,b,os,rs,F,rfl,L.same hB g,fun nl H2 g2 _ hnl=>⟨_,rfl,nl,p,_,r.map (fun b=>((b.toNat:Nat):Int)),rfl,zO.of hnl,by rw[<-zee];exact zO.of ((g.trans g2) _ _ hpr),by rw[zx4];omega,by rw[zx4];exact zb6 r rl',fun H3 g3=>?_⟩⟩
   exact⟨g.trans (g2.trans g3),_,rfl⟩
 rintro σ H' ⟨g,f5,rfl⟩
 unfold wsB at q
 have lpm:(ps.map V.ref).length=rr.length:=by rw[zx4];exact pl
 have hrl':=g _ _ hrl
 refine⟨_,rfl,rl,_,rfl,.inl (zO.of hrl'),rfl,_,rfl,?_⟩
 rw[lpm]
 by_cases rz:rr.length=0
 ·rw[decide_eq_true rz] at q
  refine ifA (decide_eq_true (by rw[rz];rfl)) (q _ g)
 have rp:0<rr.length:=Nat.pos_of_ne_zero rz
 rw[decide_eq_false rz,Bool.not_false,Bool.true_and] at q
 have gD:∀{x:Nat},x<rr.length->rr[x]?=some (rr.getD x []):=fun {x} h=>by rw[zyh,zx5 h];rfl
 have hr0:=gD (x:=0) rp
 have hr1:=gD (x:=rr.length-1) (by omega)
 refine ifB (decide_eq_false fun e=>by injection e;omega) ?_
 refine⟨_,rfl,rl,rfl,⟨_,zO.of hrl'⟩,?_⟩
 refine zct (xs:=ps.map V.ref) (fun i ys H2=>Same H H2/\∃Ns:List Nat,ys=yd Ns/\Paired (fun N r=>zV os.length N (hv os r)) Ns (rr.take i)) ⟨g,[],rfl,.nil⟩ (by rw[lpm];exact zyn (zQ (by omega))) ?_ ?_ ?_
 ·rintro i ys H2 hi ⟨g2,Ns,rfl,pN⟩
  have:=yK pN
  rw[zys] at this
  exact⟨zO.of (g2 _ _ hrl),by unfold yd;rw[zx4];omega⟩
 ·rintro i x ys H2 Q0 hx ⟨g2,Ns,rfl,pN⟩ hQ
  rw[zx6] at hx
  cases hpp:ps[i]? with
  | none=>rw[hpp] at hx;cases hx
  | some p =>
   rw[hpp] at hx
   cases hx
   obtain⟨r,hr',hpr⟩:=ZK hp hpp
   have rl':=hlen r (zx9 hr')
   refine⟨_,rfl,_,rfl,b,p,os,rs,F,r,rfl,L.same hB g2,zO.of (g2 _ _ hpr),by unfold yg;rw[zx4];exact rl'.symm,fun R H3 g3 tR=>hQ _ _ ⟨g2.trans g3,Ns++[R],by unfold yd;rw[zyi];rfl,?_⟩⟩
   rw[xg hr']
   exact Yc pN (.cons tR .nil)
 ·rintro ys H2 tl ⟨g2,Ns,rfl,pN⟩ htl
  rw[lpm,zyx] at pN
  have g3:=Same.new htl (.lst (yd Ns))
  have e3:upd H2 tl (.lst (yd Ns)) tl=some (.lst (yd Ns)):=zj
  have g23:=g2.trans g3
  generalize upd H2 tl (.lst (yd Ns))=H3 at g3 e3 g23
  have nl:=yK pN
  have tab:∀{x:Nat} {r:List Bool},rr[x]?=some r->∃N,Ns[x]?=some N/\zV os.length N (hv os r):=fun {x r} h=>zaR (R:=fun N r=>zV os.length N (hv os r)) pN h
  obtain⟨N0,hN0,t0⟩:=tab hr0
  obtain⟨N1,hN1,t1⟩:=tab hr1
  have hB3:=L.same hB g23
  obtain⟨dx,ml,rl',tl',nd,rv,ts,kvs,h⟩:=id hB3
  refine⟨_,rfl,tl,_,_,_,rfl,rfl,zO.of e3,yQ (Rz hN0),?_⟩
  refine⟨_,rfl,b,dx,_,rfl,h.hb,rfl,_,rfl,b,os,rs,F,i0,rfl,hB3,hI.1,fun M0 tM0=>⟨N0,M0,rfl,rfl,rfl,_,rfl,?_⟩⟩
  rw[zfw t0 tM0]
  cases c0:U9 os.length (hv os (rr.getD 0 [])) (tB rs i0) with
  | false =>
   rw[c0] at q
   refine ifA (by show(!U9 os.length (hv os (rr.getD 0 [])) (tB rs i0))=true;rw[c0];rfl) ?_
   first | exact q _ g23 | exact TX (q _ g23)
  | true =>
  rw[c0,Bool.true_and] at q
  refine ifB (by show(!U9 os.length (hv os (rr.getD 0 [])) (tB rs i0))=false;rw[c0];rfl) ?_
  have en:yd Ns=yd (Ns.take (rr.length-1))++[V.int (N1:Nat)]:=by
   have e:Ns=Ns.take (rr.length-1)++[N1]:=by
    have z:=xg hN1
    rw[show rr.length-1+1=Ns.length by omega,zyx] at z
    exact z
   have e2:yd (Ns.take (rr.length-1)++[N1])=yd (Ns.take (rr.length-1))++[V.int (N1:Nat)]:=by unfold yd;rw[zyi];rfl
   rw[<-e2,<-e]
  have at':atI (yd Ns) (-1)=some (.int (N1:Nat)):=by rw[en];exact zbU _ _
  refine⟨_,rfl,(1:Int),rfl,tl,_,_,_,rfl,rfl,zO.of e3,at',_,rfl,b,dx,_,rfl,h.hb,rfl,_,rfl,b,os,rs,F,j0,rfl,hB3,hJ.1,fun M1 tM1=>⟨N1,M1,rfl,rfl,rfl,_,rfl,?_⟩⟩
  rw[zfw t1 tM1]
  cases c1:U9 os.length (hv os (rr.getD (rr.length-1) [])) (tB rs j0) with
  | false =>
   rw[c1] at q
   refine ifA (by show(!U9 os.length (hv os (rr.getD (rr.length-1) [])) (tB rs j0))=true;rw[c1];rfl) ?_
   first | exact q _ g23 | exact TX (q _ g23)
  | true =>
  rw[c1,Bool.true_and] at q
  refine ifB (by show(!U9 os.length (hv os (rr.getD (rr.length-1) [])) (tB rs j0))=false;rw[c1];rfl) ?_
  have lN:(yd Ns).length=rr.length:=by unfold yd;rw[zx4];exact nl
  refine⟨_,rfl,tl,_,rfl,.inl (zO.of e3),_,_,rfl,rfl,_,rfl,by omega,by omega,?_⟩
  rw[show((((yd Ns).length:Nat):Int)-1).toNat=rr.length-1 by omega]
  refine zjK (n:=rr.length-1) (fun x=>.bl (U9 os.length (W0 os (tB rs k0) (hv os (rr.getD x []))) (hv os (rr.getD (x+1) [])))) (zyn (zQ (by omega))) (fun x H4 Q0 hx g4 hQ=>?_) (fun H4 l g4 hl=>?_)
  ·have e2:(0:Int)+(x:Nat)=((x:Nat):Int):=by omega
   obtain⟨N,hN,tN⟩:=tab (gD (x:=x) (by omega))
   obtain⟨M,hM,tM⟩:=tab (gD (x:=x+1) (by omega))
   have e4:(0:Int)+(x:Nat)+1=((x+1:Nat):Int):=by omega
   refine⟨_,rfl,_,rfl,_,rfl,_,rfl,tl,_,_,_,rfl,congrArg V.int e2,zO.of (g4 _ _ e3),yQ (Rz hN),b,os,rs,F,k0,N,hv os (rr.getD x []),rfl,L.same hB3 g4,hk,hW,tN,fun R H5 g5 tR=>?_⟩
   refine⟨_,rfl,_,rfl,_,_,rfl,rfl,tl,_,_,_,rfl,congrArg V.int e4,zO.of ((g4.trans g5) _ _ e3),yQ (Rz hM),R,M,rfl,rfl,rfl,?_⟩
   have z:=hQ _ g5
   have eb:V.bl (!decide (V.int ((R&&&M:Nat):Int)=V.int 0))=V.bl (U9 os.length (W0 os (tB rs k0) (hv os (rr.getD x []))) (hv os (rr.getD (x+1) []))):=by rw[zfw tR tM,Bool.not_not];rfl
   rw[<-eb] at z
   exact z
  ·have em:(List.range (rr.length-1)).map (fun x=>V.bl (U9 os.length (W0 os (tB rs k0) (hv os (rr.getD x []))) (hv os (rr.getD (x+1) []))))=((List.range (rr.length-1)).map fun x=>U9 os.length (W0 os (tB rs k0) (hv os (rr.getD x []))) (hv os (rr.getD (x+1) []))).map V.bl:=by rw[zyG];rfl
   rw[em]
   have g5:=Same.new hl (.lst (((List.range (rr.length-1)).map fun x=>U9 os.length (W0 os (tB rs k0) (hv os (rr.getD x []))) (hv os (rr.getD (x+1) []))).map V.bl))
   refine⟨l,_,rfl,zO.of zj,?_⟩
   rw[List.all_map]
   exact q _ (g23.trans (g4.trans g5))
theorem zdM (T:Txt P w K mg a)(yR:zB P w K mg base zX k a.wJ a.wK xQ (Vx a.zy K))(Zk:zB P w K mg base zX k a.Wm a.Wn Yr (Vv a.zy))(TF:zB P w K mg base (CXE P w) k a.tH a.tK v9 (zmv a.wO K)) :
  zB P w K mg base (CXE P w) (k+1) a.Wo a.Wq Ys (zat a.zy a.wO):=by
 refine T.Wr.F.okE YL (fun vs H Q E h=>?_) (fun cdv A outer s H vs Q E hr h=>?_)
 ·obtain⟨b,rl,os,rs,F,k0,i0,j0,ps,rows,x,bad,rfl,_⟩:=h
  rfl
 obtain⟨b,rl,os,rs,F,k0,i0,j0,ps,rows,x,bad,rfl,hB,hW,hk,hI,hJ,hrl,hp,hlen,hx,hbad,pre,q⟩:=h
 have yR:=yR.lift (CX:=CXE P w)
 have Zk:=Zk.lift (CX:=CXE P w)
 refine⟨_,(zf (yu (Nx zjC yR hr T.vY (za (pv 0) (za (pv 1) (za (yE (za (pv 2) (za (pv 3) zc))) zc)))))
   (zf (wD PassesOwn.leaving rfl (wC (pv 4)) (yr (i:=5) YL.nd rfl (Or.inl rfl)) (zu (yu (Nx zjC TF hr T.X7 (za (Nx zjC Zk hr T.UL (za (pv 0) zc)) (za (pv 5) zc))))))
   zj4)),?_⟩
 have L:=yX a.zy
 have ho:=L.ord hB
 refine⟨_,rfl,_,rfl,_,rfl,_,rfl,by show 2<=sizeLine;decide,fun l0 hl0=>?_⟩
 have g0:=Same.new hl0 (.lst [.int (i0:Nat),.int (j0:Nat)])
 refine⟨b,l0,os,rs,F,k0,[i0,j0],rfl,L.same hB g0,hW,hk,zO.of zj,fun j' hj'=>?_,fun H1 g1=>?_⟩
 ·simp only[List.mem_cons,zyv,or_false] at hj'
  rcases hj' with e | e<;>subst e
  ·exact hI
  ·exact hJ
 have G1:=g0.trans g1
 generalize upd H l0 (.lst [.int (i0:Nat),.int (j0:Nat)])=Hx at g0 g1
 have zqc:=G1 _ _ hrl
 have lx:x<rows.length:=(zx7.mp hx).1
 have lpr:=yK hp
 refine⟨_,rfl,rl,rfl,⟨_,zO.of zqc⟩,?_⟩
 refine uw (xs:=ps.map V.ref) (fun i σ H'=>i<=x/\Same H H'/\∃f5:Option V,σ=[some (.ref b),some (.int (k0:Nat)),some (.int (i0:Nat)),some (.int (j0:Nat)),some (.ref rl),f5,none]) ⟨zyr _,G1,_,rfl⟩ (fun i σ H' _ ⟨_,g,_⟩=>zO.of (g _ _ hrl)) ?_ ?_
 ·rintro i z σ H' hz ⟨hix,g,f5,rfl⟩
  rw[zx6] at hz
  cases hpp:ps[i]? with
  | none=>rw[hpp] at hz;cases hz
  | some p =>
   rw[hpp] at hz
   cases hz
   obtain⟨ns,hns,hpn⟩:=ZK hp hpp
   have ln:=hlen ns (zx9 hns)
   refine⟨_,rfl,b,os,rs,F,rfl,L.same hB g,fun nl H2 g2 _ hnl=>⟨_,rfl,?_⟩⟩
   have lmn:((z9 os).map V.str).length=(z9 os).length:=zx4 _
   by_cases e:i=x
   ·subst e
    obtain rfl:ns=bad:=by rw[hx] at hns;exact(zyz hns).symm
    exact .inr ⟨nl,p,_,ns,rfl,zO.of hnl,zO.of ((g.trans g2) _ _ hpn),ln,by rw[lmn];exact hbad,fun H3 g3=>q _ (g.trans (g2.trans g3))⟩
   ·exact .inl ⟨nl,p,_,ns,rfl,zO.of hnl,zO.of ((g.trans g2) _ _ hpn),ln,by rw[lmn];exact pre i ns (by omega) hns,fun H3 g3=>⟨by omega,g.trans (g2.trans g3),_,rfl⟩⟩
 ·rintro σ H' ⟨z,_⟩
  rw[zx4] at z
  omega
theorem zhq (T:Txt P w K mg a)(zM:zB P w K mg base zX k a.xY a.xZ xr Vt):zB P w K mg base zX (k+1) a.R4 a.R5 W8 zfx:=by
 refine T.JN.F.ok vg (fun vs H Q E h=>?_) (fun cdv A outer s H vs Q E hr h=>?_)
 ·obtain⟨c,gl,pl,rl,os,t,p,H0,ls,qs,rfl,_⟩:=h
  rfl
 obtain⟨c,gl,pl,rl,os,t,p,H0,ls,qs,rfl,hG,hp,hrl,pq,q⟩:=h
 have M16:=zmj (os:=os)
 have M1:0<nM os:=Nat.two_pow_pos _
 have lq:(qs.map V.ref).length=nM os:=by rw[zx4,yK pq,xV.wN];rfl
 have lc:=zn2 os p
 have lcn:(yd (chs os p)).length=(chs os p).length:=zx4 _
 have low:∀(r:Int),∃m:Nat,r%((qs.map V.ref).length:Int)=(m:Int)/\m<nM os:=fun r=>by
  have a1:=zyK r (show(0:Int)<(qs.map V.ref).length by rw[lq];omega)
  have a2:=zyO r (show((qs.map V.ref).length:Int)≠0 by rw[lq];omega)
  exact⟨_,(Int.toNat_of_nonneg a2).symm,by omega⟩
 refine zpA ?_
 refine zh1 (fun σ H'=>H'=H/\∃m:Nat,m<nM os/\σ=[some (.int c),some (.ref gl),some (.ref pl),some (.ref rl),some (.int (m:Nat)),none,none,none]) (fun t z=>(zf (zA 4 vg.nd (zJ vK (zp zM hr T.zR (za (pv 0) (za zq (za zq zc)))) (zF zE rfl T.yO yp (za (pv 3) zc))))
   (zf (yI (PW.pt (zeK (zP KC (zF zE rfl T.yO yp (za (pv 2) zc)) zq (zU _)) (zbq (zP KC (zp zM hr T.zR (za (pv 0) (za zq (za zq zc)))) zq (zU _))))) (zu (zA 4 vg.nd (yc yw (pv 2) (zJ vK (zp zM hr T.zR (za (pv 0) (za zq (za zq zc)))) (zF zE rfl T.yO yp (za (pv 2) zc))) (fun _ _=>rfl)))) z8)
   z))) ?_ ?_
 ·rintro u hu σ H9 ⟨rfl,rfl⟩
  refine⟨_,rfl,c,0,8,rfl,by decide,by decide,by decide,fun r r0 r1=>?_⟩
  refine⟨_,rfl,rl,_,rfl,.inl (zO.of hrl),_,_,rfl,rfl,by rw[lq];omega,?_⟩
  obtain⟨m0,e0,hm0⟩:=low r
  show WL 4 (V.int (r%((qs.map V.ref).length:Int))) _ _ _
  rw[e0]
  refine⟨_,rfl,pl,_,rfl,.inl (zO.of hp),_,_,rfl,rfl,_,rfl,yC (fun c1=>?_) (fun c1=>?_)⟩
  ·refine⟨_,rfl,c,1,4,rfl,by decide,by decide,by decide,fun v _ _=>⟨_,_,rfl,rfl,_,rfl,yC (fun c2=>?_) (fun c2=>?_)⟩⟩
   ·have lp:0<(chs os p).length:=by
     have:=of_decide_eq_true c1
     rw[lcn] at this
     omega
    refine⟨_,rfl,_,rfl,c,2,8,rfl,by decide,by decide,by decide,fun r2 _ _=>?_⟩
    obtain⟨m,hm,ep⟩:=zgN lp r2
    exact⟨_,rfl,pl,_,rfl,.inl (zO.of hp),_,_,rfl,rfl,by rw[lcn];omega,pl,_,_,_,rfl,rfl,zO.of hp,ep,hu _ _ ⟨rfl,m,(zbC.mp hm).1,rfl⟩⟩
   ·exact hu _ _ ⟨rfl,m0,hm0,rfl⟩
  ·exact hu _ _ ⟨rfl,m0,hm0,rfl⟩
 refine⟨_,(zf (zA 5 vg.nd (yE zc))
   (zf (wD PassesOwn.never rfl (ur rfl T.tY (za (zp zM hr T.zR (za (pv 0) (za zq (za zq zc)))) zc)) (yr (i:=6) vg.nd rfl (Or.inl rfl)) (zf (yu (vd PySem.F.plainAttrs_list PySem.F.slot_list_append PySem.F.type_list_append wF (pv 5) (za (Xd WQ rfl T.zcU KR (za (yc yw (pv 3) (pv 4) (fun _ _=>rfl)) zc)) zc)))
   (zf (zA 7 vg.nd (Qt (zP KC (zp zM hr T.zR (za (pv 0) (za (zJ xU zq (pv 6)) (za zq zc)))) zq (zU _)) (yc yw (pv 1) (pv 4) (fun _ _=>rfl)) (yE zc)))
   (zu (yI (zP KC (zF zE rfl T.yO yp (za (pv 7) zc)) zq (zU _)) (zu (zA 4 vg.nd (yc yw (pv 7) (zJ vK (zp zM hr T.zR (za (pv 0) (za (zJ xU zq (pv 6)) (za zq zc)))) (zF zE rfl T.yO yp (za (pv 7) zc))) (fun _ _=>rfl)))) (zu (zA 4 vg.nd (zJ vK (zp zM hr T.zR (za (pv 0) (za (zJ xU zq (pv 6)) (za zq zc)))) (zF zE rfl T.yO yp (za (pv 3) zc))))))))))
   (zu (zL (pv 5))))),?_⟩
 rintro σ H' ⟨rfl,m,hm,rfl⟩
 refine⟨by show 0<=sizeLine;decide,fun fl hfl=>?_⟩
 have g0:=Same.new hfl (.lst [])
 refine⟨_,rfl,c,3,6,rfl,by decide,by decide,by decide,fun n6 n0 n1=>?_⟩
 obtain⟨nn,rfl⟩:∃nn:Nat,n6=(nn:Int):=⟨_,(Int.toNat_of_nonneg n0).symm⟩
 refine⟨nn,rfl,by omega,by omega,?_⟩
 rw[zyI]
 refine uZ (lo:=0) (n:=nn) (fun i σ H2=>∃(m:Nat) (zs:List Addr) (rr:List (List Bool)) (f6 f7:Option V),m<nM os/\Same H' H2/\H2 fl=some (.lst (zs.map V.ref))/\Paired (fun z r=>H' z=none/\z≠fl/\H2 z=some (.lst (zY r))) zs rr/\zs.Nodup/\(∀r∈rr,r∈xV.allR (z9 os).length)/\rr.length=i/\σ=[some (.int c),some (.ref gl),some (.ref pl),some (.ref rl),some (.int (m:Nat)),some (.ref fl),f6,f7]) ⟨m,[],[],_,_,hm,g0,zj,.nil,List.nodup_nil,(fun r h=>by cases h),rfl,rfl⟩ ?_ ?_
 ·clear hm m
  rintro i σ H2 hi ⟨m,zs,rr,f6,f7,hm,g,hf,pz,nd,mem,lr,rfl⟩
  have ei:(0:Int)+(i:Int)=(i:Int):=by omega
  rw[ei]
  have lzs:=yK pz
  obtain⟨x,hx⟩:∃x,qs[m]?=some x:=⟨_,zx5 (by rw[zx4] at lq;omega)⟩
  obtain⟨r,hr',hxr⟩:=ZK pq hx
  refine⟨_,rfl,.inl ⟨rfl,_,zO.of hf⟩,?_⟩
  refine⟨_,rfl,_,rfl,rl,_,_,_,rfl,rfl,zO.of (g _ _ hrl),yQ (by rw[zx6,hx];rfl),x,_,rfl,.inl (zO.of (g _ _ hxr)),fun z hz=>?_⟩
  have gz:=Same.new hz (.lst (zY r))
  have nzf:z≠fl:=fun e=>by rw[e,hf] at hz;cases hz
  have nzs:z∉zs:=fun e=>by
   obtain⟨j,hj,ez⟩:=zyN e
   obtain⟨_,_,_,_,h3⟩:=ZK pz (show zs[j]?=some z by rw[zx5 hj,ez])
   rw[h3] at hz
   cases hz
  refine⟨fl,_,_,rfl,rfl,gz _ _ hf,by rw[zx4];exact zQ (by omega),?_⟩
  have g3:Same H' (upd (upd H2 z (.lst (zY r))) fl (.lst (zs.map V.ref++[.ref z]))):=(g.trans gz).over hfl _
  have h3:upd (upd H2 z (.lst (zY r))) fl (.lst (zs.map V.ref++[.ref z])) fl=some (.lst ((zs++[z]).map V.ref)):=by rw[zj,zyi];rfl
  have p3:Paired (fun z r=>H' z=none/\z≠fl/\upd (upd H2 z (.lst (zY r))) fl (.lst (zs.map V.ref++[.ref z])) z=some (.lst (zY r))) [z] [r]:=.cons ⟨g.free hz,nzf,by rw[zG nzf];exact zj⟩ .nil
  have p4:Paired (fun w r'=>H' w=none/\w≠fl/\upd (upd H2 z (.lst (zY r))) fl (.lst (zs.map V.ref++[.ref z])) w=some (.lst (zY r'))) (zs++[z]) (rr++[r]):=Yc (wG (fun w r' t=>⟨t.1,t.2.1,by rw[zG t.2.1];exact gz _ _ t.2.2⟩) pz) (.cons ⟨g.free hz,nzf,by rw[zG nzf];exact zj⟩ .nil)
  clear p3
  generalize upd (upd H2 z (.lst (zY r))) fl (.lst (zs.map V.ref++[.ref z]))=H3 at g3 h3 p4 ⊢
  have nd4:(zs++[z]).Nodup:=by
   rw[List.nodup_append]
   refine⟨nd,by simp,fun a ha b hb=>?_⟩
   rw[List.mem_singleton.mp hb]
   exact fun e=>nzs (by rw[<-e];exact ha)
  have zua:∀r'∈rr++[r],r'∈xV.allR (z9 os).length:=fun r' h=>by
   rcases List.mem_append.mp h with h | h
   ·exact mem r' h
   ·rw[List.mem_singleton.mp h];exact zx9 hr'
  dsimp only
  refine zin (fun σ H4=>Same H3 H4/\∃(nl:Addr) (xs:List Nat),H4 nl=some (.lst (yd xs))/\(∀y∈xs,y<nM os)/\σ=[some (.int c),some (.ref gl),some (.ref pl),some (.ref rl),some (.int (m:Nat)),some (.ref fl),some (.int (i:Nat)),some (.ref nl)]) (fun N hN=>?_) ?_
  ·refine⟨_,rfl,_,rfl,_,_,rfl,rfl,c,10+i,5,rfl,by omega,by decide,by decide,fun v _ _=>⟨_,_,rfl,rfl,_,rfl,yC (fun c2=>?_) (fun c2=>?_)⟩⟩
   ·obtain⟨y,hy,ay⟩:=(hG.same g3).at hm
    exact⟨_,rfl,_,rfl,gl,_,_,_,rfl,rfl,zO.of (g3 _ _ hG.hl),yQ (by rw[zx6,hy];rfl),hN _ _ ⟨Same.refl _,y,_,ay,fun w hw=>(zbC.mp hw).1,rfl⟩⟩
   ·exact⟨by show 0<=sizeLine;decide,fun e he=>hN _ _ ⟨Same.new he _,e,[],zj,(fun w hw=>by cases hw),rfl⟩⟩
  rintro σ H4 ⟨g4,nl,xs,hnl,lx,rfl⟩
  have fin:∀m',m'<nM os->∃(m:Nat) (zs:List Addr) (rr:List (List Bool)) (f6 f7:Option V),m<nM os/\Same H' H4/\H4 fl=some (.lst (zs.map V.ref))/\Paired (fun z r=>H' z=none/\z≠fl/\H4 z=some (.lst (zY r))) zs rr/\zs.Nodup/\(∀r∈rr,r∈xV.allR (z9 os).length)/\rr.length=i+1/\[some (V.int c),some (.ref gl),some (.ref pl),some (.ref rl),some (.int (m':Nat)),some (.ref fl),some (.int (i:Nat)),some (.ref nl)]=[some (.int c),some (.ref gl),some (.ref pl),some (.ref rl),some (.int (m:Nat)),some (.ref fl),f6,f7]:=fun m' hm'=>⟨m',zs++[z],rr++[r],_,_,hm',g3.trans g4,g4 _ _ h3,wG (fun w r' t=>⟨t.1,t.2.1,g4 _ _ t.2.2⟩) p4,nd4,zua,by rw[zyc,lr];rfl,rfl⟩
  have lxn:(yd xs).length=xs.length:=zx4 _
  refine⟨_,rfl,nl,_,rfl,.inl (zO.of hnl),_,_,rfl,rfl,_,rfl,yC (fun c2=>?_) (fun c2=>?_)⟩
  ·have lp:0<xs.length:=by
    have:=of_decide_eq_true c2
    rw[lxn] at this
    omega
   refine⟨_,rfl,_,rfl,_,rfl,_,_,rfl,rfl,c,20+i,8,rfl,by omega,by decide,by decide,fun r2 _ _=>?_⟩
   obtain⟨m',hm',ep⟩:=zgN lp r2
   exact⟨_,rfl,nl,_,rfl,.inl (zO.of hnl),_,_,rfl,rfl,by rw[lxn];omega,nl,_,_,_,rfl,rfl,zO.of hnl,ep,fin m' (lx m' hm')⟩
  ·refine⟨_,rfl,_,rfl,_,_,rfl,rfl,c,30+i,8,rfl,by omega,by decide,by decide,fun r2 _ _=>?_⟩
   obtain⟨m',em,hm'⟩:=low r2
   refine⟨_,rfl,rl,_,rfl,.inl (zO.of ((g3.trans g4) _ _ hrl)),_,_,rfl,rfl,by rw[lq];omega,?_⟩
   show WL 4 (V.int (r2%((qs.map V.ref).length:Int))) _ _ _
   rw[em]
   exact fin m' hm'
 ·rintro σ H2 ⟨m,zs,rr,f6,f7,hm,g,hf,pz,nd,mem,lr,rfl⟩
  exact⟨_,rfl,q fl zs rr H2 g hfl hf pz nd mem (by omega)⟩
theorem zdN (T:Txt P w K mg a)(zM:zB P w K mg base zX k a.xY a.xZ xr Vt):zB P w K mg base zX (k+1) a.V7 a.V8 YZ N5:=by
 refine T.PX.F.ok Yb (fun vs H Q E h=>?_) (fun cdv A outer s H vs Q E hr h=>?_)
 ·rcases h with ⟨rl,c,rfl,_⟩ | ⟨tl,rl,c,n,H0,zs,qs,rr,rfl,_⟩<;>rfl
 refine⟨_,(zf (yI (zP zpf (pv 0) zhy (zU _)) (zu (zL (yE zc))) z8)
   (zf (zA 3 Yb.nd (zp zM hr T.zR (za (pv 2) (za zq (za zq zc)))))
   (zf (zA 4 Yb.nd (zJ vK (zp zM hr T.zR (za (pv 2) (za zq (za zq zc)))) (zF zE rfl T.yO yp (za (pv 0) zc))))
   (zf (zA 5 Yb.nd (Xd WQ rfl T.zcU KR (za (yc yw (pv 1) (zJ vK (zp zM hr T.zR (za (pv 2) (za zq (za zq zc)))) (zF zE rfl T.yO yp (za (pv 1) zc))) (fun _ _=>rfl)) zc)))
   (zf (yI (zP xW (pv 3) zq (zU _)) (zu (yu (vd PySem.F.plainAttrs_list PySem.F.slot_list_pop PySem.F.type_list_pop zlj (pv 0) (za zq zc)))) z8)
   (zf (yI (zP xW (pv 3) zq (zU _)) (zu (yu (zpl PySem.F.plainAttrs_list PySem.F.slot_list_pop PySem.F.type_list_pop zpm (pv 0)))) z8)
   (zf (yI (zP xW (pv 3) zq (zU _)) (zu (zhz (pv 5) (zo5 (pv 0) (pv 4) set_list))) z8)
   (zf (yI (zP xW (pv 3) zq (zU _)) (zu (yu (vd PySem.F.plainAttrs_list PySem.F.slot_list_insert PySem.F.type_list_insert zac (pv 0) (za (pv 4) (za (pv 5) zc))))) z8)
   (zu (zL (pv 0))))))))))),?_⟩
 rcases h with ⟨rl,c,rfl,q⟩ | ⟨tl,rl,c,n,H0,js,qs,rr,rfl,g0,fl,hl,pp,l0,ziO,hrl,nrt,pq,n8,q⟩
 ·exact⟨_,rfl,rfl,_,rfl,ifA rfl ⟨by show 0<=sizeLine;decide,fun l hl=>q l _ (Same.new hl _) hl zj⟩⟩
 refine⟨_,rfl,rfl,_,rfl,ifB rfl ?_⟩
 have lm:(js.map V.ref).length=js.length:=zx4 _
 have ljr:=yK pp
 have lq:(qs.map V.ref).length=2^n:=by rw[zx4,yK pq,xV.wN]
 have q1:0<2^n:=Nat.two_pow_pos _
 have slz:js.length<sizeLine:=zQ (by omega)
 refine⟨_,rfl,c,0,5,rfl,by decide,by decide,by decide,fun kd k0 k5=>?_⟩
 refine⟨_,rfl,c,1,60,rfl,by decide,by decide,by decide,fun r r0 r1=>?_⟩
 refine⟨_,rfl,tl,_,rfl,.inl (zO.of hl),_,_,rfl,rfl,by rw[lm];omega,?_⟩
 have a1:=zyK r (show(0:Int)<(js.map V.ref).length by rw[lm];omega)
 have a2:=zyO r (show((js.map V.ref).length:Int)≠0 by rw[lm];omega)
 obtain⟨at',eat⟩:∃j:Nat,r%((js.map V.ref).length:Int)=(j:Int):=⟨_,(Int.toNat_of_nonneg a2).symm⟩
 show WL 4 (V.int (r%((js.map V.ref).length:Int))) _ _ _
 rw[eat] at a1 ⊢
 rw[lm] at a1
 have hlt:at'<js.length:=by omega
 refine⟨_,rfl,_,rfl,c,2,60,rfl,by decide,by decide,by decide,fun r2 _ _=>?_⟩
 have b1:=zyK r2 (show(0:Int)<(qs.map V.ref).length by rw[lq];omega)
 have b2:=zyO r2 (show((qs.map V.ref).length:Int)≠0 by rw[lq];omega)
 obtain⟨j2,ej2⟩:∃j:Nat,r2%((qs.map V.ref).length:Int)=(j:Int):=⟨_,(Int.toNat_of_nonneg b2).symm⟩
 obtain⟨x,hx⟩:∃x,qs[j2]?=some x:=⟨_,zx5 (by rw[ej2] at b1;rw[zx4] at b1;omega)⟩
 obtain⟨rw0,hr0,nx,hxr⟩:=ZK pq hx
 refine⟨_,rfl,rl,_,rfl,.inl (zO.of hrl),_,_,rfl,rfl,by rw[lq];omega,rl,_,_,_,rfl,rfl,zO.of hrl,by rw[ej2];exact yQ (by rw[zx6,hx];rfl),x,_,rfl,.inl (zO.of hxr),fun z hz=>?_⟩
 have gz:=Same.new hz (.lst (zY rw0))
 have ez:upd H z (.lst (zY rw0)) z=some _:=zj
 have nzt:z≠tl:=fun e=>by rw[e,hl] at hz;cases hz
 have fz:H0 z=none:=g0.free hz
 generalize upd H z _=H1 at gz ez ⊢
 have hl1:=gz _ _ hl
 have g1:=g0.trans gz
 have m0:rw0∈xV.allR n:=zx9 hr0
 have pp1:Paired (fun w r=>H0 w=none/\w≠tl/\H1 w=some (.lst (zY r))) js rr:=wG (fun _ _ t=>⟨t.1,t.2.1,gz _ _ t.2.2⟩) pp
 have ppL:∀(o:HO),Paired (fun w r=>H0 w=none/\w≠tl/\upd H1 tl o w=some (.lst (zY r))) js rr:=fun o=>wG (fun _ _ t=>⟨t.1,t.2.1,by rw[zG t.2.1];exact t.2.2⟩) pp1
 have sk:∀{m:Int} {A B:Prop},kd≠m->B->(zm8 (V.int kd) (V.int m)=true/\zm9 (V.bl (decide (V.int kd=V.int m))) fun k=>if k=true then A else B):=fun ne b=>⟨rfl,_,rfl,by rw[decide_eq_false (fun e=>ne (by injection e)),if_neg zx8];exact b⟩
 have tk:∀{m:Int} {A B:Prop},kd=m->A->(zm8 (V.int kd) (V.int m)=true/\zm9 (V.bl (decide (V.int kd=V.int m))) fun k=>if k=true then A else B):=fun e b=>⟨rfl,_,rfl,by rw[decide_eq_true (by rw[e]),if_pos rfl];exact b⟩
 have l63:js.length<2^63:=by omega
 rcases (by omega:kd=0\/kd=1\/kd=2\/kd=3\/kd=4) with e | e | e | e | e
 ·skip
  refine⟨_,rfl,tk e ?_⟩
  obtain⟨y,hy⟩:∃y,js[0]?=some y:=⟨_,zx5 (by omega)⟩
  refine⟨_,rfl,.inl ⟨rfl,_,zO.of hl1⟩,tl,_,_,0,_,rfl,rfl,hl1,by decide,by decide,(zeP (zjy (n:=(js.map V.ref).length) (j:=0) (by rw[lm];omega))).1,(by rw[zx6,hy];rfl),?_⟩
  refine⟨_,rfl,sk (by omega) ?_⟩
  refine⟨_,rfl,sk (by omega) ?_⟩
  refine⟨_,rfl,sk (by omega) ?_⟩
  refine⟨_,rfl,?_⟩
  exact q (js.eraseIdx 0) (rr.eraseIdx 0) _ (g1.over fl _) (by rw[zj,zjA]) (zgM 0 (ppL _)) (fun r h=>.inl (List.mem_of_mem_eraseIdx h)) (by have:=List.length_eraseIdx_le rr 0;omega)
 ·skip
  refine⟨_,rfl,sk (by omega) ?_⟩
  refine⟨_,rfl,tk e ?_⟩
  obtain⟨v,hv⟩:∃v,(js.map V.ref)[(js.map V.ref).length-1]?=some v:=⟨_,zx5 (by omega)⟩
  refine⟨_,rfl,.inl ⟨rfl,_,zO.of hl1⟩,tl,_,v,rfl,rfl,hl1,hv,?_⟩
  refine⟨_,rfl,sk (by omega) ?_⟩
  refine⟨_,rfl,sk (by omega) ?_⟩
  refine⟨_,rfl,?_⟩
  have ed:∀{α:Type} (xs:List α),xs.dropLast=xs.take (xs.length-1):=fun xs=>List.dropLast_eq_take
  exact q (js.take (js.length-1)) (rr.take (js.length-1)) _ (g1.over fl _) (by rw[zj,ed,lm,List.map_take]) (zbE _ (ppL _)) (fun r h=>.inl (List.mem_of_mem_take h)) (by rw[zys];omega)
 ·skip
  refine⟨_,rfl,sk (by omega) ?_⟩
  refine⟨_,rfl,sk (by omega) ?_⟩
  refine⟨_,rfl,tk e ?_⟩
  refine⟨_,rfl,_,rfl,_,rfl,tl,_,_,_,rfl,rfl,hl1,zjy (by rw[lm];exact hlt),?_⟩
  refine⟨_,rfl,sk (by omega) ?_⟩
  refine⟨_,rfl,?_⟩
  refine q (js.set at' z) (rr.set at' rw0) _ (g1.over fl _) (by rw[zj,List.map_set]) (zpH (ppL _) at' ⟨fz,nzt,by rw[zG nzt];exact ez⟩) (fun r h=>?_) (by rw[List.length_set];omega)
  rcases List.mem_or_eq_of_mem_set h with h | h
  ·exact .inl h
  ·rw[h];exact .inr m0
 ·skip
  refine⟨_,rfl,sk (by omega) ?_⟩
  refine⟨_,rfl,sk (by omega) ?_⟩
  refine⟨_,rfl,sk (by omega) ?_⟩
  refine⟨_,rfl,tk e ?_⟩
  refine⟨_,rfl,.inl ⟨rfl,_,zO.of hl1⟩,_,rfl,_,rfl,tl,_,_,_,rfl,rfl,hl1,by omega,by rw[lm];omega,by rw[lm];exact slz,?_⟩
  rw[zyI,znT (f:=V.ref) (y:=z)]
  refine⟨_,rfl,?_⟩
  have pq':=ppL (.lst ((js.take at'++z::js.drop at').map V.ref))
  refine q (js.take at'++z::js.drop at') (rr.take at'++rw0::rr.drop at') _ (g1.over fl _) zj (Yc (zbE at' pq') (.cons ⟨fz,nzt,by rw[zG nzt];exact ez⟩ (zfv at' pq'))) (fun r h=>?_) (by rw[znS];omega)
  rcases zjz h with h | h
  ·rw[h];exact .inr m0
  ·exact .inl h
 ·skip
  refine⟨_,rfl,sk (by omega) ?_⟩
  refine⟨_,rfl,sk (by omega) ?_⟩
  refine⟨_,rfl,sk (by omega) ?_⟩
  refine⟨_,rfl,sk (by omega) ?_⟩
  refine⟨_,rfl,?_⟩
  exact q js rr _ g1 hl1 pp1 (fun r h=>.inl h) (by omega)
abbrev cs9 (a:Ad):List Addr:=[a.vq,a.uJ,a.uK,a.wO,a.wQ,a.wu,a.wR,a.vQ,a.Zi]
theorem zkR (T:Txt P w K mg a):zB P w K mg base zX (k+1) a.RZ a.R3 VH (zjQ K):=by
 refine T.zcR.F.ok zg0 (fun vs H Q E h=>?_) (fun cdv A outer s H vs Q E hr h=>?_)
 ·obtain⟨t,l,x,rfl,_⟩:=h
  rfl
 obtain⟨t,l,x,rfl,ht,hl,q⟩:=h
 refine⟨_,(zu (zL (Qs (zF Uk rfl T.yN yH (za (pv 0) (za (Kw (v:=.ty "tuple") rfl T.zjV zgf rfl) zc))) (Qs (vU (zpx rfl (hu8 hr)) (ZQ zhP (pv 0) Uj (Z7 zq)) (xM (za zZ zc)) (zU _)) (zeL (vU Zm (pv 1) (yc v7 (pv 0) zq (fun _ _=>rfl)) (by with_unfolding_all rfl))))))),?_⟩
 refine⟨_,rfl,_,_,_,true,rfl,.tup ht,rfl,true,rfl,TX ?_⟩
 refine⟨_,rfl,1,rfl,t,_,rfl,vL.of ht,fun z=>absurd (show(1:Nat)=2 from z.2) (by decide),fun p hp=>?_⟩
 refine⟨by show 1<=sizeLine;decide,fun p2 hp2=>?_⟩
 have g1:=Same.new hp (.tup (TQ [V.str "refused", V.ref l] none (some 1)))
 have g2:=Same.new hp2 (.tup [V.str "refused"])
 have f1:=g2 _ _ (show upd H p (.tup (TQ [V.str "refused", V.ref l] none (some 1))) p=some (.tup [V.str "refused"]) from zj)
 have f2:upd (upd H p (.tup (TQ [V.str "refused", V.ref l] none (some 1)))) p2 (.tup [V.str "refused"]) p2=some _:=zj
 have g:=g1.trans g2
 refine⟨_,fun z=>absurd z.1 zx8,.tt (e:=fun _=>true) (vL.of f1) (vL.of f2) (fun j x y hx hy=>?_),true,rfl,TX ?_⟩
 ·have e:x=y:=zyz (hx.symm.trans hy)
  subst e
  have hj:x=.str "refused" := by
   cases j with
   | zero=>exact(zyz hx).symm
   | succ j=>exact absurd hx (by simp)
  subst hj
  have:=Ks.flat (K:=K) (H:=upd (upd H p (.tup (TQ [V.str "refused", V.ref l] none (some 1)))) p2 (.tup [V.str "refused"])) (n:=7) (x:=V.str "refused") (y:=.str "refused") rfl rfl
  rw[zb8 rfl] at this
  exact this
 refine⟨_,rfl,_,rfl,t,_,1,.ref l,rfl,rfl,vL.of (g _ _ ht),rfl,l,_,rfl,.inl (g.seq hl),rfl,rfl,?_⟩
 have:inV (V.str x) [V.str x]=true:=by
  show(eqV (.str x) (.str x)||false)=true
  rw[zb8 rfl];rfl
 rw[this]
 exact q _ g
theorem ziP (T:Txt P w K mg a)
  (zhr:zB P w K mg base (CXE P w) k a.Wo a.Wq Ys (zmw a.zy a.wO K))
  (zdO:∀ex,zeC P w K mg base ex k a.X5 a.X6 Z1 (Jo K a.wk (cs9 a) ex)):zB P w K mg base zX (k+1) a.Py a.Pz Uy (zbF a.zy K):=by
 refine T.PN.F.ok YX (fun vs H Q E h=>?_) (fun cdv A outer s H vs Q E hr h=>?_)
 ·rcases h with ⟨b,rl,os,rs,F,k,i,j,ps,rr,rfl,_⟩ | ⟨b,rl,os,rs,F,k,i,j,ps,rows,x,bad,rfl,_⟩<;>rfl
 refine⟨_,(zf (zA 5 YX.nd zhy)
   (zf (zpU (i:=6) rfl rfl (zmp (zn5 (i:=5) YX.nd rfl (Or.inl rfl) (zmr zhr hr rfl T.Wr.m T.Wr.F.2 T.Wr.b .nil rfl (za (pv 0) (za (pv 1) (za (pv 2) (za (pv 3) (za (pv 4) zc)))))))) (fun ex=>(zu (Wt (i:=5) YX.nd rfl (Or.inl rfl) (zmt (zdO ex) (zaU.of hr _) rfl rfl T.X8.m T.X8.F.2 T.X8.b .nil (za (pv 6) zc) (E:=E0))))) rfl T.zg6 YX.nd rfl rfl)
   (zu (zL (pv 5))))),?_⟩
 have nc:(cs9 a).Nodup:=T.xd.sublist (.cons _ (.cons₂ _ (.cons _ (List.Sublist.refl _))))
 rcases h with ⟨b,rl,os,rs,F,k0,i0,j0,ps,rr,rfl,h1,h2,h3,h4,h5,h6,h7,h8,h9,q⟩ | ⟨b,rl,os,rs,F,k0,i0,j0,ps,rows,x,bad,rfl,h1,h2,h3,h4,h5,h6,h7,h8,h9,h10,h11,q⟩
 ·exact⟨_,rfl,_,rfl,_,rfl,_,rfl,_,rfl,.inl ⟨b,rl,os,rs,F,k0,i0,j0,ps,rr,rfl,h1,h2,h3,h4,h5,h6,h7,h8,h9,fun H' g=>⟨_,rfl,q _ g⟩⟩⟩
 ·exact⟨_,rfl,_,rfl,_,rfl,_,rfl,_,rfl,.inr ⟨b,rl,os,rs,F,k0,i0,j0,ps,rows,x,bad,rfl,h1,h2,h3,h4,h5,h6,h7,h8,h9,h10,h11,fun H' g=>⟨a.wO,rfl,zp1 T.xb T.zcS,fun e' he=>⟨_,rfl,_,3,rfl,zj,T.zcS,by decide,zrA nc rfl,fun t l H'' g'' ht hl'=>⟨_,rfl,q t l H'' ((g.trans (Same.new he _)).trans g'') ht hl'⟩⟩⟩⟩⟩
theorem ok_law (T:Txt P w K mg a)
  (yh:zB P w K mg base zX (k+1) a.xH a.xJ yU (NQ K))
  (zM:zB P w K mg base zX (k+1) a.xY a.xZ xr Vt)
  (zfZ:zB P w K mg base zX (k+1) a.RW a.RX W7 (zh9 K))
  (Ui:zB P w K mg base zX (k+1) a.Yk a.Yl uV (QS K))
  (xR:zB P w K mg base zX (k+1) a.vh a.vm wI (U6 K))
  (Xa:zB P w K mg base zX (k+1) a.ZC a.ZD uU Vg)
  (zdP:zB P w K mg base zX (k+1) a.Tw a.Tz XQ (zfs K))
  (Ng:zB P w K mg base zX (k+1) a.V3 a.V4 YS (zcu K))
  (zf0:zB P w K mg base zX (k+1) a.R4 a.R5 W8 zfx)
  (zc9:zB P w K mg base zX (k+1) a.V7 a.V8 YZ N5)
  (zmO:zB P w K mg base zX (k+1) a.zcN a.zcO Jy (zfo a.zy))
  (za4:zB P w K mg base zX (k+1) a.Py a.Pz Uy (zbF a.zy K))
  (ziQ:zB P w K mg base zX (k+1) a.RZ a.R3 VH (zjQ K))
  (zhs:zB P w K mg base zX k a.Uz a.Px Ux (Lr (yD a.zy) K a.zy))
  (Qc:zB P w K mg base zX (k+1) a.RT a.RV W6 (zcg a.zy)) :
  zB P w K mg base zX (k+2) a.a_law a.d_law p_law (zjl K):=by
 refine T.f_law.F.ok sc_law (fun vs H Q E h=>?_) (fun cdv A outer s H vs Q E hr h=>?_)
 ·obtain⟨a,ns,rfl,_⟩:=h
  rfl
 obtain⟨sc,ns,rfl,hS,h63,q⟩:=h
 have L:=yX a.zy
 refine zpA ?_
 refine zh1 (fun σ H=>∃(H1:Hp) (ol bk p0 p1 p4:Addr) (os:List Str) (rs:List xV.Rm) (F:vC) (k0 i0 j0:Nat) (s0 s1 s4:Sn),Gst a.zy K sc ns H1 ol bk os 300 H rs F/\Ml os H s0 p0/\Ml (z9 os) H s1 p1/\Ml (z9 os) H s4 p4/\xV.Means rs k0 (fun r=>s0.val (zkl os r))/\xV.Means rs i0 (fun r=>s1.val (zkl os r))/\xV.Means rs j0 (fun r=>s4.val (zkl os r))/\σ=[some (.ref sc),some (.ref p1),some (.ref p4),some (.ref bk),some (.int (k0:Nat)),none,none,none,none,none,none,none,none,some (.ref ol),some (.ref p0),some (.int (i0:Nat)),some (.int (j0:Nat)),none,none,none,none,none,none,none,none]) (fun t z=>(zf (zhz (zp zfZ hr T.JM (za (pv 0) zc)) (J5 rfl (uW (yr (i:=13) sc_law.nd rfl (Or.inl rfl)) (uW (yr (i:=14) sc_law.nd rfl (Or.inl rfl)) Ni))))
   (zf (zA 1 sc_law.nd (zp Ui hr T.Yn (za (pv 0) (za zq (za (pv 13) zc)))))
   (zf (zA 2 sc_law.nd (zp Ui hr T.Yn (za (pv 0) (za zq (za (pv 13) zc)))))
   (zf (zA 3 sc_law.nd (znd T.zok zhs hr rfl T.zp3 T.za1.b .nil zi6 (za (pv 13) zc)))
   (zf (zA 4 sc_law.nd (vA (pv 3) T.yF T.Vd Qc hr (za (pv 14) zc)))
   (zf (zk8 (i:=15) (j:=16) rfl sc_law.nd rfl rfl (by decide) rfl rfl (za (vA (pv 3) T.yF T.Vd Qc hr (za (pv 1) zc)) (za (vA (pv 3) T.yF T.Vd Qc hr (za (pv 2) zc)) zc)) rfl)
   z))))))) ?_ ?_
 ·rintro u hu σ H ⟨rfl,rfl⟩
  refine⟨_,rfl,sc,ns,rfl,hS,fun t ol p0 H0 os s0 g0 ht zr0 ho hW hn sp0=>?_⟩
  refine⟨t,_,rfl,vL.of ht,rfl,_,_,rfl,_,_,rfl,rfl,?_⟩
  have o8:=ho.le
  refine⟨_,rfl,_,rfl,sc,ol,ns,11,os,rfl,g0.seq hS,zO.of zr0,o8,hn,by decide,fun p1 H2 s1 g2 zqd=>?_⟩
  have g02:=g0.trans g2
  have hol2:=g2 _ _ zr0
  refine⟨_,rfl,_,rfl,sc,ol,ns,19,os,rfl,g02.seq hS,zO.of hol2,o8,hn,by decide,fun p4 H2b s4 g2b zud=>?_⟩
  have zue:=g02.trans g2b
  have zjW:=g2b _ _ hol2
  have zuf:=sp0.mono (yJ.of (g2.trans g2b))
  have zug:=zqd.mono (yJ.of g2b)
  refine⟨_,rfl,fun bk dx hbk hdx hne=>⟨bk,dx,ol,os,rfl,zj,Ne.symm hne,?_,ho,fun H4 F0 keep hB hF=>⟨rfl,?_⟩⟩⟩
  ·refine zO.of ?_
   rw[zG (zH zjW hbk),zG (zH zjW hdx)]
   exact zjW
  have L0:=Ls.made hbk hdx hne keep hB hF
  clear keep hF
  have G0:Gst a.zy K sc ns H2b ol bk os 0 H4 [none,none] F0:=⟨L0,zue.seq hS,zjW,ho,hW,hn⟩
  have zmP:=zuf.mono (yJ.of L0.same)
  have zuh:=zug.mono (yJ.of L0.same)
  have zui:=zud.mono (yJ.of L0.same)
  obtain⟨dx0,fs,zc1,hm⟩:=L.ins G0.led.bk
  refine⟨_,rfl,bk,dx0,fs,rfl,zc1,hm _ (by decide +kernel),_,rfl,bk,p0,os,[none,none],F0,s0,rfl,G0.led.bk,by decide,zmP.is_,zmP.Ve,zmP.ct,zmP.dp,fun k0 rs1 H5 aw1 tu1 Ld gr1 mk0 hh1=>?_⟩
  have G1:=G0.grow aw1 Ld hh1
  have zmQ:=zuh.mono tu1
  have zuj:=zui.mono tu1
  obtain⟨dx1,fs1,zr1,hm1⟩:=L.ins G1.led.bk
  refine⟨_,rfl,bk,dx1,fs1,rfl,zr1,hm1 _ (by decide +kernel),_,rfl,bk,p1,os,rs1,F0,s1,rfl,G1.led.bk,by have:=G1.led.len;omega,zmQ.all.is_,zmQ.all.Ve,zmQ.ct,zmQ.dp,fun i0 rs2 H6 aw2 tu2 hB2 gr2 mi0 hh2=>?_⟩
  have G2:=G1.grow aw2 hB2 hh2
  have zmR:=zuj.mono tu2
  obtain⟨dx2,fs2,zr2,hm2⟩:=L.ins G2.led.bk
  refine⟨_,rfl,bk,dx2,fs2,rfl,zr2,hm2 _ (by decide +kernel),_,rfl,bk,p4,os,rs2,F0,s4,rfl,G2.led.bk,by have:=G2.led.len;omega,zmR.all.is_,zmR.all.Ve,zmR.ct,zmR.dp,fun j0 rs3 H7 aw3 tu3 hB3 gr3 mj0 hh3=>?_⟩
  have G3:=G2.grow aw3 hB3 hh3
  refine⟨_,_,rfl,?_⟩
  exact hu _ _ ⟨H2b,ol,bk,p0,p1,p4,os,rs3,F0,k0,i0,j0,s0,s1,s4,G3.up (by decide),zmP.mono (tu1.trans (tu2.trans tu3)),zmQ.mono (tu2.trans tu3),zmR.mono tu3,(mk0.grown G1.B gr2).grown G2.B gr3,mi0.grown G2.B gr3,mj0,rfl⟩
 refine zh1 (fun σ H=>∃(ol bk p0 p1 p4 gl pl ql rl:Addr) (os:List Str) (rs:List xV.Rm) (F:vC) (k0 i0 j0:Nat) (Hg:Hp) (ls qs:List Addr),zkD a.zy K sc ns bk gl pl ql rl os rs F k0 i0 j0 Hg ls qs H/\σ=[some (.ref sc),some (.ref p1),some (.ref p4),some (.ref bk),some (.int (k0:Nat)),some (.ref gl),some (.ref rl),none,none,none,none,none,none,some (.ref ol),some (.ref p0),some (.int (i0:Nat)),some (.int (j0:Nat)),some (.ref pl),some (.ref ql),none,none,none,none,none,none]) (fun t z=>(zf (Wt (i:=5) sc_law.nd rfl (Or.inr rfl) (zp zdP hr T.Lb (za (pv 14) (za (pv 13) zc))))
   (zf (zk8 (i:=17) (j:=18) rfl sc_law.nd rfl rfl (by decide) rfl rfl (za (zp Ng hr T.Uc (za (pv 1) (za (pv 13) zc))) (za (zp Ng hr T.Uc (za (pv 2) (za (pv 13) zc))) zc)) rfl)
   (zf (Wt (i:=6) sc_law.nd rfl (Or.inr rfl) (zp Xa hr T.Vc (za (zF zE rfl T.yO yp (za (zp xR hr T.uP (za (pv 13) zc)) zc)) zc)))
   z)))) ?_ ?_
 ·rintro u hu σ H ⟨H1,ol,bk,p0,p1,p4,os,rs,F,k0,i0,j0,s0,s1,s4,G,sp0,sp1,sp4,mk0,mi0,mj0,rfl⟩
  refine⟨_,rfl,_,rfl,p0,ol,os,s0,rfl,G.olL,G.ho,G.hW,sp0,fun gl ls H2 g2 hG=>?_⟩
  have G2:=G.new g2
  have zqd:=sp1.mono (yJ.of g2)
  refine⟨_,rfl,_,rfl,p1,ol,os,s1,rfl,G2.olL,G2.ho,G2.hW,zqd.all,fun pl H3 g3 fpl hpl=>?_⟩
  have G3:=G2.new g3
  have zul:=sp4.mono (yJ.of (g2.trans g3))
  refine⟨_,rfl,_,rfl,p4,ol,os,s4,rfl,G3.olL,G3.ho,G3.hW,zul.all,fun ql H4 g4 fql hql=>?_⟩
  have G4:=G3.new g4
  refine⟨_,_,rfl,?_⟩
  have n4:=wV os
  refine⟨_,rfl,ol,os,rfl,G4.olL,fun nl H5 g5 _ hnl=>⟨nl,_,rfl,.inl (zO.of hnl),(z9 os).length,by rw[zx4];rfl,by omega,fun rl H6 ps g6 frl hrl he=>?_⟩⟩
  have g46:=g5.trans g6
  have G6:=G4.new g46
  have R:Mx os H6 rl ps:=⟨hrl,wG (fun _ _ z=>z.2) he⟩
  have tw:tB rs k0=fun b=>s0.val (wB os b):=funext fun b=>zcv mk0 b
  have fi:tB rs i0=fun b=>s1.val (wB os b):=funext fun b=>zcv mi0 b
  have fj:tB rs j0=fun b=>s4.val (wB os b):=funext fun b=>zcv mj0 b
  rw[<-tw] at hG
  exact hu _ _ ⟨ol,bk,p0,p1,p4,gl,pl,ql,rl,os,rs,F,k0,i0,j0,H,ls,ps,⟨G6.led.bk,G6.hW,G6.hn,G6.scL,mk0.1,zew G6.ho sp1.Ve mi0,zew G6.ho sp4.Ve mj0,hG.same (g3.trans (g4.trans g46)),by rw[fi];exact(g4.trans g46) _ _ hpl,by rw[fj];exact g46 _ _ hql,R⟩,rfl⟩
 refine zh1 (fun σ H=>∃(ol bk p0 p1 p4 gl pl ql rl tl:Addr) (os:List Str) (rs:List xV.Rm) (F:vC) (k0 i0 j0:Nat) (Hg:Hp) (ls qs:List Addr) (f7 f20 f21 f22 f23 f24:Option V),zkD a.zy K sc ns bk gl pl ql rl os rs F k0 i0 j0 Hg ls qs H/\zfz os H tl/\σ=[some (.ref sc),some (.ref p1),some (.ref p4),some (.ref bk),some (.int (k0:Nat)),some (.ref gl),some (.ref rl),f7,none,none,none,none,none,some (.ref ol),some (.ref p0),some (.int (i0:Nat)),some (.int (j0:Nat)),some (.ref pl),some (.ref ql),some (.ref tl),f20,f21,f22,f23,f24]) (fun t z=>(zf (wD PassesOwn.never rfl (ur rfl T.tY (za zq zc)) (yr (i:=7) sc_law.nd rfl (Or.inl rfl)) (zf (zA 19 sc_law.nd (zp zf0 hr T.JN (za (zp yh hr T.yt (za (pv 0) (za (zJ xU zq (zJ vK (pv 7) zq)) zc))) (za (pv 5) (za (pv 17) (za (pv 6) zc))))))
   (zf (yI (zP xW (pv 7) zq (zU _)) (zu (zA 19 sc_law.nd (zp zc9 hr T.PX (za (zp zmO hr T.zha (za (pv 3) (za (pv 4) (za (pv 15) (za (pv 16) zc))))) (za (pv 6) (za (zp yh hr T.yt (za (pv 0) (za zq zc))) zc)))))) z8)
   (zf (Wt (i:=20) sc_law.nd rfl (Or.inr rfl) (Ww (ZP:=zx S_law) (js:=[6]) rfl (by show WR _ _ "row" ["rows"];exact lco (by decide +kernel)) rfl (wC (pv 19)) (by show ∀j∈([6]:List Nat),j<25;decide) (fun cl C s₂ H₂ fp=>(zh5 (K:=K) rfl PySem.F.plainAttrs_list PySem.F.slot_list_index PySem.F.type_list_index (zkq (K:=K) rfl (hu9 hr)) (pv 1) (za (pv 0) zc)))))
   (zf (zge (tt:=zdg) (i:=21) sc_law.nd rfl (Or.inl rfl) (.inl rfl) (ZP:=zx S_law) (js:=[20,5]) rfl (by show WR _ _ "j" ["here", "graph"];exact lco (by decide +kernel)) rfl (ur rfl T.tY (za (zJ UW (zF zE rfl T.yO yp (za (pv 20) zc)) zq) zc)) (by show ∀j∈([20,5]:List Nat),j<25;decide) (fun cl C s₂ H₂ fp pins s' σ' H' Q I h=>wpAny_pure ⟨H',I,h⟩) (fun cl C s₂ H₂ fp=>(vU (zb2 (K:=K) rfl) (yc (Wf (K:=K) rfl) (pv 1) (zJ xU (pv 0) zq) (fun _ _=>rfl)) (yc (Wf (K:=K) rfl) (pv 2) (yc (Wf (K:=K) rfl) (pv 1) (pv 0) (fun _ _=>rfl)) (fun _ _=>rfl)) (by with_unfolding_all rfl))) rfl)
   (zf (zA 22 sc_law.nd (Qs (vU (zpy rfl (hu8 hr)) (pv 20) (yE zc) (zU _)) (Qs (zF (Vs rfl) rfl T.zcT Lj (za (pv 21) zc)) (Qs (vU Zm (yc yw (pv 20) zq (fun _ _=>rfl)) (pv 17) (by with_unfolding_all rfl)) (zeL (vU Zm (yc yw (pv 20) (zdX J7 zq) (fun _ _=>rfl)) (pv 18) (by with_unfolding_all rfl)))))))
   (zf (zA 23 sc_law.nd (zF (Mz hr.gd (hu9 hr)) rfl T.zmE zjL (za (pv 19) zc)))
   (zf (zA 24 sc_law.nd (zp za4 hr T.PN (za (pv 3) (za (pv 4) (za (pv 15) (za (pv 16) (za (pv 19) zc)))))))
   (zu (yI (PW.pt (Ky (Rh (Za (zF Uk rfl T.yN yH (za (pv 24) (za (Kw (v:=.ty "bool") rfl T.zp6 zns rfl) zc))) (fun _=>rfl))) (Ky (zP Mt (pv 24) (pv 22) (zU _)) (Le (zP Mt (zF (Mz hr.gd (hu9 hr)) rfl T.zmE zjL (za (pv 19) zc)) (pv 23) (zU _)))))) (zu (zL Kv)) z8))))))))))
   z)) ?_ ?_
 ·rintro u hu σ H ⟨ol,bk,p0,p1,p4,gl,pl,ql,rl,os,rs,F,k0,i0,j0,Hg,ls,qs,S,rfl⟩
  have ho:=L.ord S.hB
  refine⟨_,rfl,by decide,by decide,?_⟩
  refine uZ (lo:=0) (n:=3) (fun i σ H'=>∃(f7 f19 f20 f21 f22 f23 f24:Option V),Same H H'/\(i≠0->∃tl,f19=some (.ref tl)/\zfz os H' tl)/\σ=[some (.ref sc),some (.ref p1),some (.ref p4),some (.ref bk),some (.int (k0:Nat)),some (.ref gl),some (.ref rl),f7,none,none,none,none,none,some (.ref ol),some (.ref p0),some (.int (i0:Nat)),some (.int (j0:Nat)),some (.ref pl),some (.ref ql),f19,f20,f21,f22,f23,f24]) ⟨_,_,_,_,_,_,_,Same.refl _,fun z=>absurd rfl z,rfl⟩ ?_ ?_
  ·rintro i σ H' hi ⟨f7,f19,f20,f21,f22,f23,f24,g,_,rfl⟩
   have S':=S.same g
   have ei:(27:Int)+((0:Int)+(i:Int))%2=((27+i%2:Nat):Int):=by omega
   refine⟨_,rfl,_,rfl,_,_,rfl,rfl,(show(0:Int)<2 by decide),_,_,rfl,rfl,sc,ns,27+i%2,congrArg (fun z=>[V.ref sc,V.int z]) ei,S'.hS,?_⟩
   refine⟨_,rfl,_,rfl,_,rfl,ux ns (27+i%2),gl,pl,rl,os,_,_,Hg,ls,qs,rfl,S'.hG,S'.hp,S'.hR.1,S'.hR.2,fun l zs rr H1 g1 fl hl pz nd mem l6=>?_⟩
   have T1:zfz os H1 l:=⟨zs,rr,hl,wG (fun _ _ z=>z.2.2) pz,fun r hr=>xV.Yz _ _ (mem r hr),by omega⟩
   dsimp only
   refine zin (fun σ H2=>Same H' H2/\∃tl,zfz os H2 tl/\σ=[some (.ref sc),some (.ref p1),some (.ref p4),some (.ref bk),some (.int (k0:Nat)),some (.ref gl),some (.ref rl),some (.int ((0:Int)+(i:Int))),none,none,none,none,none,some (.ref ol),some (.ref p0),some (.int (i0:Nat)),some (.int (j0:Nat)),some (.ref pl),some (.ref ql),some (.ref tl),f20,f21,f22,f23,f24]) (fun N hN=>?_) ?_
   ·refine⟨_,rfl,rfl,_,rfl,yC (fun c2=>?_) (fun c2=>?_)⟩
    ·have S1:=S'.same g1
     refine⟨_,rfl,_,rfl,_,rfl,_,rfl,bk,os,rs,F,k0,i0,j0,rfl,S1.hB,S1.hW,S1.hk,S1.hI,S1.hJ,fun H8 Ns g8 rn no=>?_,fun l H8 zs Ns m g8 fl hl rn lt mt pq fq=>?_⟩
     ·refine⟨_,rfl,_,rfl,sc,ns,30,rfl,(S1.same g8).hS,.none_ rl _ rfl fun l H9 g9 fl hl=>?_⟩
      exact hN _ _ ⟨g1.trans (g8.trans g9),l,⟨[],[],hl,.nil,(fun r h=>by cases h),zyr _⟩,rfl⟩
     ·have wl:(zcx os (tB rs k0) (tB rs i0) (tB rs j0) m).length=m+1:=(zmk ho S1.hW S1.hI.2 mt).1
      have wn:=zml (os:=os) (t:=tB rs k0) (f:=tB rs i0) (g:=tB rs j0) m
      have pq:Paired (QT H8) zs (zcx os (tB rs k0) (tB rs i0) (tB rs j0) m):=pq
      have nf:=rn.few ho
      have nl:∀(x:Addr) (r:List Bool),QT H8 x r->0<r.length->x≠l:=fun x r ar rp e=>by
       unfold QT at ar
       rw[e,hl] at ar
       have z:zs.map V.ref=zY r:=by injection ar with z;injection z
       cases r with
       | nil=>cases rp
       | cons c r =>
        cases zs with
        | nil=>cases z
        | cons y zs=>injection z with z1 _;cases z1
      have S8:=S1.same g8
      have pp:Paired (fun z r=>H1 z=none/\z≠l/\H8 z=some (.lst (zY r))) zs (zcx os (tB rs k0) (tB rs i0) (tB rs j0) m):=by
       refine Lw (yK pq) fun jj x y hx hy=>?_
       obtain⟨y',hy',ry⟩:=ZK pq hx
       rw[hy] at hy'
       cases hy'
       exact⟨fq x (zx9 hx),nl x y ry (by rw[wn y (zx9 hy)];exact S.hn),ry⟩
      refine⟨_,rfl,_,rfl,sc,ns,30,rfl,S8.hS,.told l rl _ (z9 os).length H1 zs qs _ rfl g8 fl hl pp (by rw[wl];omega) (by rw[wl];omega) S8.hR.1 (fun e=>by rw[<-e,S1.hR.1] at fl;cases fl) ?_ (by have:=wV os;omega) fun zs' rr' H9 g9 hl9 pz9 zum zun=>?_⟩
      ·refine Lw (yK S8.hR.2) fun jj x y hx hy=>?_
       obtain⟨y',hy',ry⟩:=ZK S8.hR.2 hx
       rw[hy] at hy'
       cases hy'
       exact⟨nl x y ry (by rw[xV.Yz _ _ (zx9 hy)];exact S.hn),ry⟩
      ·refine hN _ _ ⟨g1.trans g9,l,⟨zs',rr',hl9,wG (fun _ _ z=>z.2.2) pz9,fun r hr=>?_,by rw[wl] at zun;omega⟩,rfl⟩
       rcases zum r hr with h | h
       ·exact wn r h
       ·exact xV.Yz _ _ h
    ·exact hN _ _ ⟨g1,l,T1,rfl⟩
   clear T1
   rintro σ H2 ⟨g2,tl,⟨zs,rr,htl,pz,lens,ziO⟩,rfl⟩
   have S2:=S'.same g2
   obtain⟨hs,ph⟩:=zof (os:=os) rr lens
   have lz:=yK pz
   have lh:=yK ph
   have hsM:∀{i x:Nat},hs[i]?=some x->x<nM os:=fun {i x} hx=>by
    obtain⟨r,_,z⟩:=zaR ph hx
    exact z.1
   refine⟨_,rfl,tl,rfl,⟨_,zO.of htl⟩,?_⟩
   refine zct (xs:=zs.map V.ref) (fun i ys H'=>Same H2 H'/\ys=yd (hs.take i)) ⟨Same.refl _,rfl⟩ (by rw[zx4];exact zyn (zQ (by omega))) (fun i ys H' hi ⟨g,e⟩=>⟨zO.of (g _ _ htl),by rw[e];unfold yd;rw[zx4,zys];omega⟩) (fun i x ys H' Q0 hx hP hQ=>?_) (fun ys H' hl hP hhl=>?_)
   ·obtain⟨g,rfl⟩:=hP
    rw[zx6] at hx
    cases hw:zs[i]? with
    | none=>rw[hw] at hx;cases hx
    | some w =>
     rw[hw] at hx
     cases hx
     obtain⟨r,hr',hwr⟩:=ZK pz hw
     obtain⟨y,hy,yl,ey⟩:=ZK ph hr'
     subst ey
     have S3:=S2.same g
     obtain⟨f1,f2⟩:=zmy (K:=K) S3.hR (g _ _ hwr) yl
     refine⟨_,rfl,.inl ⟨rfl,_,zO.of S3.hR.1⟩,_,rfl,rl,_,_,_,y,rfl,rfl,zO.of S3.hR.1,f1,f2,hQ _ _ ⟨g,?_⟩⟩
     rw[xg hy]
     unfold yd
     rw[zyi]
     rfl
   obtain⟨g3,rfl⟩:=hP
   rw[zx4,lz,lh,zyx]
   have g3n:=g3.trans (Same.new hhl (.lst (yd hs)))
   have eh:upd H' hl (.lst (yd hs)) hl=some (.lst (yd hs)):=zj
   generalize upd H' hl (.lst (yd hs))=H3 at g3n eh
   have S3:=S2.same g3n
   have lN:(yd hs).length=hs.length:=by unfold yd;rw[zx4]
   refine⟨_,rfl,hl,_,rfl,.inl (zO.of eh),_,_,rfl,rfl,_,rfl,by omega,by omega,?_⟩
   rw[show((((yd hs).length:Nat):Int)-1).toNat=hs.length-1 by omega]
   have gD:∀{x:Nat},x<hs.length->hs[x]?=some (hs.getD x 0):=fun {x} h=>by rw[zyh,zx5 h];rfl
   refine zjK (n:=hs.length-1) (fun x=>.bl (gr os (tB rs k0) (hs.getD x 0) (hs.getD (x+1) 0))) (zyn (zQ (by omega))) (fun i H4 Q0 hi g4 hQ=>?_) (fun H4 ll g4 hll=>?_)
   ·have e2:(0:Int)+(i:Nat)=((i:Nat):Int):=by omega
    have e4:(0:Int)+(i:Nat)+1=((i+1:Nat):Int):=by omega
    have hx:=gD (x:=i) (by omega)
    have hy:=gD (x:=i+1) (by omega)
    have G4:=(S3.same g4).hG
    obtain⟨ga,hga,aga⟩:=G4.at (hsM hx)
    have cy:inV (V.int (hs.getD (i+1) 0:Nat)) (yd (chs os (gr os (tB rs k0) (hs.getD i 0))))=gr os (tB rs k0) (hs.getD i 0) (hs.getD (i+1) 0):=by
     refine(zgx _ (chs os (gr os (tB rs k0) (hs.getD i 0)))).trans ?_
     rw[zyL,decide_eq_true_iff,zbC]
     exact⟨fun z=>z.2,fun z=>⟨hsM hy,z⟩⟩
    refine⟨_,rfl,_,rfl,_,_,rfl,rfl,hl,_,_,_,rfl,congrArg V.int e4,zO.of (g4 _ _ eh),yQ (Rz hy),_,rfl,_,rfl,_,rfl,hl,_,_,_,rfl,congrArg V.int e2,zO.of (g4 _ _ eh),yQ (Rz hx),gl,_,_,_,rfl,rfl,zO.of G4.hl,yQ (by rw[zx6,hga];rfl),ga,_,rfl,.inl (zO.of aga),rfl,zao _,?_⟩
    have z:=hQ _ (Same.refl _)
    rw[<-cy] at z
    exact z
   have em:(List.range (hs.length-1)).map (fun x=>V.bl (gr os (tB rs k0) (hs.getD x 0) (hs.getD (x+1) 0)))=((List.range (hs.length-1)).map fun x=>gr os (tB rs k0) (hs.getD x 0) (hs.getD (x+1) 0)).map V.bl:=by rw[zyG];rfl
   rw[em]
   have g4n:=g4.trans (Same.new hll (.lst (((List.range (hs.length-1)).map fun x=>gr os (tB rs k0) (hs.getD x 0) (hs.getD (x+1) 0)).map V.bl)))
   have el:upd H4 ll (.lst (((List.range (hs.length-1)).map fun x=>gr os (tB rs k0) (hs.getD x 0) (hs.getD (x+1) 0)).map V.bl)) ll=some _:=zj
   generalize upd H4 ll _=H5 at g4n el ⊢
   have g25:=g3n.trans g4n
   have S5:=S2.same g25
   have eh5:=g4n _ _ eh
   dsimp only
   refine zin (fun σ H6=>Same H5 H6/\σ=[some (.ref sc),some (.ref p1),some (.ref p4),some (.ref bk),some (.int (k0:Nat)),some (.ref gl),some (.ref rl),some (.int ((0:Int)+(i:Int))),none,none,none,none,none,some (.ref ol),some (.ref p0),some (.int (i0:Nat)),some (.int (j0:Nat)),some (.ref pl),some (.ref ql),some (.ref tl),some (.ref hl),some (.ref ll),some (.bl (zog os (tB rs k0) (tB rs i0) (tB rs j0) hs)),f23,f24]) (fun N hN=>?_) ?_
   ·unfold zog at hN
    refine⟨_,rfl,by show 0<=sizeLine;decide,fun el' hel=>?_⟩
    have ge:=Same.new hel (.lst [])
    have ee:upd H5 el' (.lst []) el'=some (.lst (yd [])):=zj
    generalize upd H5 el' (.lst [])=H6 at ge ee
    refine⟨_,(by rintro⟨z,_⟩;cases z),zl5 (zO.of (ge _ _ eh5)) (zO.of ee),_,rfl,?_⟩
    by_cases hz:hs=[]
    ·rw[decide_eq_true hz] at hN ⊢
     exact U3 (hN _ _ ⟨ge,rfl⟩)
    rw[decide_eq_false hz] at hN ⊢
    refine TX ?_
    have hp0:0<hs.length:=by
     cases hs with
     | nil=>exact absurd rfl hz
     | cons _ _=>exact Nat.succ_pos _
    refine⟨_,rfl,ll,_,rfl,zO.of (ge _ _ el),_,rfl,?_⟩
    rw[List.all_map]
    have ea:(List.range (hs.length-1)).all (id ∘ fun x=>gr os (tB rs k0) (hs.getD x 0) (hs.getD (x+1) 0))=(List.range (hs.length-1)).all (fun j=>gr os (tB rs k0) (hs.getD j 0) (hs.getD (j+1) 0)):=rfl
    rw[ea]
    cases cA:(List.range (hs.length-1)).all (fun j=>gr os (tB rs k0) (hs.getD j 0) (hs.getD (j+1) 0)) with
    | false =>
     rw[cA] at hN
     exact U3 (hN _ _ ⟨ge,rfl⟩)
    | true =>
    rw[cA] at hN
    refine TX ?_
    have S6:=S5.same ge
    have eh6:=ge _ _ eh5
    have pin:∀(f:Nat->Bool) (x:Nat),x<nM os->inV (V.int (x:Nat)) (yd (chs os f))=f x:=fun f x hx=>by
     refine(zgx x (chs os f)).trans ?_
     rw[zyL,decide_eq_true_iff,zbC]
     exact⟨fun z=>z.2,fun z=>⟨hx,z⟩⟩
    have hx0:=gD (x:=0) hp0
    have hx1:=gD (x:=hs.length-1) (by omega)
    refine⟨_,rfl,hl,_,_,_,rfl,rfl,zO.of eh6,yQ (Rz hx0),_,rfl,pl,_,rfl,.inl (zO.of S6.hp),rfl,zao _,_,rfl,?_⟩
    have c0:=pin (fun x=>tB rs i0 (eb os x)) _ (hsM hx0)
    rw[c0]
    cases cB:tB rs i0 (eb os (hs.getD 0 0)) with
    | false =>
     rw[cB] at hN
     exact U3 (hN _ _ ⟨ge,rfl⟩)
    | true =>
    rw[cB] at hN
    refine TX ?_
    have e1:yd hs=yd (hs.take (hs.length-1))++[V.int ((hs.getD (hs.length-1) 0:Nat):Int)]:=by
     have e:hs=hs.take (hs.length-1)++[hs.getD (hs.length-1) 0]:=by
      have z:=xg hx1
      rw[show hs.length-1+1=hs.length by omega,zyx] at z
      exact z
     have e2:yd (hs.take (hs.length-1)++[hs.getD (hs.length-1) 0])=yd (hs.take (hs.length-1))++[V.int ((hs.getD (hs.length-1) 0:Nat):Int)]:=by unfold yd;rw[zyi];rfl
     rw[<-e2,<-e]
    have at':atI (yd hs) (-1)=some (.int ((hs.getD (hs.length-1) 0:Nat):Int)):=by rw[e1];exact zbU _ _
    have c1:=pin (fun x=>tB rs j0 (eb os x)) _ (hsM hx1)
    refine⟨_,rfl,(1:Int),rfl,hl,_,_,_,rfl,rfl,zO.of eh6,at',_,rfl,ql,_,rfl,.inl (zO.of S6.hq),rfl,zao _,?_⟩
    rw[c1]
    have z:=hN _ _ ⟨ge,rfl⟩
    exact z
   rintro σ H6 ⟨g6,rfl⟩
   have g26:=g25.trans g6
   have S6:=S2.same g26
   have zr3:=g26 _ _ htl
   have pz6:=wG (fun _ _ z=>g26 _ _ z) pz
   have n4:=wV os
   have l8:∀r∈rr,r.length<=8:=fun r hr=>by have:=lens r hr;omega
   refine⟨_,rfl,tl,zs,rr,rfl,zr3,pz6,ziO,l8,?_⟩
   refine⟨_,rfl,_,rfl,_,rfl,_,rfl,_,rfl,.good bk tl os rs F k0 i0 j0 zs rr rfl S6.hB S6.hW S6.hk S6.hI S6.hJ zr3 pz6 lens ziO fun H7 g7=>?_⟩
   rw[zp2 (f:=tB rs i0) (g:=tB rs j0) ho S.hW S.hI.2 S.hJ.2 ph]
   refine⟨_,rfl,_,_,_,true,rfl,.bl _,rfl,_,rfl,?_⟩
   refine yC (fun z=>by cases z) (fun _=>?_)
   refine⟨_,rfl,_,rfl,rfl,_,rfl,ifB (by rw[decide_eq_true rfl];rfl) ?_⟩
   have g27:=g26.trans g7
   have pz7:=wG (fun _ _ z=>g27 _ _ z) pz
   refine⟨_,rfl,tl,zs,rr,rfl,g27 _ _ htl,pz7,ziO,l8,_,rfl,rfl,_,rfl,ifB (by rw[decide_eq_true rfl];rfl) ?_⟩
   exact⟨_,_,_,_,_,_,_,g.trans (g2.trans g27),fun _=>⟨tl,rfl,zs,rr,g27 _ _ htl,pz7,lens,ziO⟩,rfl⟩
  ·rintro σ H' ⟨f7,f19,f20,f21,f22,f23,f24,g,hT,rfl⟩
   obtain⟨tl,rfl,T1⟩:=hT (by decide)
   exact hu _ _ ⟨ol,bk,p0,p1,p4,gl,pl,ql,rl,tl,os,rs,F,k0,i0,j0,Hg,ls,qs,f7,f20,f21,f22,f23,f24,S.same g,T1,rfl⟩
 refine zh1 (fun σ H=>∃(ol bk p0 p1 p4 gl pl ql rl tl bl b0 b1 b2 b3:Addr) (os:List Str) (rs:List xV.Rm) (F:vC) (k0 i0 j0:Nat) (Hg:Hp) (ls qs:List Addr) (f7 f8 f20 f21 f22 f23 f24:Option V),zkD a.zy K sc ns bk gl pl ql rl os rs F k0 i0 j0 Hg ls qs H/\zfz os H tl/\H bl=some (.lst [.ref b0,.ref b1,.ref b2,.ref b3])/\(zgO (z9 os).length H b0/\zgO (z9 os).length H b1/\zgO (z9 os).length H b2/\zgO (z9 os).length H b3)/\σ=[some (.ref sc),some (.ref p1),some (.ref p4),some (.ref bk),some (.int (k0:Nat)),some (.ref gl),some (.ref rl),f7,f8,some (.ref bl),none,none,none,some (.ref ol),some (.ref p0),some (.int (i0:Nat)),some (.int (j0:Nat)),some (.ref pl),some (.ref ql),some (.ref tl),f20,f21,f22,f23,f24]) (fun t z=>(zf (zA 8 sc_law.nd (zF zE rfl T.yO yp (za (yc yw (pv 6) zq (fun _ _=>rfl)) zc)))
   (zf (zA 9 sc_law.nd (yE (za (zJ zbx (yE (za zq zc)) (zJ xU (pv 8) zq)) (za (zJ zbx (yE (za zq zc)) (zJ UW (pv 8) zq)) (za (zJ XC (zJ zbx (yE (za zq zc)) (zJ UW (pv 8) zq)) (yE (za zq zc))) (za (zJ XC (yE (za (zdX J7 zq) zc)) (zJ zbx (yE (za zq zc)) (zJ UW (pv 8) zq))) zc))))))
   z))) ?_ ?_
 ·rintro u hu σ H ⟨ol,bk,p0,p1,p4,gl,pl,ql,rl,tl,os,rs,F,k0,i0,j0,Hg,ls,qs,f7,f20,f21,f22,f23,f24,S,T1,rfl⟩
  have M1:0<nM os:=Nat.two_pow_pos _
  have lq:=S.hR.len
  obtain⟨x,hx⟩:∃x,qs[0]?=some x:=⟨_,zx5 (by omega)⟩
  have hxr:=(S.hR.at hx).1
  have n4:=wV os
  have hn:=S.hn
  obtain⟨n,en⟩:∃n,n=(z9 os).length:=⟨_,rfl⟩
  have er:(zY (Yu os 0)).length=n:=by unfold zY;rw[zx4,NZ M1,en]
  refine⟨_,rfl,rl,_,_,_,rfl,rfl,zO.of S.hR.1,yQ (j:=0) (by rw[zx6,hx];rfl),x,_,rfl,.inl (zO.of hxr),?_⟩
  rw[er]
  have em:(n:Int)-1=((n-1:Nat):Int):=by omega
  have ep:(n:Int)+1=((n+1:Nat):Int):=by omega
  refine⟨by show 1<=sizeLine;decide,fun a0 ha0=>?_⟩
  have gA:=Same.new ha0 (.lst [.int 0])
  have eA:upd H a0 (.lst [.int 0]) a0=some _:=zj
  generalize upd H a0 _=HA at gA eA ⊢
  refine⟨_,rfl,_,_,rfl,rfl,a0,.int 0,n+1,rfl,congrArg V.int ep,eA,by omega,fun b0 hb0=>?_⟩
  have gB:=Same.new hb0 (.lst (List.replicate (n+1) (V.int 0)))
  have eB:upd HA b0 (.lst (List.replicate (n+1) (V.int 0))) b0=some _:=zj
  generalize upd HA b0 _=HB at gB eB ⊢
  refine⟨by show 1<=sizeLine;decide,fun a1 ha1=>?_⟩
  have gC:=Same.new ha1 (.lst [.int 0])
  have eC:upd HB a1 (.lst [.int 0]) a1=some _:=zj
  generalize upd HB a1 _=HC at gC eC ⊢
  refine⟨_,rfl,_,_,rfl,rfl,a1,.int 0,n-1,rfl,congrArg V.int em,eC,by omega,fun b1 hb1=>?_⟩
  have gD:=Same.new hb1 (.lst (List.replicate (n-1) (V.int 0)))
  have eD:upd HC b1 (.lst (List.replicate (n-1) (V.int 0))) b1=some _:=zj
  generalize upd HC b1 _=HD at gD eD ⊢
  refine⟨by show 1<=sizeLine;decide,fun a2 ha2=>?_⟩
  have gE:=Same.new ha2 (.lst [.int 0])
  have eE:upd HD a2 (.lst [.int 0]) a2=some _:=zj
  generalize upd HD a2 _=HE at gE eE ⊢
  refine⟨_,rfl,_,_,rfl,rfl,a2,.int 0,n-1,rfl,congrArg V.int em,eE,by omega,fun c2 hc2=>?_⟩
  have gF:=Same.new hc2 (.lst (List.replicate (n-1) (V.int 0)))
  have eF:upd HE c2 (.lst (List.replicate (n-1) (V.int 0))) c2=some _:=zj
  generalize upd HE c2 _=HF at gF eF ⊢
  refine⟨by show 1<=sizeLine;decide,fun d2 hd2=>?_⟩
  have gG:=Same.new hd2 (.lst [.int 2])
  have eG:upd HF d2 (.lst [.int 2]) d2=some _:=zj
  generalize upd HF d2 _=HG at gG eG ⊢
  refine⟨c2,d2,_,_,rfl,rfl,zO.of (gG _ _ eF),zO.of eG,by rw[List.length_replicate];exact zyn (zQ (by show n-1+1<=1000;omega)),fun b2 hb2=>?_⟩
  have gH:=Same.new hb2 (.lst (List.replicate (n-1) (V.int 0)++[V.int 2]))
  have eH:upd HG b2 (.lst (List.replicate (n-1) (V.int 0)++[V.int 2])) b2=some _:=zj
  generalize upd HG b2 _=HH at gH eH ⊢
  refine⟨_,rfl,by show 1<=sizeLine;decide,fun d3 hd3=>?_⟩
  have gI:=Same.new hd3 (.lst [.int (-1)])
  have eI:upd HH d3 (.lst [.int (-1)]) d3=some _:=zj
  refine⟨by show 1<=sizeLine;decide,fun a3 ha3=>?_⟩
  have gJ:=Same.new ha3 (.lst [.int 0])
  have eJ:upd (upd HH d3 (.lst [.int (-1)])) a3 (.lst [.int 0]) a3=some _:=zj
  have eI':=gJ _ _ eI
  have gIJ:=gI.trans gJ
  clear gI gJ
  generalize upd (upd HH d3 (.lst [.int (-1)])) a3 _=HJ at gIJ eJ eI' ⊢
  refine⟨_,rfl,_,_,rfl,rfl,a3,.int 0,n-1,rfl,congrArg V.int em,eJ,by omega,fun c3 hc3=>?_⟩
  have gK:=Same.new hc3 (.lst (List.replicate (n-1) (V.int 0)))
  have eK:upd HJ c3 (.lst (List.replicate (n-1) (V.int 0))) c3=some _:=zj
  generalize upd HJ c3 _=HK at gK eK ⊢
  refine⟨d3,c3,_,_,rfl,rfl,zO.of (gK _ _ eI'),zO.of eK,by rw[List.length_replicate];exact zyn (zQ (by show 1+(n-1)<=1000;omega)),fun b3 hb3=>?_⟩
  have gL:=Same.new hb3 (.lst ([V.int (-1)]++List.replicate (n-1) (V.int 0)))
  have eL:upd HK b3 (.lst ([V.int (-1)]++List.replicate (n-1) (V.int 0))) b3=some _:=zj
  generalize upd HK b3 _=HL at gL eL ⊢
  refine⟨by show 4<=sizeLine;decide,fun bl hbl=>?_⟩
  have gM:=Same.new hbl (.lst [.ref b0,.ref b1,.ref b2,.ref b3])
  have eM:upd HL bl (.lst [.ref b0,.ref b1,.ref b2,.ref b3]) bl=some _:=zj
  generalize upd HL bl _=HM at gM eM ⊢
  have h3:=gM
  have h2:=gIJ.trans (gK.trans (gL.trans gM))
  have h1:=gE.trans (gF.trans (gG.trans (gH.trans h2)))
  have h0:=gC.trans (gD.trans h1)
  have hA:=gA.trans (gB.trans h0)
  have rp:∀m:Nat,List.replicate m (V.int 0)=(List.replicate m (0:Int)).map V.int:=fun m=>by rw[List.map_replicate]
  refine hu _ _ ⟨ol,bk,p0,p1,p4,gl,pl,ql,rl,tl,bl,b0,b1,b2,b3,os,rs,F,k0,i0,j0,Hg,ls,qs,f7,_,f20,f21,f22,f23,f24,S.same hA,T1.same hA,eM,?_,rfl⟩
  rw[<-en]
  refine⟨⟨List.replicate (n+1) 0,by rw[<-rp];exact h0 _ _ eB,by rw[List.length_replicate];omega,?_⟩,⟨List.replicate (n-1) 0,by rw[<-rp];exact h1 _ _ eD,by rw[List.length_replicate];omega,?_⟩,⟨List.replicate (n-1) 0++[2],?_,by rw[zyc,List.length_replicate];show n-1+1<=1000;omega,?_⟩,⟨[-1]++List.replicate (n-1) 0,?_,by rw[zyc,List.length_replicate];show 1+(n-1)<=1000;omega,?_⟩⟩
  ·unfold uh.Rp
   rw[decide_eq_false (by rw[List.length_replicate];omega)]
   rfl
  ·unfold uh.Rp
   rw[decide_eq_false (by rw[List.length_replicate];omega)]
   rfl
  ·rw[zyi,<-rp]
   exact h2 _ _ eH
  ·unfold uh.Rp
   rw[List.all_append]
   simp
  ·rw[zyi,<-rp]
   exact h3 _ _ eL
  ·unfold uh.Rp
   rw[List.all_append]
   simp
 refine⟨_,(zf (zA 10 sc_law.nd (zJ vK (zp zM hr T.zR (za (zp yh hr T.yt (za (pv 0) (za zq zc))) (za zq (za zq zc)))) (zJ xU (zF zE rfl T.yO yp (za (pv 19) zc)) zq)))
   (zf (zA 11 sc_law.nd (yc yw (pv 9) (zp zM hr T.zR (za (zp yh hr T.yt (za (pv 0) (za zq zc))) (za zq (za zq zc)))) (fun _ _=>rfl)))
   (zf (zA 12 sc_law.nd (zJ XC (zJ XC (ZQ Nk (pv 19) Uj (Z7 (pv 10))) (yE (za (pv 11) zc))) (ZQ Nk (pv 19) (Z7 (pv 10)) Uj)))
   (zu (zL (zp ziQ hr T.zcR (za (zp za4 hr T.PN (za (pv 3) (za (pv 4) (za (pv 15) (za (pv 16) (za (pv 12) zc)))))) (za zZ zc)))))))),?_⟩
 rintro σ H ⟨ol,bk,p0,p1,p4,gl,pl,ql,rl,tl,bl,b0,b1,b2,b3,os,rs,F,k0,i0,j0,Hg,ls,qs,f7,f8,f20,f21,f22,f23,f24,S,⟨zs,rr,htl,pz,lens,ziO⟩,hbl,⟨x0,x1,x2,x3⟩,rfl⟩
 have lz:=yK pz
 have lm:(zs.map V.ref).length=zs.length:=zx4 _
 refine⟨_,rfl,sc,ns,29,rfl,S.hS,ux ns 29,0,60,rfl,by decide,by decide,by decide,fun r _ _=>?_⟩
 refine⟨_,rfl,tl,_,rfl,.inl (zO.of htl),_,_,rfl,rfl,_,_,rfl,rfl,by omega,?_⟩
 have a1:=zyK r (show(0:Int)<((zs.map V.ref).length:Int)+1 by omega)
 have a2:=zyO r (show(((zs.map V.ref).length:Int)+1)≠0 by omega)
 obtain⟨at',eat⟩:∃j:Nat,r%(((zs.map V.ref).length:Int)+1)=(j:Int):=⟨_,(Int.toNat_of_nonneg a2).symm⟩
 show WL 10 (V.int (r%(((zs.map V.ref).length:Int)+1))) _ _ _
 rw[eat] at a1 ⊢
 rw[lm] at a1
 have hat:at'<=zs.length:=by omega
 refine⟨_,rfl,_,rfl,sc,ns,29,rfl,S.hS,ux ns 29,1,4,rfl,by decide,by decide,by decide,fun r4 r40 r41=>?_⟩
 have key:∃nb:Addr,atI [V.ref b0,.ref b1,.ref b2,.ref b3] r4=some (.ref nb)/\zgO (z9 os).length H nb:=by
  rcases (by omega:r4=0\/r4=1\/r4=2\/r4=3) with e | e | e | e<;>subst e
  ·exact⟨b0,rfl,x0⟩
  ·exact⟨b1,rfl,x1⟩
  ·exact⟨b2,rfl,x2⟩
  ·exact⟨b3,rfl,x3⟩
 obtain⟨nb,enb,bs,hbs,lbs,rbs⟩:=key
 refine⟨bl,_,_,_,rfl,rfl,zO.of hbl,enb,?_⟩
 refine⟨_,rfl,_,rfl,_,rfl,tl,_,rfl,zO.of htl,fun s1 hs1=>?_⟩
 rw[zca]
 have gA:=Same.new hs1 (.lst ((zs.map V.ref).take at'))
 have eA:upd H s1 (.lst ((zs.map V.ref).take at')) s1=some _:=zj
 generalize upd H s1 _=HA at gA eA ⊢
 refine⟨_,rfl,by show 1<=sizeLine;decide,fun s2 hs2=>?_⟩
 have gB:=Same.new hs2 (.lst [V.ref nb])
 have eB:upd HA s2 (.lst [V.ref nb]) s2=some _:=zj
 generalize upd HA s2 _=HB at gB eB ⊢
 refine⟨s1,s2,_,_,rfl,rfl,zO.of (gB _ _ eA),zO.of eB,by rw[zys];exact zyn (zQ (by show _+1<=1000;omega)),fun s3 hs3=>?_⟩
 have gC:=Same.new hs3 (.lst ((zs.map V.ref).take at'++[V.ref nb]))
 have eC:upd HB s3 (.lst ((zs.map V.ref).take at'++[V.ref nb])) s3=some _:=zj
 generalize upd HB s3 _=HC at gC eC ⊢
 have gAC:=gA.trans (gB.trans gC)
 refine⟨_,rfl,_,rfl,_,rfl,tl,_,rfl,zO.of (gAC _ _ htl),fun s4 hs4=>?_⟩
 rw[zcd]
 have gD:=Same.new hs4 (.lst ((zs.map V.ref).drop at'))
 have eD:upd HC s4 (.lst ((zs.map V.ref).drop at')) s4=some _:=zj
 generalize upd HC s4 _=HD at gD eD ⊢
 refine⟨s3,s4,_,_,rfl,rfl,zO.of (gD _ _ eC),zO.of eD,by rw[zyc,zys,List.length_drop];exact zyn (zQ (by show _+1+_<=1000;omega)),fun od hod=>?_⟩
 have gE:=Same.new hod (.lst ((zs.map V.ref).take at'++[V.ref nb]++(zs.map V.ref).drop at'))
 have eE:upd HD od (.lst ((zs.map V.ref).take at'++[V.ref nb]++(zs.map V.ref).drop at')) od=some (.lst ((zs.take at'++nb::zs.drop at').map V.ref)):=by
  rw[zj,zyi,zyt,List.map_take,List.map_drop,List.append_assoc]
  rfl
 generalize upd HD od _=HE at gE eE ⊢
 have gAE:=gAC.trans (gD.trans gE)
 have SE:=S.same gAE
 have n4:=wV os
 have pI:Paired (fun p (ns:List Int)=>HE p=some (.lst (ns.map V.int))) zs (rr.map fun r=>r.map fun b=>((b.toNat:Nat):Int)):=by
  refine Lw (by rw[zx4];exact lz) fun jj x y hx hy=>?_
  rw[zx6] at hy
  obtain⟨r',hr',z⟩:=ZK pz hx
  rw[hr'] at hy
  cases hy
  rw[<-zee]
  exact gAE _ _ z
 have lI:(rr.map fun r=>r.map fun b=>((b.toNat:Nat):Int)).length=zs.length:=by rw[zx4];exact lz.symm
 have zmS:∀ns∈(rr.map fun r=>r.map fun b=>((b.toNat:Nat):Int)),ns.length<=1000/\uh.Rp (z9 os).length ns=true:=fun ns hns=>by
  obtain⟨r',hr',e⟩:=List.mem_map.mp hns
  subst e
  exact⟨by rw[zx4,lens r' hr'];omega,zb6 r' (lens r' hr')⟩
 generalize (rr.map fun r=>r.map fun b=>((b.toNat:Nat):Int))=iI at pI lI zmS
 refine⟨_,rfl,_,rfl,_,rfl,_,rfl,_,rfl,.bad bk od os rs F k0 i0 j0 (zs.take at'++nb::zs.drop at') (iI.take at'++bs::iI.drop at') at' bs rfl SE.hB SE.hW SE.hk SE.hI SE.hJ eE (Yc (zbE at' pI) (.cons (gAE _ _ hbs) (zfv at' pI))) (fun ns hns=>?_) ?_ rbs (fun y ns hy hns=>?_) fun t l H' g' ht hl=>?_⟩
 ·rcases zjz hns with h | h
  ·rw[h];exact lbs
  ·exact(zmS ns h).1
 ·rw[List.getElem?_append_right (by rw[zys];omega),zys,Nat.min_eq_left (by omega),Nat.sub_self]
  rfl
 ·rw[zyB (by rw[zys];omega)] at hns
  exact(zmS ns (List.mem_of_mem_take (zx9 hns))).2
 ·exact⟨t,l,"row", rfl,ht,zO.of hl,fun H'' _=>q _⟩
theorem zor (T:Txt P w K mg a)(base:Heap):zB P w K mg base zX 60 a.a_law a.d_law p_law (zjl K):=by
 have cell:zB P w K mg base zX 1 a.xH a.xJ yU (K1 K):=ziC (k:=0) T
 have draw:zB P w K mg base zX 1 a.xY a.xZ xr Vt:=zon (k:=0) T
 have sentence:=zhg (k:=1) T cell draw
 have zf1:zB P w K mg base zX 2 a.Yd a.Ye Zd Xe:=zhf (k:=1) T
 have Nh:zB P w K mg base zX 1 a.vW a.vX vf uQ:=zfN (k:=0) T
 have flipped:=ziB (k:=1) T Nh
 have zmT:zB P w K mg base zX 1 a.Sx a.Sy Vh T4:=ziE (k:=0) T
 have zos:=zhh (k:=1) T zmT
 have lettersOf:zB P w K mg base zX 1 a.Y0 a.Y4 Zo Wg:=zdz (k:=0) T
 have partsOf:zB P w K mg base zX 1 a.Yg a.Yh Ze Xg:=zhi (k:=0) T
 have zda:=zbg (k:=1) T partsOf
 have shaped:=zfO (k:=1) T zmT lettersOf partsOf
 have zr4:=zcW (k:=2) T shaped zda
 have zkU:=zaE (k:=2) T zos
 have zot:=Ms (k:=3) T zr4
 have zmU:=zfP (k:=2) T zda
 have zkV:=zdB (k:=3) T zmU (lettersOf.mono (by decide))
 have zmV:zB P w K mg base zX 1 a.Zu a.Zv uz (Rq K):=JR (k:=0) T
 have zkW:=Kl (k:=4) T zkV (zmV.mono (by decide))
 have two:zB P w K mg base zX 2 a.Zg a.Zh uD zgl:=zbh (k:=1) T
 have table:=za2 (k:=2) T zf1 (Nh.mono (by decide)) flipped (partsOf.mono (by decide)) two 24
 have ziR:=ziG (k:=2) T (Nh.mono (by decide)) flipped
 have hangs:=zhl (k:=2) T flipped
 have first:=zcX (k:=3) T hangs
 have zmW:=Uh (k:=4) T first (ziR.mono (by decide)) 9
 have enter:=zcZ (k:=26) T (zot.mono (by decide)) (zkW.mono (by decide)) table (zmW.mono (by decide))
 have init:=zfR (k:=3) T zkU (zf1.mono (by decide))
 have mbr:zB P w K mg base zX 1 a.wW a.wX wj (Vu a.zy):=P0 (k:=0) T
 have tat:zB P w K mg base zX 1 a.xu a.xG yS (Zn a.zy):=zaG (k:=0) T
 have zdQ:zB P w K mg base zX 1 a.yV a.yW yL (xP (yD a.zy)):=zdD (k:=0) T
 have zdb:zB P w K mg base zX 1 a.Vk a.Vl Xj Vf:=ziJ (k:=0) T
 have zou:=zkM (k:=1) T zdb
 have ux:zB P w K mg base zX 1 a.xH a.xJ yU (NQ K):=zkL (k:=0) T
 have zmX:=ziK (k:=2) T flipped
 have moved:=zmI (k:=3) T ziR (Nh.mono (by decide)) (zou.mono (by decide))
 have z9:=zfS (k:=1) T zdQ
 have uX:=zdE (k:=1) T zdQ
 have zjX:=zdF (k:=2) T (zdQ.mono (by decide)) z9
 have ziS:=zc2 (k:=2) T (zdQ.mono (by decide)) uX
 have after:=zmL (k:=4) T (zdQ.mono (by decide)) (tat.mono (by decide)) (zjX.mono (by decide)) (ziS.mono (by decide)) (zmX.mono (by decide)) moved
 have before:=zkO (k:=4) T (zdQ.mono (by decide)) (tat.mono (by decide)) (zjX.mono (by decide)) (ziS.mono (by decide)) (zmX.mono (by decide)) moved
 have zqe:=zaI (k:=1) T zdQ
 have zus:=JW (k:=3) T (zdQ.mono (by decide)) (tat.mono (by decide)) (mbr.mono (by decide)) ziS hangs
 have zmY:=Qp (k:=4) T (zqe.mono (by decide)) (mbr.mono (by decide)) zus
 have zr5:=zbk (k:=5) T (tat.mono (by decide)) after (zdb.mono (by decide))
 have ziT:zB P w K mg base zX 1 a.vh a.vm wI (U6 K):=ziL (k:=0) T
 have zqf:=zfW (k:=1) T draw
 have zqg:=zbm (k:=1) T ziT
 have zov:=zdG (k:=1) T draw ziT
 have zr6:=zhn (k:=2) T (ux.mono (by decide)) (draw.mono (by decide)) sentence zqf zqg
 have zr7:=JX (k:=2) T (ux.mono (by decide)) (draw.mono (by decide)) sentence (ziT.mono (by decide)) zov
 have zmZ:zB P w K mg base zX 1 a.ZC a.ZD uU Vg:=zho (k:=0) T
 have lval:=zeI (k:=1) (base:=base) (K:=K) T 24
 have pair:=zhp (k:=1) T ziT
 have graph:=zfX (k:=25) T (ziT.mono (by decide)) (zmZ.mono (by decide)) lval (pair.mono (by decide))
 have places:=zdI (k:=25) T (ziT.mono (by decide)) (zmZ.mono (by decide)) lval (pair.mono (by decide))
 have Jd:zB P w K mg base zX 1 a.Pj a.Pk T9 (K5 K):=zkN (k:=0) T
 have zjY:=zc0 (k:=1) T Jd
 have zr8:=zbn (k:=3) (K:=K) T ziR
 have having:=zc5 (k:=2) (K:=K) T zf1 (Nh.mono (by decide)) (zdb.mono (by decide))
 have zut:=zbo (k:=4) (K:=K) T zr8 (zjX.mono (by decide)) (zdQ.mono (by decide))
 have only:=zoq (k:=3) (K:=K) T having zjX (zdQ.mono (by decide))
 have through:=zc7 (k:=5) (K:=K) T zut before (only.mono (by decide))
 have zr9:=zkQ (k:=6) (K:=K) T (zmY.mono (by decide)) zr5 (tat.mono (by decide)) through
 have shows:=zdL (k:=6) (K:=K) T (zmY.mono (by decide)) (z9.mono (by decide)) (zjY.mono (by decide)) (only.mono (by decide)) (tat.mono (by decide)) (after.mono (by decide))
 have zuu:zB P w K mg base (CXE P w) 2 a.tH a.tK v9 (zmv a.wO K):=(zjY.lift (CX:=CXE P w)).orE (zbl (k:=1) T Jd)
 have zqh:=zdM (k:=6) (K:=K) T (zmY.mono (by decide)) (z9.mono (by decide)) (zuu.mono (by decide))
 have zuv:zB P w K mg base (CXE P w) 7 a.Wo a.Wq Ys (zmw a.zy a.wO K):=(shows.lift (CX:=CXE P w)).orE zqh
 have which:∀ex,zeC P w K mg base ex 57 a.X5 a.X6 Z1 (Jo K a.wk (cs9 a) ex):=fun ex=>zfY (k:=56) T ex
 have isB:zB P w K mg base zX 1 a.RZ a.R3 VH (zjQ K):=zkR (k:=0) T
 have met:=ziP (k:=57) T (zuv.mono (by decide)) which
 have walk:=zhq (k:=1) T draw
 have zqi:=zdN (k:=1) T draw
 exact ok_law (k:=58) T (ux.mono (by decide)) (draw.mono (by decide)) (zr6.mono (by decide)) (zr7.mono (by decide)) (ziT.mono (by decide)) (zmZ.mono (by decide)) (graph.mono (by decide)) (places.mono (by decide)) (walk.mono (by decide)) (zqi.mono (by decide)) (zr9.mono (by decide)) (met.mono (by decide)) (isB.mono (by decide)) (init.mono (by decide)) (enter.mono (by decide))
end
end K76
namespace PySem.W.Fast
def tw14346837484232898384:Nat:=0
def tw16947692388800495883:Nat:=0
def tw12386751390510685677:Nat:=0
def tw478831992653051865:Nat:=0
def tw11179970291579484512:Nat:=0
def tw7006815230165645815:Nat:=0
def tw4753451373137081465:Nat:=0
def tw410527054686913749:Nat:=0
def tw16375735466358822233:Nat:=0
def tw9889411993987318529:Nat:=0
def tw4890451654526983688:Nat:=0
def tw11319833220606557568:Nat:=0
def tw5651911042034029596:Nat:=0
def tw11054486427288642481:Nat:=0
def tw11352253244255924171:Nat:=0
def tw1366331269713436906:Nat:=0
def tw6842284025397871646:Nat:=0
def tw16395771147885851834:Nat:=0
def tw1833750426819438864:Nat:=0
def tw15386287622829926271:Nat:=0
def tw5243444761219352618:Nat:=0
def tw8358235629757673855:Nat:=0
def tw3852420750104038565:Nat:=0
def tw9398596310887663886:Nat:=0
def tw15155071416664060052:Nat:=0
def tw15901970570977607783:Nat:=0
def tw15568141087681010347:Nat:=0
def tw11209323521257087910:Nat:=0
def tw14305448671392534543:Nat:=0
def tw17778166725203145307:Nat:=0
def tw1023229501612962531:Nat:=0
def tw4071797383746976591:Nat:=0
def tw11847037183166080604:Nat:=0
def tw10486923295350813260:Nat:=0
def tw18334770943779604034:Nat:=0
def tw5909317924287898411:Nat:=0
def tw5521509281235344846:Nat:=0
def tw16327937244276158275:Nat:=0
def tw16689067016230054227:Nat:=0
def tw3638442827875554549:Nat:=0
def tw18093921862000148556:Nat:=0
def tw8691402029998730336:Nat:=0
def tw109329888760118900:Nat:=0
def tw122956562269222755:Nat:=0
def tw10806530131371369602:Nat:=0
def tw17772924211497097558:Nat:=0
def tw9566076403310765269:Nat:=0
def tw14358752603432669522:Nat:=0
def tw11489235474493059690:Nat:=0
def tw13262099071906330931:Nat:=0
def tw12769725298973024379:Nat:=0
def tw14106996137558608627:Nat:=0
def tw11885254669828351949:Nat:=0
def tw17318036094088962815:Nat:=0
def tw15359965727324604168:Nat:=0
def tw5073405615235716509:Nat:=0
def tw17988294978748583747:Nat:=0
def tw281079565453808035:Nat:=0
def tw5207327652881574113:Nat:=0
def tw7825622293044640545:Nat:=0
def tw14259007618851005061:Nat:=0
def tw9048518521473962606:Nat:=0
def tw3054296964929456786:Nat:=0
def tw6716180695778344386:Nat:=0
def tw11321492377030835138:Nat:=0
def tw4629192147188966810:Nat:=0
def tw4415520374746365838:Nat:=0
def tw7129422876771032175:Nat:=0
def tw13713378254071391520:Nat:=0
def tw3542024663870455989:Nat:=0
def tw8590137078012907763:Nat:=0
def tw5016440097490687066:Nat:=0
def tw9127795220593570621:Nat:=0
def tw3296838027534102385:Nat:=0
def tw3188200046638371588:Nat:=0
def tw16200747985177994151:Nat:=0
def tw2181455102199043318:Nat:=0
def tw13351724274655659399:Nat:=0
def tw2841722843740063536:Nat:=0
def tw8500599502946683299:Nat:=0
def tw3564245899389233110:Nat:=0
def tw7225154815328864218:Nat:=0
def tw7425050794786150956:Nat:=0
def tw18272182844184013934:Nat:=0
def tw4671136144589410848:Nat:=0
def tw11765149613863274601:Nat:=0
def tw7968875048361595009:Nat:=0
def tw16540988079375508181:Nat:=0
def tw12993181010592086624:Nat:=0
def tw8535844141339133926:Nat:=0
def tw4525629329472368335:Nat:=0
def tw16580003269008966297:Nat:=0
def tw2872813492038863666:Nat:=0
def tw16470429514171303737:Nat:=0
def tw4987534506092337015:Nat:=0
def tw13421605406172449687:Nat:=0
def tw11930606328129978771:Nat:=0
def tw8850961332567314376:Nat:=0
def tw8826974849016306330:Nat:=0
def tw16176981576088516087:Nat:=0
def tw11975005090379939806:Nat:=0
def tw15459245801377147593:Nat:=0
def tw1602288493625478316:Nat:=0
def tw4783152756447380313:Nat:=0
def tw4297867804754601899:Nat:=0
def tw8212561274113064195:Nat:=0
def tw16551282870504595175:Nat:=0
def tw5179905596153055568:Nat:=0
def tw12804104259418772778:Nat:=0
def tw17134939055853312089:Nat:=0
def tw12459589600329529313:Nat:=0
def tw2836301653606497734:Nat:=0
def tw9240977012915266354:Nat:=0
def tw13765772038851325811:Nat:=0
def tw9405537930136085527:Nat:=0
def tw9459213180489214208:Nat:=0
def tw11493611932226774781:Nat:=0
def tw4520362287577619886:Nat:=0
def tw1134174160781350562:Nat:=0
def tw18330639247168707418:Nat:=0
def tw16736788876317321036:Nat:=0
def tw11750757498684443248:Nat:=0
def tw1921912466884818938:Nat:=0
def tw3105015010228897074:Nat:=0
def tw11732994521466084031:Nat:=0
def tw3806057748909036908:Nat:=0
def tw11038504716599986829:Nat:=0
def tw5026129558681649919:Nat:=0
def tw5286431793181250969:Nat:=0
def tw5941140838234329019:Nat:=0
def tw13659657431499509806:Nat:=0
def tw3481731936697380167:Nat:=0
def tw7560881260551161509:Nat:=0
def tw17772590666887898760:Nat:=0
def tw3657226604508215214:Nat:=0
def tw2873096098510654477:Nat:=0
def tw7891903541611317251:Nat:=0
def tw4294465597348674979:Nat:=0
def tw12074107501510171538:Nat:=0
def tw1908714711816615471:Nat:=0
def tw3233421612824186425:Nat:=0
def tw502778953158181541:Nat:=0
def tw12268036436856126910:Nat:=0
def tw3301362635946556112:Nat:=0
def tw8227945455001162798:Nat:=0
def tw809832616797654929:Nat:=0
def tw3937367285303756067:Nat:=0
def tw15749685673497308246:Nat:=0
def tw12367913056073891683:Nat:=0
def tw13266851838815517418:Nat:=0
def tw11394766948011305352:Nat:=0
def tw5532377072356152927:Nat:=0
def tw16677932397511197468:Nat:=0
def tw14434447643187309811:Nat:=0
def tw5815122395212073847:Nat:=0
def tw7271580880419373274:Nat:=0
def tw7803478064453814776:Nat:=0
def tw16472704546346210981:Nat:=0
def tw304765458824912973:Nat:=0
def tw544599725339936276:Nat:=0
def tw9942034614090593962:Nat:=0
def tw5405805550059891455:Nat:=0
def tw6836619962280050195:Nat:=0
def tw6263488853146171018:Nat:=0
def tw4220735046756836332:Nat:=0
def tw9487111335722353994:Nat:=0
def tw16166235944603234182:Nat:=0
def tw16772276243628617281:Nat:=0
def tw13798897062454715546:Nat:=0
def tw12691843741000953997:Nat:=0
def tw4371608875862199808:Nat:=0
def tw13682231622320071646:Nat:=0
def tw11897822326458382820:Nat:=0
def tw13253189648577287550:Nat:=0
def tw6102767010890137470:Nat:=0
def tw1011702437508418200:Nat:=0
def tw375845347033805118:Nat:=0
def tw11115556655140616858:Nat:=0
def tw12091553478088955521:Nat:=0
def tw13111243126828534213:Nat:=0
def tw5772327432228603068:Nat:=0
def tw10785258079755349546:Nat:=0
def tw5063253908396947784:Nat:=0
def tw6515688484972652930:Nat:=0
def tw8154308012459768933:Nat:=0
def tw16244006339203832966:Nat:=0
def tw8698751955110341267:Nat:=0
def tw4390134287954243361:Nat:=0
def tw1593209352055823211:Nat:=0
def tw991131332750361819:Nat:=0
def tw10107503736713124404:Nat:=0
def tw2006177262596531497:Nat:=0
def tw11630109276680673541:Nat:=0
def tw12869994395639462381:Nat:=0
def tw3614139131251713180:Nat:=0
def tw5927476487304707903:Nat:=0
def tw17423247340187899109:Nat:=0
def tw7382336264320101891:Nat:=0
def tw8179338153557110139:Nat:=0
def tw18018678416815904852:Nat:=0
def tw12684159818094192259:Nat:=0
def tw9180274470133638581:Nat:=0
def tw496016104025869293:Nat:=0
def tw16861434641883840846:Nat:=0
def tw1379206423205672722:Nat:=0
def tw4824729963410692654:Nat:=0
def tw13709747460039612398:Nat:=0
def tw8195165036197883438:Nat:=0
def tw16206678808267928293:Nat:=0
def tw1900178760926274168:Nat:=0
def tw2214550257061089571:Nat:=0
def tw15767045103911067897:Nat:=0
def tw1537882115015221306:Nat:=0
def tw16409512895478251036:Nat:=0
def tw10871494886375315570:Nat:=0
def tw9848777361816601905:Nat:=0
def tw384947465718394196:Nat:=0
def tw7524822272799892386:Nat:=0
def tw6941510546958709999:Nat:=0
def tw18403659031842941955:Nat:=0
def tw2932356381258297592:Nat:=0
def tw14946941012706518015:Nat:=0
def tw12464047641627572202:Nat:=0
def tw1039456869414043182:Nat:=0
def tw18441167618350392781:Nat:=0
def tw11164993453696095269:Nat:=0
def tw4551449117656630484:Nat:=0
def tw803816396052578798:Nat:=0
def tw4821597693932972230:Nat:=0
def tw1958801104731487091:Nat:=0
def tw10656405420655835925:Nat:=0
def tw8343746622904756160:Nat:=0
def tw8472625712244884397:Nat:=0
def tw7143022049680973647:Nat:=0
def tw14678742061110408125:Nat:=0
def tw9497847733255840730:Nat:=0
def tw18196857078708385274:Nat:=0
def tw1330574000867868081:Nat:=0
def tw12876832496424430932:Nat:=0
def tw3138393059476021784:Nat:=0
def tw17178866010273802195:Nat:=0
def tw5688392057354659637:Nat:=0
def tw10880065169518901780:Nat:=0
end PySem.W.Fast
open PySem PySem.W PyProof.Rows
set_option maxRecDepth 100000 in
set_option maxHeartbeats 0 in
theorem PySem.Challenge.cw_decidebook_k76_ways_judged_holds : PySem.Challenge.rw_decidebook_k76_ways_judged.Holds := by
  w_on;o_law;k_head;(case hw => w_witness2)
  k_fill
  refine L2.zll (l := PySem.Challenge.rw_decidebook_k76_ways_judged) (n := 63) (k := 60) (x := "script") (CX := L2.zX) (sp := uh.zjl) rfl (by decide) rfl (by first | exact⟨rfl, by decide, by decide⟩ | exact⟨rfl, rfl, by decide, by decide⟩) (fun w h Y => PySem.W.kIn_of Y) ?F ?S ?C
  case F =>
    intro w mg fa h KX G hmg
    have T : ∃a, K76.Txt PySem.Challenge.rw_decidebook_k76_ways_judged.prog w (L2.KOf KX) mg a := by
      dsimp only[L2.KOf]
      apply K76.zrF
      constructor
      iterate 12 ((try dsimp only);apply mg_of KX G;k_is)
      iterate 64 ((try dsimp only);apply L2.dfm KX G;k_is;k_is;k_is;k_is;intro _ _ _ _ _ _ us hl;first|(have z:=L2.Mj hl;subst z;rfl)|(obtain⟨_,us,e,hm⟩:=L2.K7 hl;clear hl;subst e;have hl:=hm;clear hm;first|(have z:=L2.Mj hl;subst z;rfl)|(obtain⟨_,us,e,hm⟩:=L2.K7 hl;clear hl;subst e;have hl:=hm;clear hm;first|(have z:=L2.Mj hl;subst z;rfl)|(obtain⟨_,us,e,hm⟩:=L2.K7 hl;clear hl;subst e;have hl:=hm;clear hm;first|(have z:=L2.Mj hl;subst z;rfl)|(obtain⟨_,us,e,hm⟩:=L2.K7 hl;clear hl;subst e;have hl:=hm;clear hm;first|(have z:=L2.Mj hl;subst z;rfl)|(obtain⟨_,us,e,hm⟩:=L2.K7 hl;clear hl;subst e;have hl:=hm;clear hm;first|(have z:=L2.Mj hl;subst z;rfl)|(obtain⟨_,us,e,hm⟩:=L2.K7 hl;clear hl;subst e;have hl:=hm;clear hm;first|(have z:=L2.Mj hl;subst z;rfl)|(obtain⟨_,us,e,hm⟩:=L2.K7 hl;clear hl;subst e;have hl:=hm;clear hm;(have z:=L2.Mj hl;subst z;rfl)))))))))
      iterate 11 ((try dsimp only);apply L2.dmm;k_is;k_is;k_is;k_is;k_is;intro _ _ _ _ _ _ us hl;first|(have z:=L2.Mj hl;subst z;rfl)|(obtain⟨_,us,e,hm⟩:=L2.K7 hl;clear hl;subst e;have hl:=hm;clear hm;first|(have z:=L2.Mj hl;subst z;rfl)|(obtain⟨_,us,e,hm⟩:=L2.K7 hl;clear hl;subst e;have hl:=hm;clear hm;first|(have z:=L2.Mj hl;subst z;rfl)|(obtain⟨_,us,e,hm⟩:=L2.K7 hl;clear hl;subst e;have hl:=hm;clear hm;first|(have z:=L2.Mj hl;subst z;rfl)|(obtain⟨_,us,e,hm⟩:=L2.K7 hl;clear hl;subst e;have hl:=hm;clear hm;first|(have z:=L2.Mj hl;subst z;rfl)|(obtain⟨_,us,e,hm⟩:=L2.K7 hl;clear hl;subst e;have hl:=hm;clear hm;first|(have z:=L2.Mj hl;subst z;rfl)|(obtain⟨_,us,e,hm⟩:=L2.K7 hl;clear hl;subst e;have hl:=hm;clear hm;first|(have z:=L2.Mj hl;subst z;rfl)|(obtain⟨_,us,e,hm⟩:=L2.K7 hl;clear hl;subst e;have hl:=hm;clear hm;(have z:=L2.Mj hl;subst z;rfl)))))))))
      iterate 2 ((try dsimp only);constructor;k_is;k_is;k_is;k_is)
      iterate 4 ((try dsimp only);unfold L2.Vr;k_is)
      iterate 10 ((try dsimp only);apply L2.zob;k_is;k_is)
      iterate 5 ((try dsimp only);apply L2.zod;k_exc;k_is;k_is;k_is;rfl)
      (try dsimp only);apply L2.zoc;k_is;k_is;k_is
      (try dsimp only);refine of_decide_eq_true ?_;rfl
      (try dsimp only);apply mg_none_of KX G;k_is
      (try dsimp only);apply mg_of KX G;k_is
      (try dsimp only);apply L2.ze9;k_is;rfl;decide
      iterate 3 ((try dsimp only);apply mg_of KX G;k_is)
      (try dsimp only);apply L2.zpw;k_is;rfl;(unfold K76.wM;decide +kernel);(unfold K76.wM;iterate 10 (apply L2.Ent.cons;k_is;rfl));apply L2.Ent.nil
      (try dsimp only);apply mg_of KX G;k_is
      (try dsimp only);apply L2.ze9;k_is;rfl;show 4<=1000;decide
      iterate 4 ((try dsimp only);apply L2.ze9;k_is;rfl;decide)
      iterate 16 ((try dsimp only);apply mg_none_of KX G;k_is)
    obtain⟨a, T⟩ := T
    have e0 := hmg.symm.trans T.f_law.m
    cases e0
    exact⟨_, K76.x_law T.f_law, fun base kb nb => K76.zor T base⟩
  case S => exact fun K H a ns hl hO hS => ⟨a, ns, rfl, hS, hl, fun _ => rfl⟩
  case C => exact fun _ _ _ _ h => h
