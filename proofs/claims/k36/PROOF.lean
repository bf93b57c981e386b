import PyProof.Rows.All
import Wide.All
import OpenK.AllK
import Wide.FinOn
import Lean
import PyProof.EqAt
import PyProof.EqKinds
import PyProof.TupleCall
import KE.KRevIter
import OpenK.KOwn
import PyProof.Draws
import PyProof.EnumMake
import PyProof.StrBlockI
import PyProof.StrBlock2
import PyProof.DictValues
import PyProof.DictWalks
import PySem.Challenge.RW_decidebook_k36_loads_told_and_judged
open PySem.W (Frag nsIn mg_of findIn mg_none_of)
def zqI:=@List.length_map
def zqJ:=@List.getElem?_eq_getElem
def zqK:=@List.getElem?_map
def zqL:=@List.getElem?_eq_some_iff
def zqM:=@Bool.false_ne_true
def zqN:=@List.mem_of_getElem?
def zqO:=@PySem.Heap.get?_push_of_some
def zqP:=@PySem.Heap.lt_size
def zqQ:=@List.length_append
def zqR:=@Nat.lt_of_lt_of_le
def zqS:=@List.size_toArray
def zqT:=@List.mem_cons_of_mem
def zqU:=@List.length_cons
def zqV:=@List.getD_eq_getElem?_getD
def zqW:=@List.map_append
def zqX:=@Nat.ne_of_lt
def zqY:=@Nat.le_refl
def zqZ:=@List.mem_append_right
def zq0:=@Nat.le_of_lt
def zq1:=@List.mem_cons_self
def zq2:=@PySem.Heap.get?_push_size
def zq3:=@Nat.le_trans
def zq4:=@Nat.zero_le
def zq5:=@List.length_take
def zq6:=@List.map_cons
def zq7:=@List.lookup_cons
def zq8:=@List.not_mem_nil
def zq9:=@Bool.and_eq_true
def zra:=@List.take_length
def zrb:=@List.all_eq_true
def zrc:=@Option.some.inj
def zrd:=@Nat.pow_le_pow_right
def zre:=@List.getElem?_append_left
def zrf:=@List.length_singleton
def zrg:=@List.length_filter_le
def zrh:=@List.getElem?_eq_none
def zri:=@Nat.le_add_right
def zrj:=@List.map_map
def zrk:=@Int.toNat_natCast
def zrl:=@Int.emod_lt_of_pos
def zrm:=@Bool.eq_iff_iff
def zrn:=@List.getElem_mem
def zro:=@List.getElem_of_mem
def zrp:=@Int.emod_nonneg
set_option Elab.async false
set_option linter.all false
set_option maxRecDepth 100000
namespace L2
open PySem PySem.Spec PyProof.Rows
abbrev Key:=Sum Int Str
def K1:Key->Value->Bool
 | .inl k,v=>Value.isInt k v
 | .inr x,v=>Value.isStrOf x v
def zmy (w:World):Key->Int
 | .inl k=>hashInt k
 | .inr x=>hashStr w x
theorem yS:∀{k:Key} {v:Value},K1 k v=true->(∃i t,k=Sum.inl i/\v=Value.int i t)\/(∃x t,k=Sum.inr x/\v=Value.str x t)
 | .inl i,v,h=>by
  obtain⟨t,e⟩:=Value.isInt_shape (k:=i) (v:=v) h
  exact .inl ⟨i,t,rfl,e⟩
 | .inr x,v,h=>by
  obtain⟨t,e⟩:=Value.isStrOf_shape (x:=x) (v:=v) h
  exact .inr ⟨x,t,rfl,e⟩
theorem zff (i:Int)(t:Tok):K1 (.inl i) (.int i t)=true:=by simp[K1,Value.isInt]
theorem zfg (x:Str)(t:Tok):K1 (.inr x) (.str x t)=true:=by simp[K1,Value.isStrOf]
theorem zji (a b:Int):decide ((Sum.inl a:Key)=Sum.inl b)=(a==b):=by
 by_cases e:a=b
 ·subst e;simp
 ·have h:¬(Sum.inl a:Key)=Sum.inl b:=fun q=>e (Sum.inl.inj q)
  rw[decide_eq_false h]
  exact(beq_eq_false_iff_ne.mpr e).symm
theorem zjj (a b:Str):decide ((Sum.inr a:Key)=Sum.inr b)=decide (a=b):=by
 by_cases e:a=b
 ·subst e;simp
 ·have h:¬(Sum.inr a:Key)=Sum.inr b:=fun q=>e (Sum.inr.inj q)
  rw[decide_eq_false h,decide_eq_false e]
theorem zjk (a:Int)(b:Str):decide ((Sum.inl a:Key)=Sum.inr b)=false:=decide_eq_false (fun q=>nomatch q)
theorem zjl (a:Str)(b:Int):decide ((Sum.inr a:Key)=Sum.inl b)=false:=decide_eq_false (fun q=>nomatch q)
def yc (prog:Program)(w:World):PySem.KeyKind prog w Key where
 is:=K1
 hash:=zmy w
 inj:=fun v a b ha hb=>by
  rcases yS ha with ⟨i,t,rfl,rfl⟩ | ⟨x,t,rfl,rfl⟩
  ·rcases yS hb with ⟨j,u,rfl,e⟩ | ⟨y,u,rfl,e⟩
   ·injection e with e1 _;rw[e1]
   ·exact nomatch e
  ·rcases yS hb with ⟨j,u,rfl,e⟩ | ⟨y,u,rfl,e⟩
   ·exact nomatch e
   ·injection e with e1 _;rw[e1]
 byValue:=fun k v h=>by
  rcases yS h with ⟨i,t,rfl,rfl⟩ | ⟨x,t,rfl,rfl⟩<;>rfl
 pyHash:=fun hv h=>by
  rcases yS hv with ⟨i,t,rfl,rfl⟩ | ⟨x,t,rfl,rfl⟩
  ·exact wpAny_pyHash_int h
  ·exact wpAny_pyHash_str h
 eqBool:=fun hu hv h=>by
  rcases yS hu with ⟨i,t,rfl,rfl⟩ | ⟨x,t,rfl,rfl⟩
  ·rcases yS hv with ⟨j,u,rfl,rfl⟩ | ⟨y,u,rfl,rfl⟩
   ·rw[zji] at h;exact wpAny_eqBool_int h
   ·rw[zjk] at h;exact SeqAt.EqAt.int_str i t y u _ _ _ _ h
  ·rcases yS hv with ⟨j,u,rfl,rfl⟩ | ⟨y,u,rfl,rfl⟩
   ·rw[zjl] at h;exact SeqAt.EqAt.str_int x t j u _ _ _ _ h
   ·rw[zjj] at h;exact wpAny_eqBool_str h
 «strs»:=fun k x t v h=>by
  rcases yS h with ⟨i,u,rfl,e⟩ | ⟨y,u,rfl,e⟩
  ·exact nomatch e
  ·injection e with e1 _
   subst e1
   cases v<;>rfl
theorem zdw (prog:Program)(w:World)(k:Key)(v:Value):(yc prog w).is k v=K1 k v:=rfl
theorem zcv (prog:Program)(w:World)(i:Int)(t:Tok):(yc prog w).is (.inl i) (.int i t)=true:=zff i t
theorem zcw (prog:Program)(w:World)(x:Str)(t:Tok):(yc prog w).is (.inr x) (.str x t)=true:=zfg x t
inductive V where
 | non | bl (b:Bool) | int (i:Int) | str (x:Str) | byt (b:Array UInt8) | flt (b:UInt64) | ref (a:Addr) | ty (n:String)
 deriving DecidableEq
def RelV:V->Value->Prop
 | .non,u=>u=Value.none
 | .bl b,u=>u=Value.bool b
 | .int i,u=>∃t,u=Value.int i t
 | .str x,u=>∃t,u=Value.str x t
 | .byt b,u=>∃t,u=Value.bytes b t
 | .flt b,u=>∃t,u=Value.float b t
 | .ref a,u=>u=Value.ref a
 | .ty n,u=>u=Value.type n
abbrev Vals:List V->List Value->Prop:=Paired RelV
theorem Vals.length {xs:List V}{us:List Value}(r:Vals xs us):xs.length=us.length:=Paired.length r
theorem Vals.get:∀{xs:List V} {us:List Value} {i:Nat} {x:V},Vals xs us->xs[i]?=some x->∃u,us[i]?=some u/\RelV x u
 | _,_,_,_,.nil,e=>by simp at e
 | _,_,0,_,.cons r _,e=>by simp at e;subst e;exact⟨_,rfl,r⟩
 | _,_,i+1,x,.cons _ t,e=>by
  obtain⟨u,h1,h2⟩:=Vals.get (i:=i) (x:=x) t (by simpa using e)
  exact⟨u,by simpa using h1,h2⟩
theorem Vals.set {x:V}{u:Value}(r:RelV x u):∀{xs:List V} {us:List Value} (i:Nat),Vals xs us->Vals (xs.set i x) (us.set i u)
 | _,_,_,.nil=>.nil
 | _,_,0,.cons _ t=>.cons r t
 | _,_,i+1,.cons q t=>.cons q (Vals.set r i t)
theorem Vals.append:∀{xs ys:List V} {us ws:List Value},Vals xs us->Vals ys ws->Vals (xs++ys) (us++ws)
 | _,_,_,_,.nil,s=>s
 | _,_,_,_,.cons r t,s=>.cons r (Vals.append t s)
theorem Vals.take:∀{xs:List V} {us:List Value} (n:Nat),Vals xs us->Vals (xs.take n) (us.take n)
 | _,_,0,_=>.nil
 | _,_,_+1,.nil=>.nil
 | _,_,n+1,.cons r t=>.cons r (Vals.take n t)
theorem Vals.drop:∀{xs:List V} {us:List Value} (n:Nat),Vals xs us->Vals (xs.drop n) (us.drop n)
 | _,_,0,r=>r
 | _,_,_+1,.nil=>.nil
 | _,_,n+1,.cons _ t=>Vals.drop n t
def Ri:Option V->Option Value->Prop
 | some v,some u=>RelV v u
 | none,none=>True
 | _,_=>False
def KV {κ:Type}:List (κ×V)->List (κ×Value)->Prop:=Paired fun(p:κ×V) (q:κ×Value)=>p.1=q.1/\RelV p.2 q.2
def kV:Key->V
 | .inl i=>.int i
 | .inr x=>.str x
inductive HO where
 | lst (xs:List V)
 | tup (xs:List V)
 | dK (kvs:List (Key×V)) | dT (kvs:List (List Key×V))
 | set (S:Int->Bool) (n:Nat)
 | ins (C dx:Addr) (fs:List (Str×V))
 | own (x:Addr)
 | xd (fs:List (Str×V))
 | met (f x:Addr)
 | rng (lo hi:Int)
 | Qw (o:Obj) (u:HO)
 | Rj (ps:Array Value)
 | ext (φ:Heap->Prop)
abbrev Hp:=Addr->Option HO
def upd (H:Hp)(a:Addr)(o:HO):Hp:=fun b=>if b=a then some o else H b
theorem zf {H:Hp}{a:Addr}{o:HO}:upd H a o a=some o:=by unfold upd;rw[if_pos rfl]
theorem zE {H:Hp}{a b:Addr}{o:HO}(h:b≠a):upd H a o b=H b:=by unfold upd;rw[if_neg h]
theorem zhw {H:Hp}{a:Addr}{o u:HO}:upd (upd H a o) a u=upd H a u:=by
 funext b;unfold upd;split<;>rfl
theorem Wi {H:Hp}{a b:Addr}{o u:HO}(h:H a=some o)(h':H b=some u)(d:o≠u):a≠b:=by
 intro e;subst e;rw[h] at h';exact d (zrc h')
theorem zB {H:Hp}{a b:Addr}{o:HO}(h:H a=some o)(h':H b=none):a≠b:=by
 intro e;subst e;rw[h] at h';cases h'
section
variable (P:Program)(w:World)
def xO (H:Hp)(h:Heap)(a:Addr):HO->Prop
 | .lst xs=>xs.length<=sizeLine/\∃(its:List Value) (n:Nat),Vals xs its/\h.get? a=some { cls:=.type "list", data:=.seq its.toArray n }
 | .tup xs=>xs.length<=sizeLine/\∃its:List Value,Vals xs its/\IsTup h a its.toArray
 | .dK kvs=>kvs.length<=sizeLine/\(a==sysModules)=false/\∃vs,KV kvs vs/\h.DictOf (yc P w) a vs
 | .dT kvs=>kvs.length<=sizeLine/\(a==sysModules)=false/\∃xs:List (List Key×Addr×Value),
   Paired (fun(p:List Key×V) (q:List Key×Addr×Value)=>p.1=q.1/\H q.2.1=some (.tup (p.1.map kV))/\RelV p.2 q.2.2) kvs xs /\
   ∃o es ep,h.get? a=some o/\o.ExactDict/\o.data=.dict es ep/\es.toList=xs.map (entryOfKey (tupleKind (yc P w)))/\(xs.map (·.1)).Nodup
 | .set S n=>h.SetOf (intKind P w) a S n
 | .ins C dx fs=>H dx=some (.own a)/\fs.length<=1000/\dx≠a/\h.get? a=some (PySem.W.instObj C dx) /\
   ∃mA,h.Ns1 dx mA/\(∀f,Ri (fs.lookup f) (mA f))/\PySem.Within mA (fs.map (·.1))
 | .own _=>∃o,h.get? a=some o
 | .xd fs=>∃mA,h.Ns1 a mA/\∀f,Ri (fs.lookup f) (mA f)
 | .rng lo hi=>∃t u v,h.get? a=some { cls:=.type "range", data:=.fields #[.int lo t,.int hi u,.int 1 v] }
 | .Qw o u=>h.get? a=some o/\xO H h a u
 | .Rj ps=>∃qs:Array Value,h.get? a=some { cls:=.none,data:=.fields qs }/\(qs=#[]\/∃(c:Addr) (oc:Obj) (vs:Array Value) (q:Str) (t t':Tok),H c=some (.Qw oc (.own a))/\qs=#[ps.getD 0 .none,ps.getD 1 .none,.ref c]/\ps[2]?=some (.str q t)/\oc.data=.fields vs/\vs[1]?=some (.str q t'))
 | .met f x=>h.get? a=some (PySem.W.methodObj (.ref f) (.ref x))
 | .ext φ=>φ h/\(∃o,h.get? a=some o)/\∀h1 h2:Heap,φ h1->(∀o,h1.get? a=some o->h2.get? a=some o)->φ h2
def Rk (H:Hp)(h:Heap):Prop:=∀a o,H a=some o->xO P w H h a o
end
section
variable {P:Program}{w:World}{H H':Hp}{h h':Heap}{a:Addr}{o:HO}
theorem xO.lt (x:xO P w H h a o):a<h.objs.size:=by
 cases o with
 | lst xs=>obtain⟨_,_,_,_,e⟩:=x;exact zqP e
 | tup xs=>obtain⟨_,_,_,p⟩:=x;exact p.lt
 | dK kvs=>obtain⟨_,_,_,_,o,_,_,e,_⟩:=x;exact zqP e
 | dT kvs=>obtain⟨_,_,_,_,o,_,_,e,_⟩:=x;exact zqP e
 | set S n=>obtain⟨o,_,_,_,e,_⟩:=x;exact zqP e
 | ins C dx fs=>obtain⟨_,_,_,e,_⟩:=x;exact zqP e
 | own y=>obtain⟨_,e⟩:=x;exact zqP e
 | xd fs=>obtain⟨_,⟨_,_,_,e,_⟩,_⟩:=x;exact zqP e
 | rng lo hi=>obtain⟨_,_,_,e⟩:=x;exact zqP e
 | Qw ob u=>obtain⟨e,_⟩:=x;exact zqP e
 | Rj ps=>obtain⟨_,e,_⟩:=x;exact zqP e
 | met f y=>exact zqP (show h.get? a=some _ from x)
 | ext φ=>obtain⟨_,⟨_,e⟩,_⟩:=x;exact zqP e
theorem Paired.zjm {α β:Type}{F G:α->β->Prop}:∀{l₁:List α} {l₂:List β},Paired F l₁ l₂->(∀a b,F a b->G a b)->Paired G l₁ l₂
 | _,_,.nil,_=>.nil
 | _,_,.cons r t,f=>.cons (f _ _ r) (Paired.zjm t f)
theorem xO.stay (x:xO P w H h a o)(k:∀b u,(b=a\/H b=some (.own a))->h.get? b=some u->h'.get? b=some u)
  (ho:∀b,H b=some (.own a)->H' b=some (.own a))(ht:∀b xs,H b=some (.tup xs)->H' b=some (.tup xs))(hz:∀b o u,H b=some (.Qw o u)->H' b=some (.Qw o u):=by exact fun _ _ _ q=>q):xO P w H' h' a o:=by
 induction o with
 | lst xs=>obtain⟨z,its,n,r,e⟩:=x;exact⟨z,its,n,r,k _ _ (.inl rfl) e⟩
 | tup xs=>obtain⟨z,its,r,ob,e,c⟩:=x;exact⟨z,its,r,ob,k _ _ (.inl rfl) e,c⟩
 | dK kvs=>obtain⟨z,y,vs,r,ob,es,ep,e,c⟩:=x;exact⟨z,y,vs,r,ob,es,ep,k _ _ (.inl rfl) e,c⟩
 | dT kvs =>
  obtain⟨z,y,xs,r,ob,es,ep,e,c⟩:=x
  exact⟨z,y,xs,Paired.zjm r fun p q z=>⟨z.1,ht _ _ z.2.1,z.2.2⟩,ob,es,ep,k _ _ (.inl rfl) e,c⟩
 | set S n=>obtain⟨ob,es,ep,t,e,c⟩:=x;exact⟨ob,es,ep,t,k _ _ (.inl rfl) e,c⟩
 | ins C dx fs =>
  obtain⟨d,z,ne,e,mA,⟨od,es,ep,e2,c⟩,r⟩:=x
  exact⟨ho _ d,z,ne,k _ _ (.inl rfl) e,mA,⟨od,es,ep,k _ _ (.inr d) e2,c⟩,r⟩
 | own y=>obtain⟨ob,e⟩:=x;exact⟨ob,k _ _ (.inl rfl) e⟩
 | xd fs=>obtain⟨mA,⟨od,es,ep,e,c⟩,r⟩:=x;exact⟨mA,⟨od,es,ep,k _ _ (.inl rfl) e,c⟩,r⟩
 | rng lo hi=>obtain⟨t,u,v,e⟩:=x;exact⟨t,u,v,k _ _ (.inl rfl) e⟩
 | Qw ob u ih=>obtain⟨e,q⟩:=x;exact⟨k _ _ (.inl rfl) e,ih q⟩
 | Rj ps =>
  obtain⟨qs,e,z⟩:=x
  refine⟨qs,k a _ (.inl rfl) e,?_⟩
  rcases z with z | ⟨c,oc,vs,q,t,t',hc,z⟩
  ·exact .inl z
  ·exact .inr ⟨c,oc,vs,q,t,t',hz _ _ _ hc,z⟩
 | met f y =>
  have e:h.get? a=some (PySem.W.methodObj (.ref f) (.ref y)):=x
  show h'.get? a=some (PySem.W.methodObj (.ref f) (.ref y))
  exact k a _ (.inl rfl) e
 | ext φ=>obtain⟨p,⟨o,e⟩,st⟩:=x;exact⟨st _ _ p fun o q=>k _ _ (.inl rfl) q,⟨o,k _ _ (.inl rfl) e⟩,st⟩
theorem Rk.lt (x:Rk P w H h)(e:H a=some o):a<h.objs.size:=(x a o e).lt
theorem Rk.fresh (x:Rk P w H h)(e:h.objs.size<=a):H a=none:=by
 cases q:H a with
 | none=>rfl
 | some u=>exact absurd (zqR (x.lt q) e) (Nat.lt_irrefl _)
theorem Rk.kept (x:Rk P w H h)(k:∀b u,h.get? b=some u->h'.get? b=some u):Rk P w H h':=fun a o e =>
 (x a o e).stay (fun b u _ q=>k b u q) (fun _ q=>q) fun _ _ q=>q
theorem Rk.laid (x:Rk P w H h)(k:∀b u,h.get? b=some u->h'.get? b=some u)(hp:h.objs.size<=a)(new:xO P w (upd H a o) h' a o):Rk P w (upd H a o) h':=fun b u e=>by
 have hn:=x.fresh hp
 by_cases hb:b=a
 ·subst hb;rw[zf] at e;cases e;exact new
 ·rw[zE hb] at e
  exact(x b u e).stay (fun c v _ q=>k c v q) (fun c q=>by rw[zE (zB q hn)];exact q) (fun c xs q=>by rw[zE (zB q hn)];exact q) fun c o u q=>by rw[zE (zB q hn)];exact q
end
def Rd (H:Hp)(a:Addr)(u:HO):Prop:=H a=some u\/∃o,H a=some (.Qw o u)
theorem Rd.ok {P:Program}{w:World}{H:Hp}{h:Heap}{a:Addr}{u:HO}(r:Rd H a u)(x:Rk P w H h):xO P w H h a u:=by
 rcases r with r | ⟨o,r⟩
 ·exact x a u r
 ·obtain⟨_,q⟩:=x a _ r
  exact q
def Mut:Option HO->Prop
 | some (.lst _)=>True
 | some (.dK _)=>True
 | some (.dT _)=>True
 | some (.set _ _)=>True
 | some (.ins _ _ _)=>True
 | some (.ext _)=>True
 | _=>False
section
variable {P:Program}{w:World}{H:Hp}{h h':Heap}{x e:Addr}{o':HO}
theorem Rk.write (ok:Rk P w H h)(mu:Mut (H x))(he:e=x\/H e=some (.own x))(k:∀b u,b≠e->h.get? b=some u->h'.get? b=some u)(heo:∃u,h'.get? e=some u)
  (new:xO P w (upd H x o') h' x o'):Rk P w (upd H x o') h':=fun b u q=>by
 have zkB:∀c y,H c=some (.own y)->c≠x:=fun c y r z=>by subst z;rw[r] at mu;exact mu
 have zmz:∀c xs,H c=some (.tup xs)->c≠x:=fun c xs r z=>by subst z;rw[r] at mu;exact mu
 by_cases hb:b=x
 ·subst hb;rw[zf] at q;cases q;exact new
 ·rw[zE hb] at q
  by_cases hbe:b=e
  ·have q':H b=some (.own x):=by
    rcases he with z | z
    ·exact absurd (hbe.trans z) hb
    ·rw[hbe];exact z
   rw[q] at q';cases q'
   obtain⟨v,hv⟩:=heo
   exact⟨v,by rw[hbe];exact hv⟩
  ·refine(ok b u q).stay (fun c v hc r=>k c v ?_ r) (fun c r=>by rw[zE (zkB c b r)];exact r) (fun c xs r=>by rw[zE (zmz c xs r)];exact r) fun c ob xs r=>by rw[zE (fun z=>by subst z;rw[r] at mu;exact mu)];exact r
   rcases hc with rfl | hc
   ·exact hbe
   ·rintro rfl
    rcases he with z | z
    ·exact zkB c b hc z
    ·rw[hc] at z;cases z;exact hb rfl
end
structure Un (fs ex:List Addr)(H H':Hp)(h h':Heap):Prop where
 keep:∀b o,h.get? b=some o->H b=none->b∉fs->b∉ex->h'.get? b=some o
 slot:∀b o,h.get? b=some o->H b=none->b∈fs->b∉ex->∃sl,h'.get? b=some { o with slots:=sl }
 free:∀b o,h.get? b=some o->H b=none->b∉ex->H' b=none
 there:∀b o,h.get? b=some o->b∉ex->∃o',h'.get? b=some o'
 tups:∀b xs,H b=some (.tup xs)->H' b=some (.tup xs)
 zak:∀b o u,H b=some (.Qw o u)->H' b=some (.Qw o u)
 zbq:∀b ps,H b=some (.Rj ps)->∃more,H' b=some (.Rj (ps++more))
section
variable {fs fs' ex ex':List Addr}{H H1 H2:Hp}{h h1 h2 h':Heap}{a x e:Addr}{o:HO}
theorem Un.any (u:Un fs ex H H1 h h1){b:Addr}{ob:Obj}(q:h.get? b=some ob)(n:H b=none)(hx:b∉ex):∃sl,h1.get? b=some { ob with slots:=sl }:=by
 by_cases hb:b∈fs
 ·exact u.slot b ob q n hb hx
 ·exact⟨ob.slots,u.keep b ob q n hb hx⟩
theorem Un.kept (k:∀b u,h.get? b=some u->h'.get? b=some u):Un fs ex H H h h' :=
 ⟨fun b ob q _ _ _=>k b ob q,fun b ob q _ _ _=>⟨ob.slots,k b ob q⟩,fun _ _ _ n _=>n,fun b ob q _=>⟨ob,k b ob q⟩,fun _ _ q=>q,fun _ _ _ q=>q,fun _ ps q=>⟨#[],by rw[q];simp⟩⟩
theorem Un.refl:Un fs ex H H h h:=Un.kept fun _ _ q=>q
theorem Un.laid (k:∀b u,h.get? b=some u->h'.get? b=some u)(hp:h.objs.size<=a)(hn:H a=none):Un fs ex H (upd H a o) h h' where
 keep:=fun b u q _ _ _=>k b u q
 slot:=fun b u q _ _ _=>⟨u.slots,k b u q⟩
 free:=fun b u q n _=>by rw[zE (zqX (zqR (zqP q) hp))];exact n
 there:=fun b u q _=>⟨u,k b u q⟩
 tups:=fun b xs q=>by rw[zE (zB q hn)];exact q
 zak:=fun b u xs q=>by rw[zE (zB q hn)];exact q
 zbq:=fun b ps q=>⟨#[],by rw[zE (zB q hn),q];simp⟩
theorem Un.write (mu:Mut (H x))(he:e=x\/H e=some (.own x))(k:∀b u,b≠e->h.get? b=some u->h'.get? b=some u)(heo:∃u,h'.get? e=some u):Un fs ex H (upd H x o) h h':=by
 have hx:∀b,H b=none->b≠x:=fun b n z=>by subst z;rw[n] at mu;exact mu
 have hb:∀b,H b=none->b≠e:=fun b n z=>by
  subst z
  rcases he with r | r
  ·exact hx b n r
  ·rw[n] at r;cases r
 have hm:∀b u,H b=some u->¬Mut (some u)->b≠x:=fun b u q nm z=>by subst z;rw[q] at mu;exact nm mu
 refine⟨fun b u q n _ _=>k b u (hb b n) q,fun b u q n _ _=>⟨u.slots,k b u (hb b n) q⟩,fun b u q n _=>by rw[zE (hx b n)];exact n,fun b u q _=>?_,
  fun b xs q=>by rw[zE (hm b _ q fun z=>z)];exact q,fun b u xs q=>by rw[zE (hm b _ q fun z=>z)];exact q,fun b ps q=>⟨#[],by rw[zE (hm b _ q fun z=>z),q];simp⟩⟩
 by_cases hbe:b=e
 ·subst hbe;exact heo
 ·exact⟨u,k b u hbe q⟩
end
def trk (h:Heap)(H:Hp):List Addr:=(List.range h.objs.size).filter fun a=>(H a).isSome
def zbr (h:Heap)(H:Hp):Heap:=PySem.W.hideAll h (trk h H)
theorem zfh (h:Heap)(H:Hp):(zbr h H).objs.size=h.objs.size:=PySem.W.hideAll_size _ _
theorem zf8 {h:Heap}{H:Hp}{b:Addr}{o:Obj}(e:h.get? b=some o)(n:H b=none):(zbr h H).get? b=some o :=
 PySem.W.hideAll_get _ e fun hm=>by
  have q:(H b).isSome=true:=(List.mem_filter.mp hm).2
  rw[n] at q;simp at q
theorem zhx {h:Heap}{H:Hp}{b:Addr}{o:Obj}(e:(zbr h H).get? b=some o):h.get? b=some o/\H b=none:=by
 have e':h.get? b=some o:=PySem.W.of_hideAll (trk h H) e
 refine⟨e',?_⟩
 cases q:H b with
 | none=>rfl
 | some x =>
  have hm:b∈trk h H:=List.mem_filter.mpr ⟨List.mem_range.mpr (zqP e'),by simp[q]⟩
  have z:(zbr h H).get? b=none:=PySem.W.hideAll_none (trk h H) hm
  rw[z] at e;cases e
structure Mod (K:Frag)(mg:Str->Option Value)(base:Heap):Prop where
 kin:K.In base
 glob:base.Ns mainGlobals mg
 blt:∃mb,base.Ns builtinsNs mb/\∀x:Str,x ≠ "__name__" -> mb x=bootBuiltins x
 nolimit:base.NoLimit
structure Cx where
 prog:Program
 w:World
 K:Frag
 mg:Str->Option Value
 base:Heap
 A:Around
 N:List Str
 s₀:Shared
 H₀:Hp
 env:Env
 outer:List Env
 stack:List Env
 ex:List Addr
 fn:Str->Bool
 calm:Bool
 pn:List (Addr×Obj)
 xe:Value->Shared->Prop
def frs (l:List Env):List Addr:=l.filterMap (·.frame)
abbrev Cx.fs (X:Cx):List Addr:=frs X.outer
def Vis (sc:Scope)(x:Str):Prop:=sc.names.lookup x=some .local\/sc.names.lookup x=some .cell\/sc.names.lookup x=some .free
def Loc (sc:Scope)(x:Str):Prop:=sc.names.lookup x=some .local\/sc.names.lookup x=some .cell
def Look (env:Env)(h:Heap)(m:Str->Option Value)(x:Str)(u:Value):Prop :=
 (env.kindOf x=some .local/\m x=some u)\/((env.kindOf x=some .cell\/env.kindOf x=some .free)/\∃c,env.cells.lookup x=some c/\h.IsCell c (some u))
structure Cx.Ok (X:Cx):Prop where
 mod:Mod X.K X.mg X.base
 kind:X.env.scope.kind=.function
 glob:X.env.globals=mainGlobals
 blt:X.env.builtins=builtinsNs
 above:X.s₀.heap.objs.size<=X.env.locals
 inj:∀x y c,X.env.cells.lookup x=some c->X.env.cells.lookup y=some c->x=y
 has:∀x,(X.env.kindOf x=some .cell\/X.env.kindOf x=some .free)->∃c,X.env.cells.lookup x=some c
 cab:∀x c,X.fn x=true->X.env.cells.lookup x=some c->X.s₀.heap.objs.size<=c
 hd:X.calm=true->X.A.handled=none
 frames:X.A.frames=some X.stack
 stk:X.stack=X.outer\/(X.stack=X.env::X.outer/\X.env.frame=some X.env.locals)
 exf:∀b∈X.ex,b≠X.env.locals/\∀x c,X.env.cells.lookup x=some c->c≠b
 bs:∀b o,X.base.get? b=some o->X.s₀.heap.get? b=some o/\X.H₀ b=none
 bsz:X.base.objs.size<=X.s₀.heap.objs.size
 zfi:∀b o,X.base.get? b=some o->b∉X.ex
 zfj:∀b∈X.ex,b∉X.fs
 Nu:X.s₀.heap.FunFrames X.base X.outer
 frf:∀b∈X.fs,X.H₀ b=none
structure Inv (X:Cx)(pins:List (Addr×Obj))(σ:List (Option V))(H:Hp)(s:Shared):Prop where
 ok:X.Ok
 os:s.os=X.s₀.os
 bare:AllBare s.gens
 base:Un X.fs X.ex X.H₀ H X.s₀.heap s.heap
 loc:∃m,s.heap.Ns X.env.locals m/\∀(i:Nat) (x:Str) (v:V),X.N[i]?=some x->σ[i]?=some (some v)->Vis X.env.scope x->∃u,RelV v u/\Look X.env s.heap m x u
 cell:∀x c,X.env.cells.lookup x=some c->∃v,s.heap.IsCell c v
 free:H X.env.locals=none
 UG:∀x c,X.env.cells.lookup x=some c->H c=none
 pin:∀p∈X.pn++pins,s.heap.get? p.1=some p.2/\H p.1=none/\p.1≠X.env.locals/\p.1∉X.fs/\∀v,p.2.data≠.cell v
 hok:Rk X.prog X.w H s.heap
 len:σ.length=X.N.length
section
variable {X:Cx}{pins:List (Addr×Obj)}{σ:List (Option V)}{H H':Hp}{s:Shared}{h':Heap}
theorem Cx.Ok.zmA (ok:X.Ok){b:Addr}{o:Obj}(e:X.base.get? b=some o):b∉X.fs:=fun hb=>by
 have:=(ok.Nu.mem hb).1
 rw[e] at this;cases this
theorem Inv.bs (I:Inv X pins σ H s):∀b o,X.base.get? b=some o->s.heap.get? b=some o/\H b=none:=fun b o e =>
 ⟨I.base.keep b o (I.ok.bs b o e).1 (I.ok.bs b o e).2 (I.ok.zmA e) (I.ok.zfi b o e),I.base.free b o (I.ok.bs b o e).1 (I.ok.bs b o e).2 (I.ok.zfi b o e)⟩
theorem Inv.bk (I:Inv X pins σ H s):∀b o,X.base.get? b=some o->s.heap.get? b=some o:=fun b o e=>(I.bs b o e).1
theorem Inv.mod (I:Inv X pins σ H s):Mod X.K X.mg X.base:=I.ok.mod
theorem Inv.Nv (I:Inv X pins σ H s):X.K.In s.heap:=I.ok.mod.kin.keeps I.bk
theorem Inv.lt (I:Inv X pins σ H s):X.env.locals<s.heap.objs.size:=let ⟨_,hn,_⟩:=I.loc;hn.lt
theorem Inv.sz (I:Inv X pins σ H s):X.s₀.heap.objs.size<=s.heap.objs.size:=zq3 I.ok.above (zq0 I.lt)
theorem Inv.zjn (I:Inv X pins σ H s){a:Addr}(h:s.heap.objs.size<=a):a∉X.fs:=fun hb=>by
 obtain⟨_,o,ho,_⟩:=I.ok.Nu.mem hb
 exact absurd (zqR (zqP ho) (zq3 I.sz h)) (Nat.lt_irrefl _)
theorem Inv.cne (I:Inv X pins σ H s):∀x c,X.env.cells.lookup x=some c->c≠X.env.locals:=fun x c e z=>by
 obtain⟨v,o,ho,hd⟩:=I.cell x c e
 obtain⟨m,⟨o',es,ep,ho',hd',_⟩,_⟩:=I.loc
 rw[z,ho'] at ho;cases ho;rw[hd'] at hd;cases hd
theorem Inv.Nu (I:Inv X pins σ H s):s.heap.FunFrames X.base X.outer:=by
 have all:∀(l:List Env),(∀b∈frs l,b∈X.fs)->X.s₀.heap.FunFrames X.base l->s.heap.FunFrames X.base l:=by
  intro l
  induction l with
  | nil=>intro _ _;trivial
  | cons env r ih =>
   intro hs hl
   obtain⟨hk,⟨L,o,hf,hn,ho,hd⟩,hr⟩:=hl
   have hL:L∈X.fs:=hs L (by unfold frs;rw[List.filterMap_cons,hf];exact zq1)
   obtain⟨sl,e⟩:=I.base.slot L o ho (I.ok.frf L hL) hL fun z=>I.ok.zfj L z hL
   exact⟨hk,⟨L,_,hf,hn,e,hd⟩,ih (fun b hb=>hs b (by unfold frs;rw[List.filterMap_cons,hf];exact zqT _ hb)) hr⟩
 exact all X.outer (fun _ hb=>hb) I.ok.Nu
theorem Inv.stack (I:Inv X pins σ H s):s.heap.FunFrames X.base X.stack:=by
 rcases I.ok.stk with e | ⟨e,hf⟩
 ·rw[e];exact I.Nu
 ·rw[e]
  obtain⟨m,hn,_⟩:=I.loc
  refine .cons (by rw[I.ok.kind];decide) hf hn ?_ I.Nu
  exact Heap.get?_none_of_le (zq3 I.ok.bsz I.ok.above)
theorem Inv.zbs (I:Inv X pins σ H s):∀b∈frs X.stack,b∈X.env.locals::X.fs:=fun b hb=>by
 rcases I.ok.stk with e | ⟨e,hf⟩
 ·rw[e] at hb;exact zqT _ hb
 ·rw[e] at hb
  unfold frs at hb
  rw[List.filterMap_cons,hf] at hb
  exact hb
theorem Inv.zet (I:Inv X pins σ H s):∀b∈frs X.stack,H b=none:=fun b hb=>by
 rcases List.mem_cons.mp (I.zbs b hb) with e | hb
 ·rw[e];exact I.free
 ·obtain⟨_,o,ho,_⟩:=I.ok.Nu.mem hb
  exact I.base.free b o ho (I.ok.frf b hb) fun z=>I.ok.zfj b z hb
theorem Inv.step {g':Array GenState}{t':Nat}{d':Drawn}{ch:List Addr}(I:Inv X pins σ H s)
  (hch:∀b∈ch,(b∈X.ex\/X.s₀.heap.objs.size<=b)/\b≠X.env.locals/\(∀x c,X.env.cells.lookup x=some c->c≠b)/\∀p∈X.pn++pins,p.1≠b)
  (keep:∀b o,b≠X.env.locals->b∉X.fs->b∉ch->s.heap.get? b=some o->H b=none->h'.get? b=some o)
  (slot:∀b o,b≠X.env.locals->b∈X.fs->b∉ch->s.heap.get? b=some o->H b=none->∃sl,h'.get? b=some { o with slots:=sl })(free:∀b o,b∉ch->s.heap.get? b=some o->H b=none->H' b=none)
  (there:∀b o,b∉ch->s.heap.get? b=some o->∃o',h'.get? b=some o')
  (tups:∀b xs,H b=some (.tup xs)->H' b=some (.tup xs))(zak:∀b o u,H b=some (.Qw o u)->H' b=some (.Qw o u))(zbq:∀b ps,H b=some (.Rj ps)->∃more,H' b=some (.Rj (ps++more)))
  (ns:∀m,s.heap.Ns X.env.locals m->h'.Ns X.env.locals m)(hok:Rk X.prog X.w H' h')(hg:AllBare g') :
  Inv X pins σ H' { s with heap:=h',gens:=g',drawn:=d',toks:=t' }:=by
 have neL:∀b o,X.s₀.heap.get? b=some o->b≠X.env.locals:=fun b o e=>zqX (zqR (zqP e) I.ok.above)
 have neC:∀b o,X.s₀.heap.get? b=some o->b∉X.ex->b∉ch:=fun b o e hx hb=>by
  rcases (hch b hb).1 with z | z
  ·exact hx z
  ·exact absurd (zqR (zqP e) z) (Nat.lt_irrefl _)
 have cellK:∀x c,X.env.cells.lookup x=some c->∀v,s.heap.IsCell c v->h'.IsCell c v:=fun x c e v ⟨o,ho,hd⟩=>by
  have nch:c∉ch:=fun z=>(hch c z).2.2.1 x c e rfl
  by_cases hc:c∈X.fs
  ·obtain⟨sl,q⟩:=slot c o (I.cne x c e) hc nch ho (I.UG x c e)
   exact⟨_,q,hd⟩
  ·exact⟨o,keep c o (I.cne x c e) hc nch ho (I.UG x c e),hd⟩
 refine⟨I.ok,I.os,hg,⟨fun b o e n hb hx=>?_,fun b o e n hb hx=>?_,fun b o e n hx=>?_,fun b o e hx=>?_,fun b xs e=>tups b xs (I.base.tups b xs e),fun b o xs e=>zak b o xs (I.base.zak b o xs e),fun b ps e=>?_⟩,?_,fun x c e=>?_,?_,fun x c e=>?_,fun p hp=>?_,hok,I.len⟩
 ·exact keep b o (neL b o e) hb (neC b o e hx) (I.base.keep b o e n hb hx) (I.base.free b o e n hx)
 ·obtain⟨sl,e1⟩:=I.base.slot b o e n hb hx
  obtain⟨sl',e2⟩:=slot b _ (neL b o e) hb (neC b o e hx) e1 (I.base.free b o e n hx)
  exact⟨sl',e2⟩
 ·obtain⟨o',e1⟩:=I.base.there b o e hx
  exact free b o' (neC b o e hx) e1 (I.base.free b o e n hx)
 ·obtain⟨o',e1⟩:=I.base.there b o e hx
  exact there b o' (neC b o e hx) e1
 ·obtain⟨m1,e1⟩:=I.base.zbq b ps e
  obtain⟨m2,e2⟩:=zbq b _ e1
  exact⟨m1++m2,by rw[e2,Array.append_assoc]⟩
 ·obtain⟨m,hn,hl⟩:=I.loc
  refine⟨m,ns m hn,fun i x v e1 e2 e3=>?_⟩
  obtain⟨u,r,l⟩:=hl i x v e1 e2 e3
  refine⟨u,r,?_⟩
  rcases l with l | ⟨k,c,e,z⟩
  ·exact .inl l
  ·exact .inr ⟨k,c,e,cellK x c e _ z⟩
 ·obtain⟨v,z⟩:=I.cell x c e
  exact⟨v,cellK x c e v z⟩
 ·obtain⟨m,⟨o,_,_,ho,_⟩,_⟩:=I.loc
  exact free _ o (fun z=>(hch _ z).2.1 rfl) ho I.free
 ·obtain⟨v,o,ho,hd⟩:=I.cell x c e
  exact free c o (fun z=>(hch c z).2.2.1 x c e rfl) ho (I.UG x c e)
 ·obtain⟨e,n,ne,nf,d⟩:=I.pin p hp
  have nch:p.1∉ch:=fun z=>(hch p.1 z).2.2.2 p hp rfl
  exact⟨keep p.1 p.2 ne nf nch e n,free p.1 p.2 nch e n,ne,nf,d⟩
theorem Inv.un {t':Nat}(I:Inv X pins σ H s)(u:Un X.fs [] H H' s.heap h')(hok:Rk X.prog X.w H' h'):Inv X pins σ H' { s with heap:=h',toks:=t' }:=by
 obtain⟨m,⟨o,es,ep,ho,r⟩,_⟩:=id I.loc
 obtain⟨sl,hL⟩:=u.any ho I.free (by simp)
 exact I.step (g':=s.gens) (d':=s.drawn) (ch:=[]) (fun _ z=>nomatch z) (fun b o _ hb _ e n=>u.keep b o e n hb (by simp)) (fun b o _ hb _ e n=>u.slot b o e n hb (by simp)) (fun b o _ e n=>u.free b o e n (by simp)) (fun b o _ e=>u.there b o e (by simp)) u.tups u.zak u.zbq (fun m' hm=>by
  obtain⟨o',es',ep',ho',r'⟩:=hm
  rw[ho] at ho';cases ho'
  exact⟨_,es',ep',hL,r'⟩) hok I.bare
theorem Inv.call {g':Array GenState}{t':Nat}{d':Drawn}{ch:List Addr}(I:Inv X pins σ H s)(u:Un (frs X.stack) ch H H' s.heap h')(hok:Rk X.prog X.w H' h')(hg:AllBare g')
  (hch:∀b∈ch,(b∈X.ex\/X.s₀.heap.objs.size<=b)/\b≠X.env.locals/\(∀x c,X.env.cells.lookup x=some c->c≠b)/\∀p∈X.pn++pins,p.1≠b) :
  Inv X pins σ H' { s with heap:=h',gens:=g',drawn:=d',toks:=t' }:=by
 obtain⟨m,⟨o,es,ep,ho,r⟩,_⟩:=id I.loc
 obtain⟨sl,hL⟩:=u.any ho I.free fun z=>(hch _ z).2.1 rfl
 exact I.step (ch:=ch) hch (fun b o hL hb hc e n=>u.keep b o e n (fun z=>(List.mem_cons.mp (I.zbs b z)).elim hL hb) hc) (fun b o _ _ hc e n=>u.any e n hc) (fun b o hc e n=>u.free b o e n hc) (fun b o hc e=>u.there b o e hc) u.tups u.zak u.zbq (fun m' hm=>by
  obtain⟨o',es',ep',ho',r'⟩:=hm
  rw[ho] at ho';cases ho'
  exact⟨_,es',ep',hL,r'⟩) hok hg
theorem Inv.turned {t':Nat}{it:Addr}(I:Inv X pins σ H s)(k:∀b o,b≠it->s.heap.get? b=some o->h'.get? b=some o)(hn:H it=none)(hL:it≠X.env.locals)
  (h1:it∈X.ex\/X.s₀.heap.objs.size<=it)(h2:∀x c,X.env.cells.lookup x=some c->c≠it)(h3:∀p∈X.pn++pins,p.1≠it):Inv X pins σ H { s with heap:=h',toks:=t' }:=by
 have nit:∀b u,H b=some u->b≠it:=fun b u e z=>by rw[z,hn] at e;cases e
 refine I.step (g':=s.gens) (d':=s.drawn) (ch:=[it]) (fun b hb=>?_) (fun b o _ _ hc e _=>k b o (fun z=>hc (by simp[z])) e) (fun b o _ _ hc e _=>⟨o.slots,k b o (fun z=>hc (by simp[z])) e⟩) (fun _ _ _ _ n=>n)
  (fun b o hc e=>⟨o,k b o (fun z=>hc (by simp[z])) e⟩) (fun _ _ e=>e) (fun _ _ _ e=>e) (fun b ps e=>⟨#[],by rw[e];simp⟩) (fun m hm=>?_) (fun b u e=>?_) I.bare
 ·have e:b=it:=by simpa using hb
  subst e
  exact⟨h1,hL,h2,h3⟩
 ·obtain⟨o,es,ep,ho,r⟩:=hm
  exact⟨o,es,ep,k _ o (Ne.symm hL) ho,r⟩
 ·refine(I.hok b u e).stay (fun c v hc q=>k c v ?_ q) (fun _ q=>q) fun _ _ q=>q
  rcases hc with z | z
  ·rw[z];exact nit b u e
  ·exact nit c _ z
theorem Inv.tok (I:Inv X pins σ H s)(t:Nat):Inv X pins σ H { s with toks:=t }:=I.un (h':=s.heap) (t':=t) Un.refl I.hok
theorem Inv.kept {t':Nat}(I:Inv X pins σ H s)(k:∀b u,s.heap.get? b=some u->h'.get? b=some u):Inv X pins σ H { s with heap:=h',toks:=t' }:=I.un (Un.kept k) (I.hok.kept k)
theorem Inv.laid {a:Addr}{o:HO}{t':Nat}(I:Inv X pins σ H s)(k:∀b u,s.heap.get? b=some u->h'.get? b=some u)(hp:s.heap.objs.size<=a)(new:xO X.prog X.w (upd H a o) h' a o) :
  Inv X pins σ (upd H a o) { s with heap:=h',toks:=t' }:=I.un (Un.laid k hp (I.hok.fresh hp)) (I.hok.laid k hp new)
theorem Inv.write {x e:Addr}{o:HO}{t':Nat}(I:Inv X pins σ H s)(mu:Mut (H x))(he:e=x\/H e=some (.own x))(k:∀b u,b≠e->s.heap.get? b=some u->h'.get? b=some u)(heo:∃u,h'.get? e=some u)
  (new:xO X.prog X.w (upd H x o) h' x o):Inv X pins σ (upd H x o) { s with heap:=h',toks:=t' }:=I.un (Un.write mu he k heo) (I.hok.write mu he k heo new)
theorem Inv.Vz {pins':List (Addr×Obj)}(I:Inv X pins σ H s)(h:∀p∈pins',s.heap.get? p.1=some p.2/\H p.1=none/\p.1≠X.env.locals/\p.1∉X.fs/\∀v,p.2.data≠.cell v):Inv X pins' σ H s :=
 ⟨I.ok,I.os,I.bare,I.base,I.loc,I.cell,I.free,I.UG,fun p hp=>(List.mem_append.mp hp).elim (fun z=>I.pin p (List.mem_append_left _ z)) (h p),I.hok,I.len⟩
theorem zcx {N:List Str}(hN:N.Nodup){i j:Nat}{x:Str}(a:N[i]?=some x)(b:N[j]?=some x):i=j:=by
 obtain⟨h1,e1⟩:=zqL.mp a
 obtain⟨h2,e2⟩:=zqL.mp b
 exact(List.getElem_inj hN).mp (e1.trans e2.symm)
theorem zfk {M:Model}{A:Around}{E:Value->Shared->Prop}{i:Nat}{x:Str}{v:V}{u:Value}{Q:Unit->Shared->Prop}(I:Inv X pins σ H s)(hN:X.N.Nodup)(hi:X.N[i]?=some x)(hx:Loc X.env.scope x)(r:RelV v u)
  (h:∀s',Inv X pins (σ.set i (some v)) H s'->(∃a,Heap.SameBut a s.heap s'.heap/\(a=X.env.locals\/X.env.cells.lookup x=some a))->Q () s')(hf:X.fn x=true\/X.env.scope.names.lookup x=some .local:=by first | exact .inl rfl | exact .inr rfl | assumption):wpAny M A (storeName X.env x u) Q E s:=by
 obtain⟨m,hn,hl⟩:=id I.loc
 have hcls:(X.env.scope.kind==.class||(X.env.scope.kind==.module&&X.env.locals != X.env.globals))=false:=by rw[I.ok.kind];rfl
 have hiσ:i < σ.length:=by rw[I.len];exact(zqL.mp hi).1
 have cne:=I.cne
 have tracked:∀{a:Addr} {h':Heap},(∃o,s.heap.get? a=some o/\H a=none)->Heap.SameBut a s.heap h'->Rk X.prog X.w H h':=fun {a h'} ha hs b ob e=>by
  obtain⟨_,_,hfree⟩:=ha
  refine(I.hok b ob e).stay (fun c w' hc q=>(hs.2 c ?_).trans q) (fun _ q=>q) fun _ _ q=>q
  rintro rfl
  rcases hc with rfl | hc
  ·rw[hfree] at e;cases e
  ·rw[hfree] at hc;cases hc
 rcases hx with hk | hk
 ·refine wpAny_storeName_local hk hn (fun h' hn' hs=>?_) hcls
  obtain⟨oL,_,_,hoL,_⟩:=id hn
  refine h _ ⟨I.ok,I.os,I.bare,⟨fun b o e n hb hx=>?_,fun b o e n hb hx=>?_,I.base.free,fun b o e hx=>?_,I.base.tups,I.base.zak,I.base.zbq⟩,⟨_,hn',fun j y v' e1 e2 e3=>?_⟩,fun y c e=>?_,I.free,I.UG,fun p hp=>?_,tracked ⟨oL,hoL,I.free⟩ hs,by simpa using I.len⟩ ⟨_,hs,.inl rfl⟩
  ·exact(hs.2 b (zqX (zqR (zqP e) I.ok.above))).trans (I.base.keep b o e n hb hx)
  ·obtain⟨sl,e1⟩:=I.base.slot b o e n hb hx
   exact⟨sl,(hs.2 b (zqX (zqR (zqP e) I.ok.above))).trans e1⟩
  ·obtain⟨o',e1⟩:=I.base.there b o e hx
   exact⟨o',(hs.2 b (zqX (zqR (zqP e) I.ok.above))).trans e1⟩
  ·by_cases hj:j=i
   ·subst hj
    rw[hi] at e1;cases e1
    rw[List.getElem?_set_self hiσ] at e2
    cases e2
    exact⟨u,r,.inl ⟨hk,by simp⟩⟩
   ·rw[List.getElem?_set_ne (Ne.symm hj)] at e2
    obtain⟨u',r',q⟩:=hl j y v' e1 e2 e3
    refine⟨u',r',?_⟩
    rcases q with ⟨k,e⟩ | ⟨k,c,e,z⟩
    ·refine .inl ⟨k,?_⟩
     have:y≠x:=fun e=>hj (zcx hN e1 (e ▸ hi))
     simp[this,e]
    ·exact .inr ⟨k,c,e,z.sameBut hs (cne y c e)⟩
  ·obtain⟨w',z⟩:=I.cell y c e
   exact⟨w',z.sameBut hs (cne y c e)⟩
  ·obtain⟨e,n,ne,nf,d⟩:=I.pin p hp
   exact⟨(hs.2 p.1 ne).trans e,n,ne,nf,d⟩
 ·have hfn:X.fn x=true:=by
   rcases hf with z | z
   ·exact z
   ·rw[z] at hk;cases hk
  obtain⟨c,hc⟩:=I.ok.has x (.inl hk)
  obtain⟨w',z⟩:=I.cell x c hc
  refine wpAny_storeName_cell I.ok.kind hk hc z (fun h' hc' hs=>?_)
  obtain⟨oc,hoc,zmB⟩:=id z
  refine h { s with heap:=h' } ⟨I.ok,I.os,I.bare,⟨fun b o e n hb hx=>?_,fun b o e n hb hx=>?_,I.base.free,fun b o e hx=>?_,I.base.tups,I.base.zak,I.base.zbq⟩,⟨m,hn.sameBut hs (Ne.symm (cne x c hc)),fun j y v' e1 e2 e3=>?_⟩,fun y c' e=>?_,I.free,I.UG,fun p hp=>?_,tracked ⟨oc,hoc,I.UG x c hc⟩ hs,by simpa using I.len⟩ ⟨c,hs,.inr hc⟩
  ·exact(hs.2 b (zqX (zqR (zqP e) (I.ok.cab x c hfn hc)))).trans (I.base.keep b o e n hb hx)
  ·obtain⟨sl,e1⟩:=I.base.slot b o e n hb hx
   exact⟨sl,(hs.2 b (zqX (zqR (zqP e) (I.ok.cab x c hfn hc)))).trans e1⟩
  ·obtain⟨o',e1⟩:=I.base.there b o e hx
   exact⟨o',(hs.2 b (zqX (zqR (zqP e) (I.ok.cab x c hfn hc)))).trans e1⟩
  ·by_cases hj:j=i
   ·subst hj
    rw[hi] at e1;cases e1
    rw[List.getElem?_set_self hiσ] at e2
    cases e2
    exact⟨u,r,.inr ⟨.inl hk,c,hc,hc'⟩⟩
   ·rw[List.getElem?_set_ne (Ne.symm hj)] at e2
    obtain⟨u',r',q⟩:=hl j y v' e1 e2 e3
    refine⟨u',r',?_⟩
    rcases q with q | ⟨k,c',e,z'⟩
    ·exact .inl q
    ·refine .inr ⟨k,c',e,z'.sameBut hs ?_⟩
     rintro rfl
     exact hj (zcx hN e1 (I.ok.inj _ _ _ e hc ▸ hi))
  ·by_cases hcc:c'=c
   ·subst hcc;exact⟨_,hc'⟩
   ·obtain⟨w2,z2⟩:=I.cell y c' e
    exact⟨w2,z2.sameBut hs hcc⟩
  ·obtain⟨e,n,ne,nf,d⟩:=I.pin p hp
   refine⟨(hs.2 p.1 ?_).trans e,n,ne,nf,d⟩
   intro q
   rw[q,hoc] at e
   have q':oc=p.2:=zrc e
   exact d w' (by rw[<-q'];exact zmB)
theorem K3 {M:Model}{A:Around}{E:Value->Shared->Prop}{i:Nat}{x:Str}{v:V}{u:Value}{Q:Unit->Shared->Prop}(I:Inv X pins σ H s)(hN:X.N.Nodup)(hi:X.N[i]?=some x)(hx:Loc X.env.scope x)(r:RelV v u)
  (h:∀s',Inv X pins (σ.set i (some v)) H s'->Q () s')(hf:X.fn x=true\/X.env.scope.names.lookup x=some .local:=by first | exact .inl rfl | exact .inr rfl | assumption):wpAny M A (storeName X.env x u) Q E s :=
 zfk I hN hi hx r (fun s' I' _=>h s' I') hf
theorem Inv.call' {s':Shared}{ch:List Addr}(I:Inv X pins σ H s)(ho:s'.os=s.os)(u:Un (frs X.stack) ch H H' s.heap s'.heap)(hok:Rk X.prog X.w H' s'.heap)(hg:AllBare s'.gens)
  (hch:∀b∈ch,(b∈X.ex\/X.s₀.heap.objs.size<=b)/\b≠X.env.locals/\(∀x c,X.env.cells.lookup x=some c->c≠b)/\∀p∈X.pn++pins,p.1≠b):Inv X pins σ H' s':=by
 obtain⟨h',g',d',t',o'⟩:=s'
 have e:o'=s.os:=ho
 subst e
 exact I.call (g':=g') (t':=t') (d':=d') u hok hg hch
end
abbrev XK:=Value->Option Addr->Hp->Prop
abbrev St:=List (Option V)
abbrev VK:=V->Hp->Prop
abbrev TE:=St->Hp->VK->Prop
abbrev TT:=St->Hp->(Bool->Hp->Prop)->Prop
abbrev TA:=St->Hp->(List V->Hp->Prop)->Prop
structure Ends where
 nx:St->Hp->Prop
 rt:VK
 bk:St->Hp->Prop:=fun _ _=>False
 ct:St->Hp->Prop:=fun _ _=>False
abbrev TS:=Ends->St->Hp->Prop
def EP (X:Cx)(pins:List (Addr×Obj))(σ:St)(Q:VK)(u:Value)(s':Shared):Prop:=∃v H',Inv X pins σ H' s'/\RelV v u/\Q v H'
def TP (X:Cx)(pins:List (Addr×Obj))(σ:St)(Q:Bool->Hp->Prop)(b:Bool)(s':Shared):Prop:=∃H',Inv X pins σ H' s'/\Q b H'
def AP (X:Cx)(pins:List (Addr×Obj))(σ:St)(Q:List V->Hp->Prop)(us:List Value)(s':Shared):Prop:=∃vs H',Inv X pins σ H' s'/\Vals vs us/\Q vs H'
def SP (X:Cx)(pins:List (Addr×Obj))(D:Ends)(f:Flow)(s':Shared):Prop :=
 match f with
 | .next=>∃ σ' H',Inv X pins σ' H' s'/\D.nx σ' H'
 | .brk=>∃ σ' H',Inv X pins σ' H' s'/\D.bk σ' H'
 | .cont=>∃ σ' H',Inv X pins σ' H' s'/\D.ct σ' H'
 | .ret u=>∃v σ' H',Inv X pins σ' H' s'/\RelV v u/\D.rt v H'
def PE (X:Cx)(e:Expr)(t:TE):Prop :=
 ∀(pins:List (Addr×Obj)) (s:Shared) (σ:St) (H:Hp) (Q:VK),Inv X pins σ H s->t σ H Q->wpAny (model X.prog X.w) X.A (eval e X.env) (EP X pins σ Q) X.xe s
def PT (X:Cx)(e:Expr)(t:TT):Prop :=
 ∀(pins:List (Addr×Obj)) (s:Shared) (σ:St) (H:Hp) (Q:Bool->Hp->Prop),Inv X pins σ H s->t σ H Q->wpAny (model X.prog X.w) X.A (isTrue e X.env (eval e X.env)) (TP X pins σ Q) X.xe s
def PW (X:Cx)(e:Expr)(t:TT):Prop :=
 ∀(whole:Sem Value) (pins:List (Addr×Obj)) (s:Shared) (σ:St) (H:Hp) (Q:Bool->Hp->Prop),Inv X pins σ H s->t σ H Q->wpAny (model X.prog X.w) X.A (isTrue e X.env whole) (TP X pins σ Q) X.xe s
theorem PW.pt {X:Cx}{e:Expr}{t:TT}(h:PW X e t):PT X e t:=h _
def PA (X:Cx)(es:List Expr)(t:TA):Prop :=
 ∀(pos:Pos) (pins:List (Addr×Obj)) (s:Shared) (σ:St) (H:Hp) (Q:List V->Hp->Prop),Inv X pins σ H s->t σ H Q->wpAny (model X.prog X.w) X.A (spliced (backTo pos (starEach es X.env))) (AP X pins σ Q) X.xe s
def PS (X:Cx)(st:Stmt)(t:TS):Prop :=
 ∀(pins:List (Addr×Obj)) (s:Shared) (σ:St) (H:Hp) (D:Ends),Inv X pins σ H s->t D σ H->wpAny (model X.prog X.w) X.A (exec st X.env) (SP X pins D) X.xe s
def PSs (X:Cx)(st:List Stmt)(t:TS):Prop :=
 ∀(pins:List (Addr×Obj)) (s:Shared) (σ:St) (H:Hp) (D:Ends),Inv X pins σ H s->t D σ H->wpAny (model X.prog X.w) X.A (execs st X.env) (SP X pins D) X.xe s
theorem xT {α:Type}{t:Sem α}{Q Q':α->Shared->Prop}{M:Model}{A:Around}{E:Value->Shared->Prop}{s:Shared}(h:wpAny M A t Q E s)(hQ:∀a s,Q a s->Q' a s):wpAny M A t Q' E s:=wpAny_mono h hQ fun _ _ x=>x
section
variable {X:Cx}
theorem bin {a b:Expr}{ta tb:TE}(ha:PE X a ta)(hb:PE X b tb){pins:List (Addr×Obj)}{s:Shared}{σ:St}{H:Hp}{R:V->V->Hp->Prop}(I:Inv X pins σ H s)(h:ta σ H fun x H1=>tb σ H1 fun y H2=>R x y H2)
  {α:Type}{Q:α->Shared->Prop}{f:Value->Value->Sem α}
  (hf:∀v u s2 x y H2,Inv X pins σ H2 s2->RelV x v->RelV y u->R x y H2->wpAny (model X.prog X.w) X.A (f v u) Q X.xe s2) :
  wpAny (model X.prog X.w) X.A (eval a X.env) (fun v s₁=>wpAny (model X.prog X.w) X.A (eval b X.env) (fun u s₂=>wpAny (model X.prog X.w) X.A (f v u) Q X.xe s₂) X.xe s₁) X.xe s:=by
 refine xT (ha pins s σ H _ I h) fun v s1 ⟨x,H1,I1,r1,q1⟩=>?_
 refine xT (hb pins s1 σ H1 _ I1 q1) fun u s2 ⟨y,H2,I2,r2,q2⟩=>?_
 exact hf v u s2 x y H2 I2 r1 r2 q2
inductive K4 (i:Nat)(σ:St)(H:Hp)(Q:V->Hp->Prop):Prop
 | mk (v:V) (_:σ[i]?=some (some v)) (_:Q v H):K4 i σ H Q
def tC (v:V):TE:=fun _ H Q=>Q v H
theorem zjp {i:Nat}{x:Str}{pos:Pos}(hN:X.N[i]?=some x)(hv:Vis X.env.scope x)(hd:(x==("__debug__" : Str))=false:=by decide)(hcd:(x==("__classdict__" : Str))=false:=by decide):PE X (.Name x pos) (K4 i):=by
 intro pins s σ H Q I h
 obtain⟨v,e,h⟩:=h
 obtain⟨m,hn,hl⟩:=I.loc
 obtain⟨u,r,l⟩:=hl i x v hN e hv
 have fin:EP X pins σ Q u s:=⟨v,H,I,r,h⟩
 rcases l with ⟨hk,hm⟩ | ⟨hk,c,hc,hcell⟩
 ·exact wpAny_Name (wpAny_loadName_local I.ok.kind hk hn hm fin) hd
 ·rcases hk with hk | hk
  ·exact wpAny_Name (wpAny_loadName_cell I.ok.kind hk hc hcell fin) hd
  ·exact wpAny_Name (wpAny_loadName_free I.ok.kind hk hc hcell fin hcd) hd
theorem zq {i j pos}:PE X (.Constant (.int i) j pos) (tC (.int i)):=fun _ _ _ H _ I h=>wpAny_Constant_int ⟨.int i,H,I.tok _,⟨_,rfl⟩,h⟩
theorem Yx {b j pos}:PE X (.Constant (.bool b) j pos) (tC (.bl b)):=fun _ _ _ H _ I h=>Constant_bool ⟨.bl b,H,I,rfl,h⟩
theorem ZS {j pos}:PE X (.Constant .none j pos) (tC .non):=fun _ _ _ H _ I h=>Constant_none ⟨.non,H,I,rfl,h⟩
theorem wB {x j pos}:PE X (.Constant (.str x) j pos) (tC (.str x)):=fun _ _ _ H _ I h=>Calls.Constant_str ⟨.str x,H,I.tok _,⟨_,rfl⟩,h⟩
def Gl (X:Cx)(x:Str):Prop:=X.env.kindOf x=some .globalImplicit
theorem zbu {E:Value->Shared->Prop}{pins:List (Addr×Obj)}{s:Shared}{σ:St}{H:Hp}{x:Str}{u:Value}{pos:Pos}{Q:Value->Shared->Prop}(I:Inv X pins σ H s)(hg:Gl X x)(hm:X.mg x=some u)(h:Q u s)
  (hd:(x==("__debug__" : Str))=false:=by decide):wpAny (model X.prog X.w) X.A (eval (.Name x pos) X.env) Q E s :=
 Calls.Name_function_global I.ok.kind hg (Calls.loadGlobal_global (by rw[I.ok.glob];exact I.mod.glob.keeps I.bk) hm h) hd
theorem RV {E:Value->Shared->Prop}{pins:List (Addr×Obj)}{s:Shared}{σ:St}{H:Hp}{x:Str}{u:Value}{pos:Pos}{Q:Value->Shared->Prop}(I:Inv X pins σ H s)(hg:Gl X x)(hm:X.mg x=none)(hv:bootBuiltins x=some u)(h:Q u s)
  (hn:x ≠ "__name__" := by decide)(hd:(x==("__debug__" : Str))=false:=by decide):wpAny (model X.prog X.w) X.A (eval (.Name x pos) X.env) Q E s:=by
 obtain⟨mb,h1,h2⟩:=I.mod.blt
 exact Calls.Name_function_global I.ok.kind hg (Calls.loadGlobal_builtin (by rw[I.ok.glob];exact I.mod.glob.keeps I.bk) hm (by rw[I.ok.blt];exact h1.keeps I.bk) ((h2 x hn).trans hv) h) hd
theorem Wj {x:Str}{v:V}{u:Value}{pos:Pos}(hg:Gl X x)(hm:X.mg x=some u)(r:RelV v u)(hd:(x==("__debug__" : Str))=false:=by decide):PE X (.Name x pos) (tC v) :=
 fun _ _ _ H _ I h=>zbu I hg hm ⟨v,H,I,r,h⟩ hd
theorem Sx {x:Str}{v:V}{u:Value}{pos:Pos}(hg:Gl X x)(hm:X.mg x=none)(hv:bootBuiltins x=some u)(r:RelV v u)(hn:x ≠ "__name__" := by decide)(hd:(x==("__debug__" : Str))=false:=by decide):PE X (.Name x pos) (tC v) :=
 fun _ _ _ H _ I h=>RV I hg hm hv ⟨v,H,I,r,h⟩ hn hd
variable {a b:Expr}{ta tb:TE}{pos:Pos}
def PC (X:Cx)(op:CmpOp)(a b:Expr)(t:TE):Prop :=
 ∀(pins:List (Addr×Obj)) (s:Shared) (σ:St) (H:Hp) (Q:VK),Inv X pins σ H s->t σ H Q ->
  wpAny (model X.prog X.w) X.A (eval a X.env) (fun v s₁=>wpAny (model X.prog X.w) X.A (eval b X.env) (fun u s₂=>wpAny (model X.prog X.w) X.A (compareOp op v u) (EP X pins σ Q) X.xe s₂) X.xe s₁) X.xe s
def tB (t:TE):TT:=fun σ H Q=>t σ H fun x H1=>∃c,x=.bl c/\Q c H1
theorem zf9 {op:CmpOp}{t:TE}(h:PC X op a b t)(h1:behindInMarks op b=false:=by first | exact zkF _ (by decide) (by decide) | rfl):PT X (.Compare a [op] [b] pos) (tB t):=by
 intro pins s σ H Q I hw
 refine wpAny_isTrue_Compare1 (xT (h pins s σ H _ I hw) fun v s1 h1=>xT h1 fun u s2 h2=>xT h2 fun c s3 ⟨x,H1,I1,r1,q1⟩=>?_) h1
 obtain⟨d,rfl,q⟩:=q1
 cases r1
 exact wpAny_truthy_bool ⟨H1,I1,q⟩
variable {tA tB':TT}{rest:List Expr}
def zmC (t u:TT):TT:=fun σ H Q=>t σ H fun c H1=>if c=true then u σ H1 Q else Q false H1
def tOr (t u:TT):TT:=fun σ H Q=>t σ H fun c H1=>if c=true then Q true H1 else u σ H1 Q
def zmD (t:TT):TT:=fun σ H Q=>t σ H fun c H1=>Q (!c) H1
theorem Qy (ha:PT X a tA):PW X (.BoolOp .And [a] pos) tA:=by
 intro wh pins s σ H Q I h
 refine isTrue_and (xT (ha pins s σ H Q I h) fun c s1 e=>?_)
 cases c with
 | true=>exact isTrue_and_nil e
 | false=>exact e
theorem UJ (ha:PT X a tA):PW X (.BoolOp .Or [a] pos) tA:=by
 intro wh pins s σ H Q I h
 refine isTrue_or (xT (ha pins s σ H Q I h) fun c s1 e=>?_)
 cases c with
 | false=>exact isTrue_or_nil e
 | true=>exact e
theorem K5 (ha:PT X a tA)(hb:PW X (.BoolOp .And (b::rest) pos) tB'):PW X (.BoolOp .And (a::b::rest) pos) (zmC tA tB'):=by
 intro wh pins s σ H Q I h
 refine isTrue_and (xT (ha pins s σ H _ I h) fun c s1 ⟨H1,I1,q1⟩=>?_)
 cases c with
 | true=>exact hb wh pins s1 σ H1 Q I1 q1
 | false=>exact⟨H1,I1,q1⟩
theorem Qz (ha:PT X a tA)(hb:PW X (.BoolOp .Or (b::rest) pos) tB'):PW X (.BoolOp .Or (a::b::rest) pos) (tOr tA tB'):=by
 intro wh pins s σ H Q I h
 refine isTrue_or (xT (ha pins s σ H _ I h) fun c s1 ⟨H1,I1,q1⟩=>?_)
 cases c with
 | true=>exact⟨H1,I1,q1⟩
 | false=>exact hb wh pins s1 σ H1 Q I1 q1
theorem Xy (ha:PT X a tA):PT X (.UnaryOp .Not a pos) (zmD tA):=by
 intro pins s σ H Q I h
 exact isTrue_not (ha pins s σ H (fun c H1=>Q (!c) H1) I h)
def zkG (ta tb:TE):TE:=fun σ H Q=>ta σ H fun x H1=>∃c,x=.bl c/\if c=true then tb σ H1 Q else Q (.bl false) H1
def zmE (ta tb:TE):TE:=fun σ H Q=>ta σ H fun x H1=>∃c,x=.bl c/\if c=true then Q (.bl true) H1 else tb σ H1 Q
def zkH (ta:TE):TE:=fun σ H Q=>ta σ H fun x H1=>∃c,x=.bl c/\Q (.bl (!c)) H1
theorem K6 {op}{t:TE}(h:PE X a t):PE X (.BoolOp op [a] pos) t:=fun pins s σ H Q I hw=>BoolOp_one (h pins s σ H Q I hw)
theorem K7 (ha:PE X a ta)(hb:PE X (.BoolOp .And (b::rest) pos) tb):PE X (.BoolOp .And (a::b::rest) pos) (zkG ta tb):=by
 intro pins s σ H Q I h
 refine BoolOp_and (xT (ha pins s σ H _ I h) fun v s1 ⟨x,H1,I1,r1,q1⟩=>?_)
 obtain⟨c,rfl,q1⟩:=q1
 cases r1
 refine wpAny_truthy_bool ?_
 cases c with
 | true=>exact hb pins s1 σ H1 Q I1 q1
 | false=>exact⟨.bl false,H1,I1,rfl,q1⟩
theorem zkI (ha:PE X a ta)(hb:PE X (.BoolOp .Or (b::rest) pos) tb):PE X (.BoolOp .Or (a::b::rest) pos) (zmE ta tb):=by
 intro pins s σ H Q I h
 refine BoolOp_or (xT (ha pins s σ H _ I h) fun v s1 ⟨x,H1,I1,r1,q1⟩=>?_)
 obtain⟨c,rfl,q1⟩:=q1
 cases r1
 refine wpAny_truthy_bool ?_
 cases c with
 | false=>exact hb pins s1 σ H1 Q I1 q1
 | true=>exact⟨.bl true,H1,I1,rfl,q1⟩
theorem zjq (ha:PE X a ta):PE X (.UnaryOp .Not a pos) (zkH ta):=by
 intro pins s σ H Q I h
 refine UnaryOp_ (xT (ha pins s σ H _ I h) fun v s1 ⟨x,H1,I1,r1,q1⟩=>?_)
 obtain⟨c,rfl,q1⟩:=q1
 cases r1
 exact not_of (wpAny_truthy_bool ⟨.bl (!c),H1,I1,rfl,q1⟩)
def tIf (t:TT)(ta tb:TE):TE:=fun σ H Q=>t σ H fun c H1=>if c=true then ta σ H1 Q else tb σ H1 Q
theorem zcy {c:Expr}(hc:PT X c tA)(ha:PE X a ta)(hb:PE X b tb):PE X (.IfExp c a b pos) (tIf tA ta tb):=by
 intro pins s σ H Q I h
 refine wpAny_IfExp (xT (hc pins s σ H _ I h) fun d s1 ⟨H1,I1,q1⟩=>?_)
 cases d with
 | true=>exact ha pins s1 σ H1 Q I1 q1
 | false=>exact hb pins s1 σ H1 Q I1 q1
end
def zT (K:Frag)(H:Hp)(a:Addr)(xs:List V):Prop :=
 Rd H a (.lst xs) \/
  ∃(o:Obj) (its:Array Value) (n:Nat),K.lookup a=some o/\o.cls=.type "list" /\ o.dict=none/\o.data=.seq its n/\its.size<=sizeLine/\Vals xs its.toList
def xM (K:Frag)(H:Hp)(a:Addr)(xs:List V):Prop :=
 Rd H a (.tup xs) \/
  ∃(o:Obj) (its:Array Value) (n:Nat),K.lookup a=some o/\o.cls=.type "tuple" /\ o.data=.seq its n/\its.size<=sizeLine/\Vals xs its.toList
def zdx:Value->Option V
 | .none=>some .non
 | .bool b=>some (.bl b)
 | .int i _=>some (.int i)
 | .str x _=>some (.str x)
 | .bytes b _=>some (.byt b)
 | .float b _=>some (.flt b)
 | .ref a=>some (.ref a)
 | .type n=>some (.ty n)
 | _=>none
theorem RelV.abs {x:V}{u:Value}(r:RelV x u):zdx u=some x:=by
 cases x with
 | non=>cases r;rfl
 | bl _=>cases r;rfl
 | int _=>obtain⟨t,rfl⟩:=r;rfl
 | str _=>obtain⟨t,rfl⟩:=r;rfl
 | byt _=>obtain⟨t,rfl⟩:=r;rfl
 | flt _=>obtain⟨t,rfl⟩:=r;rfl
 | ref _=>cases r;rfl
 | ty _=>cases r;rfl
theorem RelV.inj {x y:V}{u:Value}(r:RelV x u)(q:RelV y u):x=y:=zrc (r.abs.symm.trans q.abs)
theorem Vals.inj:∀{xs ys:List V} {us:List Value},Vals xs us->Vals ys us->xs=ys
 | _,_,_,.nil,.nil=>rfl
 | _,_,_,.cons r t,.cons r' t'=>by rw[r.inj r',Vals.inj t t']
section
variable {X:Cx}{pins:List (Addr×Obj)}{σ:St}{H:Hp}{s:Shared}{a:Addr}{xs ys:List V}
theorem zT.of {K:Frag}(h:H a=some (.lst xs)):zT K H a xs:=.inl (.inl h)
theorem xM.of {K:Frag}(h:H a=some (.tup xs)):xM K H a xs:=.inl (.inl h)
theorem Inv.list (I:Inv X pins σ H s)(h:zT X.K H a xs):∃its:List Value,Vals xs its/\PlainL s.heap a its.toArray/\xs.length<=sizeLine:=by
 rcases h with h | ⟨o,its,n,hk,hc,hd,hs,hz,r⟩
 ·obtain⟨z,its,n,r,e⟩:=h.ok I.hok
  exact⟨its,r,⟨_,n,e,rfl,rfl,rfl⟩,z⟩
 ·refine⟨its.toList,r,⟨o,n,I.Nv a o hk,hc,hd,by simpa using hs⟩,?_⟩
  have e:=r.length
  simp only[Array.length_toList] at e
  omega
theorem Inv.tuple (I:Inv X pins σ H s)(h:xM X.K H a xs):∃its:List Value,Vals xs its/\IsTup s.heap a its.toArray/\xs.length<=sizeLine:=by
 rcases h with h | ⟨o,its,n,hk,hc,hs,hz,r⟩
 ·obtain⟨z,its,r,p⟩:=h.ok I.hok
  exact⟨its,r,p,z⟩
 ·refine⟨its.toList,r,⟨o,I.Nv a o hk,hc,n,by simpa using hs⟩,?_⟩
  have e:=r.length
  simp only[Array.length_toList] at e
  omega
theorem Inv.QB (I:Inv X pins σ H s)(h:zT X.K H a xs)(h':zT X.K H a ys):xs=ys:=by
 obtain⟨its,r,⟨o,n,e,_,_,d⟩,_⟩:=I.list h
 obtain⟨its',r',⟨o',n',e',_,_,d'⟩,_⟩:=I.list h'
 rw[e] at e';cases e'
 rw[d] at d'
 injection d' with d1 _
 have:its=its':=by simpa using congrArg Array.toList d1
 subst this
 exact r.inj r'
theorem Inv.zaO (I:Inv X pins σ H s)(h:xM X.K H a xs)(h':xM X.K H a ys):xs=ys:=by
 obtain⟨its,r,⟨o,e,_,n,d⟩,_⟩:=I.tuple h
 obtain⟨its',r',⟨o',e',_,n',d'⟩,_⟩:=I.tuple h'
 rw[e] at e';cases e'
 rw[d] at d'
 injection d' with d1 _
 have:its=its':=by simpa using congrArg Array.toList d1
 subst this
 exact r.inj r'
end
abbrev Cx.wish (X:Cx)(E:Value->Shared->Prop):Cx:={ X with xe:=E }
abbrev Cx.nox (X:Cx):Cx:=X.wish fun _ _=>False
theorem Cx.Ok.wish {X:Cx}(ok:X.Ok)(E:Value->Shared->Prop):(X.wish E).Ok :=
 ⟨ok.mod,ok.kind,ok.glob,ok.blt,ok.above,ok.inj,ok.has,ok.cab,ok.hd,ok.frames,ok.stk,ok.exf,ok.bs,ok.bsz,ok.zfi,ok.zfj,ok.Nu,ok.frf⟩
theorem Cx.Ok.UL {X:Cx}{E:Value->Shared->Prop}(ok:(X.wish E).Ok):X.Ok :=
 ⟨ok.mod,ok.kind,ok.glob,ok.blt,ok.above,ok.inj,ok.has,ok.cab,ok.hd,ok.frames,ok.stk,ok.exf,ok.bs,ok.bsz,ok.zfi,ok.zfj,ok.Nu,ok.frf⟩
section
variable {X:Cx}{pins:List (Addr×Obj)}{σ:St}{H:Hp}{s:Shared}{E:Value->Shared->Prop}
theorem Inv.wish (I:Inv X pins σ H s)(E:Value->Shared->Prop):Inv (X.wish E) pins σ H s:=⟨I.ok.wish E,I.os,I.bare,I.base,I.loc,I.cell,I.free,I.UG,I.pin,I.hok,I.len⟩
theorem Inv.UL (I:Inv (X.wish E) pins σ H s):Inv X pins σ H s:=⟨I.ok.UL,I.os,I.bare,I.base,I.loc,I.cell,I.free,I.UG,I.pin,I.hok,I.len⟩
theorem SP.UL {D:Ends}{f:Flow}{s':Shared}(h:SP (X.wish E) pins D f s'):SP X pins D f s':=by
 cases f with
 | next=>obtain⟨σ',H',I,q⟩:=h;exact⟨σ',H',I.UL,q⟩
 | brk=>obtain⟨σ',H',I,q⟩:=h;exact⟨σ',H',I.UL,q⟩
 | cont=>obtain⟨σ',H',I,q⟩:=h;exact⟨σ',H',I.UL,q⟩
 | ret u=>obtain⟨v,σ',H',I,r,q⟩:=h;exact⟨v,σ',H',I.UL,r,q⟩
theorem PSs.nox {st:List Stmt}{t:TS}(h:PSs X.nox st t):PSs X st t:=fun pins s σ H D I hw =>
 wpAny_mono (h pins s σ H D (I.wish _) hw) (fun _ _ q=>q.UL) fun _ _ z=>False.elim z
end
section
variable {X:Cx}{st:Stmt}{rest:List Stmt}{t u:TS}{e:Expr}{te:TE}{pos:Pos}
def zkJ:TS:=fun D σ H=>D.nx σ H
def zmF (t u:TS):TS:=fun D σ H=>t { D with nx:=u D } σ H
theorem zR:PSs X [] zkJ:=fun _ _ σ H _ I h=>wpAny_execs_nil ⟨σ,H,I,h⟩
theorem zj (h1:PS X st t)(h2:PSs X rest u):PSs X (st::rest) (zmF t u):=by
 intro pins s σ H D I h
 refine wpAny_execs_cons (xT (h1 pins s σ H { D with nx:=u D } I h) fun f s1 q=>?_)
 cases f with
 | next =>
  obtain⟨σ',H',I',q⟩:=q
  exact h2 pins s1 σ' H' D I' q
 | ret v=>exact q
 | brk=>exact q
 | cont=>exact q
theorem zu (h1:PS X st t):PSs X [st] t:=by
 intro pins s σ H D I h
 refine wpAny_execs_cons (xT (h1 pins s σ H D I h) fun f s1 q=>?_)
 cases f with
 | next=>exact wpAny_execs_nil q
 | ret v=>exact q
 | brk=>exact q
 | cont=>exact q
theorem Inv.quiet {pins:List (Addr×Obj)}{σ:St}{H:Hp}{s:Shared}(I:Inv X pins σ H s):interactive X.env=false:=by simp[interactive,I.ok.kind]
def zkK (te:TE):TS:=fun D σ H=>te σ H fun _ H1=>D.nx σ H1
theorem yj (he:PE X e te)(hs:swapsWith e none pos.line X.env=pure false:=by rfl):PS X (.Expr e pos) (zkK te):=by
 intro pins s σ H D I h
 exact wpAny_Expr_any (xT (he pins s σ H _ I h) fun v s1 ⟨x,H1,I1,r1,q1⟩=>⟨σ,H1,I1,q1⟩) I.quiet hs
def zmG (te:TE):TS:=fun D σ H=>te σ H D.rt
theorem zL (he:PE X e te):PS X (.Return (some e) pos) (zmG te):=by
 intro pins s σ H D I h
 exact wpAny_Return_some (xT (he pins s σ H _ I h) fun v s1 ⟨x,H1,I1,r1,q1⟩=>⟨x,σ,H1,I1,r1,q1⟩)
def zmH (c:TT)(t u:TS):TS:=fun D σ H=>c σ H fun b H1=>if b=true then t D σ H1 else u D σ H1
theorem yp {c:Expr}{a b:List Stmt}{tc:TT}(hc:PT X c tc)(ha:PSs X a t)(hb:PSs X b u):PS X (.If c a b pos) (zmH tc t u):=by
 intro pins s σ H D I h
 refine wpAny_If (xT (hc pins s σ H _ I h) fun d s1 ⟨H1,I1,q1⟩=>?_)
 cases d with
 | true=>exact ha pins s1 σ H1 D I1 q1
 | false=>exact hb pins s1 σ H1 D I1 q1
def zjr:TS:=fun _ _ _=>False
theorem UW:PS X st zjr:=fun _ _ _ _ _ _ h=>h.elim
end
abbrev TG:=V->St->Hp->(St->Hp->Prop)->Prop
abbrev TGs:=List V->St->Hp->(St->Hp->Prop)->Prop
def PG (X:Cx)(target:Expr)(t:TG):Prop :=
 ∀(pins:List (Addr×Obj)) (s:Shared) (σ:St) (H:Hp) (v:V) (u:Value) (Q:St->Hp->Prop),Inv X pins σ H s->RelV v u->t v σ H Q ->
  wpAny (model X.prog X.w) X.A (assign target X.env u) (fun _ s'=>∃ σ' H',Inv X pins σ' H' s'/\Q σ' H') X.xe s
def PGs (X:Cx)(ts:List Expr)(t:TGs):Prop :=
 ∀(pins:List (Addr×Obj)) (s:Shared) (σ:St) (H:Hp) (vs:List V) (us:List Value) (Q:St->Hp->Prop),Inv X pins σ H s->Vals vs us->t vs σ H Q ->
  wpAny (model X.prog X.w) X.A (assignInOrder ((assignEach ts X.env).map (·.2)) us) (fun _ s'=>∃ σ' H',Inv X pins σ' H' s'/\Q σ' H') X.xe s
abbrev zjt:=V->V->V->Hp->(Hp->Prop)->Prop
def zkL (X:Cx)(t:zjt):Prop :=
 ∀(pins:List (Addr×Obj)) (s:Shared) (σ:St) (H:Hp) (o i v:V) (ov iv u:Value) (Q:Hp->Prop),Inv X pins σ H s->RelV o ov->RelV i iv->RelV v u->t o i v H Q ->
  wpAny (model X.prog X.w) X.A (setItem ov iv u) (fun _ s'=>∃H',Inv X pins σ H' s'/\Q H') X.xe s
abbrev TIp:=V->V->Hp->VK->Prop
def PIp (X:Cx)(op:Operator)(t:TIp):Prop :=
 ∀(pins:List (Addr×Obj)) (s:Shared) (σ:St) (H:Hp) (x y:V) (v u:Value) (Q:VK),Inv X pins σ H s->RelV x v->RelV y u->t x y H Q ->
  wpAny (model X.prog X.w) X.A (inplaceOp op v u) (EP X pins σ Q) X.xe s
section
variable {X:Cx}{pos:Pos}
def Va (i:Nat):TG:=fun v σ H Q=>Q (σ.set i (some v)) H
theorem yI {i:Nat}{x:Str}(hN:X.N.Nodup)(hi:X.N[i]?=some x)(hx:Loc X.env.scope x)(hf:X.fn x=true\/X.env.scope.names.lookup x=some .local:=by first | exact .inl rfl | exact .inr rfl | assumption):PG X (.Name x pos) (Va i):=by
 intro pins s σ H v u Q I r h
 exact wpAny_assign_Name (K3 I hN hi hx r (fun s' I'=>⟨_,H,I',h⟩) hf)
def zhA:TGs:=fun vs σ H Q=>vs=[]/\Q σ H
def K8 (t:TG)(u:TGs):TGs:=fun vs σ H Q=>∃v r,vs=v::r/\t v σ H fun σ' H'=>u r σ' H' Q
theorem zbv:PGs X [] zhA:=by
 intro pins s σ H vs us Q I r h
 obtain⟨e,h⟩:=h
 subst e
 cases r
 exact assignInOrder_nil ⟨σ,H,I,h⟩
theorem Xz {e:Expr}{es:List Expr}{t:TG}{u:TGs}(h1:PG X e t)(h2:PGs X es u)
  (hs:(assignEach (e::es) X.env).map (·.2)=assign e X.env::(assignEach es X.env).map (·.2):=by rfl):PGs X (e::es) (K8 t u):=by
 intro pins s σ H vs us Q I r h
 obtain⟨v,vr,e1,h⟩:=h
 subst e1
 cases r with
 | cons r rr =>
  rw[hs]
  refine assignInOrder_cons (xT (h1 pins s σ H _ _ _ I r h) fun _ s1 ⟨σ1,H1,I1,q1⟩=>?_)
  exact h2 pins s1 σ1 H1 _ _ Q I1 rr q1
def zhB (K:Frag)(n:Nat)(t:TGs):TG:=fun v σ H Q=>∃a xs,v=.ref a/\xM K H a xs/\xs.length=n/\t xs σ H Q
theorem zdy {es:List Expr}{k:Nat}{t:TGs}{n:Nat}(hc:X.calm=true)(h:PGs X es t)
  (hn:(assignEach es X.env).length=n:=by rfl)(hst:(assignEach es X.env).findIdx? (·.1)=none:=by rfl):PG X (.Tuple es k pos) (zhB X.K n t):=by
 intro pins s σ H v u Q I r hw
 obtain⟨a,xs,e1,hq,hl,hw⟩:=hw
 subst e1
 cases r
 obtain⟨its,rv,ht,hz⟩:=I.tuple hq
 refine assign_Tuple_tuple (I.ok.hd hc) ht (by simp[hn,<-hl,rv.length]) hst fun h' hx=>?_
 have I1:Inv X pins σ H { s with heap:=h' }:=I.kept (t':=s.toks) fun b o e=>hx b o (zqX (zqP e)) e
 exact h pins _ σ H xs _ Q I1 (by simpa using rv) hw
def zmJ (to ti:TE)(t:zjt):TG:=fun v σ H Q=>to σ H fun o H1=>ti σ H1 fun i H2=>t o i v H2 fun H3=>Q σ H3
theorem zga {o i:Expr}{to ti:TE}{t:zjt}(ho:PE X o to)(hi:PE X i ti)(hs:zkL X t)
  (ha:∀v,assign (.Subscript o i pos) X.env v=(do
   let ov <-holding [v] (eval o X.env)
   let iv <-holding [v,ov] (eval i X.env)
   standAt pos
   holding [v,ov,iv] (setItem ov iv v)
   release [v,ov,iv] []):=by intro _;rfl):PG X (.Subscript o i pos) (zmJ to ti t):=by
 intro pins s σ H v u Q I r h
 rw[ha]
 refine wpAny_bind (wpAny_holding (xT (ho pins s σ H _ I h) fun ov s1 ⟨x,H1,I1,r1,q1⟩=>?_))
 refine wpAny_bind (wpAny_holding (xT (hi pins s1 σ H1 _ I1 q1) fun iv s2 ⟨y,H2,I2,r2,q2⟩=>?_))
 refine wpAny_bind (wpAny_standAt (wpAny_bind (wpAny_holding (xT (hs pins s2 σ H2 x y v ov iv u _ I2 r1 r2 r q2) fun _ s3 ⟨H3,I3,q3⟩=>?_))))
 exact wpAny_release ⟨σ,H3,I3,q3⟩
def zhC (te:TE)(g:TG):TS:=fun D σ H=>te σ H fun x H1=>g x σ H1 D.nx
theorem zbw {tg e:Expr}{te:TE}{g:TG}(he:PE X e te)(hg:PG X tg g)(hs:swapsWithSole [tg] e pos.line X.env=pure false:=by rfl)(hw:swappedStores [tg] e X.env=pure none:=by rfl)
  (h1:(assignEach [tg] X.env).map (·.2)=[assign tg X.env]:=by rfl):PS X (.Assign [tg] e pos) (zhC te g):=by
 intro pins s σ H D I h
 refine wpAny_Assign_stores (xT (he pins s σ H _ I h) fun v s1 ⟨x,H1,I1,r1,q1⟩=>?_) hs hw
 rw[h1]
 exact xT (hg pins s1 σ H1 x v _ I1 r1 q1) fun _ s2 q=>q
theorem U0 {i:Nat}{x:Str}{e:Expr}{te:TE}{pos':Pos}(hN:X.N.Nodup)(hi:X.N[i]?=some x)(hx:Loc X.env.scope x)(he:PE X e te)(hs:swapsWith e (some (.Name x pos')) pos.line X.env=pure false:=by rfl)(hf:X.fn x=true\/X.env.scope.names.lookup x=some .local:=by first | exact .inl rfl | exact .inr rfl | assumption) :
  PS X (.Assign [.Name x pos'] e pos) (zhC te (Va i)):=by
 intro pins s σ H D I h
 refine wpAny_Assign_Name (xT (he pins s σ H _ I h) fun v s1 ⟨y,H1,I1,r1,q1⟩=>?_) hs
 exact K3 I1 hN hi hx r1 (fun s2 I2=>⟨_,H1,I2,q1⟩) hf
def zmK (i:Nat)(te:TE)(ti:TIp):TS:=fun D σ H=>∃x,σ[i]?=some (some x)/\te σ H fun y H1=>ti x y H1 fun z H2=>D.nx (σ.set i (some z)) H2
theorem zdz {i:Nat}{x:Str}{e:Expr}{te:TE}{op:Operator}{ti:TIp}{pos':Pos}(hN:X.N.Nodup)(hi:X.N[i]?=some x)(hx:Loc X.env.scope x)(he:PE X e te)(ho:PIp X op ti)(hf:X.fn x=true\/X.env.scope.names.lookup x=some .local:=by first | exact .inl rfl | exact .inr rfl | assumption) :
  PS X (.AugAssign (.Name x pos') op e pos) (zmK i te ti):=by
 intro pins s σ H D I h
 obtain⟨v,e1,h⟩:=h
 obtain⟨m,hn,hl⟩:=I.loc
 have vis:Vis X.env.scope x:=by rcases hx with k | k;exact .inl k;exact .inr (.inl k)
 obtain⟨u,r,l⟩:=hl i x v hi e1 vis
 refine wpAny_AugAssign_Name ?_
 have go:wpAny (model X.prog X.w) X.A (eval e X.env) (fun w s₂=>wpAny (model X.prog X.w) X.A (inplaceOp op u w) (fun r s₃=>wpAny (model X.prog X.w) X.A (storeName X.env x r) (fun _=>SP X pins D .next) X.xe s₃) X.xe s₂) X.xe s:=by
  refine xT (he pins s σ H _ I h) fun w s1 ⟨y,H1,I1,r1,q1⟩=>?_
  refine xT (ho pins s1 σ H1 v y u w _ I1 r r1 q1) fun z s2 ⟨zv,H2,I2,r2,q2⟩=>?_
  exact K3 I2 hN hi hx r2 (fun s3 I3=>⟨_,H2,I3,q2⟩) hf
 rcases l with ⟨hk,hm⟩ | ⟨hk,c,hc,hcell⟩
 ·exact wpAny_loadName_local I.ok.kind hk hn hm go
 ·rcases hk with hk | hk
  ·exact wpAny_loadName_cell I.ok.kind hk hc hcell go
  ·rcases hx with k | k
   ·have:X.env.scope.names.lookup x=some .free:=hk
    rw[k] at this;cases this
   ·have:X.env.scope.names.lookup x=some .free:=hk
    rw[k] at this;cases this
def zju (c:TT)(tb:TS):TS:=fun D σ H=>∃W:Nat->St->Hp->Prop,(∃m,W m σ H)/\∀m σ H,W m σ H ->
 c σ H fun b H1=>if b=true then ∃N:St->Hp->Prop,(∀ σ' H',N σ' H'->∃m',m'<m/\W m' σ' H')/\tb { D with nx:=N,ct:=N,bk:=D.nx } σ H1 else D.nx σ H1
theorem Vb {c:Expr}{body:List Stmt}{tc:TT}{tb:TS}(hp:PassesOwn (model X.prog X.w) X.A X.env X.xe)(hc:PT X c tc)(hb:PSs X body tb):PS X (.While c body [] pos) (zju tc tb):=by
 intro pins s σ H D I h
 obtain⟨W,⟨m0,w0⟩,turn⟩:=h
 refine wpAny_While (codeAny_whileLoop (fun n s'=>∃ σ' H',Inv X pins σ' H' s'/\W n σ' H') ?_ m0 ⟨σ,H,I,w0⟩)
 rintro n s1 ⟨σ1,H1,I1,w1⟩
 refine wpAny_passesOwn hp (xT (hc pins s1 σ1 H1 _ I1 (turn n σ1 H1 w1)) fun b s2 ⟨H2,I2,q2⟩=>?_)
 cases b with
 | true =>
  obtain⟨N,hN,q2⟩:=q2
  rw[if_pos rfl]
  refine wpAny_passesOwn hp (xT (hb pins s2 σ1 H2 _ I2 q2) fun f s3 q3=>?_)
  cases f with
  | next =>
   obtain⟨σ3,H3,I3,n3⟩:=q3
   obtain⟨m',hm,w3⟩:=hN σ3 H3 n3
   exact⟨m',hm,σ3,H3,I3,w3⟩
  | cont =>
   obtain⟨σ3,H3,I3,n3⟩:=q3
   obtain⟨m',hm,w3⟩:=hN σ3 H3 n3
   exact⟨m',hm,σ3,H3,I3,w3⟩
  | brk=>exact q3
  | ret v=>exact q3
 | false =>
  rw[if_neg zqM]
  exact wpAny_execs_nil ⟨σ1,H2,I2,q2⟩
end
structure It where
 go:Nat->Hp->Prop
 Kh:Nat->Hp->V->Hp->Prop
 stop:Nat->Hp->Prop
def zcz (X:Cx)(pins:List (Addr×Obj))(H:Hp)(b:Addr):Prop :=
 H b=none/\b≠X.env.locals/\b∉X.fs/\(b∈X.ex\/X.s₀.heap.objs.size<=b)/\(∀x c,X.env.cells.lookup x=some c->c≠b)/\∀p∈X.pn++pins,p.1≠b
theorem Inv.zhD {X:Cx}{pins:List (Addr×Obj)}{σ:St}{H H':Hp}{s:Shared}{b:Addr}(I:Inv X pins σ H s)(hb:s.heap.objs.size<=b)(hn:H' b=none):zcz X pins H' b:=by
 refine⟨hn,Nat.ne_of_gt (zqR I.lt hb),I.zjn hb,.inr (zq3 I.sz hb),fun x c e z=>?_,fun p hp z=>?_⟩
 ·obtain⟨v,q⟩:=I.cell x c e
  exact absurd (zqR q.lt (by rw[z];exact hb)) (Nat.lt_irrefl _)
 ·exact absurd (zqR (zqP (I.pin p hp).1) (by rw[z];exact hb)) (Nat.lt_irrefl _)
abbrev Calm (X:Cx):Prop:=X.calm=true
structure Turn (P:Program)(w:World)(K:Frag)(tg:Expr)(J:It)(fp:List Addr)(it:Addr)(tn:Nat->Heap->Prop)(rd:Cx->Prop:=Calm):Prop where
 mem:it∈fp
 obj:∀i h,tn i h->∀b∈fp,∃o,h.get? b=some o/\∀v,o.data≠.cell v
 keep:∀i h h',tn i h->(∀b∈fp,∀o,h.get? b=some o->h'.get? b=some o)->tn i h'
 item:∀(X:Cx),X.prog=P->X.w=w->X.K=K->rd X->∀(i:Nat) (pins:List (Addr×Obj)) (s:Shared) (σ:St) (H:Hp) (E:Value->Shared->Prop),Inv X pins σ H s->(∀b∈fp,zcz X pins H b)->tn i s.heap->J.go i H ->
  wpAny (model P w) X.A (pyNext (.ref it)) (fun r s1=>∃u,r=some u /\
   wpAny (model P w) X.A (letOwnedTupleGo tg (.ref it) u) (fun _ s2=>∃x H',Inv X pins σ H' s2/\RelV x u/\J.Kh i H x H'/\tn (i+1) s2.heap/\∀b∈fp,H' b=none) E s1) E s
 done:∀(X:Cx),X.prog=P->X.w=w->X.K=K->rd X->∀(i:Nat) (pins:List (Addr×Obj)) (s:Shared) (σ:St) (H:Hp) (E:Value->Shared->Prop),Inv X pins σ H s->(∀b∈fp,zcz X pins H b)->tn i s.heap->J.stop i H ->
  wpAny (model P w) X.A (pyNext (.ref it)) (fun r s1=>r=none/\Inv X pins σ H s1) E s
 self:∀(A:Around) (i:Nat) (s:Shared) (Q:Value->Shared->Prop) (E:Value->Shared->Prop),tn i s.heap->Q (.ref it) s->wpAny (model P w) A (pyIter (.ref it)) Q E s
abbrev TI:=St->Hp->(It->Hp->Prop)->Prop
def zkM (rd:Cx->Prop)(X:Cx)(pins:List (Addr×Obj))(σ:St)(tg:Expr)(R:It->Hp->Prop)(itv:Value)(s2:Shared):Prop :=
 ∃(it:Addr) (fp:List Addr) (tn:Nat->Heap->Prop) (J:It) (H':Hp),itv=.ref it/\Inv X pins σ H' s2/\Turn X.prog X.w X.K tg J fp it tn rd/\tn 0 s2.heap/\(∀b∈fp,zcz X pins H' b)/\R J H'
abbrev PIE:=zkM Calm
def PIr (rd:Cx->Prop)(X:Cx)(tg iter:Expr)(wi:TI):Prop :=
 ∀(pins:List (Addr×Obj)) (s:Shared) (σ:St) (H:Hp) (R:It->Hp->Prop),Inv X pins σ H s->wi σ H R ->
  wpAny (model X.prog X.w) X.A (eval iter X.env) (fun v s1=>wpAny (model X.prog X.w) X.A (pyIter v) (zkM rd X pins σ tg R) X.xe s1) X.xe s
abbrev PI:=PIr Calm
theorem zeu {M:Model}{A:Around}{E:Value->Shared->Prop}{s:Shared}{tg:Expr}{it:Addr}{u:Value}{o:Obj}{n:String}{vs:Array Value}{Q:Unit->Shared->Prop}(ho:s.heap.get? it=some o)(hc:o.cls=.type n)(hd:o.data=.fields vs)
  (hn:["enumerate", "zip", "dict_itemiterator", "dict_reverseitemiterator", "odict_iterator", "itertools.zip_longest", "itertools.pairwise"].contains n=false)(hQ:Q () s):wpAny M A (letOwnedTupleGo tg (.ref it) u) Q E s:=by
 unfold letOwnedTupleGo
 cases tg<;>first
  | exact wpAny_pure hQ
  | (cases u<;>first
    | exact wpAny_pure hQ
    | (refine wpAny_bind (wpAny_load ho ?_)
       rw[hc,hd]
       show wpAny M A (if (["enumerate", "zip", "dict_itemiterator", "dict_reverseitemiterator", "odict_iterator", "itertools.zip_longest", "itertools.pairwise"].contains n&&vs[0]?==some (rawInt _))=true then _ else _) Q E s
       rw[if_neg (by intro h;rw[hn,Bool.false_and] at h;cases h)]
       exact wpAny_pure hQ))
def K9 (K:Frag)(a:Addr):It :=
 ⟨fun i H=>∃xs x,zT K H a xs/\xs[i]?=some x,fun i H x H'=>H'=H/\∀xs,zT K H a xs->xs[i]?=some x,fun i H=>∃xs,zT K H a xs/\xs.length<=i⟩
def Itt (K:Frag)(a:Addr):It :=
 ⟨fun i H=>∃xs x,xM K H a xs/\xs[i]?=some x,fun i H x H'=>H'=H/\∀xs,xM K H a xs->xs[i]?=some x,fun i H=>∃xs,xM K H a xs/\xs.length<=i⟩
def Itr (lo:Int)(n:Nat):It:=⟨fun i _=>i<n,fun i H x H'=>H'=H/\x=.int (lo+i),fun i _=>n<=i⟩
theorem zfl {P:Program}{w:World}{K:Frag}{tg:Expr}(a it:Addr):Turn P w K tg (K9 K a) [it] it (fun i h=>h.IsListIter it a i) where
 mem:=by simp
 obj:=fun i h st b hb=>by
  have e:b=it:=by simpa using hb
  subst e
  obtain⟨o,e,c,d⟩:=st
  exact⟨o,e,fun v z=>by rw[d] at z;cases z⟩
 keep:=fun i h h' st k=>st.at fun o e=>k it (by simp) o e
 item:=by
  intro X hP hw hK hc i pins s σ H E I hf st hg
  subst hP hw hK
  obtain⟨xs,x,hq,hx⟩:=hg
  obtain⟨its,rv,p,hz⟩:=I.list hq
  obtain⟨u,hu,ru⟩:=rv.get hx
  obtain⟨f0,f1,f2,f3,f4,f5⟩:=hf it (by simp)
  refine wpAny_pyNext_list_item st p.isList (x:=u) (by simpa using hu) fun h' st' sb=>?_
  have I1:Inv X pins σ H { s with heap:=h' }:=I.turned (t':=s.toks) (fun b o hb e=>(sb.2 b hb).trans e) f0 f1 f3 f4 f5
  obtain⟨o,e,c,d⟩:=id st'
  exact⟨u,rfl,zeu (s:={ s with heap:=h' }) e c d (by decide) ⟨x,H,I1,ru,⟨rfl,fun ys hy=>by rw[I.QB hy hq];exact hx⟩,st',fun b hb=>(hf b hb).1⟩⟩
 done:=by
  intro X hP hw hK hc i pins s σ H E I hf st hg
  subst hP hw hK
  obtain⟨xs,hq,hx⟩:=hg
  obtain⟨its,rv,p,hz⟩:=I.list hq
  obtain⟨f0,f1,f2,f3,f4,f5⟩:=hf it (by simp)
  have hl:=rv.length
  exact wpAny_pyNext_list_end (I.ok.hd hc) st p.isList (by simp;omega) fun h' eb=>⟨rfl,I.turned (t':=s.toks) (fun b o hb e=>eb b o hb e) f0 f1 f3 f4 f5⟩
 self:=fun _ _ _ _ _ st h=>wpAny_pyIter_listiter st h
theorem zdA {P:Program}{w:World}{K:Frag}{tg:Expr}(a it:Addr):Turn P w K tg (Itt K a) [it] it (fun i h=>h.IsTupleIter it a i) where
 mem:=by simp
 obj:=fun i h st b hb=>by
  have e:b=it:=by simpa using hb
  subst e
  obtain⟨o,e,c,d⟩:=st
  exact⟨o,e,fun v z=>by rw[d] at z;cases z⟩
 keep:=fun i h h' st k=>st.at fun o e=>k it (by simp) o e
 item:=by
  intro X hP hw hK hc i pins s σ H E I hf st hg
  subst hP hw hK
  obtain⟨xs,x,hq,hx⟩:=hg
  obtain⟨its,rv,p,hz⟩:=I.tuple hq
  obtain⟨u,hu,ru⟩:=rv.get hx
  obtain⟨f0,f1,f2,f3,f4,f5⟩:=hf it (by simp)
  refine wpAny_pyNext_tuple_item st (show s.heap.IsTuple a its.toArray from p) (x:=u) (by simpa using hu) fun h' st' sb=>?_
  have I1:Inv X pins σ H { s with heap:=h' }:=I.turned (t':=s.toks) (fun b o hb e=>(sb.2 b hb).trans e) f0 f1 f3 f4 f5
  obtain⟨o,e,c,d⟩:=id st'
  exact⟨u,rfl,zeu (s:={ s with heap:=h' }) e c d (by decide) ⟨x,H,I1,ru,⟨rfl,fun ys hy=>by rw[I.zaO hy hq];exact hx⟩,st',fun b hb=>(hf b hb).1⟩⟩
 done:=by
  intro X hP hw hK hc i pins s σ H E I hf st hg
  subst hP hw hK
  obtain⟨xs,hq,hx⟩:=hg
  obtain⟨its,rv,p,hz⟩:=I.tuple hq
  obtain⟨f0,f1,f2,f3,f4,f5⟩:=hf it (by simp)
  have hl:=rv.length
  exact wpAny_pyNext_tuple_end (I.ok.hd hc) st (show s.heap.IsTuple a its.toArray from p) (by simp;omega) fun h' eb=>⟨rfl,I.turned (t':=s.toks) (fun b o hb e=>eb b o hb e) f0 f1 f3 f4 f5⟩
 self:=fun _ _ _ _ _ st h=>wpAny_pyIter_tupleiter st h
theorem zdB {P:Program}{w:World}{K:Frag}{tg:Expr}(it:Addr)(lo:Int)(n:Nat):Turn P w K tg (Itr lo n) [it] it (fun i h=>IsRangeIter h it (lo+(i:Nat)*1) ((n:Int)-(i:Nat)) 1) where
 mem:=by simp
 obj:=fun i h st b hb=>by
  have e:b=it:=by simpa using hb
  subst e
  exact⟨_,st,fun v z=>by
   have z':Data.fields _=Data.cell v:=z
   cases z'⟩
 keep:=fun i h h' st k=>k it (by simp) _ st
 item:=by
  intro X hP hw hK hc i pins s σ H E I hf st hg
  subst hP hw hK
  obtain⟨f0,f1,f2,f3,f4,f5⟩:=hf it (by simp)
  have W:=Walks.range (prog:=X.prog) (w:=X.w) (I.ok.hd hc) it lo 1 n
  refine W.item i s _ _ hg st fun v h' tk hv st' kk=>?_
  obtain⟨t,rfl⟩:=hv
  have I1:Inv X pins σ H { s with heap:=h',toks:=tk }:=I.turned (fun b o hb e=>kk b o (by simpa using hb) e) f0 f1 f3 f4 f5
  refine⟨_,rfl,zeu (s:={ s with heap:=h',toks:=tk }) (n := "range_iterator") st' rfl rfl (by decide) ⟨.int (lo+i),H,I1,⟨t,?_⟩,⟨rfl,rfl⟩,st',fun b hb=>(hf b hb).1⟩⟩
  rw[Int.mul_one]
 done:=by
  intro X hP hw hK hc i pins s σ H E I hf st hg
  subst hP hw hK
  obtain⟨f0,f1,f2,f3,f4,f5⟩:=hf it (by simp)
  exact wpAny_pyNext_range_end (I.ok.hd hc) st (by have:n<=i:=hg;omega) fun h' eb=>⟨rfl,I.turned (t':=s.toks) (fun b o hb e=>eb b o hb e) f0 f1 f3 f4 f5⟩
 self:=fun _ _ _ _ _ st h=>wpAny_pyIter_rangeiter st h
section
variable {X:Cx}{tg:Expr}
def zkN (K:Frag)(tl:TE):TI:=fun σ H R=>tl σ H fun x H1=>∃a,x=.ref a/\(∃xs,zT K H1 a xs)/\R (K9 K a) H1
def zmL (K:Frag)(tl:TE):TI:=fun σ H R=>tl σ H fun x H1=>∃a,x=.ref a/\(∃xs,xM K H1 a xs)/\R (Itt K a) H1
theorem yZ {l:Expr}{tl:TE}(hl:PE X l tl):PI X tg l (zkN X.K tl):=by
 intro pins s σ H R I h
 refine xT (hl pins s σ H _ I h) fun v s1 ⟨x,H1,I1,r1,q1⟩=>?_
 obtain⟨a,e,⟨xs,hq⟩,q⟩:=q1
 subst e
 cases r1
 obtain⟨its,rv,p,hz⟩:=I1.list hq
 refine wpAny_pyIter_list p.isList ?_
 refine⟨s1.heap.objs.size,[s1.heap.objs.size],_,_,H1,rfl,I1.kept (t':=s1.toks) fun b o e=>zqO _ e,zfl a _,⟨_,zq2 _ rfl,rfl,rfl⟩,fun b hb=>?_,q⟩
 have e:b=s1.heap.objs.size:=by simpa using hb
 subst e
 exact I1.zhD (zqY _) (I1.hok.fresh (zqY _))
theorem RW {l:Expr}{tl:TE}(hl:PE X l tl):PI X tg l (zmL X.K tl):=by
 intro pins s σ H R I h
 refine xT (hl pins s σ H _ I h) fun v s1 ⟨x,H1,I1,r1,q1⟩=>?_
 obtain⟨a,e,⟨xs,hq⟩,q⟩:=q1
 subst e
 cases r1
 obtain⟨its,rv,p,hz⟩:=I1.tuple hq
 refine wpAny_pyIter_tuple (show s1.heap.IsTuple a its.toArray from p) ?_
 refine⟨s1.heap.objs.size,[s1.heap.objs.size],_,_,H1,rfl,I1.kept (t':=s1.toks) fun b o e=>zqO _ e,zdA a _,⟨_,zq2 _ rfl,rfl,rfl⟩,fun b hb=>?_,q⟩
 have e:b=s1.heap.objs.size:=by simpa using hb
 subst e
 exact I1.zhD (zqY _) (I1.hok.fresh (zqY _))
theorem zcA {pins:List (Addr×Obj)}{σ:St}{H:Hp}{s:Shared}{R:It->Hp->Prop}{E:Value->Shared->Prop}{lo hi:Int}{t u v:Tok}{tk:Nat}(I:Inv X pins σ H s)(h1:-(2^62)<=lo)(h2:lo<2^62)(h3:-(2^62)<=hi)(h4:hi<2^62)
  (q:R (Itr lo (hi-lo).toNat) H):wpAny (model X.prog X.w) X.A (pyIter (.ref s.heap.objs.size)) (PIE X pins σ tg R) E { s with heap:=s.heap.push { cls:=.type "range", data:=.fields #[.int lo t,.int hi u,.int 1 v] },toks:=tk }:=by
 refine wpAny_pyIter_range (IsRange.new ..) (small_one h1 h2 h3 h4) ?_
 have I1:Inv X pins σ H { s with heap:=s.heap.push { cls:=.type "range", data:=.fields #[.int lo t,.int hi u,.int 1 v] },toks:=tk }:=I.kept fun b o e=>zqO _ e
 refine⟨(s.heap.push { cls:=.type "range", data:=.fields #[.int lo t,.int hi u,.int 1 v] }).objs.size,[(s.heap.push { cls:=.type "range", data:=.fields #[.int lo t,.int hi u,.int 1 v] }).objs.size],_,_,H,rfl,
  I1.kept (t':=tk) fun b o e=>zqO _ e,zdB _ lo (hi-lo).toNat,?_,fun b hb=>?_,q⟩
 ·have e1:lo+((0:Nat):Int)*1=lo:=by simp
  have e2:(((hi-lo).toNat:Nat):Int)-((0:Nat):Int)=Builtin.Range.rangeSize lo hi 1:=by rw[rangeSize_one];split<;>omega
  show IsRangeIter _ _ (lo+((0:Nat):Int)*1) ((((hi-lo).toNat:Nat):Int)-((0:Nat):Int)) 1
  rw[e1,e2]
  exact zq2 _ rfl
 ·have e:b=(s.heap.push { cls:=.type "range", data:=.fields #[.int lo t,.int hi u,.int 1 v] }).objs.size:=by simpa using hb
  subst e
  exact I1.zhD (zqY _) (I1.hok.fresh (zqY _))
def zkO (ta:TA):TI:=fun σ H R=>ta σ H fun vs H1=>∃j:Int,vs=[.int j]/\-(2^62)<=j/\j<2^62/\R (Itr 0 j.toNat) H1
def zkP (ta:TA):TI:=fun σ H R=>ta σ H fun vs H1=>∃i j:Int,vs=[.int i,.int j]/\(-(2^62)<=i/\i<2^62/\-(2^62)<=j/\j<2^62)/\R (Itr i (j-i).toNat) H1
theorem ZV {a:Expr}{ta:TA}{p pos:Pos}(hg:Gl X "range")(hm:X.mg "range"=none)(ha:PA X [a] ta)(hs:starEach [a] X.env=[(false,eval a X.env)]:=by rfl):PI X tg (.Call (.Name "range" p) [a] [] pos) (zkO ta):=by
 intro pins s σ H R I h
 refine Call_ (RV I hg hm boot_range (PyProof.Rows.callWith_type1 (xT (ha pos pins s σ H _ I h) fun us s1 ⟨vs,H1,I1,r1,q1⟩=>?_) hs rfl))
 obtain⟨j,e,q1,q2,q⟩:=q1
 subst e
 cases r1 with
 | cons r rr =>
  cases rr
  obtain⟨t,rfl⟩:=r
  exact call_range_1 (zcA I1 (by omega) (by omega) q1 q2 (by simpa using q))
theorem zaQ {a b:Expr}{ta:TA}{p pos:Pos}(hg:Gl X "range")(hm:X.mg "range"=none)(ha:PA X [a,b] ta)(hs:starEach [a,b] X.env=[(false,eval a X.env),(false,eval b X.env)]:=by rfl)(hs2:starEach [b] X.env=[(false,eval b X.env)]:=by rfl) :
  PI X tg (.Call (.Name "range" p) [a,b] [] pos) (zkP ta):=by
 intro pins s σ H R I h
 refine Call_ (RV I hg hm boot_range (PyProof.Rows.callWith_type1 (xT (ha pos pins s σ H _ I h) fun us s1 ⟨vs,H1,I1,r1,q1⟩=>?_) (by rw[hs,hs2]) (by rw[hs2];rfl)))
 obtain⟨i,j,e,⟨q1,q2,q3,q4⟩,q⟩:=q1
 subst e
 cases r1 with
 | cons r rr =>
  cases rr with
  | cons r' rr =>
   cases rr
   obtain⟨t,rfl⟩:=r
   obtain⟨t',rfl⟩:=r'
   exact call_range_2 (zcA I1 q1 q2 q3 q4 q)
def zmM (wi:TI)(g:TG)(tb:TS):TS:=fun D σ H=>wi σ H fun J H1=>∃W:Nat->Nat->St->Hp->Prop,(∃m,W 0 m σ H1)/\∀i m σ H,W i m σ H ->
 (J.stop i H/\D.nx σ H)\/(J.go i H/\∃N:St->Hp->Prop,(∀ σ' H',N σ' H'->∃m',m'<m/\W (i+1) m' σ' H')/\∀x H',J.Kh i H x H'->g x σ H' fun σ2 H2=>tb { D with nx:=N,ct:=N,bk:=D.nx } σ2 H2)
def RX (fp:List Addr)(h:Heap):List (Addr×Obj):=fp.filterMap fun b=>(h.get? b).map fun o=>(b,o)
theorem VB {fp:List Addr}{h:Heap}{b:Addr}{o:Obj}(hb:b∈fp)(e:h.get? b=some o):(b,o)∈RX fp h:=List.mem_filterMap.mpr ⟨b,hb,by rw[e];rfl⟩
theorem zaR {fp:List Addr}{h:Heap}{p:Addr×Obj}(hp:p∈RX fp h):p.1∈fp/\h.get? p.1=some p.2:=by
 obtain⟨b,hb,e⟩:=List.mem_filterMap.mp hp
 cases q:h.get? b with
 | none=>rw[q] at e;cases e
 | some o =>
  rw[q] at e
  have e':(b,o)=p:=zrc e
  subst e'
  exact⟨hb,q⟩
theorem Inv.pinned {pins:List (Addr×Obj)}{σ:St}{H:Hp}{s:Shared}{fp:List Addr}(I:Inv X pins σ H s)(hf:∀b∈fp,zcz X pins H b)(ho:∀b∈fp,∃o,s.heap.get? b=some o/\∀v,o.data≠.cell v):Inv X (pins++RX fp s.heap) σ H s :=
 I.Vz fun p hp=>(List.mem_append.mp hp).elim (fun z=>I.pin p (zqZ _ z)) fun z=>by
  obtain⟨hb,e⟩:=zaR z
  obtain⟨f0,f1,f2,_⟩:=hf p.1 hb
  obtain⟨o,e',d⟩:=ho p.1 hb
  rw[e] at e';cases e'
  exact⟨e,f0,f1,f2,d⟩
theorem Inv.Ja {pins pl:List (Addr×Obj)}{σ:St}{H:Hp}{s:Shared}(I:Inv X (pins++pl) σ H s):Inv X pins σ H s:=I.Vz fun p hp=>I.pin p (zqZ _ (List.mem_append_left _ hp))
theorem uJ {iter:Expr}{body:List Stmt}{wi:TI}{g:TG}{tb:TS}{pos:Pos}(hp:PassesOwn (model X.prog X.w) X.A X.env X.xe)(hc:X.calm=true)(hi:PI X tg iter wi)(hg:PG X tg g)(hb:PSs X body tb)
  (hs:∀x,foldedSetIterable iter X.env x=pure x:=by intro _;rfl):PS X (.For tg iter body [] pos) (zmM wi g tb):=by
 intro pins s σ H D I h
 refine wpAny_For (xT (hi pins s σ H _ I h) fun v s1 h1=>xT h1 fun itv s2 h2=>?_) hs
 obtain⟨it,fp,tn,J,H2,e,I2,T,st2,f2,W,⟨m0,w0⟩,turn⟩:=h2
 subst e
 have stat:∀{H':Hp},(∀b∈fp,H' b=none)->∀b∈fp,zcz X pins H' b:=fun hn b hb=>⟨hn b hb,(f2 b hb).2⟩
 refine codeAny_forLoop_any (fun n s'=>∃i σ' H',Inv X pins σ' H' s'/\tn i s'.heap/\(∀b∈fp,H' b=none)/\W i n σ' H') ?_ m0 ⟨0,σ,H2,I2,st2,fun b hb=>(f2 b hb).1,w0⟩
 rintro n s3 ⟨i,σ3,H3,I3,st3,fr3,w3⟩
 rcases turn i n σ3 H3 w3 with ⟨stop,qn⟩ | ⟨go,N,hN,step⟩
 ·refine wpAny_passesOwn hp (xT (T.done X rfl rfl rfl hc i pins s3 σ3 H3 X.xe I3 (stat fr3) st3 stop) fun r s4 ⟨hr,I4⟩=>?_)
  subst hr
  exact wpAny_execs_nil ⟨σ3,H3,I4,qn⟩
 ·refine wpAny_passesOwn hp (xT (T.item X rfl rfl rfl hc i pins s3 σ3 H3 X.xe I3 (stat fr3) st3 go) fun r s4 ⟨u,hr,h4⟩=>?_)
  subst hr
  refine wpAny_passesOwn hp (xT h4 fun _ s5 ⟨x,H5,I5,r5,y5,st5,fr5⟩=>?_)
  have I5':=I5.pinned (stat fr5) (T.obj _ _ st5)
  refine wpAny_passesOwn hp (xT (hg _ s5 σ3 H5 x u _ I5' r5 (step x H5 y5)) fun _ s6 ⟨σ6,H6,I6,q6⟩=>?_)
  refine wpAny_passesOwn hp (xT (hb _ s6 σ6 H6 _ I6 q6) fun f s7 q7=>?_)
  have again:∀{σ7:St} {H7:Hp},Inv X (pins++RX fp s5.heap) σ7 H7 s7->N σ7 H7->∃m,m<n/\∃i σ' H',Inv X pins σ' H' s7/\tn i s7.heap/\(∀b∈fp,H' b=none)/\W i m σ' H':=fun {σ7 H7} I7 n7=>by
   obtain⟨m',hm,w7⟩:=hN σ7 H7 n7
   refine⟨m',hm,i+1,σ7,H7,I7.Ja,T.keep _ _ _ st5 fun b hb o e=>(I7.pin (b,o) (zqZ _ (zqZ _ (VB hb e)))).1,fun b hb=>?_,w7⟩
   obtain⟨o,e,d⟩:=T.obj _ _ st5 b hb
   exact(I7.pin (b,o) (zqZ _ (zqZ _ (VB hb e)))).2.1
  cases f with
  | next=>obtain⟨σ7,H7,I7,n7⟩:=q7;exact again I7 n7
  | cont=>obtain⟨σ7,H7,I7,n7⟩:=q7;exact again I7 n7
  | brk=>obtain⟨σ7,H7,I7,q7⟩:=q7;exact⟨σ7,H7,I7.Ja,q7⟩
  | ret v=>obtain⟨x7,σ7,H7,I7,r7,q7⟩:=q7;exact⟨x7,σ7,H7,I7.Ja,r7,q7⟩
end
theorem XC {K:Frag}{a:Addr}{xs:List V}{g:TG}{tb:TS}{D:Ends}{σ:St}{H:Hp}(Pv:Nat->St->Hp->Prop)(h0:Pv 0 σ H)(hl:∀i σ H,i<=xs.length->Pv i σ H->zT K H a xs)
  (hs:∀i x σ H,xs[i]?=some x->Pv i σ H->g x σ H fun σ2 H2=>tb { D with nx:=Pv (i+1),ct:=Pv (i+1),bk:=D.nx } σ2 H2)(hd:∀ σ H,Pv xs.length σ H->D.nx σ H) :
  ∃W:Nat->Nat->St->Hp->Prop,(∃m,W 0 m σ H)/\∀i m σ H,W i m σ H ->
   ((K9 K a).stop i H/\D.nx σ H)\/((K9 K a).go i H/\∃N:St->Hp->Prop,(∀ σ' H',N σ' H'->∃m',m'<m/\W (i+1) m' σ' H')/\∀x H',(K9 K a).Kh i H x H'->g x σ H' fun σ2 H2=>tb { D with nx:=N,ct:=N,bk:=D.nx } σ2 H2):=by
 refine⟨fun i m σ H=>m=xs.length-i/\i<=xs.length/\Pv i σ H,⟨xs.length,by simp,zq4 _,h0⟩,?_⟩
 rintro i m σ H ⟨rfl,hi,p⟩
 have q:=hl i σ H hi p
 by_cases hlt:i<xs.length
 ·refine .inr ⟨⟨xs,xs[i],q,by simp[hlt]⟩,Pv (i+1),fun σ' H' p'=>⟨xs.length-(i+1),by omega,rfl,hlt,p'⟩,fun x H' y=>?_⟩
  obtain⟨e,y⟩:=y
  subst e
  exact hs i x σ _ (y xs q) p
 ·have e:i=xs.length:=by omega
  subst e
  exact .inl ⟨⟨xs,q,zqY _⟩,hd σ H p⟩
theorem zew {K:Frag}{a:Addr}{xs:List V}{g:TG}{tb:TS}{D:Ends}{σ:St}{H:Hp}(Pv:Nat->St->Hp->Prop)(h0:Pv 0 σ H)(hl:∀i σ H,i<=xs.length->Pv i σ H->xM K H a xs)
  (hs:∀i x σ H,xs[i]?=some x->Pv i σ H->g x σ H fun σ2 H2=>tb { D with nx:=Pv (i+1),ct:=Pv (i+1),bk:=D.nx } σ2 H2)(hd:∀ σ H,Pv xs.length σ H->D.nx σ H) :
  ∃W:Nat->Nat->St->Hp->Prop,(∃m,W 0 m σ H)/\∀i m σ H,W i m σ H ->
   ((Itt K a).stop i H/\D.nx σ H)\/((Itt K a).go i H/\∃N:St->Hp->Prop,(∀ σ' H',N σ' H'->∃m',m'<m/\W (i+1) m' σ' H')/\∀x H',(Itt K a).Kh i H x H'->g x σ H' fun σ2 H2=>tb { D with nx:=N,ct:=N,bk:=D.nx } σ2 H2):=by
 refine⟨fun i m σ H=>m=xs.length-i/\i<=xs.length/\Pv i σ H,⟨xs.length,by simp,zq4 _,h0⟩,?_⟩
 rintro i m σ H ⟨rfl,hi,p⟩
 have q:=hl i σ H hi p
 by_cases hlt:i<xs.length
 ·refine .inr ⟨⟨xs,xs[i],q,by simp[hlt]⟩,Pv (i+1),fun σ' H' p'=>⟨xs.length-(i+1),by omega,rfl,hlt,p'⟩,fun x H' y=>?_⟩
  obtain⟨e,y⟩:=y
  subst e
  exact hs i x σ _ (y xs q) p
 ·have e:i=xs.length:=by omega
  subst e
  exact .inl ⟨⟨xs,q,zqY _⟩,hd σ H p⟩
theorem ZW {lo:Int}{n:Nat}{g:TG}{tb:TS}{D:Ends}{σ:St}{H:Hp}(Pv:Nat->St->Hp->Prop)(h0:Pv 0 σ H)
  (hs:∀i σ H,i<n->Pv i σ H->g (.int (lo+i)) σ H fun σ2 H2=>tb { D with nx:=Pv (i+1),ct:=Pv (i+1),bk:=D.nx } σ2 H2)(hd:∀ σ H,Pv n σ H->D.nx σ H) :
  ∃W:Nat->Nat->St->Hp->Prop,(∃m,W 0 m σ H)/\∀i m σ H,W i m σ H ->
   ((Itr lo n).stop i H/\D.nx σ H)\/((Itr lo n).go i H/\∃N:St->Hp->Prop,(∀ σ' H',N σ' H'->∃m',m'<m/\W (i+1) m' σ' H')/\∀x H',(Itr lo n).Kh i H x H'->g x σ H' fun σ2 H2=>tb { D with nx:=N,ct:=N,bk:=D.nx } σ2 H2):=by
 refine⟨fun i m σ H=>m=n-i/\i<=n/\Pv i σ H,⟨n,by simp,zq4 _,h0⟩,?_⟩
 rintro i m σ H ⟨rfl,hi,p⟩
 by_cases hlt:i<n
 ·refine .inr ⟨hlt,Pv (i+1),fun σ' H' p'=>⟨n-(i+1),by omega,rfl,hlt,p'⟩,fun x H' y=>?_⟩
  obtain⟨e,y⟩:=y
  subst e y
  exact hs i σ _ hlt p
 ·have e:i=n:=by omega
  subst e
  exact .inl ⟨zqY _,hd σ H p⟩
abbrev R2:=V->V->Hp->VK->Prop
def VD (X:Cx)(f:Value->Value->Sem Value)(r:R2):Prop :=
 ∀(pins:List (Addr×Obj)) (s:Shared) (σ:St) (H:Hp) (x y:V) (v u:Value) (Q:VK),Inv X pins σ H s->RelV x v->RelV y u->r x y H Q ->
  wpAny (model X.prog X.w) X.A (f v u) (EP X pins σ Q) X.xe s
def UnR (X:Cx)(f:Value->Sem Value)(r:V->Hp->VK->Prop):Prop :=
 ∀(pins:List (Addr×Obj)) (s:Shared) (σ:St) (H:Hp) (x:V) (v:Value) (Q:VK),Inv X pins σ H s->RelV x v->r x H Q ->
  wpAny (model X.prog X.w) X.A (f v) (EP X pins σ Q) X.xe s
def ZR (X:Cx)(f:Value)(r:List V->Hp->VK->Prop):Prop :=
 ∀(pins:List (Addr×Obj)) (s:Shared) (σ:St) (H:Hp) (xs:List V) (us:List Value) (Q:VK),Inv X pins σ H s->Vals xs us->r xs H Q ->
  wpAny (model X.prog X.w) X.A (call f us) (EP X pins σ Q) X.xe s
def zmP (X:Cx)(r:V->Hp->(Bool->Hp->Prop)->Prop):Prop :=
 ∀(pins:List (Addr×Obj)) (s:Shared) (σ:St) (H:Hp) (x:V) (v:Value) (Q:Bool->Hp->Prop),Inv X pins σ H s->RelV x v->r x H Q ->
  wpAny (model X.prog X.w) X.A (truthy v) (TP X pins σ Q) X.xe s
def tOp (r:R2)(ta tb:TE):TE:=fun σ H Q=>ta σ H fun x H1=>tb σ H1 fun y H2=>r x y H2 Q
def tUn (r:V->Hp->VK->Prop)(ta:TE):TE:=fun σ H Q=>ta σ H fun x H1=>r x H1 Q
def rI (C:Int->Int->Prop)(g:Int->Int->V):R2:=fun x y H Q=>∃i j,x=.int i/\y=.int j/\C i j/\Q (g i j) H
def rI0 (g:Int->Int->V):R2:=fun x y H Q=>∃i j,x=.int i/\y=.int j/\Q (g i j) H
def rU (g:Int->V):V->Hp->VK->Prop:=fun x H Q=>∃i,x=.int i/\Q (g i) H
section
variable {X:Cx}{a b c:Expr}{ta tb tc:TE}{pos:Pos}
theorem zjv (ha:PE X a ta)(hb:PE X b tb){pins:List (Addr×Obj)}{s:Shared}{σ:St}{H:Hp}{R:V->V->Hp->Prop}(I:Inv X pins σ H s)
  (h:ta σ H fun x H1=>tb σ H1 fun y H2=>R x y H2){Q:Value->Shared->Prop}{f:Value->Value->Sem Value}
  (hf:∀v u s2 x y H2,Inv X pins σ H2 s2->RelV x v->RelV y u->R x y H2->wpAny (model X.prog X.w) X.A (f v u) Q X.xe s2) :
  wpAny (model X.prog X.w) X.A (eval a X.env) (fun v s₁=>wpAny (model X.prog X.w) X.A (eval b X.env) (fun u s₂=>wpAny (model X.prog X.w) X.A (f v u) Q X.xe s₂) X.xe s₁) X.xe s:=by
 refine xT (ha pins s σ H _ I h) fun v s1 ⟨x,H1,I1,r1,q1⟩=>?_
 refine xT (hb pins s1 σ H1 _ I1 q1) fun u s2 ⟨y,H2,I2,r2,q2⟩=>?_
 exact hf v u s2 x y H2 I2 r1 r2 q2
theorem zN {op:Operator}{r:R2}(ho:VD X (binaryOp op) r)(ha:PE X a ta)(hb:PE X b tb):PE X (.BinOp a op b pos) (tOp r ta tb):=by
 intro pins s σ H Q I h
 exact wpAny_BinOp (zjv ha hb I h fun v u s2 x y H2 I2 rx ry q=>ho pins s2 σ H2 x y v u Q I2 rx ry q)
theorem zex {op:UnaryOp}{r:V->Hp->VK->Prop}(ho:UnR X (unaryOp op) r)(ha:PE X a ta):PE X (.UnaryOp op a pos) (tUn r ta):=by
 intro pins s σ H Q I h
 exact UnaryOp_ (xT (ha pins s σ H _ I h) fun v s1 ⟨x,H1,I1,r1,q1⟩=>ho pins s1 σ H1 x v Q I1 r1 q1)
theorem opI {f:Value->Value->Sem Value}{C:Int->Int->Prop}{g:Int->Int->Int}
  (rule:∀(i j:Int) (t u:Tok) (s:Shared) (Q:Value->Shared->Prop) (E:Value->Shared->Prop),C i j->Q (.int (g i j) s.toks) { s with toks:=s.toks+1 }->wpAny (model X.prog X.w) X.A (f (.int i t) (.int j u)) Q E s) :
  VD X f (rI C fun i j=>.int (g i j)):=by
 intro pins s σ H x y v u Q I rx ry h
 obtain⟨i,j,rfl,rfl,hc,q⟩:=h
 obtain⟨t,rfl⟩:=rx
 obtain⟨t',rfl⟩:=ry
 exact rule i j t t' s _ _ hc ⟨.int (g i j),H,I.tok _,⟨_,rfl⟩,q⟩
theorem zfm {f:Value->Value->Sem Value}{g:Int->Int->Int}
  (rule:∀(i j:Int) (t u:Tok) (s:Shared) (Q:Value->Shared->Prop) (E:Value->Shared->Prop),Q (.int (g i j) s.toks) { s with toks:=s.toks+1 }->wpAny (model X.prog X.w) X.A (f (.int i t) (.int j u)) Q E s) :
  VD X f (rI0 fun i j=>.int (g i j)):=by
 intro pins s σ H x y v u Q I rx ry h
 obtain⟨i,j,rfl,rfl,q⟩:=h
 obtain⟨t,rfl⟩:=rx
 obtain⟨t',rfl⟩:=ry
 exact rule i j t t' s _ _ ⟨.int (g i j),H,I.tok _,⟨_,rfl⟩,q⟩
theorem zhE {f:Value->Value->Sem Value}{g:Int->Int->Bool}
  (rule:∀(i j:Int) (t u:Tok) (s:Shared) (Q:Value->Shared->Prop) (E:Value->Shared->Prop),Q (.bool (g i j)) s->wpAny (model X.prog X.w) X.A (f (.int i t) (.int j u)) Q E s) :
  VD X f (rI0 fun i j=>.bl (g i j)):=by
 intro pins s σ H x y v u Q I rx ry h
 obtain⟨i,j,rfl,rfl,q⟩:=h
 obtain⟨t,rfl⟩:=rx
 obtain⟨t',rfl⟩:=ry
 exact rule i j t t' s _ _ ⟨.bl (g i j),H,I,rfl,q⟩
def zmQ (i j:Int):Prop:=0<j/\j<1073741824
def zmR (i j:Int):Prop:=0<=j/\j<=1000000/\i.natAbs<2^64
def zjw (i j:Int):Prop:=(-(2^64)<i/\i<2^64)\/(-(2^64)<j/\j<2^64)
theorem zjw.ok {i j:Int}(h:zjw i j):IntMulOk i j:=by
 rcases h with ⟨h1,h2⟩ | ⟨h1,h2⟩
 ·exact .of_left (intBits_le_64 h1 h2)
 ·exact .of_right (intBits_le_64 h1 h2)
theorem zdC (k:Nat):(0:Int)<=2^k:=by
 rw[two_pow_cast]
 exact Int.natCast_nonneg _
theorem yM:VD X (binaryOp .Add) (rI0 fun i j=>.int (i+j)):=zfm fun _ _ _ _ _ _ _ q=>add_int q
theorem RZ:VD X (binaryOp .Sub) (rI0 fun i j=>.int (i-j)):=zfm fun _ _ _ _ _ _ _ q=>sub_int q
theorem Nx:VD X (binaryOp .Mult) (rI zjw fun i j=>.int (i*j)):=opI fun _ _ _ _ _ _ _ hc q=>mul_int q hc.ok
theorem Kl:VD X (binaryOp .FloorDiv) (rI zmQ fun i j=>.int (i / j)):=opI fun i j _ _ _ _ _ hc q=>by
 have h1:(0:Int)<j:=hc.1
 have h2:j<1073741824:=hc.2
 exact floordiv_int (by omega) (by rw[Int.fdiv_eq_ediv_of_nonneg i (by omega)];exact q) (.inl (PyProof.noPylong_small (by omega)))
theorem wu:VD X (binaryOp .Mod) (rI (fun _ j=>0<j) fun i j=>.int (i%j)):=opI fun i j _ _ _ _ _ hc q=>by
 have h1:(0:Int)<j:=hc
 exact mod_int' (by omega) (by rw[Int.fmod_eq_emod_of_nonneg i (by omega)];exact q)
theorem zjx:VD X (binaryOp .Pow) (rI zmR fun i j=>.int (i^j.toNat)):=opI fun _ _ _ _ _ _ _ hc q=>pow_int_small hc.1 hc.2.1 hc.2.2 q
theorem zjy:VD X (binaryOp .RShift) (rI (fun _ j=>0<=j) fun i j=>.int (i / 2^j.toNat)):=opI fun i j _ _ _ _ _ hc q =>
 rshift_int hc (by rw[Int.fdiv_eq_ediv_of_nonneg i (zdC _)];exact q)
theorem zjz:VD X (binaryOp .BitAnd) (rI0 fun i j=>.int (Builtin.bitAnd i j)):=zfm fun _ _ _ _ _ _ _ q=>and_int q
theorem zkR:VD X (binaryOp .BitOr) (rI0 fun i j=>.int (Builtin.bitOr i j)):=zfm fun _ _ _ _ _ _ _ q=>or_int q
theorem zjA:VD X (binaryOp .BitXor) (rI0 fun i j=>.int (Builtin.bitXor i j)):=zfm fun _ _ _ _ _ _ _ q=>xor_int q
theorem zbx:VD X (inplaceOp .Add) (rI0 fun i j=>.int (i+j)):=zfm fun _ _ _ _ _ _ _ q=>iadd_int q
theorem unI {f:Value->Sem Value}{g:Int->Int}
  (rule:∀(i:Int) (t:Tok) (s:Shared) (Q:Value->Shared->Prop) (E:Value->Shared->Prop),Q (.int (g i) s.toks) { s with toks:=s.toks+1 }->wpAny (model X.prog X.w) X.A (f (.int i t)) Q E s) :
  UnR X f (rU fun i=>.int (g i)):=by
 intro pins s σ H x v Q I rx h
 obtain⟨i,rfl,q⟩:=h
 obtain⟨t,rfl⟩:=rx
 exact rule i t s _ _ ⟨.int (g i),H,I.tok _,⟨_,rfl⟩,q⟩
theorem zby:UnR X (unaryOp .USub) (rU fun i=>.int (-i)):=unI fun _ _ _ _ _ q=>neg_int q
end
def zgb:V->V->Bool
 | .non,.non=>true | .non,.int _=>true | .int _,.non=>true | .non,.bl _=>true | .bl _,.non=>true | .non,.str _=>true | .str _,.non=>true
 | .int _,.int _=>true | .bl _,.bl _=>true | .str _,.str _=>true | .byt _,.byt _=>true
 | .int _,.str _=>true | .str _,.int _=>true | .bl _,.str _=>true | .str _,.bl _=>true
 | _,_=>false
def rEq:R2:=fun x y H Q=>zgb x y=true/\Q (.bl (decide (x=y))) H
def rNe:R2:=fun x y H Q=>zgb x y=true/\Q (.bl (!decide (x=y))) H
theorem zey {i j:Int}:decide (V.int i=V.int j)=(i==j):=by
 rw[zrm]
 simp
theorem zgc {i j:Bool}:decide (V.bl i=V.bl j)=(i==j):=by
 rw[zrm]
 simp
theorem zez {i j:Str}:decide (V.str i=V.str j)=(i==j):=by
 rw[zrm]
 simp
theorem zeA {i j:Array UInt8}:decide (V.byt i=V.byt j)=(i.toList==j.toList):=by
 rw[zrm]
 cases i
 cases j
 simp
section
variable {X:Cx}{a b c:Expr}{ta tb tc:TE}{pos:Pos}
theorem yD {pins:List (Addr×Obj)}{σ:St}{H:Hp}{s:Shared}{Q:VK}{k k':Bool}(I:Inv X pins σ H s)(q:Q (.bl k) H)(e:k=k'):EP X pins σ Q (.bool k') s:=by
 subst e
 exact⟨.bl k,H,I,rfl,q⟩
theorem xP:VD X (compareOp .Eq) rEq:=by
 intro pins s σ H x y v u Q I rx ry h
 obtain⟨hs,q⟩:=h
 cases x with
 | non =>
  cases rx
  cases y with
  | non=>cases ry;exact PySem.EqNone.eq_none_none (yD I q (by simp))
  | bl j=>cases ry;exact PySem.EqNone.eq_none_bool (yD I q (by simp))
  | int j=>obtain⟨t',rfl⟩:=ry;exact PySem.EqNone.eq_none_int (yD I q (by simp))
  | str j=>obtain⟨t',rfl⟩:=ry;exact PySem.EqNone.eq_none_str (yD I q (by simp))
  | _=>exact absurd (show false=true from hs) zqM
 | bl i =>
  cases rx
  cases y with
  | non=>cases ry;exact PySem.EqNone.eq_bool_none (yD I q (by simp))
  | bl j=>cases ry;exact eq_bool (yD I q zgc)
  | str j=>obtain⟨t',rfl⟩:=ry;exact PySem.EqMixed.eq_bool_str (yD I q (by simp))
  | _=>exact absurd (show false=true from hs) zqM
 | int i =>
  obtain⟨t,rfl⟩:=rx
  cases y with
  | non=>cases ry;exact PySem.EqNone.eq_int_none (yD I q (by simp))
  | int j=>obtain⟨t',rfl⟩:=ry;exact eq_int (yD I q zey)
  | str j=>obtain⟨t',rfl⟩:=ry;exact PySem.EqMixed.eq_int_str (yD I q (by simp))
  | _=>exact absurd (show false=true from hs) zqM
 | str i =>
  obtain⟨t,rfl⟩:=rx
  cases y with
  | non=>cases ry;exact PySem.EqNone.eq_str_none (yD I q (by simp))
  | bl j=>cases ry;exact PySem.EqMixed.eq_str_bool (yD I q (by simp))
  | int j=>obtain⟨t',rfl⟩:=ry;exact PySem.EqMixed.eq_str_int (yD I q (by simp))
  | str j=>obtain⟨t',rfl⟩:=ry;exact eq_str (yD I q zez)
  | _=>exact absurd (show false=true from hs) zqM
 | byt i =>
  obtain⟨t,rfl⟩:=rx
  cases y with
  | byt j=>obtain⟨t',rfl⟩:=ry;exact PySem.W.eq_bytes (yD I q zeA)
  | _=>exact absurd (show false=true from hs) zqM
 | _=>cases y<;>exact absurd (show false=true from hs) zqM
theorem zeB:VD X (compareOp .NotEq) rNe:=by
 intro pins s σ H x y v u Q I rx ry h
 obtain⟨hs,q⟩:=h
 cases x with
 | non =>
  cases rx
  cases y with
  | non=>cases ry;exact PySem.EqNone.ne_none_none (yD I q (by simp))
  | bl j=>cases ry;exact PySem.EqNone.ne_none_bool (yD I q (by simp))
  | int j=>obtain⟨t',rfl⟩:=ry;exact PySem.EqNone.ne_none_int (yD I q (by simp))
  | str j=>obtain⟨t',rfl⟩:=ry;exact PySem.EqNone.ne_none_str (yD I q (by simp))
  | _=>exact absurd (show false=true from hs) zqM
 | bl i =>
  cases rx
  cases y with
  | non=>cases ry;exact PySem.EqNone.ne_bool_none (yD I q (by simp))
  | bl j=>cases ry;exact ne_bool (yD I q (congrArg not zgc))
  | str j=>obtain⟨t',rfl⟩:=ry;exact PySem.EqMixed.ne_bool_str (yD I q (by simp))
  | _=>exact absurd (show false=true from hs) zqM
 | int i =>
  obtain⟨t,rfl⟩:=rx
  cases y with
  | non=>cases ry;exact PySem.EqNone.ne_int_none (yD I q (by simp))
  | int j=>obtain⟨t',rfl⟩:=ry;exact ne_int (yD I q (congrArg not zey))
  | str j=>obtain⟨t',rfl⟩:=ry;exact PySem.EqMixed.ne_int_str (yD I q (by simp))
  | _=>exact absurd (show false=true from hs) zqM
 | str i =>
  obtain⟨t,rfl⟩:=rx
  cases y with
  | non=>cases ry;exact PySem.EqNone.ne_str_none (yD I q (by simp))
  | bl j=>cases ry;exact PySem.EqMixed.ne_str_bool (yD I q (by simp))
  | int j=>obtain⟨t',rfl⟩:=ry;exact PySem.EqMixed.ne_str_int (yD I q (by simp))
  | str j=>obtain⟨t',rfl⟩:=ry;exact ne_str (yD I q (congrArg not zez))
  | _=>exact absurd (show false=true from hs) zqM
 | byt i =>
  obtain⟨t,rfl⟩:=rx
  cases y with
  | byt j=>obtain⟨t',rfl⟩:=ry;exact PySem.W.ne_bytes (yD I q (congrArg not zeA))
  | _=>exact absurd (show false=true from hs) zqM
 | _=>cases y<;>exact absurd (show false=true from hs) zqM
theorem M9:VD X (compareOp .Lt) (rI0 fun i j=>.bl (decide (i<j))):=zhE fun _ _ _ _ _ _ _ q=>lt_int q
theorem zkS:VD X (compareOp .LtE) (rI0 fun i j=>.bl (decide (i<=j))):=zhE fun _ _ _ _ _ _ _ q=>le_int q
theorem Vc:VD X (compareOp .Gt) (rI0 fun i j=>.bl (decide (j<i))):=zhE fun _ _ _ _ _ _ _ q=>gt_int q
theorem zi1:VD X (compareOp .GtE) (rI0 fun i j=>.bl (decide (j<=i))):=zhE fun _ _ _ _ _ _ _ q=>ge_int q
theorem zgd:VD X (compareOp .Is) (fun x y H Q=>y=.non/\Q (.bl (decide (x=.non))) H):=by
 intro pins s σ H x y v u Q I rx ry h
 obtain⟨rfl,q⟩:=h
 cases ry
 refine is_none_gen (yD I q ?_)
 cases x<;>first
  | (cases rx;rfl)
  | (obtain⟨t,rfl⟩:=rx;rfl)
theorem zeC:VD X (compareOp .IsNot) (fun x y H Q=>y=.non/\Q (.bl (!decide (x=.non))) H):=by
 intro pins s σ H x y v u Q I rx ry h
 obtain⟨rfl,q⟩:=h
 cases ry
 refine isnot_none_gen (yD I q ?_)
 cases x<;>first
  | (cases rx;rfl)
  | (obtain⟨t,rfl⟩:=rx;rfl)
theorem zP (b:Expr){op:CmpOp}(h:op≠.In:=by decide)(h2:op≠.NotIn:=by decide):behindInMarks op b=false:=by
 have e1:(op==CmpOp.In)=false:=by cases op<;>first | rfl | exact absurd rfl h
 have e2:(op==CmpOp.NotIn)=false:=by cases op<;>first | rfl | exact absurd rfl h2
 cases b<;>simp[behindInMarks,e1,e2]
theorem ug {op:CmpOp}{r:R2}(ho:VD X (compareOp op) r)(ha:PE X a ta)(hb:PE X b tb)(hm:behindInMarks op b=false):PE X (.Compare a [op] [b] pos) (tOp r ta tb):=by
 intro pins s σ H Q I h
 exact wpAny_Compare1 (zjv ha hb I h fun v u s2 x y H2 I2 rx ry q=>ho pins s2 σ H2 x y v u Q I2 rx ry q) hm
inductive zhF (x:V)(k:Bool->Prop):Prop
 | mk (c:Bool) (_:x=.bl c) (_:k c):zhF x k
def zkT (t:TE):TT:=fun σ H Q=>t σ H fun x H'=>zhF x fun k=>Q k H'
theorem zK {op:CmpOp}{r:R2}(ho:VD X (compareOp op) r)(ha:PE X a ta)(hb:PE X b tb)(hm:behindInMarks op b=false):PT X (.Compare a [op] [b] pos) (zkT (tOp r ta tb)):=by
 intro pins s σ H Q I h
 refine wpAny_isTrue_Compare1 (xT (ha pins s σ H _ I h) fun v s1 ⟨x,H1,I1,r1,q1⟩=>xT (hb pins s1 σ H1 _ I1 q1) fun u s2 ⟨y,H2,I2,r2,q2⟩ =>
  xT (ho pins s2 σ H2 x y v u _ I2 r1 r2 q2) fun c s3 ⟨z,H3,I3,r3,k,e,q3⟩=>?_) hm
 subst e
 cases r3
 exact wpAny_truthy_bool ⟨H3,I3,q3⟩
def zkU (K:Frag)(x:V)(H:Hp)(k:Bool):Prop :=
 match x with
 | .non=>k=false
 | .bl b=>k=b
 | .int i=>k=(i != 0)
 | .str y=>y.length<=sizeLine/\k=((y.length:Int) != 0)
 | .byt y=>y.size<=sizeLine/\k=((y.size:Int) != 0)
 | .ref p=>(∃xs,zT K H p xs/\k=!xs.isEmpty)\/(∃xs,xM K H p xs/\k=!xs.isEmpty)\/∃kvs,H p=some (.dK kvs)/\k=!kvs.isEmpty
 | _=>False
theorem zdD {κ:Type}{kvs:List (κ×V)}{vs:List (κ×Value)}(r:KV kvs vs):(!vs.isEmpty)=!kvs.isEmpty:=by
 cases r<;>rfl
theorem Jb {xs:List V}{its:List Value}(r:Vals xs its):(!its.toArray.isEmpty)=!xs.isEmpty:=by
 cases r<;>simp
theorem U3:(sizeLine:Nat)<2^63:=by rw[sizeLine_eq];decide
theorem zjB:zmP X (fun x H Q=>∃k,zkU X.K x H k/\Q k H):=by
 intro pins s σ H x v Q I rx h
 obtain⟨k,e,q⟩:=h
 have hl:=U3
 have hs:sizeLine=16777216:=sizeLine_eq
 cases x with
 | non =>
  cases rx
  have e':k=false:=e
  subst e'
  exact truthy_none ⟨H,I,q⟩
 | bl b =>
  cases rx
  have e':k=b:=e
  subst e'
  exact wpAny_truthy_bool ⟨H,I,q⟩
 | int i =>
  obtain⟨t,rfl⟩:=rx
  have e':k=(i != 0):=e
  subst e'
  exact PySem.P.truthy_int ⟨H,I,q⟩
 | str y =>
  obtain⟨t,rfl⟩:=rx
  obtain⟨hy,e'⟩:y.length<=sizeLine/\k=((y.length:Int) != 0):=e
  subst e'
  exact PySem.P.truthy_str (by omega) ⟨H,I.tok _,q⟩
 | byt y =>
  obtain⟨t,rfl⟩:=rx
  obtain⟨hy,e'⟩:y.size<=sizeLine/\k=((y.size:Int) != 0):=e
  subst e'
  exact PySem.W.truthy_bytes (by omega) ⟨H,I.tok _,q⟩
 | ref p =>
  cases rx
  have e':(∃xs,zT X.K H p xs/\k=!xs.isEmpty)\/(∃xs,xM X.K H p xs/\k=!xs.isEmpty)\/∃kvs,H p=some (.dK kvs)/\k=!kvs.isEmpty:=e
  rcases e' with ⟨xs,hx,e'⟩ | ⟨xs,hx,e'⟩ | ⟨kvs,hx,e'⟩
  ·subst e'
   obtain⟨its,r,pl,hz⟩:=I.list hx
   have hlen:=r.length
   exact wpAny_truthy_list pl.isList (by simp only[zqS];omega) ⟨H,I.tok _,by rw[Jb r];exact q⟩
  ·subst e'
   obtain⟨its,r,pl,hz⟩:=I.tuple hx
   have hlen:=r.length
   exact truthy_tuple pl (by simp only[zqS];omega) ⟨H,I.tok _,by rw[Jb r];exact q⟩
  ·subst e'
   obtain⟨hz,hS,vs,r,m⟩:kvs.length<=sizeLine/\(p==sysModules)=false/\∃vs,KV kvs vs/\s.heap.DictOf (yc X.prog X.w) p vs:=I.hok p _ hx
   have hlen:kvs.length=vs.length:=Paired.length r
   exact wpAny_truthy_dict hS m (by omega) ⟨H,I.tok _,by rw[zdD r];exact q⟩
 | _=>exact(show False from e).elim
theorem vQ (ha:PE X a ta)(he:∀whole,isTrue a X.env whole=(do let v <-whole;standAt a.pos;holding [v] (truthy v))) :
  PT X a (fun σ H Q=>ta σ H fun x H'=>∃k,zkU X.K x H' k/\Q k H'):=by
 intro pins s σ H Q I h
 exact isTrue_plain (xT (ha pins s σ H _ I h) fun v s1 ⟨x,H1,I1,r1,q1⟩=>zjB pins s1 σ H1 x v Q I1 r1 q1) (he _)
theorem vals1 {x:V}{us:List Value}(r:Vals [x] us):∃u,us=[u]/\RelV x u:=by
 cases r with
 | cons r1 r2=>cases r2;exact⟨_,rfl,r1⟩
theorem vals2 {x y:V}{us:List Value}(r:Vals [x,y] us):∃u w',us=[u,w']/\RelV x u/\RelV y w':=by
 cases r with
 | cons r1 r2 =>
  cases r2 with
  | cons r3 r4=>cases r4;exact⟨_,_,rfl,r1,r3⟩
theorem zge:ZR X (.builtin "abs") (fun xs H Q=>∃i,xs=[.int i]/\Q (.int (if i<0 then -i else i)) H):=by
 intro pins s σ H xs us Q I r h
 obtain⟨i,rfl,q⟩:=h
 obtain⟨u,rfl,t,rfl⟩:=vals1 r
 exact call_abs_int fun u tk=>⟨.int (if i<0 then -i else i),H,I.tok _,⟨_,rfl⟩,q⟩
theorem zfn (hc:X.calm=true):ZR X (.builtin "max") (fun xs H Q=>∃i j,xs=[.int i,.int j]/\Q (.int (if j > i then j else i)) H):=by
 intro pins s σ H xs us Q I r h
 obtain⟨i,j,rfl,q⟩:=h
 obtain⟨u,w',rfl,⟨t,rfl⟩,⟨t',rfl⟩⟩:=vals2 r
 refine max_two_ints (I.ok.hd hc) fun h' tk k=>⟨_,H,I.kept k,?_,q⟩
 by_cases hj:j > i
 ·rw[if_pos hj,if_pos hj];exact⟨_,rfl⟩
 ·rw[if_neg hj,if_neg hj];exact⟨_,rfl⟩
theorem zfo (hc:X.calm=true):ZR X (.builtin "min") (fun xs H Q=>∃i j,xs=[.int i,.int j]/\Q (.int (if j<i then j else i)) H):=by
 intro pins s σ H xs us Q I r h
 obtain⟨i,j,rfl,q⟩:=h
 obtain⟨u,w',rfl,⟨t,rfl⟩,⟨t',rfl⟩⟩:=vals2 r
 refine min_two_ints (I.ok.hd hc) fun h' tk k=>⟨_,H,I.kept k,?_,q⟩
 by_cases hj:j<i
 ·rw[if_pos hj,if_pos hj];exact⟨_,rfl⟩
 ·rw[if_neg hj,if_neg hj];exact⟨_,rfl⟩
theorem zfp:ZR X (.type "int") (fun xs H Q=>(∃i,xs=[.int i]/\Q (.int i) H)\/∃k,xs=[.bl k]/\Q (.int (if k then 1 else 0)) H):=by
 intro pins s σ H xs us Q I r h
 rcases h with ⟨i,rfl,q⟩ | ⟨k,rfl,q⟩
 ·obtain⟨u,rfl,t,rfl⟩:=vals1 r
  exact call_int_int ⟨.int i,H,I,⟨_,rfl⟩,q⟩
 ·obtain⟨u,rfl,r1⟩:=vals1 r
  cases r1
  exact call_int_bool ⟨.int (if k then 1 else 0),H,I.tok _,⟨_,rfl⟩,q⟩
end
structure zdE (h:Heap)(x dx C:Addr)(mA:Str->Option Value):Prop where
 obj:h.get? x=some (PySem.W.instObj C dx)
 ns:h.Ns1 dx mA
 ne:dx≠x
theorem zfq {h:Heap}{dx:Addr}{mA:Str->Option Value}(n:h.Ns1 dx mA):∃od,h.get? dx=some od/\∀name,PySem.W.lookIn name od=some (mA name):=by
 obtain⟨o,es,ep,ho,hd,hk,_,hm⟩:=n
 refine⟨o,ho,fun name=>?_⟩
 have e:=hm name
 unfold nsFind findBy at e
 rw[<-Array.find?_toList] at e
 unfold PySem.W.lookIn
 rw[hd]
 dsimp only
 split
 ·rename_i y q
  rw[q] at e
  exact congrArg some e
 ·rename_i q
  rw[q] at e
  have a:es.toList.any (·.refKey)=false:=by
   rw[List.any_eq_false]
   intro y hy
   obtain⟨z,t,hkey⟩:=hk y (Array.mem_toList_iff.mp hy)
   simp[DictEntry.refKey,hkey]
  have a':¬es.toList.any (·.refKey)=true:=by rw[a];exact zqM
  rw[if_neg a']
  exact congrArg some e
theorem zdE.look {h:Heap}{x dx C:Addr}{mA:Str->Option Value}(I:zdE h x dx C mA):∃od,PySem.W.InstAt h x (PySem.W.instObj C dx) C (some od)/\∀name,PySem.W.lookIn name od=some (mA name) :=
 let ⟨od,ho,hl⟩:=zfq I.ns
 ⟨od,⟨I.obj,rfl,rfl,ho⟩,hl⟩
section
variable {prog:Program}{w:World}{A:Around}{E:Value->Shared->Prop}{s:Shared}{K:Frag}{x dx C f:Addr}{mA:Str->Option Value}{name:Str}{v:Value}
theorem get_map {expr:Bool}{Q:Value->Shared->Prop}(X:K.In s.heap)(I:zdE s.heap x dx C mA)(hg:PySem.W.plainGet K C name=true)(hh:PySem.W.hasDictIn K C=true)
  (ha:findIn K (.ref C) name=some none)(hv:mA name=some v)(hv':PySem.W.handedIn v=true)(h:Q v { s with toks:=s.toks+1 }) :
  wpAny (model prog w) A (getAttr (.ref x) name expr) Q E s:=by
 obtain⟨od,J,hl⟩:=I.look
 exact PySem.W.get_value X J (PySem.W.plainGet_of hg).1 (PySem.W.findObj_own hh ha rfl (by rw[hl,hv])) hv' h
theorem zgf {pl:Sem Bool}{Q:Value×List Value->Shared->Prop}(X:K.In s.heap)(I:zdE s.heap x dx C mA)(hg:PySem.W.plainGet K C name=true)
  (hf:findIn K (.ref C) name=some (some (.ref f)))(ht:PySem.W.isFn K (.ref f)=true)(hv:mA name=none)(h:Q (.ref f,[.ref x]) s) :
  wpAny (model prog w) A (getMethod (.ref x) name pl) Q E s:=by
 obtain⟨od,J,hl⟩:=I.look
 exact PySem.W.method_fn X J (PySem.W.plainGet_of hg).1 (PySem.W.plainGet_of hg).2 hf (beq_iff_eq.mp ht) (by show(PySem.W.lookIn name od).map (·.isSome)=some false;rw[hl,hv];rfl) h
theorem zhG {ns:List Str}{Q:Unit->Shared->Prop}(X:K.In s.heap)(I:zdE s.heap x dx C mA)
  (hs:findIn K (.ref C) "__setattr__"=some (some (.builtin "object.__setattr__")))(hp:PySem.W.plainOver K C=true)(ht:PySem.W.takerIn K C name=some none)(hh:PySem.W.hasDictIn K C=true)
  (hw:PySem.Within mA ns)(hsz:ns.length<=sizeLine)
  (h:∀h',zdE h' x dx C (fun y=>if y=name then some v else mA y)->Heap.SameBut dx s.heap h'->Q () { s with heap:=h',toks:=s.toks+2 }) :
  wpAny (model prog w) A (setAttr (.ref x) name v) Q E s:=by
 obtain⟨od,J,hl⟩:=I.look
 refine PySem.W.set_plain X J hs (PySem.W.osa_open (s:={ s with toks:=s.toks+1 }) (r:=none) X J hp ht fun b=>?_)
 obtain⟨cd,hc,hd'⟩:=PySem.W.any_some hh
 have hx:s.heap.get? x=some ⟨.ref C,some dx,.plain,#[]⟩:=I.obj
 refine wpAny_bind (wpAny_pure (wpAny_bind (wpAny_bind (wpAny_loadPart hx (wpAny_bind (PySem.W.Looks.here (s:={ s with toks:=s.toks+1 }) (PySem.W.looks_clsIn X hc) ?_))))))
 rw[hd']
 refine wpAny_pure (a:=some dx) (wpAny_bind (wpAny_pure (wpAny_bind ?_)))
 refine wpAny_nsSet1 (s:={ s with toks:=s.toks+1 }) I.ns fun h' hn2 hs2=>?_
 obtain⟨oD,esD,epD,hoD,hdD,hcD⟩:=hn2.count (PySem.Within.cons name v hw)
 refine wpAny_bind (wpAny_lookBehind hoD (by rw[hdD];exact pastItsLine_dict (zq3 hcD (by rw[zqU];omega))) ?_)
 exact wpAny_pure (h _ ⟨(hs2.2 _ (Ne.symm I.ne)).trans I.obj,hn2,I.ne⟩ hs2)
theorem zgg {R:Result->Shared->Prop}{vs:List Value}{kw:List (Str×Value)}(X:K.In s.heap)(hm:PySem.W.makesIn K C=true)
  (hi:findIn K (.ref C) "__init__"=some (some (.ref f)))(hf:PySem.W.typeIn K (.ref f)=some (.type "function"))
  (h:codeAny (model prog w) (A.under (.builtin "type.__call__" ⟨.ref C::vs,kw⟩)) (.call (.ref f) ⟨.ref (s.heap.objs.size+1)::vs,kw⟩) (PySem.W.InitBack (s.heap.objs.size+1) R)
   {s with heap:=(s.heap.push PySem.W.emptyDict).push (PySem.W.instObj C s.heap.objs.size) }) :
  codeAny (model prog w) A (.call (.ref C) ⟨vs,kw⟩) R s:=by
 obtain⟨hh,g,d,t,os⟩:=s
 exact PySem.W.make_core (PySem.W.makes_of X hm) (PySem.W.looks_findIn X hi) (fun self=>PySem.W.bind_fn X self hf) (.inl rfl) h
end
def ZX (f:Str)(v:V):List (Str×V)->List (Str×V)
 | []=>[(f,v)]
 | (g,x)::r=>if g=f then (g,v)::r else (g,x)::ZX f v r
theorem La (f g:Str)(v:V):∀fs:List (Str×V),(ZX f v fs).lookup g=if g=f then some v else fs.lookup g
 | []=>by
  show List.lookup g [(f,v)]=_
  by_cases h:g=f
  ·have hb:(g==f)=true:=beq_iff_eq.mpr h
   simp only[List.lookup,hb,if_pos h]
  ·have hb:(g==f)=false:=beq_eq_false_iff_ne.mpr h
   simp only[List.lookup,hb,if_neg h]
 | (k,x)::r=>by
  have ih:=La f g v r
  rw[show ZX f v ((k,x)::r)=(if k=f then (k,v)::r else (k,x)::ZX f v r) from rfl]
  by_cases hk:k=f
  ·rw[if_pos hk]
   by_cases h:g=k
   ·have hb:(g==k)=true:=beq_iff_eq.mpr h
    simp only[List.lookup,hb,if_pos (h.trans hk)]
   ·have hb:(g==k)=false:=beq_eq_false_iff_ne.mpr h
    simp only[List.lookup,hb,if_neg (fun e:g=f=>h (e.trans hk.symm))]
  ·rw[if_neg hk]
   by_cases h:g=k
   ·have hb:(g==k)=true:=beq_iff_eq.mpr h
    simp only[List.lookup,hb,if_neg (fun e:g=f=>hk (h.symm.trans e))]
   ·have hb:(g==k)=false:=beq_eq_false_iff_ne.mpr h
    simp only[List.lookup,hb]
    exact ih
theorem Nz (f:Str)(v:V):∀fs:List (Str×V),f∈(ZX f v fs).map (·.1)/\∀g,g∈fs.map (·.1)->g∈(ZX f v fs).map (·.1)
 | []=>⟨by simp[ZX],fun g h=>by simp at h⟩
 | (k,x)::r=>by
  obtain⟨i1,i2⟩:=Nz f v r
  rw[show ZX f v ((k,x)::r)=(if k=f then (k,v)::r else (k,x)::ZX f v r) from rfl]
  by_cases hk:k=f
  ·rw[if_pos hk]
   subst hk
   exact⟨by simp,fun g h=>by simpa using h⟩
  ·rw[if_neg hk]
   refine⟨?_,fun g h=>?_⟩
   ·rw[zq6]
    exact zqT _ i1
   ·rw[zq6] at h ⊢
    rcases List.mem_cons.mp h with e | e
    ·exact List.mem_cons.mpr (.inl e)
    ·exact zqT _ (i2 g e)
theorem Lb (f:Str)(v:V):∀fs:List (Str×V),(ZX f v fs).length<=fs.length+1
 | []=>by simp[ZX]
 | (k,x)::r=>by
  have ih:=Lb f v r
  rw[show ZX f v ((k,x)::r)=(if k=f then (k,v)::r else (k,x)::ZX f v r) from rfl]
  by_cases hk:k=f
  ·rw[if_pos hk,zqU,zqU];omega
  ·rw[if_neg hk,zqU,zqU];omega
theorem Ri.some_of {v:V}{o:Option Value}(r:Ri (some v) o):∃u,o=some u/\RelV v u:=by
 cases o with
 | none=>exact(show False from r).elim
 | some u=>exact⟨u,rfl,r⟩
theorem Ri.none_of {o:Option Value}(r:Ri none o):o=none:=by
 cases o with
 | none=>rfl
 | some u=>exact(show False from r).elim
theorem zfr {v:V}{u:Value}(r:RelV v u):PySem.W.handedIn u=true:=by
 cases v with
 | non=>cases (show u=Value.none from r);rfl
 | bl b=>cases (show u=Value.bool b from r);rfl
 | int i=>obtain⟨t,e⟩:=(show ∃t,u=Value.int i t from r);cases e;rfl
 | str x=>obtain⟨t,e⟩:=(show ∃t,u=Value.str x t from r);cases e;rfl
 | byt b=>obtain⟨t,e⟩:=(show ∃t,u=Value.bytes b t from r);cases e;rfl
 | flt b=>obtain⟨t,e⟩:=(show ∃t,u=Value.float b t from r);cases e;rfl
 | ref a=>cases (show u=Value.ref a from r);rfl
 | ty n=>cases (show u=Value.type n from r);rfl
section
variable {P:Program}{w:World}{H H':Hp}{h h':Heap}{a C dx:Addr}{fs fs':List (Str×V)}
theorem Km (hok:Rk P w H h)(e:H a=some (.ins C dx fs)):∃mA,zdE h a dx C mA/\(∀f,Ri (fs.lookup f) (mA f))/\PySem.Within mA (fs.map (·.1))/\fs.length<=1000/\H dx=some (.own a):=by
 obtain⟨d,z,ne,ob,mA,n,r,q⟩:=(show xO P w H h a (.ins C dx fs) from hok a _ e)
 exact⟨mA,⟨ob,n,ne⟩,r,q,z,d⟩
end
structure Cls (K:Frag)(C:Addr):Prop where
 pg:PySem.W.plainGet K C Str.empty=true
 hd:PySem.W.hasDictIn K C=true
 po:PySem.W.plainOver K C=true
 sa:findIn K (.ref C) "__setattr__"=some (some (.builtin "object.__setattr__"))
theorem Cls.get {K:Frag}{C:Addr}(c:Cls K C)(f:Str):PySem.W.plainGet K C f=true:=c.pg
def XD (K:Frag)(C:Addr)(f:Str):Prop:=findIn K (.ref C) f=some none
theorem XD.taker {K:Frag}{C:Addr}{f:Str}(n:XD K C f):PySem.W.takerIn K C f=some none:=by
 unfold PySem.W.takerIn
 rw[show findIn K (.ref C) f=some none from n]
 rfl
structure Meth (K:Frag)(C:Addr)(m:Str)(f:Addr):Prop where
 at_:findIn K (.ref C) m=some (some (.ref f))
 fn:PySem.W.isFn K (.ref f)=true
 kp:PySem.W.keepIn K (.ref f)=true
section
variable {X:Cx}{pins:List (Addr×Obj)}{σ:St}{H:Hp}{s:Shared}{a C dx:Addr}{fs:List (Str×V)}{f:Str}{v:V}{A:Around}{E:Value->Shared->Prop}
theorem zdF {b:Bool}{Q:Value->Shared->Prop}(I:Inv X pins σ H s)(e:H a=some (.ins C dx fs))(c:Cls X.K C)(n:XD X.K C f)(l:fs.lookup f=some v)
  (h:∀u s',Inv X pins σ H s'->RelV v u->Q u s'):wpAny (model X.prog X.w) A (getAttr (.ref a) f b) Q E s:=by
 obtain⟨mA,O,r,_,_,_⟩:=Km I.hok e
 obtain⟨u,hu,ru⟩:=Ri.some_of (v:=v) (o:=mA f) (by rw[<-l];exact r f)
 exact get_map I.Nv O (c.get f) c.hd n hu (zfr ru) (h u _ (I.tok _) ru)
theorem R3 {m:Str}{g:Addr}{pl:Sem Bool}{Q:Value×List Value->Shared->Prop}(I:Inv X pins σ H s)(e:H a=some (.ins C dx fs))(c:Cls X.K C)(k:Meth X.K C m g)(l:fs.lookup m=none)
  (h:Q (.ref g,[.ref a]) s):wpAny (model X.prog X.w) A (getMethod (.ref a) m pl) Q E s:=by
 obtain⟨mA,O,r,_,_,_⟩:=Km I.hok e
 have hn:mA m=none:=Ri.none_of (by rw[<-l];exact r m)
 exact zgf I.Nv O (c.get m) k.at_ k.fn hn h
theorem zdG {y:V}{u:Value}{Q:Unit->Shared->Prop}(I:Inv X pins σ H s)(e:H a=some (.ins C dx fs))(c:Cls X.K C)(n:XD X.K C f)(hl:fs.length<1000)(ry:RelV y u)
  (h:∀s',Inv X pins σ (upd H a (.ins C dx (ZX f y fs))) s'->Q () s'):wpAny (model X.prog X.w) A (setAttr (.ref a) f u) Q E s:=by
 obtain⟨mA,O,r,wi,_,ho⟩:=Km I.hok e
 have hz:(fs.map (·.1)).length<=sizeLine:=by rw[zqI,sizeLine_eq];omega
 refine zhG I.Nv O c.sa c.po n.taker c.hd wi hz fun h' O' sb=>h _ ?_
 have hd:∃o,h'.get? dx=some o:=let ⟨o,_,_,e',_⟩:=O'.ns;⟨o,e'⟩
 refine I.write (x:=a) (e:=dx) (by rw[e];exact True.intro) (.inr ho) (fun b q hb z=>(sb.2 b hb).trans z) hd ?_
 refine⟨by rw[zE O.ne];exact ho,?_,O.ne,O'.obj,_,O'.ns,fun g=>?_,fun g hg=>?_⟩
 ·have:=Lb f y fs;omega
 ·show Ri ((ZX f y fs).lookup g) (if g=f then some u else mA g)
  rw[La]
  by_cases q:g=f
  ·rw[if_pos q,if_pos q];exact ry
  ·rw[if_neg q,if_neg q];exact r g
 ·by_cases q:g=f
  ·rw[q];exact(Nz f y fs).1
  ·refine(Nz f y fs).2 g (wi g fun z=>hg ?_)
   show(if g=f then some u else mA g)=none
   rw[if_neg q];exact z
theorem Inv.made (I:Inv X pins σ H s):Inv X pins σ (upd (upd H s.heap.objs.size (.own (s.heap.objs.size+1))) (s.heap.objs.size+1) (.ins C s.heap.objs.size []))
  {s with heap:=(s.heap.push PySem.W.emptyDict).push (PySem.W.instObj C s.heap.objs.size) }:=by
 have e1:(s.heap.push PySem.W.emptyDict).get? s.heap.objs.size=some PySem.W.emptyDict:=zq2 s.heap rfl
 have e2:((s.heap.push PySem.W.emptyDict).push (PySem.W.instObj C s.heap.objs.size)).get? (s.heap.objs.size+1)=some (PySem.W.instObj C s.heap.objs.size):=by
  have:=zq2 (s.heap.push PySem.W.emptyDict) (o:=PySem.W.instObj C s.heap.objs.size) rfl
  rwa [Heap.size_push] at this
 have e3:(s.heap.push PySem.W.emptyDict).Ns s.heap.objs.size (fun _=>none):=⟨PySem.W.emptyDict,#[],_,e1,rfl,(fun e he=>absurd he (by simp)),fun _=>rfl⟩
 have I1:=I.laid (a:=s.heap.objs.size) (o:=.own (s.heap.objs.size+1)) (h':=s.heap.push PySem.W.emptyDict) (t':=s.toks) (fun b u q=>zqO _ q) (zqY _) ⟨_,e1⟩
 refine I1.laid (a:=s.heap.objs.size+1) (o:=.ins C s.heap.objs.size []) (t':=s.toks) (fun b u q=>zqO _ q) (Nat.le_of_eq (Heap.size_push _ _)) ?_
 have ne:s.heap.objs.size≠s.heap.objs.size+1:=zqX (Nat.lt_succ_self _)
 refine⟨by rw[zE ne,zf],zq4 _,ne,e2,fun _=>none,(Heap.Ns1.of_empty e3).at fun o q=>zqO _ q,fun _=>True.intro,fun y hy=>absurd rfl hy⟩
theorem zhH {prog:Program}{w:World}{env:Env}{e:Expr}{f:Str}{pos:Pos}{s:Shared}{Q:Value->Shared->Prop}(hb:attributeBase e f env (eval e env)=eval e env)
  (h:wpAny (model prog w) A (eval e env) (fun o s₁=>wpAny (model prog w) A (getAttr o f true) Q E s₁) E s):wpAny (model prog w) A (eval (.Attribute e f pos) env) Q E s :=
 Attribute_any_ h (by rw[arm_eval_Attribute,hb])
end
def zmS (K:Frag)(ta:TE)(f:Str):TE:=fun σ H Q=>ta σ H fun x H1=>∃a C dx fs v,x=.ref a/\H1 a=some (.ins C dx fs)/\Cls K C/\XD K C f/\fs.lookup f=some v/\Q v H1
def zmT (K:Frag)(ta tv:TE)(f:Str):TS:=fun D σ H=>tv σ H fun y H1=>ta σ H1 fun x H2=>∃a C dx fs,x=.ref a/\H2 a=some (.ins C dx fs)/\Cls K C/\XD K C f/\fs.length<1000 /\
 D.nx σ (upd H2 a (.ins C dx (ZX f y fs)))
section
variable {X:Cx}{o e value:Expr}{f:Str}{pos pos' tpos:Pos}{ta tv:TE}
theorem tK (he:PE X e ta)(hb:attributeBase e f X.env (eval e X.env)=eval e X.env):PE X (.Attribute e f pos) (zmS X.K ta f):=by
 intro pins s σ H Q I h
 refine zhH hb (xT (he pins s σ H _ I h) fun u s1 ⟨x,H1,I1,rx,a,C,dx,fs,v,ex,ea,c,n,l,q⟩=>?_)
 subst ex
 obtain rfl:u=Value.ref a:=rx
 exact zdF I1 ea c n l fun u' s2 I2 ru=>⟨v,H1,I2,ru,q⟩
theorem zbz (ha:PE X o ta)(hv:PE X value tv)(hs:swapsWith value (some (.Attribute o f pos')) pos.line X.env=pure false):PS X (.Assign [.Attribute o f pos'] value pos) (zmT X.K ta tv f):=by
 intro pins s σ H D I h
 refine plainObj_wpAny_Assign_Attribute (xT (hv pins s σ H _ I h) fun u s1 ⟨y,H1,I1,ry,q⟩=>xT (ha pins s1 σ H1 _ I1 q) fun ov s2 ⟨x,H2,I2,rx,a,C,dx,fs,ex,ea,c,n,l,q2⟩=>?_) hs
 subst ex
 obtain rfl:ov=Value.ref a:=rx
 exact zdG I2 ea c n l ry fun s3 I3=>⟨σ,_,I3,q2⟩
theorem zi2 {pl:Sem Bool}{m:Str}{apos:Pos}{args:List Expr}{pins:List (Addr×Obj)}{s:Shared}{σ:St}{H:Hp}{Q:Value->Shared->Prop}{te:TE}(he:PE X e te)(I:Inv X pins σ H s)
  (h:te σ H fun x H1=>∃a C dx fs g,x=.ref a/\H1 a=some (.ins C dx fs)/\Cls X.K C/\Meth X.K C m g/\fs.lookup m=none /\
   ∀s1,Inv X pins σ H1 s1->wpAny (model X.prog X.w) X.A (callWith pos (.ref g) [.ref a] (backTo pos (starEach args X.env)) (backToKw pos (keywordEach [] X.env))) Q X.xe s1)
  (ht:eval (.Call (.Attribute e m apos) args [] pos) X.env=(do
   let ov <-eval e X.env
   standAt apos.atName
   let (f,first) <-holding [ov] (getMethod ov m pl)
   callWith pos f first (backTo pos (starEach args X.env)) (backToKw pos (keywordEach [] X.env)))) :
  wpAny (model X.prog X.w) X.A (eval (.Call (.Attribute e m apos) args [] pos) X.env) Q X.xe s:=by
 refine PySem.W.methodCall_KW (pl:=pl) (xT (he pins s σ H _ I h) fun u s1 ⟨x,H1,I1,rx,a,C,dx,fs,g,ex,ea,c,k,l,q⟩=>?_) ht
 subst ex
 obtain rfl:u=Value.ref a:=rx
 exact R3 I1 ea c k l (q s1 I1)
end
section
variable {X:Cx}{pins:List (Addr×Obj)}{σ:St}{H:Hp}{s:Shared}{A:Around}{E:Value->Shared->Prop}{Q:Value->Shared->Prop}{c:Value}{b:Bool}
inductive QC (K:Frag)(H:Hp):V->Value->Prop where
 | non:QC K H .non (.type "NoneType")
 | bl (x:Bool):QC K H (.bl x) (.type "bool")
 | int (i:Int):QC K H (.int i) (.type "int")
 | str (x:Str):QC K H (.str x) (.type "str")
 | flt (x:UInt64):QC K H (.flt x) (.type "float")
 | lst {a:Addr} {xs:List V} (e:H a=some (.lst xs)):QC K H (.ref a) (.type "list")
 | Qw {a:Addr} {o:Obj} {xs:List V} (e:H a=some (.Qw o (.lst xs))):QC K H (.ref a) (.type "list")
 | tup {a:Addr} {xs:List V} (e:H a=some (.tup xs)):QC K H (.ref a) (.type "tuple")
 | dK {a:Addr} {kvs:List (Key×V)} (e:H a=some (.dK kvs)):QC K H (.ref a) (.type "dict")
 | dT {a:Addr} {kvs:List (List Key×V)} (e:H a=some (.dT kvs)):QC K H (.ref a) (.type "dict")
 | ins {a C dx:Addr} {fs:List (Str×V)} (e:H a=some (.ins C dx fs)) (cl:Cls K C) (ha:findIn K (.ref C) "__class__"=some (some (.builtin "object.__class__")))
   (hn:PySem.W.specialIn K (.builtin "object.__class__") "__get__"=some (some (.builtin "getset_descriptor.__get__"))) (htk:PySem.W.takesIn K (.builtin "object.__class__")=some true)
   (hm:PySem.W.mroIn K C (.type "object")=some true):QC K H (.ref a) (.ref C)
theorem zfs {x:V}{u t:Value}(I:Inv X pins σ H s)(rx:RelV x u)(ty:QC X.K H x t)(e:PySem.W.kitOne X.K t c=some b)(h:∀tk,Q (.bool b) { s with toks:=tk }) :
  wpAny (model X.prog X.w) A (call (.builtin "isinstance") [u,c]) Q E s:=by
 cases ty with
 | non=>cases (show u=Value.none from rx);exact PySem.W.kia_one PySem.W.kitx_none I.Nv True.intro e (fun z=>nomatch z) h
 | bl y=>cases (show u=Value.bool y from rx);exact PySem.W.kia_one PySem.W.kitx_bool I.Nv True.intro e (fun z=>nomatch z) h
 | int i=>obtain⟨t,q⟩:=(show ∃t,u=Value.int i t from rx);cases q;exact PySem.W.kia_one PySem.W.kitx_int I.Nv True.intro e (fun z=>nomatch z) h
 | str y=>obtain⟨t,q⟩:=(show ∃t,u=Value.str y t from rx);cases q;exact PySem.W.kia_one PySem.W.kitx_str I.Nv True.intro e (fun z=>nomatch z) h
 | flt y=>obtain⟨t,q⟩:=(show ∃t,u=Value.float y t from rx);cases q;exact PySem.W.kia_one PySem.W.kitx_float I.Nv True.intro e (fun z=>nomatch z) h
 | @lst a xs ea =>
  cases (show u=Value.ref a from rx)
  obtain⟨_,_,n,_,h1⟩:=(show xO X.prog X.w H s.heap a (.lst xs) from I.hok a _ ea)
  exact PySem.W.kia_one PySem.W.kitx_list I.Nv ⟨_,h1,rfl⟩ e (fun z=>nomatch z) h
 | @Qw a ob xs ea =>
  cases (show u=Value.ref a from rx)
  obtain⟨_,_,_,n,_,h1⟩:=(show xO X.prog X.w H s.heap a (.Qw ob (.lst xs)) from I.hok a _ ea)
  exact PySem.W.kia_one PySem.W.kitx_list I.Nv ⟨_,h1,rfl⟩ e (fun z=>nomatch z) h
 | @tup a xs ea =>
  cases (show u=Value.ref a from rx)
  obtain⟨_,_,_,p⟩:=(show xO X.prog X.w H s.heap a (.tup xs) from I.hok a _ ea)
  obtain⟨o,h1,h2,_⟩:=p
  exact PySem.W.kia_one PySem.W.kitx_tuple I.Nv ⟨o,h1,h2⟩ e (fun z=>nomatch z) h
 | @dK a kvs ea =>
  cases (show u=Value.ref a from rx)
  obtain⟨_,_,vs,_,p⟩:=(show xO X.prog X.w H s.heap a (.dK kvs) from I.hok a _ ea)
  obtain⟨o,es,ep,h1,h2,_⟩:=p
  exact PySem.W.kia_one PySem.W.kitx_dict I.Nv ⟨o,h1,h2.1⟩ e (fun z=>nomatch z) h
 | @dT a kvs ea =>
  cases (show u=Value.ref a from rx)
  obtain⟨_,_,xs,_,o,es,ep,h1,h2,_⟩:=(show xO X.prog X.w H s.heap a (.dT kvs) from I.hok a _ ea)
  exact PySem.W.kia_one PySem.W.kitx_dict I.Nv ⟨o,h1,h2.1⟩ e (fun z=>nomatch z) h
 | @ins a C dx fs ea cl ha hn htk hm =>
  cases (show u=Value.ref a from rx)
  obtain⟨mA,O,_⟩:=Km I.hok ea
  obtain⟨od,J,_⟩:=O.look
  exact PySem.W.kia_one (PySem.W.kitx_own (cl.get _) cl.hd ha hn htk hm) I.Nv J e (fun z=>nomatch z) h
end
structure tL (k:Nat)(A:Around):Prop where
 hd:A.handled=none
 gd:A.guards=some []
 dp:A.depth+3*k+5<recursionLimit
 un:A.units+16*k+200<cLine
theorem tL.mono {j k:Nat}{A:Around}(r:tL k A)(h:j<=k):tL j A:=⟨r.hd,r.gd,by have:=r.dp;omega,by have:=r.un;omega⟩
theorem tL.deeper {k:Nat}{A:Around}(r:tL (k+1) A)(env:Env):tL k (A.deeper env) :=
 ⟨r.hd,r.gd,by have:=r.dp;show A.depth+1+3*k+5<_;omega,by have:=r.un;show A.units+3+16*k+200<_;omega⟩
theorem zdH {A:Around}{C:Addr}{us:List Value}{kw:List (Str×Value)}:(A.under (.builtin "type.__call__" ⟨.ref C::us,kw⟩)).depth=A.depth+1:=by
 first | rfl | simp[Around.under,Code.weight,Code.isCreation,Code.isGuard,Code.isCaller,Code.frames,Code.isFrame,guardIds]
theorem zdI {A:Around}{C:Addr}{us:List Value}{kw:List (Str×Value)}:(A.under (.builtin "type.__call__" ⟨.ref C::us,kw⟩)).units=A.units+1:=by
 first | rfl | simp[Around.under,Code.cUnits,Code.frames,Code.isFrame]
theorem tL.make {k:Nat}{A:Around}(r:tL (k+1) A)(C:Addr)(us:List Value)(kw:List (Str×Value)):tL k (A.under (.builtin "type.__call__" ⟨.ref C::us,kw⟩)) :=
 ⟨r.hd,(by
  have e:(Code.builtin "type.__call__" ⟨.ref C::us,kw⟩).guards=[]:=by first | rfl | simp[Code.guards,Code.isGuard,guardIds]
  unfold Around.under
  simp only[e,pushGuards]
  exact r.gd),by have:=r.dp;rw[zdH];omega,by have:=r.un;rw[zdI];omega⟩
theorem tL.depth {k:Nat}{A:Around}(r:tL k A):A.depth<recursionLimit:=by have:=r.dp;omega
theorem tL.units {k:Nat}{A:Around}(r:tL k A):A.units+64<cLine:=by have:=r.un;omega
def zal:TA:=fun _ H Q=>Q [] H
def U4 (ta:TE)(tr:TA):TA:=fun σ H Q=>ta σ H fun x H1=>tr σ H1 fun xs H2=>Q (x::xs) H2
section
variable {X:Cx}{e:Expr}{es:List Expr}{te:TE}{t:TA}{pos:Pos}
theorem zc:PA X [] zal:=fun _ _ _ _ H Q I h=>Calls.spliced_nil ⟨[],H,I,.nil,h⟩
theorem za (ha:PE X e te)(hr:PA X es t)(hs:starEach (e::es) X.env=(false,eval e X.env)::starEach es X.env:=by rfl):PA X (e::es) (U4 te t):=by
 intro pos pins s σ H Q I h
 rw[hs]
 show wpAny _ _ (spliced ((false,eval e X.env)::backTo pos (starEach es X.env))) _ _ s
 refine Calls.spliced_cons (xT (ha pins s σ H _ I h) fun u s1 ⟨x,H1,I1,r1,q1⟩=>?_)
 exact xT (hr pos pins s1 σ H1 _ I1 q1) fun us s2 ⟨xs,H2,I2,r2,q2⟩=>⟨x::xs,H2,I2,.cons r1 r2,q2⟩
def zmU (t:TA):TE:=fun σ H Q=>t σ H fun xs H1=>xs.length<=sizeLine/\∀p,H1 p=none->Q (.ref p) (upd H1 p (.tup xs))
def zmV (t:TA):TE:=fun σ H Q=>t σ H fun xs H1=>xs.length<=sizeLine/\∀p,H1 p=none->Q (.ref p) (upd H1 p (.lst xs))
theorem wC {x1}(h:PA X es t):PE X (.Tuple es x1 pos) (zmU t):=by
 intro pins s σ H Q I hq
 refine wpAny_Tuple_spliced (xT (h pos pins s σ H _ I hq) fun us s1 ⟨xs,H1,I1,r,z,q⟩=>⟨by rw[<-r.length];exact z,?_⟩)
 have hf:H1 s1.heap.objs.size=none:=I1.hok.fresh (zqY _)
 refine⟨.ref s1.heap.objs.size,upd H1 s1.heap.objs.size (.tup xs),I1.laid (t':=s1.toks) (fun b u e=>zqO _ e) (zqY _) ?_,rfl,q _ hf⟩
 exact⟨z,us,r,⟨_,zq2 _ rfl,rfl,_,rfl⟩⟩
theorem yJ (h:PA X es t):PE X (.List es pos) (zmV t):=by
 intro pins s σ H Q I hq
 refine wpAny_List_spliced (xT (h pos pins s σ H _ I hq) fun us s1 ⟨xs,H1,I1,r,z,q⟩=>⟨by rw[<-r.length];exact z,?_⟩)
 have hf:H1 s1.heap.objs.size=none:=I1.hok.fresh (zqY _)
 refine⟨.ref s1.heap.objs.size,upd H1 s1.heap.objs.size (.lst xs),I1.laid (t':=s1.toks) (fun b u e=>zqO _ e) (zqY _) ?_,rfl,q _ hf⟩
 exact⟨z,us,0,r,zq2 _ rfl⟩
end
abbrev Sp:=List V->Hp->VK->XK->Prop
abbrev CXT:=List Env->Hp->Shared->XK->Value->Shared->Prop
structure zdK (P:Program)(w:World)(K:Frag)(mg:Str->Option Value)(base:Heap)(A:Around)(outer:List Env)(s:Shared)(H:Hp):Prop where
 frames:A.frames=some outer
 mod:Mod K mg base
 bs:∀b o,base.get? b=some o->s.heap.get? b=some o/\H b=none
 bsz:base.objs.size<=s.heap.objs.size
 Nu:s.heap.FunFrames base outer
 frf:∀b∈frs outer,H b=none
 hok:Rk P w H s.heap
 bare:AllBare s.gens
def CE (outer:List Env)(P:Program)(w:World)(H:Hp)(s:Shared)(Q:VK)(u:Value)(s':Shared):Prop :=
 ∃v H',s'.os=s.os/\AllBare s'.gens/\Un (frs outer) [] H H' s.heap s'.heap/\Rk P w H' s'.heap/\RelV v u/\Q v H'
def CR (CX:CXT)(outer:List Env)(P:Program)(w:World)(H:Hp)(s:Shared)(Q:VK)(E:XK)(r:Result)(s':Shared):Prop :=
 match r with
 | .ok (.ret u)=>CE outer P w H s Q u s'
 | .ok _=>False
 | .error e=>CX outer H s E e s'
structure zF (P:Program)(w:World)(K:Frag)(mg:Str->Option Value)(base:Heap)(CX:CXT)(k:Nat)(f:Addr)(fd:FuncData)(ps:List Str)(sp:Sp):Prop where
 len:∀vs H Q E,sp vs H Q E->vs.length=ps.length
 run:∀(A:Around) (outer:List Env) (s:Shared) (H:Hp) (args:Args) (us:List Value) (vs:List V) (Q:VK) (E:XK),tL k A->zdK P w K mg base A outer s H->BindsTo s fd args (ps.zip us)->Vals vs us->sp vs H Q E ->
  codeAny (model P w) A (.call (.ref f) args) (CR CX outer P w H s Q E) s
theorem zF.mono {P:Program}{w:World}{K:Frag}{mg:Str->Option Value}{base:Heap}{CX:CXT}{j k:Nat}{f:Addr}{fd:FuncData}{ps:List Str}{sp:Sp}(F:zF P w K mg base CX j f fd ps sp)(h:j<=k) :
  zF P w K mg base CX k f fd ps sp:=⟨F.len,fun A outer s H args us vs Q E hr=>F.run A outer s H args us vs Q E (hr.mono h)⟩
theorem zF.imp {P:Program}{w:World}{K:Frag}{mg:Str->Option Value}{base:Heap}{CX:CXT}{k:Nat}{f:Addr}{fd:FuncData}{ps:List Str}{sp sp':Sp}(F:zF P w K mg base CX k f fd ps sp)
  (h:∀vs H Q E,sp' vs H Q E->sp vs H Q E):zF P w K mg base CX k f fd ps sp' :=
 ⟨fun vs H Q E q=>F.len vs H Q E (h _ _ _ _ q),fun A outer s H args us vs Q E hr he hb hv hs=>F.run A outer s H args us vs Q E hr he hb hv (h _ _ _ _ hs)⟩
theorem zdK.make {P:Program}{w:World}{K:Frag}{mg:Str->Option Value}{base:Heap}{A:Around}{outer:List Env}{s:Shared}{H:Hp}(e:zdK P w K mg base A outer s H)(C:Addr)(us:List Value)(kw:List (Str×Value)) :
  zdK P w K mg base (A.under (.builtin "type.__call__" ⟨.ref C::us,kw⟩)) outer s H:=⟨by first | exact e.frames | (simpa [Around.under,Code.envs,Code.isFrame,pushEnvs] using e.frames),e.mod,e.bs,e.bsz,e.Nu,e.frf,e.hok,e.bare⟩
section
variable {X:Cx}{pins:List (Addr×Obj)}{σ:St}{H:Hp}{s s':Shared}
theorem Inv.env0 (I:Inv X pins σ H s):zdK X.prog X.w X.K X.mg X.base X.A X.stack s H :=
 ⟨I.ok.frames,I.ok.mod,I.bs,zq3 I.ok.bsz I.sz,I.stack,I.zet,I.hok,I.bare⟩
theorem Inv.after {Q:VK}{u:Value}(I:Inv X pins σ H s)(h:CE X.stack X.prog X.w H s Q u s'):EP X pins σ Q u s':=by
 obtain⟨v,H',os,bare,un,hok,r,q⟩:=h
 obtain⟨hh,g,d,t,os'⟩:=s'
 obtain rfl:os'=s.os:=os
 exact⟨v,H',I.call (h':=hh) (g':=g) (d':=d) (t':=t) (ch:=[]) un hok bare (fun b z=>absurd z (by simp)),r,q⟩
end
def Jc (sp:Sp)(dvs:List V)(E:XK)(t:TA):TE:=fun σ H Q=>t σ H fun vs H1=>sp (vs++dvs) H1 Q E
def zeD (C:Addr)(m:Str)(sp:Sp)(dvs:List V)(E:XK)(ta:TE)(t:TA):TE:=fun σ H Q=>ta σ H fun x H1=>∃a dx fs,x=.ref a/\H1 a=some (.ins C dx fs)/\fs.lookup m=none /\
 t σ H1 fun vs H2=>sp (x::(vs++dvs)) H2 Q E
def zkV (C:Addr)(sp:Sp)(dvs:List V)(E:XK)(t:TA):TE:=fun σ H Q=>t σ H fun vs H1=>∀x dx,H1 x=none->H1 dx=none->dx≠x ->
 sp (.ref x::(vs++dvs)) (upd (upd H1 dx (.own x)) x (.ins C dx [])) (fun v H2=>v=.non/\Q (.ref x) H2) E
def Binds (K:Frag)(fd:FuncData)(ps:List Str)(ds:List Value):Prop :=
 ∀(s:Shared) (us:List Value),K.In s.heap->(us++ds).length=ps.length->BindsTo s fd ⟨us,[]⟩ (ps.zip (us++ds))
theorem Binds.all {K:Frag}{fd:FuncData}{ps:List Str}(h:∀us:List Value,us.length=ps.length->bindArgs fd ⟨us,[]⟩=pure (ps.zip us)):Binds K fd ps []:=fun s us _ hl=>by
 rw[List.append_nil] at hl ⊢
 exact .of_eq (h us hl)
def Passes (CX:CXT)(X:Cx)(E:XK):Prop:=∀(pins:List (Addr×Obj)) (σ:St) (H:Hp) (s:Shared) (e:Value) (s':Shared),Inv X pins σ H s->CX X.stack H s E e s'->X.xe e s'
section
variable {X:Cx}{CX:CXT}{k:Nat}{f C:Addr}{fd:FuncData}{ps:List Str}{sp:Sp}{dvs:List V}{ds:List Value}{E:XK}{x m:Str}{p pos apos:Pos}{e o:Expr}{es:List Expr}{ta:TE}{t:TA}
theorem zdL {pins:List (Addr×Obj)}{σ:St}{H:Hp}{s:Shared}{Q:VK}{us:List Value}{vs:List V}(F:zF X.prog X.w X.K X.mg X.base CX k f fd ps sp)(hr:tL k X.A)(hb:Binds X.K fd ps ds)(hd:Vals dvs ds)(hx:Passes CX X E)
  (I:Inv X pins σ H s)(r:Vals vs us)(h:sp (vs++dvs) H Q E):wpAny (model X.prog X.w) X.A (call (.ref f) us) (EP X pins σ Q) X.xe s:=by
 have r2:Vals (vs++dvs) (us++ds):=r.append hd
 have hl:(us++ds).length=ps.length:=by rw[<-r2.length];exact F.len _ _ _ _ h
 refine wpAny_call (codeAny_mono (F.run X.A X.stack s H ⟨us,[]⟩ (us++ds) (vs++dvs) Q E hr I.env0 (hb s us I.Nv hl) r2 h) fun r s' hq=>?_)
 cases r with
 | error e=>exact hx pins σ H s e s' I hq
 | ok fl =>
  cases fl with
  | ret u=>exact I.after hq
  | next=>exact False.elim hq
  | brk=>exact False.elim hq
  | cont=>exact False.elim hq
theorem zhI (F:zF X.prog X.w X.K X.mg X.base CX k f fd ps sp)(hr:tL k X.A)(hg:Gl X x)(hm:X.mg x=some (.ref f))(hk:PySem.W.keepIn X.K (.ref f)=true)(hb:Binds X.K fd ps ds)(hd:Vals dvs ds)(hx:Passes CX X E)
  (ha:PA X (e::es) t)(hdb:(x==("__debug__" : Str))=false:=by decide)(he:starEach (e::es) X.env=(false,eval e X.env)::starEach es X.env:=by rfl)(hpl:(backTo pos (starEach es X.env)).any (·.1)=false:=by rfl) :
  PE X (.Call (.Name x p) (e::es) [] pos) (Jc sp dvs E t):=by
 intro pins s σ H Q I h
 refine wpAny_Call_Name_kw (zbu I hg hm ?_ hdb)
 refine PySem.W.callWith_K (h₀:=X.base) I.ok.mod.kin hk (xT (ha pos pins s σ H _ I h) fun us s1 ⟨vs,H1,I1,r,q⟩=>⟨I1.Nv,?_⟩) he hpl
 exact zdL F hr hb hd hx I1 r q
theorem zhJ {pl:Sem Bool}(he:PE X o ta)(c:Cls X.K C)(hm:Meth X.K C m f)(F:zF X.prog X.w X.K X.mg X.base CX k f fd ps sp)(hr:tL k X.A)(hb:Binds X.K fd ps ds)(hd:Vals dvs ds)(hx:Passes CX X E)(ha:PA X (e::es) t)
  (hst:starEach (e::es) X.env=(false,eval e X.env)::starEach es X.env:=by rfl)(hpl:(backTo pos (starEach es X.env)).any (·.1)=false:=by rfl)
  (ht:eval (.Call (.Attribute o m apos) (e::es) [] pos) X.env=(do
   let ov <-eval o X.env
   standAt apos.atName
   let (f,first) <-holding [ov] (getMethod ov m pl)
   callWith pos f first (backTo pos (starEach (e::es) X.env)) (backToKw pos (keywordEach [] X.env))):=by rfl) :
  PE X (.Call (.Attribute o m apos) (e::es) [] pos) (zeD C m sp dvs E ta t):=by
 intro pins s σ H Q I h
 refine PySem.W.methodCall_KW (pl:=pl) (xT (he pins s σ H _ I h) fun u s1 ⟨x,H1,I1,rx,a,dx,fs,ex,ea,l,q⟩=>?_) ht
 subst ex
 obtain rfl:u=Value.ref a:=rx
 refine R3 I1 ea c hm l ?_
 refine PySem.W.callWith_K (first:=[.ref a]) (h₀:=X.base) I.ok.mod.kin hm.kp (xT (ha pos pins s1 σ H1 _ I1 q) fun us s2 ⟨vs,H2,I2,r,q2⟩=>⟨I2.Nv,?_⟩) hst hpl
 exact zdL (us:=.ref a::us) (vs:=.ref a::vs) F hr hb hd hx I2 (.cons rfl r) q2
theorem zgh {pl:Sem Bool}(he:PE X o ta)(c:Cls X.K C)(hm:Meth X.K C m f)(F:zF X.prog X.w X.K X.mg X.base CX k f fd ps sp)(hr:tL k X.A)(hb:Binds X.K fd ps ds)(hd:Vals dvs ds)(hx:Passes CX X E)
  (ht:eval (.Call (.Attribute o m apos) [] [] pos) X.env=(do
   let ov <-eval o X.env
   standAt apos.atName
   let (f,first) <-holding [ov] (getMethod ov m pl)
   callWith pos f first (backTo pos (starEach [] X.env)) (backToKw pos (keywordEach [] X.env))):=by rfl) :
  PE X (.Call (.Attribute o m apos) [] [] pos) (zeD C m sp dvs E ta zal):=by
 intro pins s σ H Q I h
 refine PySem.W.methodCall_KW (pl:=pl) (xT (he pins s σ H _ I h) fun u s1 ⟨x,H1,I1,rx,a,dx,fs,ex,ea,l,q⟩=>?_) ht
 subst ex
 obtain rfl:u=Value.ref a:=rx
 refine R3 I1 ea c hm l ?_
 exact PySem.W.callWith_K0 (first:=[.ref a]) I1.Nv hm.kp (zdL (us:=[.ref a]) (vs:=[.ref a]) F hr hb hd hx I1 (.cons rfl .nil) q)
structure Mk (K:Frag)(C f:Addr):Prop where
 makes:PySem.W.makesIn K C=true
 init:findIn K (.ref C) "__init__"=some (some (.ref f))
 fn:PySem.W.isFn K (.ref f)=true
 kp:PySem.W.keepIn K (.ref C)=true
theorem zgi {pins:List (Addr×Obj)}{σ:St}{H:Hp}{s:Shared}{Q:VK}{us:List Value}{vs:List V}(M:Mk X.K C f)(F:zF X.prog X.w X.K X.mg X.base CX k f fd ps sp)(hr:tL (k+1) X.A)(hb:Binds X.K fd ps ds)(hd:Vals dvs ds)
  (hx:Passes CX X E)(I:Inv X pins σ H s)(r:Vals vs us)
  (h:∀x dx,H x=none->H dx=none->dx≠x->sp (.ref x::(vs++dvs)) (upd (upd H dx (.own x)) x (.ins C dx [])) (fun v H2=>v=.non/\Q (.ref x) H2) E) :
  wpAny (model X.prog X.w) X.A (call (.ref C) us) (EP X pins σ Q) X.xe s:=by
 have hq:=h (s.heap.objs.size+1) s.heap.objs.size (I.hok.fresh (Nat.le_succ _)) (I.hok.fresh (zqY _)) (zqX (Nat.lt_succ_self _))
 have I2:=Inv.made (C:=C) I
 have r2:Vals (V.ref (s.heap.objs.size+1)::(vs++dvs)) (Value.ref (s.heap.objs.size+1)::(us++ds)):=.cons rfl (r.append hd)
 have hl:(Value.ref (s.heap.objs.size+1)::us++ds).length=ps.length:=by
  have e:=r2.length
  rw[F.len _ _ _ _ hq] at e
  exact e.symm
 refine wpAny_call (zgg (f:=f) I.Nv M.makes M.init (beq_iff_eq.mp M.fn) (codeAny_mono (F.run _ X.stack _ _ ⟨Value.ref (s.heap.objs.size+1)::us,[]⟩ (Value.ref (s.heap.objs.size+1)::(us++ds)) _ _ E (hr.make C us [])
  (I2.env0.make C us []) (hb _ (Value.ref (s.heap.objs.size+1)::us) I2.Nv hl) r2 hq) fun r s' hq'=>?_))
 cases r with
 | error e=>exact hx pins σ _ _ e s' I2 hq'
 | ok fl =>
  cases fl with
  | ret u =>
   obtain⟨v,H',I3,rv,ev,q3⟩:=I2.after hq'
   subst ev
   exact⟨rv,⟨V.ref (s.heap.objs.size+1),H',I3,rfl,q3⟩⟩
  | next=>exact False.elim hq'
  | brk=>exact False.elim hq'
  | cont=>exact False.elim hq'
theorem zhK (M:Mk X.K C f)(F:zF X.prog X.w X.K X.mg X.base CX k f fd ps sp)(hr:tL (k+1) X.A)(hg:Gl X x)(hm:X.mg x=some (.ref C))(hb:Binds X.K fd ps ds)(hd:Vals dvs ds)(hx:Passes CX X E)
  (ha:PA X (e::es) t)(hdb:(x==("__debug__" : Str))=false:=by decide)(he:starEach (e::es) X.env=(false,eval e X.env)::starEach es X.env:=by rfl)(hpl:(backTo pos (starEach es X.env)).any (·.1)=false:=by rfl) :
  PE X (.Call (.Name x p) (e::es) [] pos) (zkV C sp dvs E t):=by
 intro pins s σ H Q I h
 refine wpAny_Call_Name_kw (zbu I hg hm ?_ hdb)
 refine PySem.W.callWith_K (h₀:=X.base) I.ok.mod.kin M.kp (xT (ha pos pins s σ H _ I h) fun us s1 ⟨vs,H1,I1,r,q⟩=>⟨I1.Nv,?_⟩) he hpl
 exact zgi M F hr hb hd hx I1 r q
end
def PK (X:Cx)(kws:List Keyword)(t:TA):Prop :=
 ∀(pos:Pos) (pins:List (Addr×Obj)) (s:Shared) (σ:St) (H:Hp) (Q:List V->Hp->Prop),Inv X pins σ H s->t σ H Q->wpAny (model X.prog X.w) X.A (evalAll ((backToKw pos (keywordEach kws X.env)).map (·.2))) (AP X pins σ Q) X.xe s
section
variable {X:Cx}{CX:CXT}{k:Nat}{f C:Addr}{fd:FuncData}{ps ks:List Str}{sp:Sp}{E:XK}{x m:Str}{p pos apos kpos:Pos}{e o:Expr}{es:List Expr}{kws:List Keyword}{te ta:TE}{t tk:TA}{nm:Option Str}
theorem zjC:PK X [] zal:=fun _ _ _ _ H Q I h=>wpAny_evalAll_nil ⟨[],H,I,.nil,h⟩
theorem zhL (ha:PE X e te)(hr:PK X kws t):PK X (⟨nm,e,kpos⟩::kws) (U4 te t):=by
 intro pos pins s σ H Q I h
 show wpAny _ _ (evalAll ((do let v <-eval e X.env;standAt pos;pure v)::(backToKw pos (keywordEach kws X.env)).map (·.2))) _ _ s
 refine wpAny_evalAll_cons (wpAny_bind (xT (ha pins s σ H _ I h) fun u s1 ⟨x,H1,I1,r1,q1⟩=>wpAny_bind (wpAny_standAt (wpAny_pure ?_))))
 exact xT (hr pos pins s1 σ H1 _ I1 q1) fun us s2 ⟨xs,H2,I2,r2,q2⟩=>⟨x::xs,H2,I2,.cons r1 r2,q2⟩
variable {g:List Value->List Value->List Value}{gV:List V->List V->List V}
end
structure zO (N P:List Str)(sc:Scope):Prop where
 kind:sc.kind=.function
 co:sc.isCoroutine=false
 gen:sc.isGenerator=false
 nd:N.Nodup
 pre:N.take P.length=P
 par:∀x∈P,sc.names.lookup x=some .local\/sc.names.lookup x=some .cell
 zjD:∀y∈sc.names,y.2≠.free
theorem zaS {kindOf:Str->Option NameKind}{x:Str}:∀{binds:List (Str×Value)} {m:Str->Option Value},(∀v,(x,v)∉binds)->bindL kindOf binds m x=m x
 | [],_,_=>rfl
 | (n,v)::r,m,h=>by
  unfold bindL
  rw[zaS fun w hw=>h w (zqT _ hw)]
  split
  ·have:x≠n:=by rintro rfl;exact h v zq1
   simp[this]
  ·rfl
theorem zaT {kindOf:Str->Option NameKind}{x:Str}:∀{binds:List (Str×Value)} {m:Str->Option Value},(∀v,(x,v)∉binds)->bindC kindOf binds m x=m x
 | [],_,_=>rfl
 | (n,v)::r,m,h=>by
  unfold bindC
  rw[zaT fun w hw=>h w (zqT _ hw)]
  split
  ·rfl
  ·have:x≠n:=by rintro rfl;exact h v zq1
   simp[this]
theorem zaU {kindOf:Str->Option NameKind}{x:Str}{v:Value}:∀{P:List Str} {vs:List Value} {i:Nat} {m:Str->Option Value},P.Nodup->P[i]?=some x->vs[i]?=some v->kindOf x=some .local ->
  bindL kindOf (P.zip vs) m x=some v
 | [],_,_,_,_,h,_,_=>by simp at h
 | _::_,[],_,_,_,_,h,_=>by simp at h
 | p::P,w::vs,0,m,nd,h1,h2,hk=>by
  simp at h1 h2;subst h1;subst h2
  show bindL kindOf ((p,w)::P.zip vs) m p=_
  unfold bindL
  rw[zaS fun v hv=>(List.nodup_cons.mp nd).1 (List.of_mem_zip hv).1,if_pos hk]
  simp
 | p::P,w::vs,i+1,m,nd,h1,h2,hk=>by
  show bindL kindOf ((p,w)::P.zip vs) m x=_
  unfold bindL
  exact zaU (i:=i) (List.nodup_cons.mp nd).2 (by simpa using h1) (by simpa using h2) hk
theorem zaV {kindOf:Str->Option NameKind}{x:Str}{v:Value}:∀{P:List Str} {vs:List Value} {i:Nat} {m:Str->Option Value},P.Nodup->P[i]?=some x->vs[i]?=some v->kindOf x≠some .local ->
  bindC kindOf (P.zip vs) m x=some v
 | [],_,_,_,_,h,_,_=>by simp at h
 | _::_,[],_,_,_,_,h,_=>by simp at h
 | p::P,w::vs,0,m,nd,h1,h2,hk=>by
  simp at h1 h2;subst h1;subst h2
  show bindC kindOf ((p,w)::P.zip vs) m p=_
  unfold bindC
  rw[zaT fun v hv=>(List.nodup_cons.mp nd).1 (List.of_mem_zip hv).1,if_neg hk]
  simp
 | p::P,w::vs,i+1,m,nd,h1,h2,hk=>by
  show bindC kindOf ((p,w)::P.zip vs) m x=_
  unfold bindC
  exact zaV (i:=i) (List.nodup_cons.mp nd).2 (by simpa using h1) (by simpa using h2) hk
def start (N:List Str)(vs:List V):St:=vs.map some++List.replicate (N.length-vs.length) none
def zft (CX:CXT)(P:Program)(w:World)(K:Frag)(mg:Str->Option Value)(base:Heap)(N:List Str)(qual:Str)(scope:Scope)(f:Addr)(cd:Value)(A:Around)(outer:List Env)(s:Shared)(H:Hp)(E:XK):Cx where
 prog:=P
 w:=w
 K:=K
 mg:=mg
 base:=base
 A:=A.deeper (envOfC qual scope s.heap.objs.size f cd)
 N:=N
 s₀:=s
 H₀:=H
 env:=envOfC qual scope s.heap.objs.size f cd
 outer:=outer
 stack:=envOfC qual scope s.heap.objs.size f cd::outer
 ex:=[]
 calm:=true
 fn:=fun _=>true
 pn:=[]
 xe:=fun e s'=>wpAny (model P w) (A.deeper (envOfC qual scope s.heap.objs.size f cd)) (leaving (envOfC qual scope s.heap.objs.size f cd) e) (fun _ s''=>CX outer H s E e s'') (fun e' s''=>CX outer H s E e' s'') s'
theorem zcB {sc:Scope}{n:Nat}{x:Str}(h:sc.names.lookup x=some .cell):∃c,(cellsFrom n sc.names []).lookup x=some c:=by
 have q:=PySem.W.cellsFrom_some sc.names n [] (.inl h)
 exact Option.isSome_iff_exists.mp q
theorem zfu {CX:CXT}{P:Program}{w:World}{K:Frag}{mg:Str->Option Value}{base:Heap}{N ps:List Str}{qual:Str}{scope:Scope}{f:Addr}{cd:Value}{A:Around}{outer:List Env}{s s1:Shared}{H:Hp}{E:XK}{us:List Value}{vs:List V}
  (S:zO N ps scope)(hd:A.handled=none)(e0:zdK P w K mg base A outer s H)(hl:vs.length=ps.length)(r:Vals vs us)
  (x:InCallC s s.heap.objs.size (bindL (envOfC qual scope s.heap.objs.size f cd).kindOf (ps.zip us) fun _=>none) (cellsFrom (s.heap.objs.size+1) scope.names []) (bindC (envOfC qual scope s.heap.objs.size f cd).kindOf (ps.zip us) fun _=>none) s1) :
  Inv (zft CX P w K mg base N qual scope f cd A outer s H E) [] (start N vs) H s1:=by
 have hpl:ps.length<=N.length:=by have:=congrArg List.length S.pre;rw[zq5] at this;omega
 obtain⟨h1,tk,rfl,hk⟩:=x.done
 have noA:∀b:Addr,b∉(zft CX P w K mg base N qual scope f cd A outer s H E).ex:=fun b z=>absurd (show b∈([]:List Addr) from z) (by simp)
 refine⟨⟨e0.mod,S.kind,rfl,rfl,zqY _,fun y z c h1 h2=>?_,fun y hy=>?_,fun y c _ h=>?_,fun _=>hd,Around.frames_deeper e0.frames,.inr ⟨rfl,rfl⟩,fun b z=>absurd z (noA b),e0.bs,e0.bsz,fun b _ _=>noA b,fun b z=>absurd z (noA b),e0.Nu,e0.frf⟩,
  rfl,e0.bare,Un.kept hk,⟨_,x.toInCall.ns,fun i y v h1 h2 h3=>?_⟩,fun y c h=>⟨_,x.cell y c h⟩,e0.hok.fresh (zqY _),fun y c h=>?_,fun p hp=>absurd (show p∈([]:List (Addr×Obj)) from hp) (by simp),e0.hok.kept hk,?_⟩
 ·exact name_of_addr x.apart (PySem.mem_of_lookup h1) (PySem.mem_of_lookup h2)
 ·have hy:scope.names.lookup y=some .cell\/scope.names.lookup y=some .free:=hy
  rcases hy with hy | hy
  ·exact zcB hy
  ·exact absurd rfl (S.zjD _ (PySem.mem_of_lookup hy))
 ·exact zq0 (x.above y c (PySem.mem_of_lookup h))
 ·have hi:i<vs.length:=by
   unfold start at h2
   by_cases hi:i<vs.length
   ·exact hi
   ·rw[List.getElem?_append_right (by simpa using hi)] at h2
    rw[List.getElem?_replicate] at h2
    split at h2<;>cases h2
  have ha:vs[i]?=some v:=by
   unfold start at h2
   rw[zre (by simpa using hi),zqK] at h2
   cases e:vs[i]? with
   | none=>rw[e] at h2;cases h2
   | some a=>rw[e] at h2;cases h2;rfl
  obtain⟨u,hu,rv⟩:=r.get ha
  have hp:ps[i]?=some y:=by
   rw[<-S.pre,List.getElem?_take_of_lt (by omega)];exact h1
  have ndP:ps.Nodup:=by rw[<-S.pre];exact S.nd.sublist (List.take_sublist _ _)
  refine⟨u,rv,?_⟩
  rcases S.par y (zqN hp) with k | k
  ·exact .inl ⟨k,zaU ndP hp hu k⟩
  ·obtain⟨c,e⟩:=zcB (n:=s.heap.objs.size+1) k
   refine .inr ⟨.inl k,c,e,?_⟩
   have q:=x.cell y c e
   rw[zaV ndP hp hu (by show scope.names.lookup y≠_;rw[k];decide)] at q
   exact q
 ·exact e0.hok.fresh (zq0 (x.above y c (PySem.mem_of_lookup h)))
 ·unfold start
  show _=N.length
  rw[zqQ,zqI,List.length_replicate]
  omega
theorem zkX {CX:CXT}{P:Program}{w:World}{K:Frag}{mg:Str->Option Value}{base:Heap}{k:Nat}{f:Addr}{name qual:Str}{params:Arguments}{body:List Stmt}{scope:Scope}{dV kV doc pm cdv ct oc:Value}{an od:Option Addr}
  {osl:Array (Option Value)}{N ps:List Str}{sp:Sp}(lk:K.lookup f=some ⟨oc,od,.func (PySem.W.fnOf name qual params body scope dV kV doc pm an cdv ct),osl⟩)(hcd:PySem.W.codeIn K cdv qual=true)(S:zO N ps scope)
  (len:∀vs H Q E,sp vs H Q E->vs.length=ps.length)
  (hbody:∀(A:Around) (outer:List Env) (s:Shared) (H:Hp) (vs:List V) (Q:VK) (E:XK),tL k (A.deeper (envOfC qual scope s.heap.objs.size f cdv))->sp vs H Q E ->
   ∃t,PSs (zft CX P w K mg base N qual scope f cdv A outer s H E) body t/\t { nx:=fun _ H'=>Q .non H',rt:=Q } (start N vs) H) :
  zF P w K mg base CX (k+1) f (PySem.W.fnOf name qual params body scope dV kV doc pm an cdv ct) ps sp:=by
 refine⟨len,fun A outer s H args us vs Q E hr e0 hb r hsp=>?_⟩
 have hl:=len _ _ _ _ hsp
 have KX:K.In s.heap:=e0.mod.kin.keeps fun b o e=>(e0.bs b o e).1
 have lim:s.heap.NoLimit:=e0.mod.nolimit.keeps fun b o e=>(e0.bs b o e).1
 have hkind:∀y∈ps.zip us,scope.names.lookup y.1=some .local\/(scope.names.lookup y.1=some .cell/\((cellsFrom (s.heap.objs.size+1) scope.names []).lookup y.1).isSome=true):=fun⟨n,v⟩ hy=>by
  rcases S.par n (List.of_mem_zip hy).1 with q | q
  ·exact .inl q
  ·exact .inr ⟨q,PySem.W.cellsFrom_some _ _ _ (.inl q)⟩
 refine codeAny_call_function hr.depth (KX _ _ lk) rfl S.co S.gen rfl (PySem.W.codeRec_of KX hcd) (hb _ _ _ _ ?_)
 refine wpAny_newFunctionEnv_cells S.kind hkind fun env he s1 x=>?_
 subst he
 refine⟨lim.keeps x.toInCall.keep,codeAny_func ?_⟩
 obtain⟨t,ht,hq⟩:=hbody A outer s H vs Q E (hr.deeper _) hsp
 have I:Inv (zft CX P w K mg base N qual scope f cdv A outer s H E) [] (start N vs) H s1:=zfu S hr.hd e0 hl r x
 refine wpAny_mono (ht [] s1 (start N vs) H _ I hq) (fun fl s' hs=>?_) fun e s' hs=>hs
 have fin:∀{σ':St} {H':Hp} {v:V} {u:Value},Inv (zft CX P w K mg base N qual scope f cdv A outer s H E) [] σ' H' s'->RelV v u->Q v H'->CE outer P w H s Q u s' :=
  fun {σ' H' v u} J rv q=>⟨v,H',J.os,J.bare,J.base,J.hok,rv,q⟩
 cases fl with
 | ret u =>
  obtain⟨v,σ',H',J,rv,q⟩:=hs
  exact fin J rv q
 | next =>
  obtain⟨σ',H',J,q⟩:=hs
  exact fin (v:=V.non) (u:=Value.none) J rfl q
 | brk =>
  obtain⟨_,_,_,q⟩:=hs
  exact False.elim q
 | cont =>
  obtain⟨_,_,_,q⟩:=hs
  exact False.elim q
section
variable {X:Cx}{x:Str}{p pos:Pos}{e:Expr}{es:List Expr}{t:TA}{id T:String}{r:List V->Hp->VK->Prop}
def tCB (r:List V->Hp->VK->Prop)(t:TA):TE:=fun σ H Q=>t σ H fun vs H1=>r vs H1 Q
theorem zG (hc:ZR X (.builtin id) r)(hg:Gl X x)(hm:X.mg x=none)(hv:bootBuiltins x=some (.builtin id))(ha:PA X (e::es) t)(hn:x ≠ "__name__" := by decide)(hdb:(x==("__debug__" : Str))=false:=by decide)
  (he:starEach (e::es) X.env=(false,eval e X.env)::starEach es X.env:=by rfl)(hpl:(backTo pos (starEach es X.env)).any (·.1)=false:=by rfl):PE X (.Call (.Name x p) (e::es) [] pos) (tCB r t):=by
 intro pins s σ H Q I h
 refine wpAny_Call_Name_kw (RV I hg hm hv ?_ hn hdb)
 exact PyProof.Rows.callWith_builtin1 (xT (ha pos pins s σ H _ I h) fun us s1 ⟨vs,H1,I1,r1,q1⟩=>hc pins s1 σ H1 vs us Q I1 r1 q1) he hpl
theorem uh (hc:ZR X (.type T) r)(hg:Gl X x)(hm:X.mg x=none)(hv:bootBuiltins x=some (.type T))(ha:PA X (e::es) t)(hn:x ≠ "__name__" := by decide)(hdb:(x==("__debug__" : Str))=false:=by decide)
  (he:starEach (e::es) X.env=(false,eval e X.env)::starEach es X.env:=by rfl)(hpl:(backTo pos (starEach es X.env)).any (·.1)=false:=by rfl):PE X (.Call (.Name x p) (e::es) [] pos) (tCB r t):=by
 intro pins s σ H Q I h
 refine wpAny_Call_Name_kw (RV I hg hm hv ?_ hn hdb)
 exact PyProof.Rows.callWith_type1 (xT (ha pos pins s σ H _ I h) fun us s1 ⟨vs,H1,I1,r1,q1⟩=>hc pins s1 σ H1 vs us Q I1 r1 q1) he hpl
end
end L2
namespace HT
open PySem PyProof.Rows
section
variable {prog:Program}{w:World}{A:Around}{E:Value->Shared->Prop}{s:Shared}
def Zd (n d:Nat):Option Int->Nat
 | none=>d
 | some v=>if v<0 then (v+(n:Int)).toNat else min v.toNat n
theorem zcC (n d:Nat):Zd n d none=d:=rfl
theorem VF (n d k:Nat):Zd n d (some (k:Int))=min k n:=by
 show(if (k:Int)<0 then ((k:Int)+(n:Int)).toNat else min (k:Int).toNat n)=min k n
 rw[if_neg (by omega),zrk]
theorem zjE (n d:Nat)(hd:d<=n)(o:Option Int):Zd n d o<=n:=by
 cases o with
 | none=>exact hd
 | some v =>
  show(if v<0 then (v+(n:Int)).toNat else min v.toNat n)<=n
  by_cases hv:v<0
  ·rw[if_pos hv];omega
  ·rw[if_neg hv];exact Nat.min_le_right _ _
theorem zeE (v:Int)(n d:Nat):(if v<0 then max (v+(n:Int)) 0 else min v (n:Int))=((Zd n d (some v):Nat):Int):=by
 show(if v<0 then max (v+(n:Int)) 0 else min v (n:Int))=(((if v<0 then (v+(n:Int)).toNat else min v.toNat n):Nat):Int)
 by_cases hv:v<0
 ·simp only[if_pos hv];omega
 ·simp only[if_neg hv];omega
theorem zdM (lo hi:Option Int)(n:Nat):Builtin.Slice.sliceAdjust lo hi 1 (n:Int)=(((Zd n 0 lo:Nat):Int),((Zd n n hi:Nat):Int)):=by
 have h1:¬((1:Int)<0):=by omega
 unfold Builtin.Slice.sliceAdjust
 simp only[h1,if_false]
 refine Prod.ext ?_ ?_
 ·cases lo with
  | none=>rfl
  | some v=>exact zeE v n 0
 ·cases hi with
  | none=>rfl
  | some v=>exact zeE v n n
theorem zdN (i j:Nat):Builtin.Slice.slicePlaces (i:Int) (j:Int) 1=j-i:=by
 unfold Builtin.Slice.slicePlaces
 have h1:(1:Int) > 0:=by omega
 simp only[h1,if_true,Int.ediv_one]
 split<;>omega
theorem Jd {v:Value}{o:Option Int}{Q:Option Int->Shared->Prop}(p:IsPart v o)(h:Q o s):wpAny (model prog w) A (Builtin.Slice.slicePartIndex v) Q E s:=by
 cases p with
 | none=>exact slicePart_none h
 | int i t=>exact slicePart_int h
theorem NK {sl:Addr}{vl vu:Value}{lo hi:Option Int}{n:Nat}{Q:Int×Int×Nat->Shared->Prop}(hs:s.heap.IsSliceOf sl vl vu .none)(pl:IsPart vl lo)(pu:IsPart vu hi)
  (h:Q (((Zd n 0 lo:Nat):Int),1,Zd n n hi-Zd n 0 lo) s):wpAny (model prog w) A (Builtin.Slice.sliceApplied (.ref sl) (pure (n:Int))) Q E s:=by
 obtain⟨os,hos,hcs,hds⟩:=id hs
 unfold Builtin.Slice.sliceApplied Builtin.Slice.sliceFields
 refine wpAny_bind (wpAny_bind (wpAny_field hos hds (x:=vl) rfl (wpAny_bind (wpAny_field hos hds (x:=vu) rfl (wpAny_bind (wpAny_field hos hds (x:=.none) rfl (wpAny_pure ?_)))))))
 refine wpAny_bind (slicePart_none ?_)
 show wpAny _ _ (if ((1:Int)==0)=true then _ else _) _ _ s
 rw[if_neg (by decide)]
 refine wpAny_bind (Jd pl (wpAny_bind (Jd pu (wpAny_bind (wpAny_pure ?_)))))
 show wpAny _ _ (match Builtin.Slice.sliceAdjust lo hi 1 (n:Int) with | (lo,hi)=>pure (lo,(1:Int),Builtin.Slice.slicePlaces lo hi 1)) _ _ s
 rw[zdM lo hi n]
 show wpAny _ _ (pure (((Zd n 0 lo:Nat):Int),(1:Int),Builtin.Slice.slicePlaces ((Zd n 0 lo:Nat):Int) ((Zd n n hi:Nat):Int) 1)) _ _ s
 rw[zdN]
 exact wpAny_pure h
theorem zgj (xs:Array Value)(i k:Nat):((List.range k).filterMap fun(m:Nat)=>xs[((i:Int)+(m:Int)*1).toNat]?).toArray=((xs.toList.drop i).take k).toArray:=by
 have e:(fun(m:Nat)=>xs[((i:Int)+(m:Int)*1).toNat]?)=fun m=>xs[i+m]?:=by
  funext m
  have:((i:Int)+(m:Int)*1).toNat=i+m:=by omega
  rw[this]
 rw[e]
 have:=pick_run xs i k
 rw[List.filterMap_map] at this
 have e2:((fun x=>xs[x]?) ∘ fun x=>i+x)=fun m=>xs[i+m]?:=rfl
 rw[e2] at this
 rw[this]
theorem QD {t sl:Addr}{items:Array Value}{vl vu:Value}{lo hi:Option Int}{Q:Value->Shared->Prop}(ht:IsTup s.heap t items)(hs:s.heap.IsSliceOf sl vl vu .none)(pl:IsPart vl lo)(pu:IsPart vu hi)
  (hw:¬(Zd items.size 0 lo=0/\Zd items.size items.size hi=items.size))
  (h:Q (.ref s.heap.objs.size) { s with heap:=s.heap.push { cls:=.type "tuple", data:=.seq ((items.toList.drop (Zd items.size 0 lo)).take (Zd items.size items.size hi-Zd items.size 0 lo)).toArray } })
  (hsz:items.size<=sizeLine):wpAny (model prog w) A (getItem (.ref t) (.ref sl)) Q E s:=by
 have zeF:sizeOk (.seq ((items.toList.drop (Zd items.size 0 lo)).take (Zd items.size items.size hi-Zd items.size 0 lo)).toArray):=by
  show((items.toList.drop (Zd items.size 0 lo)).take (Zd items.size items.size hi-Zd items.size 0 lo)).toArray.size<=sizeLine
  rw[zqS,zq5,List.length_drop,Array.length_toList]
  omega
 have hj:Zd items.size items.size hi<=items.size:=zjE _ _ (zqY _) hi
 obtain⟨os,hos,hcs,hds⟩:=id hs
 have hTs:s.TypeIs (.ref sl) "slice" := ⟨os,hos,hcs⟩
 unfold getItem
 try with_reducible refine wpAny_holding ?_
 first | refine wpAny_bind (wpAny_pure ?_) | skip
 refine wpAny_bind (wpAny_sequenceKey ht.typeIs (by decide) ?_)
 refine wpAny_bind (wpAny_callSpecial?_slot (name:=Str.ofString "__getitem__") ht.typeIs PyProof.Rows.slot_tuple_getitem
  (wpAny_call_entry PyProof.Rows.slot_tuple_getitem ht.typeIs entry_tuple_getitem ?_ (args_tuple_getitem _ _)))
 show wpAny _ _ (Builtin.Tuple.tupleItemsOf (.ref t)>>=_) _ _ s
 refine wpAny_bind (tupleItemsOf_ ht ?_)
 refine wpAny_bind (wpAny_typeOf hTs ?_)
 rw[if_pos (by decide)]
 refine wpAny_bind (NK hs pl pu ?_)
 have hno:¬((((Zd items.size 0 lo:Nat):Int)==0&&(1:Int)==1&&(Zd items.size items.size hi-Zd items.size 0 lo)==items.size)=true):=by
  intro q
  rw[zq9,zq9] at q
  have q1:((Zd items.size 0 lo:Nat):Int)=0:=eq_of_beq q.1.1
  have q2:Zd items.size items.size hi-Zd items.size 0 lo=items.size:=eq_of_beq q.2
  exact hw ⟨by omega,by omega⟩
 show wpAny _ _ (if (((Zd items.size 0 lo:Nat):Int)==0&&(1:Int)==1&&(Zd items.size items.size hi-Zd items.size 0 lo)==items.size)=true then _ else _) _ _ s
 rw[if_neg hno,zgj]
 first
  | exact wpAny_bind (m:=Builtin.Tuple.tupleExact _) (wpAny_newObj_type (wpAny_pure ⟨_,rfl,wpAny_pure h⟩) zeF)
  | exact wpAny_bind (m:=Builtin.Tuple.tupleExact _) (wpAny_newObj_type (wpAny_bind (wpAny_pure (wpAny_pure ⟨_,rfl,wpAny_pure h⟩))) zeF)
  | exact wpAny_bind (wpAny_bind (m:=Builtin.Tuple.tupleExact _) (wpAny_newObj_type (wpAny_pure (wpAny_pure ⟨_,rfl,wpAny_pure h⟩)) zeF))
  | exact wpAny_bind (wpAny_bind (m:=Builtin.Tuple.tupleExact _) (wpAny_newObj_type (wpAny_pure ⟨_,rfl,wpAny_pure h⟩) zeF))
end
end HT
namespace L2
open PySem PySem.Spec PyProof.Rows
abbrev TO:=St->Hp->(Option Int->Hp->Prop)->Prop
def PO (X:Cx)(e:Option Expr)(t:TO):Prop :=
 ∀(pins:List (Addr×Obj)) (s:Shared) (σ:St) (H:Hp) (Q:Option Int->Hp->Prop),Inv X pins σ H s->t σ H Q ->
  wpAny (model X.prog X.w) X.A (evalPart e X.env) (fun u s'=>∃o H',Inv X pins σ H' s'/\IsPart u o/\Q o H') X.xe s
def zhM:TO:=fun _ H Q=>Q none H
def zkY (t:TE):TO:=fun σ H Q=>t σ H fun x H1=>∃i,x=.int i/\Q (some i) H1
theorem intsAre_of {ns:List Int}:∀{us:List Value},Vals (ns.map V.int) us->IntsAre us ns:=by
 induction ns with
 | nil=>intro us r;rw[List.map_nil] at r;cases r;exact .nil
 | cons n ns ih =>
  intro us r
  rw[zq6] at r
  cases r with
  | cons r1 r2 =>
   obtain⟨t,e⟩:=r1
   subst e
   exact .cons n t (ih r2)
section
variable {X:Cx}{e:Expr}{te:TE}{lo hi:Option Expr}{tl th:TO}{pos p2:Pos}
theorem zbA:PO X none zhM:=by
 intro pins s σ H Q I h
 rw[evalPart_none]
 exact wpAny_pure ⟨none,H,I,.none,h⟩
theorem Y5 (h:PE X e te):PO X (some e) (zkY te):=by
 intro pins s σ H Q I hw
 rw[evalPart_some]
 refine xT (h pins s σ H _ I hw) fun u s1 ⟨x,H1,I1,r1,q1⟩=>?_
 obtain⟨i,rfl,q⟩:=q1
 obtain⟨t,rfl⟩:=r1
 exact⟨some i,H1,I1,.int i t,q⟩
def SlR (X:Cx)(r:V->Option Int->Option Int->Hp->VK->Prop):Prop :=
 ∀(pins:List (Addr×Obj)) (s:Shared) (σ:St) (H:Hp) (x:V) (v vl vu:Value) (lo hi:Option Int) (sl:Addr) (Q:VK),Inv X pins σ H s->RelV x v->s.heap.IsSliceOf sl vl vu .none->IsPart vl lo->IsPart vu hi->r x lo hi H Q ->
  ∃T id,typeLookup (.type T) "__getitem__"=pure (some (.builtin id))/\s.TypeIs v T/\wpAny (model X.prog X.w) X.A (getItem v (.ref sl)) (EP X pins σ Q) X.xe s
def tSl (r:V->Option Int->Option Int->Hp->VK->Prop)(te:TE)(tl th:TO):TE:=fun σ H Q=>te σ H fun x H1=>tl σ H1 fun l H2=>th σ H2 fun u H3=>r x l u H3 Q
theorem Vd {r:V->Option Int->Option Int->Hp->VK->Prop}(hr:SlR X r)(he:PE X e te)(hl:PO X lo tl)(hu:PO X hi th):PE X (.Subscript e (.Slice lo hi none p2) pos) (tSl r te tl th):=by
 intro pins s σ H Q I h
 refine Subscript_ (xT (he pins s σ H _ I h) fun v s1 ⟨x,H1,I1,r1,q1⟩=>?_)
 refine wpAny_Slice (xT (hl pins s1 σ H1 _ I1 q1) fun vl s2 ⟨l,H2,I2,pl,q2⟩=>xT (hu pins s2 σ H2 _ I2 q2) fun vu s3 ⟨u,H3,I3,pu,q3⟩=>?_)
 rw[evalPart_none]
 refine wpAny_pure ?_
 have I4:Inv X pins σ H3 { s3 with heap:=s3.heap.push { cls:=.type "slice", data:=.fields #[vl,vu,.none] } }:=I3.kept (t':=s3.toks) fun b ob q=>zqO _ q
 obtain⟨T,id,hT,ht,hg⟩:=hr pins { s3 with heap:=s3.heap.push { cls:=.type "slice", data:=.fields #[vl,vu,.none] } } σ H3 x v vl vu l u s3.heap.objs.size Q I4 r1 (Heap.IsSliceOf.new ..) pl pu q3
 show wpAny (model X.prog X.w) X.A (subscriptTail e (.Slice lo hi none p2) v (.ref s3.heap.objs.size)) (EP X pins σ Q) X.xe { s3 with heap:=s3.heap.push { cls:=.type "slice", data:=.fields #[vl,vu,.none] } }
 exact tail_any (ops:=[.ref s3.heap.objs.size,v]) ht hT hg (by with_unfolding_all rfl)
def WQ (xs:List V)(lo hi:Option Int):List V:=(xs.drop (HT.Zd xs.length 0 lo)).take (HT.Zd xs.length xs.length hi-HT.Zd xs.length 0 lo)
theorem Ld (xs:List V)(lo hi:Option Int):(WQ xs lo hi).length<=xs.length:=by
 unfold WQ
 rw[zq5,List.length_drop]
 omega
def zmX (K:Frag):V->Option Int->Option Int->Hp->VK->Prop:=fun x lo hi H Q=>∃a xs,x=.ref a/\xM K H a xs /\
 ¬(HT.Zd xs.length 0 lo=0/\HT.Zd xs.length xs.length hi=xs.length)/\∀p,H p=none->Q (.ref p) (upd H p (.tup (WQ xs lo hi)))
theorem zdO:SlR X (zmX X.K):=by
 intro pins s σ H x v vl vu lo hi sl Q I rx hs pl pu h
 obtain⟨a,xs,rfl,hx,hw,q⟩:=h
 cases rx
 obtain⟨its,r,ht,hz⟩:=I.tuple hx
 have hlen:its.toArray.size=xs.length:=by rw[zqS];exact r.length.symm
 refine⟨"tuple", _,PyProof.Rows.slot_tuple_getitem.lookup,ht.typeIs,?_⟩
 refine HT.QD ht hs pl pu (by rw[hlen];exact hw) ?_ (by rw[hlen];exact hz)
 rw[hlen]
 refine⟨.ref s.heap.objs.size,_,I.laid (t':=s.toks) (o:=.tup (WQ xs lo hi)) (fun b ob q=>zqO _ q) (zqY _) ?_,rfl,q _ (I.hok.fresh (zqY _))⟩
 exact⟨zq3 (Ld xs lo hi) hz,_,(r.drop (HT.Zd xs.length 0 lo)).take (HT.Zd xs.length xs.length hi-HT.Zd xs.length 0 lo),IsTup.new _ _⟩
end
def ixN (n:Nat)(i:Int):Option Nat:=if 0<=i then (if i<n then some i.toNat else none) else if -(n:Int)<=i then some (i+n).toNat else none
def Je {α:Type}(xs:List α)(i:Int):Option α:=(ixN xs.length i).bind fun j=>xs[j]?
theorem Ko {n:Nat}{i:Int}{j:Nat}(h:ixN n i=some j):seqIndex? i n=some j/\j<n/\-(n:Int)<=i/\i<n:=by
 unfold ixN at h
 by_cases h0:0<=i
 ·rw[if_pos h0] at h
  by_cases h1:i<n
  ·rw[if_pos h1] at h
   have e:i.toNat=j:=zrc h
   exact⟨by rw[seqIndex_of h0 h1,e],by omega,by omega,h1⟩
  ·rw[if_neg h1] at h;cases h
 ·rw[if_neg h0] at h
  by_cases h1:-(n:Int)<=i
  ·rw[if_pos h1] at h
   have e:(i+n).toNat=j:=zrc h
   exact⟨by rw[seqIndex_neg (by omega) h1,e],by omega,h1,by omega⟩
  ·rw[if_neg h1] at h;cases h
theorem zbB {α:Type}{xs:List α}{i:Int}{v:α}(h:Je xs i=some v):∃j,seqIndex? i xs.length=some j/\xs[j]?=some v/\j<xs.length/\-(xs.length:Int)<=i/\i<xs.length:=by
 unfold Je at h
 cases e:ixN xs.length i with
 | none=>rw[e] at h;cases h
 | some j =>
  rw[e] at h
  obtain⟨h1,h2,h3,h4⟩:=Ko e
  exact⟨j,h1,h,h2,h3,h4⟩
theorem xG {α:Type}{xs:List α}{j:Nat}{v:α}(h:xs[j]?=some v):Je xs (j:Int)=some v:=by
 have hj:j<xs.length:=(zqL.mp h).1
 have e:ixN xs.length (j:Int)=some j:=by
  unfold ixN
  rw[if_pos (by omega),if_pos (by omega)];simp
 unfold Je;rw[e];exact h
def zhN (b:Expr):Prop:=∀o i,subscripted b false o i=operate [o,i] (getItem o i)
def IxR (X:Cx)(r:R2):Prop :=
 ∀(value slice:Expr) (pins:List (Addr×Obj)) (s:Shared) (σ:St) (H:Hp) (x y:V) (v u:Value) (Q:VK),Inv X pins σ H s->RelV x v->RelV y u->r x y H Q ->
  subscripted slice false v u=operate [v,u] (getItem v u)->wpAny (model X.prog X.w) X.A (subscriptTail value slice v u) (EP X pins σ Q) X.xe s
def MtR (X:Cx)(id:String)(r:V->List V->Hp->VK->Prop):Prop :=
 ∀(pins:List (Addr×Obj)) (s:Shared) (σ:St) (H:Hp) (x:V) (xs:List V) (v:Value) (us:List Value) (Q:VK),Inv X pins σ H s->RelV x v->Vals xs us->r x xs H Q ->
  wpAny (model X.prog X.w) X.A (call (.builtin id) (v::us)) (EP X pins σ Q) X.xe s
section
variable {X:Cx}{a b:Expr}{ta tb:TE}{pos:Pos}
theorem zV {r:R2}(hr:IxR X r)(ha:PE X a ta)(hb:PE X b tb)(hs:zhN b):PE X (.Subscript a b pos) (tOp r ta tb):=by
 intro pins s σ H Q I h
 exact Subscript_ (zjv ha hb I h fun v u s2 x y H2 I2 rx ry q=>hr a b pins s2 σ H2 x y v u Q I2 rx ry q (hs _ _))
def zkZ (K:Frag):R2:=fun x y H Q=>∃p xs i v,x=.ref p/\y=.int i/\zT K H p xs/\Je xs i=some v/\Q v H
def zk0 (K:Frag):R2:=fun x y H Q=>∃p xs i v,x=.ref p/\y=.int i/\xM K H p xs/\Je xs i=some v/\Q v H
def zmY:R2:=fun x y H Q=>∃z i c,x=.str z/\y=.int i/\z.length<=sizeLine/\Je z.cps.toList i=some c/\Q (.str ⟨#[c]⟩) H
theorem zW:IxR X (zkZ X.K):=by
 intro value slice pins s σ H x y v u Q I rx ry h hs
 obtain⟨p,xs,i,z,rfl,rfl,hq,he,q⟩:=h
 cases rx
 obtain⟨t,rfl⟩:=ry
 obtain⟨its,r,pl,hz⟩:=I.list hq
 obtain⟨j,h1,h2,h3,h4,h5⟩:=zbB he
 obtain⟨w,ew,rw'⟩:=r.get h2
 have hl:=r.length
 have hn:=U3
 have fin:EP X pins σ Q w s:=⟨z,H,I,rw',q⟩
 by_cases h0:0<=i
 ·have hj:i.toNat=j:=by
   rw[seqIndex_of h0 h5] at h1
   exact zrc h1
  exact item_listR pl.isList h0 (by omega) (by rw[hj];simpa using ew) fin hs
 ·have hj:(i+(its.toArray.size:Int)).toNat=j:=by
   rw[seqIndex_neg (by omega) h4] at h1
   rw[zqS,<-hl]
   exact zrc h1
  exact subscriptTail_builtinR (x:=w) pl.isList.typeIs slot_list_getitem.lookup
   (wpAny_getItem_list_neg (Q:=fun r s'=>r=w/\EP X pins σ Q r s') pl.isList (by omega) (by rw[zqS]<;>omega) (by omega) (by rw[hj];simpa using ew) ⟨rfl,fin⟩) hs
theorem wD:IxR X (zk0 X.K):=by
 intro value slice pins s σ H x y v u Q I rx ry h hs
 obtain⟨p,xs,i,z,rfl,rfl,hq,he,q⟩:=h
 cases rx
 obtain⟨t,rfl⟩:=ry
 obtain⟨its,r,pl,hz⟩:=I.tuple hq
 obtain⟨j,h1,h2,h3,h4,h5⟩:=zbB he
 obtain⟨w,ew,rw'⟩:=r.get h2
 have hl:=r.length
 have hn:=U3
 have fin:EP X pins σ Q w s:=⟨z,H,I,rw',q⟩
 exact subscriptTail_builtinR (x:=w) pl.typeIs slot_tuple_getitem.lookup
  (getItem_tuple (j:=j) (Q:=fun r s'=>r=w/\EP X pins σ Q r s') pl (by omega) (by omega) (by rw[zqS,<-hl];exact h1) (by simpa using ew) ⟨rfl,fin⟩) hs
theorem zjG:IxR X zmY:=by
 intro value slice pins s σ H x y v u Q I rx ry h hs
 obtain⟨z,i,c,rfl,rfl,hz,he,q⟩:=h
 obtain⟨t,rfl⟩:=rx
 obtain⟨t',rfl⟩:=ry
 obtain⟨j,h1,h2,h3,h4,h5⟩:=zbB he
 have hl:z.cps.toList.length=z.length:=by simp[Str.length]
 rw[hl] at h1 h4 h5
 have hn:=U3
 exact tail_any (typeIs_str s z t) slot_str_getitem.lookup (getItem_str (c:=c) (by
  have e1:decide (i < -(2^63:Int))=false:=decide_eq_false (by omega)
  have e2:decide (i >= 2^63)=false:=decide_eq_false (by omega)
  rw[e1,e2,Bool.or_false]) (by rw[h1];simpa using h2) ⟨.str ⟨#[c]⟩,H,I.tok _,⟨_,rfl⟩,q⟩) hs
theorem zdP (its:List Value)(n j:Nat)(u:Value):Obj.mapSeq (·.setIfInBounds j u) { cls:=.type "list", data:=.seq its.toArray n }={ cls:=.type "list", data:=.seq (its.set j u).toArray n }:=by
 simp[Obj.mapSeq]
theorem Inv.lst {pins:List (Addr×Obj)}{σ:St}{H:Hp}{s:Shared}{p:Addr}{xs:List V}(I:Inv X pins σ H s)(h:H p=some (.lst xs)) :
  ∃(its:List Value) (n:Nat),Vals xs its/\s.heap.get? p=some { cls:=.type "list", data:=.seq its.toArray n }/\xs.length<=sizeLine:=by
 obtain⟨z,its,n,r,e⟩:=I.hok p _ h
 exact⟨its,n,r,e,z⟩
theorem Inv.zjH {pins:List (Addr×Obj)}{σ:St}{H:Hp}{s:Shared}{p:Addr}{xs ys:List V}{its its':List Value}{n n':Nat}{f:Obj->Obj}(I:Inv X pins σ H s)(h:H p=some (.lst xs))
  (ho:s.heap.get? p=some { cls:=.type "list", data:=.seq its.toArray n })(hf:f { cls:=.type "list", data:=.seq its.toArray n }={ cls:=.type "list", data:=.seq its'.toArray n' })(r:Vals ys its')(hz:ys.length<=sizeLine)(t:Nat) :
  Inv X pins σ (upd H p (.lst ys)) { s with heap:=s.heap.update p f,toks:=t }:=by
 have e:(s.heap.update p f).get? p=some { cls:=.type "list", data:=.seq its'.toArray n' }:=by
  rw[Heap.get?_update_self f ho (by rw[hf]<;>rfl),hf]
 refine I.write (x:=p) (e:=p) (by rw[h];trivial) (.inl rfl) (fun b u hb q=>(Heap.get?_update_other _ _ (Ne.symm hb)).trans q) ⟨_,e⟩ ?_
 exact⟨hz,its',n',r,e⟩
def zk1:V->V->V->Hp->(Hp->Prop)->Prop:=fun o i v H Q=>∃p xs k j,o=.ref p/\i=.int k/\H p=some (.lst xs)/\ixN xs.length k=some j/\Q (upd H p (.lst (xs.set j v)))
theorem set_list:zkL X zk1:=by
 intro pins s σ H o i v ov iv u Q I ro ri rv h
 obtain⟨p,xs,k,j,rfl,rfl,hp,hj,q⟩:=h
 cases ro
 obtain⟨t,rfl⟩:=ri
 obtain⟨its,n,r,ho,hz⟩:=I.lst hp
 obtain⟨h1,h2,h3,h4⟩:=Ko hj
 have hl:=r.length
 have hn:=U3
 have I':Inv X pins σ (upd H p (.lst (xs.set j v))) { s with heap:=s.heap.update p (Obj.mapSeq (·.setIfInBounds j u)) } :=
  I.zjH hp ho (zdP its n j u) (r.set rv j) (by rw[List.length_set];exact hz) s.toks
 by_cases h0:0<=k
 ·have hk:k.toNat=j:=by
   rw[seqIndex_of h0 h4] at h1
   exact zrc h1
  exact PySem.W.ki_setAt ho h0 (by omega) (by rw[zqS,<-hl];exact h4) (by rw[hk];exact⟨_,I',q⟩)
 ·have hk:(k+(its.toArray.size:Int)).toNat=j:=by
   rw[seqIndex_neg (by omega) h3] at h1
   rw[zqS,<-hl]
   exact zrc h1
  exact PySem.W.ki_setBack ho (by omega) (by rw[zqS,<-hl];exact h3) (by omega) (by rw[hk];exact⟨_,I',q⟩)
theorem zbC (lo hi:Option Int)(n:Nat):(sliceBounds lo hi none n).1=((HT.Zd n 0 lo:Nat):Int)/\(sliceBounds lo hi none n).2.1=((HT.Zd n n hi:Nat):Int)/\(sliceBounds lo hi none n).2.2=1:=by
 refine⟨?_,?_,rfl⟩
 ·cases lo with
  | none=>simp[sliceBounds,HT.Zd]
  | some i =>
   simp only[sliceBounds,HT.Zd,Option.getD_none,show(1:Int) > 0 by decide,if_true]
   by_cases h:i<0
   ·simp only[h,if_true]<;>omega
   ·simp only[h,if_false]<;>omega
 ·cases hi with
  | none=>simp[sliceBounds,HT.Zd]
  | some i =>
   simp only[sliceBounds,HT.Zd,Option.getD_none,show(1:Int) > 0 by decide,if_true]
   by_cases h:i<0
   ·simp only[h,if_true]<;>omega
   ·simp only[h,if_false]<;>omega
theorem zan (its:List Value)(lo hi:Option Int):slicePick its.toArray lo hi none=((its.drop (HT.Zd its.length 0 lo)).take (HT.Zd its.length its.length hi-HT.Zd its.length 0 lo)).toArray:=by
 obtain⟨h1,h2,h3⟩:=zbC lo hi its.toArray.size
 unfold slicePick
 rw[h1,h2,h3]
 simp only[sliceRange_one,pick_run,zqS]<;>rfl
def zmZ (K:Frag):V->Option Int->Option Int->Hp->VK->Prop:=fun x lo hi H Q=>∃a xs,x=.ref a/\zT K H a xs/\∀p,H p=none->Q (.ref p) (upd H p (.lst (WQ xs lo hi)))
theorem zbD:SlR X (zmZ X.K):=by
 intro pins s σ H x v vl vu lo hi sl Q I rx hs pl pu h
 obtain⟨a,xs,rfl,hx,q⟩:=h
 cases rx
 obtain⟨its,r,ht,hz⟩:=I.list hx
 have hlen:=r.length
 refine⟨"list", _,slot_list_getitem.lookup,ht.isList.typeIs,?_⟩
 refine wpAny_getItem_list_slice ht.isList hs pl pu .none (by simp) ?_ (by rw[zqS]<;>omega)
 rw[zan,<-hlen]
 refine⟨.ref s.heap.objs.size,_,I.laid (t':=s.toks) (o:=.lst (WQ xs lo hi)) (fun b ob q=>zqO _ q) (zqY _) ?_,rfl,q _ (I.hok.fresh (zqY _))⟩
 exact⟨zq3 (Ld xs lo hi) hz,_,0,(r.drop (HT.Zd xs.length 0 lo)).take (HT.Zd xs.length xs.length hi-HT.Zd xs.length 0 lo),zq2 _ rfl⟩
def xQ:V->Bool
 | .non=>true
 | .bl _=>true
 | .int _=>true
 | .str _=>true
 | _=>false
def eqV:V->V->Bool
 | .non,.non=>true
 | .bl a,.bl b=>a==b
 | .bl a,.int b=>(if a then 1 else 0)==b
 | .int a,.bl b=>a==(if b then 1 else 0)
 | .int a,.int b=>a==b
 | .str a,.str b=>a==b
 | _,_=>false
theorem zgl {A:Around}{s:Shared}{y x:V}{u v:Value}(ry:RelV y u)(rx:RelV x v)(fy:xQ y=true)(fx:xQ x=true):SeqAt.EqAt A s u v (eqV y x):=by
 cases y with
 | non =>
  cases ry
  cases x with
  | non=>cases rx;exact SeqAt.EqAt.same _
  | bl b=>cases rx;exact SeqAt.EqAt.none_bool b
  | int b=>obtain⟨t,rfl⟩:=rx;exact SeqAt.EqAt.none_int b t
  | str b=>obtain⟨t,rfl⟩:=rx;exact SeqAt.EqAt.none_str b t
  | _=>exact absurd (show false=true from fx) zqM
 | bl a =>
  cases ry
  cases x with
  | non=>cases rx;exact SeqAt.EqAt.bool_none a
  | bl b=>cases rx;exact SeqAt.EqAt.bool_bool a b
  | int b=>obtain⟨t,rfl⟩:=rx;exact SeqAt.EqAt.bool_int a b t
  | str b=>obtain⟨t,rfl⟩:=rx;exact SeqAt.EqAt.bool_str a b t
  | _=>exact absurd (show false=true from fx) zqM
 | int a =>
  obtain⟨t',rfl⟩:=ry
  cases x with
  | non=>cases rx;exact SeqAt.EqAt.int_none a t'
  | bl b=>cases rx;exact SeqAt.EqAt.int_bool a t' b
  | int b=>obtain⟨t,rfl⟩:=rx;exact SeqAt.EqAt.int_int a t' b t
  | str b=>obtain⟨t,rfl⟩:=rx;exact SeqAt.EqAt.int_str a t' b t
  | _=>exact absurd (show false=true from fx) zqM
 | str a =>
  obtain⟨t',rfl⟩:=ry
  cases x with
  | non=>cases rx;exact SeqAt.EqAt.str_none a t'
  | bl b=>cases rx;exact SeqAt.EqAt.str_bool a t' b
  | int b=>obtain⟨t,rfl⟩:=rx;exact SeqAt.EqAt.str_int a t' b t
  | str b=>obtain⟨t,rfl⟩:=rx;exact SeqAt.EqAt.str_str a t' b t
  | _=>exact absurd (show false=true from fx) zqM
 | _=>exact absurd (show false=true from fy) zqM
def eqU (x:V)(u:Value):Bool:=match u with
 | .none=>eqV .non x
 | .bool b=>eqV (.bl b) x
 | .int i _=>eqV (.int i) x
 | .str z _=>eqV (.str z) x
 | _=>false
theorem zbF {x y:V}{u:Value}(r:RelV y u)(f:xQ y=true):eqU x u=eqV y x:=by
 cases y with
 | non=>cases r;rfl
 | bl b=>cases r;rfl
 | int i=>obtain⟨t,rfl⟩:=r;rfl
 | str z=>obtain⟨t,rfl⟩:=r;rfl
 | _=>exact absurd (show false=true from f) zqM
theorem QF {x:V}:∀{xs:List V} {us:List Value},Vals xs us->xs.all xQ=true->us.any (eqU x)=xs.any fun y=>eqV y x
 | _,_,.nil,_=>rfl
 | y::xs,u::us,.cons r t,f=>by
  rw[List.all_cons,zq9] at f
  rw[List.any_cons,List.any_cons,zbF r f.1,QF t f.2]
theorem Ve {A:Around}{s:Shared}{x:V}{v:Value}(rx:RelV x v)(fx:xQ x=true):∀{xs:List V} {us:List Value},Vals xs us->xs.all xQ=true->∀u∈us,SeqAt.EqAt A s u v (eqU x u)
 | _,_,.nil,_=>fun u hu=>by cases hu
 | y::xs,u::us,.cons r t,f=>fun u' hu=>by
  rw[List.all_cons,zq9] at f
  rcases List.mem_cons.mp hu with rfl | hu
  ·rw[zbF r f.1];exact zgl r rx f.1 fx
  ·exact Ve rx fx t f.2 u' hu
def inV (x:V)(xs:List V):Bool:=xs.any fun y=>eqV y x
def rIn (K:Frag)(neg:Bool):R2:=fun x y H Q=>∃p xs,y=.ref p/\(zT K H p xs\/xM K H p xs)/\xQ x=true/\xs.all xQ=true/\Q (.bl (if neg then !inV x xs else inV x xs)) H
theorem zaX:VD X (compareOp .In) (rIn X.K false):=by
 intro pins s σ H x y v u Q I rx ry h
 obtain⟨p,xs,rfl,hq,fx,fs,q⟩:=h
 cases ry
 rcases hq with hq | hq
 ·obtain⟨its,r,pl,hz⟩:=I.list hq
  refine SeqAt.in_listAt (eqU x) pl.isList (fun w hw=>Ve rx fx r fs w (by simpa using hw)) ⟨.bl _,H,I,rfl,?_⟩
  rw[show its.toArray.any (eqU x)=its.any (eqU x) by simp,QF r fs]
  exact q
 ·obtain⟨its,r,pl,hz⟩:=I.tuple hq
  refine SeqAt.in_tupleAt (eqU x) pl (fun w hw=>Ve rx fx r fs w (by simpa using hw)) ⟨.bl _,H,I,rfl,?_⟩
  rw[show its.toArray.any (eqU x)=its.any (eqU x) by simp,QF r fs]
  exact q
theorem QG:VD X (compareOp .NotIn) (rIn X.K true):=by
 intro pins s σ H x y v u Q I rx ry h
 obtain⟨p,xs,rfl,hq,fx,fs,q⟩:=h
 cases ry
 rcases hq with hq | hq
 ·obtain⟨its,r,pl,hz⟩:=I.list hq
  refine SeqAt.notIn_listAt (eqU x) pl.isList (fun w hw=>Ve rx fx r fs w (by simpa using hw)) ⟨.bl _,H,I,rfl,?_⟩
  rw[show its.toArray.any (eqU x)=its.any (eqU x) by simp,QF r fs]
  exact q
 ·obtain⟨its,r,pl,hz⟩:=I.tuple hq
  refine SeqAt.notIn_tupleAt (eqU x) pl (fun w hw=>Ve rx fx r fs w (by simpa using hw)) ⟨.bl _,H,I,rfl,?_⟩
  rw[show its.toArray.any (eqU x)=its.any (eqU x) by simp,QF r fs]
  exact q
theorem zJ:ZR X (.builtin "len") (fun xs H Q=>∃p ys,xs=[.ref p]/\(zT X.K H p ys\/xM X.K H p ys)/\Q (.int ys.length) H):=by
 intro pins s σ H xs us Q I r h
 obtain⟨p,ys,rfl,hq,q⟩:=h
 obtain⟨u,rfl,rx⟩:=vals1 r
 cases rx
 have hn:=U3
 rcases hq with hq | hq
 ·obtain⟨its,r',pl,hz⟩:=I.list hq
  have hlen:=r'.length
  exact Calls.call_len_list pl.isList (by simp only[zqS]<;>omega) ⟨.int ys.length,H,I.tok _,⟨s.toks+1,by rw[zqS,hlen]⟩,q⟩
 ·obtain⟨its,r',pl,hz⟩:=I.tuple hq
  have hlen:=r'.length
  exact len_tuple pl (by simp only[zqS]<;>omega) ⟨.int ys.length,H,I.tok _,⟨s.toks+1,by rw[zqS,hlen]⟩,q⟩
theorem Ze:ZR X (.type "list") (fun xs H Q=>∃p ys,xs=[.ref p]/\(zT X.K H p ys\/xM X.K H p ys)/\∀l,H l=none->Q (.ref l) (upd H l (.lst ys))):=by
 intro pins s σ H xs us Q I r h
 obtain⟨p,ys,rfl,hq,q⟩:=h
 obtain⟨u,rfl,rx⟩:=vals1 r
 cases rx
 have fin:∀(its:List Value),Vals ys its->ys.length<=sizeLine->∀(h':Heap) (c':Nat),(∀b o',s.heap.get? b=some o'->h'.get? b=some o') ->
   h'.get? s.heap.objs.size=some { cls:=.type "list", dict:=none,data:=.seq its.toArray c',slots:=#[] }->EP X pins σ Q (.ref s.heap.objs.size) { s with heap:=h' }:=fun its r' hz h' c' kp e =>
  ⟨.ref s.heap.objs.size,_,I.laid (t':=s.toks) kp (zqY _) (show xO X.prog X.w _ h' _ (.lst ys) from ⟨hz,its,c',r',e⟩),rfl,q _ (I.hok.fresh (zqY _))⟩
 rcases hq with hq | hq
 ·obtain⟨its,r',pl,hz⟩:=I.list hq
  have hlen:=r'.length
  obtain⟨o,ho,hc,n,hd⟩:=pl.isList
  exact call_list_seq p (.inl rfl) ho hc hd (fun h' c' kp e=>fin its r' hz h' c' kp e) (by simp only[zqS]<;>omega)
 ·obtain⟨its,r',pl,hz⟩:=I.tuple hq
  have hlen:=r'.length
  obtain⟨o,ho,hc,n,hd⟩:=pl
  exact call_list_seq p (.inr rfl) ho hc hd (fun h' c' kp e=>fin its r' hz h' c' kp e) (by simp only[zqS]<;>omega)
def tyV (K:Frag)(T:String)(x:V)(H:Hp):Prop:=match x with
 | .str _=>T="str"
 | .int _=>T="int"
 | .ref p=>(T="list" /\ ∃xs,zT K H p xs)\/(T="tuple" /\ ∃o,K.lookup p=some o/\o.cls=.type "tuple" /\ o.dict=none) \/
   (T="dict" /\ ((∃kvs,H p=some (.dK kvs))\/∃kvs,H p=some (.dT kvs)))\/(T="set" /\ ∃S n,H p=some (.set S n))
 | _=>False
theorem zdQ {pins:List (Addr×Obj)}{σ:St}{H:Hp}{s:Shared}{T:String}{x:V}{v:Value}(I:Inv X pins σ H s)(r:RelV x v)(ty:tyV X.K T x H) :
  s.TypeIs v T/\∀a,v=.ref a->∃ob,s.heap.get? a=some ob/\ob.dict=none:=by
 cases x with
 | str z =>
  obtain⟨t,rfl⟩:=r
  cases (show T="str" from ty)
  exact⟨typeIs_str s z t,fun _ e=>nomatch e⟩
 | int i =>
  obtain⟨t,rfl⟩:=r
  cases (show T="int" from ty)
  exact⟨typeIs_int s i t,fun _ e=>nomatch e⟩
 | ref p =>
  cases r
  rcases ty with ⟨rfl,xs,hq⟩ | ⟨rfl,o,hk,hc,hd⟩ | ⟨rfl,hk⟩ | ⟨rfl,S,n,hk⟩
  ·obtain⟨its,_,pl,_⟩:=I.list hq
   refine⟨pl.isList.typeIs,fun a e=>?_⟩
   cases e
   obtain⟨o,n,e,c,hd,_⟩:=pl
   exact⟨o,e,hd⟩
  ·refine⟨⟨o,I.Nv p o hk,hc⟩,fun a e=>?_⟩
   cases e
   exact⟨o,I.Nv _ o hk,hd⟩
  ·have z:∃o,s.heap.get? p=some o/\o.ExactDict:=by
    rcases hk with ⟨kvs,hk⟩ | ⟨kvs,hk⟩
    ·obtain⟨_,_,_,_,o,_,_,e,ex,_⟩:=I.hok p _ hk
     exact⟨o,e,ex⟩
    ·obtain⟨_,_,_,_,o,_,_,e,ex,_⟩:=I.hok p _ hk
     exact⟨o,e,ex⟩
   obtain⟨o,e,ex⟩:=z
   refine⟨⟨o,e,ex.1⟩,fun a e2=>?_⟩
   cases e2
   exact⟨o,e,ex.2.1⟩
  ·obtain⟨o,_,_,_,e,ex,_⟩:=I.hok p _ hk
   refine⟨⟨o,e,ex.1⟩,fun a e2=>?_⟩
   cases e2
   exact⟨o,e,ex.2.1⟩
 | _=>exact False.elim ty
def zm1 (K:Frag)(T:String)(r:V->List V->Hp->VK->Prop)(to:TE):TE:=fun σ H Q=>to σ H fun x H1=>tyV K T x H1/\r x [] H1 Q
def tBM (K:Frag)(T:String)(r:V->List V->Hp->VK->Prop)(to:TE)(t:TA):TE:=fun σ H Q=>to σ H fun x H1=>tyV K T x H1/\t σ H1 fun xs H2=>r x xs H2 Q
variable {o e:Expr}{es:List Expr}{to:TE}{t:TA}{name:Str}{apos cpos:Pos}{T id:String}{r:V->List V->Hp->VK->Prop}
theorem zjI (pa:PlainAttrs T)(slot:Slot T name id)(hty:typeOf (.builtin id)=pure (.type "method_descriptor"))(hm:MtR X id r)(ho:PE X o to)
  (hbase:attributeBase o name X.env (eval o X.env)=eval o X.env:=by rfl)(hline:(apos.endLine==cpos.line)=true:=by rfl):PE X (.Call (.Attribute o name apos) [] [] cpos) (zm1 X.K T r to):=by
 intro pins s σ H Q I h
 refine wpAny_Call_method0_late hbase hline (xT (ho pins s σ H _ I h) fun v s1 ⟨x,H1,I1,r1,ty,q1⟩=>?_)
 obtain⟨h1,h2⟩:=zdQ I1 r1 ty
 exact⟨T,id,pa,slot,hty,h1,h2,Calls.callWith_builtin rfl (PySem.evalArgs_none (hm pins s1 σ H1 x [] v [] Q I1 r1 .nil q1))⟩
theorem wF (pa:PlainAttrs T)(slot:Slot T name id)(hty:typeOf (.builtin id)=pure (.type "method_descriptor"))(hm:MtR X id r)(ho:PE X o to)(ha:PA X (e::es) t)
  (hbase:attributeBase o name X.env (eval o X.env)=eval o X.env:=by rfl)
  (hfew:((backTo cpos (starEach (e::es) X.env)).all (fun x=>!x.1)&&(backToKw cpos (keywordEach [] X.env)).all (fun x=>x.1.isSome)
   && decide ((e::es).length+([]:List Keyword).length+(if ([]:List Keyword).isEmpty then 0 else 1)<30))=true:=by rfl)
  (hline:(apos.endLine==cpos.line)=true:=by rfl)(hs:starEach (e::es) X.env=(false,eval e X.env)::starEach es X.env:=by rfl)(hplain:(backTo cpos (starEach es X.env)).any (·.1)=false:=by rfl) :
  PE X (.Call (.Attribute o name apos) (e::es) [] cpos) (tBM X.K T r to t):=by
 intro pins s σ H Q I h
 refine wpAny_Call_method_late hbase hfew hline rfl (xT (ho pins s σ H _ I h) fun v s1 ⟨x,H1,I1,r1,ty,q1⟩=>?_)
 obtain⟨h1,h2⟩:=zdQ I1 r1 ty
 refine⟨T,id,pa,slot,hty,h1,h2,?_⟩
 have hA:=ha cpos pins s1 σ H1 _ I1 q1
 rw[hs] at hA ⊢
 refine Calls.callWith_builtin (by show(false||(backTo cpos (starEach es X.env)).any (·.1))=false;rw[hplain]<;>rfl) (Calls.evalArgs_plain ?_)
 exact xT hA fun us s2 ⟨vs,H2,I2,r2,q2⟩=>hm pins s2 σ H2 x vs v us Q I2 r1 r2 q2
end
def MtM (X:Cx)(id:String)(r:V->List V->Hp->VK->Prop):Prop :=
 ∀(pins:List (Addr×Obj)) (s:Shared) (σ:St) (H:Hp) (x:V) (xs:List V) (v:Value) (us:List Value) (Q:VK),Inv X pins σ H s->RelV x v->Vals xs us->r x xs H Q ->
  wpAny (model X.prog X.w) X.A (call (.builtin id) (v::us)) (EP X pins σ Q) X.xe s
theorem Vals.one:∀{x:V} {us:List Value},Vals [x] us->∃u,us=[u]/\RelV x u
 | _,_,.cons r .nil=>⟨_,rfl,r⟩
theorem Vals.two:∀{x y:V} {us:List Value},Vals [x,y] us->∃u v,us=[u,v]/\RelV x u/\RelV y v
 | _,_,_,.cons r (.cons q .nil)=>⟨_,_,rfl,r,q⟩
theorem Vals.zero:∀{us:List Value},Vals [] us->us=[]
 | _,.nil=>rfl
theorem Vals.dropLast {xs:List V}{us:List Value}(h:Vals xs us):Vals xs.dropLast us.dropLast:=by
 induction h with
 | nil=>exact .nil
 | cons r t ih =>
  cases t with
  | nil=>exact .nil
  | cons q t'=>exact .cons r ih
theorem Vals.eraseIdx:∀{xs:List V} {us:List Value} (i:Nat),Vals xs us->Vals (xs.eraseIdx i) (us.eraseIdx i)
 | _,_,_,.nil=>.nil
 | _,_,0,.cons _ t=>t
 | _,_,i+1,.cons r t=>.cons r (Vals.eraseIdx i t)
theorem zdR {α:Type}(l:List α):l.eraseIdx (l.length-1)=l.dropLast:=by
 induction l with
 | nil=>rfl
 | cons a r ih =>
  cases r with
  | nil=>rfl
  | cons b r =>
   have e:(a::b::r).length-1=((b::r).length-1)+1:=by
    have h1:(a::b::r).length=r.length+2:=rfl
    have h2:(b::r).length=r.length+1:=rfl
    omega
   rw[e,List.eraseIdx_cons_succ,ih]
   all_goals rfl
theorem zaY {α:Type}:∀(l:List α) (i:Nat),(l.eraseIdx i).length<=l.length
 | [],_=>zqY _
 | _::_,0=>Nat.le_succ _
 | _::r,i+1=>Nat.succ_le_succ (zaY r i)
section
variable {X:Cx}{pins:List (Addr×Obj)}{σ:St}{H:Hp}{s:Shared}{l b:Addr}{xs ys zs:List V}
theorem Inv.zfv {its its':List Value}{n:Nat}{f:Array Value->Array Value}{t':Nat}(I:Inv X pins σ H s)(hH:H l=some (.lst xs))
  (e:s.heap.get? l=some { cls:=.type "list", data:=.seq its.toArray n })(hf:f its.toArray=its'.toArray)(hv:Vals ys its')(hz:ys.length<=sizeLine) :
  Inv X pins σ (upd H l (.lst ys)) { s with heap:=s.heap.update l (Obj.mapSeq f),toks:=t' }:=by
 have q:=PySem.IsL.update e f
 rw[hf] at q
 refine I.write (x:=l) (e:=l) (by rw[hH];exact trivial) (.inl rfl) (fun b' u hb hu=>(Heap.get?_update_other s.heap (Obj.mapSeq f) (Ne.symm hb)).trans hu) ⟨_,q⟩ ?_
 exact⟨hz,its',_,hv,q⟩
theorem Inv.zcD (I:Inv X pins σ H s)(hH:H l=some (.lst xs)):xs.length<=sizeLine/\∃(its:List Value) (n:Nat),Vals xs its/\xs.length=its.length/\s.heap.get? l=some { cls:=.type "list", data:=.seq its.toArray n }:=by
 obtain⟨z,its,n,r,e⟩:=I.hok l _ hH
 exact⟨z,its,n,r,r.length,e⟩
theorem zcE {n:Nat}(h:n<=sizeLine):Builtin.List.listTooLong n=false:=by
 unfold Builtin.List.listTooLong
 exact decide_eq_false (by omega)
end
section
variable {X:Cx}
def zhO:V->List V->Hp->VK->Prop:=fun x vs H Q=>∃l xs y,x=.ref l/\vs=[y]/\H l=some (.lst xs)/\xs.length<sizeLine/\Q .non (upd H l (.lst (xs++[y])))
theorem wG:MtM X "list.append" zhO:=by
 intro pins s σ H x vs v us Q I rx rv h
 obtain⟨l,xs,y,rfl,rfl,hH,hz,q⟩:=h
 cases rx
 obtain⟨u,rfl,ru⟩:=rv.one
 obtain⟨z,its,n,r,hl,e⟩:=I.zcD hH
 refine call_meets F.slot_list_append ⟨_,e,rfl⟩ F.entry_list_append (F.args_list_append_2 _ _) (PySem.list_append l its.toArray n u (by rw[zqS];omega)) ⟨e,?_⟩
 refine⟨.non,_,I.zfv (its':=its++[u]) hH e (by simp) (r.append (.cons ru .nil)) ?_,rfl,q⟩
 rw[zqQ,zrf]
 omega
def zhP:V->List V->Hp->VK->Prop:=fun x vs H Q=>∃l b xs zs,x=.ref l/\vs=[.ref b]/\H l=some (.lst xs)/\H b=some (.lst zs)/\xs.length+zs.length<=sizeLine/\Q .non (upd H l (.lst (xs++zs)))
theorem NP:MtM X "list.extend" zhP:=by
 intro pins s σ H x vs v us Q I rx rv h
 obtain⟨l,b,xs,zs,rfl,rfl,hH,hB,hz,q⟩:=h
 cases rx
 obtain⟨u,rfl,ru⟩:=rv.one
 cases ru
 obtain⟨z,its,n,r,hl,e⟩:=I.zcD hH
 obtain⟨z2,its2,n2,r2,hl2,e2⟩:=I.zcD hB
 have hsz:its.toArray.size+its2.toArray.size<=sizeLine:=by rw[zqS,zqS];omega
 have zgm:¬(!its.toArray.isEmpty&&Builtin.List.listTooLong (its.toArray.size+its2.toArray.size))=true:=by
  rw[zcE hsz,Bool.and_false]
  exact zqM
 refine call_meets F.slot_list_extend ⟨_,e,rfl⟩ F.entry_list_extend (F.args_list_extend_2 _ _)
  (AutoSeq1.list_extend_list_list_0 l its.toArray n b its2.toArray n2 zgm (by rw[zqS];omega) (by omega)) ⟨e,e2,?_⟩
 refine⟨.non,_,I.zfv (its':=its++its2) hH e (by simp) (r.append r2) ?_,rfl,q⟩
 rw[zqQ]
 omega
def zm2:V->List V->Hp->VK->Prop:=fun x vs H Q=>∃l xs y,x=.ref l/\vs=[]/\H l=some (.lst xs)/\xs[xs.length-1]?=some y/\Q y (upd H l (.lst xs.dropLast))
theorem zjK:MtM X "list.pop" zm2:=by
 intro pins s σ H x vs v us Q I rx rv h
 obtain⟨l,xs,y,rfl,rfl,hH,hy,q⟩:=h
 cases rx
 have hus:=rv.zero
 subst hus
 obtain⟨z,its,n,r,hl,e⟩:=I.zcD hH
 obtain⟨u,hu,ru⟩:=r.get hy
 have hy':its.toArray[its.toArray.size-1]?=some u:=by
  show its.toArray[its.length-1]?=some u
  rw[<-Array.getElem?_toList,<-hl]
  exact hu
 refine call_meets F.slot_list_pop ⟨_,e,rfl⟩ F.entry_list_pop (F.args_list_pop_1 _) (MeetsSeq.list_pop_last l its.toArray n u hy' (by rw[zqS];omega)) ⟨e,?_⟩
 refine⟨y,_,I.zfv (its':=its.dropLast) hH e ?_ r.dropLast ?_,ru,q⟩
 ·show its.toArray.eraseIdxIfInBounds (its.toArray.size-1)=its.dropLast.toArray
  rw[zqS,List.eraseIdxIfInBounds_toArray,zdR]
 ·rw[List.length_dropLast]
  omega
def zjL:V->List V->Hp->VK->Prop:=fun x vs H Q=>∃l xs i k y,x=.ref l/\vs=[.int i]/\H l=some (.lst xs)/\-(2^63)<=i/\i<2^63/\seqIndex? i xs.length=some k/\xs[k]?=some y/\Q y (upd H l (.lst (xs.eraseIdx k)))
theorem zcF:MtM X "list.pop" zjL:=by
 intro pins s σ H x vs v us Q I rx rv h
 obtain⟨l,xs,i,k,y,rfl,rfl,hH,h1,h2,hk,hy,q⟩:=h
 cases rx
 obtain⟨u,rfl,ru⟩:=rv.one
 obtain⟨t,rfl⟩:=ru
 obtain⟨z,its,n,r,hl,e⟩:=I.zcD hH
 obtain⟨w,hw,rw'⟩:=r.get hy
 refine call_meets F.slot_list_pop ⟨_,e,rfl⟩ F.entry_list_pop (F.args_list_pop_2 _ _)
  (MeetsSeq.list_pop_at l its.toArray n i t k w (fitsIndex_both h1 h2) (by rw[zqS,<-hl];exact hk) (by rw[<-Array.getElem?_toList];exact hw) (by rw[zqS];omega)) ⟨e,?_⟩
 refine⟨y,_,I.zfv (its':=its.eraseIdx k) hH e ?_ (r.eraseIdx k) ?_,rw',q⟩
 ·show its.toArray.eraseIdxIfInBounds k=(its.eraseIdx k).toArray
  rw[List.eraseIdxIfInBounds_toArray]
 ·have:=zaY xs k
  omega
end
end L2
namespace Att
open PySem PySem.W PySem.Calls PyProof.Rows
theorem Lz {P:Params}{h:Heap}:∀(ns:List Int) (vs:List Value),WellAll P h vs (ns.map WData.int)->IntsAre vs ns:=by
 intro ns
 induction ns with
 | nil =>
  intro vs w
  rw[List.map_nil] at w
  cases w
  exact .nil
 | cons n ns ih =>
  intro vs w
  rw[zq6] at w
  cases w with
  | cons a b =>
   cases a
   exact .cons _ _ (ih _ b)
theorem zfw {l:OpenLaw}{n:Nat}(hn:l.most=some n){P:Params}{h:Heap}{args:List WData}{vals:List Value}
  (hpre:l.row.toRowW.claim.pre args=true)(hwl:WellAll P h vals args) :
  ∃a vs ns,vals=[Value.ref a]/\args=[WData.list (ns.map WData.int)]/\h.get? a=some { cls:=.type "list", data:=.seq vs.toArray }/\IntsAre vs ns/\ns.length<=n:=by
 have hsh:WShape.hasAll [] args [.list .int]=true:=(pre_splitW hpre).1
 have hc:l.pre.holds [] { args:=args }=true:=(pre_splitW hpre).2
 obtain⟨d,r,rfl,h1,h2⟩:=hasAllW_cons hsh
 obtain rfl:=hasAllW_nil h2
 obtain⟨xs,rfl,h3⟩:=hasW_list h1
 obtain⟨ns,rfl⟩:=items_int h3
 have hlen:ns.length<=n:=by
  unfold OpenLaw.pre at hc
  have h4:(WTm.not (.lt (.lit (.int (n:Int))) (.len (.arg 0)))).holds [] { args:=[.list (ns.map .int)] }=true:=by
   have h4:=(holds_andW hc).1
   rw[hn] at h4
   exact h4
  have h5:=condW_of h4 (w_not (w_lt w_lit (w_len_list (w_arg rfl))))
  rw[zqI] at h5
  refine Nat.le_of_not_lt fun q=>?_
  have q':(n:Int)<((ns.length:Nat):Int):=by omega
  first
   | (rw[decide_eq_true q'] at h5;exact absurd h5 (by decide))
   | (simp at h5;omega)
 cases hwl with
 | cons w1 w2 =>
  cases w2
  cases w1 with
  | list ho hall=>exact⟨_,_,ns,rfl,rfl,ho,Lz ns _ hall,hlen⟩
theorem zfx (l:OpenLaw)(args:List WData):l.row.toRowW.claim.post args (.bool true) args=true :=
 postW_of (r:=l.row.toRowW) (X:=(true==true))
  (show WShape.has [] (.bool true) .bool=true by first | rfl | decide | simp[WShape.has,WShape.arms,WShape.armsAll])
  (show(WTm.eq .res (.lit (.bool true))).value [] { args:=args,res:=some (.bool true),after:=args }=some (.bool (true==true)) from w_eq_bool (w_res rfl) w_lit) rfl
theorem zcG {l:OpenLaw}{n:Nat}{q:Program}{loose:List Str}{XP:(Str->Option Value)->Heap->Prop}{YP:World->Heap->Prop}{d:DefRec}
  (hn:l.most=some n)(hdf:d.params.defaults=[])
  (call:∀(w:World) (s₀ s₁:Shared) (mg mb:Str->Option Value) (fa:Addr) (o:Obj) (pm cd doc:Value) (a:Addr) (vs:List Value) (ns:List Int),
   Ground q loose [] XP w s₀ mg mb s₁.heap->YP w s₁.heap ->
   s₁.heap.get? fa=some o->o.data=.func (docDef d.name d.params d.body d.scope pm cd doc)->s₁.heap.CodeRec cd d.name->mg d.name=some (.ref fa) ->
   s₁.heap.get? a=some { cls:=.type "list", data:=.seq vs.toArray }->IntsAre vs ns->ns.length<=n->s₁.gens=#[] ->
   codeAny (model l.prog w) callerA (.call (.ref fa) ⟨[.ref a],[]⟩) (fun r s'=>r=.ok (.ret (.bool true))/\OldK s₁.heap s'.heap/\s'.os=s₁.os/\AllBare s'.gens) s₁) :
  WalkO q loose XP YP l.row.toRowW d [] (fun f vs=>PySem.call f vs):=by
 intro w s₀ s₁ mg mb G Y fa o pm cd doc dV kV ho hd hcd hD hmg hg args vals as hpre hlay hrd hwl hlo
 obtain rfl:dV=.none:=Dflts.none hD hdf
 obtain rfl:kV=.none:=Dflts.noKw hD
 obtain⟨a,vs,ns,rfl,rfl,hobj,hints,hlen⟩:=zfw hn hpre hwl
 refine enter_call (codeAny_mono (call w s₀ s₁ mg mb fa o pm cd doc a vs ns G Y ho (fd_plain hd) hcd hmg hobj hints hlen hg) fun r s' hq=>?_)
 obtain⟨rfl,h2,h3,h4⟩:=hq
 exact⟨.inl ⟨.bool true,.bool true,[],rfl,fun _=>rfl,.bool true,zfx l _,fun _=>⟨List.Pairwise.nil,fun _ hm=>(nomatch hm)⟩⟩,h2,h3,h4⟩
end Att
namespace L2
open PySem PySem.Spec PyProof.Rows
theorem Sy:∀{vs:List Value} {ns:List Int},IntsAre vs ns->Vals (ns.map V.int) vs
 | _,_,.nil=>.nil
 | _,_,.cons n t h=>.cons ⟨t,rfl⟩ (Sy h)
def Only (H:Hp):Prop:=∀b,H b=none\/∃o xs,H b=some (.Qw o (.lst xs))
theorem zgn {P:Program}{w:World}{K:Frag}{mg mb:Str->Option Value}{CX:CXT}{k:Nat}{fa a:Addr}{fd:FuncData}{x:Str}{sp:Sp}{s₁:Shared}{vs:List Value}{ns:List Int}
  (KX:K.In s₁.heap)(hns:s₁.heap.Ns mainGlobals mg)(hb:s₁.heap.Ns builtinsNs mb)(hbb:∀x:Str,x ≠ "__name__" -> mb x=bootBuiltins x)(hlim:s₁.heap.NoLimit)(hg:s₁.gens=#[])
  (ha:s₁.heap.get? a=some { cls:=.type "list", data:=.seq vs.toArray })(hi:IntsAre vs ns)(hl:ns.length<=sizeLine)(hr:tL k callerA)
  (F:∀base:Heap,K.In base->base.Ns mainGlobals mg->zF P w K mg base CX k fa fd [x] sp)(hbind:∀(s:Shared) (u:Value),BindsTo s fd ⟨[u],[]⟩ [(x,u)])
  (hsp:∀H:Hp,Only H->zT K H a (ns.map V.int)->sp [.ref a] H (fun v _=>v=.bl true) fun _ _ _=>False)
  (hCX:∀H e s',CX [] H s₁ (fun _ _ _=>False) e s'->False) :
  codeAny (model P w) callerA (.call (.ref fa) ⟨[.ref a],[]⟩) (fun r s'=>r=.ok (.ret (.bool true))/\OldK s₁.heap s'.heap/\s'.os=s₁.os/\AllBare s'.gens) s₁:=by
 have rv:=Sy hi
 have lenV:=hi.length
 have core:∀H:Hp,Only H->zT K H a (ns.map V.int)->Rk P w H s₁.heap->(∀b,H b≠none->b=a)->(H a≠none->K.lookup a=none) ->
   codeAny (model P w) callerA (.call (.ref fa) ⟨[.ref a],[]⟩) (fun r s'=>r=.ok (.ret (.bool true))/\OldK s₁.heap s'.heap/\s'.os=s₁.os/\AllBare s'.gens) s₁:=by
  intro H hO hS hok hA hK
  have zeG:∀{b:Addr} {o:Obj},s₁.heap.get? b=some o->H b=none->(zbr s₁.heap H).get? b=some o:=fun e n=>zf8 e n
  have noA:∀{b:Addr} {o:Obj} {es:Array DictEntry} {ep:Nat},s₁.heap.get? b=some o->o.data=.dict es ep->H b=none:=fun {b o es ep} e d=>by
   cases q:H b with
   | none=>rfl
   | some u =>
    have e':b=a:=hA b (by rw[q];simp)
    subst e'
    rw[ha] at e;cases e
    have d':Data.seq vs.toArray _=Data.dict es ep:=d
    cases d'
  have nsK:∀{b:Addr} {m:Str->Option Value},s₁.heap.Ns b m->(zbr s₁.heap H).Ns b m:=fun {b m} ⟨o,es,ep,e,d,r⟩=>⟨o,es,ep,zeG e (noA e d),d,r⟩
  have hKb:K.In (zbr s₁.heap H):=fun b o e=>zeG (KX b o e) (by
   cases q:H b with
   | none=>rfl
   | some u =>
    have e':b=a:=hA b (by rw[q];simp)
    subst e'
    rw[hK (by rw[q];simp)] at e;cases e)
  have hM:Mod K mg (zbr s₁.heap H):=⟨hKb,nsK hns,⟨mb,nsK hb,hbb⟩,let ⟨mc,h1,h2⟩:=hlim;⟨mc,nsK h1,h2⟩⟩
  have e0:zdK P w K mg (zbr s₁.heap H) callerA [] s₁ H:=⟨rfl,hM,fun b o e=>zhx e,Nat.le_of_eq (zfh _ _),trivial,fun b hb=>absurd (show b∈([]:List Addr) from hb) (by simp),hok,.of_eq hg⟩
  refine codeAny_mono ((F _ hKb (nsK hns)).run callerA [] s₁ H ⟨[.ref a],[]⟩ [.ref a] [.ref a] _ _ hr e0 (hbind s₁ (.ref a)) (.cons rfl .nil) (hsp H hO hS)) fun r s' h=>?_
  cases r with
  | error e=>exact(hCX H e s' h).elim
  | ok fl =>
   cases fl with
   | next=>exact False.elim h
   | brk=>exact False.elim h
   | cont=>exact False.elim h
   | ret u =>
    obtain⟨v,H',os,bare,un,hok',r',q⟩:=h
    have q':v=.bl true:=q
    subst q'
    obtain rfl:u=Value.bool true:=r'
    refine⟨rfl,OldK.of_keep fun b o e=>?_,os,bare⟩
    cases q:H b with
    | none=>exact un.keep b o e q (by intro z;exact absurd (show b∈([]:List Addr) from z) (by simp)) (by simp)
    | some u =>
     rcases hO b with z | ⟨ob,xs,z⟩
     ·rw[q] at z;cases z
     ·have z2:=un.zak b ob _ z
      obtain⟨e1,_⟩:=hok b _ z
      obtain⟨e2,_⟩:=hok' b _ z2
      rw[e] at e1;cases e1
      exact e2
 cases hk:K.lookup a with
 | some o =>
  have e:=KX a o hk
  rw[ha] at e
  cases e
  refine core (fun _=>none) (fun _=>.inl rfl) (.inr ⟨_,vs.toArray,_,hk,rfl,rfl,rfl,by rw[zqS,lenV];exact hl,by simpa using rv⟩) (fun b u z=>by have z':(none:Option HO)=some u:=z;cases z') (fun b z=>absurd rfl z) fun z=>absurd rfl z
 | none =>
  refine core (fun b=>if b=a then some (.Qw { cls:=.type "list", data:=.seq vs.toArray } (.lst (ns.map V.int))) else none) (fun b=>?_) (.inl (.inr ⟨{ cls:=.type "list", data:=.seq vs.toArray },if_pos rfl⟩)) (fun b u z=>?_) (fun b z=>?_) fun _=>hk
  ·by_cases hb:b=a
   ·exact .inr ⟨_,_,if_pos hb⟩
   ·exact .inl (if_neg hb)
  ·by_cases hb:b=a
   ·have z':=(if_pos hb).symm.trans z
    cases z'
    subst hb
    exact⟨ha,by rw[zqI];exact hl,vs,_,rv,ha⟩
   ·have z':=(if_neg hb).symm.trans z
    cases z'
  ·by_cases hb:b=a
   ·exact hb
   ·exact absurd (if_neg hb) z
abbrev KOf {K:Frag}{h:Heap}(_:K.In h):Frag:=K
theorem zhQ {l:PySem.W.OpenLaw}{n k:Nat}{q:Program}{loose:List Str}{XP:(Str->Option Value)->Heap->Prop}{YP:World->Heap->Prop}{d:DefRec}{K:Params->Frag}{CX:World->CXT}{sp:World->Sp}{x:Str}
  (hn:l.most=some n)(hn2:n<=sizeLine)(hdf:d.params.defaults=[])(hr:tL k callerA)
  (hY:∀(w:World) (h:Heap),YP w h->(K w.params).In h)
  (F:∀(w:World) (mg:Str->Option Value) (fa:Addr) (h:Heap),(K w.params).In h->h.Ns mainGlobals mg->mg d.name=some (.ref fa) ->
   ∃fd:FuncData,(∀(s:Shared) (u:Value),BindsTo s fd ⟨[u],[]⟩ [(x,u)]) /\
    ∀base:Heap,(K w.params).In base->base.Ns mainGlobals mg->zF l.prog w (K w.params) mg base (CX w) k fa fd [x] (sp w))
  (hsp:∀(w:World) (H:Hp) (a:Addr) (ns:List Int),ns.length<=n->Only H->zT (K w.params) H a (ns.map V.int)->sp w [.ref a] H (fun v _=>v=.bl true) fun _ _ _=>False)
  (hCX:∀(w:World) (H:Hp) (s:Shared) (e:Value) (s':Shared),CX w [] H s (fun _ _ _=>False) e s'->False) :
  PySem.W.WalkO q loose XP YP l.row.toRowW d [] (fun f vs=>PySem.call f vs):=by
 refine Att.zcG hn hdf fun w s₀ s₁ mg mb fa o pm cd doc a vs ns G Y ho hd hcd hmg hobj hints hlen hg=>?_
 have KX:=hY w _ Y
 obtain⟨fd,hb,hF⟩:=F w mg fa _ KX G.T.g hmg
 exact zgn KX G.T.g G.T.b G.T.builtins G.T.nolimit hg hobj hints (zq3 hlen hn2) hr hF hb (fun H hO hS=>hsp w H a ns hlen hO hS) fun H e s'=>hCX w H s₁ e s'
theorem zgo {l:PySem.W.OpenLaw}{n k:Nat}{q:Program}{loose:List Str}{XP:(Str->Option Value)->Heap->Prop}{YP:World->Heap->Prop}{d:DefRec}{K:Params->Frag}{CX:CXT}{sp:Frag->Sp}{x:Str}
  (hn:l.most=some n)(hn2:n<=sizeLine)(hdf:d.params.defaults=[])(hr:tL k callerA)
  (hY:∀(w:World) (h:Heap),YP w h->(K w.params).In h)
  (F:∀(w:World) (mg:Str->Option Value) (fa:Addr) (h:Heap),(K w.params).In h->h.Ns mainGlobals mg->mg d.name=some (.ref fa) ->
   ∃fd:FuncData,(∀(s:Shared) (u:Value),BindsTo s fd ⟨[u],[]⟩ [(x,u)]) /\
    ∀base:Heap,(K w.params).In base->base.Ns mainGlobals mg->zF l.prog w (K w.params) mg base CX k fa fd [x] (sp (K w.params)))
  (hsp:∀(K:Frag) (H:Hp) (a:Addr) (ns:List Int),ns.length<=n->Only H->zT K H a (ns.map V.int)->sp K [.ref a] H (fun v _=>v=.bl true) fun _ _ _=>False)
  (hCX:∀(H:Hp) (s:Shared) (e:Value) (s':Shared),CX [] H s (fun _ _ _=>False) e s'->False) :
  PySem.W.WalkO q loose XP YP l.row.toRowW d [] (fun f vs=>PySem.call f vs) :=
 zhQ (K:=K) (CX:=fun _=>CX) (sp:=fun w=>sp (K w.params)) hn hn2 hdf hr hY F (fun w H a ns h1 h2 h3=>hsp (K w.params) H a ns h1 h2 h3) fun _ H s e s'=>hCX H s e s'
def inClass (s:Stmt)(j:Nat):Stmt:=match s with
 | .ClassDef _ _ _ body _ _ _ _ _ _ _=>body.getD j (.Pass ⟨0,0,0,0⟩)
 | _=>.Pass ⟨0,0,0,0⟩
def Yd (s:Stmt):Arguments:=match s with
 | .FunctionDef _ a _ _ _ _ _ _ _ _=>a
 | _=>{ posonlyargs:=[],args:=[],vararg:=none,kwonlyargs:=[],kw_defaults:=[],kwarg:=none,defaults:=[] }
def vL (s:Stmt):List Stmt:=match s with
 | .FunctionDef _ _ b _ _ _ _ _ _ _=>b
 | _=>[]
def zA (s:Stmt):Scope:=match s with
 | .FunctionDef _ _ _ _ _ _ sc _ _ _=>sc
 | _=>{ kind:=.function,names:=[],isGenerator:=false,isCoroutine:=false }
abbrev z7:CXT:=fun _ _ _ _ _ _=>False
abbrev E0:XK:=fun _ _ _=>False
theorem zeH {X:Cx}:Passes z7 X E0:=fun _ _ _ _ _ _ _ h=>h.elim
structure Fun (K:Frag)(x qual:Str)(st:Stmt)(f:Addr)(fd:FuncData):Prop where
 ex:∃(oc:Value) (od:Option Addr) (kV doc pm:Value) (an:Option Addr) (cdv ct:Value) (osl:Array (Option Value)),
  fd=PySem.W.fnOf x qual (Yd st) (vL st) (zA st) .none kV doc pm an cdv ct/\K.lookup f=some ⟨oc,od,.func fd,osl⟩/\PySem.W.codeIn K cdv qual=true
 kp:PySem.W.keepIn K (.ref f)=true
section
variable {P:Program}{w:World}{K:Frag}{mg:Str->Option Value}{base:Heap}
theorem Fun.ok {x qual:Str}{st:Stmt}{f:Addr}{fd:FuncData}{N ps:List Str}{k:Nat}{sp:Sp}(F:Fun K x qual st f fd)(S:zO N ps (zA st))(len:∀vs H Q E,sp vs H Q E->vs.length=ps.length)
  (hbody:∀(cdv:Value) (A:Around) (outer:List Env) (s:Shared) (H:Hp) (vs:List V) (Q:VK) (E:XK),tL k (A.deeper (envOfC qual (zA st) s.heap.objs.size f cdv))->sp vs H Q E ->
   ∃t,PSs (zft z7 P w K mg base N qual (zA st) f cdv A outer s H E).nox (vL st) t/\t { nx:=fun _ H'=>Q .non H',rt:=Q } (start N vs) H):zF P w K mg base z7 (k+1) f fd ps sp:=by
 obtain⟨oc,od,kV,doc,pm,an,cdv,ct,osl,rfl,lk,hcd⟩:=F.ex
 refine zkX lk hcd S len fun A outer s H vs Q E hr hsp=>?_
 obtain⟨t,h,q⟩:=hbody cdv A outer s H vs Q E hr hsp
 exact⟨t,h.nox,q⟩
theorem Fun.binds {x qual:Str}{st:Stmt}{f:Addr}{fd:FuncData}{ps:List Str}(F:Fun K x qual st f fd)
  (h:∀(kV doc pm:Value) (an:Option Addr) (cdv ct:Value) (us:List Value),us.length=ps.length->bindArgs (PySem.W.fnOf x qual (Yd st) (vL st) (zA st) .none kV doc pm an cdv ct) ⟨us,[]⟩=pure (ps.zip us)):Binds K fd ps []:=by
 obtain⟨oc,od,kV,doc,pm,an,cdv,ct,osl,rfl,lk,hcd⟩:=F.ex
 exact .all (h kV doc pm an cdv ct)
theorem zbG {x qual:Str}{st:Stmt}{f:Addr}{oc:Value}{od an:Option Addr}{osl:Array (Option Value)}{kV doc pm cdv ct:Value}(l:K.lookup f=some ⟨oc,od,.func (PySem.W.fnOf x qual (Yd st) (vL st) (zA st) .none kV doc pm an cdv ct),osl⟩)
  (c:PySem.W.codeIn K cdv qual=true)(k:PySem.W.keepIn K (.ref f)=true):Fun K x qual st f (PySem.W.fnOf x qual (Yd st) (vL st) (zA st) .none kV doc pm an cdv ct):=⟨⟨oc,od,kV,doc,pm,an,cdv,ct,osl,rfl,l,c⟩,k⟩
end
theorem Wk {A:Around}{k:Nat}(hr:tL k A):A.units+1<cLine:=Nat.lt_of_le_of_lt (Nat.add_le_add_left (by decide:1<=64) _) hr.units
theorem zQ {n:Nat}(h:n<=1000):n<sizeLine:=Nat.lt_of_le_of_lt h (by decide)
section
variable {X:Cx}
theorem pv (i:Nat){x:Str}{pos:Pos}(hN:X.N[i]?=some x:=by rfl)(hv:Vis X.env.scope x:=by first | exact Or.inl rfl | exact Or.inr (Or.inl rfl) | exact Or.inr (Or.inr rfl))(hd:(x==("__debug__" : Str))=false:=by decide)
  (hcd:(x==("__classdict__" : Str))=false:=by decide):PE X (.Name x pos) (K4 i):=zjp hN hv hd hcd
end
theorem yq {A B:Prop}(h:B):if false=true then A else B:=by
 rw[if_neg zqM]
 exact h
theorem WR {A B:Prop}(h:A):if true=true then A else B:=by
 rw[if_pos rfl]
 exact h
theorem z8 {c A B:Prop}[Decidable c](h1:c->A)(h2:¬c->B):if c then A else B:=by
 by_cases h:c
 ·rw[if_pos h]
  exact h1 h
 ·rw[if_neg h]
  exact h2 h
def Same (H H':Hp):Prop:=∀b o,H b=some o->H' b=some o
theorem Same.refl (H:Hp):Same H H:=fun _ _ h=>h
theorem Same.trans {H H1 H2:Hp}(a:Same H H1)(b:Same H1 H2):Same H H2:=fun c o h=>b c o (a c o h)
theorem Same.free {H H':Hp}(e:Same H H'){l:Addr}(h:H' l=Option.none):H l=Option.none:=by
 cases q:H l with
 | none=>rfl
 | some o =>
  rw[e l o q] at h
  cases h
theorem Same.seq {K:Frag}{H H':Hp}{a:Addr}{xs:List V}(e:Same H H')(h:zT K H a xs):zT K H' a xs:=by
 rcases h with (h | ⟨o,h⟩) | h
 ·exact .inl (.inl (e _ _ h))
 ·exact .inl (.inr ⟨o,e _ _ h⟩)
 ·exact .inr h
end L2
set_option maxHeartbeats 8000000
namespace L2
open PySem PySem.Spec PyProof.Rows
section
variable {X:Cx}{pins:List (Addr×Obj)}{σ:St}{H:Hp}{s:Shared}
theorem Rk.track {P:Program}{w:World}{H:Hp}{h:Heap}{a:Addr}{o:HO}(x:Rk P w H h)(hn:H a=none)(new:xO P w (upd H a o) h a o):Rk P w (upd H a o) h:=fun b u e=>by
 by_cases hb:b=a
 ·subst hb
  rw[zf] at e
  cases e
  exact new
 ·rw[zE hb] at e
  refine(x b u e).stay (fun _ _ _ q=>q) (fun c q=>?_) (fun c xs q=>?_) fun c ob v q=>?_
  ·rw[zE (zB q hn)];exact q
  ·rw[zE (zB q hn)];exact q
  ·rw[zE (zB q hn)];exact q
theorem Inv.track {a:Addr}{o:HO}(I:Inv X pins σ H s)(hn:H a=none)(hL:a≠X.env.locals)(h0:X.s₀.heap.objs.size<=a)(hc:∀x c,X.env.cells.lookup x=some c->c≠a)(hp:∀p∈X.pn++pins,p.1≠a)
  (new:xO X.prog X.w (upd H a o) s.heap a o):Inv X pins σ (upd H a o) s:=by
 have old:∀b ob,X.s₀.heap.get? b=some ob->b≠a:=fun b ob e=>zqX (zqR (zqP e) h0)
 refine⟨I.ok,I.os,I.bare,⟨fun b ob e n=>I.base.keep b ob e n,fun b ob e n=>I.base.slot b ob e n,fun b ob e n hx=>?_,fun b ob e hx=>I.base.there b ob e hx,fun b xs e=>?_,fun b ob u e=>?_,fun b ps e=>?_⟩,I.loc,I.cell,?_,fun x c e=>?_,fun p hm=>?_,I.hok.track hn new,I.len⟩
 ·rw[zE (old b ob e)];exact I.base.free b ob e n hx
 ·have q:=I.base.tups b xs e
  rw[zE (zB q hn)];exact q
 ·have q:=I.base.zak b ob u e
  rw[zE (zB q hn)];exact q
 ·obtain⟨mo,q⟩:=I.base.zbq b ps e
  exact⟨mo,by rw[zE (zB q hn)];exact q⟩
 ·rw[zE (Ne.symm hL)];exact I.free
 ·rw[zE (hc x c e)];exact I.UG x c e
 ·obtain⟨z1,z2,z3⟩:=I.pin p hm
  exact⟨z1,by rw[zE (hp p hm)];exact z2,z3⟩
end
def clo:List (Str×NameKind)->List (Str×Addr)->List (Str×Addr)->List (Str×Addr)
 | [],_,acc=>acc
 | (n,k)::r,cells,acc=>clo r cells (if k==.free then (match cells.lookup n with | some c=>(n,c)::acc | none=>acc) else acc)
theorem Vf (cells:List (Str×Addr)):∀(names:List (Str×NameKind)) (acc:List (Str×Addr)),(∀y c,acc.lookup y=some c->cells.lookup y=some c)->∀y c,(clo names cells acc).lookup y=some c->cells.lookup y=some c
 | [],acc,h=>h
 | (n,k)::r,acc,h=>by
  refine Vf cells r _ fun y c e=>?_
  cases hk:k==NameKind.free with
  | false=>rw[hk] at e;exact h y c e
  | true =>
   rw[hk,if_pos rfl] at e
   cases hc:cells.lookup n with
   | none=>rw[hc] at e;exact h y c e
   | some a =>
    rw[hc] at e
    have e':(((n,a)::acc).lookup y)=some c:=e
    rw[zq7] at e'
    cases hy:y==n with
    | true =>
     rw[hy] at e'
     have z:y=n:=by simpa using hy
     subst z
     rw[hc];exact e'
    | false=>rw[hy] at e';exact h y c e'
theorem zaZ (cells:List (Str×Addr)):∀(names:List (Str×NameKind)) (acc:List (Str×Addr)) (y:Str),(acc.lookup y).isSome=true->((clo names cells acc).lookup y).isSome=true
 | [],_,_,h=>h
 | (n,k)::r,acc,y,h=>by
  refine zaZ cells r _ y ?_
  cases hk:k==NameKind.free with
  | false=>exact h
  | true =>
   rw[if_pos rfl]
   cases hc:cells.lookup n with
   | none=>exact h
   | some a =>
    show(((n,a)::acc).lookup y).isSome=true
    rw[zq7]
    cases hy:y==n with
    | true=>rfl
    | false=>exact h
theorem zbH (cells:List (Str×Addr)):∀(names:List (Str×NameKind)) (acc:List (Str×Addr)) (y:Str),(y,NameKind.free)∈names->(cells.lookup y).isSome=true->((clo names cells acc).lookup y).isSome=true
 | [],_,_,h,_=>by cases h
 | (n,k)::r,acc,y,h,hs=>by
  rcases List.mem_cons.mp h with e | h
  ·cases e
   refine zaZ cells r _ n ?_
   show(((match cells.lookup n with | some c=>(n,c)::acc | none=>acc)).lookup n).isSome=true
   cases hc:cells.lookup n with
   | none=>rw[hc] at hs;cases hs
   | some a =>
    show(((n,a)::acc).lookup n).isSome=true
    rw[zq7]
    simp
  ·exact zbH cells r _ y h hs
theorem zeI {env:Env}:∀(names:List (Str×NameKind)) (acc:List (Str×Addr)),(∀y,(y,NameKind.free)∈names->(env.cells.lookup y).isSome=true) ->
  (forIn names acc fun(x:Str×NameKind) (cs:List (Str×Addr))=>if (x.2==NameKind.free)=true then do let c <-cellOf env x.1;pure (ForInStep.yield ((x.1,c)::cs)) else pure (ForInStep.yield cs):Sem (List (Str×Addr)))=pure (clo names env.cells acc)
 | [],acc,_=>rfl
 | (n,k)::r,acc,h=>by
  have ih:=fun acc'=>zeI (env:=env) r acc' fun y hy=>h y (zqT _ hy)
  rw[List.forIn_cons]
  cases hk:k==NameKind.free with
  | false =>
   show((pure (ForInStep.yield acc):Sem _)>>=_)=_
   rw[pure_bind]
   show(forIn r acc _:Sem _)=_
   rw[ih acc]
   show pure (clo r env.cells acc)=pure (clo r env.cells (if (k==NameKind.free)=true then (match env.cells.lookup n with | some c=>(n,c)::acc | none=>acc) else acc))
   rw[hk];rfl
  | true =>
   have hkf:k=NameKind.free:=by simpa using hk
   subst hkf
   have hs:=h n zq1
   cases hc:env.cells.lookup n with
   | none=>rw[hc] at hs;cases hs
   | some a =>
    have hcell:cellOf env n=pure a:=by unfold cellOf;rw[hc]
    show((cellOf env n>>=fun c=>(pure (ForInStep.yield ((n,c)::acc)):Sem _))>>=_)=_
    rw[hcell,pure_bind,pure_bind]
    show(forIn r ((n,a)::acc) _:Sem _)=_
    rw[ih]
    show pure (clo r env.cells ((n,a)::acc))=pure (clo r env.cells (match env.cells.lookup n with | some c=>(n,c)::acc | none=>acc))
    rw[hc]
theorem zdS {sc:Scope}{env:Env}(h:∀y,(y,NameKind.free)∈sc.names->(env.cells.lookup y).isSome=true):closureFor sc env=pure (clo sc.names env.cells []):=by
 unfold closureFor
 have:=zeI (env:=env) sc.names [] h
 simpa using this
structure Yy (uP sc:Scope)(x:Str)(fv:List Str):Prop where
 kind:sc.kind=.function
 R4:∀y∈sc.names,y.2≠.cell
 names:∀y∈sc.names,y.2=.local->sc.names.lookup y.1=some .local
 hx:sc.names.lookup x=some .local
 fr:∀y∈sc.names,y.2=.free->uP.names.lookup y.1=some .cell\/uP.names.lookup y.1=some .free
 fvs:∀y∈fv,sc.names.lookup y=some .free/\(uP.names.lookup y=some .cell\/uP.names.lookup y=some .free)
 nd:(x::fv).Nodup
abbrev Cx.blk (X:Cx)(sc:Scope)(cl:List (Str×Addr))(C:Addr)(N:List Str)(s:Shared)(H:Hp)(fp:List Addr):Cx :=
 {X with N:=N,s₀:=s,H₀:=H,env:=compEnvC sc cl C X.env,outer:=X.stack,ex:=fp,fn:=fun _=>false,pn:=[],xe:=fun _ _=>False }
abbrev lcN (X:Cx)(x:Str)(js:List Nat):List Str:=x::js.map fun j=>X.N.getD j ""
abbrev YZ (σ:St)(js:List Nat)(x:Option V):St:=x::js.map fun j=>σ.getD j none
theorem Y6 {env:Env}:∀{names:List (Str×NameKind)} {y:Str} {k:NameKind},(names.map fun(n,k)=>if (k==NameKind.free&&env.scope.kind==.function&&env.kindOf n==some .cell) then (n,NameKind.cell) else (n,k)).lookup y=some k->(k=.cell\/k=.free)->(∀z∈names,z.2≠.cell)->(y,NameKind.free)∈names
 | [],_,_,h,_,_=>by simp at h
 | (n,k')::r,y,k,h,hk,hn=>by
  by_cases hc:(k'==NameKind.free&&env.scope.kind==.function&&env.kindOf n==some .cell)=true
  ·have hk':k'=NameKind.free:=by
    rw[zq9,zq9] at hc
    simpa using hc.1.1
   subst hk'
   rw[zq6] at h
   cases hy:y==n with
   | true =>
    have z:y=n:=by simpa using hy
    subst z
    exact zq1
   | false =>
    have h':List.lookup y ((if (NameKind.free==NameKind.free&&env.scope.kind==.function&&env.kindOf n==some .cell)=true then (n,NameKind.cell) else (n,NameKind.free))::(r.map fun(n,k)=>if (k==NameKind.free&&env.scope.kind==.function&&env.kindOf n==some .cell) then (n,NameKind.cell) else (n,k)))=some k:=h
    rw[if_pos hc,zq7,hy] at h'
    exact zqT _ (Y6 h' hk fun z hz=>hn z (zqT _ hz))
  ·have h':List.lookup y ((if (k'==NameKind.free&&env.scope.kind==.function&&env.kindOf n==some .cell)=true then (n,NameKind.cell) else (n,k'))::(r.map fun(n,k)=>if (k==NameKind.free&&env.scope.kind==.function&&env.kindOf n==some .cell) then (n,NameKind.cell) else (n,k)))=some k:=h
   rw[if_neg hc,zq7] at h'
   cases hy:y==n with
   | true =>
    rw[hy] at h'
    cases h'
    have z:y=n:=by simpa using hy
    subst z
    rcases hk with e | e
    ·exact absurd e (hn _ zq1)
    ·subst e;exact zq1
   | false =>
    rw[hy] at h'
    exact zqT _ (Y6 h' hk fun z hz=>hn z (zqT _ hz))
theorem Jf {env:Env}:∀{names:List (Str×NameKind)} {y:Str},names.lookup y=some .free->(names.map fun(n,k)=>if (k==NameKind.free&&env.scope.kind==.function&&env.kindOf n==some .cell) then (n,NameKind.cell) else (n,k)).lookup y=some .cell\/(names.map fun(n,k)=>if (k==NameKind.free&&env.scope.kind==.function&&env.kindOf n==some .cell) then (n,NameKind.cell) else (n,k)).lookup y=some .free
 | [],_,h=>by simp at h
 | (n,k')::r,y,h=>by
  rw[zq7] at h
  rw[zq6]
  cases hy:y==n with
  | true =>
   rw[hy] at h
   cases h
   by_cases hc:(NameKind.free==NameKind.free&&env.scope.kind==.function&&env.kindOf n==some .cell)=true
   ·refine .inl ?_
    show List.lookup y ((if (NameKind.free==NameKind.free&&env.scope.kind==.function&&env.kindOf n==some .cell)=true then (n,NameKind.cell) else (n,NameKind.free))::_)=_
    rw[if_pos hc,zq7,hy]
   ·refine .inr ?_
    show List.lookup y ((if (NameKind.free==NameKind.free&&env.scope.kind==.function&&env.kindOf n==some .cell)=true then (n,NameKind.cell) else (n,NameKind.free))::_)=_
    rw[if_neg hc,zq7,hy]
  | false =>
   rw[hy] at h
   have ih:=Jf (env:=env) h
   by_cases hc:(k'==NameKind.free&&env.scope.kind==.function&&env.kindOf n==some .cell)=true
   ·show List.lookup y ((if (k'==NameKind.free&&env.scope.kind==.function&&env.kindOf n==some .cell)=true then (n,NameKind.cell) else (n,k'))::_)=_\/List.lookup y ((if (k'==NameKind.free&&env.scope.kind==.function&&env.kindOf n==some .cell)=true then (n,NameKind.cell) else (n,k'))::_)=_
    rw[if_pos hc,zq7,hy]
    exact ih
   ·show List.lookup y ((if (k'==NameKind.free&&env.scope.kind==.function&&env.kindOf n==some .cell)=true then (n,NameKind.cell) else (n,k'))::_)=_\/List.lookup y ((if (k'==NameKind.free&&env.scope.kind==.function&&env.kindOf n==some .cell)=true then (n,NameKind.cell) else (n,k'))::_)=_
    rw[if_neg hc,zq7,hy]
    exact ih
abbrev vJ (its:List Value)(n:Nat):Obj:={ cls:=.type "list", data:=.seq its.toArray n }
abbrev Y7 (ifs:List Expr)(env:Env):Sem Bool :=
 forIn ifs true fun c r=>if r=true then do let ok <-isTrue c env (eval c env);pure (ForInStep.yield ok) else pure (ForInStep.yield r)
def tLC (wi:TI)(js:List Nat)(tt:TT)(te:TE):TE:=fun σ H Q=>wi σ H fun J H1=>∃W:Nat->Nat->List V->Hp->Prop,(∃m,W 0 m [] H1)/\∀i m ys H,W i m ys H ->
 (J.stop i H/\∀p,H p=none->Q (.ref p) (upd H p (.lst ys))) \/
 (J.go i H/\ys.length<sizeLine/\∀x H',J.Kh i H x H'->tt (YZ σ js (some x)) H' fun b H2 =>
  if b=true then te (YZ σ js (some x)) H2 fun v H3=>∃m',m'<m/\W (i+1) m' (ys++[v]) H3 else ∃m',m'<m/\W (i+1) m' ys H2)
section
variable {X:Cx}{sc uP:Scope}{x:Str}{js:List Nat}{elt iter:Expr}{px pos:Pos}{ifs:List Expr}{wi:TI}{tt:TT}{te:TE}
theorem zhR {P:Program}{w:World}{A:Around}{R:Result->Shared->Prop}{st:Shared}{tg it acc}{cenv:Env}(Iv:Nat->Shared->Prop)
  (step:∀k st,Iv k st->wpAny (model P w) A (pyNext it) (fun got s1=>match got with
   | none=>R (.ok .next) s1
   | some v=>wpAny (model P w) A (letOwnedTupleGo tg it v) (fun _ s2=>wpAny (model P w) A (assign tg cenv v) (fun _ s3 =>
     wpAny (model P w) A (Y7 ifs cenv) (fun ok s4=>if ok=true then wpAny (model P w) A (eval elt cenv) (fun y s5 =>
       wpAny (model P w) A (call (.builtin "list.append") [acc,y]) (fun _ s6=>∃k',k'<k/\Iv k' s6) (notedBy (model P w) A cenv fun e z=>R (.error e) z) s5) (notedBy (model P w) A cenv fun e z=>R (.error e) z) s4
      else ∃k',k'<k/\Iv k' s4) (notedBy (model P w) A cenv fun e z=>R (.error e) z) s3) (notedBy (model P w) A cenv fun e z=>R (.error e) z) s2) (notedBy (model P w) A cenv fun e z=>R (.error e) z) s1)
   (notedBy (model P w) A cenv fun e z=>R (.error e) z) st)(k0:Nat)(h0:Iv k0 st) :
  codeAny (model P w) A (.compLoop (.ListComp elt [⟨tg,iter,ifs,0⟩] sc pos) 0 it acc cenv) R st:=by
 refine codeAny_loop rfl Iv (fun k st hk=>?_) k0 h0
 show wpAny _ A ((compTurn (.ListComp elt [⟨tg,iter,ifs,0⟩] sc pos) 0 it acc cenv).onRaise (fun e=>do noteFrame e cenv;theTreesLotGoes e)) _ _ st
 refine wpAny_noted ?_
 rw[compTurn_list]
 refine wpAny_bind (wpAny_standAt (wpAny_bind (wpAny_mono (step k st hk) (fun got s1 h1=>?_) fun _ _ z=>z)))
 cases got with
 | none=>exact wpAny_pure h1
 | some v =>
  refine wpAny_bind (wpAny_mono h1 (fun _ s2 h2=>?_) fun _ _ z=>z)
  refine wpAny_bind (wpAny_mono h2 (fun _ s3 h3=>wpAny_bind (wpAny_mono h3 (fun ok s4 h4=>?_) fun _ _ z=>z)) fun _ _ z=>z)
  cases ok with
  | false=>exact wpAny_pure ⟨rfl,h4⟩
  | true=>exact wpAny_bind (wpAny_bind (wpAny_mono h4 (fun y s5 h5=>wpAny_bind (wpAny_mono h5 (fun _ s6 h6=>wpAny_pure (wpAny_pure ⟨rfl,h6⟩)) fun _ _ z=>z)) fun _ _ z=>z))
structure Own (X:Cx)(pins:List (Addr×Obj))(H:Hp)(a:Addr):Prop where
 free:H a=none
 loc:a≠X.env.locals
 new:X.s₀.heap.objs.size<=a
 cel:∀x c,X.env.cells.lookup x=some c->c≠a
 pin:∀p∈X.pn++pins,p.1≠a
 fs:a∉X.fs
end
structure zeJ (uP sc:Scope)(xs:List Str)(fv:List Str):Prop where
 kind:sc.kind=.function
 R4:∀y∈sc.names,y.2≠.cell
 names:∀y∈sc.names,y.2=.local->sc.names.lookup y.1=some .local
 fr:∀y∈sc.names,y.2=.free->uP.names.lookup y.1=some .cell\/uP.names.lookup y.1=some .free
 fvs:∀y∈fv,sc.names.lookup y=some .free/\(uP.names.lookup y=some .cell\/uP.names.lookup y=some .free)
abbrev QJ (X:Cx)(xs:List Str)(js:List Nat):List Str:=xs++js.map fun j=>X.N.getD j ""
abbrev lcT (σ:St)(js:List Nat)(os:List (Option V)):St:=os++js.map fun j=>σ.getD j none
def zk3 (wi:TI)(xs:List Str)(js:List Nat)(g:TG)(tt:TT)(te:TE):TE:=fun σ H Q=>wi σ H fun J H1=>∃W:Nat->Nat->List V->Hp->Prop,(∃m,W 0 m [] H1)/\∀i m ys H,W i m ys H ->
 (J.stop i H/\∀p,H p=none->Q (.ref p) (upd H p (.lst ys))) \/
 (J.go i H/\ys.length<sizeLine/\∀x H',J.Kh i H x H'->∀o0:List (Option V),o0.length=xs.length->g x (lcT σ js o0) H' fun σ2 H1=>∃o1,σ2=lcT σ js o1/\o1.length=xs.length/\tt σ2 H1 fun b H2 =>
  if b=true then te σ2 H2 fun v H3=>∃m',m'<m/\W (i+1) m' (ys++[v]) H3 else ∃m',m'<m/\W (i+1) m' ys H2)
section
variable {X:Cx}{sc uP:Scope}{xs:List Str}{js:List Nat}
theorem zhS {pins:List (Addr×Obj)}{σ:St}{H:Hp}{s:Shared}{fp:List Addr}{C:Addr}(I:Inv X pins σ H s)(VG:X.env.scope=uP)(L:zeJ uP sc xs (js.map fun j=>X.N.getD j ""))
  (f2:∀b∈fp,zcz X pins H b)(lt:∀b∈fp,b<s.heap.objs.size)(hC:s.heap.objs.size<=C):(X.blk sc (clo sc.names X.env.cells []) C (QJ X xs js) s H fp).Ok where
 mod:=I.ok.mod
 kind:=L.kind
 glob:=I.ok.glob
 blt:=I.ok.blt
 above:=hC
 inj:=fun y z c h1 h2=>I.ok.inj y z c (Vf _ _ [] (fun _ _ e=>by simp at e) y c h1) (Vf _ _ [] (fun _ _ e=>by simp at e) z c h2)
 has:=fun y hy=>by
  have hy':(relabel sc X.env).names.lookup y=some .cell\/(relabel sc X.env).names.lookup y=some .free:=hy
  have hm:(y,NameKind.free)∈sc.names:=by
   rcases hy' with e | e
   ·exact Y6 e (.inl rfl) L.R4
   ·exact Y6 e (.inr rfl) L.R4
  have ho:X.env.kindOf y=some .cell\/X.env.kindOf y=some .free:=by
   show X.env.scope.names.lookup y=_\/X.env.scope.names.lookup y=_
   rw[VG]
   exact L.fr _ hm rfl
  obtain⟨c,e⟩:=I.ok.has y ho
  exact Option.isSome_iff_exists.mp (zbH _ _ [] y hm (by rw[e];rfl))
 cab:=fun y c h=>by cases h
 hd:=I.ok.hd
 frames:=I.ok.frames
 stk:=.inl rfl
 exf:=fun b hb=>⟨zqX (zqR (lt b hb) hC),fun y c e=>(f2 b hb).2.2.2.2.1 y c (Vf _ _ [] (fun _ _ e=>by simp at e) y c e)⟩
 bs:=I.bs
 bsz:=zq3 I.ok.bsz I.sz
 zfi:=fun b o e hb=>by
  rcases (f2 b hb).2.2.2.1 with z | z
  ·exact I.ok.zfi b o e z
  ·exact absurd (zqR (zqP (I.ok.bs b o e).1) z) (Nat.lt_irrefl _)
 zfj:=fun b hb hm=>by
  rcases List.mem_cons.mp (I.zbs b hm) with z | z
  ·exact(f2 b hb).2.1 z
  ·exact(f2 b hb).2.2.1 z
 Nu:=I.stack
 frf:=I.zet
end
section
variable {X:Cx}{sc uP:Scope}{xs:List Str}{js:List Nat}{tg:Expr}{g:TG}{elt iter:Expr}{px pos:Pos}{ifs:List Expr}{wi:TI}{tt:TT}{te:TE}
theorem zgp {cl:List (Str×Addr)}{C D:Addr}{s₂:Shared}{H₂:Hp}{fp:List Addr}{pl:List (Addr×Obj)}{σ0:St}{H:Hp}{s:Shared}{u:Value}{v:V}{its:List Value}{n:Nat}{o0:List (Option V)}{E:Value->Shared->Prop}
  {Ny:V->Hp->Prop}{Nn:Hp->Prop}
  (hg:PG (X.blk sc cl C (QJ X xs js) s₂ H₂ fp) tg g)
  (I:Inv (X.blk sc cl C (QJ X xs js) s₂ H₂ fp) ((D,vJ its n)::pl) (lcT σ0 js o0) H s)(ru:RelV v u)
  (ht:∀(pins:List (Addr×Obj)) (s':Shared) (σ':St) (H':Hp) (Q:Bool->Hp->Prop),Inv (X.blk sc cl C (QJ X xs js) s₂ H₂ fp) pins σ' H' s'->tt σ' H' Q ->
   wpAny (model X.prog X.w) X.A (Y7 ifs (compEnvC sc cl C X.env)) (TP (X.blk sc cl C (QJ X xs js) s₂ H₂ fp) pins σ' Q) (fun _ _=>False) s')
  (he:PE (X.blk sc cl C (QJ X xs js) s₂ H₂ fp) elt te)
  (hlen:its.length<sizeLine)(hD0:s₂.heap.objs.size<=D)(hDC:D≠C)(hDc:∀y c,cl.lookup y=some c->c≠D)(hDp:∀p∈pl,p.1≠D)
  (h:g v (lcT σ0 js o0) H fun σ2 H1=>∃o1,σ2=lcT σ0 js o1/\o1.length=xs.length/\tt σ2 H1 fun b H2=>if b=true then te σ2 H2 Ny else Nn H2) :
  wpAny (model X.prog X.w) X.A (assign tg (compEnvC sc cl C X.env) u) (fun _ s2 =>
   wpAny (model X.prog X.w) X.A (Y7 ifs (compEnvC sc cl C X.env)) (fun ok s3 =>
    if ok=true then wpAny (model X.prog X.w) X.A (eval elt (compEnvC sc cl C X.env)) (fun y s4 =>
     wpAny (model X.prog X.w) X.A (call (.builtin "list.append") [.ref D,y]) (fun _ s5=>∃z y' H5 o1,o1.length=xs.length/\Ny z H5/\RelV z y'/\Inv (X.blk sc cl C (QJ X xs js) s₂ H₂ fp) ((D,vJ (its++[y']) (n+1))::pl) (lcT σ0 js o1) H5 s5) E s4) E s3
    else ∃H5 o1,o1.length=xs.length/\Nn H5/\Inv (X.blk sc cl C (QJ X xs js) s₂ H₂ fp) ((D,vJ its n)::pl) (lcT σ0 js o1) H5 s3) E s2) E s:=by
 refine wpAny_mono (hg _ s _ H v u _ I ru h) (fun _ s2 ⟨σ6,H6,I6,o1,e1,l1,h6⟩=>?_) fun _ _ z=>False.elim z
 subst e1
 refine wpAny_mono (ht _ s2 _ _ _ I6 h6) (fun ok s3 ⟨H7,I7,q7⟩=>?_) fun _ _ z=>False.elim z
 cases ok with
 | false =>
  rw[if_neg zqM] at q7 ⊢
  exact⟨H7,o1,l1,q7,I7⟩
 | true =>
  rw[if_pos rfl] at q7 ⊢
  refine wpAny_mono (he _ s3 _ H7 _ I7 q7) (fun y s4 ⟨z,H8,I8,r8,q8⟩=>?_) fun _ _ z=>False.elim z
  obtain⟨p1,p2,p3,p4,p5⟩:=I8.pin (D,vJ its n) (zqZ _ zq1)
  have p1':s4.heap.get? D=some { cls:=.type "list", data:=.seq its.toArray n }:=p1
  refine call_meets F.slot_list_append ⟨_,p1',rfl⟩ F.entry_list_append (F.args_list_append_2 _ _) (PySem.list_append D its.toArray n y (by rw[zqS];omega)) ⟨p1',?_⟩
  have q:=PySem.IsL.update p1' (fun a=>a.push y)
  have sz:((its.toArray.push y).size==its.toArray.size)=false:=by simp
  have e3:(s4.heap.update D (Obj.mapSeq fun a=>a.push y)).get? D=some (vJ (its++[y]) (n+1)):=by
   have q':(s4.heap.update D (Obj.mapSeq fun a=>a.push y)).get? D=some { cls:=.type "list", data:=.seq (its.toArray.push y) (if ((its.toArray.push y).size==its.toArray.size)=true then n else n+1) }:=q
   rw[q',sz,if_neg zqM]
   simp
  have I9:Inv (X.blk sc cl C (QJ X xs js) s₂ H₂ fp) pl (lcT σ0 js o1) H8 s4:=I8.Vz fun p hp=>I8.pin p (zqZ _ (zqT _ hp))
  have oth:∀b o,b≠D->s4.heap.get? b=some o->(s4.heap.update D (Obj.mapSeq fun a=>a.push y)).get? b=some o:=fun b o hb e=>(Heap.get?_update_other _ _ (Ne.symm hb)).trans e
  have I10:=I9.turned (t':=s4.toks) (h':=s4.heap.update D (Obj.mapSeq fun a=>a.push y)) (it:=D) oth p2 hDC (.inr hD0) hDc (fun p hp=>hDp p hp)
  refine⟨z,y,H8,o1,l1,q8,r8,I10.Vz fun p hp=>?_⟩
  rcases List.mem_cons.mp hp with e | e
  ·subst e
   exact⟨e3,p2,p3,p4,fun w hw=>by cases hw⟩
  ·exact I10.pin p (zqZ _ e)
theorem zcH {use:Option (Value->Sem Unit)}{QQ:Value->Shared->Prop}{Fin:List V->Hp->Prop}{pins:List (Addr×Obj)}{s:Shared}{σ:St}{H:Hp}(VG:X.env.scope=uP)(L:zeJ uP sc xs (js.map fun j=>X.N.getD j "")){rd:Cx->Prop}(hc:∀sc cl C N s H fp,rd (X.blk sc cl C N s H fp))(hi:PIr rd X tg iter wi)(hg:∀(cl:List (Str×Addr)) (C:Addr) (s₂:Shared) (H₂:Hp) (fp:List Addr),PG (X.blk sc cl C (QJ X xs js) s₂ H₂ fp) tg g)(hjs:∀j∈js,j<X.N.length)
  (ht:∀(cl:List (Str×Addr)) (C:Addr) (s₂:Shared) (H₂:Hp) (fp:List Addr) (pins:List (Addr×Obj)) (s':Shared) (σ':St) (H':Hp) (Q:Bool->Hp->Prop),Inv (X.blk sc cl C (QJ X xs js) s₂ H₂ fp) pins σ' H' s'->tt σ' H' Q ->
   wpAny (model X.prog X.w) X.A (Y7 ifs (compEnvC sc cl C X.env)) (TP (X.blk sc cl C (QJ X xs js) s₂ H₂ fp) pins σ' Q) (fun _ _=>False) s')
  (he:∀(cl:List (Str×Addr)) (C:Addr) (s₂:Shared) (H₂:Hp) (fp:List Addr),PE (X.blk sc cl C (QJ X xs js) s₂ H₂ fp) elt te)
  (hs:∀x,foldedSetIterable iter X.env x=pure x)(I:Inv X pins σ H s)
  (h:wi σ H fun J H1=>∃W:Nat->Nat->List V->Hp->Prop,(∃m,W 0 m [] H1)/\∀i m ys H,W i m ys H->(J.stop i H/\Fin ys H) \/
   (J.go i H/\ys.length<sizeLine/\∀x H',J.Kh i H x H'->∀o0:List (Option V),o0.length=xs.length->g x (lcT σ js o0) H' fun σ2 H1=>∃o1,σ2=lcT σ js o1/\o1.length=xs.length/\tt σ2 H1 fun b H2 =>
    if b=true then te σ2 H2 fun v H3=>∃m',m'<m/\W (i+1) m' (ys++[v]) H3 else ∃m',m'<m/\W (i+1) m' ys H2))
  (hfin:∀(D C:Addr) (s5:Shared) (H5:Hp) (ys:List V) (its:List Value) (k:Nat) (m5:Str->Option Value),Inv X pins σ H5 s5->Own X pins H5 D->Own X pins H5 C->D≠C->s5.heap.get? D=some (vJ its k)->Vals ys its->ys.length<=sizeLine->s5.heap.Ns C m5->Fin ys H5 ->
   compPost (model X.prog X.w) X.A X.xe use QQ (.ref D) C (.ok .next) s5) :
  wpAny (model X.prog X.w) X.A (comprehension (.ListComp elt [⟨tg,iter,ifs,0⟩] sc pos) sc X.env (firstIterPos [⟨tg,iter,ifs,0⟩] pos) (newList []) false (eval iter X.env) use) QQ X.xe s:=by
 have hcl:closureFor sc X.env=pure (clo sc.names X.env.cells []):=zdS fun y hy=>by
  have ho:X.env.kindOf y=some .cell\/X.env.kindOf y=some .free:=by
   show X.env.scope.names.lookup y=_\/X.env.scope.names.lookup y=_
   rw[VG]
   exact L.fr _ hy rfl
  obtain⟨c,e⟩:=I.ok.has y ho
  rw[e];rfl
 refine wpAny_comprehension_free (use:=use) rfl hs hcl L.kind L.names (xT (hi pins s σ H _ I h) fun v s1 h1=>xT h1 fun itv s2 h2=>?_)
 obtain⟨it,fp,tn,J,H2,e,I2,T,st2,f2,W,⟨m0,w0⟩,turn⟩:=h2
 subst e
 refine wpAny_newObj_type (wpAny_newFunctionEnv L.R4 (by intro y hy;simp at hy) (fun h₁ hns₁ hsb₁=>?_) L.kind)
 dsimp only at hns₁ hsb₁ ⊢
 generalize hG:s2.heap.push { cls:=.type "list", dict:=none,data:=.seq ([]:List Value).toArray }=G at hns₁ hsb₁ ⊢
 have hGs:G.objs.size=s2.heap.objs.size+1:=by rw[<-hG,Heap.size_push]
 have hCle:s2.heap.objs.size<=G.objs.size:=by rw[hGs];exact Nat.le_succ _
 have hDC:s2.heap.objs.size≠G.objs.size:=by rw[hGs];exact zqX (Nat.lt_succ_self _)
 have old:∀b o,s2.heap.get? b=some o->h₁.get? b=some o:=fun b o e=>by
  have lt:=zqP e
  refine hsb₁.extBut b o (zqX (zqR lt hCle)) (zqO _ ?_)
  rw[<-hG]
  exact zqO _ e
 have hacc:h₁.get? s2.heap.objs.size=some (vJ [] 0):=by
  refine hsb₁.extBut _ _ hDC (zqO _ ?_)
  rw[<-hG]
  exact zq2 _ rfl
 have lt:∀b∈fp,b<s2.heap.objs.size:=fun b hb=>by
  obtain⟨o,e,_⟩:=T.obj _ _ st2 b hb
  exact zqP e
 have clS:∀y c,(clo sc.names X.env.cells []).lookup y=some c->X.env.cells.lookup y=some c:=Vf _ _ [] (fun _ _ e=>by simp at e)
 have zm3:∀y c,(clo sc.names X.env.cells []).lookup y=some c->c<s2.heap.objs.size:=fun y c e=>by
  obtain⟨v,o,q,_⟩:=I2.cell y c (clS y c e)
  exact zqP q
 have Bok:(X.blk sc (clo sc.names X.env.cells []) G.objs.size (QJ X xs js) s2 H2 fp).Ok:=zhS I2 VG L f2 lt hCle
 have fresh:∀a,s2.heap.objs.size<=a->H2 a=none:=fun a ha=>I2.hok.fresh ha
 have zjN:∀b∈frs X.stack,b<s2.heap.objs.size:=fun b hb=>by
  rcases List.mem_cons.mp (I2.zbs b hb) with z | z
  ·rw[z];exact I2.lt
  ·refine Nat.lt_of_not_le fun q=>I2.zjn q z
 have B0:Inv (X.blk sc (clo sc.names X.env.cells []) G.objs.size (QJ X xs js) s2 H2 fp) [(s2.heap.objs.size,vJ [] 0)] (lcT σ js (List.replicate xs.length none)) H2 { s2 with heap:=h₁,toks:=s2.toks+([]:List (Str×Value)).length }:=by
  refine⟨Bok,rfl,I2.bare,Un.kept old,⟨_,hns₁,fun i y v e1 e2 e3=>?_⟩,fun y c e=>?_,fresh _ hCle,fun y c e=>I2.UG y c (clS y c e),fun p hp=>?_,I2.hok.kept old,?_⟩
  ·by_cases hlt:i<xs.length
   ·exfalso
    have e2'':(List.replicate xs.length (none:Option V)++js.map fun j=>σ.getD j none)[i]?=some (some v):=e2
    rw[zre (by rw[List.length_replicate];exact hlt),List.getElem?_replicate,if_pos hlt] at e2''
    cases e2''
   ·have e1':(js.map fun j=>X.N.getD j "")[i-xs.length]?=some y:=by
     have z:(xs++js.map fun j=>X.N.getD j "")[i]?=some y:=e1
     rw[List.getElem?_append_right (by omega)] at z
     exact z
    have e2':(js.map fun j=>σ.getD j none)[i-xs.length]?=some (some v):=by
     have z:(List.replicate xs.length (none:Option V)++js.map fun j=>σ.getD j none)[i]?=some (some v):=e2
     rw[List.getElem?_append_right (by rw[List.length_replicate];omega),List.length_replicate] at z
     exact z
    have e1s:=e1'
    rw[zqK] at e1' e2'
    cases hj:js[i-xs.length]? with
    | none=>rw[hj] at e1';cases e1'
    | some j =>
     rw[hj] at e1' e2'
     have e4:X.N.getD j ""=y:=zrc e1'
     have e5:σ.getD j none=some v:=zrc e2'
     have hjl:=hjs j (zqN hj)
     have e6:X.N[j]?=some y:=by
      rw[zqV,zqJ hjl] at e4
      rw[zqJ hjl]
      exact congrArg some e4
     have e7:σ[j]?=some (some v):=by
      rw[zqV] at e5
      cases hq:σ[j]? with
      | none=>rw[hq] at e5;cases e5
      | some w=>rw[hq] at e5;exact congrArg some e5
     obtain⟨hm0,hk⟩:=L.fvs y (zqN e1s)
     have hm:(y,NameKind.free)∈sc.names:=PySem.mem_of_lookup hm0
     have hk':X.env.kindOf y=some .cell\/X.env.kindOf y=some .free:=by
      show X.env.scope.names.lookup y=_\/X.env.scope.names.lookup y=_
      rw[VG];exact hk
     have hv:Vis X.env.scope y:=by rcases hk' with z | z;exact .inr (.inl z);exact .inr (.inr z)
     obtain⟨m,hn,hl⟩:=I2.loc
     obtain⟨u,r,l⟩:=hl j y v e6 e7 hv
     refine⟨u,r,.inr ?_⟩
     rcases l with ⟨z,_⟩ | ⟨_,c,hc1,hc2⟩
     ·rw[z] at hk';rcases hk' with q | q<;>cases q
     ·have hs2:((clo sc.names X.env.cells []).lookup y).isSome=true:=zbH _ _ [] y hm (by rw[hc1];rfl)
      obtain⟨c',hc'⟩:=Option.isSome_iff_exists.mp hs2
      have hcc:c'=c:=by have:=clS y c' hc';rw[hc1] at this;exact(zrc this).symm
      subst hcc
      obtain⟨o,ho,hd⟩:=hc2
      exact⟨Jf hm0,c',hc',o,old _ o ho,hd⟩
  ·obtain⟨v,o,q,d⟩:=I2.cell y c (clS y c e)
   exact⟨v,o,old _ o q,d⟩
  ·have e:p=(s2.heap.objs.size,vJ [] 0):=by simpa using hp
   subst e
   exact⟨hacc,fresh _ (zqY _),hDC,fun z=>Nat.lt_irrefl _ (zjN _ z),fun w hw=>by cases hw⟩
  ·show _=(QJ X xs js).length
   simp
 have stat:∀{H':Hp} {pl:List (Addr×Obj)},(∀b∈fp,H' b=none)->(∀p∈pl,p.1=s2.heap.objs.size)->∀b∈fp,zcz (X.blk sc (clo sc.names X.env.cells []) G.objs.size (QJ X xs js) s2 H2 fp) pl H' b:=fun hn hp b hb =>
  ⟨hn b hb,(Bok.exf b hb).1,Bok.zfj b hb,.inl hb,(Bok.exf b hb).2,fun p hm=>by
   rw[hp p (by simpa using hm)]
   exact Ne.symm (zqX (lt b hb))⟩
 have loop:∀s3:Shared,s3={ s2 with heap:=h₁,toks:=s2.toks+([]:List (Str×Value)).length } ->
   codeAny (model X.prog X.w) X.A (.compLoop (.ListComp elt [⟨tg,iter,ifs,0⟩] sc pos) 0 (.ref it) (.ref s2.heap.objs.size) (compEnvC sc (clo sc.names X.env.cells []) G.objs.size X.env))
    (compPost (model X.prog X.w) X.A X.xe use QQ (.ref s2.heap.objs.size) G.objs.size) s3:=by
  rintro s3 rfl
  refine zhR (fun n s'=>∃i ys its k o0 H',o0.length=xs.length/\Inv (X.blk sc (clo sc.names X.env.cells []) G.objs.size (QJ X xs js) s2 H2 fp) [(s2.heap.objs.size,vJ its k)] (lcT σ js o0) H' s'/\tn i s'.heap/\(∀b∈fp,H' b=none)/\Vals ys its/\ys.length<=sizeLine/\W i n ys H') ?_ m0
   ⟨0,[],[],0,List.replicate xs.length none,H2,List.length_replicate,B0,T.keep _ _ _ st2 fun b _ o e=>old b o e,fun b hb=>(f2 b hb).1,.nil,zq4 _,w0⟩
  rintro n s4 ⟨i,ys,its,k,o0,H4,lo0,I4,st4,fr4,vs4,z4,w4⟩
  have one:∀p∈[(s2.heap.objs.size,vJ its k)],p.1=s2.heap.objs.size:=fun p hp=>by
   have e:p=(s2.heap.objs.size,vJ its k):=by simpa using hp
   rw[e]
  rcases turn i n ys H4 w4 with ⟨stop,qn⟩ | ⟨go,zl,step⟩
  ·refine xT (T.done (X.blk sc (clo sc.names X.env.cells []) G.objs.size (QJ X xs js) s2 H2 fp) rfl rfl rfl (hc _ _ _ _ _ _ _) i _ s4 _ H4 _ I4 (stat fr4 one) st4 stop) fun r s5 ⟨hr,I5⟩=>?_
   subst hr
   obtain⟨m5,hn5,_⟩:=I5.loc
   obtain⟨p1,p2,p3,p4,p5⟩:=I5.pin (s2.heap.objs.size,vJ its k) (by simp)
   have ch:∀b∈fp,(b∈X.ex\/X.s₀.heap.objs.size<=b)/\b≠X.env.locals/\(∀x c,X.env.cells.lookup x=some c->c≠b)/\∀p∈X.pn++pins,p.1≠b:=fun b hb =>
    ⟨(f2 b hb).2.2.2.1,(f2 b hb).2.1,(f2 b hb).2.2.2.2.1,(f2 b hb).2.2.2.2.2⟩
   have J1:Inv X pins σ H4 s5:=I2.call' I5.os I5.base I5.hok I5.bare ch
   have ltp:∀p∈X.pn++pins,p.1<s2.heap.objs.size:=fun p hp=>zqP (I2.pin p hp).1
   have ltc:∀y c,X.env.cells.lookup y=some c->c<s2.heap.objs.size:=fun y c e=>by
    obtain⟨v,o,q,_⟩:=I2.cell y c e
    exact zqP q
   have s0:X.s₀.heap.objs.size<=s2.heap.objs.size:=I2.sz
   have own:∀a,s2.heap.objs.size<=a->H4 a=none->Own X pins H4 a:=fun a ha hn=>⟨hn,Ne.symm (zqX (zqR I2.lt ha)),zq3 s0 ha,fun y c e=>zqX (zqR (ltc y c e) ha),
    fun p hp=>zqX (zqR (ltp p hp) ha),I2.zjn ha⟩
   exact hfin _ _ s5 H4 ys its k m5 J1 (own _ (zqY _) p2) (own _ hCle I5.free) hDC p1 vs4 z4 hn5 qn
  ·refine xT (T.item (X.blk sc (clo sc.names X.env.cells []) G.objs.size (QJ X xs js) s2 H2 fp) rfl rfl rfl (hc _ _ _ _ _ _ _) i _ s4 _ H4 _ I4 (stat fr4 one) st4 go) fun r s5 ⟨u,hr,h5⟩=>?_
   subst hr
   refine wpAny_mono h5 (fun _ s5' ⟨v,H6,I6,r6,y6,st6,fr6⟩=>?_) fun _ _ z=>z
   have I7:=I6.pinned (stat fr6 one) (T.obj _ _ st6)
   have zm6:∀p∈RX fp s5'.heap,p.1≠s2.heap.objs.size:=fun p hp=>zqX (lt _ (zaR hp).1)
   have zo3:=vs4.length
   have back:∀{its':List Value} {k':Nat} {H7:Hp} {s7:Shared} {ys':List V} {m':Nat} {o1:List (Option V)},o1.length=xs.length->Inv (X.blk sc (clo sc.names X.env.cells []) G.objs.size (QJ X xs js) s2 H2 fp) ((s2.heap.objs.size,vJ its' k')::RX fp s5'.heap) (lcT σ js o1) H7 s7 ->
     Vals ys' its'->ys'.length<=sizeLine->m'<n->W (i+1) m' ys' H7->∃m,m<n/\∃i ys its k o0 H',o0.length=xs.length/\Inv (X.blk sc (clo sc.names X.env.cells []) G.objs.size (QJ X xs js) s2 H2 fp) [(s2.heap.objs.size,vJ its k)] (lcT σ js o0) H' s7/\tn i s7.heap/\(∀b∈fp,H' b=none)/\Vals ys its/\ys.length<=sizeLine/\W i m ys H':=by
    intro its' k' H7 s7 ys' m' o1 l1 J vs' z' hm w'
    refine⟨m',hm,i+1,ys',its',k',o1,H7,l1,J.Vz fun p hp=>J.pin p (zqZ _ (by simp at hp;simp[hp])),?_,?_,vs',z',w'⟩
    ·exact T.keep _ _ _ st6 fun b hb o e=>(J.pin (b,o) (zqZ _ (zqT _ (VB hb e)))).1
    ·intro b hb
     obtain⟨o,e,_⟩:=T.obj _ _ st6 b hb
     exact(J.pin (b,o) (zqZ _ (zqT _ (VB hb e)))).2.1
   refine wpAny_mono (zgp (X:=X) (sc:=sc) (xs:=xs) (js:=js) (tg:=tg) (g:=g) (elt:=elt) (ifs:=ifs) (tt:=tt) (te:=te) (D:=s2.heap.objs.size) (its:=its) (n:=k) (pl:=RX fp s5'.heap)
    (hg _ _ _ _ _) I7 r6 (ht _ _ _ _ _) (he _ _ _ _ _) (by omega) (zqY _) hDC (fun y c e=>zqX (zm3 y c e)) zm6 (step v H6 y6 o0 lo0)) (fun _ s6 h6=>?_) fun _ _ z=>z
   refine wpAny_mono h6 (fun ok s7 h7=>?_) fun _ _ z=>z
   cases ok with
   | false =>
    rw[if_neg zqM] at h7 ⊢
    obtain⟨H7,o1,l1,⟨m',hm,w'⟩,J⟩:=h7
    exact back l1 J vs4 z4 hm w'
   | true =>
    rw[if_pos rfl] at h7 ⊢
    refine wpAny_mono h7 (fun y s8 h8=>?_) fun _ _ z=>z
    refine wpAny_mono h8 (fun _ s9 h9=>?_) fun _ _ z=>z
    obtain⟨z,y',H9,o1,l1,⟨m',hm,w'⟩,rz,J⟩:=h9
    refine back l1 J (vs4.append (.cons rz .nil)) ?_ hm w'
    rw[zqQ,zrf]
    omega
 exact codeAny_compStart_list (loop _ rfl) (T.self _ 0 _ _ _ (T.keep _ _ _ st2 fun b _ o e=>old b o e) (loop _ rfl))
end
section
variable {X:Cx}{sc uP:Scope}{x:Str}{js:List Nat}{elt iter:Expr}{px pos:Pos}{ifs:List Expr}{wi:TI}{tt:TT}{te:TE}
theorem zeK {use:Option (Value->Sem Unit)}{QQ:Value->Shared->Prop}{Fin:List V->Hp->Prop}{pins:List (Addr×Obj)}{s:Shared}{σ:St}{H:Hp}(VG:X.env.scope=uP)(L:Yy uP sc x (js.map fun j=>X.N.getD j "")){rd:Cx->Prop}(hc:∀sc cl C N s H fp,rd (X.blk sc cl C N s H fp))(hi:PIr rd X (.Name x px) iter wi)(hjs:∀j∈js,j<X.N.length)
  (ht:∀(cl:List (Str×Addr)) (C:Addr) (s₂:Shared) (H₂:Hp) (fp:List Addr) (pins:List (Addr×Obj)) (s':Shared) (σ':St) (H':Hp) (Q:Bool->Hp->Prop),Inv (X.blk sc cl C (lcN X x js) s₂ H₂ fp) pins σ' H' s'->tt σ' H' Q ->
   wpAny (model X.prog X.w) X.A (Y7 ifs (compEnvC sc cl C X.env)) (TP (X.blk sc cl C (lcN X x js) s₂ H₂ fp) pins σ' Q) (fun _ _=>False) s')
  (he:∀(cl:List (Str×Addr)) (C:Addr) (s₂:Shared) (H₂:Hp) (fp:List Addr),PE (X.blk sc cl C (lcN X x js) s₂ H₂ fp) elt te)
  (hs:∀x,foldedSetIterable iter X.env x=pure x)(I:Inv X pins σ H s)
  (h:wi σ H fun J H1=>∃W:Nat->Nat->List V->Hp->Prop,(∃m,W 0 m [] H1)/\∀i m ys H,W i m ys H->(J.stop i H/\Fin ys H) \/
   (J.go i H/\ys.length<sizeLine/\∀x H',J.Kh i H x H'->tt (YZ σ js (some x)) H' fun b H2 =>
    if b=true then te (YZ σ js (some x)) H2 fun v H3=>∃m',m'<m/\W (i+1) m' (ys++[v]) H3 else ∃m',m'<m/\W (i+1) m' ys H2))
  (hfin:∀(D C:Addr) (s5:Shared) (H5:Hp) (ys:List V) (its:List Value) (k:Nat) (m5:Str->Option Value),Inv X pins σ H5 s5->Own X pins H5 D->Own X pins H5 C->D≠C->s5.heap.get? D=some (vJ its k)->Vals ys its->ys.length<=sizeLine->s5.heap.Ns C m5->Fin ys H5 ->
   compPost (model X.prog X.w) X.A X.xe use QQ (.ref D) C (.ok .next) s5) :
  wpAny (model X.prog X.w) X.A (comprehension (.ListComp elt [⟨.Name x px,iter,ifs,0⟩] sc pos) sc X.env (firstIterPos [⟨.Name x px,iter,ifs,0⟩] pos) (newList []) false (eval iter X.env) use) QQ X.xe s:=by
 have e:(fun(J:It) (H1:Hp)=>∃W:Nat->Nat->List V->Hp->Prop,(∃m,W 0 m [] H1)/\∀i m ys H,W i m ys H->(J.stop i H/\Fin ys H) \/
   (J.go i H/\ys.length<sizeLine/\∀x H',J.Kh i H x H'->tt (YZ σ js (some x)) H' fun b H2 =>
    if b=true then te (YZ σ js (some x)) H2 fun v H3=>∃m',m'<m/\W (i+1) m' (ys++[v]) H3 else ∃m',m'<m/\W (i+1) m' ys H2)) =
   (fun(J:It) (H1:Hp)=>∃W:Nat->Nat->List V->Hp->Prop,(∃m,W 0 m [] H1)/\∀i m ys H,W i m ys H->(J.stop i H/\Fin ys H) \/
   (J.go i H/\ys.length<sizeLine/\∀y H',J.Kh i H y H'->∀o0:List (Option V),o0.length=[x].length->Va 0 y (lcT σ js o0) H' fun σ2 H1=>∃o1,σ2=lcT σ js o1/\o1.length=[x].length/\tt σ2 H1 fun b H2 =>
    if b=true then te σ2 H2 fun v H3=>∃m',m'<m/\W (i+1) m' (ys++[v]) H3 else ∃m',m'<m/\W (i+1) m' ys H2)):=by
  funext J H1
  refine propext ⟨fun⟨W,w0,w1⟩=>⟨W,w0,fun i m ys H hw=>?_⟩,fun⟨W,w0,w1⟩=>⟨W,w0,fun i m ys H hw=>?_⟩⟩
  ·rcases w1 i m ys H hw with a | ⟨a,b,c⟩
   ·exact .inl a
   ·refine .inr ⟨a,b,fun y H' hy o0 ho=>?_⟩
    match o0,ho with
    | [o],_=>exact⟨[some y],rfl,rfl,c y H' hy⟩
  ·rcases w1 i m ys H hw with a | ⟨a,b,c⟩
   ·exact .inl a
   ·refine .inr ⟨a,b,fun y H' hy=>?_⟩
    obtain⟨o1,e1,e2,e3⟩:=c y H' hy [none] rfl
    exact e3
 rw[e] at h
 exact zcH (xs:=[x]) (g:=Va 0) VG ⟨L.kind,L.R4,L.names,L.fr,L.fvs⟩ hc hi (fun cl C s₂ H₂ fp=>yI (X:=X.blk sc cl C (QJ X [x] js) s₂ H₂ fp) L.nd rfl (.inl (lookup_relabel_local L.hx)) (.inr (lookup_relabel_local L.hx))) hjs ht he hs I h hfin
theorem zhT (VG:X.env.scope=uP)(L:Yy uP sc x (js.map fun j=>X.N.getD j "")){rd:Cx->Prop}(hc:∀sc cl C N s H fp,rd (X.blk sc cl C N s H fp))(hi:PIr rd X (.Name x px) iter wi)(hjs:∀j∈js,j<X.N.length)
  (ht:∀(cl:List (Str×Addr)) (C:Addr) (s₂:Shared) (H₂:Hp) (fp:List Addr) (pins:List (Addr×Obj)) (s':Shared) (σ':St) (H':Hp) (Q:Bool->Hp->Prop),Inv (X.blk sc cl C (lcN X x js) s₂ H₂ fp) pins σ' H' s'->tt σ' H' Q ->
   wpAny (model X.prog X.w) X.A (Y7 ifs (compEnvC sc cl C X.env)) (TP (X.blk sc cl C (lcN X x js) s₂ H₂ fp) pins σ' Q) (fun _ _=>False) s')
  (he:∀(cl:List (Str×Addr)) (C:Addr) (s₂:Shared) (H₂:Hp) (fp:List Addr),PE (X.blk sc cl C (lcN X x js) s₂ H₂ fp) elt te)
  (hs:∀x,foldedSetIterable iter X.env x=pure x:=by intro _;rfl) :
  PE X (.ListComp elt [⟨.Name x px,iter,ifs,0⟩] sc pos) (tLC wi js tt te):=by
 intro pins s σ H Q I h
 rw[eval_ListComp]
 refine zeK (use:=none) (Fin:=fun ys H=>∀p,H p=none->Q (.ref p) (upd H p (.lst ys))) VG L hc hi hjs ht he hs I h fun D C s5 H5 ys its k m5 J oD oC hDC p1 vs z hn fin=>?_
 refine⟨m5,hn,fun h' hsb=>?_⟩
 have J2:Inv X pins σ H5 { s5 with heap:=h',toks:=s5.toks }:=J.turned (it:=C) (fun b o hb e=>hsb.extBut b o hb e) oC.free oC.loc (.inr oC.new) oC.cel oC.pin
 have p1':h'.get? D=some (vJ its k):=hsb.extBut _ _ hDC p1
 have J3:Inv X pins σ (upd H5 D (.lst ys)) { s5 with heap:=h',toks:=s5.toks }:=J2.track oD.free oD.loc oD.new oD.cel oD.pin ⟨z,its,k,vs,p1'⟩
 exact⟨.ref D,_,J3,rfl,fin D oD.free⟩
theorem zjO (VG:X.env.scope=uP)(L:Yy uP sc x (js.map fun j=>X.N.getD j ""))(hc:X.calm=true)(hi:PI X (.Name x px) iter wi)(hjs:∀j∈js,j<X.N.length)
  (ht:∀(cl:List (Str×Addr)) (C:Addr) (s₂:Shared) (H₂:Hp) (fp:List Addr) (pins:List (Addr×Obj)) (s':Shared) (σ':St) (H':Hp) (Q:Bool->Hp->Prop),Inv (X.blk sc cl C (lcN X x js) s₂ H₂ fp) pins σ' H' s'->tt σ' H' Q ->
   wpAny (model X.prog X.w) X.A (Y7 ifs (compEnvC sc cl C X.env)) (TP (X.blk sc cl C (lcN X x js) s₂ H₂ fp) pins σ' Q) (fun _ _=>False) s')
  (he:∀(cl:List (Str×Addr)) (C:Addr) (s₂:Shared) (H₂:Hp) (fp:List Addr),PE (X.blk sc cl C (lcN X x js) s₂ H₂ fp) elt te)
  (hs:∀x,foldedSetIterable iter X.env x=pure x:=by intro _;rfl) :
  PE X (.ListComp elt [⟨.Name x px,iter,ifs,0⟩] sc pos) (tLC wi js tt te) :=
 zhT VG L (rd:=Calm) (fun _ _ _ _ _ _ _=>hc) hi hjs ht he hs
def sLC (i:Nat)(wi:TI)(js:List Nat)(tt:TT)(te:TE):TS:=fun D σ H=>tLC wi js tt te σ H fun v H1=>D.nx (σ.set i (some v)) H1
theorem QK {i:Nat}{y:Str}{py spos:Pos}(hN:X.N.Nodup)(hy:X.N[i]?=some y)(hl:Loc X.env.scope y)(hf:X.fn y=true\/X.env.scope.names.lookup y=some .local)
  (VG:X.env.scope=uP)(L:Yy uP sc x (js.map fun j=>X.N.getD j ""))(hc:X.calm=true)(hi:PI X (.Name x px) iter wi)(hjs:∀j∈js,j<X.N.length)
  (ht:∀(cl:List (Str×Addr)) (C:Addr) (s₂:Shared) (H₂:Hp) (fp:List Addr) (pins:List (Addr×Obj)) (s':Shared) (σ':St) (H':Hp) (Q:Bool->Hp->Prop),Inv (X.blk sc cl C (lcN X x js) s₂ H₂ fp) pins σ' H' s'->tt σ' H' Q ->
   wpAny (model X.prog X.w) X.A (Y7 ifs (compEnvC sc cl C X.env)) (TP (X.blk sc cl C (lcN X x js) s₂ H₂ fp) pins σ' Q) (fun _ _=>False) s')
  (he:∀(cl:List (Str×Addr)) (C:Addr) (s₂:Shared) (H₂:Hp) (fp:List Addr),PE (X.blk sc cl C (lcN X x js) s₂ H₂ fp) elt te)
  (hsw:swapsWith (.ListComp elt [⟨.Name x px,iter,ifs,0⟩] sc pos) (some (.Name y py)) spos.line X.env=pure true)(hs:∀x,foldedSetIterable iter X.env x=pure x:=by intro _;rfl) :
  PS X (.Assign [.Name y py] (.ListComp elt [⟨.Name x px,iter,ifs,0⟩] sc pos) spos) (sLC i wi js tt te):=by
 intro pins s σ H D I h
 rw[exec_Assign_Name_used _ _ _ _ hsw]
 refine wpAny_bind (wpAny_standAt (wpAny_bind ?_))
 show wpAny _ _ (do let _ <-comprehension (.ListComp elt [⟨.Name x px,iter,ifs,0⟩] sc pos) sc X.env _ (newList []) false (eval iter X.env) (some (assign (.Name y py) X.env))) _ _ s
 have pg:=yI (X:=X) (i:=i) (x:=y) (pos:=py) hN hy hl hf
 refine wpAny_bind (wpAny_mono (zeK (use:=some (assign (.Name y py) X.env)) (QQ:=fun _ z=>SP X pins D .next z) (Fin:=fun ys H=>∀p,H p=none->D.nx (σ.set i (some (.ref p))) (upd H p (.lst ys))) VG L (rd:=Calm) (fun _ _ _ _ _ _ _=>hc) hi hjs ht he hs I h fun A C s5 H5 ys its k m5 J oD oC hDC p1 vs z hn fin=>?_) (fun _ z hq=>wpAny_pure (wpAny_pure hq)) fun _ _ e=>e)
 have J1:Inv X pins σ (upd H5 A (.lst ys)) s5:=J.track oD.free oD.loc oD.new oD.cel oD.pin ⟨z,its,k,vs,p1⟩
 obtain⟨oc,es,ep,hC,hd,hr⟩:=hn
 have R4:∀v,oc.data≠.cell v:=fun v q=>by rw[hd] at q;cases q
 have hCA:C≠A:=Ne.symm hDC
 have fC:(upd H5 A (.lst ys)) C=none:=by rw[zE hCA];exact oC.free
 have J2:Inv X (pins++[(C,oc)]) σ (upd H5 A (.lst ys)) s5:=J1.Vz fun p hp=>(List.mem_append.mp hp).elim (fun q=>J1.pin p (zqZ _ q)) fun q=>by
  have e:p=(C,oc):=by simpa using q
  subst e
  exact⟨hC,fC,oC.loc,oC.fs,R4⟩
 refine wpAny_mono (pg _ s5 σ _ (.ref A) (.ref A) (fun σ6 H6=>σ6=σ.set i (some (.ref A))/\H6=upd H5 A (.lst ys)) J2 rfl ⟨rfl,rfl⟩) (fun _ s6 ⟨σ6,H6,I6,e1,e2⟩=>?_) fun _ _ e=>e
 subst e1 e2
 obtain⟨c1,c2,_⟩:=I6.pin (C,oc) (zqZ _ (zqZ _ (by simp)))
 refine⟨m5,⟨oc,es,ep,c1,hd,hr⟩,fun h' hsb=>?_⟩
 have J3:Inv X pins (σ.set i (some (.ref A))) (upd H5 A (.lst ys)) s6:=I6.Vz fun p hp=>I6.pin p (zqZ _ (List.mem_append_left _ hp))
 have J4:Inv X pins (σ.set i (some (.ref A))) (upd H5 A (.lst ys)) { s6 with heap:=h',toks:=s6.toks }:=J3.turned (it:=C) (fun b o hb e=>hsb.extBut b o hb e) c2 oC.loc (.inr oC.new) oC.cel oC.pin
 exact⟨_,_,J4,fin A oD.free⟩
end
section
variable {X:Cx}
def R5:TT:=fun _ H Q=>Q true H
theorem uK {sc uP:Scope}{x:Str}{js:List Nat}{elt iter:Expr}{px pos:Pos}{wi:TI}{te:TE}(VG:X.env.scope=uP)(L:Yy uP sc x (js.map fun j=>X.N.getD j ""))(hc:X.calm=true)(hi:PI X (.Name x px) iter wi)(hjs:∀j∈js,j<X.N.length)
  (he:∀(cl:List (Str×Addr)) (C:Addr) (s₂:Shared) (H₂:Hp) (fp:List Addr),PE (X.blk sc cl C (lcN X x js) s₂ H₂ fp) elt te)
  (hs:∀x,foldedSetIterable iter X.env x=pure x:=by intro _;rfl) :
  PE X (.ListComp elt [⟨.Name x px,iter,[],0⟩] sc pos) (tLC wi js R5 te) :=
 zjO VG L hc hi hjs (fun cl C s₂ H₂ fp pins s' σ' H' Q I h=>wpAny_pure ⟨H',I,h⟩) he hs
theorem Kp {K:Frag}{a:Addr}{xs:List V}{σ:St}{js:List Nat}{tt:TT}{te:TE}{H:Hp}{Qf:Addr->Hp->List V->Prop}(Pv:Nat->List V->Hp->Prop)(h0:Pv 0 [] H)(hz:xs.length<=sizeLine)
  (hl:∀i ys H,i<=xs.length->Pv i ys H->zT K H a xs/\ys.length<=i)
  (hs:∀i x ys H,xs[i]?=some x->Pv i ys H->tt (YZ σ js (some x)) H fun b H2=>if b=true then te (YZ σ js (some x)) H2 fun v H3=>Pv (i+1) (ys++[v]) H3 else Pv (i+1) ys H2)
  (mt:∀ σ H Q Q',(∀b H1,Q b H1->Q' b H1)->tt σ H Q->tt σ H Q')(me:∀ σ H Q Q',(∀v H1,Q v H1->Q' v H1)->te σ H Q->te σ H Q')
  (hd:∀ys H p,Pv xs.length ys H->H p=none->Qf p H ys) :
  ∃W:Nat->Nat->List V->Hp->Prop,(∃m,W 0 m [] H)/\∀i m ys H,W i m ys H ->
   ((K9 K a).stop i H/\∀p,H p=none->Qf p H ys) \/
   ((K9 K a).go i H/\ys.length<sizeLine/\∀x H',(K9 K a).Kh i H x H'->tt (YZ σ js (some x)) H' fun b H2 =>
    if b=true then te (YZ σ js (some x)) H2 fun v H3=>∃m',m'<m/\W (i+1) m' (ys++[v]) H3 else ∃m',m'<m/\W (i+1) m' ys H2):=by
 refine⟨fun i m ys H=>m=xs.length-i/\i<=xs.length/\Pv i ys H,⟨xs.length,by simp,zq4 _,h0⟩,?_⟩
 rintro i m ys H ⟨rfl,hi,p⟩
 obtain⟨q,hy⟩:=hl i ys H hi p
 by_cases hlt:i<xs.length
 ·refine .inr ⟨⟨xs,xs[i],q,by simp[hlt]⟩,by omega,fun x H' y=>?_⟩
  obtain⟨e,y⟩:=y
  subst e
  refine mt _ _ _ _ (fun b H2 h2=>?_) (hs i x ys _ (y xs q) p)
  cases b with
  | true =>
   rw[if_pos rfl] at h2 ⊢
   exact me _ _ _ _ (fun v H3 h3=>⟨_,by omega,rfl,hlt,h3⟩) h2
  | false =>
   rw[if_neg zqM] at h2 ⊢
   exact⟨_,by omega,rfl,hlt,h2⟩
 ·have e:i=xs.length:=by omega
  subst e
  exact .inl ⟨⟨xs,q,zqY _⟩,fun pp hp=>hd ys H pp p hp⟩
theorem zgq {K:Frag}{a:Addr}{xs:List V}{σ:St}{js:List Nat}{tt:TT}{te:TE}{H:Hp}{Qf:Addr->Hp->List V->Prop}(Pv:Nat->List V->Hp->Prop)(h0:Pv 0 [] H)(hz:xs.length<=sizeLine)
  (hl:∀i ys H,i<=xs.length->Pv i ys H->xM K H a xs/\ys.length<=i)
  (hs:∀i x ys H,xs[i]?=some x->Pv i ys H->tt (YZ σ js (some x)) H fun b H2=>if b=true then te (YZ σ js (some x)) H2 fun v H3=>Pv (i+1) (ys++[v]) H3 else Pv (i+1) ys H2)
  (mt:∀ σ H Q Q',(∀b H1,Q b H1->Q' b H1)->tt σ H Q->tt σ H Q')(me:∀ σ H Q Q',(∀v H1,Q v H1->Q' v H1)->te σ H Q->te σ H Q')
  (hd:∀ys H p,Pv xs.length ys H->H p=none->Qf p H ys) :
  ∃W:Nat->Nat->List V->Hp->Prop,(∃m,W 0 m [] H)/\∀i m ys H,W i m ys H ->
   ((Itt K a).stop i H/\∀p,H p=none->Qf p H ys) \/
   ((Itt K a).go i H/\ys.length<sizeLine/\∀x H',(Itt K a).Kh i H x H'->tt (YZ σ js (some x)) H' fun b H2 =>
    if b=true then te (YZ σ js (some x)) H2 fun v H3=>∃m',m'<m/\W (i+1) m' (ys++[v]) H3 else ∃m',m'<m/\W (i+1) m' ys H2):=by
 refine⟨fun i m ys H=>m=xs.length-i/\i<=xs.length/\Pv i ys H,⟨xs.length,by simp,zq4 _,h0⟩,?_⟩
 rintro i m ys H ⟨rfl,hi,p⟩
 obtain⟨q,hy⟩:=hl i ys H hi p
 by_cases hlt:i<xs.length
 ·refine .inr ⟨⟨xs,xs[i],q,by simp[hlt]⟩,by omega,fun x H' y=>?_⟩
  obtain⟨e,y⟩:=y
  subst e
  refine mt _ _ _ _ (fun b H2 h2=>?_) (hs i x ys _ (y xs q) p)
  cases b with
  | true =>
   rw[if_pos rfl] at h2 ⊢
   exact me _ _ _ _ (fun v H3 h3=>⟨_,by omega,rfl,hlt,h3⟩) h2
  | false =>
   rw[if_neg zqM] at h2 ⊢
   exact⟨_,by omega,rfl,hlt,h2⟩
 ·have e:i=xs.length:=by omega
  subst e
  exact .inl ⟨⟨xs,q,zqY _⟩,fun pp hp=>hd ys H pp p hp⟩
theorem zcI {lo:Int}{n:Nat}{σ:St}{js:List Nat}{tt:TT}{te:TE}{H:Hp}{Qf:Addr->Hp->List V->Prop}(Pv:Nat->List V->Hp->Prop)(h0:Pv 0 [] H)(hz:n<=sizeLine)
  (hl:∀i ys H,i<=n->Pv i ys H->ys.length<=i)
  (hs:∀i ys H,i<n->Pv i ys H->tt (YZ σ js (some (.int (lo+i)))) H fun b H2=>if b=true then te (YZ σ js (some (.int (lo+i)))) H2 fun v H3=>Pv (i+1) (ys++[v]) H3 else Pv (i+1) ys H2)
  (mt:∀ σ H Q Q',(∀b H1,Q b H1->Q' b H1)->tt σ H Q->tt σ H Q')(me:∀ σ H Q Q',(∀v H1,Q v H1->Q' v H1)->te σ H Q->te σ H Q')
  (hd:∀ys H p,Pv n ys H->H p=none->Qf p H ys) :
  ∃W:Nat->Nat->List V->Hp->Prop,(∃m,W 0 m [] H)/\∀i m ys H,W i m ys H ->
   ((Itr lo n).stop i H/\∀p,H p=none->Qf p H ys) \/
   ((Itr lo n).go i H/\ys.length<sizeLine/\∀x H',(Itr lo n).Kh i H x H'->tt (YZ σ js (some x)) H' fun b H2 =>
    if b=true then te (YZ σ js (some x)) H2 fun v H3=>∃m',m'<m/\W (i+1) m' (ys++[v]) H3 else ∃m',m'<m/\W (i+1) m' ys H2):=by
 refine⟨fun i m ys H=>m=n-i/\i<=n/\Pv i ys H,⟨n,by simp,zq4 _,h0⟩,?_⟩
 rintro i m ys H ⟨rfl,hi,p⟩
 have hy:=hl i ys H hi p
 by_cases hlt:i<n
 ·refine .inr ⟨hlt,by omega,fun x H' y=>?_⟩
  obtain⟨e,y⟩:=y
  subst e y
  refine mt _ _ _ _ (fun b H2 h2=>?_) (hs i ys _ hlt p)
  cases b with
  | true =>
   rw[if_pos rfl] at h2 ⊢
   exact me _ _ _ _ (fun v H3 h3=>⟨_,by omega,rfl,hlt,h3⟩) h2
  | false =>
   rw[if_neg zqM] at h2 ⊢
   exact⟨_,by omega,rfl,hlt,h2⟩
 ·have e:i=n:=by omega
  subst e
  exact .inl ⟨zqY _,fun pp hp=>hd ys H pp p hp⟩
theorem Jg {x:V}:∀{xs:List V} {us:List Value},Vals xs us->xs.all xQ=true->∀{j:Nat},xs.findIdx? (fun y=>eqV y x)=some j ->
  ∃hj:j<us.length,eqU x us[j]=true/\∀m (hm:m<us.length),m<j->eqU x us[m]=false
 | _,_,.nil,_,j,h=>by simp at h
 | y::xs,u::us,.cons r t,f,j,h=>by
  rw[List.all_cons,zq9] at f
  rw[List.findIdx?_cons] at h
  by_cases hy:eqV y x=true
  ·rw[if_pos hy] at h
   cases h
   refine⟨by simp,?_,fun m hm hlt=>absurd hlt (Nat.not_lt_zero _)⟩
   show eqU x u=true
   rw[zbF r f.1];exact hy
  ·rw[if_neg hy] at h
   cases hq:xs.findIdx? (fun y=>eqV y x) with
   | none=>rw[hq] at h;cases h
   | some k =>
    rw[hq] at h
    have e:k+1=j:=zrc h
    subst e
    obtain⟨hk,h1,h2⟩:=Jg t f.2 hq
    refine⟨by rw[zqU];omega,h1,fun m hm hlt=>?_⟩
    cases m with
    | zero =>
     show eqU x u=false
     rw[zbF r f.1];exact Bool.eq_false_iff.mpr hy
    | succ m=>exact h2 m (by rw[zqU] at hm;omega) (by omega)
def zjP (K:Frag):V->List V->Hp->VK->Prop:=fun x vs H Q=>∃l xs y j,x=.ref l/\vs=[y]/\zT K H l xs/\xQ y=true/\xs.all xQ=true/\xs.findIdx? (fun z=>eqV z y)=some j/\Q (.int (j:Nat)) H
theorem U5:MtM X "list.index" (zjP X.K):=by
 intro pins s σ H x vs v us Q I rx rv h
 obtain⟨l,xs,y,j,rfl,rfl,hq,fy,fs,hj,q⟩:=h
 cases rx
 obtain⟨u,rfl,ru⟩:=rv.one
 obtain⟨its,r,⟨o,n,e,hc,hd,hdat⟩,hz⟩:=I.list hq
 obtain⟨cls,dd,dt,sl⟩:=o
 have hc':cls=.type "list" := hc
 have hdat':dt=.seq its.toArray n:=hdat
 subst hc' hdat'
 obtain⟨h1,h2,h3⟩:=Jg r fs hj
 have hl:=r.length
 have hn:=U3
 refine call_meets F.slot_list_index ⟨_,e,rfl⟩ F.entry_list_index (F.args_list_index_2 _ _) (SeqAt.list_indexAt l its.toArray n dd sl u (eqU y) j (by simpa using h1) (by omega) (by simpa using h2) (fun m hm hlt=>by simpa using h3 m (by simpa using hm) hlt)) ⟨e,fun w hw=>Ve ru fy r fs w (by simpa using hw),?_⟩
 exact⟨.int (j:Nat),H,I.tok _,⟨_,rfl⟩,q⟩
def zhU:V->List V->Hp->VK->Prop:=fun x vs H Q=>∃l xs i y,x=.ref l/\vs=[.int i,y]/\H l=some (.lst xs)/\0<=i/\i<=(xs.length:Int)/\xs.length<sizeLine/\Q .non (upd H l (.lst (xs.take i.toNat++y::xs.drop i.toNat)))
theorem zdT {A:Around}{s:Shared}{P:Program}{w:World}{E:Value->Shared->Prop}{Q:Value->Shared->Prop}{l:Addr}{its:List Value}{n:Nat}{i:Int}{t:Tok}{u:Value}(e:s.heap.get? l=some { cls:=.type "list", data:=.seq its.toArray n })(h0:0<=i)(h1:i<=(its.length:Int))(hz:its.length<=sizeLine)
  (h:∀f:Array Value->Array Value,f its.toArray=(its.take i.toNat++u::its.drop i.toNat).toArray->Q .none { s with heap:=s.heap.update l (Obj.mapSeq f),toks:=s.toks }):wpAny (model P w) A (call (.builtin "list.insert") [.ref l,.int i t,u]) Q E s:=by
 have hn:=U3
 have fit:¬(!Builtin.List.listFitsIndex i)=true:=by
  rw[fitsIndex_both (k:=i) (Int.le_trans (by decide) h0) (by omega)]
  exact zqM
 have hs3:its.toArray.size<=sizeLine:=by rw[zqS];exact hz
 have M:=AutoSeq1.list_insert_list_int_val_1 l its.toArray n i t u fit hs3
 refine call_meets F.slot_list_insert ⟨_,e,rfl⟩ F.entry_list_insert (F.args_list_insert_3 _ _ _) M ⟨e,?_⟩
 refine h _ ?_
 have hk:(if i<0 then (i+(its.toArray.size:Int)).toNat else min i.toNat its.toArray.size)=i.toNat:=by
  rw[if_neg (by omega),zqS]
  omega
 show(its.toArray.extract 0 (if i<0 then (i+(its.toArray.size:Int)).toNat else min i.toNat its.toArray.size)).push u++its.toArray.extract (if i<0 then (i+(its.toArray.size:Int)).toNat else min i.toNat its.toArray.size)=_
 rw[hk]
 apply Array.toList_inj.mp
 simp[List.take_of_length_le]
theorem SJ:MtM X "list.insert" zhU:=by
 intro pins s σ H x vs v us Q I rx rv h
 obtain⟨l,xs,i,y,rfl,rfl,hH,h0,h1,hz,q⟩:=h
 cases rx
 obtain⟨u,w,rfl,⟨t,rfl⟩,rw'⟩:=rv.two
 obtain⟨z,its,n,r,hl,e⟩:=I.zcD hH
 refine zdT e h0 (by rw[<-hl];exact h1) (by omega) fun f hf=>?_
 refine⟨.non,_,I.zfv (its':=its.take i.toNat++w::its.drop i.toNat) hH e hf ((r.take i.toNat).append (.cons rw' (r.drop i.toNat))) ?_,rfl,q⟩
 rw[zqQ,zqU,zq5,List.length_drop]
 omega
def zgr (K:Frag):V->List V->Hp->VK->Prop:=fun x vs H Q=>∃l b xs zs,x=.ref l/\vs=[.ref b]/\H l=some (.lst xs)/\xM K H b zs/\xs.length+zs.length<=sizeLine/\Q .non (upd H l (.lst (xs++zs)))
theorem NQ (l:Addr)(its:Array Value)(n:Nat)(b:Addr)(its2:Array Value)(n2:Nat)(dd:Option Addr)(sl:Array (Option Value))(h0:¬(!its.isEmpty&&Builtin.List.listTooLong (its.size+its2.size))=true)(h1:its.size<=sizeLine)(h2:its.size+its2.size<=sizeLine+1) :
  Meets (Builtin.«list.extend» ⟨[.ref l,.ref b],[]⟩) (fun _ R s=>s.heap.get? l=some { cls:=.type "list", data:=.seq its n }/\s.heap.get? b=some { cls:=.type "tuple", dict:=dd,data:=.seq its2 n2,slots:=sl } /\
   R (.ok (.ret Value.none)) { s with heap:=s.heap.update l (Obj.mapSeq fun x=>x++its2),toks:=s.toks }) :=
 .of_wp fun prog w A R s h=>by
  obtain⟨hp,g,d,tk,os⟩:=s
  obtain⟨hl,hb,h⟩:=h
  have g1:=AutoSeq1.idx_int
  have g2:=AutoSeq1.sub_tuple_tuple
  have g3:=AutoSeq1.sub_list_list
  have g4:=AutoSeq1.sub_tuple_list
  have g5:=AutoSeq1.sub_list_tuple
  have hz:(its++its2).size<=sizeLine+1:=by rw[Array.size_append];exact h2
  wp_walk using (wpAny_updateSeq hl rfl (hz:=h1) (_hz':=hz)),AutoSeq1.wpAny_loadPart' hl,AutoSeq1.wpAny_loadPart' hb
  exact⟨_,rfl,h⟩
theorem Jh:MtM X "list.extend" (zgr X.K):=by
 intro pins s σ H x vs v us Q I rx rv h
 obtain⟨l,b,xs,zs,rfl,rfl,hH,hB,hz,q⟩:=h
 cases rx
 obtain⟨u,rfl,ru⟩:=rv.one
 cases ru
 obtain⟨z,its,n,r,hl,e⟩:=I.zcD hH
 obtain⟨its2,r2,⟨o,e2,hc,n2,hd⟩,z2⟩:=I.tuple hB
 obtain⟨cls,dd,dt,sl⟩:=o
 have hc':cls=.type "tuple" := hc
 have hd':dt=.seq its2.toArray n2:=hd
 subst hc' hd'
 have hl2:=r2.length
 have hsz:its.toArray.size+its2.toArray.size<=sizeLine:=by rw[zqS,zqS];omega
 have zgm:¬(!its.toArray.isEmpty&&Builtin.List.listTooLong (its.toArray.size+its2.toArray.size))=true:=by
  rw[zcE hsz,Bool.and_false]
  exact zqM
 refine call_meets F.slot_list_extend ⟨_,e,rfl⟩ F.entry_list_extend (F.args_list_extend_2 _ _)
  (NQ l its.toArray n b its2.toArray n2 dd sl zgm (by rw[zqS];omega) (by omega)) ⟨e,e2,?_⟩
 refine⟨.non,_,I.zfv (its':=its++its2) hH e (by simp) (r.append r2) ?_,rfl,q⟩
 rw[zqQ]
 omega
theorem zao (bs:List Bool):((List.range bs.length).all fun i=>(bs[i]?).getD true)=bs.all id:=by
 rw[zrm,zrb,zrb]
 constructor
 ·intro h b hb
  obtain⟨i,hi,e⟩:=zro hb
  have q:=h i (List.mem_range.mpr hi)
  rw[zqJ hi,Option.getD_some,e] at q
  exact q
 ·intro h i hi
  have hi':=List.mem_range.mp hi
  rw[zqJ hi',Option.getD_some]
  exact h _ (zrn hi')
theorem Zf (hc:X.calm=true):ZR X (.builtin "all") (fun xs H Q=>∃(p:Addr) (bs:List Bool),xs=[.ref p]/\zT X.K H p (bs.map V.bl)/\Q (.bl (bs.all id)) H):=by
 intro pins s σ H xs us Q I r h
 obtain⟨p,bs,rfl,hq,q⟩:=h
 obtain⟨u,rfl,rx⟩:=vals1 r
 cases rx
 obtain⟨its,r',pl,hz⟩:=I.list hq
 have hlen:bs.length=its.length:=by have:=r'.length;rw[zqI] at this;exact this
 have hlt:p<s.heap.objs.size:=by obtain⟨_,e,_⟩:=pl.isList;exact zqP e
 refine call_all_walk (wpAny_pyIter_list pl.isList ?_)
 refine⟨s.heap.objs.size,[s.heap.objs.size,p],[s.heap.objs.size],its.toArray.size,_,_,fun i=>(bs[i]?).getD true,rfl,Walks.list (A:=X.A.in1) (I.ok.hd hc) _ p (zqX hlt) its.toArray,
  ⟨⟨_,zq2 _ rfl,rfl,rfl⟩,pl.isList.push _⟩,fun i v s' Q' E' hP hQ=>?_,fun h' tk hk=>?_⟩
 ·have hP':its[i]?=some v:=by simpa using hP
  have hi:i<bs.length:=by
   have:=(zqL.mp hP').1
   omega
  obtain⟨w,hw,rw'⟩:=r'.get (i:=i) (x:=.bl bs[i]) (by rw[zqK,zqJ hi];rfl)
  rw[hP'] at hw
  cases hw
  cases rw'
  simp only[zqJ hi,Option.getD_some] at hQ
  exact wpAny_truthy_bool hQ
 ·have kp:∀b o,s.heap.get? b=some o->h'.get? b=some o:=fun b o e=>hk b o (fun hm=>by
   rw[List.mem_singleton.mp hm] at e
   exact Nat.lt_irrefl _ (zqP e)) (zqO _ e)
  refine⟨.bl _,H,I.kept kp,rfl,?_⟩
  rw[zqS,<-hlen,zao]
  exact q
theorem Ji (hc:X.calm=true):ZR X (.builtin "sum") (fun xs H Q=>∃(p:Addr) (ns:List Int),xs=[.ref p]/\zT X.K H p (ns.map V.int)/\Q (.int ns.sum) H):=by
 intro pins s σ H xs us Q I r h
 obtain⟨p,ns,rfl,hq,q⟩:=h
 obtain⟨u,rfl,rx⟩:=vals1 r
 cases rx
 obtain⟨its,r',pl,hz⟩:=I.list hq
 have hi:IntsAre its ns:=intsAre_of r'
 obtain⟨zs,hx⟩:=hi.allInts.items
 have hl':s.heap.IsList p (intItems zs):=hx ▸ pl.isList
 refine sum_intListG (I.ok.hd hc) hl' fun h' tk t' hk=>?_
 have e1:ns=zs.toList.map (·.1):=by
  rw[<-nums_intItems,<-hx]
  exact(show numsOf its.toArray.toList=ns from hi.numsOf).symm
 have e2:preSum (numAt zs) zs.size=ns.sum:=by
  rw[preSum_eq,List.take_of_length_le (by simp),e1]
 rw[e2]
 exact⟨.int ns.sum,H,I.kept hk,⟨_,rfl⟩,q⟩
theorem tX:ZR X (.builtin "isinstance") (fun xs H Q=>∃x T t b,xs=[x,.ty T]/\QC X.K H x t/\PySem.W.kitOne X.K t (.type T)=some b/\Q (.bl b) H):=by
 intro pins s σ H xs us Q I r h
 obtain⟨x,T,t,b,rfl,ty,e,q⟩:=h
 obtain⟨u,w',rfl,rx,ry⟩:=vals2 r
 cases ry
 exact zfs I rx ty e fun tk=>⟨.bl b,H,I.tok _,rfl,q⟩
end
def met (acc:List Str)(x:Str):List Str:=if acc.any (·==x) then acc else acc++[x]
def dd (xs:List Str):List Str:=xs.foldl met []
theorem zeL (xs:List Str)(x:Str):dd (xs++[x])=met (dd xs) x:=by
 unfold dd
 rw[List.foldl_append]
 rfl
theorem Kq (acc:List Str)(x k:Str):(met acc x).any (·==k)=(acc.any (·==k)||decide (k=x)):=by
 unfold met
 by_cases h:acc.any (·==x)=true
 ·rw[if_pos h]
  by_cases e:k=x
  ·subst e;rw[h];simp
  ·simp[e]
 ·rw[if_neg h,List.any_append]
  by_cases e:k=x
  ·subst e;simp
  ·have hb:(x==k)=false:=by simpa [beq_iff_eq] using (fun z:x=k=>e z.symm)
   simp[hb,e]
theorem Wm (acc:List Str)(x:Str):(met acc x).length=if acc.any (·==x)=true then acc.length else acc.length+1:=by
 unfold met
 split<;>simp
theorem zk5 (xs:List Str):(dd xs).length<=xs.length:=by
 suffices h:∀acc:List Str,(xs.foldl met acc).length<=acc.length+xs.length by have:=h [];unfold dd;simpa using this
 induction xs with
 | nil=>intro acc;simp
 | cons x r ih =>
  intro acc
  rw[List.foldl_cons]
  have h1:=ih (met acc x)
  have h2:=Wm acc x
  rw[zqU]
  split at h2<;>omega
theorem zgs {xs:List Str}(h:xs.Nodup):(dd xs).length=xs.length:=by
 suffices g:∀acc:List Str,(∀x∈xs,acc.any (·==x)=false)->(xs.foldl met acc).length=acc.length+xs.length by have:=g [] (fun _ _=>rfl);unfold dd;simpa using this
 induction xs with
 | nil=>intro acc _;simp
 | cons x r ih =>
  intro acc ha
  obtain⟨hx,hr⟩:=List.nodup_cons.mp h
  rw[List.foldl_cons,ih hr (met acc x) (fun y hy=>?_),Wm,ha x zq1]
  ·simp;omega
  ·rw[Kq,ha y (zqT _ hy)]
   have:y≠x:=fun e=>hx (e ▸ hy)
   simp[this]
theorem zjQ {xs:List Str}(h:¬xs.Nodup):(dd xs).length<xs.length:=by
 suffices g:∀acc:List Str,¬xs.Nodup->(xs.foldl met acc).length<acc.length+xs.length by have:=g [] h;unfold dd;simpa using this
 clear h
 have le:∀(ys acc:List Str),(ys.foldl met acc).length<=acc.length+ys.length:=fun ys=>by
  induction ys with
  | nil=>intro acc;simp
  | cons x r ih =>
   intro acc
   rw[List.foldl_cons]
   have h1:=ih (met acc x)
   have h2:=Wm acc x
   rw[zqU]
   split at h2<;>omega
 have mem:∀(ys acc:List Str) (x:Str),x∈ys->acc.any (·==x)=true->(ys.foldl met acc).length<acc.length+ys.length:=fun ys=>by
  induction ys with
  | nil=>intro acc x hx _;cases hx
  | cons y r ih =>
   intro acc x hx ha
   rw[List.foldl_cons,zqU]
   rcases List.mem_cons.mp hx with e | hx
   ·subst e
    have h1:=le r (met acc x)
    have h2:=Wm acc x
    rw[if_pos ha] at h2
    omega
   ·have h1:=ih (met acc y) x hx (by rw[Kq,ha];rfl)
    have h2:=Wm acc y
    split at h2<;>omega
 induction xs with
 | nil=>intro acc h;exact absurd List.nodup_nil h
 | cons x r ih =>
  intro acc h
  rw[List.foldl_cons,zqU]
  by_cases hx:x∈r
  ·have h1:=mem r (met acc x) x hx (by rw[Kq];simp)
   have h2:=Wm acc x
   split at h2<;>omega
  ·have h1:=ih (met acc x) (fun hr=>h (List.nodup_cons.mpr ⟨hx,hr⟩))
   have h2:=Wm acc x
   split at h2<;>omega
abbrev YH (led:Bool):Obj:={ cls:=.type "set", dict:=none,data:=.set #[] 0 (.fresh 0 0 led) }
section
variable {P:Program}{w:World}{A:Around}{R:Result->Shared->Prop}{E:Value->Shared->Prop}{s:Shared}
theorem zgt {I:Addr}{fp wr:List Addr}{G:Array GenState->Array GenState->Prop}{n:Nat}{Pv:Nat->Value->Prop}{St:Nat->Shared->Prop}(W:WalksS P w A.in1 I fp wr G n Pv St)(S:Addr)(hS:S∉fp)(xs:List Str)(hn:xs.length=n)
  (hv:∀i v,Pv i v->∃t,v=.str (xs.getD i "") t)(hb:n+1<scanBound) :
  ∀(k i:Nat) (z:Shared),n-i=k->i<=n->St i z->z.heap.SetOf (strKind P w) S (fun q=>(dd (xs.take i)).any (·==q)) (dd (xs.take i)).length ->
   (∀z',Moved (S::wr) G z z'->z'.heap.SetOf (strKind P w) S (fun q=>(dd xs).any (·==q)) (dd xs).length->R (.ok (.ret .none)) z') ->
   codeAny (model P w) A (.builtin "set.update.loop" ⟨[.ref S,.ref I],[]⟩) R z:=by
 have zk6:S∉wr:=fun h=>hS (W.sub _ h)
 have more:∀b∈wr,b∈S::wr:=fun b h=>zqT _ h
 intro k
 induction k with
 | zero =>
  intro i z hk hi st zfz fin
  have ei:i=n:=by omega
  subst ei
  refine codeAny_builtin PyProof.Rows.F.entry_set_update_loop ?_
  rw[Around.under_plainId PyProof.Rows.F.plain_set_update_loop _]
  show wpAny _ A.in1 (pyNext (.ref I)>>=_) _ _ z
  refine wpAny_bind (W.done z _ _ st fun z' mv=>?_)
  show wpAny _ A.in1 (ret Value.none) _ _ z'
  refine wpAny_pure (fin z' (mv.mono more) ?_)
  rw[<-hn,zra] at zfz
  obtain⟨o,es,ep,t,ho,more'⟩:=zfz
  exact⟨o,es,ep,t,mv.heap S _ zk6 ho,more'⟩
 | succ k ih =>
  intro i z hk hi st zfz fin
  have il:i<n:=by omega
  refine codeAny_builtin PyProof.Rows.F.entry_set_update_loop ?_
  rw[Around.under_plainId PyProof.Rows.F.plain_set_update_loop _]
  show wpAny _ A.in1 (pyNext (.ref I)>>=_) _ _ z
  refine wpAny_bind (W.item i z _ _ il st fun v z' pv st' mv=>?_)
  obtain⟨t,rfl⟩:=hv i v pv
  have hset':z'.heap.SetOf (strKind P w) S (fun q=>(dd (xs.take i)).any (·==q)) (dd (xs.take i)).length:=by
   obtain⟨o,es,ep,tb,ho,more'⟩:=zfz
   exact⟨o,es,ep,tb,mv.heap S _ zk6 ho,more'⟩
  show wpAny _ A.in1 (holding [Value.str (xs.getD i "") t] (setAdd S (.str (xs.getD i "") t))>>=_) _ _ z'
  refine wpAny_bind (wpAny_holding ?_)
  unfold setAdd
  refine wpAny_holding ?_
  refine wpAny_bind ((strKind P w).pyHash (k:=xs.getD i "") (strKind_is _ _ _ _) ?_)
  have hroom:(dd (xs.take i)).length+1<scanBound:=by
   have:=zk5 (xs.take i)
   rw[zq5] at this
   omega
  have et:xs.take (i+1)=xs.take i++[xs.getD i ""]:=by
   rw[List.take_succ,zqV,zqJ (by omega)]
   rfl
  refine wpAny_setAddHashed_of (knd:=strKind P w) (s:={ z' with toks:=z'.toks+1 }) (strKind_is _ _ _ _) rfl hset' hroom fun h' sb s2=>?_
  have zk7:h'.SetOf (strKind P w) S (fun q=>(dd (xs.take (i+1))).any (·==q)) (dd (xs.take (i+1))).length :=
   SetOf_congr s2 (fun q=>by rw[et,zeL,Kq]) (by rw[et,zeL,Wm])
  refine wpAny_pure ⟨plainId_quiet PyProof.Rows.F.plain_set_update_loop _,ih (i+1) _ (by omega) il (W.frame _ z' _ _ st' (Nat.le_succ _) fun b hb' o e=>?_) zk7 fun z'' mv2 s3=>?_⟩
  ·rw[sb.2 b (fun h:b=S=>hS (by rw[<-h];exact hb'))];exact e
  ·refine fin z'' (Moved.trans W.gtrans ((mv.mono more).then_heap (Nat.le_succ _) fun b o hb' e=>?_) mv2) s3
   rw[sb.2 b (fun h:b=S=>hb' (by rw[h];exact zq1))];exact e
theorem zhV {xs:List Str}:∀{us:List Value},Vals (xs.map V.str) us->∀(i:Nat) (v:Value),us[i]?=some v->∃t,v=.str (xs.getD i "") t:=by
 intro us r i v h
 have hl:=r.length
 rw[zqI] at hl
 have hi:i<xs.length:=by have:=(zqL.mp h).1;omega
 obtain⟨u,hu,t,e⟩:=r.get (i:=i) (x:=.str xs[i]) (by rw[zqK,zqJ hi];rfl)
 rw[h] at hu
 cases hu
 refine⟨t,?_⟩
 rw[e,zqV,zqJ hi]
 rfl
set_option maxHeartbeats 8000000 in
theorem zgu {l:Addr}{us:List Value}{xs:List Str}{Q:Value->Shared->Prop}(hh:A.handled=none)(hl:s.heap.IsList l us.toArray)(r:Vals (xs.map V.str) us)(hb:xs.length+1<scanBound)
  (h:∀(h':Heap) (tk:Nat),h'.SetOf (strKind P w) s.heap.objs.size (fun q=>(dd xs).any (·==q)) (dd xs).length->(∀b o,s.heap.get? b=some o->h'.get? b=some o)->Q (.ref s.heap.objs.size) { s with heap:=h',toks:=tk }) :
  wpAny (model P w) A (call (.type "set") [.ref l]) Q E s:=by
 have hlen:xs.length=us.toArray.size:=by have:=r.length;rw[zqI] at this;simpa using this
 obtain⟨cc,tl,hmro⟩:=F.called_set.mro
 have made:=F.called_set.made
 have sub:=F.called_set.sub
 refine wpAny_call (codeAny_of_tree ?_)
 show wpAny _ _ (callAny (.type "set") _) _ _ _
 refine wpAny_pure ⟨Code.quiet_builtin _ (by decide +kernel),codeAny_builtin F.entry_type_call ?_⟩
 rw[Around.under_plain (weight_type_call_type "set" [.ref l] []) rfl]
 have a1:=F.called_set.notType
 have a2:=F.called_set.canCreate
 have a3:=F.typeCall_set_1 (.ref l)
 repeat (any_goals (first | assumption | wp_step))
 refine codeAny_mono (code_set_new_1 (.ref l) (E:=E) (Q₁:=fun ob z=>∃led:Bool,ob=.ref s.heap.objs.size/\z={ s with heap:=s.heap.push { cls:=.type "set", dict:=none,data:=.set #[] 0 (.fresh 0 0 led) } }) fun led=>⟨led,rfl,rfl⟩) fun res z hres=>?_
 cases res with
 | error e=>exact hres
 | ok fl =>
  cases fl with
  | ret ob =>
   obtain⟨led,rfl,rfl⟩:=hres
   have gS:(s.heap.push (YH led)).get? s.heap.objs.size=some (YH led):=zq2 _ rfl
   have tS:Shared.TypeIs { s with heap:=s.heap.push (YH led) } (.ref s.heap.objs.size) "set" := ⟨_,gS,rfl⟩
   have b1:=F.called_set.init.lookup
   have b2:=F.called_set.init.bind (.ref s.heap.objs.size)
   repeat (any_goals (first | assumption | wp_step))
   refine codeAny_mono (codeAny_call_builtin (R:=wants (fun v z=>v=.none/\∃h' tk,z={ s with heap:=h',toks:=tk }/\h'.SetOf (strKind P w) s.heap.objs.size (fun q=>(dd xs).any (·==q)) (dd xs).length/\(∀b o,s.heap.get? b=some o->h'.get? b=some o)) E)
    F.called_set.init.plain F.entry_set_init (check_set_init_1 tS ?_)) fun res2 z2 zgv=>?_
   ·obtain⟨ol,gl,cl,nl,dl⟩:=hl
    obtain⟨ocls,odict,odata,oslots⟩:=ol
    have cl':ocls=.type "list" := cl
    have dl':odata=.seq us.toArray nl:=dl
    subst cl' dl'
    have gl':(s.heap.push (YH led)).get? l=some { cls:=.type "list", dict:=odict,data:=.seq us.toArray nl,slots:=oslots }:=zqO _ gl
    have c1:=F.sub_list_set
    have c2:=F.sub_list_frozenset
    have c3:(Value.type "list" == Value.type "dict")=false:=by decide
    have isl:(s.heap.push (YH led)).IsList l us.toArray:=⟨_,gl',rfl,nl,rfl⟩
    unfold Builtin.«set.__init__» noKeywords Builtin.Frozenset.updateFrom
    generalize hit:pyIter=itf
    wp_walk
    subst hit
    refine wpAny_pyIter_list isl ?_
    refine wpAny_bind (wpAny_runValue ?_)
    have ltl:l<s.heap.objs.size:=zqP gl
    have hd3:A.in1.in1.in1.handled=none:=by simp[hh]
    have sz1:(s.heap.push (YH led)).objs.size=s.heap.objs.size+1:=Heap.size_push ..
    have nel:l≠(s.heap.push (YH led)).objs.size:=by rw[sz1];exact zqX (Nat.lt_succ_of_lt ltl)
    have nin:s.heap.objs.size∉[(s.heap.push (YH led)).objs.size,l]:=by
     rw[sz1]
     simp only[List.mem_cons,zq8,or_false,not_or]
     exact⟨zqX (Nat.lt_succ_self _),Nat.ne_of_gt ltl⟩
    refine zgt ((Walks.list hd3 _ l nel us.toArray).toS) s.heap.objs.size nin xs hlen (fun i v hv=>zhV r i v (by simpa using hv)) (by rw[<-hlen];exact hb) (us.toArray.size-0) 0 _ (by omega) (zq4 _)
     ⟨⟨_,zq2 _ rfl,rfl,rfl⟩,isl.push _⟩ ?s0 ?fin
    case s0 =>
     have gg:((s.heap.push (YH led)).push { cls:=.type "list_iterator", data:=.fields #[.ref l,.int 0 0] }).get? s.heap.objs.size=some (YH led):=zqO _ gS
     exact SetOf_congr ((setObjOf_fresh (knd:=strKind P w) led).setOf gg (by unfold scanBound;omega)) (fun _=>rfl) rfl
    case fin =>
     intro z mv sz
     obtain⟨h',g',d',tk',os'⟩:=z
     have e1:g'=s.gens:=mv.gens
     have e2:d'=s.drawn:=mv.drawn
     have e3:os'=s.os:=mv.os
     subst e1 e2 e3
     show wpAny _ _ _ _ _ _
     refine wpAny_pure ?_
     show wpAny _ _ (ret Value.none) _ _ _
     refine wpAny_pure ⟨rfl,h',tk',rfl,sz,fun b o e=>?_⟩
     have lb:=zqP e
     have n1:b≠s.heap.objs.size:=zqX lb
     have n2:b≠(s.heap.push (YH led)).objs.size:=by rw[sz1];exact zqX (Nat.lt_succ_of_lt lb)
     exact mv.heap b o (by simp only[List.mem_cons,zq8,or_false,not_or];exact⟨n1,n2⟩) (zqO _ (zqO _ e))
   ·cases res2 with
    | error e=>exact zgv
    | ok fl2 =>
     cases fl2 with
     | ret v =>
      obtain⟨rfl,h',tk,rfl,sS,kk⟩:=zgv
      repeat (any_goals (first | assumption | wp_step))
      exact h _ _ sS kk
     | _=>exact zgv.elim
  | _=>exact hres.elim
end
section
variable {X:Cx}
def zhW (P:Program)(w:World)(a:Addr)(n:Nat):HO:=.ext fun h=>∃S,h.SetOf (strKind P w) a S n
theorem zgw (hc:X.calm=true):ZR X (.type "set") (fun xs H Q=>∃(p:Addr) (ts:List Str),xs=[.ref p]/\zT X.K H p (ts.map V.str)/\ts.length<=100/\∀q,H q=none->Q (.ref q) (upd H q (zhW X.prog X.w q (dd ts).length))):=by
 intro pins s σ H xs us Q I r h
 obtain⟨p,ts,rfl,hq,h100,q⟩:=h
 obtain⟨u,rfl,rx⟩:=vals1 r
 cases rx
 obtain⟨its,r',pl,hz⟩:=I.list hq
 refine zgu (I.ok.hd hc) pl.isList r' (Nat.lt_of_le_of_lt (Nat.add_le_add_right h100 1) (by decide)) fun h' tk hS hk=>?_
 refine⟨.ref s.heap.objs.size,_,I.laid hk (zqY _) (o:=zhW X.prog X.w s.heap.objs.size (dd ts).length) ?_,rfl,q _ (I.hok.fresh (zqY _))⟩
 refine⟨⟨_,hS⟩,?_,?_⟩
 ·obtain⟨o,es,ep,t,ho,_⟩:=hS
  exact⟨o,ho⟩
 ·rintro h1 h2 ⟨S,o,es,ep,t,ho,rest⟩ k
  exact⟨S,o,es,ep,t,k o ho,rest⟩
theorem call_len_set':ZR X (.builtin "len") (fun xs H Q=>∃(p:Addr) (n:Nat),xs=[.ref p]/\H p=some (zhW X.prog X.w p n)/\Q (.int n) H):=by
 intro pins s σ H xs us Q I r h
 obtain⟨p,n,rfl,hp,q⟩:=h
 obtain⟨u,rfl,rx⟩:=vals1 r
 cases rx
 obtain⟨⟨S,o,es,ep,t,ho,hex,hd,_,_,hb,hf,hn⟩,_⟩:=I.hok p _ hp
 have h63:(es.size:Int)<2^63:=by
  have h1:scanBound<2^63:=by decide
  omega
 refine call_len_set ho hex hd hf h63 ⟨.int n,H,I.tok _,⟨s.toks+1,?_⟩,q⟩
 rw[hn]
def zhX (K:Frag)(P:Program)(w:World)(a:Addr)(kvs:List (Str×Value)):Prop:=(a==sysModules)=false/\∃o,K.lookup a=some o/\o.IsDictOf (strKind P w) kvs
theorem zbI {a:Addr}{kvs:List (Str×Value)}(hd:zhX X.K X.prog X.w a kvs):IxR X (fun x y H Q=>∃k u v,x=.ref a/\y=.str k/\valueAt kvs k=some u/\RelV v u/\Q v H):=by
 intro value slice pins s σ H x y v u Q I rx ry h hs
 obtain⟨k,z,vv,rfl,rfl,hv,rv,q⟩:=h
 cases rx
 obtain⟨t,rfl⟩:=ry
 obtain⟨_,o,hk,hdd⟩:=hd
 have D:s.heap.DictOf (strKind X.prog X.w) a kvs:=Heap.dictOf_iff.mpr ⟨o,I.Nv a o hk,hdd⟩
 exact tail_any D.typeIs slot_dict_getitem.lookup (wpAny_getItem_of (strKind_is _ _ k t) D.mapOf hv ⟨vv,H,I.tok _,rv,q⟩) hs
theorem zap {a:Addr}{kvs:List (Str×Value)}(hd:zhX X.K X.prog X.w a kvs):VD X (compareOp .NotIn) (fun x y H Q=>∃k,x=.str k/\y=.ref a/\Q (.bl (!(valueAt kvs k).isSome)) H):=by
 intro pins s σ H x y v u Q I rx ry h
 obtain⟨k,rfl,rfl,q⟩:=h
 cases ry
 obtain⟨t,rfl⟩:=rx
 obtain⟨hs,o,hk,hdd⟩:=hd
 have D:s.heap.DictOf (strKind X.prog X.w) a kvs:=Heap.dictOf_iff.mpr ⟨o,I.Nv a o hk,hdd⟩
 exact wpAny_notIn_of (strKind_is _ _ k t) hs D.mapOf ⟨.bl _,H,I.tok _,rfl,q⟩
end
theorem yC:bootBuiltins "len"=some (.builtin "len"):=by decide +kernel
theorem VH:bootBuiltins "all"=some (.builtin "all"):=by decide +kernel
theorem zdU:bootBuiltins "sum"=some (.builtin "sum"):=by decide +kernel
theorem vq:bootBuiltins "isinstance"=some (.builtin "isinstance"):=by decide +kernel
theorem zgx:bootBuiltins "int"=some (.type "int"):=by decide +kernel
theorem zeM:bootBuiltins "bool"=some (.type "bool"):=by decide +kernel
theorem zjR:bootBuiltins "str"=some (.type "str"):=by decide +kernel
theorem zgy:bootBuiltins "tuple"=some (.type "tuple"):=by decide +kernel
theorem VJ:bootBuiltins "list"=some (.type "list"):=by decide +kernel
theorem zjS:bootBuiltins "set"=some (.type "set"):=by decide +kernel
theorem zdV {v:V}{u:Value}(h:zdx u=some v):RelV v u:=by
 cases u<;>simp only[zdx,Option.some.injEq,reduceCtorEq] at h<;>subst h<;>first | exact rfl | exact⟨_,rfl⟩
theorem Le:∀{us:List Value} {xs:List V},us.map zdx=xs.map some->Vals xs us
 | [],[],_=>.nil
 | u::us,x::xs,h=>by
  rw[zq6,zq6] at h
  injection h with h1 h2
  exact .cons (zdV h1) (Le h2)
 | [],_::_,h=>by cases h
 | _::_,[],h=>by cases h
theorem zi3 {K:Frag}{H:Hp}{p:Addr}{od:Option Addr}{it:Array Value}{n:Nat}{sl:Array (Option Value)}{xs:List V}(l:K.lookup p=some ⟨.type "tuple", od,.seq it n,sl⟩)(v:it.toList.map zdx=xs.map some)(hz:xs.length<=1000):xM K H p xs:=by
 have r:=Le v
 refine .inr ⟨_,it,n,l,rfl,rfl,?_,r⟩
 have e:xs.length=it.size:=by have:=r.length;simpa using this
 rw[<-e]
 exact zq0 (zQ hz)
theorem zjT {P:Program}{w:World}:Pairs (strKind P w) [] []/\∀e∈([]:List DictEntry),∃k,(strKind P w).is k e.key=true/\e.hash=(strKind P w).hash k:=⟨.nil,fun _ h=>nomatch h⟩
theorem zhY {P:Program}{w:World}{k:Str}{t:Tok}{v:Value}{es:List DictEntry}{kvs:List (Str×Value)}(h:Pairs (strKind P w) es kvs/\∀e∈es,∃k,(strKind P w).is k e.key=true/\e.hash=(strKind P w).hash k) :
  Pairs (strKind P w) (⟨hashStr w k,.str k t,v⟩::es) ((k,v)::kvs)/\∀e∈(⟨hashStr w k,.str k t,v⟩::es:List DictEntry),∃k,(strKind P w).is k e.key=true/\e.hash=(strKind P w).hash k:=by
 refine⟨.cons (strKind_is _ _ k t) rfl h.1,fun e he=>?_⟩
 rcases List.mem_cons.mp he with z | z
 ·subst z;exact⟨k,strKind_is _ _ k t,rfl⟩
 ·exact h.2 e z
theorem zhZ {P:Program}{w:World}{K:Frag}{p:Addr}{es:Array DictEntry}{ep:Nat}{el:List DictEntry}{kvs:List (Str×Value)}(l:K.lookup p=some ⟨.type "dict", none,.dict es ep,#[]⟩)(e:es.toList=el)(s:(p==sysModules)=false)
  (h:Pairs (strKind P w) el kvs/\∀e∈el,∃k,(strKind P w).is k e.key=true/\e.hash=(strKind P w).hash k)(nd:(kvs.map (·.1)).Nodup):zhX K P w p kvs:=by
 subst e
 exact⟨s,_,l,es,ep,⟨rfl,rfl,rfl⟩,rfl,fun x hx=>h.2 x (by simpa using hx),h.1,nd⟩
end L2
namespace ZP
open PySem
inductive Sn where
 | c0 (y:Bool)
 | mk (x:Str)
 | nt (s:Sn)
 | b2 (o:Fin 4) (s t:Sn)
 | q1 (o:Bool) (x:Str) (s:Sn)
def w2:Fin 4->Str
 | 0 => "and"
 | 1 => "or"
 | 2 => "either"
 | 3 => "if"
namespace Sn
def word:Sn->Str
 | c0 true => "yes"
 | c0 false => "no"
 | mk _ => "mark"
 | nt _ => "not"
 | b2 o _ _=>w2 o
 | q1 true _ _ => "some"
 | q1 false _ _ => "each"
def letters:Sn->List Str
 | mk x=>[x]
 | q1 _ x _=>[x]
 | _=>[]
def parts:Sn->List Sn
 | nt s=>[s]
 | b2 _ s t=>[s,t]
 | q1 _ _ s=>[s]
 | _=>[]
def count:Sn->Nat
 | nt s=>1+s.count
 | b2 _ s t=>1+(s.count+t.count)
 | q1 _ _ s=>1+s.count
 | _=>1
def depth:Sn->Nat
 | nt s=>1+s.depth
 | b2 _ s t=>1+max s.depth t.depth
 | q1 _ _ s=>1+s.depth
 | _=>1
def Qx (os:List Str):Sn->Prop
 | c0 _=>True
 | mk x=>x∈os
 | nt s=>s.Qx os
 | b2 _ s t=>s.Qx os/\t.Qx os
 | q1 _ x s=>x∈os/\s.Qx os
def op2:Fin 4->Bool->Bool->Bool
 | 0,a,b=>a&&b
 | 1,a,b=>a||b
 | 2,a,b=>a != b
 | 3,a,b=>!a||b
def val:Sn->(Str->Bool)->Bool
 | c0 y,_=>y
 | mk x,e=>e x
 | nt s,e=>!s.val e
 | b2 o s t,e=>op2 o (s.val e) (t.val e)
 | q1 true x s,e=>s.val (fun y=>if y=x then true else e y)||s.val (fun y=>if y=x then false else e y)
 | q1 false x s,e=>s.val (fun y=>if y=x then true else e y)&&s.val (fun y=>if y=x then false else e y)
theorem val_congr {os:List Str}:∀(s:Sn) {e e':Str->Bool},s.Qx os->(∀x∈os,e x=e' x)->s.val e=s.val e'
 | c0 _,_,_,_,_=>rfl
 | mk x,_,_,h,q=>q x h
 | nt s,_,_,h,q=>by unfold val;rw[val_congr s h q]
 | b2 o s t,_,_,h,q=>by unfold val;rw[val_congr s h.1 q,val_congr t h.2 q]
 | q1 o x s,e,e',h,q=>by
  have k:∀b:Bool,s.val (fun y=>if y=x then b else e y)=s.val (fun y=>if y=x then b else e' y):=fun b=>val_congr s h.2 fun y hy=>by
   by_cases hx:y=x
   ·rw[if_pos hx,if_pos hx]
   ·rw[if_neg hx,if_neg hx,q y hy]
  cases o<;>(unfold val;rw[k,k])
theorem NT:∀s:Sn,1<=s.depth
 | c0 _=>zqY _
 | mk _=>zqY _
 | nt _=>by unfold depth;omega
 | b2 _ _ _=>by unfold depth;omega
 | q1 _ _ _=>by unfold depth;omega
theorem Lf:∀s:Sn,s.count=1+(s.parts.map count).sum
 | c0 _=>rfl
 | mk _=>rfl
 | nt _=>by simp[count,parts]
 | b2 _ _ _=>by simp[count,parts]
 | q1 _ _ _=>by simp[count,parts]
theorem U6:∀(s:Sn),∀t∈s.parts,t.depth+1<=s.depth
 | c0 _,t,h=>by simp[parts] at h
 | mk _,t,h=>by simp[parts] at h
 | nt s,t,h=>by simp[parts] at h;subst h;show t.depth+1<=1+t.depth;omega
 | b2 _ s u,t,h=>by
  simp[parts] at h
  rcases h with h | h
  ·subst h;show t.depth+1<=1+max t.depth u.depth;omega
  ·subst h;show t.depth+1<=1+max s.depth t.depth;omega
 | q1 _ _ s,t,h=>by simp[parts] at h;subst h;show t.depth+1<=1+t.depth;omega
theorem za0 {os:List Str}:∀(s:Sn),s.Qx os->∀t∈s.parts,t.Qx os
 | c0 _,_,t,h=>by simp[parts] at h
 | mk _,_,t,h=>by simp[parts] at h
 | nt s,q,t,h=>by simp[parts] at h;subst h;exact q
 | b2 _ s u,q,t,h=>by
  simp[parts] at h
  rcases h with h | h<;>subst h
  ·exact q.1
  ·exact q.2
 | q1 _ _ s,q,t,h=>by simp[parts] at h;subst h;exact q.2
theorem zcJ {os:List Str}:∀(s:Sn),s.Qx os->∀x∈s.letters,x∈os
 | c0 _,_,t,h=>by simp[letters] at h
 | mk _,q,t,h=>by simp[letters] at h;subst h;exact q
 | nt s,q,t,h=>by simp[letters] at h
 | b2 _ s u,q,t,h=>by simp[letters] at h
 | q1 _ _ s,q,t,h=>by simp[letters] at h;subst h;exact q.1
end Sn
theorem wN (b p:Nat):(b+2^p).testBit p=!b.testBit p:=by rw[Nat.add_comm];exact Nat.testBit_two_pow_add_eq b p
theorem SM {b p j:Nat}(h:j<p):(b+2^p).testBit j=b.testBit j:=by rw[Nat.add_comm];exact Nat.testBit_two_pow_add_gt h b
theorem zgz {b p:Nat}(h:b.testBit p=false):b%2^(p+1)<2^p:=by
 have e:b%2^(p+1)=b%2^p+2^p*(b / 2^p%2):=by
  rw[Nat.pow_succ];exact Nat.mod_mul
 have z:b / 2^p%2=0:=by
  rw[Nat.testBit_eq_decide_div_mod_eq] at h
  have:=of_decide_eq_false h
  omega
 rw[e,z,Nat.mul_zero,Nat.add_zero]
 exact Nat.mod_lt b (Nat.two_pow_pos p)
theorem zgA (x i j:Nat):x.testBit (i+j)=(x / 2^i).testBit j:=by
 rw[Nat.testBit_div_two_pow,Nat.add_comm]
theorem za1 {b p j:Nat}(h:p<j)(h0:b.testBit p=false):(b+2^p).testBit j=b.testBit j:=by
 obtain⟨k,rfl⟩:∃k,j=(p+1)+k:=⟨j-(p+1),by omega⟩
 rw[zgA,zgA]
 have hm:=zgz h0
 have e:(b+2^p) / 2^(p+1)=b / 2^(p+1):=by
  have hp:2^(p+1)=2^p+2^p:=by rw[Nat.pow_succ];omega
  have d:=Nat.div_add_mod b (2^(p+1))
  have pos:=Nat.two_pow_pos (p+1)
  rw[Nat.div_eq_iff pos]
  have c:b / 2^(p+1)*2^(p+1)=2^(p+1)*(b / 2^(p+1)):=Nat.mul_comm _ _
  rw[c]
  omega
 rw[e]
def zY (b p:Nat)(v:Bool):Nat:=if b.testBit p=v then b else if v then b+2^p else b-2^p
theorem za2 {b p:Nat}(h:b.testBit p=true):2^p<=b:=Nat.ge_two_pow_of_testBit h
theorem yh (b p j:Nat)(v:Bool):(zY b p v).testBit j=if j=p then v else b.testBit j:=by
 unfold zY
 by_cases h:b.testBit p=v
 ·rw[if_pos h]
  by_cases hj:j=p
  ·rw[if_pos hj,hj,h]
  ·rw[if_neg hj]
 ·rw[if_neg h]
  cases v with
  | true =>
   have h0:b.testBit p=false:=by simpa using h
   rw[if_pos rfl]
   by_cases hj:j=p
   ·subst hj;rw[if_pos rfl,wN,h0];rfl
   ·rw[if_neg hj]
    rcases Nat.lt_or_gt_of_ne hj with q | q
    ·exact SM q
    ·exact za1 q h0
  | false =>
   have h1:b.testBit p=true:=by simpa using h
   rw[if_neg zqM]
   have ge:=za2 h1
   obtain⟨c,hc⟩:∃c,b=c+2^p:=⟨b-2^p,by omega⟩
   have h0:c.testBit p=false:=by
    rw[hc,wN] at h1
    simpa using h1
   have e:b-2^p=c:=by omega
   rw[e,hc]
   by_cases hj:j=p
   ·subst hj;rw[if_pos rfl,h0]
   ·rw[if_neg hj]
    rcases Nat.lt_or_gt_of_ne hj with q | q
    ·exact(SM q).symm
    ·exact(za1 q h0).symm
theorem yH {b p n:Nat}{v:Bool}(hb:b<2^n)(hp:p<n):zY b p v<2^n:=by
 refine Nat.lt_pow_two_of_testBit _ fun i hi=>?_
 rw[yh,if_neg (by omega)]
 exact Nat.testBit_lt_two_pow (zqR hb (zrd (by decide) hi))
def yK (n:Nat)(N:Nat)(f:Nat->Bool):Prop:=∀b,N.testBit b=(decide (b<2^n)&&f b)
theorem Kr (n:Nat):yK n (2^2^n-1) (fun _=>true):=fun b=>by
 rw[Nat.testBit_two_pow_sub_one,Bool.and_true]
theorem zcK (n:Nat):yK n 0 (fun _=>false):=fun b=>by simp
theorem SN {n N M:Nat}{f g:Nat->Bool}(h:yK n N f)(k:yK n M g):yK n (N ^^^ M) (fun b=>f b != g b):=fun b=>by
 rw[Nat.testBit_xor,h b,k b]
 show _=(decide (b<2^n)&&(f b != g b))
 cases decide (b<2^n)<;>cases f b<;>cases g b<;>rfl
theorem QL {n N M:Nat}{f g:Nat->Bool}(h:yK n N f)(k:yK n M g):yK n (N&&&M) (fun b=>f b&&g b):=fun b=>by
 rw[Nat.testBit_and,h b,k b]
 show _=(decide (b<2^n)&&(f b&&g b))
 cases decide (b<2^n)<;>cases f b<;>cases g b<;>rfl
theorem Jj {n N M:Nat}{f g:Nat->Bool}(h:yK n N f)(k:yK n M g):yK n (N|||M) (fun b=>f b||g b):=fun b=>by
 rw[Nat.testBit_or,h b,k b]
 show _=(decide (b<2^n)&&(f b||g b))
 cases decide (b<2^n)<;>cases f b<;>cases g b<;>rfl
theorem vA {n N:Nat}{f g:Nat->Bool}(h:yK n N f)(e:∀b,b<2^n->f b=g b):yK n N g:=fun b=>by
 rw[h b]
 by_cases hb:b<2^n
 ·rw[e b hb]
 ·rw[decide_eq_false hb];rfl
theorem zgB {n N:Nat}{f:Nat->Bool}(h:yK n N f):N<2^2^n:=Nat.lt_pow_two_of_testBit _ fun i hi=>by
 rw[h i,decide_eq_false (by omega)];rfl
theorem zfA (p:Nat):yK (p+1) ((2^2^p-1)*2^2^p) (fun b=>b.testBit p):=fun b=>by
 rw[Nat.testBit_mul_two_pow,Nat.testBit_two_pow_sub_one]
 show _=(decide (b<2^(p+1))&&b.testBit p)
 have hp:2^(p+1)=2^p+2^p:=by rw[Nat.pow_succ];omega
 by_cases h1:2^p<=b
 ·by_cases h2:b<2^(p+1)
  ·have e:b.testBit p=true:=by
    obtain⟨c,rfl⟩:∃c,b=c+2^p:=⟨b-2^p,by omega⟩
    rw[wN,Nat.testBit_lt_two_pow (by omega)]
    rfl
   rw[e]
   simp[h1,h2]
   omega
  ·simp[h2]
   intro _
   omega
 ·have e:b.testBit p=false:=Nat.testBit_lt_two_pow (by omega)
  rw[e]
  simp[h1]
theorem zdW {p m N:Nat}(hp:p<m)(h:yK m N (fun b=>b.testBit p)):yK (m+1) (N|||N*2^2^m) (fun b=>b.testBit p):=fun b=>by
 rw[Nat.testBit_or,Nat.testBit_mul_two_pow,h b,h (b-2^m)]
 show(_||(_&&(_&&(b-2^m).testBit p)))=(decide (b<2^(m+1))&&b.testBit p)
 have hm:2^(m+1)=2^m+2^m:=by rw[Nat.pow_succ];omega
 by_cases h1:b<2^m
 ·have h2:b<2^(m+1):=by omega
  have h3:¬ 2^m<=b:=by omega
  simp[h1,h2,h3]
 ·have h3:2^m<=b:=by omega
  have e:(b-2^m).testBit p=b.testBit p:=by
   obtain⟨c,rfl⟩:∃c,b=c+2^m:=⟨b-2^m,by omega⟩
   rw[SM hp,Nat.add_sub_cancel]
  rw[e]
  by_cases h2:b<2^(m+1)
  ·have h4:b-2^m<2^m:=by omega
   simp[h1,h2,h3,h4]
  ·have h4:¬b-2^m<2^m:=by omega
   simp[h1,h2,h3,h4]
theorem zgC {n p N R:Nat}{f:Nat->Bool}(hp:p<n)(h:yK n N f)(r:yK n R (fun b=>b.testBit p)) :
  yK n ((N&&&R) / 2^2^p|||(N ^^^ (N&&&R))*2^2^p) (fun b=>f (zY b p (!b.testBit p))):=fun b=>by
 have o:=QL h r
 have z:=SN h o
 have pp:=Nat.two_pow_pos p
 rw[Nat.testBit_or,Nat.testBit_mul_two_pow,Nat.testBit_div_two_pow,o,z]
 dsimp only
 by_cases hb:b<2^n
 ·cases hbit:b.testBit p with
  | false =>
   have e:zY b p (!false)=b+2^p:=by
    unfold zY
    rw[hbit,if_neg (by decide),if_pos (by decide)]
   have lt:b+2^p<2^n:=by rw[<-e];exact yH hb hp
   rw[e,wN,hbit]
   by_cases h1:2^p<=b
   ·have e2:(b-2^p).testBit p=true:=by
     obtain⟨c,rfl⟩:∃c,b=c+2^p:=⟨b-2^p,by omega⟩
     rw[wN] at hbit
     rw[Nat.add_sub_cancel]
     simpa using hbit
    rw[e2]
    have h4:b-2^p<2^n:=by omega
    simp[hb,lt,h1,h4]
   ·simp[hb,lt,h1]
  | true =>
   have ge:=za2 hbit
   have e:zY b p (!true)=b-2^p:=by
    unfold zY
    rw[hbit,if_neg (by decide),if_neg (by decide)]
   have e2:(b-2^p).testBit p=false:=by
    obtain⟨c,rfl⟩:∃c,b=c+2^p:=⟨b-2^p,by omega⟩
    rw[wN] at hbit
    rw[Nat.add_sub_cancel]
    simpa using hbit
   rw[e,wN,hbit,e2]
   have h4:b-2^p<2^n:=by omega
   simp[hb,ge,h4]
 ·have h3:¬b+2^p<2^n:=by omega
  have h5:(decide (2^p<=b)&&(decide (b-2^p<2^n)&&(f (b-2^p) != (f (b-2^p)&&(b-2^p).testBit p))))=false:=by
   by_cases h1:2^p<=b
   ·by_cases h4:b-2^p<2^n
    ·
     have e:(b-2^p).testBit p=true:=by
      cases q:(b-2^p).testBit p with
      | true=>rfl
      | false =>
       exfalso
       have l:=yH (v:=true) h4 hp
       unfold zY at l
       rw[q,if_neg (by decide),if_pos rfl] at l
       omega
     rw[e]
     cases f (b-2^p)<;>simp
    ·simp[h4]
   ·simp[h1]
  rw[h5]
  simp[hb,h3]
theorem Rv (a:Nat):a%2=(a.testBit 0).toNat:=by
 rw[Nat.testBit_zero]
 have:=Nat.mod_two_eq_zero_or_one a
 rcases this with h | h<;>rw[h]<;>rfl
theorem zeN:∀(n a b:Nat),a<=n->(a ^^^ b)+2*(a&&&b)=a+b
 | 0,a,b,h=>by
  have:a=0:=by omega
  subst this;simp
 | n+1,a,b,h=>by
  by_cases h0:a=0
  ·subst h0;simp
  ·have ih:=zeN n (a / 2) (b / 2) (by omega)
   have e1:(a ^^^ b) / 2=a / 2 ^^^ b / 2:=Nat.xor_div_two
   have e2:(a&&&b) / 2=a / 2&&&b / 2:=Nat.and_div_two
   have d1:=Nat.div_add_mod (a ^^^ b) 2
   have d2:=Nat.div_add_mod (a&&&b) 2
   have d3:=Nat.div_add_mod a 2
   have d4:=Nat.div_add_mod b 2
   rw[e1] at d1
   rw[e2] at d2
   cases ha:a.testBit 0<;>cases hb:b.testBit 0
   ·have m1:(a ^^^ b)%2=0:=by rw[Rv,Nat.testBit_xor,ha,hb];rfl
    have m2:(a&&&b)%2=0:=by rw[Rv,Nat.testBit_and,ha,hb];rfl
    have m3:a%2=0:=by rw[Rv,ha];rfl
    have m4:b%2=0:=by rw[Rv,hb];rfl
    omega
   ·have m1:(a ^^^ b)%2=1:=by rw[Rv,Nat.testBit_xor,ha,hb];rfl
    have m2:(a&&&b)%2=0:=by rw[Rv,Nat.testBit_and,ha,hb];rfl
    have m3:a%2=0:=by rw[Rv,ha];rfl
    have m4:b%2=1:=by rw[Rv,hb];rfl
    omega
   ·have m1:(a ^^^ b)%2=1:=by rw[Rv,Nat.testBit_xor,ha,hb];rfl
    have m2:(a&&&b)%2=0:=by rw[Rv,Nat.testBit_and,ha,hb];rfl
    have m3:a%2=1:=by rw[Rv,ha];rfl
    have m4:b%2=0:=by rw[Rv,hb];rfl
    omega
   ·have m1:(a ^^^ b)%2=0:=by rw[Rv,Nat.testBit_xor,ha,hb];rfl
    have m2:(a&&&b)%2=1:=by rw[Rv,Nat.testBit_and,ha,hb];rfl
    have m3:a%2=1:=by rw[Rv,ha];rfl
    have m4:b%2=1:=by rw[Rv,hb];rfl
    omega
theorem zgD:∀(n a b:Nat),a<=n->(a|||b)+(a&&&b)=a+b
 | 0,a,b,h=>by
  have:a=0:=by omega
  subst this;simp
 | n+1,a,b,h=>by
  by_cases h0:a=0
  ·subst h0;simp
  ·have ih:=zgD n (a / 2) (b / 2) (by omega)
   have e1:(a|||b) / 2=a / 2|||b / 2:=Nat.or_div_two
   have e2:(a&&&b) / 2=a / 2&&&b / 2:=Nat.and_div_two
   have d1:=Nat.div_add_mod (a|||b) 2
   have d2:=Nat.div_add_mod (a&&&b) 2
   have d3:=Nat.div_add_mod a 2
   have d4:=Nat.div_add_mod b 2
   rw[e1] at d1
   rw[e2] at d2
   cases ha:a.testBit 0<;>cases hb:b.testBit 0
   ·have m1:(a|||b)%2=0:=by rw[Rv,Nat.testBit_or,ha,hb];rfl
    have m2:(a&&&b)%2=0:=by rw[Rv,Nat.testBit_and,ha,hb];rfl
    have m3:a%2=0:=by rw[Rv,ha];rfl
    have m4:b%2=0:=by rw[Rv,hb];rfl
    omega
   ·have m1:(a|||b)%2=1:=by rw[Rv,Nat.testBit_or,ha,hb];rfl
    have m2:(a&&&b)%2=0:=by rw[Rv,Nat.testBit_and,ha,hb];rfl
    have m3:a%2=0:=by rw[Rv,ha];rfl
    have m4:b%2=1:=by rw[Rv,hb];rfl
    omega
   ·have m1:(a|||b)%2=1:=by rw[Rv,Nat.testBit_or,ha,hb];rfl
    have m2:(a&&&b)%2=0:=by rw[Rv,Nat.testBit_and,ha,hb];rfl
    have m3:a%2=1:=by rw[Rv,ha];rfl
    have m4:b%2=0:=by rw[Rv,hb];rfl
    omega
   ·have m1:(a|||b)%2=1:=by rw[Rv,Nat.testBit_or,ha,hb];rfl
    have m2:(a&&&b)%2=1:=by rw[Rv,Nat.testBit_and,ha,hb];rfl
    have m3:a%2=1:=by rw[Rv,ha];rfl
    have m4:b%2=1:=by rw[Rv,hb];rfl
    omega
theorem zjU (a b:Nat):Builtin.bitAnd (a:Int) (b:Int)=((a&&&b:Nat):Int):=by
 unfold Builtin.bitAnd
 rw[decide_eq_true (Int.natCast_nonneg a),decide_eq_true (Int.natCast_nonneg b)]
 simp
theorem orI (a b:Nat):Builtin.bitOr (a:Int) (b:Int)=((a|||b:Nat):Int):=by
 rw[PyProof.Rows.bitOr_and,zjU]
 have:=zgD a a b (zqY _)
 omega
theorem zm9 (a b:Nat):Builtin.bitXor (a:Int) (b:Int)=((a ^^^ b:Nat):Int):=by
 rw[PyProof.Rows.bitXor_and,zjU]
 have:=zeN a a b (zqY _)
 omega
theorem zk8 (n:Nat):(2:Int)^n=((2^n:Nat):Int):=by simp
end ZP
namespace L2
open PySem PySem.Spec PyProof.Rows ZP
section
variable {X:Cx}
def zk9:R2:=fun x y H Q=>∃a n:Nat,x=.int a/\y=.int n/\a<2^10000/\n<=10000/\Q (.int (a*2^n:Nat)) H
theorem Ye:VD X (binaryOp .LShift) zk9:=by
 intro pins s σ H x y v u Q I rx ry h
 obtain⟨a,n,rfl,rfl,ha,hn,q⟩:=h
 obtain⟨t,rfl⟩:=rx
 obtain⟨t',rfl⟩:=ry
 have hb:Builtin.Int.intBits (a:Int)<=10000:=intBits_le (by simpa using ha)
 refine lshift_int (Int.natCast_nonneg n) ?_ ?_
 ·have e:(2:Int)^27=134217728:=by decide
  rw[e];omega
 ·rw[zrk]
  have e:(a:Int)*2^n=((a*2^n:Nat):Int):=by rw[zk8,Int.natCast_mul]
  rw[e]
  exact⟨.int (a*2^n:Nat),H,I.tok _,⟨_,rfl⟩,q⟩
def zla:R2:=fun x y H Q=>∃a n:Nat,x=.int a/\y=.int n/\Q (.int (a / 2^n:Nat)) H
theorem zh0:VD X (binaryOp .RShift) zla:=by
 intro pins s σ H x y v u Q I rx ry h
 obtain⟨a,n,rfl,rfl,q⟩:=h
 refine zjy pins s σ H _ _ v u Q I rx ry ⟨_,_,rfl,rfl,Int.natCast_nonneg n,?_⟩
 show Q (.int ((a:Int) / 2^(n:Int).toNat)) H
 rw[zrk,zk8,<-Int.natCast_ediv]
 exact q
def rN2 (g:Nat->Nat->Nat):R2:=fun x y H Q=>∃a b:Nat,x=.int a/\y=.int b/\Q (.int (g a b:Nat)) H
theorem Ks:VD X (binaryOp .BitAnd) (rN2 (·&&&·)):=by
 intro pins s σ H x y v u Q I rx ry h
 obtain⟨a,b,rfl,rfl,q⟩:=h
 exact zjz pins s σ H _ _ v u Q I rx ry ⟨_,_,rfl,rfl,by show Q (.int (Builtin.bitAnd a b)) H;rw[zjU];exact q⟩
theorem NZ:VD X (binaryOp .BitOr) (rN2 (·|||·)):=by
 intro pins s σ H x y v u Q I rx ry h
 obtain⟨a,b,rfl,rfl,q⟩:=h
 exact zkR pins s σ H _ _ v u Q I rx ry ⟨_,_,rfl,rfl,by show Q (.int (Builtin.bitOr a b)) H;rw[orI];exact q⟩
theorem QM:VD X (binaryOp .BitXor) (rN2 (· ^^^ ·)):=by
 intro pins s σ H x y v u Q I rx ry h
 obtain⟨a,b,rfl,rfl,q⟩:=h
 exact zjA pins s σ H _ _ v u Q I rx ry ⟨_,_,rfl,rfl,by show Q (.int (Builtin.bitXor a b)) H;rw[zm9];exact q⟩
end
end L2
namespace L2
open PySem PySem.Spec PyProof.Rows
def strsOf:List Expr->Option (List Str)
 | []=>some []
 | .Constant (.str x) _ _::r=>(strsOf r).map (x::·)
 | _=>none
theorem zcL {e:Expr}{r:List Expr}{xs:List Str}(h:strsOf (e::r)=some xs):∃x j p ys,e=.Constant (.str x) j p/\strsOf r=some ys/\xs=x::ys:=by
 cases e with
 | Constant c j p =>
  cases c with
  | str x =>
   have h':(strsOf r).map (x::·)=some xs:=h
   cases hr:strsOf r with
   | none=>rw[hr] at h';cases h'
   | some ys =>
    rw[hr] at h'
    exact⟨x,j,p,ys,rfl,rfl,(zrc h').symm⟩
  | _=>cases h
 | _=>cases h
def zlb (xs:List Str):TA:=fun _ H Q=>Q (xs.map V.str) H
def zi4 (xs:List Str):TE:=fun _ H Q=>xs.length<=sizeLine/\∀p,H p=none->Q (.ref p) (upd H p (.lst (xs.map V.str)))
section
variable {X:Cx}
theorem zh1 {es:List Expr}:∀{xs:List Str},strsOf es=some xs->PA X es (zlb xs):=by
 induction es with
 | nil =>
  intro xs h
  cases h
  exact fun pos pins s σ H Q I q=>zc pos pins s σ H Q I q
 | cons e r ih =>
  intro xs h
  obtain⟨x,j,p,ys,rfl,hr,rfl⟩:=zcL h
  exact fun pos pins s σ H Q I q=>za (wB (x:=x) (j:=j) (pos:=p)) (ih hr) rfl pos pins s σ H Q I q
theorem zh2 {es:List Expr}{pos:Pos}{xs:List Str}(h:strsOf es=some xs):PE X (.List es pos) (zi4 xs):=by
 intro pins s σ H Q I q
 refine yJ (zh1 h) pins s σ H Q I ⟨?_,q.2⟩
 rw[zqI];exact q.1
def zbJ:Stmt->Option (Str×List Str)
 | .Assign [.Name x _] (.List es _) _=>(strsOf es).map (x,·)
 | _=>none
theorem zbK {st:Stmt}{x:Str}{xs:List Str}(h:zbJ st=some (x,xs)):∃p es q r,st=.Assign [.Name x p] (.List es q) r/\strsOf es=some xs:=by
 unfold zbJ at h
 split at h
 ·rename_i y p es q r
  cases hs:strsOf es with
  | none=>rw[hs] at h;cases h
  | some ys =>
   rw[hs] at h
   cases h
   exact⟨_,_,_,_,rfl,hs⟩
 ·cases h
theorem zh3 {i:Nat}{x:Str}{xs:List Str}{st:Stmt}(h:zbJ st=some (x,xs))(hN:X.N.Nodup)(hi:X.N[i]?=some x)(hx:Loc X.env.scope x)(hf:X.fn x=true\/X.env.scope.names.lookup x=some .local):PS X st (zhC (zi4 xs) (Va i)):=by
 obtain⟨p,es,q,r,rfl,hs⟩:=zbK h
 exact U0 hN hi hx (zh2 hs) rfl hf
end
end L2
set_option exponentiation.threshold 20000
namespace ZP
open PySem L2
section
variable {K:Frag}
theorem zcM {a k:Nat}(h:a<2^k)(hk:k<=10000):a<2^10000:=zqR h (zrd (by decide) hk)
theorem zfB {n:Nat}(hn:n<=8):2^n<=256:=zrd (n:=2) (by decide) hn
inductive Xq (vs:List V)(H:Hp)(Q:VK)(E9:XK):Prop
 | mk (n:Nat) (_:vs=[.int n]) (_:n<=8) (_:Q (.int ((2^2^n-1:Nat):Int)) H):Xq vs H Q E9
inductive tM (vs:List V)(H:Hp)(Q:VK)(E9:XK):Prop
 | mk (p n:Nat) (_:vs=[.int p,.int n]) (_:p<n) (_:n<=8) (_:∀R:Nat,yK n R (fun b=>b.testBit p)->Q (.int R) H):tM vs H Q E9
inductive Xr (vs:List V)(H:Hp)(Q:VK)(E9:XK):Prop
 | mk (N p n:Nat) (f:Nat->Bool) (_:vs=[.int N,.int p,.int n]) (_:p<n) (_:n<=8) (_:yK n N f) (_:∀R:Nat,yK n R (fun b=>f (zY b p (!b.testBit p)))->Q (.int R) H):Xr vs H Q E9
abbrev Z0 (r:List Bool):List V:=r.map fun b=>V.int (b.toNat:Nat)
theorem QS {H:Hp}{p:Addr}(h:H p=none)(o:HO):Same H (upd H p o):=fun b u q=>by rw[zE (zB q h)];exact q
inductive QT (K:Frag)(vs:List V)(H:Hp)(Q:VK)(E9:XK):Prop
 | mk (l:Addr) (ns:List Int) (i:Int) (_:vs=[.ref l,.int i]) (_:zT K H l (ns.map V.int)) (_:0<=i) (_:∀v:Int,Q (.int v) H):QT K vs H Q E9
inductive Ku (vs:List V)(H:Hp)(Q:VK)(E9:XK):Prop
 | mk (i:Int) (_:vs=[.int i]) (_:Q (.bl true) H):Ku vs H Q E9
inductive R6 (vs:List V)(H:Hp)(Q:VK)(E9:XK):Prop
 | mk (c:Int) (k:Nat) (b:Int) (_:vs=[.int c,.int k,.int b]) (_:k<=40) (_:0<b) (_:b<1073741824) (_:∀r:Int,0<=r->r<b->Q (.int r) H):R6 vs H Q E9
def vM:List Str:=["a", "b", "c", "d", "e", "f", "g", "h"]
structure Lg (os:List Str):Prop where
 nd:os.Nodup
 mem:∀x∈os,x∈vM
 pos:0<os.length
theorem zcN {α:Type}[DecidableEq α]:∀{xs ys:List α},xs.Nodup->(∀x∈xs,x∈ys)->xs.length<=ys.length
 | [],_,_,_=>zq4 _
 | x::xs,ys,nd,h=>by
  obtain⟨h1,h2⟩:=List.nodup_cons.mp nd
  have hx:=h x zq1
  have ih:=zcN (xs:=xs) (ys:=ys.erase x) h2 fun y hy=>(List.mem_erase_of_ne (fun e:y=x=>h1 (by rw[<-e];exact hy))).mpr (h y (zqT _ hy))
  rw[List.length_erase_of_mem hx] at ih
  have:=List.length_pos_of_mem hx
  rw[zqU]
  omega
theorem zh4 {i:Nat}(h:i<8):∃c,Je (Str.ofString "abcdefgh").cps.toList (i:Int)=some c/\vM[i]?=some ⟨#[c]⟩:=by
 match i,h with
 | 0,_=>exact⟨97,by decide +kernel,by decide +kernel⟩
 | 1,_=>exact⟨98,by decide +kernel,by decide +kernel⟩
 | 2,_=>exact⟨99,by decide +kernel,by decide +kernel⟩
 | 3,_=>exact⟨100,by decide +kernel,by decide +kernel⟩
 | 4,_=>exact⟨101,by decide +kernel,by decide +kernel⟩
 | 5,_=>exact⟨102,by decide +kernel,by decide +kernel⟩
 | 6,_=>exact⟨103,by decide +kernel,by decide +kernel⟩
 | 7,_=>exact⟨104,by decide +kernel,by decide +kernel⟩
theorem zcO:vM.Nodup:=by decide +kernel
theorem zgE {i:Nat}{y:Str}(h:vM[i]?=some y):y∉vM.take i:=fun hm=>by
 obtain⟨j,hj⟩:=List.getElem?_of_mem hm
 have hlt:j<i:=by
  have:=(zqL.mp hj).1
  rw[zq5] at this
  omega
 rw[List.getElem?_take_of_lt hlt] at hj
 have h1:=(zqL.mp hj)
 have h2:=(zqL.mp h)
 obtain⟨l1,e1⟩:=h1
 obtain⟨l2,e2⟩:=h2
 have:=(List.getElem_inj zcO).mp (e1.trans e2.symm)
 omega
theorem Lg.le {os:List Str}(h:Lg os):os.length<=8:=zcN h.nd h.mem
inductive zbL (vs:List V)(H:Hp)(Q:VK)(E9:XK):Prop
 | mk (c:Int) (n:Nat) (_:vs=[.int c,.int n]) (_:0<n) (_:n<=8) (_:∀(l:Addr) (H':Hp) (os:List Str),Same H H'->H' l=some (.lst (os.map V.str))->Lg os->os.length<=n->Q (.ref l) H'):zbL vs H Q E9
def SQ (H:Hp):Sn->Addr->Prop
 | .c0 y,p=>H p=some (.tup [.str (Sn.word (.c0 y))])
 | .mk x,p=>H p=some (.tup [.str "mark", .str x])
 | .nt s,p=>∃q,H p=some (.tup [.str "not", .ref q])/\SQ H s q
 | .b2 o s t,p=>∃q r,H p=some (.tup [.str (w2 o),.ref q,.ref r])/\SQ H s q/\SQ H t r
 | .q1 o x s,p=>∃q,H p=some (.tup [.str (if o then "some" else "each"),.str x,.ref q])/\SQ H s q
def yN (H H':Hp):Prop:=∀b xs,H b=some (.tup xs)->H' b=some (.tup xs)
theorem yN.trans {H H1 H2:Hp}(a:yN H H1)(b:yN H1 H2):yN H H2:=fun c o h=>b c o (a c o h)
theorem yN.of {H H':Hp}(g:Same H H'):yN H H':=fun b xs h=>g b _ h
theorem yN.new {H:Hp}{p:Addr}(h:H p=none)(o:HO):yN H (upd H p o):=fun b u q=>by rw[zE (zB q h)];exact q
theorem yN.lst {H:Hp}{p:Addr}{xs:List V}(h:H p=some (.lst xs))(o:HO):yN H (upd H p o):=fun b u q=>by rw[zE (Wi q h (fun z=>nomatch z))];exact q
theorem SQ.mono {H H':Hp}(g:yN H H'):∀{s:Sn} {p:Addr},SQ H s p->SQ H' s p
 | .c0 y,p,h=>g _ _ h
 | .mk x,p,h=>g _ _ h
 | .nt s,p,⟨q,h,k⟩=>⟨q,g _ _ h,k.mono g⟩
 | .b2 o s t,p,⟨q,r,h,k,l⟩=>⟨q,r,g _ _ h,k.mono g,l.mono g⟩
 | .q1 o x s,p,⟨q,h,k⟩=>⟨q,g _ _ h,k.mono g⟩
theorem zh5 (o:Bool)(x:Str)(s:Sn):Sn.word (.q1 o x s)=if o then Str.ofString "some" else Str.ofString "each" := by cases o<;>rfl
theorem SQ.shape {H:Hp}:∀{s:Sn} {p:Addr},SQ H s p->∃qs:List Addr,H p=some (.tup (.str s.word::(s.letters.map V.str++qs.map V.ref)))/\Paired (SQ H) s.parts qs
 | .c0 y,p,h=>⟨[],h,.nil⟩
 | .mk x,p,h=>⟨[],h,.nil⟩
 | .nt s,p,⟨q,h,k⟩=>⟨[q],h,.cons k .nil⟩
 | .b2 o s t,p,⟨q,r,h,k,l⟩=>⟨[q,r],h,.cons k (.cons l .nil)⟩
 | .q1 o x s,p,⟨q,h,k⟩=>⟨[q],by rw[zh5];exact h,.cons k .nil⟩
theorem zbM {α:Type}{xs:List α}{i:Int}(h0:-(xs.length:Int)<=i)(h1:i<xs.length):∃(j:Nat) (v:α),Je xs i=some v/\xs[j]?=some v:=by
 by_cases h:0<=i
 ·have hj:i.toNat<xs.length:=by omega
  have q:=xG (xs:=xs) (j:=i.toNat) (zqJ hj)
  have e:((i.toNat:Nat):Int)=i:=by omega
  rw[e] at q
  exact⟨_,_,q,zqJ hj⟩
 ·have hj:(i+xs.length).toNat<xs.length:=by omega
  refine⟨_,_,?_,zqJ hj⟩
  unfold Je ixN
  rw[if_neg h,if_pos h0]
  show xs[(i+xs.length).toNat]?=_
  exact zqJ hj
def R7:List Str:=["mark", "mark", "not", "and", "or", "either", "if", "and", "or", "some", "each", "yes", "no", "mark"]
structure Made (H0 H:Hp)(os:List Str)(m kd:Addr)(ps:List Addr)(d:Nat):Prop where
 old:Same H0 H
 mad:H m=some (.lst (ps.map V.ref))
 kin:H kd=some (.lst (R7.map V.str))
 ne:ps≠[]
 all:∀p∈ps,∃s,SQ H s p/\s.Qx os/\s.depth<=d
theorem Made.push {H0 H:Hp}{os:List Str}{m kd p:Addr}{ps:List Addr}{d:Nat}{xs:List V}(M:Made H0 H os m kd ps d)(fm:H0 m=none)(hp:H p=none){s:Sn}(hs:SQ (upd H p (.tup xs)) s p)(ho:s.Qx os)(hd:s.depth<=d+1)(hk:m≠kd) :
  Made H0 (upd (upd H p (.tup xs)) m (.lst ((ps++[p]).map V.ref))) os m kd (ps++[p]) (d+1):=by
 have hm:m≠p:=zB M.mad hp
 have hkp:kd≠p:=zB M.kin hp
 have mad':(upd H p (.tup xs)) m=some (.lst (ps.map V.ref)):=by rw[zE hm];exact M.mad
 have t1:yN H (upd H p (.tup xs)):=yN.new hp _
 have t2:yN (upd H p (.tup xs)) (upd (upd H p (.tup xs)) m (.lst ((ps++[p]).map V.ref))):=yN.lst mad' _
 refine⟨fun b o h=>?_,zf,?_,by simp,fun q hq=>?_⟩
 ·have h1:=M.old b o h
  rw[zE (zB h fm),zE (zB h1 hp)]
  exact h1
 ·rw[zE (Ne.symm hk),zE hkp];exact M.kin
 ·rcases List.mem_append.mp hq with z | z
  ·obtain⟨s',q1,q2,q3⟩:=M.all q z
   exact⟨s',(q1.mono t1).mono t2,q2,by omega⟩
  ·have z':q=p:=by simpa using z
   subst z'
   exact⟨s,hs.mono t2,ho,hd⟩
theorem Lh {os:List Str}(h0:0<os.length)(r:Int):∃x,x∈os/\Je (os.map V.str) (r%((os.map V.str).length:Nat))=some (.str x):=by
 have e:(os.map V.str).length=os.length:=zqI _
 have m0:0<=r%((os.map V.str).length:Nat):=zrp _ (by omega)
 have m1:r%((os.map V.str).length:Nat)<((os.map V.str).length:Nat):=zrl _ (by omega)
 obtain⟨j,v,q1,q2⟩:=zbM (xs:=os.map V.str) (i:=r%((os.map V.str).length:Nat)) (by omega) m1
 rw[zqK] at q2
 cases hx:os[j]? with
 | none=>rw[hx] at q2;cases q2
 | some x =>
  rw[hx] at q2
  cases q2
  exact⟨x,zqN hx,q1⟩
theorem N5 {ps:List Addr}{i:Int}(h0:-(ps.length:Int)<=i)(h1:i<ps.length):∃p,p∈ps/\Je (ps.map V.ref) i=some (.ref p):=by
 have e:(ps.map V.ref).length=ps.length:=zqI _
 obtain⟨j,v,q1,q2⟩:=zbM (xs:=ps.map V.ref) (i:=i) (by omega) (by omega)
 rw[zqK] at q2
 cases hx:ps[j]? with
 | none=>rw[hx] at q2;cases q2
 | some x =>
  rw[hx] at q2
  cases q2
  exact⟨x,zqN hx,q1⟩
end
end ZP
namespace L2
open PySem
section
variable {α β:Type}{R S:α->β->Prop}
theorem YJ:∀{xs ys:List α} {us ws:List β},Paired R xs us->Paired R ys ws->Paired R (xs++ys) (us++ws)
 | _,_,_,_,.nil,s=>s
 | _,_,_,_,.cons r t,s=>.cons r (YJ t s)
theorem yP (f:∀a b,R a b->S a b):∀{xs:List α} {us:List β},Paired R xs us->Paired S xs us
 | _,_,.nil=>.nil
 | _,_,.cons r t=>.cons (f _ _ r) (yP f t)
theorem yx:∀{xs:List α} {us:List β},Paired R xs us->xs.length=us.length
 | _,_,.nil=>rfl
 | _,_,.cons _ t=>by rw[zqU,zqU,yx t]
theorem uQ:∀{xs:List α} {us:List β} {i:Nat} {x:α},Paired R xs us->xs[i]?=some x->∃u,us[i]?=some u/\R x u
 | _,_,_,_,.nil,e=>by simp at e
 | _,_,0,_,.cons r _,e=>by simp at e;subst e;exact⟨_,rfl,r⟩
 | _,_,i+1,x,.cons _ t,e=>by
  obtain⟨u,h1,h2⟩:=uQ (i:=i) (x:=x) t (by simpa using e)
  exact⟨u,by simpa using h1,h2⟩
theorem QV:∀{xs:List α} {us:List β} {i:Nat} {u:β},Paired R xs us->us[i]?=some u->∃x,xs[i]?=some x/\R x u
 | _,_,_,_,.nil,e=>by simp at e
 | _,_,0,_,.cons r _,e=>by simp at e;subst e;exact⟨_,rfl,r⟩
 | _,_,i+1,x,.cons _ t,e=>by
  obtain⟨u,h1,h2⟩:=QV (i:=i) (u:=x) t (by simpa using e)
  exact⟨u,by simpa using h1,h2⟩
theorem zZ {α:Type}{xs:List α}{i:Nat}{x:α}(h:xs[i]?=some x):xs.take (i+1)=xs.take i++[x]:=by
 rw[List.take_succ,h]
 rfl
theorem Same.zlc {K:Frag}{H H':Hp}{a:Addr}{xs:List V}(e:Same H H')(h:xM K H a xs):xM K H' a xs:=by
 rcases h with (h | ⟨o,h⟩) | h
 ·exact .inl (.inl (e _ _ h))
 ·exact .inl (.inr ⟨o,e _ _ h⟩)
 ·exact .inr h
theorem Same.new {H:Hp}{p:Addr}(h:H p=none)(o:HO):Same H (upd H p o):=fun b u q=>by rw[zE (zB q h)];exact q
theorem Same.over {H H':Hp}{p:Addr}(g:Same H H')(h:H p=none)(o:HO):Same H (upd H' p o):=fun b u q=>by rw[zE (zB q h)];exact g b u q
theorem at0 {α:Type}{x:α}{xs:List α}:Je (x::xs) 0=some x:=xG (j:=0) rfl
theorem at1 {α:Type}{x y:α}{xs:List α}:Je (x::y::xs) 1=some y:=xG (j:=1) rfl
end
section
variable {K:Frag}{a:Addr}{xs:List V}{σ:St}{js:List Nat}{te:TE}{H:Hp}{Qf:Addr->Hp->List V->Prop}
theorem zeO (R:V->V->Prop)(hq:zT K H a xs)(hz:xs.length<=sizeLine)
  (hs:∀(i:Nat) x H',xs[i]?=some x->Same H H'->te (YZ σ js (some x)) H' fun v H3=>R x v/\Same H H3)
  (me:∀ σ H Q Q',(∀v H1,Q v H1->Q' v H1)->te σ H Q->te σ H Q')
  (hd:∀ys H' p,Paired R xs ys->Same H H'->H' p=none->Qf p H' ys) :
  ∃W:Nat->Nat->List V->Hp->Prop,(∃m,W 0 m [] H)/\∀i m ys H,W i m ys H ->
   ((K9 K a).stop i H/\∀p,H p=none->Qf p H ys) \/
   ((K9 K a).go i H/\ys.length<sizeLine/\∀x H',(K9 K a).Kh i H x H'->R5 (YZ σ js (some x)) H' fun b H2 =>
    if b=true then te (YZ σ js (some x)) H2 fun v H3=>∃m',m'<m/\W (i+1) m' (ys++[v]) H3 else ∃m',m'<m/\W (i+1) m' ys H2):=by
 refine Kp (fun i ys H'=>Same H H'/\Paired R (xs.take i) ys) ⟨Same.refl _,.nil⟩ hz ?_ ?_ (fun _ _ _ _ h q=>h _ _ q) me ?_
 ·rintro i ys H' hi ⟨g,r⟩
  have:=yx r
  rw[zq5] at this
  exact⟨g.seq hq,by omega⟩
 ·rintro i x ys H' hx ⟨g,r⟩
  show te (YZ σ js (some x)) H' fun v H3=>Same H H3/\Paired R (xs.take (i+1)) (ys++[v])
  refine me _ _ _ _ (fun v H3 h3=>⟨h3.2,?_⟩) (hs i x H' hx g)
  rw[zZ hx]
  exact YJ r (.cons h3.1 .nil)
 ·rintro ys H' p ⟨g,r⟩ hp
  rw[zra] at r
  exact hd ys H' p r g hp
theorem zeP (R:V->V->Prop)(hq:xM K H a xs)(hz:xs.length<=sizeLine)
  (hs:∀(i:Nat) x H',xs[i]?=some x->Same H H'->te (YZ σ js (some x)) H' fun v H3=>R x v/\Same H H3)
  (me:∀ σ H Q Q',(∀v H1,Q v H1->Q' v H1)->te σ H Q->te σ H Q')
  (hd:∀ys H' p,Paired R xs ys->Same H H'->H' p=none->Qf p H' ys) :
  ∃W:Nat->Nat->List V->Hp->Prop,(∃m,W 0 m [] H)/\∀i m ys H,W i m ys H ->
   ((Itt K a).stop i H/\∀p,H p=none->Qf p H ys) \/
   ((Itt K a).go i H/\ys.length<sizeLine/\∀x H',(Itt K a).Kh i H x H'->R5 (YZ σ js (some x)) H' fun b H2 =>
    if b=true then te (YZ σ js (some x)) H2 fun v H3=>∃m',m'<m/\W (i+1) m' (ys++[v]) H3 else ∃m',m'<m/\W (i+1) m' ys H2):=by
 refine zgq (fun i ys H'=>Same H H'/\Paired R (xs.take i) ys) ⟨Same.refl _,.nil⟩ hz ?_ ?_ (fun _ _ _ _ h q=>h _ _ q) me ?_
 ·rintro i ys H' hi ⟨g,r⟩
  have:=yx r
  rw[zq5] at this
  exact⟨g.zlc hq,by omega⟩
 ·rintro i x ys H' hx ⟨g,r⟩
  show te (YZ σ js (some x)) H' fun v H3=>Same H H3/\Paired R (xs.take (i+1)) (ys++[v])
  refine me _ _ _ _ (fun v H3 h3=>⟨h3.2,?_⟩) (hs i x H' hx g)
  rw[zZ hx]
  exact YJ r (.cons h3.1 .nil)
 ·rintro ys H' p ⟨g,r⟩ hp
  rw[zra] at r
  exact hd ys H' p r g hp
theorem Jk {f:V->V}:∀{xs ys:List V},Paired (fun x v=>v=f x) xs ys->ys=xs.map f
 | _,_,.nil=>rfl
 | _,_,.cons r t=>by rw[zq6,r,Jk t]
end
section
variable {X:Cx}{K:Frag}{a:Expr}{ta:TE}
theorem zbN (h:X.K=K):ZR X (.builtin "isinstance") (fun xs H Q=>∃x T t b,xs=[x,.ty T]/\QC K H x t/\PySem.W.kitOne K t (.type T)=some b/\Q (.bl b) H):=by subst h;exact tX
theorem zcP (h:X.K=K):IxR X (zkZ K):=by subst h;exact zW
theorem QW (h:X.K=K):IxR X (zk0 K):=by subst h;exact wD
def N6 (sp:Sp):Prop:=∀vs H Q Q' E,(∀v H1,Q v H1->Q' v H1)->sp vs H Q E->sp vs H Q' E
theorem zeQ {sp:Sp}(m:N6 sp):∀ σ H Q Q',(∀v H1,Q v H1->Q' v H1)->Jc sp [] E0 (U4 (K4 0) zal) σ H Q->Jc sp [] E0 (U4 (K4 0) zal) σ H Q' :=
 fun σ H Q Q' h ⟨v,e,q⟩=>⟨v,e,m _ _ _ _ _ h q⟩
theorem zcQ (x:Str)(ts:List Str):inV (.str x) (ts.map V.str)=decide (x∈ts):=by
 induction ts with
 | nil=>rfl
 | cons t r ih =>
  have e:inV (.str x) ((t::r).map V.str)=((t==x)||inV (.str x) (r.map V.str)):=rfl
  rw[e,ih]
  by_cases h:t=x
  ·subst h;simp
  ·have h':¬x=t:=fun z=>h z.symm
   simp[h,h']
theorem Xu (ts:List Str):(ts.map V.str).all xQ=true:=by
 rw[List.all_map,zrb]
 exact fun _ _=>rfl
theorem zgF {w:V}{rest:List V}{m n:Nat}(h:rest.length=m+n):WQ (w::rest) (some 1) (some (1+(m:Int)))=rest.take m:=by
 have e1:HT.Zd (w::rest).length 0 (some 1)=min 1 (w::rest).length:=HT.VF _ _ 1
 have e2:HT.Zd (w::rest).length (w::rest).length (some (1+(m:Int)))=min (1+m) (w::rest).length:=by
  have z:(1:Int)+(m:Int)=((1+m:Nat):Int):=by omega
  rw[z];exact HT.VF _ _ _
 have l:(w::rest).length=m+n+1:=by rw[zqU,h]
 unfold WQ
 rw[e1,e2,l,Nat.min_eq_left (by omega),Nat.min_eq_left (by omega),List.drop_one,List.tail_cons]
 congr 1
 omega
theorem zgG {w:V}{rest:List V}{m n:Nat}(h:rest.length=m+n):WQ (w::rest) (some (1+(m:Int))) none=rest.drop m:=by
 have e2:HT.Zd (w::rest).length 0 (some (1+(m:Int)))=min (1+m) (w::rest).length:=by
  have z:(1:Int)+(m:Int)=((1+m:Nat):Int):=by omega
  rw[z];exact HT.VF _ _ _
 have l:(w::rest).length=m+n+1:=by rw[zqU,h]
 unfold WQ
 rw[e2,HT.zcC,l,Nat.min_eq_left (by omega),Nat.add_comm 1 m,List.drop_succ_cons,List.take_of_length_le]
 rw[List.length_drop,h]
 omega
theorem Jl {w:V}{rest:List V}{i:Int}{o:Option Int}(h:1<=i):¬(HT.Zd (w::rest).length 0 (some i)=0/\HT.Zd (w::rest).length (w::rest).length o=(w::rest).length):=by
 rintro⟨h1,_⟩
 have e:HT.Zd (w::rest).length 0 (some i)=min i.toNat (w::rest).length:=by
  have z:=HT.VF (w::rest).length 0 i.toNat
  have z2:((i.toNat:Nat):Int)=i:=by omega
  rw[z2] at z
  exact z
 rw[e,zqU] at h1
 omega
end
end L2
namespace ZP
open PySem L2
section
variable {K:Frag}
def Sn.all:Sn->List Str
 | .c0 _=>[]
 | .mk x=>[x]
 | .nt s=>s.all
 | .b2 _ s t=>s.all++t.all
 | .q1 _ x s=>x::s.all
theorem Sn.zbO:∀(s:Sn) (x:Str),x∈s.all↔x∈s.letters\/∃t∈s.parts,x∈t.all
 | .c0 _,x=>by simp[Sn.all,Sn.letters,Sn.parts]
 | .mk y,x=>by simp[Sn.all,Sn.letters,Sn.parts]
 | .nt s,x=>by simp[Sn.all,Sn.letters,Sn.parts]
 | .b2 _ s t,x=>by simp[Sn.all,Sn.letters,Sn.parts]
 | .q1 _ y s,x=>by simp[Sn.all,Sn.letters,Sn.parts]
theorem Sn.VL {os:List Str}:∀(s:Sn),s.Qx os↔∀x∈s.all,x∈os
 | .c0 _=>by simp[Sn.all,Sn.Qx]
 | .mk y=>by simp[Sn.all,Sn.Qx]
 | .nt s=>by simp only[Sn.all,Sn.Qx];exact Sn.VL s
 | .b2 _ s t=>by
  simp only[Sn.all,Sn.Qx,List.mem_append]
  rw[Sn.VL s,Sn.VL t]
  exact⟨fun h x hx=>hx.elim (h.1 x) (h.2 x),fun h=>⟨fun x hx=>h x (.inl hx),fun x hx=>h x (.inr hx)⟩⟩
 | .q1 _ y s=>by
  simp only[Sn.all,Sn.Qx,List.mem_cons]
  rw[Sn.VL s]
  exact⟨fun h x hx=>hx.elim (fun e=>by rw[e];exact h.1) (h.2 x),fun h=>⟨h y (.inl rfl),fun x hx=>h x (.inr hx)⟩⟩
theorem Sn.QX:∀s:Sn,s.parts.length<=2
 | .c0 _=>by simp[Sn.parts]
 | .mk _=>by simp[Sn.parts]
 | .nt _=>by simp[Sn.parts]
 | .b2 _ _ _=>by simp[Sn.parts]
 | .q1 _ _ _=>by simp[Sn.parts]
theorem Sn.Jm:∀s:Sn,s.letters.length<=1
 | .c0 _=>by simp[Sn.letters]
 | .mk _=>by simp[Sn.letters]
 | .nt _=>by simp[Sn.letters]
 | .b2 _ _ _=>by simp[Sn.letters]
 | .q1 _ _ _=>by simp[Sn.letters]
def cnt (ss:List Sn):Nat:=(ss.map Sn.count).sum
theorem cnt_cons (s:Sn)(ss:List Sn):cnt (s::ss)=s.count+cnt ss:=rfl
theorem zh6 (ss ts:List Sn):cnt (ss++ts)=cnt ss+cnt ts:=by
 unfold cnt;rw[zqW,List.sum_append]
theorem SX:∀ss:List Sn,cnt ss=ss.length+cnt (ss.flatMap Sn.parts)
 | []=>rfl
 | s::ss=>by
  rw[cnt_cons,List.flatMap_cons,zh6,SX ss,Sn.Lf s,zqU]
  show 1+cnt s.parts+_=_
  omega
theorem zeR (ss:List Sn):ss.length<=cnt ss:=by rw[SX];omega
theorem N7 {ss:List Sn}{t:Sn}:t∈ss.flatMap Sn.parts↔∃s∈ss,t∈s.parts:=List.mem_flatMap
inductive Vg (vs:List V)(H:Hp)(Q:VK)(E9:XK):Prop
 | mk (x:Str) (_:vs=[.str x]) (_:Q (.bl (decide (x∈vM))) H):Vg vs H Q E9
theorem Li:N6 Vg:=fun vs H Q Q' E h ⟨x,e,q⟩=>⟨x,e,h _ _ q⟩
def zbP (os:List Str):Bool:=decide (0<os.length)&&(os.all (fun x=>decide (x∈vM))&&decide os.Nodup)
theorem zh7 {os:List Str}(h:Lg os):zbP os=true:=by
 unfold zbP
 rw[decide_eq_true h.pos,decide_eq_true h.nd,zrb.mpr fun x hx=>decide_eq_true (h.mem x hx)]
 rfl
inductive N8 (K:Frag)(vs:List V)(H:Hp)(Q:VK)(E9:XK):Prop
 | mk (l:Addr) (os:List Str) (_:vs=[.ref l]) (_:zT K H l (os.map V.str)) (_:os.length<=100) (_:∀H',Same H H'->Q (.bl (zbP os)) H'):N8 K vs H Q E9
def xg:List (Str×Int×Int):=[("yes", 0,0),("no", 0,0),("mark", 1,0),("not", 0,1),("and", 0,2),("or", 0,2),("either", 0,2),("if", 0,2),("some", 1,1),("each", 1,1)]
theorem Zg (s:Sn):(s.word,((s.letters.length:Nat):Int),((s.parts.length:Nat):Int))∈xg:=by
 cases s with
 | c0 y =>
  cases y
  ·show((Str.ofString "no", (0:Int),(0:Int)):Str×Int×Int)∈xg
   decide +kernel
  ·show((Str.ofString "yes", (0:Int),(0:Int)):Str×Int×Int)∈xg
   decide +kernel
 | mk x =>
  show((Str.ofString "mark", (1:Int),(0:Int)):Str×Int×Int)∈xg
  decide +kernel
 | nt s =>
  show((Str.ofString "not", (0:Int),(1:Int)):Str×Int×Int)∈xg
  decide +kernel
 | b2 o s t =>
  show((w2 o,(0:Int),(2:Int)):Str×Int×Int)∈xg
  revert o
  decide +kernel
 | q1 o x s =>
  cases o
  ·show((Str.ofString "each", (1:Int),(1:Int)):Str×Int×Int)∈xg
   decide +kernel
  ·show((Str.ofString "some", (1:Int),(1:Int)):Str×Int×Int)∈xg
   decide +kernel
inductive Yz (vs:List V)(H:Hp)(Q:VK)(E9:XK):Prop
 | mk (p:Addr) (x:Str) (m n:Nat) (rest:List V) (_:vs=[.ref p]) (_:H p=some (.tup (.str x::rest))) (_:(x,(m:Int),(n:Int))∈xg) (_:rest.length=m+n) (_:∀q,H q=none->Q (.ref q) (upd H q (.tup (rest.take m)))):Yz vs H Q E9
inductive Z1 (vs:List V)(H:Hp)(Q:VK)(E9:XK):Prop
 | mk (p:Addr) (x:Str) (m n:Nat) (rest:List V) (_:vs=[.ref p]) (_:H p=some (.tup (.str x::rest))) (_:(x,(m:Int),(n:Int))∈xg) (_:rest.length=m+n) (_:∀q,H q=none->Q (.ref q) (upd H q (.tup (rest.drop m)))):Z1 vs H Q E9
theorem QZ {H:Hp}{s:Sn}{p:Addr}(h:SQ H s p):∃qs:List Addr,H p=some (.tup (.str s.word::(s.letters.map V.str++qs.map V.ref)))/\Paired (SQ H) s.parts qs /\
  (s.letters.map V.str++qs.map V.ref).length=s.letters.length+s.parts.length/\(s.letters.map V.str++qs.map V.ref).take s.letters.length=s.letters.map V.str/\(s.letters.map V.str++qs.map V.ref).drop s.letters.length=qs.map V.ref:=by
 obtain⟨qs,h1,h2⟩:=h.shape
 have l:=yx h2
 refine⟨qs,h1,h2,by simp[l],?_,?_⟩
 ·rw[List.take_append_of_le_length (by simp),List.take_of_length_le (by simp)]
 ·rw[List.drop_append_of_le_length (by simp),List.drop_of_length_le (by simp)]
  rfl
inductive Y8 (K:Frag)(vs:List V)(H:Hp)(Q:VK)(E9:XK):Prop
 | mk (l:Addr) (ss:List Sn) (ps:List Addr) (_:vs=[.ref l]) (_:zT K H l (ps.map V.ref)) (_:Paired (SQ H) ss ps) (_:ss.length<=400) (_:∀(l':Addr) (H':Hp) (ps':List Addr),Same H H'->H l'=none->H' l'=some (.lst (ps'.map V.ref))->Paired (SQ H') (ss.flatMap Sn.parts) ps'->Q (.ref l') H'):Y8 K vs H Q E9
inductive Q5 (vs:List V)(H:Hp)(Q:VK)(E9:XK):Prop
 | mk (p:Addr) (s:Sn) (_:vs=[.ref p]) (_:SQ H s p) (_:(∀x∈s.letters,x∈vM)) (_:∀H',Same H H'->Q (.bl true) H'):Q5 vs H Q E9
theorem zcR:N6 Q5:=fun vs H Q Q' E h ⟨p,s,e,h1,h2,q⟩=>⟨p,s,e,h1,h2,fun H' g=>h _ _ (q H' g)⟩
abbrev VC (sn:Sn)(zs:List Addr):List V:=V.str sn.word::(sn.letters.map V.str++zs.map V.ref)
inductive zbQ (vs:List V)(H:Hp)(Q:VK)(E9:XK):Prop
 | mk (p:Addr) (s:Sn) (_:vs=[.ref p]) (_:SQ H s p) (_:s.Qx vM) (_:s.count<=200) (_:s.depth<=24) (_:∀H',Same H H'->Q (.bl true) H'):zbQ vs H Q E9
inductive U7 (K:Frag)(vs:List V)(H:Hp)(Q:VK)(E9:XK):Prop
 | mk (l:Addr) (os:List Str) (_:vs=[.ref l]) (_:zT K H l (os.map V.str)) (_:Lg os) (_:∀H',Same H H'->Q .non H'):U7 K vs H Q E9
inductive Ma (vs:List V)(H:Hp)(Q:VK)(E9:XK):Prop
 | mk (p:Addr) (s:Sn) (_:vs=[.ref p]) (_:SQ H s p) (_:s.Qx vM) (_:s.count<=200) (_:s.depth<=24) (_:∀H',Same H H'->Q .non H'):Ma vs H Q E9
inductive R8 (vs:List V)(H:Hp)(Q:VK)(E9:XK):Prop
 | mk (p:Addr) (s:Sn) (_:vs=[.ref p]) (_:SQ H s p) (_:s.count<=400) (_:∀(l:Addr) (H':Hp) (ts:List Sn) (ps:List Addr),Same H H'->H l=none->H' l=some (.lst (ps.map V.ref))->Paired (SQ H') ts ps->ts.length=s.count->(∀x,(∃t∈ts,x∈t.letters)↔x∈s.all)->Q (.ref l) H'):R8 vs H Q E9
inductive U8 (vs:List V)(H:Hp)(Q:VK)(E9:XK):Prop
 | mk (p:Addr) (s:Sn) (_:vs=[.ref p]) (_:SQ H s p) (_:s.count<=400) (_:∀(l:Addr) (H':Hp) (xs:List Str),Same H H'->H l=none->H' l=some (.lst (xs.map V.str))->(∀x,x∈xs↔x∈s.all)->xs.length<=400->Q (.ref l) H'):U8 vs H Q E9
inductive VN (K:Frag)(vs:List V)(H:Hp)(Q:VK)(E9:XK):Prop
 | mk (l:Addr) (x:Str) (os:List Str) (_:vs=[.ref l,.str x]) (_:zT K H l (os.map V.str)) (_:x∈os) (_:Q .non H):VN K vs H Q E9
inductive U9 (K:Frag)(vs:List V)(H:Hp)(Q:VK)(E9:XK):Prop
 | mk (l p:Addr) (os:List Str) (s:Sn) (_:vs=[.ref l,.ref p]) (_:zT K H l (os.map V.str)) (_:SQ H s p) (_:s.count<=400) (_:s.Qx os) (_:∀H',Same H H'->Q .non H'):U9 K vs H Q E9
end
end ZP
namespace L2
open PySem
section
variable {K:Frag}{a:Addr}{xs:List V}{σ:St}{js:List Nat}{te:TE}{H:Hp}{Qf:Addr->Hp->List V->Prop}
theorem zeS (R:Nat->V->Prop)(hq:xM K H a xs)(hz:xs.length<=sizeLine)
  (hs:∀(i:Nat) x H',xs[i]?=some x->Same H H'->te (YZ σ js (some x)) H' fun v H3=>R i v/\Same H H3)
  (me:∀ σ H Q Q',(∀v H1,Q v H1->Q' v H1)->te σ H Q->te σ H Q')
  (hd:∀ys H' p,ys.length=xs.length->(∀(j:Nat) v,ys[j]?=some v->R j v)->Same H H'->H' p=none->Qf p H' ys) :
  ∃W:Nat->Nat->List V->Hp->Prop,(∃m,W 0 m [] H)/\∀i m ys H,W i m ys H ->
   ((Itt K a).stop i H/\∀p,H p=none->Qf p H ys) \/
   ((Itt K a).go i H/\ys.length<sizeLine/\∀x H',(Itt K a).Kh i H x H'->R5 (YZ σ js (some x)) H' fun b H2 =>
    if b=true then te (YZ σ js (some x)) H2 fun v H3=>∃m',m'<m/\W (i+1) m' (ys++[v]) H3 else ∃m',m'<m/\W (i+1) m' ys H2):=by
 refine zgq (fun i ys H'=>Same H H'/\ys.length=i/\∀(j:Nat) v,ys[j]?=some v->R j v) ⟨Same.refl _,rfl,fun j v h=>by simp at h⟩ hz ?_ ?_ (fun _ _ _ _ h q=>h _ _ q) me ?_
 ·rintro i ys H' hi ⟨g,e,r⟩
  exact⟨g.zlc hq,by omega⟩
 ·rintro i x ys H' hx ⟨g,e,r⟩
  show te (YZ σ js (some x)) H' fun v H3=>Same H H3/\(ys++[v]).length=i+1/\∀(j:Nat) u,(ys++[v])[j]?=some u->R j u
  refine me _ _ _ _ (fun v H3 h3=>⟨h3.2,by rw[zqQ,e];rfl,fun j u hj=>?_⟩) (hs i x H' hx g)
  by_cases hlt:j<ys.length
  ·rw[zre hlt] at hj
   exact r j u hj
  ·rw[List.getElem?_append_right (by omega)] at hj
   have hj0:j-ys.length=0:=by
    have:=(zqL.mp hj).1
    rw[zrf] at this
    omega
   rw[hj0] at hj
   have ev:v=u:=zrc hj
   have ej:j=i:=by omega
   rw[<-ev,ej]
   exact h3.1
 ·rintro ys H' p ⟨g,e,r⟩ hp
  exact hd ys H' p e r g hp
theorem zld {sp:Sp}(m:N6 sp):∀ σ H Q Q',(∀v H1,Q v H1->Q' v H1)->Jc sp [] E0 (U4 (K4 0) (U4 (K4 1) zal)) σ H Q->Jc sp [] E0 (U4 (K4 0) (U4 (K4 1) zal)) σ H Q' :=
 fun σ H Q Q' h ⟨v,e,u,e',q⟩=>⟨v,e,u,e',m _ _ _ _ _ h q⟩
theorem ne_str {x y:Str}(h:x≠y):¬decide (V.str x=V.str y)=true:=fun z=>h (by have:=of_decide_eq_true z;injection this)
theorem len1 {α:Type}{ys:List α}(h:ys.length=1):∃v,ys=[v]:=by
 match ys,h with
 | [v],_=>exact⟨v,rfl⟩
theorem len2 {α:Type}{ys:List α}(h:ys.length=2):∃v u,ys=[v,u]:=by
 match ys,h with
 | [v,u],_=>exact⟨v,u,rfl⟩
end
end L2
namespace ZP
open PySem L2
section
variable {K:Frag}
def ix (os:List Str)(x:Str):Nat:=os.findIdx (·==x)
theorem Y9:∀{os:List Str} {x:Str},x∈os->(os.map V.str).findIdx? (fun z=>eqV z (.str x))=some (ix os x)/\ix os x<os.length/\os[ix os x]?=some x
 | t::r,x,h=>by
  unfold ix
  rw[zq6,List.findIdx?_cons,List.findIdx_cons]
  show(if (t==x)=true then some 0 else _)=_/\_
  by_cases e:t=x
  ·subst e
   simp
  ·have hb:(t==x)=false:=by simpa using e
   have hr:x∈r:=by
    rcases List.mem_cons.mp h with z | z
    ·exact absurd z.symm e
    ·exact z
   obtain⟨h1,h2,h3⟩:=Y9 hr
   rw[hb,h1]
   unfold ix at h2 h3 ⊢
   refine⟨rfl,?_,?_⟩
   ·show(r.findIdx (·==x))+1<(t::r).length
    rw[zqU];omega
   ·show(t::r)[(r.findIdx (·==x))+1]?=some x
    rw[List.getElem?_cons_succ];exact h3
theorem zgH {os:List Str}{x y:Str}(hx:x∈os)(hy:y∈os):ix os y=ix os x↔y=x:=by
 constructor
 ·intro e
  have h1:=(Y9 hx).2.2
  have h2:=(Y9 hy).2.2
  rw[e,h1] at h2
  exact(zrc h2).symm
 ·intro e;rw[e]
def Rn (os:List Str)(b:Nat):Str->Bool:=fun x=>b.testBit (ix os x)
theorem Kv {os:List Str}{s:Sn}{x:Str}(hs:s.Qx os)(hx:x∈os)(b:Nat)(v:Bool):s.val (fun y=>if y=x then v else Rn os b y)=s.val (Rn os (zY b (ix os x) v)):=by
 refine Sn.val_congr s hs fun y hy=>?_
 show _=(zY b (ix os x) v).testBit (ix os y)
 rw[yh]
 by_cases e:y=x
 ·rw[if_pos e,if_pos ((zgH hx hy).mpr e)]
 ·rw[if_neg e,if_neg (fun z=>e ((zgH hx hy).mp z))]
  rfl
theorem xJ (b p:Nat):zY b p (b.testBit p)=b:=by unfold zY;rw[if_pos rfl]
theorem zgI {os:List Str}{s:Sn}{x:Str}(hs:s.Qx os)(hx:x∈os)(b:Nat):(Sn.q1 true x s).val (Rn os b)=(s.val (Rn os b)||s.val (Rn os (zY b (ix os x) (!b.testBit (ix os x))))):=by
 show(s.val (fun y=>if y=x then true else Rn os b y)||s.val (fun y=>if y=x then false else Rn os b y))=_
 rw[Kv hs hx,Kv hs hx]
 have z:=xJ b (ix os x)
 cases hb:b.testBit (ix os x)
 ·rw[hb] at z;rw[z];exact Bool.or_comm _ _
 ·rw[hb] at z;rw[z];rfl
theorem zgJ {os:List Str}{s:Sn}{x:Str}(hs:s.Qx os)(hx:x∈os)(b:Nat):(Sn.q1 false x s).val (Rn os b)=(s.val (Rn os b)&&s.val (Rn os (zY b (ix os x) (!b.testBit (ix os x))))):=by
 show(s.val (fun y=>if y=x then true else Rn os b y)&&s.val (fun y=>if y=x then false else Rn os b y))=_
 rw[Kv hs hx,Kv hs hx]
 have z:=xJ b (ix os x)
 cases hb:b.testBit (ix os x)
 ·rw[hb] at z;rw[z];exact Bool.and_comm _ _
 ·rw[hb] at z;rw[z];rfl
def TabOf (os:List Str)(s:Sn)(N:Nat):Prop:=yK os.length N (fun b=>s.val (Rn os b))
theorem zle:∀o,w2 o≠Str.ofString "no" := by decide +kernel
theorem zjV:∀o,w2 o≠Str.ofString "yes" := by decide +kernel
theorem zh8:∀o,w2 o≠Str.ofString "mark" := by decide +kernel
theorem zjW:∀o,w2 o≠Str.ofString "not" := by decide +kernel
theorem zh9:∀o,w2 o≠Str.ofString "some" := by decide +kernel
theorem zia:∀o,w2 o≠Str.ofString "each" := by decide +kernel
theorem znb (o:Fin 4):o=0\/o=1\/o=2\/o=3:=by
 match o with
 | 0=>exact .inl rfl
 | 1=>exact .inr (.inl rfl)
 | 2=>exact .inr (.inr (.inl rfl))
 | 3=>exact .inr (.inr (.inr rfl))
inductive zcS (vs:List V)(H:Hp)(Q:VK)(E9:XK):Prop
 | mk (o:Fin 4) (N M n:Nat) (f g:Nat->Bool) (_:vs=[.str (w2 o),.int N,.int M,.int ((2^2^n-1:Nat):Int)]) (_:yK n N f) (_:yK n M g) (_:∀R:Nat,yK n R (fun b=>Sn.op2 o (f b) (g b))->Q (.int R) H):zcS vs H Q E9
inductive VP (K:Frag)(d:Nat)(vs:List V)(H:Hp)(Q:VK)(E9:XK):Prop
 | mk (p l:Addr) (s:Sn) (os:List Str) (_:vs=[.ref p,.ref l]) (_:SQ H s p) (_:zT K H l (os.map V.str)) (_:s.Qx os) (_:os.length<=8) (_:s.depth<=d) (_:∀(N:Nat) (H':Hp),Same H H'->TabOf os s N->Q (.int N) H'):VP K d vs H Q E9
theorem zdX (d:Nat):N6 (VP K d):=fun vs H Q Q' E h ⟨p,l,s,os,e,h1,h2,h3,h4,h5,q⟩=>⟨p,l,s,os,e,h1,h2,h3,h4,h5,fun N H' g z=>h _ _ (q N H' g z)⟩
inductive zeT (K:Frag)(vs:List V)(H:Hp)(Q:VK)(E9:XK):Prop
 | mk (a:Addr) (ns:List Int) (_:vs=[.ref a]) (_:zT K H a (ns.map V.int)) (_:ns.length<=63) (_:∀H',Q (.bl true) H'):zeT K vs H Q E9
end
end ZP
namespace L2
open PySem PySem.Spec PyProof.Rows
theorem Ro {α:Type}{us:List α}(h:us.length=0):us=[]:=List.length_eq_zero_iff.mp h
theorem Q6 {α:Type}{us:List α}{n:Nat}(h:us.length=n+1):∃a vs,us=a::vs/\vs.length=n:=by
 cases us with
 | nil=>cases h
 | cons a vs=>exact⟨a,vs,rfl,by simpa using h⟩
def zlf (N P:List Str)(sc:Scope):Bool:=(match sc.kind with | .function=>true | _=>false)&&!sc.isCoroutine&&!sc.isGenerator&&decide N.Nodup&&decide (N.take P.length=P)&&P.all (fun x=>decide (sc.names.lookup x=some .local\/sc.names.lookup x=some .cell))&&sc.names.all (fun y=>decide (y.2≠.free))
theorem fsc {N P:List Str}{sc:Scope}(h:zlf N P sc=true):zO N P sc:=by
 unfold zlf at h
 simp only[zq9,Bool.not_eq_true',decide_eq_true_eq,zrb] at h
 obtain⟨⟨⟨⟨⟨⟨h1,h2⟩,h3⟩,h4⟩,h5⟩,h6⟩,h7⟩:=h
 refine⟨?_,h2,h3,h4,h5,h6,h7⟩
 revert h1
 cases sc.kind<;>simp
structure Df (K:Frag)(mg:Str->Option Value)(x:Str)(st:Stmt)(f:Addr)(d:FuncData)(ps:List Str):Prop where
 F:Fun K x x st f d
 b:Binds K d ps []
 m:mg x=some (.ref f)
structure Dm (K:Frag)(C:Addr)(x q:Str)(st:Stmt)(f:Addr)(d:FuncData)(ps:List Str):Prop where
 F:Fun K x q st f d
 b:Binds K d ps []
 e:Meth K C x f
section
variable {K:Frag}{h:Heap}{mg:Str->Option Value}{x q:Str}{st:Stmt}{f C:Addr}{oc:Value}{od an:Option Addr}{osl:Array (Option Value)}{kV doc pm cdv ct:Value}{ps:List Str}
theorem dfm (X:K.In h)(G:h.Ns mainGlobals mg)(n:nsIn K mainGlobals x=some (some (.ref f)))(l:K.lookup f=some ⟨oc,od,.func (PySem.W.fnOf x x (Yd st) (vL st) (zA st) .none kV doc pm an cdv ct),osl⟩)
  (c:PySem.W.codeIn K cdv x=true)(k:PySem.W.keepIn K (.ref f)=true)
  (b:∀(kV doc pm:Value) (an:Option Addr) (cdv ct:Value) (us:List Value),us.length=ps.length->bindArgs (PySem.W.fnOf x x (Yd st) (vL st) (zA st) .none kV doc pm an cdv ct) ⟨us,[]⟩=pure (ps.zip us)) :
  Df K mg x st f (PySem.W.fnOf x x (Yd st) (vL st) (zA st) .none kV doc pm an cdv ct) ps:=⟨zbG l c k,(zbG l c k).binds b,mg_of X G n⟩
theorem dmm (n:findIn K (.ref C) x=some (some (.ref f)))(i:PySem.W.isFn K (.ref f)=true)(l:K.lookup f=some ⟨oc,od,.func (PySem.W.fnOf x q (Yd st) (vL st) (zA st) .none kV doc pm an cdv ct),osl⟩)
  (c:PySem.W.codeIn K cdv q=true)(k:PySem.W.keepIn K (.ref f)=true)
  (b:∀(kV doc pm:Value) (an:Option Addr) (cdv ct:Value) (us:List Value),us.length=ps.length->bindArgs (PySem.W.fnOf x q (Yd st) (vL st) (zA st) .none kV doc pm an cdv ct) ⟨us,[]⟩=pure (ps.zip us)) :
  Dm K C x q st f (PySem.W.fnOf x q (Yd st) (vL st) (zA st) .none kV doc pm an cdv ct) ps:=⟨zbG l c k,(zbG l c k).binds b,⟨n,i,k⟩⟩
theorem zib {p:Addr}{it:Array Value}{n:Nat}{od:Option Addr}{sl:Array (Option Value)}{xs:List V}(l:K.lookup p=some ⟨.type "tuple", od,.seq it n,sl⟩)(v:it.toList.map zdx=xs.map some)(h:xs.length<=1000):∀H,xM K H p xs:=fun H=>zi3 l v h
end
section
variable {X:Cx}{CX:CXT}{k:Nat}{f C:Addr}{fd:FuncData}{ps:List Str}{sp:Sp}{st:Stmt}{x q m:Str}{p pos apos:Pos}{e o:Expr}{es:List Expr}{t:TA}{ta:TE}{E:XK}
theorem zy (F:zF X.prog X.w X.K X.mg X.base z7 k f fd ps sp)(hr:tL k X.A)(D:Df X.K X.mg x st f fd ps)(ha:PA X (e::es) t)(hg:Gl X x:=by rfl)(hdb:(x==("__debug__" : Str))=false:=by decide)(he:starEach (e::es) X.env=(false,eval e X.env)::starEach es X.env:=by rfl)(hpl:(backTo pos (starEach es X.env)).any (·.1)=false:=by rfl) :
  PE X (.Call (.Name x p) (e::es) [] pos) (Jc sp [] E0 t):=zhI F hr hg D.m D.F.2 D.b .nil zeH ha hdb he hpl
theorem yt {pl:Sem Bool}(he:PE X o ta)(c:Cls X.K C)(D:Dm X.K C m q st f fd ps)(F:zF X.prog X.w X.K X.mg X.base z7 k f fd ps sp)(hr:tL k X.A)(ha:PA X (e::es) t)
  (hst:starEach (e::es) X.env=(false,eval e X.env)::starEach es X.env:=by rfl)(hpl:(backTo pos (starEach es X.env)).any (·.1)=false:=by rfl)
  (ht:eval (.Call (.Attribute o m apos) (e::es) [] pos) X.env=(do
   let ov <-eval o X.env
   standAt apos.atName
   let (f,first) <-holding [ov] (getMethod ov m pl)
   callWith pos f first (backTo pos (starEach (e::es) X.env)) (backToKw pos (keywordEach [] X.env))):=by rfl) :
  PE X (.Call (.Attribute o m apos) (e::es) [] pos) (zeD C m sp [] E0 ta t):=zhJ he c D.e F hr D.b .nil zeH ha hst hpl ht
theorem Vh {pl:Sem Bool}(he:PE X o ta)(c:Cls X.K C)(D:Dm X.K C m q st f fd ps)(F:zF X.prog X.w X.K X.mg X.base z7 k f fd ps sp)(hr:tL k X.A)
  (ht:eval (.Call (.Attribute o m apos) [] [] pos) X.env=(do
   let ov <-eval o X.env
   standAt apos.atName
   let (f,first) <-holding [ov] (getMethod ov m pl)
   callWith pos f first (backTo pos (starEach [] X.env)) (backToKw pos (keywordEach [] X.env))):=by rfl) :
  PE X (.Call (.Attribute o m apos) [] [] pos) (zeD C m sp [] E0 ta zal):=zgh he c D.e F hr D.b .nil zeH ht
end
inductive Ent (K:Frag)(w:World):List DictEntry->List (Str×Int×Int)->List (Str×Value)->Prop
 | nil:Ent K w [] [] []
 | cons {k:Str} {tk:Tok} {p:Addr} {m n:Int} {od:Option Addr} {it:Array Value} {z:Nat} {sl:Array (Option Value)} {es:List DictEntry} {tb:List (Str×Int×Int)} {kvs:List (Str×Value)} (l:K.lookup p=some ⟨.type "tuple", od,.seq it z,sl⟩) (v:it.toList.map zdx=[V.int m,V.int n].map some) (t:Ent K w es tb kvs) :
   Ent K w (⟨hashStr w k,.str k tk,.ref p⟩::es) ((k,m,n)::tb) ((k,.ref p)::kvs)
structure Shp (K:Frag)(P:Program)(w:World)(a:Addr)(kvs:List (Str×Value))(tb:List (Str×Int×Int)):Prop where
 d:zhX K P w a kvs
 y:∀k m n,(k,m,n)∈tb->∃p,valueAt kvs k=some (.ref p)/\∀H,xM K H p [.int m,.int n]
 z:∀k,(∀e∈tb,e.1≠k)->valueAt kvs k=none
theorem Ent.keys {K:Frag}{w:World}{es:List DictEntry}{tb:List (Str×Int×Int)}{kvs:List (Str×Value)}(h:Ent K w es tb kvs):kvs.map (·.1)=tb.map (·.1):=by
 induction h with
 | nil=>rfl
 | cons _ _ _ ih=>rw[zq6,zq6,ih]
theorem zjX {K:Frag}{P:Program}{w:World}{a:Addr}{es:Array DictEntry}{ep:Nat}{kvs:List (Str×Value)}{tb:List (Str×Int×Int)}(l:K.lookup a=some ⟨.type "dict", none,.dict es ep,#[]⟩)(s:(a==sysModules)=false)(nd:decide (tb.map (·.1)).Nodup=true)(h:Ent K w es.toList tb kvs):Shp K P w a kvs tb:=by
 have nk:(kvs.map (·.1)).Nodup:=by rw[h.keys];exact of_decide_eq_true nd
 obtain⟨el,hel⟩:∃el,es.toList=el:=⟨_,rfl⟩
 rw[hel] at h
 refine⟨zhZ l hel s ?_ nk,?_,?_⟩
 ·clear nd nk l s hel
  induction h with
  | nil=>exact zjT
  | cons _ _ _ ih=>exact zhY ih
 ·clear nd l s hel
  induction h with
  | nil=>intro k m n hm;cases hm
  | @cons k0 tk p m0 n0 od it z sl es tb kvs l v t ih =>
   intro k m n hm
   rw[zq6,List.nodup_cons] at nk
   rcases List.mem_cons.mp hm with e | e
   ·cases e
    refine⟨p,?_,fun H=>zi3 l v (by show 2<=1000;decide)⟩
    simp[valueAt]
   ·obtain⟨q,hq,sq⟩:=ih nk.2 k m n e
    refine⟨q,?_,sq⟩
    have ne:k0≠k:=fun z=>nk.1 (by rw[z,t.keys];exact List.mem_map.mpr ⟨_,e,rfl⟩)
    simp[valueAt,ne] at hq ⊢
    exact hq
 ·clear nd nk l s hel
  induction h with
  | nil=>intro k _;rfl
  | @cons k0 tk p m0 n0 od it z sl es tb kvs l v t ih =>
   intro k hk
   have ne:=hk (k0,m0,n0) (zq1 ..)
   have:=ih k fun e he=>hk e (zqT _ he)
   simp[valueAt] at this ⊢
   exact⟨ne,this⟩
theorem zH {X:Cx}{pos:Pos}(i:Nat){x:Str}{e:Expr}{te:TE}{pos':Pos}(hN:X.N.Nodup)(he:PE X e te)(hi:X.N[i]?=some x:=by rfl)(hx:Loc X.env.scope x:=by exact Or.inl rfl)(hs:swapsWith e (some (.Name x pos')) pos.line X.env=pure false:=by rfl)(hf:X.fn x=true\/X.env.scope.names.lookup x=some .local:=by first | exact .inl rfl | exact .inr rfl | assumption) :
  PS X (.Assign [.Name x pos'] e pos) (zhC te (Va i)):=U0 hN hi hx he hs hf
def lcB (uP sc:Scope)(x:Str)(fv:List Str):Bool:=(match sc.kind with | .function=>true | _=>false)&&sc.names.all (fun y=>decide (y.2≠.cell))&&sc.names.all (fun y=>decide (y.2=.local->sc.names.lookup y.1=some .local))&&decide (sc.names.lookup x=some .local)&&sc.names.all (fun y=>decide (y.2=.free->uP.names.lookup y.1=some .cell\/uP.names.lookup y.1=some .free))&&fv.all (fun y=>decide (sc.names.lookup y=some .free/\(uP.names.lookup y=some .cell\/uP.names.lookup y=some .free)))&&decide (x::fv).Nodup
theorem lco {uP sc:Scope}{x:Str}{fv:List Str}(h:lcB uP sc x fv=true):Yy uP sc x fv:=by
 unfold lcB at h
 simp only[zq9,decide_eq_true_eq,zrb] at h
 obtain⟨⟨⟨⟨⟨⟨h1,h2⟩,h3⟩,h4⟩,h5⟩,h6⟩,h7⟩:=h
 refine⟨?_,h2,h3,h4,h5,h6,h7⟩
 revert h1
 cases sc.kind<;>simp
section
variable {κ:Type}[DecidableEq κ]
def xV (kvs:List (κ×V))(k:κ):Option V:=(kvs.find? fun kv=>decide (kv.1=k)).map (·.2)
def putK (kvs:List (κ×V))(k:κ)(v:V):List (κ×V) :=
 if (kvs.any fun kv=>decide (kv.1=k))=true then kvs.map (fun kv=>if kv.1=k then (kv.1,v) else kv) else kvs++[(k,v)]
theorem wH {p:κ×V}{r:List (κ×V)}{k:κ}(e:p.1=k):xV (p::r) k=some p.2:=by simp[xV,List.find?_cons,e]
theorem xW {p:κ×V}{r:List (κ×V)}{k:κ}(e:¬p.1=k):xV (p::r) k=xV r k:=by simp[xV,List.find?_cons,e]
theorem Tc (k:κ):∀kvs:List (κ×V),(kvs.any fun kv=>decide (kv.1=k))=(xV kvs k).isSome
 | []=>rfl
 | p::r=>by
  rw[List.any_cons]
  by_cases e:p.1=k
  ·simp only[wH e,decide_eq_true e,Bool.true_or,Option.isSome_some]
  ·rw[xW e,decide_eq_false e,Bool.false_or];exact Tc k r
theorem zcT (k j:κ)(y:V):∀kvs:List (κ×V),xV (kvs.map fun kv=>if kv.1=k then (kv.1,y) else kv) j=(xV kvs j).map fun x=>if j=k then y else x
 | []=>rfl
 | p::r=>by
  have ih:=zcT k j y r
  rw[zq6]
  by_cases h:p.1=k
  ·rw[if_pos h]
   by_cases e:p.1=j
   ·rw[wH (p:=(p.1,y)) e,wH e,Option.map_some,if_pos (e.symm.trans h)]
   ·rw[xW (p:=(p.1,y)) e,xW e,ih]
  ·rw[if_neg h]
   by_cases e:p.1=j
   ·rw[wH (p:=p) e,wH e,Option.map_some,if_neg (fun z=>h (e.trans z))]
   ·rw[xW (p:=p) e,xW e,ih]
theorem za4 (k j:κ)(y:V):∀kvs:List (κ×V),xV kvs k=none->xV (kvs++[(k,y)]) j=if j=k then some y else xV kvs j
 | [],_=>by
  by_cases e:k=j
  ·rw[if_pos e.symm];exact wH (p:=(k,y)) e
  ·rw[if_neg (fun z=>e z.symm)];exact xW (p:=(k,y)) e
 | p::r,hn=>by
  rw[List.cons_append]
  have hk:¬p.1=k:=fun z=>by rw[wH z] at hn;cases hn
  rw[xW hk] at hn
  have ih:=za4 k j y r hn
  by_cases e:p.1=j
  ·rw[wH e,wH e,if_neg (fun z=>hk (e.trans z))]
  ·rw[xW e,xW e,ih]
theorem Jo (kvs:List (κ×V))(k j:κ)(y:V):xV (putK kvs k y) j=if j=k then some y else xV kvs j:=by
 unfold putK
 by_cases a:(kvs.any fun kv=>decide (kv.1=k))=true
 ·rw[if_pos a,zcT]
  rw[Tc] at a
  by_cases e:j=k
  ·obtain⟨x,hx⟩:=Option.isSome_iff_exists.mp a
   rw[if_pos e,e,hx,Option.map_some,if_pos rfl]
  ·rw[if_neg e]
   cases xV kvs j with
   | none=>rfl
   | some x=>rw[Option.map_some,if_neg e]
 ·rw[if_neg a]
  refine za4 k j y kvs ?_
  rw[Tc] at a
  cases q:xV kvs k with
  | none=>rfl
  | some x=>rw[q] at a;exact(a rfl).elim
theorem Wn (kvs:List (κ×V))(k:κ)(v:V):(putK kvs k v).length<=kvs.length+1:=by
 unfold putK
 split
 ·rw[zqI];omega
 ·rw[zqQ,zqU,List.length_nil];omega
theorem Q7 {kvs:List (κ×V)}{k:κ}(v:V)(h:xV kvs k=none):putK kvs k v=kvs++[(k,v)]:=by
 unfold putK
 rw[Tc,h]
 exact if_neg (by decide)
theorem Ri.Mf {o:Option V}{u:Option Value}(r:Ri o u):o.isSome=u.isSome:=by
 cases o with
 | none=>cases u with
  | none=>rfl
  | some _=>exact(show False from r).elim
 | some _=>cases u with
  | none=>exact(show False from r).elim
  | some _=>rfl
theorem KV.val {kvs:List (κ×V)}{vs:List (κ×Value)}(r:KV kvs vs)(k:κ):Ri (xV kvs k) (valueAt vs k):=by
 unfold KV at r
 induction r with
 | nil=>exact True.intro
 | @cons p q ps qs h t ih =>
  obtain⟨h1,h2⟩:=h
  by_cases e:p.1=k
  ·have e':q.1=k:=h1.symm.trans e
   have b:valueAt (q::qs) k=some q.2:=by simp[valueAt,List.find?_cons,e']
   rw[wH e,b];exact h2
  ·have e':¬q.1=k:=fun z=>e (h1.trans z)
   have b:valueAt (q::qs) k=valueAt qs k:=by simp[valueAt,List.find?_cons,e']
   rw[xW e,b];exact ih
theorem KV.any {kvs:List (κ×V)}{vs:List (κ×Value)}(r:KV kvs vs)(k:κ):(kvs.any fun kv=>decide (kv.1=k))=vs.any fun kv=>decide (kv.1=k):=by
 unfold KV at r
 induction r with
 | nil=>rfl
 | cons h t ih=>rw[List.any_cons,List.any_cons,ih,h.1]
theorem KV.repl {kvs:List (κ×V)}{vs:List (κ×Value)}(r:KV kvs vs)(k:κ){y:V}{u:Value}(ry:RelV y u) :
  KV (kvs.map fun kv=>if kv.1=k then (kv.1,y) else kv) (vs.map fun kv=>if kv.1=k then (kv.1,u) else kv):=by
 unfold KV at r ⊢
 induction r with
 | nil=>exact .nil
 | @cons p q ps qs h t ih =>
  rw[zq6,zq6]
  refine .cons ?_ ih
  obtain⟨h1,h2⟩:=h
  by_cases e:p.1=k
  ·rw[if_pos e,if_pos (h1.symm.trans e)];exact⟨h1,ry⟩
  ·rw[if_neg e,if_neg (fun z=>e (h1.trans z))];exact⟨h1,h2⟩
theorem KV.put {kvs:List (κ×V)}{vs:List (κ×Value)}(r:KV kvs vs)(k:κ){y:V}{u:Value}(ry:RelV y u):KV (putK kvs k y) (stored vs k u):=by
 unfold putK stored
 rw[r.any k]
 by_cases e:(vs.any fun kv=>decide (kv.1=k))=true
 ·rw[if_pos e,if_pos e];exact r.repl k ry
 ·rw[if_neg e,if_neg e];exact Paired.snoc r ⟨rfl,ry⟩
theorem KV.length {kvs:List (κ×V)}{vs:List (κ×Value)}(r:KV kvs vs):kvs.length=vs.length:=Paired.length r
end
theorem za5 {P:Program}{w:World}{k:Key}{u:Value}(r:RelV (kV k) u):(yc P w).is k u=true:=by
 cases k with
 | inl i=>obtain⟨t,e⟩:=(show ∃t,u=Value.int i t from r);subst e;exact zcv P w i t
 | inr x=>obtain⟨t,e⟩:=(show ∃t,u=Value.str x t from r);subst e;exact zcw P w x t
theorem za6 {P:Program}{w:World}:∀{ks:List Key} {us:List Value},Vals (ks.map kV) us->ItemsAre (yc P w) ks us
 | [],_,r=>by rw[List.map_nil] at r;cases r;exact .nil
 | k::ks,_,r=>by
  rw[zq6] at r
  cases r with
  | cons h t=>exact .cons (za5 h) (za6 t)
abbrev KT (H:Hp):List (List Key×V)->List (List Key×Addr×Value)->Prop:=Paired fun p q=>p.1=q.1/\H q.2.1=some (.tup (p.1.map kV))/\RelV p.2 q.2.2
theorem KT.val {H:Hp}{kvs:List (List Key×V)}{xs:List (List Key×Addr×Value)}(r:KT H kvs xs)(k:List Key):Ri (xV kvs k) ((atKey xs k).map (·.2)):=by
 induction r with
 | nil=>exact True.intro
 | @cons p q ps qs h t ih =>
  obtain⟨h1,_,h2⟩:=h
  by_cases e:p.1=k
  ·have e':q.1=k:=h1.symm.trans e
   have b:atKey (q::qs) k=some q.2:=by simp[atKey,List.find?_cons,e']
   rw[wH e,b];exact h2
  ·have e':¬q.1=k:=fun z=>e (h1.trans z)
   have b:atKey (q::qs) k=atKey qs k:=by simp[atKey,List.find?_cons,e']
   rw[xW e,b];exact ih
theorem KT.repl {H:Hp}{kvs:List (List Key×V)}{xs:List (List Key×Addr×Value)}(r:KT H kvs xs)(k:List Key){y:V}{u:Value}(ry:RelV y u) :
  KT H (kvs.map fun kv=>if kv.1=k then (kv.1,y) else kv) (xs.map (putAt k u)):=by
 induction r with
 | nil=>exact .nil
 | @cons p q ps qs h t ih =>
  rw[zq6,zq6]
  refine .cons ?_ ih
  obtain⟨h1,h2,h3⟩:=h
  unfold putAt
  by_cases e:p.1=k
  ·rw[if_pos e,if_pos (h1.symm.trans e)];exact⟨h1,h2,ry⟩
  ·rw[if_neg e,if_neg (fun z=>e (h1.trans z))];exact⟨h1,h2,h3⟩
theorem KT.put {H:Hp}{kvs:List (List Key×V)}{xs:List (List Key×Addr×Value)}(r:KT H kvs xs)(k:List Key){b:Addr}{y:V}{u:Value}(hb:H b=some (.tup (k.map kV)))(ry:RelV y u) :
  KT H (putK kvs k y) (storedH xs k b u):=by
 have e:(kvs.any fun kv=>decide (kv.1=k))=(atKey xs k).isSome:=by
  rw[Tc,(r.val k).Mf,Option.isSome_map]
 unfold putK storedH
 rw[e]
 by_cases q:(atKey xs k).isSome=true
 ·rw[if_pos q,if_pos q];exact r.repl k ry
 ·rw[if_neg q,if_neg q];exact Paired.snoc r ⟨rfl,hb,ry⟩
theorem KT.keeps {H H':Hp}{kvs:List (List Key×V)}{xs:List (List Key×Addr×Value)}(r:KT H kvs xs)(ht:∀b ys,H b=some (.tup ys)->H' b=some (.tup ys)):KT H' kvs xs :=
 Paired.zjm r fun _ _ z=>⟨z.1,ht _ _ z.2.1,z.2.2⟩
section
variable {P:Program}{w:World}{H:Hp}{h:Heap}{a:Addr}
theorem zi5 {u:HO}(ok:Rk P w H h)(e:Rd H a u):xO P w H h a u:=e.ok ok
theorem zeU {kvs:List (Key×V)}(ok:Rk P w H h)(e:Rd H a (.dK kvs)):kvs.length<=sizeLine/\(a==sysModules)=false/\∃vs,KV kvs vs/\h.DictOf (yc P w) a vs :=
 show xO P w H h a (.dK kvs) from zi5 ok e
theorem zi6 {kvs:List (Key×V)}(ok:Rk P w H h)(e:H a=some (.dK kvs)):kvs.length<=sizeLine/\(a==sysModules)=false/\∃vs,KV kvs vs/\h.DictOf (yc P w) a vs:=zeU ok (.inl e)
theorem zbR {ks:List Key}(ok:Rk P w H h)(e:H a=some (.tup (ks.map kV))):(tupleKind (yc P w)).is h ks a:=by
 obtain⟨_,its,r,o,h1,h2,n,h3⟩:=(show xO P w H h a (.tup (ks.map kV)) from ok a _ e)
 exact⟨o,its.toArray,n,h1,h2,h3,by simpa using za6 r⟩
theorem zeV {kvs:List (List Key×V)}(ok:Rk P w H h)(e:Rd H a (.dT kvs)):kvs.length<=sizeLine/\(a==sysModules)=false /\
  ∃xs,KT H kvs xs/\h.DictOfH (tupleKind (yc P w)) a xs:=by
 obtain⟨z,y,xs,r,o,es,ep,h1,h2,h3,h4,h5⟩:=(show xO P w H h a (.dT kvs) from zi5 ok e)
 refine⟨z,y,xs,r,o,es,ep,h1,h2,h3,h4,fun x hx=>?_,h5⟩
 have all:∀{l:List (List Key×V)} {m:List (List Key×Addr×Value)},KT H l m->∀x∈m,(tupleKind (yc P w)).is h x.1 x.2.1:=by
  intro l m q
  induction q with
  | nil=>intro x hx;exact nomatch hx
  | @cons p q ps qs hq t ih =>
   intro x hx
   rcases List.mem_cons.mp hx with e | hx
   ·subst e
    exact zbR ok (by rw[<-hq.1];exact hq.2.1)
   ·exact ih x hx
 exact all r x hx
theorem zlg {kvs:List (List Key×V)}(ok:Rk P w H h)(e:H a=some (.dT kvs)):kvs.length<=sizeLine/\(a==sysModules)=false /\
  ∃xs,KT H kvs xs/\h.DictOfH (tupleKind (yc P w)) a xs:=zeV ok (.inl e)
end
def Vi (H:Hp)(a:Addr)(y:V)(r:Option V):Prop :=
 (∃kvs k,Rd H a (.dK kvs)/\y=kV k/\r=xV kvs k)\/∃kvs k b,Rd H a (.dT kvs)/\y=.ref b/\H b=some (.tup (k.map kV))/\r=xV kvs k
def zbS (H:Hp)(a:Addr)(y v:V)(H':Hp):Prop :=
 (∃kvs k,H a=some (.dK kvs)/\y=kV k/\kvs.length<sizeLine/\H'=upd H a (.dK (putK kvs k v))) \/
 ∃kvs k b,H a=some (.dT kvs)/\y=.ref b/\H b=some (.tup (k.map kV))/\kvs.length<sizeLine/\H'=upd H a (.dT (putK kvs k v))
theorem Vi.k {H:Hp}{a:Addr}{kvs:List (Key×V)}{k:Key}(e:H a=some (.dK kvs)):Vi H a (kV k) (xV kvs k):=.inl ⟨kvs,k,.inl e,rfl,rfl⟩
theorem zbS.k {H:Hp}{a:Addr}{kvs:List (Key×V)}{k:Key}{v:V}(e:H a=some (.dK kvs))(hl:kvs.length<sizeLine):zbS H a (kV k) v (upd H a (.dK (putK kvs k v))):=.inl ⟨kvs,k,e,rfl,hl,rfl⟩
section
variable {X:Cx}{pins:List (Addr×Obj)}{σ:St}{H:Hp}{s:Shared}{a:Addr}{y v:V}{u r:Value}{o:Option V}{A:Around}{E:Value->Shared->Prop}
theorem Inv.big (I:Inv X pins σ H s):sysModules<s.heap.objs.size:=by
 have h:mainGlobals<s.heap.objs.size:=(I.mod.glob.keeps I.bk).lt
 exact Nat.lt_trans (by decide) h
theorem zfC {Q:Value->Shared->Prop}(hu:A.units+1<cLine)(I:Inv X pins σ H s)(g:Vi H a y (some v))(ry:RelV y u)(h:∀w' s',Inv X pins σ H s'->RelV v w'->Q w' s') :
  wpAny (model X.prog X.w) A (getItem (.ref a) u) Q E s:=by
 rcases g with ⟨kvs,k,e,ey,l⟩ | ⟨kvs,k,b,e,ey,eb,l⟩
 ·subst ey
  obtain⟨z,hd,vs,rel,dd⟩:=zeU I.hok e
  obtain⟨w',hw,rw'⟩:=Ri.some_of (v:=v) (o:=valueAt vs k) (by rw[l];exact rel.val k)
  exact wpAny_getItem_of (za5 ry) dd.mapOf hw (h w' _ (I.tok _) rw')
 ·subst ey
  cases (show u=Value.ref b from ry)
  obtain⟨z,hd,xs,rel,dd⟩:=zeV I.hok e
  obtain⟨w',hw,rw'⟩:=Ri.some_of (v:=v) (o:=(atKey xs k).map (·.2)) (by rw[l];exact rel.val k)
  obtain⟨p,hp,hp2⟩:=Option.map_eq_some_iff.mp hw
  refine wpAny_getItem_heap (tupleKind_room_in1 hu) (zbR I.hok eb) dd hp ?_
  rw[hp2]
  exact h w' _ (I.tok _) rw'
theorem zic {Q:Value->Shared->Prop}(hu:A.units+1<cLine)(I:Inv X pins σ H s)(g:Vi H a y o)(ry:RelV y u)(h:∀s',Inv X pins σ H s'->Q (.bool (!o.isSome)) s') :
  wpAny (model X.prog X.w) A (compareOp .NotIn u (.ref a)) Q E s:=by
 rcases g with ⟨kvs,k,e,ey,l⟩ | ⟨kvs,k,b,e,ey,eb,l⟩
 ·subst ey
  obtain⟨z,hd,vs,rel,dd⟩:=zeU I.hok e
  refine wpAny_notIn_of (za5 ry) hd dd.mapOf ?_
  rw[<-(rel.val k).Mf,<-l]
  exact h _ (I.tok _)
 ·subst ey
  cases (show u=Value.ref b from ry)
  obtain⟨z,hd,xs,rel,dd⟩:=zeV I.hok e
  refine wpAny_notIn_heap (tupleKind_room_in1 hu) (zbR I.hok eb) hd dd ?_
  have q:=(rel.val k).Mf
  rw[Option.isSome_map] at q
  rw[<-q,<-l]
  exact h _ (I.tok _)
theorem zbT {h':Heap}{t':Nat}{ob:HO}(I:Inv X pins σ H s)(mu:Mut (H a))(hs:Heap.SameBut a s.heap h')(he:∃q,h'.get? a=some q)(new:xO X.prog X.w (upd H a ob) h' a ob) :
  Inv X pins σ (upd H a ob) { s with heap:=h',toks:=t' } :=
 I.write (x:=a) (e:=a) mu (.inl rfl) (fun b q hb z=>(hs.2 b hb).trans z) he new
theorem zdY {P:Program}{w:World}{H':Hp}{h':Heap}{kvs:List (Key×V)}{vs:List (Key×Value)}(z:kvs.length<=sizeLine)(hd:(a==sysModules)=false)(rel:KV kvs vs)(dd:h'.DictOf (yc P w) a vs) :
  xO P w H' h' a (.dK kvs):=⟨z,hd,vs,rel,dd⟩
theorem zfD {H':Hp}{Q:Unit->Shared->Prop}(hu:A.units+1<cLine)(I:Inv X pins σ H s)(g:zbS H a y v H')(ry:RelV y u)(rv:RelV v r)(h:∀s',Inv X pins σ H' s'->Q () s') :
  wpAny (model X.prog X.w) A (setItem (.ref a) u r) Q E s:=by
 rcases g with ⟨kvs,k,e,ey,l,eH⟩ | ⟨kvs,k,b,e,ey,eb,l,eH⟩
 ·subst ey eH
  obtain⟨z,hd,vs,rel,dd⟩:=zi6 I.hok e
  have hz:vs.length<=sizeLine:=by rw[<-rel.length];exact z
  have hl:(putK kvs k v).length<=sizeLine:=by have:=Wn kvs k v;omega
  refine wpAny_setItem_pairs (hsz:=hz) (za5 ry) dd fun h' dd' hs=>h _ ?_
  have he:∃q,h'.get? a=some q:=let ⟨q,_,_,hq,_⟩:=dd';⟨q,hq⟩
  exact zbT I (by rw[e];exact True.intro) hs he (zdY hl hd (rel.put k rv) dd')
 ·subst ey eH
  cases (show u=Value.ref b from ry)
  obtain⟨z,hd,xs,rel,dd⟩:=zlg I.hok e
  have hz:xs.length<=sizeLine:=by rw[<-Paired.length rel];exact z
  have hl:(putK kvs k v).length<=sizeLine:=by have:=Wn kvs k v;omega
  refine wpAny_setItem_heap (hsz:=hz) (tupleKind_room_in1 hu) (zbR I.hok eb) dd fun h' dd' hs=>h _ ?_
  obtain⟨q,es,ep,hq,h2,h3,h4,_,h5⟩:=dd'
  refine zbT I (by rw[e];exact True.intro) hs ⟨q,hq⟩ ⟨hl,hd,_,(rel.put k eb rv).keeps fun c ys ec=>?_,q,es,ep,hq,h2,h3,h4,h5⟩
  rw[zE (Wi ec e (fun z=>nomatch z))]
  exact ec
end
def zlh (i:Expr):Prop:=∀ov iv,subscripted i false ov iv=operate [ov,iv] (getItem ov iv)
theorem zid {prog:Program}{w:World}{A:Around}{E:Value->Shared->Prop}{s:Shared}{env:Env}{value slice:Expr}{pos:Pos}{T id:String}{Q:Value->Shared->Prop}
  (hl:typeLookup (.type T) "__getitem__"=pure (some (.builtin id)))(hs:zlh slice)
  (h:wpAny (model prog w) A (eval value env) (fun o s₁=>wpAny (model prog w) A (eval slice env) (fun i s₂=>s₂.TypeIs o T/\wpAny (model prog w) A (getItem o i) Q E s₂) E s₁) E s) :
  wpAny (model prog w) A (eval (.Subscript value slice pos) env) Q E s:=by
 refine Subscript_ (wpAny_mono h (fun o s₁ h₁=>wpAny_mono h₁ (fun i s₂ h₂=>?_) fun _ _ x=>x) fun _ _ x=>x)
 obtain⟨hT,h₂⟩:=h₂
 unfold subscriptTail
 refine wpAny_bind ?_
 rw[getitemInPython_of_ne hT.not_modules]
 refine wpAny_bind (wpAny_specialOf hT hl ?_)
 have fin:wpAny (model prog w) A (subscripted slice false o i) (fun r s₃=>wpAny (model prog w) A (letTemporaryGo value o r>>=fun _=>pure r) Q E s₃) E s₂:=by
  rw[hs o i]
  exact wpAny_operating (wpAny_mono h₂ (fun r s₃ h₃=>wpAny_bind (wpAny_letTemporaryGo (wpAny_pure h₃))) fun _ _ x=>x)
 first
  | exact wpAny_pure (wpAny_bind fin)
  | exact wpAny_bind (wpAny_pure (wpAny_bind fin))
  | exact wpAny_bind fin
theorem zcU {X:Cx}{pins:List (Addr×Obj)}{σ:St}{H:Hp}{s:Shared}{a:Addr}{y:V}{o:Option V}(I:Inv X pins σ H s)(g:Vi H a y o):s.TypeIs (.ref a) "dict" := by
 rcases g with ⟨kvs,k,e,_,_⟩ | ⟨kvs,k,b,e,_,_,_⟩
 ·obtain⟨_,_,vs,_,dd⟩:=zeU I.hok e
  exact dd.typeIs
 ·obtain⟨_,_,xs,_,dd⟩:=zeV I.hok e
  exact dd.typeIs
def zli (td ty:TE):TE:=fun σ H Q=>td σ H fun x H1=>ty σ H1 fun y H2=>∃a v,x=.ref a/\Vi H2 a y (some v)/\Q v H2
def zie (ty td:TE):TE:=fun σ H Q=>ty σ H fun y H1=>td σ H1 fun x H2=>∃a o,x=.ref a/\Vi H2 a y o/\Q (.bl (!o.isSome)) H2
def zlj (td ty tv:TE):TS:=fun D σ H=>tv σ H fun v H1=>td σ H1 fun x H2=>ty σ H2 fun y H3=>∃a H4,x=.ref a/\zbS H3 a y v H4/\D.nx σ H4
section
variable {X:Cx}{o i e value:Expr}{pos pos' tpos:Pos}{td ty tv:TE}
theorem VR (hu:X.A.units+1<cLine)(ho:PE X o td)(hi:PE X i ty)(hs:zlh i):PE X (.Subscript o i pos) (zli td ty):=by
 intro pins s σ H Q I h
 refine zid PySem.F.slot_dict_getitem.lookup hs (xT (ho pins s σ H _ I h) fun u s1 ⟨x,H1,I1,rx,q1⟩=>xT (hi pins s1 σ H1 _ I1 q1) fun iv s2 ⟨y,H2,I2,ry,a,v,ex,g,q2⟩=>?_)
 subst ex
 obtain rfl:u=Value.ref a:=rx
 exact⟨zcU I2 g,zfC hu I2 g ry fun w' s3 I3 rw'=>⟨v,H2,I3,rw',q2⟩⟩
theorem za7 (hu:X.A.units+1<cLine)(hi:PE X i ty)(ho:PE X o td):PC X .NotIn i o (zie ty td):=by
 intro pins s σ H Q I h
 refine xT (hi pins s σ H _ I h) fun iv s1 ⟨y,H1,I1,ry,q1⟩=>xT (ho pins s1 σ H1 _ I1 q1) fun u s2 ⟨x,H2,I2,rx,a,ov,ex,g,q2⟩=>?_
 subst ex
 obtain rfl:u=Value.ref a:=rx
 exact zic hu I2 g ry fun s3 I3=>⟨.bl (!ov.isSome),H2,I3,rfl,q2⟩
theorem Q8 (hu:X.A.units+1<cLine)(ho:PE X o td)(hi:PE X i ty)(hv:PE X value tv)(hs:swapsWith value (some (.Subscript o i pos')) pos.line X.env=pure false) :
  PS X (.Assign [.Subscript o i pos'] value pos) (zlj td ty tv):=by
 intro pins s σ H D I h
 refine wpAny_Assign_Subscript (xT (hv pins s σ H _ I h) fun r s1 ⟨v,H1,I1,rv,q1⟩=>xT (ho pins s1 σ H1 _ I1 q1) fun u s2 ⟨x,H2,I2,rx,q2⟩=>xT (hi pins s2 σ H2 _ I2 q2) fun iv s3 ⟨y,H3,I3,ry,a,H4,ex,g,q3⟩=>?_) hs
 subst ex
 obtain rfl:u=Value.ref a:=rx
 exact zfD hu I3 g ry rv fun s4 I4=>⟨σ,H4,I4,q3⟩
end
theorem zcV {P:Program}{w:World}{H:Hp}(h:Heap)(hb:sysModules<h.objs.size):xO P w H (h.push { cls:=.type "dict", data:=.dict #[] }) h.objs.size (.dK []) :=
 ⟨zq4 _,beq_eq_false_iff_ne.mpr (Ne.symm (zqX hb)),[],.nil,Heap.DictOf.new h⟩
def zjY:TE:=fun _ H Q=>∀p,H p=none->Q (.ref p) (upd H p (.dK []))
section
variable {X:Cx}{pos:Pos}
theorem Jp:PE X (.Dict [] [] pos) zjY:=fun pins s σ H Q I h =>
 wpAny_Dict_empty ⟨.ref s.heap.objs.size,_,I.laid (a:=s.heap.objs.size) (o:=.dK []) (t':=s.toks) (fun _ _ q=>zqO _ q) (zqY _) (zcV s.heap I.big),rfl,h _ (I.hok.fresh (zqY _))⟩
end
def zdZ:List (TE×TE)->St->Hp->(List (V×V)->Hp->Prop)->Prop
 | [],_,H,Q=>Q [] H
 | (tk,tv)::r,σ,H,Q=>tk σ H fun x H1=>tv σ H1 fun y H2=>zdZ r σ H2 fun ps H3=>Q ((x,y)::ps) H3
abbrev VV:List (V×V)->List (Value×Value)->Prop:=Paired fun p q=>RelV p.1 q.1/\RelV p.2 q.2
def PPs (X:Cx)(pos:Pos)(keys:List (Option Expr))(values:List Expr)(trs:List (TE×TE)):Prop :=
 ∀(pins:List (Addr×Obj)) (s:Shared) (σ:St) (H:Hp) (Q:List (V×V)->Hp->Prop),Inv X pins σ H s->zdZ trs σ H Q ->
  wpAny (model X.prog X.w) X.A (evalPairs (pairTrees keys values X.env pos)) (fun vs s'=>∃ps H',Inv X pins σ H' s'/\VV ps vs/\Q ps H') X.xe s
theorem zig {X:Cx}{pos:Pos}:PPs X pos [] [] []:=fun pins s σ H Q I h=>pairTrees_nil_walk ⟨[],H,I,.nil,h⟩
theorem zcW {X:Cx}{pos:Pos}{k v:Expr}{ks:List (Option Expr)}{vs:List Expr}{tk tv:TE}{trs:List (TE×TE)}(hk:PE X k tk)(hv:PE X v tv)(hr:PPs X pos ks vs trs) :
  PPs X pos (some k::ks) (v::vs) ((tk,tv)::trs):=fun pins s σ H Q I h =>
 pairTrees_cons_walk (xT (hk pins s σ H _ I h) fun u s1 ⟨x,H1,I1,rx,q1⟩=>xT (hv pins s1 σ H1 _ I1 q1) fun w2 s2 ⟨y,H2,I2,ry,q2⟩ =>
  xT (hr pins s2 σ H2 _ I2 q2) fun ws s3 ⟨ps,H3,I3,rel,q3⟩=>⟨(x,y)::ps,H3,I3,.cons ⟨rx,ry⟩ rel,q3⟩)
def uL (kvs more:List (Key×V)):List (Key×V):=more.foldl (fun acc kv=>putK acc kv.1 kv.2) kvs
theorem KV.merge:∀{more:List (Key×V)} {rs:List (Key×Value)} {kvs:List (Key×V)} {vs:List (Key×Value)},KV more rs->KV kvs vs->KV (uL kvs more) (merged vs rs):=by
 intro more rs kvs vs r
 unfold KV at r
 induction r generalizing kvs vs with
 | nil=>intro q;exact q
 | @cons p q ps qs h t ih =>
  intro r0
  have e:KV (putK kvs p.1 p.2) (stored vs q.1 q.2):=by
   have:=r0.put p.1 h.2
   rw[<-h.1];exact this
  exact ih e
theorem WT:∀(more kvs:List (Key×V)),(uL kvs more).length<=kvs.length+more.length
 | [],kvs=>by show kvs.length<=kvs.length+0;omega
 | p::r,kvs=>by
  have h1:=WT r (putK kvs p.1 p.2)
  have h2:=Wn kvs p.1 p.2
  show(uL (putK kvs p.1 p.2) r).length<=_
  rw[zqU];omega
theorem Jq {P:Program}{w:World}:∀{kvs:List (Key×V)} {ws:List (Value×Value)},VV (kvs.map fun kv=>(kV kv.1,kv.2)) ws->∃rs,Carries (yc P w) ws rs/\KV kvs rs
 | [],_,r=>by rw[List.map_nil] at r;cases r;exact⟨[],True.intro,.nil⟩
 | p::kvs,_,r=>by
  rw[zq6] at r
  cases r with
  | @cons a b as bs h t =>
   obtain⟨rs,c,q⟩:=Jq (P:=P) (w:=w) t
   obtain⟨b1,b2⟩:=b
   exact⟨(p.1,b2)::rs,⟨za5 h.1,rfl,c⟩,.cons ⟨rfl,h.2⟩ q⟩
def zlk (trs:List (TE×TE)):TE:=fun σ H Q=>∀p,H p=none->zdZ trs σ (upd H p (.dK [])) fun ps H2=>H2 p=some (.dK [])/\∃kvs:List (Key×V),ps=kvs.map (fun kv=>(kV kv.1,kv.2))/\kvs.length<=15/\Q (.ref p) (upd H2 p (.dK (uL [] kvs)))
theorem zih {X:Cx}{pos:Pos}{keys:List (Option Expr)}{values:List Expr}{trs:List (TE×TE)}(h:PPs X pos keys values trs)(hall:keys.all (·.isSome)=true)(hl:keys.length=values.length)(h0:keys≠[])
  (h15:keys.length<=15):PE X (.Dict keys values pos) (zlk trs):=by
 intro pins s σ H Q I q
 have hn:=I.hok.fresh (zqY s.heap.objs.size)
 have I1:=I.laid (a:=s.heap.objs.size) (o:=.dK []) (h':=s.heap.push { cls:=.type "dict", data:=.dict #[] }) (t':=s.toks) (fun _ _ q=>zqO _ q) (zqY _) (zcV s.heap I.big)
 refine wpAny_Dict_walk (knd:=yc X.prog X.w) hall hl h0 h15 (xT (h pins _ σ _ _ I1 (q _ hn)) fun ws s2 ⟨ps,H2,I2,rel,e,kvs,ep,lk,q2⟩=>?_)
 subst ep
 obtain⟨rs,c,rk⟩:=Jq (P:=X.prog) (w:=X.w) rel
 obtain⟨z,hd,vs0,r0,dd⟩:=zi6 I2.hok e
 cases r0
 refine⟨rs,c,dd,fun h' dd' hs=>⟨.ref s.heap.objs.size,_,?_,rfl,q2⟩⟩
 have hz:(uL [] kvs).length<=sizeLine:=by
  have h1:=WT kvs []
  rw[List.length_nil] at h1
  rw[sizeLine_eq];omega
 have he:∃q,h'.get? s.heap.objs.size=some q:=let ⟨q,_,_,hq,_⟩:=dd';⟨q,hq⟩
 exact zbT I2 (by rw[e];exact True.intro) hs he (zdY hz hd (rk.merge .nil) dd')
inductive Td (K:Frag)(H:Hp):Nat->V->V->Bool->Prop
 | flat {n:Nat} {x y:V} (fx:xQ x=true) (fy:xQ y=true):Td K H n x y (eqV x y)
 | tt {n:Nat} {p q:Addr} {xs ys:List V} {e:Nat->Bool} (hp:xM K H p xs) (hq:xM K H q ys) (h:∀(j:Nat) x y,xs[j]?=some x->ys[j]?=some y->Td K H n x y (e j)) :
   Td K H (n+1) (.ref p) (.ref q) ((List.range (min xs.length ys.length)).all e&&xs.length==ys.length)
 | ll {n:Nat} {p q:Addr} {xs ys:List V} {e:Nat->Bool} (hp:zT K H p xs) (hq:zT K H q ys) (hl:xs.length=ys.length) (h:∀(j:Nat) x y,xs[j]?=some x->ys[j]?=some y->Td K H n x y (e j)) :
   Td K H (n+1) (.ref p) (.ref q) ((List.range xs.length).all e)
 | ln {n:Nat} {p q:Addr} {xs ys:List V} (hp:zT K H p xs) (hq:zT K H q ys) (hl:xs.length≠ys.length):Td K H (n+1) (.ref p) (.ref q) false
 | lt {n:Nat} {p q:Addr} {xs ys:List V} (hp:zT K H p xs) (hq:xM K H q ys):Td K H (n+1) (.ref p) (.ref q) false
 | tl {n:Nat} {p q:Addr} {xs ys:List V} (hp:xM K H p xs) (hq:zT K H q ys):Td K H (n+1) (.ref p) (.ref q) false
 | lf {n:Nat} {p:Addr} {xs:List V} {y:V} (hp:zT K H p xs) (fy:xQ y=true):Td K H (n+1) (.ref p) y false
 | fl {n:Nat} {p:Addr} {xs:List V} {y:V} (hp:zT K H p xs) (fy:xQ y=true):Td K H (n+1) y (.ref p) false
 | tf {n:Nat} {p:Addr} {xs:List V} {y:V} (hp:xM K H p xs) (fy:xQ y=true):Td K H (n+1) (.ref p) y false
 | ft {n:Nat} {p:Addr} {xs:List V} {y:V} (hp:xM K H p xs) (fy:xQ y=true):Td K H (n+1) y (.ref p) false
section
variable {X:Cx}{pins:List (Addr×Obj)}{σ:St}{H:Hp}{s:Shared}
theorem Jr {x:V}(f:xQ x=true):eqV x x=true:=by
 cases x<;>first | rfl | (simp[eqV];done) | exact absurd (show false=true from f) zqM
theorem Te (I:Inv X pins σ H s){p:Addr}{xs ys:List V}(h:zT X.K H p xs)(k:xM X.K H p ys):False:=by
 obtain⟨_,_,⟨o,n,e,c,_⟩,_⟩:=I.list h
 obtain⟨_,_,⟨o',e',c',_⟩,_⟩:=I.tuple k
 rw[e] at e'
 cases e'
 rw[c] at c'
 injection c' with z
 exact absurd z (by decide)
theorem Td.refl (I:Inv X pins σ H s){n:Nat}{x y:V}{b:Bool}(h:Td X.K H n x y b):x=y->b=true:=by
 induction h with
 | flat fx fy=>intro e;subst e;exact Jr fx
 | tt hp hq h ih =>
  intro e
  cases e
  have ee:=I.zaO hp hq
  subst ee
  rw[Nat.min_self,beq_self_eq_true,Bool.and_true,zrb]
  intro j hj
  have hj':=List.mem_range.mp hj
  exact ih j _ _ (zqJ hj') (zqJ hj') rfl
 | ll hp hq hl h ih =>
  intro e
  cases e
  have ee:=I.QB hp hq
  subst ee
  rw[zrb]
  intro j hj
  have hj':=List.mem_range.mp hj
  exact ih j _ _ (zqJ hj') (zqJ hj') rfl
 | ln hp hq hl =>
  intro e
  cases e
  exact absurd (congrArg List.length (I.QB hp hq)) hl
 | lt hp hq=>intro e;cases e;exact(Te I hp hq).elim
 | tl hp hq=>intro e;cases e;exact(Te I hq hp).elim
 | lf hp fy=>intro e;subst e;exact absurd (show false=true from fy) zqM
 | fl hp fy=>intro e;subst e;exact absurd (show false=true from fy) zqM
 | tf hp fy=>intro e;subst e;exact absurd (show false=true from fy) zqM
 | ft hp fy=>intro e;subst e;exact absurd (show false=true from fy) zqM
theorem S5 {A:Around}{u:Value}{y:V}{p:Addr}{its:Array Value}(hl:s.heap.IsList p its)(fy:xQ y=true)(ry:RelV y u)(hu:A.units<cLine):SeqAt.RcAt A s (.ref p) u false/\SeqAt.EqAt A s (.ref p) u false/\SeqAt.RcAt A s u (.ref p) false/\SeqAt.EqAt A s u (.ref p) false/\SeqAt.RcNeAt A s (.ref p) u true/\SeqAt.RcNeAt A s u (.ref p) true:=by
 cases y with
 | non=>cases ry;exact⟨.list_none hl hu,.list_none hl hu,.none_list hl hu,.none_list hl hu,.list_none hl hu,.none_list hl hu⟩
 | bl b=>cases ry;exact⟨.list_bool b hl hu,.list_bool b hl hu,.bool_list b hl hu,.bool_list b hl hu,.list_bool b hl hu,.bool_list b hl hu⟩
 | int i=>obtain⟨t,rfl⟩:=ry;exact⟨.list_int i t hl hu,.list_int i t hl hu,.int_list i t hl hu,.int_list i t hl hu,.list_int i t hl hu,.int_list i t hl hu⟩
 | str i=>obtain⟨t,rfl⟩:=ry;exact⟨.list_str i t hl hu,.list_str i t hl hu,.str_list i t hl hu,.str_list i t hl hu,.list_str i t hl hu,.str_list i t hl hu⟩
 | _=>exact absurd (show false=true from fy) zqM
theorem V0 {A:Around}{u:Value}{y:V}{p:Addr}{its:Array Value}(hl:s.heap.IsTuple p its)(fy:xQ y=true)(ry:RelV y u)(hu:A.units<cLine):SeqAt.RcAt A s (.ref p) u false/\SeqAt.EqAt A s (.ref p) u false/\SeqAt.RcAt A s u (.ref p) false/\SeqAt.EqAt A s u (.ref p) false/\SeqAt.RcNeAt A s (.ref p) u true/\SeqAt.RcNeAt A s u (.ref p) true:=by
 cases y with
 | non=>cases ry;exact⟨.tuple_none hl hu,.tuple_none hl hu,.none_tuple hl hu,.none_tuple hl hu,.tuple_none hl hu,.none_tuple hl hu⟩
 | bl b=>cases ry;exact⟨.tuple_bool b hl hu,.tuple_bool b hl hu,.bool_tuple b hl hu,.bool_tuple b hl hu,.tuple_bool b hl hu,.bool_tuple b hl hu⟩
 | int i=>obtain⟨t,rfl⟩:=ry;exact⟨.tuple_int i t hl hu,.tuple_int i t hl hu,.int_tuple i t hl hu,.int_tuple i t hl hu,.tuple_int i t hl hu,.int_tuple i t hl hu⟩
 | str i=>obtain⟨t,rfl⟩:=ry;exact⟨.tuple_str i t hl hu,.tuple_str i t hl hu,.str_tuple i t hl hu,.str_tuple i t hl hu,.tuple_str i t hl hu,.str_tuple i t hl hu⟩
 | _=>exact absurd (show false=true from fy) zqM
theorem item_at {xs:List V}{us:List Value}(r:Vals xs us){j:Nat}(h:j<us.toArray.size):∃x,xs[j]?=some x/\RelV x us.toArray[j]:=by
 have hl:=r.length
 have hj:j<xs.length:=by simp at h;omega
 obtain⟨u,hu,ru⟩:=r.get (zqJ hj)
 refine⟨xs[j],zqJ hj,?_⟩
 have e:us.toArray[j]=u:=by
  have:=(zqL.mp hu).2
  simpa using this
 rw[e];exact ru
theorem Td.at {n:Nat}{x y:V}{b:Bool}(h:Td X.K H n x y b)(I:Inv X pins σ H s):∀{A:Around} {u v:Value},RelV x u->RelV y v->A.units+n<cLine->SeqAt.EqAt A s u v b:=by
 induction h with
 | flat fx fy=>intro A u v rx ry _;exact zgl rx ry fx fy
 | @tt n p q xs ys e hp hq h ih =>
  intro A u v rx ry hu
  cases rx
  cases ry
  obtain⟨us,r1,t1,_⟩:=I.tuple hp
  obtain⟨ws,r2,t2,_⟩:=I.tuple hq
  have l1:=r1.length
  have l2:=r2.length
  by_cases hne:p=q
  ·subst hne
   have z:=(Td.tt hp hq h).refl I rfl
   rw[z]
   exact SeqAt.EqAt.same _
  ·refine SeqAt.EqAt.of_refs hne ?_
   have z:=SeqAt.RcAt.tuples (A:=A) (e:=e) t1 t2 (by omega) fun j h1 h2=>by
    obtain⟨x,hx,rx⟩:=item_at r1 h1
    obtain⟨y,hy,ry⟩:=item_at r2 h2
    exact ih j x y hx hy rx ry (by show A.units+1+n<cLine;omega)
   rw[zqS,zqS,<-l1,<-l2] at z
   exact z
 | @ll n p q xs ys e hp hq hl h ih =>
  intro A u v rx ry hu
  cases rx
  cases ry
  obtain⟨us,r1,t1,_⟩:=I.list hp
  obtain⟨ws,r2,t2,_⟩:=I.list hq
  have l1:=r1.length
  have l2:=r2.length
  by_cases hne:p=q
  ·subst hne
   have z:=(Td.ll hp hq hl h).refl I rfl
   rw[z]
   exact SeqAt.EqAt.same _
  ·refine SeqAt.EqAt.of_refs hne ?_
   have z:=SeqAt.RcAt.lists (A:=A) (e:=e) t1.isList t2.isList (by simp;omega) (by omega) fun j h1 h2=>by
    obtain⟨x,hx,rx⟩:=item_at r1 h1
    obtain⟨y,hy,ry⟩:=item_at r2 h2
    exact ih j x y hx hy rx ry (by show A.units+1+n<cLine;omega)
   rw[zqS,<-l1] at z
   exact z
 | @ln n p q xs ys hp hq hl =>
  intro A u v rx ry hu
  cases rx
  cases ry
  obtain⟨us,r1,t1,_⟩:=I.list hp
  obtain⟨ws,r2,t2,_⟩:=I.list hq
  have l1:=r1.length
  have l2:=r2.length
  have hne:p≠q:=fun e=>by subst e;exact hl (congrArg List.length (I.QB hp hq))
  exact SeqAt.EqAt.of_refs hne (SeqAt.RcAt.lists_lengths t1.isList t2.isList (by simp;omega) (by omega))
 | lt hp hq =>
  intro A u v rx ry hu
  cases rx
  cases ry
  obtain⟨us,r1,t1,_⟩:=I.list hp
  obtain⟨ws,r2,t2,_⟩:=I.tuple hq
  exact SeqAt.EqAt.list_tuple t1.isList t2 (by omega)
 | tl hp hq =>
  intro A u v rx ry hu
  cases rx
  cases ry
  obtain⟨us,r1,t1,_⟩:=I.tuple hp
  obtain⟨ws,r2,t2,_⟩:=I.list hq
  exact SeqAt.EqAt.tuple_list t1 t2.isList (by omega)
 | lf hp fy =>
  intro A u v rx ry hu
  cases rx
  obtain⟨us,r1,t1,_⟩:=I.list hp
  exact(S5 t1.isList fy ry (by omega)).2.1
 | fl hp fy =>
  intro A u v rx ry hu
  cases ry
  obtain⟨us,r1,t1,_⟩:=I.list hp
  exact(S5 t1.isList fy rx (by omega)).2.2.2.1
 | tf hp fy =>
  intro A u v rx ry hu
  cases rx
  obtain⟨us,r1,t1,_⟩:=I.tuple hp
  exact(V0 t1 fy ry (by omega)).2.1
 | ft hp fy =>
  intro A u v rx ry hu
  cases ry
  obtain⟨us,r1,t1,_⟩:=I.tuple hp
  exact(V0 t1 fy rx (by omega)).2.2.2.1
theorem Td.rc {n:Nat}{x y:V}{b:Bool}(h:Td X.K H n x y b)(I:Inv X pins σ H s)(hn:¬(xQ x=true/\xQ y=true)){A:Around}{u v:Value}(rx:RelV x u)(ry:RelV y v)(hu:A.units+n<cLine):SeqAt.RcAt A s u v b/\SeqAt.RcNeAt A s u v (!b):=by
 cases h with
 | flat fx fy=>exact absurd ⟨fx,fy⟩ hn
 | @tt n p q xs ys e hp hq h =>
  cases rx
  cases ry
  obtain⟨us,r1,t1,_⟩:=I.tuple hp
  obtain⟨ws,r2,t2,_⟩:=I.tuple hq
  have l1:=r1.length
  have l2:=r2.length
  have he:∀j (h1:j<us.toArray.size) (h2:j<ws.toArray.size),SeqAt.EqAt A.in1 s us.toArray[j] ws.toArray[j] (e j):=fun j h1 h2=>by
   obtain⟨x,hx,rx⟩:=item_at r1 h1
   obtain⟨y,hy,ry⟩:=item_at r2 h2
   exact(h j x y hx hy).at I rx ry (by show A.units+1+n<cLine;omega)
  have z:=SeqAt.RcAt.tuples (A:=A) (e:=e) t1 t2 (by omega) he
  have z2:=SeqAt.RcNeAt.tuples (A:=A) (e:=e) t1 t2 (by omega) he
  rw[zqS,zqS,<-l1,<-l2] at z z2
  exact⟨z,z2⟩
 | @ll n p q xs ys e hp hq hl h =>
  cases rx
  cases ry
  obtain⟨us,r1,t1,_⟩:=I.list hp
  obtain⟨ws,r2,t2,_⟩:=I.list hq
  have l1:=r1.length
  have l2:=r2.length
  have he:∀j (h1:j<us.toArray.size) (h2:j<ws.toArray.size),SeqAt.EqAt A.in1 s us.toArray[j] ws.toArray[j] (e j):=fun j h1 h2=>by
   obtain⟨x,hx,rx⟩:=item_at r1 h1
   obtain⟨y,hy,ry⟩:=item_at r2 h2
   exact(h j x y hx hy).at I rx ry (by show A.units+1+n<cLine;omega)
  have z:=SeqAt.RcAt.lists (A:=A) (e:=e) t1.isList t2.isList (by simp;omega) (by omega) he
  have z2:=SeqAt.RcNeAt.lists (A:=A) (e:=e) t1.isList t2.isList (by simp;omega) (by omega) he
  rw[zqS,<-l1] at z z2
  exact⟨z,z2⟩
 | @ln n p q xs ys hp hq hl =>
  cases rx
  cases ry
  obtain⟨us,r1,t1,_⟩:=I.list hp
  obtain⟨ws,r2,t2,_⟩:=I.list hq
  have l1:=r1.length
  have l2:=r2.length
  exact⟨SeqAt.RcAt.lists_lengths t1.isList t2.isList (by simp;omega) (by omega),SeqAt.RcNeAt.lists_lengths t1.isList t2.isList (by simp;omega) (by omega)⟩
 | lt hp hq =>
  cases rx
  cases ry
  obtain⟨us,r1,t1,_⟩:=I.list hp
  obtain⟨ws,r2,t2,_⟩:=I.tuple hq
  exact⟨SeqAt.RcAt.list_tuple t1.isList t2 (by omega),SeqAt.RcNeAt.list_tuple t1.isList t2 (by omega)⟩
 | tl hp hq =>
  cases rx
  cases ry
  obtain⟨us,r1,t1,_⟩:=I.tuple hp
  obtain⟨ws,r2,t2,_⟩:=I.list hq
  exact⟨SeqAt.RcAt.tuple_list t1 t2.isList (by omega),SeqAt.RcNeAt.tuple_list t1 t2.isList (by omega)⟩
 | lf hp fy =>
  cases rx
  obtain⟨us,r1,t1,_⟩:=I.list hp
  have z:=S5 (A:=A) t1.isList fy ry (by omega)
  exact⟨z.1,z.2.2.2.2.1⟩
 | fl hp fy =>
  cases ry
  obtain⟨us,r1,t1,_⟩:=I.list hp
  have z:=S5 (A:=A) t1.isList fy rx (by omega)
  exact⟨z.2.2.1,z.2.2.2.2.2⟩
 | tf hp fy =>
  cases rx
  obtain⟨us,r1,t1,_⟩:=I.tuple hp
  have z:=V0 (A:=A) t1 fy ry (by omega)
  exact⟨z.1,z.2.2.2.2.1⟩
 | ft hp fy =>
  cases ry
  obtain⟨us,r1,t1,_⟩:=I.tuple hp
  have z:=V0 (A:=A) t1 fy rx (by omega)
  exact⟨z.2.2.1,z.2.2.2.2.2⟩
end
section
variable {X:Cx}
theorem zd0 {K:Frag}(hK:X.K=K)(hu:X.A.units+8<cLine):VD X (compareOp .Eq) (fun x y H Q=>∃b,¬(xQ x=true/\xQ y=true)/\Td K H 8 x y b/\Q (.bl b) H):=by
 subst hK
 intro pins s σ H x y v u Q I rx ry h
 obtain⟨b,hn,he,q⟩:=h
 exact(he.rc I hn rx ry hu).1 X.prog X.w X.xe _ ⟨.bl b,H,I,rfl,q⟩
theorem Js {K:Frag}(hK:X.K=K)(hu:X.A.units+8<cLine):VD X (compareOp .NotEq) (fun x y H Q=>∃b,¬(xQ x=true/\xQ y=true)/\Td K H 8 x y b/\Q (.bl (!b)) H):=by
 subst hK
 intro pins s σ H x y v u Q I rx ry h
 obtain⟨b,hn,he,q⟩:=h
 exact(he.rc I hn rx ry hu).2 X.prog X.w X.xe _ ⟨.bl (!b),H,I,rfl,q⟩
theorem hu8 {A:Around}{k:Nat}(hr:tL k A):A.units+8<cLine:=by have:=hr.units;omega
theorem zcX:∀{xs:List V} {us:List Value},xs.length=us.length->(∀(j:Nat) u,us[j]?=some u->∃x,xs[j]?=some x/\RelV x u)->Vals xs us
 | [],[],_,_=>.nil
 | [],_::_,h,_=>by simp at h
 | _::_,[],h,_=>by simp at h
 | x::xs,u::us,hl,h=>by
  obtain⟨x',e,r⟩:=h 0 u rfl
  cases e
  refine .cons r (zcX (by simpa using hl) fun j v hv=>?_)
  obtain⟨y,e,r⟩:=h (j+1) v (by simpa using hv)
  exact⟨y,by simpa using e,r⟩
theorem Mg:ZR X (.builtin "sorted") (fun xs H Q=>∃(p:Addr) (ns:List Int),xs=[.ref p]/\zT X.K H p (ns.map V.int)/\ns.length<64/\∀(l:Addr) (ms:List Int),H l=none->ms.Perm ns->ms.Pairwise (·<=·)->Q (.ref l) (upd H l (.lst (ms.map V.int)))):=by
 intro pins s σ H xs us Q I r h
 obtain⟨p,ns,rfl,hq,h64,q⟩:=h
 obtain⟨u,rfl,rx⟩:=vals1 r
 cases rx
 obtain⟨its,r',pl,hz⟩:=I.list hq
 have hi:IntsAre its ns:=intsAre_of r'
 have hl:=hi.length
 refine sorted_ints pl.isList hi (by omega) fun out ms a1 a2 a3=>?_
 obtain⟨e,he⟩:=sortedAll_at s.heap its out
 have hf:H (s.heap.objs.size+1)=none:=I.hok.fresh (Nat.le_succ _)
 have hlm:=a2.length_eq
 have s64:=zQ (n:=ms.length) (by omega)
 refine⟨.ref (s.heap.objs.size+1),_,I.laid (t':=s.toks) (o:=.lst (ms.map V.int)) (fun b o e=>sortedAll_old e) (Nat.le_succ _) ?_,rfl,q _ ms hf a2 a3⟩
 refine⟨by rw[zqI];exact zq0 s64,out.toList,e,Sy a1,?_⟩
 simpa using he
theorem Mh (hc:X.calm=true):ZR X (.builtin "sorted") (fun xs H Q=>∃(p:Addr) (kvs:List (Key×V)) (ns:List Int),xs=[.ref p]/\H p=some (.dK kvs)/\kvs.map (·.1)=ns.map Sum.inl/\ns.length<64/\∀(l:Addr) (ms:List Int),H l=none->ms.Perm ns->ms.Pairwise (·<=·)->Q (.ref l) (upd H l (.lst (ms.map V.int)))):=by
 intro pins s σ H xs us Q I r h
 obtain⟨p,kvs,ns,rfl,hp,hns,h64,q⟩:=h
 obtain⟨u,rfl,rx⟩:=vals1 r
 cases rx
 obtain⟨hz,lo,vs,rv,hD⟩:=(show kvs.length<=sizeLine/\(p==sysModules)=false/\∃vs,KV kvs vs/\s.heap.DictOf (yc X.prog X.w) p vs from I.hok p _ hp)
 obtain⟨ep,hat⟩:=hD.dictAt
 have hl:kvs.length=vs.length:=Paired.length rv
 have hnl:kvs.length=ns.length:=by have:=congrArg List.length hns;rw[zqI,zqI] at this;exact this
 refine Calls.call_function_entry kind_sorted plain_sorted entry_sorted (args_sorted1 _) ?_
 unfold Builtin.«sorted»
 refine wpAny_bind (m:=checkCount "sorted" 1 1 _) (wpAny_pure ?_)
 refine wpAny_bind (PySem.W.kdu_collect (PySem.W.kdl_dict (knd:=yc X.prog X.w) (kvs:=vs) (ep:=ep) lo) (I.ok.hd hc) hat (by omega) fun h' tk acc hk hacc=>?_)
 have hoL:(h'.push (seqObj "list" acc.toList.toArray 0)).get? h'.objs.size=some (seqObj "list" acc.toList.toArray 0):=zq2 _ rfl
 have hv:Vals (ns.map V.int) acc.toList:=by
  refine zcX (by rw[zqI];have:=hacc.1;simp;omega) fun j v hv=>?_
  obtain⟨k,x,hx,hkv⟩:=hacc.2 j v (by rw[<-Array.getElem?_toList];exact hv)
  obtain⟨y,hy,e1,_⟩:=QV rv hx
  have e2:(ns.map (Sum.inl:Int->Key))[j]?=some y.1:=by rw[<-hns,zqK,hy];rfl
  rw[zqK] at e2
  cases hj:ns[j]? with
  | none=>rw[hj] at e2;cases e2
  | some i =>
   rw[hj] at e2
   have e3:(Sum.inl i:Key)=y.1:=zrc e2
   refine⟨.int i,by rw[zqK,hj];rfl,?_⟩
   have e1':y.1=k:=e1
   rw[<-e1',<-e3] at hkv
   rcases yS (k:=(Sum.inl i:Key)) (v:=v) hkv with ⟨i',t,e4,rfl⟩ | ⟨z,t,e4,rfl⟩
   ·cases e4;exact⟨_,rfl⟩
   ·cases e4
 have hi:IntsAre acc.toList ns:=intsAre_of hv
 have hal:acc.toList.length=ns.length:=hi.length
 refine wpAny_bind (wpAny_newList ?_ (hsz:=by rw[hal];exact zq0 (zQ (by omega))))
 show wpAny _ _ _ _ _ { s with heap:=h'.push (seqObj "list" acc.toList.toArray 0),toks:=tk }
 refine wpAny_bind (wpAny_holding (wpAny_call_entry slot_list_sort ⟨_,hoL,rfl⟩ entry_list_sort (list_sort_tree hoL hi (by omega) fun out ms a1 a2 a3=>⟨_,rfl,?_⟩) (args_list_sort _)))
 refine wpAny_pure ⟨_,rfl,?_⟩
 have I1:Inv X pins σ H { s with heap:=h',toks:=tk }:=I.kept hk
 obtain⟨e,he⟩:=sortedHeap_at (vs:=acc.toList) (out:=out) hoL
 have hf:H h'.objs.size=none:=I1.hok.fresh (zqY _)
 have hlm:=a2.length_eq
 have s64:=zQ (n:=ms.length) (by omega)
 refine⟨.ref h'.objs.size,_,I1.laid (o:=.lst (ms.map V.int)) (fun b o e=>?_) (zqY _) ?_,rfl,q _ ms hf a2 a3⟩
 ·have lb:=zqP e
  rw[sortedHeap_old (zqX lb) (by rw[size_push'];exact Nat.lt_succ_of_lt lb)]
  exact zqO _ e
 ·refine⟨by rw[zqI];exact zq0 s64,out.toList,e,Sy a1,?_⟩
  simpa using he
end
end L2
namespace zM
abbrev Rm:=Option (Nat×Nat×Nat)
def zX (n:Nat)(rs:List Rm)(k:Nat):Nat:=match rs[k]? with
 | some (some (i,_,_))=>i
 | _=>n
structure Bk (n:Nat)(rs:List Rm):Prop where
 h0:rs[0]?=some none
 h1:rs[1]?=some none
 rm:∀k,2<=k->k<rs.length->∃i lo hi,rs[k]?=some (some (i,lo,hi))/\i<n/\lo<k/\hi<k/\lo≠hi/\i<zX n rs lo/\i<zX n rs hi
 uq:∀(k l:Nat) (x:Nat×Nat×Nat),rs[k]?=some (some x)->rs[l]?=some (some x)->k=l
abbrev Row:=Nat->Bool
def put (r:Row)(i:Nat)(v:Bool):Row:=fun j=>if j=i then v else r j
def lead (rs:List Rm)(r:Row):Nat->Nat->Nat
 | 0,k=>k
 | f+1,k=>match rs[k]? with
  | some (some (i,lo,hi))=>lead rs r f (if r i then hi else lo)
  | _=>k
theorem za8 {n:Nat}{rs:List Rm}(B:Bk n rs)(r:Row):∀(f g k:Nat),k<=f->k<=g->k<rs.length->lead rs r f k=lead rs r g k
 | 0,0,k,_,_,_=>rfl
 | 0,g+1,k,h,_,_=>by
  have e:k=0:=by omega
  subst e
  show 0=lead rs r (g+1) 0
  unfold lead
  rw[B.h0]
 | f+1,0,k,_,h,_=>by
  have e:k=0:=by omega
  subst e
  show lead rs r (f+1) 0=0
  unfold lead
  rw[B.h0]
 | f+1,g+1,k,hf,hg,hk=>by
  by_cases h2:2<=k
  ·obtain⟨i,lo,hi,e,_,hlo,hhi,_⟩:=B.rm k h2 hk
   unfold lead
   rw[e]
   show lead rs r f (if r i then hi else lo)=lead rs r g (if r i then hi else lo)
   refine za8 B r f g _ ?_ ?_ ?_<;>(split<;>omega)
  ·have:k=0\/k=1:=by omega
   rcases this with e | e<;>subst e<;>unfold lead
   ·rw[B.h0]
   ·rw[B.h1]
def yes (rs:List Rm)(k:Nat)(r:Row):Bool:=lead rs r k k==1
section
variable {n:Nat}{rs:List Rm}(B:Bk n rs)
include B
theorem len2:2<=rs.length:=by
 have:=(zqL.mp B.h1).1
 omega
theorem Jt (r:Row):yes rs 0 r=false:=rfl
theorem Xa (r:Row):yes rs 1 r=true:=by
 unfold yes lead
 rw[B.h1]
 rfl
theorem zfE {k i lo hi:Nat}(e:rs[k]?=some (some (i,lo,hi)))(r:Row):lead rs r k k=lead rs r (if r i then hi else lo) (if r i then hi else lo):=by
 have hk:=(zqL.mp e).1
 have k2:2<=k:=by
  by_cases h:2<=k
  ·exact h
  ·exfalso
   have:k=0\/k=1:=by omega
   rcases this with z | z<;>subst z
   ·rw[B.h0] at e;cases e
   ·rw[B.h1] at e;cases e
 obtain⟨i',lo',hi',e',_,hlo,hhi,_⟩:=B.rm k k2 hk
 rw[e] at e'
 cases e'
 obtain⟨m,rfl⟩:∃m,k=m+1:=⟨k-1,by omega⟩
 show(match rs[m+1]? with | some (some (i,lo,hi))=>lead rs r m (if r i then hi else lo) | _=>m+1)=_
 rw[e]
 show lead rs r m (if r i then hi else lo)=_
 refine za8 B r _ _ _ ?_ (zqY _) ?_<;>(split<;>omega)
theorem XF {k i lo hi:Nat}(e:rs[k]?=some (some (i,lo,hi)))(r:Row):yes rs k r=if r i then yes rs hi r else yes rs lo r:=by
 unfold yes
 rw[zfE B e r]
 split<;>rfl
theorem wR {k i lo hi:Nat}(e:rs[k]?=some (some (i,lo,hi))):zX n rs k=i:=by unfold zX;rw[e]
theorem zbU:zX n rs 0=n:=by unfold zX;rw[B.h0]
theorem Wo:zX n rs 1=n:=by unfold zX;rw[B.h1]
theorem Tg (k:Nat)(hk:k<rs.length):zX n rs k<=n:=by
 by_cases h2:2<=k
 ·obtain⟨i,lo,hi,e,hi',_⟩:=B.rm k h2 hk
  rw[wR B e];omega
 ·have:k=0\/k=1:=by omega
  rcases this with z | z<;>subst z
  ·rw[zbU B];exact zqY _
  ·rw[Wo B];exact zqY _
theorem tY:∀(m k:Nat),k<=m->k<rs.length->∀{r r':Row},(∀i,zX n rs k<=i->i<n->r i=r' i)->yes rs k r=yes rs k r'
 | m,k,hm,hk,r,r',h=>by
  by_cases h2:2<=k
  ·obtain⟨i,lo,hi,e,hin,hlo,hhi,_,l1,l2⟩:=B.rm k h2 hk
   have lk:=wR B e
   rw[XF B e,XF B e,h i (by omega) hin]
   match m,hm with
   | 0,hm=>omega
   | m+1,hm =>
    rw[tY m hi (by omega) (by omega) fun j hj hjn=>h j (by omega) hjn,tY m lo (by omega) (by omega) fun j hj hjn=>h j (by omega) hjn]
  ·have:k=0\/k=1:=by omega
   rcases this with z | z<;>subst z
   ·rfl
   ·rw[Xa B,Xa B]
theorem Zh {k i:Nat}(hk:k<rs.length)(h:i<zX n rs k)(r:Row)(v:Bool):yes rs k (put r i v)=yes rs k r:=by
 refine tY B k k (zqY _) hk fun j hj _=>?_
 unfold put
 rw[if_neg (by omega)]
theorem Zi {k i lo hi:Nat}(e:rs[k]?=some (some (i,lo,hi)))(hk:k<rs.length)(r:Row):yes rs k (put r i false)=yes rs lo r/\yes rs k (put r i true)=yes rs hi r:=by
 have k2:2<=k:=by
  by_cases h:2<=k
  ·exact h
  ·exfalso
   have:k=0\/k=1:=by omega
   rcases this with z | z<;>subst z
   ·rw[B.h0] at e;cases e
   ·rw[B.h1] at e;cases e
 obtain⟨i',lo',hi',e',_,hlo,hhi,_,l1,l2⟩:=B.rm k k2 hk
 rw[e] at e'
 cases e'
 constructor
 ·rw[XF B e]
  have z:put r i false i=false:=by unfold put;rw[if_pos rfl]
  rw[z,if_neg zqM]
  exact Zh B (by omega) l1 r false
 ·rw[XF B e]
  have z:put r i true i=true:=by unfold put;rw[if_pos rfl]
  rw[z,if_pos rfl]
  exact Zh B (by omega) l2 r true
theorem YB:∀(m k l:Nat),(k<=m/\l<=m)->k<rs.length->l<rs.length->(∀r,yes rs k r=yes rs l r)->k=l
 | m,k,l,hm,hk,hl,h=>by
  by_cases k2:2<=k
  ·obtain⟨i,lo,hi,e,hin,hlo,hhi,hne,l1,l2⟩:=B.rm k k2 hk
   by_cases l2':2<=l
   ·obtain⟨j,lo',hi',e',hjn,hlo',hhi',hne',l1',l2''⟩:=B.rm l l2' hl
    match m,hm with
    | 0,hm=>omega
    | m+1,hm =>
     rcases Nat.lt_trichotomy i j with q | q | q
     ·exfalso
      refine hne (YB m lo hi (by omega) (by omega) (by omega) fun r=>?_)
      have z:=Zi B e hk r
      rw[<-z.1,<-z.2,h,h,Zh B hl (by rw[wR B e'];exact q),Zh B hl (by rw[wR B e'];exact q)]
     ·subst q
      have a1:lo=lo':=YB m lo lo' (by omega) (by omega) (by omega) fun r=>by rw[<-(Zi B e hk r).1,<-(Zi B e' hl r).1,h]
      have a2:hi=hi':=YB m hi hi' (by omega) (by omega) (by omega) fun r=>by rw[<-(Zi B e hk r).2,<-(Zi B e' hl r).2,h]
      subst a1 a2
      exact B.uq k l _ e e'
     ·exfalso
      refine hne' (YB m lo' hi' (by omega) (by omega) (by omega) fun r=>?_)
      have z:=Zi B e' hl r
      rw[<-z.1,<-z.2,<-h,<-h,Zh B hk (by rw[wR B e];exact q),Zh B hk (by rw[wR B e];exact q)]
   ·exfalso
    match m,hm with
    | 0,hm=>omega
    | m+1,hm =>
     have ll:zX n rs l=n:=by
      have:l=0\/l=1:=by omega
      rcases this with z | z<;>subst z
      ·exact zbU B
      ·exact Wo B
     refine hne (YB m lo hi (by omega) (by omega) (by omega) fun r=>?_)
     have z:=Zi B e hk r
     rw[<-z.1,<-z.2,h,h,Zh B hl (by omega),Zh B hl (by omega)]
  ·by_cases l2':2<=l
   ·exfalso
    obtain⟨j,lo',hi',e',hjn,hlo',hhi',hne',l1',l2''⟩:=B.rm l l2' hl
    match m,hm with
    | 0,hm=>omega
    | m+1,hm =>
     have ll:zX n rs k=n:=by
      have:k=0\/k=1:=by omega
      rcases this with z | z<;>subst z
      ·exact zbU B
      ·exact Wo B
     refine hne' (YB m lo' hi' (by omega) (by omega) (by omega) fun r=>?_)
     have z:=Zi B e' hl r
     rw[<-z.1,<-z.2,<-h,<-h,Zh B hk (by omega),Zh B hk (by omega)]
   ·have a:k=0\/k=1:=by omega
    have b:l=0\/l=1:=by omega
    have z:=h fun _=>false
    rcases a with a | a<;>rcases b with b | b<;>subst a<;>subst b
    ·rfl
    ·rw[Jt B,Xa B] at z;cases z
    ·rw[Jt B,Xa B] at z;cases z
    ·rfl
end
theorem Zj {rs:List Rm}{x:Rm}{k:Nat}(h:k<rs.length):(rs++[x])[k]?=rs[k]?:=zre h
theorem Ti {n:Nat}{rs:List Rm}{x:Rm}{k:Nat}(h:k<rs.length):zX n (rs++[x]) k=zX n rs k:=by
 unfold zX;rw[Zj h]
theorem Bk.snoc {n:Nat}{rs:List Rm}(B:Bk n rs){i lo hi:Nat}(hin:i<n)(hlo:lo<rs.length)(hhi:hi<rs.length)(hne:lo≠hi)(l1:i<zX n rs lo)(l2:i<zX n rs hi)(new:some (i,lo,hi)∉rs):Bk n (rs++[some (i,lo,hi)]) where
 h0:=by rw[Zj (by have:=len2 B;omega)];exact B.h0
 h1:=by rw[Zj (by have:=len2 B;omega)];exact B.h1
 rm:=fun k h2 hk=>by
  rw[zqQ,zrf] at hk
  by_cases hlt:k<rs.length
  ·obtain⟨i',lo',hi',e,a1,a2,a3,a4,a5,a6⟩:=B.rm k h2 hlt
   exact⟨i',lo',hi',by rw[Zj hlt];exact e,a1,a2,a3,a4,by rw[Ti (by omega)];exact a5,by rw[Ti (by omega)];exact a6⟩
  ·have e:k=rs.length:=by omega
   subst e
   exact⟨i,lo,hi,by simp,hin,hlo,hhi,hne,by rw[Ti hlo];exact l1,by rw[Ti hhi];exact l2⟩
 uq:=fun k l x hk hl=>by
  have lk:=(zqL.mp hk).1
  have ll:=(zqL.mp hl).1
  rw[zqQ,zrf] at lk ll
  have last:∀m,m=rs.length->(rs++[some (i,lo,hi)])[m]?=some (some x)->x=(i,lo,hi):=fun m hm h=>by
   subst hm
   simp at h
   exact h.symm
  by_cases h1:k<rs.length
  ·by_cases h2:l<rs.length
   ·rw[Zj h1] at hk
    rw[Zj h2] at hl
    exact B.uq k l x hk hl
   ·exfalso
    have e:=last l (by omega) hl
    subst e
    rw[Zj h1] at hk
    exact new (zqN hk)
  ·by_cases h2:l<rs.length
   ·exfalso
    have e:=last k (by omega) hk
    subst e
    rw[Zj h2] at hl
    exact new (zqN hl)
   ·omega
theorem za9 {n:Nat}{rs:List Rm}(B:Bk n rs){x:Rm}(r:Row):∀(f k:Nat),k<rs.length->lead (rs++[x]) r f k=lead rs r f k
 | 0,_,_=>rfl
 | f+1,k,hk=>by
  unfold lead
  rw[Zj hk]
  by_cases h2:2<=k
  ·obtain⟨i,lo,hi,e,_,hlo,hhi,_⟩:=B.rm k h2 hk
   rw[e]
   show lead (rs++[x]) r f (if r i then hi else lo)=lead rs r f (if r i then hi else lo)
   exact za9 B r f _ (by split<;>omega)
  ·have:k=0\/k=1:=by omega
   rcases this with z | z<;>subst z
   ·rw[B.h0]
   ·rw[B.h1]
theorem zcY {n:Nat}{rs:List Rm}(B:Bk n rs){x:Rm}{k:Nat}(hk:k<rs.length)(r:Row):yes (rs++[x]) k r=yes rs k r:=by
 unfold yes;rw[za9 B r k k hk]
def xX (rs rs':List Rm):Prop:=∃xs,rs'=rs++xs
theorem xX.refl (rs:List Rm):xX rs rs:=⟨[],by simp⟩
theorem xX.trans {a b c:List Rm}(h:xX a b)(k:xX b c):xX a c:=by
 obtain⟨x,rfl⟩:=h
 obtain⟨y,rfl⟩:=k
 exact⟨x++y,by rw[List.append_assoc]⟩
theorem xX.len {a b:List Rm}(h:xX a b):a.length<=b.length:=by
 obtain⟨x,rfl⟩:=h
 rw[zqQ];omega
theorem xX.get {a b:List Rm}(h:xX a b){k:Nat}(hk:k<a.length):b[k]?=a[k]?:=by
 obtain⟨x,rfl⟩:=h
 exact zre hk
theorem xX.snoc (rs:List Rm)(x:Rm):xX rs (rs++[x]):=⟨[x],rfl⟩
theorem xX.zX {n:Nat}{a b:List Rm}(h:xX a b){k:Nat}(hk:k<a.length):zX n b k=zX n a k:=by
 unfold zM.zX;rw[h.get hk]
theorem xX.lead {n:Nat}{a b:List Rm}(B:Bk n a)(h:xX a b)(r:Row):∀(f k:Nat),k<a.length->lead b r f k=lead a r f k
 | 0,_,_=>rfl
 | f+1,k,hk=>by
  unfold zM.lead
  rw[h.get hk]
  by_cases h2:2<=k
  ·obtain⟨i,lo,hi,e,_,hlo,hhi,_⟩:=B.rm k h2 hk
   rw[e]
   show zM.lead b r f (if r i then hi else lo)=zM.lead a r f (if r i then hi else lo)
   exact xX.lead B h r f _ (by split<;>omega)
  ·have:k=0\/k=1:=by omega
   rcases this with z | z<;>subst z
   ·rw[B.h0]
   ·rw[B.h1]
theorem xX.yes {n:Nat}{a b:List Rm}(B:Bk n a)(h:xX a b){k:Nat}(hk:k<a.length)(r:Row):yes b k r=yes a k r:=by
 unfold zM.yes;rw[xX.lead B h r k k hk]
inductive Reach (rs:List Rm):Nat->Nat->Prop
 | refl (k:Nat):Reach rs k k
 | lo {k i lo hi j:Nat} (e:rs[k]?=some (some (i,lo,hi))) (h:Reach rs lo j):Reach rs k j
 | hi {k i lo hi j:Nat} (e:rs[k]?=some (some (i,lo,hi))) (h:Reach rs hi j):Reach rs k j
theorem Reach.step {rs:List Rm}{k j i lo hi:Nat}(h:Reach rs k j)(e:rs[j]?=some (some (i,lo,hi))):Reach rs k lo/\Reach rs k hi:=by
 induction h with
 | refl k=>exact⟨.lo e (.refl _),.hi e (.refl _)⟩
 | lo e' _ ih=>exact⟨.lo e' (ih e).1,.lo e' (ih e).2⟩
 | hi e' _ ih=>exact⟨.hi e' (ih e).1,.hi e' (ih e).2⟩
theorem Reach.closed {rs:List Rm}{S:Nat->Prop}{k j:Nat}(hk:S k)(hc:∀{m i lo hi},S m->rs[m]?=some (some (i,lo,hi))->S lo/\S hi)(h:Reach rs k j):S j:=by
 induction h with
 | refl k=>exact hk
 | lo e _ ih=>exact ih (hc hk e).1
 | hi e _ ih=>exact ih (hc hk e).2
theorem Reach.lt {n:Nat}{rs:List Rm}(B:Bk n rs){k j:Nat}(h:Reach rs k j):k<rs.length->j<rs.length:=by
 induction h with
 | refl k=>exact id
 | @lo k i lo hi j e _ ih =>
  intro hk
  refine ih ?_
  by_cases h2:2<=k
  ·obtain⟨i',lo',hi',e',_,a,b,_⟩:=B.rm k h2 hk
   rw[e] at e'
   cases e'
   omega
  ·exfalso
   have:k=0\/k=1:=by omega
   rcases this with z | z<;>subst z
   ·rw[B.h0] at e;cases e
   ·rw[B.h1] at e;cases e
 | @hi k i lo hi j e _ ih =>
  intro hk
  refine ih ?_
  by_cases h2:2<=k
  ·obtain⟨i',lo',hi',e',_,a,b,_⟩:=B.rm k h2 hk
   rw[e] at e'
   cases e'
   omega
  ·exfalso
   have:k=0\/k=1:=by omega
   rcases this with z | z<;>subst z
   ·rw[B.h0] at e;cases e
   ·rw[B.h1] at e;cases e
theorem few {n:Nat}{rs:List Rm}(B:Bk n rs):∀(m k:Nat),k<=m->k<rs.length->∃c:List Nat,c.length+1<=2^(n-zX n rs k)/\∀j,Reach rs k j->j<2\/j∈c
 | m,k,hm,hk=>by
  by_cases h2:2<=k
  ·obtain⟨i,lo,hi,e,hin,hlo,hhi,_,l1,l2⟩:=B.rm k h2 hk
   match m,hm with
   | 0,hm=>omega
   | m+1,hm =>
    obtain⟨c1,a1,a2⟩:=few B m lo (by omega) (by omega)
    obtain⟨c2,b1,b2⟩:=few B m hi (by omega) (by omega)
    have lk:zX n rs k=i:=wR B e
    refine⟨k::(c1++c2),?_,fun j h=>?_⟩
    ·rw[lk,zqU,zqQ]
     have p1:2^(n-zX n rs lo)<=2^(n-i-1):=zrd (by decide) (by omega)
     have p2:2^(n-zX n rs hi)<=2^(n-i-1):=zrd (by decide) (by omega)
     have p3:2^(n-i)=2^(n-i-1)+2^(n-i-1):=by
      obtain⟨d,hd⟩:∃d,n-i=d+1:=⟨n-i-1,by omega⟩
      rw[hd,Nat.pow_succ,Nat.add_sub_cancel]
      omega
     omega
    ·cases h with
     | refl _=>exact .inr zq1
     | lo e' h' =>
      rw[e] at e'
      cases e'
      rcases a2 j h' with z | z
      ·exact .inl z
      ·exact .inr (zqT _ (List.mem_append_left _ z))
     | hi e' h' =>
      rw[e] at e'
      cases e'
      rcases b2 j h' with z | z
      ·exact .inl z
      ·exact .inr (zqT _ (zqZ _ z))
  ·refine⟨[],Nat.one_le_two_pow,fun j h=>.inl ?_⟩
   have:k=0\/k=1:=by omega
   cases h with
   | refl _=>omega
   | lo e' _ =>
    exfalso
    rcases this with z | z<;>subst z
    ·rw[B.h0] at e';cases e'
    ·rw[B.h1] at e';cases e'
   | hi e' _ =>
    exfalso
    rcases this with z | z<;>subst z
    ·rw[B.h0] at e';cases e'
    ·rw[B.h1] at e';cases e'
theorem sub_len {α:Type}[DecidableEq α]:∀{xs ys:List α},xs.Nodup->(∀x∈xs,x∈ys)->xs.length<=ys.length
 | [],_,_,_=>zq4 _
 | x::xs,ys,nd,h=>by
  obtain⟨h1,h2⟩:=List.nodup_cons.mp nd
  have hx:=h x zq1
  have ih:=sub_len (xs:=xs) (ys:=ys.erase x) h2 fun y hy=>(List.mem_erase_of_ne (fun e:y=x=>h1 (by rw[<-e];exact hy))).mpr (h y (zqT _ hy))
  rw[List.length_erase_of_mem hx] at ih
  have:=List.length_pos_of_mem hx
  rw[zqU]
  omega
theorem zfF {n:Nat}{rs:List Rm}(B:Bk n rs){k:Nat}(hk:k<rs.length){xs:List Nat}(nd:xs.Nodup)(h:∀x∈xs,Reach rs k x):xs.length<=2^n+1:=by
 obtain⟨c,c1,c2⟩:=few B k k (zqY _) hk
 have q:=sub_len (ys:=0::1::c) nd fun x hx=>by
  rcases c2 x (h x hx) with z | z
  ·have:x=0\/x=1:=by omega
   rcases this with w | w<;>simp[w]
  ·exact zqT _ (zqT _ z)
 have p:2^(n-zX n rs k)<=2^n:=zrd (by decide) (by omega)
 rw[zqU,zqU] at q
 omega
theorem zba:∀{xs ys:List Int},xs.Pairwise (·<·)->ys.Pairwise (·<·)->(∀x,x∈xs↔x∈ys)->xs=ys
 | [],[],_,_,_=>rfl
 | [],y::ys,_,_,h=>by have:=(h y).mpr zq1;cases this
 | x::xs,[],_,_,h=>by have:=(h x).mp zq1;cases this
 | x::xs,y::ys,hx,hy,h=>by
  obtain⟨a1,a2⟩:=List.pairwise_cons.mp hx
  obtain⟨b1,b2⟩:=List.pairwise_cons.mp hy
  have e:x=y:=by
   rcases List.mem_cons.mp ((h x).mp zq1) with z | z
   ·exact z
   ·rcases List.mem_cons.mp ((h y).mpr zq1) with w | w
    ·exact w.symm
    ·have:=b1 x z
     have:=a1 y w
     omega
  subst e
  rw[zba a2 b2 fun z=>⟨fun hz=>?_,fun hz=>?_⟩]
  ·rcases List.mem_cons.mp ((h z).mp (zqT _ hz)) with w | w
   ·have:=a1 z hz;omega
   ·exact w
  ·rcases List.mem_cons.mp ((h z).mpr (zqT _ hz)) with w | w
   ·have:=b1 z hz;omega
   ·exact w
theorem Tj:∀{xs:List Int},xs.Pairwise (·<=·)->xs.Nodup->xs.Pairwise (·<·)
 | [],_,_=>.nil
 | x::xs,h,nd=>by
  obtain⟨a1,a2⟩:=List.pairwise_cons.mp h
  obtain⟨b1,b2⟩:=List.nodup_cons.mp nd
  refine List.pairwise_cons.mpr ⟨fun y hy=>?_,Tj a2 b2⟩
  have:=a1 y hy
  have:x≠y:=fun e=>b1 (e ▸ hy)
  omega
end zM
namespace L2
theorem hu9 {A:PySem.Around}{k:Nat}(hr:tL k A):A.units+9<PySem.cLine:=by have:=hr.units;omega
end L2
namespace ZP
open PySem L2 zM
abbrev yO:=Addr->Prop
def zjZ (F:yO)(H H':Hp):Prop:=∀x o,H x=some o->¬F x->H' x=some o
def zlm (H:Hp)(F F':yO):Prop:=∀x,F' x->F x\/H x=none
def zbb:List Str:=["room", "size", "order", "enter", "worth_at", "below"]
structure Vj (C:Addr)(B:Hp->Addr->List Str->List Rm->yO->Prop):Prop where
 ins:∀{H b os rs F},B H b os rs F->∃dx fs,H b=some (.ins C dx fs)/\∀m∈zbb,fs.lookup m=none
 frame:∀{H H' b os rs F},B H b os rs F->(∀x o,H x=some o->F x->H' x=some o)->yN H H'->B H' b os rs F
 there:∀{H b os rs F x},B H b os rs F->F x->H x≠none
 bk:∀{H b os rs F},B H b os rs F->Bk os.length rs
 ord:∀{H b os rs F},B H b os rs F->Lg os
theorem Vj.same {C:Addr}{B:Hp->Addr->List Str->List Rm->yO->Prop}(L:Vj C B){H H':Hp}{b:Addr}{os:List Str}{rs:List Rm}{F:yO}(h:B H b os rs F)(g:Same H H'):B H' b os rs F :=
 L.frame h (fun x o e _=>g x o e) (yN.of g)
theorem Vj.fresh {C:Addr}{B:Hp->Addr->List Str->List Rm->yO->Prop}(L:Vj C B){H:Hp}{b x:Addr}{os:List Str}{rs:List Rm}{F:yO}(h:B H b os rs F)(e:H x=none):¬F x:=fun q=>L.there h q e
def zln (os:List Str)(H:Hp)(x:Rm)(v:V):Prop:=match x with
 | none=>v=.non
 | some (i,lo,hi)=>∃(p:Addr) (y:Str),v=.ref p/\os[i]?=some y/\H p=some (.tup [.str y,.int (lo:Nat),.int (hi:Nat)])
def zj0 (os:List Str)(r:Row):Str->Bool:=fun x=>r (ix os x)
section
variable (B:Hp->Addr->List Str->List Rm->yO->Prop)(K:Frag)(C:Addr)
inductive R9 (vs:List V)(H:Hp)(Q:VK)(E9:XK):Prop
 | mk (b dx l:Addr) (os:List Str) (_:vs=[.ref b,.ref l]) (_:H b=some (.ins C dx [])) (_:b≠dx) (_:zT K H l (os.map V.str)) (_:Lg os) (_:∀(H':Hp) (F:yO),(∀x o,H x=some o->x≠b->H' x=some o)->B H' b os [none,none] F->(∀x,F x->x=b\/x=dx\/H x=none)->Q .non H'):R9 vs H Q E9
inductive Qa (vs:List V)(H:Hp)(Q:VK)(E9:XK):Prop
 | mk (b:Addr) (os:List Str) (rs:List Rm) (F:yO) (_:vs=[.ref b]) (_:B H b os rs F) (_:∀H',Same H H'->Q (.int (rs.length:Nat)) H'):Qa vs H Q E9
inductive tZ (vs:List V)(H:Hp)(Q:VK)(E9:XK):Prop
 | mk (b:Addr) (os:List Str) (rs:List Rm) (F:yO) (_:vs=[.ref b]) (_:B H b os rs F) (_:∀(l:Addr) (H':Hp),Same H H'->H l=none->H' l=some (.lst (os.map V.str))->Q (.ref l) H'):tZ vs H Q E9
inductive Z2 (vs:List V)(H:Hp)(Q:VK)(E9:XK):Prop
 | mk (b:Addr) (os:List Str) (rs:List Rm) (F:yO) (k:Nat) (x:Rm) (_:vs=[.ref b,.int k]) (_:B H b os rs F) (_:rs[k]?=some x) (_:∀(v:V) (H':Hp),Same H H'->zln os H' x v->Q v H'):Z2 vs H Q E9
def znd (b:Addr)(os:List Str)(H:Hp)(rs:List Rm)(F:yO)(n:Nat)(f:Row->Bool)(Q:VK):Prop:=∀(k:Nat) (rs':List Rm) (F':yO) (H':Hp),zjZ F H H'->yN H H'->B H' b os rs' F'->zlm H F F'->xX rs rs'->k<rs'.length->(∀r,yes rs' k r=f r)->rs'.length<=rs.length+n->Q (.int (k:Nat)) H'
inductive Tn (vs:List V)(H:Hp)(Q:VK)(E9:XK):Prop
 | mk (b p:Addr) (os:List Str) (rs:List Rm) (F:yO) (s:Sn) (_:vs=[.ref b,.ref p]) (_:B H b os rs F) (_:rs.length<=8000000) (_:SQ H s p) (_:s.Qx os) (_:s.count<=200) (_:s.depth<=24) (_:znd B b os H rs F 200000 (fun r=>s.val (zj0 os r)) Q):Tn vs H Q E9
end
end ZP
namespace L2
open PySem PySem.Spec PyProof.Rows
theorem zbc:bootBuiltins "sorted"=some (.builtin "sorted"):=by decide +kernel
theorem zcZ {κ:Type}[DecidableEq κ]{k:κ}:∀{kvs:List (κ×V)},(xV kvs k).isSome=decide (k∈kvs.map (·.1))
 | []=>rfl
 | p::r=>by
  by_cases e:p.1=k
  ·rw[wH e]
   exact(decide_eq_true (by rw[zq6,e];exact zq1)).symm
  ·rw[xW e,zcZ (kvs:=r)]
   congr 1
   rw[zq6,List.mem_cons]
   exact propext ⟨.inr,fun h=>h.elim (fun z=>absurd z.symm e) id⟩
end L2
namespace zM
open L2
structure Dfs (rs:List Rm)(k0:Nat)(ks ts:List Nat):Prop where
 nd:ks.Nodup
 r1:∀x∈ks,Reach rs k0 x
 r2:∀x∈ts,Reach rs k0 x
 st:k0∈ks\/k0∈ts
 cl:∀m i lo hi,m∈ks->rs[m]?=some (some (i,lo,hi))->(lo∈ks\/lo∈ts)/\(hi∈ks\/hi∈ts)
 len:ts.length<=1+2*ks.length
theorem Dfs.start (rs:List Rm)(k0:Nat):Dfs rs k0 [] [k0]:=⟨List.nodup_nil,fun x h=>by simp at h,fun x h=>by rw[List.mem_singleton.mp h];exact .refl _,.inr zq1,fun m i lo hi h=>by simp at h,zqY _⟩
theorem Mi {ks ts:List Nat}{x y:Nat}(hx:x∈ks)(h:y∈ks\/y∈ts++[x]):y∈ks\/y∈ts:=by
 rcases h with h | h
 ·exact .inl h
 ·rcases List.mem_append.mp h with h | h
  ·exact .inr h
  ·rw[List.mem_singleton.mp h];exact .inl hx
theorem Dfs.skip {rs:List Rm}{k0 x:Nat}{ks ts:List Nat}(D:Dfs rs k0 ks (ts++[x]))(hx:x∈ks):Dfs rs k0 ks ts :=
 ⟨D.nd,D.r1,fun y h=>D.r2 y (List.mem_append_left _ h),Mi hx D.st,fun m i lo hi h e=>⟨Mi hx (D.cl m i lo hi h e).1,Mi hx (D.cl m i lo hi h e).2⟩,by have:=D.len;rw[zqQ] at this;omega⟩
theorem zbV {ks:List Nat}{x:Nat}(h:ks.Nodup)(hx:x∉ks):(ks++[x]).Nodup:=by
 rw[List.nodup_append]
 refine⟨h,by simp,fun a ha b hb=>?_⟩
 rw[List.mem_singleton.mp hb]
 exact fun e=>hx (e ▸ ha)
theorem zd1 {ks ts us:List Nat}{x y:Nat}(h:y∈ks\/y∈ts++[x]):y∈ks++[x]\/y∈ts++us:=by
 rcases h with h | h
 ·exact .inl (List.mem_append_left _ h)
 ·rcases List.mem_append.mp h with h | h
  ·exact .inr (List.mem_append_left _ h)
  ·exact .inl (zqZ _ h)
theorem Dfs.add {rs:List Rm}{k0 x:Nat}{ks ts:List Nat}(us:List Nat)(D:Dfs rs k0 ks (ts++[x]))(hx:x∉ks)(h1:∀y∈us,Reach rs k0 y)(h2:∀i lo hi,rs[x]?=some (some (i,lo,hi))->lo∈us/\hi∈us)(h3:us.length<=2):Dfs rs k0 (ks++[x]) (ts++us):=by
 refine⟨zbV D.nd hx,fun y h=>?_,fun y h=>?_,zd1 D.st,fun m i lo hi h e=>?_,?_⟩
 ·rcases List.mem_append.mp h with h | h
  ·exact D.r1 y h
  ·exact D.r2 y (zqZ _ h)
 ·rcases List.mem_append.mp h with h | h
  ·exact D.r2 y (List.mem_append_left _ h)
  ·exact h1 y h
 ·rcases List.mem_append.mp h with h | h
  ·exact⟨zd1 (D.cl m i lo hi h e).1,zd1 (D.cl m i lo hi h e).2⟩
  ·rw[List.mem_singleton.mp h] at e
   exact⟨.inr (zqZ _ (h2 i lo hi e).1),.inr (zqZ _ (h2 i lo hi e).2)⟩
 ·have:=D.len
  rw[zqQ,zrf] at this
  rw[zqQ,zqQ,zrf]
  omega
theorem Dfs.node {rs:List Rm}{k0 x i lo hi:Nat}{ks ts:List Nat}(D:Dfs rs k0 ks (ts++[x]))(hx:x∉ks)(e:rs[x]?=some (some (i,lo,hi))):Dfs rs k0 (ks++[x]) (ts++[lo,hi]):=by
 have r:=(D.r2 x (zqZ _ zq1)).step e
 refine D.add [lo,hi] hx (fun y h=>?_) (fun i' lo' hi' e'=>?_) (zqY _)
 ·simp at h
  rcases h with h | h<;>subst h
  ·exact r.1
  ·exact r.2
 ·rw[e] at e'
  cases e'
  exact⟨by simp,by simp⟩
theorem Dfs.done {rs:List Rm}{k0:Nat}{ks:List Nat}(D:Dfs rs k0 ks [])(j:Nat):j∈ks↔Reach rs k0 j:=by
 have no:∀y,(y∈ks\/y∈([]:List Nat))->y∈ks:=fun y h=>h.elim id (fun z=>by cases z)
 refine⟨D.r1 j,fun h=>?_⟩
 exact Reach.closed (S:=fun y=>y∈ks) (no _ D.st) (fun {m i lo hi} hm e=>⟨no _ (D.cl m i lo hi hm e).1,no _ (D.cl m i lo hi hm e).2⟩) h
theorem Dfs.room {n:Nat}{rs:List Rm}(B:Bk n rs){k0 x:Nat}{ks ts:List Nat}(D:Dfs rs k0 ks (ts++[x]))(h0:k0<rs.length)(hx:x∉ks):ks.length+1<=rs.length:=by
 have z:=sub_len (xs:=ks++[x]) (ys:=List.range rs.length) (zbV D.nd hx) fun y h=>?_
 ·rw[zqQ,List.length_range] at z;exact z
 ·rw[List.mem_range]
  rcases List.mem_append.mp h with h | h
  ·exact(D.r1 y h).lt B h0
  ·rw[List.mem_singleton.mp h]
   exact(D.r2 x (zqZ _ zq1)).lt B h0
structure yL (rs:List Rm)(k:Nat)(ms:List Int):Prop where
 up:ms.Pairwise (·<·)
 mem:∀x,x∈ms↔∃j:Nat,x=j/\Reach rs k j
theorem yL.eq {rs:List Rm}{k:Nat}{ms ns:List Int}(h:yL rs k ms)(g:yL rs k ns):ms=ns:=zba h.up g.up fun x=>(h.mem x).trans (g.mem x).symm
theorem yL.of {rs:List Rm}{k:Nat}{ks:List Nat}{ms:List Int}(nd:ks.Nodup)(h:∀j,j∈ks↔Reach rs k j)(pm:ms.Perm (ks.map fun(n:Nat)=>(n:Int)))(up:ms.Pairwise (·<=·)):yL rs k ms:=by
 have nd':(ks.map fun(n:Nat)=>(n:Int)).Nodup:=by
  rw[List.Nodup,List.pairwise_map]
  exact nd.imp fun h e=>h (by omega)
 refine⟨Tj up (pm.nodup_iff.mpr nd'),fun x=>?_⟩
 rw[pm.mem_iff,List.mem_map]
 exact⟨fun⟨j,hj,e⟩=>⟨j,e.symm,(h j).mp hj⟩,fun⟨j,e,hj⟩=>⟨j,(h j).mpr hj,e.symm⟩⟩
theorem yL.len {n:Nat}{rs:List Rm}(B:Bk n rs){k:Nat}(hk:k<rs.length){ms:List Int}(h:yL rs k ms):ms.length<=2^n+1:=by
 have z:=zfF B hk (xs:=ms.map Int.toNat) ?_ fun x hx=>?_
 ·rw[zqI] at z;exact z
 ·rw[List.Nodup,List.pairwise_map]
  refine List.Pairwise.imp_of_mem (fun {a b} ha hb hl e=>?_) h.up
  obtain⟨j,e1,_⟩:=(h.mem a).mp ha
  obtain⟨j',e2,_⟩:=(h.mem b).mp hb
  omega
 ·obtain⟨y,hy,e⟩:=List.mem_map.mp hx
  obtain⟨j,e1,r⟩:=(h.mem y).mp hy
  have:x=j:=by omega
  rw[this];exact r
end zM
namespace zM
def Means (rs:List Rm)(k:Nat)(f:Row->Bool):Prop:=k<rs.length/\∀r,yes rs k r=f r
end zM
namespace L2
open PySem
theorem zgK {X:Cx}{all rest:List Stmt}{D:Ends}{Tf:TS->TS}{Pre:St->Hp->Prop}(Mid:St->Hp->Prop)(h1:∀t,PSs X rest t->PSs X all (Tf t))(h:∀u:TS,(∀ σ H,Mid σ H->u D σ H)->∀ σ H,Pre σ H->Tf u D σ H)
  (hr:∃t,PSs X rest t/\∀ σ H,Mid σ H->t D σ H):∃t,PSs X all t/\∀ σ H,Pre σ H->t D σ H :=
 let ⟨t,a,b⟩:=hr
 ⟨Tf t,h1 t a,h t b⟩
theorem zne {X:Cx}{all:List Stmt}{D:Ends}{σ:St}{H:Hp}(h:∃t,PSs X all t/\∀ σ' H',(σ'=σ/\H'=H)->t D σ' H'):∃t,PSs X all t/\t D σ H :=
 let ⟨t,a,b⟩:=h
 ⟨t,a,b _ _ ⟨rfl,rfl⟩⟩
end L2
namespace ZP
open PySem L2 zM
section
variable (B:Hp->Addr->List Str->List Rm->yO->Prop)
structure Led (H0:Hp)(b:Addr)(os:List Str)(n:Nat)(H:Hp)(rs:List Rm)(F:yO):Prop where
 same:Same H0 H
 away:∀x,F x->H0 x=none
 bk:B H b os rs F
 len:rs.length<=n
end
section
variable {B:Hp->Addr->List Str->List Rm->yO->Prop}{C:Addr}{H0:Hp}{b:Addr}{os:List Str}{n:Nat}{H:Hp}{rs:List Rm}{F:yO}
theorem Led.new (L:Vj C B)(h:Led B H0 b os n H rs F){H':Hp}(g:Same H H'):Led B H0 b os n H' rs F:=⟨h.same.trans g,h.away,L.same h.bk g,h.len⟩
theorem Led.grow (h:Led B H0 b os n H rs F){m:Nat}{H':Hp}{rs':List Rm}{F':yO}(aw:zjZ F H H')(hB:B H' b os rs' F')(nf:zlm H F F')(hl:rs'.length<=rs.length+m):Led B H0 b os (n+m) H' rs' F' :=
 ⟨fun x o e=>aw x o (h.same _ _ e) fun z=>(by have:=h.away x z;rw[this] at e;cases e),fun x hx=>(nf x hx).elim (h.away x) (fun z=>h.same.free z),hB,zq3 hl (Nat.add_le_add_right h.len _)⟩
end
end ZP
namespace zM
open ZP
def zaq (b:Nat):Row:=fun i=>b.testBit i
def bits (r:Row):Nat->Nat
 | 0=>0
 | n+1=>if r n then bits r n+2^n else bits r n
theorem u6 (r:Row):∀n,bits r n<2^n
 | 0=>Nat.zero_lt_one
 | n+1=>by
  have ih:=u6 r n
  unfold bits
  rw[Nat.pow_succ]
  split<;>omega
theorem YC (r:Row):∀{n i:Nat},i<n->(bits r n).testBit i=r i
 | 0,i,h=>by omega
 | n+1,i,h=>by
  have lt:=u6 r n
  have z:(bits r n).testBit n=false:=Nat.testBit_lt_two_pow lt
  unfold bits
  by_cases e:i=n
  ·subst e
   cases hr:r i
   ·rw[if_neg zqM];exact z
   ·rw[if_pos rfl,wN,z];rfl
  ·have hi:i<n:=by omega
   split
   ·rw[SM hi];exact YC r hi
   ·exact YC r hi
theorem V1 {n a b:Nat}(ha:a<2^n)(hb:b<2^n)(h:∀i,i<n->a.testBit i=b.testBit i):a=b :=
 Nat.eq_of_testBit_eq fun i=>by
  by_cases hi:i<n
  ·exact h i hi
  ·have:2^n<=2^i:=zrd (by decide) (by omega)
   rw[Nat.testBit_lt_two_pow (by omega),Nat.testBit_lt_two_pow (by omega)]
theorem zc0 {r:Row}{n i:Nat}(hi:i<n)(v:Bool):bits (put r i v) n=zY (bits r n) i v:=by
 refine V1 (u6 _ _) (yH (u6 _ _) hi) fun j hj=>?_
 rw[YC _ hj,yh,YC _ hj]
 rfl
theorem S6 {n b:Nat}(h:b<2^n):bits (zaq b) n=b:=V1 (u6 _ _) h fun i hi=>by rw[YC _ hi];rfl
theorem zgL {n:Nat}{rs:List Rm}(B:Bk n rs){k:Nat}(hk:k<rs.length)(r:Row):yes rs k (zaq (bits r n))=yes rs k r :=
 tY B k k (zqY _) hk fun i _ hi=>YC r hi
theorem zeW {n N M:Nat}{f g:Nat->Bool}(h:yK n N f)(k:yK n M g)(e:∀b,b<2^n->f b=g b):N=M :=
 Nat.eq_of_testBit_eq fun i=>by
  rw[h i,k i]
  by_cases hi:i<2^n
  ·rw[e i hi]
  ·rw[decide_eq_false hi];rfl
theorem Kw {n N:Nat}{f:Nat->Bool}(h:yK n N f){b:Nat}(hb:b<2^n):N.testBit b=f b:=by rw[h b,decide_eq_true hb];rfl
def Free (n:Nat)(f:Nat->Bool)(p:Nat):Prop:=∀b,b<2^n->∀v,f (zY b p v)=f b
theorem xJ (b p:Nat):zY b p (b.testBit p)=b:=by unfold zY;rw[if_pos rfl]
theorem Free.zii {n p:Nat}{f:Nat->Bool}(h:∀b,b<2^n->f (zY b p (!b.testBit p))=f b):Free n f p:=fun b hb v=>by
 by_cases e:v=b.testBit p
 ·rw[e,xJ]
 ·have:v=!b.testBit p:=by cases v<;>cases hh:b.testBit p<;>simp_all
  rw[this];exact h b hb
theorem zar {n:Nat}{f:Nat->Bool}(h:∀p,p<n->Free n f p):∀b,b<2^n->f b=f 0:=by
 have key:∀m b,m<=n->b<2^n->(∀i,m<=i->i<n->b.testBit i=false)->f b=f 0:=by
  intro m
  induction m with
  | zero =>
   intro b _ hb hz
   have:b=0:=V1 hb (Nat.two_pow_pos n) fun i hi=>by rw[hz i (zq4 _) hi,Nat.zero_testBit]
   rw[this]
  | succ m ih =>
   intro b hm hb hz
   rw[<-h m (by omega) b hb false]
   refine ih _ (by omega) (yH hb (by omega)) fun i hi hin=>?_
   rw[yh]
   by_cases e:i=m
   ·rw[if_pos e]
   ·rw[if_neg e];exact hz i (by omega) hin
 exact fun b hb=>key n b (zqY _) hb fun i hi hin=>by omega
theorem zj1 {n:Nat}{rs:List Rm}(B:Bk n rs){k p:Nat}(hk:k<rs.length)(hp:p<n)(h:∀i,i<=p->∀r v,yes rs k (put r i v)=yes rs k r):p<zX n rs k:=by
 by_cases k2:2<=k
 ·obtain⟨i,lo,hi,e,hin,hlo,hhi,hne,l1,l2⟩:=B.rm k k2 hk
  rw[wR B e]
  by_cases hip:i<=p
  ·exfalso
   refine hne (YB B (max lo hi) lo hi ⟨Nat.le_max_left _ _,Nat.le_max_right _ _⟩ (by omega) (by omega) fun r=>?_)
   have z:=Zi B e hk r
   rw[<-z.1,<-z.2,h i hip,h i hip]
  ·omega
 ·have:k=0\/k=1:=by omega
  rcases this with z | z<;>subst z
  ·rw[zbU B];exact hp
  ·rw[Wo B];exact hp
theorem zgM {n m p k0 k1:Nat}{rs:List Rm}{f:Nat->Bool}(B:Bk n rs)(hp:p<n)(m0:k0<rs.length)(m1:k1<rs.length)
  (y0:∀r,yes rs k0 r=f (zY (bits r n) p false))(y1:∀r,yes rs k1 r=f (zY (bits r n) p true))(fr:∀i,i<p->Free n f i)
  (dep:∃b,b<2^n/\f (zY b p false)≠f (zY b p true))(old:∀j,j<m->¬∀r,yes rs j r=f (bits r n))(hl:∀j,m<=j->j<rs.length->p<zX n rs j) :
  Bk n (rs++[some (p,k0,k1)])/\∀r,yes (rs++[some (p,k0,k1)]) rs.length r=f (bits r n):=by
 have pb:∀(r:Row) v,zY (bits r n) p v<2^n:=fun r v=>yH (u6 _ _) hp
 have low:∀(k:Nat) (w:Bool),k<rs.length->(∀r,yes rs k r=f (zY (bits r n) p w))->p<zX n rs k:=fun k w hk hy=>zj1 B hk hp fun i hi r v=>by
  rw[hy,hy,zc0 (by omega)]
  by_cases e:i=p
  ·subst e
   congr 1
   refine V1 (yH (yH (u6 _ _) hp) hp) (pb r w) fun j _=>?_
   rw[yh,yh,yh]
   by_cases e:j=i
   ·rw[if_pos e,if_pos e]
   ·rw[if_neg e,if_neg e,if_neg e]
  ·rw[<-fr i (by omega) _ (pb r w) v]
   congr 1
   refine V1 (yH (yH (u6 _ _) (by omega)) hp) (yH (pb r w) (by omega)) fun j _=>?_
   rw[yh,yh,yh,yh]
   by_cases e1:j=p
   ·rw[if_pos e1,if_pos e1,if_neg (by omega)]
   ·rw[if_neg e1,if_neg e1]
 have ne:k0≠k1:=fun e=>by
  subst e
  obtain⟨b,hb,hne⟩:=dep
  refine hne ?_
  have a:=y0 (zaq b)
  have c:=y1 (zaq b)
  rw[S6 hb] at a c
  exact a.symm.trans c
 have fin:∀(R:List Rm) (k:Nat),Bk n R->R[k]?=some (some (p,k0,k1))->(∀j,j<rs.length->∀r,yes R j r=yes rs j r)->∀r,yes R k r=f (bits r n):=fun R k BR e same r=>by
  rw[XF BR e,same _ m1,same _ m0,y0,y1]
  have hb:=YC r hp
  cases hr:r p
  ·rw[if_neg zqM]
   rw[hr] at hb
   conv=>rhs;rw[<-xJ (bits r n) p,hb]
  ·rw[if_pos rfl]
   rw[hr] at hb
   conv=>rhs;rw[<-xJ (bits r n) p,hb]
 have new:some (p,k0,k1)∉rs:=fun h=>by
  obtain⟨j,hj,e⟩:=zro h
  have e':rs[j]?=some (some (p,k0,k1)):=by rw[zqJ hj,e]
  by_cases hm:j<m
  ·exact old j hm (fin rs j B e' fun _ _ _=>rfl)
  ·have:=hl j (by omega) hj
   rw[wR B e'] at this
   omega
 have B':=B.snoc hp m0 m1 ne (low k0 false m0 y0) (low k1 true m1 y1) new
 refine⟨B',fin _ _ B' (by simp) fun j hj r=>?_⟩
 exact zcY B hj r
structure zc1 (n:Nat)(rs:List Rm)(ts:List Nat):Prop where
 len:ts.length=rs.length
 tab:∀(j t:Nat),ts[j]?=some t->yK n t (fun b=>yes rs j (zaq b))
theorem zc1.snoc {n:Nat}{rs:List Rm}(B:Bk n rs){ts:List Nat}{x:Rm}{t:Nat}(h:zc1 n rs ts)(k:yK n t (fun b=>yes (rs++[x]) rs.length (zaq b))):zc1 n (rs++[x]) (ts++[t]):=by
 refine⟨by rw[zqQ,zqQ,h.len];rfl,fun j u e=>?_⟩
 by_cases hj:j<ts.length
 ·rw[zre hj] at e
  refine vA (h.tab j u e) fun b _=>?_
  rw[zcY B (by rw[<-h.len];exact hj)]
 ·have lt:=(zqL.mp e).1
  rw[zqQ,zrf] at lt
  have ej:j=ts.length:=by omega
  subst ej
  simp at e
  subst e
  rw[h.len]
  exact k
theorem zc1.find {n:Nat}{rs:List Rm}(B:Bk n rs){ts:List Nat}(h:zc1 n rs ts){j t:Nat}{f:Nat->Bool}(e:ts[j]?=some t)(tb:yK n t f)(r:Row):yes rs j r=f (bits r n):=by
 have hj:j<rs.length:=by rw[<-h.len];exact(zqL.mp e).1
 rw[<-zgL B hj,<-Kw tb (u6 r n),Kw (h.tab j t e) (u6 r n)]
theorem zc1.same {n:Nat}{rs:List Rm}{ts:List Nat}(h:zc1 n rs ts){j t:Nat}{f:Nat->Bool}(hj:j<rs.length)(tb:yK n t f)(hy:∀r,yes rs j r=f (bits r n)):ts[j]?=some t:=by
 have lt:j<ts.length:=by rw[h.len];exact hj
 rw[zqJ lt]
 congr 1
 refine zeW (h.tab j _ (zqJ lt)) tb fun b hb=>?_
 show yes rs j (zaq b)=f b
 rw[hy,S6 hb]
end zM
namespace ZP
open PySem L2 zM
structure Nums (ts:List Nat)(kvs:List (Key×V)):Prop where
 get:∀(j t:Nat),ts[j]?=some t->xV kvs (Sum.inl (t:Int))=some (.int (j:Nat))
 non:∀t:Nat,t∉ts->xV kvs (Sum.inl (t:Int))=none
 len:kvs.length<=ts.length
theorem Nums.snoc {ts:List Nat}{kvs:List (Key×V)}(h:Nums ts kvs){t:Nat}(ht:t∉ts):Nums (ts++[t]) (putK kvs (Sum.inl (t:Int)) (.int (ts.length:Nat))):=by
 refine⟨fun j u e=>?_,fun u hu=>?_,?_⟩
 ·rw[Jo]
  by_cases hj:j<ts.length
  ·rw[zre hj] at e
   have hm:=zqN e
   rw[if_neg fun z=>?_]
   ·exact h.get j u e
   ·have:(u:Int)=(t:Int):=Sum.inl.inj z
    have:u=t:=by omega
    exact ht (this ▸ hm)
  ·have lt:=(zqL.mp e).1
   rw[zqQ,zrf] at lt
   have ej:j=ts.length:=by omega
   subst ej
   simp at e
   subst e
   rw[if_pos rfl]
 ·rw[Jo,if_neg fun z=>?_]
  ·exact h.non u fun z=>hu (List.mem_append_left _ z)
  ·have:(u:Int)=(t:Int):=Sum.inl.inj z
   have:u=t:=by omega
   exact hu (this ▸ zqZ _ zq1)
 ·have:=Wn kvs (Sum.inl (t:Int)) (.int (ts.length:Nat))
  have:=h.len
  rw[zqQ,zrf]
  omega
def zlo (n j:Nat):Rm->List V
 | none=>[.int (n:Nat),.int (j:Nat),.int (j:Nat)]
 | some (i,lo,hi)=>[.int (i:Nat),.int (lo:Nat),.int (hi:Nat)]
def WW (j:Nat)(x:Rm)(v:Bool):Nat:=match x with
 | none=>j
 | some (_,lo,hi)=>if v then hi else lo
def Mj (ml rl tl nd:Addr):List (Str×V):=[("marks", .ref ml),("rooms", .ref rl),("tables", .ref tl),("numbers", .ref nd)]
structure Parts (C:Addr)(H:Hp)(b:Addr)(os:List Str)(rs:List Rm)(F:yO)(dx ml rl tl nd:Addr)(rv:List V)(ts:List Nat)(kvs:List (Key×V)):Prop where
 hb:H b=some (.ins C dx (Mj ml rl tl nd))
 hm:H ml=some (.lst (os.map V.str))
 hr:H rl=some (.lst rv)
 ht:H tl=some (.lst (ts.map fun t=>V.int (t:Nat)))
 hd:H nd=some (.dK kvs)
 mr:ml≠rl
 mt:ml≠tl
 rt:rl≠tl
 ord:Lg os
 bk:Bk os.length rs
 len:rv.length=rs.length
 rm:∀(j:Nat) x,rs[j]?=some x->∃p,rv[j]?=some (.ref p)/\H p=some (.tup (zlo os.length j x))
 tabs:zc1 os.length rs ts
 nums:Nums ts kvs
 ft:∀x,F x↔(x=b\/x=ml\/x=rl\/x=tl\/x=nd)
def z9 (C:Addr)(H:Hp)(b:Addr)(os:List Str)(rs:List Rm)(F:yO):Prop:=∃dx ml rl tl nd rv ts kvs,Parts C H b os rs F dx ml rl tl nd rv ts kvs
theorem Parts.frame {C:Addr}{H H':Hp}{b:Addr}{os:List Str}{rs:List Rm}{F:yO}{dx ml rl tl nd:Addr}{rv:List V}{ts:List Nat}{kvs:List (Key×V)}(h:Parts C H b os rs F dx ml rl tl nd rv ts kvs)
  (s:∀x o,H x=some o->F x->H' x=some o)(t:yN H H'):Parts C H' b os rs F dx ml rl tl nd rv ts kvs :=
 {h with
  hb:=s _ _ h.hb ((h.ft _).mpr (.inl rfl))
  hm:=s _ _ h.hm ((h.ft _).mpr (.inr (.inl rfl)))
  hr:=s _ _ h.hr ((h.ft _).mpr (.inr (.inr (.inl rfl))))
  ht:=s _ _ h.ht ((h.ft _).mpr (.inr (.inr (.inr (.inl rfl)))))
  hd:=s _ _ h.hd ((h.ft _).mpr (.inr (.inr (.inr (.inr rfl)))))
  rm:=fun j x e=>let ⟨p,a,c⟩:=h.rm j x e;⟨p,a,t _ _ c⟩ }
theorem yQ (C:Addr):Vj C (z9 C) where
 ins:=fun⟨dx,ml,rl,tl,nd,rv,ts,kvs,h⟩=>⟨dx,_,h.hb,fun m hm=>by
  simp only[zbb,List.mem_cons,zq8,or_false] at hm
  rcases hm with z | z | z | z | z | z<;>subst z<;>rfl⟩
 frame:=fun⟨dx,ml,rl,tl,nd,rv,ts,kvs,h⟩ s t=>⟨dx,ml,rl,tl,nd,rv,ts,kvs,h.frame s t⟩
 there:=fun⟨dx,ml,rl,tl,nd,rv,ts,kvs,h⟩ hx=>by
  rcases (h.ft _).mp hx with z | z | z | z | z<;>subst z
  ·rw[h.hb];exact fun z=>by cases z
  ·rw[h.hm];exact fun z=>by cases z
  ·rw[h.hr];exact fun z=>by cases z
  ·rw[h.ht];exact fun z=>by cases z
  ·rw[h.hd];exact fun z=>by cases z
 bk:=fun⟨_,_,_,_,_,_,_,_,h⟩=>h.bk
 ord:=fun⟨_,_,_,_,_,_,_,_,h⟩=>h.ord
theorem Parts.more {C:Addr}{H H':Hp}{b:Addr}{os:List Str}{rs:List Rm}{F:yO}{dx ml rl tl nd:Addr}{rv:List V}{ts:List Nat}{kvs:List (Key×V)}(h:Parts C H b os rs F dx ml rl tl nd rv ts kvs)
  {i lo hi t:Nat}{q:Addr}(t':yN H H')(hb:H' b=H b)(hm:H' ml=H ml)(hr:H' rl=some (.lst (rv++[.ref q])))(ht:H' tl=some (.lst (ts.map (fun t=>V.int (t:Nat))++[.int (t:Nat)])))
  (hd:H' nd=some (.dK (putK kvs (Sum.inl (t:Int)) (.int (rs.length:Nat)))))(hq:H' q=some (.tup [.int (i:Nat),.int (lo:Nat),.int (hi:Nat)]))(B':Bk os.length (rs++[some (i,lo,hi)]))(hn:t∉ts)(tb:yK os.length t (fun b=>yes (rs++[some (i,lo,hi)]) rs.length (zaq b))) :
  Parts C H' b os (rs++[some (i,lo,hi)]) F dx ml rl tl nd (rv++[.ref q]) (ts++[t]) (putK kvs (Sum.inl (t:Int)) (.int (rs.length:Nat))) :=
 {hb:=by rw[hb];exact h.hb
  hm:=by rw[hm];exact h.hm
  hr:=hr
  ht:=by rw[ht,zqW];rfl
  hd:=hd
  mr:=h.mr
  mt:=h.mt
  rt:=h.rt
  ord:=h.ord
  bk:=B'
  len:=by rw[zqQ,zqQ,h.len];rfl
  rm:=fun j x e=>by
   by_cases hj:j<rs.length
   ·rw[zre hj] at e
    obtain⟨p,a,c⟩:=h.rm j x e
    exact⟨p,by rw[zre (by rw[h.len];exact hj)];exact a,t' _ _ c⟩
   ·have lt:=(zqL.mp e).1
    rw[zqQ,zrf] at lt
    have ej:j=rs.length:=by omega
    subst ej
    simp at e
    subst e
    exact⟨q,by rw[<-h.len];simp,hq⟩
  tabs:=h.tabs.snoc h.bk tb
  nums:=by
   have z:=h.nums.snoc hn
   rw[h.tabs.len] at z
   exact z
  ft:=h.ft }
inductive Q9 (vs:List V)(H:Hp)(Q:VK)(E9:XK):Prop
 | mk (N p n:Nat) (v:Bool) (f:Nat->Bool) (_:vs=[.int N,.int p,.int (v.toNat:Nat),.int n]) (_:p<n) (_:n<=8) (_:yK n N f) (_:∀R:Nat,yK n R (fun b=>f (zY b p v))->Q (.int R) H):Q9 vs H Q E9
inductive Ky (vs:List V)(H:Hp)(Q:VK)(E9:XK):Prop
 | mk (N n:Nat) (f:Nat->Bool) (_:vs=[.int N,.int n]) (_:n<=8) (_:yK n N f) (_:∀p:Nat,p<=n->(∀i,i<p->Free n f i)->(p<n->∃b,b<2^n/\f (zY b p false)≠f (zY b p true))->Q (.int p) H):Ky vs H Q E9
inductive tO (C:Addr)(vs:List V)(H:Hp)(Q:VK)(E9:XK):Prop
 | mk (b:Addr) (os:List Str) (rs:List Rm) (F:yO) (k:Nat) (_:vs=[.ref b,.int k]) (_:z9 C H b os rs F) (_:k<rs.length) (_:Q .non H):tO C vs H Q E9
inductive Vk (C:Addr)(vs:List V)(H:Hp)(Q:VK)(E9:XK):Prop
 | mk (b:Addr) (os:List Str) (rs:List Rm) (F:yO) (k:Nat) (_:vs=[.ref b,.int k]) (_:z9 C H b os rs F) (_:k<rs.length) (_:Q (.int (zX os.length rs k:Nat)) H):Vk C vs H Q E9
inductive V2 (C:Addr)(vs:List V)(H:Hp)(Q:VK)(E9:XK):Prop
 | mk (b:Addr) (os:List Str) (rs:List Rm) (F:yO) (k:Nat) (x:Rm) (v:Bool) (_:vs=[.ref b,.int k,.int (v.toNat:Nat)]) (_:z9 C H b os rs F) (_:rs[k]?=some x) (_:Q (.int (WW k x v:Nat)) H):V2 C vs H Q E9
inductive XH (C:Addr)(d:Nat)(vs:List V)(H:Hp)(Q:VK)(E9:XK):Prop
 | mk (b:Addr) (os:List Str) (rs:List Rm) (F:yO) (t u:Nat) (f:Nat->Bool) (_:vs=[.ref b,.int t]) (_:z9 C H b os rs F) (_:rs.length+2^d<=9000000) (_:u<=os.length) (_:os.length+1<=u+d) (_:yK os.length t f) (_:(∀i,i<u->Free os.length f i)) (_:∀(k:Nat) (rs':List Rm) (H':Hp),zjZ F H H'->yN H H'->z9 C H' b os rs' F->xX rs rs'->k<rs'.length->(∀r,yes rs' k r=f (bits r os.length))->rs'.length+1<=rs.length+2^d->(∀j,rs.length<=j->j<rs'.length->u<=zX os.length rs' j)->Q (.int (k:Nat)) H'):XH C d vs H Q E9
inductive zbW (vs:List V)(H:Hp)(Q:VK)(E9:XK):Prop
 | mk (N p n:Nat) (f:Nat->Bool) (_:vs=[.int N,.int p,.int n]) (_:p<n) (_:n<=8) (_:yK n N f) (_:∀b:Bool,(b=false->Free n f p)->(b=true->∃c,c<2^n/\f (zY c p false)≠f (zY c p true))->Q (.bl b) H):zbW vs H Q E9
end ZP
namespace zM
open ZP
def allR:Nat->List (List Bool)
 | 0=>[[]]
 | n+1=>(allR n).flatMap fun r=>[r++[false],r++[true]]
def Zk (r:List Bool):Row:=fun i=>r.getD i false
theorem Pa:∀(n:Nat) (r:List Bool),r∈allR n->r.length=n
 | 0,r,h=>by
  have:r=[]:=by simpa [allR] using h
  rw[this];rfl
 | n+1,r,h=>by
  obtain⟨x,hx,hr⟩:=List.mem_flatMap.mp h
  have ih:=Pa n x hx
  simp at hr
  rcases hr with z | z<;>rw[z,zqQ,ih]<;>rfl
theorem Ml {α β:Type}(f:α->List β)(h:∀a,(f a).length=2):∀l:List α,(l.flatMap f).length=2*l.length
 | []=>rfl
 | a::l=>by rw[List.flatMap_cons,zqQ,h a,Ml f h l,zqU];omega
theorem Mp:∀n,(allR n).length=2^n
 | 0=>rfl
 | n+1=>by
  show((allR n).flatMap _).length=_
  rw[Ml _ (fun _=>rfl),Mp n,Nat.pow_succ];omega
end zM
namespace L2
open PySem PySem.Spec PyProof.Rows
section
variable {X:Cx}{sc uP:Scope}{xs:List Str}{js:List Nat}{tg:Expr}{g:TG}{elt iter:Expr}{px pos:Pos}{ifs:List Expr}{wi:TI}{tt:TT}{te:TE}
theorem zj2 (VG:X.env.scope=uP)(L:zeJ uP sc xs (js.map fun j=>X.N.getD j ""))(hc:X.calm=true)(hi:PI X tg iter wi)(hg:∀(cl:List (Str×Addr)) (C:Addr) (s₂:Shared) (H₂:Hp) (fp:List Addr),PG (X.blk sc cl C (QJ X xs js) s₂ H₂ fp) tg g)(hjs:∀j∈js,j<X.N.length)
  (ht:∀(cl:List (Str×Addr)) (C:Addr) (s₂:Shared) (H₂:Hp) (fp:List Addr) (pins:List (Addr×Obj)) (s':Shared) (σ':St) (H':Hp) (Q:Bool->Hp->Prop),Inv (X.blk sc cl C (QJ X xs js) s₂ H₂ fp) pins σ' H' s'->tt σ' H' Q ->
   wpAny (model X.prog X.w) X.A (Y7 ifs (compEnvC sc cl C X.env)) (TP (X.blk sc cl C (QJ X xs js) s₂ H₂ fp) pins σ' Q) (fun _ _=>False) s')
  (he:∀(cl:List (Str×Addr)) (C:Addr) (s₂:Shared) (H₂:Hp) (fp:List Addr),PE (X.blk sc cl C (QJ X xs js) s₂ H₂ fp) elt te)
  (hs:∀x,foldedSetIterable iter X.env x=pure x:=by intro _;rfl) :
  PE X (.ListComp elt [⟨tg,iter,ifs,0⟩] sc pos) (zk3 wi xs js g tt te):=by
 intro pins s σ H Q I h
 rw[eval_ListComp]
 refine zcH (use:=none) (Fin:=fun ys H=>∀p,H p=none->Q (.ref p) (upd H p (.lst ys))) VG L (rd:=Calm) (fun _ _ _ _ _ _ _=>hc) hi hg hjs ht he hs I h fun D C s5 H5 ys its k m5 J oD oC hDC p1 vs z hn fin=>?_
 refine⟨m5,hn,fun h' hsb=>?_⟩
 have J2:Inv X pins σ H5 { s5 with heap:=h',toks:=s5.toks }:=J.turned (it:=C) (fun b o hb e=>hsb.extBut b o hb e) oC.free oC.loc (.inr oC.new) oC.cel oC.pin
 have p1':h'.get? D=some (vJ its k):=hsb.extBut _ _ hDC p1
 have J3:Inv X pins σ (upd H5 D (.lst ys)) { s5 with heap:=h',toks:=s5.toks }:=J2.track oD.free oD.loc oD.new oD.cel oD.pin ⟨z,its,k,vs,p1'⟩
 exact⟨.ref D,_,J3,rfl,fin D oD.free⟩
end
section
variable {X:Cx}
def zi8 (K:Frag):R2:=fun x y H Q=>∃p q xs ys,x=.ref p/\y=.ref q/\zT K H p xs/\zT K H q ys/\xs.length+ys.length<=sizeLine/\∀l,H l=none->Q (.ref l) (upd H l (.lst (xs++ys)))
theorem zij:VD X (binaryOp .Add) (zi8 X.K):=by
 intro pins s σ H x y v u Q I rx ry h
 obtain⟨p,q,xs,ys,rfl,rfl,hp,hq,hz,h⟩:=h
 cases rx
 cases ry
 obtain⟨zik,rv1,pl1,hz1⟩:=I.list hp
 obtain⟨its2,rv2,pl2,hz2⟩:=I.list hq
 obtain⟨⟨cls,dd,data,sl⟩,ho,hc,n,hd⟩:=id pl1.isList
 obtain⟨⟨cls2,dd2,data2,sl2⟩,ho2,hc2,n2,hd2⟩:=id pl2.isList
 simp only at hc hd hc2 hd2
 subst hc hd hc2 hd2
 have l1:=rv1.length
 have l2:=rv2.length
 have e:zik.toArray++its2.toArray=(zik++its2).toArray:=by simp
 refine concat_meets ⟨_,ho,rfl⟩ ⟨_,ho2,rfl⟩ noFill_list_add seq_list_add PySem.F.slot_list_add PySem.F.entry_list_add (PySem.F.args_list_add_2 _ _) (list_addW p q zik.toArray its2.toArray n n2 dd dd2 sl sl2 (by simp;omega)) ⟨ho,ho2,?_⟩
 rw[e]
 refine⟨.ref s.heap.objs.size,_,I.laid (t':=s.toks) (o:=.lst (xs++ys)) (fun b o e=>zqO _ e) (zqY _) ?_,rfl,h _ (I.hok.fresh (zqY _))⟩
 exact⟨by rw[zqQ];exact hz,zik++its2,0,rv1.append rv2,zq2 _ rfl⟩
end
end L2
namespace L2
open PySem
section
variable {K:Frag}{a:Addr}{xs:List V}{σ:St}{js:List Nat}{te:TE}{H:Hp}{Qf:Addr->Hp->List V->Prop}
theorem zim (R:Nat->V->Prop)(hq:zT K H a xs)(hz:xs.length<=sizeLine)
  (hs:∀(i:Nat) x H',xs[i]?=some x->Same H H'->te (YZ σ js (some x)) H' fun v H3=>R i v/\Same H H3)
  (me:∀ σ H Q Q',(∀v H1,Q v H1->Q' v H1)->te σ H Q->te σ H Q')
  (hd:∀ys H' p,ys.length=xs.length->(∀(i:Nat) y,ys[i]?=some y->R i y)->Same H H'->H' p=none->Qf p H' ys) :
  ∃W:Nat->Nat->List V->Hp->Prop,(∃m,W 0 m [] H)/\∀i m ys H,W i m ys H ->
   ((K9 K a).stop i H/\∀p,H p=none->Qf p H ys) \/
   ((K9 K a).go i H/\ys.length<sizeLine/\∀x H',(K9 K a).Kh i H x H'->R5 (YZ σ js (some x)) H' fun b H2 =>
    if b=true then te (YZ σ js (some x)) H2 fun v H3=>∃m',m'<m/\W (i+1) m' (ys++[v]) H3 else ∃m',m'<m/\W (i+1) m' ys H2):=by
 refine Kp (fun i ys H'=>Same H H'/\ys.length=i/\∀(j:Nat) y,ys[j]?=some y->R j y) ⟨Same.refl _,rfl,fun j y e=>by simp at e⟩ hz ?_ ?_ (fun _ _ _ _ h q=>h _ _ q) me ?_
 ·rintro i ys H' hi ⟨g,e,r⟩
  exact⟨g.seq hq,by omega⟩
 ·rintro i x ys H' hx ⟨g,e,r⟩
  show te (YZ σ js (some x)) H' fun v H3=>Same H H3/\(ys++[v]).length=i+1/\∀(j:Nat) y,(ys++[v])[j]?=some y->R j y
  refine me _ _ _ _ (fun v H3 h3=>⟨h3.2,by rw[zqQ,e];rfl,fun j y ey=>?_⟩) (hs i x H' hx g)
  by_cases hj:j<ys.length
  ·rw[zre hj] at ey
   exact r j y ey
  ·have lt:=(zqL.mp ey).1
   rw[zqQ,zrf] at lt
   have ej:j=ys.length:=by omega
   subst ej
   simp at ey
   subst ey
   rw[e]
   exact h3.1
 ·rintro ys H' p ⟨g,e,r⟩ hp
  exact hd ys H' p e r g hp
end
end L2
namespace ZP
open PySem L2 zM
def zlp (H0 H:Hp)(p:Addr)(r:List Bool):Prop:=H0 p=none/\H p=some (.lst (Z0 r))
end ZP
namespace L2
open PySem
theorem zin {X:Cx}{x y:Str}{px py pt:Pos}{x1:Nat}(hc:X.calm=true)(hN:X.N.Nodup)(h0:X.N[0]?=some x)(h1:X.N[1]?=some y)(hx:X.env.scope.names.lookup x=some .local)(hy:X.env.scope.names.lookup y=some .local):PG X (.Tuple [.Name x px,.Name y py] x1 pt) (zhB X.K 2 (K8 (Va 0) (K8 (Va 1) zhA))) :=
 zdy hc (Xz (yI hN h0 (.inl hx) (.inr hx)) (Xz (yI hN h1 (.inl hy) (.inr hy)) zbv))
end L2
namespace L2
open PySem PySem.Spec PyProof.Rows
structure zgN (uP sc:Scope)(x y:Str)(fv:List Str):Prop where
 g:zeJ uP sc [x,y] fv
 hx:sc.names.lookup x=some .local
 hy:sc.names.lookup y=some .local
 nd:([x,y]++fv).Nodup
theorem zgO {X:Cx}{sc uP:Scope}{x y:Str}{js:List Nat}{elt iter:Expr}{px py pt pos:Pos}{x1:Nat}{wi:TI}{te:TE}(VG:X.env.scope=uP)(L:zgN uP sc x y (js.map fun j=>X.N.getD j ""))(hc:X.calm=true)(hi:PI X (.Tuple [.Name x px,.Name y py] x1 pt) iter wi)(hjs:∀j∈js,j<X.N.length)
  (he:∀(cl:List (Str×Addr)) (C:Addr) (s₂:Shared) (H₂:Hp) (fp:List Addr),PE (X.blk sc cl C (QJ X [x,y] js) s₂ H₂ fp) elt te)
  (hs:∀x,foldedSetIterable iter X.env x=pure x:=by intro _;rfl) :
  PE X (.ListComp elt [⟨.Tuple [.Name x px,.Name y py] x1 pt,iter,[],0⟩] sc pos) (zk3 wi [x,y] js (zhB X.K 2 (K8 (Va 0) (K8 (Va 1) zhA))) R5 te) :=
 zj2 VG L.g hc hi (fun cl C s₂ H₂ fp=>zin (X:=X.blk sc cl C (QJ X [x,y] js) s₂ H₂ fp) hc L.nd rfl rfl (lookup_relabel_local L.hx) (lookup_relabel_local L.hy)) hjs (fun cl C s₂ H₂ fp pins s' σ' H' Q I h=>wpAny_pure ⟨H',I,h⟩) he hs
section
variable {X:Cx}{K:Frag}
theorem zc2 {α:Type}(u:α):∀(n:Nat) (acc:Array α),List.foldl (fun x1 x2=>x1++x2) acc (List.replicate n #[u])=acc++(List.replicate n u).toArray
 | 0,acc=>by simp
 | n+1,acc=>by
  rw[List.replicate_succ,List.foldl_cons,zc2 u n,List.replicate_succ]
  apply Array.ext'
  simp
theorem zfG {prog:Program}{w:World}{A:Around}{E:Value->Shared->Prop}{s:Shared}{l:Addr}{items:Array Value}{k:Nat}{x:Int}{u:Tok}{Q:Value->Shared->Prop}
  (hl:s.heap.get? l=some { cls:=.type "list", dict:=none,data:=.seq items k,slots:=#[] })
  (hlo:-(2^63:Int)<=x)(hhi:x<2^63)(hsz:items.size*x.toNat<=2^24)
  (h:Q (.ref s.heap.objs.size) { s with heap:=s.heap.push { cls:=.type "list", data:=.seq (List.foldl (fun x1 x2=>x1++x2) #[] (List.replicate (if items.isEmpty=true then 0 else x.toNat) items)) } }) :
  wpAny (model prog w) A (binaryOp .Mult (.ref l) (.int x u)) Q E s :=
 wpAny_binaryOp_repeat_ref (T := "list") (U := "int") (by decide) ⟨_,hl,rfl⟩ (fun s'=>typeIs_int s' x u) noFill_list_mul PySem.F.fills_int_mul PySem.F.slot_int_rmul repeat_list PySem.F.slot_int_index.lookup
  (call_meets PySem.F.slot_int_rmul (typeIs_int s x u) PySem.F.entry_int_rmul (PySem.F.args_int_rmul_2 _ _) (int___rmul___int_list x u l items k)
   ⟨hl,rfl,⟨_,hl,rfl⟩,call_meets PySem.F.slot_list_mul ⟨_,hl,rfl⟩ PySem.F.entry_list_mul (PySem.F.args_list_mul_2 _ _)
    (AutoListH.list___mul___list_int_3 l items k x u (by simp[Builtin.List.listFitsIndex];omega) (by omega) (by simp[Builtin.List.listTooLong,sizeLine];omega))
    ⟨hl,h⟩⟩)
def zlq:R2:=fun x y H Q=>∃(p:Addr) (v:V) (n:Nat),x=.ref p/\y=.int n/\H p=some (.lst [v])/\n<=1000/\∀l,H l=none->Q (.ref l) (upd H l (.lst (List.replicate n v)))
theorem zio:VD X (binaryOp .Mult) zlq:=by
 intro pins s σ H x y vx vy Q I rx ry h
 obtain⟨p,v,n,rfl,rfl,hp,hn,q⟩:=h
 cases rx
 obtain⟨t,rfl⟩:=ry
 obtain⟨z,its,k,r,hl,e⟩:=I.zcD hp
 obtain⟨u,rfl,ru⟩:=vals1 r
 have hsz:[u].toArray.size=1:=rfl
 refine zfG e (by omega) (by omega) (by rw[hsz];omega) ?_
 have e2:List.foldl (fun x1 x2=>x1++x2) #[] (List.replicate (if [u].toArray.isEmpty=true then 0 else (n:Int).toNat) [u].toArray)=(List.replicate n u).toArray:=by
  have e3:(if [u].toArray.isEmpty=true then 0 else (n:Int).toNat)=n:=by simp
  rw[e3]
  have:=zc2 u n #[]
  simpa using this
 rw[e2]
 refine⟨.ref s.heap.objs.size,_,I.laid (t':=s.toks) (o:=.lst (List.replicate n v)) (fun b o e=>zqO _ e) (zqY _) ?_,rfl,q _ (I.hok.fresh (zqY _))⟩
 refine⟨by rw[List.length_replicate];exact zq0 (zQ hn),List.replicate n u,0,?_,zq2 _ rfl⟩
 clear e2 q hn
 induction n with
 | zero=>exact .nil
 | succ n ih=>exact .cons ru ih
end
end L2
namespace ZP
open PySem L2 zM
def yU (ns:List Int)(i:Nat):Int:=(ns[i]?).getD 0
inductive Kz (K:Frag)(vs:List V)(H:Hp)(Q:VK)(E9:XK):Prop
 | mk (l:Addr) (ns:List Int) (i:Nat) (_:vs=[.ref l,.int i]) (_:zT K H l (ns.map V.int)) (_:Q (.int (yU ns i)) H):Kz K vs H Q E9
end ZP
namespace L2
theorem zfH {σ:St}{H:Hp}{Q:Bool->Hp->Prop}(h:Q true H):R5 σ H Q:=h
end L2
namespace ZP
open PySem L2 zM
theorem Sn.zc3:∀s:Sn,s.count+1<=2^s.depth:=by
 have key:∀(d:Nat) (s:Sn),s.depth<=d->s.count+1<=2^d:=by
  intro d
  induction d with
  | zero=>intro s h;have:=Sn.NT s;omega
  | succ d ih =>
   intro s h
   have hp:=Sn.Lf s
   have hl:=Sn.QX s
   have hd:=Sn.U6 s
   have hc:∀t∈s.parts,t.count+1<=2^d:=fun t ht=>ih t (by have:=hd t ht;omega)
   have p1:1<=2^d:=Nat.one_le_two_pow
   rw[Nat.pow_succ,hp]
   match hs:s.parts,hl with
   | [],_=>simp;omega
   | [a],_ =>
    have:=hc a (by rw[hs];simp)
    simp;omega
   | [a,b],_ =>
    have h1:=hc a (by rw[hs];simp)
    have h2:=hc b (by rw[hs];simp)
    simp;omega
   | a::b::c::r,h=>simp at h
 exact fun s=>key _ s (zqY _)
end ZP
namespace L2
open PySem
theorem zj3:bootBuiltins "max"=some (.builtin "max"):=by decide +kernel
theorem Mq:bootBuiltins "min"=some (.builtin "min"):=by decide +kernel
theorem zgP {xs:List V}{n:Nat}:WQ xs (some (n:Int)) none=xs.drop n:=by
 unfold WQ
 rw[HT.VF,HT.zcC]
 by_cases h:n<=xs.length
 ·rw[Nat.min_eq_left h]
  exact List.take_of_length_le (by rw[List.length_drop];omega)
 ·rw[Nat.min_eq_right (by omega),List.drop_eq_nil_of_le (zqY _),List.drop_eq_nil_of_le (by omega)]
  simp
end L2
namespace ZP
open PySem L2 zM
def zgQ (x:Addr)(H0 H:Hp)(p:Addr)(r:List Bool):Prop:=H0 p=none/\p≠x/\H p=some (.lst (Z0 r))
theorem zd2 {x:Addr}{H0 H H':Hp}{ps:List Addr}{es:List (List Bool)}(h:Paired (zgQ x H0 H) ps es)(g:Same H H'):Paired (zgQ x H0 H') ps es:=yP (fun _ _ r=>⟨r.1,r.2.1,g _ _ r.2.2⟩) h
theorem zfI {x:Addr}{H0 H:Hp}{ps:List Addr}{es:List (List Bool)}{o:HO}(h:Paired (zgQ x H0 H) ps es):Paired (zgQ x H0 (upd H x o)) ps es:=yP (fun _ _ r=>⟨r.1,r.2.1,by rw[zE r.2.1];exact r.2.2⟩) h
inductive S7 (vs:List V)(H:Hp)(Q:VK)(E9:XK):Prop
 | mk (n:Nat) (_:vs=[.int n]) (_:n<=8) (_:∀(l:Addr) (H':Hp) (ps:List Addr),Same H H'->H l=none->H' l=some (.lst (ps.map V.ref))->Paired (zlp H H') ps (allR n)->Q (.ref l) H'):S7 vs H Q E9
end ZP
namespace PySem.SeqAt
open AutoSeq1 (wpAny_loadPart')
open MeetsSeq MeetsSeq2 MeetsSeq3 SeqRoads2
def LC (A:Around)(s:Shared)(y x:Value)(b:Bool):Prop :=
 ∀(prog:Program) (w:World) (E:Value->Shared->Prop) (Q:Value->Shared->Prop),Q (.bool b) s->wpAny (model prog w) A (richCompare .Lt y x) Q E s
def LK (e f:Nat->Bool)(m n:Nat):Nat->Nat->Bool
 | 0,_=>decide (m<n)
 | k+1,i=>if e i then LK e f m n k (i+1) else f i
theorem zfJ (l b:Addr)(items items2:Array Value)(n n2:Nat)(dd dd2:Option Addr)(sl sl2:Array (Option Value))(e f:Nat->Bool)(k:Nat) :
  ∀i:Nat,min items.size items2.size-i=k->Meets (Builtin.«list.__eq__.loop» ⟨[.ref l,.ref b,rawInt i,rawInt 0],[]⟩)
   (fun A R s=>s.heap.get? l=some { cls:=.type "list", dict:=dd,data:=.seq items n,slots:=sl }/\s.heap.get? b=some { cls:=.type "list", dict:=dd2,data:=.seq items2 n2,slots:=sl2 } /\
    (∀j (h1:j<items.size) (h2:j<items2.size),EqAt A.in1 s items[j] items2[j] (e j))/\(∀j (h1:j<items.size) (h2:j<items2.size),e j=false->LC A.in1 s items[j] items2[j] (f j)) /\
    R (.ok (.ret (.bool (LK e f items.size items2.size k i)))) s):=by
 induction k with
 | zero =>
  intro i hk prog w A R s h
  obtain⟨hp,g,d,tk,os⟩:=s;obtain⟨hl,hb,he,hf,h⟩:=h
  wp_walk using wpAny_loadPart' hl,wpAny_loadPart' hb
  by_cases h1:i<items.size
  ·have hi1:items[((i:Nat):Int).toNat]?=some items[i]:=by simp[h1]
   have hi2:items2[((i:Nat):Int).toNat]?=none:=by simp;omega
   rw[hi1,hi2]
   wp_walk using wpAny_loadPart' hl,wpAny_loadPart' hb
   exact h
  ·have hi1:items[((i:Nat):Int).toNat]?=none:=by simp;omega
   rw[hi1]
   wp_walk using wpAny_loadPart' hl,wpAny_loadPart' hb
   exact h
 | succ k ih =>
  intro i hk prog w A R s h
  obtain⟨hp,g,d,tk,os⟩:=s;obtain⟨hl,hb,he,hf,h⟩:=h
  wp_walk using wpAny_loadPart' hl,wpAny_loadPart' hb
  have hlt:i<items.size:=by omega
  have hlt2:i<items2.size:=by omega
  have hi1:items[((i:Nat):Int).toNat]?=some items[i]:=by simp[hlt]
  have hi2:items2[((i:Nat):Int).toNat]?=some items2[i]:=by simp[hlt2]
  have hc:((i:Int)+1)=((i+1:Nat):Int):=by push_cast;rfl
  rw[LK] at h
  rw[hi1,hi2]
  refine wpAny_bind (he i hlt hlt2 prog w _ _ ?_)
  cases hb':e i with
  | true =>
   rw[hb',if_pos rfl] at h
   wp_walk
   rw[hc]
   exact⟨plainId_quiet plain_eq_loop _,codeAny_builtin entry_eq_loop (by
    rw[Around.under_plainId plain_eq_loop _]
    exact ih (i+1) (by omega) prog w A R _ ⟨hl,hb,he,hf,h⟩)⟩
  | false =>
   rw[hb',if_neg zqM] at h
   wp_walk using wpAny_loadPart' hl,wpAny_loadPart' hb
   rw[hi1,hi2]
   refine wpAny_bind (hf i hlt hlt2 hb' prog w _ _ ?_)
   wp_walk
   exact h
theorem zfK (l b:Addr)(items items2:Array Value)(n n2:Nat)(dd dd2:Option Addr)(sl sl2:Array (Option Value))(e f:Nat->Bool) :
  Meets (Builtin.«list.__lt__» ⟨[.ref l,.ref b],[]⟩)
   (fun A R s=>s.heap.get? l=some { cls:=.type "list", dict:=dd,data:=.seq items n,slots:=sl }/\s.heap.get? b=some { cls:=.type "list", dict:=dd2,data:=.seq items2 n2,slots:=sl2 } /\
    (∀j (h1:j<items.size) (h2:j<items2.size),EqAt A.in1 s items[j] items2[j] (e j))/\(∀j (h1:j<items.size) (h2:j<items2.size),e j=false->LC A.in1 s items[j] items2[j] (f j)) /\
    R (.ok (.ret (.bool (LK e f items.size items2.size (min items.size items2.size) 0)))) s):=by
 intro prog w A R s h
 obtain⟨hp,g,d,tk,os⟩:=s;obtain⟨hl,hb,he,hf,h⟩:=h
 have f3:=AutoSeq1.sub_list_list
 wp_walk using wpAny_loadPart' hl,wpAny_loadPart' hb
 exact⟨plainId_quiet plain_eq_loop _,codeAny_builtin entry_eq_loop (by
  rw[Around.under_plainId plain_eq_loop _]
  exact zfJ l b items items2 n n2 dd dd2 sl sl2 e f _ 0 rfl prog w A R _ ⟨hl,hb,he,hf,h⟩)⟩
theorem zd3 (l b:Addr)(items items2:Array Value)(n n2:Nat)(dd dd2:Option Addr)(sl sl2:Array (Option Value))(e f:Nat->Bool) :
  Meets (Builtin.«tuple.__lt__» ⟨[.ref l,.ref b],[]⟩)
   (fun A R s=>s.heap.get? l=some { cls:=.type "tuple", dict:=dd,data:=.seq items n,slots:=sl }/\s.heap.get? b=some { cls:=.type "tuple", dict:=dd2,data:=.seq items2 n2,slots:=sl2 } /\
    (∀j (h1:j<items.size) (h2:j<items2.size),EqAt A.in1 s items[j] items2[j] (e j))/\(∀j (h1:j<items.size) (h2:j<items2.size),e j=false->LC A.in1 s items[j] items2[j] (f j)) /\
    R (.ok (.ret (.bool (LK e f items.size items2.size (min items.size items2.size) 0)))) s) :=
 .of_wp fun prog w A R s h=>by
  obtain⟨hp,g,d,tk,os⟩:=s;obtain⟨hl,hb,he,hf,h⟩:=h
  have f2:=AutoSeq1.sub_tuple_tuple
  have hZ:(items.toList.zip items2.toList).length=min items.size items2.size:=by simp
  wp_walk using wpAny_loadPart' hl,wpAny_loadPart' hb,wpAny_forIn_list _ (fun rest b s'=>b.1=none/\s'=⟨hp,g,d,tk,os⟩/\∃i,rest=(items.toList.zip items2.toList).drop i /\
   R (.ok (.ret (.bool (LK e f items.size items2.size (min items.size items2.size-i) i)))) ⟨hp,g,d,tk,os⟩) _
  case turn =>
   rintro⟨y,x⟩ rest b s' ⟨hb',rfl,i,hz,hR⟩
   have hlt:i<(items.toList.zip items2.toList).length:=by
    rcases Nat.lt_or_ge i (items.toList.zip items2.toList).length with h' | h'
    ·exact h'
    ·rw[List.drop_of_length_le h'] at hz;cases hz
   have hm:i<min items.size items2.size:=hZ ▸ hlt
   have h1:i<items.size:=zqR hm (Nat.min_le_left _ _)
   have h2:i<items2.size:=zqR hm (Nat.min_le_right _ _)
   rw[List.drop_eq_getElem_cons hlt] at hz
   injection hz with hyx hrest
   have hy:y=items[i]:=by have:=congrArg Prod.fst hyx;simpa using this
   have hx:x=items2[i]:=by have:=congrArg Prod.snd hyx;simpa using this
   subst hy hx
   have hk:min items.size items2.size-i=(min items.size items2.size-(i+1))+1:=by omega
   rw[hk,LK] at hR
   refine wpAny_bind (he i h1 h2 prog w _ _ ?_)
   cases hy:e i with
   | true =>
    rw[hy,if_pos rfl] at hR
    wp_walk
    exact⟨rfl,rfl,i+1,hrest,hR⟩
   | false =>
    rw[hy,if_neg zqM] at hR
    rw[if_pos (by rfl)]
    refine wpAny_bind (wpAny_rule (wpAny_bind (hf i h1 h2 hy prog w _ _ ?_)))
    wp_walk
    exact⟨_,rfl,hR⟩
  case fin =>
   rintro⟨b1,b2⟩ s' ⟨hb',rfl,i,hz,hR⟩
   simp only at hb'
   subst hb'
   have hge:min items.size items2.size<=i:=by
    rcases Nat.lt_or_ge i (items.toList.zip items2.toList).length with h' | h'
    ·rw[List.drop_eq_getElem_cons h'] at hz;cases hz
    ·exact hZ ▸ h'
   rw[Nat.sub_eq_zero_of_le hge,LK] at hR
   wp_walk
   exact⟨_,rfl,by simpa [Builtin.Tuple.tupleCompareSizes] using hR⟩
  case h =>
   exact⟨rfl,rfl,0,rfl,h⟩
section
variable {A:Around}{s:Shared}
theorem LC.lists {l b:Addr}{items items2:Array Value}{e f:Nat->Bool}(hl:s.heap.IsList l items)(hb:s.heap.IsList b items2)(hu:A.units<cLine)
  (he:∀j (h1:j<items.size) (h2:j<items2.size),EqAt A.in1 s items[j] items2[j] (e j))(hf:∀j (h1:j<items.size) (h2:j<items2.size),e j=false->LC A.in1 s items[j] items2[j] (f j)) :
  LC A s (.ref l) (.ref b) (LK e f items.size items2.size (min items.size items2.size) 0):=fun prog w E Q h=>by
 obtain⟨⟨cls,dd,data,sl⟩,ho,hc,n,hd⟩:=id hl
 obtain⟨⟨cls2,dd2,data2,sl2⟩,ho2,hc2,n2,hd2⟩:=id hb
 simp only at hc hd hc2 hd2
 subst hc hd hc2 hd2
 exact richCompare_meets_room (op:=.Lt) ⟨_,ho,rfl⟩ ⟨_,ho2,rfl⟩ F.slot_list_lt F.entry_list_lt (F.args_list_lt_2 _ _) (zfK l b items items2 n n2 dd dd2 sl sl2 e f)
  ⟨ho,ho2,he,hf,show Value.bool _≠Value.notImplemented/\Q (.bool _) s from ⟨(fun x=>nomatch x),h⟩⟩ hu
theorem LC.tuples {l b:Addr}{items items2:Array Value}{e f:Nat->Bool}(hl:s.heap.IsTuple l items)(hb:s.heap.IsTuple b items2)(hu:A.units<cLine)
  (he:∀j (h1:j<items.size) (h2:j<items2.size),EqAt A.in1 s items[j] items2[j] (e j))(hf:∀j (h1:j<items.size) (h2:j<items2.size),e j=false->LC A.in1 s items[j] items2[j] (f j)) :
  LC A s (.ref l) (.ref b) (LK e f items.size items2.size (min items.size items2.size) 0):=fun prog w E Q h=>by
 obtain⟨⟨cls,dd,data,sl⟩,ho,hc,n,hd⟩:=id hl
 obtain⟨⟨cls2,dd2,data2,sl2⟩,ho2,hc2,n2,hd2⟩:=id hb
 simp only at hc hd hc2 hd2
 subst hc hd hc2 hd2
 exact richCompare_meets_room (op:=.Lt) ⟨_,ho,rfl⟩ ⟨_,ho2,rfl⟩ F.slot_tuple_lt F.entry_tuple_lt (F.args_tuple_lt_2 _ _) (zd3 l b items items2 n n2 dd dd2 sl sl2 e f)
  ⟨ho,ho2,he,hf,show Value.bool _≠Value.notImplemented/\Q (.bool _) s from ⟨(fun x=>nomatch x),h⟩⟩ hu
end
end PySem.SeqAt
namespace L2
open PySem PySem.Spec PyProof.Rows
inductive LtD (K:Frag)(H:Hp):Nat->V->V->Bool->Prop
 | int {n:Nat} {i j:Int}:LtD K H n (.int i) (.int j) (decide (i<j))
 | ll {n:Nat} {p q:Addr} {xs ys:List V} {e f:Nat->Bool} (hp:zT K H p xs) (hq:zT K H q ys) (he:∀(j:Nat) x y,xs[j]?=some x->ys[j]?=some y->Td K H n x y (e j))
   (hf:∀(j:Nat) x y,xs[j]?=some x->ys[j]?=some y->e j=false->LtD K H n x y (f j)):LtD K H (n+1) (.ref p) (.ref q) (SeqAt.LK e f xs.length ys.length (min xs.length ys.length) 0)
 | tt {n:Nat} {p q:Addr} {xs ys:List V} {e f:Nat->Bool} (hp:xM K H p xs) (hq:xM K H q ys) (he:∀(j:Nat) x y,xs[j]?=some x->ys[j]?=some y->Td K H n x y (e j))
   (hf:∀(j:Nat) x y,xs[j]?=some x->ys[j]?=some y->e j=false->LtD K H n x y (f j)):LtD K H (n+1) (.ref p) (.ref q) (SeqAt.LK e f xs.length ys.length (min xs.length ys.length) 0)
section
variable {X:Cx}{pins:List (Addr×Obj)}{σ:St}{H:Hp}{s:Shared}
theorem LtD.at {n:Nat}{x y:V}{b:Bool}(h:LtD X.K H n x y b)(I:Inv X pins σ H s):∀{A:Around} {u v:Value},RelV x u->RelV y v->A.units+n<cLine->SeqAt.LC A s u v b:=by
 induction h with
 | int =>
  intro A u v rx ry _ prog w E Q hq
  obtain⟨t,rfl⟩:=rx
  obtain⟨t2,rfl⟩:=ry
  exact CmpOf.ints_lt (prog:=prog) (w:=w) (A:=A) (P:=fun k v=>∃t,v=.int (if k=0 then _ else _) t) _ (fun _ _ z=>z) 0 1 _ _ s Q E ⟨t,rfl⟩ ⟨t2,rfl⟩ hq
 | @ll n p q xs ys e f hp hq he hf ih =>
  intro A u v rx ry hu
  cases rx
  cases ry
  obtain⟨us,r1,t1,_⟩:=I.list hp
  obtain⟨ws,r2,t2,_⟩:=I.list hq
  have l1:=r1.length
  have l2:=r2.length
  have z:=SeqAt.LC.lists (A:=A) (e:=e) (f:=f) t1.isList t2.isList (by omega) (fun j h1 h2=>by
    obtain⟨x,hx,rx⟩:=item_at r1 h1
    obtain⟨y,hy,ry⟩:=item_at r2 h2
    exact(he j x y hx hy).at I rx ry (by show A.units+1+n<cLine;omega)) (fun j h1 h2 hn=>by
    obtain⟨x,hx,rx⟩:=item_at r1 h1
    obtain⟨y,hy,ry⟩:=item_at r2 h2
    exact ih j x y hx hy hn rx ry (by show A.units+1+n<cLine;omega))
  rw[zqS,zqS,<-l1,<-l2] at z
  exact z
 | @tt n p q xs ys e f hp hq he hf ih =>
  intro A u v rx ry hu
  cases rx
  cases ry
  obtain⟨us,r1,t1,_⟩:=I.tuple hp
  obtain⟨ws,r2,t2,_⟩:=I.tuple hq
  have l1:=r1.length
  have l2:=r2.length
  have z:=SeqAt.LC.tuples (A:=A) (e:=e) (f:=f) t1 t2 (by omega) (fun j h1 h2=>by
    obtain⟨x,hx,rx⟩:=item_at r1 h1
    obtain⟨y,hy,ry⟩:=item_at r2 h2
    exact(he j x y hx hy).at I rx ry (by show A.units+1+n<cLine;omega)) (fun j h1 h2 hn=>by
    obtain⟨x,hx,rx⟩:=item_at r1 h1
    obtain⟨y,hy,ry⟩:=item_at r2 h2
    exact ih j x y hx hy hn rx ry (by show A.units+1+n<cLine;omega))
  rw[zqS,zqS,<-l1,<-l2] at z
  exact z
end
def zi9 (P:Program)(w:World)(A:Around)(G:Shared->Prop)(V:Nat->Value->Prop)(bt:Nat->Nat->Bool):Prop :=
 ∀i j vi vj (s:Shared) (Q:Value->Shared->Prop) (E:Value->Shared->Prop),V i vi->V j vj->G s->Q (.bool (bt i j)) s->wpAny (model P w) A (richCompare .Lt vi vj) Q E s
section
variable {prog:Program}{w:World}{A:Around}{R:Result->Shared->Prop}{I:Addr}{fp wr:List Addr}{n:Nat}{V:Nat->Value->Prop}{St:Nat->Heap->Prop}{G:Shared->Prop}{kw:List (Str×Value)}
theorem zfL (W:Walks prog w A.in1 I fp wr n V St)(bt:Nat->Nat->Bool)(S:Addr)(hcmp:zi9 prog w A.in1 G V bt)(hG:∀(s:Shared) (h':Heap) (tk:Tok),(∀b o,b∉wr->b≠S->s.heap.get? b=some o->h'.get? b=some o)->G s->G { s with heap:=h',toks:=tk })(hSf:S∉fp) :
  ∀(k j:Nat) (s:Shared) (vb:Value) (c:Nat),n-(j+1)=k->j+1<=n->St (j+1) s.heap->G s->V (argBest bt j) vb ->
  s.heap.get? S=some { cls:=.type "list", dict:=none,data:=.seq #[vb,vb] c,slots:=#[] } ->
  (∀v h' tk,V (argBest bt (n-1)) v->(∀b o,b∉wr->b≠S->s.heap.get? b=some o->h'.get? b=some o)->R (.ok (.ret v)) { s with heap:=h',toks:=tk }) ->
  codeAny (model prog w) A (.builtin "min.loop" ⟨[.ref I,.none,.ref S],kw⟩) R s:=by
 have hSw:S∉wr:=fun h=>hSf (W.sub _ h)
 have hname:(toString "min" ++ toString ".loop" : String)="min.loop" := by decide
 intro k
 induction k with
 | zero =>
  intro j s vb c hk hj hst hg hPb hS hR
  have hin:j+1=n:=by omega
  refine codeAny_builtin F.entry_min_loop ?_
  rw[Around.under_plainId F.plain_min_loop _]
  show wpAny _ A.in1 (seqItems? (.ref S)>>=_) _ _ s
  refine wpAny_bind (wpAny_seqItems hS rfl ?_)
  show wpAny _ A.in1 (tryCatch (pyNext (.ref I)) _>>=_) _ _ s
  refine wpAny_bind (wpAny_tryCatch (W.done s _ _ (hin ▸ hst) fun h' tk hk'=>?_))
  have hS':=hk' S _ hSw hS
  show wpAny _ A.in1 (updateSeq S (fun _=>#[])>>=_) _ _ _
  refine wpAny_bind ?_
  refine wpAny_updateSeq hS' rfl (wpAny_bind (wpAny_letGo (wpAny_pure ?_)))
  refine hR vb _ tk (by rw[<-hin];exact hPb) fun b o hbw hbS e=>(Heap.get?_update_other _ _ (Ne.symm hbS)).trans (hk' b o hbw e)
 | succ k ih =>
  intro j s vb c hk hj hst hg hPb hS hR
  have hlt:j+1<n:=by omega
  refine codeAny_builtin F.entry_min_loop ?_
  rw[Around.under_plainId F.plain_min_loop _]
  show wpAny _ A.in1 (seqItems? (.ref S)>>=_) _ _ s
  refine wpAny_bind (wpAny_seqItems hS rfl ?_)
  show wpAny _ A.in1 (tryCatch (pyNext (.ref I)) _>>=_) _ _ s
  refine wpAny_bind (wpAny_tryCatch (W.item (j+1) s _ _ hlt hst fun v h' tk hP hst' hk'=>?_))
  have hS':=hk' S _ hSw hS
  have hg':G { s with heap:=h',toks:=tk }:=hG _ _ _ (fun b o hbw _ e=>hk' b o hbw e) hg
  show wpAny _ A.in1 (tryCatch (holding [v,v] (richCompare .Lt v vb>>=_)) _>>=_) _ _ _
  refine wpAny_bind (wpAny_tryCatch (wpAny_holding (wpAny_bind (hcmp (j+1) (argBest bt j) v vb _ _ _ hP hPb hg' ?_))))
  refine wpAny_bind (wpAny_holding (wpAny_truthy_bool ?_))
  refine wpAny_bind (wpAny_letGo (wpAny_pure ?_))
  cases hb:bt (j+1) (argBest bt j) with
  | true =>
   simp only[if_true]
   refine wpAny_bind ?_
   refine wpAny_updateSeq hS' rfl (wpAny_bind (wpAny_letGo ?_))
   rw[hname]
   refine wpAny_pure ⟨plainId_quiet F.plain_min_loop _,ih (j+1) _ v _ (by omega) hlt (W.frame _ _ _ hst' fun b hbf o e=>?_) (hG _ _ _ (fun b o _ hbS e=>(Heap.get?_update_other _ _ (Ne.symm hbS)).trans e) hg') (by simp only[argBest,hb,if_true];exact hP) (Heap.get?_update_self _ hS' rfl)
    fun v' h'' tk'' hP' hk''=>?_⟩
   ·exact(Heap.get?_update_other _ _ (fun h:S=b=>hSf (by rw[h];exact hbf))).trans e
   ·exact hR v' h'' tk'' hP' fun b o hbw hbS e=>hk'' b o hbw hbS ((Heap.get?_update_other _ _ (Ne.symm hbS)).trans (hk' b o hbw e))
  | false =>
   simp only[Bool.false_eq_true,if_false]
   refine wpAny_bind (wpAny_letGo ?_)
   rw[hname]
   refine wpAny_pure ⟨plainId_quiet F.plain_min_loop _,ih (j+1) _ vb c (by omega) hlt hst' hg' (by simp only[argBest,hb,Bool.false_eq_true,if_false];exact hPb) hS' fun v' h'' tk'' hP' hk''=>?_⟩
   exact hR v' h'' tk'' hP' fun b o hbw hbS e=>hk'' b o hbw hbS (hk' b o hbw e)
theorem Ju (W:Walks prog w A.in1 I fp wr n V St)(bt:Nat->Nat->Bool)(S:Addr)(hcmp:zi9 prog w A.in1 G V bt)(hG:∀(s:Shared) (h':Heap) (tk:Tok),(∀b o,b∉wr->b≠S->s.heap.get? b=some o->h'.get? b=some o)->G s->G { s with heap:=h',toks:=tk })(hSf:S∉fp)(hn:0<n){s:Shared}{c:Nat}(hst:St 0 s.heap)(hg:G s)
  (hS:s.heap.get? S=some { cls:=.type "list", dict:=none,data:=.seq #[] c,slots:=#[] })
  (hR:∀v h' tk,V (argBest bt (n-1)) v->(∀b o,b∉wr->b≠S->s.heap.get? b=some o->h'.get? b=some o)->R (.ok (.ret v)) { s with heap:=h',toks:=tk }) :
  codeAny (model prog w) A (.builtin "min.loop" ⟨[.ref I,.none,.ref S],kw⟩) R s:=by
 have hSw:S∉wr:=fun h=>hSf (W.sub _ h)
 have hname:(toString "min" ++ toString ".loop" : String)="min.loop" := by decide
 refine codeAny_builtin F.entry_min_loop ?_
 rw[Around.under_plainId F.plain_min_loop _]
 show wpAny _ A.in1 (seqItems? (.ref S)>>=_) _ _ s
 refine wpAny_bind (wpAny_seqItems hS rfl ?_)
 show wpAny _ A.in1 (tryCatch (pyNext (.ref I)) _>>=_) _ _ s
 refine wpAny_bind (wpAny_tryCatch (W.item 0 s _ _ hn hst fun v h' tk hP hst' hk'=>?_))
 have hS':=hk' S _ hSw hS
 have hg':G { s with heap:=h',toks:=tk }:=hG _ _ _ (fun b o hbw _ e=>hk' b o hbw e) hg
 show wpAny _ A.in1 (updateSeq S (fun _=>#[v,v])>>=_) _ _ _
 refine wpAny_bind ?_
 refine wpAny_updateSeq hS' rfl ?_
 rw[hname]
 refine wpAny_pure ⟨plainId_quiet F.plain_min_loop _,zfL W bt S hcmp hG hSf _ 0 _ v _ rfl hn (W.frame _ _ _ hst' fun b hbf o e=>?_) (hG _ _ _ (fun b o _ hbS e=>(Heap.get?_update_other _ _ (Ne.symm hbS)).trans e) hg') hP (Heap.get?_update_self _ hS' rfl) fun v' h'' tk'' hP' hk''=>?_⟩
 ·exact(Heap.get?_update_other _ _ (fun h:S=b=>hSf (by rw[h];exact hbf))).trans e
 ·exact hR v' h'' tk'' hP' fun b o hbw hbS e=>hk'' b o hbw hbS ((Heap.get?_update_other _ _ (Ne.symm hbS)).trans (hk' b o hbw e))
theorem zgR (W:Walks prog w A.in1 I fp wr 0 V St)(S:Addr)(hSf:S∉fp){s:Shared}{c:Nat}{d:Value}(hst:St 0 s.heap)
  (hS:s.heap.get? S=some { cls:=.type "list", dict:=none,data:=.seq #[] c,slots:=#[] })
  (hR:∀h' tk,(∀b o,b∉wr->s.heap.get? b=some o->h'.get? b=some o)->R (.ok (.ret d)) { s with heap:=h',toks:=tk }) :
  codeAny (model prog w) A (.builtin "min.loop" ⟨[.ref I,.none,.ref S],[(Str.ofString "default", d)]⟩) R s:=by
 refine codeAny_builtin F.entry_min_loop ?_
 rw[Around.under_plainId F.plain_min_loop _]
 show wpAny _ A.in1 (seqItems? (.ref S)>>=_) _ _ s
 refine wpAny_bind (wpAny_seqItems hS rfl ?_)
 show wpAny _ A.in1 (tryCatch (pyNext (.ref I)) _>>=_) _ _ s
 refine wpAny_bind (wpAny_tryCatch (W.done s _ _ hst fun h' tk hk'=>?_))
 exact wpAny_bind (wpAny_rule (wpAny_pure (hR h' tk hk')))
end
theorem V3 (a v:Value):argsOk "min" ⟨[a],[(Str.ofString "default", v)]⟩:=by unfold argsOk;kernel_rfl
section
variable {X:Cx}{pins:List (Addr×Obj)}{σ:St}{H:Hp}{s:Shared}
theorem min_list {p:Addr}{ys:List V}{bt:Nat->Nat->Bool}{kw:List (Str×Value)}{Q:VK}{E:Value->Shared->Prop}(I:Inv X pins σ H s)(hc:X.calm=true)(hu:X.A.units+9<cLine)(hkw:kw=[]\/∃d,kw=[(Str.ofString "default", d)])(hq:zT X.K H p ys)(h0:0<ys.length)
  (hcmp:∀(i j:Nat) x y,ys[i]?=some x->ys[j]?=some y->LtD X.K H 8 x y (bt i j))(q:∀v,ys[argBest bt (ys.length-1)]?=some v->Q v H) :
  wpAny (model X.prog X.w) X.A (call (.builtin "min") [.ref p] kw) (EP X pins σ Q) E s:=by
 have hname:(toString "min" ++ toString ".loop" : String)="min.loop" := by decide
 obtain⟨its,r',pl,hz⟩:=I.list hq
 have hlen:=r'.length
 have hlt:p<s.heap.objs.size:=by obtain⟨_,e,_⟩:=pl.isList;exact zqP e
 have ha:argsOk "min" ⟨[.ref p],kw⟩:=by
  rcases hkw with rfl | ⟨d,rfl⟩
  ·exact F.args_min1 _
  ·exact V3 _ _
 have hb:∃d,Builtin.Builtins.bindParams "min" ["key", "default"] 0 ⟨[],kw⟩=pure [none,d]/\(d.toList.map fun d=>(Str.ofString "default", d))=kw:=by
  rcases hkw with rfl | ⟨d,rfl⟩
  ·exact⟨none,rfl,rfl⟩
  ·exact⟨some d,rfl,rfl⟩
 obtain⟨d,hb,ekw⟩:=hb
 refine kmk_tree F.kind_min F.plain_min F.entry_min ha ?_
 show wpAny _ X.A.in1 (Builtin.Builtins.bindParams "min" ["key", "default"] 0 ⟨[],kw⟩>>=_) _ _ s
 refine wpAny_bind (wpAny_of_eq hb ?_)
 refine wpAny_bind (wpAny_pure ?_)
 refine wpAny_bind (wpAny_pyIter_list pl.isList ?_)
 refine wpAny_bind (wpAny_newObj_type ?_)
 rw[hname]
 refine wpAny_pure ⟨plainId_quiet F.plain_min_loop _,?_⟩
 show codeAny _ _ (.builtin "min.loop" ⟨[.ref s.heap.objs.size,.none,.ref _],d.toList.map fun d=>(Str.ofString "default", d)⟩) _ _
 rw[ekw]
 have szI:(s.heap.push { cls:=.type "list_iterator", data:=.fields #[.ref p,.int 0 0] }).objs.size=s.heap.objs.size+1:=Heap.size_push _ _
 have back:∀(i:Nat) (v:Value),its.toArray[i]?=some v->∃x,ys[i]?=some x/\RelV x v:=fun i v e=>by
  obtain⟨hi,e'⟩:=Array.getElem?_eq_some_iff.mp e
  obtain⟨x,hx,rx⟩:=item_at r' hi
  rw[e'] at rx
  exact⟨x,hx,rx⟩
 have kpS:∀b o,s.heap.get? b=some o->b≠s.heap.objs.size/\b≠s.heap.objs.size+1:=fun b o e=>by
  have:=zqP e
  exact⟨fun z=>by rw[z] at this;exact Nat.lt_irrefl _ this,fun z=>by rw[z] at this;exact Nat.lt_irrefl _ (Nat.lt_of_succ_lt this)⟩
 refine Ju (G:=fun s'=>∃h tk,s'={ s with heap:=h,toks:=tk }/\∀b o,s.heap.get? b=some o->h.get? b=some o) (Walks.list (A:=X.A.in1) (I.ok.hd hc) s.heap.objs.size p (zqX hlt) its.toArray) bt _ ?_ ?_ ?_ ?_ ⟨?_,?_⟩ ?_ (zq2 _ rfl) ?_
 ·rintro i j vi vj s' Q' E' hi hj ⟨h,tk,rfl,kp⟩ hQ
  obtain⟨x,hx,rx⟩:=back i vi hi
  obtain⟨y,hy,ry⟩:=back j vj hj
  exact(hcmp i j x y hx hy).at (I.kept (t':=tk) kp) rx ry (by show X.A.units+1+8<cLine;omega) _ _ _ _ hQ
 ·rintro s' h' tk hk ⟨h,tk2,rfl,kp⟩
  refine⟨h',tk,rfl,fun b o e=>hk b o ?_ ?_ (kp b o e)⟩
  ·rw[List.mem_singleton];exact(kpS b o e).1
  ·intro z
   rw[z] at e
   have:=zqP e
   rw[szI] at this
   exact Nat.lt_irrefl _ (Nat.lt_of_succ_lt this)
 ·intro hm
  have z:(s.heap.push { cls:=.type "list_iterator", data:=.fields #[.ref p,.int 0 0] }).objs.size=s.heap.objs.size\/(s.heap.push { cls:=.type "list_iterator", data:=.fields #[.ref p,.int 0 0] }).objs.size=p:=by simpa using hm
  rw[szI] at z
  rcases z with z | z
  ·exact absurd z (Nat.succ_ne_self _)
  ·rw[<-z] at hlt;exact Nat.lt_irrefl _ (Nat.lt_of_succ_lt hlt)
 ·rw[zqS];omega
 ·exact⟨_,zqO _ (zq2 _ rfl),rfl,rfl⟩
 ·exact(pl.isList.push _).push _
 ·exact⟨_,_,rfl,fun b o e=>zqO _ (zqO _ e)⟩
 ·intro v h' tk hP hk
  obtain⟨x,hx,rx⟩:=back _ v hP
  have kp:∀b o,s.heap.get? b=some o->h'.get? b=some o:=fun b o e=>hk b o (by rw[List.mem_singleton];exact(kpS b o e).1) (fun z=>by
   rw[z] at e
   have:=zqP e
   rw[szI] at this
   exact Nat.lt_irrefl _ (Nat.lt_of_succ_lt this)) (zqO _ (zqO _ e))
  rw[zqS,<-hlen] at hx
  exact⟨x,H,I.kept kp,rx,q x hx⟩
theorem zfM {p:Addr}{d:Value}{dv:V}{Q:VK}{E:Value->Shared->Prop}(I:Inv X pins σ H s)(hc:X.calm=true)(hq:zT X.K H p [])(rd:RelV dv d)(q:Q dv H) :
  wpAny (model X.prog X.w) X.A (call (.builtin "min") [.ref p] [(Str.ofString "default", d)]) (EP X pins σ Q) E s:=by
 have hname:(toString "min" ++ toString ".loop" : String)="min.loop" := by decide
 obtain⟨its,r',pl,hz⟩:=I.list hq
 have hits:its=[]:=List.length_eq_zero_iff.mp r'.length.symm
 subst hits
 have hlt:p<s.heap.objs.size:=by obtain⟨_,e,_⟩:=pl.isList;exact zqP e
 refine kmk_tree F.kind_min F.plain_min F.entry_min (V3 _ _) ?_
 show wpAny _ X.A.in1 (Builtin.Builtins.bindParams "min" ["key", "default"] 0 ⟨[],[(Str.ofString "default", d)]⟩>>=_) _ _ s
 refine wpAny_bind (wpAny_of_eq (show Builtin.Builtins.bindParams "min" ["key", "default"] 0 ⟨[],[(Str.ofString "default", d)]⟩=pure [none,some d] from rfl) ?_)
 refine wpAny_bind (wpAny_pure ?_)
 refine wpAny_bind (wpAny_pyIter_list pl.isList ?_)
 refine wpAny_bind (wpAny_newObj_type ?_)
 rw[hname]
 refine wpAny_pure ⟨plainId_quiet F.plain_min_loop _,?_⟩
 have szI:(s.heap.push { cls:=.type "list_iterator", data:=.fields #[.ref p,.int 0 0] }).objs.size=s.heap.objs.size+1:=Heap.size_push _ _
 refine zgR (Walks.list (A:=X.A.in1) (I.ok.hd hc) s.heap.objs.size p (zqX hlt) ([]:List Value).toArray) _ ?_ ⟨?_,?_⟩ (zq2 _ rfl) ?_
 ·intro hm
  have z:(s.heap.push { cls:=.type "list_iterator", data:=.fields #[.ref p,.int 0 0] }).objs.size=s.heap.objs.size\/(s.heap.push { cls:=.type "list_iterator", data:=.fields #[.ref p,.int 0 0] }).objs.size=p:=by simpa using hm
  rw[szI] at z
  rcases z with z | z
  ·exact absurd z (Nat.succ_ne_self _)
  ·rw[<-z] at hlt;exact Nat.lt_irrefl _ (Nat.lt_of_succ_lt hlt)
 ·exact⟨_,zqO _ (zq2 _ rfl),rfl,rfl⟩
 ·exact(pl.isList.push _).push _
 ·intro h' tk hk
  have kp:∀b o,s.heap.get? b=some o->h'.get? b=some o:=fun b o e=>hk b o (fun hm=>by
   rw[List.mem_singleton.mp hm] at e
   exact Nat.lt_irrefl _ (zqP e)) (zqO _ (zqO _ e))
  exact⟨dv,H,I.kept kp,rd,q⟩
end
def zir (K:Frag)(t:TA)(td:TE):TE:=fun σ H Q=>t σ H fun xs H1=>U4 td zal σ H1 fun zs H2=>∃(p:Addr) (ys:List V) (dv:V),xs=[.ref p]/\zs=[dv]/\zT K H2 p ys /\
 ((ys=[]/\Q dv H2)\/∃bt:Nat->Nat->Bool,0<ys.length/\(∀(i j:Nat) x y,ys[i]?=some x->ys[j]?=some y->LtD K H2 8 x y (bt i j))/\∀v,ys[argBest bt (ys.length-1)]?=some v->Q v H2)
section
variable {X:Cx}{x:Str}{p pos kpos:Pos}{e d:Expr}{t:TA}{td:TE}
theorem Mr {K:Frag}(hK:X.K=K)(hc:X.calm=true)(hu:X.A.units+9<cLine)(hg:Gl X x)(hm:X.mg x=none)(hv:bootBuiltins x=some (.builtin "min"))(ha:PA X [e] t)(hd:PE X d td)(hn:x ≠ "__name__" := by decide)(hdb:(x==("__debug__" : Str))=false:=by decide)
  (he:backTo pos (starEach [e] X.env)=(false,eval e X.env)::backTo pos (starEach [] X.env):=by rfl)(hpl:(backTo pos (starEach [e] X.env)).any (·.1)=false:=by rfl)
  (hks:(backToKw pos (keywordEach [⟨some "default", d,kpos⟩] X.env)).filterMap (·.1)=[Str.ofString "default"]:=by rfl) :
  PE X (.Call (.Name x p) [e] [⟨some "default", d,kpos⟩] pos) (zir K t td):=by
 subst hK
 intro pins s σ H Q I h
 refine wpAny_Call_Name_kw (RV I hg hm hv ?_ hn hdb)
 refine callWith_kw (xT (ha pos pins s σ H _ I h) fun us s1 ⟨vs,H1,I1,r1,q1⟩=>?_) he hpl
 refine xT ((zhL (nm:=some "default") (kpos:=kpos) hd zjC) pos pins s1 σ H1 _ I1 q1) fun ws s2 ⟨zs,H2,I2,rz,q2⟩=>?_
 rw[hks]
 obtain⟨pp,ys,dv,rfl,rfl,hq,hh⟩:=q2
 obtain⟨u,rfl,rx⟩:=vals1 r1
 cases rx
 obtain⟨z,rfl,rz'⟩:=vals1 rz
 rcases hh with ⟨rfl,qd⟩ | ⟨bt,h0,hcmp,q⟩
 ·exact zfM I2 hc hq rz' qd
 ·exact min_list I2 hc hu (.inr ⟨z,rfl⟩) hq h0 hcmp q
end
end L2
namespace zM
open PySem
theorem Rw {w:Nat->Int}{bt:Nat->Nat->Bool}{n:Nat}(h:∀i j,j<i->i<n->bt i j=decide (w i<w j)):∀k,k<n->argBest bt k<=k/\(∀i,i<=k->w (argBest bt k)<=w i)/\∀i,i<argBest bt k->w (argBest bt k)<w i
 | 0,_=>by
  refine⟨zqY _,fun i hi=>?_,fun i hi=>absurd hi (Nat.not_lt_zero _)⟩
  have e:i=0:=by omega
  rw[e]
  exact Int.le_refl _
 | k+1,hk=>by
  obtain⟨a1,a2,a3⟩:=Rw h k (by omega)
  have hb:=h (k+1) (argBest bt k) (by omega) hk
  by_cases hw:w (k+1)<w (argBest bt k)
  ·have e:argBest bt (k+1)=k+1:=by
    show(if bt (k+1) (argBest bt k)=true then k+1 else argBest bt k)=k+1
    rw[hb,decide_eq_true hw,if_pos rfl]
   rw[e]
   refine⟨zqY _,fun i hi=>?_,fun i hi=>?_⟩
   ·by_cases hik:i=k+1
    ·subst hik;exact Int.le_refl _
    ·have:=a2 i (by omega);omega
   ·have:=a2 i (by omega);omega
  ·have e:argBest bt (k+1)=argBest bt k:=by
    show(if bt (k+1) (argBest bt k)=true then k+1 else argBest bt k)=argBest bt k
    rw[hb,decide_eq_false hw,if_neg zqM]
   rw[e]
   refine⟨by omega,fun i hi=>?_,a3⟩
   by_cases hik:i=k+1
   ·subst hik;omega
   ·exact a2 i (by omega)
abbrev Wg:=Int×Int
def w2 (s:Wg)(v:Bool):Int:=if v then s.2 else s.1
def wgl (ws:List Wg)(r:List Bool):List Int:=(r.zip ws).map fun p=>w2 p.2 p.1
def wg (ws:List Wg)(r:List Bool):Int:=(wgl ws r).sum
end zM
namespace ZP
open PySem L2 zM
theorem zis (a b:Int):eqV (.int a) (.int b)=decide (a=b):=by
 by_cases h:a=b
 ·subst h;rw[decide_eq_true rfl];simp[eqV]
 ·rw[decide_eq_false h];simp[eqV,h]
end ZP
namespace L2
open PySem
theorem zj4:bootBuiltins "abs"=some (.builtin "abs"):=by decide +kernel
end L2
namespace ZP
open PySem L2 zM
def zc4 (H:Hp)(p:Addr)(s:Wg):Prop:=H p=some (.tup [.int s.1,.int s.2])
def zd5 (s:Wg):Prop:=(-1000000<=s.1/\s.1<=1000000)/\(-1000000<=s.2/\s.2<=1000000)
structure yW (K:Frag)(H:Hp)(l:Addr)(ps:List Addr)(ws:List Wg)(n:Nat):Prop where
 lst:zT K H l (ps.map V.ref)
 at_:Paired (zc4 H) ps ws
 len:ws.length=n
 ok:∀s∈ws,zd5 s
theorem yW.mono {K:Frag}{H H':Hp}{l:Addr}{ps:List Addr}{ws:List Wg}{n:Nat}(h:yW K H l ps ws n)(g:Same H H'):yW K H' l ps ws n:=⟨g.seq h.lst,yP (fun _ _ r=>yN.of g _ _ r) h.at_,h.len,h.ok⟩
inductive Zm (vs:List V)(H:Hp)(Q:VK)(E9:XK):Prop
 | mk (p:Addr) (s:Wg) (_:vs=[.ref p]) (_:zc4 H p s) (_:zd5 s) (_:∀H',Same H H'->Q (.bl true) H'):Zm vs H Q E9
theorem LQ:N6 Zm:=fun vs H Q Q' E h ⟨p,s,e,h1,h2,q⟩=>⟨p,s,e,h1,h2,fun H' g=>h _ _ (q H' g)⟩
inductive Yg (C:Addr)(K:Frag)(vs:List V)(H:Hp)(Q:VK)(E9:XK):Prop
 | mk (b l:Addr) (os:List Str) (rs:List Rm) (F:yO) (ps:List Addr) (ws:List Wg) (_:vs=[.ref b,.ref l]) (_:z9 C H b os rs F) (_:yW K H l ps ws os.length) (_:∀H',Same H H'->Q .non H'):Yg C K vs H Q E9
theorem zit {ws:List Wg}{r:List Bool}(h:r.length=ws.length):(wgl ws r).length=r.length:=by
 unfold wgl
 rw[zqI,List.length_zip,h,Nat.min_self]
theorem zj5 {ws:List Wg}{r:List Bool}{i:Nat}{b:Bool}{s:Wg}(h1:r[i]?=some b)(h2:ws[i]?=some s):(wgl ws r)[i]?=some (zM.w2 s b):=by
 unfold wgl
 have e:(r.zip ws)[i]?=some (b,s):=List.getElem?_zip_eq_some.mpr ⟨h1,h2⟩
 rw[zqK,e]
 rfl
inductive Wq (K:Frag)(vs:List V)(H:Hp)(Q:VK)(E9:XK):Prop
 | mk (rl l:Addr) (r:List Bool) (ps:List Addr) (ws:List Wg) (n:Nat) (_:vs=[.ref l,.ref rl]) (_:zT K H rl (Z0 r)) (_:r.length=n) (_:n<=8) (_:yW K H l ps ws n) (_:∀H',Same H H'->Q (.int (wg ws r)) H'):Wq K vs H Q E9
inductive V4 (vs:List V)(H:Hp)(Q:VK)(E9:XK):Prop
 | mk (c:Int) (n:Nat) (_:vs=[.int c,.int n]) (_:n<=8) (_:∀(l:Addr) (H':Hp) (ps:List Addr) (ws:List Wg),Same H H'->H l=none->H' l=some (.lst (ps.map V.ref))->Paired (zc4 H') ps ws->ws.length=n->(∀s∈ws,zd5 s)->Q (.ref l) H'):V4 vs H Q E9
end ZP
namespace zM
open PySem
def mxr (ρ r:Row)(m:Nat):Row:=fun i=>if i<m then ρ i else r i
theorem Jv {ρ r:Row}{m i:Nat}(h:i<m):mxr ρ r m i=ρ i:=if_pos h
theorem zbX {ρ r:Row}{m i:Nat}(h:m<=i):mxr ρ r m i=r i:=if_neg (by omega)
section
variable {n:Nat}{rs:List Rm}(B:Bk n rs)
include B
theorem zeX {k m:Nat}(hk:k<rs.length)(h:m<=zX n rs k)(ρ r:Row):yes rs k (mxr ρ r m)=yes rs k r :=
 tY B k k (zqY _) hk fun i hi _=>zbX (by omega)
theorem zd6 {k j:Nat}(hk:k<rs.length)(h:Reach rs k j):∃ ρ:Row,∀r,yes rs j r=yes rs k (mxr ρ r (zX n rs j)):=by
 have S:j<rs.length/\∃ ρ:Row,∀r,yes rs j r=yes rs k (mxr ρ r (zX n rs j)):=by
  refine Reach.closed (S:=fun j=>j<rs.length/\∃ ρ:Row,∀r,yes rs j r=yes rs k (mxr ρ r (zX n rs j))) ⟨hk,fun _=>false,fun r=>(zeX B hk (zqY _) _ r).symm⟩ (fun {m i lo hi} hm e=>?_) h
  obtain⟨hm,ρ,hρ⟩:=hm
  have m2:2<=m:=by
   rcases Nat.lt_or_ge m 2 with z | z
   ·have:m=0\/m=1:=by omega
    rcases this with z | z
    ·rw[z,B.h0] at e;cases e
    ·rw[z,B.h1] at e;cases e
   ·exact z
  obtain⟨i',lo',hi',e',hin,llo,lhi,hne,l1,l2⟩:=B.rm m m2 hm
  rw[e] at e'
  cases e'
  have lm:zX n rs m=i:=wR B e
  have part:∀(c:Nat) (v:Bool),c<rs.length->i<zX n rs c->(∀r,yes rs m (put r i v)=yes rs c r)->∃ ρ':Row,∀r,yes rs c r=yes rs k (mxr ρ' r (zX n rs c)):=fun c v hc hl hy=>by
   refine⟨put ρ i v,fun r=>?_⟩
   rw[<-zeX B hc (zqY _) (put ρ i v) r,<-hy,hρ,lm]
   congr 1
   funext p
   by_cases h1:p<i
   ·rw[Jv h1,Jv (by omega)]
    unfold put
    rw[if_neg (by omega)]
   ·rw[zbX (by omega)]
    by_cases h2:p=i
    ·subst h2
     rw[Jv hl]
     unfold put
     rw[if_pos rfl,if_pos rfl]
    ·unfold put
     rw[if_neg h2]
  exact⟨⟨by omega,part lo false (by omega) l1 fun r=>(Zi B e hm r).1⟩,⟨by omega,part hi true (by omega) l2 fun r=>(Zi B e hm r).2⟩⟩
 exact S.2
end
end zM
namespace ZP
open PySem L2 zM
theorem zls {os:List Str}{p:Nat}{x:Str}(nd:os.Nodup)(h:os[p]?=some x):ix os x=p:=by
 have hp:=(zqL.mp h).1
 obtain⟨_,h2,h3⟩:=Y9 (zqN h)
 exact(List.getElem?_inj h2 nd).mp (h3.trans h.symm)
end ZP
namespace L2
open PySem PySem.Spec PyProof.Rows PySem.W
theorem zc5 {α:Type}{f:α->V}{g:α->Value}:∀{ts:List α},(∀t∈ts,RelV (f t) (g t))->Vals (ts.map f) (ts.map g)
 | [],_=>.nil
 | t::ts,h=>.cons (h t zq1) (zc5 fun u hu=>h u (zqT _ hu))
theorem zeY {α β γ:Type}{R:β->γ->Prop}{f:α->β}{g:α->γ}:∀{ts:List α},(∀t∈ts,R (f t) (g t))->Paired R (ts.map f) (ts.map g)
 | [],_=>.nil
 | t::ts,h=>.cons (h t zq1) (zeY fun u hu=>h u (zqT _ hu))
section
variable {X:Cx}
theorem Jw {K:Frag}(h:X.K=K):VD X (binaryOp .Add) (zi8 K):=by subst h;exact zij
end
end L2
namespace ZP
open PySem L2 zM
noncomputable def outF (F:yO) (H:Hp):Hp:=fun x=>open Classical in if F x then none else H x
theorem zbd (F:yO)(H:Hp):Same (outF F H) H:=fun x o e=>by
 unfold outF at e
 by_cases h:F x
 ·rw[if_pos h] at e;cases e
 ·rw[if_neg h] at e;exact e
theorem YD {F:yO}{H:Hp}{x:Addr}(h:¬F x):outF F H x=H x:=by unfold outF;rw[if_neg h]
theorem zeZ {F:yO}{H:Hp}{x:Addr}(h:F x):outF F H x=none:=by unfold outF;rw[if_pos h]
section
variable {B:Hp->Addr->List Str->List Rm->yO->Prop}{C:Addr}{H0 H H':Hp}{b:Addr}{os:List Str}{n:Nat}{rs rs':List Rm}{F F':yO}
theorem Led.start (hB:B H b os rs F)(hn:rs.length<=n):Led B (outF F H) b os n H rs F:=⟨zbd F H,fun x hx=>zeZ hx,hB,hn⟩
end
theorem Led.reb {B:Hp->Addr->List Str->List Rm->yO->Prop}{H0 H:Hp}{b:Addr}{os:List Str}{n:Nat}{rs:List Rm}{F:yO}(h:Led B H0 b os n H rs F):Same H0 (outF F H):=fun x o e=>by
 have nf:¬F x:=fun z=>by rw[h.away x z] at e;cases e
 rw[YD nf]
 exact h.same _ _ e
end ZP
namespace zM
open PySem L2
theorem zd7 (n:Nat)(R:Row):∀i,i<n->Zk ((List.range n).map R) i=R i:=fun i hi=>by
 unfold Zk
 rw[zqV,zqK,List.getElem?_range hi]
 rfl
theorem WX (R:Row):∀n,(List.range n).map R∈allR n
 | 0=>by simp[allR]
 | n+1=>by
  rw[List.range_succ,zqW,List.map_singleton]
  refine List.mem_flatMap.mpr ⟨_,WX R n,?_⟩
  cases R n<;>simp
theorem zc6 {n:Nat}{rs:List Rm}(B:Bk n rs){k l:Nat}(hk:k<rs.length)(hl:l<rs.length)(h:∀r∈allR n,yes rs k (Zk r)=yes rs l (Zk r)):k=l:=by
 refine YB B (max k l) k l ⟨Nat.le_max_left _ _,Nat.le_max_right _ _⟩ hk hl fun R=>?_
 have e:∀j,j<rs.length->yes rs j (Zk ((List.range n).map R))=yes rs j R:=fun j hj=>tY B j j (zqY _) hj fun i _ hi=>zd7 n R i hi
 rw[<-e k hk,<-e l hl]
 exact h _ (WX R n)
theorem Tp {n:Nat}{rs rs':List Rm}(B:Bk n rs)(g:xX rs rs'){k j:Nat}(hk:k<rs.length):Reach rs' k j↔Reach rs k j:=by
 constructor
 ·intro h
  induction h with
  | refl k=>exact .refl k
  | @lo k i l h' j e _ ih =>
   rw[g.get hk] at e
   have two:=zqR (show 1<2 by decide) (zqY 2)
   have hl:l<rs.length:=Reach.lt B ((Reach.refl k).step e).1 hk
   exact .lo e (ih hl)
  | @hi k i l h' j e _ ih =>
   rw[g.get hk] at e
   have hl:h'<rs.length:=Reach.lt B ((Reach.refl k).step e).2 hk
   exact .hi e (ih hl)
 ·intro h
  induction h with
  | refl k=>exact .refl k
  | @lo k i l h' j e _ ih =>
   have hl:l<rs.length:=Reach.lt B ((Reach.refl k).step e).1 hk
   exact .lo (by rw[g.get hk];exact e) (ih hl)
  | @hi k i l h' j e _ ih =>
   have hl:h'<rs.length:=Reach.lt B ((Reach.refl k).step e).2 hk
   exact .hi (by rw[g.get hk];exact e) (ih hl)
theorem zc7 {n:Nat}{rs rs':List Rm}(B:Bk n rs)(g:xX rs rs'){k:Nat}{ms:List Int}(hk:k<rs.length)(h:yL rs k ms):yL rs' k ms:=⟨h.up,fun x=>(h.mem x).trans ⟨fun⟨j,e,r⟩=>⟨j,e,(Tp B g hk).mpr r⟩,fun⟨j,e,r⟩=>⟨j,e,(Tp B g hk).mp r⟩⟩⟩
end zM
namespace ZP
open PySem L2 zM
inductive Qc (C:Addr)(K:Frag)(vs:List V)(H:Hp)(Q:VK)(E9:XK):Prop
 | mk (b rl:Addr) (os:List Str) (rs:List zM.Rm) (F:yO) (k:Nat) (r:List Bool) (_:vs=[.ref b,.int (k:Nat),.ref rl]) (_:z9 C H b os rs F) (_:k<rs.length) (_:zT K H rl (Z0 r)) (_:r.length=os.length) (_:∀H',Same H H'->Q (.int ((zM.yes rs k (zM.Zk r)).toNat:Nat)) H'):Qc C K vs H Q E9
def Rp (ks:List Nat):List V:=ks.map fun(n:Nat)=>V.int n
theorem zgS (x:Nat)(ks:List Nat):inV (.int (x:Nat)) (Rp ks)=decide (x∈ks):=by
 unfold Rp
 induction ks with
 | nil=>rfl
 | cons t r ih =>
  have e:inV (.int (x:Nat)) ((t::r).map fun(n:Nat)=>V.int n)=(((t:Int)==(x:Int))||inV (.int (x:Nat)) (r.map fun(n:Nat)=>V.int n)):=rfl
  rw[e,ih]
  by_cases h:t=x
  ·subst h;simp
  ·have h':¬x=t:=fun z=>h z.symm
   have h2:¬(t:Int)=(x:Int):=fun z=>h (Int.ofNat.inj z)
   simp[h2,h']
theorem zfN (ks:List Nat):(Rp ks).all xQ=true:=by
 unfold Rp
 rw[List.all_map,zrb]
 exact fun _ _=>rfl
end ZP
namespace zM
open L2
structure Bfs (rs:List Rm)(k0:Nat)(ks:List Nat)(n:Nat):Prop where
 nd:ks.Nodup
 r1:∀x∈ks,Reach rs k0 x
 st:k0∈ks
 cl:∀j m i lo hi,j<n->ks[j]?=some m->rs[m]?=some (some (i,lo,hi))->lo∈ks/\hi∈ks
theorem Bfs.start (rs:List Rm)(k0:Nat):Bfs rs k0 [k0] 0:=⟨by simp,fun x h=>by rw[List.mem_singleton.mp h];exact .refl _,zq1,fun j m i lo hi h=>by omega⟩
theorem Bfs.push {rs:List Rm}{k0 x n:Nat}{ks:List Nat}(B:Bfs rs k0 ks n)(hn:n<=ks.length)(hx:x∉ks)(r:Reach rs k0 x):Bfs rs k0 (ks++[x]) n :=
 ⟨zbV B.nd hx,fun y h=>by
  rcases List.mem_append.mp h with h | h
  ·exact B.r1 y h
  ·rw[List.mem_singleton.mp h];exact r,List.mem_append_left _ B.st,fun j m i lo hi h e er=>by
  rw[zre (by omega)] at e
  have:=B.cl j m i lo hi h e er
  exact⟨List.mem_append_left _ this.1,List.mem_append_left _ this.2⟩⟩
theorem Bfs.next {rs:List Rm}{k0 n m:Nat}{ks:List Nat}(B:Bfs rs k0 ks n)(e:ks[n]?=some m)(h:∀i lo hi,rs[m]?=some (some (i,lo,hi))->lo∈ks/\hi∈ks):Bfs rs k0 ks (n+1) :=
 ⟨B.nd,B.r1,B.st,fun j m' i lo hi hj ej er=>by
  by_cases z:j=n
  ·subst z
   rw[e] at ej
   cases ej
   exact h i lo hi er
  ·exact B.cl j m' i lo hi (by omega) ej er⟩
theorem Bfs.done {rs:List Rm}{k0:Nat}{ks:List Nat}(B:Bfs rs k0 ks ks.length)(j:Nat):j∈ks↔Reach rs k0 j:=by
 refine⟨B.r1 j,fun h=>?_⟩
 exact Reach.closed (S:=fun y=>y∈ks) B.st (fun {m i lo hi} hm e=>by
  obtain⟨j,hj,ej⟩:=zro hm
  exact B.cl j m i lo hi hj (by rw[zqJ hj,ej]) e) h
end zM
namespace zM
open PySem ZP
def Rj:Nat->Nat->(Row->Bool)->List Bool
 | 0,_,g=>[g fun _=>false]
 | d+1,m,g=>Rj d (m+1) (fun r=>g (put r m false))++Rj d (m+1) (fun r=>g (put r m true))
theorem KC:∀(d m:Nat) (g:Row->Bool),(Rj d m g).length=2^d
 | 0,_,_=>rfl
 | d+1,m,g=>by
  show(Rj d (m+1) _++Rj d (m+1) _).length=_
  rw[zqQ,KC,KC,Nat.pow_succ];omega
theorem zgT (d m:Nat)(g:Row->Bool):(Rj (d+1) m g).take (2^d)=Rj d (m+1) (fun r=>g (put r m false)):=List.take_left' (KC _ _ _)
theorem zgU (d m:Nat)(g:Row->Bool):(Rj (d+1) m g).drop (2^d)=Rj d (m+1) (fun r=>g (put r m true)):=List.drop_left' (KC _ _ _)
def Dep (n m:Nat)(g:Row->Bool):Prop:=∀r r':Row,(∀i,m<=i->i<n->r i=r' i)->g r=g r'
theorem Ms {d m:Nat}{g h:Row->Bool}(e:∀r,g r=h r):Rj d m g=Rj d m h:=by rw[funext e]
section
variable {n:Nat}{rs:List Rm}(B:Bk n rs)
include B
theorem zbY {j m:Nat}(hj:j<rs.length)(h:m<=zX n rs j):Dep n m (yes rs j):=fun r r' e=>tY B j j (zqY _) hj fun i h1 h2=>e i (by omega) h2
end
end zM
namespace ZP
open PySem L2 zM
theorem zgV (x:List Bool):(Z0 x).length=x.length:=zqI _
end ZP
namespace zM
section
variable {n:Nat}{rs:List Rm}(B:Bk n rs)
include B
theorem ziv {j m d:Nat}(hj:j<rs.length)(h:m<zX n rs j):(Rj (d+1) m (yes rs j)).take (2^d)=Rj d (m+1) (yes rs j)/\(Rj (d+1) m (yes rs j)).drop (2^d)=Rj d (m+1) (yes rs j):=by
 have e:∀v,Rj d (m+1) (fun r=>yes rs j (put r m v))=Rj d (m+1) (yes rs j):=fun v=>Ms fun r=>zbY B hj (m:=m+1) h _ _ fun i h1 h2=>by
  unfold put
  rw[if_neg (by omega)]
 exact⟨by rw[zgT,e],by rw[zgU,e]⟩
theorem ziw {j i lo hi d:Nat}(e:rs[j]?=some (some (i,lo,hi)))(hj:j<rs.length):(Rj (d+1) i (yes rs j)).take (2^d)=Rj d (i+1) (yes rs lo)/\(Rj (d+1) i (yes rs j)).drop (2^d)=Rj d (i+1) (yes rs hi):=by
 rw[zgT,zgU]
 exact⟨Ms fun r=>(Zi B e hj r).1,Ms fun r=>(Zi B e hj r).2⟩
end
end zM
namespace L2
open PySem PySem.Spec PyProof.Rows
def itO (f0:Value)(fl:Bool)(d:Addr)(i n ep:Nat)(u0 u1:Value):Obj:={ cls:=.type "dict_itemiterator", dict:=none,data:=.fields #[f0,.bool fl,.ref d,.int i 0,.int n 0,.int ep 0,u0,u1],slots:=#[] }
section
variable {prog:Program}{w:World}{κ:Type}[DecidableEq κ]{knd:KeyKind prog w κ}{A:Around}{E:Value->Shared->Prop}{s:Shared}
theorem zgW {a:Addr}{Q:Option Obj->Shared->Prop}(h:Q (s.heap.get? a) s):wpAny (model prog w) A (loadIfAlive a) Q E s:=fun _ _ _=>h
theorem zfO {it dd a0:Addr}{i ep:Nat}{fl:Bool}{oA:Obj}{kvs:List (κ×Value)}{k:κ}{v u0 u1:Value}{Q:Option Value->Shared->Prop}
  (hit:s.heap.get? it=some (itO (rawInt a0) fl dd i kvs.length ep u0 u1))(hA:s.heap.get? a0=some oA)(hne:a0≠it)(hm:s.heap.DictAt knd dd kvs ep)(hx:kvs[i]?=some (k,v))
  (hQ:∀key h',knd.is k key=true->h'.get? it=some (itO (rawInt a0) true dd (i+1) kvs.length ep u0 u1)->h'.get? s.heap.objs.size=some { cls:=.type "tuple", data:=.seq #[key,v] }->h'.objs.size=s.heap.objs.size+1 ->
   (∀b o,b≠it->s.heap.get? b=some o->h'.get? b=some o)->Q (some (.ref s.heap.objs.size)) { s with heap:=h' }):wpAny (model prog w) A (pyNext (.ref it)) Q E s:=by
 obtain⟨hp,gg,dr,tk,os⟩:=s
 obtain⟨od,es,hod,hcd,hdd,hk,hpr,hn⟩:=hm
 have hT:Shared.TypeIs ⟨hp,gg,dr,tk,os⟩ (.ref it) "dict_itemiterator" := ⟨_,hit,rfl⟩
 unfold pyNext;refine wpAny_bind (wpAny_attempt (wpAny_callSpecial?_slot (name:=Str.ofString "__next__") hT F.slot_dict_itemiterator_next (wpAny_call_entry F.slot_dict_itemiterator_next hT F.entry_dict_itemiterator_next ?_ (F.args_dict_itemiterator_next_1 _))))
 refine wpAny_bind (wpAny_pure (wpAny_bind (wpAny_bind ?_)))
 first | refine wpAny_bind (wpAny_typeNameOfWhole_itemiter hT (wpAny_pure (wpAny_bind (wpAny_fieldsOf hit rfl ?_)))) | refine wpAny_bind (wpAny_typeNameOf_itemiter hT (wpAny_pure (wpAny_bind (wpAny_fieldsOf hit rfl ?_))))
 have own:Builtin.Dict_items.ownsTuple "dict_itemiterator"=true:=by decide
 simp only[own,if_true];show wpAny _ _ (if (Value.ref dd==Value.none)=true then _ else _) _ _ _
 rw[if_neg (show ¬((Value.ref dd==Value.none)=true) from zqM)]
 refine wpAny_bind (wpAny_pure (wpAny_bind (wpAny_dictEntries hod hdd ?_)))
 have sz:es.size=kvs.length:=by rw[<-hpr.length];simp
 rw[if_neg (by rw[sz];simp)];refine wpAny_bind (wpAny_pure (wpAny_bind (wpAny_dictEpoch hod hdd ?_)))
 rw[if_neg (by simp)];refine wpAny_pure ?_
 have lt:i<es.size:=by rw[sz];exact(zqL.mp hx).1
 obtain⟨hkey,hval⟩:=hpr.get? (e:=es[i]) (by simp[lt]) hx
 simp only[show ¬((i:Int)<0) from by omega,if_false,zrk,Array.getElem?_eq_getElem lt]
 refine wpAny_bind ?_
 first | refine wpAny_bind (wpAny_typeNameOfWhole_itemiter hT (wpAny_pure (wpAny_bind (wpAny_isOneOf_itemiter hT ?_)))) | refine wpAny_bind (wpAny_typeNameOf_itemiter hT (wpAny_pure (wpAny_bind (wpAny_isOneOf_itemiter hT ?_))))
 show wpAny _ _ (setField (.ref it) 3 (rawInt ((i:Int)+1))>>=_) _ _ ⟨hp,gg,dr,tk,os⟩
 refine wpAny_bind (wpAny_setField_rec hit (by simp) fun h1 he1 hs1=>?_)
 replace hs1:Heap.SameBut it hp h1:=hs1
 replace he1:h1.get? it=some (itO (rawInt a0) fl dd (i+1) kvs.length ep u0 u1):=by
  have e:((i+1:Nat):Int)=(i:Int)+1:=by omega
  unfold itO;rw[e];simpa [rawInt,itO] using he1
 have hT1:Shared.TypeIs ⟨h1,gg,dr,tk,os⟩ (.ref it) "dict_itemiterator" := ⟨_,he1,rfl⟩
 refine wpAny_bind (wpAny_holding (wpAny_bind (wpAny_isOneOf_itemiter hT1 (wpAny_bind (wpAny_isOneOf_itemiter hT1 ?_)))))
 show wpAny _ _ (Builtin.Dict_items.pairFromOwner (.ref it) 6 es[i].key es[i].val) _ _ ⟨h1,gg,dr,tk,os⟩
 unfold Builtin.Dict_items.pairFromOwner;refine wpAny_bind (wpAny_newTuple ?_)
 have he2:(h1.push { cls:=.type "tuple", data:=.seq #[es[i].key,es[i].val] }).get? it=some (itO (rawInt a0) fl dd (i+1) kvs.length ep u0 u1):=zqO _ he1
 have hz1:h1.objs.size=hp.objs.size:=hs1.1
 have hil:it<hp.objs.size:=zqP hit
 have ht2:(h1.push { cls:=.type "tuple", data:=.seq #[es[i].key,es[i].val] }).get? hp.objs.size=some { cls:=.type "tuple", data:=.seq #[es[i].key,es[i].val] }:=by rw[<-hz1];exact zq2 _ rfl
 have hz2:(h1.push { cls:=.type "tuple", data:=.seq #[es[i].key,es[i].val] }).objs.size=hp.objs.size+1:=by rw[Heap.size_push,hz1]
 have hk2:∀b o,b≠it->hp.get? b=some o->(h1.push { cls:=.type "tuple", data:=.seq #[es[i].key,es[i].val] }).get? b=some o:=fun b o hb e=>zqO _ (hs1.extBut b o hb e)
 show wpAny _ _ (Builtin.Dict_items.ownedTupleIsFree (.ref it)>>=_) _ _ ⟨h1.push { cls:=.type "tuple", data:=.seq #[es[i].key,es[i].val] },gg,dr,tk,os⟩
 rw[hz1]
 generalize h1.push { cls:=.type "tuple", data:=.seq #[es[i].key,es[i].val] }=h2 at he2 ht2 hz2 hk2
 clear he1 hs1 hT1 hz1 h1
 refine wpAny_bind ?_
 unfold Builtin.Dict_items.ownedTupleIsFree
 refine wpAny_bind (wpAny_field he2 rfl (x:=rawInt a0) rfl ?_)
 show wpAny _ _ (loadIfAlive ((a0:Nat):Int).toNat>>=_) _ _ _
 rw[zrk]
 refine wpAny_bind (zgW ?_)
 show wpAny _ _ (if (h2.get? a0).isNone=true then _ else _) _ _ _
 rw[hk2 a0 oA hne hA,if_neg (by simp)]
 refine wpAny_bind (wpAny_field he2 rfl (x:=.bool fl) rfl ?_)
 have fin:∀h3:Heap,h3.get? it=some (itO (rawInt a0) true dd (i+1) kvs.length ep u0 u1)->h3.get? hp.objs.size=some { cls:=.type "tuple", data:=.seq #[es[i].key,es[i].val] }->h3.objs.size=hp.objs.size+1->(∀b o,b≠it->hp.get? b=some o->h3.get? b=some o)->Q (some (.ref hp.objs.size)) ⟨h3,gg,dr,tk,os⟩:=fun h3 e1 e2 e3 e4=>hQ es[i].key h3 hkey e1 (by rw[<-hval];exact e2) e3 e4
 cases fl with
 | true=>exact wpAny_pure (wpAny_pure (wpAny_pure ⟨_,rfl,wpAny_pure (fin h2 he2 ht2 hz2 hk2)⟩))
 | false =>
  refine wpAny_bind (wpAny_setField_rec he2 (by simp) fun h3 he3 hs3=>?_)
  replace hs3:Heap.SameBut it h2 h3:=hs3
  exact wpAny_pure (wpAny_pure (wpAny_pure ⟨_,rfl,wpAny_pure (fin h3 he3 (hs3.extBut _ _ (Nat.ne_of_gt hil) ht2) (hs3.1.trans hz2) fun b o hb e=>hs3.extBut b o hb (hk2 b o hb e))⟩))
theorem zbf {it dd:Addr}{f0:Value}{fl:Bool}{i ep:Nat}{kvs:List (κ×Value)}{u0 u1:Value}{Q:Option Value->Shared->Prop}(hh:A.handled=none)(hit:s.heap.get? it=some (itO f0 fl dd i kvs.length ep u0 u1))
  (hm:s.heap.DictAt knd dd kvs ep)(hx:kvs[i]?=none)(hQ:∀h',Heap.ExtBut it s.heap h'->Q none { s with heap:=h' }):wpAny (model prog w) A (pyNext (.ref it)) Q E s:=by
 obtain⟨od,es,hod,hcd,hdd,hk,hpr,hn⟩:=hm
 have hT:s.TypeIs (.ref it) "dict_itemiterator" := ⟨_,hit,rfl⟩
 unfold pyNext;refine wpAny_bind (wpAny_attempt (wpAny_callSpecial?_slot (name:=Str.ofString "__next__") hT F.slot_dict_itemiterator_next (wpAny_call_entry F.slot_dict_itemiterator_next hT F.entry_dict_itemiterator_next ?_ (F.args_dict_itemiterator_next_1 _))))
 refine wpAny_bind (wpAny_pure (wpAny_bind (wpAny_bind ?_)))
 first | refine wpAny_bind (wpAny_typeNameOfWhole_itemiter hT (wpAny_pure (wpAny_bind (wpAny_fieldsOf hit rfl ?_)))) | refine wpAny_bind (wpAny_typeNameOf_itemiter hT (wpAny_pure (wpAny_bind (wpAny_fieldsOf hit rfl ?_))))
 have own:Builtin.Dict_items.ownsTuple "dict_itemiterator"=true:=by decide
 simp only[own,if_true];show wpAny _ _ (if (Value.ref dd==Value.none)=true then _ else _) _ _ _
 rw[if_neg (show ¬((Value.ref dd==Value.none)=true) from zqM)]
 refine wpAny_bind (wpAny_pure (wpAny_bind (wpAny_dictEntries hod hdd ?_)))
 have sz:es.size=kvs.length:=by rw[<-hpr.length];simp
 rw[if_neg (by rw[sz];simp)];refine wpAny_bind (wpAny_pure (wpAny_bind (wpAny_dictEpoch hod hdd ?_)))
 rw[if_neg (by simp)];refine wpAny_pure ?_
 have ge:es.size<=i:=by rw[sz];simpa using hx
 simp only[show ¬((i:Int)<0) from by omega,if_false,zrk,Array.getElem?_eq_none ge]
 refine wpAny_bind ?_
 first | refine wpAny_bind (wpAny_typeNameOfWhole_itemiter hT (wpAny_pure ?_)) | refine wpAny_bind (wpAny_typeNameOf_itemiter hT (wpAny_pure ?_))
 show wpAny _ _ (setField (.ref it) 2 .none>>=_) _ _ _
 refine wpAny_bind (wpAny_setField hit rfl (by simp) ?_);show wpAny _ _ (newExc (.type "StopIteration") []>>=_) _ _ _
 refine wpAny_bind ?_
 simp only[newExc,newTuple];refine wpAny_bind (wpAny_newObj_type ?_ (by size_fits))
 refine wpAny_bind (m:=firstArgMember _ _) (wpAny_of_eq (a:=Value.none) (by first | rfl | (simp only[firstArgMember];rfl)) (wpAny_newObj_type ?_ (by size_fits)))
 simp only[raiseNew];refine wpAny_bind (wpAny_handled ?_)
 rw[show A.in1.handled=none from hh];refine wpAny_bind (wpAny_pure (wpAny_throw ?_))
 refine wpAny_bind (wpAny_isInstance (T := "StopIteration") (b:=true) ⟨_,zq2 _ rfl,rfl⟩ isSubtype_stop ?_)
 exact wpAny_pure (hQ _ (((Heap.SameBut.update ..).extBut.push _).push _))
end
structure Itm {prog:Program}{w:World}{κ:Type}[DecidableEq κ](knd:KeyKind prog w κ)(kvs:List (κ×Value))(d it base ep i:Nat)(h:Heap):Prop where
 dict:h.DictAt knd d kvs ep
 size:h.objs.size=base+i
 tups:∀j,j<i->∃k v key,kvs[j]?=some (k,v)/\knd.is k key=true/\h.get? (base+j)=some { cls:=.type "tuple", data:=.seq #[key,v] }
 here:(i=0/\∃u0 u1,h.get? it=some (itO .none false d 0 kvs.length ep u0 u1))\/∃fl u0 u1,0<i/\h.get? it=some (itO (rawInt base) fl d i kvs.length ep u0 u1)
def zlu (acc:Array Value)(base i:Nat):Prop:=acc=((List.range i).map fun j=>Value.ref (base+j)).toArray
section
variable {prog:Program}{w:World}{κ:Type}[DecidableEq κ]{knd:KeyKind prog w κ}{A:Around}{E:Value->Shared->Prop}{s:Shared}
theorem zgX {d it base ep i:Nat}{kvs:List (κ×Value)}{Q:Option Value->Shared->Prop}(I:Itm knd kvs d it base ep i s.heap)(hi:i<kvs.length)(hb:it<base)(hd:d≠it)
  (hQ:∀h',Itm knd kvs d it base ep (i+1) h'->(∀b o,b≠it->s.heap.get? b=some o->h'.get? b=some o)->Q (some (.ref (base+i))) { s with heap:=h' }):wpAny (model prog w) A (pyNext (.ref it)) Q E s:=by
 obtain⟨⟨k,v⟩,hx⟩:∃x,kvs[i]?=some x:=⟨_,zqJ hi⟩
 have go:∀key (h':Heap),knd.is k key=true->(∃fl u0 u1,h'.get? it=some (itO (rawInt base) fl d (i+1) kvs.length ep u0 u1))->h'.get? s.heap.objs.size=some { cls:=.type "tuple", data:=.seq #[key,v] }->h'.objs.size=s.heap.objs.size+1->(∀b o,b≠it->s.heap.get? b=some o->h'.get? b=some o)->Q (some (.ref s.heap.objs.size)) { s with heap:=h' }:=fun key h' hk ⟨fl,u0,u1,e1⟩ e2 e3 e4=>by
  rw[I.size]
  refine hQ h' ⟨?_,by rw[e3,I.size,Nat.add_assoc],fun j hj=>?_,.inr ⟨fl,u0,u1,Nat.succ_pos _,e1⟩⟩ e4
  ·obtain⟨o,es,a1,a2⟩:=I.dict
   exact⟨o,es,e4 d o hd a1,a2⟩
  ·rcases Nat.lt_or_ge j i with z | z
   ·obtain⟨k2,v2,key2,b1,b2,b3⟩:=I.tups j z
    exact⟨k2,v2,key2,b1,b2,e4 (base+j) _ (show base+j≠it by omega) b3⟩
   ·obtain rfl:j=i:=by omega
    exact⟨k,v,key,hx,hk,by rw[<-I.size];exact e2⟩
 rcases I.here with ⟨rfl,u0,u1,e⟩ | ⟨fl,u0,u1,ip,e⟩
 ·refine wpAny_pyNext_items_item (ok:=u0) (ov:=u1) e I.dict hx fun key h' a1 a2 a3 a4 a5=>go key h' a1 ⟨false,key,v,?_⟩ a3 a4 a5
  have:s.heap.objs.size=base:=I.size
  rw[this] at a2
  exact a2
 ·obtain⟨_,_,_,_,_,hA⟩:=I.tups 0 ip
  exact zfO (a0:=base) e hA (Nat.ne_of_gt hb) I.dict hx fun key h' a1 a2 a3 a4 a5=>go key h' a1 ⟨true,u0,u1,a2⟩ a3 a4 a5
theorem zgY {d it base ep:Nat}{kvs:List (κ×Value)}{Q:Option Value->Shared->Prop}(hh:A.handled=none)(I:Itm knd kvs d it base ep kvs.length s.heap)(hQ:∀h',Heap.ExtBut it s.heap h'->Q none { s with heap:=h' }):wpAny (model prog w) A (pyNext (.ref it)) Q E s:=by
 have hx:kvs[kvs.length]?=none:=zrh (zqY _)
 rcases I.here with ⟨z,u0,u1,e⟩ | ⟨fl,u0,u1,ip,e⟩
 ·refine zbf (u0:=u0) (u1:=u1) (f0:=.none) (fl:=false) (i:=kvs.length) hh ?_ I.dict hx hQ
  rw[z];rw[z] at e;exact e
 ·exact zbf hh e I.dict hx hQ
theorem zd9 {R:Result->Shared->Prop}{S d it base ep:Nat}{kvs:List (κ×Value)}{res:Value}(hh:A.handled=none)(hn:kvs.length<=sizeLine)(hS:S<base)(hit:it<base)(hSi:S≠it)(hSd:S≠d)(hd:d≠it):∀(m i:Nat) (s:Shared) (acc:Array Value) (c:Nat),kvs.length-i=m->i<=kvs.length->Itm knd kvs d it base ep i s.heap ->
  s.heap.get? S=some { cls:=.type "list", dict:=none,data:=.seq acc c,slots:=#[] }->zlu acc base i ->
  (∀h' c',(∀b o,b≠S->b≠it->s.heap.get? b=some o->h'.get? b=some o)->(∀j,j<kvs.length->∃k v key,kvs[j]?=some (k,v)/\knd.is k key=true/\h'.get? (base+j)=some { cls:=.type "tuple", data:=.seq #[key,v] }) ->
   h'.get? S=some { cls:=.type "list", dict:=none,data:=.seq ((List.range kvs.length).map fun j=>Value.ref (base+j)).toArray c',slots:=#[] }->R (.ok (.ret res)) { s with heap:=h' }) ->
  codeAny (model prog w) A (.builtin "list.extend.loop" ⟨[.ref S,.ref it,res],[]⟩) R s:=by
 intro m
 induction m with
 | zero =>
  intro i s acc c hk hi I hL hacc hR
  obtain rfl:i=kvs.length:=by omega
  refine codeAny_builtin F.entry_extend_loop ?_
  rw[Around.under_plainId F.plain_extend_loop _];show wpAny _ A.in1 (pyNext (.ref it)>>=_) _ _ s
  refine wpAny_bind (zgY hh I fun h' e=>?_)
  refine wpAny_pure (hR h' c (fun b o _ hb z=>e b o hb z) (fun j hj=>?_) ?_)
  ·obtain⟨k,v,key,b1,b2,b3⟩:=I.tups j hj
   exact⟨k,v,key,b1,b2,e (base+j) _ (show base+j≠it by omega) b3⟩
  ·have:=e S _ hSi hL
   rw[hacc] at this
   exact this
 | succ m ih =>
  intro i s acc c hk hi I hL hacc hR
  have hlt:i<kvs.length:=by omega
  refine codeAny_builtin F.entry_extend_loop ?_
  rw[Around.under_plainId F.plain_extend_loop _];show wpAny _ A.in1 (pyNext (.ref it)>>=_) _ _ s
  refine wpAny_bind (zgX I hlt hit hd fun h' I' e=>?_)
  have hL':=e S _ hSi hL
  have ac:acc.size=i:=by rw[hacc];simp
  show wpAny _ A.in1 (updateSeq S (·.push (.ref (base+i)))>>=_) _ _ _
  refine wpAny_bind ?_
  have oth:∀b o,b≠S->h'.get? b=some o->(h'.update S (Obj.mapSeq (·.push (.ref (base+i))))).get? b=some o:=fun b o hb z=>(Heap.get?_update_other _ _ (Ne.symm hb)).trans z
  refine wpAny_updateSeq hL' rfl (wpAny_pure ⟨plainId_quiet F.plain_extend_loop _,ih (i+1) _ (acc.push (.ref (base+i))) _ (by omega) hlt ?_ (Heap.get?_update_self _ hL' rfl) ?_ fun h2 c2 e2 t2 l2=>?_⟩) (by omega) (by show(acc.push _).size<=sizeLine+1;rw[Array.size_push];omega)
  ·refine⟨?_,by rw[Heap.size_update];exact I'.size,fun j hj=>?_,?_⟩
   ·obtain⟨o,es,a1,a2⟩:=I'.dict
    exact⟨o,es,oth d o (Ne.symm hSd) a1,a2⟩
   ·obtain⟨k,v,key,b1,b2,b3⟩:=I'.tups j hj
    exact⟨k,v,key,b1,b2,oth (base+j) _ (show base+j≠S by omega) b3⟩
   ·rcases I'.here with ⟨z,u0,u1,e⟩ | ⟨fl,u0,u1,ip,e⟩
    ·exact .inl ⟨z,u0,u1,oth it _ (Ne.symm hSi) e⟩
    ·exact .inr ⟨fl,u0,u1,ip,oth it _ (Ne.symm hSi) e⟩
  ·show acc.push _=_
   rw[hacc,List.range_succ,zqW]
   simp
  ·exact hR h2 c2 (fun b o hb hb2 z=>e2 b o hb hb2 (oth b o hb (e b o hb2 z))) t2 l2
theorem zea {r:Addr}{Q:Bool->Shared->Prop}(hT:s.TypeIs (.ref r) "dict_items")(h:Q false s):wpAny (model prog w) A (Builtin.List.listLengthHint (.ref r)) Q E s:=by
 unfold Builtin.List.listLengthHint;refine wpAny_bind (wpAny_specialOf hT PySem.F.slot_dict_items_len.lookup ?_)
 generalize hid:("dict_items.__len__" : String)=id0
 wp_delta
 rw[show splitId id0=some ("dict_items", "__len__") from by subst hid;decide +kernel]
 subst hid
 refine wpAny_bind (wpAny_isInstance (T := "dict_items") (b:=true) hT (by rw[isSubtype_type];kernel_rfl) (wpAny_ite_split (fun hab=>absurd hab (by decide)) (fun _=>wpAny_ite_split (fun _=>?_) (fun hab=>absurd (by decide +kernel) hab))))
 exact wpAny_bind (wpAny_typeOf hT (wpAny_pure h))
theorem zbZ {R:Result->Shared->Prop}{S r d ep c0:Nat}{kvs:List (κ×Value)}{res:Value}(hh:A.handled=none)(hn:kvs.length<=sizeLine)(hv:s.heap.IsItemsView r d)(hm:s.heap.DictAt knd d kvs ep)(hSr:S≠r)(hSd:S≠d)
  (hS:s.heap.get? S=some { cls:=.type "list", data:=.seq #[] c0 })
  (hR:∀h' c' base,s.heap.objs.size<base->(∀b o,b≠S->s.heap.get? b=some o->h'.get? b=some o)->(∀j,j<kvs.length->∃k v key,kvs[j]?=some (k,v)/\knd.is k key=true/\h'.get? (base+j)=some { cls:=.type "tuple", data:=.seq #[key,v] }) ->
   h'.get? S=some { cls:=.type "list", dict:=none,data:=.seq ((List.range kvs.length).map fun j=>Value.ref (base+j)).toArray c',slots:=#[] }->R (.ok (.ret res)) { s with heap:=h' }) :
  wpAny (model prog w) A.in1 (Builtin.List.listExtendWith (.ref S) (.ref r) res)
   (fun fin s'=>match fin with | .done f=>R (.ok f) s' | .again c'=>c'.quiet=true/\codeAny (model prog w) A c' R s') (fun e s'=>R (.error e) s') s:=by
 have zS:S<s.heap.objs.size:=zqP hS
 obtain⟨od,es,ho,rest⟩:=id hm
 have zd:d<s.heap.objs.size:=zqP ho
 unfold Builtin.List.listExtendWith;refine wpAny_bind (wpAny_typeOf (T := "dict_items") hv.typeIs ?_)
 have h1:Builtin.List.listSameRef (.ref S) (.ref r)=false:=by simp[Builtin.List.listSameRef,hSr]
 simp only[h1,show(Value.type "dict_items" == Value.type "list")=false from rfl,show(Value.type "dict_items" == Value.type "tuple")=false from rfl,Bool.or_false,Bool.false_eq_true,if_false]
 refine wpAny_bind (wpAny_pyIter_items hv hm ?_)
 have itx:(s.heap.push (itO .none false d 0 kvs.length ep .none .none)).get? s.heap.objs.size=some (itO .none false d 0 kvs.length ep .none .none):=zq2 _ rfl
 have hL:=zqO (itO .none false d 0 kvs.length ep .none .none) hS
 have keep:∀b o,s.heap.get? b=some o->(s.heap.push (itO .none false d 0 kvs.length ep .none .none)).get? b=some o:=fun b o e=>zqO _ e
 have sz:(s.heap.push (itO .none false d 0 kvs.length ep .none .none)).objs.size=s.heap.objs.size+1:=Heap.size_push ..
 have hv1:(s.heap.push (itO .none false d 0 kvs.length ep .none .none)).IsItemsView r d:=by
  obtain⟨o,e1,e2⟩:=hv
  exact⟨o,keep _ _ e1,e2⟩
 show wpAny _ _ _ _ _ { s with heap:=s.heap.push (itO .none false d 0 kvs.length ep .none .none) }
 have hm1:(s.heap.push (itO .none false d 0 kvs.length ep .none .none)).DictAt knd d kvs ep:=⟨od,es,keep _ _ ho,rest⟩
 generalize s.heap.push (itO .none false d 0 kvs.length ep .none .none)=h2 at itx hL keep sz hv1 hm1
 have key:∀(h:Heap) (c1:Nat),h.objs.size=s.heap.objs.size+1->(∀b o,b≠S->h2.get? b=some o->h.get? b=some o)->h.get? S=some { cls:=.type "list", data:=.seq #[] c1 }->codeAny (model prog w) A (.builtin "list.extend.loop" ⟨[.ref S,.ref s.heap.objs.size,res],[]⟩) R { s with heap:=h }:=fun h c1 hz hk hS1=>by
  refine zd9 (knd:=knd) (d:=d) (base:=s.heap.objs.size+1) (ep:=ep) hh hn (Nat.lt_succ_of_lt zS) (Nat.lt_succ_self _) (zqX zS) hSd (zqX zd) kvs.length 0 _ #[] c1 rfl (zq4 _) ⟨?_,hz,fun j hj=>absurd hj (Nat.not_lt_zero _),.inl ⟨rfl,.none,.none,hk _ _ (Nat.ne_of_gt zS) itx⟩⟩ hS1 rfl fun h' c' e t l=>?_
  ·obtain⟨o,es',a1,a2⟩:=hm1
   exact⟨o,es',hk d o (Ne.symm hSd) a1,a2⟩
  ·exact hR h' c' (s.heap.objs.size+1) (Nat.lt_succ_self _) (fun b o hb z=>e b o hb (zqX (zqP z)) (hk b o hb (keep b o z))) t l
 refine wpAny_bind (wpAny_holding (zea (s:={ s with heap:=h2 }) hv1.typeIs (wpAny_ite_split (fun _=>?_) (fun _=>wpAny_pure ⟨plainId_quiet PySem.F.plain_extend_loop _,key h2 c0 sz (fun b o _ e=>e) hL⟩))))
 refine wpAny_bind (wpAny_rule (wpAny_bind ?_))
 show wpAny _ _ (updateSeq S (·.push .none)>>=fun _=>updateSeq S (·.pop)) _ _ _
 refine wpAny_bind (wpAny_updateSeq hL rfl ?_)
 have hS2:=Heap.get?_update_self (Obj.mapSeq (·.push Value.none)) hL rfl
 refine wpAny_updateSeq (hz:=by seq_fits) hS2 rfl ?_
 have hS3:=Heap.get?_update_self (Obj.mapSeq (·.pop)) hS2 rfl
 refine wpAny_pure ⟨plainId_quiet PySem.F.plain_extend_loop _,key _ _ ?_ (fun b o hb e=>?_) hS3⟩
 ·rw[Heap.size_update,Heap.size_update];exact sz
 ·exact(Heap.get?_update_other _ _ (Ne.symm hb)).trans ((Heap.get?_update_other _ _ (Ne.symm hb)).trans e)
theorem zeb {Q:Value->Shared->Prop}{r d ep:Nat}{kvs:List (κ×Value)}(hh:A.handled=none)(hn:kvs.length<=sizeLine)(hv:s.heap.IsItemsView r d)(hm:s.heap.DictAt knd d kvs ep)
  (hQ:∀h' c' base,s.heap.objs.size<base->(∀b o,s.heap.get? b=some o->h'.get? b=some o)->(∀j,j<kvs.length->∃k v key,kvs[j]?=some (k,v)/\knd.is k key=true/\h'.get? (base+j)=some { cls:=.type "tuple", data:=.seq #[key,v] }) ->
   h'.get? s.heap.objs.size=some { cls:=.type "list", dict:=none,data:=.seq ((List.range kvs.length).map fun j=>Value.ref (base+j)).toArray c',slots:=#[] }->Q (.ref s.heap.objs.size) { s with heap:=h' }) :
  wpAny (model prog w) A (call (.type "list") [.ref r]) Q E s:=by
 refine callType_codes (Q₁:=fun obj s₁=>obj=.ref s.heap.objs.size/\s₁={ s with heap:=s.heap.push { cls:=.type "list", data:=.seq #[] } }) PySem.F.called_list (PySem.F.typeCall_list_1 _) PySem.F.entry_list_init (code_list_new _ ⟨rfl,rfl⟩) fun obj s₁ h₁=>?_
 obtain⟨rfl,rfl⟩:=h₁
 have hL:(s.heap.push { cls:=.type "list", data:=.seq #[] }).get? s.heap.objs.size=some { cls:=.type "list", data:=.seq #[] }:=zq2 _ rfl
 have keep:∀b o,s.heap.get? b=some o->(s.heap.push { cls:=.type "list", data:=.seq #[] }).get? b=some o:=fun b o e=>zqO _ e
 obtain⟨ov,hov,rv⟩:=hv
 obtain⟨od,es,hod,rd⟩:=hm
 have zr:r<s.heap.objs.size:=zqP hov
 have zd:d<s.heap.objs.size:=zqP hod
 refine⟨⟨_,hL,rfl⟩,PySem.F.args_list_init_2 _ _,?_⟩
 show wpAny _ _ (do let old <-Builtin.List.listItems (.ref s.heap.objs.size);Builtin.List.listUpdate (.ref s.heap.objs.size) (fun _=>#[]);letGo old.toList.reverse;Builtin.List.listExtendWith (.ref s.heap.objs.size) (.ref r) .none) _ _ _
 refine wpAny_bind ?_
 unfold Builtin.List.listItems;refine wpAny_bind (wpAny_seqItems hL rfl (wpAny_pure ?_))
 show wpAny _ _ (updateSeq s.heap.objs.size (fun _=>#[])>>=fun _=>letGo (#[]:Array Value).toList.reverse>>=fun _=>Builtin.List.listExtendWith (.ref s.heap.objs.size) (.ref r) .none) _ _ _
 refine wpAny_bind (wpAny_updateSeq hL rfl ?_)
 have hS2:=Heap.get?_update_self (Obj.mapSeq (fun _=>(#[]:Array Value))) hL rfl
 have oth:∀b o,s.heap.get? b=some o->((s.heap.push { cls:=.type "list", data:=.seq #[] }).update s.heap.objs.size (Obj.mapSeq (fun _=>(#[]:Array Value)))).get? b=some o:=fun b o e=>(Heap.get?_update_other _ _ (Nat.ne_of_gt (zqP e))).trans (keep b o e)
 refine wpAny_bind (wpAny_letGo ?_)
 refine zbZ (A:=A.in1) (knd:=knd) (d:=d) (ep:=ep) hh hn ⟨ov,oth _ _ hov,rv⟩ ⟨od,es,oth _ _ hod,rd⟩ (Nat.ne_of_gt zr) (Nat.ne_of_gt zd) hS2 (fun h' c' base hb e t l=>?_)
 exact⟨rfl,hQ h' c' base (by rw[Heap.size_update,Heap.size_push] at hb;omega) (fun b o z=>e b o (zqX (zqP z)) (oth b o z)) t l⟩
end
theorem zix {P:Program}{w:World}{k:Key}{u:Value}(h:(yc P w).is k u=true):RelV (kV k) u:=by
 rw[zdw] at h
 rcases yS h with ⟨i,t,rfl,rfl⟩ | ⟨x,t,rfl,rfl⟩
 ·exact⟨t,rfl⟩
 ·exact⟨t,rfl⟩
theorem Mt {α β:Type}{R:α->β->Prop}:∀{xs:List α} {ys:List β},xs.length=ys.length->(∀(j:Nat) x y,xs[j]?=some x->ys[j]?=some y->R x y)->Paired R xs ys
 | [],[],_,_=>.nil
 | [],_::_,e,_=>by cases e
 | _::_,[],e,_=>by cases e
 | x::xs,y::ys,e,h=>.cons (h 0 x y rfl rfl) (Mt (Nat.succ.inj e) fun j a b h1 h2=>h (j+1) a b h1 h2)
section
variable {X:Cx}
theorem Inv.many {pins:List (Addr×Obj)}{σ:St}{H H':Hp}{s:Shared}{h':Heap}(I:Inv X pins σ H s)(k:∀b u,s.heap.get? b=some u->h'.get? b=some u)(old:∀b,b<s.heap.objs.size->H' b=H b)(new:∀a o,s.heap.objs.size<=a->H' a=some o->xO X.prog X.w H' h' a o) :
  Inv X pins σ H' { s with heap:=h' }:=by
 have sm:∀a o,H a=some o->H' a=some o:=fun a o e=>by rw[old a (I.hok.lt e)];exact e
 refine I.un (t':=s.toks) ⟨fun b u q _ _ _=>k b u q,fun b u q _ _ _=>⟨u.slots,k b u q⟩,fun b u q n _=>by rw[old b (zqP q)];exact n,fun b u q _=>⟨u,k b u q⟩,fun b xs q=>sm _ _ q,fun b u xs q=>sm _ _ q,fun b ps q=>⟨#[],by rw[sm _ _ q];simp⟩⟩ fun b u e=>?_
 rcases Nat.lt_or_ge b s.heap.objs.size with z | z
 ·rw[old b z] at e
  exact(I.hok b u e).stay (fun c v _ q=>k c v q) (fun c q=>sm _ _ q) (fun c xs q=>sm _ _ q) fun c ob v q=>sm _ _ q
 ·exact new b u z e
def tLI (to:TE):TE:=fun σ H Q=>to σ H fun x H1=>∃(d:Addr) (kvs:List (Key×V)),x=.ref d/\H1 d=some (.dK kvs)/\∀(l:Addr) (ts:List Addr) (H2:Hp),Same H1 H2->H1 l=none->Paired (fun t (kv:Key×V)=>H1 t=none/\H2 t=some (.tup [kV kv.1,kv.2])) ts kvs->H2 l=some (.lst (ts.map V.ref))->Q (.ref l) H2
theorem zb0 {o:Expr}{to:TE}{p apos cpos pos:Pos}(hc:X.calm=true)(hg:Gl X "list")(hm:X.mg "list"=none)(ho:PE X o to)
  (hbase:attributeBase o "items" X.env (eval o X.env)=eval o X.env:=by rfl)(hline:(apos.endLine==cpos.line)=true:=by rfl)
  (hs2:starEach [.Call (.Attribute o "items" apos) [] [] cpos] X.env=[(false,eval (.Call (.Attribute o "items" apos) [] [] cpos) X.env)]:=by rfl) :
  PE X (.Call (.Name "list" p) [.Call (.Attribute o "items" apos) [] [] cpos] [] pos) (tLI to):=by
 intro pins s σ H Q I h
 refine wpAny_Call_Name_kw (RV I hg hm VJ ?_ (by decide) (by decide))
 refine PyProof.Rows.callWith_type1 ?_ hs2 rfl
 rw[hs2]
 show wpAny _ _ (spliced ((false,eval (.Call (.Attribute o "items" apos) [] [] cpos) X.env)::[])) _ _ s
 refine Calls.spliced_cons ?_
 refine wpAny_Call_method0_late hbase hline (xT (ho pins s σ H _ I h) fun v s1 ⟨x,H1,I1,r1,q1⟩=>?_)
 obtain⟨d,kvs,rfl,hd,q⟩:=q1
 obtain⟨h1,h2⟩:=zdQ (T := "dict") I1 r1 (.inr (.inr (.inl ⟨rfl,.inl ⟨kvs,hd⟩⟩)))
 cases r1
 obtain⟨hz,lo,vs,rv,hD⟩:=(show kvs.length<=sizeLine/\(d==sysModules)=false/\∃vs,KV kvs vs/\s1.heap.DictOf (yc X.prog X.w) d vs from I1.hok d _ hd)
 refine⟨"dict", "dict.items", PySem.F.plainAttrs_dict,PySem.F.slot_dict_items,PySem.F.type_dict_items,h1,h2,Calls.callWith_builtin rfl (PySem.evalArgs_none ?_)⟩
 refine call_meetsIn PySem.F.slot_dict_items hD.typeIs PySem.F.entry_dict_items (PySem.F.args_dict_items_1 _) (meets_dict_items (yc X.prog X.w) d lo) ⟨⟨vs,hD⟩,Calls.spliced_nil ?_⟩
 have I2:=I1.kept (t':=s1.toks) (h':=s1.heap.push { cls:=.type "dict_items", data:=.fields #[.ref d] }) fun b o e=>zqO _ e
 obtain⟨hz2,lo2,vs2,rv2,hD2⟩:=(show kvs.length<=sizeLine/\(d==sysModules)=false/\∃vs,KV kvs vs/\(s1.heap.push { cls:=.type "dict_items", data:=.fields #[.ref d] }).DictOf (yc X.prog X.w) d vs from I2.hok d _ hd)
 obtain⟨ep2,zj7⟩:=hD2.dictAt
 have hl2:kvs.length=vs2.length:=Paired.length rv2
 have hv2:(s1.heap.push { cls:=.type "dict_items", data:=.fields #[.ref d] }).IsItemsView s1.heap.objs.size d:=⟨_,zq2 _ rfl,rfl,rfl⟩
 show wpAny _ _ _ _ _ { s1 with heap:=s1.heap.push { cls:=.type "dict_items", data:=.fields #[.ref d] } }
 have sz2:s1.heap.objs.size<(s1.heap.push { cls:=.type "dict_items", data:=.fields #[.ref d] }).objs.size:=by rw[Heap.size_push];exact Nat.lt_succ_self _
 have hI2:Inv X pins σ H1 { s1 with heap:=s1.heap.push { cls:=.type "dict_items", data:=.fields #[.ref d] } }:=I2
 generalize s1.heap.push { cls:=.type "dict_items", data:=.fields #[.ref d] }=hp2 at hI2 zj7 hv2 hD2 sz2
 refine zeb (s:={ s1 with heap:=hp2 }) (knd:=yc X.prog X.w) (I1.ok.hd hc) (by omega) hv2 zj7 fun h' c' base hb kp tu hL=>?_
 have hb':hp2.objs.size<base:=hb
 let H2:Hp:=fun a=>if a=hp2.objs.size then some (.lst (((List.range kvs.length).map (base+·)).map V.ref)) else if base<=a then (match kvs[a-base]? with | some kv=>some (.tup [kV kv.1,kv.2]) | none=>H1 a) else H1 a
 have hl:H2 hp2.objs.size=some (.lst (((List.range kvs.length).map (base+·)).map V.ref)):=if_pos rfl
 have ht:∀j kv,kvs[j]?=some kv->H2 (base+j)=some (.tup [kV kv.1,kv.2]):=fun j kv e=>by
  show(if base+j=hp2.objs.size then _ else _)=_
  rw[if_neg (by omega),if_pos (zri _ _),show base+j-base=j by omega,e]
 have old:∀b,b<hp2.objs.size->H2 b=H1 b:=fun b hb2=>by
  show(if b=hp2.objs.size then _ else _)=_
  rw[if_neg (zqX hb2),if_neg (by omega)]
 have fr:∀a,hp2.objs.size<=a->H1 a=none:=fun a ha=>hI2.hok.fresh ha
 refine⟨.ref hp2.objs.size,H2,hI2.many kp old fun a o ha e=>?_,rfl,q _ ((List.range kvs.length).map (base+·)) H2 (fun a o e=>by rw[old a (hI2.hok.lt e)];exact e) (fr _ (zqY _)) ?_ hl⟩
 ·have e':(if a=hp2.objs.size then some (HO.lst (((List.range kvs.length).map (base+·)).map V.ref)) else if base<=a then (match kvs[a-base]? with | some kv=>some (.tup [kV kv.1,kv.2]) | none=>H1 a) else H1 a)=some o:=e
  by_cases z:a=hp2.objs.size
  ·rw[if_pos z] at e'
   cases e'
   subst z
   refine⟨by simp;exact hz,(List.range kvs.length).map fun j=>Value.ref (base+j),c',?_,by rw[hl2];exact hL⟩
   rw[zrj]
   exact zc5 fun j _=>rfl
  ·rw[if_neg z] at e'
   by_cases z2:base<=a
   ·rw[if_pos z2] at e'
    cases hx:kvs[a-base]? with
    | none=>rw[hx] at e';rw[show H1 a=none from fr a ha] at e';cases e'
    | some kv =>
     rw[hx] at e'
     cases e'
     obtain⟨k,v,key,b1,b2,b3⟩:=tu (a-base) (by rw[<-hl2];exact(zqL.mp hx).1)
     obtain⟨y,hy,e1,e2⟩:=QV rv2 b1
     rw[hx] at hy
     cases hy
     rw[show base+(a-base)=a by omega] at b3
     refine⟨by show 2<=sizeLine;decide,[key,v],.cons (by rw[e1];exact zix b2) (.cons e2 .nil),?_⟩
     exact⟨_,b3,rfl,_,rfl⟩
   ·rw[if_neg z2] at e'
    rw[show H1 a=none from fr a ha] at e'
    cases e'
 ·refine Mt (by simp) fun j x y h1 h2=>?_
  rw[zqK] at h1
  cases hr:(List.range kvs.length)[j]? with
  | none=>rw[hr] at h1;cases h1
  | some m =>
   rw[hr] at h1
   cases h1
   obtain rfl:m=j:=by have:=zqL.mp hr;obtain⟨_,e⟩:=this;rw[List.getElem_range] at e;exact e.symm
   exact⟨fr (base+m) (show hp2.objs.size<=base+m by omega),ht m y h2⟩
end
end L2
namespace PySem
open Sem (wp)
theorem zb1:typeLookup (.type "list") "keys"=pure none:=by rw[typeLookup_type,builtinLookup_eq_fast];kernel_rfl
theorem Mu:isSubtype (.type "AttributeError") (.type "AttributeError")=pure true:=by rw[isSubtype_type];kernel_rfl
theorem zfP (v:Value):ownMembersOf (Value.type "AttributeError") [v]=#[unsetMember,unsetMember]:=rfl
theorem zfQ:((Manifest.find? "AttributeError").elim false fun t=>t.mro.contains "StopIteration" || t.mro.contains "SystemExit")=false:=by
 rw[find?_eq_fast];kernel_rfl
section
variable {prog:Program}{w:World}{A:Around}{E:Value->Shared->Prop}{h:Heap}{g:Array GenState}{d:Drawn}{t:Nat}{os:OsState}{a:Addr}{its:Array Value}{n:Nat}{sl:Array (Option Value)}
theorem zec {α:Type}{o:Value}{name msg:Str}{Q:α->Shared->Prop}(hh:A.handled=none)(zm:msg.length<=sizeLine)(zn:name.length<=sizeLine)
  (hE:∀e h' t',(∀b o,h.get? b=some o->h'.get? b=some o)->Shared.TypeIs ⟨h',g,d,t',os⟩ (.ref e) "AttributeError" -> E (.ref e) ⟨h',g,d,t',os⟩) :
  wpAny (model prog w) A (raiseAttrError o name msg) Q E ⟨h,g,d,t,os⟩:=by
 unfold raiseAttrError
 refine wpAny_bind (wpAny_mkStr ?_ zm)
 refine wpAny_bind ?_
 simp only[newExc,newTuple]
 refine wpAny_bind (wpAny_newObj_type ?_ (by size_fits))
 refine wpAny_bind (m:=firstArgMember _ _) (wpAny_of_eq (a:=Value.none) (by simp only[firstArgMember,zfQ];rfl) ?_)
 rw[zfP]
 refine wpAny_newObj_type ?_ (by size_fits)
 dsimp only
 have kp:∀b o,h.get? b=some o->((h.push { cls:=.type "tuple", data:=.seq #[Value.str msg t] }).push { cls:=.type "AttributeError", data:=.fields (#[.ref h.objs.size,.none,.none,.none,.bool false,.none] ++ #[unsetMember,unsetMember]) }).get? b=some o:=fun b o e=>zqO _ (zqO _ e)
 have ex:((h.push { cls:=.type "tuple", data:=.seq #[Value.str msg t] }).push { cls:=.type "AttributeError", data:=.fields (#[.ref h.objs.size,.none,.none,.none,.bool false,.none] ++ #[unsetMember,unsetMember]) }).get? (h.push { cls:=.type "tuple", data:=.seq #[Value.str msg t] }).objs.size=some { cls:=.type "AttributeError", data:=.fields (#[.ref h.objs.size,.none,.none,.none,.bool false,.none] ++ #[unsetMember,unsetMember]) }:=zq2 _ rfl
 have lt:∀b o,h.get? b=some o->b≠(h.push { cls:=.type "tuple", data:=.seq #[Value.str msg t] }).objs.size:=fun b o e=>zqX (zqR (zqP e) (by rw[Heap.size_push];exact Nat.le_succ _))
 generalize hs:(h.push { cls:=.type "tuple", data:=.seq #[Value.str msg t] }).objs.size=e at ex lt
 generalize ((h.push { cls:=.type "tuple", data:=.seq #[Value.str msg t] }).push { cls:=.type "AttributeError", data:=.fields (#[.ref h.objs.size,.none,.none,.none,.bool false,.none] ++ #[unsetMember,unsetMember]) })=h2 at kp ex
 refine wpAny_bind (wpAny_mkText ?_)
 have ty:Shared.TypeIs ⟨h2,g,d,t+1+1,os⟩ (.ref e) "AttributeError" := ⟨_,ex,rfl⟩
 refine wpAny_bind ?_
 unfold noteAttr lacksNameAndObj
 refine wpAny_bind (wpAny_bind (wpAny_isInstance ty Mu (wpAny_bind (wpAny_load ex (wpAny_pure ?_)))))
 refine wpAny_bind (wpAny_rule (wpAny_bind (wpAny_typeOf ty ?_)))
 show wpAny _ _ (layMembers e 6 #[Value.str name (t+1),o]) _ _ _
 unfold layMembers
 refine wpAny_bind (wpAny_load ex (wpAny_update ex ?_))
 have ex3:=Heap.get?_update_self (Obj.mapFields fun vs=>vs.extract 0 6 ++ #[Value.str name (t+1),o]) ex rfl
 have kp3:∀b o',h.get? b=some o'->(h2.update e (Obj.mapFields fun vs=>vs.extract 0 6 ++ #[Value.str name (t+1),o])).get? b=some o':=fun b o' z=>(Heap.get?_update_other _ _ (Ne.symm (lt b o' z))).trans (kp b o' z)
 simp only[raiseNew]
 refine wpAny_bind (wpAny_handled ?_)
 rw[hh]
 refine wpAny_bind (wpAny_pure (wpAny_throw ?_))
 exact hE e _ _ kp3 ⟨_,ex3,rfl⟩
theorem LR (hh:A.handled=none){tk:Tok}{Q:Fin->Shared->Prop}(hx:h.get? a=some { cls:=.type "list", dict:=none,data:=.seq its n,slots:=sl })
  (hE:∀e h' t',(∀b o,h.get? b=some o->h'.get? b=some o)->Shared.TypeIs ⟨h',g,d,t',os⟩ (.ref e) "AttributeError" -> E (.ref e) ⟨h',g,d,t',os⟩) :
  wpAny (model prog w) A (Builtin.«object.__getattribute__» ⟨[.ref a,.str "keys" tk],[]⟩) Q E ⟨h,g,d,t,os⟩:=by
 have hT:(⟨h,g,d,t,os⟩:Shared).TypeIs (.ref a) "list" := ⟨_,hx,rfl⟩
 have f4:=zb1
 repeat (any_goals (first | assumption | wp_step))
 have em:(Manifest.find? "list").elim "list" (fun x=>x.tpName)="list" := by rw[find?_eq_fast];kernel_rfl
 rw[em]
 exact zec hh (by decide +kernel) (by decide +kernel) hE
theorem Jx (hh:A.handled=none){tk:Tok}{R:Result->Shared->Prop}(hx:h.get? a=some { cls:=.type "list", dict:=none,data:=.seq its n,slots:=sl })
  (hE:∀e h' t',(∀b o,h.get? b=some o->h'.get? b=some o)->Shared.TypeIs ⟨h',g,d,t',os⟩ (.ref e) "AttributeError" -> R (.error (.ref e)) ⟨h',g,d,t',os⟩) :
  codeAny (model prog w) A (.call (.builtin "list.__getattribute__") ⟨[.ref a,.str "keys" tk],[]⟩) R ⟨h,g,d,t,os⟩ :=
 codeAny_call_builtin F.slot_list_getattribute.plain F.entry_list_ga (F.slot_list_getattribute.check _ _ _ _ _ _ _ _ (show(⟨h,g,d,t,os⟩:Shared).TypeIs (.ref a) "list" from ⟨_,hx,rfl⟩) (F.args_list_getattribute_2 _ _) (LR (A:=A.in1) hh hx hE))
theorem zb2 (hh:A.handled=none){tk:Tok}{Q:Value->Shared->Prop}(hx:h.get? a=some { cls:=.type "list", dict:=none,data:=.seq its n,slots:=sl })
  (hE:∀e h' t',(∀b o,h.get? b=some o->h'.get? b=some o)->Shared.TypeIs ⟨h',g,d,t',os⟩ (.ref e) "AttributeError" -> E (.ref e) ⟨h',g,d,t',os⟩):wpAny (model prog w) A (getAttrBy (.ref a) (.str "keys" tk) false) Q E ⟨h,g,d,t,os⟩:=by
 have hT:(⟨h,g,d,t,os⟩:Shared).TypeIs (.ref a) "list" := ⟨_,hx,rfl⟩
 have f2:=F.slot_list_getattribute.lookup
 have f3:=F.slot_list_getattribute.bind (.ref a)
 repeat (any_goals (first | assumption | wp_step))
 refine Jx hh hx fun e h' t' k ty=>?_
 show wpAny _ _ (getattributeRaised (Value.ref a) (Value.str (Str.ofString "keys") tk) (Value.type "list") (.ref e) none false false) _ _ _
 unfold getattributeRaised
 refine wpAny_bind (wpAny_isInstance ty Mu ?_)
 rw[if_pos rfl]
 have lk:hookBehind (.type "list") none=pure none:=by
  unfold hookBehind
  rw[if_neg (by decide),typeLookup_type,builtinLookup_eq_fast]
  kernel_rfl
 rw[lk]
 refine wpAny_bind (wpAny_pure ?_)
 show wpAny _ _ (attributeErrorLeaves _ _ _ false false) _ _ _
 unfold attributeErrorLeaves
 exact wpAny_bind (wpAny_throw (hE e h' t' k ty))
theorem Jy (hh:A.handled=none){Q:Option Value->Shared->Prop}(hx:h.get? a=some { cls:=.type "list", dict:=none,data:=.seq its n,slots:=sl })
  (hQ:∀h' t',(∀b o,h.get? b=some o->h'.get? b=some o)->Q none ⟨h',g,d,t',os⟩):wpAny (model prog w) A (getAttr? (.ref a) "keys") Q E ⟨h,g,d,t,os⟩:=by
 unfold getAttr? getAttrBy?
 refine wpAny_bind (wpAny_mkText ?_)
 refine wpAny_bind (wpAny_attempt (zb2 hh hx fun e h' t' k ty=>?_))
 refine wpAny_bind (wpAny_isInstance ty Mu ?_)
 exact wpAny_pure (hQ h' t' k)
end
theorem Tq:entryFor table "dict.update.loop"=some Builtin.«dict.update.loop»:=entryFor_of_tree (by kernel_rfl)
theorem Zn:plainId "dict.update.loop"=true:=by decide +kernel
section
variable {prog:Program}{w:World}{κ:Type}[DecidableEq κ]{knd:KeyKind prog w κ}{A:Around}{E:Value->Shared->Prop}
theorem zgZ {R:Result->Shared->Prop}{res:Value}{D it l:Addr}{items:Array Value}{ps:List (κ×Value)}(hh:A.handled=none)(hl:ps.length=items.size)(z:ps.length<=sizeLine)(nDi:D≠it)(nDl:D≠l)(nli:l≠it) :
  ∀(m i:Nat) (s:Shared) (kvs:List (κ×Value)),ps.length-i=m->i<=ps.length->s.heap.IsListIter it l i->s.heap.IsList l items->s.heap.DictOf knd D kvs->kvs.length<=i ->
  (∀(j:Nat) k v,ps[j]?=some (k,v)->∃t key,items[j]?=some (.ref t)/\t≠D/\t≠it/\knd.is k key=true/\PyProof.Rows.IsTup s.heap t #[key,v]) ->
  (∀h' tk,h'.DictOf knd D ((ps.drop i).foldl (fun acc kv=>stored acc kv.1 kv.2) kvs)->(∀b o,b≠D->b≠it->s.heap.get? b=some o->h'.get? b=some o)->R (.ok (.ret res)) { s with heap:=h',toks:=tk }) ->
  codeAny (model prog w) A (.builtin "dict.update.loop" ⟨[.ref D,.ref it,.int (i:Nat) 0,res],[]⟩) R s:=by
 intro m
 induction m with
 | zero =>
  intro i s kvs hk hi hit hL hD hz hp hR
  obtain rfl:i=ps.length:=by omega
  refine codeAny_builtin Tq ?_
  rw[Around.under_plainId Zn _];show wpAny _ A.in1 (pyNext (.ref it)>>=_) _ _ s
  refine wpAny_bind (wpAny_pyNext_list_end hh hit hL (by rw[hl];simp) fun h' e=>?_)
  show wpAny _ _ (Builtin.Dict.addKeywords D []>>=_) _ _ _
  refine wpAny_bind (wpAny_pure (wpAny_pure (hR h' s.toks ?_ fun b o _ hb q=>e b o hb q)))
  rw[List.drop_length]
  obtain⟨o,es,ep,h1,h2⟩:=hD
  exact⟨o,es,ep,e D o nDi h1,h2⟩
 | succ m ih =>
  intro i s kvs hk hi hit hL hD hz hp hR
  have lt:i<ps.length:=by omega
  obtain⟨⟨k,v⟩,hx⟩:∃x,ps[i]?=some x:=⟨_,zqJ lt⟩
  obtain⟨t,key,h1,h2,h3,h4,h5⟩:=hp i k v hx
  refine codeAny_builtin Tq ?_
  rw[Around.under_plainId Zn _];show wpAny _ A.in1 (pyNext (.ref it)>>=_) _ _ s
  refine wpAny_bind (wpAny_pyNext_list_item hit hL h1 fun h' hit' hs=>?_)
  have kp:∀b o,b≠it->s.heap.get? b=some o->h'.get? b=some o:=fun b o hb e=>hs.extBut b o hb e
  obtain⟨ot,t1,t2,nt,t3⟩:=h5
  have t1':=kp t ot h3 t1
  refine wpAny_bind (wpAny_holding (wpAny_bind (wpAny_tryCatch ?_)))
  unfold Builtin.Dict.pairItems
  refine wpAny_bind (wpAny_typeOf (T := "tuple") ⟨ot,t1',t2⟩ ?_)
  rw[if_pos (by decide)]
  refine wpAny_bind ?_
  unfold seqItems?
  refine wpAny_bind (wpAny_load t1' ?_)
  rw[t3]
  refine wpAny_pure (wpAny_pure ?_)
  have hD':h'.DictOf knd D kvs:=by
   obtain⟨o,es,ep,a1,a2⟩:=hD
   exact⟨o,es,ep,kp D o nDi a1,a2⟩
  show wpAny _ _ (holding [key,v] (dictSet D key v)) _ _ _
  refine wpAny_holding (wpAny_dictSet_pairs (s:={ s with heap:=h' }) h4 hD' (fun h2' hD2 hs2=>?_) (by omega))
  refine wpAny_pure ⟨plainId_quiet Zn _,?_⟩
  have kp2:∀b o,b≠D->b≠it->s.heap.get? b=some o->h2'.get? b=some o:=fun b o hb hb2 e=>hs2.extBut b o hb (kp b o hb2 e)
  have nx:((i:Nat):Int)+1=((i+1:Nat):Int):=by omega
  show codeAny _ A (.builtin "dict.update.loop" ⟨[.ref D,.ref it,.int (((i:Nat):Int)+1) 0,res],[]⟩) R _
  rw[nx]
  refine ih (i+1) _ (stored kvs k v) (by omega) lt ?_ ?_ hD2 ?_ (fun j k' v' hj=>?_) (fun h3' tk hD3 kp3=>?_)
  ·obtain⟨o,a1,a2⟩:=hit'
   exact⟨o,hs2.extBut it o (Ne.symm nDi) a1,a2⟩
  ·obtain⟨o,a1,a2⟩:=hL
   exact⟨o,kp2 l o (Ne.symm nDl) nli a1,a2⟩
  ·unfold stored
   split
   ·rw[zqI];omega
   ·rw[zqQ];simp;omega
  ·obtain⟨t',key',b1,b2,b3,b4,o',b5,b6⟩:=hp j k' v' hj
   exact⟨t',key',b1,b2,b3,b4,o',kp2 t' o' b2 b3 b5,b6⟩
  ·refine hR h3' tk ?_ fun b o hb hb2 e=>kp3 b o hb hb2 (kp2 b o hb hb2 e)
   rw[List.drop_eq_getElem_cons lt]
   obtain⟨_,e⟩:=zqL.mp hx
   rw[e]
   exact hD3
end
end PySem
namespace L2
open PySem PySem.Spec PyProof.Rows
theorem ze0:bootBuiltins "dict"=some (.type "dict"):=by decide +kernel
section
variable {X:Cx}
theorem Uu (hc:X.calm=true):ZR X (.type "dict") (fun xs H Q=>∃(p:Addr) (ts:List Addr) (kvs:List (Key×V)),xs=[.ref p]/\H p=some (.lst (ts.map V.ref))/\Paired (fun t (kv:Key×V)=>H t=some (.tup [kV kv.1,kv.2])) ts kvs/\∀d,H d=none->Q (.ref d) (upd H d (.dK (uL [] kvs)))):=by
 intro pins s σ H xs us Q I r h
 obtain⟨p,ts,kvs,rfl,hp,hts,q⟩:=h
 obtain⟨u,rfl,rx⟩:=vals1 r
 cases rx
 obtain⟨hz,its,c,rv,hl⟩:=(show xO X.prog X.w H s.heap p (.lst (ts.map V.ref)) from I.hok p _ hp)
 have lt:=yx hts
 have lv:=rv.length
 rw[zqI] at lv hz
 have pr:∃rs:List (Key×Value),KV kvs rs/\∀(j:Nat) k v,rs[j]?=some (k,v)->∃t key,its.toArray[j]?=some (.ref t)/\t<s.heap.objs.size/\(yc X.prog X.w).is k key=true/\IsTup s.heap t #[key,v]:=by
  clear hp q hl hz c lt lv
  induction hts generalizing its with
  | nil=>exact⟨[],.nil,fun j k v e=>by cases e⟩
  | @cons t kv ts kvs ht _ ih =>
   cases rv with
   | @cons _ u _ us ru rv' =>
    cases ru
    obtain⟨rs,r1,r2⟩:=ih us rv'
    obtain⟨_,ys,ry,hT⟩:=(show xO X.prog X.w H s.heap t (.tup [kV kv.1,kv.2]) from I.hok t _ ht)
    cases ry with
    | @cons _ y1 _ _ e1 ry =>
     cases ry with
     | @cons _ y2 _ _ e2 ry =>
      cases ry
      refine⟨(kv.1,y2)::rs,.cons ⟨rfl,e2⟩ r1,fun j k v e=>?_⟩
      cases j with
      | zero =>
       cases e
       obtain⟨o,a1,a2⟩:=id hT
       exact⟨t,y1,rfl,zqP a1,za5 e1,hT⟩
      | succ j =>
       obtain⟨t',key,b1,b2⟩:=r2 j k v e
       exact⟨t',key,by simpa using b1,b2⟩
 obtain⟨rs,r1,r2⟩:=pr
 have lr:kvs.length=rs.length:=Paired.length r1
 have hbig:(s.heap.objs.size==sysModules)=false:=beq_eq_false_iff_ne.mpr (Ne.symm (zqX I.big))
 refine callType_codes (Q₁:=fun obj s₁=>obj=.ref s.heap.objs.size/\s₁={ s with heap:=s.heap.push { cls:=.type "dict", data:=.dict #[] } }) F.kt_called_dict (F.kt_typeCall_dict_1 _) F.entry_dict_init (kt_code_dict_new _ ⟨rfl,rfl⟩) ?_
 rintro obj s₁ ⟨rfl,rfl⟩
 have hnew:(s.heap.push { cls:=.type "dict", data:=.dict #[] }).DictOf (yc X.prog X.w) s.heap.objs.size []:=Heap.DictOf.new s.heap
 have kp:∀b o,s.heap.get? b=some o->(s.heap.push { cls:=.type "dict", data:=.dict #[] }).get? b=some o:=fun b o e=>zqO _ e
 have sz:(s.heap.push { cls:=.type "dict", data:=.dict #[] }).objs.size=s.heap.objs.size+1:=Heap.size_push ..
 refine⟨hnew.typeIs,F.args_dict_init_2 _ _,?_⟩
 unfold Builtin.«dict.__init__»;refine wpAny_bind ?_
 unfold Builtin.Dict.selfAndRest;refine wpAny_bind (wpAny_notOrdered_dict hnew.typeIs ?_)
 show wpAny _ _ (pure (s.heap.objs.size,[Value.ref p])) _ _ _
 refine wpAny_pure ?_
 show wpAny _ _ (Builtin.Dict.updateFrom "dict.__init__" s.heap.objs.size (.ref p) [] .none) _ _ { s with heap:=s.heap.push { cls:=.type "dict", data:=.dict #[] } }
 generalize s.heap.push { cls:=.type "dict", data:=.dict #[] }=h1 at hnew kp sz
 have hl1:=kp p _ hl
 unfold Builtin.Dict.updateFrom;refine wpAny_bind (wpAny_typeOf (T := "list") ⟨_,hl1,rfl⟩ ?_)
 rw[if_pos (by decide)]
 refine wpAny_bind (Jy (A:=X.A.in1.in1) (h:=h1) (g:=s.gens) (d:=s.drawn) (t:=s.toks) (os:=s.os) (I.ok.hd hc) hl1 fun h2 t2 k2=>?_)
 refine wpAny_bind (m:=rule _) (wpAny_rule ?_)
 have hl2:=k2 p _ hl1
 refine wpAny_bind (wpAny_pyIter_list (s:=⟨h2,s.gens,s.drawn,t2,s.os⟩) (items:=its.toArray) ⟨_,hl2,rfl,_,rfl⟩ ?_)
 have k3:∀b o,h2.get? b=some o->(h2.push { cls:=.type "list_iterator", data:=.fields #[.ref p,.int 0 0] }).get? b=some o:=fun b o e=>zqO _ e
 have it3:(h2.push { cls:=.type "list_iterator", data:=.fields #[.ref p,.int 0 0] }).IsListIter h2.objs.size p 0:=⟨_,zq2 _ rfl,rfl,rfl⟩
 have z2:s.heap.objs.size<h2.objs.size:=by
  obtain⟨o,es,ep,a1,_⟩:=hnew
  exact zqP (k2 _ _ a1)
 generalize hh3:h2.push { cls:=.type "list_iterator", data:=.fields #[.ref p,.int 0 0] }=h3 at k3 it3
 have k13:∀b o,s.heap.get? b=some o->h3.get? b=some o:=fun b o e=>k3 _ _ (k2 _ _ (kp _ _ e))
 have zp:p<s.heap.objs.size:=zqP hl
 refine wpAny_pure ⟨plainId_quiet Zn _,?_⟩
 obtain⟨oD,esD,epD,aD,bD⟩:=hnew
 refine zgZ (A:=X.A.in1) (knd:=yc X.prog X.w) (D:=s.heap.objs.size) (it:=h2.objs.size) (l:=p) (items:=its.toArray) (ps:=rs) (I.ok.hd hc) (by simp;omega) (by omega) (zqX z2) (Nat.ne_of_gt zp) (zqX (Nat.lt_trans zp z2)) rs.length 0 _ [] rfl (zq4 _) it3 ⟨_,k13 _ _ hl,rfl,_,rfl⟩ ⟨oD,esD,epD,k3 _ _ (k2 _ _ aD),bD⟩ (zq4 _) (fun j k v e=>?_) (fun h' tk hD kp'=>?_)
 ·obtain⟨t,key,b1,b2,b3,o,b4,b5⟩:=r2 j k v e
  exact⟨t,key,b1,zqX b2,zqX (Nat.lt_trans b2 z2),b3,o,k13 _ _ b4,b5⟩
 ·refine⟨rfl,.ref s.heap.objs.size,_,I.laid (a:=s.heap.objs.size) (o:=.dK (uL [] kvs)) (t':=tk) (fun b o e=>kp' b o (zqX (zqP e)) (zqX (Nat.lt_trans (zqP e) z2)) (k13 b o e)) (zqY _) ?_,rfl,q _ (I.hok.fresh (zqY _))⟩
  have lm:=WT kvs []
  exact zdY (by simp at lm;omega) hbig (KV.merge r1 .nil) hD
theorem ziy:VD X (compareOp .IsNot) (fun x y H Q=>∃a b,x=.bl a/\y=.bl b/\Q (.bl (a != b)) H):=by
 intro pins s σ H x y v u Q I rx ry h
 obtain⟨a,b,rfl,rfl,q⟩:=h
 cases rx
 cases ry
 refine wpAny_pure (yD I q ?_)
 cases a<;>cases b<;>rfl
end
theorem zbg {K:Frag}{a:Addr}{xs:List V}{σ:St}{js:List Nat}{tt:TT}{te:TE}{H:Hp}{Qf:Addr->Hp->List V->Prop}{x y:Str}(Pv:Nat->List V->Hp->Prop)(h0:Pv 0 [] H)(hz:xs.length<=sizeLine)
  (hl:∀i ys H,i<=xs.length->Pv i ys H->zT K H a xs/\ys.length<=i)
  (hs:∀i v ys H,xs[i]?=some v->Pv i ys H->∃(p:Addr) (u w:V),v=.ref p/\xM K H p [u,w]/\tt (lcT σ js [some u,some w]) H fun b H2=>if b=true then te (lcT σ js [some u,some w]) H2 fun z H3=>Pv (i+1) (ys++[z]) H3 else Pv (i+1) ys H2)
  (mt:∀ σ H Q Q',(∀b H1,Q b H1->Q' b H1)->tt σ H Q->tt σ H Q')(me:∀ σ H Q Q',(∀v H1,Q v H1->Q' v H1)->te σ H Q->te σ H Q')
  (hd:∀ys H p,Pv xs.length ys H->H p=none->Qf p H ys) :
  ∃W:Nat->Nat->List V->Hp->Prop,(∃m,W 0 m [] H)/\∀i m zs H,W i m zs H ->
   ((K9 K a).stop i H/\∀p,H p=none->Qf p H zs) \/
   ((K9 K a).go i H/\zs.length<sizeLine/\∀v H',(K9 K a).Kh i H v H'->∀o0:List (Option V),o0.length=[x,y].length->zhB K 2 (K8 (Va 0) (K8 (Va 1) zhA)) v (lcT σ js o0) H' fun σ2 H1=>∃o1,σ2=lcT σ js o1/\o1.length=[x,y].length/\tt σ2 H1 fun b H2 =>
    if b=true then te σ2 H2 fun v H3=>∃m',m'<m/\W (i+1) m' (zs++[v]) H3 else ∃m',m'<m/\W (i+1) m' zs H2):=by
 refine⟨fun i m ys H=>m=xs.length-i/\i<=xs.length/\Pv i ys H,⟨xs.length,by simp,zq4 _,h0⟩,?_⟩
 rintro i m ys H ⟨rfl,hi,p⟩
 obtain⟨q,hy⟩:=hl i ys H hi p
 by_cases hlt:i<xs.length
 ·refine .inr ⟨⟨xs,xs[i],q,by simp[hlt]⟩,by omega,fun v H' y o0 l0=>?_⟩
  obtain⟨e,y⟩:=y
  subst e
  obtain⟨pp,u,w,rfl,hp,ht⟩:=hs i v ys _ (y xs q) p
  have eσ:((lcT σ js o0).set 0 (some u)).set 1 (some w)=lcT σ js [some u,some w]:=by
   match o0,l0 with
   | [a0,a1],_=>rfl
  refine⟨pp,[u,w],rfl,hp,rfl,u,[w],rfl,w,[],rfl,rfl,[some u,some w],eσ,rfl,?_⟩
  rw[eσ]
  refine mt _ _ _ _ (fun b H2 h2=>?_) ht
  cases b with
  | true =>
   rw[if_pos rfl] at h2 ⊢
   exact me _ _ _ _ (fun v H3 h3=>⟨_,by omega,rfl,hlt,h3⟩) h2
  | false =>
   rw[if_neg zqM] at h2 ⊢
   exact⟨_,by omega,rfl,hlt,h2⟩
 ·have e:i=xs.length:=by omega
  subst e
  exact .inl ⟨⟨xs,q,zqY _⟩,fun r hr=>hd _ _ r p hr⟩
end L2
namespace zM
def cn (n:Nat)(rs:List Rm)(j:Nat):Nat:=(Rj (n-zX n rs j) (zX n rs j) (yes rs j)).count true
theorem Jz {l:List Bool}(k:Nat):l.count true=(l.take k).count true+(l.drop k).count true:=by
 rw[<-List.count_append,List.take_append_drop]
section
variable {n:Nat}{rs:List Rm}(B:Bk n rs)
include B
theorem zg0 {j:Nat}(hj:j<rs.length):∀(e m d:Nat),m+e<=zX n rs j->(Rj (e+d) m (yes rs j)).count true=2^e*(Rj d (m+e) (yes rs j)).count true
 | 0,m,d,_=>by rw[Nat.zero_add,Nat.pow_zero,Nat.one_mul,Nat.add_zero]
 | e+1,m,d,h=>by
  have s:=ziv B (d:=e+d) (m:=m) hj (by omega)
  rw[show e+1+d=e+d+1 by omega,Jz (2^(e+d)),s.1,s.2,zg0 hj e (m+1) d (by omega),show m+1+e=m+(e+1) by omega,Nat.pow_succ,Nat.mul_right_comm]
  omega
theorem KD {j i lo hi:Nat}(e:rs[j]?=some (some (i,lo,hi)))(hj:j<rs.length):lo<rs.length/\hi<rs.length/\i<zX n rs lo/\i<zX n rs hi/\cn n rs j=cn n rs lo*2^(zX n rs lo-i-1)+cn n rs hi*2^(zX n rs hi-i-1):=by
 have z:2<=j:=by
  rcases Nat.lt_or_ge j 2 with z | z
  ·exfalso
   have:j=0\/j=1:=by omega
   rcases this with z | z<;>subst z
   ·rw[B.h0] at e;cases e
   ·rw[B.h1] at e;cases e
  ·exact z
 obtain⟨i',lo',hi',e',hin,llo,lhi,hne,l1,l2⟩:=B.rm j z hj
 rw[e] at e'
 cases e'
 have jl:lo<rs.length:=by omega
 have jh:hi<rs.length:=by omega
 refine⟨jl,jh,l1,l2,?_⟩
 have le:=wR B e
 have a1:=Tg B lo jl
 have a2:=Tg B hi jh
 have nd:=ziw B (d:=n-i-1) e hj
 show(Rj (n-zX n rs j) (zX n rs j) (yes rs j)).count true=_
 rw[le,show n-i=n-i-1+1 by omega,Jz (2^(n-i-1)),nd.1,nd.2]
 have u1:=zg0 B jl (zX n rs lo-i-1) (i+1) (n-zX n rs lo) (by omega)
 have u2:=zg0 B jh (zX n rs hi-i-1) (i+1) (n-zX n rs hi) (by omega)
 rw[show zX n rs lo-i-1+(n-zX n rs lo)=n-i-1 by omega,show i+1+(zX n rs lo-i-1)=zX n rs lo by omega] at u1
 rw[show zX n rs hi-i-1+(n-zX n rs hi)=n-i-1 by omega,show i+1+(zX n rs hi-i-1)=zX n rs hi by omega] at u2
 rw[u1,u2,Nat.mul_comm,Nat.mul_comm (2^(zX n rs hi-i-1))]
 rfl
end
end zM
namespace ZP
open PySem L2 zM
def iK (m:Int):Key:=Sum.inl m
def Rq (c:Int->V)(m:Int):Key×V:=(iK m,c m)
theorem Pb {c:Int->V}{m:Int}:∀{l:List Int},m∉l->xV (l.map (Rq c)) (iK m)=none
 | [],_=>rfl
 | y::l,h=>by
  rw[zq6,xW (fun z=>h (by rw[show y=m from Sum.inl.inj z];exact zq1))]
  exact Pb fun z=>h (zqT _ z)
theorem Tr {c:Int->V}{m:Int}:∀{l:List Int},m∈l->xV (l.map (Rq c)) (iK m)=some (c m)
 | [],h=>by cases h
 | y::l,h=>by
  by_cases e:y=m
  ·subst e
   exact wH rfl
  ·rw[zq6,xW (fun z=>e (Sum.inl.inj z))]
   exact Tr ((List.mem_cons.mp h).resolve_left fun z=>e z.symm)
theorem Mv {c:Int->V}:∀(l acc:List Int),(acc++l).Nodup->uL (acc.map (Rq c)) (l.map (Rq c))=(acc++l).map (Rq c)
 | [],acc,_=>by rw[List.append_nil];rfl
 | m::l,acc,h=>by
  have nm:m∉acc:=fun z=>(List.nodup_append.mp h).2.2 m z m zq1 rfl
  show uL (putK (acc.map (Rq c)) (iK m) (c m)) (l.map (Rq c))=_
  rw[L2.Q7 _ (Pb nm)]
  have e:acc.map (Rq c)++[(iK m,c m)]=(acc++[m]).map (Rq c):=by rw[zqW];rfl
  rw[e,Mv l (acc++[m]) (by rw[List.append_assoc];exact h),List.append_assoc]
  rfl
theorem JB {l:List Int}(h:l.Pairwise (·<·)):l.Nodup:=h.imp fun a e=>by omega
section
variable (C:Addr)
inductive KH (vs:List V)(H:Hp)(Q:VK)(E9:XK):Prop
 | mk (b:Addr) (os:List Str) (rs:List Rm) (F:yO) (k:Nat) (_:vs=[.ref b,.int (k:Nat)]) (_:z9 C H b os rs F) (_:k<rs.length) (_:∀H',Same H H'->Q (.int (zX os.length rs k:Nat)) H'):KH vs H Q E9
end
end ZP
namespace L2
open PySem PySem.Spec PyProof.Rows
section
variable {X:Cx}{pins:List (Addr×Obj)}{σ:St}{H:Hp}{s:Shared}
theorem Inv.held {d:Addr}{kvs:List (Key×V)}{o:Obj}(I:Inv X pins σ H s)(e:H d=some (.dK kvs))(ho:s.heap.get? d=some o):Inv X pins σ (upd H d (.Qw o (.dK kvs))) s :=
 I.write (t':=s.toks) (h':=s.heap) (by rw[e];exact trivial) (.inl rfl) (fun _ _ _ q=>q) ⟨o,ho⟩ ⟨ho,I.hok d _ e⟩
end
def Itd (d:Addr)(o:Obj)(kvs:List (Key×V)):It :=
 ⟨fun i H=>H d=some (.Qw o (.dK kvs))/\i<kvs.length,fun i H x H'=>H'=H/\∃p,kvs[i]?=some p/\x=kV p.1,fun i H=>H d=some (.Qw o (.dK kvs))/\kvs.length<=i⟩
theorem ze1 {P:Program}{w:World}{h h':Heap}{d:Addr}{o:Obj}{vs vs':List (Key×Value)}{ep ep':Nat}(ho:h.get? d=some o)(hd:h'.get? d=some o)(x:h.DictAt (yc P w) d vs ep)(x':h'.DictAt (yc P w) d vs' ep'):ep'=ep:=by
 obtain⟨o1,es1,ho1,_,zlw,_⟩:=x
 obtain⟨o2,es2,ho2,_,zja,_⟩:=x'
 rw[ho] at ho1
 cases ho1
 rw[hd] at ho2
 cases ho2
 rw[zlw] at zja
 cases zja
 rfl
theorem zfR {P:Program}{w:World}{K:Frag}{tg:Expr}{h0:Heap}{d:Addr}{o:Obj}{vs0:List (Key×Value)}{kvs:List (Key×V)}{ep:Nat}(ho:h0.get? d=some o)(at0:h0.DictAt (yc P w) d vs0 ep)(it:Addr):Turn P w K tg (Itd d o kvs) [it] it (fun i h=>h.IsKeyIter it d i kvs.length ep) where
 mem:=by simp
 obj:=fun i h st b hb=>by
  have e:b=it:=by simpa using hb
  subst e
  obtain⟨o,e,c,d⟩:=st
  exact⟨o,e,fun v z=>by rw[d] at z;cases z⟩
 keep:=fun i h h' st k=>st.at fun o e=>k it (by simp) o e
 item:=by
  intro X hP hw hK hc i pins s σ H E I hf st hg
  subst hP hw hK
  obtain⟨hd,hi⟩:=hg
  obtain⟨ho1,hz,lo,vs,rv,hD⟩:=(show s.heap.get? d=some o/\kvs.length<=sizeLine/\(d==sysModules)=false/\∃vs,KV kvs vs/\s.heap.DictOf (yc X.prog X.w) d vs from I.hok d _ hd)
  obtain⟨ep',hat⟩:=hD.dictAt
  obtain rfl:=ze1 ho ho1 at0 hat
  have hl:kvs.length=vs.length:=Paired.length rv
  obtain⟨f0,f1,f2,f3,f4,f5⟩:=hf it (by simp)
  obtain⟨q,hq,rq⟩:=uQ rv (zqJ hi)
  rw[hl] at st
  refine wpAny_pyNext_dict_item st hat (k:=q.1) (v:=q.2) hq fun key h' hkey st' sb=>?_
  rw[<-hl] at st'
  have I1:Inv X pins σ H { s with heap:=h' }:=I.turned (t':=s.toks) (fun b o hb e=>(sb.2 b hb).trans e) f0 f1 f3 f4 f5
  obtain⟨o,e,c,d⟩:=id st'
  have e1:(kvs[i]).1=q.1:=rq.1
  refine⟨key,rfl,zeu (s:={ s with heap:=h' }) e c d (by decide) ⟨kV q.1,H,I1,?_,⟨rfl,kvs[i],zqJ hi,by rw[e1]⟩,st',fun b hb=>(hf b hb).1⟩⟩
  rcases yS (k:=q.1) (v:=key) hkey with ⟨i',t,e4,rfl⟩ | ⟨z,t,e4,rfl⟩<;>rw[e4]<;>exact⟨_,rfl⟩
 done:=by
  intro X hP hw hK hc i pins s σ H E I hf st hg
  subst hP hw hK
  obtain⟨hd,hi⟩:=hg
  obtain⟨ho1,hz,lo,vs,rv,hD⟩:=(show s.heap.get? d=some o/\kvs.length<=sizeLine/\(d==sysModules)=false/\∃vs,KV kvs vs/\s.heap.DictOf (yc X.prog X.w) d vs from I.hok d _ hd)
  obtain⟨ep',hat⟩:=hD.dictAt
  obtain rfl:=ze1 ho ho1 at0 hat
  have hl:kvs.length=vs.length:=Paired.length rv
  obtain⟨f0,f1,f2,f3,f4,f5⟩:=hf it (by simp)
  rw[hl] at st
  exact wpAny_pyNext_dict_end (I.ok.hd hc) st hat (zrh (by omega)) fun h' eb=>⟨rfl,I.turned (t':=s.toks) (fun b o hb e=>eb b o hb e) f0 f1 f3 f4 f5⟩
 self:=fun _ _ _ _ _ st h=>wpAny_pyIter_keyiter st h
section
variable {X:Cx}{tg:Expr}
def zlx (tl:TE):TI:=fun σ H R=>tl σ H fun x H1=>∃d kvs,x=.ref d/\H1 d=some (.dK kvs)/\∀o,R (Itd d o kvs) (upd H1 d (.Qw o (.dK kvs)))
theorem ze2 {l:Expr}{tl:TE}(hl:PE X l tl):PI X tg l (zlx tl):=by
 intro pins s σ H R I h
 refine xT (hl pins s σ H _ I h) fun v s1 ⟨x,H1,I1,r1,q1⟩=>?_
 obtain⟨d,kvs,e,hd,q⟩:=q1
 subst e
 cases r1
 obtain⟨hz,lo,vs,rv,hD⟩:=(show kvs.length<=sizeLine/\(d==sysModules)=false/\∃vs,KV kvs vs/\s1.heap.DictOf (yc X.prog X.w) d vs from I1.hok d _ hd)
 obtain⟨ep,hat⟩:=hD.dictAt
 obtain⟨o,es,ho,rest⟩:=id hat
 have hl:kvs.length=vs.length:=Paired.length rv
 have I2:=I1.held hd ho
 refine wpAny_pyIter_dict lo hat ?_
 rw[<-hl]
 refine⟨s1.heap.objs.size,[s1.heap.objs.size],_,_,_,rfl,I2.kept (t':=s1.toks) fun b o e=>zqO _ e,zfR ho hat _,⟨_,zq2 _ rfl,rfl,rfl⟩,fun b hb=>?_,q o⟩
 have e:b=s1.heap.objs.size:=by simpa using hb
 subst e
 exact I2.zhD (zqY _) (I2.hok.fresh (zqY _))
end
theorem ze3 {d:Addr}{o:Obj}{kvs:List (Key×V)}{σ:St}{js:List Nat}{te:TE}{H:Hp}{Qf:Addr->Hp->List V->Prop}(Pv:Nat->List V->Hp->Prop)(h0:Pv 0 [] H)(hz:kvs.length<=sizeLine)
  (hl:∀i ys H,i<=kvs.length->Pv i ys H->H d=some (.Qw o (.dK kvs))/\ys.length<=i)
  (hs:∀i p ys H,kvs[i]?=some p->Pv i ys H->te (YZ σ js (some (kV p.1))) H fun v H3=>Pv (i+1) (ys++[v]) H3)
  (me:∀ σ H Q Q',(∀v H1,Q v H1->Q' v H1)->te σ H Q->te σ H Q')
  (hd:∀ys H p,Pv kvs.length ys H->H p=none->Qf p H ys) :
  ∃W:Nat->Nat->List V->Hp->Prop,(∃m,W 0 m [] H)/\∀i m ys H,W i m ys H ->
   ((Itd d o kvs).stop i H/\∀p,H p=none->Qf p H ys) \/
   ((Itd d o kvs).go i H/\ys.length<sizeLine/\∀x H',(Itd d o kvs).Kh i H x H'->R5 (YZ σ js (some x)) H' fun b H2 =>
    if b=true then te (YZ σ js (some x)) H2 fun v H3=>∃m',m'<m/\W (i+1) m' (ys++[v]) H3 else ∃m',m'<m/\W (i+1) m' ys H2):=by
 refine⟨fun i m ys H=>m=kvs.length-i/\i<=kvs.length/\Pv i ys H,⟨kvs.length,by simp,zq4 _,h0⟩,?_⟩
 rintro i m ys H ⟨rfl,hi,p⟩
 obtain⟨q,hy⟩:=hl i ys H hi p
 by_cases hlt:i<kvs.length
 ·refine .inr ⟨⟨q,hlt⟩,by omega,fun x H' y=>?_⟩
  obtain⟨e,pp,e2,rfl⟩:=y
  subst e
  dsimp only[R5]
  rw[if_pos rfl]
  exact(me _ _ _ _ (fun v H3 h3=>⟨_,by omega,rfl,hlt,h3⟩) (hs i pp ys _ e2 p))
 ·have e:i=kvs.length:=by omega
  subst e
  exact .inl ⟨⟨q,zqY _⟩,fun pp hp=>hd ys H pp p hp⟩
end L2
namespace ZP
open PySem L2 zM
theorem zbh {K:Frag}{H:Hp}{n:Nat}{p q:Addr}{xs ys:List Int}(hp:zT K H p (xs.map V.int))(hq:zT K H q (ys.map V.int)):Td K H (n+1) (.ref p) (.ref q) (decide (xs=ys)):=by
 by_cases hl:xs.length=ys.length
 ·have z:Td K H (n+1) (.ref p) (.ref q) ((List.range (xs.map V.int).length).all fun j=>decide (xs[j]?=ys[j]?)):=.ll hp hq (by rw[zqI,zqI];exact hl) fun j x y h1 h2=>by
   rw[zqK] at h1 h2
   cases hx:xs[j]? with
   | none=>rw[hx] at h1;cases h1
   | some a =>
    rw[hx] at h1
    cases h1
    cases hy:ys[j]? with
    | none=>rw[hy] at h2;cases h2
    | some b =>
     rw[hy] at h2
     cases h2
     have:=Td.flat (K:=K) (H:=H) (n:=n) (x:=.int a) (y:=.int b) rfl rfl
     rw[zis] at this
     rw[show decide (some a=some b)=decide (a=b) from decide_eq_decide.mpr ⟨zrc,fun e=>by rw[e]⟩]
     exact this
  have e:((List.range (xs.map V.int).length).all fun j=>decide (xs[j]?=ys[j]?))=decide (xs=ys):=by
   rw[zqI]
   by_cases h:xs=ys
   ·rw[decide_eq_true h]
    exact zrb.mpr fun j _=>decide_eq_true (by rw[h])
   ·rw[decide_eq_false h]
    cases hc:(List.range xs.length).all fun j=>decide (xs[j]?=ys[j]?) with
    | false=>rfl
    | true =>
     exfalso
     rw[zrb] at hc
     refine h (List.ext_getElem? fun j=>?_)
     by_cases hj:j<xs.length
     ·exact of_decide_eq_true (hc j (List.mem_range.mpr hj))
     ·rw[zrh (by omega),zrh (by omega)]
  rw[e] at z
  exact z
 ·rw[decide_eq_false (fun z=>hl (by rw[z]))]
  exact .ln hp hq (by rw[zqI,zqI];exact hl)
theorem zjb {α β:Type}{R:α->β->Prop}:∀{ts:List α} {ps:List β},Paired R ts ps->∃zs:List (α × β),ts=zs.map (·.1)/\ps=zs.map (·.2)/\∀z∈zs,R z.1 z.2
 | _,_,.nil=>⟨[],rfl,rfl,fun _ h=>by cases h⟩
 | _,_,.cons r t=>by
  obtain⟨zs,e1,e2,h⟩:=zjb t
  refine⟨(_,_)::zs,by rw[e1];rfl,by rw[e2];rfl,fun z hz=>?_⟩
  rcases List.mem_cons.mp hz with e | e
  ·rw[e];exact r
  ·exact h z e
theorem KJ {n j:Nat}(h:j<n):ixN n (j:Int)=some j:=by
 unfold ixN
 rw[if_pos (by omega),if_pos (by omega),zrk]
theorem ze4 {α:Type}{xs:List α}{i:Nat}{y z:α}(h:z∈xs.take i++y::xs.drop i):z=y\/z∈xs:=by
 rcases List.mem_append.mp h with e | e
 ·exact .inr (List.mem_of_mem_take e)
 ·rcases List.mem_cons.mp e with e | e
  ·exact .inl e
  ·exact .inr (List.mem_of_mem_drop e)
theorem ze5 {α:Type}{xs:List α}{i:Nat}{y:α}:(xs.take i++y::xs.drop i).length=xs.length+1:=by
 rw[zqQ,zqU,zq5,List.length_drop]
 omega
theorem ze6 {α β:Type}{f:α->β}{xs:List α}{i:Nat}{y:α}:(xs.map f).take i++f y::(xs.map f).drop i=(xs.take i++y::xs.drop i).map f:=by
 rw[zqW,zq6,List.map_take,List.map_drop]
theorem KN {α β:Type}{f:α->β}:∀{xs:List α} {i:Nat},(xs.map f).eraseIdx i=(xs.eraseIdx i).map f
 | [],_=>rfl
 | _::_,0=>rfl
 | x::xs,i+1=>congrArg (f x::·) (KN (xs:=xs) (i:=i))
theorem zg1 {rs:List Rm}{k i:Nat}{ms:List Int}{m:Int}(ZQ:yL rs k ms)(hm:ms[i]?=some m):m∉ms.take i:=fun hy=>by
 obtain⟨t,ht,et⟩:=zro hy
 rw[zq5] at ht
 rw[List.getElem_take] at et
 obtain⟨hi',ei'⟩:=zqL.mp hm
 have:=List.pairwise_iff_getElem.mp ZQ.up t i (by omega) hi' (by omega)
 rw[et,ei'] at this
 omega
theorem zbi {rs:List Rm}{k i g j:Nat}{ms:List Int}(ZQ:yL rs k ms)(hm:ms[i]?=some (j:Int))(hg:g<j)(rg:Reach rs k g):(g:Int)∈ms.take i:=by
 have mem:(g:Int)∈ms:=(ZQ.mem _).mpr ⟨g,rfl,rg⟩
 obtain⟨t,ht,et⟩:=zro mem
 obtain⟨hi',ei'⟩:=zqL.mp hm
 have hit:t<i:=by
  rcases Nat.lt_or_ge t i with z | z
  ·exact z
  ·exfalso
   rcases Nat.lt_or_ge i t with y | y
   ·have:=List.pairwise_iff_getElem.mp ZQ.up i t hi' ht y
    rw[et,ei'] at this
    omega
   ·have:t=i:=by omega
    subst this
    rw[et] at ei'
    omega
 rw[<-et]
 refine zqN (i:=t) ?_
 rw[List.getElem?_take,if_pos hit,zqJ ht]
theorem zg2 {K:Frag}{H:Hp}{n:Nat}{p q:Addr}{ts:List Addr}{ps:List (Int×Int)}(hp:zT K H p (ts.map V.ref))(hq:zT K H q (ts.map V.ref))(h1:Paired (fun t (p:Int×Int)=>H t=some (.tup [.int p.1,.int p.2])) ts ps):Td K H (n+2) (.ref p) (.ref q) true:=by
 have z:Td K H (n+2) (.ref p) (.ref q) ((List.range (ts.map V.ref).length).all fun _=>true):=.ll hp hq rfl fun j x y e1 e2=>by
  rw[e1] at e2
  cases e2
  rw[zqK] at e1
  cases ht:ts[j]? with
  | none=>rw[ht] at e1;cases e1
  | some t =>
   rw[ht] at e1
   cases e1
   obtain⟨m,a1,a2⟩:=uQ h1 ht
   have y:Td K H (n+1) (.ref t) (.ref t) ((List.range (min [V.int m.1,.int m.2].length [V.int m.1,.int m.2].length)).all (fun _=>true)&&[V.int m.1,.int m.2].length==[V.int m.1,.int m.2].length):=.tt (xM.of a2) (xM.of a2) fun i x y c1 c2=>by
    rw[c1] at c2
    cases c2
    have fl:xQ x=true/\∃i,x=.int i:=by
     match i,c1 with
     | 0,c1=>cases c1;exact⟨rfl,_,rfl⟩
     | 1,c1=>cases c1;exact⟨rfl,_,rfl⟩
    obtain⟨fl,i',rfl⟩:=fl
    have:=Td.flat (K:=K) (H:=H) (n:=n) fl fl
    rw[Jr fl] at this
    exact this
   exact y
 have e:((List.range (ts.map V.ref).length).all fun _=>true)=true:=zrb.mpr fun _ _=>rfl
 rw[e] at z
 exact z
section
variable {os:List Str}{t:Nat->Bool}
theorem zb3 {α:Type}{p q:α->Bool}:∀{l:List α},(∀a,p a=true->q a=true)->(∃a∈l,q a=true/\p a=false)->(l.filter p).length<(l.filter q).length
 | [],_,h=>by obtain⟨a,ha,_⟩:=h;cases ha
 | x::l,hpq,h=>by
  have le:(l.filter p).length<=(l.filter q).length:=by
   clear h
   induction l with
   | nil=>exact zqY _
   | cons y l ih =>
    rw[List.filter_cons,List.filter_cons]
    by_cases c:p y=true
    ·rw[if_pos c,if_pos (hpq y c),zqU,zqU];omega
    ·rw[if_neg c]
     split
     ·rw[zqU];omega
     ·exact ih
  rw[List.filter_cons,List.filter_cons]
  by_cases c:p x=true
  ·rw[if_pos c,if_pos (hpq x c),zqU,zqU]
   obtain⟨a,ha,h1,h2⟩:=h
   rcases List.mem_cons.mp ha with e | e
   ·rw[e,c] at h2;cases h2
   ·have:=zb3 (l:=l) hpq ⟨a,e,h1,h2⟩
    omega
  ·rw[if_neg c]
   by_cases d:q x=true
   ·rw[if_pos d,zqU];omega
   ·rw[if_neg d]
    obtain⟨a,ha,h1,h2⟩:=h
    rcases List.mem_cons.mp ha with e | e
    ·rw[e] at h1;exact absurd h1 d
    ·exact zb3 (l:=l) hpq ⟨a,e,h1,h2⟩
end
end ZP
namespace L2
open PySem
section
variable {K:Frag}{σ:St}{js:List Nat}{tt:TT}{te:TE}{H:Hp}{Qf:Addr->Hp->List V->Prop}
open ZP
theorem Vl {a:Addr}{xs:List V}(Pv:Nat->List V->Hp->Prop)(h0:Pv 0 [] H)(hz:xs.length<=sizeLine)
  (hl:∀i ys H,i<=xs.length->Pv i ys H->zT K H a xs/\ys.length<=i)
  (hs:∀i x ys H (Q:V->Hp->Prop),xs[i]?=some x->Pv i ys H->(∀v H3,Pv (i+1) (ys++[v]) H3->Q v H3)->te (YZ σ js (some x)) H Q)
  (hd:∀ys H p,Pv xs.length ys H->H p=none->Qf p H ys) :
  ∃W:Nat->Nat->List V->Hp->Prop,(∃m,W 0 m [] H)/\∀i m ys H,W i m ys H ->
   ((K9 K a).stop i H/\∀p,H p=none->Qf p H ys) \/
   ((K9 K a).go i H/\ys.length<sizeLine/\∀x H',(K9 K a).Kh i H x H'->R5 (YZ σ js (some x)) H' fun b H2 =>
    if b=true then te (YZ σ js (some x)) H2 fun v H3=>∃m',m'<m/\W (i+1) m' (ys++[v]) H3 else ∃m',m'<m/\W (i+1) m' ys H2):=by
 refine⟨fun i m ys H=>m=xs.length-i/\i<=xs.length/\Pv i ys H,⟨xs.length,by simp,zq4 _,h0⟩,?_⟩
 rintro i m ys H ⟨rfl,hi,p⟩
 obtain⟨q,hy⟩:=hl i ys H hi p
 by_cases hlt:i<xs.length
 ·refine .inr ⟨⟨xs,xs[i],q,by simp[hlt]⟩,by omega,fun x H' y=>?_⟩
  obtain⟨e,y⟩:=y
  subst e
  show te (YZ σ js (some x)) H' fun v H3=>∃m',m'<xs.length-i/\(m'=xs.length-(i+1)/\i+1<=xs.length/\Pv (i+1) (ys++[v]) H3)
  exact hs i x ys _ _ (y xs q) p fun v H3 h3=>⟨_,Nat.sub_lt_sub_left hlt (Nat.lt_succ_self i),rfl,hlt,h3⟩
 ·have e:i=xs.length:=by omega
  subst e
  exact .inl ⟨⟨xs,q,zqY _⟩,fun pp hp=>hd ys H pp p hp⟩
end
end L2
namespace zM
open ZP
theorem zj8 {n:Nat}{rs:List Rm}(B:Bk n rs){P:List Nat}:∀(m k:Nat),k<=m->k<rs.length->(∀j i lo hi,Reach rs k j->rs[j]?=some (some (i,lo,hi))->i∈P)->∃c:List Nat,c.length+1<=2^(P.filter fun p=>decide (zX n rs k<=p)).length/\∀j,Reach rs k j->j<2\/j∈c
 | m,k,hm,hk,hP=>by
  by_cases h2:2<=k
  ·obtain⟨i,lo,hi,e,hin,hlo,hhi,_,l1,l2⟩:=B.rm k h2 hk
   match m,hm with
   | 0,hm=>omega
   | m+1,hm =>
    obtain⟨c1,a1,a2⟩:=zj8 B m lo (by omega) (by omega) fun j i' l h r z=>hP j i' l h (.lo e r) z
    obtain⟨c2,b1,b2⟩:=zj8 B m hi (by omega) (by omega) fun j i' l h r z=>hP j i' l h (.hi e r) z
    have lk:zX n rs k=i:=wR B e
    have iP:=hP k i lo hi (.refl _) e
    have less:∀x,i<zX n rs x->(P.filter fun p=>decide (zX n rs x<=p)).length<(P.filter fun p=>decide (i<=p)).length:=fun x hx =>
     zb3 (fun a z=>by have:=of_decide_eq_true z;exact decide_eq_true (by omega)) ⟨i,iP,decide_eq_true (zqY _),decide_eq_false (by omega)⟩
    refine⟨k::(c1++c2),?_,fun j h=>?_⟩
    ·rw[lk,zqU,zqQ]
     obtain⟨d,hd⟩:∃d,(P.filter fun p=>decide (i<=p)).length=d+1:=⟨_,(Nat.succ_pred_eq_of_pos (Nat.lt_of_le_of_lt (zq4 _) (less lo l1))).symm⟩
     have q1:=less lo l1
     have q2:=less hi l2
     have p1:2^(P.filter fun p=>decide (zX n rs lo<=p)).length<=2^d:=zrd (by decide) (by omega)
     have p2:2^(P.filter fun p=>decide (zX n rs hi<=p)).length<=2^d:=zrd (by decide) (by omega)
     rw[hd,Nat.pow_succ]
     omega
    ·cases h with
     | refl _=>exact .inr zq1
     | lo e' h' =>
      rw[e] at e'
      cases e'
      rcases a2 j h' with z | z
      ·exact .inl z
      ·exact .inr (zqT _ (List.mem_append_left _ z))
     | hi e' h' =>
      rw[e] at e'
      cases e'
      rcases b2 j h' with z | z
      ·exact .inl z
      ·exact .inr (zqT _ (zqZ _ z))
  ·refine⟨[],Nat.one_le_two_pow,fun j h=>.inl ?_⟩
   have:k=0\/k=1:=by omega
   cases h with
   | refl _=>omega
   | lo e' _ =>
    exfalso
    rcases this with z | z<;>subst z
    ·rw[B.h0] at e';cases e'
    ·rw[B.h1] at e';cases e'
   | hi e' _ =>
    exfalso
    rcases this with z | z<;>subst z
    ·rw[B.h0] at e';cases e'
    ·rw[B.h1] at e';cases e'
end zM
namespace ZP
open PySem L2 zM
inductive Tt (C:Addr)(vs:List V)(H:Hp)(Q:VK)(E9:XK):Prop
 | mk (b:Addr) (os:List Str) (rs:List Rm) (F:yO) (k:Nat) (_:vs=[.ref b,.int k]) (_:z9 C H b os rs F) (_:k<rs.length) (_:(∀xs:List Nat,xs.Nodup->(∀x∈xs,Reach rs k x)->xs.length<=33)) (_:∀(l:Addr) (H':Hp) (ms:List Int),Same H H'->H l=none->H' l=some (.lst (ms.map V.int))->yL rs k ms->Q (.ref l) H'):Tt C vs H Q E9
theorem zfS (n:Nat):(List.replicate n true).all id=true:=by
 rw[zrb]
 intro x hx
 exact(List.mem_replicate.mp hx).2
end ZP
namespace L2
open PySem
section
variable {K:Frag}{σ:St}{js:List Nat}{te:TE}{H:Hp}{Qf:Addr->Hp->List V->Prop}
theorem zfT {a:Addr}{xs:List V}(hq:zT K H a xs)(hz:xs.length<=sizeLine)
  (hs:∀(i:Nat) x H' (Q:V->Hp->Prop),xs[i]?=some x->Same H H'->(∀H3,Same H' H3->Q (.bl true) H3)->te (YZ σ js (some x)) H' Q)
  (hd:∀H' p,Same H H'->H' p=none->Qf p H' ((List.replicate xs.length true).map V.bl)) :
  ∃W:Nat->Nat->List V->Hp->Prop,(∃m,W 0 m [] H)/\∀i m ys H,W i m ys H ->
   ((K9 K a).stop i H/\∀p,H p=none->Qf p H ys) \/
   ((K9 K a).go i H/\ys.length<sizeLine/\∀x H',(K9 K a).Kh i H x H'->R5 (YZ σ js (some x)) H' fun b H2 =>
    if b=true then te (YZ σ js (some x)) H2 fun v H3=>∃m',m'<m/\W (i+1) m' (ys++[v]) H3 else ∃m',m'<m/\W (i+1) m' ys H2):=by
 refine Vl (xs:=xs) (fun i ys H'=>Same H H'/\ys=(List.replicate i true).map V.bl) ⟨Same.refl _,rfl⟩ hz ?_ ?_ ?_
 ·rintro i ys H' hi ⟨g,rfl⟩
  exact⟨g.seq hq,by rw[zqI,List.length_replicate];exact zqY _⟩
 ·rintro i x ys H' Q0 hx ⟨g,rfl⟩ hQ
  refine hs i x H' Q0 hx g fun H3 g3=>hQ _ _ ⟨g.trans g3,?_⟩
  rw[List.replicate_succ',zqW]
  rfl
 ·rintro ys H' p ⟨g,rfl⟩ hp
  exact hd H' p g hp
end
end L2
namespace L2
open PySem PySem.Spec PyProof.Rows
section
variable {X:Cx}{pins:List (Addr×Obj)}{σ:St}{H:Hp}{s:Shared}
theorem ziz {p:Addr}{ys:List V}{bt:Nat->Nat->Bool}{kw:List (Str×Value)}{Q:VK}{E:Value->Shared->Prop}(I:Inv X pins σ H s)(hc:X.calm=true)(hu:X.A.units+9<cLine)(hkw:kw=[]\/∃d,kw=[(Str.ofString "default", d)])(hq:xM X.K H p ys)(h0:0<ys.length)
  (hcmp:∀(i j:Nat) x y,ys[i]?=some x->ys[j]?=some y->LtD X.K H 8 x y (bt i j))(q:∀v,ys[argBest bt (ys.length-1)]?=some v->Q v H) :
  wpAny (model X.prog X.w) X.A (call (.builtin "min") [.ref p] kw) (EP X pins σ Q) E s:=by
 have hname:(toString "min" ++ toString ".loop" : String)="min.loop" := by decide
 obtain⟨its,r',pl,hz⟩:=I.tuple hq
 have hlen:=r'.length
 have hlt:p<s.heap.objs.size:=by obtain⟨_,e,_⟩:=pl;exact zqP e
 have ha:argsOk "min" ⟨[.ref p],kw⟩:=by
  rcases hkw with rfl | ⟨d,rfl⟩
  ·exact F.args_min1 _
  ·exact V3 _ _
 have hb:∃d,Builtin.Builtins.bindParams "min" ["key", "default"] 0 ⟨[],kw⟩=pure [none,d]/\(d.toList.map fun d=>(Str.ofString "default", d))=kw:=by
  rcases hkw with rfl | ⟨d,rfl⟩
  ·exact⟨none,rfl,rfl⟩
  ·exact⟨some d,rfl,rfl⟩
 obtain⟨d,hb,ekw⟩:=hb
 refine kmk_tree F.kind_min F.plain_min F.entry_min ha ?_
 show wpAny _ X.A.in1 (Builtin.Builtins.bindParams "min" ["key", "default"] 0 ⟨[],kw⟩>>=_) _ _ s
 refine wpAny_bind (wpAny_of_eq hb ?_)
 refine wpAny_bind (wpAny_pure ?_)
 refine wpAny_bind (wpAny_pyIter_tuple (show s.heap.IsTuple p its.toArray from pl) ?_)
 refine wpAny_bind (wpAny_newObj_type ?_)
 rw[hname]
 refine wpAny_pure ⟨plainId_quiet F.plain_min_loop _,?_⟩
 show codeAny _ _ (.builtin "min.loop" ⟨[.ref s.heap.objs.size,.none,.ref _],d.toList.map fun d=>(Str.ofString "default", d)⟩) _ _
 rw[ekw]
 have szI:(s.heap.push { cls:=.type "tuple_iterator", data:=.fields #[.ref p,.int 0 0] }).objs.size=s.heap.objs.size+1:=Heap.size_push _ _
 have back:∀(i:Nat) (v:Value),its.toArray[i]?=some v->∃x,ys[i]?=some x/\RelV x v:=fun i v e=>by
  obtain⟨hi,e'⟩:=Array.getElem?_eq_some_iff.mp e
  obtain⟨x,hx,rx⟩:=item_at r' hi
  rw[e'] at rx
  exact⟨x,hx,rx⟩
 have kpS:∀b o,s.heap.get? b=some o->b≠s.heap.objs.size/\b≠s.heap.objs.size+1:=fun b o e=>by
  have:=zqP e
  exact⟨fun z=>by rw[z] at this;exact Nat.lt_irrefl _ this,fun z=>by rw[z] at this;exact Nat.lt_irrefl _ (Nat.lt_of_succ_lt this)⟩
 refine Ju (G:=fun s'=>∃h tk,s'={ s with heap:=h,toks:=tk }/\∀b o,s.heap.get? b=some o->h.get? b=some o) (Walks.tuple (A:=X.A.in1) (I.ok.hd hc) s.heap.objs.size p (zqX hlt) its.toArray) bt _ ?_ ?_ ?_ ?_ ⟨?_,?_⟩ ?_ (zq2 _ rfl) ?_
 ·rintro i j vi vj s' Q' E' hi hj ⟨h,tk,rfl,kp⟩ hQ
  obtain⟨x,hx,rx⟩:=back i vi hi
  obtain⟨y,hy,ry⟩:=back j vj hj
  exact(hcmp i j x y hx hy).at (I.kept (t':=tk) kp) rx ry (by show X.A.units+1+8<cLine;omega) _ _ _ _ hQ
 ·rintro s' h' tk hk ⟨h,tk2,rfl,kp⟩
  refine⟨h',tk,rfl,fun b o e=>hk b o ?_ ?_ (kp b o e)⟩
  ·rw[List.mem_singleton];exact(kpS b o e).1
  ·intro z
   rw[z] at e
   have:=zqP e
   rw[szI] at this
   exact Nat.lt_irrefl _ (Nat.lt_of_succ_lt this)
 ·intro hm
  have z:(s.heap.push { cls:=.type "tuple_iterator", data:=.fields #[.ref p,.int 0 0] }).objs.size=s.heap.objs.size\/(s.heap.push { cls:=.type "tuple_iterator", data:=.fields #[.ref p,.int 0 0] }).objs.size=p:=by simpa using hm
  rw[szI] at z
  rcases z with z | z
  ·exact absurd z (Nat.succ_ne_self _)
  ·rw[<-z] at hlt;exact Nat.lt_irrefl _ (Nat.lt_of_succ_lt hlt)
 ·rw[zqS];omega
 ·exact⟨_,zqO _ (zq2 _ rfl),rfl,rfl⟩
 ·exact((show s.heap.IsTuple p its.toArray from pl).push _).push _
 ·exact⟨_,_,rfl,fun b o e=>zqO _ (zqO _ e)⟩
 ·intro v h' tk hP hk
  obtain⟨x,hx,rx⟩:=back _ v hP
  have kp:∀b o,s.heap.get? b=some o->h'.get? b=some o:=fun b o e=>hk b o (by rw[List.mem_singleton];exact(kpS b o e).1) (fun z=>by
   rw[z] at e
   have:=zqP e
   rw[szI] at this
   exact Nat.lt_irrefl _ (Nat.lt_of_succ_lt this)) (zqO _ (zqO _ e))
  rw[zqS,<-hlen] at hx
  exact⟨x,H,I.kept kp,rx,q x hx⟩
theorem zbj {X:Cx}{K:Frag}(hK:X.K=K)(hc:X.calm=true)(hu:X.A.units+9<cLine):ZR X (.builtin "min") (fun xs H Q=>∃(p:Addr) (a b:Int),xs=[.ref p]/\xM K H p [.int a,.int b]/\Q (.int (if b<a then b else a)) H):=by
 subst hK
 intro pins s σ H xs us Q I r h
 obtain⟨p,a,b,rfl,hq,q⟩:=h
 obtain⟨u,rfl,rx⟩:=vals1 r
 cases rx
 refine ziz (bt:=fun i j=>decide ([a,b].getD i 0<[a,b].getD j 0)) I hc hu (.inl rfl) hq (by show 0<2;decide) (fun i j x y hx hy=>?_) fun v hv=>?_
 ·have e1:∀{i:Nat} {x:V},[V.int a,V.int b][i]?=some x->x=.int ([a,b].getD i 0):=fun {i x} h=>by
   match i,h with
   | 0,h=>cases h;rfl
   | 1,h=>cases h;rfl
  rw[e1 hx,e1 hy]
  exact LtD.int
 ·have e:argBest (fun i j=>decide ([a,b].getD i 0<[a,b].getD j 0)) 1=if b<a then 1 else 0:=by
   show(if decide (b<a)=true then 1 else 0)=_
   by_cases c:b<a
   ·rw[decide_eq_true c,if_pos rfl,if_pos c]
   ·rw[decide_eq_false c,if_neg zqM,if_neg c]
  rw[show [V.int a,V.int b].length-1=1 from rfl,e] at hv
  by_cases c:b<a
  ·rw[if_pos c] at hv q;cases hv;exact q
  ·rw[if_neg c] at hv q;cases hv;exact q
end
end L2
namespace L2
open PySem
theorem ziA {K:Frag}{σ:St}{js:List Nat}{tt:TT}{te:TE}{H:Hp}{Qf:Addr->Hp->List V->Prop}{a:Addr}{xs:List V}(p:V->Bool)(hq:∀H',Same H H'->xM K H' a xs)(hz:xs.length<=sizeLine)(hte:∀x H' Q,Q x H'->te (YZ σ js (some x)) H' Q)
  (hs:∀(i:Nat) x H' (Q:Bool->Hp->Prop),xs[i]?=some x->Same H H'->(∀H2,Same H H2->Q (p x) H2)->tt (YZ σ js (some x)) H' Q)
  (hd:∀H' l,Same H H'->H' l=none->Qf l H' (xs.filter p)) :
  ∃W:Nat->Nat->List V->Hp->Prop,(∃m,W 0 m [] H)/\∀i m ys H,W i m ys H ->
   ((Itt K a).stop i H/\∀p,H p=none->Qf p H ys) \/
   ((Itt K a).go i H/\ys.length<sizeLine/\∀x H',(Itt K a).Kh i H x H'->tt (YZ σ js (some x)) H' fun b H2 =>
    if b=true then te (YZ σ js (some x)) H2 fun v H3=>∃m',m'<m/\W (i+1) m' (ys++[v]) H3 else ∃m',m'<m/\W (i+1) m' ys H2):=by
 refine⟨fun i m ys H'=>m=xs.length-i/\i<=xs.length/\Same H H'/\ys=(xs.take i).filter p,⟨xs.length,by simp,zq4 _,Same.refl _,rfl⟩,?_⟩
 rintro i m ys H1 ⟨rfl,hi,g,rfl⟩
 have q:=hq _ g
 by_cases hlt:i<xs.length
 ·have hy:((xs.take i).filter p).length<=i:=zq3 (zrg _ _) (by rw[zq5];omega)
  refine .inr ⟨⟨xs,xs[i],q,by simp[hlt]⟩,by omega,fun x H' y=>?_⟩
  obtain⟨e,y⟩:=y
  subst e
  have hx:=y xs q
  have et:xs.take (i+1)=xs.take i++[x]:=by
   rw[List.take_add_one,hx]
   rfl
  refine hs i x H' _ hx g fun H2 g2=>?_
  cases c:p x with
  | true =>
   rw[if_pos rfl]
   refine hte _ _ _ ⟨_,Nat.sub_lt_sub_left hlt (Nat.lt_succ_self i),rfl,hlt,g2,?_⟩
   rw[et,List.filter_append,List.filter_cons_of_pos c]
   rfl
  | false =>
   rw[if_neg zqM]
   refine⟨_,Nat.sub_lt_sub_left hlt (Nat.lt_succ_self i),rfl,hlt,g2,?_⟩
   rw[et,List.filter_append,List.filter_cons_of_neg (by rw[c];exact zqM),List.filter_nil,List.append_nil]
 ·have e:i=xs.length:=by omega
  subst e
  refine .inl ⟨⟨xs,q,zqY _⟩,fun l hl=>?_⟩
  rw[zra]
  exact hd H1 l g hl
end L2
namespace zM
def JC (ws:List Wg):Nat->Nat->Row->Int
 | 0,_,_=>0
 | d+1,a,f=>w2 (ws.getD a (0,0)) (f a)+JC ws d (a+1) f
def lw (s:Wg):Int:=if s.2<s.1 then s.2 else s.1
def fr (ws:List Wg):Nat->Nat->Int
 | 0,_=>0
 | d+1,a=>lw (ws.getD a (0,0))+fr ws d (a+1)
theorem zly (s:Wg)(v:Bool):lw s<=w2 s v:=by
 unfold lw w2
 cases v<;>split<;>simp<;>omega
theorem zlz (s:Wg):∃v,w2 s v=lw s:=by
 unfold lw w2
 by_cases h:s.2<s.1
 ·exact⟨true,by rw[if_pos h];rfl⟩
 ·exact⟨false,by rw[if_neg h];rfl⟩
section
variable {ws:List Wg}
theorem Mw:∀(e d a:Nat) (f:Row),JC ws (e+d) a f=JC ws e a f+JC ws d (a+e) f
 | 0,d,a,f=>by rw[Nat.zero_add];show _=(0:Int)+_;rw[Int.zero_add];rfl
 | e+1,d,a,f=>by
  rw[show e+1+d=e+d+1 by omega]
  show w2 _ _+JC ws (e+d) (a+1) f=w2 _ _+JC ws e (a+1) f+_
  rw[Mw e d (a+1) f,show a+1+e=a+(e+1) by omega]
  omega
theorem Vm:∀(d a:Nat) {f f':Row},(∀k,a<=k->k<a+d->f k=f' k)->JC ws d a f=JC ws d a f'
 | 0,_,_,_,_=>rfl
 | d+1,a,f,f',h=>by
  show w2 _ _+JC ws d (a+1) f=w2 _ _+JC ws d (a+1) f'
  rw[h a (zqY _) (by omega),Vm d (a+1) fun k h1 h2=>h k (by omega) (by omega)]
theorem zjc:∀(d a:Nat) (f:Row),fr ws d a<=JC ws d a f
 | 0,_,_=>Int.le_refl _
 | d+1,a,f=>by
  have h1:=zly (ws.getD a (0,0)) (f a)
  have h2:=zjc d (a+1) f
  show lw _+fr ws d (a+1)<=w2 _ _+JC ws d (a+1) f
  omega
theorem zjd:∀(d a:Nat),∃f:Row,JC ws d a f=fr ws d a
 | 0,_=>⟨fun _=>false,rfl⟩
 | d+1,a=>by
  obtain⟨f,e⟩:=zjd d (a+1)
  obtain⟨v,ev⟩:=zlz (ws.getD a (0,0))
  refine⟨fun k=>if k=a then v else f k,?_⟩
  show w2 _ (if a=a then v else f a)+JC ws d (a+1) _=lw _+fr ws d (a+1)
  rw[if_pos rfl,ev,<-e]
  congr 1
  exact Vm d (a+1) fun k h1 _=>if_neg (by omega)
def LB (ws:List Wg)(d a:Nat)(g:Row->Bool)(x:Int):Prop:=(∃f,g f=true/\JC ws d a f=x)/\∀f,g f=true->x<=JC ws d a f
def LBo (ws:List Wg)(d a:Nat)(g:Row->Bool):Option Int->Prop
 | none=>∀f,g f=false
 | some x=>LB ws d a g x
theorem LBo.one {d a:Nat}{g:Row->Bool}{o p:Option Int}(h1:LBo ws d a g o)(h2:LBo ws d a g p):o=p:=by
 cases o with
 | none =>
  cases p with
  | none=>rfl
  | some y=>obtain⟨f,e,_⟩:=h2.1;rw[h1 f] at e;cases e
 | some x =>
  cases p with
  | none=>obtain⟨f,e,_⟩:=h1.1;rw[h2 f] at e;cases e
  | some y =>
   obtain⟨f,e1,e2⟩:=h1.1
   obtain⟨f',e3,e4⟩:=h2.1
   have a1:=h1.2 f' e3
   have a2:=h2.2 f e1
   congr 1
   omega
theorem LB.up {d a e n:Nat}{g:Row->Bool}{x:Int}(hn:a+e+d=n)(dep:Dep n (a+e) g)(h:LB ws d (a+e) g x):LB ws (e+d) a g (fr ws e a+x):=by
 obtain⟨⟨f,g1,g2⟩,h2⟩:=h
 obtain⟨f0,e0⟩:=zjd (ws:=ws) e a
 refine⟨⟨fun k=>if k<a+e then f0 k else f k,?_,?_⟩,fun f' hf'=>?_⟩
 ·rw[<-g1]
  exact dep _ _ fun i h1 h2=>if_neg (by omega)
 ·rw[Mw,<-e0,<-g2]
  congr 1
  ·exact Vm e a fun k h1 h2=>if_pos h2
  ·exact Vm d (a+e) fun k h1 _=>if_neg (by omega)
 ·rw[Mw]
  have:=zjc (ws:=ws) e a f'
  have:=h2 f' hf'
  omega
def lo2:Option Int->Option Int->Option Int
 | none,o=>o
 | o,none=>o
 | some x,some y=>some (if y<x then y else x)
section
variable {n:Nat}{rs:List Rm}(B:Bk n rs)
include B
def Qd (ws:List Wg)(n:Nat)(rs:List Rm)(i c:Nat)(v:Bool)(o:Option Int):Option Int:=o.map fun x=>w2 (ws.getD i (0,0)) v+fr ws (zX n rs c-(i+1)) (i+1)+x
theorem LBo.node {j i lo hi:Nat}(e:rs[j]?=some (some (i,lo,hi)))(hj:j<rs.length){o p:Option Int}(h1:LBo ws (n-zX n rs lo) (zX n rs lo) (yes rs lo) o)(h2:LBo ws (n-zX n rs hi) (zX n rs hi) (yes rs hi) p) :
  LBo ws (n-zX n rs j) (zX n rs j) (yes rs j) (lo2 (Qd ws n rs i lo false o) (Qd ws n rs i hi true p)):=by
 obtain⟨jl,jh,l1,l2,_⟩:=KD B e hj
 have a1:=Tg B lo jl
 have a2:=Tg B hi jh
 rw[wR B e]
 have st:=XF B e
 have side:∀{c:Nat} {v:Bool} {q:Option Int},c<rs.length->i<zX n rs c->zX n rs c<=n->(∀f:Row,f i=v->yes rs j f=yes rs c f)->LBo ws (n-zX n rs c) (zX n rs c) (yes rs c) q ->
   match Qd ws n rs i c v q with
   | none=>∀f:Row,f i=v->yes rs j f=false
   | some x=>(∃f:Row,f i=v/\yes rs j f=true/\JC ws (n-i) i f=x)/\∀f:Row,f i=v->yes rs j f=true->x<=JC ws (n-i) i f:=by
  intro c v q hc hl hn eq hq
  cases q with
  | none=>exact fun f hf=>by rw[eq f hf];exact hq f
  | some x =>
   have U:=LB.up (ws:=ws) (a:=i+1) (e:=zX n rs c-(i+1)) (d:=n-zX n rs c) (n:=n) (by omega) (zbY B hc (by omega)) (by rw[show i+1+(zX n rs c-(i+1))=zX n rs c by omega];exact hq)
   rw[show zX n rs c-(i+1)+(n-zX n rs c)=n-(i+1) by omega] at U
   have ed:n-i=n-(i+1)+1:=by omega
   refine⟨?_,fun f hf hy=>?_⟩
   ·obtain⟨f,f1,f2⟩:=U.1
    have same:yes rs c (fun k=>if k=i then v else f k)=true:=by
     rw[<-f1]
     exact zbY B hc (m:=i+1) (by omega) _ _ fun k h1 _=>if_neg (by omega)
    refine⟨fun k=>if k=i then v else f k,if_pos rfl,by rw[eq _ (if_pos rfl)];exact same,?_⟩
    rw[ed]
    show w2 _ (if i=i then v else f i)+JC ws (n-(i+1)) (i+1) _=w2 _ v+_+_
    rw[if_pos rfl,Vm (n-(i+1)) (i+1) (f':=f) fun k h1 _=>if_neg (by omega),f2]
    omega
   ·rw[ed]
    show w2 _ v+_+_<=w2 _ (f i)+JC ws (n-(i+1)) (i+1) f
    have:=U.2 f (by rw[<-eq f hf];exact hy)
    rw[hf]
    omega
 have s0:=side (v:=false) jl l1 a1 (fun f hf=>by rw[st f,hf];rfl) h1
 have s1:=side (v:=true) jh l2 a2 (fun f hf=>by rw[st f,hf];rfl) h2
 generalize Qd ws n rs i lo false o=x0 at s0 ⊢
 generalize Qd ws n rs i hi true p=x1 at s1 ⊢
 have zc8:∀f:Row,f i=false\/f i=true:=fun f=>by cases f i<;>simp
 cases x0 with
 | none =>
  cases x1 with
  | none=>exact fun f=>(zc8 f).elim (s0 f) (s1 f)
  | some y =>
   obtain⟨⟨f,_,f2,f3⟩,m⟩:=s1
   exact⟨⟨f,f2,f3⟩,fun f' h'=>(zc8 f').elim (fun z=>by rw[s0 f' z] at h';cases h') fun z=>m f' z h'⟩
 | some x =>
  obtain⟨⟨f,_,f2,f3⟩,m⟩:=s0
  cases x1 with
  | none=>exact⟨⟨f,f2,f3⟩,fun f' h'=>(zc8 f').elim (fun z=>m f' z h') fun z=>by rw[s1 f' z] at h';cases h'⟩
  | some y =>
   obtain⟨⟨g,_,g2,g3⟩,m'⟩:=s1
   show LB ws (n-i) i (yes rs j) (if y<x then y else x)
   by_cases c:y<x
   ·rw[if_pos c]
    exact⟨⟨g,g2,g3⟩,fun f' h'=>(zc8 f').elim (fun z=>Int.le_of_lt (Int.lt_of_lt_of_le c (m f' z h'))) fun z=>m' f' z h'⟩
   ·rw[if_neg c]
    exact⟨⟨f,f2,f3⟩,fun f' h'=>(zc8 f').elim (fun z=>m f' z h') fun z=>Int.le_trans (by omega) (m' f' z h')⟩
theorem ziB:∀(k j:Nat),j<=k->j<rs.length->∃o,LBo ws (n-zX n rs j) (zX n rs j) (yes rs j) o:=by
 intro k
 induction k with
 | zero =>
  intro j h1 h2
  have:j=0:=by omega
  subst this
  exact⟨none,fun f=>Jt B f⟩
 | succ k ih =>
  intro j h1 h2
  by_cases c:2<=j
  ·obtain⟨i,lo,hi,e,_,a1,a2,_⟩:=B.rm j c h2
   obtain⟨o,ho⟩:=ih lo (by omega) (by omega)
   obtain⟨p,hp⟩:=ih hi (by omega) (by omega)
   exact⟨_,LBo.node B e h2 ho hp⟩
  ·rcases (by omega:j=0\/j=1) with z | z<;>subst z
   ·exact⟨none,fun f=>Jt B f⟩
   ·refine⟨some 0,⟨⟨fun _=>false,Xa B _,?_⟩,fun f _=>?_⟩⟩
    ·rw[Wo B,Nat.sub_self];rfl
    ·rw[Wo B,Nat.sub_self];exact Int.le_refl _
end
noncomputable def ld (ws:List Wg) (n:Nat) (rs:List Rm) (j:Nat):Option Int:=by
 classical
 exact if h:∃o,LBo ws (n-zX n rs j) (zX n rs j) (yes rs j) o then h.choose else none
section
variable {n:Nat}{rs:List Rm}(B:Bk n rs)
include B
theorem Pg {j:Nat}(hj:j<rs.length):LBo ws (n-zX n rs j) (zX n rs j) (yes rs j) (ld ws n rs j):=by
 have h:=ziB (ws:=ws) B j j (zqY _) hj
 unfold ld
 rw[dif_pos h]
 exact h.choose_spec
theorem ziC:ld ws n rs 0=none:=by
 refine(Pg (ws:=ws) B (by have:=len2 B;omega)).one ?_
 exact fun f=>Jt B f
theorem zj9:ld ws n rs 1=some 0:=by
 refine(Pg (ws:=ws) B (by have:=len2 B;omega)).one ⟨⟨fun _=>false,Xa B _,?_⟩,fun f _=>?_⟩
 ·rw[Wo B,Nat.sub_self];rfl
 ·rw[Wo B,Nat.sub_self];exact Int.le_refl _
theorem ziD {j i lo hi:Nat}(e:rs[j]?=some (some (i,lo,hi)))(hj:j<rs.length):ld ws n rs j=lo2 (Qd ws n rs i lo false (ld ws n rs lo)) (Qd ws n rs i hi true (ld ws n rs hi)):=by
 obtain⟨jl,jh,_⟩:=KD B e hj
 exact(Pg B hj).one (LBo.node B e hj (Pg B jl) (Pg B jh))
end
end
theorem zg3:∀(ws:List Wg) (r:List Bool) (a:Nat) (vs:List Wg),vs.drop a=ws->r.length=ws.length->∀(f:Row),(∀k,k<r.length->f (a+k)=r.getD k false)->wg ws r=JC vs r.length a f
 | [],r,a,vs,_,hl,f,_=>by
  cases r with
  | nil=>rfl
  | cons _ _=>cases hl
 | s::ws,r,a,vs,hd,hl,f,hf=>by
  cases r with
  | nil=>cases hl
  | cons b r =>
   have ha:a<vs.length:=by
    rcases Nat.lt_or_ge a vs.length with z | z
    ·exact z
    ·rw[List.drop_eq_nil_of_le z] at hd;cases hd
   rw[List.drop_eq_getElem_cons ha] at hd
   injection hd with h1 h2
   have ih:=zg3 ws r (a+1) vs h2 (by simpa using hl) f fun k hk=>by
    have:=hf (k+1) (by simp;omega)
    rw[show a+1+k=a+(k+1) by omega,this]
    rfl
   have e0:=hf 0 (by simp)
   show(w2 s b::wgl ws r).sum=w2 (vs.getD a (0,0)) (f a)+JC vs r.length (a+1) f
   rw[List.sum_cons,zqV,zqJ ha,<-ih]
   rw[show f a=b from e0]
   show w2 s b+_=w2 (vs[a]) b+_
   rw[h1]
   rfl
end zM
namespace ZP
open PySem L2 zM
theorem ze7 {xs:List V}{m n:Nat}(hm:m<=n)(hn:n<=xs.length):WQ xs (some ((m:Nat):Int)) (some ((n:Nat):Int))=(xs.drop m).take (n-m):=by
 unfold WQ
 have e1:min m xs.length=m:=Nat.min_eq_left (by omega)
 have e2:min n xs.length=n:=Nat.min_eq_left hn
 rw[HT.VF,HT.VF,e1,e2]
def yR:Option Int->V
 | none=>.non
 | some x=>.int x
section
variable (C:Addr)(K:Frag)
inductive WY (vs:List V)(H:Hp)(Q:VK)(E9:XK):Prop
 | mk (b l d:Addr) (os:List Str) (rs:List Rm) (F:yO) (j i lo hi:Nat) (v:Bool) (ps:List Addr) (ws:List Wg) (kvs:List (Key×V)) (x:Int) (_:vs=[.ref b,.int (j:Nat),.int (v.toNat:Nat),.ref l,.ref d]) (_:z9 C H b os rs F) (_:rs[j]?=some (some (i,lo,hi))) (_:yW K H l ps ws os.length) (_:H d=some (.dK kvs)) (_:xV kvs (iK ((if v then hi else lo:Nat):Int))=some (.int x)) (_:∀H',Same H H'->Q (.int (zM.w2 (ws.getD i (0,0)) v+fr ws (zX os.length rs (if v then hi else lo)-(i+1)) (i+1)+x)) H'):WY vs H Q E9
inductive JD (vs:List V)(H:Hp)(Q:VK)(E9:XK):Prop
 | mk (b l d:Addr) (os:List Str) (rs:List Rm) (F:yO) (j:Nat) (ps:List Addr) (ws:List Wg) (kvs:List (Key×V)) (_:vs=[.ref b,.int (j:Nat),.ref l,.ref d]) (_:z9 C H b os rs F) (_:j<rs.length) (_:yW K H l ps ws os.length) (_:H d=some (.dK kvs)) (_:(∀i lo hi,rs[j]?=some (some (i,lo,hi))->xV kvs (iK lo)=some (yR (ld ws os.length rs lo))/\xV kvs (iK hi)=some (yR (ld ws os.length rs hi)))) (_:∀H',Same H H'->Q (yR (ld ws os.length rs j)) H'):JD vs H Q E9
def LdP (ws:List Wg)(n:Nat)(rs:List Rm)(H:Hp)(t:Addr)(m:Int):Prop:=H t=some (.tup [.int m,yR (ld ws n rs m.toNat)])
end
theorem zed {ws:List Wg}:∀(d a:Nat),a+d<=ws.length->(((ws.drop a).take d).map lw).sum=fr ws d a
 | 0,_,_=>by rw[List.take_zero];rfl
 | d+1,a,h=>by
  rw[List.drop_eq_getElem_cons (by omega),List.take_succ_cons,zq6,List.sum_cons,zed d (a+1) (by omega)]
  show _=lw (ws.getD a (0,0))+_
  rw[zqV,zqJ (by omega)]
  rfl
end ZP
namespace ZP
open PySem L2
def Sn.sup:Sn->List Str
 | .c0 _=>[]
 | .mk x=>[x]
 | .nt s=>s.sup
 | .b2 _ s t=>s.sup++t.sup
 | .q1 _ _ s=>s.sup
theorem Sn.S8:∀(s:Sn) {f g:Str->Bool},(∀x∈s.sup,f x=g x)->s.val f=s.val g
 | .c0 _,f,g,_=>rfl
 | .mk x,f,g,h=>h x (List.mem_singleton.mpr rfl)
 | .nt s,f,g,h=>by
  show(!s.val f)=!s.val g
  rw[Sn.S8 s h]
 | .b2 o s t,f,g,h=>by
  have h1:=Sn.S8 s (f:=f) (g:=g) fun x hx=>h x (List.mem_append_left _ hx)
  have h2:=Sn.S8 t (f:=f) (g:=g) fun x hx=>h x (zqZ _ hx)
  unfold Sn.val
  rw[h1,h2]
 | .q1 o y s,f,g,h=>by
  have h1:=Sn.S8 s (f:=fun z=>if z=y then false else f z) (g:=fun z=>if z=y then false else g z) fun x hx=>by
   show(if x=y then false else f x)=if x=y then false else g x
   rw[h x hx]
  have h2:=Sn.S8 s (f:=fun z=>if z=y then true else f z) (g:=fun z=>if z=y then true else g z) fun x hx=>by
   show(if x=y then true else f x)=if x=y then true else g x
   rw[h x hx]
  cases o<;>(unfold Sn.val;rw[h1,h2])
def Few (ss:List Sn):Prop:=∀R:List Sn,(∀r∈R,r∈ss)->∃P:List Str,2*P.length<=ss.length+R.length/\∀r∈R,∀x∈r.sup,x∈P
open Classical in
theorem Few.push {ss:List Sn}(F:Few ss){s:Sn}(cs:List Sn)(xs:List Str)(hc:∀c∈cs,c∈ss)(hs:∀x∈s.sup,x∈xs\/∃c∈cs,x∈c.sup)(hn:2*xs.length+cs.length<=2):Few (ss++[s]):=fun R hR=>by
 have hl:(ss++[s]).length=ss.length+1:=by rw[zqQ];rfl
 by_cases h:∀r∈R,r∈ss
 ·obtain⟨P,h1,h2⟩:=F R h
  exact⟨P,by omega,h2⟩
 ·obtain⟨r0,h0⟩:=Classical.not_forall.mp h
  have ⟨h0,h0'⟩:=Classical.not_imp.mp h0
  have lt:(R.filter fun r=>decide (r∈ss)).length<R.length:=List.length_filter_lt_length_iff_exists.mpr ⟨r0,h0,by simpa using h0'⟩
  obtain⟨P,h1,h2⟩:=F (R.filter (fun r=>decide (r∈ss))++cs) fun r hr=>by
   rcases List.mem_append.mp hr with z | z
   ·exact of_decide_eq_true (List.mem_filter.mp z).2
   ·exact hc r z
  rw[zqQ] at h1
  refine⟨P++xs,by rw[zqQ];omega,fun r hr x hx=>?_⟩
  by_cases z:r∈ss
  ·exact List.mem_append_left _ (h2 r (List.mem_append_left _ (List.mem_filter.mpr ⟨hr,decide_eq_true z⟩)) x hx)
  ·have e:r=s:=by
    rcases List.mem_append.mp (hR r hr) with y | y
    ·exact absurd y z
    ·exact List.mem_singleton.mp y
   subst e
   rcases hs x hx with y | ⟨c,hc',y⟩
   ·exact zqZ _ y
   ·exact List.mem_append_left _ (h2 c (zqZ _ hc') x y)
theorem Few.none:Few []:=fun R hR=>⟨[],by show 2*0<=0+R.length;omega,fun r hr=>absurd (hR r hr) zq8⟩
theorem Few.last {ss:List Sn}(F:Few ss){s:Sn}(h:s∈ss):∃P:List Str,2*P.length<=ss.length+1/\∀x∈s.sup,x∈P:=by
 obtain⟨P,h1,h2⟩:=F [s] fun r hr=>by rw[List.mem_singleton.mp hr];exact h
 exact⟨P,h1,h2 s (List.mem_singleton.mpr rfl)⟩
structure zbk (H0 H:Hp)(os:List Str)(m kd:Addr)(ps:List Addr)(d:Nat)(ss:List Sn):Prop where
 M:Made H0 H os m kd ps d
 few:Few ss
 len:ss.length=ps.length
 all:∀p∈ps,∃s,s∈ss/\SQ H s p/\s.Qx os/\s.depth<=d
theorem zbk.push {H0 H:Hp}{os:List Str}{m kd p:Addr}{ps:List Addr}{d:Nat}{xs:List V}{ss:List Sn}(N:zbk H0 H os m kd ps d ss)(fm:H0 m=none)(hp:H p=none){s:Sn}(hs:SQ (upd H p (.tup xs)) s p)(ho:s.Qx os)(hd:s.depth<=d+1)(hk:m≠kd)(fw:Few (ss++[s])) :
  zbk H0 (upd (upd H p (.tup xs)) m (.lst ((ps++[p]).map V.ref))) os m kd (ps++[p]) (d+1) (ss++[s]):=by
 have M:=N.M
 have hm:m≠p:=zB M.mad hp
 have mad':(upd H p (.tup xs)) m=some (.lst (ps.map V.ref)):=by rw[zE hm];exact M.mad
 have t1:yN H (upd H p (.tup xs)):=yN.new hp _
 have t2:yN (upd H p (.tup xs)) (upd (upd H p (.tup xs)) m (.lst ((ps++[p]).map V.ref))):=yN.lst mad' _
 refine⟨M.push fm hp hs ho hd hk,fw,by rw[zqQ,zqQ,N.len];rfl,fun q hq=>?_⟩
 rcases List.mem_append.mp hq with z | z
 ·obtain⟨s',q0,q1,q2,q3⟩:=N.all q z
  exact⟨s',List.mem_append_left _ q0,(q1.mono t1).mono t2,q2,by omega⟩
 ·have z':q=p:=by simpa using z
  subst z'
  exact⟨s,zqZ _ (List.mem_singleton.mpr rfl),hs.mono t2,ho,hd⟩
inductive Tv (K:Frag)(vs:List V)(H:Hp)(Q:VK)(E9:XK):Prop
 | mk (sc ol:Addr) (ns:List Int) (t m:Nat) (os:List Str) (_:vs=[.ref sc,.int t,.int m,.ref ol]) (_:zT K H sc (ns.map V.int)) (_:zT K H ol (os.map V.str)) (_:0<os.length) (_:os.length<=8) (_:0<m) (_:m<=40) (_:t<=60) (_:∀(p:Addr) (H':Hp) (s:Sn),Same H H'->SQ H' s p->s.Qx os->s.depth<=m->(∃P:List Str,2*P.length<=m+1/\∀x∈s.sup,x∈P)->Q (.ref p) H'):Tv K vs H Q E9
end ZP
namespace ZP
open PySem L2 zM
theorem zee {os:List Str}{rs:List Rm}(B:Bk os.length rs){k j i lo hi:Nat}(hk:k<rs.length)(fr:∀(R:Row) (v:Bool),yes rs k (put R i v)=yes rs k R)(h:Reach rs k j)(e:rs[j]?=some (some (i,lo,hi))):False:=by
 have j2:2<=j:=by
  rcases Nat.lt_or_ge j 2 with z | z
  ·have:j=0\/j=1:=by omega
   rcases this with z | z
   ·rw[z,B.h0] at e;cases e
   ·rw[z,B.h1] at e;cases e
  ·exact z
 have jl:j<rs.length:=(zqL.mp e).1
 obtain⟨i',lo',hi2,e',hin,llo,lhi,hne,l1,l2⟩:=B.rm j j2 jl
 rw[e] at e'
 cases e'
 obtain⟨ρ,hρ⟩:=zd6 B hk h
 have lm:zX os.length rs j=i:=wR B e
 refine hne ?_
 refine zc6 B (by omega) (by omega) fun r hr=>?_
 have key:∀v,yes rs j (put (Zk r) i v)=yes rs k (mxr ρ (Zk r) i):=fun v=>by
  rw[hρ,lm,<-fr (mxr ρ (Zk r) i) v]
  congr 1
  funext p
  by_cases h1:p<i
  ·rw[Jv h1]
   unfold put
   rw[if_neg (by omega),Jv h1]
  ·rw[zbX (by omega)]
   unfold put
   by_cases h2:p=i
   ·rw[if_pos h2,if_pos h2]
   ·rw[if_neg h2,if_neg h2,zbX (by omega)]
 obtain⟨y0,y1⟩:=Zi B e jl (Zk r)
 rw[<-y0,<-y1,key,key]
def zas (rs:List Rm)(k:Nat):Prop:=∀xs:List Nat,xs.Nodup->(∀x∈xs,Reach rs k x)->xs.length<=33
theorem ze8 {os:List Str}{rs:List Rm}(B:Bk os.length rs){k:Nat}{s:Sn}(m:Means rs k (fun r=>s.val (zj0 os r))){P:List Str}(hP:2*P.length<=8)(h:∀x∈s.sup,x∈P):zas rs k:=fun xs nd hx=>by
 obtain⟨c,c1,c2⟩:=zj8 B (P:=P.map (ix os)) k k (zqY _) m.1 fun j i lo hi r e=>Decidable.byContradiction fun hi'=>by
  refine zee B m.1 (fun R v=>?_) r e
  rw[m.2,m.2]
  refine Sn.S8 s fun x hx=>?_
  unfold zj0 put
  have:ix os x≠i:=fun z=>hi' (List.mem_map.mpr ⟨x,h x hx,z⟩)
  rw[if_neg this]
 have q:=sub_len (ys:=0::1::c) nd fun x hx'=>by
  rcases c2 x (hx x hx') with z | z
  ·have:x=0\/x=1:=by omega
   rcases this with w | w<;>simp[w]
  ·exact zqT _ (zqT _ z)
 have l4:(P.map (ix os)).length<=4:=by rw[zqI];omega
 have lf:=zrg (fun p=>decide (zX os.length rs k<=p)) (P.map (ix os))
 have p:2^((P.map (ix os)).filter fun p=>decide (zX os.length rs k<=p)).length<=2^4:=zrd (by decide) (by omega)
 rw[zqU,zqU] at q
 have:2^4=16:=rfl
 omega
section
variable (C:Addr)(K:Frag)
inductive Ph (vs:List V)(H:Hp)(Q:VK)(E9:XK):Prop
 | mk (b:Addr) (os:List Str) (rs:List Rm) (F:yO) (k:Nat) (_:vs=[.ref b,.int k]) (_:z9 C H b os rs F) (_:k<rs.length) (_:zas rs k) (_:∀(l:Addr) (H':Hp) (ms:List Int),Same H H'->H l=none->H' l=some (.lst (ms.map V.int))->yL rs k ms->Q (.ref l) H'):Ph vs H Q E9
inductive JF (vs:List V)(H:Hp)(Q:VK)(E9:XK):Prop
 | mk (b l:Addr) (os:List Str) (rs:List Rm) (F:yO) (k:Nat) (ps:List Addr) (ws:List Wg) (_:vs=[.ref b,.int (k:Nat),.ref l]) (_:z9 C H b os rs F) (_:k<rs.length) (_:zas rs k) (_:yW K H l ps ws os.length) (_:∀(r:Addr) (ts:List Addr) (ms:List Int) (H':Hp),Same H H'->H r=none->yL rs k ms->Paired (fun t m=>H t=none/\LdP ws os.length rs H' t m) ts ms->H' r=some (.lst (ts.map V.ref))->Q (.ref r) H'):JF vs H Q E9
end
section
variable {α β:Type}{R S:α->β->Prop}
theorem zg5:∀{xs:List α} {ys:List β} (i:Nat),Paired R xs ys->Paired R (xs.eraseIdx i) (ys.eraseIdx i)
 | [],[],_,.nil=>.nil
 | x::xs,y::ys,0,.cons _ t=>t
 | x::xs,y::ys,i+1,.cons h t=>.cons h (zg5 i t)
theorem ze9:∀{xs:List α} {ys:List β} (i:Nat),Paired R xs ys->Paired R (xs.drop i) (ys.drop i)
 | [],[],_,.nil=>by simp only[List.drop_nil];exact .nil
 | x::xs,y::ys,0,.cons h t=>.cons h t
 | x::xs,y::ys,i+1,.cons h t=>ze9 i t
end
def exL (ws:List Wg)(n:Nat)(rs:List Rm)(c:Int->Option Int)(j:Nat):Option Int:=match rs[j]? with
 | some (some (i,lo,hi))=>lo2 (Qd ws n rs i lo false (c lo)) (Qd ws n rs i hi true (c hi))
 | _=>if j=0 then none else some 0
theorem JG {ws:List Wg}{n:Nat}{rs:List Rm}{c:Int->Option Int}(B:Bk n rs):exL ws n rs c 0=none:=by unfold exL;rw[B.h0];rfl
theorem zb4 {ws:List Wg}{n:Nat}{rs:List Rm}{c:Int->Option Int}(B:Bk n rs):exL ws n rs c 1=some 0:=by unfold exL;rw[B.h1];rfl
theorem JH {ws:List Wg}{n:Nat}{rs:List Rm}{c:Int->Option Int}{j i lo hi:Nat}(e:rs[j]?=some (some (i,lo,hi))):exL ws n rs c j=lo2 (Qd ws n rs i lo false (c lo)) (Qd ws n rs i hi true (c hi)):=by unfold exL;rw[e]
theorem zg6 {ws:List Wg}{n:Nat}{rs:List Rm}(B:Bk n rs){j:Nat}(hj:j<rs.length){c:Int->Option Int}(hc:∀i lo hi,rs[j]?=some (some (i,lo,hi))->c lo=ld ws n rs lo/\c hi=ld ws n rs hi):exL ws n rs c j=ld ws n rs j:=by
 by_cases h2:2<=j
 ·obtain⟨i,lo,hi,e,_⟩:=B.rm j h2 hj
  obtain⟨h1,h2⟩:=hc i lo hi e
  rw[JH e,ziD B e hj,h1,h2]
 ·rcases (by omega:j=0\/j=1) with z | z<;>subst z
  ·rw[JG B,ziC B]
  ·rw[zb4 B,zj9 B]
theorem ziE {o p:Option Int}:yR o=yR p↔o=p:=by
 constructor
 ·intro h
  cases o<;>cases p
  ·rfl
  ·cases h
  ·cases h
  ·injection h with h;rw[h]
 ·intro h;rw[h]
theorem zfa (o p:Option Int):zgb (yR o) (yR p)=true:=by cases o<;>cases p<;>rfl
theorem zg7 (o p:Option Int):decide (yR o=yR p)=decide (o=p):=decide_eq_decide.mpr ziE
theorem ziF (o:Option Int):xQ (yR o)=true:=by cases o<;>rfl
theorem zka (o:Option Int):(!decide (yR o=V.non))=o.isSome:=by
 cases o with
 | none=>rw[decide_eq_true (show yR none=V.non from rfl)];rfl
 | some x=>rw[decide_eq_false (fun z=>by cases z)];rfl
def vK (ps:List (Int×Option Int))(m:Int):Option Int:=((ps.find? fun p=>decide (p.1=m)).map (·.2)).getD none
theorem Tw:∀{ps:List (Int×Option Int)},(ps.map (·.1)).Nodup->∀p∈ps,vK ps p.1=p.2
 | [],_,p,h=>by cases h
 | x::ps,nd,p,h=>by
  rw[zq6,List.nodup_cons] at nd
  unfold vK
  by_cases e:x.1=p.1
  ·rw[List.find?_cons,decide_eq_true e]
   rcases List.mem_cons.mp h with z | z
   ·rw[z];rfl
   ·exact absurd (List.mem_map.mpr ⟨p,z,e.symm⟩) nd.1
  ·rw[List.find?_cons,decide_eq_false e]
   rcases List.mem_cons.mp h with z | z
   ·exact absurd (by rw[z]) e
   ·exact Tw nd.2 p z
def JK (ws:List Wg)(n:Nat)(rs:List Rm)(ms:List Int)(ps:List (Int×Option Int)):Bool:=decide (ps.map (·.1)=ms)&&ps.all fun p=>decide (p.2=exL ws n rs (vK ps) p.1.toNat)
def uR (H:Hp)(l:Addr)(ts:List Addr)(ps:List (Int×Option Int)):Prop:=H l=some (.lst (ts.map V.ref))/\Paired (fun t (p:Int×Option Int)=>H t=some (.tup [.int p.1,yR p.2])) ts ps
theorem uR.mono {H H':Hp}{l:Addr}{ts:List Addr}{ps:List (Int×Option Int)}(h:uR H l ts ps)(g:Same H H'):uR H' l ts ps:=⟨g _ _ h.1,yP (fun _ _ e=>g _ _ e) h.2⟩
section
variable (C:Addr)(K:Frag)
inductive S9 (vs:List V)(H:Hp)(Q:VK)(E9:XK):Prop
 | mk (b l d:Addr) (os:List Str) (rs:List Rm) (F:yO) (j:Nat) (ps:List Addr) (ws:List Wg) (c:Int->Option Int) (kvs:List (Key×V)) (_:vs=[.ref b,.int (j:Nat),.ref l,.ref d]) (_:z9 C H b os rs F) (_:j<rs.length) (_:yW K H l ps ws os.length) (_:H d=some (.dK kvs)) (_:(∀i lo hi,rs[j]?=some (some (i,lo,hi))->xV kvs (iK lo)=some (yR (c lo))/\xV kvs (iK hi)=some (yR (c hi)))) (_:∀H',Same H H'->Q (yR (exL ws os.length rs c j)) H'):S9 vs H Q E9
inductive zb5 (vs:List V)(H:Hp)(Q:VK)(E9:XK):Prop
 | mk (b l d:Addr) (os:List Str) (rs:List Rm) (F:yO) (j:Nat) (ps:List Addr) (ws:List Wg) (c:Int->Option Int) (kvs:List (Key×V)) (_:vs=[.ref b,.int (j:Nat),.ref l,.ref d]) (_:z9 C H b os rs F) (_:j<rs.length) (_:yW K H l ps ws os.length) (_:Rd H d (.dK kvs)) (_:(∀i lo hi,rs[j]?=some (some (i,lo,hi))->xV kvs (iK lo)=some (yR (c lo))/\xV kvs (iK hi)=some (yR (c hi)))) (_:∀H',Same H H'->Q (yR (exL ws os.length rs c j)) H'):zb5 vs H Q E9
inductive Qe (vs:List V)(H:Hp)(Q:VK)(E9:XK):Prop
 | mk (b l:Addr) (os:List Str) (rs:List Rm) (F:yO) (k:Nat) (ts:List Addr) (ps:List (Int×Option Int)) (_:vs=[.ref b,.int (k:Nat),.ref l]) (_:z9 C H b os rs F) (_:k<rs.length) (_:zas rs k) (_:uR H l ts ps) (_:ps.length<=900) (_:∀(H':Hp) (ms:List Int),Same H H'->yL rs k ms->Q (.bl (decide (ps.map (·.1)=ms))) H'):Qe vs H Q E9
inductive Pj (vs:List V)(H:Hp)(Q:VK)(E9:XK):Prop
 | mk (b wl l:Addr) (os:List Str) (rs:List Rm) (F:yO) (k:Nat) (qs:List Addr) (ws:List Wg) (ts:List Addr) (ps:List (Int×Option Int)) (_:vs=[.ref b,.int (k:Nat),.ref wl,.ref l]) (_:z9 C H b os rs F) (_:k<rs.length) (_:zas rs k) (_:yW K H wl qs ws os.length) (_:uR H l ts ps) (_:ps.length<=900) (_:∀(H':Hp) (ms:List Int),Same H H'->yL rs k ms->Q (.bl (JK ws os.length rs ms ps)) H'):Pj vs H Q E9
inductive Mx (vs:List V)(H:Hp)(Q:VK)(E9:XK):Prop
 | mk (b wl:Addr) (os:List Str) (rs:List Rm) (F:yO) (k:Nat) (qs:List Addr) (ws:List Wg) (_:vs=[.ref b,.int (k:Nat),.ref wl]) (_:z9 C H b os rs F) (_:k<rs.length) (_:yW K H wl qs ws os.length) (_:∀H',Same H H'->Q (yR (ld ws os.length rs k)) H'):Mx vs H Q E9
inductive Mz (vs:List V)(H:Hp)(Q:VK)(E9:XK):Prop
 | mk (b wl:Addr) (os:List Str) (rs:List Rm) (F:yO) (k:Nat) (qs:List Addr) (ws:List Wg) (z o:Option Int) (_:vs=[.ref b,.int (k:Nat),.ref wl,yR z,yR o]) (_:z9 C H b os rs F) (_:k<rs.length) (_:zas rs k) (_:yW K H wl qs ws os.length) (_:∀(l:Addr) (ts:List Addr) (ps:List (Int×Option Int)) (H':Hp),Same H H'->H l=none->uR H' l ts ps->ps.length<=300->Q (.ref l) H'):Mz vs H Q E9
end
inductive zb6 (vs:List V)(H:Hp)(Q:VK)(E9:XK):Prop
 | mk (l:Addr) (c:Int) (sz:Nat) (ts:List Addr) (ps:List (Int×Option Int)) (n:Nat) (H0:Hp) (_:vs=[.ref l,.int c,.int (sz:Nat)]) (_:Same H0 H) (_:H0 l=none) (_:uR H l ts ps) (_:ps.length<=n) (_:n<=800) (_:∀(H':Hp) (ts':List Addr) (ps':List (Int×Option Int)),Same H0 H'->uR H' l ts' ps'->ps'.length<=n+1->Q .non H'):zb6 vs H Q E9
def YH (c:Int->Option Int)(m:Int)(v:Option Int):Int->Option Int:=fun x=>if x=m then v else c x
theorem zbl {c:Int->Option Int}{m:Int}{v:Option Int}:YH c m v m=v:=if_pos rfl
theorem zfb {c:Int->Option Int}{m:Int}{v:Option Int}{x:Int}(h:x≠m):YH c m v x=c x:=if_neg h
def kvO (c:Int->Option Int)(l:List Int):List (Key×V):=l.map (Rq fun x=>yR (c x))
theorem zb7 {c:Int->Option Int}{l:List Int}{m:Int}(h:m∈l):xV (kvO c l) (iK m)=some (yR (c m)):=Tr (c:=fun x=>yR (c x)) h
theorem ziG {c:Int->Option Int}{l:List Int}{m:Int}{v:Option Int}(h:m∉l):putK (kvO c l) (iK m) (yR v)=kvO (YH c m v) (l++[m]):=by
 unfold kvO
 rw[L2.Q7 _ (Pb h),zqW]
 refine congr (congrArg _ (List.map_congr_left fun x hx=>?_)) ?_
 ·show(iK x,yR (c x))=(iK x,yR (YH c m v x))
  rw[zfb fun e=>h (by rw[<-e];exact hx)]
 ·show [(iK m,yR v)]=[(iK m,yR (YH c m v m))]
  rw[zbl]
theorem ziH {c:Int->Option Int}{l:List Int}{m:Int}{v:Option Int}(h:m∈l):putK (kvO c l) (iK m) (yR v)=kvO (YH c m v) l:=by
 unfold kvO putK
 have y:((l.map (Rq fun x=>yR (c x))).any fun kv=>decide (kv.1=iK m))=true:=List.any_eq_true.mpr ⟨_,List.mem_map.mpr ⟨m,h,rfl⟩,decide_eq_true rfl⟩
 rw[if_pos y,zrj]
 refine List.map_congr_left fun x hx=>?_
 show(if iK x=iK m then (iK x,yR v) else (iK x,yR (c x)))=(iK x,yR (YH c m v x))
 by_cases e:x=m
 ·rw[if_pos (by rw[e]),e,zbl]
 ·have ne:iK x≠iK m:=fun z=>e (Sum.inl.inj z)
  rw[if_neg ne,zfb e]
theorem ziI {a b:Option Int}{x:Int}(h:x∈a.toList++b.toList)(m:∀y∈a.toList++b.toList,x<=y):lo2 a b=some x:=by
 cases a with
 | none =>
  cases b with
  | none=>cases h
  | some y=>rw[List.mem_singleton.mp h];rfl
 | some z =>
  cases b with
  | none=>rw[List.mem_singleton.mp h];rfl
  | some y =>
   have h1:=m z (by simp)
   have h2:=m y (by simp)
   have h3:x=z\/x=y:=by simpa using h
   show some (if y<z then y else z)=some x
   congr 1
   split<;>omega
theorem zc9 {K:Frag}{H:Hp}{Q:V->Prop}(zs:List Int)(h0:0<zs.length)(q:∀x∈zs,(∀y∈zs,x<=y)->Q (.int x)):∃bt:Nat->Nat->Bool,0<(zs.map V.int).length/\(∀(i j:Nat) x y,(zs.map V.int)[i]?=some x->(zs.map V.int)[j]?=some y->LtD K H 8 x y (bt i j))/\∀v,(zs.map V.int)[argBest bt ((zs.map V.int).length-1)]?=some v->Q v:=by
 have e:∀{i:Nat} {x:V},(zs.map V.int)[i]?=some x->x=.int (zs.getD i 0):=fun {i x} h=>by
  rw[zqK] at h
  cases hz:zs[i]? with
  | none=>rw[hz] at h;cases h
  | some z=>rw[hz] at h;cases h;rw[zqV,hz];rfl
 refine⟨fun i j=>decide (zs.getD i 0<zs.getD j 0),by rw[zqI];exact h0,fun i j x y hx hy=>by rw[e hx,e hy];exact LtD.int,fun v hv=>?_⟩
 obtain⟨a1,a2,_⟩:=Rw (w:=fun i=>zs.getD i 0) (bt:=fun i j=>decide (zs.getD i 0<zs.getD j 0)) (n:=zs.length) (fun i j _ _=>rfl) (zs.length-1) (by omega)
 rw[zqI] at hv
 rw[e hv]
 have lt:=(zqL.mp hv).1
 rw[zqI] at lt
 refine q _ ?_ fun y hy=>?_
 ·rw[zqV,zqJ lt]
  exact zrn lt
 ·obtain⟨i,hi,ei⟩:=zro hy
  have:=a2 i (by omega)
  have ey:zs.getD i 0=y:=by rw[zqV,zqJ hi];exact ei
  rw[<-ey]
  exact this
def rwL (n:Nat)(rs:List Rm)(j:Nat):List (List Bool):=(allR (n-zX n rs j)).filter fun r=>yes rs j (Zk (List.replicate (zX n rs j) false++r))
theorem zg8 {l k:Nat}{r:List Bool}:Zk (List.replicate l false++r) (l+k)=r.getD k false:=by
 unfold Zk
 rw[zqV,List.getElem?_append_right (by rw[List.length_replicate];omega),List.length_replicate,Nat.add_sub_cancel_left,zqV]
theorem zfc {n:Nat}{rs:List Rm}(B:Bk n rs){j:Nat}(hj:j<rs.length){f:Row}(hf:yes rs j f=true):(List.range (n-zX n rs j)).map (fun i=>f (zX n rs j+i))∈rwL n rs j:=by
 refine List.mem_filter.mpr ⟨WX _ _,?_⟩
 rw[<-hf]
 refine tY B j j (zqY _) hj fun i h1 h2=>?_
 obtain⟨k,rfl⟩:∃k,i=zX n rs j+k:=⟨i-zX n rs j,by omega⟩
 rw[zg8,zqV,zqK,List.getElem?_range (by omega)]
 rfl
theorem ziJ {ws:List Wg}{n:Nat}{rs:List Rm}(B:Bk n rs){j:Nat}(hj:j<rs.length)(hw:ws.length=n):(rwL n rs j=[]->ld ws n rs j=none)/\∀x∈(rwL n rs j).map (wg (ws.drop (zX n rs j))),(∀y∈(rwL n rs j).map (wg (ws.drop (zX n rs j))),x<=y)->ld ws n rs j=some x:=by
 have le:=Tg B j hj
 have key:∀(r:List Bool) (f:Row),r.length=n-zX n rs j->(∀k,k<r.length->f (zX n rs j+k)=r.getD k false)->wg (ws.drop (zX n rs j)) r=JC ws (n-zX n rs j) (zX n rs j) f:=fun r f lr hf=>by
  have:=zg3 (ws.drop (zX n rs j)) r (zX n rs j) ws rfl (by rw[List.length_drop];omega) f hf
  rw[this,lr]
 constructor
 ·intro h
  refine(Pg (ws:=ws) B hj).one fun f=>?_
  cases e:yes rs j f with
  | false=>rfl
  | true =>
   have:=zfc B hj e
   rw[h] at this
   cases this
 ·intro x hx hm
  obtain⟨r,hr,rfl⟩:=List.mem_map.mp hx
  have mr:=List.mem_filter.mp hr
  have lr:=Pa _ r mr.1
  refine(Pg (ws:=ws) B hj).one ⟨⟨_,mr.2,?_⟩,fun f hf=>?_⟩
  ·exact(key r _ lr fun k _=>zg8).symm
  ·have mf:=zfc B hj hf
   have:=hm _ (List.mem_map.mpr ⟨_,mf,rfl⟩)
   rw[key ((List.range (n-zX n rs j)).map fun i=>f (zX n rs j+i)) f (by rw[zqI,List.length_range]) fun k hk=>by
    rw[zqI,List.length_range] at hk
    rw[zqV,zqK,List.getElem?_range hk]
    rfl] at this
   exact this
theorem zg9 {ws:List Wg}{n:Nat}{rs rs':List Rm}(B:Bk n rs)(B':Bk n rs')(g:xX rs rs'){j:Nat}(hj:j<rs.length):ld ws n rs' j=ld ws n rs j:=by
 have hj':j<rs'.length:=zqR hj g.len
 have D:=Pg (ws:=ws) B' hj'
 rw[g.zX hj] at D
 have ef:yes rs' j=yes rs j:=funext fun r=>xX.yes B g hj r
 rw[ef] at D
 exact D.one (Pg B hj)
theorem JL {K:Frag}{H:Hp}{n:Nat}{p q:Addr}{ts ds:List Addr}{ps:List (Int×Option Int)}(hp:zT K H p (ts.map V.ref))(hq:zT K H q (ds.map V.ref))(h1:Paired (fun t (p:Int×Option Int)=>H t=some (.tup [.int p.1,yR p.2])) ts ps)(h2:Paired (fun t (p:Int×Option Int)=>H t=some (.tup [.int p.1,yR p.2])) ds ps):Td K H (n+2) (.ref p) (.ref q) true:=by
 have l1:=yx h1
 have l2:=yx h2
 have z:Td K H (n+2) (.ref p) (.ref q) ((List.range (ts.map V.ref).length).all fun _=>true):=.ll hp hq (by rw[zqI,zqI];omega) fun j x y e1 e2=>by
  rw[zqK] at e1 e2
  cases ht:ts[j]? with
  | none=>rw[ht] at e1;cases e1
  | some t =>
   cases hd:ds[j]? with
   | none=>rw[hd] at e2;cases e2
   | some d =>
    rw[ht] at e1
    rw[hd] at e2
    cases e1
    cases e2
    obtain⟨m,a1,a2⟩:=uQ h1 ht
    obtain⟨m',b1,b2⟩:=uQ h2 hd
    rw[a1] at b1
    cases b1
    have y:Td K H (n+1) (.ref t) (.ref d) ((List.range (min [V.int m.1,yR m.2].length [V.int m.1,yR m.2].length)).all (fun _=>true)&&[V.int m.1,yR m.2].length==[V.int m.1,yR m.2].length):=.tt (xM.of a2) (xM.of b2) fun i x y c1 c2=>by
     rw[c1] at c2
     cases c2
     have fl:xQ x=true:=by
      match i,c1 with
      | 0,c1=>cases c1;rfl
      | 1,c1=>cases c1;exact ziF _
     have:=Td.flat (K:=K) (H:=H) (n:=n) fl fl
     rw[Jr fl] at this
     exact this
    exact y
 have e:((List.range (ts.map V.ref).length).all fun _=>true)=true:=zrb.mpr fun _ _=>rfl
 rw[e] at z
 exact z
theorem zha {C:Addr}{K:Frag}:∀vs H Q E,JD C K vs H Q E->S9 C K vs H Q E:=fun vs H Q E ⟨b,l,d,os,rs,F,j,ps,ws,kvs,e,hB,hj,hw,hd,hv,q⟩=>⟨b,l,d,os,rs,F,j,ps,ws,(fun x=>ld ws os.length rs x.toNat),kvs,e,hB,hj,hw,hd,hv,fun H' g=>by rw[zg6 ((yQ C).bk hB) hj fun _ _ _ _=>⟨rfl,rfl⟩];exact q H' g⟩
noncomputable def Zc (ws:List Wg) (n:Nat) (rs:List Rm) (ms:List Int):List (Int×Option Int):=ms.map fun m=>(m,ld ws n rs m.toNat)
theorem zda {ws:List Wg}{n:Nat}{rs:List Rm}{ms:List Int}:(Zc ws n rs ms).map (·.1)=ms:=by
 unfold Zc
 rw[zrj]
 exact List.map_id' ms
theorem ziK {ws:List Wg}{n:Nat}{rs:List Rm}{k:Nat}{ms:List Int}(B:Bk n rs)(hk:k<rs.length)(ZQ:yL rs k ms):JK ws n rs ms (Zc ws n rs ms)=true:=by
 unfold JK
 rw[zda,decide_eq_true rfl,Bool.true_and]
 refine zrb.mpr fun p hp=>decide_eq_true ?_
 obtain⟨m,hm,rfl⟩:=List.mem_map.mp hp
 obtain⟨j,rfl,rj⟩:=(ZQ.mem m).mp hm
 have at_:∀g:Nat,Reach rs k g->vK (Zc ws n rs ms) (g:Int)=ld ws n rs g:=fun g rg=>by
  have:=Tw (ps:=Zc ws n rs ms) (by rw[zda];exact JB ZQ.up) ((g:Int),ld ws n rs ((g:Int)).toNat) (List.mem_map.mpr ⟨_,(ZQ.mem _).mpr ⟨g,rfl,rg⟩,rfl⟩)
  exact this
 exact(zg6 B (rj.lt B hk) fun i lo hi e=>⟨at_ lo (rj.step e).1,at_ hi (rj.step e).2⟩).symm
theorem zeg {ws:List Wg}{n:Nat}{rs rs':List Rm}{k:Nat}{ms:List Int}(B:Bk n rs)(B':Bk n rs')(g:xX rs rs')(hk:k<rs.length)(ZQ:yL rs k ms):Zc ws n rs' ms=Zc ws n rs ms:=List.map_congr_left fun m hm=>by
 obtain⟨j,rfl,rj⟩:=(ZQ.mem m).mp hm
 show((j:Int),ld ws n rs' j)=((j:Int),ld ws n rs j)
 rw[zg9 B B' g (rj.lt B hk)]
theorem zfV {n:Nat}{rs rs':List Rm}(B:Bk n rs)(g:xX rs rs'){k:Nat}(hk:k<rs.length)(h:zas rs k):zas rs' k:=fun xs nd hx=>h xs nd fun x m=>(Tp B g hk).mp (hx x m)
theorem KQ {ws:List Wg}{n:Nat}{rs:List Rm}{H H0:Hp}{r:Addr}{ts:List Addr}{ms:List Int}(hp:Paired (fun t m=>H0 t=none/\LdP ws n rs H t m) ts ms)(hl:H r=some (.lst (ts.map V.ref))):uR H r ts (Zc ws n rs ms):=by
 refine⟨hl,Mt (by unfold Zc;rw[zqI];exact yx hp) fun j x y h1 h2=>?_⟩
 obtain⟨m,h3,_,h4⟩:=uQ hp h1
 unfold Zc at h2
 rw[zqK,h3] at h2
 cases h2
 exact h4
theorem zhb {C:Addr}{H:Hp}{b p:Addr}{os:List Str}{rs:List Rm}{F:yO}{xs:List V}(hB:z9 C H b os rs F)(e:H p=some (.tup xs)):¬F p:=by
 obtain⟨dx,ml,rl,tl,nd,rv,ts,kvs,h⟩:=hB
 intro hf
 rcases (h.ft _).mp hf with z | z | z | z | z<;>subst z
 ·rw[h.hb] at e;cases e
 ·rw[h.hm] at e;cases e
 ·rw[h.hr] at e;cases e
 ·rw[h.ht] at e;cases e
 ·rw[h.hd] at e;cases e
theorem zdb {C:Addr}{H:Hp}{b:Addr}{os:List Str}{rs:List Rm}{F:yO}(hB:z9 C H b os rs F):yN H (outF F H):=fun p xs e=>by rw[YD (zhb hB e)];exact e
theorem zhc {H:Hp}{l:Addr}{ys:List V}(e:H l=some (.lst ys)):yN H (outF (fun y=>y=l) H):=fun p xs h=>by
 rw[YD (F:=fun y=>y=l) (show ¬p=l from fun z=>by rw[z,e] at h;cases h)]
 exact h
theorem uR.tups {H H':Hp}{l:Addr}{ts:List Addr}{ps:List (Int×Option Int)}(h:uR H l ts ps)(t:yN H H')(e:H' l=some (.lst (ts.map V.ref))):uR H' l ts ps:=⟨e,yP (fun _ _ z=>t _ _ z) h.2⟩
theorem yW.tups {K:Frag}{H H':Hp}{l:Addr}{ps:List Addr}{ws:List Wg}{n:Nat}(h:Paired (zc4 H) ps ws)(t:yN H H')(e:H' l=some (.lst (ps.map V.ref)))(hl:ws.length=n)(ok:∀s∈ws,zd5 s):yW K H' l ps ws n:=⟨zT.of e,yP (fun _ _ z=>t _ _ z) h,hl,ok⟩
structure B36 (C:Addr)(K:Frag)(sc:Addr)(ns:List Int)(ol bk wl hl:Addr)(os:List Str)(rs:List Rm)(F:yO)(k1:Nat)(qs:List Addr)(ws:List Wg)(Hn H:Hp):Prop where
 led:Led (z9 C) Hn bk os 200002 H rs F
 hk:k1<rs.length
 few:zas rs k1
 sc_:zT K Hn sc (ns.map V.int)
 ol_:Hn ol=some (.lst (os.map V.str))
 wl_:yW K Hn wl qs ws os.length
 hl_:yW K Hn hl qs ws os.length
theorem B36.new {C:Addr}{K:Frag}{sc:Addr}{ns:List Int}{ol bk wl hl:Addr}{os:List Str}{rs:List Rm}{F:yO}{k1:Nat}{qs:List Addr}{ws:List Wg}{Hn H H':Hp}(h:B36 C K sc ns ol bk wl hl os rs F k1 qs ws Hn H)(g:Same H H'):B36 C K sc ns ol bk wl hl os rs F k1 qs ws Hn H':=⟨h.led.new (yQ C) g,h.hk,h.few,h.sc_,h.ol_,h.wl_,h.hl_⟩
theorem B36.reb {C:Addr}{K:Frag}{sc:Addr}{ns:List Int}{ol bk wl hl:Addr}{os:List Str}{rs:List Rm}{F:yO}{k1:Nat}{qs:List Addr}{ws:List Wg}{Hn H:Hp}(h:B36 C K sc ns ol bk wl hl os rs F k1 qs ws Hn H):B36 C K sc ns ol bk wl hl os rs F k1 qs ws (outF F H) H :=
 have g:=h.led.reb
 ⟨Led.start h.led.bk h.led.len,h.hk,h.few,g.seq h.sc_,g _ _ h.ol_,h.wl_.mono g,h.hl_.mono g⟩
theorem zhd {H H':Hp}{x:Addr}(g:Same H H')(h:H x=none):Same H (outF (fun y=>y=x) H'):=fun y o e=>by
 rw[YD (F:=fun y=>y=x) (show ¬(fun y=>y=x) y from zB e h)]
 exact g _ _ e
theorem zhe {H:Hp}{x:Addr}:outF (fun y=>y=x) H x=none:=zeZ rfl
end ZP
namespace K36
open PySem L2
def top (i:Nat):Stmt:=PySem.Challenge.pw_decidebook_k36_loads_told_and_judged.main.body.getD i (.Pass ⟨0,0,0,0⟩)
abbrev uM:Stmt:=top 9
abbrev wA:List Str:=["book", "room", "told"]
theorem Tz:zO ["book", "room", "told"] wA (zA uM):=fsc (by decide +kernel)
abbrev Zo:Stmt:=top 12
abbrev xY:List Str:=["book", "weights"]
theorem Qg:zO ["book", "weights"] xY (zA Zo):=fsc (by decide +kernel)
abbrev W0:Stmt:=top 13
abbrev uT:List Str:=["entry"]
theorem JM:zO ["entry"] uT (zA W0):=fsc (by decide +kernel)
abbrev zfd:Stmt:=top 14
abbrev KR:List Str:=["book", "room", "weights"]
theorem JN:zO ["book", "room", "weights", "known", "number"] KR (zA zfd):=fsc (by decide +kernel)
abbrev Xb:Stmt:=top 15
abbrev Xc:List Str:=["book", "room", "weights", "told"]
theorem Rx:zO ["book", "room", "weights", "told", "known"] Xc (zA Xb):=fsc (by decide +kernel)
abbrev Ra:Stmt:=top 16
abbrev Vn:List Str:=["book", "number", "weights", "known"]
theorem JQ:zO ["book", "number", "weights", "known", "ways"] Vn (zA Ra):=fsc (by decide +kernel)
abbrev XJ:Stmt:=top 17
abbrev Zq:List Str:=["book", "number", "value", "weights", "known"]
theorem u9:zO ["book", "number", "value", "weights", "known", "place", "going", "between"] Zq (zA XJ):=fsc (by decide +kernel)
abbrev JR:Stmt:=top 19
abbrev tQ:List Str:=["marks"]
theorem zdc:zO ["marks"] tQ (zA JR):=fsc (by decide +kernel)
abbrev Lj:Stmt:=top 20
abbrev wO:List Str:=["place", "marks"]
theorem Zr:zO ["place", "marks", "half", "table", "further"] wO (zA Lj):=fsc (by decide +kernel)
abbrev zbm:Stmt:=top 21
abbrev Z4:List Str:=["table", "place", "marks"]
theorem Qh:zO ["table", "place", "marks", "ones", "noughts"] Z4 (zA zbm):=fsc (by decide +kernel)
abbrev zbn:Stmt:=top 22
abbrev Vo:List Str:=["table", "place", "value", "marks"]
theorem Qi:zO ["table", "place", "value", "marks", "ones", "kept"] Vo (zA zbn):=fsc (by decide +kernel)
abbrev JT:Stmt:=top 23
abbrev V5:List Str:=["table", "place", "marks"]
theorem zdd:zO ["table", "place", "marks"] V5 (zA JT):=fsc (by decide +kernel)
abbrev Ry:Stmt:=top 24
abbrev uU:List Str:=["table", "marks"]
theorem XM:zO ["table", "marks", "place"] uU (zA Ry):=fsc (by decide +kernel)
abbrev zbo:Stmt:=top 30
abbrev Xv:List Str:=["letter"]
theorem zeh:zO ["letter"] Xv (zA zbo):=fsc (by decide +kernel)
abbrev Qj:Stmt:=top 31
abbrev V6:List Str:=["order"]
theorem zde:zO ["order"] V6 (zA Qj):=fsc (by decide +kernel)
abbrev Pk:Stmt:=top 32
abbrev uo:List Str:=["sentence"]
theorem zat:zO ["sentence"] uo (zA Pk):=fsc (by decide +kernel)
abbrev JV:Stmt:=top 33
abbrev vR:List Str:=["sentence"]
theorem zdf:zO ["sentence"] vR (zA JV):=fsc (by decide +kernel)
abbrev TF:Stmt:=top 34
abbrev vU:List Str:=["level"]
theorem YK:zO ["level", "found", "sentence"] vU (zA TF):=fsc (by decide +kernel)
abbrev Wr:Stmt:=top 35
abbrev Ws:List Str:=["some"]
theorem Pn:zO ["some", "shape"] Ws (zA Wr):=fsc (by decide +kernel)
abbrev W2:Stmt:=top 36
abbrev Yh:List Str:=["some"]
theorem xR:zO ["some", "level", "deep", "tuples"] Yh (zA W2):=fsc (by decide +kernel)
abbrev Uv:Stmt:=top 37
abbrev tD:List Str:=["order"]
theorem MF:zO ["order"] tD (zA Uv):=fsc (by decide +kernel)
abbrev XQ:Stmt:=top 38
abbrev wU:List Str:=["some"]
theorem Rr:zO ["some"] wU (zA XQ):=fsc (by decide +kernel)
abbrev Vp:Stmt:=top 39
abbrev wI:List Str:=["order", "letter"]
theorem Pq:zO ["order", "letter"] wI (zA Vp):=fsc (by decide +kernel)
abbrev Wt:Stmt:=top 40
abbrev vN:List Str:=["order", "sentence"]
theorem XR:zO ["order", "sentence", "letter"] vN (zA Wt):=fsc (by decide +kernel)
abbrev Lk:Stmt:=top 41
abbrev Wu:List Str:=["sentence"]
theorem Xd:zO ["sentence", "found", "level"] Wu (zA Lk):=fsc (by decide +kernel)
abbrev Pr:Stmt:=top 42
abbrev Xe:List Str:=["sentence"]
theorem W3:zO ["sentence", "found", "part"] Xe (zA Pr):=fsc (by decide +kernel)
abbrev Qk:Stmt:=top 43
abbrev Z5:List Str:=["sentence", "order"]
theorem Wv:zO ["sentence", "order", "word", "marks", "tables"] Z5 (zA Qk):=fsc (by decide +kernel)
abbrev TJ:Stmt:=top 44
abbrev wJ:List Str:=["word", "one", "other", "every"]
theorem Ka:zO ["word", "one", "other", "every"] wJ (zA TJ):=fsc (by decide +kernel)
abbrev Ln:Stmt:=inClass (top 46) 0
abbrev Ww:List Str:=["self", "order"]
theorem Pu:zO ["self", "order", "marks"] Ww (zA Ln):=fsc (by decide +kernel)
abbrev Px:Stmt:=inClass (top 46) 1
abbrev wV:List Str:=["self"]
theorem zau:zO ["self"] wV (zA Px):=fsc (by decide +kernel)
abbrev Lp:Stmt:=inClass (top 46) 2
abbrev Wx:List Str:=["self"]
theorem zb8:zO ["self"] Wx (zA Lp):=fsc (by decide +kernel)
abbrev Py:Stmt:=inClass (top 46) 3
abbrev Xf:List Str:=["self", "sentence"]
theorem zav:zO ["self", "sentence"] Xf (zA Py):=fsc (by decide +kernel)
abbrev Lq:Stmt:=inClass (top 46) 4
abbrev vV:List Str:=["self", "number"]
theorem zb9:zO ["self", "number"] vV (zA Lq):=fsc (by decide +kernel)
abbrev Pz:Stmt:=inClass (top 46) 6
abbrev Zt:List Str:=["self", "number"]
theorem Yi:zO ["self", "number", "found", "waiting", "here"] Zt (zA Pz):=fsc (by decide +kernel)
abbrev Y0:Stmt:=inClass (top 46) 7
abbrev yr:List Str:=["self", "number"]
theorem TQ:zO ["self", "number"] yr (zA Y0):=fsc (by decide +kernel)
abbrev Uw:Stmt:=inClass (top 46) 8
abbrev xU:List Str:=["self", "number"]
theorem MJ:zO ["self", "number"] xU (zA Uw):=fsc (by decide +kernel)
abbrev PB:Stmt:=inClass (top 46) 9
abbrev xZ:List Str:=["self", "number", "value"]
theorem zaw:zO ["self", "number", "value"] xZ (zA PB):=fsc (by decide +kernel)
abbrev Vq:Stmt:=inClass (top 46) 12
abbrev xK:List Str:=["self", "table"]
theorem wj:zO ["self", "table", "marks", "place", "low", "high"] xK (zA Vq):=fsc (by decide +kernel)
abbrev Ux:Stmt:=top 48
abbrev yV:List Str:=["script", "k"]
theorem Vr:zO ["script", "k"] yV (zA Ux):=fsc (by decide +kernel)
abbrev PJ:Stmt:=top 49
abbrev wk:List Str:=["cell", "k", "bound"]
theorem vB:zO ["cell", "k", "bound", "stir", "left", "j"] wk (zA PJ):=fsc (by decide +kernel)
abbrev Rz:Stmt:=top 50
abbrev Yj:List Str:=["cell", "limit"]
theorem XS:zO ["cell", "limit", "found", "k"] Yj (zA Rz):=fsc (by decide +kernel)
abbrev wK:Stmt:=top 51
abbrev ur:List Str:=["script", "at", "many", "order"]
theorem yu:zO ["script", "at", "many", "order", "kinds", "made", "k", "cell", "kind", "one", "other", "letter"] ur (zA wK):=fsc (by decide +kernel)
abbrev PL:Stmt:=top 52
abbrev Zu:List Str:=["size"]
theorem vC:zO ["size", "found", "k", "longer", "row"] Zu (zA PL):=fsc (by decide +kernel)
abbrev RB:Stmt:=top 53
abbrev uV:List Str:=["found"]
theorem JW:zO ["found"] uV (zA RB):=fsc (by decide +kernel)
abbrev RD:Stmt:=top 54
abbrev Yk:List Str:=["book", "room", "row"]
theorem vW:zO ["book", "room", "row", "mark", "low", "high"] Yk (zA RD):=fsc (by decide +kernel)
abbrev RG:Stmt:=top 55
abbrev uW:List Str:=["book", "room"]
theorem JX:zO ["book", "room"] uW (zA RG):=fsc (by decide +kernel)
abbrev RJ:Stmt:=top 56
abbrev vD:List Str:=["book", "room"]
theorem vX:zO ["book", "room", "found", "at", "there"] vD (zA RJ):=fsc (by decide +kernel)
abbrev YL:Stmt:=top 57
abbrev tE:List Str:=["cell", "size"]
theorem uw:zO ["cell", "size", "found", "k", "pair"] tE (zA YL):=fsc (by decide +kernel)
abbrev X3:Stmt:=top 58
abbrev vY:List Str:=["weights", "row"]
theorem Kc:zO ["weights", "row"] vY (zA X3):=fsc (by decide +kernel)
abbrev PN:Stmt:=top 59
abbrev Xg:List Str:=["book", "room", "weights"]
theorem Yl:zO ["book", "room", "weights", "level", "found", "row"] Xg (zA PN):=fsc (by decide +kernel)
abbrev PX:Stmt:=top 60
abbrev Xh:List Str:=["told", "cell", "size"]
theorem vG:zO ["told", "cell", "size", "kind", "at", "rest", "room", "here"] Xh (zA PX):=fsc (by decide +kernel)
abbrev TV:Stmt:=top 61
abbrev YF:List Str:=["book", "number", "weights", "known"]
theorem wW:zO ["book", "number", "weights", "known", "found", "level", "value", "there", "end", "between"] YF (zA TV):=fsc (by decide +kernel)
abbrev Xi:Stmt:=top 62
abbrev Xj:List Str:=["book", "room", "weights", "told"]
theorem RK:zO ["book", "room", "weights", "told", "known"] Xj (zA Xi):=fsc (by decide +kernel)
abbrev X4:Stmt:=top 63
abbrev Zv:List Str:=["book", "room", "weights", "zero", "one"]
theorem YM:zO ["book", "room", "weights", "zero", "one", "known", "number"] Zv (zA X4):=fsc (by decide +kernel)
abbrev S_law:Stmt:=top 64
abbrev p_law:List Str:=["script"]
theorem sc_law:zO ["script", "order", "book", "room", "weights", "handed", "told", "due", "cell", "turn", "kept", "found", "others", "second"] p_law (zA S_law):=fsc (by decide +kernel)
def xg:List (Str×Int×Int):=[("yes", 0,0),("no", 0,0),("mark", 1,0),("not", 0,1),("and", 0,2),("or", 0,2),("either", 0,2),("if", 0,2),("some", 1,1),("each", 1,1)]
set_option genInjectivity false in
set_option genSizeOf false in
structure Ad where
 uN:Addr
 uO:FuncData
 vO:Addr
 vP:FuncData
 Ym:Addr
 Yn:FuncData
 zca:Addr
 zcb:FuncData
 V7:Addr
 V8:FuncData
 Rb:Addr
 Rf:FuncData
 X5:Addr
 X6:FuncData
 Z6:Addr
 Z7:FuncData
 vZ:Addr
 v8:FuncData
 Xw:Addr
 Xx:FuncData
 Rg:Addr
 Rh:FuncData
 Ql:Addr
 Qm:FuncData
 Yo:Addr
 Yp:FuncData
 Vs:Addr
 Vt:FuncData
 Qn:Addr
 Qo:FuncData
 Zw:Addr
 Zx:FuncData
 tR:Addr
 tU:FuncData
 Zy:Addr
 Zz:FuncData
 TX:Addr
 TY:FuncData
 W4:Addr
 W5:FuncData
 YQ:Addr
 YS:FuncData
 tV:Addr
 tW:FuncData
 ux:Addr
 uy:FuncData
 ZC:Addr
 ZD:FuncData
 T3:Addr
 T4:FuncData
 V9:Addr
 Ua:FuncData
 X7:Addr
 X8:FuncData
 v9:Addr
 uc:FuncData
 Wy:Addr
 T5:FuncData
 uz:Addr
 uD:FuncData
 T6:Addr
 T7:FuncData
 Ub:Addr
 Uc:FuncData
 Za:Addr
 Zb:FuncData
 Xk:Addr
 Xl:FuncData
 yE:Addr
 yF:FuncData
 vm:Addr
 vo:FuncData
 wX:Addr
 wY:FuncData
 wL:Addr
 wM:FuncData
 xq:Addr
 xr:FuncData
 vd:Addr
 vf:FuncData
 W6:Addr
 W7:FuncData
 Z8:Addr
 Z9:FuncData
 Xm:Addr
 Xn:FuncData
 Yq:Addr
 Yr:FuncData
 W8:Addr
 W9:FuncData
 Ys:Addr
 Yt:FuncData
 uX:Addr
 uY:FuncData
 YT:Addr
 YW:FuncData
 ZF:Addr
 ZG:FuncData
 Ud:Addr
 Ue:FuncData
 Ug:Addr
 Uh:FuncData
 Wz:Addr
 WD:FuncData
 Ui:Addr
 Uj:FuncData
 Wa:Addr
 Wb:FuncData
 a_law:Addr
 d_law:FuncData
 zx:Addr
 zax:Tok
 KY:Addr
 zay:Tok
 zdg:Tok
 Vu:Addr
 zfW:List (Str×Value)
structure Txt (P:Program)(w:World)(K:Frag)(mg:Str->Option Value)(a:Ad):Prop where
 zkc:mg "Book"=some (.ref a.zx)
 Y4:Df K mg "is_of_rooms_below" uM a.uN a.uO wA
 ZJ:Df K mg "must_be_weights" Zo a.vO a.vP xY
 RL:Df K mg "is_weighing" W0 a.Ym a.Yn uT
 P0:Df K mg "loads" zfd a.zca a.zcb KR
 Uk:Df K mg "loads_hold" Xb a.V7 a.V8 Xc
 MK:Df K mg "load_by" Ra a.Rb a.Rf Vn
 T8:Df K mg "load_through" XJ a.X5 a.X6 Zq
 Yb:Df K mg "all_rows" JR a.Z6 a.Z7 tQ
 WK:Df K mg "rows_with" Lj a.vZ a.v8 wO
 Vv:Df K mg "flipped" zbm a.Xw a.Xx Z4
 MN:Df K mg "held_at" zbn a.Rg a.Rh Vo
 JZ:Df K mg "hangs_on" JT a.Ql a.Qm V5
 RM:Df K mg "first_place" Ry a.Yo a.Yp uU
 MP:Df K mg "is_mark" zbo a.Vs a.Vt Xv
 J0:Df K mg "is_order" Qj a.Qn a.Qo V6
 Ul:Df K mg "letters_of" Pk a.Zw a.Zx uo
 Um:Df K mg "parts_of" JV a.tR a.tU vR
 Wc:Df K mg "parts_of_all" TF a.Zy a.Zz vU
 Lr:Df K mg "is_shaped" Wr a.TX a.TY Ws
 RN:Df K mg "is_sentence" W2 a.W4 a.W5 Yh
 Uy:Df K mg "must_be_order" Uv a.YQ a.YS tD
 Wd:Df K mg "must_be_sentence" XQ a.tV a.tW wU
 Vw:Df K mg "must_have_mark" Vp a.ux a.uy wI
 WL:Df K mg "must_have_marks" Wt a.ZC a.ZD vN
 Ls:Df K mg "tuples_in" Lk a.T3 a.T4 Wu
 Nb:Df K mg "letters_in" Pr a.V9 a.Ua Xe
 Qp:Df K mg "table_of" Qk a.X7 a.X8 Z5
 T9:Df K mg "table_of_two" TJ a.v9 a.uc wJ
 z6:Df K mg "_law_cell_at" Ux a.xq a.xr yV
 yw:Df K mg "_law_draw" PJ a.vd a.vf wk
 RP:Df K mg "_law_order" Rz a.W6 a.W7 Yj
 Yc:Df K mg "_law_sentence" wK a.Z8 a.Z9 ur
 Nf:Df K mg "_law_rows" PL a.Xm a.Xn Zu
 RQ:Df K mg "_law_whole" RB a.Yq a.Yr uV
 RT:Df K mg "_law_leads" RD a.W8 a.W9 Yk
 Yu:Df K mg "_law_level" RG a.Ys a.Yt uW
 uZ:Df K mg "_law_under" RJ a.uX a.uY vD
 YX:Df K mg "_law_weights" YL a.YT a.YW tE
 Sd:Df K mg "_law_weight" X3 a.ZF a.ZG vY
 Xo:Df K mg "_law_load" PN a.Ud a.Ue Xg
 Ng:Df K mg "_law_bent" PX a.Ug a.Uh Xh
 Sg:Df K mg "_law_due" TV a.Wz a.WD YF
 Nh:Df K mg "_law_hold" Xi a.Ui a.Uj Xj
 Sh:Df K mg "_law_forged" X4 a.Wa a.Wb Zv
 f_law:Df K mg "law" S_law a.a_law a.d_law p_law
 Lw:Dm K a.zx "__init__" "Book.__init__" Ln a.Wy a.T5 Ww
 ZK:Dm K a.zx "order" "Book.order" Px a.uz a.uD wV
 Lx:Dm K a.zx "size" "Book.size" Lp a.T6 a.T7 Wx
 Uo:Dm K a.zx "enter" "Book.enter" Py a.Ub a.Uc Xf
 YG:Dm K a.zx "room" "Book.room" Lq a.Za a.Zb vV
 Uq:Dm K a.zx "below" "Book.below" Pz a.Xk a.Xl Zt
 xu:Dm K a.zx "must_be_room" "Book.must_be_room" Y0 a.yE a.yF yr
 tG:Dm K a.zx "place_of" "Book.place_of" Uw a.vm a.vo xU
 vg:Dm K a.zx "going" "Book.going" PB a.wX a.wY xZ
 uE:Dm K a.zx "room_with" "Book.room_with" Vq a.wL a.wM xK
 zU:Cls K a.zx
 ziL:Mk K a.zx a.Wy
 vH:XD K a.zx "marks"
 wz:XD K a.zx "rooms"
 Sq:XD K a.zx "tables"
 vp:XD K a.zx "numbers"
 zaz:mg "MOST_WEIGHT"=some (.int 1000000 a.zax)
 ziM:mg "MARKS"=some (.ref a.KY)
 ziN:∀H,xM K H a.KY ((["a", "b", "c", "d", "e", "f", "g", "h"]:List Str).map V.str)
 zaA:mg "MOST_TUPLES"=some (.int 200 a.zay)
 zdh:mg "MOST_DEEP"=some (.int 24 a.zdg)
 Ni:mg "SHAPES"=some (.ref a.Vu)
 Wf:Shp K P w a.Vu a.zfW xg
 zlA:mg "abs"=none
 Nj:mg "all"=none
 zhf:mg "bool"=none
 zhg:mg "dict"=none
 zjf:mg "int"=none
 uF:mg "isinstance"=none
 yX:mg "len"=none
 Qq:mg "list"=none
 zlB:mg "max"=none
 zbp:mg "min"=none
 Xp:mg "range"=none
 zlC:mg "set"=none
 zdi:mg "sorted"=none
 zlD:mg "str"=none
 zhh:mg "sum"=none
 ziO:mg "tuple"=none
theorem x_law {K:Frag}{mg:Str->Option Value}{f:Addr}{d:FuncData}(F:Df K mg "law" S_law f d p_law):∀(s:Shared) (u:Value),BindsTo s d ⟨[u],[]⟩ [("script", u)]:=by
 obtain⟨_,_,_,_,_,_,_,_,_,rfl,_,_⟩:=F.F.ex
 exact fun s u=>.of_eq rfl
theorem zlE {P:Program}{w:World}{K:Frag}{mg:Str->Option Value}{x0 x2 x4 x6 x8 x10 x12 x14 x16 x18 x20 x22 x24 x26 x28 x30 x32 x34 x36 x38 x40 x42 x44 x46 x48 x50 x52 x54 x56 x58 x60 x62 x64 x66 x68 x70 x72 x74 x76 x78 x80 x82 x84 x86 x88 x90 x92 x94 x96 x98 x100 x102 x104 x106 x108 x110 x112 x115:Addr}{x1 x3 x5 x7 x9 x11 x13 x15 x17 x19 x21 x23 x25 x27 x29 x31 x33 x35 x37 x39 x41 x43 x45 x47 x49 x51 x53 x55 x57 x59 x61 x63 x65 x67 x69 x71 x73 x75 x77 x79 x81 x83 x85 x87 x89 x91 x93 x95 x97 x99 x101 x103 x105 x107 x109:FuncData}{x111 x113 x114:Tok}{x116:List (Str×Value)}(t:Txt P w K mg ⟨x0,x1,x2,x3,x4,x5,x6,x7,x8,x9,x10,x11,x12,x13,x14,x15,x16,x17,x18,x19,x20,x21,x22,x23,x24,x25,x26,x27,x28,x29,x30,x31,x32,x33,x34,x35,x36,x37,x38,x39,x40,x41,x42,x43,x44,x45,x46,x47,x48,x49,x50,x51,x52,x53,x54,x55,x56,x57,x58,x59,x60,x61,x62,x63,x64,x65,x66,x67,x68,x69,x70,x71,x72,x73,x74,x75,x76,x77,x78,x79,x80,x81,x82,x83,x84,x85,x86,x87,x88,x89,x90,x91,x92,x93,x94,x95,x96,x97,x98,x99,x100,x101,x102,x103,x104,x105,x106,x107,x108,x109,x110,x111,x112,x113,x114,x115,x116⟩):∃a,Txt P w K mg a:=⟨_,t⟩
end K36
namespace K36
open PySem L2 ZP
section
variable {P:Program}{w:World}{K:Frag}{mg:Str->Option Value}{base:Heap}{a:Ad}{k:Nat}
theorem zdj (T:Txt P w K mg a):zF P w K mg base z7 (k+1) a.Z6 a.Z7 tQ Xq:=by
 refine T.Yb.F.ok zdc (fun vs H Q E h=>?_) (fun cdv A outer s H vs Q E hr h=>?_)
 ·obtain⟨n,rfl,_⟩:=h
  rfl
 obtain⟨n,rfl,hn,q⟩:=h
 refine⟨_,(zu (zL (zN RZ (zN Ye zq (zN Ye zq (pv 0))) zq))),?_⟩
 have h1:=zfB hn
 have one:1<2^10000:=zcM (k:=1) (by decide) (by decide)
 refine⟨_,rfl,1,n,rfl,rfl,one,by omega,1,1*2^n,rfl,rfl,one,by omega,_,1,rfl,rfl,?_⟩
 have e:(((1*2^(1*2^n):Nat):Int)-1)=((2^2^n-1:Nat):Int):=by
  rw[Nat.one_mul,Nat.one_mul]
  have:=Nat.two_pow_pos (2^n)
  omega
 show Q (.int (((1*2^(1*2^n):Nat):Int)-1)) H
 rw[e]
 exact q
theorem zcc (T:Txt P w K mg a):zF P w K mg base z7 (k+1) a.vZ a.v8 wO tM:=by
 refine T.WK.F.ok Zr (fun vs H Q E h=>?_) (fun cdv A outer s H vs Q E hr h=>?_)
 ·obtain⟨p,n,rfl,_⟩:=h
  rfl
 obtain⟨p,n,rfl,hp,hn,q⟩:=h
 refine⟨_,(zj (zH 2 Zr.nd (zN Ye zq (pv 0)))
   (zj (zH 3 Zr.nd (zN Ye (zN RZ (zN Ye zq (pv 2)) zq) (pv 2)))
   (zj (uJ PassesOwn.never rfl (zaQ rfl T.Xp (za (zN yM (pv 0) zq) (za (pv 1) zc))) (yI (i:=4) Zr.nd rfl (Or.inl rfl)) (zu (zH 3 Zr.nd (zN NZ (pv 3) (zN Ye (pv 3) (zN Ye zq (pv 4)))))))
   (zu (zL (pv 3)))))),?_⟩
 have one:1<2^10000:=zcM (k:=1) (by decide) (by decide)
 have h1:=zfB (n:=p) (by omega)
 have hh:2^p<2^10000:=Nat.pow_lt_pow_right (by decide) (by omega)
 have pp:=Nat.two_pow_pos (2^p)
 have e1:((1*2^(1*2^p):Nat):Int)-1=((2^2^p-1:Nat):Int):=by
  rw[Nat.one_mul,Nat.one_mul]
  omega
 have lt1:2^2^p-1<2^10000:=zqR (Nat.sub_lt pp (by decide)) (zrd (by decide) (by omega))
 refine⟨_,rfl,1,p,rfl,rfl,one,by omega,?_⟩
 refine⟨_,rfl,1,1*2^p,rfl,rfl,one,by omega,_,1,rfl,rfl,_,rfl,2^2^p-1,1*2^p,congrArg V.int e1,rfl,lt1,by omega,?_⟩
 refine⟨_,rfl,_,1,rfl,rfl,_,rfl,(p:Int)+1,(n:Int),rfl,⟨by omega,by omega,by omega,by omega⟩,?_⟩
 refine ZW (fun i σ H'=>H'=H/\∃(N:Nat) (f:Option V),σ=[some (.int p),some (.int n),some (.int ((1*2^p:Nat):Int)),some (.int N),f]/\yK (p+1+i) N (fun b=>b.testBit p)) ⟨rfl,_,_,rfl,?_⟩ ?_ ?_
 ·rw[Nat.one_mul]
  exact zfA p
 ·rintro i σ H' hi ⟨rfl,N,f,rfl,tb⟩
  have hi':p+1+i<n:=by omega
  have h2:=zfB (n:=p+1+i) (by omega)
  have e2:V.int ((p:Int)+1+(i:Nat))=V.int ((p+1+i:Nat):Int):=congrArg V.int (by omega)
  have lt2:N<2^10000:=zcM (zgB tb) (zq3 h2 (by decide))
  refine⟨_,rfl,_,rfl,_,rfl,1,p+1+i,rfl,e2,one,by omega,N,1*2^(p+1+i),rfl,rfl,lt2,by omega,N,N*2^(1*2^(p+1+i)),rfl,rfl,?_⟩
  refine⟨rfl,_,_,rfl,?_⟩
  rw[Nat.one_mul]
  exact zdW (m:=p+1+i) (by omega) tb
 ·rintro σ H' ⟨rfl,N,f,rfl,tb⟩
  have e3:p+1+((n:Int)-((p:Int)+1)).toNat=n:=by omega
  rw[e3] at tb
  exact⟨_,rfl,q N tb⟩
theorem zei (T:Txt P w K mg a)(wQ:zF P w K mg base z7 k a.vZ a.v8 wO tM):zF P w K mg base z7 (k+1) a.Xw a.Xx Z4 Xr:=by
 refine T.Vv.F.ok Qh (fun vs H Q E h=>?_) (fun cdv A outer s H vs Q E hr h=>?_)
 ·obtain⟨N,p,n,f,rfl,_⟩:=h
  rfl
 obtain⟨N,p,n,f,rfl,hp,hn,tb,q⟩:=h
 refine⟨_,(zj (zH 3 Qh.nd (zN Ks (pv 0) (zy wQ hr T.WK (za (pv 1) (za (pv 2) zc)))))
   (zj (zH 4 Qh.nd (zN QM (pv 0) (pv 3)))
   (zu (zL (zN NZ (zN zh0 (pv 3) (zN Ye zq (pv 1))) (zN Ye (pv 4) (zN Ye zq (pv 1)))))))),?_⟩
 have one:1<2^10000:=zcM (k:=1) (by decide) (by decide)
 have h1:=zfB (n:=p) (by omega)
 have h2:=zfB (n:=n) (by omega)
 refine⟨_,rfl,_,rfl,_,rfl,p,n,rfl,hp,hn,fun R tr=>?_⟩
 refine⟨N,R,rfl,rfl,?_⟩
 refine⟨_,rfl,_,rfl,N,N&&&R,rfl,rfl,?_⟩
 have o:=QL tb tr
 have z:=SN tb o
 have lt2:N ^^^ (N&&&R)<2^10000:=zcM (zgB z) (zq3 h2 (by decide))
 refine⟨_,rfl,_,rfl,1,p,rfl,rfl,one,by omega,N&&&R,1*2^p,rfl,rfl,_,rfl,_,rfl,1,p,rfl,rfl,one,by omega,N ^^^ (N&&&R),1*2^p,rfl,rfl,lt2,by omega,_,_,rfl,rfl,?_⟩
 refine q _ ?_
 rw[Nat.one_mul]
 exact zgC hp tb tr
theorem zej (T:Txt P w K mg a):zF P w K mg base z7 (k+1) a.xq a.xr yV (QT K):=by
 refine T.z6.F.ok Vr (fun vs H Q E h=>?_) (fun cdv A outer s H vs Q E hr h=>?_)
 ·obtain⟨l,ns,i,rfl,_⟩:=h
  rfl
 obtain⟨l,ns,i,rfl,hS,h0,q⟩:=h
 refine⟨_,(zj (yp (zK M9 (pv 1) (zG zJ rfl T.yX yC (za (pv 0) zc)) (zP _)) (zu (zL (zV zW (pv 0) (pv 1) (fun _ _=>rfl)))) zR)
   (zu (zL zq))),?_⟩
 refine⟨_,rfl,_,rfl,l,_,rfl,.inl hS,_,_,rfl,rfl,_,rfl,?_⟩
 refine z8 (fun c=>?_) (fun c=>?_)
 ·have c':i<(((ns.map V.int).length:Nat):Int):=of_decide_eq_true c
  rw[zqI] at c'
  have hi:i.toNat<ns.length:=by omega
  have e:Je (ns.map V.int) i=some (.int ns[i.toNat]):=by
   have q:=xG (xs:=ns.map V.int) (j:=i.toNat) (v:=.int ns[i.toNat]) (by rw[zqK,zqJ hi];rfl)
   have ei:((i.toNat:Nat):Int)=i:=by omega
   rw[ei] at q
   exact q
  exact⟨_,rfl,_,rfl,l,_,i,_,rfl,rfl,hS,e,q _⟩
 ·exact q 0
theorem ziQ (T:Txt P w K mg a):zF P w K mg base z7 (k+1) a.vd a.vf wk R6:=by
 refine T.yw.F.ok vB (fun vs H Q E h=>?_) (fun cdv A outer s H vs Q E hr h=>?_)
 ·obtain⟨c,m,b,rfl,_⟩:=h
  rfl
 obtain⟨c,m,b,rfl,hm,b0,b1,q⟩:=h
 refine⟨_,(zj (yp (zK zi1 (pv 0) (zN zjx zq zq) (zP _)) (zj (zH 4 vB.nd (pv 0))
   (zj (uJ PassesOwn.never rfl (ZV rfl T.Xp (za (pv 1) zc)) (yI (i:=5) vB.nd rfl (Or.inl rfl)) (zu (zH 4 vB.nd (zN Kl (pv 4) (pv 2)))))
   (zu (zL (zN wu (pv 4) (pv 2)))))) zR)
   (zj (zH 3 vB.nd (zN wu (zN Nx (zN yM (zN yM (zN wu (pv 0) zq) (zN Nx zq (pv 1))) zq) zq) zq))
   (zj (zH 3 vB.nd (zN wu (zN yM (zN yM (zN Nx (pv 3) (pv 3)) (zN Nx zq (pv 1))) zq) zq))
   (zu (zL (zN wu (zN Kl (zN wu (zN Nx (pv 3) zq) zq) zq) (pv 2))))))),?_⟩
 refine⟨_,rfl,10,18,rfl,rfl,⟨by decide,by decide,by decide⟩,_,_,rfl,rfl,_,rfl,?_⟩
 refine z8 (fun _=>?_) (fun _=>?_)
 ·refine⟨_,rfl,?_⟩
  refine⟨_,rfl,(m:Int),rfl,by omega,by omega,?_⟩
  refine ZW (fun i σ H'=>H'=H/\∃(x:Int) (f1 f2:Option V),σ=[some (.int c),some (.int m),some (.int b),f1,some (.int x),f2]) ⟨rfl,c,_,_,rfl⟩ ?_ ?_
  ·rintro i σ H' hi ⟨rfl,x,f1,f2,rfl⟩
   refine⟨_,rfl,_,rfl,x,b,rfl,rfl,⟨b0,b1⟩,?_⟩
   exact⟨rfl,x / b,_,_,rfl⟩
  ·rintro σ H' ⟨rfl,x,f1,f2,rfl⟩
   refine⟨_,rfl,_,rfl,x,b,rfl,rfl,b0,?_⟩
   exact q _ (zrp _ (by omega)) (zrl _ b0)
 ·have p1:(0:Int)<1000000007:=by decide
  have p2:(0:Int)<2147483647:=by decide
  have p3:(0:Int)<2147483629:=by decide
  refine⟨_,rfl,c,1000000007,rfl,rfl,p1,_,rfl,1009,(m:Int),rfl,rfl,.inl ⟨by decide,by decide⟩,_,_,rfl,rfl,_,17,rfl,rfl,_,69621,rfl,rfl,.inr ⟨by decide,by decide⟩,_,2147483647,rfl,rfl,p2,?_⟩
  have z0:0<=(c%1000000007+1009*(m:Int)+17)*69621%2147483647:=zrp _ (by decide)
  have z1:(c%1000000007+1009*(m:Int)+17)*69621%2147483647<2147483647:=zrl _ p2
  refine⟨_,rfl,_,rfl,_,_,rfl,rfl,.inl ⟨Int.lt_of_lt_of_le (by decide) z0,Int.lt_trans z1 (by decide)⟩,_,rfl,40503,(m:Int),rfl,rfl,.inl ⟨by decide,by decide⟩,_,_,rfl,rfl,_,5,rfl,rfl,_,2147483629,rfl,rfl,p3,?_⟩
  refine⟨_,rfl,_,48271,rfl,rfl,.inr ⟨by decide,by decide⟩,_,2147483647,rfl,rfl,p2,_,32,rfl,rfl,⟨by decide,by decide⟩,_,rfl,_,b,rfl,rfl,b0,?_⟩
  exact q _ (zrp _ (by omega)) (zrl _ b0)
theorem zhi (T:Txt P w K mg a)(yd:zF P w K mg base z7 k a.vd a.vf wk R6):zF P w K mg base z7 (k+1) a.W6 a.W7 Yj zbL:=by
 refine T.RP.F.ok XS (fun vs H Q E h=>?_) (fun cdv A outer s H vs Q E hr h=>?_)
 ·obtain⟨c,n,rfl,_⟩:=h
  rfl
 obtain⟨c,n,rfl,hn,h8,q⟩:=h
 refine⟨_,(zj (zH 2 XS.nd (yJ zc))
   (zj (uJ PassesOwn.never rfl (ZV rfl T.Xp (za (zN yM zq (zy yd hr T.yw (za (pv 0) (za zq (za (pv 1) zc))))) zc)) (yI (i:=3) XS.nd rfl (Or.inl rfl)) (zu (yj (wF PySem.F.plainAttrs_list PySem.F.slot_list_insert PySem.F.type_list_insert SJ (pv 2) (za (zN wu (zy yd hr T.yw (za (pv 0) (za (zN yM zq (pv 3)) (za zq zc)))) (zN yM (pv 3) zq)) (za (zV zjG wB (pv 3) (fun _ _=>rfl)) zc))))))
   (zu (zL (pv 2))))),?_⟩
 refine⟨by show 0<=sizeLine;decide,fun l hl=>?_⟩
 refine⟨_,rfl,_,rfl,c,0,(n:Int),rfl,by decide,by omega,by omega,fun r r0 r1=>?_⟩
 refine⟨1,r,rfl,rfl,1+r,rfl,by omega,by omega,?_⟩
 refine ZW (fun i σ H'=>∃(os:List Str) (f1:Option V),Same H H'/\H' l=some (.lst (os.map V.str))/\os.Nodup/\os.length=i/\(∀x∈os,x∈vM.take i)/\σ=[some (.int c),some (.int n),some (.ref l),f1])
  ⟨[],_,QS hl _,zf,List.nodup_nil,rfl,(fun _ h=>nomatch h),rfl⟩ ?_ ?_
 ·rintro i σ H' hi ⟨os,f1,g,hl',nd,le,mem,rfl⟩
  have i8:i<8:=by omega
  obtain⟨ch,hc1,hc2⟩:=zh4 i8
  have e1:(1:Int)+(0+(i:Nat))=((1+i:Nat):Int):=by omega
  have e2:(0:Int)+(i:Nat)=((i:Nat):Int):=by omega
  refine⟨_,rfl,.inl ⟨rfl,_,zT.of hl'⟩,?_⟩
  refine⟨_,rfl,_,rfl,1,_,rfl,rfl,c,1+i,5040,congrArg (fun z=>[V.int c,V.int z,V.int 5040]) e1,by omega,by decide,by decide,fun r' s0 s1=>?_⟩
  refine⟨_,rfl,_,1,rfl,rfl,r',_,rfl,rfl,by show(0:Int)<0+(i:Nat)+1;omega,?_⟩
  refine⟨_,rfl,_,(i:Int),ch,rfl,congrArg V.int e2,by show(Str.ofString "abcdefgh").length<=sizeLine;decide,hc1,?_⟩
  have m0:0<=r'%(0+(i:Nat)+1):=zrp _ (by omega)
  have m1:r'%(0+(i:Nat)+1)<0+(i:Nat)+1:=zrl _ (by omega)
  generalize hj:r'%(0+((i:Nat):Int)+1)=j at m0 m1
  refine⟨l,os.map V.str,j,_,rfl,by rw[<-hj],hl',m0,by rw[zqI];omega,by rw[zqI];exact zqR (show os.length<9 by omega) (by decide),?_⟩
  have nm:(⟨#[ch]⟩:Str)∉os:=fun hm=>zgE hc2 (mem _ hm)
  have ml:∀x∈vM.take i,x∈vM.take (i+1):=fun x hx=>by
   rw[List.take_succ]
   exact List.mem_append_left _ hx
  have mn:(⟨#[ch]⟩:Str)∈vM.take (i+1):=by
   rw[List.take_succ,hc2]
   exact zqZ _ (by simp)
  refine⟨os.take j.toNat++(⟨#[ch]⟩:Str)::os.drop j.toNat,_,?_,?_,?_,?_,?_,rfl⟩
  ·exact fun b o hb=>by rw[zE (zB hb hl)];exact g b o hb
  ·rw[zf]
   simp
  ·refine List.perm_middle.nodup_iff.mpr (List.nodup_cons.mpr ⟨?_,?_⟩)
   ·rw[List.take_append_drop];exact nm
   ·rw[List.take_append_drop];exact nd
  ·rw[zqQ,zqU,zq5,List.length_drop]
   omega
  ·intro x hx
   rcases List.mem_append.mp hx with z | z
   ·exact ml x (mem x (List.mem_of_mem_take z))
   ·rcases List.mem_cons.mp z with z | z
    ·rw[z];exact mn
    ·exact ml x (mem x (List.mem_of_mem_drop z))
 ·rintro σ H' ⟨os,f1,g,hl',nd,le,mem,rfl⟩
  refine⟨_,rfl,q l H' os g hl' ⟨nd,fun x hx=>List.mem_of_mem_take (mem x hx),by omega⟩ (by omega)⟩
theorem zcd (T:Txt P w K mg a)(yg:zF P w K mg base z7 k a.xq a.xr yV (QT K))(yd:zF P w K mg base z7 k a.vd a.vf wk R6) :
  zF P w K mg base z7 (k+1) a.Z8 a.Z9 ur (Tv K):=by
 refine T.Yc.F.ok yu (fun vs H Q E h=>?_) (fun cdv A outer s H vs Q E hr h=>?_)
 ·obtain⟨sc,ol,ns,t,m,os,rfl,_⟩:=h
  rfl
 obtain⟨sc,ol,ns,t,m,os,rfl,hS,hO,o0,o8,m0,m40,t60,q⟩:=h
 obtain⟨st0,h0⟩:∃st0,st0=(vL wK).headD (.Pass ⟨0,0,0,0⟩):=⟨_,rfl⟩
 have hb:vL wK=st0::(vL wK).tail:=by rw[h0];rfl
 rw[hb]
 have hk:zbJ st0=some (Str.ofString "kinds", R7):=by rw[h0];rfl
 refine⟨_,zj (zh3 (i:=4) hk yu.nd rfl (Or.inl rfl) (.inl rfl)) (zj (zH 5 yu.nd (yJ (za (wC (za wB (za (zV zW (pv 3) (zN wu (zy yd hr T.yw (za (zy yg hr T.z6 (za (pv 0) (za (pv 1) zc))) (za zq (za zq zc)))) (zG zJ rfl T.yX yC (za (pv 3) zc))) (fun _ _=>rfl)) zc))) zc)))
   (zj (uJ PassesOwn.never rfl (zaQ rfl T.Xp (za zq (za (pv 2) zc))) (yI (i:=6) yu.nd rfl (Or.inl rfl)) (zj (zH 7 yu.nd (zy yg hr T.z6 (za (pv 0) (za (zN yM (pv 1) (pv 6)) zc))))
   (zj (zH 8 yu.nd (zV zW (pv 4) (zy yd hr T.yw (za (pv 7) (za zq (za zq zc)))) (fun _ _=>rfl)))
   (zj (zH 9 yu.nd (zV zW (pv 5) (zN RZ (zex zby zq) (zN wu (zy yd hr T.yw (za (pv 7) (za zq (za zq zc)))) (zG zJ rfl T.yX yC (za (pv 5) zc)))) (fun _ _=>rfl)))
   (zj (zH 10 yu.nd (zV zW (pv 5) (zN wu (zy yd hr T.yw (za (pv 7) (za zq (za zq zc)))) (zG zJ rfl T.yX yC (za (pv 5) zc))) (fun _ _=>rfl)))
   (zj (zH 11 yu.nd (zV zW (pv 3) (zN wu (zy yd hr T.yw (za (pv 7) (za zq (za zq zc)))) (zG zJ rfl T.yX yC (za (pv 3) zc))) (fun _ _=>rfl)))
   (zu (yp (PW.pt (Qz (zK xP (pv 8) wB (zP _)) (UJ (zK xP (pv 8) wB (zP _))))) (zu (yj (wF PySem.F.plainAttrs_list PySem.F.slot_list_append PySem.F.type_list_append wG (pv 5) (za (wC (za (pv 8) zc)) zc)))) (zu (yp (zK xP (pv 8) wB (zP _)) (zu (yj (wF PySem.F.plainAttrs_list PySem.F.slot_list_append PySem.F.type_list_append wG (pv 5) (za (wC (za wB (za (pv 11) zc))) zc)))) (zu (yp (zK xP (pv 8) wB (zP _)) (zu (yj (wF PySem.F.plainAttrs_list PySem.F.slot_list_append PySem.F.type_list_append wG (pv 5) (za (wC (za wB (za (pv 9) zc))) zc)))) (zu (yp (PW.pt (Qz (zK xP (pv 8) wB (zP _)) (UJ (zK xP (pv 8) wB (zP _))))) (zu (yj (wF PySem.F.plainAttrs_list PySem.F.slot_list_append PySem.F.type_list_append wG (pv 5) (za (wC (za (pv 8) (za (pv 11) (za (pv 9) zc)))) zc)))) (zu (yj (wF PySem.F.plainAttrs_list PySem.F.slot_list_append PySem.F.type_list_append wG (pv 5) (za (wC (za (pv 8) (za (pv 10) (za (pv 9) zc)))) zc))))))))))))))))))
   (zu (zL (zV zW (pv 5) (zex zby zq) (fun _ _=>rfl)))))),?_⟩
 refine⟨by show 14<=sizeLine;decide,fun kd hkd=>?_⟩
 have g1:=QS hkd (.lst (R7.map V.str))
 have hS1:=g1.seq hS
 have hO1:=g1.seq hO
 refine⟨_,rfl,_,rfl,_,rfl,sc,ns,(t:Int),rfl,hS1,by omega,fun c0=>?_⟩
 refine⟨c0,3,40320,rfl,by decide,by decide,by decide,fun r0 _ _=>?_⟩
 obtain⟨x0,hx0,hx0'⟩:=Lh o0 r0
 have pl:(0:Int)<((os.map V.str).length:Nat):=by rw[zqI];omega
 refine⟨_,rfl,ol,_,rfl,.inl hO1,_,_,rfl,rfl,pl,ol,_,_,.str x0,rfl,rfl,hO1,hx0',by show 2<=sizeLine;decide,fun p0 hp0=>?_⟩
 refine⟨by show 1<=sizeLine;decide,fun md hmd=>?_⟩
 have g2:=QS hp0 (.tup [.str "mark", .str x0])
 have g3:=QS hmd (.lst [.ref p0])
 have f0:H md=none:=(g1.trans g2).free hmd
 have nk:md≠kd:=Ne.symm (zB (g2 _ _ zf) hmd)
 have N0:zbk H (upd (upd (upd H kd (.lst (R7.map V.str))) p0 (.tup [.str "mark", .str x0])) md (.lst [.ref p0])) os md kd [p0] 1 [.mk x0]:=by
  refine⟨?_,Few.none.push [] [x0] (fun c hc=>absurd hc zq8) (fun x hx=>.inl hx) (by show 2*1+0<=2;decide),rfl,fun p hp=>⟨.mk x0,List.mem_singleton.mpr rfl,by rw[List.mem_singleton.mp hp];exact g3 _ _ zf,hx0,zqY _⟩⟩
  refine⟨g1.trans (g2.trans g3),zf,g3 _ _ (g2 _ _ zf),by simp,fun p hp=>?_⟩
  have e:p=p0:=by simpa using hp
  subst e
  exact⟨.mk x0,g3 _ _ zf,hx0,zqY _⟩
 refine⟨_,rfl,1,(m:Int),rfl,⟨by omega,by omega,by omega,by omega⟩,?_⟩
 refine ZW (fun i σ H'=>∃(ps:List Addr) (ss:List Sn) (f1 f2 f3 f4 f5 f6:Option V),zbk H H' os md kd ps (i+1) ss/\ps.length=i+1/\σ=[some (.ref sc),some (.int t),some (.int m),some (.ref ol),some (.ref kd),some (.ref md),f1,f2,f3,f4,f5,f6])
  ⟨[p0],_,_,_,_,_,_,_,N0,rfl,rfl⟩ ?_ ?_
 ·rintro i σ H' hi ⟨ps,ss,f1,f2,f3,f4,f5,f6,N,lp,rfl⟩
  have M:=N.M
  have hS2:=M.old.seq hS
  have hO2:=M.old.seq hO
  have e1:(t:Int)+(1+(i:Nat))=((t+(1+i):Nat):Int):=by omega
  refine⟨_,rfl,_,rfl,_,rfl,_,_,rfl,rfl,sc,ns,_,rfl,hS2,by omega,fun c=>?_⟩
  refine⟨_,rfl,_,rfl,c,0,14,rfl,by decide,by decide,by decide,fun d d0 d1=>?_⟩
  obtain⟨jk,vk,qk1,qk2⟩:=zbM (xs:=R7.map V.str) (i:=d) (by show -((14:Nat):Int)<=d;omega) (by show d<((14:Nat):Int);omega)
  obtain⟨kind,hkm,hkv⟩:∃kind,kind∈R7/\vk=.str kind:=by
   rw[zqK] at qk2
   cases hx:R7[jk]? with
   | none=>rw[hx] at qk2;cases qk2
   | some x=>rw[hx] at qk2;cases qk2;exact⟨x,zqN hx,rfl⟩
  subst hkv
  refine⟨kd,_,_,_,rfl,rfl,zT.of M.kin,qk1,?_⟩
  have lm:((ps.map V.ref).length:Nat)=i+1:=by rw[zqI];exact lp
  have pm:(0:Int)<((ps.map V.ref).length:Nat):=by rw[lm];omega
  refine⟨_,rfl,1,rfl,_,rfl,c,1,2,rfl,by decide,by decide,by decide,fun d2 _ _=>?_⟩
  refine⟨_,rfl,md,_,rfl,.inl (zT.of M.mad),_,_,rfl,rfl,pm,_,_,rfl,rfl,?_⟩
  have a0:=zrp d2 (show((ps.map V.ref).length:Int)≠0 by omega)
  have a1:=zrl d2 pm
  obtain⟨q1,hq1,hq1'⟩:=N5 (ps:=ps) (i:=-1-d2%((ps.map V.ref).length:Nat)) (by rw[lm] at a0 a1 ⊢;omega) (by rw[lm] at a0 a1 ⊢;omega)
  refine⟨md,_,_,_,rfl,rfl,zT.of M.mad,hq1',?_⟩
  refine⟨_,rfl,_,rfl,c,2,60,rfl,by decide,by decide,by decide,fun d3 _ _=>?_⟩
  refine⟨_,rfl,md,_,rfl,.inl (zT.of M.mad),_,_,rfl,rfl,pm,?_⟩
  have b0:=zrp d3 (show((ps.map V.ref).length:Int)≠0 by omega)
  have b1:=zrl d3 pm
  obtain⟨q2,hq2,hq2'⟩:=N5 (ps:=ps) (i:=d3%((ps.map V.ref).length:Nat)) (by rw[lm] at b0 b1 ⊢;omega) (by rw[lm] at b0 b1 ⊢;omega)
  refine⟨md,_,_,_,rfl,rfl,zT.of M.mad,hq2',?_⟩
  refine⟨_,rfl,_,rfl,c,3,40320,rfl,by decide,by decide,by decide,fun d4 _ _=>?_⟩
  obtain⟨x,hx,hx'⟩:=Lh o0 d4
  refine⟨_,rfl,ol,_,rfl,.inl hO2,_,_,rfl,rfl,pl,ol,_,_,.str x,rfl,rfl,hO2,hx',?_⟩
  obtain⟨s1,s1m,s1i,s1o,s1d⟩:=N.all q1 hq1
  obtain⟨s2,s2m,s2i,s2o,s2d⟩:=N.all q2 hq2
  have no:∀c:Sn,c∈([]:List Sn)->c∈ss:=fun c hc=>absurd hc zq8
  have on:∀c:Sn,c∈[s1]->c∈ss:=fun c hc=>by rw[List.mem_singleton.mp hc];exact s1m
  have big:ps.length<sizeLine:=Nat.lt_of_le_of_lt (show ps.length<=100 by omega) (by decide)
  have zek:(ps.map V.ref).length<sizeLine:=by rw[zqI];exact big
  have mdu:∀(p:Addr) (o:HO),H' p=none->(upd H' p o) md=some (.lst (ps.map V.ref)):=fun p o hp=>by rw[zE (zB M.mad hp)];exact M.mad
  have fin:∀(p:Addr) (xs:List V) (s':Sn),H' p=none->SQ (upd H' p (.tup xs)) s' p->s'.Qx os->s'.depth<=i+1+1->Few (ss++[s']) ->
    ∃(ps':List Addr) (ss':List Sn) (f1 f2 f3 f4 f5 f6:Option V),zbk H (upd (upd H' p (.tup xs)) md (.lst (ps.map V.ref++[.ref p]))) os md kd ps' (i+1+1) ss'/\ps'.length=i+1+1 /\
     [some (.ref sc),some (.int t),some (.int m),some (.ref ol),some (.ref kd),some (.ref md),some (.int (1+(i:Nat))),some (.int c),some (.str kind),some (.ref q1),some (.ref q2),some (.str x)]=[some (.ref sc),some (.int t),some (.int m),some (.ref ol),some (.ref kd),some (.ref md),f1,f2,f3,f4,f5,f6]:=fun p xs s' hp hs ho hd fw=>by
   have:=N.push f0 hp hs ho hd nk fw
   rw[zqW] at this
   exact⟨ps++[p],_,_,_,_,_,_,_,this,by simp[lp],rfl⟩
  refine⟨_,rfl,rfl,_,rfl,z8 (fun c1=>?_) (fun c1=>?_)⟩
  ·have ek:kind="yes" := by have:=of_decide_eq_true c1;cases this;rfl
   subst ek
   refine WR ⟨_,rfl,.inl ⟨rfl,_,zT.of M.mad⟩,_,rfl,by show 1<=sizeLine;decide,fun p hp=>⟨md,_,_,rfl,rfl,mdu p _ hp,zek,?_⟩⟩
   exact fin p _ (.c0 true) hp zf trivial (by show 1<=_;omega) (N.few.push [] [] no (fun x hx=>absurd hx zq8) (by decide))
  have n1:kind ≠ "yes" := fun e=>c1 (decide_eq_true (by rw[e]))
  refine⟨_,rfl,rfl,_,rfl,z8 (fun c2=>?_) (fun c2=>?_)⟩
  ·have ek:kind="no" := by have:=of_decide_eq_true c2;cases this;rfl
   subst ek
   refine⟨_,rfl,.inl ⟨rfl,_,zT.of M.mad⟩,_,rfl,by show 1<=sizeLine;decide,fun p hp=>⟨md,_,_,rfl,rfl,mdu p _ hp,zek,?_⟩⟩
   exact fin p _ (.c0 false) hp zf trivial (by show 1<=_;omega) (N.few.push [] [] no (fun x hx=>absurd hx zq8) (by decide))
  have n2:kind ≠ "no" := fun e=>c2 (decide_eq_true (by rw[e]))
  refine⟨_,rfl,rfl,_,rfl,z8 (fun c3=>?_) (fun c3=>?_)⟩
  ·have ek:kind="mark" := by have:=of_decide_eq_true c3;cases this;rfl
   subst ek
   refine⟨_,rfl,.inl ⟨rfl,_,zT.of M.mad⟩,_,rfl,by show 2<=sizeLine;decide,fun p hp=>⟨md,_,_,rfl,rfl,mdu p _ hp,zek,?_⟩⟩
   exact fin p _ (.mk x) hp zf hx (by show 1<=_;omega) (N.few.push [] [x] no (fun x hx=>.inl hx) (by show 2*1+0<=2;decide))
  have n3:kind ≠ "mark" := fun e=>c3 (decide_eq_true (by rw[e]))
  refine⟨_,rfl,rfl,_,rfl,z8 (fun c4=>?_) (fun c4=>?_)⟩
  ·have ek:kind="not" := by have:=of_decide_eq_true c4;cases this;rfl
   subst ek
   refine⟨_,rfl,.inl ⟨rfl,_,zT.of M.mad⟩,_,rfl,by show 2<=sizeLine;decide,fun p hp=>⟨md,_,_,rfl,rfl,mdu p _ hp,zek,?_⟩⟩
   exact fin p _ (.nt s1) hp ⟨q1,zf,s1i.mono (yN.new hp _)⟩ s1o (by show 1+s1.depth<=_;omega) (N.few.push [s1] [] on (fun x hx=>.inr ⟨s1,List.mem_singleton.mpr rfl,hx⟩) (by show 2*0+1<=2;decide))
  have n4:kind ≠ "not" := fun e=>c4 (decide_eq_true (by rw[e]))
  refine⟨_,rfl,rfl,_,rfl,z8 (fun c5=>?_) (fun c5=>?_)⟩
  ·have ek:kind="some" := by have:=of_decide_eq_true c5;cases this;rfl
   subst ek
   refine WR ⟨_,rfl,.inl ⟨rfl,_,zT.of M.mad⟩,_,rfl,_,rfl,_,rfl,by show 3<=sizeLine;decide,fun p hp=>⟨md,_,_,rfl,rfl,mdu p _ hp,zek,?_⟩⟩
   exact fin p _ (.q1 true x s1) hp ⟨q1,zf,s1i.mono (yN.new hp _)⟩ ⟨hx,s1o⟩ (by show 1+s1.depth<=_;omega) (N.few.push [s1] [] on (fun x hx=>.inr ⟨s1,List.mem_singleton.mpr rfl,hx⟩) (by show 2*0+1<=2;decide))
  have n5:kind ≠ "some" := fun e=>c5 (decide_eq_true (by rw[e]))
  refine⟨_,rfl,rfl,_,rfl,z8 (fun c6=>?_) (fun c6=>?_)⟩
  ·have ek:kind="each" := by have:=of_decide_eq_true c6;cases this;rfl
   subst ek
   refine⟨_,rfl,.inl ⟨rfl,_,zT.of M.mad⟩,_,rfl,_,rfl,_,rfl,by show 3<=sizeLine;decide,fun p hp=>⟨md,_,_,rfl,rfl,mdu p _ hp,zek,?_⟩⟩
   exact fin p _ (.q1 false x s1) hp ⟨q1,zf,s1i.mono (yN.new hp _)⟩ ⟨hx,s1o⟩ (by show 1+s1.depth<=_;omega) (N.few.push [s1] [] on (fun x hx=>.inr ⟨s1,List.mem_singleton.mpr rfl,hx⟩) (by show 2*0+1<=2;decide))
  have n6:kind ≠ "each" := fun e=>c6 (decide_eq_true (by rw[e]))
  obtain⟨o,ho⟩:∃o:Fin 4,kind=w2 o:=by
   have:kind∈([Str.ofString "mark", Str.ofString "mark", Str.ofString "not", Str.ofString "and", Str.ofString "or", Str.ofString "either", Str.ofString "if", Str.ofString "and", Str.ofString "or", Str.ofString "some", Str.ofString "each", Str.ofString "yes", Str.ofString "no", Str.ofString "mark"]:List Str):=hkm
   simp only[List.mem_cons,zq8,or_false] at this
   rcases this with h | h | h | h | h | h | h | h | h | h | h | h | h | h<;>first | exact absurd h n1 | exact absurd h n2 | exact absurd h n3 | exact absurd h n4 | exact absurd h n5 | exact absurd h n6 | exact⟨0,h⟩ | exact⟨1,h⟩ | exact⟨2,h⟩ | exact⟨3,h⟩
  subst ho
  refine⟨_,rfl,.inl ⟨rfl,_,zT.of M.mad⟩,_,rfl,_,rfl,_,rfl,by show 3<=sizeLine;decide,fun p hp=>⟨md,_,_,rfl,rfl,mdu p _ hp,zek,?_⟩⟩
  exact fin p _ (.b2 o s2 s1) hp ⟨q2,q1,zf,s2i.mono (yN.new hp _),s1i.mono (yN.new hp _)⟩ ⟨s2o,s1o⟩ (by show 1+max s2.depth s1.depth<=_;omega) (N.few.push [s2,s1] [] (fun c hc=>by rcases List.mem_cons.mp hc with rfl | hc;exact s2m;rw[List.mem_singleton.mp hc];exact s1m) (fun x hx=>.inr ((List.mem_append.mp hx).elim (fun z=>⟨s2,zq1,z⟩) (fun z=>⟨s1,zqT _ (List.mem_singleton.mpr rfl),z⟩))) (by show 2*0+2<=2;decide))
 ·rintro σ H' ⟨ps,ss,f1,f2,f3,f4,f5,f6,N,lp,rfl⟩
  have M:=N.M
  obtain⟨p,hp,hp'⟩:=N5 (ps:=ps) (i:=-1) (by omega) (by omega)
  obtain⟨s',z0,z1,z2,z3⟩:=N.all p hp
  obtain⟨P',w1,w2⟩:=N.few.last z0
  rw[N.len,lp] at w1
  have e:((m:Int)-1).toNat+1=m:=by omega
  rw[e] at z3
  exact⟨_,rfl,1,rfl,md,_,-1,_,rfl,rfl,zT.of M.mad,hp',q p H' s' M.old z1 z2 z3 ⟨P',by omega,w2⟩⟩
theorem zel (T:Txt P w K mg a):zF P w K mg base z7 (k+1) a.Vs a.Vt Xv Vg:=by
 refine T.MP.F.ok zeh (fun vs H Q E h=>?_) (fun cdv A outer s H vs Q E hr h=>?_)
 ·obtain⟨x,rfl,_⟩:=h
  rfl
 obtain⟨x,rfl,q⟩:=h
 refine⟨_,(zu (zL (ug zaX (pv 0) (Wj (v:=.ref a.KY) rfl T.ziM rfl) (by with_unfolding_all rfl)))),?_⟩
 refine⟨_,rfl,a.KY,vM.map V.str,rfl,.inr (T.ziN H),rfl,Xu _,?_⟩
 show Q (.bl (inV (.str x) (vM.map V.str))) H
 rw[zcQ]
 exact q
theorem zdk (T:Txt P w K mg a)(M4:zF P w K mg base z7 k a.Vs a.Vt Xv Vg):zF P w K mg base z7 (k+1) a.Qn a.Qo V6 (N8 K):=by
 refine T.J0.F.ok zde (fun vs H Q E h=>?_) (fun cdv A outer s H vs Q E hr h=>?_)
 ·obtain⟨l,os,rfl,_⟩:=h
  rfl
 obtain⟨l,os,rfl,hq,h100,q⟩:=h
 refine⟨_,(zu (zL (K7 (ug Vc (zG zJ rfl T.yX yC (za (pv 0) zc)) zq (zP _)) (K7 (zG (Zf rfl) rfl T.Nj VH (za (uK (uP:=zA Qj) (js:=[]) rfl (by show Yy _ _ "letter" [];exact lco (by decide +kernel)) rfl (yZ (pv 0)) (by show ∀j∈([]:List Nat),j<1;decide) (fun cl C s₂ H₂ fp=>(zy M4 hr T.MP (za (pv 0) zc)))) zc)) (K6 (ug xP (zG call_len_set' rfl T.yX yC (za (uh (zgw rfl) rfl T.zlC zjS (za (pv 0) zc)) zc)) (zG zJ rfl T.yX yC (za (pv 0) zc)) (zP _))))))),?_⟩
 have hlen:(os.map V.str).length=os.length:=zqI _
 refine⟨_,rfl,l,_,rfl,.inl hq,_,_,rfl,rfl,_,rfl,z8 (fun c=>?_) (fun c=>?_)⟩
 ·have c':0<os.length:=by have:=of_decide_eq_true c;rw[hlen] at this;omega
  refine⟨_,rfl,l,rfl,⟨_,hq⟩,zeO (fun x v=>v=(match x with | .str y=>.bl (decide (y∈vM)) | _=>.non)) hq (by rw[hlen];exact zq0 (zQ (by omega))) ?_ (zeQ Li) ?_⟩
  ·intro i x H' hx g
   rw[zqK] at hx
   cases ho:os[i]? with
   | none=>rw[ho] at hx;cases hx
   | some y =>
    rw[ho] at hx
    cases hx
    exact⟨_,rfl,y,rfl,rfl,g⟩
  ·intro ys H' p hr' g hp
   have e:=Jk (f:=fun x=>match x with | .str y=>.bl (decide (y∈vM)) | _=>.non) hr'
   rw[zrj] at e
   have e2:ys=(os.map fun y=>decide (y∈vM)).map V.bl:=by rw[e,zrj];rfl
   subst e2
   have g1:=Same.new hp (.lst ((os.map fun y=>decide (y∈vM)).map V.bl))
   refine⟨p,_,rfl,zT.of zf,_,rfl,z8 (fun c2=>?_) (fun c2=>?_)⟩
   ·have hq2:=(g.trans g1).seq hq
    refine⟨_,rfl,l,os,rfl,hq2,h100,fun z hz=>⟨z,_,rfl,zf,?_⟩⟩
    have g2:=Same.new hz (zhW P w z (dd os).length)
    refine⟨_,rfl,l,_,rfl,.inl (g2.seq hq2),rfl,?_⟩
    have e3:decide (V.int ((dd os).length:Nat)=V.int ((os.map V.str).length:Nat))=zbP os:=by
     unfold zbP
     have c2':os.all (fun x=>decide (x∈vM))=true:=by rw[List.all_map] at c2;exact c2
     rw[decide_eq_true c',c2',hlen]
     by_cases nd:os.Nodup
     ·rw[decide_eq_true nd,zgs nd];simp
     ·have:=zjQ nd
      rw[decide_eq_false nd,decide_eq_false (fun z=>by injection z with z;omega)];rfl
    rw[e3]
    exact q _ ((g.trans g1).trans g2)
   ·have e4:zbP os=false:=by
     unfold zbP
     have c2':os.all (fun x=>decide (x∈vM))=false:=by
      rw[List.all_map] at c2
      exact Bool.eq_false_iff.mpr c2
     rw[c2',Bool.false_and,Bool.and_false]
    rw[<-e4]
    exact q _ (g.trans g1)
 ·have e4:zbP os=false:=by
   unfold zbP
   rw[decide_eq_false (fun z=>c (decide_eq_true (by rw[hlen];omega))),Bool.false_and]
  rw[<-e4]
  exact q _ (Same.refl _)
theorem zaB (T:Txt P w K mg a):zF P w K mg base z7 (k+1) a.Zw a.Zx uo Yz:=by
 refine T.Ul.F.ok zat (fun vs H Q E h=>?_) (fun cdv A outer s H vs Q E hr h=>?_)
 ·obtain⟨p,x,m,n,rest,rfl,_⟩:=h
  rfl
 obtain⟨p,x,m,n,rest,rfl,hp,hm,hl,q⟩:=h
 refine⟨_,(zu (zL (Vd zdO (pv 0) (Y5 zq) (Y5 (zN yM zq (zV wD (zV (zbI T.Wf.d) (Wj (v:=.ref a.Vu) rfl T.Ni rfl) (zV wD (pv 0) zq (fun _ _=>rfl)) (fun _ _=>rfl)) zq (fun _ _=>rfl))))))),?_⟩
 obtain⟨pt,hv,hpt⟩:=T.Wf.y x m n hm
 refine⟨_,rfl,1,rfl,_,rfl,p,_,0,_,rfl,rfl,xM.of hp,at0,x,.ref pt,.ref pt,rfl,rfl,hv,rfl,pt,_,0,_,rfl,rfl,hpt H,at0,1,(m:Int),rfl,rfl,_,rfl,p,_,rfl,xM.of hp,Jl (by decide),fun z hz=>?_⟩
 rw[zgF hl]
 exact q z hz
theorem zdl (T:Txt P w K mg a):zF P w K mg base z7 (k+1) a.tR a.tU vR Z1:=by
 refine T.Um.F.ok zdf (fun vs H Q E h=>?_) (fun cdv A outer s H vs Q E hr h=>?_)
 ·obtain⟨p,x,m,n,rest,rfl,_⟩:=h
  rfl
 obtain⟨p,x,m,n,rest,rfl,hp,hm,hl,q⟩:=h
 refine⟨_,(zu (zL (Vd zdO (pv 0) (Y5 (zN yM zq (zV wD (zV (zbI T.Wf.d) (Wj (v:=.ref a.Vu) rfl T.Ni rfl) (zV wD (pv 0) zq (fun _ _=>rfl)) (fun _ _=>rfl)) zq (fun _ _=>rfl)))) zbA))),?_⟩
 obtain⟨pt,hv,hpt⟩:=T.Wf.y x m n hm
 refine⟨_,rfl,_,rfl,p,_,0,_,rfl,rfl,xM.of hp,at0,x,.ref pt,.ref pt,rfl,rfl,hv,rfl,pt,_,0,_,rfl,rfl,hpt H,at0,1,(m:Int),rfl,rfl,_,rfl,p,_,rfl,xM.of hp,Jl (by omega),fun z hz=>?_⟩
 rw[zgG hl]
 exact q z hz
theorem Kd (T:Txt P w K mg a)(ud:zF P w K mg base z7 k a.tR a.tU vR Z1):zF P w K mg base z7 (k+1) a.Zy a.Zz vU (Y8 K):=by
 refine T.Wc.F.ok YK (fun vs H Q E h=>?_) (fun cdv A outer s H vs Q E hr h=>?_)
 ·obtain⟨l,ss,ps,rfl,_⟩:=h
  rfl
 obtain⟨l,ss,ps,rfl,hl,hp,hz,q⟩:=h
 refine⟨_,(zj (zH 1 YK.nd (yJ zc))
   (zj (uJ PassesOwn.never rfl (yZ (pv 0)) (yI (i:=2) YK.nd rfl (Or.inl rfl)) (zu (yj (wF PySem.F.plainAttrs_list PySem.F.slot_list_extend PySem.F.type_list_extend Jh (pv 1) (za (zy ud hr T.Um (za (pv 2) zc)) zc)))))
   (zu (zL (pv 1))))),?_⟩
 have pl:=yx hp
 refine⟨by show 0<=sizeLine;decide,fun f hf=>?_⟩
 have g0:=Same.new hf (.lst [])
 refine⟨_,rfl,l,rfl,⟨_,g0.seq hl⟩,?_⟩
 refine XC (xs:=ps.map V.ref) (fun i σ H'=>∃(qs:List Addr) (f1:Option V),Same H H'/\H' f=some (.lst (qs.map V.ref))/\Paired (SQ H') ((ss.take i).flatMap Sn.parts) qs/\qs.length<=2*i/\i<=ss.length/\σ=[some (.ref l),some (.ref f),f1])
  ⟨[],_,g0,zf,.nil,by simp,zq4 _,rfl⟩ ?_ ?_ ?_
 ·rintro i σ H' _ ⟨qs,f1,g,_⟩
  exact g.seq hl
 ·rintro i x σ H' hx ⟨qs,f1,g,hf',hqs,lq,li,rfl⟩
  rw[zqK] at hx
  cases ho:ps[i]? with
  | none=>rw[ho] at hx;cases hx
  | some p =>
   rw[ho] at hx
   cases hx
   obtain⟨sn,hsn,isp⟩:=QV hp ho
   have hlt:=(zqL.mp hsn).1
   obtain⟨zs,c1,c2,c3,c4,c5⟩:=QZ (isp.mono (yN.of g))
   have lz:=yx c2
   have lp2:=Sn.QX sn
   refine⟨_,rfl,.inl ⟨rfl,_,zT.of hf'⟩,_,rfl,p,sn.word,sn.letters.length,sn.parts.length,_,rfl,c1,Zg sn,c3,fun b hb=>?_⟩
   rw[c5]
   have nfb:f≠b:=zB hf' hb
   have hf2:(upd H' b (.tup (zs.map V.ref))) f=some (.lst (qs.map V.ref)):=by rw[zE nfb];exact hf'
   refine⟨f,b,qs.map V.ref,zs.map V.ref,rfl,rfl,hf2,?_,?_,?_⟩
   ·exact xM.of zf
   ·rw[zqI,zqI]
    exact zq0 (zQ (by omega))
   ·refine⟨qs++zs,_,(g.trans (Same.new hb _)).over hf _,by rw[zf,zqW],?_,?_,hlt,rfl⟩
    ·rw[zZ hsn,List.flatMap_append,List.flatMap_singleton]
     have t1:yN H' (upd (upd H' b (.tup (zs.map V.ref))) f (.lst (qs.map V.ref++zs.map V.ref))):=(yN.new hb _).trans (yN.lst hf2 _)
     exact YJ (yP (fun _ _ z=>z.mono t1) hqs) (yP (fun _ _ z=>z.mono t1) c2)
    ·rw[zqQ];omega
 ·rintro σ H' ⟨qs,f1,g,hf',hqs,lq,li,rfl⟩
  rw[zqI,<-pl,zra] at hqs
  exact⟨_,rfl,q f H' qs g hf hf' hqs⟩
theorem zce (T:Txt P w K mg a)(M4:zF P w K mg base z7 k a.Vs a.Vt Xv Vg)(Ur:zF P w K mg base z7 k a.Zw a.Zx uo Yz)(ud:zF P w K mg base z7 k a.tR a.tU vR Z1) :
  zF P w K mg base z7 (k+1) a.TX a.TY Ws Q5:=by
 refine T.Lr.F.ok Pn (fun vs H Q E h=>?_) (fun cdv A outer s H vs Q E hr h=>?_)
 ·obtain⟨p,s,rfl,_⟩:=h
  rfl
 obtain⟨p,sn,rfl,isp,hle,q⟩:=h
 refine⟨_,(zj (yp (PW.pt (Qz (zK xP (zG zJ rfl T.yX yC (za (pv 0) zc)) zq (zP _)) (Qz (Xy (vQ (zG tX rfl T.uF vq (za (zV wD (pv 0) zq (fun _ _=>rfl)) (za (Sx (v:=.ty "str") rfl T.zlD zjR rfl) zc))) (fun _=>rfl))) (UJ (zK (zap T.Wf.d) (zV wD (pv 0) zq (fun _ _=>rfl)) (Wj (v:=.ref a.Vu) rfl T.Ni rfl) (by with_unfolding_all rfl)))))) (zu (zL Yx)) zR)
   (zj (zH 1 Pn.nd (zV (zbI T.Wf.d) (Wj (v:=.ref a.Vu) rfl T.Ni rfl) (zV wD (pv 0) zq (fun _ _=>rfl)) (fun _ _=>rfl)))
   (zj (yp (zK zeB (zG zJ rfl T.yX yC (za (pv 0) zc)) (zN yM (zN yM zq (zV wD (pv 1) zq (fun _ _=>rfl))) (zV wD (pv 1) zq (fun _ _=>rfl))) (zP _)) (zu (zL Yx)) zR)
   (zj (yp (Xy (vQ (zG (Zf rfl) rfl T.Nj VH (za (uK (uP:=zA Wr) (js:=[]) rfl (by show Yy _ _ "letter" [];exact lco (by decide +kernel)) rfl (RW (zy Ur hr T.Ul (za (pv 0) zc))) (by show ∀j∈([]:List Nat),j<2;decide) (fun cl C s₂ H₂ fp=>(zy M4 hr T.MP (za (pv 0) zc)))) zc)) (fun _=>rfl))) (zu (zL Yx)) zR)
   (zu (zL (zG (Zf rfl) rfl T.Nj VH (za (uK (uP:=zA Wr) (js:=[]) rfl (by show Yy _ _ "part" [];exact lco (by decide +kernel)) rfl (RW (zy ud hr T.Um (za (pv 0) zc))) (by show ∀j∈([]:List Nat),j<2;decide) (fun cl C s₂ H₂ fp=>(zG (zbN (K:=K) rfl) rfl T.uF vq (za (pv 0) (za (Sx (v:=.ty "tuple") rfl T.ziO zgy rfl) zc))))) zc)))))))),?_⟩
 obtain⟨zs,c1,c2,c3,c4,c5⟩:=QZ isp
 have lz:=yx c2
 obtain⟨pt,hv,hpt⟩:=T.Wf.y _ _ _ (Zg sn)
 have lp2:=Sn.QX sn
 have ll1:=Sn.Jm sn
 refine⟨_,rfl,p,_,rfl,.inr (xM.of c1),rfl,_,rfl,z8 (fun c=>?_) (fun _=>?_)⟩
 ·exfalso
  have:=of_decide_eq_true c
  injection this with this
  rw[zqU] at this
  omega
 refine⟨_,rfl,p,_,0,_,rfl,rfl,xM.of c1,at0,_,_,_,true,rfl,.str sn.word,rfl,_,rfl,yq ?_⟩
 refine⟨_,rfl,p,_,0,_,rfl,rfl,xM.of c1,at0,sn.word,rfl,rfl,_,rfl,?_⟩
 rw[hv]
 refine yq ?_
 refine⟨_,rfl,p,_,0,_,rfl,rfl,xM.of c1,at0,sn.word,.ref pt,.ref pt,rfl,rfl,hv,rfl,?_⟩
 refine⟨_,rfl,p,_,rfl,.inr (xM.of c1),_,rfl,pt,_,0,_,rfl,rfl,hpt H,at0,1,_,rfl,rfl,_,rfl,pt,_,1,_,rfl,rfl,hpt H,at1,_,_,rfl,rfl,rfl,_,rfl,z8 (fun c=>?_) (fun _=>?_)⟩
 ·exfalso
  have z:V.int ((VC sn zs).length:Nat)=V.int (1+((sn.letters.length:Nat):Int)+((sn.parts.length:Nat):Int)):=by
   congr 1
   show(((V.str sn.word::(sn.letters.map V.str++zs.map V.ref)).length:Nat):Int)=_
   rw[zqU,c3]
   omega
  have c':(!decide (V.int ((VC sn zs).length:Nat)=V.int (1+((sn.letters.length:Nat):Int)+((sn.parts.length:Nat):Int))))=true:=c
  rw[decide_eq_true z] at c'
  cases c'
 refine⟨_,rfl,p,sn.word,sn.letters.length,sn.parts.length,_,rfl,c1,Zg sn,c3,fun b hb=>?_⟩
 rw[c4]
 have g1:=Same.new hb (.tup (sn.letters.map V.str))
 refine⟨b,rfl,⟨_,xM.of zf⟩,zeP (xs:=sn.letters.map V.str) (fun _ v=>v=.bl true) (xM.of zf) (by rw[zqI];exact zq0 (zQ (by omega))) ?_ (zeQ Li) ?_⟩
 ·intro i x H' hx g
  rw[zqK] at hx
  cases ho:sn.letters[i]? with
  | none=>rw[ho] at hx;cases hx
  | some y =>
   rw[ho] at hx
   cases hx
   refine⟨_,rfl,y,rfl,?_,g⟩
   rw[decide_eq_true (hle y (zqN ho))]
 intro ys H' p2 hr' g hp2
 have e:=Jk (f:=fun _=>.bl true) hr'
 have e2:ys=(sn.letters.map fun _=>true).map V.bl:=by rw[e,zrj,zrj];rfl
 subst e2
 have g2:=Same.new hp2 (.lst ((sn.letters.map fun _=>true).map V.bl))
 have ea:(sn.letters.map fun _=>true).all id=true:=by rw[List.all_map,zrb];exact fun _ _=>rfl
 refine⟨p2,_,rfl,zT.of zf,_,rfl,?_⟩
 rw[ea]
 refine yq ?_
 have gg:=(g1.trans g).trans g2
 have c1':=gg _ _ c1
 refine⟨_,rfl,p,sn.word,sn.letters.length,sn.parts.length,_,rfl,c1',Zg sn,c3,fun b3 hb3=>?_⟩
 rw[c5]
 have g3:=Same.new hb3 (.tup (zs.map V.ref))
 refine⟨b3,rfl,⟨_,xM.of zf⟩,zeP (xs:=zs.map V.ref) (fun _ v=>v=.bl true) (xM.of zf) (by rw[zqI];exact zq0 (zQ (by omega))) ?_ ?_ ?_⟩
 ·intro i x H4 hx g4
  rw[zqK] at hx
  cases ho:zs[i]? with
  | none=>rw[ho] at hx;cases hx
  | some y =>
   rw[ho] at hx
   cases hx
   obtain⟨sy,_,iy⟩:=QV c2 ho
   obtain⟨ws,d1,_⟩:=QZ iy
   have d1':=((gg.trans g3).trans g4) _ _ d1
   exact⟨_,rfl,_,_,_,true,rfl,.tup d1',rfl,rfl,g4⟩
 ·rintro σ' H' Q1 Q2 hQ ⟨v,e,x,T',t,b',h1,h2,h3,h4⟩
  exact⟨v,e,x,T',t,b',h1,h2,h3,hQ _ _ h4⟩
 ·intro ys H4 p4 hr4 g4 hp4
  have e:=Jk (f:=fun _=>.bl true) hr4
  have e2:ys=(zs.map fun _=>true).map V.bl:=by rw[e,zrj,zrj];rfl
  subst e2
  have ea:(zs.map fun _=>true).all id=true:=by rw[List.all_map,zrb];exact fun _ _=>rfl
  refine⟨p4,_,rfl,zT.of zf,?_⟩
  rw[ea]
  exact q _ (((gg.trans g3).trans g4).trans (Same.new hp4 _))
theorem J5 (T:Txt P w K mg a)(zdm:zF P w K mg base z7 k a.TX a.TY Ws Q5)(Wh:zF P w K mg base z7 k a.Zy a.Zz vU (Y8 K)) :
  zF P w K mg base z7 (k+1) a.W4 a.W5 Yh zbQ:=by
 refine T.RN.F.ok xR (fun vs H Q E h=>?_) (fun cdv A outer s H vs Q E hr h=>?_)
 ·obtain⟨p,s,rfl,_⟩:=h
  rfl
 obtain⟨p,sn,rfl,isp,hin,hc,hd,q⟩:=h
 refine⟨_,(zj (zH 1 xR.nd (yJ (za (pv 0) zc)))
   (zj (zH 2 xR.nd zq)
   (zj (zH 3 xR.nd zq)
   (zj (Vb PassesOwn.never (zK Vc (zG zJ rfl T.yX yC (za (pv 1) zc)) zq (zP _)) (zj (zdz (i:=2) xR.nd rfl (Or.inl rfl) zq zbx)
   (zj (zdz (i:=3) xR.nd rfl (Or.inl rfl) (zG zJ rfl T.yX yC (za (pv 1) zc)) zbx)
   (zj (yp (PW.pt (Qz (zK Vc (pv 2) (Wj (v:=.int 24) rfl T.zdh ⟨_,rfl⟩) (zP _)) (UJ (zK Vc (pv 3) (Wj (v:=.int 200) rfl T.zaA ⟨_,rfl⟩) (zP _))))) (zu (zL Yx)) zR)
   (zj (yp (Xy (vQ (zG (Zf rfl) rfl T.Nj VH (za (uK (uP:=zA W2) (js:=[]) rfl (by show Yy _ _ "part" [];exact lco (by decide +kernel)) rfl (yZ (pv 1)) (by show ∀j∈([]:List Nat),j<4;decide) (fun cl C s₂ H₂ fp=>(zy zdm hr T.Lr (za (pv 0) zc)))) zc)) (fun _=>rfl))) (zu (zL Yx)) zR)
   (zu (zH 1 xR.nd (zy Wh hr T.Wc (za (pv 1) zc)))))))))
   (zu (zL Yx)))))),?_⟩
 refine⟨_,rfl,by show 1<=sizeLine;decide,fun l0 hl0=>?_⟩
 have g0:=Same.new hl0 (.lst [.ref p])
 refine⟨fun m σ H'=>∃(ss:List Sn) (ps:List Addr) (l:Addr) (d t:Nat),m=cnt ss/\Same H H'/\H' l=some (.lst (ps.map V.ref))/\Paired (SQ H') ss ps/\(∀u∈ss,u.Qx vM/\d+u.depth<=24)/\t+cnt ss<=200/\σ=[some (.ref p),some (.ref l),some (.int d),some (.int t)],
  ⟨_,[sn],[p],l0,0,0,rfl,g0,zf,.cons (isp.mono (yN.of g0)) .nil,?_,?_,rfl⟩,?_⟩
 ·intro u hu
  have e:u=sn:=by simpa using hu
  subst e
  exact⟨hin,by omega⟩
 ·show 0+(sn.count+0)<=200
  omega
 rintro m σ H' ⟨ss,ps,l,d,t,rfl,g,hl,hp,hi,ht,rfl⟩
 have lp:=yx hp
 have le:(ps.map V.ref).length=ss.length:=by rw[zqI];exact lp.symm
 have cl:=zeR ss
 refine⟨_,rfl,l,_,rfl,.inl (zT.of hl),_,_,rfl,rfl,_,rfl,z8 (fun c=>?_) (fun c=>?_)⟩
 ·have c':0<ss.length:=by have:=of_decide_eq_true c;rw[le] at this;omega
  have hd1:d+1<=24:=by
   have hm:ss[0]∈ss:=zrn c'
   have:=(hi _ hm).2
   have:=Sn.NT ss[0]
   omega
  refine⟨_,fun σ' H2 h=>h,?_⟩
  refine⟨_,rfl,(d:Int),1,rfl,rfl,?_⟩
  refine⟨_,rfl,_,rfl,l,_,rfl,.inl (zT.of hl),(t:Int),_,rfl,rfl,?_⟩
  refine⟨_,rfl,_,_,rfl,rfl,_,rfl,z8 (fun c2=>?_) (fun _=>?_)⟩
  ·exfalso
   have:=of_decide_eq_true c2
   omega
  refine⟨_,rfl,_,_,rfl,rfl,_,rfl,z8 (fun c2=>?_) (fun _=>?_)⟩
  ·exfalso
   have:=of_decide_eq_true c2
   rw[le] at this
   omega
  refine⟨_,rfl,l,rfl,⟨_,zT.of hl⟩,zeO (fun _ v=>v=.bl true) (zT.of hl) (by rw[le];exact zq0 (zQ (by omega))) ?_ (zeQ zcR) ?_⟩
  ·intro i x H2 hx g2
   rw[zqK] at hx
   cases ho:ps[i]? with
   | none=>rw[ho] at hx;cases hx
   | some y =>
    rw[ho] at hx
    cases hx
    obtain⟨sy,hsy,iy⟩:=QV hp ho
    exact⟨_,rfl,y,sy,rfl,iy.mono (yN.of g2),Sn.zcJ sy (hi sy (zqN hsy)).1,fun H3 g3=>⟨rfl,g2.trans g3⟩⟩
  intro ys H2 p2 hr' g2 hp2
  have e:=Jk (f:=fun _=>.bl true) hr'
  have e2:ys=(ps.map fun _=>true).map V.bl:=by rw[e,zrj,zrj];rfl
  subst e2
  have g3:=Same.new hp2 (.lst ((ps.map fun _=>true).map V.bl))
  have ea:(ps.map fun _=>true).all id=true:=by rw[List.all_map,zrb];exact fun _ _=>rfl
  refine⟨p2,_,rfl,zT.of zf,_,rfl,?_⟩
  rw[ea]
  refine yq ?_
  have gg:=g2.trans g3
  refine⟨_,rfl,l,ss,ps,rfl,gg.seq (zT.of hl),yP (fun _ _ z=>z.mono (yN.of gg)) hp,by omega,fun l' H4 ps' g4 hn hl' hp'=>?_⟩
  have cp:=SX ss
  refine⟨cnt (ss.flatMap Sn.parts),by omega,ss.flatMap Sn.parts,ps',l',d+1,t+(ps.map V.ref).length,rfl,(g.trans gg).trans g4,hl',hp',?_,by omega,rfl⟩
  intro u hu
  obtain⟨s',hs',hu'⟩:=N7.mp hu
  obtain⟨i1,i2⟩:=hi s' hs'
  have:=Sn.U6 s' u hu'
  exact⟨Sn.za0 s' i1 u hu',by omega⟩
 ·exact q _ g
theorem M5 (T:Txt P w K mg a)(zem:zF P w K mg base z7 k a.Qn a.Qo V6 (N8 K)):zF P w K mg base z7 (k+1) a.YQ a.YS tD (U7 K):=by
 refine T.Uy.F.ok MF (fun vs H Q E h=>?_) (fun cdv A outer s H vs Q E hr h=>?_)
 ·obtain⟨l,os,rfl,_⟩:=h
  rfl
 obtain⟨l,os,rfl,hq,ho,q⟩:=h
 refine⟨_,(zu (yp (Xy (vQ (zy zem hr T.J0 (za (pv 0) zc)) (fun _=>rfl))) (zu UW) zR)),?_⟩
 refine⟨_,rfl,l,os,rfl,hq,zq3 ho.le (by decide),fun H' g=>⟨_,rfl,?_⟩⟩
 rw[zh7 ho]
 exact yq (q H' g)
theorem Rt (T:Txt P w K mg a)(zaC:zF P w K mg base z7 k a.W4 a.W5 Yh zbQ):zF P w K mg base z7 (k+1) a.tV a.tW wU Ma:=by
 refine T.Wd.F.ok Rr (fun vs H Q E h=>?_) (fun cdv A outer s H vs Q E hr h=>?_)
 ·obtain⟨p,s,rfl,_⟩:=h
  rfl
 obtain⟨p,sn,rfl,h1,h2,h3,h4,q⟩:=h
 refine⟨_,(zu (yp (Xy (vQ (zy zaC hr T.RN (za (pv 0) zc)) (fun _=>rfl))) (zu UW) zR)),?_⟩
 exact⟨_,rfl,p,sn,rfl,h1,h2,h3,h4,fun H' g=>⟨_,rfl,yq (q H' g)⟩⟩
theorem zcf (T:Txt P w K mg a)(Wh:zF P w K mg base z7 k a.Zy a.Zz vU (Y8 K)):zF P w K mg base z7 (k+1) a.T3 a.T4 Wu R8:=by
 refine T.Ls.F.ok Xd (fun vs H Q E h=>?_) (fun cdv A outer s H vs Q E hr h=>?_)
 ·obtain⟨p,s,rfl,_⟩:=h
  rfl
 obtain⟨p,sn,rfl,isp,hc,q⟩:=h
 refine⟨_,(zj (zH 1 Xd.nd (yJ zc))
   (zj (zH 2 Xd.nd (yJ (za (pv 0) zc)))
   (zj (Vb PassesOwn.never (zK Vc (zG zJ rfl T.yX yC (za (pv 2) zc)) zq (zP _)) (zj (yj (wF PySem.F.plainAttrs_list PySem.F.slot_list_extend PySem.F.type_list_extend NP (pv 1) (za (pv 2) zc)))
   (zu (zH 2 Xd.nd (zy Wh hr T.Wc (za (pv 2) zc))))))
   (zu (zL (pv 1)))))),?_⟩
 refine⟨by show 0<=sizeLine;decide,fun f hf=>?_⟩
 refine⟨_,rfl,by show 1<=sizeLine;decide,fun l0 hl0=>?_⟩
 have g0:=(Same.new hf (.lst [])).trans (Same.new hl0 (.lst [.ref p]))
 have nfl:f≠l0:=zB zf hl0
 refine⟨fun m σ H'=>∃(ts ss:List Sn) (qs ps:List Addr) (l:Addr),m=cnt ss/\Same H H'/\H' f=some (.lst (qs.map V.ref))/\H' l=some (.lst (ps.map V.ref))/\f≠l/\Paired (SQ H') ts qs/\Paired (SQ H') ss ps/\ts.length+cnt ss=sn.count /\
   (∀x,((∃t∈ts,x∈t.letters)\/∃u∈ss,x∈u.all)↔x∈sn.all)/\σ=[some (.ref p),some (.ref f),some (.ref l)],
  ⟨_,[],[sn],[],[p],l0,rfl,g0,by rw[zE nfl];exact zf,zf,nfl,.nil,.cons (isp.mono (yN.of g0)) .nil,?_,?_,rfl⟩,?_⟩
 ·show 0+(sn.count+0)=sn.count
  omega
 ·intro x
  simp
 rintro m σ H' ⟨ts,ss,qs,ps,l,rfl,g,hf',hl,nfl,hts,hss,hcn,hle,rfl⟩
 have lt:=yx hts
 have lp:=yx hss
 have cl:=zeR ss
 have le:(ps.map V.ref).length=ss.length:=by rw[zqI];exact lp.symm
 refine⟨_,rfl,l,_,rfl,.inl (zT.of hl),_,_,rfl,rfl,_,rfl,z8 (fun c=>?_) (fun c=>?_)⟩
 ·have c':0<ss.length:=by have:=of_decide_eq_true c;rw[le] at this;omega
  refine⟨_,fun σ' H2 h=>h,?_⟩
  refine⟨_,rfl,.inl ⟨rfl,_,zT.of hf'⟩,_,rfl,f,l,_,_,rfl,rfl,hf',hl,by rw[zqI,zqI];exact zq0 (zQ (by omega)),?_⟩
  have t1:yN H' (upd H' f (.lst (qs.map V.ref++ps.map V.ref))):=yN.lst hf' _
  have g1:Same H (upd H' f (.lst (qs.map V.ref++ps.map V.ref))):=g.over hf _
  have hl1:(upd H' f (.lst (qs.map V.ref++ps.map V.ref))) l=some (.lst (ps.map V.ref)):=by rw[zE (Ne.symm nfl)];exact hl
  refine⟨_,rfl,l,ss,ps,rfl,zT.of hl1,yP (fun _ _ z=>z.mono t1) hss,by omega,fun l' H3 ps' g3 hn hl' hp'=>?_⟩
  have cp:=SX ss
  have t3:=t1.trans (yN.of g3)
  refine⟨cnt (ss.flatMap Sn.parts),by omega,ts++ss,ss.flatMap Sn.parts,qs++ps,ps',l',rfl,g1.trans g3,by rw[zqW];exact g3 _ _ zf,hl',zB zf hn,
   YJ (yP (fun _ _ z=>z.mono t3) hts) (yP (fun _ _ z=>z.mono t3) hss),hp',by rw[zqQ];omega,fun x=>?_,rfl⟩
  rw[<-hle x]
  constructor
  ·rintro (⟨t,ht,hx⟩ | ⟨u,hu,hx⟩)
   ·rcases List.mem_append.mp ht with z | z
    ·exact .inl ⟨t,z,hx⟩
    ·exact .inr ⟨t,z,(Sn.zbO t x).mpr (.inl hx)⟩
   ·obtain⟨s',hs',hu'⟩:=N7.mp hu
    exact .inr ⟨s',hs',(Sn.zbO s' x).mpr (.inr ⟨u,hu',hx⟩)⟩
  ·rintro (⟨t,ht,hx⟩ | ⟨u,hu,hx⟩)
   ·exact .inl ⟨t,List.mem_append_left _ ht,hx⟩
   ·rcases (Sn.zbO u x).mp hx with z | ⟨v,hv,z⟩
    ·exact .inl ⟨u,zqZ _ hu,z⟩
    ·exact .inr ⟨v,N7.mpr ⟨u,hu,hv⟩,z⟩
 ·have c':ss=[]:=by
   have:¬ 0<ss.length:=fun z=>c (decide_eq_true (by rw[le];omega))
   exact List.length_eq_zero_iff.mp (by omega)
  subst c'
  refine⟨_,rfl,q f H' ts qs g hf hf' hts ?_ fun x=>?_⟩
  ·have:cnt []=0:=rfl
   omega
  ·rw[<-hle x]
   constructor
   ·exact fun z=>.inl z
   ·rintro (z | ⟨u,hu,_⟩)
    ·exact z
    ·cases hu
theorem zaD (T:Txt P w K mg a)(zdn:zF P w K mg base z7 k a.T3 a.T4 Wu R8)(Ur:zF P w K mg base z7 k a.Zw a.Zx uo Yz):zF P w K mg base z7 (k+1) a.V9 a.Ua Xe U8:=by
 refine T.Nb.F.ok W3 (fun vs H Q E h=>?_) (fun cdv A outer s H vs Q E hr h=>?_)
 ·obtain⟨p,s,rfl,_⟩:=h
  rfl
 obtain⟨p,sn,rfl,isp,hc,q⟩:=h
 refine⟨_,(zj (zH 1 W3.nd (yJ zc))
   (zj (uJ PassesOwn.never rfl (yZ (zy zdn hr T.Ls (za (pv 0) zc))) (yI (i:=2) W3.nd rfl (Or.inl rfl)) (zu (yj (wF PySem.F.plainAttrs_list PySem.F.slot_list_extend PySem.F.type_list_extend Jh (pv 1) (za (zy Ur hr T.Ul (za (pv 2) zc)) zc)))))
   (zu (zL (pv 1))))),?_⟩
 refine⟨by show 0<=sizeLine;decide,fun f hf=>?_⟩
 have g0:=Same.new hf (.lst [])
 refine⟨_,rfl,p,sn,rfl,isp.mono (yN.of g0),hc,fun l H1 ts ps g1 hn hl hts htl hle=>?_⟩
 have nfl:f≠l:=zB zf hn
 have lt:=yx hts
 refine⟨l,rfl,⟨_,zT.of hl⟩,?_⟩
 refine XC (xs:=ps.map V.ref) (fun i σ H'=>∃(f1:Option V),Same H H'/\H' f=some (.lst (((ts.take i).flatMap Sn.letters).map V.str))/\H' l=some (.lst (ps.map V.ref))/\Paired (SQ H') ts ps/\((ts.take i).flatMap Sn.letters).length<=i/\i<=ts.length/\σ=[some (.ref p),some (.ref f),f1])
  ⟨_,g0.trans g1,g1 _ _ zf,hl,hts,by simp,zq4 _,rfl⟩ ?_ ?_ ?_
 ·rintro i σ H' _ ⟨f1,g,hf',hl',_⟩
  exact zT.of hl'
 ·rintro i x σ H' hx ⟨f1,g,hf',hl',hts',lq,li,rfl⟩
  rw[zqK] at hx
  cases ho:ps[i]? with
  | none=>rw[ho] at hx;cases hx
  | some pp =>
   rw[ho] at hx
   cases hx
   obtain⟨sy,hsy,iy⟩:=QV hts' ho
   have hlt:=(zqL.mp hsy).1
   obtain⟨zs,c1,c2,c3,c4,c5⟩:=QZ iy
   have l1:=Sn.Jm sy
   refine⟨_,rfl,.inl ⟨rfl,_,zT.of hf'⟩,_,rfl,pp,sy.word,sy.letters.length,sy.parts.length,_,rfl,c1,Zg sy,c3,fun b hb=>?_⟩
   rw[c4]
   have hf2:(upd H' b (.tup (sy.letters.map V.str))) f=some (.lst (((ts.take i).flatMap Sn.letters).map V.str)):=by rw[zE (zB hf' hb)];exact hf'
   refine⟨f,b,_,sy.letters.map V.str,rfl,rfl,hf2,xM.of zf,?_,?_⟩
   ·rw[zqI,zqI]
    exact zq0 (zQ (by omega))
   ·have t1:yN H' (upd (upd H' b (.tup (sy.letters.map V.str))) f (.lst (((ts.take i).flatMap Sn.letters).map V.str++sy.letters.map V.str))):=(yN.new hb _).trans (yN.lst hf2 _)
    have e:(ts.take (i+1)).flatMap Sn.letters=(ts.take i).flatMap Sn.letters++sy.letters:=by rw[zZ hsy,List.flatMap_append,List.flatMap_singleton]
    refine⟨_,(g.trans (Same.new hb _)).over hf _,by rw[zf,e,zqW],?_,yP (fun _ _ z=>z.mono t1) hts',by rw[e,zqQ];omega,hlt,rfl⟩
    rw[zE (Ne.symm nfl),zE (zB hl' hb)]
    exact hl'
 ·rintro σ H' ⟨f1,g,hf',hl',hts',lq,li,rfl⟩
  rw[zqI,<-lt,zra] at hf' lq
  refine⟨_,rfl,q f H' _ g hf hf' (fun x=>?_) (by omega)⟩
  rw[<-hle x,List.mem_flatMap]
theorem Nk (T:Txt P w K mg a):zF P w K mg base z7 (k+1) a.ux a.uy wI (VN K):=by
 refine T.Vw.F.ok Pq (fun vs H Q E h=>?_) (fun cdv A outer s H vs Q E hr h=>?_)
 ·obtain⟨l,x,os,rfl,_⟩:=h
  rfl
 obtain⟨l,x,os,rfl,hO,hx,q⟩:=h
 refine⟨_,(zu (yp (zK QG (pv 1) (pv 0) (by with_unfolding_all rfl)) (zu UW) zR)),?_⟩
 refine⟨_,rfl,_,rfl,l,_,rfl,.inl hO,rfl,Xu _,_,rfl,?_⟩
 have e:(if true=true then !inV (.str x) (os.map V.str) else inV (.str x) (os.map V.str))=false:=by
  rw[if_pos rfl,zcQ,decide_eq_true hx];rfl
 rw[e]
 exact yq q
theorem Qs (T:Txt P w K mg a)(zcg:zF P w K mg base z7 k a.V9 a.Ua Xe U8)(M6:zF P w K mg base z7 k a.ux a.uy wI (VN K)):zF P w K mg base z7 (k+1) a.ZC a.ZD vN (U9 K):=by
 refine T.WL.F.ok XR (fun vs H Q E h=>?_) (fun cdv A outer s H vs Q E hr h=>?_)
 ·obtain⟨l,p,os,s,rfl,_⟩:=h
  rfl
 obtain⟨l,p,os,sn,rfl,hO,isp,hc,hin,q⟩:=h
 refine⟨_,(zu (uJ PassesOwn.never rfl (yZ (zy zcg hr T.Nb (za (pv 1) zc))) (yI (i:=2) XR.nd rfl (Or.inl rfl)) (zu (yj (zy M6 hr T.Vw (za (pv 0) (za (pv 2) zc))))))),?_⟩
 refine⟨_,rfl,p,sn,rfl,isp,hc,fun f H1 xs g1 hn hl hmem hxl=>?_⟩
 refine⟨f,rfl,⟨_,zT.of hl⟩,?_⟩
 refine XC (xs:=xs.map V.str) (fun i σ H'=>∃f1:Option V,H'=H1/\σ=[some (.ref l),some (.ref p),f1]) ⟨_,rfl,rfl⟩ ?_ ?_ ?_
 ·rintro i σ H' _ ⟨f1,rfl,_⟩
  exact zT.of hl
 ·rintro i x σ H' hx ⟨f1,rfl,rfl⟩
  rw[zqK] at hx
  cases ho:xs[i]? with
  | none=>rw[ho] at hx;cases hx
  | some y =>
   rw[ho] at hx
   cases hx
   have hy:y∈os:=(Sn.VL sn).mp hin y ((hmem y).mp (zqN ho))
   exact⟨_,rfl,_,rfl,l,y,os,rfl,g1.seq hO,hy,_,rfl,rfl⟩
 ·rintro σ H' ⟨f1,rfl,rfl⟩
  exact q _ g1
theorem Ke (T:Txt P w K mg a):zF P w K mg base z7 (k+1) a.v9 a.uc wJ zcS:=by
 refine T.T9.F.ok Ka (fun vs H Q E h=>?_) (fun cdv A outer s H vs Q E hr h=>?_)
 ·obtain⟨o,N,M,n,f,g,rfl,_⟩:=h
  rfl
 obtain⟨o,N,M,n,f,g,rfl,hN,hM,q⟩:=h
 refine⟨_,(zj (yp (zK xP (pv 0) wB (zP _)) (zu (zL (zN Ks (pv 1) (pv 2)))) zR)
   (zj (yp (zK xP (pv 0) wB (zP _)) (zu (zL (zN NZ (pv 1) (pv 2)))) zR)
   (zj (yp (zK xP (pv 0) wB (zP _)) (zu (zL (zN QM (pv 1) (pv 2)))) zR)
   (zu (zL (zN NZ (zN QM (pv 3) (pv 1)) (pv 2))))))),?_⟩
 rcases znb o with e | e | e | e
 ·subst e
  exact⟨_,rfl,rfl,_,rfl,z8 (fun _=>⟨_,rfl,_,rfl,N,M,rfl,rfl,q _ (QL hN hM)⟩) (fun c=>absurd (decide_eq_true rfl) c)⟩
 ·subst e
  refine⟨_,rfl,rfl,_,rfl,z8 (fun c=>absurd c (ne_str (show Str.ofString "or" ≠ Str.ofString "and" by decide +kernel))) (fun _=>?_)⟩
  exact⟨_,rfl,rfl,_,rfl,z8 (fun _=>⟨_,rfl,_,rfl,N,M,rfl,rfl,q _ (Jj hN hM)⟩) (fun c=>absurd (decide_eq_true rfl) c)⟩
 ·subst e
  refine⟨_,rfl,rfl,_,rfl,z8 (fun c=>absurd c (ne_str (show Str.ofString "either" ≠ Str.ofString "and" by decide +kernel))) (fun _=>?_)⟩
  refine⟨_,rfl,rfl,_,rfl,z8 (fun c=>absurd c (ne_str (show Str.ofString "either" ≠ Str.ofString "or" by decide +kernel))) (fun _=>?_)⟩
  exact⟨_,rfl,rfl,_,rfl,z8 (fun _=>⟨_,rfl,_,rfl,N,M,rfl,rfl,q _ (SN hN hM)⟩) (fun c=>absurd (decide_eq_true rfl) c)⟩
 ·subst e
  refine⟨_,rfl,rfl,_,rfl,z8 (fun c=>absurd c (ne_str (show Str.ofString "if" ≠ Str.ofString "and" by decide +kernel))) (fun _=>?_)⟩
  refine⟨_,rfl,rfl,_,rfl,z8 (fun c=>absurd c (ne_str (show Str.ofString "if" ≠ Str.ofString "or" by decide +kernel))) (fun _=>?_)⟩
  refine⟨_,rfl,rfl,_,rfl,z8 (fun c=>absurd c (ne_str (show Str.ofString "if" ≠ Str.ofString "either" by decide +kernel))) (fun _=>?_)⟩
  refine⟨_,rfl,_,rfl,_,N,rfl,rfl,_,rfl,_,M,rfl,rfl,q _ (vA (Jj (SN (Kr n) hN) hM) fun b _=>?_)⟩
  show((true != f b)||g b)=(!f b||g b)
  cases f b<;>rfl
theorem zaE {d:Nat}(T:Txt P w K mg a)(vh:zF P w K mg base z7 k a.Z6 a.Z7 tQ Xq)(wQ:zF P w K mg base z7 k a.vZ a.v8 wO tM)
  (uG:zF P w K mg base z7 k a.Xw a.Xx Z4 Xr)(ud:zF P w K mg base z7 k a.tR a.tU vR Z1)
  (ZL:zF P w K mg base z7 k a.v9 a.uc wJ zcS)
  (Qt:zF P w K mg base z7 k a.X7 a.X8 Z5 (VP K d)):zF P w K mg base z7 (k+1) a.X7 a.X8 Z5 (VP K (d+1)):=by
 refine T.Qp.F.ok Wv (fun vs H Q E h=>?_) (fun cdv A outer s H vs Q E hr h=>?_)
 ·obtain⟨p,l,sn,os,rfl,_⟩:=h
  rfl
 obtain⟨p,l,sn,os,rfl,isp,hO,hin,h8,hd,q⟩:=h
 refine⟨_,(zj (zH 2 Wv.nd (zV wD (pv 0) zq (fun _ _=>rfl)))
   (zj (zH 3 Wv.nd (zG zJ rfl T.yX yC (za (pv 1) zc)))
   (zj (yp (zK xP (pv 2) wB (zP _)) (zu (zL zq)) zR)
   (zj (yp (zK xP (pv 2) wB (zP _)) (zu (zL (zy vh hr T.Yb (za (pv 3) zc)))) zR)
   (zj (yp (zK xP (pv 2) wB (zP _)) (zu (zL (zy wQ hr T.WK (za (wF PySem.F.plainAttrs_list PySem.F.slot_list_index PySem.F.type_list_index U5 (pv 1) (za (zV wD (pv 0) zq (fun _ _=>rfl)) zc)) (za (pv 3) zc))))) zR)
   (zj (QK (tt:=R5) (i:=4) Wv.nd rfl (Or.inl rfl) (.inl rfl) (uP:=zA Qk) (js:=[1]) rfl (by show Yy _ _ "part" ["order"];exact lco (by decide +kernel)) rfl (RW (zy ud hr T.Um (za (pv 0) zc))) (by show ∀j∈([1]:List Nat),j<5;decide) (fun cl C s₂ H₂ fp pins s' σ' H' Q I h=>wpAny_pure ⟨H',I,h⟩) (fun cl C s₂ H₂ fp=>(zy Qt hr T.Qp (za (pv 0) (za (pv 1) zc)))) rfl)
   (zj (yp (zK xP (pv 2) wB (zP _)) (zu (zL (zN QM (zy vh hr T.Yb (za (pv 3) zc)) (zV zW (pv 4) zq (fun _ _=>rfl))))) zR)
   (zj (yp (zK xP (pv 2) wB (zP _)) (zu (zL (zN NZ (zV zW (pv 4) zq (fun _ _=>rfl)) (zy uG hr T.Vv (za (zV zW (pv 4) zq (fun _ _=>rfl)) (za (wF PySem.F.plainAttrs_list PySem.F.slot_list_index PySem.F.type_list_index U5 (pv 1) (za (zV wD (pv 0) zq (fun _ _=>rfl)) zc)) (za (pv 3) zc))))))) zR)
   (zj (yp (zK xP (pv 2) wB (zP _)) (zu (zL (zN Ks (zV zW (pv 4) zq (fun _ _=>rfl)) (zy uG hr T.Vv (za (zV zW (pv 4) zq (fun _ _=>rfl)) (za (wF PySem.F.plainAttrs_list PySem.F.slot_list_index PySem.F.type_list_index U5 (pv 1) (za (zV wD (pv 0) zq (fun _ _=>rfl)) zc)) (za (pv 3) zc))))))) zR)
   (zu (zL (zy ZL hr T.T9 (za (pv 2) (za (zV zW (pv 4) zq (fun _ _=>rfl)) (za (zV zW (pv 4) zq (fun _ _=>rfl)) (za (zy vh hr T.Yb (za (pv 3) zc)) zc)))))))))))))))),?_⟩
 have hlen:(os.map V.str).length=os.length:=zqI _
 obtain⟨zs,c1,c2,c3,c4,c5⟩:=QZ isp
 have lz:=yx c2
 have lp2:=Sn.QX sn
 refine⟨_,rfl,p,_,0,_,rfl,rfl,xM.of c1,at0,?_⟩
 refine⟨_,rfl,l,_,rfl,.inl hO,?_⟩
 rw[hlen]
 have comp:∀{σ:St} {Q2:Addr->Hp->List V->Prop},σ.getD 1 none=some (.ref l)->(∀(b:Addr) (ys:List V) (H':Hp),Same H H'->H' b=none->ys.length=sn.parts.length->(∀(j:Nat) v,ys[j]?=some v->∃t N,sn.parts[j]?=some t/\v=.int (N:Nat)/\TabOf os t N)->Q2 b H' ys) ->
   ∀b0,H b0=none->∃W:Nat->Nat->List V->Hp->Prop,(∃m,W 0 m [] (upd H b0 (.tup (zs.map V.ref))))/\∀i m ys H,W i m ys H ->
    ((Itt K b0).stop i H/\∀p,H p=none->Q2 p H ys) \/
    ((Itt K b0).go i H/\ys.length<sizeLine/\∀x H',(Itt K b0).Kh i H x H'->R5 (YZ σ [1] (some x)) H' fun b H2 =>
     if b=true then Jc (VP K d) [] E0 (U4 (K4 0) (U4 (K4 1) zal)) (YZ σ [1] (some x)) H2 fun v H3=>∃m',m'<m/\W (i+1) m' (ys++[v]) H3 else ∃m',m'<m/\W (i+1) m' ys H2):=by
  intro σ Q2 hσ hQ2 b0 hb0
  have g0:=Same.new hb0 (.tup (zs.map V.ref))
  refine zeS (fun j v=>∃t N,sn.parts[j]?=some t/\v=.int ((N:Nat):Int)/\TabOf os t N) (xM.of zf) (by rw[zqI];exact zq0 (zQ (by omega))) ?_ (zld (zdX d)) ?_
  ·intro i x H' hx g
   rw[zqK] at hx
   cases ho:zs[i]? with
   | none=>rw[ho] at hx;cases hx
   | some y =>
    rw[ho] at hx
    cases hx
    obtain⟨t,ht,it⟩:=QV c2 ho
    have htm:=zqN ht
    have dp:=Sn.U6 sn t htm
    refine⟨_,rfl,.ref l,?_,y,l,t,os,rfl,it.mono (yN.of (g0.trans g)),(g0.trans g).seq hO,Sn.za0 sn hin t htm,h8,by omega,fun N H3 g3 hN=>⟨⟨t,N,ht,rfl,hN⟩,g.trans g3⟩⟩
    show some (σ.getD 1 none)=_
    rw[hσ]
  ·intro ys H' pp hl hy g hpp
   exact hQ2 pp ys H' (g0.trans g) hpp (by rw[hl,zqI];exact lz.symm) hy
 cases sn with
 | c0 y =>
  cases y with
  | false=>exact⟨_,rfl,rfl,_,rfl,z8 (fun _=>q 0 _ (Same.refl _) (zcK _)) (fun c=>absurd (decide_eq_true rfl) c)⟩
  | true =>
   refine⟨_,rfl,rfl,_,rfl,z8 (fun c=>absurd c (ne_str (show Str.ofString "yes" ≠ Str.ofString "no" by decide +kernel))) (fun _=>?_)⟩
   exact⟨_,rfl,rfl,_,rfl,z8 (fun _=>⟨_,rfl,os.length,rfl,h8,q _ _ (Same.refl _) (Kr _)⟩) (fun c=>absurd (decide_eq_true rfl) c)⟩
 | mk x =>
  refine⟨_,rfl,rfl,_,rfl,z8 (fun c=>absurd c (ne_str (show Str.ofString "mark" ≠ Str.ofString "no" by decide +kernel))) (fun _=>?_)⟩
  refine⟨_,rfl,rfl,_,rfl,z8 (fun c=>absurd c (ne_str (show Str.ofString "mark" ≠ Str.ofString "yes" by decide +kernel))) (fun _=>?_)⟩
  obtain⟨i1,i2,i3⟩:=Y9 (show x∈os from hin)
  have isp':H p=some (.tup [.str "mark", .str x]):=isp
  exact⟨_,rfl,rfl,_,rfl,z8 (fun _=>⟨_,rfl,.inl ⟨rfl,_,hO⟩,_,rfl,p,_,1,_,rfl,rfl,xM.of isp',at1,l,_,.str x,_,rfl,rfl,hO,rfl,Xu _,i1,_,rfl,ix os x,os.length,rfl,i2,h8,fun R hR=>q R _ (Same.refl _) hR⟩) (fun c=>absurd (decide_eq_true rfl) c)⟩
 | nt s1 =>
  refine⟨_,rfl,rfl,_,rfl,z8 (fun c=>absurd c (ne_str (show Str.ofString "not" ≠ Str.ofString "no" by decide +kernel))) (fun _=>?_)⟩
  refine⟨_,rfl,rfl,_,rfl,z8 (fun c=>absurd c (ne_str (show Str.ofString "not" ≠ Str.ofString "yes" by decide +kernel))) (fun _=>?_)⟩
  refine⟨_,rfl,rfl,_,rfl,z8 (fun c=>absurd c (ne_str (show Str.ofString "not" ≠ Str.ofString "mark" by decide +kernel))) (fun _=>?_)⟩
  refine⟨_,rfl,p,_,_,_,_,rfl,c1,Zg (.nt s1),c3,fun b0 hb0=>?_⟩
  rw[c5]
  refine⟨b0,rfl,⟨_,xM.of zf⟩,comp rfl (fun b ys H0 g0 hb0' hyl hy=>?_) b0 hb0⟩
  have hb:=zf (H:=H0) (a:=b) (o:=.lst ys)
  have g:=g0.trans (Same.new hb0' (.lst ys))
  obtain⟨v,rfl⟩:=len1 hyl
  obtain⟨t,N,ht,rfl,hN⟩:=hy 0 v rfl
  cases ht
  refine⟨_,rfl,rfl,_,rfl,z8 (fun _=>⟨_,rfl,os.length,rfl,h8,_,rfl,b,_,0,_,rfl,rfl,zT.of hb,at0,_,N,rfl,rfl,q _ _ g (vA (SN (Kr _) hN) fun z _=>?_)⟩) (fun c=>absurd (decide_eq_true rfl) c)⟩
  show(true != s1.val (Rn os z))=!s1.val (Rn os z)
  cases s1.val (Rn os z)<;>rfl
 | b2 o s1 s2 =>
  have w1:w2 o≠Str.ofString "no" := zle o
  have w2':w2 o≠Str.ofString "yes" := zjV o
  have w3:w2 o≠Str.ofString "mark" := zh8 o
  have w4:w2 o≠Str.ofString "not" := zjW o
  have w5:w2 o≠Str.ofString "some" := zh9 o
  have w6:w2 o≠Str.ofString "each" := zia o
  refine⟨_,rfl,rfl,_,rfl,z8 (fun c=>absurd c (ne_str w1)) (fun _=>?_)⟩
  refine⟨_,rfl,rfl,_,rfl,z8 (fun c=>absurd c (ne_str w2')) (fun _=>?_)⟩
  refine⟨_,rfl,rfl,_,rfl,z8 (fun c=>absurd c (ne_str w3)) (fun _=>?_)⟩
  refine⟨_,rfl,p,_,_,_,_,rfl,c1,Zg (.b2 o s1 s2),c3,fun b0 hb0=>?_⟩
  rw[c5]
  refine⟨b0,rfl,⟨_,xM.of zf⟩,comp rfl (fun b ys H0 g0 hb0' hyl hy=>?_) b0 hb0⟩
  have hb:=zf (H:=H0) (a:=b) (o:=.lst ys)
  have g:=g0.trans (Same.new hb0' (.lst ys))
  obtain⟨v,u,rfl⟩:=len2 hyl
  obtain⟨t,N,ht,rfl,hN⟩:=hy 0 v rfl
  obtain⟨t',M,ht',rfl,hM⟩:=hy 1 u rfl
  cases ht
  cases ht'
  refine⟨_,rfl,rfl,_,rfl,z8 (fun c=>absurd c (ne_str w4)) (fun _=>?_)⟩
  refine⟨_,rfl,rfl,_,rfl,z8 (fun c=>absurd c (ne_str w5)) (fun _=>?_)⟩
  refine⟨_,rfl,rfl,_,rfl,z8 (fun c=>absurd c (ne_str w6)) (fun _=>?_)⟩
  exact⟨_,rfl,_,rfl,b,_,0,_,rfl,rfl,zT.of hb,at0,_,rfl,b,_,1,_,rfl,rfl,zT.of hb,at1,_,rfl,os.length,rfl,h8,o,N,M,os.length,_,_,rfl,hN,hM,fun R hR=>q R _ g hR⟩
 | q1 o x s1 =>
  obtain⟨hx,hs1⟩:=hin
  obtain⟨i1,i2,i3⟩:=Y9 hx
  cases o with
  | true =>
   refine⟨_,rfl,rfl,_,rfl,z8 (fun c=>absurd c (ne_str (show Str.ofString "some" ≠ Str.ofString "no" by decide +kernel))) (fun _=>?_)⟩
   refine⟨_,rfl,rfl,_,rfl,z8 (fun c=>absurd c (ne_str (show Str.ofString "some" ≠ Str.ofString "yes" by decide +kernel))) (fun _=>?_)⟩
   refine⟨_,rfl,rfl,_,rfl,z8 (fun c=>absurd c (ne_str (show Str.ofString "some" ≠ Str.ofString "mark" by decide +kernel))) (fun _=>?_)⟩
   refine⟨_,rfl,p,_,_,_,_,rfl,c1,Zg (.q1 true x s1),c3,fun b0 hb0=>?_⟩
   rw[c5]
   refine⟨b0,rfl,⟨_,xM.of zf⟩,comp rfl (fun b ys H0 g0 hb0' hyl hy=>?_) b0 hb0⟩
   have hb:=zf (H:=H0) (a:=b) (o:=.lst ys)
   have g:=g0.trans (Same.new hb0' (.lst ys))
   obtain⟨v,rfl⟩:=len1 hyl
   obtain⟨t,N,ht,rfl,hN⟩:=hy 0 v rfl
   cases ht
   have c1':=g _ _ c1
   refine⟨_,rfl,rfl,_,rfl,z8 (fun c=>absurd c (ne_str (show Str.ofString "some" ≠ Str.ofString "not" by decide +kernel))) (fun _=>?_)⟩
   refine⟨_,rfl,rfl,_,rfl,z8 (fun _=>?_) (fun c=>absurd (decide_eq_true rfl) c)⟩
   refine⟨_,rfl,b,_,0,_,rfl,rfl,zT.of hb,at0,_,rfl,b,_,0,_,rfl,rfl,zT.of hb,at0,_,rfl,.inl ⟨rfl,_,g.seq hO⟩,_,rfl,p,_,1,_,rfl,rfl,xM.of c1',at1,l,_,.str x,_,rfl,rfl,g.seq hO,rfl,Xu _,i1,_,rfl,N,ix os x,os.length,_,rfl,i2,h8,hN,fun R hR=>⟨N,R,rfl,rfl,q _ _ g (vA (Jj hN hR) fun z _=>?_)⟩⟩
   exact(zgI hs1 hx z).symm
  | false =>
   refine⟨_,rfl,rfl,_,rfl,z8 (fun c=>absurd c (ne_str (show Str.ofString "each" ≠ Str.ofString "no" by decide +kernel))) (fun _=>?_)⟩
   refine⟨_,rfl,rfl,_,rfl,z8 (fun c=>absurd c (ne_str (show Str.ofString "each" ≠ Str.ofString "yes" by decide +kernel))) (fun _=>?_)⟩
   refine⟨_,rfl,rfl,_,rfl,z8 (fun c=>absurd c (ne_str (show Str.ofString "each" ≠ Str.ofString "mark" by decide +kernel))) (fun _=>?_)⟩
   refine⟨_,rfl,p,_,_,_,_,rfl,c1,Zg (.q1 false x s1),c3,fun b0 hb0=>?_⟩
   rw[c5]
   refine⟨b0,rfl,⟨_,xM.of zf⟩,comp rfl (fun b ys H0 g0 hb0' hyl hy=>?_) b0 hb0⟩
   have hb:=zf (H:=H0) (a:=b) (o:=.lst ys)
   have g:=g0.trans (Same.new hb0' (.lst ys))
   obtain⟨v,rfl⟩:=len1 hyl
   obtain⟨t,N,ht,rfl,hN⟩:=hy 0 v rfl
   cases ht
   have c1':=g _ _ c1
   refine⟨_,rfl,rfl,_,rfl,z8 (fun c=>absurd c (ne_str (show Str.ofString "each" ≠ Str.ofString "not" by decide +kernel))) (fun _=>?_)⟩
   refine⟨_,rfl,rfl,_,rfl,z8 (fun c=>absurd c (ne_str (show Str.ofString "each" ≠ Str.ofString "some" by decide +kernel))) (fun _=>?_)⟩
   refine⟨_,rfl,rfl,_,rfl,z8 (fun _=>?_) (fun c=>absurd (decide_eq_true rfl) c)⟩
   refine⟨_,rfl,b,_,0,_,rfl,rfl,zT.of hb,at0,_,rfl,b,_,0,_,rfl,rfl,zT.of hb,at0,_,rfl,.inl ⟨rfl,_,g.seq hO⟩,_,rfl,p,_,1,_,rfl,rfl,xM.of c1',at1,l,_,.str x,_,rfl,rfl,g.seq hO,rfl,Xu _,i1,_,rfl,N,ix os x,os.length,_,rfl,i2,h8,hN,fun R hR=>⟨N,R,rfl,rfl,q _ _ g (vA (QL hN hR) fun z _=>?_)⟩⟩
   exact(zgJ hs1 hx z).symm
theorem Ly (T:Txt P w K mg a)(vh:zF P w K mg base z7 k a.Z6 a.Z7 tQ Xq)(wQ:zF P w K mg base z7 k a.vZ a.v8 wO tM)
  (uG:zF P w K mg base z7 k a.Xw a.Xx Z4 Xr)(ud:zF P w K mg base z7 k a.tR a.tU vR Z1)
  (ZL:zF P w K mg base z7 k a.v9 a.uc wJ zcS):∀d:Nat,zF P w K mg base z7 (k+d) a.X7 a.X8 Z5 (VP K d)
 | 0=>by
  refine⟨fun vs H Q E h=>?_,fun A outer s H args us vs Q E _ _ _ _ h=>?_⟩
  ·obtain⟨p,l,sn,os,rfl,_⟩:=h
   rfl
  ·obtain⟨p,l,sn,os,_,_,_,_,_,hd,_⟩:=h
   have:=Sn.NT sn
   omega
 | d+1=>zaE T (vh.mono (zri _ _)) (wQ.mono (zri _ _)) (uG.mono (zri _ _)) (ud.mono (zri _ _)) (ZL.mono (zri _ _)) (Ly T vh wQ uG ud ZL d)
theorem zen (T:Txt P w K mg a)(wQ:zF P w K mg base z7 k a.vZ a.v8 wO tM)(uG:zF P w K mg base z7 k a.Xw a.Xx Z4 Xr):zF P w K mg base z7 (k+1) a.Rg a.Rh Vo Q9:=by
 refine T.MN.F.ok Qi (fun vs H Q E h=>?_) (fun cdv A outer s H vs Q E hr h=>?_)
 ·obtain⟨N,p,n,v,f,rfl,_⟩:=h
  rfl
 obtain⟨N,p,n,v,f,rfl,hp,hn,tb,q⟩:=h
 refine⟨_,(zj (zH 4 Qi.nd (zN Ks (pv 0) (zy wQ hr T.WK (za (pv 1) (za (pv 3) zc)))))
   (zj (zH 5 Qi.nd (zcy (zK xP (pv 2) zq (zP _)) (pv 4) (zN QM (pv 0) (pv 4))))
   (zu (zL (zN NZ (pv 5) (zy uG hr T.Vv (za (pv 5) (za (pv 1) (za (pv 3) zc))))))))),?_⟩
 refine⟨_,rfl,_,rfl,_,rfl,p,n,rfl,hp,hn,fun R tr=>?_⟩
 refine⟨N,R,rfl,rfl,?_⟩
 have o:=ZP.QL tb tr
 refine⟨_,rfl,rfl,_,rfl,?_⟩
 cases v with
 | true =>
  refine z8 (fun _=>?_) (fun c=>absurd (decide_eq_true rfl) c)
  refine⟨_,rfl,?_⟩
  refine⟨_,rfl,_,rfl,_,rfl,_,rfl,N&&&R,p,n,_,rfl,hp,hn,o,fun R2 t2=>?_⟩
  refine⟨_,_,rfl,rfl,q _ (vA (ZP.Jj o t2) fun b hb=>?_)⟩
  show((f b&&b.testBit p)||(f (zY b p (!b.testBit p))&&(zY b p (!b.testBit p)).testBit p))=f (zY b p true)
  rw[yh,if_pos rfl]
  cases e:b.testBit p
  ·simp
  ·rw[<-e,zM.xJ,e];simp
 | false =>
  refine z8 (fun c=>absurd (of_decide_eq_true c) (fun z=>by injection z with z;revert z;decide)) (fun _=>?_)
  have z:=ZP.SN tb o
  refine⟨_,rfl,_,rfl,N,N&&&R,rfl,rfl,?_⟩
  refine⟨_,rfl,_,rfl,_,rfl,_,rfl,N ^^^ (N&&&R),p,n,_,rfl,hp,hn,z,fun R2 t2=>?_⟩
  refine⟨_,_,rfl,rfl,q _ (vA (ZP.Jj z t2) fun b hb=>?_)⟩
  show((f b != (f b&&b.testBit p))||(f (zY b p (!b.testBit p)) != (f (zY b p (!b.testBit p))&&(zY b p (!b.testBit p)).testBit p)))=f (zY b p false)
  rw[yh,if_pos rfl]
  cases e:b.testBit p
  ·rw[<-e,zM.xJ,e];simp
  ·simp
theorem zdo (T:Txt P w K mg a)(uG:zF P w K mg base z7 k a.Xw a.Xx Z4 Xr):zF P w K mg base z7 (k+1) a.Ql a.Qm V5 zbW:=by
 refine T.JZ.F.ok zdd (fun vs H Q E h=>?_) (fun cdv A outer s H vs Q E hr h=>?_)
 ·obtain⟨N,p,n,f,rfl,_⟩:=h
  rfl
 obtain⟨N,p,n,f,rfl,hp,hn,tb,q⟩:=h
 refine⟨_,(zu (zL (ug zeB (zy uG hr T.Vv (za (pv 0) (za (pv 1) (za (pv 2) zc)))) (pv 0) (zP _)))),?_⟩
 refine⟨_,rfl,_,rfl,_,rfl,N,p,n,f,rfl,hp,hn,tb,fun R tr=>?_⟩
 refine⟨_,rfl,rfl,?_⟩
 refine q _ (fun e=>?_) (fun e=>?_)
 ·have e1:R=N:=by
   have z:V.int (R:Nat)=V.int (N:Nat):=of_decide_eq_true (by simpa using e)
   injection z with z
   omega
  subst e1
  refine zM.Free.zii fun b hb=>?_
  rw[<-zM.Kw tr hb,zM.Kw tb hb]
 ·refine Classical.byContradiction fun no=>?_
  have e1:R=N:=zM.zeW tr tb fun b hb=>by
   refine Classical.byContradiction fun ne=>no ⟨b,hb,fun z=>ne ?_⟩
   show f (zY b p (!b.testBit p))=f b
   cases e:b.testBit p
   ·rw[Bool.not_false,<-z,<-e,zM.xJ]
   ·rw[Bool.not_true,z,<-e,zM.xJ]
  subst e1
  rw[decide_eq_true rfl] at e
  cases e
theorem J6 (T:Txt P w K mg a)(zeo:zF P w K mg base z7 k a.Ql a.Qm V5 zbW):zF P w K mg base z7 (k+1) a.Yo a.Yp uU Ky:=by
 refine T.RM.F.ok XM (fun vs H Q E h=>?_) (fun cdv A outer s H vs Q E hr h=>?_)
 ·obtain⟨N,n,f,rfl,_⟩:=h
  rfl
 obtain⟨N,n,f,rfl,hn,tb,q⟩:=h
 refine⟨_,(zj (zH 2 XM.nd zq)
   (zj (Vb PassesOwn.never (PW.pt (K5 (zK M9 (pv 2) (pv 1) (zP _)) (Qy (Xy (vQ (zy zeo hr T.JZ (za (pv 0) (za (pv 2) (za (pv 1) zc)))) (fun _=>rfl)))))) (zu (zdz (i:=2) XM.nd rfl (Or.inl rfl) zq zbx)))
   (zu (zL (pv 2))))),?_⟩
 refine⟨fun m σ H'=>∃p:Nat,m=n-p/\H'=H/\p<=n/\(∀i,i<p->zM.Free n f i)/\σ=[some (.int N),some (.int n),some (.int p)],⟨_,0,rfl,rfl,zq4 _,fun i hi=>absurd hi (Nat.not_lt_zero _),rfl⟩,?_⟩
 rintro m σ H' ⟨p,rfl,rfl,hp,fr,rfl⟩
 refine⟨_,rfl,_,rfl,_,_,rfl,rfl,_,rfl,z8 (fun c=>?_) (fun c=>?_)⟩
 ·have hpn:p<n:=by have:=of_decide_eq_true c;omega
  refine⟨_,rfl,_,rfl,_,rfl,N,p,n,f,rfl,hpn,hn,tb,fun b hf ht=>?_⟩
  cases b with
  | false =>
   refine⟨_,rfl,z8 (fun c2=>?_) (fun c2=>absurd rfl c2)⟩
   refine⟨_,fun σ' H2 h=>h,?_⟩
   refine⟨_,rfl,_,_,rfl,rfl,n-(p+1),by omega,p+1,rfl,rfl,hpn,fun i hi=>?_,rfl⟩
   by_cases e:i=p
   ·subst e
    exact hf rfl
   ·exact fr i (by omega)
  | true =>
   refine⟨_,rfl,z8 (fun c2=>absurd c2 zqM) (fun c2=>?_)⟩
   exact⟨_,rfl,q p hp fr fun _=>ht rfl⟩
 ·refine⟨_,rfl,q p hp fr fun h=>absurd (decide_eq_true (by omega)) c⟩
theorem Nm {d:Nat}(T:Txt P w K mg a)(Yv:zF P w K mg base z7 k a.Yo a.Yp uU Ky)(Vx:zF P w K mg base z7 k a.Rg a.Rh Vo Q9)
  (uH:zF P w K mg base z7 k a.wL a.wM xK (XH a.zx d)):zF P w K mg base z7 (k+1) a.wL a.wM xK (XH a.zx (d+1)):=by
 refine T.uE.F.ok wj (fun vs H Q E h=>?_) (fun cdv A outer s H vs Q E hr h=>?_)
 ·obtain⟨b,os,rs,F,t,u,f,rfl,_⟩:=h
  rfl
 obtain⟨b,os,rs,F,t,u,f,rfl,hB,hlen,hu,hd,tb,fr,q⟩:=h
 refine⟨_,(zj (yp (zf9 (za7 (Wk hr) (pv 1) (tK (pv 0) rfl))) (zj (zH 2 wj.nd (zG zJ rfl T.yX yC (za (tK (pv 0) rfl) zc)))
   (zj (zH 3 wj.nd (zy Yv hr T.RM (za (pv 1) (za (pv 2) zc))))
   (zj (zH 4 wj.nd (yt (pv 0) T.zU T.uE uH hr (za (zy Vx hr T.MN (za (pv 1) (za (pv 3) (za zq (za (pv 2) zc))))) zc)))
   (zj (zH 5 wj.nd (yt (pv 0) T.zU T.uE uH hr (za (zy Vx hr T.MN (za (pv 1) (za (pv 3) (za zq (za (pv 2) zc))))) zc)))
   (zj (Q8 (Wk hr) (tK (pv 0) rfl) (pv 1) (zG zJ rfl T.yX yC (za (tK (pv 0) rfl) zc)) rfl)
   (zj (yj (wF PySem.F.plainAttrs_list PySem.F.slot_list_append PySem.F.type_list_append wG (tK (pv 0) rfl) (za (wC (za (pv 3) (za (pv 4) (za (pv 5) zc)))) zc)))
   (zu (yj (wF PySem.F.plainAttrs_list PySem.F.slot_list_append PySem.F.type_list_append wG (tK (pv 0) rfl) (za (pv 1) zc)))))))))) zR)
   (zu (zL (VR (Wk hr) (tK (pv 0) rfl) (pv 1) (fun _ _=>rfl))))),?_⟩
 have hB0:=hB
 obtain⟨dx,ml,rl,tl,nd,rv,ts,kvs,h⟩:=hB
 have n8:os.length<=8:=h.ord.le
 have hml:(os.map V.str).length=os.length:=zqI _
 have pw:2^(d+1)=2^d+2^d:=by rw[Nat.pow_succ];omega
 have pd:1<=2^d:=Nat.one_le_two_pow
 have pn:2^os.length<=256:=ZP.zfB n8
 refine⟨_,rfl,_,rfl,b,a.zx,dx,_,_,rfl,h.hb,T.zU,T.vp,rfl,nd,_,rfl,Vi.k (k:=.inl (t:Int)) h.hd,?_⟩
 by_cases hm:t∈ts
 ·obtain⟨j,hj,ej⟩:=zro hm
  have ej':ts[j]?=some t:=by rw[zqJ hj,ej]
  have ev:=h.nums.get j t ej'
  have z:=Vi.k (k:=.inl (t:Int)) h.hd
  rw[ev] at z
  rw[ev]
  refine⟨_,rfl,yq ?_⟩
  refine⟨_,rfl,b,a.zx,dx,_,_,rfl,h.hb,T.zU,T.vp,rfl,_,rfl,nd,_,rfl,z,?_⟩
  refine q j rs H (fun x o e _=>e) (fun _ _ e=>e) hB0 (.refl _) (by rw[<-h.tabs.len];exact hj) (h.tabs.find h.bk ej' tb) (by omega) fun j h1 h2=>by omega
 ·have ev:=h.nums.non t hm
  rw[ev]
  refine⟨_,rfl,WR ?_⟩
  refine⟨_,rfl,b,a.zx,dx,_,_,rfl,h.hb,T.zU,T.vH,rfl,ml,_,rfl,.inl (zT.of h.hm),?_⟩
  rw[hml]
  refine⟨_,rfl,_,rfl,t,os.length,f,rfl,n8,tb,fun p hp0 frp dep=>?_⟩
  have hp:p<os.length:=by
   refine Nat.lt_of_le_of_ne hp0 fun e=>hm ?_
   subst e
   have cs:=zM.zar frp
   have two:=zM.len2 h.bk
   cases hf:f 0 with
   | false=>exact zqN (h.tabs.same (j:=0) (by omega) tb fun r=>by rw[cs _ (zM.u6 _ _),hf];rfl)
   | true=>exact zqN (h.tabs.same (j:=1) (by omega) tb fun r=>by rw[cs _ (zM.u6 _ _),hf];exact zM.Xa h.bk r)
  have hup:u<=p:=by
   refine Nat.le_of_not_lt fun hlt=>?_
   obtain⟨c,hc,hne⟩:=dep hp
   exact hne (by rw[fr p hlt c hc,fr p hlt c hc])
  have fre:∀(v:Bool) i,i<p+1->zM.Free os.length (fun c=>f (zY c p v)) i:=fun v i hi c hc v'=>by
   show f (zY (zY c i v') p v)=f (zY c p v)
   by_cases e:i=p
   ·subst e
    congr 1
    refine zM.V1 (yH (yH hc hp) hp) (yH hc hp) fun j _=>?_
    rw[yh,yh,yh]
    by_cases e:j=i
    ·rw[if_pos e,if_pos e]
    ·rw[if_neg e,if_neg e,if_neg e]
   ·rw[<-frp i (by omega) _ (yH (v:=v) hc hp) v']
    congr 1
    refine zM.V1 (yH (yH hc (by omega)) hp) (yH (yH hc hp) (by omega)) fun j _=>?_
    rw[yh,yh,yh,yh]
    by_cases e1:j=p
    ·rw[if_pos e1,if_pos e1,if_neg (by omega)]
    ·rw[if_neg e1,if_neg e1]
  refine⟨_,rfl,b,dx,_,rfl,h.hb,rfl,_,rfl,_,rfl,_,rfl,t,p,os.length,false,f,rfl,hp,n8,tb,fun R0 tr0=>?_⟩
  refine⟨b,os,rs,F,R0,p+1,_,rfl,hB0,by omega,hp,by omega,tr0,fre false,fun k0 rs1 H1 aw1 tu1 hB1 gr1 lt1 y1 ln1 lv1=>?_⟩
  have hB1':=hB1
  obtain⟨dx1,ml1,rl1,tl1,nd1,rv1,ts1,zpx,h1⟩:=hB1
  refine⟨_,rfl,b,dx1,_,rfl,h1.hb,rfl,_,rfl,_,rfl,_,rfl,t,p,os.length,true,f,rfl,hp,n8,tb,fun R1 tr1=>?_⟩
  refine⟨b,os,rs1,F,R1,p+1,_,rfl,hB1',by omega,hp,by omega,tr1,fre true,fun k1 rs2 H2 aw2 tu2 hB2 gr2 lt2 y2 ln2 lv2=>?_⟩
  obtain⟨dx2,ml2,rl2,tl2,Np,rv2,ts2,zlH,h2⟩:=hB2
  have lt1':k0<rs2.length:=zqR lt1 gr2.len
  have y1':∀r,zM.yes rs2 k0 r=f (zY (zM.bits r os.length) p false):=fun r=>by rw[gr2.yes h1.bk lt1];exact y1 r
  have g02:=gr1.trans gr2
  have lrs:=g02.len
  have lvs:∀j,rs.length<=j->j<rs2.length->p<zM.zX os.length rs2 j:=fun j a1 a2=>by
   by_cases hj:j<rs1.length
   ·rw[gr2.zX hj];exact lv1 j a1 hj
   ·exact lv2 j (by omega) a2
  have old:∀j,j<rs.length->¬∀r,zM.yes rs2 j r=f (zM.bits r os.length):=fun j hj hy=>hm (zqN (h.tabs.same hj tb fun r=>by rw[<-g02.yes h.bk hj];exact hy r))
  obtain⟨B',yn⟩:=zM.zgM h2.bk hp lt1' lt2 y1' y2 frp (dep hp) old lvs
  have hn2:t∉ts2:=fun hm2=>by
   obtain⟨j,hj,ej⟩:=zro hm2
   have ej':ts2[j]?=some t:=by rw[zqJ hj,ej]
   have hjr:j<rs2.length:=by rw[<-h2.tabs.len];exact hj
   have hy:=h2.tabs.find h2.bk ej' tb
   by_cases hjo:j<rs.length
   ·exact old j hjo hy
   ·obtain⟨c,hc,hne⟩:=dep hp
    have lv:=lvs j (by omega) hjr
    refine hne ?_
    have a1:=hy (zM.put (zM.zaq c) p false)
    have a2:=hy (zM.put (zM.zaq c) p true)
    rw[zM.Zh h2.bk hjr lv,zM.zc0 hp,zM.S6 hc] at a1 a2
    exact a1.symm.trans a2
  have l2:=h2.len
  have s2:rs2.length<sizeLine:=zqR (show rs2.length<9000001 by omega) (by decide)
  refine⟨_,rfl,b,a.zx,dx2,_,_,rfl,h2.hb,T.zU,T.wz,rfl,rl2,_,rfl,.inl (zT.of h2.hr),?_⟩
  rw[l2]
  refine⟨_,rfl,b,a.zx,dx2,_,_,rfl,h2.hb,T.zU,T.vp,rfl,_,rfl,Np,_,rfl,zbS.k (k:=.inl (t:Int)) h2.hd (by have:=h2.nums.len;have:=h2.tabs.len;omega),?_⟩
  have nb:Np≠b:=Wi h2.hd h2.hb (by intro z;cases z)
  have nm:Np≠ml2:=Wi h2.hd h2.hm (by intro z;cases z)
  have nr:Np≠rl2:=Wi h2.hd h2.hr (by intro z;cases z)
  have nt:Np≠tl2:=Wi h2.hd h2.ht (by intro z;cases z)
  have br:b≠rl2:=Wi h2.hb h2.hr (by intro z;cases z)
  have bt:b≠tl2:=Wi h2.hb h2.ht (by intro z;cases z)
  generalize hO3:HO.dK (putK zlH (Sum.inl (t:Int)) (V.int (rs2.length:Nat)))=o3
  have b3:upd H2 Np o3 b=some (.ins a.zx dx2 (Mj ml2 rl2 tl2 Np)):=by rw[zE (Ne.symm nb)];exact h2.hb
  have r3:upd H2 Np o3 rl2=some (.lst rv2):=by rw[zE (Ne.symm nr)];exact h2.hr
  refine⟨_,rfl,b,a.zx,dx2,_,_,rfl,b3,T.zU,T.wz,rfl,.inl ⟨rfl,_,zT.of r3⟩,?_⟩
  refine⟨_,rfl,_,rfl,_,rfl,by show 3<=sizeLine;decide,fun q4 hq4=>?_⟩
  generalize hO4:HO.tup [V.int (p:Nat),V.int (k0:Nat),V.int (k1:Nat)]=o4
  have r4:upd (upd H2 Np o3) q4 o4 rl2=some (.lst rv2):=by rw[zE (zB r3 hq4)];exact r3
  refine⟨rl2,_,_,rfl,rfl,r4,by rw[l2];exact s2,?_⟩
  have b4:upd (upd H2 Np o3) q4 o4 b=some (.ins a.zx dx2 (Mj ml2 rl2 tl2 Np)):=by rw[zE (zB b3 hq4)];exact b3
  have t3:upd H2 Np o3 tl2=some (.lst (ts2.map fun t=>V.int (t:Nat))):=by rw[zE (Ne.symm nt)];exact h2.ht
  have t4:upd (upd H2 Np o3) q4 o4 tl2=some (.lst (ts2.map fun t=>V.int (t:Nat))):=by rw[zE (zB t3 hq4)];exact t3
  have m3:upd H2 Np o3 ml2=some (.lst (os.map V.str)):=by rw[zE (Ne.symm nm)];exact h2.hm
  have m4:upd (upd H2 Np o3) q4 o4 ml2=some (.lst (os.map V.str)):=by rw[zE (zB m3 hq4)];exact m3
  have n3:upd H2 Np o3 Np=some o3:=zf
  have n4:upd (upd H2 Np o3) q4 o4 Np=some o3:=by rw[zE (zB n3 hq4)];exact n3
  have qr:q4≠rl2:=Ne.symm (zB r3 hq4)
  have qt:q4≠tl2:=Ne.symm (zB t3 hq4)
  have q4':upd (upd H2 Np o3) q4 o4 q4=some o4:=zf
  have tu4:yN H2 (upd (upd H2 Np o3) q4 o4):=fun x xs e=>by
   have e3:upd H2 Np o3 x=some (.tup xs):=by rw[zE (Wi e h2.hd (by intro z;cases z))];exact e
   rw[zE (zB e3 hq4)];exact e3
  have aw4:∀x o,H2 x=some o->¬F x->upd (upd H2 Np o3) q4 o4 x=some o:=fun x o e nf=>by
   have e3:upd H2 Np o3 x=some o:=by rw[zE (fun z=>nf ((h2.ft x).mpr (.inr (.inr (.inr (.inr z))))))];exact e
   rw[zE (zB e3 hq4)];exact e3
  generalize upd (upd H2 Np o3) q4 o4=H4 at b4 t4 m4 n4 r4 q4' tu4 aw4
  generalize hO5:HO.lst (rv2++[V.ref q4])=o5
  have b5:upd H4 rl2 o5 b=some (.ins a.zx dx2 (Mj ml2 rl2 tl2 Np)):=by rw[zE br];exact b4
  have t5:upd H4 rl2 o5 tl2=some (.lst (ts2.map fun t=>V.int (t:Nat))):=by rw[zE (Ne.symm h2.rt)];exact t4
  refine⟨_,rfl,b,a.zx,dx2,_,_,rfl,b5,T.zU,T.Sq,rfl,.inl ⟨rfl,_,zT.of t5⟩,_,rfl,tl2,_,_,rfl,rfl,t5,by rw[zqI,h2.tabs.len];exact s2,?_⟩
  generalize hO6:HO.lst (ts2.map (fun t=>V.int (t:Nat))++[V.int (t:Nat)])=o6
  have b6:upd (upd H4 rl2 o5) tl2 o6 b=some (.ins a.zx dx2 (Mj ml2 rl2 tl2 Np)):=by rw[zE bt];exact b5
  have n6:upd (upd H4 rl2 o5) tl2 o6 Np=some (.dK (putK zlH (Sum.inl (t:Int)) (V.int (rs2.length:Nat)))):=by rw[zE nt,zE nr,n4,hO3]
  have z:=Vi.k (k:=.inl (t:Int)) n6
  rw[Jo,if_pos rfl] at z
  refine⟨_,rfl,b,a.zx,dx2,_,_,rfl,b6,T.zU,T.vp,rfl,_,rfl,Np,_,rfl,z,?_⟩
  have tu6:yN H4 (upd (upd H4 rl2 o5) tl2 o6):=fun x xs e=>by
   rw[zE (Wi e t4 (by intro z;cases z)),zE (Wi e r4 (by intro z;cases z))];exact e
  have parts:=h2.more (H':=upd (upd H4 rl2 o5) tl2 o6) (i:=p) (lo:=k0) (hi:=k1) (t:=t) (q:=q4) (fun x xs e=>tu6 _ _ (tu4 _ _ e)) (b6.trans h2.hb.symm)
   (by rw[zE h2.mt,zE h2.mr,m4,h2.hm]) (by rw[zE h2.rt,zf,hO5]) (by rw[zf,hO6]) n6
   (by rw[zE qt,zE qr,q4',hO4]) B' hn2 (vA tb fun c hc=>by rw[yn,zM.S6 hc])
  refine q rs2.length _ _ (fun x o e nf=>?_) (fun x xs e=>tu6 _ _ (tu4 _ _ (tu2 _ _ (tu1 _ _ e)))) ⟨_,_,_,_,_,_,_,_,parts⟩ (g02.trans (zM.xX.snoc _ _)) (by simp) yn (by rw[zqQ,zrf];omega) fun j a1 a2=>?_
  ·have e2:=aw2 x o (aw1 x o e nf) nf
   rw[zE (fun z=>nf ((h2.ft x).mpr (.inr (.inr (.inr (.inl z)))))),zE (fun z=>nf ((h2.ft x).mpr (.inr (.inr (.inl z)))))]
   exact aw4 x o e2 nf
  ·rw[zqQ,zrf] at a2
   by_cases hj:j<rs2.length
   ·rw[zM.Ti hj]
    have:=lvs j a1 hj
    omega
   ·have:j=rs2.length:=by omega
    subst this
    rw[zM.wR B' (i:=p) (lo:=k0) (hi:=k1) (by simp)]
    exact hup
theorem WM (T:Txt P w K mg a)(Yv:zF P w K mg base z7 k a.Yo a.Yp uU Ky)(Vx:zF P w K mg base z7 k a.Rg a.Rh Vo Q9) :
  ∀d:Nat,zF P w K mg base z7 (k+d) a.wL a.wM xK (XH a.zx d)
 | 0=>by
  refine⟨fun vs H Q E h=>?_,fun A outer s H args us vs Q E _ _ _ _ h=>?_⟩
  ·obtain⟨b,os,rs,F,t,u,f,rfl,_⟩:=h
   rfl
  ·obtain⟨b,os,rs,F,t,u,f,_,_,_,hu,hd,_⟩:=h
   omega
 | d+1=>Nm T (Yv.mono (zri _ _)) (Vx.mono (zri _ _)) (WM T Yv Vx d)
theorem zaF (T:Txt P w K mg a)(Qu:zF P w K mg base z7 k a.tV a.tW wU Ma)(Nq:zF P w K mg base z7 k a.ZC a.ZD vN (U9 K))
  (Qt:zF P w K mg base z7 k a.X7 a.X8 Z5 (VP K 24))(uH:zF P w K mg base z7 k a.wL a.wM xK (XH a.zx 9)) :
  zF P w K mg base z7 (k+1) a.Ub a.Uc Xf (Tn (z9 a.zx)):=by
 refine T.Uo.F.ok zav (fun vs H Q E h=>?_) (fun cdv A outer s H vs Q E hr h=>?_)
 ·obtain⟨b,p,os,rs,F,sn,rfl,_⟩:=h
  rfl
 obtain⟨b,p,os,rs,F,sn,rfl,hB,hlen,isp,hin,hc,hd,q⟩:=h
 refine⟨_,(zj (yj (zy Qu hr T.Wd (za (pv 1) zc)))
   (zj (yj (zy Nq hr T.WL (za (tK (pv 0) rfl) (za (pv 1) zc))))
   (zu (zL (yt (pv 0) T.zU T.uE uH hr (za (zy Qt hr T.Qp (za (pv 1) (za (tK (pv 0) rfl) zc))) zc)))))),?_⟩
 have L:=yQ a.zx
 have ho:=L.ord hB
 have hlt:sn.Qx vM:=(Sn.VL sn).mpr fun x hx=>ho.mem x ((Sn.VL sn).mp hin x hx)
 refine⟨_,rfl,p,sn,rfl,isp,hlt,hc,hd,fun H1 g1=>?_⟩
 have hB1:=L.same hB g1
 obtain⟨dx,ml,rl,tl,nd,rv,ts,kvs,h1⟩:=hB1
 refine⟨_,rfl,b,a.zx,dx,_,_,rfl,h1.hb,T.zU,T.vH,rfl,_,rfl,ml,p,os,sn,rfl,zT.of h1.hm,isp.mono (yN.of g1),by omega,hin,fun H2 g2=>?_⟩
 have g12:=g1.trans g2
 have h2:=h1.frame (fun x o e _=>g2 x o e) (yN.of g2)
 refine⟨_,rfl,b,dx,_,rfl,h2.hb,rfl,_,rfl,_,rfl,b,a.zx,dx,_,_,rfl,h2.hb,T.zU,T.vH,rfl,p,ml,sn,os,rfl,isp.mono (yN.of g12),zT.of h2.hm,hin,ho.le,hd,fun N H3 g3 hN=>?_⟩
 have g13:=g12.trans g3
 have hB3:=L.same hB g13
 refine⟨b,os,rs,F,N,0,_,rfl,hB3,by show rs.length+512<=9000000;omega,zq4 _,by have:=ho.le;omega,hN,fun i hi=>absurd hi (Nat.not_lt_zero _),fun j rs' H' aw tu hB' gr lt y ln _=>?_⟩
 refine q j rs' F H' (fun x o e nf=>aw x o (g13 _ _ e) nf) (fun x xs e=>tu _ _ (g13 _ _ e)) hB' (fun x hx=>.inl hx) gr lt (fun r=>?_) (by have:rs'.length+1<=rs.length+512:=ln;omega)
 rw[y]
 refine Sn.val_congr sn hin fun x hx=>?_
 show(zM.bits r os.length).testBit (ix os x)=r (ix os x)
 exact zM.YC r (Y9 hx).2.1
theorem zch (T:Txt P w K mg a)(Kf:zF P w K mg base z7 k a.YQ a.YS tD (U7 K))(vh:zF P w K mg base z7 k a.Z6 a.Z7 tQ Xq) :
  zF P w K mg base z7 (k+1) a.Wy a.T5 Ww (R9 (z9 a.zx) K a.zx):=by
 refine T.Lw.F.ok Pu (fun vs H Q E h=>?_) (fun cdv A outer s H vs Q E hr h=>?_)
 ·obtain⟨b,dx,l,os,rfl,_⟩:=h
  rfl
 obtain⟨b,dx,l,os,rfl,hb,bd,hl,ho,q⟩:=h
 refine⟨_,(zj (yj (zy Kf hr T.Uy (za (pv 1) zc)))
   (zj (zH 2 Pu.nd (zG zJ rfl T.yX yC (za (pv 1) zc)))
   (zj (zbz (pv 0) (uh Ze rfl T.Qq VJ (za (pv 1) zc)) rfl)
   (zj (zbz (pv 0) (yJ (za (wC (za (pv 2) (za zq (za zq zc)))) (za (wC (za (pv 2) (za zq (za zq zc)))) zc))) rfl)
   (zj (zbz (pv 0) (yJ (za zq (za (zy vh hr T.Yb (za (pv 2) zc)) zc))) rfl)
   (zu (zbz (pv 0) (zih (zcW zq zq (zcW (zy vh hr T.Yb (za (pv 2) zc)) zq zig)) rfl rfl (List.cons_ne_nil _ _) (Nat.le_of_ble_eq_true rfl)) rfl))))))),?_⟩
 have n8:=ho.le
 have hml:(os.map V.str).length=os.length:=zqI _
 refine⟨_,rfl,l,os,rfl,hl,ho,fun H1 g1=>?_⟩
 have hl1:=g1.seq hl
 refine⟨_,rfl,l,_,rfl,.inl hl1,?_⟩
 rw[hml]
 have b1:=g1 _ _ hb
 refine⟨_,rfl,l,_,rfl,.inl hl1,fun ml hm1=>?_⟩
 have bm:b≠ml:=zB b1 hm1
 have b2:upd H1 ml (.lst (os.map V.str)) b=some (.ins a.zx dx []):=by rw[zE bm];exact b1
 refine⟨_,rfl,b,a.zx,dx,_,rfl,b2,T.zU,T.vH,by decide,?_⟩
 have s2:∀x o,H x=some o->x≠b->upd (upd H1 ml (.lst (os.map V.str))) b (.ins a.zx dx (ZX "marks" (.ref ml) [])) x=some o:=fun x o e nb=>by
  rw[zE nb,zE (zB (g1 _ _ e) hm1)];exact g1 _ _ e
 have hm2:upd (upd H1 ml (.lst (os.map V.str))) b (.ins a.zx dx (ZX "marks" (.ref ml) [])) ml=some (.lst (os.map V.str)):=by rw[zE (Ne.symm bm)];exact zf
 have f2:∀x,upd (upd H1 ml (.lst (os.map V.str))) b (.ins a.zx dx (ZX "marks" (.ref ml) [])) x=none->H x=none:=fun x e=>by
  have nb:x≠b:=fun z=>by rw[z,zf] at e;cases e
  cases hx:H x with
  | none=>rfl
  | some o=>rw[s2 x o hx nb] at e;cases e
 have fm:H ml=none:=g1.free hm1
 have b2':upd (upd H1 ml (.lst (os.map V.str))) b (.ins a.zx dx (ZX "marks" (.ref ml) [])) b=some (.ins a.zx dx (ZX "marks" (.ref ml) [])):=zf
 generalize upd (upd H1 ml (.lst (os.map V.str))) b (.ins a.zx dx (ZX "marks" (.ref ml) []))=H2 at s2 hm2 f2 b2'
 refine⟨_,rfl,by show 3<=sizeLine;decide,fun p0 hp0=>?_⟩
 refine⟨_,rfl,by show 3<=sizeLine;decide,fun p1 hp1=>?_⟩
 refine⟨by show 2<=sizeLine;decide,fun rl hrl=>?_⟩
 have g2:=((Same.new hp0 (.tup [.int (os.length:Nat),.int 0,.int 0])).trans (Same.new hp1 (.tup [.int (os.length:Nat),.int 1,.int 1]))).trans (Same.new hrl (.lst [.ref p0,.ref p1]))
 have hp0':=((Same.new hp1 (.tup [.int (os.length:Nat),.int 1,.int 1])).trans (Same.new hrl (.lst [.ref p0,.ref p1]))) p0 (.tup [.int (os.length:Nat),.int 0,.int 0]) zf
 have hp1':=(Same.new hrl (.lst [.ref p0,.ref p1])) p1 (.tup [.int (os.length:Nat),.int 1,.int 1]) zf
 have hr3:upd (upd (upd H2 p0 (.tup [.int (os.length:Nat),.int 0,.int 0])) p1 (.tup [.int (os.length:Nat),.int 1,.int 1])) rl (.lst [.ref p0,.ref p1]) rl=some (.lst [.ref p0,.ref p1]):=zf
 have frl:H2 rl=none:=((Same.new hp0 _).trans (Same.new hp1 _)).free hrl
 have brl:b≠rl:=zB b2' frl
 have mr:ml≠rl:=zB hm2 frl
 have b0:b≠p0:=zB b2' hp0
 have b1':b≠p1:=zB b2' ((Same.new hp0 _).free hp1)
 generalize upd (upd (upd H2 p0 (.tup [.int (os.length:Nat),.int 0,.int 0])) p1 (.tup [.int (os.length:Nat),.int 1,.int 1])) rl (.lst [.ref p0,.ref p1])=H3 at g2 hp0' hp1' hr3
 refine⟨_,rfl,b,a.zx,dx,_,rfl,g2 _ _ b2',T.zU,T.wz,by show 1<1000;decide,?_⟩
 generalize hfs:ZX "rooms" (V.ref rl) (ZX "marks" (V.ref ml) [])=fs3
 have u3:∀x,x≠b->upd H3 b (.ins a.zx dx fs3) x=H3 x:=fun x nb=>zE nb
 have b3:upd H3 b (.ins a.zx dx fs3) b=some (.ins a.zx dx fs3):=zf
 generalize upd H3 b (.ins a.zx dx fs3)=H4 at u3 b3
 refine⟨_,rfl,os.length,rfl,n8,by show 2<=sizeLine;decide,fun tl htl=>?_⟩
 have btl:b≠tl:=zB b3 htl
 have g4:=Same.new htl (.lst [.int 0,.int ((2^2^os.length-1:Nat):Int)])
 have ht5:upd H4 tl (.lst [.int 0,.int ((2^2^os.length-1:Nat):Int)]) tl=some (.lst [.int 0,.int ((2^2^os.length-1:Nat):Int)]):=zf
 generalize upd H4 tl (.lst [.int 0,.int ((2^2^os.length-1:Nat):Int)])=H5 at g4 ht5
 refine⟨_,rfl,b,a.zx,dx,_,rfl,g4 _ _ b3,T.zU,T.Sq,by rw[<-hfs];show 2<1000;decide,?_⟩
 generalize zlJ:ZX "tables" (V.ref tl) fs3=fs4
 have u5:∀x,x≠b->upd H5 b (.ins a.zx dx fs4) x=H5 x:=fun x nb=>zE nb
 have b5:upd H5 b (.ins a.zx dx fs4) b=some (.ins a.zx dx fs4):=zf
 generalize upd H5 b (.ins a.zx dx fs4)=H6 at u5 b5
 refine fun nd hnd=>?_
 have bnd:b≠nd:=zB b5 hnd
 have g6:=Same.new hnd (.dK [])
 refine⟨_,rfl,os.length,rfl,n8,zf,[(Sum.inl 0,.int 0),(Sum.inl ((2^2^os.length-1:Nat):Int),.int 1)],rfl,(by show 2<=15;decide),?_⟩
 rw[zhw]
 have g7:=Same.new hnd (.dK (uL [] [(Sum.inl 0,.int 0),(Sum.inl ((2^2^os.length-1:Nat):Int),.int 1)]))
 have hn7:upd H6 nd (.dK (uL [] [(Sum.inl 0,.int 0),(Sum.inl ((2^2^os.length-1:Nat):Int),.int 1)])) nd=some (.dK (uL [] [(Sum.inl 0,.int 0),(Sum.inl ((2^2^os.length-1:Nat):Int),.int 1)])):=zf
 generalize upd H6 nd (.dK (uL [] [(Sum.inl 0,.int 0),(Sum.inl ((2^2^os.length-1:Nat):Int),.int 1)]))=H7 at g7 hn7
 refine⟨_,rfl,b,a.zx,dx,_,rfl,g7 _ _ b5,T.zU,T.vp,by rw[<-zlJ,<-hfs];show 3<1000;decide,?_⟩
 have big:2^2^os.length-1≠0:=by
  have:2^1<=2^2^os.length:=zrd (by decide) Nat.one_le_two_pow
  omega
 have to7:∀x o,H3 x=some o->x≠b->upd H7 b (.ins a.zx dx (ZX "numbers" (.ref nd) fs4)) x=some o:=fun x o e nb=>by
  rw[zE nb]
  refine g7 _ _ ?_
  rw[u5 x nb]
  refine g4 _ _ ?_
  rw[u3 x nb]
  exact e
 have tl6:H6 tl=some (.lst [.int 0,.int ((2^2^os.length-1:Nat):Int)]):=by rw[u5 tl (Ne.symm btl)];exact ht5
 have efs:ZX "numbers" (.ref nd) fs4=Mj ml rl tl nd:=by rw[<-zlJ,<-hfs];rfl
 have up:∀x o,H3 x=some o->x≠b->H4 x=some o:=fun x o e nb=>by rw[u3 x nb];exact e
 have mt:ml≠tl:=zB (up _ _ (g2 _ _ hm2) (Ne.symm bm)) htl
 have rt:rl≠tl:=zB (up _ _ hr3 (Ne.symm brl)) htl
 have fr4:∀x,H4 x=none->H x=none:=fun x e=>f2 x (by
  cases hx:H2 x with
  | none=>rfl
  | some o =>
   by_cases nb:x=b
   ·rw[nb,b3] at e;cases e
   ·rw[up x o (g2 _ _ hx) nb] at e;cases e)
 have fr6:∀x,H6 x=none->H x=none:=fun x e=>by
  have nb:x≠b:=fun z=>by rw[z,b5] at e;cases e
  rw[u5 x nb] at e
  exact fr4 x (g4.free e)
 have two:∀{j:Nat},j<2->j=0\/j=1:=fun h=>by omega
 have bk0:zM.Bk os.length [none,none]:=⟨rfl,rfl,fun k h1 h2=>by simp at h2;omega,fun i j x e _=>by
  have:=(zqL.mp e).1
  rcases two (by simpa using this) with z | z<;>subst z<;>cases e⟩
 refine q _ (fun x=>x=b\/x=ml\/x=rl\/x=tl\/x=nd) (fun x o e nb=>to7 x o (g2 _ _ (s2 x o e nb)) nb) ⟨dx,ml,rl,tl,nd,[.ref p0,.ref p1],[0,2^2^os.length-1],uL [] [(Sum.inl 0,.int 0),(Sum.inl ((2^2^os.length-1:Nat):Int),.int 1)],?_⟩ (fun x hx=>?_)
 ·refine { hb:=by rw[zf,efs],hm:=to7 _ _ (g2 _ _ hm2) (Ne.symm bm),hr:=to7 _ _ hr3 (Ne.symm brl),ht:=by rw[zE (Ne.symm btl)];exact g7 _ _ tl6,hd:=by rw[zE (Ne.symm bnd)];exact hn7,mr:=mr,mt:=mt,rt:=rt,ord:=ho,bk:=bk0,len:=rfl,rm:=?_,tabs:=?_,nums:=?_,ft:=fun x=>Iff.rfl }
  ·intro j x e
   have:=(zqL.mp e).1
   rcases two (by simpa using this) with z | z<;>subst z<;>cases e
   ·exact⟨p0,rfl,to7 _ _ hp0' (Ne.symm b0)⟩
   ·exact⟨p1,rfl,to7 _ _ hp1' (Ne.symm b1')⟩
  ·refine⟨rfl,fun j t e=>?_⟩
   have:=(zqL.mp e).1
   rcases two (by simpa using this) with z | z<;>subst z<;>cases e
   ·exact vA (zcK _) fun b _=>rfl
   ·exact vA (Kr _) fun b _=>(zM.Xa bk0 _).symm
  ·have z0:Nums [] []:=⟨fun j t e=>by simp at e,fun t _=>rfl,zqY _⟩
   have z1:=z0.snoc (t:=0) (by simp)
   exact z1.snoc (t:=2^2^os.length-1) (fun hm=>by simp at hm;omega)
 ·rcases hx with z | z | z | z | z<;>subst z
  ·exact .inl rfl
  ·exact .inr (.inr fm)
  ·exact .inr (.inr (f2 _ frl))
  ·exact .inr (.inr (fr4 _ htl))
  ·exact .inr (.inr (fr6 _ hnd))
theorem Ss (T:Txt P w K mg a):zF P w K mg base z7 (k+1) a.yE a.yF yr (tO a.zx):=by
 refine T.xu.F.ok TQ (fun vs H Q E h=>?_) (fun cdv A outer s H vs Q E hr h=>?_)
 ·obtain⟨b,os,rs,F,j,rfl,_⟩:=h
  rfl
 obtain⟨b,os,rs,F,j,rfl,⟨dx,ml,rl,tl,nd,rv,ts,kvs,h⟩,hk,q⟩:=h
 refine⟨_,(zu (yp (PW.pt (Qz (zK M9 (pv 1) zq (zP _)) (UJ (zK zi1 (pv 1) (zG zJ rfl T.yX yC (za (tK (pv 0) rfl) zc)) (zP _))))) (zu UW) zR)),?_⟩
 have hl:=h.len
 refine⟨_,rfl,_,_,rfl,rfl,_,rfl,z8 (fun c=>absurd (of_decide_eq_true c) (by omega)) (fun _=>?_)⟩
 refine⟨_,rfl,_,rfl,b,a.zx,dx,_,_,rfl,h.hb,T.zU,T.wz,rfl,rl,_,rfl,.inl (zT.of h.hr),_,_,rfl,rfl,_,rfl,z8 (fun c=>absurd (of_decide_eq_true c) (by omega)) (fun _=>?_)⟩
 exact q
theorem M7 (T:Txt P w K mg a):zF P w K mg base z7 (k+1) a.vm a.vo xU (Vk a.zx):=by
 refine T.tG.F.ok MJ (fun vs H Q E h=>?_) (fun cdv A outer s H vs Q E hr h=>?_)
 ·obtain⟨b,os,rs,F,j,rfl,_⟩:=h
  rfl
 obtain⟨b,os,rs,F,j,rfl,⟨dx,ml,rl,tl,nd,rv,ts,kvs,h⟩,hk,q⟩:=h
 refine⟨_,(zu (zL (zV wD (zV zW (tK (pv 0) rfl) (pv 1) (fun _ _=>rfl)) zq (fun _ _=>rfl)))),?_⟩
 have ex:=zqJ hk
 obtain⟨p,e1,e2⟩:=h.rm j _ ex
 refine⟨_,rfl,b,a.zx,dx,_,_,rfl,h.hb,T.zU,T.wz,rfl,_,rfl,rl,_,_,_,rfl,rfl,zT.of h.hr,xG e1,?_⟩
 refine⟨p,_,0,.int (zM.zX os.length rs j:Nat),rfl,rfl,xM.of e2,?_,q⟩
 unfold zM.zX
 rw[ex]
 cases rs[j] with
 | none=>rfl
 | some t=>rfl
theorem zaG (T:Txt P w K mg a):zF P w K mg base z7 (k+1) a.wX a.wY xZ (V2 a.zx):=by
 refine T.vg.F.ok zaw (fun vs H Q E h=>?_) (fun cdv A outer s H vs Q E hr h=>?_)
 ·obtain⟨b,os,rs,F,j,x,v,rfl,_⟩:=h
  rfl
 obtain⟨b,os,rs,F,j,x,v,rfl,⟨dx,ml,rl,tl,nd,rv,ts,kvs,h⟩,ex,q⟩:=h
 refine⟨_,(zu (zL (zV wD (zV zW (tK (pv 0) rfl) (pv 1) (fun _ _=>rfl)) (zN yM zq (pv 2)) (fun _ _=>rfl)))),?_⟩
 obtain⟨p,e1,e2⟩:=h.rm j _ ex
 refine⟨_,rfl,b,a.zx,dx,_,_,rfl,h.hb,T.zU,T.wz,rfl,_,rfl,rl,_,_,_,rfl,rfl,zT.of h.hr,xG e1,?_⟩
 refine⟨_,rfl,_,_,rfl,rfl,p,_,_,.int (WW j x v:Nat),rfl,rfl,xM.of e2,?_,q⟩
 cases v<;>cases x<;>rfl
theorem J7 (T:Txt P w K mg a)(yG:zF P w K mg base z7 k a.yE a.yF yr (tO a.zx))(xH:zF P w K mg base z7 k a.wX a.wY xZ (V2 a.zx)) :
  zF P w K mg base z7 (k+1) a.Xk a.Xl Zt (Ph a.zx):=by
 refine T.Uq.F.ok Yi (fun vs H Q E h=>?_) (fun cdv A outer s H vs Q E hr h=>?_)
 ·obtain⟨b,os,rs,F,k0,rfl,_⟩:=h
  rfl
 obtain⟨b,os,rs,F,k0,rfl,hB,hk,hfew,q⟩:=h
 refine⟨_,(zj (yj (yt (pv 0) T.zU T.xu yG hr (za (pv 1) zc)))
   (zj (zH 2 Yi.nd Jp)
   (zj (zH 3 Yi.nd (yJ (za (pv 1) zc)))
   (zj (Vb PassesOwn.never (zK Vc (zG zJ rfl T.yX yC (za (pv 3) zc)) zq (zP _)) (zj (zH 4 Yi.nd (zjI PySem.F.plainAttrs_list PySem.F.slot_list_pop PySem.F.type_list_pop zjK (pv 3)))
   (zu (yp (zf9 (za7 (Wk hr) (pv 4) (pv 2))) (zj (Q8 (Wk hr) (pv 2) (pv 4) Yx rfl)
   (zu (yj (wF PySem.F.plainAttrs_list PySem.F.slot_list_extend PySem.F.type_list_extend NP (pv 3) (za (yJ (za (yt (pv 0) T.zU T.vg xH hr (za (pv 4) (za zq zc))) (za (yt (pv 0) T.zU T.vg xH hr (za (pv 4) (za zq zc))) zc))) zc))))) zR))))
   (zu (zL (zG (Mh rfl) rfl T.zdi zbc (za (pv 2) zc)))))))),?_⟩
 have L:=yQ a.zx
 have BK:=L.bk hB
 obtain⟨dx,ml,rl,tl,nd,rv,tbs,zhk,h⟩:=hB
 have hB:z9 a.zx H b os rs F:=⟨dx,ml,rl,tl,nd,rv,tbs,zhk,h⟩
 refine⟨_,rfl,b,dx,_,rfl,h.hb,rfl,_,rfl,b,os,rs,F,k0,rfl,hB,hk,?_⟩
 refine fun f hf=>?_
 refine⟨_,rfl,by show 1<=sizeLine;decide,fun t ht=>?_⟩
 have nft:f≠t:=zB zf ht
 have g0:=(Same.new hf (.dK [])).trans (Same.new ht (.lst [.int k0]))
 refine⟨fun m σ H'=>∃(ks ts:List Nat) (kvs:List (Key×V)) (f4:Option V),m=3*(rs.length-ks.length)+ts.length/\zM.Dfs rs k0 ks ts/\Same H H'/\H' f=some (.dK kvs)/\kvs.map (·.1)=ks.map (fun(n:Nat)=>(Sum.inl (n:Int):Key))/\H' t=some (.lst (ts.map fun(n:Nat)=>V.int n)) /\
   σ=[some (.ref b),some (.int k0),some (.ref f),some (.ref t),f4],
  ⟨_,[],[k0],[],none,rfl,zM.Dfs.start rs k0,g0,by rw[zE nft];exact zf,rfl,zf,rfl⟩,?_⟩
 rintro m σ H' ⟨ks,ts,kvs,f4,rfl,D,g,hf',hkv,ht',rfl⟩
 have lks:ks.length<=33:=hfew ks D.nd D.r1
 have lkv:kvs.length=ks.length:=by have:=congrArg List.length hkv;rw[zqI,zqI] at this;exact this
 refine⟨_,rfl,t,_,rfl,.inl (zT.of ht'),_,_,rfl,rfl,_,rfl,z8 (fun c=>?_) (fun c=>?_)⟩
 ·have c':0<ts.length:=by have:=of_decide_eq_true c;rw[zqI] at this;omega
  obtain⟨ts',x,rfl⟩:∃ts' x,ts=ts'++[x]:=⟨ts.dropLast,ts.getLast (List.ne_nil_of_length_pos c'),(List.dropLast_concat_getLast _).symm⟩
  refine⟨_,fun σ' H2 h=>h,?_⟩
  have e1:((ts'++[x]).map fun(n:Nat)=>V.int n)[((ts'++[x]).map fun(n:Nat)=>V.int n).length-1]?=some (.int (x:Nat)):=by
   simp
  have e2:((ts'++[x]).map fun(n:Nat)=>V.int n).dropLast=ts'.map fun(n:Nat)=>V.int n:=by simp
  refine⟨_,rfl,.inl ⟨rfl,_,zT.of ht'⟩,t,_,_,rfl,rfl,ht',e1,?_⟩
  rw[e2]
  have g1:Same H (upd H' t (.lst (ts'.map fun(n:Nat)=>V.int n))):=g.over ((Same.new hf _).free ht) _
  have hf1:(upd H' t (.lst (ts'.map fun(n:Nat)=>V.int n))) f=some (.dK kvs):=by rw[zE nft];exact hf'
  refine⟨_,rfl,_,rfl,f,_,rfl,Vi.k (k:=.inl (x:Int)) hf1,?_⟩
  have hkm:(Sum.inl (x:Int):Key)∈kvs.map (·.1)↔x∈ks:=by
   rw[hkv,List.mem_map]
   exact⟨fun⟨j,hj,e⟩=>(Int.ofNat.inj (Sum.inl.inj e):j=x) ▸ hj,fun h=>⟨x,h,rfl⟩⟩
  have e3:(xV kvs (Sum.inl (x:Int):Key)).isSome=decide (x∈ks):=by rw[zcZ];exact decide_eq_decide.mpr hkm
  rw[e3]
  refine⟨_,rfl,z8 (fun z=>?_) (fun z=>?_)⟩
  ·have hx:x∉ks:=fun h=>by rw[decide_eq_true h] at z;cases z
   have bound:=D.room BK hk hx
   refine⟨_,rfl,_,rfl,f,_,rfl,zbS.k (k:=.inl (x:Int)) hf1 (by rw[lkv];exact zQ (by omega)),?_⟩
   have hnone:xV kvs (Sum.inl (x:Int):Key)=none:=by rw[decide_eq_false hx] at e3;exact Option.isSome_eq_false_iff.mp e3 |> Option.isNone_iff_eq_none.mp
   rw[Q7 _ hnone]
   have g2:Same H (upd (upd H' t (.lst (ts'.map fun(n:Nat)=>V.int n))) f (.dK (kvs++[(Sum.inl (x:Int),V.bl true)]))):=g1.over hf _
   have znp:(kvs++[((Sum.inl (x:Int):Key),V.bl true)]).map (·.1)=(ks++[x]).map (fun(n:Nat)=>(Sum.inl (n:Int):Key)):=by rw[zqW,zqW,hkv];rfl
   have ht2:(upd (upd H' t (.lst (ts'.map fun(n:Nat)=>V.int n))) f (.dK (kvs++[(Sum.inl (x:Int),V.bl true)]))) t=some (.lst (ts'.map fun(n:Nat)=>V.int n)):=by rw[zE (Ne.symm nft)];exact zf
   have hf2:(upd (upd H' t (.lst (ts'.map fun(n:Nat)=>V.int n))) f (.dK (kvs++[(Sum.inl (x:Int),V.bl true)]))) f=some (.dK (kvs++[(Sum.inl (x:Int),V.bl true)])):=zf
   generalize upd (upd H' t (.lst (ts'.map fun(n:Nat)=>V.int n))) f (.dK (kvs++[(Sum.inl (x:Int),V.bl true)]))=H2 at g2 ht2 hf2
   have hxl:x<rs.length:=(D.r2 x (zqZ _ zq1)).lt BK hk
   have hB2:=L.same hB g2
   obtain⟨rm,ex⟩:∃rm,rs[x]?=some rm:=⟨_,zqJ hxl⟩
   have b2:=g2 _ _ h.hb
   refine⟨_,rfl,.inl ⟨rfl,_,zT.of ht2⟩,?_⟩
   refine⟨_,rfl,b,dx,_,rfl,b2,rfl,_,rfl,b,os,rs,F,x,rm,false,rfl,hB2,ex,?_⟩
   refine⟨_,rfl,b,dx,_,rfl,b2,rfl,_,rfl,b,os,rs,F,x,rm,true,rfl,hB2,ex,?_⟩
   refine⟨by show 2<=sizeLine;decide,fun l6 hl6=>?_⟩
   have g6:=Same.new hl6 (.lst [.int (WW x rm false:Nat),.int (WW x rm true:Nat)])
   have D':zM.Dfs rs k0 (ks++[x]) (ts'++[WW x rm false,WW x rm true]):=by
    cases rm with
    | none =>
     refine D.add [x,x] hx (fun y hy=>?_) (fun i lo hi e=>by rw[ex] at e;cases e) (zqY _)
     have:y=x:=by simpa using hy
     rw[this]
     exact D.r2 x (zqZ _ zq1)
    | some tr =>
     obtain⟨i,lo,hi⟩:=tr
     exact D.node hx ex
   refine⟨t,l6,_,_,rfl,rfl,g6 _ _ ht2,zf,?_,?_⟩
   ·have:=D.len
    rw[zqQ,zrf] at this
    rw[zqI]
    exact zq0 (zQ (show ts'.length+2<=1000 by omega))
   ·refine⟨_,?_,ks++[x],ts'++[WW x rm false,WW x rm true],_,_,rfl,D',(g2.trans g6).over ((Same.new hf _).free ht) _,?_,znp,?_,rfl⟩
    ·rw[zqQ,zqQ,zqQ,zrf]
     show 3*(rs.length-(ks.length+1))+(ts'.length+2)<_
     omega
    ·rw[zE nft];exact g6 _ _ hf2
    ·rw[zf,zqW];rfl
  ·have hx:x∈ks:=Decidable.byContradiction fun h=>z (by rw[decide_eq_false h];rfl)
   refine⟨_,?_,ks,ts',kvs,_,rfl,D.skip hx,g1,hf1,hkv,zf,rfl⟩
   rw[zqQ,zrf]
   omega
 ·have ets:ts=[]:=by
   have:¬ 0<ts.length:=fun z=>c (decide_eq_true (by rw[zqI];omega))
   exact List.length_eq_zero_iff.mp (by omega)
  subst ets
  refine⟨_,rfl,f,kvs,ks.map fun(n:Nat)=>(n:Int),rfl,hf',by rw[hkv,zrj];rfl,by rw[zqI];omega,fun l ms hl pm up=>?_⟩
  exact q l _ ms (g.trans (Same.new hl _)) (g.free hl) zf (zM.yL.of D.nd D.done pm up)
theorem zaH (T:Txt P w K mg a):zF P w K mg base z7 (k+1) a.uz a.uD wV (tZ (z9 a.zx)):=by
 refine T.ZK.F.ok zau (fun vs H Q E h=>?_) (fun cdv A outer s H vs Q E hr h=>?_)
 ·obtain⟨b,os,rs,F,rfl,_⟩:=h
  rfl
 obtain⟨b,os,rs,F,rfl,⟨dx,ml,rl,tl,nd,rv,ts,kvs,h⟩,q⟩:=h
 refine⟨_,(zu (zL (uh Ze rfl T.Qq VJ (za (tK (pv 0) rfl) zc)))),?_⟩
 exact⟨_,rfl,b,a.zx,dx,_,_,rfl,h.hb,T.zU,T.vH,rfl,ml,_,rfl,.inl (zT.of h.hm),fun l hl=>q l _ (Same.new hl _) hl zf⟩
theorem zci (T:Txt P w K mg a)(yG:zF P w K mg base z7 k a.yE a.yF yr (tO a.zx))(tH:zF P w K mg base z7 k a.vm a.vo xU (Vk a.zx))(xH:zF P w K mg base z7 k a.wX a.wY xZ (V2 a.zx)) :
  zF P w K mg base z7 (k+1) a.Za a.Zb vV (Z2 (z9 a.zx)):=by
 refine T.YG.F.ok zb9 (fun vs H Q E h=>?_) (fun cdv A outer s H vs Q E hr h=>?_)
 ·obtain⟨b,os,rs,F,j,x,rfl,_⟩:=h
  rfl
 obtain⟨b,os,rs,F,j,x,rfl,hB,ex,q⟩:=h
 refine⟨_,(zj (yj (yt (pv 0) T.zU T.xu yG hr (za (pv 1) zc)))
   (zj (yp (zK zaX (pv 1) (wC (za zq (za zq zc))) (by with_unfolding_all rfl)) (zu (zL ZS)) zR)
   (zu (zL (wC (za (zV zW (tK (pv 0) rfl) (yt (pv 0) T.zU T.tG tH hr (za (pv 1) zc)) (fun _ _=>rfl)) (za (yt (pv 0) T.zU T.vg xH hr (za (pv 1) (za zq zc))) (za (yt (pv 0) T.zU T.vg xH hr (za (pv 1) (za zq zc))) zc)))))))),?_⟩
 have hj:=(zqL.mp ex).1
 have BK:=(yQ a.zx).bk hB
 obtain⟨dx,ml,rl,tl,nd,rv,ts,kvs,h⟩:=hB
 refine⟨_,rfl,b,dx,_,rfl,h.hb,rfl,_,rfl,b,os,rs,F,j,rfl,⟨dx,ml,rl,tl,nd,rv,ts,kvs,h⟩,hj,?_⟩
 refine⟨_,rfl,by show 2<=sizeLine;decide,fun p hp=>⟨p,_,rfl,.inr (xM.of zf),rfl,rfl,_,rfl,?_⟩⟩
 have g:=Same.new hp (.tup [.int 0,.int 1])
 have h':=h.frame (fun x o e _=>g x o e) (yN.of g)
 have hB':z9 a.zx (upd H p (.tup [.int 0,.int 1])) b os rs F:=⟨dx,ml,rl,tl,nd,rv,ts,kvs,h'⟩
 have e0:(if false=true then !inV (V.int (j:Nat)) [.int 0,.int 1] else inV (V.int (j:Nat)) [.int 0,.int 1])=decide (j<2):=by
  rw[if_neg zqM]
  show(((0:Int)==(j:Nat))||(((1:Int)==(j:Nat))||false))=decide (j<2)
  rw[zrm]
  simp only[Bool.or_eq_true,beq_iff_eq,Bool.or_false,decide_eq_true_eq]
  omega
 rw[e0]
 by_cases j2:j<2
 ·rw[decide_eq_true j2]
  refine WR (q _ _ g ?_)
  have:x=none:=by
   have:j=0\/j=1:=by omega
   rcases this with z | z<;>subst z
   ·rw[BK.h0] at ex;cases ex;rfl
   ·rw[BK.h1] at ex;cases ex;rfl
  subst this
  rfl
 ·rw[decide_eq_false j2]
  obtain⟨i,lo,hi,e,hin,_⟩:=BK.rm j (by omega) hj
  rw[ex] at e
  cases e
  refine yq ?_
  have el:=zM.wR BK ex
  refine⟨_,rfl,b,a.zx,dx,_,_,rfl,h'.hb,T.zU,T.vH,rfl,_,rfl,b,dx,_,rfl,h'.hb,rfl,_,rfl,b,os,rs,F,j,rfl,hB',hj,?_⟩
  have ei:=zqJ hin
  refine⟨ml,_,_,.str os[i],rfl,rfl,zT.of h'.hm,by rw[el];exact xG (by rw[zqK,ei];rfl),?_⟩
  refine⟨_,rfl,b,dx,_,rfl,h'.hb,rfl,_,rfl,b,os,rs,F,j,_,false,rfl,hB',ex,?_⟩
  refine⟨_,rfl,b,dx,_,rfl,h'.hb,rfl,_,rfl,b,os,rs,F,j,_,true,rfl,hB',ex,?_⟩
  refine⟨by show 3<=sizeLine;decide,fun p2 hp2=>?_⟩
  exact q _ _ (g.trans (Same.new hp2 _)) ⟨p2,os[i],rfl,ei,zf⟩
theorem zcj (T:Txt P w K mg a):zF P w K mg base z7 (k+1) a.T6 a.T7 Wx (Qa (z9 a.zx)):=by
 refine T.Lx.F.ok zb8 (fun vs H Q E h=>?_) (fun cdv A outer s H vs Q E hr h=>?_)
 ·obtain⟨b,os,rs,F,rfl,_⟩:=h
  rfl
 obtain⟨b,os,rs,F,rfl,⟨dx,ml,rl,tl,nd,rv,ts,kvs,h⟩,q⟩:=h
 refine⟨_,(zu (zL (zG zJ rfl T.yX yC (za (tK (pv 0) rfl) zc)))),?_⟩
 refine⟨_,rfl,b,a.zx,dx,_,_,rfl,h.hb,T.zU,T.wz,rfl,rl,_,rfl,.inl (zT.of h.hr),?_⟩
 rw[h.len]
 exact q H (Same.refl _)
theorem zf0 (T:Txt P w K mg a):zF P w K mg base z7 (k+1) a.xq a.xr yV (Kz K):=by
 refine T.z6.F.ok Vr (fun vs H Q E h=>?_) (fun cdv A outer s H vs Q E hr h=>?_)
 ·obtain⟨l,ns,i,rfl,_⟩:=h
  rfl
 obtain⟨l,ns,i,rfl,hS,q⟩:=h
 refine⟨_,(zj (yp (zK M9 (pv 1) (zG zJ rfl T.yX yC (za (pv 0) zc)) (zP _)) (zu (zL (zV zW (pv 0) (pv 1) (fun _ _=>rfl)))) zR)
   (zu (zL zq))),?_⟩
 refine⟨_,rfl,_,rfl,l,_,rfl,.inl hS,_,_,rfl,rfl,_,rfl,?_⟩
 refine z8 (fun c=>?_) (fun c=>?_)
 ·have c':(i:Int)<(((ns.map V.int).length:Nat):Int):=of_decide_eq_true c
  rw[zqI] at c'
  have hi:i<ns.length:=by omega
  have ec:yU ns i=ns[i]:=by unfold yU;rw[zqJ hi];rfl
  rw[ec] at q
  exact⟨_,rfl,_,rfl,l,_,i,_,rfl,rfl,hS,xG (by rw[zqK,zqJ hi];rfl),q⟩
 ·have hi:ns.length<=i:=by
   refine Nat.le_of_not_lt fun hlt=>c (decide_eq_true ?_)
   rw[zqI];omega
  have ec:yU ns i=0:=by unfold yU;rw[zrh hi];rfl
  rw[ec] at q
  exact q
theorem zhl (T:Txt P w K mg a):zF P w K mg base z7 (k+1) a.Yq a.Yr uV Ku:=by
 refine T.RQ.F.ok JW (fun vs H Q E h=>?_) (fun cdv A outer s H vs Q E hr h=>?_)
 ·obtain⟨i,rfl,_⟩:=h
  rfl
 obtain⟨i,rfl,q⟩:=h
 refine⟨_,(zu (zL (K7 (zG tX rfl T.uF vq (za (pv 0) (za (Sx (v:=.ty "int") rfl T.zjf zgx rfl) zc))) (K6 (zjq (zG tX rfl T.uF vq (za (pv 0) (za (Sx (v:=.ty "bool") rfl T.zhf zeM rfl) zc)))))))),?_⟩
 refine⟨_,rfl,_,_,_,true,rfl,.int i,rfl,true,rfl,WR ?_⟩
 exact⟨_,rfl,_,_,_,false,rfl,.int i,rfl,false,rfl,q⟩
theorem zck (T:Txt P w K mg a)(uI:zF P w K mg base z7 k a.uz a.uD wV (tZ (z9 a.zx)))(uf:zF P w K mg base z7 k a.Za a.Zb vV (Z2 (z9 a.zx))):zF P w K mg base z7 (k+1) a.Ys a.Yt uW (KH a.zx):=by
 refine T.Yu.F.ok JX (fun vs H Q E h=>?_) (fun cdv A outer s H vs Q E hr h=>?_)
 ·obtain⟨b,os,rs,F,k0,rfl,_⟩:=h
  rfl
 obtain⟨b,os,rs,F,k0,rfl,hB,hk,q⟩:=h
 refine⟨_,(zj (yp (zK M9 (pv 1) zq (zP _)) (zu (zL (zG zJ rfl T.yX yC (za (Vh (pv 0) T.zU T.ZK uI hr) zc)))) zR)
   (zu (zL (wF PySem.F.plainAttrs_list PySem.F.slot_list_index PySem.F.type_list_index U5 (Vh (pv 0) T.zU T.ZK uI hr) (za (zV wD (yt (pv 0) T.zU T.YG uf hr (za (pv 1) zc)) zq (fun _ _=>rfl)) zc))))),?_⟩
 have L:=yQ a.zx
 have BK:=L.bk hB
 refine⟨_,rfl,_,2,rfl,rfl,_,rfl,z8 (fun z=>?_) (fun z=>?_)⟩
 ·have z':k0<2:=by have:=of_decide_eq_true z;omega
  obtain⟨dx,fs,Sv,hm⟩:=L.ins hB
  refine⟨_,rfl,b,dx,fs,rfl,Sv,hm _ (by decide +kernel),b,os,rs,F,rfl,hB,fun l H1 g1 fl hl=>?_⟩
  refine⟨l,_,rfl,.inl (zT.of hl),?_⟩
  have e:zM.zX os.length rs k0=os.length:=by
   unfold zM.zX
   rcases (by omega:k0=0\/k0=1) with z | z<;>subst z
   ·rw[BK.h0]
   ·rw[BK.h1]
  rw[zqI,<-e]
  exact q _ g1
 ·have z':2<=k0:=by
   rcases Nat.lt_or_ge k0 2 with y | y
   ·exact absurd (decide_eq_true (by omega)) z
   ·exact y
  obtain⟨i,lo,hi,ex,hin,_⟩:=BK.rm k0 z' hk
  have lj:zM.zX os.length rs k0=i:=zM.wR BK ex
  obtain⟨dx,fs,Sv,hm⟩:=L.ins hB
  refine⟨_,rfl,b,dx,fs,rfl,Sv,hm _ (by decide +kernel),b,os,rs,F,rfl,hB,fun l H1 g1 fl hl=>?_⟩
  have hB1:=L.same hB g1
  obtain⟨dx1,fs1,zhm,hm1⟩:=L.ins hB1
  refine⟨.inl ⟨rfl,_,zT.of hl⟩,?_⟩
  refine⟨_,rfl,b,dx1,fs1,rfl,zhm,hm1 _ (by decide +kernel),_,rfl,b,os,rs,F,k0,_,rfl,hB1,ex,fun v H2 g2 hv=>?_⟩
  obtain⟨p,y,rfl,hy,hp⟩:=hv
  refine⟨p,_,0,_,rfl,rfl,xM.of hp,rfl,?_⟩
  have hl2:=g2 _ _ hl
  have ho:=L.ord hB
  refine⟨l,_,_,i,rfl,rfl,zT.of hl2,rfl,?_,?_,?_⟩
  ·exact zrb.mpr fun x hx=>by obtain⟨y,_,rfl⟩:=List.mem_map.mp hx;rfl
  ·obtain⟨s1,s2,s3⟩:=Y9 (zqN hy)
   rw[s1]
   refine congrArg some ?_
   exact(List.getElem?_inj s2 ho.nd).mp (s3.trans hy.symm)
  ·rw[<-lj]
   exact q _ (g1.trans g2)
theorem zcl (T:Txt P w K mg a)(uf:zF P w K mg base z7 k a.Za a.Zb vV (Z2 (z9 a.zx)))(uI:zF P w K mg base z7 k a.uz a.uD wV (tZ (z9 a.zx))):zF P w K mg base z7 (k+1) a.W8 a.W9 Yk (Qc a.zx K):=by
 refine T.RT.F.ok vW (fun vs H Q E h=>?_) (fun cdv A outer s H vs Q E hr h=>?_)
 ·obtain⟨b,rl,os,rs,F,k0,r,rfl,_⟩:=h
  rfl
 obtain⟨b,rl,os,rs,F,k0,r,rfl,hB,hk,hR,hrl,q⟩:=h
 refine⟨_,(zj (Vb PassesOwn.never (zK Vc (pv 1) zq (zP _)) (zj (zbw (yt (pv 0) T.zU T.YG uf hr (za (pv 1) zc)) (zdy rfl (Xz (yI (i:=3) vW.nd rfl (Or.inl rfl)) (Xz (yI (i:=4) vW.nd rfl (Or.inl rfl)) (Xz (yI (i:=5) vW.nd rfl (Or.inl rfl)) zbv)))))
   (zu (zH 1 vW.nd (zV zW (yJ (za (pv 4) (za (pv 5) zc))) (zV zW (pv 2) (wF PySem.F.plainAttrs_list PySem.F.slot_list_index PySem.F.type_list_index U5 (Vh (pv 0) T.zU T.ZK uI hr) (za (pv 3) zc)) (fun _ _=>rfl)) (fun _ _=>rfl))))))
   (zu (zL (pv 1)))),?_⟩
 have L:=yQ a.zx
 have BK:=L.bk hB
 have ho:=L.ord hB
 refine⟨fun m σ H'=>∃(j:Nat) (f3 f4 f5:Option V),m=j/\Same H H'/\j<rs.length/\zM.yes rs j (zM.Zk r)=zM.yes rs k0 (zM.Zk r)/\σ=[some (.ref b),some (.int (j:Nat)),some (.ref rl),f3,f4,f5],
  ⟨_,k0,_,_,_,rfl,Same.refl _,hk,rfl,rfl⟩,?_⟩
 rintro j σ H' ⟨_,f3,f4,f5,rfl,g,hj,ey,rfl⟩
 refine⟨_,rfl,_,_,rfl,rfl,_,rfl,z8 (fun c=>?_) (fun c=>?_)⟩
 ·have c2:2<=j:=by have:=of_decide_eq_true c;omega
  obtain⟨p,lo,hi',ex,hin,hlo,hhi,hne,l1,l2⟩:=BK.rm j c2 hj
  refine⟨_,fun σ' H2 h=>h,?_⟩
  have hB2:=L.same hB g
  obtain⟨dx,fs,Sv,hm⟩:=L.ins hB2
  refine⟨_,rfl,b,dx,fs,rfl,Sv,hm _ (by decide +kernel),_,rfl,b,os,rs,F,j,_,rfl,hB2,ex,fun v H3 g3 rv=>?_⟩
  obtain⟨z,y,rfl,eyy,hp⟩:=rv
  refine⟨z,_,rfl,xM.of hp,rfl,_,_,rfl,_,_,rfl,_,_,rfl,rfl,?_⟩
  have g3':=g.trans g3
  obtain⟨i1,i2,i3⟩:=Y9 (zqN eyy)
  have eix:=zls ho.nd eyy
  rw[eix] at i1
  have hpr:p<r.length:=by omega
  refine⟨_,rfl,_,rfl,by show 2<=sizeLine;decide,fun l4 hl4=>?_⟩
  have g4:=g3'.trans (Same.new hl4 (.lst [.int (lo:Nat),.int (hi':Nat)]))
  have hl4':upd H3 l4 (.lst [.int (lo:Nat),.int (hi':Nat)]) l4=some (.lst [.int (lo:Nat),.int (hi':Nat)]):=zf
  generalize upd H3 l4 (.lst [.int (lo:Nat),.int (hi':Nat)])=H4 at g4 hl4'
  have hv:(Z0 r)[p]?=some (.int ((zM.Zk r p).toNat:Nat)):=by
   unfold Z0 zM.Zk
   rw[zqK,zqJ hpr,zqV,zqJ hpr]
   rfl
  have hB4:=L.same hB g4
  obtain⟨dx4,fs4,zlL,hm4⟩:=L.ins hB4
  refine⟨_,rfl,_,rfl,b,dx4,fs4,rfl,zlL,hm4 _ (by decide +kernel),b,os,rs,F,rfl,hB4,fun ol H5 g5 zeq hol=>?_⟩
  refine⟨.inl ⟨rfl,_,zT.of hol⟩,_,rfl,ol,_,.str y,_,rfl,rfl,zT.of hol,rfl,Xu _,i1,rl,_,_,_,rfl,rfl,(g4.trans g5).seq hR,xG hv,?_⟩
  have ys:=zM.XF BK ex (zM.Zk r)
  have hn:(if zM.Zk r p then hi' else lo)<j:=by split<;>assumption
  refine⟨l4,_,_,.int ((if zM.Zk r p then hi' else lo:Nat):Int),rfl,rfl,zT.of (g5 _ _ hl4'),?_,?_⟩
  ·cases zM.Zk r p<;>rfl
  refine⟨_,hn,_,_,_,_,rfl,g4.trans g5,by omega,?_,rfl⟩
  rw[<-ey,ys]
  cases zM.Zk r p<;>rfl
 ·refine⟨_,rfl,?_⟩
  have c2:j=0\/j=1:=by have:¬(1:Int)<(j:Nat):=fun h=>c (decide_eq_true h);omega
  have e:(j:Nat)=(zM.yes rs k0 (zM.Zk r)).toNat:=by
   rw[<-ey]
   rcases c2 with e | e<;>subst e
   ·rfl
   ·rw[zM.Xa BK];rfl
  rw[e]
  exact q H' g
theorem zaI (T:Txt P w K mg a)(uf:zF P w K mg base z7 k a.Za a.Zb vV (Z2 (z9 a.zx))):zF P w K mg base z7 (k+1) a.uX a.uY vD (Tt a.zx):=by
 refine T.uZ.F.ok vX (fun vs H Q E h=>?_) (fun cdv A outer s H vs Q E hr h=>?_)
 ·obtain⟨b,os,rs,F,k0,rfl,_⟩:=h
  rfl
 obtain⟨b,os,rs,F,k0,rfl,hB,hk,h5,q⟩:=h
 refine⟨_,(zj (zH 2 vX.nd (yJ (za (pv 1) zc)))
   (zj (zH 3 vX.nd zq)
   (zj (Vb PassesOwn.never (zK M9 (pv 3) (zG zJ rfl T.yX yC (za (pv 2) zc)) (zP _)) (zj (yp (zK Vc (zV zW (pv 2) (pv 3) (fun _ _=>rfl)) zq (zP _)) (zu (uJ PassesOwn.never rfl (RW (Vd zdO (yt (pv 0) T.zU T.YG uf hr (za (zV zW (pv 2) (pv 3) (fun _ _=>rfl)) zc)) (Y5 zq) zbA)) (yI (i:=4) vX.nd rfl (Or.inl rfl)) (zu (yp (zK QG (pv 4) (pv 2) (by with_unfolding_all rfl)) (zu (yj (wF PySem.F.plainAttrs_list PySem.F.slot_list_append PySem.F.type_list_append wG (pv 2) (za (pv 4) zc)))) zR)))) zR)
   (zu (zH 3 vX.nd (zN yM (pv 3) zq)))))
   (zu (zL (zG Mg rfl T.zdi zbc (za (pv 2) zc))))))),?_⟩
 have L:=yQ a.zx
 have BK:=L.bk hB
 refine⟨_,rfl,by show 1<=sizeLine;decide,fun f hf=>?_⟩
 refine⟨fun m σ H'=>∃(ks:List Nat) (n:Nat) (f4:Option V),m=rs.length-n/\zM.Bfs rs k0 ks n/\n<=ks.length/\Same H H'/\H' f=some (.lst (Rp ks)) /\
   σ=[some (.ref b),some (.int (k0:Nat)),some (.ref f),some (.int (n:Nat)),f4],
  ⟨_,[k0],0,none,rfl,zM.Bfs.start rs k0,zq4 _,Same.new hf _,zf,rfl⟩,?_⟩
 rintro m σ H' ⟨ks,n,f4,rfl,D,hn,g,hf',rfl⟩
 have lim:∀{xs:List Nat} {n},zM.Bfs rs k0 xs n->xs.length<=33:=fun D=>h5 _ D.nd D.r1
 refine⟨_,rfl,_,rfl,f,_,rfl,.inl (zT.of hf'),_,_,rfl,rfl,_,rfl,z8 (fun c=>?_) (fun c=>?_)⟩
 ·have c':n<ks.length:=by have:=of_decide_eq_true c;unfold Rp at this;rw[zqI] at this;omega
  obtain⟨x,ex0⟩:∃x,ks[n]?=some x:=⟨_,zqJ c'⟩
  have ev:(Rp ks)[n]?=some (.int (x:Nat)):=by unfold Rp;rw[zqK,ex0];rfl
  have hnr:n<rs.length:=by
   have z:=zM.sub_len (xs:=ks) (ys:=List.range rs.length) D.nd fun y h=>List.mem_range.mpr ((D.r1 y h).lt BK hk)
   rw[List.length_range] at z
   omega
  refine⟨fun σ' H2=>∃(ks':List Nat) (f4:Option V),zM.Bfs rs k0 ks' (n+1)/\n+1<=ks'.length/\Same H H2/\H2 f=some (.lst (Rp ks'))/\σ'=[some (.ref b),some (.int (k0:Nat)),some (.ref f),some (.int ((n+1:Nat):Int)),f4],fun σ' H2 ⟨ks',f4,a1,a2,a3,a4,a5⟩=>⟨_,show rs.length-(n+1)<rs.length-n by omega,ks',n+1,f4,rfl,a1,a2,a3,a4,a5⟩,?_⟩
  refine⟨_,rfl,_,rfl,f,_,_,_,rfl,rfl,zT.of hf',xG ev,_,_,rfl,rfl,_,rfl,z8 (fun c2=>?_) (fun c2=>?_)⟩
  ·have c3:2<=x:=by have:=of_decide_eq_true c2;omega
   have hxl:x<rs.length:=(D.r1 x (zqN ex0)).lt BK hk
   obtain⟨p,lo,hi',ex,hin,hlo,hhi,hne,l1,l2⟩:=BK.rm x c3 hxl
   have rr:=(D.r1 x (zqN ex0)).step ex
   have hB2:=L.same hB g
   obtain⟨dx,fs,Sv,hm⟩:=L.ins hB2
   refine⟨_,rfl,b,dx,fs,rfl,Sv,hm _ (by decide +kernel),_,rfl,_,rfl,f,_,_,_,rfl,rfl,zT.of hf',xG ev,b,os,rs,F,x,_,rfl,hB2,ex,fun v H3 g3 rv=>?_⟩
   obtain⟨z,y,rfl,eyy,hp⟩:=rv
   have g3':=g.trans g3
   have f3:=g3 _ _ hf'
   refine⟨_,rfl,z,_,rfl,xM.of hp,(by rintro⟨h1,_⟩;have h2:HT.Zd 3 0 (some 1)=0:=h1;revert h2;decide),fun t ht=>?_⟩
   have g5:=g3'.trans (Same.new ht (.tup (WQ [.str y,.int (lo:Nat),.int (hi':Nat)] (some 1) none)))
   have f5:=(Same.new ht (.tup (WQ [.str y,.int (lo:Nat),.int (hi':Nat)] (some 1) none))) _ _ f3
   have t5:upd H3 t (.tup (WQ [.str y,.int (lo:Nat),.int (hi':Nat)] (some 1) none)) t=some (.tup [.int (lo:Nat),.int (hi':Nat)]):=zf
   generalize upd H3 t (.tup (WQ [.str y,.int (lo:Nat),.int (hi':Nat)] (some 1) none))=H5 at g5 f5 t5
   refine⟨t,rfl,⟨_,xM.of t5⟩,?_⟩
   refine zew (xs:=[.int (lo:Nat),.int (hi':Nat)]) (fun i σ H6=>∃(ks':List Nat) (f4:Option V),zM.Bfs rs k0 ks' n/\n<ks'.length/\ks'[n]?=some x/\(1<=i->lo∈ks')/\(2<=i->hi'∈ks')/\Same H H6/\H6 f=some (.lst (Rp ks'))/\H6 t=some (.tup [.int (lo:Nat),.int (hi':Nat)])/\σ=[some (.ref b),some (.int (k0:Nat)),some (.ref f),some (.int (n:Nat)),f4])
    ⟨ks,f4,D,c',ex0,fun h=>by omega,fun h=>by omega,g5,f5,t5,rfl⟩ (fun i σ H6 _ ⟨ks',f4,_,_,_,_,_,_,_,a8,_⟩=>xM.of a8) ?_ ?_
   ·rintro i v σ H6 hv ⟨ks',f4,a1,a2,a3,a4,a5,a6,a7,a8,rfl⟩
    obtain⟨u,rfl,ru,hu1,hu2⟩:∃u:Nat,v=.int (u:Nat)/\zM.Reach rs k0 u/\(i=0->u=lo)/\(i=1->u=hi'):=by
     match i,hv with
     | 0,hv=>cases hv;exact⟨lo,rfl,rr.1,fun _=>rfl,fun h=>by omega⟩
     | 1,hv=>cases hv;exact⟨hi',rfl,rr.2,fun h=>by omega,fun _=>rfl⟩
    have hi2:i<2:=by
     have:=(zqL.mp hv).1
     exact this
    have ntf:t≠f:=fun z=>by rw[z,a7] at a8;cases a8
    refine⟨_,rfl,_,rfl,f,_,rfl,.inl (zT.of a7),rfl,zfN _,?_⟩
    rw[zgS]
    refine⟨_,rfl,z8 (fun z=>?_) (fun z=>?_)⟩
    ·have hu:u∉ks':=fun h=>by rw[decide_eq_true h] at z;cases z
     refine⟨_,rfl,.inl ⟨rfl,_,zT.of a7⟩,_,rfl,f,_,_,rfl,rfl,a7,?_,?_⟩
     ·unfold Rp;rw[zqI];have:=lim a1;exact zQ (by omega)
     ·have e:Rp ks'++[V.int (u:Nat)]=Rp (ks'++[u]):=by unfold Rp;rw[zqW];rfl
      rw[e]
      refine⟨ks'++[u],_,a1.push (zq0 a2) hu ru,by rw[zqQ];omega,by rw[zre a2];exact a3,fun h=>?_,fun h=>?_,a6.over hf _,zf,by rw[zE ntf];exact a8,rfl⟩
      ·by_cases h0:i=0
       ·rw[<-hu1 h0];simp
       ·exact List.mem_append_left _ (a4 (by omega))
      ·rw[<-hu2 (by omega)];simp
    ·have hu:u∈ks':=Decidable.byContradiction fun h=>z (by rw[decide_eq_false h];rfl)
     refine⟨ks',_,a1,a2,a3,fun h=>?_,fun h=>?_,a6,a7,a8,rfl⟩
     ·by_cases h0:i=0
      ·rw[<-hu1 h0];exact hu
      ·exact a4 (by omega)
     ·rw[<-hu2 (by omega)];exact hu
   ·rintro σ H6 ⟨ks',f4,a1,a2,a3,a4,a5,a6,a7,a8,rfl⟩
    refine⟨_,rfl,_,_,rfl,rfl,ks',_,a1.next a3 (fun i l h e=>?_),a2,a6,a7,rfl⟩
    rw[ex] at e
    cases e
    exact⟨a4 (show 1<=2 by decide),a5 (show 2<=2 by decide)⟩
  ·have c3:x<=1:=by have:¬(1:Int)<(x:Nat):=fun h=>c2 (decide_eq_true h);omega
   refine⟨_,rfl,_,_,rfl,rfl,ks,_,D.next ex0 (fun i l h e=>?_),c',g,hf',rfl⟩
   exfalso
   have:x=0\/x=1:=by omega
   rcases this with z | z<;>subst z
   ·rw[BK.h0] at e;cases e
   ·rw[BK.h1] at e;cases e
 ·have en:n=ks.length:=by
   have:¬n<ks.length:=fun z=>c (decide_eq_true (by unfold Rp;rw[zqI];omega))
   omega
  subst en
  refine⟨_,rfl,f,ks.map fun(n:Nat)=>(n:Int),rfl,zT.of (by rw[hf'];unfold Rp;rw[zrj];rfl),by rw[zqI];have:=lim D;omega,fun l ms hl pm up=>?_⟩
  exact q l _ ms (g.trans (Same.new hl _)) (g.free hl) zf (zM.yL.of D.nd D.done pm up)
theorem zdq (T:Txt P w K mg a):zF P w K mg base z7 (k+1) a.Xm a.Xn Zu S7:=by
 refine T.Nf.F.ok vC (fun vs H Q E h=>?_) (fun cdv A outer s H vs Q E hr h=>?_)
 ·obtain⟨n,rfl,_⟩:=h
  rfl
 obtain⟨n,rfl,n8,q⟩:=h
 refine⟨_,(zj (zH 1 vC.nd (yJ (za (yJ zc) zc)))
   (zj (uJ PassesOwn.never rfl (ZV rfl T.Xp (za (pv 0) zc)) (yI (i:=2) vC.nd rfl (Or.inl rfl)) (zj (zH 3 vC.nd (yJ zc))
   (zj (uJ PassesOwn.never rfl (yZ (pv 1)) (yI (i:=4) vC.nd rfl (Or.inl rfl)) (zu (yj (wF PySem.F.plainAttrs_list PySem.F.slot_list_extend PySem.F.type_list_extend NP (pv 3) (za (yJ (za (zN (Jw rfl) (pv 4) (yJ (za zq zc))) (za (zN (Jw rfl) (pv 4) (yJ (za zq zc))) zc))) zc)))))
   (zu (zH 1 vC.nd (pv 3))))))
   (zu (zL (pv 1))))),?_⟩
 have p256:∀i,i<=n->(zM.allR i).length<=256:=fun i hi=>by rw[zM.Mp];exact zq3 (zrd (n:=2) (by decide) (show i<=8 by omega)) (by decide)
 refine⟨by show 0<=sizeLine;decide,fun q0 hq0=>⟨by show 1<=sizeLine;decide,fun l0 hl0=>?_⟩⟩
 have g0:=(Same.new hq0 (.lst [])).trans (Same.new hl0 (.lst [.ref q0]))
 have e2:=(Same.new hl0 (.lst [.ref q0])) q0 (.lst []) zf
 have fl0:H l0=none:=(Same.new hq0 _).free hl0
 refine⟨_,rfl,(n:Int),rfl,by omega,by omega,?_⟩
 rw[zrk]
 refine ZW (fun i σ H'=>∃(l:Addr) (es:List Addr) (f2 f3 f4:Option V),Same H H'/\H l=none/\H' l=some (.lst (es.map V.ref))/\Paired (zlp H H') es (zM.allR i)/\σ=[some (.int (n:Nat)),some (.ref l),f2,f3,f4])
  ⟨l0,[q0],_,_,_,g0,fl0,zf,.cons ⟨hq0,e2⟩ .nil,rfl⟩ ?_ ?_
 ·rintro i σ H2 hi ⟨l,es,f2,f3,f4,g2,fl,hl,he,rfl⟩
  have el:=yx he
  have lt:=p256 i (by omega)
  refine⟨by show 0<=sizeLine;decide,fun lg hlg=>?_⟩
  have g3:=Same.new hlg (.lst [])
  have flg:H lg=none:=g2.free hlg
  refine⟨_,rfl,l,rfl,⟨_,zT.of (g3 _ _ hl)⟩,?_⟩
  refine XC (xs:=es.map V.ref) (fun m σ H'=>∃(us:List Addr) (f4:Option V),Same H2 H'/\H' lg=some (.lst (us.map V.ref))/\Paired (zgQ lg H H') us (((zM.allR i).take m).flatMap fun r=>[r++[false],r++[true]])/\σ=[some (.int (n:Nat)),some (.ref l),some (.int (0+(i:Nat))),some (.ref lg),f4])
   ⟨[],_,g3,zf,.nil,rfl⟩ ?_ ?_ ?_
  ·rintro m σ H' _ ⟨us,f4,g,_⟩
   exact zT.of (g _ _ hl)
  ·rintro m x σ H3 hx ⟨us,f4,g,hL0,hu,rfl⟩
   rw[zqK] at hx
   cases hp:es[m]? with
   | none=>rw[hp] at hx;cases hx
   | some p =>
    rw[hp] at hx
    cases hx
    obtain⟨e,hee,fp,hpt⟩:=uQ he hp
    have hp2:=g _ _ hpt
    have eln:=zM.Pa i e (zqN hee)
    have ul:=yx hu
    rw[zM.Ml _ (fun _=>rfl),zq5] at ul
    have gr:Same H3 H3:=Same.refl _
    refine⟨_,rfl,.inl ⟨rfl,_,zT.of hL0⟩,?_⟩
    refine⟨_,rfl,by show 1<=sizeLine;decide,fun a0 ha0=>?_⟩
    have ka0:=Same.new ha0 (.lst [.int 0])
    refine⟨p,a0,_,_,rfl,rfl,zT.of ((gr.trans ka0) _ _ hp2),zT.of zf,by rw[zqI,eln];exact zq3 (show i+1<=9 by omega) (by decide),fun r0 hr0=>?_⟩
    have nr0:r0≠lg:=Ne.symm (zB ((gr.trans ka0) _ _ hL0) hr0)
    have fr0:H r0=none:=(g2.trans (g.trans (gr.trans ka0))).free hr0
    have kb0:=(gr.trans ka0).trans (Same.new hr0 (.lst (Z0 e++[.int 0])))
    have er0:upd (upd H3 a0 (.lst [.int 0])) r0 (.lst (Z0 e++[.int 0])) r0=some (.lst (Z0 (e++[false]))):=by rw[zf];unfold Z0;rw[zqW];rfl
    generalize upd (upd H3 a0 (.lst [.int 0])) r0 (.lst (Z0 e++[.int 0]))=Hb0 at kb0 er0
    refine⟨_,rfl,by show 1<=sizeLine;decide,fun a1 ha1=>?_⟩
    have ka1:=Same.new ha1 (.lst [.int 1])
    refine⟨p,a1,_,_,rfl,rfl,zT.of ((kb0.trans ka1) _ _ hp2),zT.of zf,by rw[zqI,eln];exact zq3 (show i+1<=9 by omega) (by decide),fun r1 hr1=>?_⟩
    have nr1:r1≠lg:=Ne.symm (zB ((kb0.trans ka1) _ _ hL0) hr1)
    have fr1:H r1=none:=(g2.trans (g.trans (kb0.trans ka1))).free hr1
    have kb1:=(kb0.trans ka1).trans (Same.new hr1 (.lst (Z0 e++[.int 1])))
    have er1:upd (upd Hb0 a1 (.lst [.int 1])) r1 (.lst (Z0 e++[.int 1])) r1=some (.lst (Z0 (e++[true]))):=by rw[zf];unfold Z0;rw[zqW];rfl
    have kbs:Same Hb0 (upd (upd Hb0 a1 (.lst [.int 1])) r1 (.lst (Z0 e++[.int 1]))):=(Same.new ha1 (.lst [.int 1])).trans (Same.new hr1 (.lst (Z0 e++[.int 1])))
    generalize upd (upd Hb0 a1 (.lst [.int 1])) r1 (.lst (Z0 e++[.int 1]))=Hb1 at kb1 er1 kbs
    refine⟨by show 2<=sizeLine;decide,fun l2 hl2=>?_⟩
    have kc:=kb1.trans (Same.new hl2 (.lst [.ref r0,.ref r1]))
    have hLc:=kc _ _ hL0
    have er0':upd Hb1 l2 (.lst [.ref r0,.ref r1]) r0=some (.lst (Z0 (e++[false]))):=(Same.new hl2 _) _ _ (by
     have z:Same Hb0 Hb1:=kbs
     exact z _ _ er0)
    have er1':upd Hb1 l2 (.lst [.ref r0,.ref r1]) r1=some (.lst (Z0 (e++[true]))):=(Same.new hl2 _) _ _ er1
    refine⟨lg,l2,_,_,rfl,rfl,hLc,zf,by rw[zqI];exact zq0 (zQ (by show us.length+2<=1000;omega)),?_⟩
    refine⟨us++[r0,r1],_,(g.trans kc).over hlg _,by rw[zf,zqW];rfl,?_,rfl⟩
    rw[zZ hee,List.flatMap_append]
    exact YJ (zfI (zd2 hu kc)) (.cons ⟨fr0,nr0,by rw[zE nr0];exact er0'⟩ (.cons ⟨fr1,nr1,by rw[zE nr1];exact er1'⟩ .nil))
  ·rintro σ H3 ⟨us,f4,g,hL0,hu,rfl⟩
   rw[zqI,el,zra] at hu
   exact⟨_,rfl,lg,us,_,_,_,g2.trans g,flg,hL0,yP (fun _ _ r=>⟨r.1,r.2.2⟩) hu,rfl⟩
 ·rintro σ H2 ⟨l,es,f2,f3,f4,g2,fl,hl,he,rfl⟩
  exact⟨_,rfl,q l H2 es g2 fl hl he⟩
theorem J8 (T:Txt P w K mg a):zF P w K mg base z7 (k+1) a.Ym a.Yn uT Zm:=by
 refine T.RL.F.ok JM (fun vs H Q E h=>?_) (fun cdv A outer s H vs Q E hr h=>?_)
 ·obtain⟨p,sh,rfl,_⟩:=h
  rfl
 obtain⟨p,sh,rfl,hs,ok,q⟩:=h
 refine⟨_,(zu (zL (K7 (ug xP (zG zJ rfl T.yX yC (za (pv 0) zc)) zq (zP _)) (K6 (zG (Zf rfl) rfl T.Nj VH (za (uK (uP:=zA W0) (js:=[]) rfl (by show Yy _ _ "weight" [];exact lco (by decide +kernel)) rfl (RW (pv 0)) (by show ∀j∈([]:List Nat),j<1;decide) (fun cl C s₂ H₂ fp=>(ug zkS (zG zge rfl T.zlA zj4 (za (pv 0) zc)) (Wj (v:=.int 1000000) rfl T.zaz ⟨_,rfl⟩) (zP _)))) zc)))))),?_⟩
 have hT:=xM.of (K:=K) hs
 obtain⟨⟨o1,o2⟩,o3,o4⟩:=ok
 refine⟨_,rfl,p,_,rfl,.inr hT,rfl,true,rfl,WR ?_⟩
 have ab:∀{x:Int},-1000000<=x->x<=1000000->(if x<0 then -x else x)<=1000000:=fun h1 h2=>by split<;>omega
 refine⟨_,rfl,p,rfl,⟨_,hT⟩,zeS (fun i v=>v=.bl true) hT (by show 2<=sizeLine;decide) ?_ ?_ ?_⟩
 ·intro j x H' hx g
  match j,hx with
  | 0,hx =>
   cases hx
   refine⟨_,rfl,_,rfl,_,_,rfl,rfl,?_,g⟩
   show V.bl (decide _)=V.bl true
   rw[decide_eq_true (ab o1 o2)]
  | 1,hx =>
   cases hx
   refine⟨_,rfl,_,rfl,_,_,rfl,rfl,?_,g⟩
   show V.bl (decide _)=V.bl true
   rw[decide_eq_true (ab o3 o4)]
 ·rintro σ' H' Q1 Q2 hQ ⟨v,e,i',z1,i1,i2,z2,z3,z4⟩
  exact⟨v,e,i',z1,i1,i2,z2,z3,hQ _ _ z4⟩
 ·intro us H5 p5 hul hu g5 hp5
  have eu:us=([true,true]:List Bool).map V.bl:=by
   match us,hul,hu with
   | [u1,u2],_,hu=>rw[hu 0 u1 rfl,hu 1 u2 rfl];rfl
  subst eu
  exact⟨p5,[true,true],rfl,zT.of zf,q _ (g5.trans (Same.new hp5 _))⟩
theorem Qv (T:Txt P w K mg a)
  (uI:zF P w K mg base z7 k a.uz a.uD wV (tZ (z9 a.zx)))
  (zaJ:zF P w K mg base z7 k a.Ym a.Yn uT Zm):zF P w K mg base z7 (k+1) a.vO a.vP xY (Yg a.zx K):=by
 refine T.ZJ.F.ok Qg (fun vs H Q E h=>?_) (fun cdv A outer s H vs Q E hr h=>?_)
 ·obtain⟨b,l,os,rs,F,ps,sh,rfl,_⟩:=h
  rfl
 obtain⟨b,l,os,rs,F,ps,sh,rfl,hB,hS,q⟩:=h
 refine⟨_,(zu (yp (PW.pt (Qz (zK zeB (zG zJ rfl T.yX yC (za (pv 1) zc)) (zG zJ rfl T.yX yC (za (Vh (pv 0) T.zU T.ZK uI hr) zc)) (zP _)) (UJ (Xy (vQ (zG (Zf rfl) rfl T.Nj VH (za (uK (uP:=zA Zo) (js:=[]) rfl (by show Yy _ _ "entry" [];exact lco (by decide +kernel)) rfl (yZ (pv 1)) (by show ∀j∈([]:List Nat),j<2;decide) (fun cl C s₂ H₂ fp=>(zy zaJ hr T.RL (za (pv 0) zc)))) zc)) (fun _=>rfl)))))) (zu UW) zR)),?_⟩
 have L:=yQ a.zx
 have ho:=L.ord hB
 have hB0:=hB
 obtain⟨dx,ml,rl,tl,nd,rv,ts,kvs,h⟩:=hB
 have lp:=yx hS.at_
 refine⟨_,rfl,l,_,rfl,.inl hS.lst,?_⟩
 refine⟨_,rfl,b,dx,_,rfl,h.hb,rfl,b,os,rs,F,rfl,hB0,fun ol H1 g1 hol hol'=>?_⟩
 refine⟨ol,_,rfl,.inl (zT.of hol'),rfl,_,rfl,?_⟩
 have e1:(!decide (V.int ((ps.map V.ref).length:Nat)=V.int ((os.map V.str).length:Nat)))=false:=by
  rw[zqI,zqI,lp,hS.len,decide_eq_true rfl];rfl
 rw[e1]
 refine yq ?_
 have hS1:=hS.mono g1
 have zlP:ps.length<=1000:=by rw[lp,hS.len];exact zq3 ho.le (by decide)
 refine⟨_,rfl,l,rfl,⟨_,hS1.lst⟩,zim (fun _ v=>v=.bl true) hS1.lst (by rw[zqI];exact zq0 (zQ zlP)) ?_ (zeQ LQ) ?_⟩
 ·intro i x H' hx g
  rw[zqK] at hx
  cases hp:ps[i]? with
  | none=>rw[hp] at hx;cases hx
  | some p =>
   rw[hp] at hx
   cases hx
   obtain⟨s',hs',as'⟩:=uQ hS1.at_ hp
   exact⟨_,rfl,p,s',rfl,yN.of g _ _ as',hS.ok s' (zqN hs'),fun H9 g9=>⟨rfl,g.trans g9⟩⟩
 ·intro ys H' p hl hy g hp
  have e2:ys=(List.replicate ys.length true).map V.bl:=by
   refine List.ext_getElem? fun i=>?_
   by_cases hi:i<ys.length
   ·rw[zqK,List.getElem?_replicate,if_pos hi,zqJ hi]
    exact congrArg some (hy i _ (zqJ hi))
   ·rw[zrh (by omega),zrh (by rw[zqI,List.length_replicate];omega)]
  refine⟨p,List.replicate ys.length true,rfl,zT.of (by rw[zf,<-e2]),_,rfl,?_⟩
  have e3:(List.replicate ys.length true).all id=true:=by simp
  rw[e3]
  exact yq (q _ (g1.trans (g.trans (Same.new hp _))))
theorem J9 (T:Txt P w K mg a)(yd:zF P w K mg base z7 k a.vd a.vf wk R6):zF P w K mg base z7 (k+1) a.YT a.YW tE V4:=by
 refine T.YX.F.ok uw (fun vs H Q E h=>?_) (fun cdv A outer s H vs Q E hr h=>?_)
 ·obtain⟨c,n,rfl,_⟩:=h
  rfl
 obtain⟨c,n,rfl,n8,q⟩:=h
 refine⟨_,(zj (zH 2 uw.nd (yJ zc))
   (zj (uJ PassesOwn.never rfl (ZV rfl T.Xp (za (pv 1) zc)) (yI (i:=3) uw.nd rfl (Or.inr rfl)) (zj (QK (tt:=R5) (i:=4) uw.nd rfl (Or.inl rfl) (.inl rfl) (uP:=zA YL) (js:=[0,3]) rfl (by show Yy _ _ "j" ["cell", "k"];exact lco (by decide +kernel)) rfl (ZV rfl T.Xp (za zq zc)) (by show ∀j∈([0,3]:List Nat),j<5;decide) (fun cl C s₂ H₂ fp pins s' σ' H' Q I h=>wpAny_pure ⟨H',I,h⟩) (fun cl C s₂ H₂ fp=>(zN RZ (zy yd hr T.yw (za (pv 1) (za (zN yM (zN Nx zq (pv 2)) (pv 0)) (za zq zc)))) zq)) rfl)
   (zj (yp (zK xP (zy yd hr T.yw (za (pv 0) (za (zN yM zq (pv 3)) (za zq zc)))) zq (zP _)) (zu (zbw (zV zW (yJ (za zq (za (zex zby zq) zc))) (zy yd hr T.yw (za (pv 0) (za (zN yM zq (pv 3)) (za zq zc)))) (fun _ _=>rfl)) (zga (pv 4) (zN wu (pv 3) zq) set_list))) zR)
   (zu (yj (wF PySem.F.plainAttrs_list PySem.F.slot_list_append PySem.F.type_list_append wG (pv 2) (za (wC (za (zV zW (pv 4) zq (fun _ _=>rfl)) (za (zV zW (pv 4) zq (fun _ _=>rfl)) zc))) zc)))))))
   (zu (zL (pv 2))))),?_⟩
 refine⟨by show 0<=sizeLine;decide,fun l hl=>?_⟩
 refine⟨_,rfl,((n:Nat):Int),rfl,by omega,by omega,?_⟩
 rw[zrk]
 refine ZW (fun i σ H'=>∃(ps:List Addr) (ws:List zM.Wg) (f3 f4:Option V),Same H H'/\H' l=some (.lst (ps.map V.ref))/\Paired (zc4 H') ps ws/\ws.length=i/\(∀s∈ws,zd5 s)/\σ=[some (.int c),some (.int (n:Nat)),some (.ref l),f3,f4])
  ⟨[],[],_,_,Same.new hl _,zf,.nil,rfl,fun s hs=>by simp at hs,rfl⟩ ?_ ?_
 ·rintro i σ H1 hi ⟨ps,ws,f3,f4,g1,hl1,hp1,lw,ok,rfl⟩
  have e0:(0:Int)+(i:Nat)=((i:Nat):Int):=by omega
  refine⟨2,rfl,by decide,by decide,?_⟩
  refine zcI (lo:=0) (n:=2) (fun m zs H2=>Same H1 H2/\zs.length=m/\∀x∈zs,∃v:Int,x=.int v/\-4<=v/\v<=4) ⟨Same.refl _,rfl,fun x hx=>by simp at hx⟩ (by decide) ?_ ?_ (fun _ _ _ _ h q=>h _ _ q) ?_ ?_
  ·rintro m zs H2 hm ⟨g2,lz,hz⟩
   omega
  ·rintro m zs H2 hm ⟨g2,lz,hz⟩
   refine zfH (WR ?_)
   have em:(2:Int)*(0+(i:Nat))+(0+(m:Nat))=((2*i+m:Nat):Int):=by omega
   refine⟨_,rfl,_,rfl,2,_,rfl,rfl,.inl ⟨by decide,by decide⟩,_,rfl,_,_,rfl,rfl,c,2*i+m,9,congrArg (fun z=>[V.int c,V.int z,V.int 9]) em,by omega,by decide,by decide,fun r r0 r1=>?_⟩
   refine⟨r,4,rfl,rfl,g2,by rw[zqQ,lz];rfl,fun x hx=>?_⟩
   rcases List.mem_append.mp hx with z | z
   ·exact hz x z
   ·have e:x=.int (r-4):=by simpa using z
    exact⟨r-4,e,by omega,by omega⟩
  ·rintro σ' H2 Q1 Q2 hQ ⟨v1,e1,v2,e2,i1,i2,z1,z2,z3,v3,e3,i3,i4,z4,z5,c',k',b',y1,y2,y3,y4,y5⟩
   refine⟨v1,e1,v2,e2,i1,i2,z1,z2,z3,v3,e3,i3,i4,z4,z5,c',k',b',y1,y2,y3,y4,fun r r0 r1=>?_⟩
   obtain⟨j1,j2,x1,x2,x3⟩:=y5 r r0 r1
   exact⟨j1,j2,x1,x2,hQ _ _ x3⟩
  ·rintro zs H2 pl ⟨g2,lz,hz⟩ hpl
   obtain⟨u,v,rfl,hu,hv⟩:∃u v:Int,zs=[.int u,.int v]/\(-4<=u/\u<=4)/\(-4<=v/\v<=4):=by
    match zs,lz,hz with
    | [x,y],_,hz =>
     obtain⟨u,rfl,hu⟩:=hz x (by simp)
     obtain⟨v,rfl,hv⟩:=hz y (by simp)
     exact⟨u,v,rfl,hu,hv⟩
   have g3:=Same.new hpl (.lst [.int u,.int v])
   have hl3:=g3 _ _ (g2 _ _ hl1)
   have npl:pl≠l:=fun z=>by rw[z,g2 _ _ hl1] at hpl;cases hpl
   have e20:(20:Int)+(0+(i:Nat))=((20+i:Nat):Int):=by omega
   have e30:(30:Int)+(0+(i:Nat))=((30+i:Nat):Int):=by omega
   have gA:=g1.trans (g2.trans g3)
   have hp3:Paired (zc4 (upd H2 pl (.lst [.int u,.int v]))) ps ws:=yP (fun _ _ z=>(g2.trans g3) _ _ z) hp1
   have ziV:(upd H2 pl (.lst [.int u,.int v])) pl=some (.lst [.int u,.int v]):=zf
   have plH:H pl=none:=g1.free (g2.free hpl)
   generalize upd H2 pl (.lst [.int u,.int v])=H3 at *
   refine⟨_,rfl,_,rfl,20,_,rfl,rfl,c,20+i,7,congrArg (fun z=>[V.int c,V.int z,V.int 7]) e20,by omega,by decide,by decide,fun r r0 r1=>⟨rfl,_,rfl,z8 (fun _=>?_) (fun _=>?_)⟩⟩
   ·refine⟨1000000,rfl,by show 2<=sizeLine;decide,fun t0 ht0=>?_⟩
    have g4:=Same.new ht0 (.lst [.int 1000000,.int (-1000000)])
    refine⟨_,rfl,_,rfl,30,_,rfl,rfl,c,30+i,2,congrArg (fun z=>[V.int c,V.int z,V.int 2]) e30,by omega,by decide,by decide,fun r' s0 s1=>?_⟩
    obtain⟨X,hX,hat⟩:∃X:Int,(X=1000000\/X=-1000000)/\Je ([.int 1000000,.int (-1000000)]:List V) r'=some (.int X):=by
     have:r'=0\/r'=1:=by omega
     rcases this with z | z<;>subst z
     ·exact⟨1000000,.inl rfl,rfl⟩
     ·exact⟨-1000000,.inr rfl,rfl⟩
    refine⟨t0,_,r',_,rfl,rfl,zT.of zf,hat,?_⟩
    obtain⟨u',v',jj,hjj,zfz,hok⟩:∃(u' v':Int) (jj:Nat),ixN 2 ((0+(i:Nat))%2)=some jj/\([.int u,.int v]:List V).set jj (.int X)=[.int u',.int v']/\zd5 (u',v'):=by
     have:(0+(i:Nat):Int)%2=0\/(0+(i:Nat):Int)%2=1:=by omega
     rcases this with z | z<;>rw[z]
     ·exact⟨X,v,0,rfl,rfl,by constructor<;>constructor<;>dsimp only<;>omega⟩
     ·exact⟨u,X,1,rfl,rfl,by constructor<;>constructor<;>dsimp only<;>omega⟩
    refine⟨_,rfl,_,rfl,_,2,rfl,rfl,(show(0:Int)<2 by decide),pl,_,_,jj,rfl,rfl,g4 _ _ ziV,hjj,?_⟩
    rw[zfz]
    have hl5:upd (upd H3 t0 (.lst [.int 1000000,.int (-1000000)])) pl (.lst [.int u',.int v']) l=some (.lst (ps.map V.ref)):=by rw[zE (Ne.symm npl)];exact g4 _ _ hl3
    have zlQ:upd (upd H3 t0 (.lst [.int 1000000,.int (-1000000)])) pl (.lst [.int u',.int v']) pl=some (.lst [.int u',.int v']):=zf
    have hp5:Paired (zc4 (upd (upd H3 t0 (.lst [.int 1000000,.int (-1000000)])) pl (.lst [.int u',.int v']))) ps ws:=yP (fun x y z=>by
     show upd _ pl _ x=_
     rw[zE (Wi (g4 _ _ z) (g4 _ _ ziV) (by intro z;cases z))]
     exact g4 _ _ z) hp3
    have gB:=(gA.trans g4).over plH (.lst [.int u',.int v'])
    generalize upd (upd H3 t0 (.lst [.int 1000000,.int (-1000000)])) pl (.lst [.int u',.int v'])=H5 at *
    refine⟨_,rfl,.inl ⟨rfl,_,zT.of hl5⟩,_,rfl,pl,_,_,_,rfl,rfl,zT.of zlQ,rfl,_,rfl,pl,_,_,_,rfl,rfl,zT.of zlQ,rfl,by show 2<=sizeLine;decide,fun t ht=>?_⟩
    have g9:=Same.new ht (.tup [.int u',.int v'])
    have lps:=yx hp1
    refine⟨l,_,_,rfl,rfl,g9 _ _ hl5,by rw[zqI];exact zQ (by omega),?_⟩
    have nt:t≠l:=fun z=>by rw[z,hl5] at ht;cases ht
    refine⟨ps++[t],ws++[(u',v')],_,_,(gB.trans g9).over hl _,by rw[zf,zqW];rfl,YJ (yP (fun x y z=>?_) hp5) (.cons ?_ .nil),by rw[zqQ,lw];rfl,fun s hs=>?_,rfl⟩
    ·show upd (upd _ t _) l _ x=_
     rw[zE (Wi (g9 _ _ z) (g9 _ _ hl5) (by intro z;cases z))]
     exact g9 _ _ z
    ·show upd (upd _ t _) l _ t=_
     rw[zE nt,zf]
    ·rcases List.mem_append.mp hs with z | z
     ·exact ok s z
     ·have e:s=(u',v'):=by simpa using z
      rw[e]
      exact hok
   ·have hok:zd5 (u,v):=by constructor<;>constructor<;>dsimp only<;>omega
    refine⟨_,rfl,.inl ⟨rfl,_,zT.of hl3⟩,_,rfl,pl,_,_,_,rfl,rfl,zT.of ziV,rfl,_,rfl,pl,_,_,_,rfl,rfl,zT.of ziV,rfl,by show 2<=sizeLine;decide,fun t ht=>?_⟩
    have g9:=Same.new ht (.tup [.int u,.int v])
    have lps:=yx hp1
    refine⟨l,_,_,rfl,rfl,g9 _ _ hl3,by rw[zqI];exact zQ (by omega),?_⟩
    have nt:t≠l:=fun z=>by rw[z,hl3] at ht;cases ht
    refine⟨ps++[t],ws++[(u,v)],_,_,(gA.trans g9).over hl _,by rw[zf,zqW];rfl,YJ (yP (fun x y z=>?_) hp3) (.cons ?_ .nil),by rw[zqQ,lw];rfl,fun s hs=>?_,rfl⟩
    ·show upd (upd _ t _) l _ x=_
     rw[zE (Wi (g9 _ _ z) (g9 _ _ hl3) (by intro z;cases z))]
     exact g9 _ _ z
    ·show upd (upd _ t _) l _ t=_
     rw[zE nt,zf]
    ·rcases List.mem_append.mp hs with z | z
     ·exact ok s z
     ·have e:s=(u,v):=by simpa using z
      rw[e]
      exact hok
 ·rintro σ H1 ⟨ps,ws,f3,f4,g1,hl1,hp1,lw,ok,rfl⟩
  exact⟨_,rfl,q l H1 ps ws g1 hl hl1 hp1 lw ok⟩
theorem zaK (T:Txt P w K mg a):zF P w K mg base z7 (k+1) a.ZF a.ZG vY (Wq K):=by
 refine T.Sd.F.ok Kc (fun vs H Q E h=>?_) (fun cdv A outer s H vs Q E hr h=>?_)
 ·obtain⟨rl,l,r,ps,sh,n,rfl,_⟩:=h
  rfl
 obtain⟨rl,l,r,ps,ws,n,rfl,hr0,hrl,n8,hS,q⟩:=h
 refine⟨_,(zu (zL (zG (Ji rfl) rfl T.zhh zdU (za (uK (uP:=zA X3) (js:=[0,1]) rfl (by show Yy _ _ "k" ["weights", "row"];exact lco (by decide +kernel)) rfl (ZV rfl T.Xp (za (zG zJ rfl T.yX yC (za (pv 1) zc)) zc)) (by show ∀j∈([0,1]:List Nat),j<2;decide) (fun cl C s₂ H₂ fp=>(zV (QW (K:=K) rfl) (zV (zcP (K:=K) rfl) (pv 1) (pv 0) (fun _ _=>rfl)) (zV (zcP (K:=K) rfl) (pv 2) (pv 0) (fun _ _=>rfl)) (fun _ _=>rfl)))) zc)))),?_⟩
 have lp:=yx hS.at_
 have hls:=hS.len
 refine⟨_,rfl,rl,_,rfl,.inl hr0,(((Z0 r).length:Nat):Int),rfl,by omega,by rw[zqI];omega,?_⟩
 rw[zrk,zqI]
 refine zcI (lo:=0) (n:=r.length) (fun i zs H'=>Same H H'/\zs=((zM.wgl ws r).take i).map V.int) ⟨Same.refl _,rfl⟩ (zq0 (zQ (by omega))) ?_ ?_ (fun _ _ _ _ h q=>h _ _ q) ?_ ?_
 ·rintro i zs H' hi ⟨g,rfl⟩
  rw[zqI,zq5]
  omega
 ·rintro i zs H' hi ⟨g,rfl⟩
  have hb:=zqJ hi
  have hs:=zqJ (l:=ws) (i:=i) (by omega)
  obtain⟨p2,hp2,as2⟩:=QV hS.at_ hs
  have e2:(0:Int)+(i:Nat)=((i:Nat):Int):=by omega
  have hat:Je (ps.map V.ref) (0+(i:Nat))=some (.ref p2):=by rw[e2];exact xG (by rw[zqK,hp2];rfl)
  have hrow:Je (Z0 r) (0+(i:Nat))=some (.int ((r[i]).toNat:Nat)):=by rw[e2];exact xG (by rw[zqK,hb];rfl)
  refine zfH (WR ?_)
  refine⟨_,rfl,_,rfl,l,_,_,_,rfl,rfl,g.seq hS.lst,hat,_,rfl,_,rfl,rl,_,_,_,rfl,rfl,g.seq hr0,hrow,p2,_,_,.int (zM.w2 ws[i] r[i]),rfl,rfl,xM.of (yN.of g _ _ as2),?_,g,?_⟩
  ·cases r[i]<;>rfl
  ·rw[zZ (zj5 hb hs),zqW]
   rfl
 ·rintro σ' H' Q1 Q2 hQ ⟨v1,e1,v2,e2,a1,a2,a3,a4,a5,a6,a7,a8,v3,e3,v4,e4,b1,b2,b3,b4,b5,b6,b7,b8,c1,c2,c3,c4,c5,c6,c7,c8,c9⟩
  exact⟨v1,e1,v2,e2,a1,a2,a3,a4,a5,a6,a7,a8,v3,e3,v4,e4,b1,b2,b3,b4,b5,b6,b7,b8,c1,c2,c3,c4,c5,c6,c7,c8,hQ _ _ c9⟩
 ·rintro zs H' zp ⟨g,rfl⟩ hzp
  have e:(zM.wgl ws r).take r.length=zM.wgl ws r:=List.take_of_length_le (by rw[zit (by omega)];omega)
  rw[e]
  exact⟨zp,zM.wgl ws r,rfl,zT.of zf,q _ (g.trans (Same.new hzp _))⟩
theorem Kg (T:Txt P w K mg a)(tH:zF P w K mg base z7 k a.vm a.vo xU (Vk a.zx))(xH:zF P w K mg base z7 k a.wX a.wY xZ (V2 a.zx)):zF P w K mg base z7 (k+1) a.X5 a.X6 Zq (WY a.zx K):=by
 refine T.T8.F.ok u9 (fun vs H Q E h=>?_) (fun cdv A outer s H vs Q E hr h=>?_)
 ·obtain⟨b,l,d,os,rs,F,j,i,lo,hi,v,ps,ws,kvs,x,rfl,_⟩:=h
  rfl
 obtain⟨b,l,d,os,rs,F,j,i,lo,hi,v,ps,ws,kvs,x,rfl,hB,ex,hw,hd,hv,q⟩:=h
 refine⟨_,(zj (zH 5 u9.nd (yt (pv 0) T.zU T.tG tH hr (za (pv 1) zc)))
   (zj (zH 6 u9.nd (yt (pv 0) T.zU T.vg xH hr (za (pv 1) (za (pv 2) zc))))
   (zj (zH 7 u9.nd (Vd zbD (pv 3) (Y5 (zN yM (pv 5) zq)) (Y5 (yt (pv 0) T.zU T.tG tH hr (za (pv 6) zc)))))
   (zu (zL (zN yM (zN yM (zV wD (zV zW (pv 3) (pv 5) (fun _ _=>rfl)) (pv 2) (fun _ _=>rfl)) (zG (Ji rfl) rfl T.zhh zdU (za (uK (uP:=zA XJ) (js:=[]) rfl (by show Yy _ _ "entry" [];exact lco (by decide +kernel)) rfl (yZ (pv 7)) (by show ∀j∈([]:List Nat),j<8;decide) (fun cl C s₂ H₂ fp=>(zG (zbj (K:=K) rfl rfl (hu9 hr)) rfl T.zbp Mq (za (pv 0) zc)))) zc))) (VR (Wk hr) (pv 4) (pv 6) (fun _ _=>rfl)))))))),?_⟩
 have L:=yQ a.zx
 have BK:=L.bk hB
 have o8:=(L.ord hB).le
 have hj:=(zqL.mp ex).1
 obtain⟨jl,jh,l1,l2,_⟩:=zM.KD BK ex hj
 have lj:zM.zX os.length rs j=i:=zM.wR BK ex
 generalize hc:(if v then hi else lo:Nat)=c at hv q
 have cl:c<rs.length/\i<zM.zX os.length rs c:=by
  rw[<-hc]
  cases v
  ·exact⟨jl,l1⟩
  ·exact⟨jh,l2⟩
 have cn:=zM.Tg BK c cl.1
 obtain⟨dx,ml,rl,tl,nd,rv,tbs,zhk,h⟩:=id hB
 refine⟨_,rfl,b,dx,_,rfl,h.hb,rfl,_,rfl,b,os,rs,F,j,rfl,hB,hj,?_⟩
 rw[lj]
 refine⟨_,rfl,b,dx,_,rfl,h.hb,rfl,_,rfl,_,rfl,b,os,rs,F,j,_,v,rfl,hB,ex,?_⟩
 have eg:WW j (some (i,lo,hi)) v=c:=by rw[<-hc];cases v<;>rfl
 rw[eg]
 refine⟨_,rfl,_,rfl,_,_,rfl,rfl,_,rfl,_,rfl,b,dx,_,rfl,h.hb,rfl,_,rfl,b,os,rs,F,c,rfl,hB,cl.1,_,rfl,l,_,rfl,hw.lst,fun bl hbl=>?_⟩
 have lw:=hw.len
 have lp:=yx hw.at_
 have ec:WQ (ps.map V.ref) (some ((i:Int)+1)) (some ((zM.zX os.length rs c:Nat):Int))=((ps.drop (i+1)).take (zM.zX os.length rs c-(i+1))).map V.ref:=by
  have:=ze7 (xs:=ps.map V.ref) (m:=i+1) (n:=zM.zX os.length rs c) (by omega) (by rw[zqI];omega)
  rw[List.map_take,List.map_drop]
  exact this
 rw[ec]
 have g0:=Same.new hbl (.lst (((ps.drop (i+1)).take (zM.zX os.length rs c-(i+1))).map V.ref))
 have e0:upd H bl (.lst (((ps.drop (i+1)).take (zM.zX os.length rs c-(i+1))).map V.ref)) bl=some (.lst (((ps.drop (i+1)).take (zM.zX os.length rs c-(i+1))).map V.ref)):=zf
 generalize upd H bl (.lst (((ps.drop (i+1)).take (zM.zX os.length rs c-(i+1))).map V.ref))=H0 at g0 e0
 have hw0:=hw.mono g0
 obtain⟨pi,hpi⟩:∃y,ps[i]?=some y:=⟨_,zqJ (by omega)⟩
 obtain⟨si,hsi,asi⟩:=uQ hw0.at_ hpi
 have asi:H0 pi=some (.tup [.int si.1,.int si.2]):=asi
 refine⟨_,rfl,_,rfl,l,_,_,_,rfl,rfl,hw0.lst,xG (by rw[zqK,hpi];rfl),_,rfl,pi,_,_,_,rfl,rfl,xM.of asi,xG (j:=v.toNat) (v:=.int (zM.w2 si v)) (by cases v<;>rfl),?_⟩
 refine⟨_,rfl,bl,rfl,⟨_,zT.of e0⟩,?_⟩
 generalize he:zM.zX os.length rs c-(i+1)=e at q e0
 have at':∀{m:Nat} {y:Addr},((ps.drop (i+1)).take e)[m]?=some y->∃sg,((ws.drop (i+1)).take e)[m]?=some sg/\H0 y=some (.tup [.int sg.1,.int sg.2]):=fun {m y} hy=>by
  rw[List.getElem?_take] at hy
  split at hy
  ·rename_i lt
   rw[List.getElem?_drop] at hy
   obtain⟨sg,h1,h2⟩:=uQ hw0.at_ hy
   exact⟨sg,by rw[List.getElem?_take,if_pos lt,List.getElem?_drop];exact h1,h2⟩
  ·cases hy
 have lq:((ps.drop (i+1)).take e).length=e:=by rw[zq5,List.length_drop];omega
 have lv:((ws.drop (i+1)).take e).length=e:=by rw[zq5,List.length_drop];omega
 refine Vl (xs:=((ps.drop (i+1)).take e).map V.ref) (fun m ys H'=>Same H0 H'/\ys=((((ws.drop (i+1)).take e).take m).map zM.lw).map V.int) ⟨Same.refl _,rfl⟩ (by rw[zqI,lq];exact zq0 (zQ (by omega))) ?_ ?_ ?_
 ·rintro m ys H' hm ⟨g,rfl⟩
  exact⟨zT.of (g _ _ e0),by rw[zqI,zqI,zq5];omega⟩
 ·rintro m y ys H' Q0 hy ⟨g,rfl⟩ hQ
  rw[zqK] at hy
  cases hp:((ps.drop (i+1)).take e)[m]? with
  | none=>rw[hp] at hy;cases hy
  | some p =>
   rw[hp] at hy
   cases hy
   obtain⟨sg,h1,h2⟩:=at' hp
   refine⟨_,rfl,p,_,_,rfl,xM.of (g _ _ h2),hQ _ _ ⟨g,?_⟩⟩
   rw[zZ h1,zqW,zqW]
   rfl
 ·rintro ys H' sl ⟨g,rfl⟩ hsl
  rw[zqI,lq,List.take_of_length_le (by omega)]
  have gn:=Same.new hsl (.lst ((((ws.drop (i+1)).take e).map zM.lw).map V.int))
  refine⟨sl,_,rfl,zT.of zf,_,_,rfl,rfl,?_⟩
  have gz:=g0.trans (g.trans gn)
  have dg:Vi (upd H' sl (.lst ((((ws.drop (i+1)).take e).map zM.lw).map V.int))) d (V.int (c:Nat)) (some (.int x)):=by
   have:=Vi.k (k:=iK c) (gz _ _ hd)
   rw[hv] at this
   exact this
  refine⟨_,rfl,_,rfl,d,_,rfl,dg,_,_,rfl,rfl,?_⟩
  have esum:(((ws.drop (i+1)).take e).map zM.lw).sum=zM.fr ws e (i+1):=zed e (i+1) (by omega)
  have esi:ws.getD i (0,0)=si:=by rw[zqV,hsi];rfl
  have z:=q _ gz
  rw[esi,<-esum] at z
  exact z
theorem zdr (T:Txt P w K mg a)(xH:zF P w K mg base z7 k a.wX a.wY xZ (V2 a.zx))(zaa:zF P w K mg base z7 k a.X5 a.X6 Zq (WY a.zx K)):zF P w K mg base z7 (k+1) a.Rb a.Rf Vn (S9 a.zx K):=by
 refine T.MK.F.ok JQ (fun vs H Q E h=>?_) (fun cdv A outer s H vs Q E hr h=>?_)
 ·obtain⟨b,l,d,os,rs,F,j,ps,ws,c,kvs,rfl,_⟩:=h
  rfl
 obtain⟨b,l,d,os,rs,F,j,ps,ws,c,kvs,rfl,hB,hj,hw,hd,hv,q⟩:=h
 refine⟨_,(zj (yp (zK xP (pv 1) zq (zP _)) (zu (zL ZS)) zR)
   (zj (yp (zK xP (pv 1) zq (zP _)) (zu (zL zq)) zR)
   (zj (QK (i:=4) JQ.nd rfl (Or.inl rfl) (.inl rfl) (uP:=zA Ra) (js:=[3,1,0]) rfl (by show Yy _ _ "value" ["known", "number", "book"];exact lco (by decide +kernel)) rfl (RW (wC (za zq (za zq zc)))) (by show ∀j∈([3,1,0]:List Nat),j<5;decide) (fun cl C s₂ H₂ fp pins s' σ' H' Q I h=>wpAny_tests_one ((zK zeC (VR (Wk hr) (pv 1) (yt (pv 3) T.zU T.vg xH hr (za (pv 2) (za (pv 0) zc))) (fun _ _=>rfl)) ZS (zP _)) pins s' σ' H' Q I h)) (fun cl C s₂ H₂ fp=>(pv 0)) rfl)
   (zu (zL (Mr (K:=K) rfl rfl (hu9 hr) rfl T.zbp Mq (za (uK (uP:=zA Ra) (js:=[0,1,2,3]) rfl (by show Yy _ _ "value" ["book", "number", "weights", "known"];exact lco (by decide +kernel)) rfl (yZ (pv 4)) (by show ∀j∈([0,1,2,3]:List Nat),j<5;decide) (fun cl C s₂ H₂ fp=>(zy zaa hr T.T8 (za (pv 1) (za (pv 2) (za (pv 0) (za (pv 3) (za (pv 4) zc)))))))) zc) ZS)))))),?_⟩
 have L:=yQ a.zx
 have BK:=L.bk hB
 refine⟨_,rfl,rfl,_,rfl,?_⟩
 refine z8 (fun z=>?_) (fun z=>?_)
 ·have e:j=0:=by have:=of_decide_eq_true z;injection this with z;omega
  subst e
  have y:=q _ (Same.refl _)
  rw[JG BK] at y
  exact y
 have j0:j≠0:=fun e=>z (decide_eq_true (by rw[e];rfl))
 refine⟨_,rfl,rfl,_,rfl,?_⟩
 refine z8 (fun z=>?_) (fun z=>?_)
 ·have e:j=1:=by have:=of_decide_eq_true z;injection this with z;omega
  subst e
  have y:=q _ (Same.refl _)
  rw[zb4 BK] at y
  exact y
 have j1:j≠1:=fun e=>z (decide_eq_true (by rw[e];rfl))
 obtain⟨i,lo,hi,ex,_⟩:=BK.rm j (by omega) hj
 obtain⟨v1,v2⟩:=hv i lo hi ex
 have en:=JH (ws:=ws) (n:=os.length) (c:=c) ex
 rw[en] at q
 clear en
 obtain⟨dx,ml,rl,tl,nd,rv,ts0,zhk,h⟩:=id hB
 have has:∀{H':Hp} (v:Bool),Same H H'->Vi H' d (V.int ((if v then hi else lo:Nat):Nat)) (some (yR (c ((if v then hi else lo:Nat):Int)))):=fun {H'} v g=>by
  have:=Vi.k (k:=iK ((if v then hi else lo:Nat):Int)) (g _ _ hd)
  rw[show xV kvs (iK ((if v then hi else lo:Nat):Int))=some (yR (c ((if v then hi else lo:Nat):Int))) by cases v;exact v1;exact v2] at this
  exact this
 refine⟨by show 2<=sizeLine;decide,fun tp htp=>?_⟩
 have g0:=Same.new htp (.tup [.int 0,.int 1])
 have e0:upd H tp (.tup [.int 0,.int 1]) tp=some (.tup [.int 0,.int 1]):=zf
 generalize upd H tp (.tup [.int 0,.int 1])=H0 at g0 e0
 refine⟨tp,rfl,⟨_,xM.of e0⟩,?_⟩
 have isn:∀o:Option Int,(!decide (yR o=V.non))=o.isSome:=fun o=>by
  cases o with
  | none=>rw[decide_eq_true (show yR none=V.non from rfl)];rfl
  | some x=>rw[decide_eq_false (fun z=>by cases z)];rfl
 refine ziA (xs:=[.int 0,.int 1]) (fun x=>match x with | .int 0=>(c ((lo:Nat):Int)).isSome | _=>(c ((hi:Nat):Int)).isSome) (fun H' g=>xM.of (g _ _ e0)) (by show 2<=sizeLine;decide) (fun x H' Q h=>⟨_,rfl,h⟩) (fun m x H' Q0 hx g hQ=>?_) (fun H1 wl g1 hwl=>?_)
 ·have hvx:∃v:Bool,x=V.int ((v.toNat:Nat):Int):=by
   match m,hx with
   | 0,hx=>cases hx;exact⟨false,rfl⟩
   | 1,hx=>cases hx;exact⟨true,rfl⟩
  obtain⟨v,rfl⟩:=hvx
  have gz:=g0.trans g
  have hB':=L.same hB gz
  obtain⟨dx',ml',rl',tl',nd',rv',ts',kvs',h'⟩:=id hB'
  have eg:WW j (some (i,lo,hi)) v=(if v then hi else lo):=by cases v<;>rfl
  refine⟨_,rfl,_,rfl,b,dx',_,rfl,h'.hb,rfl,_,rfl,_,rfl,b,os,rs,F,j,_,v,rfl,hB',ex,?_⟩
  rw[eg]
  refine⟨d,_,rfl,has v gz,rfl,_,rfl,?_⟩
  rw[isn]
  have y:=hQ _ g
  cases v
  ·exact y
  ·exact y
 have ew:([V.int 0,V.int 1].filter fun x=>match x with | .int 0=>(c ((lo:Nat):Int)).isSome | _=>(c ((hi:Nat):Int)).isSome)=([false,true].filter fun v=>(c ((if v then hi else lo:Nat):Int)).isSome).map fun v=>V.int ((v.toNat:Nat):Int):=by
  cases e1:(c ((lo:Nat):Int)).isSome<;>cases e2:(c ((hi:Nat):Int)).isSome<;>simp[List.filter,e1,e2]
 rw[ew]
 generalize hW:([false,true].filter fun v=>(c ((if v then hi else lo:Nat):Int)).isSome)=W
 have g2:=g1.trans (Same.new hwl (.lst (W.map fun v=>V.int ((v.toNat:Nat):Int))))
 have e2:upd H1 wl (.lst (W.map fun v=>V.int ((v.toNat:Nat):Int))) wl=some (.lst (W.map fun v=>V.int ((v.toNat:Nat):Int))):=zf
 generalize upd H1 wl (.lst (W.map fun v=>V.int ((v.toNat:Nat):Int)))=H2 at g2 e2
 have lW:W.length<=2:=by rw[<-hW];exact zrg _ _
 have g02:=g0.trans g2
 refine⟨_,rfl,wl,rfl,⟨_,zT.of e2⟩,?_⟩
 refine Vl (xs:=W.map fun v=>V.int ((v.toNat:Nat):Int)) (fun m ys H'=>Same H2 H'/\ys=((W.take m).map fun v=>V.int ((zM.Qd ws os.length rs i (if v then hi else lo) v (c ((if v then hi else lo:Nat):Int))).getD 0))) ⟨Same.refl _,rfl⟩ (by rw[zqI];exact zq0 (zQ (by omega))) ?_ ?_ ?_
 ·rintro m ys H' hm ⟨g,rfl⟩
  exact⟨zT.of (g _ _ e2),by rw[zqI,zq5];omega⟩
 ·rintro m y ys H' Q0 hy ⟨g,rfl⟩ hQ
  rw[zqK] at hy
  cases hp:W[m]? with
  | none=>rw[hp] at hy;cases hy
  | some v =>
   rw[hp] at hy
   cases hy
   have gz:=g02.trans g
   have hs:(c ((if v then hi else lo:Nat):Int)).isSome=true:=by
    have:=zqN hp
    rw[<-hW] at this
    exact(List.mem_filter.mp this).2
   obtain⟨x,ex'⟩:=Option.isSome_iff_exists.mp hs
   have hx:xV kvs (iK ((if v then hi else lo:Nat):Int))=some (.int x):=by
    have:xV kvs (iK ((if v then hi else lo:Nat):Int))=some (yR (c ((if v then hi else lo:Nat):Int))):=by
     cases v
     ·exact v1
     ·exact v2
    rw[this,ex']
    rfl
   refine⟨_,rfl,_,rfl,_,rfl,_,rfl,_,rfl,b,l,d,os,rs,F,j,i,lo,hi,v,ps,ws,kvs,x,rfl,L.same hB gz,ex,hw.mono gz,gz _ _ hd,hx,fun H3 g3=>hQ _ _ ⟨g.trans g3,?_⟩⟩
   rw[zZ hp,zqW,zq6,List.map_nil,ex']
   rfl
 ·rintro ys H' pl ⟨g,rfl⟩ hpl
  rw[zqI,zra]
  have gn:=Same.new hpl (.lst (W.map fun v=>V.int ((zM.Qd ws os.length rs i (if v then hi else lo) v (c ((if v then hi else lo:Nat):Int))).getD 0)))
  have gz:=g02.trans (g.trans gn)
  refine⟨pl,_,_,rfl,rfl,zT.of zf,?_⟩
  have y:=q _ gz
  rw[<-hW] at y ⊢
  clear hW q
  have fl:∀o0 o1:Option Int,c ((lo:Nat):Int)=o0->c ((hi:Nat):Int)=o1->([false,true].filter fun v=>(c ((if v then hi else lo:Nat):Int)).isSome)=(if o0.isSome then [false] else [])++(if o1.isSome then [true] else []):=fun o0 o1 e0 e1=>by
   subst e0 e1
   cases h0:(c ((lo:Nat):Int)).isSome<;>cases h1:(c ((hi:Nat):Int)).isSome<;>simp[List.filter,h0,h1]
  have lt2:∀(Hq:Hp) (zs:List Int) (i j:Nat) (x y:V),(zs.map V.int)[i]?=some x->(zs.map V.int)[j]?=some y->LtD K Hq 8 x y (decide (zs.getD i 0<zs.getD j 0)):=fun Hq zs i j x y hx hy=>by
   have e:∀{i:Nat} {x:V},(zs.map V.int)[i]?=some x->x=.int (zs.getD i 0):=fun {i x} h=>by
    rw[zqK] at h
    cases hz:zs[i]? with
    | none=>rw[hz] at h;cases h
    | some z=>rw[hz] at h;cases h;rw[zqV,hz];rfl
   rw[e hx,e hy]
   exact LtD.int
  cases o0:c ((lo:Nat):Int) with
  | none =>
   cases o1:c ((hi:Nat):Int) with
   | none =>
    rw[fl _ _ o0 o1] at y ⊢
    rw[o0,o1] at y
    exact .inl ⟨rfl,y⟩
   | some x1 =>
    rw[fl _ _ o0 o1] at y ⊢
    rw[o0,o1] at y
    have em:(((if (none:Option Int).isSome=true then [false] else [])++if (some x1).isSome=true then [true] else []).map fun v:Bool=>V.int ((zM.Qd ws os.length rs i (if v then hi else lo) v (c ((if v then hi else lo:Nat):Int))).getD 0))=[zM.w2 (ws.getD i (0,0)) true+zM.fr ws (zM.zX os.length rs hi-(i+1)) (i+1)+x1].map V.int:=by
     show [V.int ((zM.Qd ws os.length rs i hi true (c ((hi:Nat):Int))).getD 0)]=_
     rw[o1]
     rfl
    rw[em] at y ⊢
    refine .inr ⟨_,Nat.zero_lt_one,lt2 _ _,fun v hv=>?_⟩
    cases hv
    exact y
  | some x0 =>
   cases o1:c ((hi:Nat):Int) with
   | none =>
    rw[fl _ _ o0 o1] at y ⊢
    rw[o0,o1] at y
    have em:(((if (some x0).isSome=true then [false] else [])++if (none:Option Int).isSome=true then [true] else []).map fun v:Bool=>V.int ((zM.Qd ws os.length rs i (if v then hi else lo) v (c ((if v then hi else lo:Nat):Int))).getD 0))=[zM.w2 (ws.getD i (0,0)) false+zM.fr ws (zM.zX os.length rs lo-(i+1)) (i+1)+x0].map V.int:=by
     show [V.int ((zM.Qd ws os.length rs i lo false (c ((lo:Nat):Int))).getD 0)]=_
     rw[o0]
     rfl
    rw[em] at y ⊢
    refine .inr ⟨_,Nat.zero_lt_one,lt2 _ _,fun v hv=>?_⟩
    cases hv
    exact y
   | some x1 =>
    rw[fl _ _ o0 o1] at y ⊢
    rw[o0,o1] at y
    have em:(((if (some x0).isSome=true then [false] else [])++if (some x1).isSome=true then [true] else []).map fun v:Bool=>V.int ((zM.Qd ws os.length rs i (if v then hi else lo) v (c ((if v then hi else lo:Nat):Int))).getD 0))=[zM.w2 (ws.getD i (0,0)) false+zM.fr ws (zM.zX os.length rs lo-(i+1)) (i+1)+x0,zM.w2 (ws.getD i (0,0)) true+zM.fr ws (zM.zX os.length rs hi-(i+1)) (i+1)+x1].map V.int:=by
     show [V.int ((zM.Qd ws os.length rs i lo false (c ((lo:Nat):Int))).getD 0),V.int ((zM.Qd ws os.length rs i hi true (c ((hi:Nat):Int))).getD 0)]=_
     rw[o0,o1]
     rfl
    rw[em] at y ⊢
    have y:Q (.int (if zM.w2 (ws.getD i (0,0)) true+zM.fr ws (zM.zX os.length rs hi-(i+1)) (i+1)+x1<zM.w2 (ws.getD i (0,0)) false+zM.fr ws (zM.zX os.length rs lo-(i+1)) (i+1)+x0 then zM.w2 (ws.getD i (0,0)) true+zM.fr ws (zM.zX os.length rs hi-(i+1)) (i+1)+x1 else zM.w2 (ws.getD i (0,0)) false+zM.fr ws (zM.zX os.length rs lo-(i+1)) (i+1)+x0)) _:=y
    generalize zM.w2 (ws.getD i (0,0)) false+zM.fr ws (zM.zX os.length rs lo-(i+1)) (i+1)+x0=aa at y ⊢
    generalize zM.w2 (ws.getD i (0,0)) true+zM.fr ws (zM.zX os.length rs hi-(i+1)) (i+1)+x1=bb at y ⊢
    refine .inr ⟨_,Nat.zero_lt_succ _,lt2 _ [aa,bb],fun v hv=>?_⟩
    have e:argBest (fun i j=>decide ([aa,bb].getD i 0<[aa,bb].getD j 0)) 1=if bb<aa then 1 else 0:=by
     show(if decide (bb<aa)=true then 1 else 0)=_
     by_cases c:bb<aa
     ·rw[decide_eq_true c,if_pos rfl,if_pos c]
     ·rw[decide_eq_false c,if_neg zqM,if_neg c]
    rw[show([aa,bb].map V.int).length-1=1 from rfl,e] at hv
    by_cases c:bb<aa
    ·rw[if_pos c] at hv y;cases hv;exact y
    ·rw[if_neg c] at hv y;cases hv;exact y
theorem zf2 (T:Txt P w K mg a)(yG:zF P w K mg base z7 k a.yE a.yF yr (tO a.zx))(ZM:zF P w K mg base z7 k a.vO a.vP xY (Yg a.zx K))(Us:zF P w K mg base z7 k a.Xk a.Xl Zt (Ph a.zx))(M8:zF P w K mg base z7 k a.Rb a.Rf Vn (JD a.zx K)):zF P w K mg base z7 (k+1) a.zca a.zcb KR (JF a.zx K):=by
 refine T.P0.F.ok JN (fun vs H Q E h=>?_) (fun cdv A outer s H vs Q E hr h=>?_)
 ·obtain⟨b,wl,os,rs,F,k0,ps,ws,rfl,_⟩:=h
  rfl
 obtain⟨b,wl,os,rs,F,k0,ps,ws,rfl,hB0,hk,hfew,hw0,q⟩:=h
 refine⟨_,(zj (yj (yt (pv 0) T.zU T.xu yG hr (za (pv 1) zc)))
   (zj (yj (zy ZM hr T.ZJ (za (pv 0) (za (pv 2) zc))))
   (zj (zH 3 JN.nd Jp)
   (zj (uJ PassesOwn.never rfl (yZ (yt (pv 0) T.zU T.Uq Us hr (za (pv 1) zc))) (yI (i:=4) JN.nd rfl (Or.inl rfl)) (zu (Q8 (Wk hr) (pv 3) (pv 4) (zy M8 hr T.MK (za (pv 0) (za (pv 4) (za (pv 2) (za (pv 3) zc))))) rfl)))
   (zu (zL (zb0 rfl rfl T.Qq (pv 3)))))))),?_⟩
 have L:=yQ a.zx
 have BK:=L.bk hB0
 obtain⟨dx,ml,rl,tl,nd,rv,ts0,zhk,h⟩:=id hB0
 refine⟨_,rfl,b,dx,_,rfl,h.hb,rfl,_,rfl,b,os,rs,F,k0,rfl,hB0,hk,?_⟩
 refine⟨_,rfl,_,rfl,b,wl,os,rs,F,ps,ws,rfl,hB0,hw0,fun HH gH=>?_⟩
 have hB:=L.same hB0 gH
 have hw:=hw0.mono gH
 refine fun d hd=>?_
 have g0:=Same.new hd (.dK [])
 have hB0:=L.same hB g0
 obtain⟨dx,fs,Sv,hm⟩:=L.ins hB0
 refine⟨_,rfl,b,dx,fs,rfl,Sv,hm _ (by decide +kernel),_,rfl,b,os,rs,F,k0,rfl,hB0,hk,hfew,fun bl H1 ms g1 fbl hbl ZQ=>?_⟩
 have nat:∀x∈ms,∃j:Nat,x=j/\zM.Reach rs k0 j:=fun x hx=>(ZQ.mem x).mp hx
 have lms:=ZQ.len BK hk
 have o8:=(L.ord hB).le
 have p8:2^os.length<=256:=zq3 (zrd (n:=2) (by decide) o8) (by decide)
 have g01:=g0.trans g1
 have hd1:=g1 _ _ (show upd HH d (.dK []) d=some (.dK []) from zf)
 have hdn:d≠bl:=zB zf fbl
 refine⟨bl,rfl,⟨_,zT.of hbl⟩,?_⟩
 refine XC (xs:=ms.map V.int) (fun i σ H'=>∃f3:Option V,Same HH H'/\H' bl=some (.lst (ms.map V.int))/\H' d=some (.dK ((ms.take i).map (Rq fun m=>yR (zM.ld ws os.length rs m.toNat))))/\σ=[some (.ref b),some (.int (k0:Nat)),some (.ref wl),some (.ref d),f3]) ⟨_,g01,hbl,hd1,rfl⟩ (fun i σ H' _ ⟨_,g,hb',_⟩=>zT.of hb') ?_ ?_
 ·rintro i x σ H' hx ⟨f3,g,hb',hd',rfl⟩
  rw[zqK] at hx
  cases hm':ms[i]? with
  | none=>rw[hm'] at hx;cases hx
  | some m =>
   rw[hm'] at hx
   cases hx
   obtain⟨j,rfl,rj⟩:=nat m (zqN hm')
   have hj:=rj.lt BK hk
   have hin:∀g:Nat,g<j->zM.Reach rs k0 g->xV ((ms.take i).map (Rq fun m=>yR (zM.ld ws os.length rs m.toNat))) (iK g)=some (yR (zM.ld ws os.length rs g)):=fun g hg rg=>by
    have mem:(g:Int)∈ms:=(ZQ.mem _).mpr ⟨g,rfl,rg⟩
    obtain⟨t,ht,et⟩:=zro mem
    have hit:t<i:=by
     rcases Nat.lt_or_ge t i with z | z
     ·exact z
     ·exfalso
      obtain⟨hi',ei'⟩:=zqL.mp hm'
      rcases Nat.lt_or_ge i t with y | y
      ·have:=List.pairwise_iff_getElem.mp ZQ.up i t hi' ht y
       rw[et,ei'] at this
       omega
      ·have:t=i:=by omega
       subst this
       rw[et] at ei'
       omega
    refine Tr (c:=fun m=>yR (zM.ld ws os.length rs m.toNat)) ?_
    rw[<-et]
    refine zqN (i:=t) ?_
    rw[List.getElem?_take,if_pos hit,zqJ ht]
   refine⟨_,rfl,_,rfl,_,rfl,_,rfl,b,wl,d,os,rs,F,j,ps,ws,_,rfl,L.same hB g,hj,hw.mono g,hd',(fun i' lo hi ex=>?_),fun H2 g2=>?_⟩
   ·have st:=rj.step ex
    have z2:2<=j:=by
     rcases Nat.lt_or_ge j 2 with z | z
     ·exfalso
      rcases (by omega:j=0\/j=1) with z | z<;>subst z
      ·rw[BK.h0] at ex;cases ex
      ·rw[BK.h1] at ex;cases ex
     ·exact z
    obtain⟨i2,lo2,hi2,e2,_,a1,a2,_⟩:=BK.rm j z2 hj
    rw[ex] at e2
    cases e2
    exact⟨hin lo a1 st.1,hin hi a2 st.2⟩
   have hd2:=g2 _ _ hd'
   refine⟨_,rfl,_,rfl,d,_,rfl,zbS.k (k:=iK j) hd2 ?_,?_⟩
   ·rw[zqI,zq5];exact zQ (by omega)
   refine⟨_,(g.trans g2).over hd _,?_,?_,rfl⟩
   ·rw[zE (Ne.symm hdn)];exact g2 _ _ hb'
   ·rw[zf,zZ hm',zqW]
    have hnone:xV ((ms.take i).map (Rq fun m=>yR (zM.ld ws os.length rs m.toNat))) (iK (j:Int))=none:=by
     refine Pb fun hy=>?_
     obtain⟨t,ht,et⟩:=zro hy
     rw[zq5] at ht
     rw[List.getElem_take] at et
     obtain⟨hi',ei'⟩:=zqL.mp hm'
     have:=List.pairwise_iff_getElem.mp ZQ.up t i (by omega) hi' (by omega)
     rw[et,ei'] at this
     omega
    rw[Q7 _ hnone]
    rfl
 ·rintro σ H' ⟨f3,g,hb',hd',rfl⟩
  rw[zqI,zra] at hd'
  refine⟨_,rfl,d,_,rfl,hd',fun l ts H2 g2 fl hp hl=>?_⟩
  refine q l ts ms H2 (gH.trans (g.trans g2)) (gH.free (g.free fl)) ZQ ?_ hl
  refine Mt (by have:=yx hp;rw[zqI] at this;exact this) fun j x y h1 h2=>?_
  obtain⟨kv',h3,h4,h5⟩:=uQ hp h1
  rw[zqK,h2] at h3
  cases h3
  exact⟨gH.free (g.free h4),h5⟩
theorem zds (T:Txt P w K mg a)(Yw:zF P w K mg base z7 k a.Ys a.Yt uW (KH a.zx))(zcm:zF P w K mg base z7 k a.Xm a.Xn Zu S7)(zaL:zF P w K mg base z7 k a.W8 a.W9 Yk (Qc a.zx K))(zab:zF P w K mg base z7 k a.ZF a.ZG vY (Wq K)):zF P w K mg base z7 (k+1) a.Ud a.Ue Xg (Mx a.zx K):=by
 refine T.Xo.F.ok Yl (fun vs H Q E h=>?_) (fun cdv A outer s H vs Q E hr h=>?_)
 ·obtain⟨b,wl,os,rs,F,k0,qs,ws,rfl,_⟩:=h
  rfl
 obtain⟨b,wl,os,rs,F,k0,qs,ws,rfl,hB,hk,hw,q⟩:=h
 refine⟨_,(zj (zH 3 Yl.nd (zy Yw hr T.Yu (za (pv 0) (za (pv 1) zc))))
   (zj (zH 4 Yl.nd (yJ zc))
   (zj (uJ PassesOwn.never rfl (yZ (zy zcm hr T.Nf (za (zN RZ (zG zJ rfl T.yX yC (za (pv 2) zc)) (pv 3)) zc))) (yI (i:=5) Yl.nd rfl (Or.inl rfl)) (zu (yp (zK xP (zy zaL hr T.RT (za (pv 0) (za (pv 1) (za (zN (Jw (K:=K) rfl) (zN zio (yJ (za zq zc)) (pv 3)) (pv 5)) zc)))) zq (zP _)) (zu (yj (wF PySem.F.plainAttrs_list PySem.F.slot_list_append PySem.F.type_list_append wG (pv 4) (za (zy zab hr T.Sd (za (Vd zbD (pv 2) (Y5 (pv 3)) zbA) (za (pv 5) zc))) zc)))) zR)))
   (zu (zL (Mr (K:=K) rfl rfl (hu9 hr) rfl T.zbp Mq (za (pv 4) zc) ZS)))))),?_⟩
 have L:=yQ a.zx
 have BK:=L.bk hB
 have o8:=(L.ord hB).le
 have ll:=zM.Tg BK k0 hk
 have lw:=hw.len
 have lq:=yx hw.at_
 refine⟨_,rfl,_,rfl,b,os,rs,F,k0,rfl,hB,hk,fun H1 g1=>?_⟩
 refine⟨by show 0<=sizeLine;decide,fun fl hfl=>?_⟩
 have ffl:H fl=none:=g1.free hfl
 have g2:=g1.trans (Same.new hfl (.lst []))
 have e2:upd H1 fl (.lst []) fl=some (.lst []):=zf
 generalize upd H1 fl (.lst [])=H2 at g2 e2
 have en:(((qs.map V.ref).length:Nat):Int)-((zM.zX os.length rs k0:Nat):Int)=((os.length-zM.zX os.length rs k0:Nat):Int):=by rw[zqI];omega
 refine⟨_,rfl,wl,_,rfl,.inl (g2.seq hw.lst),_,rfl,_,_,rfl,rfl,os.length-zM.zX os.length rs k0,?_,by omega,fun rl H3 es g3 frl hrl he=>?_⟩
 ·show [V.int ((((qs.map V.ref).length:Nat):Int)-((zM.zX os.length rs k0:Nat):Int))]=_
  rw[en]
 have el:=yx he
 have zp0:(zM.allR (os.length-zM.zX os.length rs k0)).length<=256:=by rw[zM.Mp];exact zq3 (zrd (n:=2) (by decide) (show _<=8 by omega)) (by decide)
 have nrf:rl≠fl:=fun e=>by rw[e,e2] at frl;cases frl
 refine⟨rl,rfl,⟨_,zT.of hrl⟩,?_⟩
 refine XC (xs:=es.map V.ref) (fun i σ H'=>∃f5:Option V,(∀x o,x≠fl->H3 x=some o->H' x=some o)/\H' fl=some (.lst (((((zM.allR (os.length-zM.zX os.length rs k0)).take i).filter fun r=>zM.yes rs k0 (zM.Zk (List.replicate (zM.zX os.length rs k0) false++r))).map (zM.wg (ws.drop (zM.zX os.length rs k0)))).map V.int))/\σ=[some (.ref b),some (.int (k0:Nat)),some (.ref wl),some (.int (zM.zX os.length rs k0:Nat)),some (.ref fl),f5]) ⟨_,fun _ _ _ e=>e,g3 _ _ e2,rfl⟩ (fun i σ H' _ ⟨_,ho,_⟩=>zT.of (ho _ _ nrf hrl)) ?_ ?_
 ·rintro i x σ H' hx ⟨f5,ho,hf,rfl⟩
  have sm:Same H H':=fun x o e=>ho x o (zB e ffl) (g3 _ _ (g2 _ _ e))
  rw[zqK] at hx
  cases hp:es[i]? with
  | none=>rw[hp] at hx;cases hx
  | some rp =>
   rw[hp] at hx
   cases hx
   obtain⟨r,hr',fr,ar⟩:=uQ he hp
   have nrp:rp≠fl:=fun e=>by rw[e,e2] at fr;cases fr
   have rlen:=zM.Pa _ r (zqN hr')
   have ar':=ho _ _ nrp ar
   refine⟨_,rfl,_,rfl,by show 1<=sizeLine;decide,fun zl hzl=>?_⟩
   have a1:=Same.new hzl (.lst [.int 0])
   refine⟨_,rfl,zl,.int 0,zM.zX os.length rs k0,rfl,rfl,zf,by omega,fun ml hml=>?_⟩
   have a2:=Same.new hml (.lst (List.replicate (zM.zX os.length rs k0) (.int 0)))
   refine⟨_,rfl,ml,rp,_,_,rfl,rfl,zT.of zf,zT.of ((a1.trans a2) _ _ ar'),?_,fun nl hnl=>?_⟩
   ·rw[List.length_replicate,zgV];exact zq0 (zQ (by omega))
   have a3:=Same.new hnl (.lst (List.replicate (zM.zX os.length rs k0) (.int 0)++Z0 r))
   have a13:=a1.trans (a2.trans a3)
   have en:List.replicate (zM.zX os.length rs k0) (V.int 0)++Z0 r=Z0 (List.replicate (zM.zX os.length rs k0) false++r):=by
    unfold Z0
    rw[zqW,List.map_replicate]
    rfl
   refine⟨b,nl,os,rs,F,k0,List.replicate (zM.zX os.length rs k0) false++r,rfl,L.same hB (sm.trans a13),hk,zT.of (by rw[<-en];exact zf),by rw[zqQ,List.length_replicate];omega,fun H7 g7=>?_⟩
   have s7:=a13.trans g7
   have sm7:=sm.trans s7
   have ed:decide (V.int ((zM.yes rs k0 (zM.Zk (List.replicate (zM.zX os.length rs k0) false++r))).toNat:Nat)=V.int 1)=zM.yes rs k0 (zM.Zk (List.replicate (zM.zX os.length rs k0) false++r)):=by cases zM.yes rs k0 (zM.Zk (List.replicate (zM.zX os.length rs k0) false++r))<;>decide
   refine⟨rfl,_,rfl,?_⟩
   rw[ed]
   cases hc:zM.yes rs k0 (zM.Zk (List.replicate (zM.zX os.length rs k0) false++r)) with
   | true =>
    refine WR ?_
    refine⟨_,rfl,.inl ⟨rfl,_,zT.of (s7 _ _ hf)⟩,_,rfl,_,rfl,_,rfl,wl,_,rfl,(hw.mono sm7).lst,fun sl hsl=>?_⟩
    have g8:=s7.trans (Same.new hsl (.lst ((qs.drop (zM.zX os.length rs k0)).map V.ref)))
    have ec:WQ (qs.map V.ref) (some ((zM.zX os.length rs k0:Nat):Int)) none=(qs.drop (zM.zX os.length rs k0)).map V.ref:=by
     rw[zgP,List.map_drop]
    rw[ec]
    have e8:upd H7 sl (.lst ((qs.drop (zM.zX os.length rs k0)).map V.ref)) sl=some (.lst ((qs.drop (zM.zX os.length rs k0)).map V.ref)):=zf
    generalize upd H7 sl (.lst ((qs.drop (zM.zX os.length rs k0)).map V.ref))=H8 at g8 e8
    have hw8:=hw.mono (sm.trans g8)
    have hwd:yW K H8 sl (qs.drop (zM.zX os.length rs k0)) (ws.drop (zM.zX os.length rs k0)) (os.length-zM.zX os.length rs k0):=⟨zT.of e8,ze9 _ hw8.at_,by rw[List.length_drop];omega,fun s hs=>hw8.ok s (List.mem_of_mem_drop hs)⟩
    refine⟨_,rfl,rp,sl,r,_,_,_,rfl,zT.of (g8 _ _ ar'),rlen,by omega,hwd,fun H9 g9=>?_⟩
    have s9:=g8.trans g9
    refine⟨fl,_,_,rfl,rfl,s9 _ _ hf,?_,?_⟩
    ·rw[zqI,zqI]
     have:=zrg (fun r=>zM.yes rs k0 (zM.Zk (List.replicate (zM.zX os.length rs k0) false++r))) ((zM.allR (os.length-zM.zX os.length rs k0)).take i)
     rw[zq5] at this
     exact zQ (by omega)
    refine⟨_,fun x o nx e=>by rw[zE nx];exact s9 _ _ (ho x o nx e),?_,rfl⟩
    rw[zf,zZ hr',List.filter_append,zqW,zqW,List.filter_cons,hc]
    rfl
   | false =>
    refine yq ⟨_,fun x o nx e=>s7 _ _ (ho x o nx e),?_,rfl⟩
    rw[s7 _ _ hf,zZ hr',List.filter_append,List.filter_cons,hc]
    show _=some (HO.lst (((_++[]).map _).map _))
    rw[List.append_nil]
 ·rintro σ H' ⟨f5,ho,hf,rfl⟩
  have sm:Same H H':=fun x o e=>ho x o (zB e ffl) (g3 _ _ (g2 _ _ e))
  rw[zqI,el,zra] at hf
  obtain⟨n1,n2⟩:=ziJ (ws:=ws) BK hk lw
  refine⟨_,rfl,fl,_,_,rfl,rfl,zT.of hf,?_⟩
  by_cases h0:rwL os.length rs k0=[]
  ·refine .inl ⟨?_,?_⟩
   ·show((rwL os.length rs k0).map _).map _=_
    rw[h0];rfl
   ·have:=q _ sm
    rw[n1 h0] at this
    exact this
  ·refine .inr (zc9 ((rwL os.length rs k0).map (zM.wg (ws.drop (zM.zX os.length rs k0)))) ?_ fun x hx hm=>?_)
   ·rw[zqI]
    exact List.length_pos_iff.mpr h0
   ·have:=q _ sm
    rw[n2 x hx hm] at this
    exact this
theorem zer (T:Txt P w K mg a)(Yw:zF P w K mg base z7 k a.Ys a.Yt uW (KH a.zx))(uf:zF P w K mg base z7 k a.Za a.Zb vV (Z2 (z9 a.zx))):zF P w K mg base z7 (k+1) a.Wz a.WD YF (zb5 a.zx K):=by
 refine T.Sg.F.ok wW (fun vs H Q E h=>?_) (fun cdv A outer s H vs Q E hr h=>?_)
 ·obtain⟨b,l,d,os,rs,F,j,ps,ws,c,kvs,rfl,_⟩:=h
  rfl
 obtain⟨b,l,d,os,rs,F,j,ps,ws,c,kvs,rfl,hB,hj,hw,hd,hv,q⟩:=h
 refine⟨_,(zj (yp (zK M9 (pv 1) zq (zP _)) (zu (zL (zV zW (yJ (za ZS (za zq zc))) (pv 1) (fun _ _=>rfl)))) zR)
   (zj (zH 4 wW.nd (yJ zc))
   (zj (zH 5 wW.nd (zy Yw hr T.Yu (za (pv 0) (za (pv 1) zc))))
   (zj (uJ PassesOwn.never rfl (RW (wC (za zq (za zq zc)))) (yI (i:=6) wW.nd rfl (Or.inl rfl)) (zj (zH 7 wW.nd (zV wD (yt (pv 0) T.zU T.YG uf hr (za (pv 1) zc)) (zN yM zq (pv 6)) (fun _ _=>rfl)))
   (zu (yp (zK zeC (VR (Wk hr) (pv 3) (pv 7) (fun _ _=>rfl)) ZS (zP _)) (zj (zH 8 wW.nd (zy Yw hr T.Yu (za (pv 0) (za (pv 7) zc))))
   (zj (zH 9 wW.nd (zG (Ji rfl) rfl T.zhh zdU (za (uK (uP:=zA TV) (js:=[]) rfl (by show Yy _ _ "pair" [];exact lco (by decide +kernel)) rfl (yZ (Vd zbD (pv 2) (Y5 (zN yM (pv 5) zq)) (Y5 (pv 8)))) (by show ∀j∈([]:List Nat),j<10;decide) (fun cl C s₂ H₂ fp=>(zG (zbj (K:=K) rfl rfl (hu9 hr)) rfl T.zbp Mq (za (pv 0) zc)))) zc)))
   (zu (yj (wF PySem.F.plainAttrs_list PySem.F.slot_list_append PySem.F.type_list_append wG (pv 4) (za (zN yM (zN yM (zV wD (zV zW (pv 2) (pv 5) (fun _ _=>rfl)) (pv 6) (fun _ _=>rfl)) (pv 9)) (VR (Wk hr) (pv 3) (pv 7) (fun _ _=>rfl))) zc)))))) zR))))
   (zu (zL (Mr (K:=K) rfl rfl (hu9 hr) rfl T.zbp Mq (za (pv 4) zc) ZS))))))),?_⟩
 have L:=yQ a.zx
 have BK:=L.bk hB
 have o8:=(L.ord hB).le
 have lw:=hw.len
 have lp:=yx hw.at_
 refine⟨_,rfl,_,2,rfl,rfl,_,rfl,z8 (fun z=>?_) (fun z=>?_)⟩
 ·have z':j<2:=by have:=of_decide_eq_true z;omega
  refine⟨by show 2<=sizeLine;decide,fun pl hpl=>?_⟩
  have g0:=Same.new hpl (.lst [V.non,V.int 0])
  refine⟨_,rfl,pl,_,_,yR (exL ws os.length rs c j),rfl,rfl,zT.of zf,?_,q _ g0⟩
  rcases (by omega:j=0\/j=1) with e | e<;>subst e
  ·rw[JG BK];rfl
  ·rw[zb4 BK];rfl
 have j2:2<=j:=by
  rcases Nat.lt_or_ge j 2 with y | y
  ·exact absurd (decide_eq_true (by omega)) z
  ·exact y
 obtain⟨i,lo,hi,ex,_⟩:=BK.rm j j2 hj
 obtain⟨jl,jh,l1,l2,_⟩:=zM.KD BK ex hj
 obtain⟨v1,v2⟩:=hv i lo hi ex
 have lj:zM.zX os.length rs j=i:=zM.wR BK ex
 rw[JH ex] at q
 refine⟨by show 0<=sizeLine;decide,fun fl hfl=>?_⟩
 have ffl:=hfl
 have g2:=Same.new hfl (.lst [])
 have e2:upd H fl (.lst []) fl=some (.lst []):=zf
 generalize upd H fl (.lst [])=H2 at g2 e2
 refine⟨_,rfl,_,rfl,b,os,rs,F,j,rfl,L.same hB g2,hj,fun H3 g3=>?_⟩
 rw[lj]
 refine⟨by show 2<=sizeLine;decide,fun tp htp=>?_⟩
 have g4:=g3.trans (Same.new htp (.tup [.int 0,.int 1]))
 have e4:upd H3 tp (.tup [.int 0,.int 1]) tp=some (.tup [.int 0,.int 1]):=zf
 generalize upd H3 tp (.tup [.int 0,.int 1])=H4 at g4 e4
 have f4:=g4 _ _ e2
 have ntf:tp≠fl:=fun e=>by rw[e,f4] at e4;cases e4
 refine⟨tp,rfl,⟨_,xM.of e4⟩,?_⟩
 refine zew (xs:=[.int 0,.int 1]) (fun m σ H'=>∃f6 f7 f8 f9:Option V,(∀x o,x≠fl->H4 x=some o->H' x=some o)/\H' fl=some (.lst ((([zM.Qd ws os.length rs i lo false (c lo),zM.Qd ws os.length rs i hi true (c hi)].take m).flatMap Option.toList).map V.int))/\σ=[some (.ref b),some (.int (j:Nat)),some (.ref l),some (.ref d),some (.ref fl),some (.int (i:Nat)),f6,f7,f8,f9]) ⟨_,_,_,_,fun _ _ _ e=>e,f4,rfl⟩ (fun m σ H' _ ⟨_,_,_,_,ho,_⟩=>xM.of (ho _ _ ntf e4)) ?_ ?_
 ·rintro m x σ H' hx ⟨f6,f7,f8,f9,ho,hf,rfl⟩
  have sm:Same H H':=fun x o e=>ho x o (zB e ffl) (g4 _ _ (g2 _ _ e))
  obtain⟨v,rfl,em⟩:∃v:Bool,x=V.int ((v.toNat:Nat):Int)/\m=v.toNat:=by
   match m,hx with
   | 0,hx=>cases hx;exact⟨false,rfl,rfl⟩
   | 1,hx=>cases hx;exact⟨true,rfl,rfl⟩
  have hat:[zM.Qd ws os.length rs i lo false (c lo),zM.Qd ws os.length rs i hi true (c hi)][m]?=some (zM.Qd ws os.length rs i (if v then hi else lo) v (c ((if v then hi else lo:Nat):Int))):=by
   rw[em];cases v<;>rfl
  have hval:xV kvs (iK ((if v then hi else lo:Nat):Int))=some (yR (c ((if v then hi else lo:Nat):Int))):=by
   cases v
   ·exact v1
   ·exact v2
  have hcl:(if v then hi else lo)<rs.length/\i<zM.zX os.length rs (if v then hi else lo):=by
   cases v
   ·exact⟨jl,l1⟩
   ·exact⟨jh,l2⟩
  have hB':=L.same hB sm
  obtain⟨dx,fs,Sv,hm⟩:=L.ins hB'
  refine⟨_,rfl,b,dx,fs,rfl,Sv,hm _ (by decide +kernel),_,rfl,b,os,rs,F,j,_,rfl,hB',ex,fun v0 H5 g5 rv=>?_⟩
  obtain⟨z',y',rfl,eyy,hp'⟩:=rv
  refine⟨_,rfl,1,_,rfl,rfl,z',_,_,.int ((if v then hi else lo:Nat):Int),rfl,rfl,xM.of hp',by cases v<;>rfl,?_⟩
  have s5:=sm.trans g5
  generalize hc:(if v then hi else lo)=u at hat hval hcl
  have cn:=zM.Tg BK u hcl.1
  have dg:∀{HX:Hp},Same H HX->Vi HX d (V.int (u:Nat)) (some (yR (c (u:Nat)))):=fun {HX} g=>by
   refine .inl ⟨kvs,iK u,?_,rfl,hval.symm⟩
   rcases hd with h | ⟨o,h⟩
   ·exact .inl (g _ _ h)
   ·exact .inr ⟨o,g _ _ h⟩
  refine⟨_,rfl,_,rfl,d,_,rfl,dg s5,rfl,_,rfl,?_⟩
  rw[zka]
  have onx:∀{HX:Hp},Same H' HX->∀x o,x≠fl->H4 x=some o->HX x=some o:=fun g x o nx e=>g _ _ (ho x o nx e)
  cases hcu:c (u:Nat) with
  | none =>
   refine yq ⟨_,_,_,_,onx g5,?_,rfl⟩
   rw[g5 _ _ hf,zZ hat,hcu,List.flatMap_append]
   show _=some (HO.lst (List.map _ (_++[])))
   rw[List.append_nil]
  | some x =>
   refine WR ?_
   refine⟨_,rfl,_,rfl,b,os,rs,F,u,rfl,L.same hB s5,hcl.1,fun H6 g6=>?_⟩
   have s6:=s5.trans g6
   refine⟨_,rfl,_,rfl,_,_,rfl,rfl,_,rfl,_,rfl,_,rfl,l,_,rfl,(hw.mono s6).lst,fun bl hbl=>?_⟩
   have ec:WQ (ps.map V.ref) (some ((i:Int)+1)) (some ((zM.zX os.length rs u:Nat):Int))=((ps.drop (i+1)).take (zM.zX os.length rs u-(i+1))).map V.ref:=by
    have:=ze7 (xs:=ps.map V.ref) (m:=i+1) (n:=zM.zX os.length rs u) (by omega) (by rw[zqI];omega)
    rw[List.map_take,List.map_drop]
    exact this
   rw[ec]
   have g7:=g6.trans (Same.new hbl (.lst (((ps.drop (i+1)).take (zM.zX os.length rs u-(i+1))).map V.ref)))
   have e7:upd H6 bl (.lst (((ps.drop (i+1)).take (zM.zX os.length rs u-(i+1))).map V.ref)) bl=some (.lst (((ps.drop (i+1)).take (zM.zX os.length rs u-(i+1))).map V.ref)):=zf
   generalize upd H6 bl (.lst (((ps.drop (i+1)).take (zM.zX os.length rs u-(i+1))).map V.ref))=H7 at g7 e7
   have s7:=s5.trans g7
   have hw7:=hw.mono s7
   refine⟨bl,rfl,⟨_,zT.of e7⟩,?_⟩
   generalize he:zM.zX os.length rs u-(i+1)=e at e7
   have at':∀{m:Nat} {y:Addr},((ps.drop (i+1)).take e)[m]?=some y->∃sg,((ws.drop (i+1)).take e)[m]?=some sg/\H7 y=some (.tup [.int sg.1,.int sg.2]):=fun {m y} hy=>by
    rw[List.getElem?_take] at hy
    split at hy
    ·rename_i lt
     rw[List.getElem?_drop] at hy
     obtain⟨sg,h1,h2⟩:=uQ hw7.at_ hy
     exact⟨sg,by rw[List.getElem?_take,if_pos lt,List.getElem?_drop];exact h1,h2⟩
    ·cases hy
   have lq:((ps.drop (i+1)).take e).length=e:=by rw[zq5,List.length_drop];omega
   have lv:((ws.drop (i+1)).take e).length=e:=by rw[zq5,List.length_drop];omega
   refine Vl (xs:=((ps.drop (i+1)).take e).map V.ref) (fun m ys H'=>Same H7 H'/\ys=((((ws.drop (i+1)).take e).take m).map zM.lw).map V.int) ⟨Same.refl _,rfl⟩ (by rw[zqI,lq];exact zq0 (zQ (by omega))) ?_ ?_ ?_
   ·rintro m ys H' hm ⟨g,rfl⟩
    exact⟨zT.of (g _ _ e7),by rw[zqI,zqI,zq5];omega⟩
   ·rintro m y ys H' Q0 hy ⟨g,rfl⟩ hQ
    rw[zqK] at hy
    cases hp:((ps.drop (i+1)).take e)[m]? with
    | none=>rw[hp] at hy;cases hy
    | some p =>
     rw[hp] at hy
     cases hy
     obtain⟨sg,h1,h2⟩:=at' hp
     refine⟨_,rfl,p,_,_,rfl,xM.of (g _ _ h2),hQ _ _ ⟨g,?_⟩⟩
     rw[zZ h1,zqW,zqW]
     rfl
   ·rintro ys H8 sl ⟨g8,rfl⟩ hsl
    rw[zqI,lq,List.take_of_length_le (by omega)]
    have gn:=Same.new hsl (.lst ((((ws.drop (i+1)).take e).map zM.lw).map V.int))
    have esum:(((ws.drop (i+1)).take e).map zM.lw).sum=zM.fr ws e (i+1):=zed e (i+1) (by omega)
    refine⟨sl,_,rfl,zT.of zf,?_⟩
    rw[esum]
    have g9:=g5.trans (g7.trans (g8.trans gn))
    generalize upd H8 sl (.lst ((((ws.drop (i+1)).take e).map zM.lw).map V.int))=H9 at g9
    have s9:=sm.trans g9
    have hw9:=hw.mono s9
    obtain⟨pi,hpi⟩:∃y,ps[i]?=some y:=⟨_,zqJ (by omega)⟩
    obtain⟨si,hsi,asi⟩:=uQ hw9.at_ hpi
    have asi:H9 pi=some (.tup [.int si.1,.int si.2]):=asi
    have esi:ws.getD i (0,0)=si:=by rw[zqV,hsi];rfl
    have dg9:Vi H9 d (V.int (u:Nat)) (some (.int x)):=by
     have:=dg s9
     rw[hcu] at this
     exact this
    refine⟨_,rfl,.inl ⟨rfl,_,zT.of (g9 _ _ hf)⟩,_,rfl,_,rfl,l,_,_,_,rfl,rfl,hw9.lst,xG (by rw[zqK,hpi];rfl),_,rfl,pi,_,_,_,rfl,rfl,xM.of asi,xG (j:=v.toNat) (v:=.int (zM.w2 si v)) (by cases v<;>rfl),_,rfl,_,_,rfl,rfl,_,rfl,_,rfl,d,_,rfl,dg9,_,_,rfl,rfl,?_⟩
    refine⟨fl,_,_,rfl,rfl,g9 _ _ hf,?_,?_⟩
    ·rw[zqI]
     refine zQ ?_
     rw[em]
     cases v
     ·show 0<=1000;omega
     ·show(((zM.Qd ws os.length rs i lo false (c lo)).toList++[]).length)<=1000
      cases zM.Qd ws os.length rs i lo false (c lo)<;>simp
    refine⟨_,_,_,_,fun x o nx e=>by rw[zE nx];exact onx g9 x o nx e,?_,rfl⟩
    rw[zf,zZ hat,List.flatMap_append,zqW,hcu]
    show _=some (HO.lst (_++[V.int (zM.w2 (ws.getD i (0,0)) v+zM.fr ws (zM.zX os.length rs u-(i+1)) (i+1)+x)]))
    rw[esi,he]
 ·rintro σ H' ⟨f6,f7,f8,f9,ho,hf,rfl⟩
  have sm:Same H H':=fun x o e=>ho x o (zB e ffl) (g4 _ _ (g2 _ _ e))
  have hf:H' fl=some (.lst (((zM.Qd ws os.length rs i lo false (c lo)).toList++(zM.Qd ws os.length rs i hi true (c hi)).toList).map V.int)):=by
   rw[hf]
   show some (HO.lst (List.map _ (_++(_++[]))))=_
   rw[List.append_nil]
  have y:=q _ sm
  generalize zM.Qd ws os.length rs i lo false (c lo)=o1 at hf y
  generalize zM.Qd ws os.length rs i hi true (c hi)=o2 at hf y
  refine⟨_,rfl,fl,_,_,rfl,rfl,zT.of hf,?_⟩
  by_cases h0:o1.toList++o2.toList=[]
  ·refine .inl ⟨by rw[h0];rfl,?_⟩
   cases o1 with
   | some _=>cases h0
   | none =>
    cases o2 with
    | some _=>cases h0
    | none=>exact y
  ·refine .inr (zc9 _ (List.length_pos_iff.mpr h0) fun x hx hm=>?_)
   rw[ziI hx hm] at y
   exact y
theorem zcn (T:Txt P w K mg a)(Us:zF P w K mg base z7 k a.Xk a.Xl Zt (Ph a.zx)):zF P w K mg base z7 (k+1) a.uN a.uO wA (Qe a.zx):=by
 refine T.Y4.F.ok Tz (fun vs H Q E h=>?_) (fun cdv A outer s H vs Q E hr h=>?_)
 ·obtain⟨b,l,os,rs,F,k0,ts,ps,rfl,_⟩:=h
  rfl
 obtain⟨b,l,os,rs,F,k0,ts,ps,rfl,hB,hk,hfew,⟨hl,hp⟩,p9,q⟩:=h
 refine⟨_,(zu (zL (ug (zd0 rfl (hu8 hr)) (uK (uP:=zA uM) (js:=[]) rfl (by show Yy _ _ "entry" [];exact lco (by decide +kernel)) rfl (yZ (pv 2)) (by show ∀j∈([]:List Nat),j<3;decide) (fun cl C s₂ H₂ fp=>(zV (QW (K:=K) rfl) (pv 0) zq (fun _ _=>rfl)))) (yt (pv 0) T.zU T.Uq Us hr (za (pv 1) zc)) (zP _)))),?_⟩
 have L:=yQ a.zx
 refine⟨_,rfl,l,rfl,⟨_,zT.of hl⟩,?_⟩
 have BK:=L.bk hB
 have o8:=(L.ord hB).le
 have p8:2^os.length<=256:=zq3 (zrd (n:=2) (by decide) o8) (by decide)
 have el:=yx hp
 refine Kp (xs:=ts.map V.ref) (fun m ys H2=>H2=H/\ys=((ps.take m).map (·.1)).map V.int) ⟨rfl,rfl⟩ (by rw[zqI];exact zq0 (zQ (by omega))) ?_ ?_ (fun _ _ _ _ h q=>h _ _ q) ?_ ?_
 ·rintro m ys H2 hm ⟨rfl,rfl⟩
  exact⟨zT.of hl,by rw[zqI,zqI,zq5];omega⟩
 ·rintro m x ys H2 hx ⟨rfl,rfl⟩
  rw[zqK] at hx
  cases hpt:ts[m]? with
  | none=>rw[hpt] at hx;cases hx
  | some t =>
   rw[hpt] at hx
   cases hx
   obtain⟨y,hy,ht⟩:=uQ hp hpt
   refine zfH (WR ?_)
   refine⟨_,rfl,t,_,0,_,rfl,rfl,xM.of ht,rfl,rfl,?_⟩
   rw[zZ hy,zqW,zqW]
   rfl
 ·rintro σ' H2 Q1 Q2 hQ ⟨v1,e1,a1,a2,a3,a4,a5,a6,a7,a8,q'⟩
  exact⟨v1,e1,a1,a2,a3,a4,a5,a6,a7,a8,hQ _ _ q'⟩
 rintro ys H2 p ⟨rfl,rfl⟩ hpn
 rw[zqI,el,zra]
 have g1:=Same.new hpn (.lst ((ps.map (·.1)).map V.int))
 have hB1:=L.same hB g1
 obtain⟨dx1,fs1,zhm,hm1⟩:=L.ins hB1
 refine⟨_,rfl,b,dx1,fs1,rfl,zhm,hm1 _ (by decide +kernel),_,rfl,b,os,rs,F,k0,rfl,hB1,hk,hfew,fun bl H3 ms2 g3 fbl hbl zki=>?_⟩
 refine⟨_,fun y=>absurd y.1 zqM,zbh (zT.of (g3 _ _ zf)) (zT.of hbl),q _ ms2 (g1.trans g3) zki⟩
theorem zac (T:Txt P w K mg a)(yG:zF P w K mg base z7 k a.yE a.yF yr (tO a.zx))(ZM:zF P w K mg base z7 k a.vO a.vP xY (Yg a.zx K))(Ru:zF P w K mg base z7 k a.uN a.uO wA (Qe a.zx))(M8:zF P w K mg base z7 k a.Rb a.Rf Vn (S9 a.zx K)):zF P w K mg base z7 (k+1) a.V7 a.V8 Xc (Pj a.zx K):=by
 refine T.Uk.F.ok Rx (fun vs H Q E h=>?_) (fun cdv A outer s H vs Q E hr h=>?_)
 ·obtain⟨b,wl,l,os,rs,F,k0,qs,ws,ts,ps,rfl,_⟩:=h
  rfl
 obtain⟨b,wl,l,os,rs,F,k0,qs,ws,ts,ps,rfl,hB,hk,hfew,hw,hT,p9,q⟩:=h
 refine⟨_,(zj (yj (yt (pv 0) T.zU T.xu yG hr (za (pv 1) zc)))
   (zj (yj (zy ZM hr T.ZJ (za (pv 0) (za (pv 2) zc))))
   (zj (yp (Xy (vQ (zy Ru hr T.Y4 (za (pv 0) (za (pv 1) (za (pv 3) zc)))) (fun _=>rfl))) (zu (zL Yx)) zR)
   (zj (U0 (i:=4) Rx.nd rfl (Or.inr rfl) (uh (Uu rfl) rfl T.zhg ze0 (za (pv 3) zc)))
   (zu (zL (zG (Zf rfl) rfl T.Nj VH (za (zgO (uP:=zA Xb) (js:=[0,2,4]) rfl (by show zgN (zA Xb) _ "number" "load" ["book", "weights", "known"];exact⟨⟨rfl,by decide +kernel,by decide +kernel,by decide +kernel,by decide +kernel⟩,by decide +kernel,by decide +kernel,by decide +kernel⟩) rfl (yZ (pv 3)) (by show ∀j∈([0,2,4]:List Nat),j<5;decide) (fun cl C s₂ H₂ fp=>(ug xP (pv 1) (zy M8 hr T.MK (za (pv 2) (za (pv 0) (za (pv 3) (za (pv 4) zc))))) (zP _)))) zc)))))))),?_⟩
 have L:=yQ a.zx
 obtain⟨dx,ml,rl,tl,nd0,rv,tbs,zhk,h⟩:=id hB
 refine⟨_,rfl,b,dx,_,rfl,h.hb,rfl,_,rfl,b,os,rs,F,k0,rfl,hB,hk,?_⟩
 refine⟨_,rfl,_,rfl,b,wl,os,rs,F,qs,ws,rfl,hB,hw,fun H0 g0=>?_⟩
 refine⟨_,rfl,_,rfl,_,rfl,b,l,os,rs,F,k0,ts,ps,rfl,L.same hB g0,hk,hfew,hT.mono g0,p9,fun H1 ms g01 ZQ=>?_⟩
 have g1:=g0.trans g01
 refine⟨_,rfl,z8 (fun c=>?_) (fun c=>?_)⟩
 ·have ne:ps.map (·.1)≠ms:=fun e=>by rw[decide_eq_true e] at c;cases c
  have:=q _ ms g1 ZQ
  unfold JK at this
  rw[decide_eq_false ne,Bool.false_and] at this
  exact this
 have eq:ps.map (·.1)=ms:=by
  rcases Classical.em (ps.map (·.1)=ms) with z | z
  ·exact z
  ·exact absurd (by rw[decide_eq_false z];rfl) c
 subst eq
 have BK:=L.bk hB
 have nd:=JB ZQ.up
 have el:=yx hT.2
 have nat:∀x:Int,x∈ps.map (·.1)->∃j:Nat,x=(j:Int)/\zM.Reach rs k0 j:=fun x hx=>(ZQ.mem x).mp hx
 obtain⟨hl1,hp1⟩:=hT.mono g1
 refine⟨_,rfl,l,ts,ps.map fun p=>(iK p.1,yR p.2),rfl,hl1,?_,fun d hd=>?_⟩
 ·refine Mt (by rw[zqI];exact el) fun j x y h1 h2=>?_
  obtain⟨p,h3,h4⟩:=uQ hp1 h1
  rw[zqK,h3] at h2
  cases h2
  exact h4
 have mk:uL [] (ps.map fun p=>(iK p.1,yR p.2))=(ps.map (·.1)).map (Rq fun m=>yR (vK ps m)):=by
  have e:(ps.map fun p=>(iK p.1,yR p.2))=(ps.map (·.1)).map (Rq fun m=>yR (vK ps m)):=by
   rw[zrj]
   exact List.map_congr_left fun p hp=>by show(iK p.1,yR p.2)=(iK p.1,yR (vK ps p.1));rw[Tw nd p hp]
  rw[e]
  exact Mv _ [] nd
 rw[mk]
 have g2:=Same.new hd (.dK ((ps.map (·.1)).map (Rq fun m=>yR (vK ps m))))
 have hd2:upd H1 d (.dK ((ps.map (·.1)).map (Rq fun m=>yR (vK ps m)))) d=some (.dK ((ps.map (·.1)).map (Rq fun m=>yR (vK ps m)))):=zf
 obtain⟨hl2,hp2⟩:=(hT.mono g1).mono g2
 have hB2:=L.same hB (g1.trans g2)
 have G:=g1.trans g2
 generalize upd H1 d (.dK ((ps.map (·.1)).map (Rq fun m=>yR (vK ps m))))=H2 at g2 hd2 hp2 hl2 hB2 G
 have hin:∀g:Nat,zM.Reach rs k0 g->xV ((ps.map (·.1)).map (Rq fun m=>yR (vK ps m))) (iK g)=some (yR (vK ps g)):=fun g rg=>Tr (c:=fun m=>yR (vK ps m)) ((ZQ.mem _).mpr ⟨g,rfl,rg⟩)
 refine⟨_,rfl,l,rfl,⟨_,zT.of hl2⟩,?_⟩
 refine zbg (xs:=ts.map V.ref) (fun m ys H3=>Same H2 H3/\ys=((ps.take m).map fun p=>decide (p.2=exL ws os.length rs (vK ps) p.1.toNat)).map V.bl) ⟨Same.refl _,rfl⟩ (by rw[zqI];exact zq0 (zQ (by omega))) ?_ ?_ (fun _ _ _ _ h q=>h _ _ q) ?_ ?_
 ·rintro m ys H3 hm ⟨gg,rfl⟩
  exact⟨zT.of (gg _ _ hl2),by rw[zqI,zqI,zq5];omega⟩
 ·rintro m x ys H3 hx ⟨gg,rfl⟩
  rw[zqK] at hx
  cases hpt:ts[m]? with
  | none=>rw[hpt] at hx;cases hx
  | some t =>
   rw[hpt] at hx
   cases hx
   obtain⟨⟨y,z⟩,hy,ht⟩:=uQ hp2 hpt
   obtain⟨j,ej,rj⟩:=nat y (List.mem_map.mpr ⟨_,zqN hy,rfl⟩)
   subst ej
   refine⟨t,_,_,rfl,xM.of (gg _ _ ht),?_⟩
   refine zfH (WR ?_)
   refine⟨_,rfl,_,rfl,_,rfl,_,rfl,_,rfl,b,wl,d,os,rs,F,j,qs,ws,vK ps,_,rfl,L.same hB2 gg,rj.lt BK hk,hw.mono (G.trans gg),gg _ _ hd2,(fun i lo hi ex=>⟨hin lo (rj.step ex).1,hin hi (rj.step ex).2⟩),fun H4 g4=>?_⟩
   refine⟨zfa _ _,gg.trans g4,?_⟩
   rw[zZ hy,zqW,zqW]
   refine congrArg (fun b=>_++[V.bl b]) ?_
   exact zg7 _ _
 ·rintro σ' H5 Q1 Q2 hQ ⟨v1,e1,v2,e2,v3,e3,v4,e4,v5,e5,b',l',d',os',rs',F',j',ps',ws',c',kvs',y1,y2,y3,y4,y5,y6,q'⟩
  exact⟨v1,e1,v2,e2,v3,e3,v4,e4,v5,e5,b',l',d',os',rs',F',j',ps',ws',c',kvs',y1,y2,y3,y4,y5,y6,fun H6 g6=>let ⟨z1,z2⟩:=q' H6 g6;⟨z1,hQ _ _ z2⟩⟩
 rintro ys H3 p ⟨gg,rfl⟩ hpn
 refine⟨p,_,rfl,zT.of zf,?_⟩
 rw[zqI,el,zra]
 have:=q _ _ (G.trans (gg.trans (Same.new hpn (.lst ((ps.map fun p=>decide (p.2=exL ws os.length rs (vK ps) p.1.toNat)).map V.bl))))) ZQ
 unfold JK at this
 rw[decide_eq_true rfl,Bool.true_and] at this
 rw[List.all_map]
 exact this
theorem zco (T:Txt P w K mg a)(vI:zF P w K mg base z7 k a.uX a.uY vD (Tt a.zx))(Sw:zF P w K mg base z7 k a.Wz a.WD YF (zb5 a.zx K)):zF P w K mg base z7 (k+1) a.Ui a.Uj Xj (Pj a.zx K):=by
 refine T.Nh.F.ok RK (fun vs H Q E h=>?_) (fun cdv A outer s H vs Q E hr h=>?_)
 ·obtain⟨b,wl,l,os,rs,F,k0,qs,ws,ts,ps,rfl,_⟩:=h
  rfl
 obtain⟨b,wl,l,os,rs,F,k0,qs,ws,ts,ps,rfl,hB,hk,hfew,hw,hT,p9,q⟩:=h
 refine⟨_,(zj (yp (zK (Js rfl (hu8 hr)) (uK (uP:=zA Xi) (js:=[]) rfl (by show Yy _ _ "entry" [];exact lco (by decide +kernel)) rfl (yZ (pv 3)) (by show ∀j∈([]:List Nat),j<5;decide) (fun cl C s₂ H₂ fp=>(zV (QW (K:=K) rfl) (pv 0) zq (fun _ _=>rfl)))) (zy vI hr T.uZ (za (pv 0) (za (pv 1) zc))) (zP _)) (zu (zL Yx)) zR)
   (zj (U0 (i:=4) RK.nd rfl (Or.inr rfl) (uh (Uu rfl) rfl T.zhg ze0 (za (pv 3) zc)))
   (zu (zL (zG (Zf rfl) rfl T.Nj VH (za (uK (uP:=zA Xi) (js:=[4,0,2]) rfl (by show Yy _ _ "number" ["known", "book", "weights"];exact lco (by decide +kernel)) rfl (ze2 (pv 4)) (by show ∀j∈([4,0,2]:List Nat),j<5;decide) (fun cl C s₂ H₂ fp=>(ug xP (VR (Wk hr) (pv 1) (pv 0) (fun _ _=>rfl)) (zy Sw hr T.Sg (za (pv 2) (za (pv 0) (za (pv 3) (za (pv 1) zc))))) (zP _)))) zc)))))),?_⟩
 have L:=yQ a.zx
 have BK:=L.bk hB
 have el:=yx hT.2
 refine⟨_,rfl,l,rfl,⟨_,zT.of hT.1⟩,?_⟩
 refine Kp (xs:=ts.map V.ref) (fun m ys H2=>H2=H/\ys=((ps.take m).map (·.1)).map V.int) ⟨rfl,rfl⟩ (by rw[zqI];exact zq0 (zQ (by omega))) ?_ ?_ (fun _ _ _ _ h q=>h _ _ q) ?_ ?_
 ·rintro m ys H2 hm ⟨rfl,rfl⟩
  exact⟨zT.of hT.1,by rw[zqI,zqI,zq5];omega⟩
 ·rintro m x ys H2 hx ⟨rfl,rfl⟩
  rw[zqK] at hx
  cases hpt:ts[m]? with
  | none=>rw[hpt] at hx;cases hx
  | some t =>
   rw[hpt] at hx
   cases hx
   obtain⟨y,hy,ht⟩:=uQ hT.2 hpt
   refine zfH (WR ?_)
   refine⟨_,rfl,t,_,0,_,rfl,rfl,xM.of ht,rfl,rfl,?_⟩
   rw[zZ hy,zqW,zqW]
   rfl
 ·rintro σ' H2 Q1 Q2 hQ ⟨v1,e1,a1,a2,a3,a4,a5,a6,a7,a8,q'⟩
  exact⟨v1,e1,a1,a2,a3,a4,a5,a6,a7,a8,hQ _ _ q'⟩
 rintro ys H2 p ⟨rfl,rfl⟩ hpn
 rw[zqI,el,zra]
 have g1:=Same.new hpn (.lst ((ps.map (·.1)).map V.int))
 refine⟨_,rfl,_,rfl,b,os,rs,F,k0,rfl,L.same hB g1,hk,hfew,fun bl H3 ms g3 fbl hbl ZQ=>?_⟩
 have g13:=g1.trans g3
 refine⟨_,fun y=>absurd y.1 zqM,zbh (n:=7) (zT.of (g3 _ _ zf)) (zT.of hbl),_,rfl,z8 (fun c=>?_) (fun c=>?_)⟩
 ·have ne:ps.map (·.1)≠ms:=fun e=>by rw[decide_eq_true e] at c;cases c
  have:=q _ ms g13 ZQ
  unfold JK at this
  rw[decide_eq_false ne,Bool.false_and] at this
  exact this
 have eq:ps.map (·.1)=ms:=by
  rcases Classical.em (ps.map (·.1)=ms) with z | z
  ·exact z
  ·exact absurd (by rw[decide_eq_false z];rfl) c
 subst eq
 have nd:=JB ZQ.up
 have nat:∀x:Int,x∈ps.map (·.1)->∃j:Nat,x=(j:Int)/\zM.Reach rs k0 j:=fun x hx=>(ZQ.mem x).mp hx
 obtain⟨hl1,hp1⟩:=hT.mono g13
 refine⟨_,rfl,l,ts,ps.map fun p=>(iK p.1,yR p.2),rfl,hl1,?_,fun d hd=>?_⟩
 ·refine Mt (by rw[zqI];exact el) fun j x y h1 h2=>?_
  obtain⟨p,h3,h4⟩:=uQ hp1 h1
  rw[zqK,h3] at h2
  cases h2
  exact h4
 have mk:uL [] (ps.map fun p=>(iK p.1,yR p.2))=(ps.map (·.1)).map (Rq fun m=>yR (vK ps m)):=by
  have e:(ps.map fun p=>(iK p.1,yR p.2))=(ps.map (·.1)).map (Rq fun m=>yR (vK ps m)):=by
   rw[zrj]
   exact List.map_congr_left fun p hp=>by show(iK p.1,yR p.2)=(iK p.1,yR (vK ps p.1));rw[Tw nd p hp]
  rw[e]
  exact Mv _ [] nd
 rw[mk]
 have g2:=Same.new hd (.dK ((ps.map (·.1)).map (Rq fun m=>yR (vK ps m))))
 have hd2:upd H3 d (.dK ((ps.map (·.1)).map (Rq fun m=>yR (vK ps m)))) d=some (.dK ((ps.map (·.1)).map (Rq fun m=>yR (vK ps m)))):=zf
 obtain⟨hl2,hp2⟩:=(hT.mono g13).mono g2
 have G:=g13.trans g2
 have hB2:=L.same hB G
 generalize upd H3 d (.dK ((ps.map (·.1)).map (Rq fun m=>yR (vK ps m))))=H4 at g2 hd2 hp2 hl2 hB2 G
 have hin:∀g:Nat,zM.Reach rs k0 g->xV ((ps.map (·.1)).map (Rq fun m=>yR (vK ps m))) (iK g)=some (yR (vK ps g)):=fun g rg=>Tr (c:=fun m=>yR (vK ps m)) ((ZQ.mem _).mpr ⟨g,rfl,rg⟩)
 refine⟨_,rfl,d,_,rfl,hd2,fun o'=>?_⟩
 have g5:=G.over (g13.free hd) (.Qw o' (.dK ((ps.map (·.1)).map (Rq fun m=>yR (vK ps m)))))
 have hf:upd H4 d (.Qw o' (.dK ((ps.map (·.1)).map (Rq fun m=>yR (vK ps m))))) d=some (.Qw o' (.dK ((ps.map (·.1)).map (Rq fun m=>yR (vK ps m))))):=zf
 generalize upd H4 d (.Qw o' (.dK ((ps.map (·.1)).map (Rq fun m=>yR (vK ps m)))))=H5 at g5 hf
 refine ze3 (fun m ys H6=>Same H5 H6/\ys=((ps.take m).map fun p=>decide (p.2=exL ws os.length rs (vK ps) p.1.toNat)).map V.bl) ⟨Same.refl _,rfl⟩ (by rw[zqI,zqI];exact zq0 (zQ (by omega))) ?_ ?_ ?_ ?_
 ·rintro m ys H6 hm ⟨gg,rfl⟩
  rw[zqI,zqI] at hm
  exact⟨gg _ _ hf,by rw[zqI,zqI,zq5];omega⟩
 ·rintro m p ys H6 hx ⟨gg,rfl⟩
  rw[zqK,zqK] at hx
  cases hy:ps[m]? with
  | none=>rw[hy] at hx;cases hx
  | some y =>
   rw[hy] at hx
   cases hx
   obtain⟨y,z⟩:=y
   have hmem:=zqN hy
   obtain⟨j,ej,rj⟩:=nat y (List.mem_map.mpr ⟨_,hmem,rfl⟩)
   subst ej
   have rd:Rd H6 d (.dK ((ps.map (·.1)).map (Rq fun m=>yR (vK ps m)))):=.inr ⟨o',gg _ _ hf⟩
   have ez:vK ps (j:Int)=z:=Tw nd _ hmem
   have dg:Vi H6 d (V.int (j:Nat)) (some (yR z)):=by
    have:Vi H6 d (V.int (j:Nat)) (some (yR (vK ps (j:Int)))):=.inl ⟨_,iK j,rd,rfl,(hin j rj).symm⟩
    rw[ez] at this
    exact this
   refine⟨_,rfl,_,rfl,d,_,rfl,dg,?_⟩
   have gz:=g5.trans gg
   refine⟨_,rfl,_,rfl,_,rfl,_,rfl,b,wl,d,os,rs,F,j,qs,ws,vK ps,_,rfl,L.same hB gz,rj.lt BK hk,hw.mono gz,rd,(fun i lo hi ex=>⟨hin lo (rj.step ex).1,hin hi (rj.step ex).2⟩),fun H7 g7=>?_⟩
   refine⟨zfa _ _,gg.trans g7,?_⟩
   rw[zZ hy,zqW,zqW]
   refine congrArg (fun b=>_++[V.bl b]) ?_
   exact zg7 _ _
 ·rintro σ' H6 Q1 Q2 hQ ⟨v0,e0,v1,e1,d0,r0,e2,e3,v3,e4,v5,e5,v6,e6,v7,e7,b',l',d',os',rs',F',j',ps',ws',c',kvs',y1,y2,y3,y4,y5,y6,q'⟩
  exact⟨v0,e0,v1,e1,d0,r0,e2,e3,v3,e4,v5,e5,v6,e6,v7,e7,b',l',d',os',rs',F',j',ps',ws',c',kvs',y1,y2,y3,y4,y5,y6,fun H8 g8=>let ⟨z1,z2⟩:=q' H8 g8;⟨z1,hQ _ _ z2⟩⟩
 rintro ys H6 p ⟨gg,rfl⟩ hpn
 refine⟨p,_,rfl,zT.of zf,?_⟩
 rw[zqI,zqI,zra]
 have:=q _ _ (g5.trans (gg.trans (Same.new hpn (.lst ((ps.map fun p=>decide (p.2=exL ws os.length rs (vK ps) p.1.toNat)).map V.bl))))) ZQ
 unfold JK at this
 rw[decide_eq_true rfl,Bool.true_and] at this
 rw[List.all_map]
 exact this
theorem zad (T:Txt P w K mg a)(vI:zF P w K mg base z7 k a.uX a.uY vD (Tt a.zx))(Sw:zF P w K mg base z7 k a.Wz a.WD YF (zb5 a.zx K)):zF P w K mg base z7 (k+1) a.Wa a.Wb Zv (Mz a.zx K):=by
 refine T.Sh.F.ok YM (fun vs H Q E h=>?_) (fun cdv A outer s H vs Q E hr h=>?_)
 ·obtain⟨b,wl,os,rs,F,k0,qs,ws,z,o,rfl,_⟩:=h
  rfl
 obtain⟨b,wl,os,rs,F,k0,qs,ws,z,o,rfl,hB,hk,hfew,hw,q⟩:=h
 refine⟨_,(zj (U0 (i:=5) YM.nd rfl (Or.inr rfl) Jp)
   (zj (uJ PassesOwn.never rfl (yZ (zy vI hr T.uZ (za (pv 0) (za (pv 1) zc)))) (yI (i:=6) YM.nd rfl (Or.inl rfl)) (zj (Q8 (Wk hr) (pv 5) (pv 6) (zV zW (yJ (za (pv 3) (za (pv 4) zc))) (zG (zfo rfl) rfl T.zbp Mq (za (pv 6) (za zq zc))) (fun _ _=>rfl)) rfl)
   (zu (yp (zK Vc (pv 6) zq (zP _)) (zu (Q8 (Wk hr) (pv 5) (pv 6) (zy Sw hr T.Sg (za (pv 0) (za (pv 6) (za (pv 2) (za (pv 5) zc))))) rfl)) zR))))
   (zu (zL (uK (uP:=zA X4) (js:=[5]) rfl (by show Yy _ _ "number" ["known"];exact lco (by decide +kernel)) rfl (ze2 (pv 5)) (by show ∀j∈([5]:List Nat),j<7;decide) (fun cl C s₂ H₂ fp=>(wC (za (pv 0) (za (VR (Wk hr) (pv 1) (pv 0) (fun _ _=>rfl)) zc))))))))),?_⟩
 have L:=yQ a.zx
 have BK:=L.bk hB
 refine fun d hd=>?_
 have g0:=Same.new hd (.dK [])
 refine⟨_,rfl,_,rfl,b,os,rs,F,k0,rfl,L.same hB g0,hk,hfew,fun bl H1 ms g1 fbl hbl ZQ=>?_⟩
 have lms:=ZQ.len BK hk
 have o8:=(L.ord hB).le
 have p8:2^os.length<=256:=zq3 (zrd (n:=2) (by decide) o8) (by decide)
 have g01:=g0.trans g1
 have hd1:=g1 _ _ (show upd H d (.dK []) d=some (.dK []) from zf)
 have hdn:d≠bl:=zB zf fbl
 have nat:∀x∈ms,∃j:Nat,x=j/\zM.Reach rs k0 j:=fun x hx=>(ZQ.mem x).mp hx
 refine⟨bl,rfl,⟨_,zT.of hbl⟩,?_⟩
 refine XC (xs:=ms.map V.int) (fun i σ H'=>∃(c:Int->Option Int) (f6:Option V),Same H H'/\H' bl=some (.lst (ms.map V.int))/\H' d=some (.dK (kvO c (ms.take i)))/\σ=[some (.ref b),some (.int (k0:Nat)),some (.ref wl),some (yR z),some (yR o),some (.ref d),f6]) ⟨fun _=>none,_,g01,hbl,hd1,rfl⟩ (fun i σ H' _ ⟨_,_,g,hb',_⟩=>zT.of hb') ?_ ?_
 ·rintro i x σ H' hx ⟨c,f6,g,hb',hd',rfl⟩
  rw[zqK] at hx
  cases hm':ms[i]? with
  | none=>rw[hm'] at hx;cases hx
  | some m =>
   rw[hm'] at hx
   cases hx
   obtain⟨j,rfl,rj⟩:=nat m (zqN hm')
   have hj:=rj.lt BK hk
   have ev:Je [yR z,yR o] (if (1:Int)<(j:Int) then 1 else (j:Int))=some (yR (if j=0 then z else o)):=by
    rcases (by omega:j=0\/j=1\/2<=j) with e | e | e
    ·subst e;rfl
    ·subst e;rfl
    ·rw[if_pos (by omega),if_neg (by omega)];rfl
   refine⟨_,rfl,_,rfl,by show 2<=sizeLine;decide,fun p2 hp2=>?_⟩
   refine⟨_,rfl,_,_,rfl,p2,_,_,_,rfl,rfl,zT.of zf,ev,?_⟩
   have gp:=Same.new hp2 (.lst [yR z,yR o])
   refine⟨_,rfl,_,rfl,d,_,rfl,zbS.k (k:=iK (j:Int)) (gp _ _ hd') ?_,?_⟩
   ·unfold kvO;rw[zqI,zq5];exact zQ (by omega)
   rw[ziG (zg1 ZQ hm'),<-zZ hm']
   generalize (if j=0 then z else o)=v0
   have gd:=(g.trans gp).over hd (.dK (kvO (YH c j v0) (ms.take (i+1))))
   have hbd:upd (upd H' p2 (.lst [yR z,yR o])) d (.dK (kvO (YH c j v0) (ms.take (i+1)))) bl=some (.lst (ms.map V.int)):=by rw[zE (Ne.symm hdn)];exact gp _ _ hb'
   have hdd:upd (upd H' p2 (.lst [yR z,yR o])) d (.dK (kvO (YH c j v0) (ms.take (i+1)))) d=some (.dK (kvO (YH c j v0) (ms.take (i+1)))):=zf
   generalize upd (upd H' p2 (.lst [yR z,yR o])) d (.dK (kvO (YH c j v0) (ms.take (i+1))))=H2 at gd hbd hdd
   refine⟨_,rfl,_,_,rfl,rfl,_,rfl,z8 (fun c2=>?_) (fun c2=>?_)⟩
   ·have j2:2<=j:=by have:=of_decide_eq_true c2;omega
    refine⟨_,rfl,_,rfl,_,rfl,_,rfl,b,wl,d,os,rs,F,j,qs,ws,YH c j v0,_,rfl,L.same hB gd,hj,hw.mono gd,.inl hdd,(fun i' lo hi ex=>?_),fun H8 g8=>?_⟩
    ·obtain⟨i2,lo2,hi2,e2,_,hlo,hhi,_⟩:=BK.rm j j2 hj
     rw[ex] at e2
     cases e2
     have rr:=rj.step ex
     rw[zZ hm']
     exact⟨zb7 (List.mem_append_left _ (zbi ZQ hm' hlo rr.1)),zb7 (List.mem_append_left _ (zbi ZQ hm' hhi rr.2))⟩
    refine⟨_,rfl,_,rfl,d,_,rfl,zbS.k (k:=iK (j:Int)) (g8 _ _ hdd) ?_,?_⟩
    ·unfold kvO;rw[zqI,zq5];exact zQ (by omega)
    rw[ziH (by rw[zZ hm'];exact zqZ _ (List.mem_singleton.mpr rfl))]
    exact⟨_,_,(gd.trans g8).over hd _,by rw[zE (Ne.symm hdn)];exact g8 _ _ hbd,zf,rfl⟩
   ·exact⟨_,_,gd,hbd,hdd,rfl⟩
 ·rintro σ H' ⟨c,f6,g,hb',hd',rfl⟩
  rw[zqI,zra] at hd'
  refine⟨_,rfl,d,_,rfl,hd',fun o'=>?_⟩
  have gf:=g.over hd (.Qw o' (.dK (kvO c ms)))
  have hf:upd H' d (.Qw o' (.dK (kvO c ms))) d=some (.Qw o' (.dK (kvO c ms))):=zf
  generalize upd H' d (.Qw o' (.dK (kvO c ms)))=HF at gf hf
  have lk:(kvO c ms).length=ms.length:=by unfold kvO;rw[zqI]
  refine ze3 (fun m ys H2=>Same HF H2/\∃ts:List Addr,ys=ts.map V.ref/\Paired (fun t (p:Int×Option Int)=>H2 t=some (.tup [.int p.1,yR p.2])) ts ((ms.take m).map fun x=>(x,c x))) ⟨Same.refl _,[],rfl,.nil⟩ (by rw[lk];exact zq0 (zQ (by omega))) ?_ ?_ ?_ ?_
  ·rintro m ys H2 hm ⟨g2,ts,rfl,pt⟩
   have:=yx pt
   rw[zqI,zq5] at this
   exact⟨g2 _ _ hf,by rw[zqI];omega⟩
  ·rintro m p ys H2 hx ⟨g2,ts,rfl,pt⟩
   unfold kvO at hx
   rw[zqK] at hx
   cases hm':ms[m]? with
   | none=>rw[hm'] at hx;cases hx
   | some y =>
    rw[hm'] at hx
    cases hx
    have dg:Vi H2 d (V.int y) (some (yR (c y))):=.inl ⟨_,iK y,.inr ⟨o',g2 _ _ hf⟩,rfl,(zb7 (zqN hm')).symm⟩
    refine⟨_,rfl,_,rfl,_,rfl,d,_,rfl,dg,by show 2<=sizeLine;decide,fun t ht=>?_⟩
    have gt:=Same.new ht (.tup [V.int y,yR (c y)])
    refine⟨g2.trans gt,ts++[t],by rw[zqW];rfl,?_⟩
    rw[zZ hm',zqW]
    exact YJ (yP (fun _ _ h=>gt _ _ h) pt) (.cons zf .nil)
  ·rintro σ' H2 Q1 Q2 hQ ⟨v1,e1,v2,e2,v3,e3,d',r,e4,e5,s1,q'⟩
   exact⟨v1,e1,v2,e2,v3,e3,d',r,e4,e5,s1,fun p hp=>hQ _ _ (q' p hp)⟩
  rintro ys H2 p ⟨g2,ts,rfl,pt⟩ hpn
  rw[lk,zra] at pt
  have gn:=Same.new hpn (.lst (ts.map V.ref))
  refine q p ts _ _ ((gf.trans g2).trans gn) ((gf.trans g2).free hpn) ⟨zf,yP (fun _ _ h=>gn _ _ h) pt⟩ (by rw[zqI];omega)
theorem zcp (T:Txt P w K mg a)(yd:zF P w K mg base z7 k a.vd a.vf wk R6):zF P w K mg base z7 (k+1) a.Ug a.Uh Xh (zb6):=by
 refine T.Ng.F.ok vG (fun vs H Q E h=>?_) (fun cdv A outer s H vs Q E hr h=>?_)
 ·obtain⟨l,c,sz,ts,ps,n,H0,rfl,_⟩:=h
  rfl
 obtain⟨l,c,sz,ts,ps,n,H0,rfl,g0,fl,⟨hl,hp⟩,hn,n9,q⟩:=h
 refine⟨_,(zj (zH 3 vG.nd (zy yd hr T.yw (za (pv 1) (za zq (za zq zc)))))
   (zj (zH 4 vG.nd (zN wu (zy yd hr T.yw (za (pv 1) (za zq (za zq zc)))) (zG (zfn rfl) rfl T.zlB zj3 (za zq (za (zG zJ rfl T.yX yC (za (pv 0) zc)) zc)))))
   (zj (yp (PW.pt (K5 (zK M9 (pv 3) zq (zP _)) (Qy (zK Vc (zG zJ rfl T.yX yC (za (pv 0) zc)) zq (zP _))))) (zj (zbw (zV zW (pv 0) (pv 4) (fun _ _=>rfl)) (zdy rfl (Xz (yI (i:=6) vG.nd rfl (Or.inl rfl)) (Xz (yI (i:=7) vG.nd rfl (Or.inl rfl)) zbv))))
   (zj (zH 5 vG.nd (zcy (zK zgd (pv 7) ZS (zP _)) zq (pv 7)))
   (zu (zbw (wC (za (pv 6) (za (zV zW (yJ (za (zN yM (pv 5) zq) (za (zN RZ (pv 5) zq) (za ZS (za zq zc))))) (pv 3) (fun _ _=>rfl)) zc))) (zga (pv 0) (pv 4) set_list))))) zR)
   (zj (yp (PW.pt (K5 (zK xP (pv 3) zq (zP _)) (Qy (zK Vc (zG zJ rfl T.yX yC (za (pv 0) zc)) zq (zP _))))) (zu (yj (wF PySem.F.plainAttrs_list PySem.F.slot_list_pop PySem.F.type_list_pop zcF (pv 0) (za (pv 4) zc)))) zR)
   (zj (yp (PW.pt (K5 (zK xP (pv 3) zq (zP _)) (Qy (zK Vc (zG zJ rfl T.yX yC (za (pv 0) zc)) zq (zP _))))) (zu (yj (wF PySem.F.plainAttrs_list PySem.F.slot_list_insert PySem.F.type_list_insert SJ (pv 0) (za (pv 4) (za (zV zW (pv 0) (pv 4) (fun _ _=>rfl)) zc))))) zR)
   (zj (yp (PW.pt (K5 (zK xP (pv 3) zq (zP _)) (Qy (zK Vc (zG zJ rfl T.yX yC (za (pv 0) zc)) zq (zP _))))) (zu (yj (wF PySem.F.plainAttrs_list PySem.F.slot_list_insert PySem.F.type_list_insert SJ (pv 0) (za zq (za (wF PySem.F.plainAttrs_list PySem.F.slot_list_pop PySem.F.type_list_pop zcF (pv 0) (za (pv 4) zc)) zc))))) zR)
   (zu (yp (zK xP (pv 3) zq (zP _)) (zu (yj (wF PySem.F.plainAttrs_list PySem.F.slot_list_insert PySem.F.type_list_insert SJ (pv 0) (za (pv 4) (za (wC (za (zN RZ (zN wu (zy yd hr T.yw (za (pv 1) (za zq (za zq zc)))) (zN yM (pv 2) zq)) zq) (za zq zc))) zc))))) zR)))))))),?_⟩
 obtain⟨zs,rfl,rfl,hz⟩:=zjb hp
 have hl:H l=some (.lst (zs.map fun z=>V.ref z.1)):=by rw[hl,zrj];rfl
 rw[zqI] at hn
 have fin:∀(H':Hp) (zs':List (Addr×Int×Option Int)),Same H0 H'->H' l=some (.lst (zs'.map fun z=>V.ref z.1))->(∀z∈zs',H' z.1=some (.tup [.int z.2.1,yR z.2.2]))->zs'.length<=n+1->Q .non H':=fun H' zs' g e h len=>q H' (zs'.map (·.1)) (zs'.map (·.2)) g ⟨by rw[zrj];exact e,zeY fun z hz=>h z hz⟩ (by rw[zqI];exact len)
 have ntl:∀z∈zs,z.1≠l:=fun z h e=>by have:=hz z h;rw[e,hl] at this;cases this
 have sl:zs.length<sizeLine:=zQ (by omega)
 refine⟨_,rfl,c,0,8,rfl,by decide,by decide,by decide,fun kd k0 k8=>?_⟩
 refine⟨_,rfl,c,1,60,rfl,by decide,by decide,by decide,fun r r0 r60=>?_⟩
 refine⟨_,rfl,l,_,rfl,.inl (zT.of hl),_,_,rfl,_,_,rfl,rfl,?_,?_⟩
 ·show(0:Int)<if _ > _ then _ else _
  split<;>omega
 have hat:∃at':Nat,r%(if ((zs.map fun z=>V.ref z.1).length:Int) > 1 then ((zs.map fun z=>V.ref z.1).length:Int) else 1)=(at':Int)/\(0<zs.length->at'<zs.length)/\at'<=zs.length:=by
  rw[zqI]
  split
  ·rename_i h
   refine⟨(r%(zs.length:Int)).toNat,?_,fun _=>?_,?_⟩
   ·exact(Int.toNat_of_nonneg (zrp _ (by omega))).symm
   ·have:=zrl r (show(0:Int)<zs.length by omega)
    omega
   ·have:=zrl r (show(0:Int)<zs.length by omega)
    omega
  ·exact⟨0,Int.emod_one r,fun h=>h,zq4 _⟩
 obtain⟨at',eat,ziW,zj7⟩:=hat
 show Va 4 (V.int (r%(if ((zs.map fun z=>V.ref z.1).length:Int) > 1 then ((zs.map fun z=>V.ref z.1).length:Int) else 1))) _ _ _
 rw[eat]
 have sk:∀{m:Int} {A:Bool->Prop},kd≠m->A false->(zgb (V.int kd) (V.int m)=true/\zhF (V.bl (decide (V.int kd=V.int m))) A):=fun ne b=>⟨rfl,_,rfl,by rw[decide_eq_false (fun e=>ne (by injection e))];exact b⟩
 have tk:∀{m:Int} {A:Bool->Prop},kd=m->A true->(zgb (V.int kd) (V.int m)=true/\zhF (V.bl (decide (V.int kd=V.int m))) A):=fun e b=>⟨rfl,_,rfl,by rw[decide_eq_true (by rw[e])];exact b⟩
 have l63:zs.length<2^63:=by omega
 rcases (by omega:kd<4\/kd=4\/kd=5\/kd=6\/kd=7) with e | e | e | e | e
 ·skip
  refine⟨_,rfl,_,_,rfl,rfl,_,rfl,z8 (fun _=>?_) (fun c=>absurd (decide_eq_true e) c)⟩
  refine⟨_,rfl,l,_,rfl,.inl (zT.of hl),_,_,rfl,rfl,_,rfl,z8 (fun c=>?_) (fun c=>?_)⟩
  ·have lp:0<zs.length:=by
    have:=of_decide_eq_true c
    rw[zqI] at this
    omega
   have hlt:=ziW lp
   have ez:zs[at']?=some zs[at']:=zqJ hlt
   have mz:zs[at']∈zs:=zrn hlt
   generalize zs[at']=z0 at ez mz
   have em:(zs.map fun z=>V.ref z.1)[at']?=some (V.ref z0.1):=by rw[zqK,ez];rfl
   refine⟨_,rfl,_,rfl,l,_,_,_,rfl,rfl,zT.of hl,xG em,_,_,rfl,xM.of (hz _ mz),rfl,_,_,rfl,_,_,rfl,rfl,?_⟩
   cases hz2:z0.2.2 with
   | none =>
    refine⟨_,rfl,rfl,_,rfl,WR ?_⟩
    refine⟨_,rfl,_,rfl,_,_,rfl,rfl,_,rfl,_,_,rfl,rfl,by show 4<=sizeLine;decide,fun p4 hp4=>?_⟩
    have hv:∃v:Option Int,Je [V.int (0+1),V.int (0-1),V.non,V.int 0] kd=some (yR v):=by
     rcases (by omega:kd=0\/kd=1\/kd=2\/kd=3) with e | e | e | e<;>subst e
     ·exact⟨some _,rfl⟩
     ·exact⟨some _,rfl⟩
     ·exact⟨none,rfl⟩
     ·exact⟨some _,rfl⟩
    obtain⟨v,ev⟩:=hv
    refine⟨_,rfl,p4,_,_,_,rfl,rfl,zT.of zf,ev,by show 2<=sizeLine;decide,fun t ht=>?_⟩
    have g1:=(Same.new hp4 (.lst [V.int (0+1),V.int (0-1),V.non,V.int 0])).trans (Same.new ht (.tup [V.int z0.2.1,yR v]))
    have ntl':t≠l:=fun e=>by
     rw[e] at ht
     rw[(Same.new hp4 _) _ _ hl] at ht
     cases ht
    refine⟨_,rfl,_,rfl,l,_,_,_,rfl,rfl,g1 _ _ hl,KJ (by rw[zqI];exact hlt),?_⟩
    refine⟨_,rfl,sk (by omega) (yq (yq ?_))⟩
    refine⟨_,rfl,sk (by omega) (yq (yq ?_))⟩
    refine⟨_,rfl,sk (by omega) (yq (yq ?_))⟩
    refine⟨_,rfl,sk (by omega) (yq ?_)⟩
    refine fin _ (zs.set at' (t,z0.2.1,v)) ((g0.trans g1).over fl _) (by rw[zf,List.map_set]) (fun z h=>?_) (by rw[List.length_set];omega)
    rcases List.mem_or_eq_of_mem_set h with h | h
    ·rw[zE (ntl z h)];exact g1 _ _ (hz z h)
    ·rw[h]
     show upd _ l _ t=_
     rw[zE ntl'];exact zf
   | some x =>
    refine⟨_,rfl,rfl,_,rfl,yq ?_⟩
    refine⟨_,rfl,?_⟩
    refine⟨_,rfl,_,rfl,_,_,rfl,rfl,_,rfl,_,_,rfl,rfl,by show 4<=sizeLine;decide,fun p4 hp4=>?_⟩
    have hv:∃v:Option Int,Je [V.int (x+1),V.int (x-1),V.non,V.int 0] kd=some (yR v):=by
     rcases (by omega:kd=0\/kd=1\/kd=2\/kd=3) with e | e | e | e<;>subst e
     ·exact⟨some _,rfl⟩
     ·exact⟨some _,rfl⟩
     ·exact⟨none,rfl⟩
     ·exact⟨some _,rfl⟩
    obtain⟨v,ev⟩:=hv
    refine⟨_,rfl,p4,_,_,_,rfl,rfl,zT.of zf,ev,by show 2<=sizeLine;decide,fun t ht=>?_⟩
    have g1:=(Same.new hp4 (.lst [V.int (x+1),V.int (x-1),V.non,V.int 0])).trans (Same.new ht (.tup [V.int z0.2.1,yR v]))
    have ntl':t≠l:=fun e=>by
     rw[e] at ht
     rw[(Same.new hp4 _) _ _ hl] at ht
     cases ht
    refine⟨_,rfl,_,rfl,l,_,_,_,rfl,rfl,g1 _ _ hl,KJ (by rw[zqI];exact hlt),?_⟩
    refine⟨_,rfl,sk (by omega) (yq (yq ?_))⟩
    refine⟨_,rfl,sk (by omega) (yq (yq ?_))⟩
    refine⟨_,rfl,sk (by omega) (yq (yq ?_))⟩
    refine⟨_,rfl,sk (by omega) (yq ?_)⟩
    refine fin _ (zs.set at' (t,z0.2.1,v)) ((g0.trans g1).over fl _) (by rw[zf,List.map_set]) (fun z h=>?_) (by rw[List.length_set];omega)
    rcases List.mem_or_eq_of_mem_set h with h | h
    ·rw[zE (ntl z h)];exact g1 _ _ (hz z h)
    ·rw[h]
     show upd _ l _ t=_
     rw[zE ntl'];exact zf
  ·skip
   refine⟨_,rfl,sk (by omega) (yq (yq ?_))⟩
   refine⟨_,rfl,sk (by omega) (yq (yq ?_))⟩
   refine⟨_,rfl,sk (by omega) (yq (yq ?_))⟩
   refine⟨_,rfl,sk (by omega) (yq ?_)⟩
   exact fin _ zs g0 hl hz (by omega)
 ·skip
  refine⟨_,rfl,_,_,rfl,rfl,_,rfl,z8 (fun c=>absurd (of_decide_eq_true c) (by omega)) (fun _=>yq ?_)⟩
  refine⟨_,rfl,tk e (WR ?_)⟩
  refine⟨_,rfl,l,_,rfl,.inl (zT.of hl),_,_,rfl,rfl,_,rfl,z8 (fun c=>?_) (fun c=>?_)⟩
  ·have lp:0<zs.length:=by
    have:=of_decide_eq_true c
    rw[zqI] at this
    omega
   have hlt:=ziW lp
   have ez:zs[at']?=some zs[at']:=zqJ hlt
   have mz:zs[at']∈zs:=zrn hlt
   generalize zs[at']=z0 at ez mz
   have em:(zs.map fun z=>V.ref z.1)[at']?=some (V.ref z0.1):=by rw[zqK,ez];rfl
   refine⟨_,rfl,.inl ⟨rfl,_,zT.of hl⟩,_,rfl,l,_,_,_,_,rfl,rfl,hl,by omega,by omega,(Ko (KJ (by rw[zqI];exact hlt))).1,em,?_⟩
   refine⟨_,rfl,sk (by omega) (yq (yq ?_))⟩
   refine⟨_,rfl,sk (by omega) (yq (yq ?_))⟩
   refine⟨_,rfl,sk (by omega) (yq ?_)⟩
   refine fin _ (zs.eraseIdx at') (g0.over fl _) (by rw[zf,KN]) (fun z h=>?_) (by have:=List.length_eraseIdx_le zs at';omega)
   have h:=List.mem_of_mem_eraseIdx h
   rw[zE (ntl z h)];exact hz z h
  ·skip
   refine⟨_,rfl,sk (by omega) (yq (yq ?_))⟩
   refine⟨_,rfl,sk (by omega) (yq (yq ?_))⟩
   refine⟨_,rfl,sk (by omega) (yq ?_)⟩
   exact fin _ zs g0 hl hz (by omega)
 ·skip
  refine⟨_,rfl,_,_,rfl,rfl,_,rfl,z8 (fun c=>absurd (of_decide_eq_true c) (by omega)) (fun _=>yq ?_)⟩
  refine⟨_,rfl,sk (by omega) (yq (yq ?_))⟩
  refine⟨_,rfl,tk e (WR ?_)⟩
  refine⟨_,rfl,l,_,rfl,.inl (zT.of hl),_,_,rfl,rfl,_,rfl,z8 (fun c=>?_) (fun c=>?_)⟩
  ·have lp:0<zs.length:=by
    have:=of_decide_eq_true c
    rw[zqI] at this
    omega
   have hlt:=ziW lp
   have ez:zs[at']?=some zs[at']:=zqJ hlt
   have mz:zs[at']∈zs:=zrn hlt
   generalize zs[at']=z0 at ez mz
   have em:(zs.map fun z=>V.ref z.1)[at']?=some (V.ref z0.1):=by rw[zqK,ez];rfl
   refine⟨_,rfl,.inl ⟨rfl,_,zT.of hl⟩,_,rfl,_,rfl,_,rfl,l,_,_,_,rfl,rfl,zT.of hl,xG em,l,_,_,_,rfl,rfl,hl,by omega,by rw[zqI];omega,by rw[zqI];exact sl,?_⟩
   rw[zrk,ze6 (f:=fun z:Addr×Int×Option Int=>V.ref z.1) (y:=z0)]
   refine⟨_,rfl,sk (by omega) (yq (yq ?_))⟩
   refine⟨_,rfl,sk (by omega) (yq ?_)⟩
   refine fin _ _ (g0.over fl _) zf (fun z h=>?_) (by rw[ze5];omega)
   have h:z∈zs:=(ze4 h).elim (fun e=>by rw[e];exact mz) id
   rw[zE (ntl z h)];exact hz z h
  ·skip
   refine⟨_,rfl,sk (by omega) (yq (yq ?_))⟩
   refine⟨_,rfl,sk (by omega) (yq ?_)⟩
   exact fin _ zs g0 hl hz (by omega)
 ·skip
  refine⟨_,rfl,_,_,rfl,rfl,_,rfl,z8 (fun c=>absurd (of_decide_eq_true c) (by omega)) (fun _=>yq ?_)⟩
  refine⟨_,rfl,sk (by omega) (yq (yq ?_))⟩
  refine⟨_,rfl,sk (by omega) (yq (yq ?_))⟩
  refine⟨_,rfl,tk e (WR ?_)⟩
  refine⟨_,rfl,l,_,rfl,.inl (zT.of hl),_,_,rfl,rfl,_,rfl,z8 (fun c=>?_) (fun c=>?_)⟩
  ·have lp:0<zs.length:=by
    have:=of_decide_eq_true c
    rw[zqI] at this
    omega
   have hlt:=ziW lp
   have ez:zs[at']?=some zs[at']:=zqJ hlt
   have mz:zs[at']∈zs:=zrn hlt
   generalize zs[at']=z0 at ez mz
   have em:(zs.map fun z=>V.ref z.1)[at']?=some (V.ref z0.1):=by rw[zqK,ez];rfl
   refine⟨_,rfl,.inl ⟨rfl,_,zT.of hl⟩,_,rfl,.inl ⟨rfl,_,zT.of hl⟩,_,rfl,l,_,_,_,_,rfl,rfl,hl,by omega,by omega,(Ko (KJ (by rw[zqI];exact hlt))).1,em,?_⟩
   refine⟨l,_,0,_,rfl,rfl,zf,by omega,by omega,?_,?_⟩
   ·rw[KN,zqI];exact Nat.lt_of_le_of_lt (List.length_eraseIdx_le zs at') sl
   rw[KN]
   show _
   refine⟨_,rfl,sk (by omega) (yq ?_)⟩
   refine fin _ (z0::zs.eraseIdx at') ((g0.over fl _).over fl _) zf (fun z h=>?_) (by rw[zqU];have:=List.length_eraseIdx_le zs at';omega)
   have h:z∈zs:=(List.mem_cons.mp h).elim (fun e=>by rw[e];exact mz) List.mem_of_mem_eraseIdx
   rw[zE (ntl z h),zE (ntl z h)];exact hz z h
  ·skip
   refine⟨_,rfl,sk (by omega) (yq ?_)⟩
   exact fin _ zs g0 hl hz (by omega)
 ·skip
  refine⟨_,rfl,_,_,rfl,rfl,_,rfl,z8 (fun c=>absurd (of_decide_eq_true c) (by omega)) (fun _=>yq ?_)⟩
  refine⟨_,rfl,sk (by omega) (yq (yq ?_))⟩
  refine⟨_,rfl,sk (by omega) (yq (yq ?_))⟩
  refine⟨_,rfl,sk (by omega) (yq (yq ?_))⟩
  refine⟨_,rfl,tk e (WR ?_)⟩
  refine⟨_,rfl,.inl ⟨rfl,_,zT.of hl⟩,_,rfl,_,rfl,c,2,60,rfl,by decide,by decide,by decide,fun r2 _ _=>?_⟩
  refine⟨_,rfl,_,_,rfl,rfl,_,_,rfl,rfl,(by show(0:Int)<(sz:Int)+2;omega),_,_,rfl,rfl,by show 2<=sizeLine;decide,fun t ht=>?_⟩
  have g1:=Same.new ht (.tup [V.int (r2%((sz:Int)+2)-1),V.int 0])
  have e1:upd H t (.tup [V.int (r2%((sz:Int)+2)-1),V.int 0]) t=some (.tup [V.int (r2%((sz:Int)+2)-1),V.int 0]):=zf
  have ntl':t≠l:=fun e=>by rw[e,hl] at ht;cases ht
  refine⟨l,_,_,_,rfl,rfl,g1 _ _ hl,by omega,by rw[zqI];omega,by rw[zqI];exact sl,?_⟩
  rw[zrk,ze6 (f:=fun z:Addr×Int×Option Int=>V.ref z.1) (y:=(t,r2%((sz:Int)+2)-1,some 0))]
  refine fin _ _ ((g0.trans g1).over fl _) zf (fun z h=>?_) (by rw[ze5];omega)
  rcases ze4 h with h | h
  ·rw[h]
   show upd _ l _ t=_
   rw[zE ntl'];exact e1
  ·rw[zE (ntl z h)];exact g1 _ _ (hz z h)
theorem ok_law (T:Txt P w K mg a)
  (yg:zF P w K mg base z7 (k+1) a.xq a.xr yV (Kz K))
  (zaM:zF P w K mg base z7 (k+1) a.W6 a.W7 Yj zbL)
  (Vy:zF P w K mg base z7 (k+1) a.Z8 a.Z9 ur (Tv K))
  (Uz:zF P w K mg base z7 (k+1) a.YT a.YW tE V4)
  (vI:zF P w K mg base z7 (k+1) a.uX a.uY vD (Tt a.zx))
  (Ut:zF P w K mg base z7 (k+1) a.Ud a.Ue Xg (Mx a.zx K))
  (zaN:zF P w K mg base z7 (k+1) a.Yq a.Yr uV Ku)
  (zcq:zF P w K mg base z7 (k+1) a.Ug a.Uh Xh zb6)
  (zcr:zF P w K mg base z7 (k+1) a.Ui a.Uj Xj (Pj a.zx K))
  (zae:zF P w K mg base z7 (k+1) a.Wa a.Wb Zv (Mz a.zx K))
  (zdu:zF P w K mg base z7 (k+1) a.T6 a.T7 Wx (Qa (z9 a.zx)))
  (zdv:zF P w K mg base z7 k a.Wy a.T5 Ww (R9 (z9 a.zx) K a.zx))
  (Nr:zF P w K mg base z7 (k+1) a.Ub a.Uc Xf (Tn (z9 a.zx)))
  (KZ:zF P w K mg base z7 (k+1) a.zca a.zcb KR (JF a.zx K))
  (Nt:zF P w K mg base z7 (k+1) a.V7 a.V8 Xc (Pj a.zx K)) :
  zF P w K mg base z7 (k+2) a.a_law a.d_law p_law (zeT K):=by
 refine T.f_law.F.ok sc_law (fun vs H Q E h=>?_) (fun cdv A outer s H vs Q E hr h=>?_)
 ·obtain⟨a,ns,rfl,_⟩:=h
  rfl
 obtain⟨sc,ns,rfl,hS,h63,q⟩:=h
 have L:=yQ a.zx
 have m0:∀i,0<=yU ns i%7:=fun i=>zrp _ (by decide)
 have m1:∀i,yU ns i%7<7:=fun i=>zrl _ (by decide)
 have em:∀i,(1:Int)+yU ns i%7=(((1+yU ns i%7).toNat:Nat):Int):=fun i=>by have:=m0 i;omega
 have zhn:∀{s:Sn} {m:Nat},s.depth<=m->m<=7->s.count<=200:=fun {s m} h1 h2=>by
  have h3:=Sn.zc3 s
  have h4:2^s.depth<=2^7:=zrd (by decide) (by omega)
  have h5:2^7=128:=rfl
  omega
 refine zne ?_
 refine zgK (fun σ H=>∃(ol bk wl hl:Addr) (os:List Str) (rs:List zM.Rm) (F:yO) (k1:Nat) (qs:List Addr) (ws:List zM.Wg) (Hn:Hp),B36 a.zx K sc ns ol bk wl hl os rs F k1 qs ws Hn H/\σ=[some (.ref sc),some (.ref ol),some (.ref bk),some (.int (k1:Nat)),some (.ref wl),some (.ref hl),none,none,none,none,none,none,none,none]) (fun t z=>(zj (zH 1 sc_law.nd (zy zaM hr T.RP (za (zy yg hr T.z6 (za (pv 0) (za zq zc))) (za (zV zW (yJ (za zq (za zq zc))) (uh zfp rfl T.zjf zgx (za (ug xP (zN wu (zy yg hr T.z6 (za (pv 0) (za zq zc))) zq) zq (zP _)) zc)) (fun _ _=>rfl)) zc))))
   (zj (U0 (i:=2) sc_law.nd rfl (Or.inr rfl) (zhK T.ziL zdv hr rfl T.zkc T.Lw.b .nil zeH (za (pv 1) zc)))
   (zj (zH 3 sc_law.nd (yt (pv 2) T.zU T.Uo Nr hr (za (zy Vy hr T.Yc (za (pv 0) (za zq (za (zN yM zq (zN wu (zy yg hr T.z6 (za (pv 0) (za zq zc))) zq)) (za (pv 1) zc))))) zc)))
   (zj (U0 (i:=4) sc_law.nd rfl (Or.inr rfl) (zy Uz hr T.YX (za (zy yg hr T.z6 (za (pv 0) (za zq zc))) (za (zG zJ rfl T.yX yC (za (pv 1) zc)) zc))))
   (zj (zH 5 sc_law.nd (uh Ze rfl T.Qq VJ (za (pv 4) zc)))
   z)))))) ?_ ?_
 ·rintro u hu σ H ⟨rfl,rfl⟩
  refine⟨_,rfl,sc,ns,0,rfl,hS,by show 2<=sizeLine;decide,fun l5 hl5=>?_⟩
  have g5:=Same.new hl5 (.lst [.int 5,.int 8])
  refine⟨_,rfl,sc,ns,40,rfl,g5.seq hS,_,_,rfl,rfl,(show(0:Int)<8 by decide),rfl,.inr ⟨_,rfl,l5,_,_,.int ((if (decide (V.int (yU ns 40%8)=V.int 1)) then 8 else 5:Nat):Int),rfl,rfl,zT.of zf,?_,yU ns 0,(if (decide (V.int (yU ns 40%8)=V.int 1)) then 8 else 5),rfl,?_,?_,fun ol H0 os g1' zeq ho o8'=>?_⟩⟩
  ·cases (decide (V.int (yU ns 40%8)=V.int 1))<;>rfl
  ·cases (decide (V.int (yU ns 40%8)=V.int 1))<;>decide
  ·cases (decide (V.int (yU ns 40%8)=V.int 1))<;>decide
  have g0:=g5.trans g1'
  clear g1' o8' g5
  have o8:=ho.le
  have hS0:=g0.seq hS
  refine⟨_,rfl,fun bk dx hbk hdx hne=>⟨bk,dx,ol,os,rfl,zf,Ne.symm hne,?_,ho,fun H3 F0 keep hB hF=>⟨rfl,?_⟩⟩⟩
  ·refine zT.of ?_
   rw[zE (zB zeq hbk),zE (zB zeq hdx)]
   exact zeq
  have g13:Same H0 H3:=fun x o e=>keep x o (by rw[zE (zB e hbk),zE (zB e hdx)];exact e) (zB e hbk)
  have hF1:∀x,F0 x->H0 x=none:=fun x hx=>by
   rcases hF x hx with z | z | z
   ·rw[z];exact hbk
   ·rw[z];exact hdx
   ·by_cases e1:x=bk
    ·rw[e1] at z;rw[zf] at z;cases z
    ·by_cases e2:x=dx
     ·rw[e2,zE hne,zf] at z;cases z
     ·rw[zE e1,zE e2] at z;exact z
  have L0:Led (z9 a.zx) H0 bk os 2 H3 [none,none] F0:=⟨g13,hF1,hB,zqY _⟩
  clear keep hF hF1
  have hS3:=g13.seq hS0
  have znv:=g13 _ _ zeq
  obtain⟨dx0,fs,Sv,hm⟩:=L.ins L0.bk
  refine⟨_,rfl,bk,dx0,fs,rfl,Sv,hm _ (by decide +kernel),_,rfl,_,rfl,sc,ns,1,rfl,hS3,?_⟩
  refine⟨yU ns 1,7,rfl,rfl,(show(0:Int)<7 by decide),1,_,rfl,rfl,_,rfl,sc,ol,ns,2,(1+yU ns 1%7).toNat,os,?_,hS3,zT.of znv,ho.pos,o8,by have:=m0 1;omega,by have:=m1 1;omega,by decide,fun p1 H4 s1 g4 is1 in1 d1 ⟨P4,w4,u4⟩=>?_⟩
  ·show [V.ref sc,V.int 2,V.int (1+yU ns 1%7),V.ref ol]=_
   rw[em 1];rfl
  have L4:=L0.new L g4
  have y1:=m1 1
  refine⟨bk,p1,os,[none,none],F0,s1,rfl,L4.bk,by decide,is1,in1,zhn d1 (by omega),by omega,fun k1 rs1 F1 H5 aw tu hB1 nf gr hk hy hbd=>?_⟩
  have L5:=L4.grow aw hB1 nf hbd
  have hS5:=L5.same.seq hS0
  have znx:=L5.same _ _ zeq
  refine⟨_,rfl,sc,ns,10,rfl,hS5,_,rfl,ol,_,rfl,.inl (zT.of znx),yU ns 10,os.length,?_,o8,fun wl H6 ps ws g6 fwl hwl pw lw ow=>?_⟩
  ·rw[zqI];rfl
  refine⟨_,rfl,wl,_,rfl,.inl (zT.of hwl),fun hl hhl=>?_⟩
  have g7:=Same.new hhl (.lst (ps.map V.ref))
  have e7:upd H6 hl (.lst (ps.map V.ref)) hl=some (.lst (ps.map V.ref)):=zf
  generalize upd H6 hl (.lst (ps.map V.ref))=H7 at g7 e7
  have g57:=g6.trans g7
  have L7:=L5.new L g57
  have hB7:=L7.bk
  have tp:=zdb hB7
  have gr7:=L7.reb
  have pw7:Paired (zc4 H7) ps ws:=yP (fun _ _ r=>yN.of g7 _ _ r) pw
  refine hu _ _ ⟨ol,bk,wl,hl,os,rs1,F1,k1,ps,ws,outF F1 H7,⟨Led.start hB7 (zq3 L7.len (by decide)),hk,ze8 (L.bk hB1) ⟨hk,hy⟩ (by omega) u4,gr7.seq hS0,gr7 _ _ zeq,?_,?_⟩,rfl⟩
  ·refine yW.tups pw7 tp ?_ lw ow
   rw[YD (L.fresh L5.bk fwl)]
   exact g7 _ _ hwl
  ·refine yW.tups pw7 tp ?_ lw ow
   rw[YD (L.fresh L5.bk (g6.free hhl))]
   exact e7
 refine zgK (fun σ H=>∃(ol bk wl hl l dl:Addr) (os:List Str) (rs:List zM.Rm) (F:yO) (k1:Nat) (qs:List Addr) (ws:List zM.Wg) (ts ds:List Addr) (ms:List Int) (ps:List (Int×Option Int)) (Hn Hb:Hp),B36 a.zx K sc ns ol bk wl hl os rs F k1 qs ws Hn Hb/\zM.yL rs k1 ms/\uR Hn dl ds (Zc ws os.length rs ms)/\Same Hb H/\Hb l=none/\uR H l ts ps/\ps.length<=300/\σ=[some (.ref sc),some (.ref ol),some (.ref bk),some (.int (k1:Nat)),some (.ref wl),some (.ref hl),some (.ref l),some (.ref dl),some (.int (yU ns 14)),none,none,none,none,none]) (fun t z=>(zj (zH 6 sc_law.nd (zy KZ hr T.P0 (za (pv 2) (za (pv 3) (za (pv 5) zc)))))
   (zj (QK (tt:=R5) (i:=7) sc_law.nd rfl (Or.inl rfl) (.inl rfl) (uP:=zA S_law) (js:=[2,4]) rfl (by show Yy _ _ "number" ["book", "weights"];exact lco (by decide +kernel)) rfl (yZ (zy vI hr T.uZ (za (pv 2) (za (pv 3) zc)))) (by show ∀j∈([2,4]:List Nat),j<14;decide) (fun cl C s₂ H₂ fp pins s' σ' H' Q I h=>wpAny_pure ⟨H',I,h⟩) (fun cl C s₂ H₂ fp=>(wC (za (pv 0) (za (zy Ut hr T.Xo (za (pv 1) (za (pv 0) (za (pv 2) zc)))) zc)))) rfl)
   (zj (yp (PW.pt (Qz (Xy (vQ (zG tX rfl T.uF vq (za (pv 6) (za (Sx (v:=.ty "list") rfl T.Qq VJ rfl) zc))) (fun _=>rfl))) (UJ (zK (Js rfl (hu8 hr)) (pv 6) (pv 7) (zP _))))) (zu (zL Yx)) zR)
   (zj (yp (zK ziy (zy Nt hr T.Uk (za (pv 2) (za (pv 3) (za (pv 5) (za (pv 6) zc))))) Yx (zP _)) (zu (zL Yx)) zR)
   (zj (yp (Xy (vQ (zG (Zf rfl) rfl T.Nj VH (za (uK (uP:=zA S_law) (js:=[]) rfl (by show Yy _ _ "entry" [];exact lco (by decide +kernel)) rfl (yZ (pv 6)) (by show ∀j∈([]:List Nat),j<14;decide) (fun cl C s₂ H₂ fp=>(zkI (ug zgd (zV (QW (K:=K) rfl) (pv 0) zq (fun _ _=>rfl)) ZS (zP _)) (K6 (zy zaN hr T.RQ (za (zV (QW (K:=K) rfl) (pv 0) zq (fun _ _=>rfl)) zc)))))) zc)) (fun _=>rfl))) (zu (zL Yx)) zR)
   (zj (zH 8 sc_law.nd (zy yg hr T.z6 (za (pv 0) (za zq zc))))
   z))))))) ?_ ?_
 ·rintro u hu σ H ⟨ol,bk,wl,hl,os,rs,F,k1,qs,ws,Hn,bb,rfl⟩
  have hB:=bb.led.bk
  have BK:=L.bk hB
  have hk:=bb.hk
  have gn:=bb.led.same
  have o8:=(L.ord hB).le
  have p8:2^os.length<=256:=zq3 (zrd (n:=2) (by decide) o8) (by decide)
  refine⟨_,rfl,_,rfl,_,rfl,bk,hl,os,rs,F,k1,qs,ws,rfl,hB,hk,bb.few,bb.hl_.mono gn,fun l ts ms H1 g1 fl ZQ pt hl1=>?_⟩
  have hT1:=KQ pt hl1
  have lms:=ZQ.len BK hk
  have nat:∀x∈ms,∃j:Nat,x=j/\zM.Reach rs k1 j:=fun x hx=>(ZQ.mem x).mp hx
  refine⟨_,rfl,_,rfl,bk,os,rs,F,k1,rfl,L.same hB g1,hk,bb.few,fun ul H2 ms2 g2 ful hul zki=>?_⟩
  obtain rfl:=zki.eq ZQ
  have g12:=g1.trans g2
  refine⟨ul,rfl,⟨_,zT.of hul⟩,?_⟩
  refine Vl (xs:=ms2.map V.int) (fun m ys H'=>Same H2 H'/\∃ds:List Addr,ys=ds.map V.ref/\Paired (fun t (p:Int×Option Int)=>H' t=some (.tup [.int p.1,yR p.2])) ds (Zc ws os.length rs (ms2.take m))) ⟨Same.refl _,[],rfl,.nil⟩ (by rw[zqI];exact zq0 (zQ (by omega))) ?_ ?_ ?_
  ·rintro m ys H' hm ⟨gg,ds,rfl,hd⟩
   have:=yx hd
   unfold Zc at this
   rw[zqI,zq5] at this
   exact⟨zT.of (gg _ _ hul),by rw[zqI];omega⟩
  ·rintro m x ys H' Q0 hx ⟨gg,ds,rfl,hd⟩ hQ
   rw[zqK] at hx
   cases hm:ms2[m]? with
   | none=>rw[hm] at hx;cases hx
   | some y =>
    rw[hm] at hx
    cases hx
    obtain⟨j,rfl,rj⟩:=nat y (zqN hm)
    have gz:=g12.trans gg
    refine⟨_,rfl,_,rfl,_,rfl,_,rfl,bk,wl,os,rs,F,j,qs,ws,rfl,L.same hB gz,rj.lt BK hk,bb.wl_.mono (gn.trans gz),fun H3 g3=>⟨by show 2<=sizeLine;decide,fun t ht=>hQ _ _ ?_⟩⟩
    have g4:=Same.new ht (.tup [.int (j:Nat),yR (zM.ld ws os.length rs j)])
    refine⟨gg.trans (g3.trans g4),ds++[t],by rw[zqW];rfl,?_⟩
    rw[zZ hm]
    unfold Zc
    rw[zqW]
    exact YJ (yP (fun _ _ e=>(g3.trans g4) _ _ e) hd) (.cons zf .nil)
  rintro ys H3 dl ⟨gg,ds,rfl,hd⟩ hdl
  rw[zqI,zra] at hd
  have gdl:=Same.new hdl (.lst (ds.map V.ref))
  have hD:uR (upd H3 dl (.lst (ds.map V.ref))) dl ds (Zc ws os.length rs ms2):=⟨zf,yP (fun _ _ e=>gdl _ _ e) hd⟩
  have fdl:H1 dl=none:=(g2.trans gg).free hdl
  have g14:=g2.trans (gg.trans gdl)
  generalize upd H3 dl (.lst (ds.map V.ref))=H4 at hD g14
  have hT4:=hT1.mono g14
  have len:(Zc ws os.length rs ms2).length<=300:=by unfold Zc;rw[zqI];omega
  refine⟨_,rfl,_,_,_,true,rfl,.lst hT4.1,rfl,_,rfl,?_⟩
  refine z8 (fun z=>by cases z) (fun _=>?_)
  refine⟨_,rfl,_,rfl,true,fun y=>absurd y.1 zqM,JL (n:=6) (zT.of hT4.1) (zT.of hD.1) hT4.2 hD.2,_,rfl,yq ?_⟩
  have gA:=g1.trans g14
  refine⟨_,rfl,_,rfl,_,rfl,_,rfl,bk,hl,l,os,rs,F,k1,qs,ws,ts,_,rfl,L.same hB gA,hk,bb.few,bb.hl_.mono (gn.trans gA),hT4,by omega,fun H5 ms5 g5 znz=>?_⟩
  obtain rfl:=znz.eq ZQ
  rw[ziK BK hk ZQ]
  refine⟨true,true,rfl,rfl,_,rfl,yq ?_⟩
  have hT5:=hT4.mono g5
  have lts:=yx hT5.2
  refine⟨_,rfl,l,rfl,⟨_,zT.of hT5.1⟩,?_⟩
  refine zfT (zT.of hT5.1) (by rw[zqI];exact zq0 (zQ (by omega))) (fun i x H6 Q0 hx g6 hQ=>?_) (fun H6 al g6 hal=>?_)
  ·rw[zqK] at hx
   cases hv:ts[i]? with
   | none=>rw[hv] at hx;cases hx
   | some t =>
    rw[hv] at hx
    cases hx
    obtain⟨⟨y,o⟩,hy,ht⟩:=uQ hT5.2 hv
    have ht6:=g6 _ _ ht
    cases o with
    | none =>
     refine⟨_,rfl,t,_,1,_,rfl,rfl,xM.of ht6,rfl,rfl,_,rfl,?_⟩
     exact WR (hQ _ (Same.refl _))
    | some x =>
     refine⟨_,rfl,t,_,1,_,rfl,rfl,xM.of ht6,rfl,rfl,_,rfl,?_⟩
     refine yq ?_
     exact⟨_,rfl,t,_,1,_,rfl,rfl,xM.of ht6,rfl,x,rfl,hQ _ (Same.refl _)⟩
  have gn6:=Same.new hal (.lst ((List.replicate (ts.map V.ref).length true).map V.bl))
  refine⟨al,_,rfl,zT.of zf,_,rfl,?_⟩
  rw[zfS]
  refine yq ?_
  have g47:=g5.trans (g6.trans gn6)
  generalize upd H6 al (.lst ((List.replicate (ts.map V.ref).length true).map V.bl))=H7 at g47
  have g7:=gA.trans g47
  have g17:=g14.trans g47
  have hT7:=hT1.mono g17
  have hD7:=hD.mono g47
  refine⟨_,rfl,sc,ns,14,rfl,(gn.trans g7).seq bb.sc_,?_⟩
  have gb:=zhd (x:=l) g7 fl
  have bb7:=bb.new gb
  have nd:dl≠l:=fun e=>by rw[e,hl1] at fdl;cases fdl
  have b8:=bb7.reb
  refine hu _ _ ⟨ol,bk,wl,hl,l,dl,os,rs,F,k1,qs,ws,ts,ds,ms5,_,outF F (outF (fun y=>y=l) H7),outF (fun y=>y=l) H7,b8,ZQ,?_,zbd _ _,zhe,hT7,len,rfl⟩
  have hD8:uR (outF (fun y=>y=l) H7) dl ds (Zc ws os.length rs ms5):=hD7.tups (zhc hT7.1) (by rw[YD (F:=fun y=>y=l) (show ¬dl=l from nd)];exact hD7.1)
  refine hD8.tups (zdb bb7.led.bk) ?_
  rw[YD (L.fresh (L.same hB g1) fdl)]
  exact hD8.1
 refine zgK (fun σ H=>∃(ol bk wl hl l dl:Addr) (os:List Str) (rs:List zM.Rm) (F:yO) (k1:Nat) (qs:List Addr) (ws:List zM.Wg) (ts ds:List Addr) (ms:List Int) (ps:List (Int×Option Int)) (Hn Hb:Hp),B36 a.zx K sc ns ol bk wl hl os rs F k1 qs ws Hn Hb/\zM.yL rs k1 ms/\uR Hn dl ds (Zc ws os.length rs ms)/\Same Hb H/\Hb l=none/\uR H l ts ps/\ps.length<=300/\σ=[some (.ref sc),some (.ref ol),some (.ref bk),some (.int (k1:Nat)),some (.ref wl),some (.ref hl),some (.ref l),some (.ref dl),some (.int (yU ns 14)),none,none,none,none,none]) (fun t z=>(zj (yp (zK xP (zN wu (pv 8) zq) zq (zP _)) (zu (zH 6 sc_law.nd (zy zae hr T.Sh (za (pv 2) (za (pv 3) (za (pv 4) (za (zV zW (yJ (za ZS (za zq (za zq zc)))) (zN wu (zN Kl (pv 8) zq) zq) (fun _ _=>rfl)) (za (zV zW (yJ (za zq (za (zex zby zq) (za ZS zc)))) (zN wu (zN Kl (pv 8) zq) zq) (fun _ _=>rfl)) zc)))))))) zR)
   z)) ?_ ?_
 ·rintro u hu σ H ⟨ol,bk,wl,hl,l,dl,os,rs,F,k1,qs,ws,ts,ds,ms,ps,Hn,Hb,bb,ZQ,hD,gb,fl,hT,len,rfl⟩
  refine⟨_,rfl,_,_,rfl,rfl,(show(0:Int)<4 by decide),rfl,_,rfl,z8 (fun _=>?_) (fun _=>?_)⟩
  ·have c3:∀x:Int,x%3=0\/x%3=1\/x%3=2:=fun x=>by omega
   have z3:∃z:Option Int,Je [V.non,V.int 0,V.int 3] (yU ns 14 / 4%3)=some (yR z):=by
    rcases c3 (yU ns 14 / 4) with e | e | e<;>rw[e]
    ·exact⟨none,rfl⟩
    ·exact⟨some 0,rfl⟩
    ·exact⟨some 3,rfl⟩
   have o3:∃z:Option Int,Je [V.int 0,V.int (-1),V.non] (yU ns 14 / 12%3)=some (yR z):=by
    rcases c3 (yU ns 14 / 12) with e | e | e<;>rw[e]
    ·exact⟨some 0,rfl⟩
    ·exact⟨some (-1),rfl⟩
    ·exact⟨none,rfl⟩
   obtain⟨z,ez⟩:=z3
   obtain⟨o,eo⟩:=o3
   refine⟨_,rfl,_,rfl,_,rfl,by show 3<=sizeLine;decide,fun p3 hp3=>?_⟩
   have g3:=Same.new hp3 (.lst [V.non,V.int 0,V.int 3])
   refine⟨_,rfl,_,_,rfl,rfl,⟨by decide,by decide⟩,_,_,rfl,rfl,(by show(0:Int)<3;decide),p3,_,_,_,rfl,rfl,zT.of zf,ez,?_⟩
   refine⟨_,rfl,by show 3<=sizeLine;decide,fun p4 hp4=>?_⟩
   have g4:=Same.new hp4 (.lst [V.int 0,V.int (-1),V.non])
   refine⟨_,rfl,_,_,rfl,rfl,⟨by decide,by decide⟩,_,_,rfl,rfl,(by show(0:Int)<3;decide),p4,_,_,_,rfl,rfl,zT.of zf,eo,?_⟩
   have b5:=bb.new (gb.trans (g3.trans g4))
   refine⟨bk,wl,os,rs,F,k1,qs,ws,z,o,rfl,b5.led.bk,b5.hk,b5.few,b5.wl_.mono b5.led.same,fun l2 ts2 ps2 H2 g2 fl2 hT2 len2=>?_⟩
   exact hu _ _ ⟨ol,bk,wl,hl,l2,dl,os,rs,F,k1,qs,ws,ts2,ds,ms,ps2,Hn,_,b5,ZQ,hD,g2,fl2,hT2,len2,rfl⟩
  ·exact hu _ _ ⟨ol,bk,wl,hl,l,dl,os,rs,F,k1,qs,ws,ts,ds,ms,ps,Hn,Hb,bb,ZQ,hD,gb,fl,hT,len,rfl⟩
 refine zgK (fun σ H=>∃(ol bk wl hl l dl:Addr) (os:List Str) (rs:List zM.Rm) (F:yO) (k1:Nat) (qs:List Addr) (ws:List zM.Wg) (ds:List Addr) (ms:List Int) (Hn:Hp) (f9 f10 f11:Option V),B36 a.zx K sc ns ol bk wl hl os rs F k1 qs ws Hn H/\zM.yL rs k1 ms/\uR Hn dl ds (Zc ws os.length rs ms)/\σ=[some (.ref sc),some (.ref ol),some (.ref bk),some (.int (k1:Nat)),some (.ref wl),some (.ref hl),some (.ref l),some (.ref dl),some (.int (yU ns 14)),f9,f10,f11,none,none]) (fun t z=>(zj (uJ PassesOwn.never rfl (ZV rfl T.Xp (za (zN wu (zy yg hr T.z6 (za (pv 0) (za zq zc))) zq) zc)) (yI (i:=9) sc_law.nd rfl (Or.inl rfl)) (zu (yj (zy zcq hr T.Ng (za (pv 6) (za (zy yg hr T.z6 (za (pv 0) (za (zN yM zq (pv 9)) zc))) (za (Vh (pv 2) T.zU T.Lx zdu hr) zc)))))))
   (zj (zH 10 sc_law.nd (uh Ze rfl T.Qq VJ (za (pv 6) zc)))
   (zj (zH 11 sc_law.nd (zy Nt hr T.Uk (za (pv 2) (za (pv 3) (za (pv 5) (za (pv 6) zc))))))
   (zj (yp (PW.pt (Qz (Xy (vQ (zG tX rfl T.uF vq (za (pv 11) (za (Sx (v:=.ty "bool") rfl T.zhf zeM rfl) zc))) (fun _=>rfl))) (UJ (zK zeB (pv 11) (zy zcr hr T.Nh (za (pv 2) (za (pv 3) (za (pv 4) (za (pv 6) zc))))) (zP _))))) (zu (zL Yx)) zR)
   (zj (yp (zK (Js rfl (hu8 hr)) (pv 6) (pv 10) (zP _)) (zu (zL Yx)) zR)
   z)))))) ?_ ?_
 ·rintro u hu σ H ⟨ol,bk,wl,hl,l,dl,os,rs,F,k1,qs,ws,ts,ds,ms,ps,Hn,Hb,bb,ZQ,hD,gb,fl,hT,len,rfl⟩
  have r3:∃m:Nat,yU ns 11%3=(m:Int)/\m<3:=⟨(yU ns 11%3).toNat,by omega,by omega⟩
  obtain⟨m3,em3,lm3⟩:=r3
  have gnb:=bb.led.same
  refine⟨_,rfl,sc,ns,11,rfl,(gnb.trans gb).seq bb.sc_,_,_,rfl,rfl,(by show(0:Int)<3;decide),(m3:Int),?_,by omega,by omega,?_⟩
  ·show [V.int (yU ns 11%3)]=_
   rw[em3]
  rw[zrk]
  refine ZW (lo:=0) (n:=m3) (fun i σ H'=>∃(ts:List Addr) (ps:List (Int×Option Int)) (f9:Option V),Same Hb H'/\uR H' l ts ps/\ps.length<=300+i/\σ=[some (.ref sc),some (.ref ol),some (.ref bk),some (.int (k1:Nat)),some (.ref wl),some (.ref hl),some (.ref l),some (.ref dl),some (.int (yU ns 14)),f9,none,none,none,none]) ⟨ts,ps,_,gb,hT,len,rfl⟩ ?_ ?_
  ·rintro i σ H1 hi ⟨ts1,ps1,f9,g1,hT1,len1,rfl⟩
   have b1:=bb.new g1
   obtain⟨dx,fs,Sv,hm⟩:=L.ins b1.led.bk
   refine⟨_,rfl,_,rfl,_,rfl,_,_,rfl,rfl,sc,ns,12+i,?_,b1.led.same.seq b1.sc_,?_⟩
   ·show [V.ref sc,V.int (12+(0+(i:Int)))]=[V.ref sc,V.int ((12+i:Nat):Int)]
    rw[show(12+(0+(i:Int)))=((12+i:Nat):Int) by omega]
   refine⟨_,rfl,bk,dx,fs,rfl,Sv,hm _ (by decide +kernel),bk,os,rs,F,rfl,b1.led.bk,fun H2 g2=>?_⟩
   refine⟨l,yU ns (12+i),rs.length,ts1,ps1,300+i,Hb,rfl,g1.trans g2,fl,hT1.mono g2,len1,by omega,fun H3 ts2 ps2 g3 hT3 zqh=>?_⟩
   exact⟨ts2,ps2,_,g3,hT3,by omega,rfl⟩
  ·rintro σ H1 ⟨ts1,ps1,f9,g1,hT1,len1,rfl⟩
   refine⟨_,rfl,l,_,rfl,.inl (zT.of hT1.1),fun kl hkl=>?_⟩
   have g2:=Same.new hkl (.lst (ts1.map V.ref))
   have zlU:upd H1 kl (.lst (ts1.map V.ref)) kl=some (.lst (ts1.map V.ref)):=zf
   generalize upd H1 kl (.lst (ts1.map V.ref))=H2 at g2 zlU
   have b2:=bb.new (g1.trans g2)
   have hT2:=hT1.mono g2
   refine⟨_,rfl,_,rfl,_,rfl,_,rfl,bk,hl,l,os,rs,F,k1,qs,ws,ts1,ps1,rfl,b2.led.bk,b2.hk,b2.few,b2.hl_.mono b2.led.same,hT2,by omega,fun H3 ms3 g3 zkk=>?_⟩
   obtain rfl:=zkk.eq ZQ
   have b3:=b2.new g3
   have hT3:=hT2.mono g3
   refine⟨_,rfl,_,_,_,true,rfl,.bl _,rfl,_,rfl,?_⟩
   refine z8 (fun z=>by cases z) (fun _=>?_)
   refine⟨_,rfl,_,rfl,_,rfl,_,rfl,_,rfl,bk,wl,l,os,rs,F,k1,qs,ws,ts1,ps1,rfl,b3.led.bk,b3.hk,b3.few,b3.wl_.mono b3.led.same,hT3,by omega,fun H4 ms4 g4 znB=>?_⟩
   obtain rfl:=znB.eq ZQ
   refine⟨rfl,_,rfl,?_⟩
   rw[decide_eq_true rfl]
   refine yq ?_
   have hT4:=hT3.mono g4
   refine⟨_,rfl,_,rfl,true,fun y=>absurd y.1 zqM,JL (n:=6) (zT.of hT4.1) (zT.of (g4 _ _ (g3 _ _ zlU))) hT4.2 hT4.2,_,rfl,yq ?_⟩
   exact hu _ _ ⟨ol,bk,wl,hl,l,dl,os,rs,F,k1,qs,ws,ds,ms4,Hn,_,_,_,b3.new g4,ZQ,hD,rfl⟩
 refine zgK (fun σ H=>∃(ol bk wl hl l dl:Addr) (os:List Str) (rs:List zM.Rm) (F:yO) (k1:Nat) (qs:List Addr) (ws:List zM.Wg) (ds:List Addr) (ms:List Int) (Hn:Hp) (f9 f10 f11 f12:Option V),B36 a.zx K sc ns ol bk wl hl os rs F k1 qs ws Hn H/\zM.yL rs k1 ms/\uR Hn dl ds (Zc ws os.length rs ms)/\σ=[some (.ref sc),some (.ref ol),some (.ref bk),some (.int (k1:Nat)),some (.ref wl),some (.ref hl),some (.ref l),some (.ref dl),some (.int (yU ns 14)),f9,f10,f11,f12,none]) (fun t z=>(zj (U0 (i:=12) sc_law.nd rfl (Or.inr rfl) (zy Uz hr T.YX (za (zy yg hr T.z6 (za (pv 0) (za zq zc))) (za (zG zJ rfl T.yX yC (za (pv 1) zc)) zc))))
   (zj (yp (zK (Js rfl (hu8 hr)) (zy KZ hr T.P0 (za (pv 2) (za (pv 3) (za (uh Ze rfl T.Qq VJ (za (pv 12) zc)) zc)))) (zgO (uP:=zA S_law) (js:=[2,12]) rfl (by show zgN (zA S_law) _ "number" "load" ["book", "others"];exact⟨⟨rfl,by decide +kernel,by decide +kernel,by decide +kernel,by decide +kernel⟩,by decide +kernel,by decide +kernel,by decide +kernel⟩) rfl (yZ (pv 7)) (by show ∀j∈([2,12]:List Nat),j<14;decide) (fun cl C s₂ H₂ fp=>(wC (za (pv 0) (za (zy Ut hr T.Xo (za (pv 2) (za (pv 0) (za (pv 3) zc)))) zc))))) (zP _)) (zu (zL Yx)) zR)
   z))) ?_ ?_
 ·rintro u hu σ H ⟨ol,bk,wl,hl,l,dl,os,rs,F,k1,qs,ws,ds,ms,Hn,f9,f10,f11,bb,ZQ,hD,rfl⟩
  have hB:=bb.led.bk
  have BK:=L.bk hB
  have hk:=bb.hk
  have gn:=bb.led.same
  have o8:=(L.ord hB).le
  have lms:=ZQ.len BK hk
  have p8:2^os.length<=256:=zq3 (zrd (n:=2) (by decide) o8) (by decide)
  have nat:∀x∈ms,∃j:Nat,x=j/\zM.Reach rs k1 j:=fun x hx=>(ZQ.mem x).mp hx
  refine⟨_,rfl,sc,ns,41,rfl,gn.seq bb.sc_,_,rfl,ol,_,rfl,.inl (zT.of (gn _ _ bb.ol_)),yU ns 41,os.length,?_,o8,fun xl H1 xs vs g1 fxl hxl px lx ox=>?_⟩
  ·rw[zqI];rfl
  refine⟨_,rfl,_,rfl,_,rfl,xl,_,rfl,.inl (zT.of hxl),fun yl hyl=>?_⟩
  have gy:=Same.new hyl (.lst (xs.map V.ref))
  have ey:upd H1 yl (.lst (xs.map V.ref)) yl=some (.lst (xs.map V.ref)):=zf
  generalize upd H1 yl (.lst (xs.map V.ref))=H2 at gy ey
  have g2:=g1.trans gy
  have wx:yW K H2 xl xs vs os.length:=⟨zT.of (gy _ _ hxl),yP (fun _ _ r=>yN.of gy _ _ r) px,lx,ox⟩
  have wy:yW K H2 yl xs vs os.length:=⟨zT.of ey,wx.at_,lx,ox⟩
  refine⟨bk,yl,os,rs,F,k1,xs,vs,rfl,L.same hB g2,hk,bb.few,wy,fun r ts ms3 H3 g3 fr zkk pt hr'=>?_⟩
  obtain rfl:=zkk.eq ZQ
  have hT3:=KQ pt hr'
  have g23:=g2.trans g3
  have hD3:=hD.mono (gn.trans g23)
  have ld:=yx hD3.2
  have ll:(Zc ws os.length rs ms3).length=ms3.length:=by unfold Zc;rw[zqI]
  refine⟨_,rfl,dl,rfl,⟨_,zT.of hD3.1⟩,?_⟩
  refine zbg (xs:=ds.map V.ref) (fun m ys H'=>Same H3 H'/\∃es:List Addr,ys=es.map V.ref/\Paired (fun t (p:Int×Option Int)=>H' t=some (.tup [.int p.1,yR p.2])) es (Zc vs os.length rs (ms3.take m))) ⟨Same.refl _,[],rfl,.nil⟩ (by rw[zqI];exact zq0 (zQ (by omega))) ?_ ?_ (fun _ _ _ _ h q=>h _ _ q) ?_ ?_
  ·rintro m ys H' hm ⟨gg,es,rfl,he⟩
   have:=yx he
   unfold Zc at this
   rw[zqI,zq5] at this
   exact⟨zT.of (gg _ _ hD3.1),by rw[zqI];omega⟩
  ·rintro m x ys H' hx ⟨gg,es,rfl,he⟩
   rw[zqK] at hx
   cases hm:ds[m]? with
   | none=>rw[hm] at hx;cases hx
   | some t =>
    rw[hm] at hx
    cases hx
    obtain⟨p,hp,ht⟩:=uQ hD3.2 hm
    unfold Zc at hp
    rw[zqK] at hp
    cases hy:ms3[m]? with
    | none=>rw[hy] at hp;cases hp
    | some y =>
     rw[hy] at hp
     cases hp
     obtain⟨j,rfl,rj⟩:=nat y (zqN hy)
     refine⟨t,_,_,rfl,xM.of (gg _ _ ht),?_⟩
     refine zfH (WR ?_)
     have gz:=g23.trans gg
     refine⟨_,rfl,_,rfl,_,rfl,_,rfl,bk,xl,os,rs,F,j,xs,vs,rfl,L.same hB gz,rj.lt BK hk,wx.mono (g3.trans gg),fun H4 g4=>⟨by show 2<=sizeLine;decide,fun t ht=>?_⟩⟩
     have g5:=Same.new ht (.tup [.int (j:Nat),yR (zM.ld vs os.length rs j)])
     refine⟨gg.trans (g4.trans g5),es++[t],by rw[zqW];rfl,?_⟩
     rw[zZ hy]
     unfold Zc
     rw[zqW]
     exact YJ (yP (fun _ _ e=>(g4.trans g5) _ _ e) he) (.cons zf .nil)
  ·rintro σ' H5 Q1 Q2 hQ ⟨v1,e1,v2,e2,v3,e3,v4,e4,b',w',os',rs',F',j',q0,w0,y1,y2,y3,y4,q'⟩
   exact⟨v1,e1,v2,e2,v3,e3,v4,e4,b',w',os',rs',F',j',q0,w0,y1,y2,y3,y4,fun H6 g6=>let ⟨z1,z2⟩:=q' H6 g6;⟨z1,fun p hp=>hQ _ _ (z2 p hp)⟩⟩
  rintro ys H4 el ⟨gg,es,rfl,he⟩ hel
  have e0:ms3.take (ds.map V.ref).length=ms3:=List.take_of_length_le (by rw[zqI];omega)
  rw[e0] at he
  have gel:=Same.new hel (.lst (es.map V.ref))
  have g34:=gg.trans gel
  have hT4:=hT3.mono g34
  refine⟨true,fun y=>absurd y.1 zqM,JL (n:=6) (zT.of hT4.1) (zT.of zf) hT4.2 (yP (fun _ _ e=>gel _ _ e) he),_,rfl,yq ?_⟩
  exact hu _ _ ⟨ol,bk,wl,hl,l,dl,os,rs,F,k1,qs,ws,ds,ms3,Hn,_,_,_,_,bb.new (g23.trans g34),ZQ,hD,rfl⟩
 refine⟨_,(zj (zH 13 sc_law.nd (yt (pv 2) T.zU T.Uo Nr hr (za (zy Vy hr T.Yc (za (pv 0) (za zq (za (zN yM zq (zN wu (zy yg hr T.z6 (za (pv 0) (za zq zc))) zq)) (za (pv 1) zc))))) zc)))
   (zj (yp (zK (Js rfl (hu8 hr)) (zy KZ hr T.P0 (za (pv 2) (za (pv 13) (za (pv 5) zc)))) (uK (uP:=zA S_law) (js:=[2,4]) rfl (by show Yy _ _ "one" ["book", "weights"];exact lco (by decide +kernel)) rfl (yZ (zy vI hr T.uZ (za (pv 2) (za (pv 13) zc)))) (by show ∀j∈([2,4]:List Nat),j<14;decide) (fun cl C s₂ H₂ fp=>(wC (za (pv 0) (za (zy Ut hr T.Xo (za (pv 1) (za (pv 0) (za (pv 2) zc)))) zc))))) (zP _)) (zu (zL Yx)) zR)
   (zu (zL (K7 (ug (zd0 rfl (hu8 hr)) (zy KZ hr T.P0 (za (pv 2) (za (pv 3) (za (pv 5) zc)))) (pv 7) (zP _)) (K6 (ug (zd0 rfl (hu8 hr)) (pv 5) (pv 4) (zP _)))))))),?_⟩
 rintro σ H ⟨ol,bk,wl,hl,l,dl,os,rs,F,k1,qs,ws,ds,ms,Hn,f9,f10,f11,f12,bb,ZQ,hD,rfl⟩
 have hB:=bb.led.bk
 have BK:=L.bk hB
 have hk:=bb.hk
 have gn:=bb.led.same
 have ho:=L.ord hB
 have o8:=ho.le
 obtain⟨dx0,fs,Sv,hm⟩:=L.ins hB
 refine⟨_,rfl,bk,dx0,fs,rfl,Sv,hm _ (by decide +kernel),_,rfl,_,rfl,sc,ns,42,rfl,gn.seq bb.sc_,?_⟩
 refine⟨yU ns 42,7,rfl,rfl,(show(0:Int)<7 by decide),1,_,rfl,rfl,_,rfl,sc,ol,ns,43,(1+yU ns 42%7).toNat,os,?_,gn.seq bb.sc_,zT.of (gn _ _ bb.ol_),ho.pos,o8,by have:=m0 42;omega,by have:=m1 42;omega,by decide,fun p1 H4 s1 g4 is1 in1 d1 ⟨P4,w4,u4⟩=>?_⟩
 ·show [V.ref sc,V.int 43,V.int (1+yU ns 42%7),V.ref ol]=_
  rw[em 42];rfl
 have L4:=bb.led.new L g4
 have y1:=m1 42
 refine⟨bk,p1,os,rs,F,s1,rfl,L4.bk,zq3 L4.len (by decide),is1,in1,zhn d1 (by omega),by omega,fun k2 rs2 F2 H5 aw tu hB5 nf gr hk2 hy2 hbd=>?_⟩
 have L5:=L4.grow aw hB5 nf hbd
 have B5:=L.bk hB5
 have zlW:zas rs2 k2:=ze8 B5 ⟨hk2,hy2⟩ (by omega) u4
 have w5:=bb.wl_.mono L5.same
 have h5:=bb.hl_.mono L5.same
 have p8:2^os.length<=256:=zq3 (zrd (n:=2) (by decide) o8) (by decide)
 refine⟨_,rfl,_,rfl,_,rfl,bk,hl,os,rs2,F2,k2,qs,ws,rfl,hB5,hk2,zlW,h5,fun r ts mm H6 g6 fr zkl pt hr'=>?_⟩
 have hT6:=KQ pt hr'
 have lms:=zkl.len B5 hk2
 have nat:∀x∈mm,∃j:Nat,x=j/\zM.Reach rs2 k2 j:=fun x hx=>(zkl.mem x).mp hx
 refine⟨_,rfl,_,rfl,bk,os,rs2,F2,k2,rfl,L.same hB5 g6,hk2,zlW,fun ul H7 mm2 g7 ful hul znE=>?_⟩
 obtain rfl:=znE.eq zkl
 have g67:=g6.trans g7
 refine⟨ul,rfl,⟨_,zT.of hul⟩,?_⟩
 refine Vl (xs:=mm2.map V.int) (fun m ys H'=>Same H7 H'/\∃es:List Addr,ys=es.map V.ref/\Paired (fun t (p:Int×Option Int)=>H' t=some (.tup [.int p.1,yR p.2])) es (Zc ws os.length rs2 (mm2.take m))) ⟨Same.refl _,[],rfl,.nil⟩ (by rw[zqI];exact zq0 (zQ (by omega))) ?_ ?_ ?_
 ·rintro m ys H' hm ⟨gg,es,rfl,he⟩
  have:=yx he
  unfold Zc at this
  rw[zqI,zq5] at this
  exact⟨zT.of (gg _ _ hul),by rw[zqI];omega⟩
 ·rintro m x ys H' Q0 hx ⟨gg,es,rfl,he⟩ hQ
  rw[zqK] at hx
  cases hm:mm2[m]? with
  | none=>rw[hm] at hx;cases hx
  | some y =>
   rw[hm] at hx
   cases hx
   obtain⟨j,rfl,rj⟩:=nat y (zqN hm)
   have gz:=g67.trans gg
   refine⟨_,rfl,_,rfl,_,rfl,_,rfl,bk,wl,os,rs2,F2,j,qs,ws,rfl,L.same hB5 gz,rj.lt B5 hk2,w5.mono gz,fun H8 g8=>⟨by show 2<=sizeLine;decide,fun t ht=>hQ _ _ ?_⟩⟩
   have g9:=Same.new ht (.tup [.int (j:Nat),yR (zM.ld ws os.length rs2 j)])
   refine⟨gg.trans (g8.trans g9),es++[t],by rw[zqW];rfl,?_⟩
   rw[zZ hm]
   unfold Zc
   rw[zqW]
   exact YJ (yP (fun _ _ e=>(g8.trans g9) _ _ e) he) (.cons zf .nil)
 rintro ys H8 el ⟨gg,es,rfl,he⟩ hel
 rw[zqI,zra] at he
 have gel:=Same.new hel (.lst (es.map V.ref))
 have g78:=gg.trans gel
 have hT8:=hT6.mono (g7.trans g78)
 refine⟨true,fun y=>absurd y.1 zqM,JL (n:=6) (zT.of hT8.1) (zT.of zf) hT8.2 (yP (fun _ _ e=>gel _ _ e) he),_,rfl,yq ?_⟩
 have g58:=g67.trans g78
 generalize upd H8 el (.lst (es.map V.ref))=H9 at g58
 have hk1:=zqR hk gr.len
 have znF:=zM.zc7 BK gr hk ZQ
 refine⟨_,rfl,_,rfl,_,rfl,bk,hl,os,rs2,F2,k1,qs,ws,rfl,L.same hB5 g58,hk1,zfV BK gr hk bb.few,h5.mono g58,fun r2 ts2 mm3 HA gA frA znG ptA hrA=>?_⟩
 obtain rfl:=znG.eq znF
 have hTA:=KQ ptA hrA
 rw[zeg BK B5 gr hk ZQ] at hTA
 have gZ:=g58.trans gA
 have hDA:=hD.mono (L5.same.trans gZ)
 refine⟨_,rfl,true,fun y=>absurd y.1 zqM,JL (n:=6) (zT.of hTA.1) (zT.of hDA.1) hTA.2 hDA.2,_,rfl,WR ?_⟩
 have wZ:=w5.mono gZ
 have hZ:=h5.mono gZ
 exact⟨_,rfl,_,rfl,true,fun y=>absurd y.1 zqM,zg2 (n:=6) hZ.lst wZ.lst wZ.at_,q _⟩
theorem ziX (T:Txt P w K mg a)(base:Heap):zF P w K mg base z7 60 a.a_law a.d_law p_law (zeT K):=by
 have cell:zF P w K mg base z7 1 a.xq a.xr yV (QT K):=zej (k:=0) T
 have draw:zF P w K mg base z7 1 a.vd a.vf wk R6:=ziQ (k:=0) T
 have order:=zhi (k:=1) T draw
 have sentence:=zcd (k:=1) T cell draw
 have zfe:zF P w K mg base z7 2 a.Z6 a.Z7 tQ Xq:=zdj (k:=1) T
 have zaf:zF P w K mg base z7 1 a.vZ a.v8 wO tM:=zcc (k:=0) T
 have flipped:=zei (k:=1) T zaf
 have zho:zF P w K mg base z7 1 a.Vs a.Vt Xv Vg:=zel (k:=0) T
 have ziY:=zdk (k:=1) T zho
 have lettersOf:zF P w K mg base z7 1 a.Zw a.Zx uo Yz:=zaB (k:=0) T
 have partsOf:zF P w K mg base z7 1 a.tR a.tU vR Z1:=zdl (k:=0) T
 have zag:=Kd (k:=1) T partsOf
 have shaped:=zce (k:=1) T zho lettersOf partsOf
 have zlX:=J5 (k:=2) T shaped zag
 have zf3:=M5 (k:=2) T ziY
 have ziZ:=Rt (k:=3) T zlX
 have zhp:=zcf (k:=2) T zag
 have zf4:=zaD (k:=3) T zhp (lettersOf.mono (by decide))
 have zhq:zF P w K mg base z7 1 a.ux a.uy wI (VN K):=Nk (k:=0) T
 have zf5:=Qs (k:=4) T zf4 (zhq.mono (by decide))
 have two:zF P w K mg base z7 2 a.v9 a.uc wJ zcS:=Ke (k:=1) T
 have table:=Ly (k:=2) T zfe (zaf.mono (by decide)) flipped (partsOf.mono (by decide)) two 24
 have zkm:=zen (k:=2) T (zaf.mono (by decide)) flipped
 have hangs:=zdo (k:=2) T flipped
 have first:=J6 (k:=3) T hangs
 have zhr:=WM (k:=4) T first (zkm.mono (by decide)) 9
 have enter:=zaF (k:=26) T (ziZ.mono (by decide)) (zf5.mono (by decide)) table (zhr.mono (by decide))
 have init:=zch (k:=3) T zf3 (zfe.mono (by decide))
 have mbr:zF P w K mg base z7 1 a.yE a.yF yr (tO a.zx):=Ss (k:=0) T
 have zkn:zF P w K mg base z7 1 a.uz a.uD wV (tZ (z9 a.zx)):=zaH (k:=0) T
 have plc:zF P w K mg base z7 1 a.vm a.vo xU (Vk a.zx):=M7 (k:=0) T
 have goi:zF P w K mg base z7 1 a.wX a.wY xZ (V2 a.zx):=zaG (k:=0) T
 have below:=J7 (k:=1) T mbr goi
 have yU:zF P w K mg base z7 1 a.xq a.xr yV (Kz K):=zf0 (k:=0) T
 have room:=zci (k:=1) T mbr plc goi
 have size:=zcj (k:=0) (base:=base) T
 have whole:zF P w K mg base z7 1 a.Yq a.Yr uV Ku:=zhl (k:=0) T
 have zhs:=zck (k:=2) T (zkn.mono (by decide)) room
 have rows:zF P w K mg base z7 1 a.Xm a.Xn Zu S7:=zdq (k:=0) T
 have leads:=zcl (k:=2) (K:=K) T room (zkn.mono (by decide))
 have under:=zaI (k:=2) T room
 have isW:zF P w K mg base z7 1 a.Ym a.Yn uT Zm:=J8 (k:=0) T
 have mW:=Qv (k:=1) T zkn isW
 have lws:=J9 (k:=1) T draw
 have lwt:zF P w K mg base z7 1 a.ZF a.ZG vY (Wq K):=zaK (k:=0) T
 have zht:=Kg (k:=1) (K:=K) T plc goi
 have lBy:=zdr (k:=2) (K:=K) T (goi.mono (by decide)) zht
 have zko:=zf2 (k:=3) (K:=K) T (mbr.mono (by decide)) (mW.mono (by decide)) (below.mono (by decide)) (lBy.imp zha)
 have load:=zds (k:=3) (K:=K) T zhs (rows.mono (by decide)) leads (lwt.mono (by decide))
 have due:=zer (k:=3) (K:=K) T zhs (room.mono (by decide))
 have ofB:=zcn (k:=2) T below
 have zlY:=zac (k:=3) (K:=K) T (mbr.mono (by decide)) (mW.mono (by decide)) ofB lBy
 have hold:=zco (k:=4) (K:=K) T (under.mono (by decide)) due
 have zkp:=zad (k:=4) (K:=K) T (under.mono (by decide)) due
 have znI:=zcp (k:=1) T draw
 exact ok_law (k:=58) T (yU.mono (by decide)) (order.mono (by decide)) (sentence.mono (by decide)) (lws.mono (by decide)) (under.mono (by decide)) (load.mono (by decide)) (whole.mono (by decide)) (znI.mono (by decide)) (hold.mono (by decide)) (zkp.mono (by decide)) (size.mono (by decide)) (init.mono (by decide)) (enter.mono (by decide)) (zko.mono (by decide)) (zlY.mono (by decide))
end
end K36
namespace PySem.W.Fast
def tw15267057433192290265:Nat:=0
def tw4010737502230168391:Nat:=0
def tw6737223421299765834:Nat:=0
def tw12457176159424614123:Nat:=0
def tw5370127431315117309:Nat:=0
def tw10227521480410474410:Nat:=0
def tw12462332435909537943:Nat:=0
def tw8020188608224101829:Nat:=0
def tw9893882515553541859:Nat:=0
def tw4399238854099607931:Nat:=0
def tw13240898916755303849:Nat:=0
def tw15953650604093051241:Nat:=0
def tw5436336144416634361:Nat:=0
def tw15810301502271658024:Nat:=0
def tw16284265854224274943:Nat:=0
def tw15349687092929813721:Nat:=0
def tw5957295760387970196:Nat:=0
def tw13963698353844849986:Nat:=0
def tw2406004471468546938:Nat:=0
def tw14423394524282021996:Nat:=0
def tw3859055223527767834:Nat:=0
def tw9559843040722928247:Nat:=0
def tw13515512407250437028:Nat:=0
def tw9826035650756152856:Nat:=0
def tw3635210617501880668:Nat:=0
def tw13198687372443397443:Nat:=0
def tw16914472340148955210:Nat:=0
def tw6833033092971926117:Nat:=0
def tw17424021058255532313:Nat:=0
def tw3043946498511948299:Nat:=0
def tw7469781614048539552:Nat:=0
def tw14642549647974058379:Nat:=0
def tw8256914972307509711:Nat:=0
def tw17200013249792741821:Nat:=0
def tw10977037580562843570:Nat:=0
def tw12368312052515412491:Nat:=0
def tw9951756064348791130:Nat:=0
def tw9008924361195140378:Nat:=0
def tw16513964059517272892:Nat:=0
def tw15506364065643993152:Nat:=0
def tw4651618267818210255:Nat:=0
def tw17923168636695145717:Nat:=0
def tw15814658251408847757:Nat:=0
def tw8711744383091173461:Nat:=0
def tw172110947980082555:Nat:=0
def tw9535884760383368607:Nat:=0
def tw7151926239159346359:Nat:=0
def tw10412095452598717268:Nat:=0
def tw14785275530623025878:Nat:=0
def tw9670468274110392052:Nat:=0
def tw15276509652864552977:Nat:=0
def tw11134863055537342285:Nat:=0
def tw16464026785385124447:Nat:=0
def tw13847665520236487304:Nat:=0
def tw17461749259559519274:Nat:=0
def tw13970291414823334052:Nat:=0
def tw1841076790432224224:Nat:=0
def tw9010498365519925141:Nat:=0
def tw6919755772691735343:Nat:=0
def tw14677709667409827842:Nat:=0
def tw9538994922378744201:Nat:=0
def tw8391325563530239908:Nat:=0
def tw169803288959573064:Nat:=0
def tw16494178581927608104:Nat:=0
def tw16903999943583119868:Nat:=0
def tw11564854548651033790:Nat:=0
def tw2652212030394564030:Nat:=0
def tw13836398073560332309:Nat:=0
def tw15294542714532174178:Nat:=0
def tw14271579312885031383:Nat:=0
def tw11739224248098619577:Nat:=0
def tw18245074011830191012:Nat:=0
def tw3338469368849772433:Nat:=0
def tw12514048622921815637:Nat:=0
def tw39398708775240076:Nat:=0
def tw18206697652579421884:Nat:=0
def tw14221559669695900298:Nat:=0
def tw9160555008677949801:Nat:=0
def tw18014894562342708034:Nat:=0
def tw3660955748706600887:Nat:=0
def tw7670134877411085666:Nat:=0
def tw6268653981459743729:Nat:=0
def tw18434472174656964397:Nat:=0
def tw3647741019966463483:Nat:=0
def tw14682607030284423681:Nat:=0
def tw17901785113750395944:Nat:=0
def tw6725186884435111153:Nat:=0
def tw17773437028097818424:Nat:=0
def tw18003460606292150651:Nat:=0
def tw13243753275537359221:Nat:=0
def tw13099684554936942641:Nat:=0
def tw8780690147428736310:Nat:=0
def tw6761500537831341573:Nat:=0
def tw8690732115650177652:Nat:=0
def tw9797207756074364937:Nat:=0
def tw3687838795401004544:Nat:=0
def tw1318655428119054818:Nat:=0
def tw12091949805845069510:Nat:=0
def tw16756057830373423428:Nat:=0
def tw13122559289708305094:Nat:=0
def tw11432012547340878147:Nat:=0
def tw17860558893298975640:Nat:=0
def tw8319711939009419023:Nat:=0
def tw15481242094721674267:Nat:=0
def tw17719217962233485803:Nat:=0
def tw4725494922369013160:Nat:=0
def tw17298547924979150417:Nat:=0
def tw13944725015376289739:Nat:=0
def tw8655883527513386132:Nat:=0
def tw11187723730767868774:Nat:=0
def tw9558302230422885465:Nat:=0
def tw10298914242050802562:Nat:=0
def tw2367596143108303839:Nat:=0
def tw5270450056744329263:Nat:=0
def tw4262182863619111270:Nat:=0
def tw3031503853024056028:Nat:=0
def tw14674775957946471572:Nat:=0
def tw4936888759717522755:Nat:=0
def tw1537114899661264214:Nat:=0
def tw10607064120834248035:Nat:=0
def tw323779419826746951:Nat:=0
def tw6934815152716398666:Nat:=0
def tw13017882173913259281:Nat:=0
def tw3954398233149976510:Nat:=0
def tw6161544907276206149:Nat:=0
def tw18217753372516110289:Nat:=0
def tw7265428201263927815:Nat:=0
def tw17423512806249312114:Nat:=0
def tw12674518497075401757:Nat:=0
def tw6986548055203528256:Nat:=0
def tw10167454118430702390:Nat:=0
def tw3539034324987426849:Nat:=0
def tw5053763800896292546:Nat:=0
def tw5333116818632403104:Nat:=0
def tw6274800061039078936:Nat:=0
def tw4180191196054302987:Nat:=0
def tw16588601633703681111:Nat:=0
def tw13371086672969574745:Nat:=0
def tw10035620811007243156:Nat:=0
def tw17339398668875463680:Nat:=0
def tw2942257518044358045:Nat:=0
def tw16601960774613468348:Nat:=0
def tw11633858632755395469:Nat:=0
def tw2130221831935048377:Nat:=0
def tw11805400413666364982:Nat:=0
def tw13144008543458410405:Nat:=0
def tw12947215620525540355:Nat:=0
def tw3850001167666070788:Nat:=0
def tw13757714512687582363:Nat:=0
def tw5249185189844874946:Nat:=0
def tw8807639044572421464:Nat:=0
def tw1108527935227112489:Nat:=0
def tw1252201638354232247:Nat:=0
def tw11060975128901280526:Nat:=0
def tw4721777470806008380:Nat:=0
def tw4597248097056331074:Nat:=0
def tw2460664000119128048:Nat:=0
def tw3384138681934880768:Nat:=0
def tw1746677405706740598:Nat:=0
def tw1721781130404117364:Nat:=0
def tw4947928433175987168:Nat:=0
def tw873428454587730339:Nat:=0
def tw12369009651457448607:Nat:=0
def tw17511988182144842272:Nat:=0
def tw4032407485969463486:Nat:=0
def tw200213119105331888:Nat:=0
def tw1340174372902965722:Nat:=0
def tw5844545331247755588:Nat:=0
def tw14932391124771085384:Nat:=0
def tw13915668429989162054:Nat:=0
def tw7578490040659838998:Nat:=0
def tw17163349018307132983:Nat:=0
def tw16695156683979995148:Nat:=0
def tw13325602782424282908:Nat:=0
def tw17427569472982305602:Nat:=0
def tw10424224990626934111:Nat:=0
def tw7023596186401826015:Nat:=0
def tw17035627109312484020:Nat:=0
def tw15511347710659361507:Nat:=0
def tw14497094149753594929:Nat:=0
def tw10163311083719154755:Nat:=0
def tw6039533726641125598:Nat:=0
def tw60969737031985052:Nat:=0
def tw361715485910394644:Nat:=0
def tw8111350030015791451:Nat:=0
def tw12064644170291580682:Nat:=0
end PySem.W.Fast
open PySem PySem.W PyProof.Rows
set_option maxRecDepth 100000 in
set_option maxHeartbeats 0 in
theorem PySem.Challenge.cw_decidebook_k36_loads_told_and_judged_holds : PySem.Challenge.rw_decidebook_k36_loads_told_and_judged.Holds := by
  w_on;o_law;k_head;(case hw => w_witness2)
  k_fill
  refine L2.zgo (l := PySem.Challenge.rw_decidebook_k36_loads_told_and_judged) (n := 63) (k := 60) (x := "script") (CX := L2.z7) (sp := ZP.zeT) rfl (by decide) rfl (by first | exact⟨rfl, by decide, by decide⟩ | exact⟨rfl, rfl, by decide, by decide⟩) (fun w h Y => PySem.W.kIn_of Y) ?F ?S ?C
  case F =>
    intro w mg fa h KX G hmg
    have T : ∃a, K36.Txt PySem.Challenge.rw_decidebook_k36_loads_told_and_judged.prog w (L2.KOf KX) mg a := by
      dsimp only[L2.KOf]
      apply K36.zlE
      constructor
      (try dsimp only);apply mg_of KX G;k_is
      iterate 45 ((try dsimp only);apply L2.dfm KX G;k_is;k_is;k_is;k_is;intro _ _ _ _ _ _ us hl;first|(have z:=L2.Ro hl;subst z;rfl)|(obtain⟨_,us,e,hm⟩:=L2.Q6 hl;clear hl;subst e;have hl:=hm;clear hm;first|(have z:=L2.Ro hl;subst z;rfl)|(obtain⟨_,us,e,hm⟩:=L2.Q6 hl;clear hl;subst e;have hl:=hm;clear hm;first|(have z:=L2.Ro hl;subst z;rfl)|(obtain⟨_,us,e,hm⟩:=L2.Q6 hl;clear hl;subst e;have hl:=hm;clear hm;first|(have z:=L2.Ro hl;subst z;rfl)|(obtain⟨_,us,e,hm⟩:=L2.Q6 hl;clear hl;subst e;have hl:=hm;clear hm;first|(have z:=L2.Ro hl;subst z;rfl)|(obtain⟨_,us,e,hm⟩:=L2.Q6 hl;clear hl;subst e;have hl:=hm;clear hm;first|(have z:=L2.Ro hl;subst z;rfl)|(obtain⟨_,us,e,hm⟩:=L2.Q6 hl;clear hl;subst e;have hl:=hm;clear hm;first|(have z:=L2.Ro hl;subst z;rfl)|(obtain⟨_,us,e,hm⟩:=L2.Q6 hl;clear hl;subst e;have hl:=hm;clear hm;(have z:=L2.Ro hl;subst z;rfl)))))))))
      iterate 10 ((try dsimp only);apply L2.dmm;k_is;k_is;k_is;k_is;k_is;intro _ _ _ _ _ _ us hl;first|(have z:=L2.Ro hl;subst z;rfl)|(obtain⟨_,us,e,hm⟩:=L2.Q6 hl;clear hl;subst e;have hl:=hm;clear hm;first|(have z:=L2.Ro hl;subst z;rfl)|(obtain⟨_,us,e,hm⟩:=L2.Q6 hl;clear hl;subst e;have hl:=hm;clear hm;first|(have z:=L2.Ro hl;subst z;rfl)|(obtain⟨_,us,e,hm⟩:=L2.Q6 hl;clear hl;subst e;have hl:=hm;clear hm;first|(have z:=L2.Ro hl;subst z;rfl)|(obtain⟨_,us,e,hm⟩:=L2.Q6 hl;clear hl;subst e;have hl:=hm;clear hm;first|(have z:=L2.Ro hl;subst z;rfl)|(obtain⟨_,us,e,hm⟩:=L2.Q6 hl;clear hl;subst e;have hl:=hm;clear hm;first|(have z:=L2.Ro hl;subst z;rfl)|(obtain⟨_,us,e,hm⟩:=L2.Q6 hl;clear hl;subst e;have hl:=hm;clear hm;first|(have z:=L2.Ro hl;subst z;rfl)|(obtain⟨_,us,e,hm⟩:=L2.Q6 hl;clear hl;subst e;have hl:=hm;clear hm;(have z:=L2.Ro hl;subst z;rfl)))))))))
      iterate 2 ((try dsimp only);constructor;k_is;k_is;k_is;k_is)
      iterate 4 ((try dsimp only);unfold L2.XD;k_is)
      iterate 2 ((try dsimp only);apply mg_of KX G;k_is)
      (try dsimp only);apply L2.zib;k_is;rfl;decide
      iterate 3 ((try dsimp only);apply mg_of KX G;k_is)
      (try dsimp only);apply L2.zjX;k_is;rfl;(unfold K36.xg;decide +kernel);(unfold K36.xg;iterate 10 (apply L2.Ent.cons;k_is;rfl));apply L2.Ent.nil
      iterate 16 ((try dsimp only);apply mg_none_of KX G;k_is)
    obtain⟨a, T⟩ := T
    have e0 := hmg.symm.trans T.f_law.m
    cases e0
    exact⟨_, K36.x_law T.f_law, fun base kb nb => K36.ziX T base⟩
  case S => exact fun K H a ns hl hO hS => ⟨a, ns, rfl, hS, hl, fun _ => rfl⟩
  case C => exact fun _ _ _ _ h => h
