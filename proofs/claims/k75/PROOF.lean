import PyProof.Rows.All
import Wide.All
import OpenK.AllK
import Wide.FinOn
import Lean
import PyProof.EqAt
import PyProof.EqKinds
import PyProof.TupleCall
import KE.KRevIter
import PySem.Challenge.RW_decidebook_k75_ways_told
open PySem.W (Frag nsIn mg_of findIn mg_none_of)
def zCI:=@List.length_map
def zCJ:=@List.getElem?_eq_getElem
def zCK:=@List.getElem?_map
def zCL:=@List.getElem?_eq_some_iff
def zCM:=@Bool.false_ne_true
def zCN:=@List.mem_of_getElem?
def zCO:=@PySem.Heap.get?_push_of_some
def zCP:=@PySem.Heap.lt_size
def zCQ:=@List.length_append
def zCR:=@Nat.lt_of_lt_of_le
def zCS:=@List.size_toArray
def zCT:=@List.mem_cons_of_mem
def zCU:=@List.length_cons
def zCV:=@List.getD_eq_getElem?_getD
def zCW:=@List.map_append
def zCX:=@Nat.ne_of_lt
def zCY:=@Nat.le_refl
def zCZ:=@List.mem_append_right
def zC0:=@List.length_range
def zC1:=@Nat.le_of_lt
def zC2:=@List.mem_cons_self
def zC3:=@PySem.Heap.get?_push_size
def zC4:=@Nat.le_trans
def zC5:=@Nat.zero_le
def zC6:=@List.length_take
def zC7:=@List.map_cons
def zC8:=@List.lookup_cons
def zC9:=@List.not_mem_nil
def zDa:=@Bool.and_eq_true
def zDb:=@List.take_length
def zDc:=@List.all_eq_true
def zDd:=@Option.some.inj
def zDe:=@Nat.pow_le_pow_right
def zDf:=@List.getElem?_append_left
def zDg:=@List.length_singleton
def zDh:=@List.length_filter_le
def zDi:=@List.getElem?_eq_none
def zDj:=@Nat.le_add_right
def zDk:=@List.map_map
def zDl:=@List.of_mem_zip
def zDm:=@Int.toNat_natCast
def zDn:=@List.filter_append
def zDo:=@Int.emod_lt_of_pos
def zDp:=@Bool.eq_iff_iff
def zDq:=@List.getElem_mem
def zDr:=@List.getElem_of_mem
def zDs:=@Int.emod_nonneg
set_option Elab.async false
set_option linter.all false
set_option maxRecDepth 100000
namespace L2
open PySem PySem.Spec PyProof.Rows
abbrev Key:=Sum Int Str
def zfY:Key->Value->Bool
 | .inl k,v=>Value.isInt k v
 | .inr x,v=>Value.isStrOf x v
def zuV (w:World):Key->Int
 | .inl k=>hashInt k
 | .inr x=>hashStr w x
theorem uc:∀{k:Key} {v:Value},zfY k v=true->(∃i t,k=Sum.inl i/\v=Value.int i t)\/(∃x t,k=Sum.inr x/\v=Value.str x t)
 | .inl i,v,h=>by
  obtain⟨t,e⟩:=Value.isInt_shape (k:=i) (v:=v) h
  exact .inl ⟨i,t,rfl,e⟩
 | .inr x,v,h=>by
  obtain⟨t,e⟩:=Value.isStrOf_shape (x:=x) (v:=v) h
  exact .inr ⟨x,t,rfl,e⟩
theorem zmh (i:Int)(t:Tok):zfY (.inl i) (.int i t)=true:=by simp[zfY,Value.isInt]
theorem zmi (x:Str)(t:Tok):zfY (.inr x) (.str x t)=true:=by simp[zfY,Value.isStrOf]
theorem zrm (a b:Int):decide ((Sum.inl a:Key)=Sum.inl b)=(a==b):=by
 by_cases e:a=b
 ·subst e;simp
 ·have h:¬(Sum.inl a:Key)=Sum.inl b:=fun q=>e (Sum.inl.inj q)
  rw[decide_eq_false h]
  exact(beq_eq_false_iff_ne.mpr e).symm
theorem zrn (a b:Str):decide ((Sum.inr a:Key)=Sum.inr b)=decide (a=b):=by
 by_cases e:a=b
 ·subst e;simp
 ·have h:¬(Sum.inr a:Key)=Sum.inr b:=fun q=>e (Sum.inr.inj q)
  rw[decide_eq_false h,decide_eq_false e]
theorem zro (a:Int)(b:Str):decide ((Sum.inl a:Key)=Sum.inr b)=false:=decide_eq_false (fun q=>nomatch q)
theorem zrp (a:Str)(b:Int):decide ((Sum.inr a:Key)=Sum.inl b)=false:=decide_eq_false (fun q=>nomatch q)
def vh (prog:Program)(w:World):PySem.KeyKind prog w Key where
 is:=zfY
 hash:=zuV w
 inj:=fun v a b ha hb=>by
  rcases uc ha with ⟨i,t,rfl,rfl⟩ | ⟨x,t,rfl,rfl⟩
  ·rcases uc hb with ⟨j,u,rfl,e⟩ | ⟨y,u,rfl,e⟩
   ·injection e with e1 _;rw[e1]
   ·exact nomatch e
  ·rcases uc hb with ⟨j,u,rfl,e⟩ | ⟨y,u,rfl,e⟩
   ·exact nomatch e
   ·injection e with e1 _;rw[e1]
 byValue:=fun k v h=>by
  rcases uc h with ⟨i,t,rfl,rfl⟩ | ⟨x,t,rfl,rfl⟩<;>rfl
 pyHash:=fun hv h=>by
  rcases uc hv with ⟨i,t,rfl,rfl⟩ | ⟨x,t,rfl,rfl⟩
  ·exact wpAny_pyHash_int h
  ·exact wpAny_pyHash_str h
 eqBool:=fun hu hv h=>by
  rcases uc hu with ⟨i,t,rfl,rfl⟩ | ⟨x,t,rfl,rfl⟩
  ·rcases uc hv with ⟨j,u,rfl,rfl⟩ | ⟨y,u,rfl,rfl⟩
   ·rw[zrm] at h;exact wpAny_eqBool_int h
   ·rw[zro] at h;exact SeqAt.EqAt.int_str i t y u _ _ _ _ h
  ·rcases uc hv with ⟨j,u,rfl,rfl⟩ | ⟨y,u,rfl,rfl⟩
   ·rw[zrp] at h;exact SeqAt.EqAt.str_int x t j u _ _ _ _ h
   ·rw[zrn] at h;exact wpAny_eqBool_str h
 «strs»:=fun k x t v h=>by
  rcases uc h with ⟨i,u,rfl,e⟩ | ⟨y,u,rfl,e⟩
  ·exact nomatch e
  ·injection e with e1 _
   subst e1
   cases v<;>rfl
theorem zh6 (prog:Program)(w:World)(i:Int)(t:Tok):(vh prog w).is (.inl i) (.int i t)=true:=zmh i t
theorem zh7 (prog:Program)(w:World)(x:Str)(t:Tok):(vh prog w).is (.inr x) (.str x t)=true:=zmi x t
inductive V where
 | non | bl (b:Bool) | int (i:Int) | str (x:Str) | byt (b:Array UInt8) | flt (b:UInt64) | ref (a:Addr) | ty (n:String)
 deriving DecidableEq
def RelV:V->Value->Prop
 | .non,u=>u=Value.none
 | .bl b,u=>u=Value.bool b
 | .int i,u=>∃t,u=Value.int i t
 | .str x,u=>∃t,u=Value.str x t
 | .byt b,u=>∃t,u=Value.bytes b t
 | .flt b,u=>∃t,u=Value.float b t
 | .ref a,u=>u=Value.ref a
 | .ty n,u=>u=Value.type n
abbrev Vals:List V->List Value->Prop:=Paired RelV
theorem Vals.length {xs:List V}{us:List Value}(r:Vals xs us):xs.length=us.length:=Paired.length r
theorem Vals.get:∀{xs:List V} {us:List Value} {i:Nat} {x:V},Vals xs us->xs[i]?=some x->∃u,us[i]?=some u/\RelV x u
 | _,_,_,_,.nil,e=>by simp at e
 | _,_,0,_,.cons r _,e=>by simp at e;subst e;exact⟨_,rfl,r⟩
 | _,_,i+1,x,.cons _ t,e=>by
  obtain⟨u,h1,h2⟩:=Vals.get (i:=i) (x:=x) t (by simpa using e)
  exact⟨u,by simpa using h1,h2⟩
theorem Vals.append:∀{xs ys:List V} {us ws:List Value},Vals xs us->Vals ys ws->Vals (xs++ys) (us++ws)
 | _,_,_,_,.nil,s=>s
 | _,_,_,_,.cons r t,s=>.cons r (Vals.append t s)
theorem Vals.take:∀{xs:List V} {us:List Value} (n:Nat),Vals xs us->Vals (xs.take n) (us.take n)
 | _,_,0,_=>.nil
 | _,_,_+1,.nil=>.nil
 | _,_,n+1,.cons r t=>.cons r (Vals.take n t)
theorem Vals.drop:∀{xs:List V} {us:List Value} (n:Nat),Vals xs us->Vals (xs.drop n) (us.drop n)
 | _,_,0,r=>r
 | _,_,_+1,.nil=>.nil
 | _,_,n+1,.cons _ t=>Vals.drop n t
def KZ:Option V->Option Value->Prop
 | some v,some u=>RelV v u
 | none,none=>True
 | _,_=>False
def KV {κ:Type}:List (κ×V)->List (κ×Value)->Prop:=Paired fun(p:κ×V) (q:κ×Value)=>p.1=q.1/\RelV p.2 q.2
def kV:Key->V
 | .inl i=>.int i
 | .inr x=>.str x
inductive HO where
 | lst (xs:List V)
 | tup (xs:List V)
 | dK (kvs:List (Key×V)) | dT (kvs:List (List Key×V))
 | set (S:Int->Bool) (n:Nat)
 | ins (C dx:Addr) (fs:List (Str×V))
 | own (x:Addr)
 | xd (fs:List (Str×V))
 | met (f x:Addr)
 | rng (lo hi:Int)
 | frz (o:Obj) (u:HO)
 | tbl (ps:Array Value)
 | ext (φ:Heap->Prop)
abbrev Hp:=Addr->Option HO
def upd (H:Hp)(a:Addr)(o:HO):Hp:=fun b=>if b=a then some o else H b
theorem zj {H:Hp}{a:Addr}{o:HO}:upd H a o a=some o:=by unfold upd;rw[if_pos rfl]
theorem zJ {H:Hp}{a b:Addr}{o:HO}(h:b≠a):upd H a o b=H b:=by unfold upd;rw[if_neg h]
theorem zlk {H:Hp}{a:Addr}{o u:HO}:upd (upd H a o) a u=upd H a u:=by
 funext b;unfold upd;split<;>rfl
theorem NQ {H:Hp}{a b:Addr}{o u:HO}(h:H a=some o)(h':H b=some u)(d:o≠u):a≠b:=by
 intro e;subst e;rw[h] at h';exact d (zDd h')
theorem zE {H:Hp}{a b:Addr}{o:HO}(h:H a=some o)(h':H b=none):a≠b:=by
 intro e;subst e;rw[h] at h';cases h'
section
variable (P:Program)(w:World)
def vV (H:Hp)(h:Heap)(a:Addr):HO->Prop
 | .lst xs=>xs.length<=sizeLine/\∃(its:List Value) (n:Nat),Vals xs its/\h.get? a=some { cls:=.type "list", data:=.seq its.toArray n }
 | .tup xs=>xs.length<=sizeLine/\∃its:List Value,Vals xs its/\IsTup h a its.toArray
 | .dK kvs=>kvs.length<=sizeLine/\(a==sysModules)=false/\∃vs,KV kvs vs/\h.DictOf (vh P w) a vs
 | .dT kvs=>kvs.length<=sizeLine/\(a==sysModules)=false/\∃xs:List (List Key×Addr×Value),
   Paired (fun(p:List Key×V) (q:List Key×Addr×Value)=>p.1=q.1/\H q.2.1=some (.tup (p.1.map kV))/\RelV p.2 q.2.2) kvs xs /\
   ∃o es ep,h.get? a=some o/\o.ExactDict/\o.data=.dict es ep/\es.toList=xs.map (entryOfKey (tupleKind (vh P w)))/\(xs.map (·.1)).Nodup
 | .set S n=>h.SetOf (intKind P w) a S n
 | .ins C dx fs=>H dx=some (.own a)/\fs.length<=1000/\dx≠a/\h.get? a=some (PySem.W.instObj C dx) /\
   ∃mA,h.Ns1 dx mA/\(∀f,KZ (fs.lookup f) (mA f))/\PySem.Within mA (fs.map (·.1))
 | .own _=>∃o,h.get? a=some o
 | .xd fs=>∃mA,h.Ns1 a mA/\∀f,KZ (fs.lookup f) (mA f)
 | .rng lo hi=>∃t u v,h.get? a=some { cls:=.type "range", data:=.fields #[.int lo t,.int hi u,.int 1 v] }
 | .frz o u=>h.get? a=some o/\vV H h a u
 | .tbl ps=>h.get? a=some { cls:=.none,data:=.fields ps }
 | .met f x=>h.get? a=some (PySem.W.methodObj (.ref f) (.ref x))
 | .ext φ=>φ h/\(∃o,h.get? a=some o)/\∀h1 h2:Heap,φ h1->(∀o,h1.get? a=some o->h2.get? a=some o)->φ h2
def K1 (H:Hp)(h:Heap):Prop:=∀a o,H a=some o->vV P w H h a o
end
section
variable {P:Program}{w:World}{H H':Hp}{h h':Heap}{a:Addr}{o:HO}
theorem vV.lt (x:vV P w H h a o):a<h.objs.size:=by
 cases o with
 | lst xs=>obtain⟨_,_,_,_,e⟩:=x;exact zCP e
 | tup xs=>obtain⟨_,_,_,p⟩:=x;exact p.lt
 | dK kvs=>obtain⟨_,_,_,_,o,_,_,e,_⟩:=x;exact zCP e
 | dT kvs=>obtain⟨_,_,_,_,o,_,_,e,_⟩:=x;exact zCP e
 | set S n=>obtain⟨o,_,_,_,e,_⟩:=x;exact zCP e
 | ins C dx fs=>obtain⟨_,_,_,e,_⟩:=x;exact zCP e
 | own y=>obtain⟨_,e⟩:=x;exact zCP e
 | xd fs=>obtain⟨_,⟨_,_,_,e,_⟩,_⟩:=x;exact zCP e
 | rng lo hi=>obtain⟨_,_,_,e⟩:=x;exact zCP e
 | frz ob u=>obtain⟨e,_⟩:=x;exact zCP e
 | tbl ps=>exact zCP (show h.get? a=some _ from x)
 | met f y=>exact zCP (show h.get? a=some _ from x)
 | ext φ=>obtain⟨_,⟨_,e⟩,_⟩:=x;exact zCP e
theorem Paired.zrr {α β:Type}{F G:α->β->Prop}:∀{l₁:List α} {l₂:List β},Paired F l₁ l₂->(∀a b,F a b->G a b)->Paired G l₁ l₂
 | _,_,.nil,_=>.nil
 | _,_,.cons r t,f=>.cons (f _ _ r) (Paired.zrr t f)
theorem vV.stay (x:vV P w H h a o)(k:∀b u,(b=a\/H b=some (.own a))->h.get? b=some u->h'.get? b=some u)
  (ho:∀b,H b=some (.own a)->H' b=some (.own a))(ht:∀b xs,H b=some (.tup xs)->H' b=some (.tup xs)):vV P w H' h' a o:=by
 induction o with
 | lst xs=>obtain⟨z,its,n,r,e⟩:=x;exact⟨z,its,n,r,k _ _ (.inl rfl) e⟩
 | tup xs=>obtain⟨z,its,r,ob,e,c⟩:=x;exact⟨z,its,r,ob,k _ _ (.inl rfl) e,c⟩
 | dK kvs=>obtain⟨z,y,vs,r,ob,es,ep,e,c⟩:=x;exact⟨z,y,vs,r,ob,es,ep,k _ _ (.inl rfl) e,c⟩
 | dT kvs =>
  obtain⟨z,y,xs,r,ob,es,ep,e,c⟩:=x
  exact⟨z,y,xs,Paired.zrr r fun p q z=>⟨z.1,ht _ _ z.2.1,z.2.2⟩,ob,es,ep,k _ _ (.inl rfl) e,c⟩
 | set S n=>obtain⟨ob,es,ep,t,e,c⟩:=x;exact⟨ob,es,ep,t,k _ _ (.inl rfl) e,c⟩
 | ins C dx fs =>
  obtain⟨d,z,ne,e,mA,⟨od,es,ep,e2,c⟩,r⟩:=x
  exact⟨ho _ d,z,ne,k _ _ (.inl rfl) e,mA,⟨od,es,ep,k _ _ (.inr d) e2,c⟩,r⟩
 | own y=>obtain⟨ob,e⟩:=x;exact⟨ob,k _ _ (.inl rfl) e⟩
 | xd fs=>obtain⟨mA,⟨od,es,ep,e,c⟩,r⟩:=x;exact⟨mA,⟨od,es,ep,k _ _ (.inl rfl) e,c⟩,r⟩
 | rng lo hi=>obtain⟨t,u,v,e⟩:=x;exact⟨t,u,v,k _ _ (.inl rfl) e⟩
 | frz ob u ih=>obtain⟨e,q⟩:=x;exact⟨k _ _ (.inl rfl) e,ih q⟩
 | tbl ps =>
  have e:h.get? a=some { cls:=.none,data:=.fields ps }:=x
  show h'.get? a=some { cls:=.none,data:=.fields ps }
  exact k a _ (.inl rfl) e
 | met f y =>
  have e:h.get? a=some (PySem.W.methodObj (.ref f) (.ref y)):=x
  show h'.get? a=some (PySem.W.methodObj (.ref f) (.ref y))
  exact k a _ (.inl rfl) e
 | ext φ=>obtain⟨p,⟨o,e⟩,st⟩:=x;exact⟨st _ _ p fun o q=>k _ _ (.inl rfl) q,⟨o,k _ _ (.inl rfl) e⟩,st⟩
theorem K1.lt (x:K1 P w H h)(e:H a=some o):a<h.objs.size:=(x a o e).lt
theorem K1.fresh (x:K1 P w H h)(e:h.objs.size<=a):H a=none:=by
 cases q:H a with
 | none=>rfl
 | some u=>exact absurd (zCR (x.lt q) e) (Nat.lt_irrefl _)
theorem K1.kept (x:K1 P w H h)(k:∀b u,h.get? b=some u->h'.get? b=some u):K1 P w H h':=fun a o e =>
 (x a o e).stay (fun b u _ q=>k b u q) (fun _ q=>q) fun _ _ q=>q
theorem K1.laid (x:K1 P w H h)(k:∀b u,h.get? b=some u->h'.get? b=some u)(hp:h.objs.size<=a)(new:vV P w (upd H a o) h' a o):K1 P w (upd H a o) h':=fun b u e=>by
 have hn:=x.fresh hp
 by_cases hb:b=a
 ·subst hb;rw[zj] at e;cases e;exact new
 ·rw[zJ hb] at e
  exact(x b u e).stay (fun c v _ q=>k c v q) (fun c q=>by rw[zJ (zE q hn)];exact q) fun c xs q=>by rw[zJ (zE q hn)];exact q
end
def Rd (H:Hp)(a:Addr)(u:HO):Prop:=H a=some u\/∃o,H a=some (.frz o u)
theorem Rd.ok {P:Program}{w:World}{H:Hp}{h:Heap}{a:Addr}{u:HO}(r:Rd H a u)(x:K1 P w H h):vV P w H h a u:=by
 rcases r with r | ⟨o,r⟩
 ·exact x a u r
 ·obtain⟨_,q⟩:=x a _ r
  exact q
def Mut:Option HO->Prop
 | some (.lst _)=>True
 | some (.dK _)=>True
 | some (.dT _)=>True
 | some (.set _ _)=>True
 | some (.ins _ _ _)=>True
 | some (.ext _)=>True
 | _=>False
section
variable {P:Program}{w:World}{H:Hp}{h h':Heap}{x e:Addr}{o':HO}
theorem K1.write (ok:K1 P w H h)(mu:Mut (H x))(he:e=x\/H e=some (.own x))(k:∀b u,b≠e->h.get? b=some u->h'.get? b=some u)(heo:∃u,h'.get? e=some u)
  (new:vV P w (upd H x o') h' x o'):K1 P w (upd H x o') h':=fun b u q=>by
 have zsL:∀c y,H c=some (.own y)->c≠x:=fun c y r z=>by subst z;rw[r] at mu;exact mu
 have zuW:∀c xs,H c=some (.tup xs)->c≠x:=fun c xs r z=>by subst z;rw[r] at mu;exact mu
 by_cases hb:b=x
 ·subst hb;rw[zj] at q;cases q;exact new
 ·rw[zJ hb] at q
  by_cases hbe:b=e
  ·have q':H b=some (.own x):=by
    rcases he with z | z
    ·exact absurd (hbe.trans z) hb
    ·rw[hbe];exact z
   rw[q] at q';cases q'
   obtain⟨v,hv⟩:=heo
   exact⟨v,by rw[hbe];exact hv⟩
  ·refine(ok b u q).stay (fun c v hc r=>k c v ?_ r) (fun c r=>by rw[zJ (zsL c b r)];exact r) fun c xs r=>by rw[zJ (zuW c xs r)];exact r
   rcases hc with rfl | hc
   ·exact hbe
   ·rintro rfl
    rcases he with z | z
    ·exact zsL c b hc z
    ·rw[hc] at z;cases z;exact hb rfl
end
structure Un (fs ex:List Addr)(H H':Hp)(h h':Heap):Prop where
 keep:∀b o,h.get? b=some o->H b=none->b∉fs->b∉ex->h'.get? b=some o
 slot:∀b o,h.get? b=some o->H b=none->b∈fs->b∉ex->∃sl,h'.get? b=some { o with slots:=sl }
 free:∀b o,h.get? b=some o->H b=none->b∉ex->H' b=none
 there:∀b o,h.get? b=some o->b∉ex->∃o',h'.get? b=some o'
 tups:∀b xs,H b=some (.tup xs)->H' b=some (.tup xs)
 zfm:∀b o u,H b=some (.frz o u)->H' b=some (.frz o u)
 zgL:∀b ps,H b=some (.tbl ps)->∃more,H' b=some (.tbl (ps++more))
section
variable {fs fs' ex ex':List Addr}{H H1 H2:Hp}{h h1 h2 h':Heap}{a x e:Addr}{o:HO}
theorem Un.any (u:Un fs ex H H1 h h1){b:Addr}{ob:Obj}(q:h.get? b=some ob)(n:H b=none)(hx:b∉ex):∃sl,h1.get? b=some { ob with slots:=sl }:=by
 by_cases hb:b∈fs
 ·exact u.slot b ob q n hb hx
 ·exact⟨ob.slots,u.keep b ob q n hb hx⟩
theorem Un.kept (k:∀b u,h.get? b=some u->h'.get? b=some u):Un fs ex H H h h' :=
 ⟨fun b ob q _ _ _=>k b ob q,fun b ob q _ _ _=>⟨ob.slots,k b ob q⟩,fun _ _ _ n _=>n,fun b ob q _=>⟨ob,k b ob q⟩,fun _ _ q=>q,fun _ _ _ q=>q,fun _ ps q=>⟨#[],by rw[q];simp⟩⟩
theorem Un.refl:Un fs ex H H h h:=Un.kept fun _ _ q=>q
theorem Un.laid (k:∀b u,h.get? b=some u->h'.get? b=some u)(hp:h.objs.size<=a)(hn:H a=none):Un fs ex H (upd H a o) h h' where
 keep:=fun b u q _ _ _=>k b u q
 slot:=fun b u q _ _ _=>⟨u.slots,k b u q⟩
 free:=fun b u q n _=>by rw[zJ (zCX (zCR (zCP q) hp))];exact n
 there:=fun b u q _=>⟨u,k b u q⟩
 tups:=fun b xs q=>by rw[zJ (zE q hn)];exact q
 zfm:=fun b u xs q=>by rw[zJ (zE q hn)];exact q
 zgL:=fun b ps q=>⟨#[],by rw[zJ (zE q hn),q];simp⟩
theorem Un.write (mu:Mut (H x))(he:e=x\/H e=some (.own x))(k:∀b u,b≠e->h.get? b=some u->h'.get? b=some u)(heo:∃u,h'.get? e=some u):Un fs ex H (upd H x o) h h':=by
 have hx:∀b,H b=none->b≠x:=fun b n z=>by subst z;rw[n] at mu;exact mu
 have hb:∀b,H b=none->b≠e:=fun b n z=>by
  subst z
  rcases he with r | r
  ·exact hx b n r
  ·rw[n] at r;cases r
 have hm:∀b u,H b=some u->¬Mut (some u)->b≠x:=fun b u q nm z=>by subst z;rw[q] at mu;exact nm mu
 refine⟨fun b u q n _ _=>k b u (hb b n) q,fun b u q n _ _=>⟨u.slots,k b u (hb b n) q⟩,fun b u q n _=>by rw[zJ (hx b n)];exact n,fun b u q _=>?_,
  fun b xs q=>by rw[zJ (hm b _ q fun z=>z)];exact q,fun b u xs q=>by rw[zJ (hm b _ q fun z=>z)];exact q,fun b ps q=>⟨#[],by rw[zJ (hm b _ q fun z=>z),q];simp⟩⟩
 by_cases hbe:b=e
 ·subst hbe;exact heo
 ·exact⟨u,k b u hbe q⟩
end
def trk (h:Heap)(H:Hp):List Addr:=(List.range h.objs.size).filter fun a=>(H a).isSome
def zgM (h:Heap)(H:Hp):Heap:=PySem.W.hideAll h (trk h H)
theorem zmj (h:Heap)(H:Hp):(zgM h H).objs.size=h.objs.size:=PySem.W.hideAll_size _ _
theorem znx {h:Heap}{H:Hp}{b:Addr}{o:Obj}(e:h.get? b=some o)(n:H b=none):(zgM h H).get? b=some o :=
 PySem.W.hideAll_get _ e fun hm=>by
  have q:(H b).isSome=true:=(List.mem_filter.mp hm).2
  rw[n] at q;simp at q
theorem zpv {h:Heap}{H:Hp}{b:Addr}{o:Obj}(e:(zgM h H).get? b=some o):h.get? b=some o/\H b=none:=by
 have e':h.get? b=some o:=PySem.W.of_hideAll (trk h H) e
 refine⟨e',?_⟩
 cases q:H b with
 | none=>rfl
 | some x =>
  have hm:b∈trk h H:=List.mem_filter.mpr ⟨List.mem_range.mpr (zCP e'),by simp[q]⟩
  have z:(zgM h H).get? b=none:=PySem.W.hideAll_none (trk h H) hm
  rw[z] at e;cases e
structure Mod (K:Frag)(mg:Str->Option Value)(base:Heap):Prop where
 kin:K.In base
 glob:base.Ns mainGlobals mg
 blt:∃mb,base.Ns builtinsNs mb/\∀x:Str,x ≠ "__name__" -> mb x=bootBuiltins x
 nolimit:base.NoLimit
structure Cx where
 prog:Program
 w:World
 K:Frag
 mg:Str->Option Value
 base:Heap
 A:Around
 N:List Str
 s₀:Shared
 H₀:Hp
 env:Env
 outer:List Env
 stack:List Env
 ex:List Addr
 fn:Str->Bool
 calm:Bool
 pn:List (Addr×Obj)
 xe:Value->Shared->Prop
def frs (l:List Env):List Addr:=l.filterMap (·.frame)
abbrev Cx.fs (X:Cx):List Addr:=frs X.outer
def Vis (sc:Scope)(x:Str):Prop:=sc.names.lookup x=some .local\/sc.names.lookup x=some .cell\/sc.names.lookup x=some .free
def Loc (sc:Scope)(x:Str):Prop:=sc.names.lookup x=some .local\/sc.names.lookup x=some .cell
def Look (env:Env)(h:Heap)(m:Str->Option Value)(x:Str)(u:Value):Prop :=
 (env.kindOf x=some .local/\m x=some u)\/((env.kindOf x=some .cell\/env.kindOf x=some .free)/\∃c,env.cells.lookup x=some c/\h.IsCell c (some u))
structure Cx.Ok (X:Cx):Prop where
 mod:Mod X.K X.mg X.base
 kind:X.env.scope.kind=.function
 glob:X.env.globals=mainGlobals
 blt:X.env.builtins=builtinsNs
 above:X.s₀.heap.objs.size<=X.env.locals
 inj:∀x y c,X.env.cells.lookup x=some c->X.env.cells.lookup y=some c->x=y
 has:∀x,(X.env.kindOf x=some .cell\/X.env.kindOf x=some .free)->∃c,X.env.cells.lookup x=some c
 cab:∀x c,X.fn x=true->X.env.cells.lookup x=some c->X.s₀.heap.objs.size<=c
 hd:X.calm=true->X.A.handled=none
 frames:X.A.frames=some X.stack
 stk:X.stack=X.outer\/(X.stack=X.env::X.outer/\X.env.frame=some X.env.locals)
 exf:∀b∈X.ex,b≠X.env.locals/\∀x c,X.env.cells.lookup x=some c->c≠b
 bs:∀b o,X.base.get? b=some o->X.s₀.heap.get? b=some o/\X.H₀ b=none
 bsz:X.base.objs.size<=X.s₀.heap.objs.size
 zh8:∀b o,X.base.get? b=some o->b∉X.ex
 zh9:∀b∈X.ex,b∉X.fs
 zan:X.s₀.heap.FunFrames X.base X.outer
 frf:∀b∈X.fs,X.H₀ b=none
structure Inv (X:Cx)(pins:List (Addr×Obj))(σ:List (Option V))(H:Hp)(s:Shared):Prop where
 ok:X.Ok
 os:s.os=X.s₀.os
 bare:AllBare s.gens
 base:Un X.fs X.ex X.H₀ H X.s₀.heap s.heap
 loc:∃m,s.heap.Ns X.env.locals m/\∀(i:Nat) (x:Str) (v:V),X.N[i]?=some x->σ[i]?=some (some v)->Vis X.env.scope x->∃u,RelV v u/\Look X.env s.heap m x u
 cell:∀x c,X.env.cells.lookup x=some c->∃v,s.heap.IsCell c v
 free:H X.env.locals=none
 P0:∀x c,X.env.cells.lookup x=some c->H c=none
 pin:∀p∈X.pn++pins,s.heap.get? p.1=some p.2/\H p.1=none/\p.1≠X.env.locals/\p.1∉X.fs/\∀v,p.2.data≠.cell v
 hok:K1 X.prog X.w H s.heap
 len:σ.length=X.N.length
section
variable {X:Cx}{pins:List (Addr×Obj)}{σ:List (Option V)}{H H':Hp}{s:Shared}{h':Heap}
theorem Cx.Ok.zuX (ok:X.Ok){b:Addr}{o:Obj}(e:X.base.get? b=some o):b∉X.fs:=fun hb=>by
 have:=(ok.zan.mem hb).1
 rw[e] at this;cases this
theorem Inv.bs (I:Inv X pins σ H s):∀b o,X.base.get? b=some o->s.heap.get? b=some o/\H b=none:=fun b o e =>
 ⟨I.base.keep b o (I.ok.bs b o e).1 (I.ok.bs b o e).2 (I.ok.zuX e) (I.ok.zh8 b o e),I.base.free b o (I.ok.bs b o e).1 (I.ok.bs b o e).2 (I.ok.zh8 b o e)⟩
theorem Inv.bk (I:Inv X pins σ H s):∀b o,X.base.get? b=some o->s.heap.get? b=some o:=fun b o e=>(I.bs b o e).1
theorem Inv.mod (I:Inv X pins σ H s):Mod X.K X.mg X.base:=I.ok.mod
theorem Inv.kIn (I:Inv X pins σ H s):X.K.In s.heap:=I.ok.mod.kin.keeps I.bk
theorem Inv.lt (I:Inv X pins σ H s):X.env.locals<s.heap.objs.size:=let ⟨_,hn,_⟩:=I.loc;hn.lt
theorem Inv.sz (I:Inv X pins σ H s):X.s₀.heap.objs.size<=s.heap.objs.size:=zC4 I.ok.above (zC1 I.lt)
theorem Inv.znz (I:Inv X pins σ H s){a:Addr}(h:s.heap.objs.size<=a):a∉X.fs:=fun hb=>by
 obtain⟨_,o,ho,_⟩:=I.ok.zan.mem hb
 exact absurd (zCR (zCP ho) (zC4 I.sz h)) (Nat.lt_irrefl _)
theorem Inv.cne (I:Inv X pins σ H s):∀x c,X.env.cells.lookup x=some c->c≠X.env.locals:=fun x c e z=>by
 obtain⟨v,o,ho,hd⟩:=I.cell x c e
 obtain⟨m,⟨o',es,ep,ho',hd',_⟩,_⟩:=I.loc
 rw[z,ho'] at ho;cases ho;rw[hd'] at hd;cases hd
theorem Inv.zan (I:Inv X pins σ H s):s.heap.FunFrames X.base X.outer:=by
 have all:∀(l:List Env),(∀b∈frs l,b∈X.fs)->X.s₀.heap.FunFrames X.base l->s.heap.FunFrames X.base l:=by
  intro l
  induction l with
  | nil=>intro _ _;trivial
  | cons env r ih =>
   intro hs hl
   obtain⟨hk,⟨L,o,hf,hn,ho,hd⟩,hr⟩:=hl
   have hL:L∈X.fs:=hs L (by unfold frs;rw[List.filterMap_cons,hf];exact zC2)
   obtain⟨sl,e⟩:=I.base.slot L o ho (I.ok.frf L hL) hL fun z=>I.ok.zh9 L z hL
   exact⟨hk,⟨L,_,hf,hn,e,hd⟩,ih (fun b hb=>hs b (by unfold frs;rw[List.filterMap_cons,hf];exact zCT _ hb)) hr⟩
 exact all X.outer (fun _ hb=>hb) I.ok.zan
theorem Inv.stack (I:Inv X pins σ H s):s.heap.FunFrames X.base X.stack:=by
 rcases I.ok.stk with e | ⟨e,hf⟩
 ·rw[e];exact I.zan
 ·rw[e]
  obtain⟨m,hn,_⟩:=I.loc
  refine .cons (by rw[I.ok.kind];decide) hf hn ?_ I.zan
  exact Heap.get?_none_of_le (zC4 I.ok.bsz I.ok.above)
theorem Inv.zbm (I:Inv X pins σ H s):∀b∈frs X.stack,b∈X.env.locals::X.fs:=fun b hb=>by
 rcases I.ok.stk with e | ⟨e,hf⟩
 ·rw[e] at hb;exact zCT _ hb
 ·rw[e] at hb
  unfold frs at hb
  rw[List.filterMap_cons,hf] at hb
  exact hb
theorem Inv.zgN (I:Inv X pins σ H s):∀b∈frs X.stack,H b=none:=fun b hb=>by
 rcases List.mem_cons.mp (I.zbm b hb) with e | hb
 ·rw[e];exact I.free
 ·obtain⟨_,o,ho,_⟩:=I.ok.zan.mem hb
  exact I.base.free b o ho (I.ok.frf b hb) fun z=>I.ok.zh9 b z hb
theorem Inv.step {g':Array GenState}{t':Nat}{d':Drawn}{ch:List Addr}(I:Inv X pins σ H s)
  (hch:∀b∈ch,(b∈X.ex\/X.s₀.heap.objs.size<=b)/\b≠X.env.locals/\(∀x c,X.env.cells.lookup x=some c->c≠b)/\∀p∈X.pn++pins,p.1≠b)
  (keep:∀b o,b≠X.env.locals->b∉X.fs->b∉ch->s.heap.get? b=some o->H b=none->h'.get? b=some o)
  (slot:∀b o,b≠X.env.locals->b∈X.fs->b∉ch->s.heap.get? b=some o->H b=none->∃sl,h'.get? b=some { o with slots:=sl })(free:∀b o,b∉ch->s.heap.get? b=some o->H b=none->H' b=none)
  (there:∀b o,b∉ch->s.heap.get? b=some o->∃o',h'.get? b=some o')
  (tups:∀b xs,H b=some (.tup xs)->H' b=some (.tup xs))(zfm:∀b o u,H b=some (.frz o u)->H' b=some (.frz o u))(zgL:∀b ps,H b=some (.tbl ps)->∃more,H' b=some (.tbl (ps++more)))
  (ns:∀m,s.heap.Ns X.env.locals m->h'.Ns X.env.locals m)(hok:K1 X.prog X.w H' h')(hg:AllBare g') :
  Inv X pins σ H' { s with heap:=h',gens:=g',drawn:=d',toks:=t' }:=by
 have neL:∀b o,X.s₀.heap.get? b=some o->b≠X.env.locals:=fun b o e=>zCX (zCR (zCP e) I.ok.above)
 have neC:∀b o,X.s₀.heap.get? b=some o->b∉X.ex->b∉ch:=fun b o e hx hb=>by
  rcases (hch b hb).1 with z | z
  ·exact hx z
  ·exact absurd (zCR (zCP e) z) (Nat.lt_irrefl _)
 have cellK:∀x c,X.env.cells.lookup x=some c->∀v,s.heap.IsCell c v->h'.IsCell c v:=fun x c e v ⟨o,ho,hd⟩=>by
  have nch:c∉ch:=fun z=>(hch c z).2.2.1 x c e rfl
  by_cases hc:c∈X.fs
  ·obtain⟨sl,q⟩:=slot c o (I.cne x c e) hc nch ho (I.P0 x c e)
   exact⟨_,q,hd⟩
  ·exact⟨o,keep c o (I.cne x c e) hc nch ho (I.P0 x c e),hd⟩
 refine⟨I.ok,I.os,hg,⟨fun b o e n hb hx=>?_,fun b o e n hb hx=>?_,fun b o e n hx=>?_,fun b o e hx=>?_,fun b xs e=>tups b xs (I.base.tups b xs e),fun b o xs e=>zfm b o xs (I.base.zfm b o xs e),fun b ps e=>?_⟩,?_,fun x c e=>?_,?_,fun x c e=>?_,fun p hp=>?_,hok,I.len⟩
 ·exact keep b o (neL b o e) hb (neC b o e hx) (I.base.keep b o e n hb hx) (I.base.free b o e n hx)
 ·obtain⟨sl,e1⟩:=I.base.slot b o e n hb hx
  obtain⟨sl',e2⟩:=slot b _ (neL b o e) hb (neC b o e hx) e1 (I.base.free b o e n hx)
  exact⟨sl',e2⟩
 ·obtain⟨o',e1⟩:=I.base.there b o e hx
  exact free b o' (neC b o e hx) e1 (I.base.free b o e n hx)
 ·obtain⟨o',e1⟩:=I.base.there b o e hx
  exact there b o' (neC b o e hx) e1
 ·obtain⟨m1,e1⟩:=I.base.zgL b ps e
  obtain⟨m2,e2⟩:=zgL b _ e1
  exact⟨m1++m2,by rw[e2,Array.append_assoc]⟩
 ·obtain⟨m,hn,hl⟩:=I.loc
  refine⟨m,ns m hn,fun i x v e1 e2 e3=>?_⟩
  obtain⟨u,r,l⟩:=hl i x v e1 e2 e3
  refine⟨u,r,?_⟩
  rcases l with l | ⟨k,c,e,z⟩
  ·exact .inl l
  ·exact .inr ⟨k,c,e,cellK x c e _ z⟩
 ·obtain⟨v,z⟩:=I.cell x c e
  exact⟨v,cellK x c e v z⟩
 ·obtain⟨m,⟨o,_,_,ho,_⟩,_⟩:=I.loc
  exact free _ o (fun z=>(hch _ z).2.1 rfl) ho I.free
 ·obtain⟨v,o,ho,hd⟩:=I.cell x c e
  exact free c o (fun z=>(hch c z).2.2.1 x c e rfl) ho (I.P0 x c e)
 ·obtain⟨e,n,ne,nf,d⟩:=I.pin p hp
  have nch:p.1∉ch:=fun z=>(hch p.1 z).2.2.2 p hp rfl
  exact⟨keep p.1 p.2 ne nf nch e n,free p.1 p.2 nch e n,ne,nf,d⟩
theorem Inv.un {t':Nat}(I:Inv X pins σ H s)(u:Un X.fs [] H H' s.heap h')(hok:K1 X.prog X.w H' h'):Inv X pins σ H' { s with heap:=h',toks:=t' }:=by
 obtain⟨m,⟨o,es,ep,ho,r⟩,_⟩:=id I.loc
 obtain⟨sl,hL⟩:=u.any ho I.free (by simp)
 exact I.step (g':=s.gens) (d':=s.drawn) (ch:=[]) (fun _ z=>nomatch z) (fun b o _ hb _ e n=>u.keep b o e n hb (by simp)) (fun b o _ hb _ e n=>u.slot b o e n hb (by simp)) (fun b o _ e n=>u.free b o e n (by simp)) (fun b o _ e=>u.there b o e (by simp)) u.tups u.zfm u.zgL (fun m' hm=>by
  obtain⟨o',es',ep',ho',r'⟩:=hm
  rw[ho] at ho';cases ho'
  exact⟨_,es',ep',hL,r'⟩) hok I.bare
theorem Inv.call {g':Array GenState}{t':Nat}{d':Drawn}{ch:List Addr}(I:Inv X pins σ H s)(u:Un (frs X.stack) ch H H' s.heap h')(hok:K1 X.prog X.w H' h')(hg:AllBare g')
  (hch:∀b∈ch,(b∈X.ex\/X.s₀.heap.objs.size<=b)/\b≠X.env.locals/\(∀x c,X.env.cells.lookup x=some c->c≠b)/\∀p∈X.pn++pins,p.1≠b) :
  Inv X pins σ H' { s with heap:=h',gens:=g',drawn:=d',toks:=t' }:=by
 obtain⟨m,⟨o,es,ep,ho,r⟩,_⟩:=id I.loc
 obtain⟨sl,hL⟩:=u.any ho I.free fun z=>(hch _ z).2.1 rfl
 exact I.step (ch:=ch) hch (fun b o hL hb hc e n=>u.keep b o e n (fun z=>(List.mem_cons.mp (I.zbm b z)).elim hL hb) hc) (fun b o _ _ hc e n=>u.any e n hc) (fun b o hc e n=>u.free b o e n hc) (fun b o hc e=>u.there b o e hc) u.tups u.zfm u.zgL (fun m' hm=>by
  obtain⟨o',es',ep',ho',r'⟩:=hm
  rw[ho] at ho';cases ho'
  exact⟨_,es',ep',hL,r'⟩) hok hg
theorem Inv.turned {t':Nat}{it:Addr}(I:Inv X pins σ H s)(k:∀b o,b≠it->s.heap.get? b=some o->h'.get? b=some o)(hn:H it=none)(hL:it≠X.env.locals)
  (h1:it∈X.ex\/X.s₀.heap.objs.size<=it)(h2:∀x c,X.env.cells.lookup x=some c->c≠it)(h3:∀p∈X.pn++pins,p.1≠it):Inv X pins σ H { s with heap:=h',toks:=t' }:=by
 have nit:∀b u,H b=some u->b≠it:=fun b u e z=>by rw[z,hn] at e;cases e
 refine I.step (g':=s.gens) (d':=s.drawn) (ch:=[it]) (fun b hb=>?_) (fun b o _ _ hc e _=>k b o (fun z=>hc (by simp[z])) e) (fun b o _ _ hc e _=>⟨o.slots,k b o (fun z=>hc (by simp[z])) e⟩) (fun _ _ _ _ n=>n)
  (fun b o hc e=>⟨o,k b o (fun z=>hc (by simp[z])) e⟩) (fun _ _ e=>e) (fun _ _ _ e=>e) (fun b ps e=>⟨#[],by rw[e];simp⟩) (fun m hm=>?_) (fun b u e=>?_) I.bare
 ·have e:b=it:=by simpa using hb
  subst e
  exact⟨h1,hL,h2,h3⟩
 ·obtain⟨o,es,ep,ho,r⟩:=hm
  exact⟨o,es,ep,k _ o (Ne.symm hL) ho,r⟩
 ·refine(I.hok b u e).stay (fun c v hc q=>k c v ?_ q) (fun _ q=>q) fun _ _ q=>q
  rcases hc with z | z
  ·rw[z];exact nit b u e
  ·exact nit c _ z
theorem Inv.tok (I:Inv X pins σ H s)(t:Nat):Inv X pins σ H { s with toks:=t }:=I.un (h':=s.heap) (t':=t) Un.refl I.hok
theorem Inv.kept {t':Nat}(I:Inv X pins σ H s)(k:∀b u,s.heap.get? b=some u->h'.get? b=some u):Inv X pins σ H { s with heap:=h',toks:=t' }:=I.un (Un.kept k) (I.hok.kept k)
theorem Inv.laid {a:Addr}{o:HO}{t':Nat}(I:Inv X pins σ H s)(k:∀b u,s.heap.get? b=some u->h'.get? b=some u)(hp:s.heap.objs.size<=a)(new:vV X.prog X.w (upd H a o) h' a o) :
  Inv X pins σ (upd H a o) { s with heap:=h',toks:=t' }:=I.un (Un.laid k hp (I.hok.fresh hp)) (I.hok.laid k hp new)
theorem Inv.write {x e:Addr}{o:HO}{t':Nat}(I:Inv X pins σ H s)(mu:Mut (H x))(he:e=x\/H e=some (.own x))(k:∀b u,b≠e->s.heap.get? b=some u->h'.get? b=some u)(heo:∃u,h'.get? e=some u)
  (new:vV X.prog X.w (upd H x o) h' x o):Inv X pins σ (upd H x o) { s with heap:=h',toks:=t' }:=I.un (Un.write mu he k heo) (I.hok.write mu he k heo new)
theorem Inv.W6 {pins':List (Addr×Obj)}(I:Inv X pins σ H s)(h:∀p∈pins',s.heap.get? p.1=some p.2/\H p.1=none/\p.1≠X.env.locals/\p.1∉X.fs/\∀v,p.2.data≠.cell v):Inv X pins' σ H s :=
 ⟨I.ok,I.os,I.bare,I.base,I.loc,I.cell,I.free,I.P0,fun p hp=>(List.mem_append.mp hp).elim (fun z=>I.pin p (List.mem_append_left _ z)) (h p),I.hok,I.len⟩
theorem zia {N:List Str}(hN:N.Nodup){i j:Nat}{x:Str}(a:N[i]?=some x)(b:N[j]?=some x):i=j:=by
 obtain⟨h1,e1⟩:=zCL.mp a
 obtain⟨h2,e2⟩:=zCL.mp b
 exact(List.getElem_inj hN).mp (e1.trans e2.symm)
theorem zmk {M:Model}{A:Around}{E:Value->Shared->Prop}{i:Nat}{x:Str}{v:V}{u:Value}{Q:Unit->Shared->Prop}(I:Inv X pins σ H s)(hN:X.N.Nodup)(hi:X.N[i]?=some x)(hx:Loc X.env.scope x)(r:RelV v u)
  (h:∀s',Inv X pins (σ.set i (some v)) H s'->(∃a,Heap.SameBut a s.heap s'.heap/\(a=X.env.locals\/X.env.cells.lookup x=some a))->Q () s')(hf:X.fn x=true\/X.env.scope.names.lookup x=some .local:=by first | exact .inl rfl | exact .inr rfl | assumption):wpAny M A (storeName X.env x u) Q E s:=by
 obtain⟨m,hn,hl⟩:=id I.loc
 have hcls:(X.env.scope.kind==.class||(X.env.scope.kind==.module&&X.env.locals != X.env.globals))=false:=by rw[I.ok.kind];rfl
 have hiσ:i < σ.length:=by rw[I.len];exact(zCL.mp hi).1
 have cne:=I.cne
 have tracked:∀{a:Addr} {h':Heap},(∃o,s.heap.get? a=some o/\H a=none)->Heap.SameBut a s.heap h'->K1 X.prog X.w H h':=fun {a h'} ha hs b ob e=>by
  obtain⟨_,_,hfree⟩:=ha
  refine(I.hok b ob e).stay (fun c w' hc q=>(hs.2 c ?_).trans q) (fun _ q=>q) fun _ _ q=>q
  rintro rfl
  rcases hc with rfl | hc
  ·rw[hfree] at e;cases e
  ·rw[hfree] at hc;cases hc
 rcases hx with hk | hk
 ·refine wpAny_storeName_local hk hn (fun h' hn' hs=>?_) hcls
  obtain⟨oL,_,_,hoL,_⟩:=id hn
  refine h _ ⟨I.ok,I.os,I.bare,⟨fun b o e n hb hx=>?_,fun b o e n hb hx=>?_,I.base.free,fun b o e hx=>?_,I.base.tups,I.base.zfm,I.base.zgL⟩,⟨_,hn',fun j y v' e1 e2 e3=>?_⟩,fun y c e=>?_,I.free,I.P0,fun p hp=>?_,tracked ⟨oL,hoL,I.free⟩ hs,by simpa using I.len⟩ ⟨_,hs,.inl rfl⟩
  ·exact(hs.2 b (zCX (zCR (zCP e) I.ok.above))).trans (I.base.keep b o e n hb hx)
  ·obtain⟨sl,e1⟩:=I.base.slot b o e n hb hx
   exact⟨sl,(hs.2 b (zCX (zCR (zCP e) I.ok.above))).trans e1⟩
  ·obtain⟨o',e1⟩:=I.base.there b o e hx
   exact⟨o',(hs.2 b (zCX (zCR (zCP e) I.ok.above))).trans e1⟩
  ·by_cases hj:j=i
   ·subst hj
    rw[hi] at e1;cases e1
    rw[List.getElem?_set_self hiσ] at e2
    cases e2
    exact⟨u,r,.inl ⟨hk,by simp⟩⟩
   ·rw[List.getElem?_set_ne (Ne.symm hj)] at e2
    obtain⟨u',r',q⟩:=hl j y v' e1 e2 e3
    refine⟨u',r',?_⟩
    rcases q with ⟨k,e⟩ | ⟨k,c,e,z⟩
    ·refine .inl ⟨k,?_⟩
     have:y≠x:=fun e=>hj (zia hN e1 (e ▸ hi))
     simp[this,e]
    ·exact .inr ⟨k,c,e,z.sameBut hs (cne y c e)⟩
  ·obtain⟨w',z⟩:=I.cell y c e
   exact⟨w',z.sameBut hs (cne y c e)⟩
  ·obtain⟨e,n,ne,nf,d⟩:=I.pin p hp
   exact⟨(hs.2 p.1 ne).trans e,n,ne,nf,d⟩
 ·have hfn:X.fn x=true:=by
   rcases hf with z | z
   ·exact z
   ·rw[z] at hk;cases hk
  obtain⟨c,hc⟩:=I.ok.has x (.inl hk)
  obtain⟨w',z⟩:=I.cell x c hc
  refine wpAny_storeName_cell I.ok.kind hk hc z (fun h' hc' hs=>?_)
  obtain⟨oc,hoc,zuY⟩:=id z
  refine h { s with heap:=h' } ⟨I.ok,I.os,I.bare,⟨fun b o e n hb hx=>?_,fun b o e n hb hx=>?_,I.base.free,fun b o e hx=>?_,I.base.tups,I.base.zfm,I.base.zgL⟩,⟨m,hn.sameBut hs (Ne.symm (cne x c hc)),fun j y v' e1 e2 e3=>?_⟩,fun y c' e=>?_,I.free,I.P0,fun p hp=>?_,tracked ⟨oc,hoc,I.P0 x c hc⟩ hs,by simpa using I.len⟩ ⟨c,hs,.inr hc⟩
  ·exact(hs.2 b (zCX (zCR (zCP e) (I.ok.cab x c hfn hc)))).trans (I.base.keep b o e n hb hx)
  ·obtain⟨sl,e1⟩:=I.base.slot b o e n hb hx
   exact⟨sl,(hs.2 b (zCX (zCR (zCP e) (I.ok.cab x c hfn hc)))).trans e1⟩
  ·obtain⟨o',e1⟩:=I.base.there b o e hx
   exact⟨o',(hs.2 b (zCX (zCR (zCP e) (I.ok.cab x c hfn hc)))).trans e1⟩
  ·by_cases hj:j=i
   ·subst hj
    rw[hi] at e1;cases e1
    rw[List.getElem?_set_self hiσ] at e2
    cases e2
    exact⟨u,r,.inr ⟨.inl hk,c,hc,hc'⟩⟩
   ·rw[List.getElem?_set_ne (Ne.symm hj)] at e2
    obtain⟨u',r',q⟩:=hl j y v' e1 e2 e3
    refine⟨u',r',?_⟩
    rcases q with q | ⟨k,c',e,z'⟩
    ·exact .inl q
    ·refine .inr ⟨k,c',e,z'.sameBut hs ?_⟩
     rintro rfl
     exact hj (zia hN e1 (I.ok.inj _ _ _ e hc ▸ hi))
  ·by_cases hcc:c'=c
   ·subst hcc;exact⟨_,hc'⟩
   ·obtain⟨w2,z2⟩:=I.cell y c' e
    exact⟨w2,z2.sameBut hs hcc⟩
  ·obtain⟨e,n,ne,nf,d⟩:=I.pin p hp
   refine⟨(hs.2 p.1 ?_).trans e,n,ne,nf,d⟩
   intro q
   rw[q,hoc] at e
   have q':oc=p.2:=zDd e
   exact d w' (by rw[<-q'];exact zuY)
theorem NT {M:Model}{A:Around}{E:Value->Shared->Prop}{i:Nat}{x:Str}{v:V}{u:Value}{Q:Unit->Shared->Prop}(I:Inv X pins σ H s)(hN:X.N.Nodup)(hi:X.N[i]?=some x)(hx:Loc X.env.scope x)(r:RelV v u)
  (h:∀s',Inv X pins (σ.set i (some v)) H s'->Q () s')(hf:X.fn x=true\/X.env.scope.names.lookup x=some .local:=by first | exact .inl rfl | exact .inr rfl | assumption):wpAny M A (storeName X.env x u) Q E s :=
 zmk I hN hi hx r (fun s' I' _=>h s' I') hf
theorem Inv.call' {s':Shared}{ch:List Addr}(I:Inv X pins σ H s)(ho:s'.os=s.os)(u:Un (frs X.stack) ch H H' s.heap s'.heap)(hok:K1 X.prog X.w H' s'.heap)(hg:AllBare s'.gens)
  (hch:∀b∈ch,(b∈X.ex\/X.s₀.heap.objs.size<=b)/\b≠X.env.locals/\(∀x c,X.env.cells.lookup x=some c->c≠b)/\∀p∈X.pn++pins,p.1≠b):Inv X pins σ H' s':=by
 obtain⟨h',g',d',t',o'⟩:=s'
 have e:o'=s.os:=ho
 subst e
 exact I.call (g':=g') (t':=t') (d':=d') u hok hg hch
end
abbrev XK:=Value->Option Addr->Hp->Prop
abbrev St:=List (Option V)
abbrev VK:=V->Hp->Prop
abbrev TE:=St->Hp->VK->Prop
abbrev TT:=St->Hp->(Bool->Hp->Prop)->Prop
abbrev TA:=St->Hp->(List V->Hp->Prop)->Prop
structure Ends where
 nx:St->Hp->Prop
 rt:VK
 bk:St->Hp->Prop:=fun _ _=>False
 ct:St->Hp->Prop:=fun _ _=>False
abbrev TS:=Ends->St->Hp->Prop
def EP (X:Cx)(pins:List (Addr×Obj))(σ:St)(Q:VK)(u:Value)(s':Shared):Prop:=∃v H',Inv X pins σ H' s'/\RelV v u/\Q v H'
def TP (X:Cx)(pins:List (Addr×Obj))(σ:St)(Q:Bool->Hp->Prop)(b:Bool)(s':Shared):Prop:=∃H',Inv X pins σ H' s'/\Q b H'
def AP (X:Cx)(pins:List (Addr×Obj))(σ:St)(Q:List V->Hp->Prop)(us:List Value)(s':Shared):Prop:=∃vs H',Inv X pins σ H' s'/\Vals vs us/\Q vs H'
def SP (X:Cx)(pins:List (Addr×Obj))(D:Ends)(f:Flow)(s':Shared):Prop :=
 match f with
 | .next=>∃ σ' H',Inv X pins σ' H' s'/\D.nx σ' H'
 | .brk=>∃ σ' H',Inv X pins σ' H' s'/\D.bk σ' H'
 | .cont=>∃ σ' H',Inv X pins σ' H' s'/\D.ct σ' H'
 | .ret u=>∃v σ' H',Inv X pins σ' H' s'/\RelV v u/\D.rt v H'
def PE (X:Cx)(e:Expr)(t:TE):Prop :=
 ∀(pins:List (Addr×Obj)) (s:Shared) (σ:St) (H:Hp) (Q:VK),Inv X pins σ H s->t σ H Q->wpAny (model X.prog X.w) X.A (eval e X.env) (EP X pins σ Q) X.xe s
def PT (X:Cx)(e:Expr)(t:TT):Prop :=
 ∀(pins:List (Addr×Obj)) (s:Shared) (σ:St) (H:Hp) (Q:Bool->Hp->Prop),Inv X pins σ H s->t σ H Q->wpAny (model X.prog X.w) X.A (isTrue e X.env (eval e X.env)) (TP X pins σ Q) X.xe s
def PW (X:Cx)(e:Expr)(t:TT):Prop :=
 ∀(whole:Sem Value) (pins:List (Addr×Obj)) (s:Shared) (σ:St) (H:Hp) (Q:Bool->Hp->Prop),Inv X pins σ H s->t σ H Q->wpAny (model X.prog X.w) X.A (isTrue e X.env whole) (TP X pins σ Q) X.xe s
theorem PW.pt {X:Cx}{e:Expr}{t:TT}(h:PW X e t):PT X e t:=h _
def PA (X:Cx)(es:List Expr)(t:TA):Prop :=
 ∀(pos:Pos) (pins:List (Addr×Obj)) (s:Shared) (σ:St) (H:Hp) (Q:List V->Hp->Prop),Inv X pins σ H s->t σ H Q->wpAny (model X.prog X.w) X.A (spliced (backTo pos (starEach es X.env))) (AP X pins σ Q) X.xe s
def PS (X:Cx)(st:Stmt)(t:TS):Prop :=
 ∀(pins:List (Addr×Obj)) (s:Shared) (σ:St) (H:Hp) (D:Ends),Inv X pins σ H s->t D σ H->wpAny (model X.prog X.w) X.A (exec st X.env) (SP X pins D) X.xe s
def PSs (X:Cx)(st:List Stmt)(t:TS):Prop :=
 ∀(pins:List (Addr×Obj)) (s:Shared) (σ:St) (H:Hp) (D:Ends),Inv X pins σ H s->t D σ H->wpAny (model X.prog X.w) X.A (execs st X.env) (SP X pins D) X.xe s
theorem ud {α:Type}{t:Sem α}{Q Q':α->Shared->Prop}{M:Model}{A:Around}{E:Value->Shared->Prop}{s:Shared}(h:wpAny M A t Q E s)(hQ:∀a s,Q a s->Q' a s):wpAny M A t Q' E s:=wpAny_mono h hQ fun _ _ x=>x
section
variable {X:Cx}
theorem bin {a b:Expr}{ta tb:TE}(ha:PE X a ta)(hb:PE X b tb){pins:List (Addr×Obj)}{s:Shared}{σ:St}{H:Hp}{R:V->V->Hp->Prop}(I:Inv X pins σ H s)(h:ta σ H fun x H1=>tb σ H1 fun y H2=>R x y H2)
  {α:Type}{Q:α->Shared->Prop}{f:Value->Value->Sem α}
  (hf:∀v u s2 x y H2,Inv X pins σ H2 s2->RelV x v->RelV y u->R x y H2->wpAny (model X.prog X.w) X.A (f v u) Q X.xe s2) :
  wpAny (model X.prog X.w) X.A (eval a X.env) (fun v s₁=>wpAny (model X.prog X.w) X.A (eval b X.env) (fun u s₂=>wpAny (model X.prog X.w) X.A (f v u) Q X.xe s₂) X.xe s₁) X.xe s:=by
 refine ud (ha pins s σ H _ I h) fun v s1 ⟨x,H1,I1,r1,q1⟩=>?_
 refine ud (hb pins s1 σ H1 _ I1 q1) fun u s2 ⟨y,H2,I2,r2,q2⟩=>?_
 exact hf v u s2 x y H2 I2 r1 r2 q2
def zc8 (i:Nat):TE:=fun σ H Q=>∃v,σ[i]?=some (some v)/\Q v H
def tC (v:V):TE:=fun _ H Q=>Q v H
theorem zrt {i:Nat}{x:Str}{pos:Pos}(hN:X.N[i]?=some x)(hv:Vis X.env.scope x)(hd:(x==("__debug__" : Str))=false:=by decide)(hcd:(x==("__classdict__" : Str))=false:=by decide):PE X (.Name x pos) (zc8 i):=by
 intro pins s σ H Q I h
 obtain⟨v,e,h⟩:=h
 obtain⟨m,hn,hl⟩:=I.loc
 obtain⟨u,r,l⟩:=hl i x v hN e hv
 have fin:EP X pins σ Q u s:=⟨v,H,I,r,h⟩
 rcases l with ⟨hk,hm⟩ | ⟨hk,c,hc,hcell⟩
 ·exact wpAny_Name (wpAny_loadName_local I.ok.kind hk hn hm fin) hd
 ·rcases hk with hk | hk
  ·exact wpAny_Name (wpAny_loadName_cell I.ok.kind hk hc hcell fin) hd
  ·exact wpAny_Name (wpAny_loadName_free I.ok.kind hk hc hcell fin hcd) hd
theorem zu {i j pos}:PE X (.Constant (.int i) j pos) (tC (.int i)):=fun _ _ _ H _ I h=>wpAny_Constant_int ⟨.int i,H,I.tok _,⟨_,rfl⟩,h⟩
theorem Yw {b j pos}:PE X (.Constant (.bool b) j pos) (tC (.bl b)):=fun _ _ _ H _ I h=>Constant_bool ⟨.bl b,H,I,rfl,h⟩
theorem znA {j pos}:PE X (.Constant .none j pos) (tC .non):=fun _ _ _ H _ I h=>Constant_none ⟨.non,H,I,rfl,h⟩
theorem zZ {x j pos}:PE X (.Constant (.str x) j pos) (tC (.str x)):=fun _ _ _ H _ I h=>Calls.Constant_str ⟨.str x,H,I.tok _,⟨_,rfl⟩,h⟩
def Gl (X:Cx)(x:Str):Prop:=X.env.kindOf x=some .globalImplicit
theorem zgP {E:Value->Shared->Prop}{pins:List (Addr×Obj)}{s:Shared}{σ:St}{H:Hp}{x:Str}{u:Value}{pos:Pos}{Q:Value->Shared->Prop}(I:Inv X pins σ H s)(hg:Gl X x)(hm:X.mg x=some u)(h:Q u s)
  (hd:(x==("__debug__" : Str))=false:=by decide):wpAny (model X.prog X.w) X.A (eval (.Name x pos) X.env) Q E s :=
 Calls.Name_function_global I.ok.kind hg (Calls.loadGlobal_global (by rw[I.ok.glob];exact I.mod.glob.keeps I.bk) hm h) hd
theorem U3 {E:Value->Shared->Prop}{pins:List (Addr×Obj)}{s:Shared}{σ:St}{H:Hp}{x:Str}{u:Value}{pos:Pos}{Q:Value->Shared->Prop}(I:Inv X pins σ H s)(hg:Gl X x)(hm:X.mg x=none)(hv:bootBuiltins x=some u)(h:Q u s)
  (hn:x ≠ "__name__" := by decide)(hd:(x==("__debug__" : Str))=false:=by decide):wpAny (model X.prog X.w) X.A (eval (.Name x pos) X.env) Q E s:=by
 obtain⟨mb,h1,h2⟩:=I.mod.blt
 exact Calls.Name_function_global I.ok.kind hg (Calls.loadGlobal_builtin (by rw[I.ok.glob];exact I.mod.glob.keeps I.bk) hm (by rw[I.ok.blt];exact h1.keeps I.bk) ((h2 x hn).trans hv) h) hd
theorem W7 {x:Str}{v:V}{u:Value}{pos:Pos}(hg:Gl X x)(hm:X.mg x=some u)(r:RelV v u)(hd:(x==("__debug__" : Str))=false:=by decide):PE X (.Name x pos) (tC v) :=
 fun _ _ _ H _ I h=>zgP I hg hm ⟨v,H,I,r,h⟩ hd
theorem Qw {x:Str}{v:V}{u:Value}{pos:Pos}(hg:Gl X x)(hm:X.mg x=none)(hv:bootBuiltins x=some u)(r:RelV v u)(hn:x ≠ "__name__" := by decide)(hd:(x==("__debug__" : Str))=false:=by decide):PE X (.Name x pos) (tC v) :=
 fun _ _ _ H _ I h=>U3 I hg hm hv ⟨v,H,I,r,h⟩ hn hd
variable {a b:Expr}{ta tb:TE}{pos:Pos}
def PC (X:Cx)(op:CmpOp)(a b:Expr)(t:TE):Prop :=
 ∀(pins:List (Addr×Obj)) (s:Shared) (σ:St) (H:Hp) (Q:VK),Inv X pins σ H s->t σ H Q ->
  wpAny (model X.prog X.w) X.A (eval a X.env) (fun v s₁=>wpAny (model X.prog X.w) X.A (eval b X.env) (fun u s₂=>wpAny (model X.prog X.w) X.A (compareOp op v u) (EP X pins σ Q) X.xe s₂) X.xe s₁) X.xe s
def tB (t:TE):TT:=fun σ H Q=>t σ H fun x H1=>∃c,x=.bl c/\Q c H1
theorem zru {op:CmpOp}{t:TE}(h:PC X op a b t)(h1:behindInMarks op b=false:=by first | exact zsN _ (by decide) (by decide) | rfl):PT X (.Compare a [op] [b] pos) (tB t):=by
 intro pins s σ H Q I hw
 refine wpAny_isTrue_Compare1 (ud (h pins s σ H _ I hw) fun v s1 h1=>ud h1 fun u s2 h2=>ud h2 fun c s3 ⟨x,H1,I1,r1,q1⟩=>?_) h1
 obtain⟨d,rfl,q⟩:=q1
 cases r1
 exact wpAny_truthy_bool ⟨H1,I1,q⟩
variable {tA tB':TT}{rest:List Expr}
def zuZ (t u:TT):TT:=fun σ H Q=>t σ H fun c H1=>if c=true then u σ H1 Q else Q false H1
def tOr (t u:TT):TT:=fun σ H Q=>t σ H fun c H1=>if c=true then Q true H1 else u σ H1 Q
def zu0 (t:TT):TT:=fun σ H Q=>t σ H fun c H1=>Q (!c) H1
theorem zll (ha:PT X a tA):PW X (.BoolOp .And [a] pos) tA:=by
 intro wh pins s σ H Q I h
 refine isTrue_and (ud (ha pins s σ H Q I h) fun c s1 e=>?_)
 cases c with
 | true=>exact isTrue_and_nil e
 | false=>exact e
theorem Rh (ha:PT X a tA):PW X (.BoolOp .Or [a] pos) tA:=by
 intro wh pins s σ H Q I h
 refine isTrue_or (ud (ha pins s σ H Q I h) fun c s1 e=>?_)
 cases c with
 | false=>exact isTrue_or_nil e
 | true=>exact e
theorem znB (ha:PT X a tA)(hb:PW X (.BoolOp .And (b::rest) pos) tB'):PW X (.BoolOp .And (a::b::rest) pos) (zuZ tA tB'):=by
 intro wh pins s σ H Q I h
 refine isTrue_and (ud (ha pins s σ H _ I h) fun c s1 ⟨H1,I1,q1⟩=>?_)
 cases c with
 | true=>exact hb wh pins s1 σ H1 Q I1 q1
 | false=>exact⟨H1,I1,q1⟩
theorem Nb (ha:PT X a tA)(hb:PW X (.BoolOp .Or (b::rest) pos) tB'):PW X (.BoolOp .Or (a::b::rest) pos) (tOr tA tB'):=by
 intro wh pins s σ H Q I h
 refine isTrue_or (ud (ha pins s σ H _ I h) fun c s1 ⟨H1,I1,q1⟩=>?_)
 cases c with
 | true=>exact⟨H1,I1,q1⟩
 | false=>exact hb wh pins s1 σ H1 Q I1 q1
theorem Xk (ha:PT X a tA):PT X (.UnaryOp .Not a pos) (zu0 tA):=by
 intro pins s σ H Q I h
 exact isTrue_not (ha pins s σ H (fun c H1=>Q (!c) H1) I h)
def zsO (ta tb:TE):TE:=fun σ H Q=>ta σ H fun x H1=>∃c,x=.bl c/\if c=true then tb σ H1 Q else Q (.bl false) H1
def zsP (ta:TE):TE:=fun σ H Q=>ta σ H fun x H1=>∃c,x=.bl c/\Q (.bl (!c)) H1
theorem zgQ {op}{t:TE}(h:PE X a t):PE X (.BoolOp op [a] pos) t:=fun pins s σ H Q I hw=>BoolOp_one (h pins s σ H Q I hw)
theorem zdL (ha:PE X a ta)(hb:PE X (.BoolOp .And (b::rest) pos) tb):PE X (.BoolOp .And (a::b::rest) pos) (zsO ta tb):=by
 intro pins s σ H Q I h
 refine BoolOp_and (ud (ha pins s σ H _ I h) fun v s1 ⟨x,H1,I1,r1,q1⟩=>?_)
 obtain⟨c,rfl,q1⟩:=q1
 cases r1
 refine wpAny_truthy_bool ?_
 cases c with
 | true=>exact hb pins s1 σ H1 Q I1 q1
 | false=>exact⟨.bl false,H1,I1,rfl,q1⟩
theorem zrv (ha:PE X a ta):PE X (.UnaryOp .Not a pos) (zsP ta):=by
 intro pins s σ H Q I h
 refine UnaryOp_ (ud (ha pins s σ H _ I h) fun v s1 ⟨x,H1,I1,r1,q1⟩=>?_)
 obtain⟨c,rfl,q1⟩:=q1
 cases r1
 exact not_of (wpAny_truthy_bool ⟨.bl (!c),H1,I1,rfl,q1⟩)
def tIf (t:TT)(ta tb:TE):TE:=fun σ H Q=>t σ H fun c H1=>if c=true then ta σ H1 Q else tb σ H1 Q
theorem zao {c:Expr}(hc:PT X c tA)(ha:PE X a ta)(hb:PE X b tb):PE X (.IfExp c a b pos) (tIf tA ta tb):=by
 intro pins s σ H Q I h
 refine wpAny_IfExp (ud (hc pins s σ H _ I h) fun d s1 ⟨H1,I1,q1⟩=>?_)
 cases d with
 | true=>exact ha pins s1 σ H1 Q I1 q1
 | false=>exact hb pins s1 σ H1 Q I1 q1
end
def zM (K:Frag)(H:Hp)(a:Addr)(xs:List V):Prop :=
 Rd H a (.lst xs) \/
  ∃(o:Obj) (its:Array Value) (n:Nat),K.lookup a=some o/\o.cls=.type "list" /\ o.dict=none/\o.data=.seq its n/\its.size<=sizeLine/\Vals xs its.toList
def vW (K:Frag)(H:Hp)(a:Addr)(xs:List V):Prop :=
 Rd H a (.tup xs) \/
  ∃(o:Obj) (its:Array Value) (n:Nat),K.lookup a=some o/\o.cls=.type "tuple" /\ o.data=.seq its n/\its.size<=sizeLine/\Vals xs its.toList
def V6:Value->Option V
 | .none=>some .non
 | .bool b=>some (.bl b)
 | .int i _=>some (.int i)
 | .str x _=>some (.str x)
 | .bytes b _=>some (.byt b)
 | .float b _=>some (.flt b)
 | .ref a=>some (.ref a)
 | .type n=>some (.ty n)
 | _=>none
theorem RelV.abs {x:V}{u:Value}(r:RelV x u):V6 u=some x:=by
 cases x with
 | non=>cases r;rfl
 | bl _=>cases r;rfl
 | int _=>obtain⟨t,rfl⟩:=r;rfl
 | str _=>obtain⟨t,rfl⟩:=r;rfl
 | byt _=>obtain⟨t,rfl⟩:=r;rfl
 | flt _=>obtain⟨t,rfl⟩:=r;rfl
 | ref _=>cases r;rfl
 | ty _=>cases r;rfl
theorem RelV.inj {x y:V}{u:Value}(r:RelV x u)(q:RelV y u):x=y:=zDd (r.abs.symm.trans q.abs)
theorem Vals.inj:∀{xs ys:List V} {us:List Value},Vals xs us->Vals ys us->xs=ys
 | _,_,_,.nil,.nil=>rfl
 | _,_,_,.cons r t,.cons r' t'=>by rw[r.inj r',Vals.inj t t']
section
variable {X:Cx}{pins:List (Addr×Obj)}{σ:St}{H:Hp}{s:Shared}{a:Addr}{xs ys:List V}
theorem zM.of {K:Frag}(h:H a=some (.lst xs)):zM K H a xs:=.inl (.inl h)
theorem vW.of {K:Frag}(h:H a=some (.tup xs)):vW K H a xs:=.inl (.inl h)
theorem Inv.list (I:Inv X pins σ H s)(h:zM X.K H a xs):∃its:List Value,Vals xs its/\PlainL s.heap a its.toArray/\xs.length<=sizeLine:=by
 rcases h with h | ⟨o,its,n,hk,hc,hd,hs,hz,r⟩
 ·obtain⟨z,its,n,r,e⟩:=h.ok I.hok
  exact⟨its,r,⟨_,n,e,rfl,rfl,rfl⟩,z⟩
 ·refine⟨its.toList,r,⟨o,n,I.kIn a o hk,hc,hd,by simpa using hs⟩,?_⟩
  have e:=r.length
  simp only[Array.length_toList] at e
  omega
theorem Inv.tuple (I:Inv X pins σ H s)(h:vW X.K H a xs):∃its:List Value,Vals xs its/\IsTup s.heap a its.toArray/\xs.length<=sizeLine:=by
 rcases h with h | ⟨o,its,n,hk,hc,hs,hz,r⟩
 ·obtain⟨z,its,r,p⟩:=h.ok I.hok
  exact⟨its,r,p,z⟩
 ·refine⟨its.toList,r,⟨o,I.kIn a o hk,hc,n,by simpa using hs⟩,?_⟩
  have e:=r.length
  simp only[Array.length_toList] at e
  omega
theorem Inv.U4 (I:Inv X pins σ H s)(h:zM X.K H a xs)(h':zM X.K H a ys):xs=ys:=by
 obtain⟨its,r,⟨o,n,e,_,_,d⟩,_⟩:=I.list h
 obtain⟨its',r',⟨o',n',e',_,_,d'⟩,_⟩:=I.list h'
 rw[e] at e';cases e'
 rw[d] at d'
 injection d' with d1 _
 have:its=its':=by simpa using congrArg Array.toList d1
 subst this
 exact r.inj r'
theorem Inv.zfZ (I:Inv X pins σ H s)(h:vW X.K H a xs)(h':vW X.K H a ys):xs=ys:=by
 obtain⟨its,r,⟨o,e,_,n,d⟩,_⟩:=I.tuple h
 obtain⟨its',r',⟨o',e',_,n',d'⟩,_⟩:=I.tuple h'
 rw[e] at e';cases e'
 rw[d] at d'
 injection d' with d1 _
 have:its=its':=by simpa using congrArg Array.toList d1
 subst this
 exact r.inj r'
end
abbrev Cx.wish (X:Cx)(E:Value->Shared->Prop):Cx:={ X with xe:=E }
abbrev Cx.nox (X:Cx):Cx:=X.wish fun _ _=>False
theorem Cx.Ok.wish {X:Cx}(ok:X.Ok)(E:Value->Shared->Prop):(X.wish E).Ok :=
 ⟨ok.mod,ok.kind,ok.glob,ok.blt,ok.above,ok.inj,ok.has,ok.cab,ok.hd,ok.frames,ok.stk,ok.exf,ok.bs,ok.bsz,ok.zh8,ok.zh9,ok.zan,ok.frf⟩
theorem Cx.Ok.NZ {X:Cx}{E:Value->Shared->Prop}(ok:(X.wish E).Ok):X.Ok :=
 ⟨ok.mod,ok.kind,ok.glob,ok.blt,ok.above,ok.inj,ok.has,ok.cab,ok.hd,ok.frames,ok.stk,ok.exf,ok.bs,ok.bsz,ok.zh8,ok.zh9,ok.zan,ok.frf⟩
section
variable {X:Cx}{pins:List (Addr×Obj)}{σ:St}{H:Hp}{s:Shared}{E:Value->Shared->Prop}
theorem Inv.wish (I:Inv X pins σ H s)(E:Value->Shared->Prop):Inv (X.wish E) pins σ H s:=⟨I.ok.wish E,I.os,I.bare,I.base,I.loc,I.cell,I.free,I.P0,I.pin,I.hok,I.len⟩
theorem Inv.NZ (I:Inv (X.wish E) pins σ H s):Inv X pins σ H s:=⟨I.ok.NZ,I.os,I.bare,I.base,I.loc,I.cell,I.free,I.P0,I.pin,I.hok,I.len⟩
theorem SP.NZ {D:Ends}{f:Flow}{s':Shared}(h:SP (X.wish E) pins D f s'):SP X pins D f s':=by
 cases f with
 | next=>obtain⟨σ',H',I,q⟩:=h;exact⟨σ',H',I.NZ,q⟩
 | brk=>obtain⟨σ',H',I,q⟩:=h;exact⟨σ',H',I.NZ,q⟩
 | cont=>obtain⟨σ',H',I,q⟩:=h;exact⟨σ',H',I.NZ,q⟩
 | ret u=>obtain⟨v,σ',H',I,r,q⟩:=h;exact⟨v,σ',H',I.NZ,r,q⟩
theorem PSs.nox {st:List Stmt}{t:TS}(h:PSs X.nox st t):PSs X st t:=fun pins s σ H D I hw =>
 wpAny_mono (h pins s σ H D (I.wish _) hw) (fun _ _ q=>q.NZ) fun _ _ z=>False.elim z
end
section
variable {X:Cx}{st:Stmt}{rest:List Stmt}{t u:TS}{e:Expr}{te:TE}{pos:Pos}
def zsQ:TS:=fun D σ H=>D.nx σ H
def zu1 (t u:TS):TS:=fun D σ H=>t { D with nx:=u D } σ H
theorem z8:PSs X [] zsQ:=fun _ _ σ H _ I h=>wpAny_execs_nil ⟨σ,H,I,h⟩
theorem zf (h1:PS X st t)(h2:PSs X rest u):PSs X (st::rest) (zu1 t u):=by
 intro pins s σ H D I h
 refine wpAny_execs_cons (ud (h1 pins s σ H { D with nx:=u D } I h) fun f s1 q=>?_)
 cases f with
 | next =>
  obtain⟨σ',H',I',q⟩:=q
  exact h2 pins s1 σ' H' D I' q
 | ret v=>exact q
 | brk=>exact q
 | cont=>exact q
theorem zp (h1:PS X st t):PSs X [st] t:=by
 intro pins s σ H D I h
 refine wpAny_execs_cons (ud (h1 pins s σ H D I h) fun f s1 q=>?_)
 cases f with
 | next=>exact wpAny_execs_nil q
 | ret v=>exact q
 | brk=>exact q
 | cont=>exact q
theorem Inv.quiet {pins:List (Addr×Obj)}{σ:St}{H:Hp}{s:Shared}(I:Inv X pins σ H s):interactive X.env=false:=by simp[interactive,I.ok.kind]
def zsR (te:TE):TS:=fun D σ H=>te σ H fun _ H1=>D.nx σ H1
theorem yE (he:PE X e te)(hs:swapsWith e none pos.line X.env=pure false:=by rfl):PS X (.Expr e pos) (zsR te):=by
 intro pins s σ H D I h
 exact wpAny_Expr_any (ud (he pins s σ H _ I h) fun v s1 ⟨x,H1,I1,r1,q1⟩=>⟨σ,H1,I1,q1⟩) I.quiet hs
def zu2 (te:TE):TS:=fun D σ H=>te σ H D.rt
theorem zK (he:PE X e te):PS X (.Return (some e) pos) (zu2 te):=by
 intro pins s σ H D I h
 exact wpAny_Return_some (ud (he pins s σ H _ I h) fun v s1 ⟨x,H1,I1,r1,q1⟩=>⟨x,σ,H1,I1,r1,q1⟩)
def zu3 (c:TT)(t u:TS):TS:=fun D σ H=>c σ H fun b H1=>if b=true then t D σ H1 else u D σ H1
theorem yP {c:Expr}{a b:List Stmt}{tc:TT}(hc:PT X c tc)(ha:PSs X a t)(hb:PSs X b u):PS X (.If c a b pos) (zu3 tc t u):=by
 intro pins s σ H D I h
 refine wpAny_If (ud (hc pins s σ H _ I h) fun d s1 ⟨H1,I1,q1⟩=>?_)
 cases d with
 | true=>exact ha pins s1 σ H1 D I1 q1
 | false=>exact hb pins s1 σ H1 D I1 q1
def zrw:TS:=fun _ _ _=>False
theorem U5:PS X st zrw:=fun _ _ _ _ _ _ h=>h.elim
end
abbrev TG:=V->St->Hp->(St->Hp->Prop)->Prop
abbrev TGs:=List V->St->Hp->(St->Hp->Prop)->Prop
def PG (X:Cx)(target:Expr)(t:TG):Prop :=
 ∀(pins:List (Addr×Obj)) (s:Shared) (σ:St) (H:Hp) (v:V) (u:Value) (Q:St->Hp->Prop),Inv X pins σ H s->RelV v u->t v σ H Q ->
  wpAny (model X.prog X.w) X.A (assign target X.env u) (fun _ s'=>∃ σ' H',Inv X pins σ' H' s'/\Q σ' H') X.xe s
def PGs (X:Cx)(ts:List Expr)(t:TGs):Prop :=
 ∀(pins:List (Addr×Obj)) (s:Shared) (σ:St) (H:Hp) (vs:List V) (us:List Value) (Q:St->Hp->Prop),Inv X pins σ H s->Vals vs us->t vs σ H Q ->
  wpAny (model X.prog X.w) X.A (assignInOrder ((assignEach ts X.env).map (·.2)) us) (fun _ s'=>∃ σ' H',Inv X pins σ' H' s'/\Q σ' H') X.xe s
abbrev TIp:=V->V->Hp->VK->Prop
def PIp (X:Cx)(op:Operator)(t:TIp):Prop :=
 ∀(pins:List (Addr×Obj)) (s:Shared) (σ:St) (H:Hp) (x y:V) (v u:Value) (Q:VK),Inv X pins σ H s->RelV x v->RelV y u->t x y H Q ->
  wpAny (model X.prog X.w) X.A (inplaceOp op v u) (EP X pins σ Q) X.xe s
section
variable {X:Cx}{pos:Pos}
def N5 (i:Nat):TG:=fun v σ H Q=>Q (σ.set i (some v)) H
theorem z9 {i:Nat}{x:Str}(hN:X.N.Nodup)(hi:X.N[i]?=some x)(hx:Loc X.env.scope x)(hf:X.fn x=true\/X.env.scope.names.lookup x=some .local:=by first | exact .inl rfl | exact .inr rfl | assumption):PG X (.Name x pos) (N5 i):=by
 intro pins s σ H v u Q I r h
 exact wpAny_assign_Name (NT I hN hi hx r (fun s' I'=>⟨_,H,I',h⟩) hf)
def zpy:TGs:=fun vs σ H Q=>vs=[]/\Q σ H
def zdM (t:TG)(u:TGs):TGs:=fun vs σ H Q=>∃v r,vs=v::r/\t v σ H fun σ' H'=>u r σ' H' Q
theorem Sq:PGs X [] zpy:=by
 intro pins s σ H vs us Q I r h
 obtain⟨e,h⟩:=h
 subst e
 cases r
 exact assignInOrder_nil ⟨σ,H,I,h⟩
theorem wJ {e:Expr}{es:List Expr}{t:TG}{u:TGs}(h1:PG X e t)(h2:PGs X es u)
  (hs:(assignEach (e::es) X.env).map (·.2)=assign e X.env::(assignEach es X.env).map (·.2):=by rfl):PGs X (e::es) (zdM t u):=by
 intro pins s σ H vs us Q I r h
 obtain⟨v,vr,e1,h⟩:=h
 subst e1
 cases r with
 | cons r rr =>
  rw[hs]
  refine assignInOrder_cons (ud (h1 pins s σ H _ _ _ I r h) fun _ s1 ⟨σ1,H1,I1,q1⟩=>?_)
  exact h2 pins s1 σ1 H1 _ _ Q I1 rr q1
def zpz (K:Frag)(n:Nat)(t:TGs):TG:=fun v σ H Q=>∃a xs,v=.ref a/\vW K H a xs/\xs.length=n/\t xs σ H Q
theorem N6 {es:List Expr}{k:Nat}{t:TGs}{n:Nat}(hc:X.calm=true)(h:PGs X es t)
  (hn:(assignEach es X.env).length=n:=by rfl)(hst:(assignEach es X.env).findIdx? (·.1)=none:=by rfl):PG X (.Tuple es k pos) (zpz X.K n t):=by
 intro pins s σ H v u Q I r hw
 obtain⟨a,xs,e1,hq,hl,hw⟩:=hw
 subst e1
 cases r
 obtain⟨its,rv,ht,hz⟩:=I.tuple hq
 refine assign_Tuple_tuple (I.ok.hd hc) ht (by simp[hn,<-hl,rv.length]) hst fun h' hx=>?_
 have I1:Inv X pins σ H { s with heap:=h' }:=I.kept (t':=s.toks) fun b o e=>hx b o (zCX (zCP e)) e
 exact h pins _ σ H xs _ Q I1 (by simpa using rv) hw
def zry (te:TE)(g:TG):TS:=fun D σ H=>te σ H fun x H1=>g x σ H1 D.nx
theorem zjB {tg e:Expr}{te:TE}{g:TG}(he:PE X e te)(hg:PG X tg g)(hs:swapsWithSole [tg] e pos.line X.env=pure false:=by rfl)(hw:swappedStores [tg] e X.env=pure none:=by rfl)
  (h1:(assignEach [tg] X.env).map (·.2)=[assign tg X.env]:=by rfl):PS X (.Assign [tg] e pos) (zry te g):=by
 intro pins s σ H D I h
 refine wpAny_Assign_stores (ud (he pins s σ H _ I h) fun v s1 ⟨x,H1,I1,r1,q1⟩=>?_) hs hw
 rw[h1]
 exact ud (hg pins s1 σ H1 x v _ I1 r1 q1) fun _ s2 q=>q
theorem zF {i:Nat}{x:Str}{e:Expr}{te:TE}{pos':Pos}(hN:X.N.Nodup)(hi:X.N[i]?=some x)(hx:Loc X.env.scope x)(he:PE X e te)(hs:swapsWith e (some (.Name x pos')) pos.line X.env=pure false:=by rfl)(hf:X.fn x=true\/X.env.scope.names.lookup x=some .local:=by first | exact .inl rfl | exact .inr rfl | assumption) :
  PS X (.Assign [.Name x pos'] e pos) (zry te (N5 i)):=by
 intro pins s σ H D I h
 refine wpAny_Assign_Name (ud (he pins s σ H _ I h) fun v s1 ⟨y,H1,I1,r1,q1⟩=>?_) hs
 exact NT I1 hN hi hx r1 (fun s2 I2=>⟨_,H1,I2,q1⟩) hf
def zu5 (i j:Nat)(ta:TA):TS:=fun D σ H=>ta σ H fun vs H1=>∃v w,vs=[v,w]/\D.nx ((σ.set i (some v)).set j (some w)) H1
theorem zrz {i j:Nat}{x y:Str}{a b:Expr}{ta:TA}{px py pt:Pos}{kt k2 pt2}(hc:X.calm=true)(hN:X.N.Nodup)(hi:X.N[i]?=some x)(hj:X.N[j]?=some y)(hij:i≠j)
  (hx:X.env.scope.names.lookup x=some .local)(hy:X.env.scope.names.lookup y=some .local)(ha:PA X [a,b] ta)
  (hw:swappedStores [.Tuple [.Name x px,.Name y py] kt pt] (.Tuple [a,b] k2 pt2) X.env=pure (some [x,y]))
  (hs:swapsWithSole [.Tuple [.Name x px,.Name y py] kt pt] (.Tuple [a,b] k2 pt2) pos.line X.env=pure false:=by rfl) :
  PS X (.Assign [.Tuple [.Name x px,.Name y py] kt pt] (.Tuple [a,b] k2 pt2) pos) (zu5 i j ta):=by
 intro pins s σ H D I h
 rw[exec_Assign_arm]
 refine wpAny_bind (wpAny_standAt ?_)
 rw[hs]
 refine wpAny_bind (wpAny_pure ?_)
 rw[if_neg (by decide)]
 refine wpAny_bind (Tuple_ (ud (ha _ pins s σ H _ I h) fun us s1 ⟨vs,H1,I1,r1,q1⟩=>?_))
 obtain⟨v,w,e1,q1⟩:=q1
 subst e1
 obtain⟨u1,u2,rfl,rv,rw'⟩:∃u1 u2,us=[u1,u2]/\RelV v u1/\RelV w u2:=by
  cases r1 with
  | cons p q =>
   cases q with
   | cons p' q' =>
    cases q'
    exact⟨_,_,rfl,p,p'⟩
 refine wpAny_newObj_type ?_ (by show 2<=sizeLine;decide)
 have I2:Inv X pins σ H1 { s1 with heap:=s1.heap.push { cls:=.type "tuple", data:=.seq [u1,u2].toArray } }:=I1.kept (t':=s1.toks) fun b o e=>zCO _ e
 rw[hw]
 refine wpAny_bind (wpAny_pure ?_)
 show wpAny (model X.prog X.w) X.A (do rule "assign.swapped-stores";let items <-unpackItems (.ref s1.heap.objs.size) 2 none;assignInOrder [fun v=>bindName X.env y v,fun v=>bindName X.env x v] items.reverse;pure Flow.next) _ _ _
 refine wpAny_bind (wpAny_rule (wpAny_bind (unpackItems_tuple (items:=#[u1,u2]) (I.ok.hd hc) (IsTup.new s1.heap _) fun h' hx'=>?_)))
 have I3:=I2.kept (h':=h') (t':=s1.toks) fun b o e=>hx' b o (zCX (zCP e)) e
 show wpAny _ _ (assignInOrder [fun v=>bindName X.env y v,fun v=>bindName X.env x v] [u2,u1]>>=fun _=>pure Flow.next) _ _ _
 refine wpAny_bind (assignInOrder_cons (wpAny_bindName (NT I3 hN hj (.inl hy) rw' (fun s2 I4=>?_) (.inr hy))))
 refine assignInOrder_cons (wpAny_bindName (NT I4 hN hi (.inl hx) rv (fun s3 I5=>assignInOrder_nil (wpAny_pure ?_)) (.inr hx)))
 rw[List.set_comm _ _ (Ne.symm hij)] at I5
 exact⟨_,H1,I5,q1⟩
def zu7 (i:Nat)(te:TE)(ti:TIp):TS:=fun D σ H=>∃x,σ[i]?=some (some x)/\te σ H fun y H1=>ti x y H1 fun z H2=>D.nx (σ.set i (some z)) H2
theorem zjC {i:Nat}{x:Str}{e:Expr}{te:TE}{op:Operator}{ti:TIp}{pos':Pos}(hN:X.N.Nodup)(hi:X.N[i]?=some x)(hx:Loc X.env.scope x)(he:PE X e te)(ho:PIp X op ti)(hf:X.fn x=true\/X.env.scope.names.lookup x=some .local:=by first | exact .inl rfl | exact .inr rfl | assumption) :
  PS X (.AugAssign (.Name x pos') op e pos) (zu7 i te ti):=by
 intro pins s σ H D I h
 obtain⟨v,e1,h⟩:=h
 obtain⟨m,hn,hl⟩:=I.loc
 have vis:Vis X.env.scope x:=by rcases hx with k | k;exact .inl k;exact .inr (.inl k)
 obtain⟨u,r,l⟩:=hl i x v hi e1 vis
 refine wpAny_AugAssign_Name ?_
 have go:wpAny (model X.prog X.w) X.A (eval e X.env) (fun w s₂=>wpAny (model X.prog X.w) X.A (inplaceOp op u w) (fun r s₃=>wpAny (model X.prog X.w) X.A (storeName X.env x r) (fun _=>SP X pins D .next) X.xe s₃) X.xe s₂) X.xe s:=by
  refine ud (he pins s σ H _ I h) fun w s1 ⟨y,H1,I1,r1,q1⟩=>?_
  refine ud (ho pins s1 σ H1 v y u w _ I1 r r1 q1) fun z s2 ⟨zv,H2,I2,r2,q2⟩=>?_
  exact NT I2 hN hi hx r2 (fun s3 I3=>⟨_,H2,I3,q2⟩) hf
 rcases l with ⟨hk,hm⟩ | ⟨hk,c,hc,hcell⟩
 ·exact wpAny_loadName_local I.ok.kind hk hn hm go
 ·rcases hk with hk | hk
  ·exact wpAny_loadName_cell I.ok.kind hk hc hcell go
  ·rcases hx with k | k
   ·have:X.env.scope.names.lookup x=some .free:=hk
    rw[k] at this;cases this
   ·have:X.env.scope.names.lookup x=some .free:=hk
    rw[k] at this;cases this
def zrA (c:TT)(tb:TS):TS:=fun D σ H=>∃W:Nat->St->Hp->Prop,(∃m,W m σ H)/\∀m σ H,W m σ H ->
 c σ H fun b H1=>if b=true then ∃N:St->Hp->Prop,(∀ σ' H',N σ' H'->∃m',m'<m/\W m' σ' H')/\tb { D with nx:=N,ct:=N,bk:=D.nx } σ H1 else D.nx σ H1
theorem N7 {c:Expr}{body:List Stmt}{tc:TT}{tb:TS}(hp:PassesOwn (model X.prog X.w) X.A X.env X.xe)(hc:PT X c tc)(hb:PSs X body tb):PS X (.While c body [] pos) (zrA tc tb):=by
 intro pins s σ H D I h
 obtain⟨W,⟨m0,w0⟩,turn⟩:=h
 refine wpAny_While (codeAny_whileLoop (fun n s'=>∃ σ' H',Inv X pins σ' H' s'/\W n σ' H') ?_ m0 ⟨σ,H,I,w0⟩)
 rintro n s1 ⟨σ1,H1,I1,w1⟩
 refine wpAny_passesOwn hp (ud (hc pins s1 σ1 H1 _ I1 (turn n σ1 H1 w1)) fun b s2 ⟨H2,I2,q2⟩=>?_)
 cases b with
 | true =>
  obtain⟨N,hN,q2⟩:=q2
  rw[if_pos rfl]
  refine wpAny_passesOwn hp (ud (hb pins s2 σ1 H2 _ I2 q2) fun f s3 q3=>?_)
  cases f with
  | next =>
   obtain⟨σ3,H3,I3,n3⟩:=q3
   obtain⟨m',hm,w3⟩:=hN σ3 H3 n3
   exact⟨m',hm,σ3,H3,I3,w3⟩
  | cont =>
   obtain⟨σ3,H3,I3,n3⟩:=q3
   obtain⟨m',hm,w3⟩:=hN σ3 H3 n3
   exact⟨m',hm,σ3,H3,I3,w3⟩
  | brk=>exact q3
  | ret v=>exact q3
 | false =>
  rw[if_neg zCM]
  exact wpAny_execs_nil ⟨σ1,H2,I2,q2⟩
end
structure It where
 go:Nat->Hp->Prop
 JG:Nat->Hp->V->Hp->Prop
 stop:Nat->Hp->Prop
def zc9 (X:Cx)(pins:List (Addr×Obj))(H:Hp)(b:Addr):Prop :=
 H b=none/\b≠X.env.locals/\b∉X.fs/\(b∈X.ex\/X.s₀.heap.objs.size<=b)/\(∀x c,X.env.cells.lookup x=some c->c≠b)/\∀p∈X.pn++pins,p.1≠b
theorem Inv.zml {X:Cx}{pins:List (Addr×Obj)}{σ:St}{H H':Hp}{s:Shared}{b:Addr}(I:Inv X pins σ H s)(hb:s.heap.objs.size<=b)(hn:H' b=none):zc9 X pins H' b:=by
 refine⟨hn,Nat.ne_of_gt (zCR I.lt hb),I.znz hb,.inr (zC4 I.sz hb),fun x c e z=>?_,fun p hp z=>?_⟩
 ·obtain⟨v,q⟩:=I.cell x c e
  exact absurd (zCR q.lt (by rw[z];exact hb)) (Nat.lt_irrefl _)
 ·exact absurd (zCR (zCP (I.pin p hp).1) (by rw[z];exact hb)) (Nat.lt_irrefl _)
structure Turn (P:Program)(w:World)(K:Frag)(tg:Expr)(J:It)(fp:List Addr)(it:Addr)(tn:Nat->Heap->Prop):Prop where
 mem:it∈fp
 obj:∀i h,tn i h->∀b∈fp,∃o,h.get? b=some o/\∀v,o.data≠.cell v
 keep:∀i h h',tn i h->(∀b∈fp,∀o,h.get? b=some o->h'.get? b=some o)->tn i h'
 item:∀(X:Cx),X.prog=P->X.w=w->X.K=K->X.calm=true->∀(i:Nat) (pins:List (Addr×Obj)) (s:Shared) (σ:St) (H:Hp) (E:Value->Shared->Prop),Inv X pins σ H s->(∀b∈fp,zc9 X pins H b)->tn i s.heap->J.go i H ->
  wpAny (model P w) X.A (pyNext (.ref it)) (fun r s1=>∃u,r=some u /\
   wpAny (model P w) X.A (letOwnedTupleGo tg (.ref it) u) (fun _ s2=>∃x H',Inv X pins σ H' s2/\RelV x u/\J.JG i H x H'/\tn (i+1) s2.heap/\∀b∈fp,H' b=none) E s1) E s
 done:∀(X:Cx),X.prog=P->X.w=w->X.K=K->X.calm=true->∀(i:Nat) (pins:List (Addr×Obj)) (s:Shared) (σ:St) (H:Hp) (E:Value->Shared->Prop),Inv X pins σ H s->(∀b∈fp,zc9 X pins H b)->tn i s.heap->J.stop i H ->
  wpAny (model P w) X.A (pyNext (.ref it)) (fun r s1=>r=none/\Inv X pins σ H s1) E s
 self:∀(A:Around) (i:Nat) (s:Shared) (Q:Value->Shared->Prop) (E:Value->Shared->Prop),tn i s.heap->Q (.ref it) s->wpAny (model P w) A (pyIter (.ref it)) Q E s
abbrev TI:=St->Hp->(It->Hp->Prop)->Prop
def PIE (X:Cx)(pins:List (Addr×Obj))(σ:St)(tg:Expr)(R:It->Hp->Prop)(itv:Value)(s2:Shared):Prop :=
 ∃(it:Addr) (fp:List Addr) (tn:Nat->Heap->Prop) (J:It) (H':Hp),itv=.ref it/\Inv X pins σ H' s2/\Turn X.prog X.w X.K tg J fp it tn/\tn 0 s2.heap/\(∀b∈fp,zc9 X pins H' b)/\R J H'
def PI (X:Cx)(tg iter:Expr)(wi:TI):Prop :=
 ∀(pins:List (Addr×Obj)) (s:Shared) (σ:St) (H:Hp) (R:It->Hp->Prop),Inv X pins σ H s->wi σ H R ->
  wpAny (model X.prog X.w) X.A (eval iter X.env) (fun v s1=>wpAny (model X.prog X.w) X.A (pyIter v) (PIE X pins σ tg R) X.xe s1) X.xe s
theorem zib {M:Model}{A:Around}{E:Value->Shared->Prop}{s:Shared}{tg:Expr}{it:Addr}{u:Value}{o:Obj}{n:String}{vs:Array Value}{Q:Unit->Shared->Prop}(ho:s.heap.get? it=some o)(hc:o.cls=.type n)(hd:o.data=.fields vs)
  (hn:["enumerate", "zip", "dict_itemiterator", "dict_reverseitemiterator", "odict_iterator", "itertools.zip_longest", "itertools.pairwise"].contains n=false)(hQ:Q () s):wpAny M A (letOwnedTupleGo tg (.ref it) u) Q E s:=by
 unfold letOwnedTupleGo
 cases tg<;>first
  | exact wpAny_pure hQ
  | (cases u<;>first
    | exact wpAny_pure hQ
    | (refine wpAny_bind (wpAny_load ho ?_)
       rw[hc,hd]
       show wpAny M A (if (["enumerate", "zip", "dict_itemiterator", "dict_reverseitemiterator", "odict_iterator", "itertools.zip_longest", "itertools.pairwise"].contains n&&vs[0]?==some (rawInt _))=true then _ else _) Q E s
       rw[if_neg (by intro h;rw[hn,Bool.false_and] at h;cases h)]
       exact wpAny_pure hQ))
def Itl (K:Frag)(a:Addr):It :=
 ⟨fun i H=>∃xs x,zM K H a xs/\xs[i]?=some x,fun i H x H'=>H'=H/\∀xs,zM K H a xs->xs[i]?=some x,fun i H=>∃xs,zM K H a xs/\xs.length<=i⟩
def Itt (K:Frag)(a:Addr):It :=
 ⟨fun i H=>∃xs x,vW K H a xs/\xs[i]?=some x,fun i H x H'=>H'=H/\∀xs,vW K H a xs->xs[i]?=some x,fun i H=>∃xs,vW K H a xs/\xs.length<=i⟩
def Itr (lo:Int)(n:Nat):It:=⟨fun i _=>i<n,fun i H x H'=>H'=H/\x=.int (lo+i),fun i _=>n<=i⟩
theorem zmn {P:Program}{w:World}{K:Frag}{tg:Expr}(a it:Addr):Turn P w K tg (Itl K a) [it] it (fun i h=>h.IsListIter it a i) where
 mem:=by simp
 obj:=fun i h st b hb=>by
  have e:b=it:=by simpa using hb
  subst e
  obtain⟨o,e,c,d⟩:=st
  exact⟨o,e,fun v z=>by rw[d] at z;cases z⟩
 keep:=fun i h h' st k=>st.at fun o e=>k it (by simp) o e
 item:=by
  intro X hP hw hK hc i pins s σ H E I hf st hg
  subst hP hw hK
  obtain⟨xs,x,hq,hx⟩:=hg
  obtain⟨its,rv,p,hz⟩:=I.list hq
  obtain⟨u,hu,ru⟩:=rv.get hx
  obtain⟨f0,f1,f2,f3,f4,f5⟩:=hf it (by simp)
  refine wpAny_pyNext_list_item st p.isList (x:=u) (by simpa using hu) fun h' st' sb=>?_
  have I1:Inv X pins σ H { s with heap:=h' }:=I.turned (t':=s.toks) (fun b o hb e=>(sb.2 b hb).trans e) f0 f1 f3 f4 f5
  obtain⟨o,e,c,d⟩:=id st'
  exact⟨u,rfl,zib (s:={ s with heap:=h' }) e c d (by decide) ⟨x,H,I1,ru,⟨rfl,fun ys hy=>by rw[I.U4 hy hq];exact hx⟩,st',fun b hb=>(hf b hb).1⟩⟩
 done:=by
  intro X hP hw hK hc i pins s σ H E I hf st hg
  subst hP hw hK
  obtain⟨xs,hq,hx⟩:=hg
  obtain⟨its,rv,p,hz⟩:=I.list hq
  obtain⟨f0,f1,f2,f3,f4,f5⟩:=hf it (by simp)
  have hl:=rv.length
  exact wpAny_pyNext_list_end (I.ok.hd hc) st p.isList (by simp;omega) fun h' eb=>⟨rfl,I.turned (t':=s.toks) (fun b o hb e=>eb b o hb e) f0 f1 f3 f4 f5⟩
 self:=fun _ _ _ _ _ st h=>wpAny_pyIter_listiter st h
theorem zjD {P:Program}{w:World}{K:Frag}{tg:Expr}(a it:Addr):Turn P w K tg (Itt K a) [it] it (fun i h=>h.IsTupleIter it a i) where
 mem:=by simp
 obj:=fun i h st b hb=>by
  have e:b=it:=by simpa using hb
  subst e
  obtain⟨o,e,c,d⟩:=st
  exact⟨o,e,fun v z=>by rw[d] at z;cases z⟩
 keep:=fun i h h' st k=>st.at fun o e=>k it (by simp) o e
 item:=by
  intro X hP hw hK hc i pins s σ H E I hf st hg
  subst hP hw hK
  obtain⟨xs,x,hq,hx⟩:=hg
  obtain⟨its,rv,p,hz⟩:=I.tuple hq
  obtain⟨u,hu,ru⟩:=rv.get hx
  obtain⟨f0,f1,f2,f3,f4,f5⟩:=hf it (by simp)
  refine wpAny_pyNext_tuple_item st (show s.heap.IsTuple a its.toArray from p) (x:=u) (by simpa using hu) fun h' st' sb=>?_
  have I1:Inv X pins σ H { s with heap:=h' }:=I.turned (t':=s.toks) (fun b o hb e=>(sb.2 b hb).trans e) f0 f1 f3 f4 f5
  obtain⟨o,e,c,d⟩:=id st'
  exact⟨u,rfl,zib (s:={ s with heap:=h' }) e c d (by decide) ⟨x,H,I1,ru,⟨rfl,fun ys hy=>by rw[I.zfZ hy hq];exact hx⟩,st',fun b hb=>(hf b hb).1⟩⟩
 done:=by
  intro X hP hw hK hc i pins s σ H E I hf st hg
  subst hP hw hK
  obtain⟨xs,hq,hx⟩:=hg
  obtain⟨its,rv,p,hz⟩:=I.tuple hq
  obtain⟨f0,f1,f2,f3,f4,f5⟩:=hf it (by simp)
  have hl:=rv.length
  exact wpAny_pyNext_tuple_end (I.ok.hd hc) st (show s.heap.IsTuple a its.toArray from p) (by simp;omega) fun h' eb=>⟨rfl,I.turned (t':=s.toks) (fun b o hb e=>eb b o hb e) f0 f1 f3 f4 f5⟩
 self:=fun _ _ _ _ _ st h=>wpAny_pyIter_tupleiter st h
theorem zjE {P:Program}{w:World}{K:Frag}{tg:Expr}(it:Addr)(lo:Int)(n:Nat):Turn P w K tg (Itr lo n) [it] it (fun i h=>IsRangeIter h it (lo+(i:Nat)*1) ((n:Int)-(i:Nat)) 1) where
 mem:=by simp
 obj:=fun i h st b hb=>by
  have e:b=it:=by simpa using hb
  subst e
  exact⟨_,st,fun v z=>by
   have z':Data.fields _=Data.cell v:=z
   cases z'⟩
 keep:=fun i h h' st k=>k it (by simp) _ st
 item:=by
  intro X hP hw hK hc i pins s σ H E I hf st hg
  subst hP hw hK
  obtain⟨f0,f1,f2,f3,f4,f5⟩:=hf it (by simp)
  have W:=Walks.range (prog:=X.prog) (w:=X.w) (I.ok.hd hc) it lo 1 n
  refine W.item i s _ _ hg st fun v h' tk hv st' kk=>?_
  obtain⟨t,rfl⟩:=hv
  have I1:Inv X pins σ H { s with heap:=h',toks:=tk }:=I.turned (fun b o hb e=>kk b o (by simpa using hb) e) f0 f1 f3 f4 f5
  refine⟨_,rfl,zib (s:={ s with heap:=h',toks:=tk }) (n := "range_iterator") st' rfl rfl (by decide) ⟨.int (lo+i),H,I1,⟨t,?_⟩,⟨rfl,rfl⟩,st',fun b hb=>(hf b hb).1⟩⟩
  rw[Int.mul_one]
 done:=by
  intro X hP hw hK hc i pins s σ H E I hf st hg
  subst hP hw hK
  obtain⟨f0,f1,f2,f3,f4,f5⟩:=hf it (by simp)
  exact wpAny_pyNext_range_end (I.ok.hd hc) st (by have:n<=i:=hg;omega) fun h' eb=>⟨rfl,I.turned (t':=s.toks) (fun b o hb e=>eb b o hb e) f0 f1 f3 f4 f5⟩
 self:=fun _ _ _ _ _ st h=>wpAny_pyIter_rangeiter st h
section
variable {X:Cx}{tg:Expr}
def zqZ (K:Frag)(tl:TE):TI:=fun σ H R=>tl σ H fun x H1=>∃a,x=.ref a/\(∃xs,zM K H1 a xs)/\R (Itl K a) H1
def zu8 (K:Frag)(tl:TE):TI:=fun σ H R=>tl σ H fun x H1=>∃a,x=.ref a/\(∃xs,vW K H1 a xs)/\R (Itt K a) H1
theorem yU {l:Expr}{tl:TE}(hl:PE X l tl):PI X tg l (zqZ X.K tl):=by
 intro pins s σ H R I h
 refine ud (hl pins s σ H _ I h) fun v s1 ⟨x,H1,I1,r1,q1⟩=>?_
 obtain⟨a,e,⟨xs,hq⟩,q⟩:=q1
 subst e
 cases r1
 obtain⟨its,rv,p,hz⟩:=I1.list hq
 refine wpAny_pyIter_list p.isList ?_
 refine⟨s1.heap.objs.size,[s1.heap.objs.size],_,_,H1,rfl,I1.kept (t':=s1.toks) fun b o e=>zCO _ e,zmn a _,⟨_,zC3 _ rfl,rfl,rfl⟩,fun b hb=>?_,q⟩
 have e:b=s1.heap.objs.size:=by simpa using hb
 subst e
 exact I1.zml (zCY _) (I1.hok.fresh (zCY _))
theorem zbn {l:Expr}{tl:TE}(hl:PE X l tl):PI X tg l (zu8 X.K tl):=by
 intro pins s σ H R I h
 refine ud (hl pins s σ H _ I h) fun v s1 ⟨x,H1,I1,r1,q1⟩=>?_
 obtain⟨a,e,⟨xs,hq⟩,q⟩:=q1
 subst e
 cases r1
 obtain⟨its,rv,p,hz⟩:=I1.tuple hq
 refine wpAny_pyIter_tuple (show s1.heap.IsTuple a its.toArray from p) ?_
 refine⟨s1.heap.objs.size,[s1.heap.objs.size],_,_,H1,rfl,I1.kept (t':=s1.toks) fun b o e=>zCO _ e,zjD a _,⟨_,zC3 _ rfl,rfl,rfl⟩,fun b hb=>?_,q⟩
 have e:b=s1.heap.objs.size:=by simpa using hb
 subst e
 exact I1.zml (zCY _) (I1.hok.fresh (zCY _))
theorem zic {pins:List (Addr×Obj)}{σ:St}{H:Hp}{s:Shared}{R:It->Hp->Prop}{E:Value->Shared->Prop}{lo hi:Int}{t u v:Tok}{tk:Nat}(I:Inv X pins σ H s)(h1:-(2^62)<=lo)(h2:lo<2^62)(h3:-(2^62)<=hi)(h4:hi<2^62)
  (q:R (Itr lo (hi-lo).toNat) H):wpAny (model X.prog X.w) X.A (pyIter (.ref s.heap.objs.size)) (PIE X pins σ tg R) E { s with heap:=s.heap.push { cls:=.type "range", data:=.fields #[.int lo t,.int hi u,.int 1 v] },toks:=tk }:=by
 refine wpAny_pyIter_range (IsRange.new ..) (small_one h1 h2 h3 h4) ?_
 have I1:Inv X pins σ H { s with heap:=s.heap.push { cls:=.type "range", data:=.fields #[.int lo t,.int hi u,.int 1 v] },toks:=tk }:=I.kept fun b o e=>zCO _ e
 refine⟨(s.heap.push { cls:=.type "range", data:=.fields #[.int lo t,.int hi u,.int 1 v] }).objs.size,[(s.heap.push { cls:=.type "range", data:=.fields #[.int lo t,.int hi u,.int 1 v] }).objs.size],_,_,H,rfl,
  I1.kept (t':=tk) fun b o e=>zCO _ e,zjE _ lo (hi-lo).toNat,?_,fun b hb=>?_,q⟩
 ·have e1:lo+((0:Nat):Int)*1=lo:=by simp
  have e2:(((hi-lo).toNat:Nat):Int)-((0:Nat):Int)=Builtin.Range.rangeSize lo hi 1:=by rw[rangeSize_one];split<;>omega
  show IsRangeIter _ _ (lo+((0:Nat):Int)*1) ((((hi-lo).toNat:Nat):Int)-((0:Nat):Int)) 1
  rw[e1,e2]
  exact zC3 _ rfl
 ·have e:b=(s.heap.push { cls:=.type "range", data:=.fields #[.int lo t,.int hi u,.int 1 v] }).objs.size:=by simpa using hb
  subst e
  exact I1.zml (zCY _) (I1.hok.fresh (zCY _))
def zsS (ta:TA):TI:=fun σ H R=>ta σ H fun vs H1=>∃j:Int,vs=[.int j]/\-(2^62)<=j/\j<2^62/\R (Itr 0 j.toNat) H1
def zsT (ta:TA):TI:=fun σ H R=>ta σ H fun vs H1=>∃i j:Int,vs=[.int i,.int j]/\(-(2^62)<=i/\i<2^62/\-(2^62)<=j/\j<2^62)/\R (Itr i (j-i).toNat) H1
theorem vX {a:Expr}{ta:TA}{p pos:Pos}(hg:Gl X "range")(hm:X.mg "range"=none)(ha:PA X [a] ta)(hs:starEach [a] X.env=[(false,eval a X.env)]:=by rfl):PI X tg (.Call (.Name "range" p) [a] [] pos) (zsS ta):=by
 intro pins s σ H R I h
 refine Call_ (U3 I hg hm boot_range (PyProof.Rows.callWith_type1 (ud (ha pos pins s σ H _ I h) fun us s1 ⟨vs,H1,I1,r1,q1⟩=>?_) hs rfl))
 obtain⟨j,e,q1,q2,q⟩:=q1
 subst e
 cases r1 with
 | cons r rr =>
  cases rr
  obtain⟨t,rfl⟩:=r
  exact call_range_1 (zic I1 (by omega) (by omega) q1 q2 (by simpa using q))
theorem zf1 {a b:Expr}{ta:TA}{p pos:Pos}(hg:Gl X "range")(hm:X.mg "range"=none)(ha:PA X [a,b] ta)(hs:starEach [a,b] X.env=[(false,eval a X.env),(false,eval b X.env)]:=by rfl)(hs2:starEach [b] X.env=[(false,eval b X.env)]:=by rfl) :
  PI X tg (.Call (.Name "range" p) [a,b] [] pos) (zsT ta):=by
 intro pins s σ H R I h
 refine Call_ (U3 I hg hm boot_range (PyProof.Rows.callWith_type1 (ud (ha pos pins s σ H _ I h) fun us s1 ⟨vs,H1,I1,r1,q1⟩=>?_) (by rw[hs,hs2]) (by rw[hs2];rfl)))
 obtain⟨i,j,e,⟨q1,q2,q3,q4⟩,q⟩:=q1
 subst e
 cases r1 with
 | cons r rr =>
  cases rr with
  | cons r' rr =>
   cases rr
   obtain⟨t,rfl⟩:=r
   obtain⟨t',rfl⟩:=r'
   exact call_range_2 (zic I1 q1 q2 q3 q4 q)
def zu9 (wi:TI)(g:TG)(tb:TS):TS:=fun D σ H=>wi σ H fun J H1=>∃W:Nat->Nat->St->Hp->Prop,(∃m,W 0 m σ H1)/\∀i m σ H,W i m σ H ->
 (J.stop i H/\D.nx σ H)\/(J.go i H/\∃N:St->Hp->Prop,(∀ σ' H',N σ' H'->∃m',m'<m/\W (i+1) m' σ' H')/\∀x H',J.JG i H x H'->g x σ H' fun σ2 H2=>tb { D with nx:=N,ct:=N,bk:=D.nx } σ2 H2)
def Ri (fp:List Addr)(h:Heap):List (Addr×Obj):=fp.filterMap fun b=>(h.get? b).map fun o=>(b,o)
theorem Wo {fp:List Addr}{h:Heap}{b:Addr}{o:Obj}(hb:b∈fp)(e:h.get? b=some o):(b,o)∈Ri fp h:=List.mem_filterMap.mpr ⟨b,hb,by rw[e];rfl⟩
theorem zbo {fp:List Addr}{h:Heap}{p:Addr×Obj}(hp:p∈Ri fp h):p.1∈fp/\h.get? p.1=some p.2:=by
 obtain⟨b,hb,e⟩:=List.mem_filterMap.mp hp
 cases q:h.get? b with
 | none=>rw[q] at e;cases e
 | some o =>
  rw[q] at e
  have e':(b,o)=p:=zDd e
  subst e'
  exact⟨hb,q⟩
theorem Inv.pinned {pins:List (Addr×Obj)}{σ:St}{H:Hp}{s:Shared}{fp:List Addr}(I:Inv X pins σ H s)(hf:∀b∈fp,zc9 X pins H b)(ho:∀b∈fp,∃o,s.heap.get? b=some o/\∀v,o.data≠.cell v):Inv X (pins++Ri fp s.heap) σ H s :=
 I.W6 fun p hp=>(List.mem_append.mp hp).elim (fun z=>I.pin p (zCZ _ z)) fun z=>by
  obtain⟨hb,e⟩:=zbo z
  obtain⟨f0,f1,f2,_⟩:=hf p.1 hb
  obtain⟨o,e',d⟩:=ho p.1 hb
  rw[e] at e';cases e'
  exact⟨e,f0,f1,f2,d⟩
theorem Inv.zdN {pins pl:List (Addr×Obj)}{σ:St}{H:Hp}{s:Shared}(I:Inv X (pins++pl) σ H s):Inv X pins σ H s:=I.W6 fun p hp=>I.pin p (zCZ _ (List.mem_append_left _ hp))
theorem wL {iter:Expr}{body:List Stmt}{wi:TI}{g:TG}{tb:TS}{pos:Pos}(hp:PassesOwn (model X.prog X.w) X.A X.env X.xe)(hc:X.calm=true)(hi:PI X tg iter wi)(hg:PG X tg g)(hb:PSs X body tb)
  (hs:∀x,foldedSetIterable iter X.env x=pure x:=by intro _;rfl):PS X (.For tg iter body [] pos) (zu9 wi g tb):=by
 intro pins s σ H D I h
 refine wpAny_For (ud (hi pins s σ H _ I h) fun v s1 h1=>ud h1 fun itv s2 h2=>?_) hs
 obtain⟨it,fp,tn,J,H2,e,I2,T,st2,f2,W,⟨m0,w0⟩,turn⟩:=h2
 subst e
 have stat:∀{H':Hp},(∀b∈fp,H' b=none)->∀b∈fp,zc9 X pins H' b:=fun hn b hb=>⟨hn b hb,(f2 b hb).2⟩
 refine codeAny_forLoop_any (fun n s'=>∃i σ' H',Inv X pins σ' H' s'/\tn i s'.heap/\(∀b∈fp,H' b=none)/\W i n σ' H') ?_ m0 ⟨0,σ,H2,I2,st2,fun b hb=>(f2 b hb).1,w0⟩
 rintro n s3 ⟨i,σ3,H3,I3,st3,fr3,w3⟩
 rcases turn i n σ3 H3 w3 with ⟨stop,qn⟩ | ⟨go,N,hN,step⟩
 ·refine wpAny_passesOwn hp (ud (T.done X rfl rfl rfl hc i pins s3 σ3 H3 X.xe I3 (stat fr3) st3 stop) fun r s4 ⟨hr,I4⟩=>?_)
  subst hr
  exact wpAny_execs_nil ⟨σ3,H3,I4,qn⟩
 ·refine wpAny_passesOwn hp (ud (T.item X rfl rfl rfl hc i pins s3 σ3 H3 X.xe I3 (stat fr3) st3 go) fun r s4 ⟨u,hr,h4⟩=>?_)
  subst hr
  refine wpAny_passesOwn hp (ud h4 fun _ s5 ⟨x,H5,I5,r5,y5,st5,fr5⟩=>?_)
  have I5':=I5.pinned (stat fr5) (T.obj _ _ st5)
  refine wpAny_passesOwn hp (ud (hg _ s5 σ3 H5 x u _ I5' r5 (step x H5 y5)) fun _ s6 ⟨σ6,H6,I6,q6⟩=>?_)
  refine wpAny_passesOwn hp (ud (hb _ s6 σ6 H6 _ I6 q6) fun f s7 q7=>?_)
  have again:∀{σ7:St} {H7:Hp},Inv X (pins++Ri fp s5.heap) σ7 H7 s7->N σ7 H7->∃m,m<n/\∃i σ' H',Inv X pins σ' H' s7/\tn i s7.heap/\(∀b∈fp,H' b=none)/\W i m σ' H':=fun {σ7 H7} I7 n7=>by
   obtain⟨m',hm,w7⟩:=hN σ7 H7 n7
   refine⟨m',hm,i+1,σ7,H7,I7.zdN,T.keep _ _ _ st5 fun b hb o e=>(I7.pin (b,o) (zCZ _ (zCZ _ (Wo hb e)))).1,fun b hb=>?_,w7⟩
   obtain⟨o,e,d⟩:=T.obj _ _ st5 b hb
   exact(I7.pin (b,o) (zCZ _ (zCZ _ (Wo hb e)))).2.1
  cases f with
  | next=>obtain⟨σ7,H7,I7,n7⟩:=q7;exact again I7 n7
  | cont=>obtain⟨σ7,H7,I7,n7⟩:=q7;exact again I7 n7
  | brk=>obtain⟨σ7,H7,I7,q7⟩:=q7;exact⟨σ7,H7,I7.zdN,q7⟩
  | ret v=>obtain⟨x7,σ7,H7,I7,r7,q7⟩:=q7;exact⟨x7,σ7,H7,I7.zdN,r7,q7⟩
end
theorem uf {K:Frag}{a:Addr}{xs:List V}{g:TG}{tb:TS}{D:Ends}{σ:St}{H:Hp}(Pv:Nat->St->Hp->Prop)(h0:Pv 0 σ H)(hl:∀i σ H,i<=xs.length->Pv i σ H->zM K H a xs)
  (hs:∀i x σ H,xs[i]?=some x->Pv i σ H->g x σ H fun σ2 H2=>tb { D with nx:=Pv (i+1),ct:=Pv (i+1),bk:=D.nx } σ2 H2)(hd:∀ σ H,Pv xs.length σ H->D.nx σ H) :
  ∃W:Nat->Nat->St->Hp->Prop,(∃m,W 0 m σ H)/\∀i m σ H,W i m σ H ->
   ((Itl K a).stop i H/\D.nx σ H)\/((Itl K a).go i H/\∃N:St->Hp->Prop,(∀ σ' H',N σ' H'->∃m',m'<m/\W (i+1) m' σ' H')/\∀x H',(Itl K a).JG i H x H'->g x σ H' fun σ2 H2=>tb { D with nx:=N,ct:=N,bk:=D.nx } σ2 H2):=by
 refine⟨fun i m σ H=>m=xs.length-i/\i<=xs.length/\Pv i σ H,⟨xs.length,by simp,zC5 _,h0⟩,?_⟩
 rintro i m σ H ⟨rfl,hi,p⟩
 have q:=hl i σ H hi p
 by_cases hlt:i<xs.length
 ·refine .inr ⟨⟨xs,xs[i],q,by simp[hlt]⟩,Pv (i+1),fun σ' H' p'=>⟨xs.length-(i+1),by omega,rfl,hlt,p'⟩,fun x H' y=>?_⟩
  obtain⟨e,y⟩:=y
  subst e
  exact hs i x σ _ (y xs q) p
 ·have e:i=xs.length:=by omega
  subst e
  exact .inl ⟨⟨xs,q,zCY _⟩,hd σ H p⟩
theorem zpA {K:Frag}{a:Addr}{xs:List V}{g:TG}{tb:TS}{D:Ends}{σ:St}{H:Hp}(Pv:Nat->St->Hp->Prop)(h0:Pv 0 σ H)(hl:∀i σ H,i<=xs.length->Pv i σ H->vW K H a xs)
  (hs:∀i x σ H,xs[i]?=some x->Pv i σ H->g x σ H fun σ2 H2=>tb { D with nx:=Pv (i+1),ct:=Pv (i+1),bk:=D.nx } σ2 H2)(hd:∀ σ H,Pv xs.length σ H->D.nx σ H) :
  ∃W:Nat->Nat->St->Hp->Prop,(∃m,W 0 m σ H)/\∀i m σ H,W i m σ H ->
   ((Itt K a).stop i H/\D.nx σ H)\/((Itt K a).go i H/\∃N:St->Hp->Prop,(∀ σ' H',N σ' H'->∃m',m'<m/\W (i+1) m' σ' H')/\∀x H',(Itt K a).JG i H x H'->g x σ H' fun σ2 H2=>tb { D with nx:=N,ct:=N,bk:=D.nx } σ2 H2):=by
 refine⟨fun i m σ H=>m=xs.length-i/\i<=xs.length/\Pv i σ H,⟨xs.length,by simp,zC5 _,h0⟩,?_⟩
 rintro i m σ H ⟨rfl,hi,p⟩
 have q:=hl i σ H hi p
 by_cases hlt:i<xs.length
 ·refine .inr ⟨⟨xs,xs[i],q,by simp[hlt]⟩,Pv (i+1),fun σ' H' p'=>⟨xs.length-(i+1),by omega,rfl,hlt,p'⟩,fun x H' y=>?_⟩
  obtain⟨e,y⟩:=y
  subst e
  exact hs i x σ _ (y xs q) p
 ·have e:i=xs.length:=by omega
  subst e
  exact .inl ⟨⟨xs,q,zCY _⟩,hd σ H p⟩
theorem Z2 {lo:Int}{n:Nat}{g:TG}{tb:TS}{D:Ends}{σ:St}{H:Hp}(Pv:Nat->St->Hp->Prop)(h0:Pv 0 σ H)
  (hs:∀i σ H,i<n->Pv i σ H->g (.int (lo+i)) σ H fun σ2 H2=>tb { D with nx:=Pv (i+1),ct:=Pv (i+1),bk:=D.nx } σ2 H2)(hd:∀ σ H,Pv n σ H->D.nx σ H) :
  ∃W:Nat->Nat->St->Hp->Prop,(∃m,W 0 m σ H)/\∀i m σ H,W i m σ H ->
   ((Itr lo n).stop i H/\D.nx σ H)\/((Itr lo n).go i H/\∃N:St->Hp->Prop,(∀ σ' H',N σ' H'->∃m',m'<m/\W (i+1) m' σ' H')/\∀x H',(Itr lo n).JG i H x H'->g x σ H' fun σ2 H2=>tb { D with nx:=N,ct:=N,bk:=D.nx } σ2 H2):=by
 refine⟨fun i m σ H=>m=n-i/\i<=n/\Pv i σ H,⟨n,by simp,zC5 _,h0⟩,?_⟩
 rintro i m σ H ⟨rfl,hi,p⟩
 by_cases hlt:i<n
 ·refine .inr ⟨hlt,Pv (i+1),fun σ' H' p'=>⟨n-(i+1),by omega,rfl,hlt,p'⟩,fun x H' y=>?_⟩
  obtain⟨e,y⟩:=y
  subst e y
  exact hs i σ _ hlt p
 ·have e:i=n:=by omega
  subst e
  exact .inl ⟨zCY _,hd σ H p⟩
abbrev R2:=V->V->Hp->VK->Prop
def Qu (X:Cx)(f:Value->Value->Sem Value)(r:R2):Prop :=
 ∀(pins:List (Addr×Obj)) (s:Shared) (σ:St) (H:Hp) (x y:V) (v u:Value) (Q:VK),Inv X pins σ H s->RelV x v->RelV y u->r x y H Q ->
  wpAny (model X.prog X.w) X.A (f v u) (EP X pins σ Q) X.xe s
def UnR (X:Cx)(f:Value->Sem Value)(r:V->Hp->VK->Prop):Prop :=
 ∀(pins:List (Addr×Obj)) (s:Shared) (σ:St) (H:Hp) (x:V) (v:Value) (Q:VK),Inv X pins σ H s->RelV x v->r x H Q ->
  wpAny (model X.prog X.w) X.A (f v) (EP X pins σ Q) X.xe s
def Wm (X:Cx)(f:Value)(r:List V->Hp->VK->Prop):Prop :=
 ∀(pins:List (Addr×Obj)) (s:Shared) (σ:St) (H:Hp) (xs:List V) (us:List Value) (Q:VK),Inv X pins σ H s->Vals xs us->r xs H Q ->
  wpAny (model X.prog X.w) X.A (call f us) (EP X pins σ Q) X.xe s
def zvc (X:Cx)(r:V->Hp->(Bool->Hp->Prop)->Prop):Prop :=
 ∀(pins:List (Addr×Obj)) (s:Shared) (σ:St) (H:Hp) (x:V) (v:Value) (Q:Bool->Hp->Prop),Inv X pins σ H s->RelV x v->r x H Q ->
  wpAny (model X.prog X.w) X.A (truthy v) (TP X pins σ Q) X.xe s
def tOp (r:R2)(ta tb:TE):TE:=fun σ H Q=>ta σ H fun x H1=>tb σ H1 fun y H2=>r x y H2 Q
def tUn (r:V->Hp->VK->Prop)(ta:TE):TE:=fun σ H Q=>ta σ H fun x H1=>r x H1 Q
def rI (C:Int->Int->Prop)(g:Int->Int->V):R2:=fun x y H Q=>∃i j,x=.int i/\y=.int j/\C i j/\Q (g i j) H
def rI0 (g:Int->Int->V):R2:=fun x y H Q=>∃i j,x=.int i/\y=.int j/\Q (g i j) H
def rU (g:Int->V):V->Hp->VK->Prop:=fun x H Q=>∃i,x=.int i/\Q (g i) H
section
variable {X:Cx}{a b c:Expr}{ta tb tc:TE}{pos:Pos}
theorem zrB (ha:PE X a ta)(hb:PE X b tb){pins:List (Addr×Obj)}{s:Shared}{σ:St}{H:Hp}{R:V->V->Hp->Prop}(I:Inv X pins σ H s)
  (h:ta σ H fun x H1=>tb σ H1 fun y H2=>R x y H2){Q:Value->Shared->Prop}{f:Value->Value->Sem Value}
  (hf:∀v u s2 x y H2,Inv X pins σ H2 s2->RelV x v->RelV y u->R x y H2->wpAny (model X.prog X.w) X.A (f v u) Q X.xe s2) :
  wpAny (model X.prog X.w) X.A (eval a X.env) (fun v s₁=>wpAny (model X.prog X.w) X.A (eval b X.env) (fun u s₂=>wpAny (model X.prog X.w) X.A (f v u) Q X.xe s₂) X.xe s₁) X.xe s:=by
 refine ud (ha pins s σ H _ I h) fun v s1 ⟨x,H1,I1,r1,q1⟩=>?_
 refine ud (hb pins s1 σ H1 _ I1 q1) fun u s2 ⟨y,H2,I2,r2,q2⟩=>?_
 exact hf v u s2 x y H2 I2 r1 r2 q2
theorem zQ {op:Operator}{r:R2}(ho:Qu X (binaryOp op) r)(ha:PE X a ta)(hb:PE X b tb):PE X (.BinOp a op b pos) (tOp r ta tb):=by
 intro pins s σ H Q I h
 exact wpAny_BinOp (zrB ha hb I h fun v u s2 x y H2 I2 rx ry q=>ho pins s2 σ H2 x y v u Q I2 rx ry q)
theorem zid {op:UnaryOp}{r:V->Hp->VK->Prop}(ho:UnR X (unaryOp op) r)(ha:PE X a ta):PE X (.UnaryOp op a pos) (tUn r ta):=by
 intro pins s σ H Q I h
 exact UnaryOp_ (ud (ha pins s σ H _ I h) fun v s1 ⟨x,H1,I1,r1,q1⟩=>ho pins s1 σ H1 x v Q I1 r1 q1)
theorem opI {f:Value->Value->Sem Value}{C:Int->Int->Prop}{g:Int->Int->Int}
  (rule:∀(i j:Int) (t u:Tok) (s:Shared) (Q:Value->Shared->Prop) (E:Value->Shared->Prop),C i j->Q (.int (g i j) s.toks) { s with toks:=s.toks+1 }->wpAny (model X.prog X.w) X.A (f (.int i t) (.int j u)) Q E s) :
  Qu X f (rI C fun i j=>.int (g i j)):=by
 intro pins s σ H x y v u Q I rx ry h
 obtain⟨i,j,rfl,rfl,hc,q⟩:=h
 obtain⟨t,rfl⟩:=rx
 obtain⟨t',rfl⟩:=ry
 exact rule i j t t' s _ _ hc ⟨.int (g i j),H,I.tok _,⟨_,rfl⟩,q⟩
theorem zmo {f:Value->Value->Sem Value}{g:Int->Int->Int}
  (rule:∀(i j:Int) (t u:Tok) (s:Shared) (Q:Value->Shared->Prop) (E:Value->Shared->Prop),Q (.int (g i j) s.toks) { s with toks:=s.toks+1 }->wpAny (model X.prog X.w) X.A (f (.int i t) (.int j u)) Q E s) :
  Qu X f (rI0 fun i j=>.int (g i j)):=by
 intro pins s σ H x y v u Q I rx ry h
 obtain⟨i,j,rfl,rfl,q⟩:=h
 obtain⟨t,rfl⟩:=rx
 obtain⟨t',rfl⟩:=ry
 exact rule i j t t' s _ _ ⟨.int (g i j),H,I.tok _,⟨_,rfl⟩,q⟩
theorem zrC {f:Value->Value->Sem Value}{g:Int->Int->Bool}
  (rule:∀(i j:Int) (t u:Tok) (s:Shared) (Q:Value->Shared->Prop) (E:Value->Shared->Prop),Q (.bool (g i j)) s->wpAny (model X.prog X.w) X.A (f (.int i t) (.int j u)) Q E s) :
  Qu X f (rI0 fun i j=>.bl (g i j)):=by
 intro pins s σ H x y v u Q I rx ry h
 obtain⟨i,j,rfl,rfl,q⟩:=h
 obtain⟨t,rfl⟩:=rx
 obtain⟨t',rfl⟩:=ry
 exact rule i j t t' s _ _ ⟨.bl (g i j),H,I,rfl,q⟩
def zvd (i j:Int):Prop:=0<j/\j<1073741824
def zve (i j:Int):Prop:=0<=j/\j<=1000000/\i.natAbs<2^64
def zrD (i j:Int):Prop:=(-(2^64)<i/\i<2^64)\/(-(2^64)<j/\j<2^64)
theorem zrD.ok {i j:Int}(h:zrD i j):IntMulOk i j:=by
 rcases h with ⟨h1,h2⟩ | ⟨h1,h2⟩
 ·exact .of_left (intBits_le_64 h1 h2)
 ·exact .of_right (intBits_le_64 h1 h2)
theorem zjF (k:Nat):(0:Int)<=2^k:=by
 rw[two_pow_cast]
 exact Int.natCast_nonneg _
theorem wU:Qu X (binaryOp .Add) (rI0 fun i j=>.int (i+j)):=zmo fun _ _ _ _ _ _ _ q=>add_int q
theorem JH:Qu X (binaryOp .Sub) (rI0 fun i j=>.int (i-j)):=zmo fun _ _ _ _ _ _ _ q=>sub_int q
theorem N8:Qu X (binaryOp .Mult) (rI zrD fun i j=>.int (i*j)):=opI fun _ _ _ _ _ _ _ hc q=>mul_int q hc.ok
theorem zlm:Qu X (binaryOp .FloorDiv) (rI zvd fun i j=>.int (i / j)):=opI fun i j _ _ _ _ _ hc q=>by
 have h1:(0:Int)<j:=hc.1
 have h2:j<1073741824:=hc.2
 exact floordiv_int (by omega) (by rw[Int.fdiv_eq_ediv_of_nonneg i (by omega)];exact q) (.inl (PyProof.noPylong_small (by omega)))
theorem YW:Qu X (binaryOp .Mod) (rI (fun _ j=>0<j) fun i j=>.int (i%j)):=opI fun i j _ _ _ _ _ hc q=>by
 have h1:(0:Int)<j:=hc
 exact mod_int' (by omega) (by rw[Int.fmod_eq_emod_of_nonneg i (by omega)];exact q)
theorem zrE:Qu X (binaryOp .Pow) (rI zve fun i j=>.int (i^j.toNat)):=opI fun _ _ _ _ _ _ _ hc q=>pow_int_small hc.1 hc.2.1 hc.2.2 q
theorem zrF:Qu X (binaryOp .RShift) (rI (fun _ j=>0<=j) fun i j=>.int (i / 2^j.toNat)):=opI fun i j _ _ _ _ _ hc q =>
 rshift_int hc (by rw[Int.fdiv_eq_ediv_of_nonneg i (zjF _)];exact q)
theorem zrG:Qu X (binaryOp .BitAnd) (rI0 fun i j=>.int (Builtin.bitAnd i j)):=zmo fun _ _ _ _ _ _ _ q=>and_int q
theorem zsW:Qu X (binaryOp .BitOr) (rI0 fun i j=>.int (Builtin.bitOr i j)):=zmo fun _ _ _ _ _ _ _ q=>or_int q
theorem zrH:Qu X (binaryOp .BitXor) (rI0 fun i j=>.int (Builtin.bitXor i j)):=zmo fun _ _ _ _ _ _ _ q=>xor_int q
theorem zgR:Qu X (inplaceOp .Add) (rI0 fun i j=>.int (i+j)):=zmo fun _ _ _ _ _ _ _ q=>iadd_int q
theorem unI {f:Value->Sem Value}{g:Int->Int}
  (rule:∀(i:Int) (t:Tok) (s:Shared) (Q:Value->Shared->Prop) (E:Value->Shared->Prop),Q (.int (g i) s.toks) { s with toks:=s.toks+1 }->wpAny (model X.prog X.w) X.A (f (.int i t)) Q E s) :
  UnR X f (rU fun i=>.int (g i)):=by
 intro pins s σ H x v Q I rx h
 obtain⟨i,rfl,q⟩:=h
 obtain⟨t,rfl⟩:=rx
 exact rule i t s _ _ ⟨.int (g i),H,I.tok _,⟨_,rfl⟩,q⟩
theorem zdO:UnR X (unaryOp .USub) (rU fun i=>.int (-i)):=unI fun _ _ _ _ _ q=>neg_int q
end
def zsX:V->V->Bool
 | .non,.non=>true | .non,.int _=>true | .int _,.non=>true | .non,.bl _=>true | .bl _,.non=>true | .non,.str _=>true | .str _,.non=>true
 | .int _,.int _=>true | .bl _,.bl _=>true | .str _,.str _=>true | .byt _,.byt _=>true
 | .int _,.str _=>true | .str _,.int _=>true | .bl _,.str _=>true | .str _,.bl _=>true
 | _,_=>false
def rEq:R2:=fun x y H Q=>zsX x y=true/\Q (.bl (decide (x=y))) H
def rNe:R2:=fun x y H Q=>zsX x y=true/\Q (.bl (!decide (x=y))) H
theorem zln {i j:Int}:decide (V.int i=V.int j)=(i==j):=by
 rw[zDp]
 simp
theorem znD {i j:Bool}:decide (V.bl i=V.bl j)=(i==j):=by
 rw[zDp]
 simp
theorem zlo {i j:Str}:decide (V.str i=V.str j)=(i==j):=by
 rw[zDp]
 simp
theorem zlp {i j:Array UInt8}:decide (V.byt i=V.byt j)=(i.toList==j.toList):=by
 rw[zDp]
 cases i
 cases j
 simp
section
variable {X:Cx}{a b c:Expr}{ta tb tc:TE}{pos:Pos}
theorem xR {pins:List (Addr×Obj)}{σ:St}{H:Hp}{s:Shared}{Q:VK}{k k':Bool}(I:Inv X pins σ H s)(q:Q (.bl k) H)(e:k=k'):EP X pins σ Q (.bool k') s:=by
 subst e
 exact⟨.bl k,H,I,rfl,q⟩
theorem wZ:Qu X (compareOp .Eq) rEq:=by
 intro pins s σ H x y v u Q I rx ry h
 obtain⟨hs,q⟩:=h
 cases x with
 | non =>
  cases rx
  cases y with
  | non=>cases ry;exact PySem.EqNone.eq_none_none (xR I q (by simp))
  | bl j=>cases ry;exact PySem.EqNone.eq_none_bool (xR I q (by simp))
  | int j=>obtain⟨t',rfl⟩:=ry;exact PySem.EqNone.eq_none_int (xR I q (by simp))
  | str j=>obtain⟨t',rfl⟩:=ry;exact PySem.EqNone.eq_none_str (xR I q (by simp))
  | _=>exact absurd (show false=true from hs) zCM
 | bl i =>
  cases rx
  cases y with
  | non=>cases ry;exact PySem.EqNone.eq_bool_none (xR I q (by simp))
  | bl j=>cases ry;exact eq_bool (xR I q znD)
  | str j=>obtain⟨t',rfl⟩:=ry;exact PySem.EqMixed.eq_bool_str (xR I q (by simp))
  | _=>exact absurd (show false=true from hs) zCM
 | int i =>
  obtain⟨t,rfl⟩:=rx
  cases y with
  | non=>cases ry;exact PySem.EqNone.eq_int_none (xR I q (by simp))
  | int j=>obtain⟨t',rfl⟩:=ry;exact eq_int (xR I q zln)
  | str j=>obtain⟨t',rfl⟩:=ry;exact PySem.EqMixed.eq_int_str (xR I q (by simp))
  | _=>exact absurd (show false=true from hs) zCM
 | str i =>
  obtain⟨t,rfl⟩:=rx
  cases y with
  | non=>cases ry;exact PySem.EqNone.eq_str_none (xR I q (by simp))
  | bl j=>cases ry;exact PySem.EqMixed.eq_str_bool (xR I q (by simp))
  | int j=>obtain⟨t',rfl⟩:=ry;exact PySem.EqMixed.eq_str_int (xR I q (by simp))
  | str j=>obtain⟨t',rfl⟩:=ry;exact eq_str (xR I q zlo)
  | _=>exact absurd (show false=true from hs) zCM
 | byt i =>
  obtain⟨t,rfl⟩:=rx
  cases y with
  | byt j=>obtain⟨t',rfl⟩:=ry;exact PySem.W.eq_bytes (xR I q zlp)
  | _=>exact absurd (show false=true from hs) zCM
 | _=>cases y<;>exact absurd (show false=true from hs) zCM
theorem K9:Qu X (compareOp .NotEq) rNe:=by
 intro pins s σ H x y v u Q I rx ry h
 obtain⟨hs,q⟩:=h
 cases x with
 | non =>
  cases rx
  cases y with
  | non=>cases ry;exact PySem.EqNone.ne_none_none (xR I q (by simp))
  | bl j=>cases ry;exact PySem.EqNone.ne_none_bool (xR I q (by simp))
  | int j=>obtain⟨t',rfl⟩:=ry;exact PySem.EqNone.ne_none_int (xR I q (by simp))
  | str j=>obtain⟨t',rfl⟩:=ry;exact PySem.EqNone.ne_none_str (xR I q (by simp))
  | _=>exact absurd (show false=true from hs) zCM
 | bl i =>
  cases rx
  cases y with
  | non=>cases ry;exact PySem.EqNone.ne_bool_none (xR I q (by simp))
  | bl j=>cases ry;exact ne_bool (xR I q (congrArg not znD))
  | str j=>obtain⟨t',rfl⟩:=ry;exact PySem.EqMixed.ne_bool_str (xR I q (by simp))
  | _=>exact absurd (show false=true from hs) zCM
 | int i =>
  obtain⟨t,rfl⟩:=rx
  cases y with
  | non=>cases ry;exact PySem.EqNone.ne_int_none (xR I q (by simp))
  | int j=>obtain⟨t',rfl⟩:=ry;exact ne_int (xR I q (congrArg not zln))
  | str j=>obtain⟨t',rfl⟩:=ry;exact PySem.EqMixed.ne_int_str (xR I q (by simp))
  | _=>exact absurd (show false=true from hs) zCM
 | str i =>
  obtain⟨t,rfl⟩:=rx
  cases y with
  | non=>cases ry;exact PySem.EqNone.ne_str_none (xR I q (by simp))
  | bl j=>cases ry;exact PySem.EqMixed.ne_str_bool (xR I q (by simp))
  | int j=>obtain⟨t',rfl⟩:=ry;exact PySem.EqMixed.ne_str_int (xR I q (by simp))
  | str j=>obtain⟨t',rfl⟩:=ry;exact ne_str (xR I q (congrArg not zlo))
  | _=>exact absurd (show false=true from hs) zCM
 | byt i =>
  obtain⟨t,rfl⟩:=rx
  cases y with
  | byt j=>obtain⟨t',rfl⟩:=ry;exact PySem.W.ne_bytes (xR I q (congrArg not zlp))
  | _=>exact absurd (show false=true from hs) zCM
 | _=>cases y<;>exact absurd (show false=true from hs) zCM
theorem zlq:Qu X (compareOp .Lt) (rI0 fun i j=>.bl (decide (i<j))):=zrC fun _ _ _ _ _ _ _ q=>lt_int q
theorem zdP:Qu X (compareOp .Gt) (rI0 fun i j=>.bl (decide (j<i))):=zrC fun _ _ _ _ _ _ _ q=>gt_int q
theorem zq0:Qu X (compareOp .GtE) (rI0 fun i j=>.bl (decide (j<=i))):=zrC fun _ _ _ _ _ _ _ q=>ge_int q
theorem zpB:Qu X (compareOp .IsNot) (fun x y H Q=>y=.non/\Q (.bl (!decide (x=.non))) H):=by
 intro pins s σ H x y v u Q I rx ry h
 obtain⟨rfl,q⟩:=h
 cases ry
 refine isnot_none_gen (xR I q ?_)
 cases x<;>first
  | (cases rx;rfl)
  | (obtain⟨t,rfl⟩:=rx;rfl)
theorem zY (b:Expr){op:CmpOp}(h:op≠.In:=by decide)(h2:op≠.NotIn:=by decide):behindInMarks op b=false:=by
 have e1:(op==CmpOp.In)=false:=by cases op<;>first | rfl | exact absurd rfl h
 have e2:(op==CmpOp.NotIn)=false:=by cases op<;>first | rfl | exact absurd rfl h2
 cases b<;>simp[behindInMarks,e1,e2]
theorem tO {op:CmpOp}{r:R2}(ho:Qu X (compareOp op) r)(ha:PE X a ta)(hb:PE X b tb)(hm:behindInMarks op b=false):PE X (.Compare a [op] [b] pos) (tOp r ta tb):=by
 intro pins s σ H Q I h
 exact wpAny_Compare1 (zrB ha hb I h fun v u s2 x y H2 I2 rx ry q=>ho pins s2 σ H2 x y v u Q I2 rx ry q) hm
def zsY (t:TE):TT:=fun σ H Q=>t σ H fun x H'=>∃k,x=.bl k/\Q k H'
theorem zP {op:CmpOp}{r:R2}(ho:Qu X (compareOp op) r)(ha:PE X a ta)(hb:PE X b tb)(hm:behindInMarks op b=false):PT X (.Compare a [op] [b] pos) (zsY (tOp r ta tb)):=by
 intro pins s σ H Q I h
 refine wpAny_isTrue_Compare1 (ud (ha pins s σ H _ I h) fun v s1 ⟨x,H1,I1,r1,q1⟩=>ud (hb pins s1 σ H1 _ I1 q1) fun u s2 ⟨y,H2,I2,r2,q2⟩ =>
  ud (ho pins s2 σ H2 x y v u _ I2 r1 r2 q2) fun c s3 ⟨z,H3,I3,r3,k,e,q3⟩=>?_) hm
 subst e
 cases r3
 exact wpAny_truthy_bool ⟨H3,I3,q3⟩
def zpC (K:Frag)(x:V)(H:Hp)(k:Bool):Prop :=
 match x with
 | .non=>k=false
 | .bl b=>k=b
 | .int i=>k=(i != 0)
 | .str y=>y.length<=sizeLine/\k=((y.length:Int) != 0)
 | .byt y=>y.size<=sizeLine/\k=((y.size:Int) != 0)
 | .ref p=>(∃xs,zM K H p xs/\k=!xs.isEmpty)\/(∃xs,vW K H p xs/\k=!xs.isEmpty)\/∃kvs,H p=some (.dK kvs)/\k=!kvs.isEmpty
 | _=>False
theorem zjG {κ:Type}{kvs:List (κ×V)}{vs:List (κ×Value)}(r:KV kvs vs):(!vs.isEmpty)=!kvs.isEmpty:=by
 cases r<;>rfl
theorem zdQ {xs:List V}{its:List Value}(r:Vals xs its):(!its.toArray.isEmpty)=!xs.isEmpty:=by
 cases r<;>simp
theorem Qx:(sizeLine:Nat)<2^63:=by rw[sizeLine_eq];decide
theorem zrI:zvc X (fun x H Q=>∃k,zpC X.K x H k/\Q k H):=by
 intro pins s σ H x v Q I rx h
 obtain⟨k,e,q⟩:=h
 have hl:=Qx
 have hs:sizeLine=16777216:=sizeLine_eq
 cases x with
 | non =>
  cases rx
  have e':k=false:=e
  subst e'
  exact truthy_none ⟨H,I,q⟩
 | bl b =>
  cases rx
  have e':k=b:=e
  subst e'
  exact wpAny_truthy_bool ⟨H,I,q⟩
 | int i =>
  obtain⟨t,rfl⟩:=rx
  have e':k=(i != 0):=e
  subst e'
  exact PySem.P.truthy_int ⟨H,I,q⟩
 | str y =>
  obtain⟨t,rfl⟩:=rx
  obtain⟨hy,e'⟩:y.length<=sizeLine/\k=((y.length:Int) != 0):=e
  subst e'
  exact PySem.P.truthy_str (by omega) ⟨H,I.tok _,q⟩
 | byt y =>
  obtain⟨t,rfl⟩:=rx
  obtain⟨hy,e'⟩:y.size<=sizeLine/\k=((y.size:Int) != 0):=e
  subst e'
  exact PySem.W.truthy_bytes (by omega) ⟨H,I.tok _,q⟩
 | ref p =>
  cases rx
  have e':(∃xs,zM X.K H p xs/\k=!xs.isEmpty)\/(∃xs,vW X.K H p xs/\k=!xs.isEmpty)\/∃kvs,H p=some (.dK kvs)/\k=!kvs.isEmpty:=e
  rcases e' with ⟨xs,hx,e'⟩ | ⟨xs,hx,e'⟩ | ⟨kvs,hx,e'⟩
  ·subst e'
   obtain⟨its,r,pl,hz⟩:=I.list hx
   have hlen:=r.length
   exact wpAny_truthy_list pl.isList (by simp only[zCS];omega) ⟨H,I.tok _,by rw[zdQ r];exact q⟩
  ·subst e'
   obtain⟨its,r,pl,hz⟩:=I.tuple hx
   have hlen:=r.length
   exact truthy_tuple pl (by simp only[zCS];omega) ⟨H,I.tok _,by rw[zdQ r];exact q⟩
  ·subst e'
   obtain⟨hz,hS,vs,r,m⟩:kvs.length<=sizeLine/\(p==sysModules)=false/\∃vs,KV kvs vs/\s.heap.DictOf (vh X.prog X.w) p vs:=I.hok p _ hx
   have hlen:kvs.length=vs.length:=Paired.length r
   exact wpAny_truthy_dict hS m (by omega) ⟨H,I.tok _,by rw[zjG r];exact q⟩
 | _=>exact(show False from e).elim
theorem vg (ha:PE X a ta)(he:∀whole,isTrue a X.env whole=(do let v <-whole;standAt a.pos;holding [v] (truthy v))) :
  PT X a (fun σ H Q=>ta σ H fun x H'=>∃k,zpC X.K x H' k/\Q k H'):=by
 intro pins s σ H Q I h
 exact isTrue_plain (ud (ha pins s σ H _ I h) fun v s1 ⟨x,H1,I1,r1,q1⟩=>zrI pins s1 σ H1 x v Q I1 r1 q1) (he _)
theorem zjH:Qu X (binaryOp .Add) (fun x y H Q=>∃i j,x=.str i/\y=.str j/\i.length+j.length<=sizeLine/\Q (.str (i++j)) H):=by
 intro pins s σ H x y v u Q I rx ry h
 obtain⟨i,j,rfl,rfl,hz,q⟩:=h
 obtain⟨t,rfl⟩:=rx
 obtain⟨t',rfl⟩:=ry
 exact add_str (fun t' tk=>⟨.str (i++j),H,I.tok _,⟨_,rfl⟩,q⟩) hz
theorem vals1 {x:V}{us:List Value}(r:Vals [x] us):∃u,us=[u]/\RelV x u:=by
 cases r with
 | cons r1 r2=>cases r2;exact⟨_,rfl,r1⟩
theorem vals2 {x y:V}{us:List Value}(r:Vals [x,y] us):∃u w',us=[u,w']/\RelV x u/\RelV y w':=by
 cases r with
 | cons r1 r2 =>
  cases r2 with
  | cons r3 r4=>cases r4;exact⟨_,_,rfl,r1,r3⟩
theorem zbp (hc:X.calm=true):Wm X (.builtin "max") (fun xs H Q=>∃i j,xs=[.int i,.int j]/\Q (.int (if j > i then j else i)) H):=by
 intro pins s σ H xs us Q I r h
 obtain⟨i,j,rfl,q⟩:=h
 obtain⟨u,w',rfl,⟨t,rfl⟩,⟨t',rfl⟩⟩:=vals2 r
 refine max_two_ints (I.ok.hd hc) fun h' tk k=>⟨_,H,I.kept k,?_,q⟩
 by_cases hj:j > i
 ·rw[if_pos hj,if_pos hj];exact⟨_,rfl⟩
 ·rw[if_neg hj,if_neg hj];exact⟨_,rfl⟩
theorem zmp (hc:X.calm=true):Wm X (.builtin "min") (fun xs H Q=>∃i j,xs=[.int i,.int j]/\Q (.int (if j<i then j else i)) H):=by
 intro pins s σ H xs us Q I r h
 obtain⟨i,j,rfl,q⟩:=h
 obtain⟨u,w',rfl,⟨t,rfl⟩,⟨t',rfl⟩⟩:=vals2 r
 refine min_two_ints (I.ok.hd hc) fun h' tk k=>⟨_,H,I.kept k,?_,q⟩
 by_cases hj:j<i
 ·rw[if_pos hj,if_pos hj];exact⟨_,rfl⟩
 ·rw[if_neg hj,if_neg hj];exact⟨_,rfl⟩
theorem zf2:Wm X (.type "int") (fun xs H Q=>(∃i,xs=[.int i]/\Q (.int i) H)\/∃k,xs=[.bl k]/\Q (.int (if k then 1 else 0)) H):=by
 intro pins s σ H xs us Q I r h
 rcases h with ⟨i,rfl,q⟩ | ⟨k,rfl,q⟩
 ·obtain⟨u,rfl,t,rfl⟩:=vals1 r
  exact call_int_int ⟨.int i,H,I,⟨_,rfl⟩,q⟩
 ·obtain⟨u,rfl,r1⟩:=vals1 r
  cases r1
  exact call_int_bool ⟨.int (if k then 1 else 0),H,I.tok _,⟨_,rfl⟩,q⟩
end
structure zjI (h:Heap)(x dx C:Addr)(mA:Str->Option Value):Prop where
 obj:h.get? x=some (PySem.W.instObj C dx)
 ns:h.Ns1 dx mA
 ne:dx≠x
theorem zmq {h:Heap}{dx:Addr}{mA:Str->Option Value}(n:h.Ns1 dx mA):∃od,h.get? dx=some od/\∀name,PySem.W.lookIn name od=some (mA name):=by
 obtain⟨o,es,ep,ho,hd,hk,_,hm⟩:=n
 refine⟨o,ho,fun name=>?_⟩
 have e:=hm name
 unfold nsFind findBy at e
 rw[<-Array.find?_toList] at e
 unfold PySem.W.lookIn
 rw[hd]
 dsimp only
 split
 ·rename_i y q
  rw[q] at e
  exact congrArg some e
 ·rename_i q
  rw[q] at e
  have a:es.toList.any (·.refKey)=false:=by
   rw[List.any_eq_false]
   intro y hy
   obtain⟨z,t,hkey⟩:=hk y (Array.mem_toList_iff.mp hy)
   simp[DictEntry.refKey,hkey]
  have a':¬es.toList.any (·.refKey)=true:=by rw[a];exact zCM
  rw[if_neg a']
  exact congrArg some e
theorem zjI.look {h:Heap}{x dx C:Addr}{mA:Str->Option Value}(I:zjI h x dx C mA):∃od,PySem.W.InstAt h x (PySem.W.instObj C dx) C (some od)/\∀name,PySem.W.lookIn name od=some (mA name) :=
 let ⟨od,ho,hl⟩:=zmq I.ns
 ⟨od,⟨I.obj,rfl,rfl,ho⟩,hl⟩
section
variable {prog:Program}{w:World}{A:Around}{E:Value->Shared->Prop}{s:Shared}{K:Frag}{x dx C f:Addr}{mA:Str->Option Value}{name:Str}{v:Value}
theorem get_map {expr:Bool}{Q:Value->Shared->Prop}(X:K.In s.heap)(I:zjI s.heap x dx C mA)(hg:PySem.W.plainGet K C name=true)(hh:PySem.W.hasDictIn K C=true)
  (ha:findIn K (.ref C) name=some none)(hv:mA name=some v)(hv':PySem.W.handedIn v=true)(h:Q v { s with toks:=s.toks+1 }) :
  wpAny (model prog w) A (getAttr (.ref x) name expr) Q E s:=by
 obtain⟨od,J,hl⟩:=I.look
 exact PySem.W.get_value X J (PySem.W.plainGet_of hg).1 (PySem.W.findObj_own hh ha rfl (by rw[hl,hv])) hv' h
theorem znE {pl:Sem Bool}{Q:Value×List Value->Shared->Prop}(X:K.In s.heap)(I:zjI s.heap x dx C mA)(hg:PySem.W.plainGet K C name=true)
  (hf:findIn K (.ref C) name=some (some (.ref f)))(ht:PySem.W.isFn K (.ref f)=true)(hv:mA name=none)(h:Q (.ref f,[.ref x]) s) :
  wpAny (model prog w) A (getMethod (.ref x) name pl) Q E s:=by
 obtain⟨od,J,hl⟩:=I.look
 exact PySem.W.method_fn X J (PySem.W.plainGet_of hg).1 (PySem.W.plainGet_of hg).2 hf (beq_iff_eq.mp ht) (by show(PySem.W.lookIn name od).map (·.isSome)=some false;rw[hl,hv];rfl) h
theorem zpD {ns:List Str}{Q:Unit->Shared->Prop}(X:K.In s.heap)(I:zjI s.heap x dx C mA)
  (hs:findIn K (.ref C) "__setattr__"=some (some (.builtin "object.__setattr__")))(hp:PySem.W.plainOver K C=true)(ht:PySem.W.takerIn K C name=some none)(hh:PySem.W.hasDictIn K C=true)
  (hw:PySem.Within mA ns)(hsz:ns.length<=sizeLine)
  (h:∀h',zjI h' x dx C (fun y=>if y=name then some v else mA y)->Heap.SameBut dx s.heap h'->Q () { s with heap:=h',toks:=s.toks+2 }) :
  wpAny (model prog w) A (setAttr (.ref x) name v) Q E s:=by
 obtain⟨od,J,hl⟩:=I.look
 refine PySem.W.set_plain X J hs (PySem.W.osa_open (s:={ s with toks:=s.toks+1 }) (r:=none) X J hp ht fun b=>?_)
 obtain⟨cd,hc,hd'⟩:=PySem.W.any_some hh
 have hx:s.heap.get? x=some ⟨.ref C,some dx,.plain,#[]⟩:=I.obj
 refine wpAny_bind (wpAny_pure (wpAny_bind (wpAny_bind (wpAny_loadPart hx (wpAny_bind (PySem.W.Looks.here (s:={ s with toks:=s.toks+1 }) (PySem.W.looks_clsIn X hc) ?_))))))
 rw[hd']
 refine wpAny_pure (a:=some dx) (wpAny_bind (wpAny_pure (wpAny_bind ?_)))
 refine wpAny_nsSet1 (s:={ s with toks:=s.toks+1 }) I.ns fun h' hn2 hs2=>?_
 obtain⟨oD,esD,epD,hoD,hdD,hcD⟩:=hn2.count (PySem.Within.cons name v hw)
 refine wpAny_bind (wpAny_lookBehind hoD (by rw[hdD];exact pastItsLine_dict (zC4 hcD (by rw[zCU];omega))) ?_)
 exact wpAny_pure (h _ ⟨(hs2.2 _ (Ne.symm I.ne)).trans I.obj,hn2,I.ne⟩ hs2)
theorem znF {R:Result->Shared->Prop}{vs:List Value}{kw:List (Str×Value)}(X:K.In s.heap)(hm:PySem.W.makesIn K C=true)
  (hi:findIn K (.ref C) "__init__"=some (some (.ref f)))(hf:PySem.W.typeIn K (.ref f)=some (.type "function"))
  (h:codeAny (model prog w) (A.under (.builtin "type.__call__" ⟨.ref C::vs,kw⟩)) (.call (.ref f) ⟨.ref (s.heap.objs.size+1)::vs,kw⟩) (PySem.W.InitBack (s.heap.objs.size+1) R)
   {s with heap:=(s.heap.push PySem.W.emptyDict).push (PySem.W.instObj C s.heap.objs.size) }) :
  codeAny (model prog w) A (.call (.ref C) ⟨vs,kw⟩) R s:=by
 obtain⟨hh,g,d,t,os⟩:=s
 exact PySem.W.make_core (PySem.W.makes_of X hm) (PySem.W.looks_findIn X hi) (fun self=>PySem.W.bind_fn X self hf) (.inl rfl) h
end
def Wq (f:Str)(v:V):List (Str×V)->List (Str×V)
 | []=>[(f,v)]
 | (g,x)::r=>if g=f then (g,v)::r else (g,x)::Wq f v r
theorem zcC (f g:Str)(v:V):∀fs:List (Str×V),(Wq f v fs).lookup g=if g=f then some v else fs.lookup g
 | []=>by
  show List.lookup g [(f,v)]=_
  by_cases h:g=f
  ·have hb:(g==f)=true:=beq_iff_eq.mpr h
   simp only[List.lookup,hb,if_pos h]
  ·have hb:(g==f)=false:=beq_eq_false_iff_ne.mpr h
   simp only[List.lookup,hb,if_neg h]
 | (k,x)::r=>by
  have ih:=zcC f g v r
  rw[show Wq f v ((k,x)::r)=(if k=f then (k,v)::r else (k,x)::Wq f v r) from rfl]
  by_cases hk:k=f
  ·rw[if_pos hk]
   by_cases h:g=k
   ·have hb:(g==k)=true:=beq_iff_eq.mpr h
    simp only[List.lookup,hb,if_pos (h.trans hk)]
   ·have hb:(g==k)=false:=beq_eq_false_iff_ne.mpr h
    simp only[List.lookup,hb,if_neg (fun e:g=f=>h (e.trans hk.symm))]
  ·rw[if_neg hk]
   by_cases h:g=k
   ·have hb:(g==k)=true:=beq_iff_eq.mpr h
    simp only[List.lookup,hb,if_neg (fun e:g=f=>hk (h.symm.trans e))]
   ·have hb:(g==k)=false:=beq_eq_false_iff_ne.mpr h
    simp only[List.lookup,hb]
    exact ih
theorem zbq (f:Str)(v:V):∀fs:List (Str×V),f∈(Wq f v fs).map (·.1)/\∀g,g∈fs.map (·.1)->g∈(Wq f v fs).map (·.1)
 | []=>⟨by simp[Wq],fun g h=>by simp at h⟩
 | (k,x)::r=>by
  obtain⟨i1,i2⟩:=zbq f v r
  rw[show Wq f v ((k,x)::r)=(if k=f then (k,v)::r else (k,x)::Wq f v r) from rfl]
  by_cases hk:k=f
  ·rw[if_pos hk]
   subst hk
   exact⟨by simp,fun g h=>by simpa using h⟩
  ·rw[if_neg hk]
   refine⟨?_,fun g h=>?_⟩
   ·rw[zC7]
    exact zCT _ i1
   ·rw[zC7] at h ⊢
    rcases List.mem_cons.mp h with e | e
    ·exact List.mem_cons.mpr (.inl e)
    ·exact zCT _ (i2 g e)
theorem zcD (f:Str)(v:V):∀fs:List (Str×V),(Wq f v fs).length<=fs.length+1
 | []=>by simp[Wq]
 | (k,x)::r=>by
  have ih:=zcD f v r
  rw[show Wq f v ((k,x)::r)=(if k=f then (k,v)::r else (k,x)::Wq f v r) from rfl]
  by_cases hk:k=f
  ·rw[if_pos hk,zCU,zCU];omega
  ·rw[if_neg hk,zCU,zCU];omega
theorem KZ.some_of {v:V}{o:Option Value}(r:KZ (some v) o):∃u,o=some u/\RelV v u:=by
 cases o with
 | none=>exact(show False from r).elim
 | some u=>exact⟨u,rfl,r⟩
theorem KZ.none_of {o:Option Value}(r:KZ none o):o=none:=by
 cases o with
 | none=>rfl
 | some u=>exact(show False from r).elim
theorem zmr {v:V}{u:Value}(r:RelV v u):PySem.W.handedIn u=true:=by
 cases v with
 | non=>cases (show u=Value.none from r);rfl
 | bl b=>cases (show u=Value.bool b from r);rfl
 | int i=>obtain⟨t,e⟩:=(show ∃t,u=Value.int i t from r);cases e;rfl
 | str x=>obtain⟨t,e⟩:=(show ∃t,u=Value.str x t from r);cases e;rfl
 | byt b=>obtain⟨t,e⟩:=(show ∃t,u=Value.bytes b t from r);cases e;rfl
 | flt b=>obtain⟨t,e⟩:=(show ∃t,u=Value.float b t from r);cases e;rfl
 | ref a=>cases (show u=Value.ref a from r);rfl
 | ty n=>cases (show u=Value.type n from r);rfl
section
variable {P:Program}{w:World}{H H':Hp}{h h':Heap}{a C dx:Addr}{fs fs':List (Str×V)}
theorem zdq (hok:K1 P w H h)(e:H a=some (.ins C dx fs)):∃mA,zjI h a dx C mA/\(∀f,KZ (fs.lookup f) (mA f))/\PySem.Within mA (fs.map (·.1))/\fs.length<=1000/\H dx=some (.own a):=by
 obtain⟨d,z,ne,ob,mA,n,r,q⟩:=(show vV P w H h a (.ins C dx fs) from hok a _ e)
 exact⟨mA,⟨ob,n,ne⟩,r,q,z,d⟩
end
structure Cls (K:Frag)(C:Addr):Prop where
 pg:PySem.W.plainGet K C Str.empty=true
 hd:PySem.W.hasDictIn K C=true
 po:PySem.W.plainOver K C=true
 sa:findIn K (.ref C) "__setattr__"=some (some (.builtin "object.__setattr__"))
theorem Cls.get {K:Frag}{C:Addr}(c:Cls K C)(f:Str):PySem.W.plainGet K C f=true:=c.pg
def Rj (K:Frag)(C:Addr)(f:Str):Prop:=findIn K (.ref C) f=some none
theorem Rj.taker {K:Frag}{C:Addr}{f:Str}(n:Rj K C f):PySem.W.takerIn K C f=some none:=by
 unfold PySem.W.takerIn
 rw[show findIn K (.ref C) f=some none from n]
 rfl
structure Meth (K:Frag)(C:Addr)(m:Str)(f:Addr):Prop where
 at_:findIn K (.ref C) m=some (some (.ref f))
 fn:PySem.W.isFn K (.ref f)=true
 kp:PySem.W.keepIn K (.ref f)=true
section
variable {X:Cx}{pins:List (Addr×Obj)}{σ:St}{H:Hp}{s:Shared}{a C dx:Addr}{fs:List (Str×V)}{f:Str}{v:V}{A:Around}{E:Value->Shared->Prop}
theorem zjJ {b:Bool}{Q:Value->Shared->Prop}(I:Inv X pins σ H s)(e:H a=some (.ins C dx fs))(c:Cls X.K C)(n:Rj X.K C f)(l:fs.lookup f=some v)
  (h:∀u s',Inv X pins σ H s'->RelV v u->Q u s'):wpAny (model X.prog X.w) A (getAttr (.ref a) f b) Q E s:=by
 obtain⟨mA,O,r,_,_,_⟩:=zdq I.hok e
 obtain⟨u,hu,ru⟩:=KZ.some_of (v:=v) (o:=mA f) (by rw[<-l];exact r f)
 exact get_map I.kIn O (c.get f) c.hd n hu (zmr ru) (h u _ (I.tok _) ru)
theorem JK {m:Str}{g:Addr}{pl:Sem Bool}{Q:Value×List Value->Shared->Prop}(I:Inv X pins σ H s)(e:H a=some (.ins C dx fs))(c:Cls X.K C)(k:Meth X.K C m g)(l:fs.lookup m=none)
  (h:Q (.ref g,[.ref a]) s):wpAny (model X.prog X.w) A (getMethod (.ref a) m pl) Q E s:=by
 obtain⟨mA,O,r,_,_,_⟩:=zdq I.hok e
 have hn:mA m=none:=KZ.none_of (by rw[<-l];exact r m)
 exact znE I.kIn O (c.get m) k.at_ k.fn hn h
theorem zjK {y:V}{u:Value}{Q:Unit->Shared->Prop}(I:Inv X pins σ H s)(e:H a=some (.ins C dx fs))(c:Cls X.K C)(n:Rj X.K C f)(hl:fs.length<1000)(ry:RelV y u)
  (h:∀s',Inv X pins σ (upd H a (.ins C dx (Wq f y fs))) s'->Q () s'):wpAny (model X.prog X.w) A (setAttr (.ref a) f u) Q E s:=by
 obtain⟨mA,O,r,wi,_,ho⟩:=zdq I.hok e
 have hz:(fs.map (·.1)).length<=sizeLine:=by rw[zCI,sizeLine_eq];omega
 refine zpD I.kIn O c.sa c.po n.taker c.hd wi hz fun h' O' sb=>h _ ?_
 have hd:∃o,h'.get? dx=some o:=let ⟨o,_,_,e',_⟩:=O'.ns;⟨o,e'⟩
 refine I.write (x:=a) (e:=dx) (by rw[e];exact True.intro) (.inr ho) (fun b q hb z=>(sb.2 b hb).trans z) hd ?_
 refine⟨by rw[zJ O.ne];exact ho,?_,O.ne,O'.obj,_,O'.ns,fun g=>?_,fun g hg=>?_⟩
 ·have:=zcD f y fs;omega
 ·show KZ ((Wq f y fs).lookup g) (if g=f then some u else mA g)
  rw[zcC]
  by_cases q:g=f
  ·rw[if_pos q,if_pos q];exact ry
  ·rw[if_neg q,if_neg q];exact r g
 ·by_cases q:g=f
  ·rw[q];exact(zbq f y fs).1
  ·refine(zbq f y fs).2 g (wi g fun z=>hg ?_)
   show(if g=f then some u else mA g)=none
   rw[if_neg q];exact z
theorem Inv.made (I:Inv X pins σ H s):Inv X pins σ (upd (upd H s.heap.objs.size (.own (s.heap.objs.size+1))) (s.heap.objs.size+1) (.ins C s.heap.objs.size []))
  {s with heap:=(s.heap.push PySem.W.emptyDict).push (PySem.W.instObj C s.heap.objs.size) }:=by
 have e1:(s.heap.push PySem.W.emptyDict).get? s.heap.objs.size=some PySem.W.emptyDict:=zC3 s.heap rfl
 have e2:((s.heap.push PySem.W.emptyDict).push (PySem.W.instObj C s.heap.objs.size)).get? (s.heap.objs.size+1)=some (PySem.W.instObj C s.heap.objs.size):=by
  have:=zC3 (s.heap.push PySem.W.emptyDict) (o:=PySem.W.instObj C s.heap.objs.size) rfl
  rwa [Heap.size_push] at this
 have e3:(s.heap.push PySem.W.emptyDict).Ns s.heap.objs.size (fun _=>none):=⟨PySem.W.emptyDict,#[],_,e1,rfl,(fun e he=>absurd he (by simp)),fun _=>rfl⟩
 have I1:=I.laid (a:=s.heap.objs.size) (o:=.own (s.heap.objs.size+1)) (h':=s.heap.push PySem.W.emptyDict) (t':=s.toks) (fun b u q=>zCO _ q) (zCY _) ⟨_,e1⟩
 refine I1.laid (a:=s.heap.objs.size+1) (o:=.ins C s.heap.objs.size []) (t':=s.toks) (fun b u q=>zCO _ q) (Nat.le_of_eq (Heap.size_push _ _)) ?_
 have ne:s.heap.objs.size≠s.heap.objs.size+1:=zCX (Nat.lt_succ_self _)
 refine⟨by rw[zJ ne,zj],zC5 _,ne,e2,fun _=>none,(Heap.Ns1.of_empty e3).at fun o q=>zCO _ q,fun _=>True.intro,fun y hy=>absurd rfl hy⟩
theorem zpE {prog:Program}{w:World}{env:Env}{e:Expr}{f:Str}{pos:Pos}{s:Shared}{Q:Value->Shared->Prop}(hb:attributeBase e f env (eval e env)=eval e env)
  (h:wpAny (model prog w) A (eval e env) (fun o s₁=>wpAny (model prog w) A (getAttr o f true) Q E s₁) E s):wpAny (model prog w) A (eval (.Attribute e f pos) env) Q E s :=
 Attribute_any_ h (by rw[arm_eval_Attribute,hb])
end
def zvf (K:Frag)(ta:TE)(f:Str):TE:=fun σ H Q=>ta σ H fun x H1=>∃a C dx fs v,x=.ref a/\H1 a=some (.ins C dx fs)/\Cls K C/\Rj K C f/\fs.lookup f=some v/\Q v H1
def zvg (K:Frag)(ta tv:TE)(f:Str):TS:=fun D σ H=>tv σ H fun y H1=>ta σ H1 fun x H2=>∃a C dx fs,x=.ref a/\H2 a=some (.ins C dx fs)/\Cls K C/\Rj K C f/\fs.length<1000 /\
 D.nx σ (upd H2 a (.ins C dx (Wq f y fs)))
section
variable {X:Cx}{o e value:Expr}{f:Str}{pos pos' tpos:Pos}{ta tv:TE}
theorem VJ (he:PE X e ta)(hb:attributeBase e f X.env (eval e X.env)=eval e X.env):PE X (.Attribute e f pos) (zvf X.K ta f):=by
 intro pins s σ H Q I h
 refine zpE hb (ud (he pins s σ H _ I h) fun u s1 ⟨x,H1,I1,rx,a,C,dx,fs,v,ex,ea,c,n,l,q⟩=>?_)
 subst ex
 obtain rfl:u=Value.ref a:=rx
 exact zjJ I1 ea c n l fun u' s2 I2 ru=>⟨v,H1,I2,ru,q⟩
theorem zgS (ha:PE X o ta)(hv:PE X value tv)(hs:swapsWith value (some (.Attribute o f pos')) pos.line X.env=pure false):PS X (.Assign [.Attribute o f pos'] value pos) (zvg X.K ta tv f):=by
 intro pins s σ H D I h
 refine plainObj_wpAny_Assign_Attribute (ud (hv pins s σ H _ I h) fun u s1 ⟨y,H1,I1,ry,q⟩=>ud (ha pins s1 σ H1 _ I1 q) fun ov s2 ⟨x,H2,I2,rx,a,C,dx,fs,ex,ea,c,n,l,q2⟩=>?_) hs
 subst ex
 obtain rfl:ov=Value.ref a:=rx
 exact zjK I2 ea c n l ry fun s3 I3=>⟨σ,_,I3,q2⟩
theorem zq1 {pl:Sem Bool}{m:Str}{apos:Pos}{args:List Expr}{pins:List (Addr×Obj)}{s:Shared}{σ:St}{H:Hp}{Q:Value->Shared->Prop}{te:TE}(he:PE X e te)(I:Inv X pins σ H s)
  (h:te σ H fun x H1=>∃a C dx fs g,x=.ref a/\H1 a=some (.ins C dx fs)/\Cls X.K C/\Meth X.K C m g/\fs.lookup m=none /\
   ∀s1,Inv X pins σ H1 s1->wpAny (model X.prog X.w) X.A (callWith pos (.ref g) [.ref a] (backTo pos (starEach args X.env)) (backToKw pos (keywordEach [] X.env))) Q X.xe s1)
  (ht:eval (.Call (.Attribute e m apos) args [] pos) X.env=(do
   let ov <-eval e X.env
   standAt apos.atName
   let (f,first) <-holding [ov] (getMethod ov m pl)
   callWith pos f first (backTo pos (starEach args X.env)) (backToKw pos (keywordEach [] X.env)))) :
  wpAny (model X.prog X.w) X.A (eval (.Call (.Attribute e m apos) args [] pos) X.env) Q X.xe s:=by
 refine PySem.W.methodCall_KW (pl:=pl) (ud (he pins s σ H _ I h) fun u s1 ⟨x,H1,I1,rx,a,C,dx,fs,g,ex,ea,c,k,l,q⟩=>?_) ht
 subst ex
 obtain rfl:u=Value.ref a:=rx
 exact JK I1 ea c k l (q s1 I1)
end
section
variable {X:Cx}{pins:List (Addr×Obj)}{σ:St}{H:Hp}{s:Shared}{A:Around}{E:Value->Shared->Prop}{Q:Value->Shared->Prop}{c:Value}{b:Bool}
inductive zap (K:Frag)(H:Hp):V->Value->Prop where
 | non:zap K H .non (.type "NoneType")
 | bl (x:Bool):zap K H (.bl x) (.type "bool")
 | int (i:Int):zap K H (.int i) (.type "int")
 | str (x:Str):zap K H (.str x) (.type "str")
 | flt (x:UInt64):zap K H (.flt x) (.type "float")
 | lst {a:Addr} {xs:List V} (e:H a=some (.lst xs)):zap K H (.ref a) (.type "list")
 | frz {a:Addr} {o:Obj} {xs:List V} (e:H a=some (.frz o (.lst xs))):zap K H (.ref a) (.type "list")
 | tup {a:Addr} {xs:List V} (e:H a=some (.tup xs)):zap K H (.ref a) (.type "tuple")
 | dK {a:Addr} {kvs:List (Key×V)} (e:H a=some (.dK kvs)):zap K H (.ref a) (.type "dict")
 | dT {a:Addr} {kvs:List (List Key×V)} (e:H a=some (.dT kvs)):zap K H (.ref a) (.type "dict")
 | ins {a C dx:Addr} {fs:List (Str×V)} (e:H a=some (.ins C dx fs)) (cl:Cls K C) (ha:findIn K (.ref C) "__class__"=some (some (.builtin "object.__class__")))
   (hn:PySem.W.specialIn K (.builtin "object.__class__") "__get__"=some (some (.builtin "getset_descriptor.__get__"))) (htk:PySem.W.takesIn K (.builtin "object.__class__")=some true)
   (hm:PySem.W.mroIn K C (.type "object")=some true):zap K H (.ref a) (.ref C)
theorem zms {x:V}{u t:Value}(I:Inv X pins σ H s)(rx:RelV x u)(ty:zap X.K H x t)(e:PySem.W.kitOne X.K t c=some b)(h:∀tk,Q (.bool b) { s with toks:=tk }) :
  wpAny (model X.prog X.w) A (call (.builtin "isinstance") [u,c]) Q E s:=by
 cases ty with
 | non=>cases (show u=Value.none from rx);exact PySem.W.kia_one PySem.W.kitx_none I.kIn True.intro e (fun z=>nomatch z) h
 | bl y=>cases (show u=Value.bool y from rx);exact PySem.W.kia_one PySem.W.kitx_bool I.kIn True.intro e (fun z=>nomatch z) h
 | int i=>obtain⟨t,q⟩:=(show ∃t,u=Value.int i t from rx);cases q;exact PySem.W.kia_one PySem.W.kitx_int I.kIn True.intro e (fun z=>nomatch z) h
 | str y=>obtain⟨t,q⟩:=(show ∃t,u=Value.str y t from rx);cases q;exact PySem.W.kia_one PySem.W.kitx_str I.kIn True.intro e (fun z=>nomatch z) h
 | flt y=>obtain⟨t,q⟩:=(show ∃t,u=Value.float y t from rx);cases q;exact PySem.W.kia_one PySem.W.kitx_float I.kIn True.intro e (fun z=>nomatch z) h
 | @lst a xs ea =>
  cases (show u=Value.ref a from rx)
  obtain⟨_,_,n,_,h1⟩:=(show vV X.prog X.w H s.heap a (.lst xs) from I.hok a _ ea)
  exact PySem.W.kia_one PySem.W.kitx_list I.kIn ⟨_,h1,rfl⟩ e (fun z=>nomatch z) h
 | @frz a ob xs ea =>
  cases (show u=Value.ref a from rx)
  obtain⟨_,_,_,n,_,h1⟩:=(show vV X.prog X.w H s.heap a (.frz ob (.lst xs)) from I.hok a _ ea)
  exact PySem.W.kia_one PySem.W.kitx_list I.kIn ⟨_,h1,rfl⟩ e (fun z=>nomatch z) h
 | @tup a xs ea =>
  cases (show u=Value.ref a from rx)
  obtain⟨_,_,_,p⟩:=(show vV X.prog X.w H s.heap a (.tup xs) from I.hok a _ ea)
  obtain⟨o,h1,h2,_⟩:=p
  exact PySem.W.kia_one PySem.W.kitx_tuple I.kIn ⟨o,h1,h2⟩ e (fun z=>nomatch z) h
 | @dK a kvs ea =>
  cases (show u=Value.ref a from rx)
  obtain⟨_,_,vs,_,p⟩:=(show vV X.prog X.w H s.heap a (.dK kvs) from I.hok a _ ea)
  obtain⟨o,es,ep,h1,h2,_⟩:=p
  exact PySem.W.kia_one PySem.W.kitx_dict I.kIn ⟨o,h1,h2.1⟩ e (fun z=>nomatch z) h
 | @dT a kvs ea =>
  cases (show u=Value.ref a from rx)
  obtain⟨_,_,xs,_,o,es,ep,h1,h2,_⟩:=(show vV X.prog X.w H s.heap a (.dT kvs) from I.hok a _ ea)
  exact PySem.W.kia_one PySem.W.kitx_dict I.kIn ⟨o,h1,h2.1⟩ e (fun z=>nomatch z) h
 | @ins a C dx fs ea cl ha hn htk hm =>
  cases (show u=Value.ref a from rx)
  obtain⟨mA,O,_⟩:=zdq I.hok ea
  obtain⟨od,J,_⟩:=O.look
  exact PySem.W.kia_one (PySem.W.kitx_own (cl.get _) cl.hd ha hn htk hm) I.kIn J e (fun z=>nomatch z) h
end
structure Wj (k:Nat)(A:Around):Prop where
 hd:A.handled=none
 gd:A.guards=some []
 dp:A.depth+3*k+5<recursionLimit
 un:A.units+16*k+200<cLine
theorem Wj.mono {j k:Nat}{A:Around}(r:Wj k A)(h:j<=k):Wj j A:=⟨r.hd,r.gd,by have:=r.dp;omega,by have:=r.un;omega⟩
theorem Wj.deeper {k:Nat}{A:Around}(r:Wj (k+1) A)(env:Env):Wj k (A.deeper env) :=
 ⟨r.hd,r.gd,by have:=r.dp;show A.depth+1+3*k+5<_;omega,by have:=r.un;show A.units+3+16*k+200<_;omega⟩
theorem zjL {A:Around}{C:Addr}{us:List Value}{kw:List (Str×Value)}:(A.under (.builtin "type.__call__" ⟨.ref C::us,kw⟩)).depth=A.depth+1:=by
 first | rfl | simp[Around.under,Code.weight,Code.isCreation,Code.isGuard,Code.isCaller,Code.frames,Code.isFrame,guardIds]
theorem zjM {A:Around}{C:Addr}{us:List Value}{kw:List (Str×Value)}:(A.under (.builtin "type.__call__" ⟨.ref C::us,kw⟩)).units=A.units+1:=by
 first | rfl | simp[Around.under,Code.cUnits,Code.frames,Code.isFrame]
theorem Wj.make {k:Nat}{A:Around}(r:Wj (k+1) A)(C:Addr)(us:List Value)(kw:List (Str×Value)):Wj k (A.under (.builtin "type.__call__" ⟨.ref C::us,kw⟩)) :=
 ⟨r.hd,(by
  have e:(Code.builtin "type.__call__" ⟨.ref C::us,kw⟩).guards=[]:=by first | rfl | simp[Code.guards,Code.isGuard,guardIds]
  unfold Around.under
  simp only[e,pushGuards]
  exact r.gd),by have:=r.dp;rw[zjL];omega,by have:=r.un;rw[zjM];omega⟩
theorem Wj.depth {k:Nat}{A:Around}(r:Wj k A):A.depth<recursionLimit:=by have:=r.dp;omega
theorem Wj.units {k:Nat}{A:Around}(r:Wj k A):A.units+64<cLine:=by have:=r.un;omega
def zjN:TA:=fun _ H Q=>Q [] H
def zaq (ta:TE)(tr:TA):TA:=fun σ H Q=>ta σ H fun x H1=>tr σ H1 fun xs H2=>Q (x::xs) H2
section
variable {X:Cx}{e:Expr}{es:List Expr}{te:TE}{t:TA}{pos:Pos}
theorem zc:PA X [] zjN:=fun _ _ _ _ H Q I h=>Calls.spliced_nil ⟨[],H,I,.nil,h⟩
theorem za (ha:PE X e te)(hr:PA X es t)(hs:starEach (e::es) X.env=(false,eval e X.env)::starEach es X.env:=by rfl):PA X (e::es) (zaq te t):=by
 intro pos pins s σ H Q I h
 rw[hs]
 show wpAny _ _ (spliced ((false,eval e X.env)::backTo pos (starEach es X.env))) _ _ s
 refine Calls.spliced_cons (ud (ha pins s σ H _ I h) fun u s1 ⟨x,H1,I1,r1,q1⟩=>?_)
 exact ud (hr pos pins s1 σ H1 _ I1 q1) fun us s2 ⟨xs,H2,I2,r2,q2⟩=>⟨x::xs,H2,I2,.cons r1 r2,q2⟩
def zvh (t:TA):TE:=fun σ H Q=>t σ H fun xs H1=>xs.length<=sizeLine/\∀p,H1 p=none->Q (.ref p) (upd H1 p (.tup xs))
def zvi (t:TA):TE:=fun σ H Q=>t σ H fun xs H1=>xs.length<=sizeLine/\∀p,H1 p=none->Q (.ref p) (upd H1 p (.lst xs))
theorem yZ {x1}(h:PA X es t):PE X (.Tuple es x1 pos) (zvh t):=by
 intro pins s σ H Q I hq
 refine wpAny_Tuple_spliced (ud (h pos pins s σ H _ I hq) fun us s1 ⟨xs,H1,I1,r,z,q⟩=>⟨by rw[<-r.length];exact z,?_⟩)
 have hf:H1 s1.heap.objs.size=none:=I1.hok.fresh (zCY _)
 refine⟨.ref s1.heap.objs.size,upd H1 s1.heap.objs.size (.tup xs),I1.laid (t':=s1.toks) (fun b u e=>zCO _ e) (zCY _) ?_,rfl,q _ hf⟩
 exact⟨z,us,r,⟨_,zC3 _ rfl,rfl,_,rfl⟩⟩
theorem xq (h:PA X es t):PE X (.List es pos) (zvi t):=by
 intro pins s σ H Q I hq
 refine wpAny_List_spliced (ud (h pos pins s σ H _ I hq) fun us s1 ⟨xs,H1,I1,r,z,q⟩=>⟨by rw[<-r.length];exact z,?_⟩)
 have hf:H1 s1.heap.objs.size=none:=I1.hok.fresh (zCY _)
 refine⟨.ref s1.heap.objs.size,upd H1 s1.heap.objs.size (.lst xs),I1.laid (t':=s1.toks) (fun b u e=>zCO _ e) (zCY _) ?_,rfl,q _ hf⟩
 exact⟨z,us,0,r,zC3 _ rfl⟩
end
abbrev Sp:=List V->Hp->VK->XK->Prop
abbrev CXT:=List Env->Hp->Shared->XK->Value->Shared->Prop
structure zjO (P:Program)(w:World)(K:Frag)(mg:Str->Option Value)(base:Heap)(A:Around)(outer:List Env)(s:Shared)(H:Hp):Prop where
 frames:A.frames=some outer
 mod:Mod K mg base
 bs:∀b o,base.get? b=some o->s.heap.get? b=some o/\H b=none
 bsz:base.objs.size<=s.heap.objs.size
 zan:s.heap.FunFrames base outer
 frf:∀b∈frs outer,H b=none
 hok:K1 P w H s.heap
 bare:AllBare s.gens
def CE (outer:List Env)(P:Program)(w:World)(H:Hp)(s:Shared)(Q:VK)(u:Value)(s':Shared):Prop :=
 ∃v H',s'.os=s.os/\AllBare s'.gens/\Un (frs outer) [] H H' s.heap s'.heap/\K1 P w H' s'.heap/\RelV v u/\Q v H'
def CR (CX:CXT)(outer:List Env)(P:Program)(w:World)(H:Hp)(s:Shared)(Q:VK)(E:XK)(r:Result)(s':Shared):Prop :=
 match r with
 | .ok (.ret u)=>CE outer P w H s Q u s'
 | .ok _=>False
 | .error e=>CX outer H s E e s'
structure zA (P:Program)(w:World)(K:Frag)(mg:Str->Option Value)(base:Heap)(CX:CXT)(k:Nat)(f:Addr)(fd:FuncData)(ps:List Str)(sp:Sp):Prop where
 len:∀vs H Q E,sp vs H Q E->vs.length=ps.length
 run:∀(A:Around) (outer:List Env) (s:Shared) (H:Hp) (args:Args) (us:List Value) (vs:List V) (Q:VK) (E:XK),Wj k A->zjO P w K mg base A outer s H->BindsTo s fd args (ps.zip us)->Vals vs us->sp vs H Q E ->
  codeAny (model P w) A (.call (.ref f) args) (CR CX outer P w H s Q E) s
theorem zA.mono {P:Program}{w:World}{K:Frag}{mg:Str->Option Value}{base:Heap}{CX:CXT}{j k:Nat}{f:Addr}{fd:FuncData}{ps:List Str}{sp:Sp}(F:zA P w K mg base CX j f fd ps sp)(h:j<=k) :
  zA P w K mg base CX k f fd ps sp:=⟨F.len,fun A outer s H args us vs Q E hr=>F.run A outer s H args us vs Q E (hr.mono h)⟩
theorem zjO.make {P:Program}{w:World}{K:Frag}{mg:Str->Option Value}{base:Heap}{A:Around}{outer:List Env}{s:Shared}{H:Hp}(e:zjO P w K mg base A outer s H)(C:Addr)(us:List Value)(kw:List (Str×Value)) :
  zjO P w K mg base (A.under (.builtin "type.__call__" ⟨.ref C::us,kw⟩)) outer s H:=⟨by first | exact e.frames | (simpa [Around.under,Code.envs,Code.isFrame,pushEnvs] using e.frames),e.mod,e.bs,e.bsz,e.zan,e.frf,e.hok,e.bare⟩
section
variable {X:Cx}{pins:List (Addr×Obj)}{σ:St}{H:Hp}{s s':Shared}
theorem Inv.env0 (I:Inv X pins σ H s):zjO X.prog X.w X.K X.mg X.base X.A X.stack s H :=
 ⟨I.ok.frames,I.ok.mod,I.bs,zC4 I.ok.bsz I.sz,I.stack,I.zgN,I.hok,I.bare⟩
theorem Inv.after {Q:VK}{u:Value}(I:Inv X pins σ H s)(h:CE X.stack X.prog X.w H s Q u s'):EP X pins σ Q u s':=by
 obtain⟨v,H',os,bare,un,hok,r,q⟩:=h
 obtain⟨hh,g,d,t,os'⟩:=s'
 obtain rfl:os'=s.os:=os
 exact⟨v,H',I.call (h':=hh) (g':=g) (d':=d) (t':=t) (ch:=[]) un hok bare (fun b z=>absurd z (by simp)),r,q⟩
end
def zf3 (sp:Sp)(dvs:List V)(E:XK)(t:TA):TE:=fun σ H Q=>t σ H fun vs H1=>sp (vs++dvs) H1 Q E
def zq2 (C:Addr)(m:Str)(sp:Sp)(dvs:List V)(E:XK)(ta:TE)(t:TA):TE:=fun σ H Q=>ta σ H fun x H1=>∃a dx fs,x=.ref a/\H1 a=some (.ins C dx fs)/\fs.lookup m=none /\
 t σ H1 fun vs H2=>sp (x::(vs++dvs)) H2 Q E
def zsZ (C:Addr)(sp:Sp)(dvs:List V)(E:XK)(t:TA):TE:=fun σ H Q=>t σ H fun vs H1=>∀x dx,H1 x=none->H1 dx=none->dx≠x ->
 sp (.ref x::(vs++dvs)) (upd (upd H1 dx (.own x)) x (.ins C dx [])) (fun v H2=>v=.non/\Q (.ref x) H2) E
def Binds (K:Frag)(fd:FuncData)(ps:List Str)(ds:List Value):Prop :=
 ∀(s:Shared) (us:List Value),K.In s.heap->(us++ds).length=ps.length->BindsTo s fd ⟨us,[]⟩ (ps.zip (us++ds))
theorem Binds.all {K:Frag}{fd:FuncData}{ps:List Str}(h:∀us:List Value,us.length=ps.length->bindArgs fd ⟨us,[]⟩=pure (ps.zip us)):Binds K fd ps []:=fun s us _ hl=>by
 rw[List.append_nil] at hl ⊢
 exact .of_eq (h us hl)
def Passes (CX:CXT)(X:Cx)(E:XK):Prop:=∀(pins:List (Addr×Obj)) (σ:St) (H:Hp) (s:Shared) (e:Value) (s':Shared),Inv X pins σ H s->CX X.stack H s E e s'->X.xe e s'
section
variable {X:Cx}{CX:CXT}{k:Nat}{f C:Addr}{fd:FuncData}{ps:List Str}{sp:Sp}{dvs:List V}{ds:List Value}{E:XK}{x m:Str}{p pos apos:Pos}{e o:Expr}{es:List Expr}{ta:TE}{t:TA}
theorem zjP {pins:List (Addr×Obj)}{σ:St}{H:Hp}{s:Shared}{Q:VK}{us:List Value}{vs:List V}(F:zA X.prog X.w X.K X.mg X.base CX k f fd ps sp)(hr:Wj k X.A)(hb:Binds X.K fd ps ds)(hd:Vals dvs ds)(hx:Passes CX X E)
  (I:Inv X pins σ H s)(r:Vals vs us)(h:sp (vs++dvs) H Q E):wpAny (model X.prog X.w) X.A (call (.ref f) us) (EP X pins σ Q) X.xe s:=by
 have r2:Vals (vs++dvs) (us++ds):=r.append hd
 have hl:(us++ds).length=ps.length:=by rw[<-r2.length];exact F.len _ _ _ _ h
 refine wpAny_call (codeAny_mono (F.run X.A X.stack s H ⟨us,[]⟩ (us++ds) (vs++dvs) Q E hr I.env0 (hb s us I.kIn hl) r2 h) fun r s' hq=>?_)
 cases r with
 | error e=>exact hx pins σ H s e s' I hq
 | ok fl =>
  cases fl with
  | ret u=>exact I.after hq
  | next=>exact False.elim hq
  | brk=>exact False.elim hq
  | cont=>exact False.elim hq
theorem zx (F:zA X.prog X.w X.K X.mg X.base CX k f fd ps sp)(hr:Wj k X.A)(hg:Gl X x)(hm:X.mg x=some (.ref f))(hk:PySem.W.keepIn X.K (.ref f)=true)(hb:Binds X.K fd ps ds)(hd:Vals dvs ds)(hx:Passes CX X E)
  (ha:PA X (e::es) t)(hdb:(x==("__debug__" : Str))=false:=by decide)(he:starEach (e::es) X.env=(false,eval e X.env)::starEach es X.env:=by rfl)(hpl:(backTo pos (starEach es X.env)).any (·.1)=false:=by rfl) :
  PE X (.Call (.Name x p) (e::es) [] pos) (zf3 sp dvs E t):=by
 intro pins s σ H Q I h
 refine wpAny_Call_Name_kw (zgP I hg hm ?_ hdb)
 refine PySem.W.callWith_K (h₀:=X.base) I.ok.mod.kin hk (ud (ha pos pins s σ H _ I h) fun us s1 ⟨vs,H1,I1,r,q⟩=>⟨I1.kIn,?_⟩) he hpl
 exact zjP F hr hb hd hx I1 r q
theorem uQ {pl:Sem Bool}(he:PE X o ta)(c:Cls X.K C)(hm:Meth X.K C m f)(F:zA X.prog X.w X.K X.mg X.base CX k f fd ps sp)(hr:Wj k X.A)(hb:Binds X.K fd ps ds)(hd:Vals dvs ds)(hx:Passes CX X E)(ha:PA X (e::es) t)
  (hst:starEach (e::es) X.env=(false,eval e X.env)::starEach es X.env:=by rfl)(hpl:(backTo pos (starEach es X.env)).any (·.1)=false:=by rfl)
  (ht:eval (.Call (.Attribute o m apos) (e::es) [] pos) X.env=(do
   let ov <-eval o X.env
   standAt apos.atName
   let (f,first) <-holding [ov] (getMethod ov m pl)
   callWith pos f first (backTo pos (starEach (e::es) X.env)) (backToKw pos (keywordEach [] X.env))):=by rfl) :
  PE X (.Call (.Attribute o m apos) (e::es) [] pos) (zq2 C m sp dvs E ta t):=by
 intro pins s σ H Q I h
 refine PySem.W.methodCall_KW (pl:=pl) (ud (he pins s σ H _ I h) fun u s1 ⟨x,H1,I1,rx,a,dx,fs,ex,ea,l,q⟩=>?_) ht
 subst ex
 obtain rfl:u=Value.ref a:=rx
 refine JK I1 ea c hm l ?_
 refine PySem.W.callWith_K (first:=[.ref a]) (h₀:=X.base) I.ok.mod.kin hm.kp (ud (ha pos pins s1 σ H1 _ I1 q) fun us s2 ⟨vs,H2,I2,r,q2⟩=>⟨I2.kIn,?_⟩) hst hpl
 exact zjP (us:=.ref a::us) (vs:=.ref a::vs) F hr hb hd hx I2 (.cons rfl r) q2
theorem ZF {pl:Sem Bool}(he:PE X o ta)(c:Cls X.K C)(hm:Meth X.K C m f)(F:zA X.prog X.w X.K X.mg X.base CX k f fd ps sp)(hr:Wj k X.A)(hb:Binds X.K fd ps ds)(hd:Vals dvs ds)(hx:Passes CX X E)
  (ht:eval (.Call (.Attribute o m apos) [] [] pos) X.env=(do
   let ov <-eval o X.env
   standAt apos.atName
   let (f,first) <-holding [ov] (getMethod ov m pl)
   callWith pos f first (backTo pos (starEach [] X.env)) (backToKw pos (keywordEach [] X.env))):=by rfl) :
  PE X (.Call (.Attribute o m apos) [] [] pos) (zq2 C m sp dvs E ta zjN):=by
 intro pins s σ H Q I h
 refine PySem.W.methodCall_KW (pl:=pl) (ud (he pins s σ H _ I h) fun u s1 ⟨x,H1,I1,rx,a,dx,fs,ex,ea,l,q⟩=>?_) ht
 subst ex
 obtain rfl:u=Value.ref a:=rx
 refine JK I1 ea c hm l ?_
 exact PySem.W.callWith_K0 (first:=[.ref a]) I1.kIn hm.kp (zjP (us:=[.ref a]) (vs:=[.ref a]) F hr hb hd hx I1 (.cons rfl .nil) q)
structure Mk (K:Frag)(C f:Addr):Prop where
 makes:PySem.W.makesIn K C=true
 init:findIn K (.ref C) "__init__"=some (some (.ref f))
 fn:PySem.W.isFn K (.ref f)=true
 kp:PySem.W.keepIn K (.ref C)=true
theorem znG {pins:List (Addr×Obj)}{σ:St}{H:Hp}{s:Shared}{Q:VK}{us:List Value}{vs:List V}(M:Mk X.K C f)(F:zA X.prog X.w X.K X.mg X.base CX k f fd ps sp)(hr:Wj (k+1) X.A)(hb:Binds X.K fd ps ds)(hd:Vals dvs ds)
  (hx:Passes CX X E)(I:Inv X pins σ H s)(r:Vals vs us)
  (h:∀x dx,H x=none->H dx=none->dx≠x->sp (.ref x::(vs++dvs)) (upd (upd H dx (.own x)) x (.ins C dx [])) (fun v H2=>v=.non/\Q (.ref x) H2) E) :
  wpAny (model X.prog X.w) X.A (call (.ref C) us) (EP X pins σ Q) X.xe s:=by
 have hq:=h (s.heap.objs.size+1) s.heap.objs.size (I.hok.fresh (Nat.le_succ _)) (I.hok.fresh (zCY _)) (zCX (Nat.lt_succ_self _))
 have I2:=Inv.made (C:=C) I
 have r2:Vals (V.ref (s.heap.objs.size+1)::(vs++dvs)) (Value.ref (s.heap.objs.size+1)::(us++ds)):=.cons rfl (r.append hd)
 have hl:(Value.ref (s.heap.objs.size+1)::us++ds).length=ps.length:=by
  have e:=r2.length
  rw[F.len _ _ _ _ hq] at e
  exact e.symm
 refine wpAny_call (znF (f:=f) I.kIn M.makes M.init (beq_iff_eq.mp M.fn) (codeAny_mono (F.run _ X.stack _ _ ⟨Value.ref (s.heap.objs.size+1)::us,[]⟩ (Value.ref (s.heap.objs.size+1)::(us++ds)) _ _ E (hr.make C us [])
  (I2.env0.make C us []) (hb _ (Value.ref (s.heap.objs.size+1)::us) I2.kIn hl) r2 hq) fun r s' hq'=>?_))
 cases r with
 | error e=>exact hx pins σ _ _ e s' I2 hq'
 | ok fl =>
  cases fl with
  | ret u =>
   obtain⟨v,H',I3,rv,ev,q3⟩:=I2.after hq'
   subst ev
   exact⟨rv,⟨V.ref (s.heap.objs.size+1),H',I3,rfl,q3⟩⟩
  | next=>exact False.elim hq'
  | brk=>exact False.elim hq'
  | cont=>exact False.elim hq'
theorem zpF (M:Mk X.K C f)(F:zA X.prog X.w X.K X.mg X.base CX k f fd ps sp)(hr:Wj (k+1) X.A)(hg:Gl X x)(hm:X.mg x=some (.ref C))(hb:Binds X.K fd ps ds)(hd:Vals dvs ds)(hx:Passes CX X E)
  (ha:PA X (e::es) t)(hdb:(x==("__debug__" : Str))=false:=by decide)(he:starEach (e::es) X.env=(false,eval e X.env)::starEach es X.env:=by rfl)(hpl:(backTo pos (starEach es X.env)).any (·.1)=false:=by rfl) :
  PE X (.Call (.Name x p) (e::es) [] pos) (zsZ C sp dvs E t):=by
 intro pins s σ H Q I h
 refine wpAny_Call_Name_kw (zgP I hg hm ?_ hdb)
 refine PySem.W.callWith_K (h₀:=X.base) I.ok.mod.kin M.kp (ud (ha pos pins s σ H _ I h) fun us s1 ⟨vs,H1,I1,r,q⟩=>⟨I1.kIn,?_⟩) he hpl
 exact znG M F hr hb hd hx I1 r q
end
structure zL (N P:List Str)(sc:Scope):Prop where
 kind:sc.kind=.function
 co:sc.isCoroutine=false
 gen:sc.isGenerator=false
 nd:N.Nodup
 pre:N.take P.length=P
 par:∀x∈P,sc.names.lookup x=some .local\/sc.names.lookup x=some .cell
 zrJ:∀y∈sc.names,y.2≠.free
theorem zf4 {kindOf:Str->Option NameKind}{x:Str}:∀{binds:List (Str×Value)} {m:Str->Option Value},(∀v,(x,v)∉binds)->bindL kindOf binds m x=m x
 | [],_,_=>rfl
 | (n,v)::r,m,h=>by
  unfold bindL
  rw[zf4 fun w hw=>h w (zCT _ hw)]
  split
  ·have:x≠n:=by rintro rfl;exact h v zC2
   simp[this]
  ·rfl
theorem zf5 {kindOf:Str->Option NameKind}{x:Str}:∀{binds:List (Str×Value)} {m:Str->Option Value},(∀v,(x,v)∉binds)->bindC kindOf binds m x=m x
 | [],_,_=>rfl
 | (n,v)::r,m,h=>by
  unfold bindC
  rw[zf5 fun w hw=>h w (zCT _ hw)]
  split
  ·rfl
  ·have:x≠n:=by rintro rfl;exact h v zC2
   simp[this]
theorem zf6 {kindOf:Str->Option NameKind}{x:Str}{v:Value}:∀{P:List Str} {vs:List Value} {i:Nat} {m:Str->Option Value},P.Nodup->P[i]?=some x->vs[i]?=some v->kindOf x=some .local ->
  bindL kindOf (P.zip vs) m x=some v
 | [],_,_,_,_,h,_,_=>by simp at h
 | _::_,[],_,_,_,_,h,_=>by simp at h
 | p::P,w::vs,0,m,nd,h1,h2,hk=>by
  simp at h1 h2;subst h1;subst h2
  show bindL kindOf ((p,w)::P.zip vs) m p=_
  unfold bindL
  rw[zf4 fun v hv=>(List.nodup_cons.mp nd).1 (zDl hv).1,if_pos hk]
  simp
 | p::P,w::vs,i+1,m,nd,h1,h2,hk=>by
  show bindL kindOf ((p,w)::P.zip vs) m x=_
  unfold bindL
  exact zf6 (i:=i) (List.nodup_cons.mp nd).2 (by simpa using h1) (by simpa using h2) hk
theorem zf7 {kindOf:Str->Option NameKind}{x:Str}{v:Value}:∀{P:List Str} {vs:List Value} {i:Nat} {m:Str->Option Value},P.Nodup->P[i]?=some x->vs[i]?=some v->kindOf x≠some .local ->
  bindC kindOf (P.zip vs) m x=some v
 | [],_,_,_,_,h,_,_=>by simp at h
 | _::_,[],_,_,_,_,h,_=>by simp at h
 | p::P,w::vs,0,m,nd,h1,h2,hk=>by
  simp at h1 h2;subst h1;subst h2
  show bindC kindOf ((p,w)::P.zip vs) m p=_
  unfold bindC
  rw[zf5 fun v hv=>(List.nodup_cons.mp nd).1 (zDl hv).1,if_neg hk]
  simp
 | p::P,w::vs,i+1,m,nd,h1,h2,hk=>by
  show bindC kindOf ((p,w)::P.zip vs) m x=_
  unfold bindC
  exact zf7 (i:=i) (List.nodup_cons.mp nd).2 (by simpa using h1) (by simpa using h2) hk
def start (N:List Str)(vs:List V):St:=vs.map some++List.replicate (N.length-vs.length) none
def zmt (CX:CXT)(P:Program)(w:World)(K:Frag)(mg:Str->Option Value)(base:Heap)(N:List Str)(qual:Str)(scope:Scope)(f:Addr)(cd:Value)(A:Around)(outer:List Env)(s:Shared)(H:Hp)(E:XK):Cx where
 prog:=P
 w:=w
 K:=K
 mg:=mg
 base:=base
 A:=A.deeper (envOfC qual scope s.heap.objs.size f cd)
 N:=N
 s₀:=s
 H₀:=H
 env:=envOfC qual scope s.heap.objs.size f cd
 outer:=outer
 stack:=envOfC qual scope s.heap.objs.size f cd::outer
 ex:=[]
 calm:=true
 fn:=fun _=>true
 pn:=[]
 xe:=fun e s'=>wpAny (model P w) (A.deeper (envOfC qual scope s.heap.objs.size f cd)) (leaving (envOfC qual scope s.heap.objs.size f cd) e) (fun _ s''=>CX outer H s E e s'') (fun e' s''=>CX outer H s E e' s'') s'
theorem zie {sc:Scope}{n:Nat}{x:Str}(h:sc.names.lookup x=some .cell):∃c,(cellsFrom n sc.names []).lookup x=some c:=by
 have q:=PySem.W.cellsFrom_some sc.names n [] (.inl h)
 exact Option.isSome_iff_exists.mp q
theorem zmu {CX:CXT}{P:Program}{w:World}{K:Frag}{mg:Str->Option Value}{base:Heap}{N ps:List Str}{qual:Str}{scope:Scope}{f:Addr}{cd:Value}{A:Around}{outer:List Env}{s s1:Shared}{H:Hp}{E:XK}{us:List Value}{vs:List V}
  (S:zL N ps scope)(hd:A.handled=none)(e0:zjO P w K mg base A outer s H)(hl:vs.length=ps.length)(r:Vals vs us)
  (x:InCallC s s.heap.objs.size (bindL (envOfC qual scope s.heap.objs.size f cd).kindOf (ps.zip us) fun _=>none) (cellsFrom (s.heap.objs.size+1) scope.names []) (bindC (envOfC qual scope s.heap.objs.size f cd).kindOf (ps.zip us) fun _=>none) s1) :
  Inv (zmt CX P w K mg base N qual scope f cd A outer s H E) [] (start N vs) H s1:=by
 have hpl:ps.length<=N.length:=by have:=congrArg List.length S.pre;rw[zC6] at this;omega
 obtain⟨h1,tk,rfl,hk⟩:=x.done
 have noA:∀b:Addr,b∉(zmt CX P w K mg base N qual scope f cd A outer s H E).ex:=fun b z=>absurd (show b∈([]:List Addr) from z) (by simp)
 refine⟨⟨e0.mod,S.kind,rfl,rfl,zCY _,fun y z c h1 h2=>?_,fun y hy=>?_,fun y c _ h=>?_,fun _=>hd,Around.frames_deeper e0.frames,.inr ⟨rfl,rfl⟩,fun b z=>absurd z (noA b),e0.bs,e0.bsz,fun b _ _=>noA b,fun b z=>absurd z (noA b),e0.zan,e0.frf⟩,
  rfl,e0.bare,Un.kept hk,⟨_,x.toInCall.ns,fun i y v h1 h2 h3=>?_⟩,fun y c h=>⟨_,x.cell y c h⟩,e0.hok.fresh (zCY _),fun y c h=>?_,fun p hp=>absurd (show p∈([]:List (Addr×Obj)) from hp) (by simp),e0.hok.kept hk,?_⟩
 ·exact name_of_addr x.apart (PySem.mem_of_lookup h1) (PySem.mem_of_lookup h2)
 ·have hy:scope.names.lookup y=some .cell\/scope.names.lookup y=some .free:=hy
  rcases hy with hy | hy
  ·exact zie hy
  ·exact absurd rfl (S.zrJ _ (PySem.mem_of_lookup hy))
 ·exact zC1 (x.above y c (PySem.mem_of_lookup h))
 ·have hi:i<vs.length:=by
   unfold start at h2
   by_cases hi:i<vs.length
   ·exact hi
   ·rw[List.getElem?_append_right (by simpa using hi)] at h2
    rw[List.getElem?_replicate] at h2
    split at h2<;>cases h2
  have ha:vs[i]?=some v:=by
   unfold start at h2
   rw[zDf (by simpa using hi),zCK] at h2
   cases e:vs[i]? with
   | none=>rw[e] at h2;cases h2
   | some a=>rw[e] at h2;cases h2;rfl
  obtain⟨u,hu,rv⟩:=r.get ha
  have hp:ps[i]?=some y:=by
   rw[<-S.pre,List.getElem?_take_of_lt (by omega)];exact h1
  have ndP:ps.Nodup:=by rw[<-S.pre];exact S.nd.sublist (List.take_sublist _ _)
  refine⟨u,rv,?_⟩
  rcases S.par y (zCN hp) with k | k
  ·exact .inl ⟨k,zf6 ndP hp hu k⟩
  ·obtain⟨c,e⟩:=zie (n:=s.heap.objs.size+1) k
   refine .inr ⟨.inl k,c,e,?_⟩
   have q:=x.cell y c e
   rw[zf7 ndP hp hu (by show scope.names.lookup y≠_;rw[k];decide)] at q
   exact q
 ·exact e0.hok.fresh (zC1 (x.above y c (PySem.mem_of_lookup h)))
 ·unfold start
  show _=N.length
  rw[zCQ,zCI,List.length_replicate]
  omega
theorem zs3 {CX:CXT}{P:Program}{w:World}{K:Frag}{mg:Str->Option Value}{base:Heap}{k:Nat}{f:Addr}{name qual:Str}{params:Arguments}{body:List Stmt}{scope:Scope}{dV kV doc pm cdv ct oc:Value}{an od:Option Addr}
  {osl:Array (Option Value)}{N ps:List Str}{sp:Sp}(lk:K.lookup f=some ⟨oc,od,.func (PySem.W.fnOf name qual params body scope dV kV doc pm an cdv ct),osl⟩)(hcd:PySem.W.codeIn K cdv qual=true)(S:zL N ps scope)
  (len:∀vs H Q E,sp vs H Q E->vs.length=ps.length)
  (hbody:∀(A:Around) (outer:List Env) (s:Shared) (H:Hp) (vs:List V) (Q:VK) (E:XK),Wj k (A.deeper (envOfC qual scope s.heap.objs.size f cdv))->sp vs H Q E ->
   ∃t,PSs (zmt CX P w K mg base N qual scope f cdv A outer s H E) body t/\t { nx:=fun _ H'=>Q .non H',rt:=Q } (start N vs) H) :
  zA P w K mg base CX (k+1) f (PySem.W.fnOf name qual params body scope dV kV doc pm an cdv ct) ps sp:=by
 refine⟨len,fun A outer s H args us vs Q E hr e0 hb r hsp=>?_⟩
 have hl:=len _ _ _ _ hsp
 have KX:K.In s.heap:=e0.mod.kin.keeps fun b o e=>(e0.bs b o e).1
 have lim:s.heap.NoLimit:=e0.mod.nolimit.keeps fun b o e=>(e0.bs b o e).1
 have hkind:∀y∈ps.zip us,scope.names.lookup y.1=some .local\/(scope.names.lookup y.1=some .cell/\((cellsFrom (s.heap.objs.size+1) scope.names []).lookup y.1).isSome=true):=fun⟨n,v⟩ hy=>by
  rcases S.par n (zDl hy).1 with q | q
  ·exact .inl q
  ·exact .inr ⟨q,PySem.W.cellsFrom_some _ _ _ (.inl q)⟩
 refine codeAny_call_function hr.depth (KX _ _ lk) rfl S.co S.gen rfl (PySem.W.codeRec_of KX hcd) (hb _ _ _ _ ?_)
 refine wpAny_newFunctionEnv_cells S.kind hkind fun env he s1 x=>?_
 subst he
 refine⟨lim.keeps x.toInCall.keep,codeAny_func ?_⟩
 obtain⟨t,ht,hq⟩:=hbody A outer s H vs Q E (hr.deeper _) hsp
 have I:Inv (zmt CX P w K mg base N qual scope f cdv A outer s H E) [] (start N vs) H s1:=zmu S hr.hd e0 hl r x
 refine wpAny_mono (ht [] s1 (start N vs) H _ I hq) (fun fl s' hs=>?_) fun e s' hs=>hs
 have fin:∀{σ':St} {H':Hp} {v:V} {u:Value},Inv (zmt CX P w K mg base N qual scope f cdv A outer s H E) [] σ' H' s'->RelV v u->Q v H'->CE outer P w H s Q u s' :=
  fun {σ' H' v u} J rv q=>⟨v,H',J.os,J.bare,J.base,J.hok,rv,q⟩
 cases fl with
 | ret u =>
  obtain⟨v,σ',H',J,rv,q⟩:=hs
  exact fin J rv q
 | next =>
  obtain⟨σ',H',J,q⟩:=hs
  exact fin (v:=V.non) (u:=Value.none) J rfl q
 | brk =>
  obtain⟨_,_,_,q⟩:=hs
  exact False.elim q
 | cont =>
  obtain⟨_,_,_,q⟩:=hs
  exact False.elim q
section
variable {X:Cx}{x:Str}{p pos:Pos}{e:Expr}{es:List Expr}{t:TA}{id T:String}{r:List V->Hp->VK->Prop}
def tCB (r:List V->Hp->VK->Prop)(t:TA):TE:=fun σ H Q=>t σ H fun vs H1=>r vs H1 Q
theorem zH (hc:Wm X (.builtin id) r)(hg:Gl X x)(hm:X.mg x=none)(hv:bootBuiltins x=some (.builtin id))(ha:PA X (e::es) t)(hn:x ≠ "__name__" := by decide)(hdb:(x==("__debug__" : Str))=false:=by decide)
  (he:starEach (e::es) X.env=(false,eval e X.env)::starEach es X.env:=by rfl)(hpl:(backTo pos (starEach es X.env)).any (·.1)=false:=by rfl):PE X (.Call (.Name x p) (e::es) [] pos) (tCB r t):=by
 intro pins s σ H Q I h
 refine wpAny_Call_Name_kw (U3 I hg hm hv ?_ hn hdb)
 exact PyProof.Rows.callWith_builtin1 (ud (ha pos pins s σ H _ I h) fun us s1 ⟨vs,H1,I1,r1,q1⟩=>hc pins s1 σ H1 vs us Q I1 r1 q1) he hpl
theorem Wr (hc:Wm X (.type T) r)(hg:Gl X x)(hm:X.mg x=none)(hv:bootBuiltins x=some (.type T))(ha:PA X (e::es) t)(hn:x ≠ "__name__" := by decide)(hdb:(x==("__debug__" : Str))=false:=by decide)
  (he:starEach (e::es) X.env=(false,eval e X.env)::starEach es X.env:=by rfl)(hpl:(backTo pos (starEach es X.env)).any (·.1)=false:=by rfl):PE X (.Call (.Name x p) (e::es) [] pos) (tCB r t):=by
 intro pins s σ H Q I h
 refine wpAny_Call_Name_kw (U3 I hg hm hv ?_ hn hdb)
 exact PyProof.Rows.callWith_type1 (ud (ha pos pins s σ H _ I h) fun us s1 ⟨vs,H1,I1,r1,q1⟩=>hc pins s1 σ H1 vs us Q I1 r1 q1) he hpl
end
end L2
namespace HT
open PySem PyProof.Rows
section
variable {prog:Program}{w:World}{A:Around}{E:Value->Shared->Prop}{s:Shared}
def Xl (n d:Nat):Option Int->Nat
 | none=>d
 | some v=>if v<0 then (v+(n:Int)).toNat else min v.toNat n
theorem zdR (n d:Nat):Xl n d none=d:=rfl
theorem Ls (n d k:Nat):Xl n d (some (k:Int))=min k n:=by
 show(if (k:Int)<0 then ((k:Int)+(n:Int)).toNat else min (k:Int).toNat n)=min k n
 rw[if_neg (by omega),zDm]
theorem zrK (n d:Nat)(hd:d<=n)(o:Option Int):Xl n d o<=n:=by
 cases o with
 | none=>exact hd
 | some v =>
  show(if v<0 then (v+(n:Int)).toNat else min v.toNat n)<=n
  by_cases hv:v<0
  ·rw[if_pos hv];omega
  ·rw[if_neg hv];exact Nat.min_le_right _ _
theorem zlr (v:Int)(n d:Nat):(if v<0 then max (v+(n:Int)) 0 else min v (n:Int))=((Xl n d (some v):Nat):Int):=by
 show(if v<0 then max (v+(n:Int)) 0 else min v (n:Int))=(((if v<0 then (v+(n:Int)).toNat else min v.toNat n):Nat):Int)
 by_cases hv:v<0
 ·simp only[if_pos hv];omega
 ·simp only[if_neg hv];omega
theorem zjQ (lo hi:Option Int)(n:Nat):Builtin.Slice.sliceAdjust lo hi 1 (n:Int)=(((Xl n 0 lo:Nat):Int),((Xl n n hi:Nat):Int)):=by
 have h1:¬((1:Int)<0):=by omega
 unfold Builtin.Slice.sliceAdjust
 simp only[h1,if_false]
 refine Prod.ext ?_ ?_
 ·cases lo with
  | none=>rfl
  | some v=>exact zlr v n 0
 ·cases hi with
  | none=>rfl
  | some v=>exact zlr v n n
theorem zjR (i j:Nat):Builtin.Slice.slicePlaces (i:Int) (j:Int) 1=j-i:=by
 unfold Builtin.Slice.slicePlaces
 have h1:(1:Int) > 0:=by omega
 simp only[h1,if_true,Int.ediv_one]
 split<;>omega
theorem zdS {v:Value}{o:Option Int}{Q:Option Int->Shared->Prop}(p:IsPart v o)(h:Q o s):wpAny (model prog w) A (Builtin.Slice.slicePartIndex v) Q E s:=by
 cases p with
 | none=>exact slicePart_none h
 | int i t=>exact slicePart_int h
theorem zbr {sl:Addr}{vl vu:Value}{lo hi:Option Int}{n:Nat}{Q:Int×Int×Nat->Shared->Prop}(hs:s.heap.IsSliceOf sl vl vu .none)(pl:IsPart vl lo)(pu:IsPart vu hi)
  (h:Q (((Xl n 0 lo:Nat):Int),1,Xl n n hi-Xl n 0 lo) s):wpAny (model prog w) A (Builtin.Slice.sliceApplied (.ref sl) (pure (n:Int))) Q E s:=by
 obtain⟨os,hos,hcs,hds⟩:=id hs
 unfold Builtin.Slice.sliceApplied Builtin.Slice.sliceFields
 refine wpAny_bind (wpAny_bind (wpAny_field hos hds (x:=vl) rfl (wpAny_bind (wpAny_field hos hds (x:=vu) rfl (wpAny_bind (wpAny_field hos hds (x:=.none) rfl (wpAny_pure ?_)))))))
 refine wpAny_bind (slicePart_none ?_)
 show wpAny _ _ (if ((1:Int)==0)=true then _ else _) _ _ s
 rw[if_neg (by decide)]
 refine wpAny_bind (zdS pl (wpAny_bind (zdS pu (wpAny_bind (wpAny_pure ?_)))))
 show wpAny _ _ (match Builtin.Slice.sliceAdjust lo hi 1 (n:Int) with | (lo,hi)=>pure (lo,(1:Int),Builtin.Slice.slicePlaces lo hi 1)) _ _ s
 rw[zjQ lo hi n]
 show wpAny _ _ (pure (((Xl n 0 lo:Nat):Int),(1:Int),Builtin.Slice.slicePlaces ((Xl n 0 lo:Nat):Int) ((Xl n n hi:Nat):Int) 1)) _ _ s
 rw[zjR]
 exact wpAny_pure h
theorem znH (xs:Array Value)(i k:Nat):((List.range k).filterMap fun(m:Nat)=>xs[((i:Int)+(m:Int)*1).toNat]?).toArray=((xs.toList.drop i).take k).toArray:=by
 have e:(fun(m:Nat)=>xs[((i:Int)+(m:Int)*1).toNat]?)=fun m=>xs[i+m]?:=by
  funext m
  have:((i:Int)+(m:Int)*1).toNat=i+m:=by omega
  rw[this]
 rw[e]
 have:=pick_run xs i k
 rw[List.filterMap_map] at this
 have e2:((fun x=>xs[x]?) ∘ fun x=>i+x)=fun m=>xs[i+m]?:=rfl
 rw[e2] at this
 rw[this]
theorem zar {t sl:Addr}{items:Array Value}{vl vu:Value}{lo hi:Option Int}{Q:Value->Shared->Prop}(ht:IsTup s.heap t items)(hs:s.heap.IsSliceOf sl vl vu .none)(pl:IsPart vl lo)(pu:IsPart vu hi)
  (hw:¬(Xl items.size 0 lo=0/\Xl items.size items.size hi=items.size))
  (h:Q (.ref s.heap.objs.size) { s with heap:=s.heap.push { cls:=.type "tuple", data:=.seq ((items.toList.drop (Xl items.size 0 lo)).take (Xl items.size items.size hi-Xl items.size 0 lo)).toArray } })
  (hsz:items.size<=sizeLine):wpAny (model prog w) A (getItem (.ref t) (.ref sl)) Q E s:=by
 have zls:sizeOk (.seq ((items.toList.drop (Xl items.size 0 lo)).take (Xl items.size items.size hi-Xl items.size 0 lo)).toArray):=by
  show((items.toList.drop (Xl items.size 0 lo)).take (Xl items.size items.size hi-Xl items.size 0 lo)).toArray.size<=sizeLine
  rw[zCS,zC6,List.length_drop,Array.length_toList]
  omega
 have hj:Xl items.size items.size hi<=items.size:=zrK _ _ (zCY _) hi
 obtain⟨os,hos,hcs,hds⟩:=id hs
 have hTs:s.TypeIs (.ref sl) "slice" := ⟨os,hos,hcs⟩
 unfold getItem
 try with_reducible refine wpAny_holding ?_
 first | refine wpAny_bind (wpAny_pure ?_) | skip
 refine wpAny_bind (wpAny_sequenceKey ht.typeIs (by decide) ?_)
 refine wpAny_bind (wpAny_callSpecial?_slot (name:=Str.ofString "__getitem__") ht.typeIs PyProof.Rows.slot_tuple_getitem
  (wpAny_call_entry PyProof.Rows.slot_tuple_getitem ht.typeIs entry_tuple_getitem ?_ (args_tuple_getitem _ _)))
 show wpAny _ _ (Builtin.Tuple.tupleItemsOf (.ref t)>>=_) _ _ s
 refine wpAny_bind (tupleItemsOf_ ht ?_)
 refine wpAny_bind (wpAny_typeOf hTs ?_)
 rw[if_pos (by decide)]
 refine wpAny_bind (zbr hs pl pu ?_)
 have hno:¬((((Xl items.size 0 lo:Nat):Int)==0&&(1:Int)==1&&(Xl items.size items.size hi-Xl items.size 0 lo)==items.size)=true):=by
  intro q
  rw[zDa,zDa] at q
  have q1:((Xl items.size 0 lo:Nat):Int)=0:=eq_of_beq q.1.1
  have q2:Xl items.size items.size hi-Xl items.size 0 lo=items.size:=eq_of_beq q.2
  exact hw ⟨by omega,by omega⟩
 show wpAny _ _ (if (((Xl items.size 0 lo:Nat):Int)==0&&(1:Int)==1&&(Xl items.size items.size hi-Xl items.size 0 lo)==items.size)=true then _ else _) _ _ s
 rw[if_neg hno,znH]
 first
  | exact wpAny_bind (m:=Builtin.Tuple.tupleExact _) (wpAny_newObj_type (wpAny_pure ⟨_,rfl,wpAny_pure h⟩) zls)
  | exact wpAny_bind (m:=Builtin.Tuple.tupleExact _) (wpAny_newObj_type (wpAny_bind (wpAny_pure (wpAny_pure ⟨_,rfl,wpAny_pure h⟩))) zls)
  | exact wpAny_bind (wpAny_bind (m:=Builtin.Tuple.tupleExact _) (wpAny_newObj_type (wpAny_pure (wpAny_pure ⟨_,rfl,wpAny_pure h⟩)) zls))
  | exact wpAny_bind (wpAny_bind (m:=Builtin.Tuple.tupleExact _) (wpAny_newObj_type (wpAny_pure ⟨_,rfl,wpAny_pure h⟩) zls))
end
end HT
namespace L2
open PySem PySem.Spec PyProof.Rows
abbrev TO:=St->Hp->(Option Int->Hp->Prop)->Prop
def PO (X:Cx)(e:Option Expr)(t:TO):Prop :=
 ∀(pins:List (Addr×Obj)) (s:Shared) (σ:St) (H:Hp) (Q:Option Int->Hp->Prop),Inv X pins σ H s->t σ H Q ->
  wpAny (model X.prog X.w) X.A (evalPart e X.env) (fun u s'=>∃o H',Inv X pins σ H' s'/\IsPart u o/\Q o H') X.xe s
def zpG:TO:=fun _ H Q=>Q none H
def zs4 (t:TE):TO:=fun σ H Q=>t σ H fun x H1=>∃i,x=.int i/\Q (some i) H1
section
variable {X:Cx}{e:Expr}{te:TE}{lo hi:Option Expr}{tl th:TO}{pos p2:Pos}
theorem zas:PO X none zpG:=by
 intro pins s σ H Q I h
 rw[evalPart_none]
 exact wpAny_pure ⟨none,H,I,.none,h⟩
theorem V7 (h:PE X e te):PO X (some e) (zs4 te):=by
 intro pins s σ H Q I hw
 rw[evalPart_some]
 refine ud (h pins s σ H _ I hw) fun u s1 ⟨x,H1,I1,r1,q1⟩=>?_
 obtain⟨i,rfl,q⟩:=q1
 obtain⟨t,rfl⟩:=r1
 exact⟨some i,H1,I1,.int i t,q⟩
def SlR (X:Cx)(r:V->Option Int->Option Int->Hp->VK->Prop):Prop :=
 ∀(pins:List (Addr×Obj)) (s:Shared) (σ:St) (H:Hp) (x:V) (v vl vu:Value) (lo hi:Option Int) (sl:Addr) (Q:VK),Inv X pins σ H s->RelV x v->s.heap.IsSliceOf sl vl vu .none->IsPart vl lo->IsPart vu hi->r x lo hi H Q ->
  ∃T id,typeLookup (.type T) "__getitem__"=pure (some (.builtin id))/\s.TypeIs v T/\wpAny (model X.prog X.w) X.A (getItem v (.ref sl)) (EP X pins σ Q) X.xe s
def tSl (r:V->Option Int->Option Int->Hp->VK->Prop)(te:TE)(tl th:TO):TE:=fun σ H Q=>te σ H fun x H1=>tl σ H1 fun l H2=>th σ H2 fun u H3=>r x l u H3 Q
theorem U6 {r:V->Option Int->Option Int->Hp->VK->Prop}(hr:SlR X r)(he:PE X e te)(hl:PO X lo tl)(hu:PO X hi th):PE X (.Subscript e (.Slice lo hi none p2) pos) (tSl r te tl th):=by
 intro pins s σ H Q I h
 refine Subscript_ (ud (he pins s σ H _ I h) fun v s1 ⟨x,H1,I1,r1,q1⟩=>?_)
 refine wpAny_Slice (ud (hl pins s1 σ H1 _ I1 q1) fun vl s2 ⟨l,H2,I2,pl,q2⟩=>ud (hu pins s2 σ H2 _ I2 q2) fun vu s3 ⟨u,H3,I3,pu,q3⟩=>?_)
 rw[evalPart_none]
 refine wpAny_pure ?_
 have I4:Inv X pins σ H3 { s3 with heap:=s3.heap.push { cls:=.type "slice", data:=.fields #[vl,vu,.none] } }:=I3.kept (t':=s3.toks) fun b ob q=>zCO _ q
 obtain⟨T,id,hT,ht,hg⟩:=hr pins { s3 with heap:=s3.heap.push { cls:=.type "slice", data:=.fields #[vl,vu,.none] } } σ H3 x v vl vu l u s3.heap.objs.size Q I4 r1 (Heap.IsSliceOf.new ..) pl pu q3
 show wpAny (model X.prog X.w) X.A (subscriptTail e (.Slice lo hi none p2) v (.ref s3.heap.objs.size)) (EP X pins σ Q) X.xe { s3 with heap:=s3.heap.push { cls:=.type "slice", data:=.fields #[vl,vu,.none] } }
 exact tail_any (ops:=[.ref s3.heap.objs.size,v]) ht hT hg (by with_unfolding_all rfl)
def K3 (xs:List V)(lo hi:Option Int):List V:=(xs.drop (HT.Xl xs.length 0 lo)).take (HT.Xl xs.length xs.length hi-HT.Xl xs.length 0 lo)
theorem zcE (xs:List V)(lo hi:Option Int):(K3 xs lo hi).length<=xs.length:=by
 unfold K3
 rw[zC6,List.length_drop]
 omega
def zvj (K:Frag):V->Option Int->Option Int->Hp->VK->Prop:=fun x lo hi H Q=>∃a xs,x=.ref a/\vW K H a xs /\
 ¬(HT.Xl xs.length 0 lo=0/\HT.Xl xs.length xs.length hi=xs.length)/\∀p,H p=none->Q (.ref p) (upd H p (.tup (K3 xs lo hi)))
theorem znI:SlR X (zvj X.K):=by
 intro pins s σ H x v vl vu lo hi sl Q I rx hs pl pu h
 obtain⟨a,xs,rfl,hx,hw,q⟩:=h
 cases rx
 obtain⟨its,r,ht,hz⟩:=I.tuple hx
 have hlen:its.toArray.size=xs.length:=by rw[zCS];exact r.length.symm
 refine⟨"tuple", _,PyProof.Rows.slot_tuple_getitem.lookup,ht.typeIs,?_⟩
 refine HT.zar ht hs pl pu (by rw[hlen];exact hw) ?_ (by rw[hlen];exact hz)
 rw[hlen]
 refine⟨.ref s.heap.objs.size,_,I.laid (t':=s.toks) (o:=.tup (K3 xs lo hi)) (fun b ob q=>zCO _ q) (zCY _) ?_,rfl,q _ (I.hok.fresh (zCY _))⟩
 exact⟨zC4 (zcE xs lo hi) hz,_,(r.drop (HT.Xl xs.length 0 lo)).take (HT.Xl xs.length xs.length hi-HT.Xl xs.length 0 lo),IsTup.new _ _⟩
end
def ixN (n:Nat)(i:Int):Option Nat:=if 0<=i then (if i<n then some i.toNat else none) else if -(n:Int)<=i then some (i+n).toNat else none
def atI {α:Type}(xs:List α)(i:Int):Option α:=(ixN xs.length i).bind fun j=>xs[j]?
theorem zpI {n:Nat}{i:Int}{j:Nat}(h:ixN n i=some j):seqIndex? i n=some j/\j<n/\-(n:Int)<=i/\i<n:=by
 unfold ixN at h
 by_cases h0:0<=i
 ·rw[if_pos h0] at h
  by_cases h1:i<n
  ·rw[if_pos h1] at h
   have e:i.toNat=j:=zDd h
   exact⟨by rw[seqIndex_of h0 h1,e],by omega,by omega,h1⟩
  ·rw[if_neg h1] at h;cases h
 ·rw[if_neg h0] at h
  by_cases h1:-(n:Int)<=i
  ·rw[if_pos h1] at h
   have e:(i+n).toNat=j:=zDd h
   exact⟨by rw[seqIndex_neg (by omega) h1,e],by omega,h1,by omega⟩
  ·rw[if_neg h1] at h;cases h
theorem zgT {α:Type}{xs:List α}{i:Int}{v:α}(h:atI xs i=some v):∃j,seqIndex? i xs.length=some j/\xs[j]?=some v/\j<xs.length/\-(xs.length:Int)<=i/\i<xs.length:=by
 unfold atI at h
 cases e:ixN xs.length i with
 | none=>rw[e] at h;cases h
 | some j =>
  rw[e] at h
  obtain⟨h1,h2,h3,h4⟩:=zpI e
  exact⟨j,h1,h,h2,h3,h4⟩
theorem wk {α:Type}{xs:List α}{j:Nat}{v:α}(h:xs[j]?=some v):atI xs (j:Int)=some v:=by
 have hj:j<xs.length:=(zCL.mp h).1
 have e:ixN xs.length (j:Int)=some j:=by
  unfold ixN
  rw[if_pos (by omega),if_pos (by omega)];simp
 unfold atI;rw[e];exact h
theorem zdU {α:Type}(xs:List α)(v:α):atI (xs++[v]) (-1)=some v:=by
 have hl:(xs++[v]).length=xs.length+1:=by simp
 have e:ixN (xs++[v]).length (-1)=some xs.length:=by
  unfold ixN
  rw[hl,if_neg (by decide),if_pos (by omega)]
  congr 1
  omega
 unfold atI
 rw[e]
 show(xs++[v])[xs.length]?=some v
 simp
def zpJ (b:Expr):Prop:=∀o i,subscripted b false o i=operate [o,i] (getItem o i)
def IxR (X:Cx)(r:R2):Prop :=
 ∀(value slice:Expr) (pins:List (Addr×Obj)) (s:Shared) (σ:St) (H:Hp) (x y:V) (v u:Value) (Q:VK),Inv X pins σ H s->RelV x v->RelV y u->r x y H Q ->
  subscripted slice false v u=operate [v,u] (getItem v u)->wpAny (model X.prog X.w) X.A (subscriptTail value slice v u) (EP X pins σ Q) X.xe s
def MtR (X:Cx)(id:String)(r:V->List V->Hp->VK->Prop):Prop :=
 ∀(pins:List (Addr×Obj)) (s:Shared) (σ:St) (H:Hp) (x:V) (xs:List V) (v:Value) (us:List Value) (Q:VK),Inv X pins σ H s->RelV x v->Vals xs us->r x xs H Q ->
  wpAny (model X.prog X.w) X.A (call (.builtin id) (v::us)) (EP X pins σ Q) X.xe s
section
variable {X:Cx}{a b:Expr}{ta tb:TE}{pos:Pos}
theorem yj {r:R2}(hr:IxR X r)(ha:PE X a ta)(hb:PE X b tb)(hs:zpJ b):PE X (.Subscript a b pos) (tOp r ta tb):=by
 intro pins s σ H Q I h
 exact Subscript_ (zrB ha hb I h fun v u s2 x y H2 I2 rx ry q=>hr a b pins s2 σ H2 x y v u Q I2 rx ry q (hs _ _))
def zrL (K:Frag):R2:=fun x y H Q=>∃p xs i v,x=.ref p/\y=.int i/\zM K H p xs/\atI xs i=some v/\Q v H
def zvl (K:Frag):R2:=fun x y H Q=>∃p xs i v,x=.ref p/\y=.int i/\vW K H p xs/\atI xs i=some v/\Q v H
def zvm:R2:=fun x y H Q=>∃z i c,x=.str z/\y=.int i/\z.length<=sizeLine/\atI z.cps.toList i=some c/\Q (.str ⟨#[c]⟩) H
theorem yV:IxR X (zrL X.K):=by
 intro value slice pins s σ H x y v u Q I rx ry h hs
 obtain⟨p,xs,i,z,rfl,rfl,hq,he,q⟩:=h
 cases rx
 obtain⟨t,rfl⟩:=ry
 obtain⟨its,r,pl,hz⟩:=I.list hq
 obtain⟨j,h1,h2,h3,h4,h5⟩:=zgT he
 obtain⟨w,ew,rw'⟩:=r.get h2
 have hl:=r.length
 have hn:=Qx
 have fin:EP X pins σ Q w s:=⟨z,H,I,rw',q⟩
 by_cases h0:0<=i
 ·have hj:i.toNat=j:=by
   rw[seqIndex_of h0 h5] at h1
   exact zDd h1
  exact item_listR pl.isList h0 (by omega) (by rw[hj];simpa using ew) fin hs
 ·have hj:(i+(its.toArray.size:Int)).toNat=j:=by
   rw[seqIndex_neg (by omega) h4] at h1
   rw[zCS,<-hl]
   exact zDd h1
  exact subscriptTail_builtinR (x:=w) pl.isList.typeIs slot_list_getitem.lookup
   (wpAny_getItem_list_neg (Q:=fun r s'=>r=w/\EP X pins σ Q r s') pl.isList (by omega) (by rw[zCS]<;>omega) (by omega) (by rw[hj];simpa using ew) ⟨rfl,fin⟩) hs
theorem uR:IxR X (zvl X.K):=by
 intro value slice pins s σ H x y v u Q I rx ry h hs
 obtain⟨p,xs,i,z,rfl,rfl,hq,he,q⟩:=h
 cases rx
 obtain⟨t,rfl⟩:=ry
 obtain⟨its,r,pl,hz⟩:=I.tuple hq
 obtain⟨j,h1,h2,h3,h4,h5⟩:=zgT he
 obtain⟨w,ew,rw'⟩:=r.get h2
 have hl:=r.length
 have hn:=Qx
 have fin:EP X pins σ Q w s:=⟨z,H,I,rw',q⟩
 exact subscriptTail_builtinR (x:=w) pl.typeIs slot_tuple_getitem.lookup
  (getItem_tuple (j:=j) (Q:=fun r s'=>r=w/\EP X pins σ Q r s') pl (by omega) (by omega) (by rw[zCS,<-hl];exact h1) (by simpa using ew) ⟨rfl,fin⟩) hs
theorem JL:IxR X zvm:=by
 intro value slice pins s σ H x y v u Q I rx ry h hs
 obtain⟨z,i,c,rfl,rfl,hz,he,q⟩:=h
 obtain⟨t,rfl⟩:=rx
 obtain⟨t',rfl⟩:=ry
 obtain⟨j,h1,h2,h3,h4,h5⟩:=zgT he
 have hl:z.cps.toList.length=z.length:=by simp[Str.length]
 rw[hl] at h1 h4 h5
 have hn:=Qx
 exact tail_any (typeIs_str s z t) slot_str_getitem.lookup (getItem_str (c:=c) (by
  have e1:decide (i < -(2^63:Int))=false:=decide_eq_false (by omega)
  have e2:decide (i >= 2^63)=false:=decide_eq_false (by omega)
  rw[e1,e2,Bool.or_false]) (by rw[h1];simpa using h2) ⟨.str ⟨#[c]⟩,H,I.tok _,⟨_,rfl⟩,q⟩) hs
theorem zgU (lo hi:Option Int)(n:Nat):(sliceBounds lo hi none n).1=((HT.Xl n 0 lo:Nat):Int)/\(sliceBounds lo hi none n).2.1=((HT.Xl n n hi:Nat):Int)/\(sliceBounds lo hi none n).2.2=1:=by
 refine⟨?_,?_,rfl⟩
 ·cases lo with
  | none=>simp[sliceBounds,HT.Xl]
  | some i =>
   simp only[sliceBounds,HT.Xl,Option.getD_none,show(1:Int) > 0 by decide,if_true]
   by_cases h:i<0
   ·simp only[h,if_true]<;>omega
   ·simp only[h,if_false]<;>omega
 ·cases hi with
  | none=>simp[sliceBounds,HT.Xl]
  | some i =>
   simp only[sliceBounds,HT.Xl,Option.getD_none,show(1:Int) > 0 by decide,if_true]
   by_cases h:i<0
   ·simp only[h,if_true]<;>omega
   ·simp only[h,if_false]<;>omega
theorem zfo (its:List Value)(lo hi:Option Int):slicePick its.toArray lo hi none=((its.drop (HT.Xl its.length 0 lo)).take (HT.Xl its.length its.length hi-HT.Xl its.length 0 lo)).toArray:=by
 obtain⟨h1,h2,h3⟩:=zgU lo hi its.toArray.size
 unfold slicePick
 rw[h1,h2,h3]
 simp only[sliceRange_one,pick_run,zCS]<;>rfl
def zvn (K:Frag):V->Option Int->Option Int->Hp->VK->Prop:=fun x lo hi H Q=>∃a xs,x=.ref a/\zM K H a xs/\∀p,H p=none->Q (.ref p) (upd H p (.lst (K3 xs lo hi)))
theorem zdr:SlR X (zvn X.K):=by
 intro pins s σ H x v vl vu lo hi sl Q I rx hs pl pu h
 obtain⟨a,xs,rfl,hx,q⟩:=h
 cases rx
 obtain⟨its,r,ht,hz⟩:=I.list hx
 have hlen:=r.length
 refine⟨"list", _,slot_list_getitem.lookup,ht.isList.typeIs,?_⟩
 refine wpAny_getItem_list_slice ht.isList hs pl pu .none (by simp) ?_ (by rw[zCS]<;>omega)
 rw[zfo,<-hlen]
 refine⟨.ref s.heap.objs.size,_,I.laid (t':=s.toks) (o:=.lst (K3 xs lo hi)) (fun b ob q=>zCO _ q) (zCY _) ?_,rfl,q _ (I.hok.fresh (zCY _))⟩
 exact⟨zC4 (zcE xs lo hi) hz,_,0,(r.drop (HT.Xl xs.length 0 lo)).take (HT.Xl xs.length xs.length hi-HT.Xl xs.length 0 lo),zC3 _ rfl⟩
def uO:V->Bool
 | .non=>true
 | .bl _=>true
 | .int _=>true
 | .str _=>true
 | _=>false
def eqV:V->V->Bool
 | .non,.non=>true
 | .bl a,.bl b=>a==b
 | .bl a,.int b=>(if a then 1 else 0)==b
 | .int a,.bl b=>a==(if b then 1 else 0)
 | .int a,.int b=>a==b
 | .str a,.str b=>a==b
 | _,_=>false
theorem znJ {A:Around}{s:Shared}{y x:V}{u v:Value}(ry:RelV y u)(rx:RelV x v)(fy:uO y=true)(fx:uO x=true):SeqAt.EqAt A s u v (eqV y x):=by
 cases y with
 | non =>
  cases ry
  cases x with
  | non=>cases rx;exact SeqAt.EqAt.same _
  | bl b=>cases rx;exact SeqAt.EqAt.none_bool b
  | int b=>obtain⟨t,rfl⟩:=rx;exact SeqAt.EqAt.none_int b t
  | str b=>obtain⟨t,rfl⟩:=rx;exact SeqAt.EqAt.none_str b t
  | _=>exact absurd (show false=true from fx) zCM
 | bl a =>
  cases ry
  cases x with
  | non=>cases rx;exact SeqAt.EqAt.bool_none a
  | bl b=>cases rx;exact SeqAt.EqAt.bool_bool a b
  | int b=>obtain⟨t,rfl⟩:=rx;exact SeqAt.EqAt.bool_int a b t
  | str b=>obtain⟨t,rfl⟩:=rx;exact SeqAt.EqAt.bool_str a b t
  | _=>exact absurd (show false=true from fx) zCM
 | int a =>
  obtain⟨t',rfl⟩:=ry
  cases x with
  | non=>cases rx;exact SeqAt.EqAt.int_none a t'
  | bl b=>cases rx;exact SeqAt.EqAt.int_bool a t' b
  | int b=>obtain⟨t,rfl⟩:=rx;exact SeqAt.EqAt.int_int a t' b t
  | str b=>obtain⟨t,rfl⟩:=rx;exact SeqAt.EqAt.int_str a t' b t
  | _=>exact absurd (show false=true from fx) zCM
 | str a =>
  obtain⟨t',rfl⟩:=ry
  cases x with
  | non=>cases rx;exact SeqAt.EqAt.str_none a t'
  | bl b=>cases rx;exact SeqAt.EqAt.str_bool a t' b
  | int b=>obtain⟨t,rfl⟩:=rx;exact SeqAt.EqAt.str_int a t' b t
  | str b=>obtain⟨t,rfl⟩:=rx;exact SeqAt.EqAt.str_str a t' b t
  | _=>exact absurd (show false=true from fx) zCM
 | _=>exact absurd (show false=true from fy) zCM
def eqU (x:V)(u:Value):Bool:=match u with
 | .none=>eqV .non x
 | .bool b=>eqV (.bl b) x
 | .int i _=>eqV (.int i) x
 | .str z _=>eqV (.str z) x
 | _=>false
theorem zgV {x y:V}{u:Value}(r:RelV y u)(f:uO y=true):eqU x u=eqV y x:=by
 cases y with
 | non=>cases r;rfl
 | bl b=>cases r;rfl
 | int i=>obtain⟨t,rfl⟩:=r;rfl
 | str z=>obtain⟨t,rfl⟩:=r;rfl
 | _=>exact absurd (show false=true from f) zCM
theorem zat {x:V}:∀{xs:List V} {us:List Value},Vals xs us->xs.all uO=true->us.any (eqU x)=xs.any fun y=>eqV y x
 | _,_,.nil,_=>rfl
 | y::xs,u::us,.cons r t,f=>by
  rw[List.all_cons,zDa] at f
  rw[List.any_cons,List.any_cons,zgV r f.1,zat t f.2]
theorem RT {A:Around}{s:Shared}{x:V}{v:Value}(rx:RelV x v)(fx:uO x=true):∀{xs:List V} {us:List Value},Vals xs us->xs.all uO=true->∀u∈us,SeqAt.EqAt A s u v (eqU x u)
 | _,_,.nil,_=>fun u hu=>by cases hu
 | y::xs,u::us,.cons r t,f=>fun u' hu=>by
  rw[List.all_cons,zDa] at f
  rcases List.mem_cons.mp hu with rfl | hu
  ·rw[zgV r f.1];exact znJ r rx f.1 fx
  ·exact RT rx fx t f.2 u' hu
def inV (x:V)(xs:List V):Bool:=xs.any fun y=>eqV y x
def rIn (K:Frag)(neg:Bool):R2:=fun x y H Q=>∃p xs,y=.ref p/\(zM K H p xs\/vW K H p xs)/\uO x=true/\xs.all uO=true/\Q (.bl (if neg then !inV x xs else inV x xs)) H
theorem Ux:Qu X (compareOp .In) (rIn X.K false):=by
 intro pins s σ H x y v u Q I rx ry h
 obtain⟨p,xs,rfl,hq,fx,fs,q⟩:=h
 cases ry
 rcases hq with hq | hq
 ·obtain⟨its,r,pl,hz⟩:=I.list hq
  refine SeqAt.in_listAt (eqU x) pl.isList (fun w hw=>RT rx fx r fs w (by simpa using hw)) ⟨.bl _,H,I,rfl,?_⟩
  rw[show its.toArray.any (eqU x)=its.any (eqU x) by simp,zat r fs]
  exact q
 ·obtain⟨its,r,pl,hz⟩:=I.tuple hq
  refine SeqAt.in_tupleAt (eqU x) pl (fun w hw=>RT rx fx r fs w (by simpa using hw)) ⟨.bl _,H,I,rfl,?_⟩
  rw[show its.toArray.any (eqU x)=its.any (eqU x) by simp,zat r fs]
  exact q
theorem V8:Qu X (compareOp .NotIn) (rIn X.K true):=by
 intro pins s σ H x y v u Q I rx ry h
 obtain⟨p,xs,rfl,hq,fx,fs,q⟩:=h
 cases ry
 rcases hq with hq | hq
 ·obtain⟨its,r,pl,hz⟩:=I.list hq
  refine SeqAt.notIn_listAt (eqU x) pl.isList (fun w hw=>RT rx fx r fs w (by simpa using hw)) ⟨.bl _,H,I,rfl,?_⟩
  rw[show its.toArray.any (eqU x)=its.any (eqU x) by simp,zat r fs]
  exact q
 ·obtain⟨its,r,pl,hz⟩:=I.tuple hq
  refine SeqAt.notIn_tupleAt (eqU x) pl (fun w hw=>RT rx fx r fs w (by simpa using hw)) ⟨.bl _,H,I,rfl,?_⟩
  rw[show its.toArray.any (eqU x)=its.any (eqU x) by simp,zat r fs]
  exact q
theorem zG:Wm X (.builtin "len") (fun xs H Q=>∃p ys,xs=[.ref p]/\(zM X.K H p ys\/vW X.K H p ys)/\Q (.int ys.length) H):=by
 intro pins s σ H xs us Q I r h
 obtain⟨p,ys,rfl,hq,q⟩:=h
 obtain⟨u,rfl,rx⟩:=vals1 r
 cases rx
 have hn:=Qx
 rcases hq with hq | hq
 ·obtain⟨its,r',pl,hz⟩:=I.list hq
  have hlen:=r'.length
  exact Calls.call_len_list pl.isList (by simp only[zCS]<;>omega) ⟨.int ys.length,H,I.tok _,⟨s.toks+1,by rw[zCS,hlen]⟩,q⟩
 ·obtain⟨its,r',pl,hz⟩:=I.tuple hq
  have hlen:=r'.length
  exact len_tuple pl (by simp only[zCS]<;>omega) ⟨.int ys.length,H,I.tok _,⟨s.toks+1,by rw[zCS,hlen]⟩,q⟩
theorem zgW:Wm X (.builtin "len") (fun xs H Q=>∃z,xs=[.str z]/\z.length<=sizeLine/\Q (.int z.length) H):=by
 intro pins s σ H xs us Q I r h
 obtain⟨z,rfl,hz,q⟩:=h
 obtain⟨u,rfl,t,rfl⟩:=vals1 r
 have hn:=Qx
 exact len_str (by omega) ⟨.int z.length,H,I.tok _,⟨_,rfl⟩,q⟩
theorem V9:Wm X (.type "list") (fun xs H Q=>∃p ys,xs=[.ref p]/\(zM X.K H p ys\/vW X.K H p ys)/\∀l,H l=none->Q (.ref l) (upd H l (.lst ys))):=by
 intro pins s σ H xs us Q I r h
 obtain⟨p,ys,rfl,hq,q⟩:=h
 obtain⟨u,rfl,rx⟩:=vals1 r
 cases rx
 have fin:∀(its:List Value),Vals ys its->ys.length<=sizeLine->∀(h':Heap) (c':Nat),(∀b o',s.heap.get? b=some o'->h'.get? b=some o') ->
   h'.get? s.heap.objs.size=some { cls:=.type "list", dict:=none,data:=.seq its.toArray c',slots:=#[] }->EP X pins σ Q (.ref s.heap.objs.size) { s with heap:=h' }:=fun its r' hz h' c' kp e =>
  ⟨.ref s.heap.objs.size,_,I.laid (t':=s.toks) kp (zCY _) (show vV X.prog X.w _ h' _ (.lst ys) from ⟨hz,its,c',r',e⟩),rfl,q _ (I.hok.fresh (zCY _))⟩
 rcases hq with hq | hq
 ·obtain⟨its,r',pl,hz⟩:=I.list hq
  have hlen:=r'.length
  obtain⟨o,ho,hc,n,hd⟩:=pl.isList
  exact call_list_seq p (.inl rfl) ho hc hd (fun h' c' kp e=>fin its r' hz h' c' kp e) (by simp only[zCS]<;>omega)
 ·obtain⟨its,r',pl,hz⟩:=I.tuple hq
  have hlen:=r'.length
  obtain⟨o,ho,hc,n,hd⟩:=pl
  exact call_list_seq p (.inr rfl) ho hc hd (fun h' c' kp e=>fin its r' hz h' c' kp e) (by simp only[zCS]<;>omega)
def tyV (K:Frag)(T:String)(x:V)(H:Hp):Prop:=match x with
 | .str _=>T="str"
 | .int _=>T="int"
 | .ref p=>(T="list" /\ ∃xs,zM K H p xs)\/(T="tuple" /\ ∃o,K.lookup p=some o/\o.cls=.type "tuple" /\ o.dict=none) \/
   (T="dict" /\ ((∃kvs,H p=some (.dK kvs))\/∃kvs,H p=some (.dT kvs)))\/(T="set" /\ ∃S n,H p=some (.set S n))
 | _=>False
theorem zrM {pins:List (Addr×Obj)}{σ:St}{H:Hp}{s:Shared}{T:String}{x:V}{v:Value}(I:Inv X pins σ H s)(r:RelV x v)(ty:tyV X.K T x H) :
  s.TypeIs v T/\∀a,v=.ref a->∃ob,s.heap.get? a=some ob/\ob.dict=none:=by
 cases x with
 | str z =>
  obtain⟨t,rfl⟩:=r
  cases (show T="str" from ty)
  exact⟨typeIs_str s z t,fun _ e=>nomatch e⟩
 | int i =>
  obtain⟨t,rfl⟩:=r
  cases (show T="int" from ty)
  exact⟨typeIs_int s i t,fun _ e=>nomatch e⟩
 | ref p =>
  cases r
  rcases ty with ⟨rfl,xs,hq⟩ | ⟨rfl,o,hk,hc,hd⟩ | ⟨rfl,hk⟩ | ⟨rfl,S,n,hk⟩
  ·obtain⟨its,_,pl,_⟩:=I.list hq
   refine⟨pl.isList.typeIs,fun a e=>?_⟩
   cases e
   obtain⟨o,n,e,c,hd,_⟩:=pl
   exact⟨o,e,hd⟩
  ·refine⟨⟨o,I.kIn p o hk,hc⟩,fun a e=>?_⟩
   cases e
   exact⟨o,I.kIn _ o hk,hd⟩
  ·have z:∃o,s.heap.get? p=some o/\o.ExactDict:=by
    rcases hk with ⟨kvs,hk⟩ | ⟨kvs,hk⟩
    ·obtain⟨_,_,_,_,o,_,_,e,ex,_⟩:=I.hok p _ hk
     exact⟨o,e,ex⟩
    ·obtain⟨_,_,_,_,o,_,_,e,ex,_⟩:=I.hok p _ hk
     exact⟨o,e,ex⟩
   obtain⟨o,e,ex⟩:=z
   refine⟨⟨o,e,ex.1⟩,fun a e2=>?_⟩
   cases e2
   exact⟨o,e,ex.2.1⟩
  ·obtain⟨o,_,_,_,e,ex,_⟩:=I.hok p _ hk
   refine⟨⟨o,e,ex.1⟩,fun a e2=>?_⟩
   cases e2
   exact⟨o,e,ex.2.1⟩
 | _=>exact False.elim ty
def tBM (K:Frag)(T:String)(r:V->List V->Hp->VK->Prop)(to:TE)(t:TA):TE:=fun σ H Q=>to σ H fun x H1=>tyV K T x H1/\t σ H1 fun xs H2=>r x xs H2 Q
variable {o e:Expr}{es:List Expr}{to:TE}{t:TA}{name:Str}{apos cpos:Pos}{T id:String}{r:V->List V->Hp->VK->Prop}
theorem vG (pa:PlainAttrs T)(slot:Slot T name id)(hty:typeOf (.builtin id)=pure (.type "method_descriptor"))(hm:MtR X id r)(ho:PE X o to)(ha:PA X (e::es) t)
  (hbase:attributeBase o name X.env (eval o X.env)=eval o X.env:=by rfl)
  (hfew:((backTo cpos (starEach (e::es) X.env)).all (fun x=>!x.1)&&(backToKw cpos (keywordEach [] X.env)).all (fun x=>x.1.isSome)
   && decide ((e::es).length+([]:List Keyword).length+(if ([]:List Keyword).isEmpty then 0 else 1)<30))=true:=by rfl)
  (hline:(apos.endLine==cpos.line)=true:=by rfl)(hs:starEach (e::es) X.env=(false,eval e X.env)::starEach es X.env:=by rfl)(hplain:(backTo cpos (starEach es X.env)).any (·.1)=false:=by rfl) :
  PE X (.Call (.Attribute o name apos) (e::es) [] cpos) (tBM X.K T r to t):=by
 intro pins s σ H Q I h
 refine wpAny_Call_method_late hbase hfew hline rfl (ud (ho pins s σ H _ I h) fun v s1 ⟨x,H1,I1,r1,ty,q1⟩=>?_)
 obtain⟨h1,h2⟩:=zrM I1 r1 ty
 refine⟨T,id,pa,slot,hty,h1,h2,?_⟩
 have hA:=ha cpos pins s1 σ H1 _ I1 q1
 rw[hs] at hA ⊢
 refine Calls.callWith_builtin (by show(false||(backTo cpos (starEach es X.env)).any (·.1))=false;rw[hplain]<;>rfl) (Calls.evalArgs_plain ?_)
 exact ud hA fun us s2 ⟨vs,H2,I2,r2,q2⟩=>hm pins s2 σ H2 x vs v us Q I2 r1 r2 q2
end
def MtM (X:Cx)(id:String)(r:V->List V->Hp->VK->Prop):Prop :=
 ∀(pins:List (Addr×Obj)) (s:Shared) (σ:St) (H:Hp) (x:V) (xs:List V) (v:Value) (us:List Value) (Q:VK),Inv X pins σ H s->RelV x v->Vals xs us->r x xs H Q ->
  wpAny (model X.prog X.w) X.A (call (.builtin id) (v::us)) (EP X pins σ Q) X.xe s
theorem Vals.one:∀{x:V} {us:List Value},Vals [x] us->∃u,us=[u]/\RelV x u
 | _,_,.cons r .nil=>⟨_,rfl,r⟩
theorem Vals.two:∀{x y:V} {us:List Value},Vals [x,y] us->∃u v,us=[u,v]/\RelV x u/\RelV y v
 | _,_,_,.cons r (.cons q .nil)=>⟨_,_,rfl,r,q⟩
section
variable {X:Cx}{pins:List (Addr×Obj)}{σ:St}{H:Hp}{s:Shared}{l b:Addr}{xs ys zs:List V}
theorem Inv.zpK {its its':List Value}{n:Nat}{f:Array Value->Array Value}{t':Nat}(I:Inv X pins σ H s)(hH:H l=some (.lst xs))
  (e:s.heap.get? l=some { cls:=.type "list", data:=.seq its.toArray n })(hf:f its.toArray=its'.toArray)(hv:Vals ys its')(hz:ys.length<=sizeLine) :
  Inv X pins σ (upd H l (.lst ys)) { s with heap:=s.heap.update l (Obj.mapSeq f),toks:=t' }:=by
 have q:=PySem.IsL.update e f
 rw[hf] at q
 refine I.write (x:=l) (e:=l) (by rw[hH];exact trivial) (.inl rfl) (fun b' u hb hu=>(Heap.get?_update_other s.heap (Obj.mapSeq f) (Ne.symm hb)).trans hu) ⟨_,q⟩ ?_
 exact⟨hz,its',_,hv,q⟩
theorem Inv.fresh (I:Inv X pins σ H s):H s.heap.objs.size=none:=I.hok.fresh (zCY _)
theorem Inv.znK (I:Inv X pins σ H s)(hH:H l=some (.lst xs)):xs.length<=sizeLine/\∃(its:List Value) (n:Nat),Vals xs its/\xs.length=its.length/\s.heap.get? l=some { cls:=.type "list", data:=.seq its.toArray n }:=by
 obtain⟨z,its,n,r,e⟩:=I.hok l _ hH
 exact⟨z,its,n,r,r.length,e⟩
theorem zif {n:Nat}(h:n<=sizeLine):Builtin.List.listTooLong n=false:=by
 unfold Builtin.List.listTooLong
 exact decide_eq_false (by omega)
end
section
variable {X:Cx}
def zpL:V->List V->Hp->VK->Prop:=fun x vs H Q=>∃l xs y,x=.ref l/\vs=[y]/\H l=some (.lst xs)/\xs.length<sizeLine/\Q .non (upd H l (.lst (xs++[y])))
theorem wB:MtM X "list.append" zpL:=by
 intro pins s σ H x vs v us Q I rx rv h
 obtain⟨l,xs,y,rfl,rfl,hH,hz,q⟩:=h
 cases rx
 obtain⟨u,rfl,ru⟩:=rv.one
 obtain⟨z,its,n,r,hl,e⟩:=I.znK hH
 refine call_meets F.slot_list_append ⟨_,e,rfl⟩ F.entry_list_append (F.args_list_append_2 _ _) (PySem.list_append l its.toArray n u (by rw[zCS];omega)) ⟨e,?_⟩
 refine⟨.non,_,I.zpK (its':=its++[u]) hH e (by simp) (r.append (.cons ru .nil)) ?_,rfl,q⟩
 rw[zCQ,zDg]
 omega
def zpM:V->List V->Hp->VK->Prop:=fun x vs H Q=>∃l b xs zs,x=.ref l/\vs=[.ref b]/\H l=some (.lst xs)/\H b=some (.lst zs)/\xs.length+zs.length<=sizeLine/\Q .non (upd H l (.lst (xs++zs)))
theorem zga:MtM X "list.extend" zpM:=by
 intro pins s σ H x vs v us Q I rx rv h
 obtain⟨l,b,xs,zs,rfl,rfl,hH,hB,hz,q⟩:=h
 cases rx
 obtain⟨u,rfl,ru⟩:=rv.one
 cases ru
 obtain⟨z,its,n,r,hl,e⟩:=I.znK hH
 obtain⟨z2,its2,n2,r2,hl2,e2⟩:=I.znK hB
 have hsz:its.toArray.size+its2.toArray.size<=sizeLine:=by rw[zCS,zCS];omega
 have znL:¬(!its.toArray.isEmpty&&Builtin.List.listTooLong (its.toArray.size+its2.toArray.size))=true:=by
  rw[zif hsz,Bool.and_false]
  exact zCM
 refine call_meets F.slot_list_extend ⟨_,e,rfl⟩ F.entry_list_extend (F.args_list_extend_2 _ _)
  (AutoSeq1.list_extend_list_list_0 l its.toArray n b its2.toArray n2 znL (by rw[zCS];omega) (by omega)) ⟨e,e2,?_⟩
 refine⟨.non,_,I.zpK (its':=its++its2) hH e (by simp) (r.append r2) ?_,rfl,q⟩
 rw[zCQ]
 omega
end
end L2
namespace Att
open PySem PySem.W PySem.Calls PyProof.Rows
theorem zda {P:Params}{h:Heap}:∀(ns:List Int) (vs:List Value),WellAll P h vs (ns.map WData.int)->IntsAre vs ns:=by
 intro ns
 induction ns with
 | nil =>
  intro vs w
  rw[List.map_nil] at w
  cases w
  exact .nil
 | cons n ns ih =>
  intro vs w
  rw[zC7] at w
  cases w with
  | cons a b =>
   cases a
   exact .cons _ _ (ih _ b)
theorem zmv {l:OpenLaw}{n:Nat}(hn:l.most=some n){P:Params}{h:Heap}{args:List WData}{vals:List Value}
  (hpre:l.row.toRowW.claim.pre args=true)(hwl:WellAll P h vals args) :
  ∃a vs ns,vals=[Value.ref a]/\args=[WData.list (ns.map WData.int)]/\h.get? a=some { cls:=.type "list", data:=.seq vs.toArray }/\IntsAre vs ns/\ns.length<=n:=by
 have hsh:WShape.hasAll [] args [.list .int]=true:=(pre_splitW hpre).1
 have hc:l.pre.holds [] { args:=args }=true:=(pre_splitW hpre).2
 obtain⟨d,r,rfl,h1,h2⟩:=hasAllW_cons hsh
 obtain rfl:=hasAllW_nil h2
 obtain⟨xs,rfl,h3⟩:=hasW_list h1
 obtain⟨ns,rfl⟩:=items_int h3
 have hlen:ns.length<=n:=by
  unfold OpenLaw.pre at hc
  have h4:(WTm.not (.lt (.lit (.int (n:Int))) (.len (.arg 0)))).holds [] { args:=[.list (ns.map .int)] }=true:=by
   have h4:=(holds_andW hc).1
   rw[hn] at h4
   exact h4
  have h5:=condW_of h4 (w_not (w_lt w_lit (w_len_list (w_arg rfl))))
  rw[zCI] at h5
  refine Nat.le_of_not_lt fun q=>?_
  have q':(n:Int)<((ns.length:Nat):Int):=by omega
  first
   | (rw[decide_eq_true q'] at h5;exact absurd h5 (by decide))
   | (simp at h5;omega)
 cases hwl with
 | cons w1 w2 =>
  cases w2
  cases w1 with
  | list ho hall=>exact⟨_,_,ns,rfl,rfl,ho,zda ns _ hall,hlen⟩
theorem zmw (l:OpenLaw)(args:List WData):l.row.toRowW.claim.post args (.bool true) args=true :=
 postW_of (r:=l.row.toRowW) (X:=(true==true))
  (show WShape.has [] (.bool true) .bool=true by first | rfl | decide | simp[WShape.has,WShape.arms,WShape.armsAll])
  (show(WTm.eq .res (.lit (.bool true))).value [] { args:=args,res:=some (.bool true),after:=args }=some (.bool (true==true)) from w_eq_bool (w_res rfl) w_lit) rfl
theorem zig {l:OpenLaw}{n:Nat}{q:Program}{loose:List Str}{XP:(Str->Option Value)->Heap->Prop}{YP:World->Heap->Prop}{d:DefRec}
  (hn:l.most=some n)(hdf:d.params.defaults=[])
  (call:∀(w:World) (s₀ s₁:Shared) (mg mb:Str->Option Value) (fa:Addr) (o:Obj) (pm cd doc:Value) (a:Addr) (vs:List Value) (ns:List Int),
   Ground q loose [] XP w s₀ mg mb s₁.heap->YP w s₁.heap ->
   s₁.heap.get? fa=some o->o.data=.func (docDef d.name d.params d.body d.scope pm cd doc)->s₁.heap.CodeRec cd d.name->mg d.name=some (.ref fa) ->
   s₁.heap.get? a=some { cls:=.type "list", data:=.seq vs.toArray }->IntsAre vs ns->ns.length<=n->s₁.gens=#[] ->
   codeAny (model l.prog w) callerA (.call (.ref fa) ⟨[.ref a],[]⟩) (fun r s'=>r=.ok (.ret (.bool true))/\OldK s₁.heap s'.heap/\s'.os=s₁.os/\AllBare s'.gens) s₁) :
  WalkO q loose XP YP l.row.toRowW d [] (fun f vs=>PySem.call f vs):=by
 intro w s₀ s₁ mg mb G Y fa o pm cd doc dV kV ho hd hcd hD hmg hg args vals as hpre hlay hrd hwl hlo
 obtain rfl:dV=.none:=Dflts.none hD hdf
 obtain rfl:kV=.none:=Dflts.noKw hD
 obtain⟨a,vs,ns,rfl,rfl,hobj,hints,hlen⟩:=zmv hn hpre hwl
 refine enter_call (codeAny_mono (call w s₀ s₁ mg mb fa o pm cd doc a vs ns G Y ho (fd_plain hd) hcd hmg hobj hints hlen hg) fun r s' hq=>?_)
 obtain⟨rfl,h2,h3,h4⟩:=hq
 exact⟨.inl ⟨.bool true,.bool true,[],rfl,fun _=>rfl,.bool true,zmw l _,fun _=>⟨List.Pairwise.nil,fun _ hm=>(nomatch hm)⟩⟩,h2,h3,h4⟩
end Att
namespace L2
open PySem PySem.Spec PyProof.Rows
theorem zgb:∀{vs:List Value} {ns:List Int},IntsAre vs ns->Vals (ns.map V.int) vs
 | _,_,.nil=>.nil
 | _,_,.cons n t h=>.cons ⟨t,rfl⟩ (zgb h)
def Only (H:Hp):Prop:=∀b,H b=none\/∃o xs,H b=some (.frz o (.lst xs))
theorem znM {P:Program}{w:World}{K:Frag}{mg mb:Str->Option Value}{CX:CXT}{k:Nat}{fa a:Addr}{fd:FuncData}{x:Str}{sp:Sp}{s₁:Shared}{vs:List Value}{ns:List Int}
  (KX:K.In s₁.heap)(hns:s₁.heap.Ns mainGlobals mg)(hb:s₁.heap.Ns builtinsNs mb)(hbb:∀x:Str,x ≠ "__name__" -> mb x=bootBuiltins x)(hlim:s₁.heap.NoLimit)(hg:s₁.gens=#[])
  (ha:s₁.heap.get? a=some { cls:=.type "list", data:=.seq vs.toArray })(hi:IntsAre vs ns)(hl:ns.length<=sizeLine)(hr:Wj k callerA)
  (F:∀base:Heap,K.In base->base.Ns mainGlobals mg->zA P w K mg base CX k fa fd [x] sp)(hbind:∀(s:Shared) (u:Value),BindsTo s fd ⟨[u],[]⟩ [(x,u)])
  (hsp:∀H:Hp,Only H->zM K H a (ns.map V.int)->sp [.ref a] H (fun v _=>v=.bl true) fun _ _ _=>False)
  (hCX:∀H e s',CX [] H s₁ (fun _ _ _=>False) e s'->False) :
  codeAny (model P w) callerA (.call (.ref fa) ⟨[.ref a],[]⟩) (fun r s'=>r=.ok (.ret (.bool true))/\OldK s₁.heap s'.heap/\s'.os=s₁.os/\AllBare s'.gens) s₁:=by
 have rv:=zgb hi
 have lenV:=hi.length
 have core:∀H:Hp,Only H->zM K H a (ns.map V.int)->K1 P w H s₁.heap->(∀b,H b≠none->b=a)->(H a≠none->K.lookup a=none) ->
   codeAny (model P w) callerA (.call (.ref fa) ⟨[.ref a],[]⟩) (fun r s'=>r=.ok (.ret (.bool true))/\OldK s₁.heap s'.heap/\s'.os=s₁.os/\AllBare s'.gens) s₁:=by
  intro H hO hS hok hA hK
  have zlt:∀{b:Addr} {o:Obj},s₁.heap.get? b=some o->H b=none->(zgM s₁.heap H).get? b=some o:=fun e n=>znx e n
  have noA:∀{b:Addr} {o:Obj} {es:Array DictEntry} {ep:Nat},s₁.heap.get? b=some o->o.data=.dict es ep->H b=none:=fun {b o es ep} e d=>by
   cases q:H b with
   | none=>rfl
   | some u =>
    have e':b=a:=hA b (by rw[q];simp)
    subst e'
    rw[ha] at e;cases e
    have d':Data.seq vs.toArray _=Data.dict es ep:=d
    cases d'
  have nsK:∀{b:Addr} {m:Str->Option Value},s₁.heap.Ns b m->(zgM s₁.heap H).Ns b m:=fun {b m} ⟨o,es,ep,e,d,r⟩=>⟨o,es,ep,zlt e (noA e d),d,r⟩
  have hKb:K.In (zgM s₁.heap H):=fun b o e=>zlt (KX b o e) (by
   cases q:H b with
   | none=>rfl
   | some u =>
    have e':b=a:=hA b (by rw[q];simp)
    subst e'
    rw[hK (by rw[q];simp)] at e;cases e)
  have hM:Mod K mg (zgM s₁.heap H):=⟨hKb,nsK hns,⟨mb,nsK hb,hbb⟩,let ⟨mc,h1,h2⟩:=hlim;⟨mc,nsK h1,h2⟩⟩
  have e0:zjO P w K mg (zgM s₁.heap H) callerA [] s₁ H:=⟨rfl,hM,fun b o e=>zpv e,Nat.le_of_eq (zmj _ _),trivial,fun b hb=>absurd (show b∈([]:List Addr) from hb) (by simp),hok,.of_eq hg⟩
  refine codeAny_mono ((F _ hKb (nsK hns)).run callerA [] s₁ H ⟨[.ref a],[]⟩ [.ref a] [.ref a] _ _ hr e0 (hbind s₁ (.ref a)) (.cons rfl .nil) (hsp H hO hS)) fun r s' h=>?_
  cases r with
  | error e=>exact(hCX H e s' h).elim
  | ok fl =>
   cases fl with
   | next=>exact False.elim h
   | brk=>exact False.elim h
   | cont=>exact False.elim h
   | ret u =>
    obtain⟨v,H',os,bare,un,hok',r',q⟩:=h
    have q':v=.bl true:=q
    subst q'
    obtain rfl:u=Value.bool true:=r'
    refine⟨rfl,OldK.of_keep fun b o e=>?_,os,bare⟩
    cases q:H b with
    | none=>exact un.keep b o e q (by intro z;exact absurd (show b∈([]:List Addr) from z) (by simp)) (by simp)
    | some u =>
     rcases hO b with z | ⟨ob,xs,z⟩
     ·rw[q] at z;cases z
     ·have z2:=un.zfm b ob _ z
      obtain⟨e1,_⟩:=hok b _ z
      obtain⟨e2,_⟩:=hok' b _ z2
      rw[e] at e1;cases e1
      exact e2
 cases hk:K.lookup a with
 | some o =>
  have e:=KX a o hk
  rw[ha] at e
  cases e
  refine core (fun _=>none) (fun _=>.inl rfl) (.inr ⟨_,vs.toArray,_,hk,rfl,rfl,rfl,by rw[zCS,lenV];exact hl,by simpa using rv⟩) (fun b u z=>by have z':(none:Option HO)=some u:=z;cases z') (fun b z=>absurd rfl z) fun z=>absurd rfl z
 | none =>
  refine core (fun b=>if b=a then some (.frz { cls:=.type "list", data:=.seq vs.toArray } (.lst (ns.map V.int))) else none) (fun b=>?_) (.inl (.inr ⟨{ cls:=.type "list", data:=.seq vs.toArray },if_pos rfl⟩)) (fun b u z=>?_) (fun b z=>?_) fun _=>hk
  ·by_cases hb:b=a
   ·exact .inr ⟨_,_,if_pos hb⟩
   ·exact .inl (if_neg hb)
  ·by_cases hb:b=a
   ·have z':=(if_pos hb).symm.trans z
    cases z'
    subst hb
    exact⟨ha,by rw[zCI];exact hl,vs,_,rv,ha⟩
   ·have z':=(if_neg hb).symm.trans z
    cases z'
  ·by_cases hb:b=a
   ·exact hb
   ·exact absurd (if_neg hb) z
abbrev KOf {K:Frag}{h:Heap}(_:K.In h):Frag:=K
theorem zpN {l:PySem.W.OpenLaw}{n k:Nat}{q:Program}{loose:List Str}{XP:(Str->Option Value)->Heap->Prop}{YP:World->Heap->Prop}{d:DefRec}{K:Params->Frag}{CX:World->CXT}{sp:World->Sp}{x:Str}
  (hn:l.most=some n)(hn2:n<=sizeLine)(hdf:d.params.defaults=[])(hr:Wj k callerA)
  (hY:∀(w:World) (h:Heap),YP w h->(K w.params).In h)
  (F:∀(w:World) (mg:Str->Option Value) (fa:Addr) (h:Heap),(K w.params).In h->h.Ns mainGlobals mg->mg d.name=some (.ref fa) ->
   ∃fd:FuncData,(∀(s:Shared) (u:Value),BindsTo s fd ⟨[u],[]⟩ [(x,u)]) /\
    ∀base:Heap,(K w.params).In base->base.Ns mainGlobals mg->zA l.prog w (K w.params) mg base (CX w) k fa fd [x] (sp w))
  (hsp:∀(w:World) (H:Hp) (a:Addr) (ns:List Int),ns.length<=n->Only H->zM (K w.params) H a (ns.map V.int)->sp w [.ref a] H (fun v _=>v=.bl true) fun _ _ _=>False)
  (hCX:∀(w:World) (H:Hp) (s:Shared) (e:Value) (s':Shared),CX w [] H s (fun _ _ _=>False) e s'->False) :
  PySem.W.WalkO q loose XP YP l.row.toRowW d [] (fun f vs=>PySem.call f vs):=by
 refine Att.zig hn hdf fun w s₀ s₁ mg mb fa o pm cd doc a vs ns G Y ho hd hcd hmg hobj hints hlen hg=>?_
 have KX:=hY w _ Y
 obtain⟨fd,hb,hF⟩:=F w mg fa _ KX G.T.g hmg
 exact znM KX G.T.g G.T.b G.T.builtins G.T.nolimit hg hobj hints (zC4 hlen hn2) hr hF hb (fun H hO hS=>hsp w H a ns hlen hO hS) fun H e s'=>hCX w H s₁ e s'
theorem znN {l:PySem.W.OpenLaw}{n k:Nat}{q:Program}{loose:List Str}{XP:(Str->Option Value)->Heap->Prop}{YP:World->Heap->Prop}{d:DefRec}{K:Params->Frag}{CX:CXT}{sp:Frag->Sp}{x:Str}
  (hn:l.most=some n)(hn2:n<=sizeLine)(hdf:d.params.defaults=[])(hr:Wj k callerA)
  (hY:∀(w:World) (h:Heap),YP w h->(K w.params).In h)
  (F:∀(w:World) (mg:Str->Option Value) (fa:Addr) (h:Heap),(K w.params).In h->h.Ns mainGlobals mg->mg d.name=some (.ref fa) ->
   ∃fd:FuncData,(∀(s:Shared) (u:Value),BindsTo s fd ⟨[u],[]⟩ [(x,u)]) /\
    ∀base:Heap,(K w.params).In base->base.Ns mainGlobals mg->zA l.prog w (K w.params) mg base CX k fa fd [x] (sp (K w.params)))
  (hsp:∀(K:Frag) (H:Hp) (a:Addr) (ns:List Int),ns.length<=n->Only H->zM K H a (ns.map V.int)->sp K [.ref a] H (fun v _=>v=.bl true) fun _ _ _=>False)
  (hCX:∀(H:Hp) (s:Shared) (e:Value) (s':Shared),CX [] H s (fun _ _ _=>False) e s'->False) :
  PySem.W.WalkO q loose XP YP l.row.toRowW d [] (fun f vs=>PySem.call f vs) :=
 zpN (K:=K) (CX:=fun _=>CX) (sp:=fun w=>sp (K w.params)) hn hn2 hdf hr hY F (fun w H a ns h1 h2 h3=>hsp (K w.params) H a ns h1 h2 h3) fun _ H s e s'=>hCX H s e s'
def inClass (s:Stmt)(j:Nat):Stmt:=match s with
 | .ClassDef _ _ _ body _ _ _ _ _ _ _=>body.getD j (.Pass ⟨0,0,0,0⟩)
 | _=>.Pass ⟨0,0,0,0⟩
def zds (s:Stmt):Arguments:=match s with
 | .FunctionDef _ a _ _ _ _ _ _ _ _=>a
 | _=>{ posonlyargs:=[],args:=[],vararg:=none,kwonlyargs:=[],kw_defaults:=[],kwarg:=none,defaults:=[] }
def Ss (s:Stmt):List Stmt:=match s with
 | .FunctionDef _ _ b _ _ _ _ _ _ _=>b
 | _=>[]
def zq (s:Stmt):Scope:=match s with
 | .FunctionDef _ _ _ _ _ _ sc _ _ _=>sc
 | _=>{ kind:=.function,names:=[],isGenerator:=false,isCoroutine:=false }
abbrev zW:CXT:=fun _ _ _ _ _ _=>False
abbrev E0:XK:=fun _ _ _=>False
theorem zB {X:Cx}:Passes zW X E0:=fun _ _ _ _ _ _ _ h=>h.elim
structure yQ (K:Frag)(x qual:Str)(st:Stmt)(f:Addr)(fd:FuncData):Prop where
 ex:∃(oc:Value) (od:Option Addr) (kV doc pm:Value) (an:Option Addr) (cdv ct:Value) (osl:Array (Option Value)),
  fd=PySem.W.fnOf x qual (zds st) (Ss st) (zq st) .none kV doc pm an cdv ct/\K.lookup f=some ⟨oc,od,.func fd,osl⟩/\PySem.W.codeIn K cdv qual=true
 kp:PySem.W.keepIn K (.ref f)=true
section
variable {P:Program}{w:World}{K:Frag}{mg:Str->Option Value}{base:Heap}
theorem yQ.ok {x qual:Str}{st:Stmt}{f:Addr}{fd:FuncData}{N ps:List Str}{k:Nat}{sp:Sp}(F:yQ K x qual st f fd)(S:zL N ps (zq st))(len:∀vs H Q E,sp vs H Q E->vs.length=ps.length)
  (hbody:∀(cdv:Value) (A:Around) (outer:List Env) (s:Shared) (H:Hp) (vs:List V) (Q:VK) (E:XK),Wj k (A.deeper (envOfC qual (zq st) s.heap.objs.size f cdv))->sp vs H Q E ->
   ∃t,PSs (zmt zW P w K mg base N qual (zq st) f cdv A outer s H E).nox (Ss st) t/\t { nx:=fun _ H'=>Q .non H',rt:=Q } (start N vs) H):zA P w K mg base zW (k+1) f fd ps sp:=by
 obtain⟨oc,od,kV,doc,pm,an,cdv,ct,osl,rfl,lk,hcd⟩:=F.ex
 refine zs3 lk hcd S len fun A outer s H vs Q E hr hsp=>?_
 obtain⟨t,h,q⟩:=hbody cdv A outer s H vs Q E hr hsp
 exact⟨t,h.nox,q⟩
theorem yQ.binds {x qual:Str}{st:Stmt}{f:Addr}{fd:FuncData}{ps:List Str}(F:yQ K x qual st f fd)
  (h:∀(kV doc pm:Value) (an:Option Addr) (cdv ct:Value) (us:List Value),us.length=ps.length->bindArgs (PySem.W.fnOf x qual (zds st) (Ss st) (zq st) .none kV doc pm an cdv ct) ⟨us,[]⟩=pure (ps.zip us)):Binds K fd ps []:=by
 obtain⟨oc,od,kV,doc,pm,an,cdv,ct,osl,rfl,lk,hcd⟩:=F.ex
 exact .all (h kV doc pm an cdv ct)
theorem zT {x qual:Str}{st:Stmt}{f:Addr}{oc:Value}{od an:Option Addr}{osl:Array (Option Value)}{kV doc pm cdv ct:Value}(l:K.lookup f=some ⟨oc,od,.func (PySem.W.fnOf x qual (zds st) (Ss st) (zq st) .none kV doc pm an cdv ct),osl⟩)
  (c:PySem.W.codeIn K cdv qual=true)(k:PySem.W.keepIn K (.ref f)=true):yQ K x qual st f (PySem.W.fnOf x qual (zds st) (Ss st) (zq st) .none kV doc pm an cdv ct):=⟨⟨oc,od,kV,doc,pm,an,cdv,ct,osl,rfl,l,c⟩,k⟩
end
theorem zgc {A:Around}{k:Nat}(hr:Wj k A):A.units+1<cLine:=Nat.lt_of_le_of_lt (Nat.add_le_add_left (by decide:1<=64) _) hr.units
theorem zN {n:Nat}(h:n<=1000):n<sizeLine:=Nat.lt_of_le_of_lt h (by decide)
section
variable {X:Cx}
theorem pv (i:Nat){x:Str}{pos:Pos}(hN:X.N[i]?=some x:=by rfl)(hv:Vis X.env.scope x:=by first | exact Or.inl rfl | exact Or.inr (Or.inl rfl) | exact Or.inr (Or.inr rfl))(hd:(x==("__debug__" : Str))=false:=by decide)
  (hcd:(x==("__classdict__" : Str))=false:=by decide):PE X (.Name x pos) (zc8 i):=zrt hN hv hd hcd
end
theorem YX {A B:Prop}(h:B):if false=true then A else B:=by
 rw[if_neg zCM]
 exact h
theorem zbs {A B:Prop}(h:A):if true=true then A else B:=by
 rw[if_pos rfl]
 exact h
theorem yw {c A B:Prop}[Decidable c](h1:c->A)(h2:¬c->B):if c then A else B:=by
 by_cases h:c
 ·rw[if_pos h]
  exact h1 h
 ·rw[if_neg h]
  exact h2 h
theorem zs6 {c A B:Prop}[Decidable c](hc:c)(h:B):if (!decide c)=true then A else B:=by
 rw[decide_eq_true hc]
 exact YX h
def Same (H H':Hp):Prop:=∀b o,H b=some o->H' b=some o
theorem Same.refl (H:Hp):Same H H:=fun _ _ h=>h
theorem Same.trans {H H1 H2:Hp}(a:Same H H1)(b:Same H1 H2):Same H H2:=fun c o h=>b c o (a c o h)
theorem Same.free {H H':Hp}(e:Same H H'){l:Addr}(h:H' l=Option.none):H l=Option.none:=by
 cases q:H l with
 | none=>rfl
 | some o =>
  rw[e l o q] at h
  cases h
theorem Same.seq {K:Frag}{H H':Hp}{a:Addr}{xs:List V}(e:Same H H')(h:zM K H a xs):zM K H' a xs:=by
 rcases h with (h | ⟨o,h⟩) | h
 ·exact .inl (.inl (e _ _ h))
 ·exact .inl (.inr ⟨o,e _ _ h⟩)
 ·exact .inr h
end L2
set_option maxHeartbeats 8000000
namespace L2
open PySem PySem.Spec PyProof.Rows
section
variable {X:Cx}{pins:List (Addr×Obj)}{σ:St}{H:Hp}{s:Shared}
theorem K1.track {P:Program}{w:World}{H:Hp}{h:Heap}{a:Addr}{o:HO}(x:K1 P w H h)(hn:H a=none)(new:vV P w (upd H a o) h a o):K1 P w (upd H a o) h:=fun b u e=>by
 by_cases hb:b=a
 ·subst hb
  rw[zj] at e
  cases e
  exact new
 ·rw[zJ hb] at e
  refine(x b u e).stay (fun _ _ _ q=>q) (fun c q=>?_) fun c xs q=>?_
  ·rw[zJ (zE q hn)];exact q
  ·rw[zJ (zE q hn)];exact q
theorem Inv.track {a:Addr}{o:HO}(I:Inv X pins σ H s)(hn:H a=none)(hL:a≠X.env.locals)(h0:X.s₀.heap.objs.size<=a)(hc:∀x c,X.env.cells.lookup x=some c->c≠a)(hp:∀p∈X.pn++pins,p.1≠a)
  (new:vV X.prog X.w (upd H a o) s.heap a o):Inv X pins σ (upd H a o) s:=by
 have old:∀b ob,X.s₀.heap.get? b=some ob->b≠a:=fun b ob e=>zCX (zCR (zCP e) h0)
 refine⟨I.ok,I.os,I.bare,⟨fun b ob e n=>I.base.keep b ob e n,fun b ob e n=>I.base.slot b ob e n,fun b ob e n hx=>?_,fun b ob e hx=>I.base.there b ob e hx,fun b xs e=>?_,fun b ob u e=>?_,fun b ps e=>?_⟩,I.loc,I.cell,?_,fun x c e=>?_,fun p hm=>?_,I.hok.track hn new,I.len⟩
 ·rw[zJ (old b ob e)];exact I.base.free b ob e n hx
 ·have q:=I.base.tups b xs e
  rw[zJ (zE q hn)];exact q
 ·have q:=I.base.zfm b ob u e
  rw[zJ (zE q hn)];exact q
 ·obtain⟨mo,q⟩:=I.base.zgL b ps e
  exact⟨mo,by rw[zJ (zE q hn)];exact q⟩
 ·rw[zJ (Ne.symm hL)];exact I.free
 ·rw[zJ (hc x c e)];exact I.P0 x c e
 ·obtain⟨z1,z2,z3⟩:=I.pin p hm
  exact⟨z1,by rw[zJ (hp p hm)];exact z2,z3⟩
end
def clo:List (Str×NameKind)->List (Str×Addr)->List (Str×Addr)->List (Str×Addr)
 | [],_,acc=>acc
 | (n,k)::r,cells,acc=>clo r cells (if k==.free then (match cells.lookup n with | some c=>(n,c)::acc | none=>acc) else acc)
theorem Zo (cells:List (Str×Addr)):∀(names:List (Str×NameKind)) (acc:List (Str×Addr)),(∀y c,acc.lookup y=some c->cells.lookup y=some c)->∀y c,(clo names cells acc).lookup y=some c->cells.lookup y=some c
 | [],acc,h=>h
 | (n,k)::r,acc,h=>by
  refine Zo cells r _ fun y c e=>?_
  cases hk:k==NameKind.free with
  | false=>rw[hk] at e;exact h y c e
  | true =>
   rw[hk,if_pos rfl] at e
   cases hc:cells.lookup n with
   | none=>rw[hc] at e;exact h y c e
   | some a =>
    rw[hc] at e
    have e':(((n,a)::acc).lookup y)=some c:=e
    rw[zC8] at e'
    cases hy:y==n with
    | true =>
     rw[hy] at e'
     have z:y=n:=by simpa using hy
     subst z
     rw[hc];exact e'
    | false=>rw[hy] at e';exact h y c e'
theorem zgd (cells:List (Str×Addr)):∀(names:List (Str×NameKind)) (acc:List (Str×Addr)) (y:Str),(acc.lookup y).isSome=true->((clo names cells acc).lookup y).isSome=true
 | [],_,_,h=>h
 | (n,k)::r,acc,y,h=>by
  refine zgd cells r _ y ?_
  cases hk:k==NameKind.free with
  | false=>exact h
  | true =>
   rw[if_pos rfl]
   cases hc:cells.lookup n with
   | none=>exact h
   | some a =>
    show(((n,a)::acc).lookup y).isSome=true
    rw[zC8]
    cases hy:y==n with
    | true=>rfl
    | false=>exact h
theorem zau (cells:List (Str×Addr)):∀(names:List (Str×NameKind)) (acc:List (Str×Addr)) (y:Str),(y,NameKind.free)∈names->(cells.lookup y).isSome=true->((clo names cells acc).lookup y).isSome=true
 | [],_,_,h,_=>by cases h
 | (n,k)::r,acc,y,h,hs=>by
  rcases List.mem_cons.mp h with e | h
  ·cases e
   refine zgd cells r _ n ?_
   show(((match cells.lookup n with | some c=>(n,c)::acc | none=>acc)).lookup n).isSome=true
   cases hc:cells.lookup n with
   | none=>rw[hc] at hs;cases hs
   | some a =>
    show(((n,a)::acc).lookup n).isSome=true
    rw[zC8]
    simp
  ·exact zau cells r _ y h hs
theorem zlu {env:Env}:∀(names:List (Str×NameKind)) (acc:List (Str×Addr)),(∀y,(y,NameKind.free)∈names->(env.cells.lookup y).isSome=true) ->
  (forIn names acc fun(x:Str×NameKind) (cs:List (Str×Addr))=>if (x.2==NameKind.free)=true then do let c <-cellOf env x.1;pure (ForInStep.yield ((x.1,c)::cs)) else pure (ForInStep.yield cs):Sem (List (Str×Addr)))=pure (clo names env.cells acc)
 | [],acc,_=>rfl
 | (n,k)::r,acc,h=>by
  have ih:=fun acc'=>zlu (env:=env) r acc' fun y hy=>h y (zCT _ hy)
  rw[List.forIn_cons]
  cases hk:k==NameKind.free with
  | false =>
   show((pure (ForInStep.yield acc):Sem _)>>=_)=_
   rw[pure_bind]
   show(forIn r acc _:Sem _)=_
   rw[ih acc]
   show pure (clo r env.cells acc)=pure (clo r env.cells (if (k==NameKind.free)=true then (match env.cells.lookup n with | some c=>(n,c)::acc | none=>acc) else acc))
   rw[hk];rfl
  | true =>
   have hkf:k=NameKind.free:=by simpa using hk
   subst hkf
   have hs:=h n zC2
   cases hc:env.cells.lookup n with
   | none=>rw[hc] at hs;cases hs
   | some a =>
    have hcell:cellOf env n=pure a:=by unfold cellOf;rw[hc]
    show((cellOf env n>>=fun c=>(pure (ForInStep.yield ((n,c)::acc)):Sem _))>>=_)=_
    rw[hcell,pure_bind,pure_bind]
    show(forIn r ((n,a)::acc) _:Sem _)=_
    rw[ih]
    show pure (clo r env.cells ((n,a)::acc))=pure (clo r env.cells (match env.cells.lookup n with | some c=>(n,c)::acc | none=>acc))
    rw[hc]
theorem zdV {sc:Scope}{env:Env}(h:∀y,(y,NameKind.free)∈sc.names->(env.cells.lookup y).isSome=true):closureFor sc env=pure (clo sc.names env.cells []):=by
 unfold closureFor
 have:=zlu (env:=env) sc.names [] h
 simpa using this
structure ZG (Zj sc:Scope)(x:Str)(fv:List Str):Prop where
 kind:sc.kind=.function
 Qy:∀y∈sc.names,y.2≠.cell
 names:∀y∈sc.names,y.2=.local->sc.names.lookup y.1=some .local
 hx:sc.names.lookup x=some .local
 fr:∀y∈sc.names,y.2=.free->Zj.names.lookup y.1=some .cell\/Zj.names.lookup y.1=some .free
 fvs:∀y∈fv,sc.names.lookup y=some .free/\(Zj.names.lookup y=some .cell\/Zj.names.lookup y=some .free)
 nd:(x::fv).Nodup
abbrev Cx.blk (X:Cx)(sc:Scope)(cl:List (Str×Addr))(C:Addr)(N:List Str)(s:Shared)(H:Hp)(fp:List Addr):Cx :=
 {X with N:=N,s₀:=s,H₀:=H,env:=compEnvC sc cl C X.env,outer:=X.stack,ex:=fp,fn:=fun _=>false,pn:=[],xe:=fun _ _=>False }
abbrev Nz (X:Cx)(x:Str)(js:List Nat):List Str:=x::js.map fun j=>X.N.getD j ""
abbrev Z1 (σ:St)(js:List Nat)(x:Option V):St:=x::js.map fun j=>σ.getD j none
theorem Ua {env:Env}:∀{names:List (Str×NameKind)} {y:Str} {k:NameKind},(names.map fun(n,k)=>if (k==NameKind.free&&env.scope.kind==.function&&env.kindOf n==some .cell) then (n,NameKind.cell) else (n,k)).lookup y=some k->(k=.cell\/k=.free)->(∀z∈names,z.2≠.cell)->(y,NameKind.free)∈names
 | [],_,_,h,_,_=>by simp at h
 | (n,k')::r,y,k,h,hk,hn=>by
  by_cases hc:(k'==NameKind.free&&env.scope.kind==.function&&env.kindOf n==some .cell)=true
  ·have hk':k'=NameKind.free:=by
    rw[zDa,zDa] at hc
    simpa using hc.1.1
   subst hk'
   rw[zC7] at h
   cases hy:y==n with
   | true =>
    have z:y=n:=by simpa using hy
    subst z
    exact zC2
   | false =>
    have h':List.lookup y ((if (NameKind.free==NameKind.free&&env.scope.kind==.function&&env.kindOf n==some .cell)=true then (n,NameKind.cell) else (n,NameKind.free))::(r.map fun(n,k)=>if (k==NameKind.free&&env.scope.kind==.function&&env.kindOf n==some .cell) then (n,NameKind.cell) else (n,k)))=some k:=h
    rw[if_pos hc,zC8,hy] at h'
    exact zCT _ (Ua h' hk fun z hz=>hn z (zCT _ hz))
  ·have h':List.lookup y ((if (k'==NameKind.free&&env.scope.kind==.function&&env.kindOf n==some .cell)=true then (n,NameKind.cell) else (n,k'))::(r.map fun(n,k)=>if (k==NameKind.free&&env.scope.kind==.function&&env.kindOf n==some .cell) then (n,NameKind.cell) else (n,k)))=some k:=h
   rw[if_neg hc,zC8] at h'
   cases hy:y==n with
   | true =>
    rw[hy] at h'
    cases h'
    have z:y=n:=by simpa using hy
    subst z
    rcases hk with e | e
    ·exact absurd e (hn _ zC2)
    ·subst e;exact zC2
   | false =>
    rw[hy] at h'
    exact zCT _ (Ua h' hk fun z hz=>hn z (zCT _ hz))
theorem U7 {env:Env}:∀{names:List (Str×NameKind)} {y:Str},names.lookup y=some .free->(names.map fun(n,k)=>if (k==NameKind.free&&env.scope.kind==.function&&env.kindOf n==some .cell) then (n,NameKind.cell) else (n,k)).lookup y=some .cell\/(names.map fun(n,k)=>if (k==NameKind.free&&env.scope.kind==.function&&env.kindOf n==some .cell) then (n,NameKind.cell) else (n,k)).lookup y=some .free
 | [],_,h=>by simp at h
 | (n,k')::r,y,h=>by
  rw[zC8] at h
  rw[zC7]
  cases hy:y==n with
  | true =>
   rw[hy] at h
   cases h
   by_cases hc:(NameKind.free==NameKind.free&&env.scope.kind==.function&&env.kindOf n==some .cell)=true
   ·refine .inl ?_
    show List.lookup y ((if (NameKind.free==NameKind.free&&env.scope.kind==.function&&env.kindOf n==some .cell)=true then (n,NameKind.cell) else (n,NameKind.free))::_)=_
    rw[if_pos hc,zC8,hy]
   ·refine .inr ?_
    show List.lookup y ((if (NameKind.free==NameKind.free&&env.scope.kind==.function&&env.kindOf n==some .cell)=true then (n,NameKind.cell) else (n,NameKind.free))::_)=_
    rw[if_neg hc,zC8,hy]
  | false =>
   rw[hy] at h
   have ih:=U7 (env:=env) h
   by_cases hc:(k'==NameKind.free&&env.scope.kind==.function&&env.kindOf n==some .cell)=true
   ·show List.lookup y ((if (k'==NameKind.free&&env.scope.kind==.function&&env.kindOf n==some .cell)=true then (n,NameKind.cell) else (n,k'))::_)=_\/List.lookup y ((if (k'==NameKind.free&&env.scope.kind==.function&&env.kindOf n==some .cell)=true then (n,NameKind.cell) else (n,k'))::_)=_
    rw[if_pos hc,zC8,hy]
    exact ih
   ·show List.lookup y ((if (k'==NameKind.free&&env.scope.kind==.function&&env.kindOf n==some .cell)=true then (n,NameKind.cell) else (n,k'))::_)=_\/List.lookup y ((if (k'==NameKind.free&&env.scope.kind==.function&&env.kindOf n==some .cell)=true then (n,NameKind.cell) else (n,k'))::_)=_
    rw[if_neg hc,zC8,hy]
    exact ih
abbrev xK (its:List Value)(n:Nat):Obj:={ cls:=.type "list", data:=.seq its.toArray n }
abbrev Z4 (ifs:List Expr)(env:Env):Sem Bool :=
 forIn ifs true fun c r=>if r=true then do let ok <-isTrue c env (eval c env);pure (ForInStep.yield ok) else pure (ForInStep.yield r)
def tLC (wi:TI)(js:List Nat)(tt:TT)(te:TE):TE:=fun σ H Q=>wi σ H fun J H1=>∃W:Nat->Nat->List V->Hp->Prop,(∃m,W 0 m [] H1)/\∀i m ys H,W i m ys H ->
 (J.stop i H/\∀p,H p=none->Q (.ref p) (upd H p (.lst ys))) \/
 (J.go i H/\ys.length<sizeLine/\∀x H',J.JG i H x H'->tt (Z1 σ js (some x)) H' fun b H2 =>
  if b=true then te (Z1 σ js (some x)) H2 fun v H3=>∃m',m'<m/\W (i+1) m' (ys++[v]) H3 else ∃m',m'<m/\W (i+1) m' ys H2)
section
variable {X:Cx}{sc Zj:Scope}{x:Str}{js:List Nat}{elt iter:Expr}{px pos:Pos}{ifs:List Expr}{wi:TI}{tt:TT}{te:TE}
theorem zlv {P:Program}{w:World}{A:Around}{R:Result->Shared->Prop}{st:Shared}{tg it acc}{cenv:Env}(Iv:Nat->Shared->Prop)
  (step:∀k st,Iv k st->wpAny (model P w) A (pyNext it) (fun got s1=>match got with
   | none=>R (.ok .next) s1
   | some v=>wpAny (model P w) A (letOwnedTupleGo tg it v) (fun _ s2=>wpAny (model P w) A (assign tg cenv v) (fun _ s3 =>
     wpAny (model P w) A (Z4 ifs cenv) (fun ok s4=>if ok=true then wpAny (model P w) A (eval elt cenv) (fun y s5 =>
       wpAny (model P w) A (call (.builtin "list.append") [acc,y]) (fun _ s6=>∃k',k'<k/\Iv k' s6) (notedBy (model P w) A cenv fun e z=>R (.error e) z) s5) (notedBy (model P w) A cenv fun e z=>R (.error e) z) s4
      else ∃k',k'<k/\Iv k' s4) (notedBy (model P w) A cenv fun e z=>R (.error e) z) s3) (notedBy (model P w) A cenv fun e z=>R (.error e) z) s2) (notedBy (model P w) A cenv fun e z=>R (.error e) z) s1)
   (notedBy (model P w) A cenv fun e z=>R (.error e) z) st)(k0:Nat)(h0:Iv k0 st) :
  codeAny (model P w) A (.compLoop (.ListComp elt [⟨tg,iter,ifs,0⟩] sc pos) 0 it acc cenv) R st:=by
 refine codeAny_loop rfl Iv (fun k st hk=>?_) k0 h0
 show wpAny _ A ((compTurn (.ListComp elt [⟨tg,iter,ifs,0⟩] sc pos) 0 it acc cenv).onRaise (fun e=>do noteFrame e cenv;theTreesLotGoes e)) _ _ st
 refine wpAny_noted ?_
 rw[compTurn_list]
 refine wpAny_bind (wpAny_standAt (wpAny_bind (wpAny_mono (step k st hk) (fun got s1 h1=>?_) fun _ _ z=>z)))
 cases got with
 | none=>exact wpAny_pure h1
 | some v =>
  refine wpAny_bind (wpAny_mono h1 (fun _ s2 h2=>?_) fun _ _ z=>z)
  refine wpAny_bind (wpAny_mono h2 (fun _ s3 h3=>wpAny_bind (wpAny_mono h3 (fun ok s4 h4=>?_) fun _ _ z=>z)) fun _ _ z=>z)
  cases ok with
  | false=>exact wpAny_pure ⟨rfl,h4⟩
  | true=>exact wpAny_bind (wpAny_bind (wpAny_mono h4 (fun y s5 h5=>wpAny_bind (wpAny_mono h5 (fun _ s6 h6=>wpAny_pure (wpAny_pure ⟨rfl,h6⟩)) fun _ _ z=>z)) fun _ _ z=>z))
structure Own (X:Cx)(pins:List (Addr×Obj))(H:Hp)(a:Addr):Prop where
 free:H a=none
 loc:a≠X.env.locals
 new:X.s₀.heap.objs.size<=a
 cel:∀x c,X.env.cells.lookup x=some c->c≠a
 pin:∀p∈X.pn++pins,p.1≠a
 fs:a∉X.fs
end
structure zlw (Zj sc:Scope)(xs:List Str)(fv:List Str):Prop where
 kind:sc.kind=.function
 Qy:∀y∈sc.names,y.2≠.cell
 names:∀y∈sc.names,y.2=.local->sc.names.lookup y.1=some .local
 fr:∀y∈sc.names,y.2=.free->Zj.names.lookup y.1=some .cell\/Zj.names.lookup y.1=some .free
 fvs:∀y∈fv,sc.names.lookup y=some .free/\(Zj.names.lookup y=some .cell\/Zj.names.lookup y=some .free)
abbrev lcG (X:Cx)(xs:List Str)(js:List Nat):List Str:=xs++js.map fun j=>X.N.getD j ""
abbrev lcT (σ:St)(js:List Nat)(os:List (Option V)):St:=os++js.map fun j=>σ.getD j none
def zs8 (wi:TI)(xs:List Str)(js:List Nat)(g:TG)(tt:TT)(te:TE):TE:=fun σ H Q=>wi σ H fun J H1=>∃W:Nat->Nat->List V->Hp->Prop,(∃m,W 0 m [] H1)/\∀i m ys H,W i m ys H ->
 (J.stop i H/\∀p,H p=none->Q (.ref p) (upd H p (.lst ys))) \/
 (J.go i H/\ys.length<sizeLine/\∀x H',J.JG i H x H'->∀o0:List (Option V),o0.length=xs.length->g x (lcT σ js o0) H' fun σ2 H1=>∃o1,σ2=lcT σ js o1/\o1.length=xs.length/\tt σ2 H1 fun b H2 =>
  if b=true then te σ2 H2 fun v H3=>∃m',m'<m/\W (i+1) m' (ys++[v]) H3 else ∃m',m'<m/\W (i+1) m' ys H2)
section
variable {X:Cx}{sc Zj:Scope}{xs:List Str}{js:List Nat}
theorem zpO {pins:List (Addr×Obj)}{σ:St}{H:Hp}{s:Shared}{fp:List Addr}{C:Addr}(I:Inv X pins σ H s)(Ws:X.env.scope=Zj)(L:zlw Zj sc xs (js.map fun j=>X.N.getD j ""))
  (f2:∀b∈fp,zc9 X pins H b)(lt:∀b∈fp,b<s.heap.objs.size)(hC:s.heap.objs.size<=C):(X.blk sc (clo sc.names X.env.cells []) C (lcG X xs js) s H fp).Ok where
 mod:=I.ok.mod
 kind:=L.kind
 glob:=I.ok.glob
 blt:=I.ok.blt
 above:=hC
 inj:=fun y z c h1 h2=>I.ok.inj y z c (Zo _ _ [] (fun _ _ e=>by simp at e) y c h1) (Zo _ _ [] (fun _ _ e=>by simp at e) z c h2)
 has:=fun y hy=>by
  have hy':(relabel sc X.env).names.lookup y=some .cell\/(relabel sc X.env).names.lookup y=some .free:=hy
  have hm:(y,NameKind.free)∈sc.names:=by
   rcases hy' with e | e
   ·exact Ua e (.inl rfl) L.Qy
   ·exact Ua e (.inr rfl) L.Qy
  have ho:X.env.kindOf y=some .cell\/X.env.kindOf y=some .free:=by
   show X.env.scope.names.lookup y=_\/X.env.scope.names.lookup y=_
   rw[Ws]
   exact L.fr _ hm rfl
  obtain⟨c,e⟩:=I.ok.has y ho
  exact Option.isSome_iff_exists.mp (zau _ _ [] y hm (by rw[e];rfl))
 cab:=fun y c h=>by cases h
 hd:=I.ok.hd
 frames:=I.ok.frames
 stk:=.inl rfl
 exf:=fun b hb=>⟨zCX (zCR (lt b hb) hC),fun y c e=>(f2 b hb).2.2.2.2.1 y c (Zo _ _ [] (fun _ _ e=>by simp at e) y c e)⟩
 bs:=I.bs
 bsz:=zC4 I.ok.bsz I.sz
 zh8:=fun b o e hb=>by
  rcases (f2 b hb).2.2.2.1 with z | z
  ·exact I.ok.zh8 b o e z
  ·exact absurd (zCR (zCP (I.ok.bs b o e).1) z) (Nat.lt_irrefl _)
 zh9:=fun b hb hm=>by
  rcases List.mem_cons.mp (I.zbm b hm) with z | z
  ·exact(f2 b hb).2.1 z
  ·exact(f2 b hb).2.2.1 z
 zan:=I.stack
 frf:=I.zgN
end
section
variable {X:Cx}{sc Zj:Scope}{xs:List Str}{js:List Nat}{tg:Expr}{g:TG}{elt iter:Expr}{px pos:Pos}{ifs:List Expr}{wi:TI}{tt:TT}{te:TE}
theorem znO {cl:List (Str×Addr)}{C D:Addr}{s₂:Shared}{H₂:Hp}{fp:List Addr}{pl:List (Addr×Obj)}{σ0:St}{H:Hp}{s:Shared}{u:Value}{v:V}{its:List Value}{n:Nat}{o0:List (Option V)}{E:Value->Shared->Prop}
  {Ny:V->Hp->Prop}{Nn:Hp->Prop}
  (hg:PG (X.blk sc cl C (lcG X xs js) s₂ H₂ fp) tg g)
  (I:Inv (X.blk sc cl C (lcG X xs js) s₂ H₂ fp) ((D,xK its n)::pl) (lcT σ0 js o0) H s)(ru:RelV v u)
  (ht:∀(pins:List (Addr×Obj)) (s':Shared) (σ':St) (H':Hp) (Q:Bool->Hp->Prop),Inv (X.blk sc cl C (lcG X xs js) s₂ H₂ fp) pins σ' H' s'->tt σ' H' Q ->
   wpAny (model X.prog X.w) X.A (Z4 ifs (compEnvC sc cl C X.env)) (TP (X.blk sc cl C (lcG X xs js) s₂ H₂ fp) pins σ' Q) (fun _ _=>False) s')
  (he:PE (X.blk sc cl C (lcG X xs js) s₂ H₂ fp) elt te)
  (hlen:its.length<sizeLine)(hD0:s₂.heap.objs.size<=D)(hDC:D≠C)(hDc:∀y c,cl.lookup y=some c->c≠D)(hDp:∀p∈pl,p.1≠D)
  (h:g v (lcT σ0 js o0) H fun σ2 H1=>∃o1,σ2=lcT σ0 js o1/\o1.length=xs.length/\tt σ2 H1 fun b H2=>if b=true then te σ2 H2 Ny else Nn H2) :
  wpAny (model X.prog X.w) X.A (assign tg (compEnvC sc cl C X.env) u) (fun _ s2 =>
   wpAny (model X.prog X.w) X.A (Z4 ifs (compEnvC sc cl C X.env)) (fun ok s3 =>
    if ok=true then wpAny (model X.prog X.w) X.A (eval elt (compEnvC sc cl C X.env)) (fun y s4 =>
     wpAny (model X.prog X.w) X.A (call (.builtin "list.append") [.ref D,y]) (fun _ s5=>∃z y' H5 o1,o1.length=xs.length/\Ny z H5/\RelV z y'/\Inv (X.blk sc cl C (lcG X xs js) s₂ H₂ fp) ((D,xK (its++[y']) (n+1))::pl) (lcT σ0 js o1) H5 s5) E s4) E s3
    else ∃H5 o1,o1.length=xs.length/\Nn H5/\Inv (X.blk sc cl C (lcG X xs js) s₂ H₂ fp) ((D,xK its n)::pl) (lcT σ0 js o1) H5 s3) E s2) E s:=by
 refine wpAny_mono (hg _ s _ H v u _ I ru h) (fun _ s2 ⟨σ6,H6,I6,o1,e1,l1,h6⟩=>?_) fun _ _ z=>False.elim z
 subst e1
 refine wpAny_mono (ht _ s2 _ _ _ I6 h6) (fun ok s3 ⟨H7,I7,q7⟩=>?_) fun _ _ z=>False.elim z
 cases ok with
 | false =>
  rw[if_neg zCM] at q7 ⊢
  exact⟨H7,o1,l1,q7,I7⟩
 | true =>
  rw[if_pos rfl] at q7 ⊢
  refine wpAny_mono (he _ s3 _ H7 _ I7 q7) (fun y s4 ⟨z,H8,I8,r8,q8⟩=>?_) fun _ _ z=>False.elim z
  obtain⟨p1,p2,p3,p4,p5⟩:=I8.pin (D,xK its n) (zCZ _ zC2)
  have p1':s4.heap.get? D=some { cls:=.type "list", data:=.seq its.toArray n }:=p1
  refine call_meets F.slot_list_append ⟨_,p1',rfl⟩ F.entry_list_append (F.args_list_append_2 _ _) (PySem.list_append D its.toArray n y (by rw[zCS];omega)) ⟨p1',?_⟩
  have q:=PySem.IsL.update p1' (fun a=>a.push y)
  have sz:((its.toArray.push y).size==its.toArray.size)=false:=by simp
  have e3:(s4.heap.update D (Obj.mapSeq fun a=>a.push y)).get? D=some (xK (its++[y]) (n+1)):=by
   have q':(s4.heap.update D (Obj.mapSeq fun a=>a.push y)).get? D=some { cls:=.type "list", data:=.seq (its.toArray.push y) (if ((its.toArray.push y).size==its.toArray.size)=true then n else n+1) }:=q
   rw[q',sz,if_neg zCM]
   simp
  have I9:Inv (X.blk sc cl C (lcG X xs js) s₂ H₂ fp) pl (lcT σ0 js o1) H8 s4:=I8.W6 fun p hp=>I8.pin p (zCZ _ (zCT _ hp))
  have oth:∀b o,b≠D->s4.heap.get? b=some o->(s4.heap.update D (Obj.mapSeq fun a=>a.push y)).get? b=some o:=fun b o hb e=>(Heap.get?_update_other _ _ (Ne.symm hb)).trans e
  have I10:=I9.turned (t':=s4.toks) (h':=s4.heap.update D (Obj.mapSeq fun a=>a.push y)) (it:=D) oth p2 hDC (.inr hD0) hDc (fun p hp=>hDp p hp)
  refine⟨z,y,H8,o1,l1,q8,r8,I10.W6 fun p hp=>?_⟩
  rcases List.mem_cons.mp hp with e | e
  ·subst e
   exact⟨e3,p2,p3,p4,fun w hw=>by cases hw⟩
  ·exact I10.pin p (zCZ _ e)
theorem zih {use:Option (Value->Sem Unit)}{QQ:Value->Shared->Prop}{Fin:List V->Hp->Prop}{pins:List (Addr×Obj)}{s:Shared}{σ:St}{H:Hp}(Ws:X.env.scope=Zj)(L:zlw Zj sc xs (js.map fun j=>X.N.getD j ""))(hc:X.calm=true)(hi:PI X tg iter wi)(hg:∀(cl:List (Str×Addr)) (C:Addr) (s₂:Shared) (H₂:Hp) (fp:List Addr),PG (X.blk sc cl C (lcG X xs js) s₂ H₂ fp) tg g)(hjs:∀j∈js,j<X.N.length)
  (ht:∀(cl:List (Str×Addr)) (C:Addr) (s₂:Shared) (H₂:Hp) (fp:List Addr) (pins:List (Addr×Obj)) (s':Shared) (σ':St) (H':Hp) (Q:Bool->Hp->Prop),Inv (X.blk sc cl C (lcG X xs js) s₂ H₂ fp) pins σ' H' s'->tt σ' H' Q ->
   wpAny (model X.prog X.w) X.A (Z4 ifs (compEnvC sc cl C X.env)) (TP (X.blk sc cl C (lcG X xs js) s₂ H₂ fp) pins σ' Q) (fun _ _=>False) s')
  (he:∀(cl:List (Str×Addr)) (C:Addr) (s₂:Shared) (H₂:Hp) (fp:List Addr),PE (X.blk sc cl C (lcG X xs js) s₂ H₂ fp) elt te)
  (hs:∀x,foldedSetIterable iter X.env x=pure x)(I:Inv X pins σ H s)
  (h:wi σ H fun J H1=>∃W:Nat->Nat->List V->Hp->Prop,(∃m,W 0 m [] H1)/\∀i m ys H,W i m ys H->(J.stop i H/\Fin ys H) \/
   (J.go i H/\ys.length<sizeLine/\∀x H',J.JG i H x H'->∀o0:List (Option V),o0.length=xs.length->g x (lcT σ js o0) H' fun σ2 H1=>∃o1,σ2=lcT σ js o1/\o1.length=xs.length/\tt σ2 H1 fun b H2 =>
    if b=true then te σ2 H2 fun v H3=>∃m',m'<m/\W (i+1) m' (ys++[v]) H3 else ∃m',m'<m/\W (i+1) m' ys H2))
  (hfin:∀(D C:Addr) (s5:Shared) (H5:Hp) (ys:List V) (its:List Value) (k:Nat) (m5:Str->Option Value),Inv X pins σ H5 s5->Own X pins H5 D->Own X pins H5 C->D≠C->s5.heap.get? D=some (xK its k)->Vals ys its->ys.length<=sizeLine->s5.heap.Ns C m5->Fin ys H5 ->
   compPost (model X.prog X.w) X.A X.xe use QQ (.ref D) C (.ok .next) s5) :
  wpAny (model X.prog X.w) X.A (comprehension (.ListComp elt [⟨tg,iter,ifs,0⟩] sc pos) sc X.env (firstIterPos [⟨tg,iter,ifs,0⟩] pos) (newList []) false (eval iter X.env) use) QQ X.xe s:=by
 have hcl:closureFor sc X.env=pure (clo sc.names X.env.cells []):=zdV fun y hy=>by
  have ho:X.env.kindOf y=some .cell\/X.env.kindOf y=some .free:=by
   show X.env.scope.names.lookup y=_\/X.env.scope.names.lookup y=_
   rw[Ws]
   exact L.fr _ hy rfl
  obtain⟨c,e⟩:=I.ok.has y ho
  rw[e];rfl
 refine wpAny_comprehension_free (use:=use) rfl hs hcl L.kind L.names (ud (hi pins s σ H _ I h) fun v s1 h1=>ud h1 fun itv s2 h2=>?_)
 obtain⟨it,fp,tn,J,H2,e,I2,T,st2,f2,W,⟨m0,w0⟩,turn⟩:=h2
 subst e
 refine wpAny_newObj_type (wpAny_newFunctionEnv L.Qy (by intro y hy;simp at hy) (fun h₁ hns₁ hsb₁=>?_) L.kind)
 dsimp only at hns₁ hsb₁ ⊢
 generalize hG:s2.heap.push { cls:=.type "list", dict:=none,data:=.seq ([]:List Value).toArray }=G at hns₁ hsb₁ ⊢
 have hGs:G.objs.size=s2.heap.objs.size+1:=by rw[<-hG,Heap.size_push]
 have hCle:s2.heap.objs.size<=G.objs.size:=by rw[hGs];exact Nat.le_succ _
 have hDC:s2.heap.objs.size≠G.objs.size:=by rw[hGs];exact zCX (Nat.lt_succ_self _)
 have old:∀b o,s2.heap.get? b=some o->h₁.get? b=some o:=fun b o e=>by
  have lt:=zCP e
  refine hsb₁.extBut b o (zCX (zCR lt hCle)) (zCO _ ?_)
  rw[<-hG]
  exact zCO _ e
 have hacc:h₁.get? s2.heap.objs.size=some (xK [] 0):=by
  refine hsb₁.extBut _ _ hDC (zCO _ ?_)
  rw[<-hG]
  exact zC3 _ rfl
 have lt:∀b∈fp,b<s2.heap.objs.size:=fun b hb=>by
  obtain⟨o,e,_⟩:=T.obj _ _ st2 b hb
  exact zCP e
 have clS:∀y c,(clo sc.names X.env.cells []).lookup y=some c->X.env.cells.lookup y=some c:=Zo _ _ [] (fun _ _ e=>by simp at e)
 have zrO:∀y c,(clo sc.names X.env.cells []).lookup y=some c->c<s2.heap.objs.size:=fun y c e=>by
  obtain⟨v,o,q,_⟩:=I2.cell y c (clS y c e)
  exact zCP q
 have Bok:(X.blk sc (clo sc.names X.env.cells []) G.objs.size (lcG X xs js) s2 H2 fp).Ok:=zpO I2 Ws L f2 lt hCle
 have fresh:∀a,s2.heap.objs.size<=a->H2 a=none:=fun a ha=>I2.hok.fresh ha
 have zjS:∀b∈frs X.stack,b<s2.heap.objs.size:=fun b hb=>by
  rcases List.mem_cons.mp (I2.zbm b hb) with z | z
  ·rw[z];exact I2.lt
  ·refine Nat.lt_of_not_le fun q=>I2.znz q z
 have B0:Inv (X.blk sc (clo sc.names X.env.cells []) G.objs.size (lcG X xs js) s2 H2 fp) [(s2.heap.objs.size,xK [] 0)] (lcT σ js (List.replicate xs.length none)) H2 { s2 with heap:=h₁,toks:=s2.toks+([]:List (Str×Value)).length }:=by
  refine⟨Bok,rfl,I2.bare,Un.kept old,⟨_,hns₁,fun i y v e1 e2 e3=>?_⟩,fun y c e=>?_,fresh _ hCle,fun y c e=>I2.P0 y c (clS y c e),fun p hp=>?_,I2.hok.kept old,?_⟩
  ·by_cases hlt:i<xs.length
   ·exfalso
    have e2'':(List.replicate xs.length (none:Option V)++js.map fun j=>σ.getD j none)[i]?=some (some v):=e2
    rw[zDf (by rw[List.length_replicate];exact hlt),List.getElem?_replicate,if_pos hlt] at e2''
    cases e2''
   ·have e1':(js.map fun j=>X.N.getD j "")[i-xs.length]?=some y:=by
     have z:(xs++js.map fun j=>X.N.getD j "")[i]?=some y:=e1
     rw[List.getElem?_append_right (by omega)] at z
     exact z
    have e2':(js.map fun j=>σ.getD j none)[i-xs.length]?=some (some v):=by
     have z:(List.replicate xs.length (none:Option V)++js.map fun j=>σ.getD j none)[i]?=some (some v):=e2
     rw[List.getElem?_append_right (by rw[List.length_replicate];omega),List.length_replicate] at z
     exact z
    have e1s:=e1'
    rw[zCK] at e1' e2'
    cases hj:js[i-xs.length]? with
    | none=>rw[hj] at e1';cases e1'
    | some j =>
     rw[hj] at e1' e2'
     have e4:X.N.getD j ""=y:=zDd e1'
     have e5:σ.getD j none=some v:=zDd e2'
     have hjl:=hjs j (zCN hj)
     have e6:X.N[j]?=some y:=by
      rw[zCV,zCJ hjl] at e4
      rw[zCJ hjl]
      exact congrArg some e4
     have e7:σ[j]?=some (some v):=by
      rw[zCV] at e5
      cases hq:σ[j]? with
      | none=>rw[hq] at e5;cases e5
      | some w=>rw[hq] at e5;exact congrArg some e5
     obtain⟨hm0,hk⟩:=L.fvs y (zCN e1s)
     have hm:(y,NameKind.free)∈sc.names:=PySem.mem_of_lookup hm0
     have hk':X.env.kindOf y=some .cell\/X.env.kindOf y=some .free:=by
      show X.env.scope.names.lookup y=_\/X.env.scope.names.lookup y=_
      rw[Ws];exact hk
     have hv:Vis X.env.scope y:=by rcases hk' with z | z;exact .inr (.inl z);exact .inr (.inr z)
     obtain⟨m,hn,hl⟩:=I2.loc
     obtain⟨u,r,l⟩:=hl j y v e6 e7 hv
     refine⟨u,r,.inr ?_⟩
     rcases l with ⟨z,_⟩ | ⟨_,c,hc1,hc2⟩
     ·rw[z] at hk';rcases hk' with q | q<;>cases q
     ·have hs2:((clo sc.names X.env.cells []).lookup y).isSome=true:=zau _ _ [] y hm (by rw[hc1];rfl)
      obtain⟨c',hc'⟩:=Option.isSome_iff_exists.mp hs2
      have hcc:c'=c:=by have:=clS y c' hc';rw[hc1] at this;exact(zDd this).symm
      subst hcc
      obtain⟨o,ho,hd⟩:=hc2
      exact⟨U7 hm0,c',hc',o,old _ o ho,hd⟩
  ·obtain⟨v,o,q,d⟩:=I2.cell y c (clS y c e)
   exact⟨v,o,old _ o q,d⟩
  ·have e:p=(s2.heap.objs.size,xK [] 0):=by simpa using hp
   subst e
   exact⟨hacc,fresh _ (zCY _),hDC,fun z=>Nat.lt_irrefl _ (zjS _ z),fun w hw=>by cases hw⟩
  ·show _=(lcG X xs js).length
   simp
 have stat:∀{H':Hp} {pl:List (Addr×Obj)},(∀b∈fp,H' b=none)->(∀p∈pl,p.1=s2.heap.objs.size)->∀b∈fp,zc9 (X.blk sc (clo sc.names X.env.cells []) G.objs.size (lcG X xs js) s2 H2 fp) pl H' b:=fun hn hp b hb =>
  ⟨hn b hb,(Bok.exf b hb).1,Bok.zh9 b hb,.inl hb,(Bok.exf b hb).2,fun p hm=>by
   rw[hp p (by simpa using hm)]
   exact Ne.symm (zCX (lt b hb))⟩
 have loop:∀s3:Shared,s3={ s2 with heap:=h₁,toks:=s2.toks+([]:List (Str×Value)).length } ->
   codeAny (model X.prog X.w) X.A (.compLoop (.ListComp elt [⟨tg,iter,ifs,0⟩] sc pos) 0 (.ref it) (.ref s2.heap.objs.size) (compEnvC sc (clo sc.names X.env.cells []) G.objs.size X.env))
    (compPost (model X.prog X.w) X.A X.xe use QQ (.ref s2.heap.objs.size) G.objs.size) s3:=by
  rintro s3 rfl
  refine zlv (fun n s'=>∃i ys its k o0 H',o0.length=xs.length/\Inv (X.blk sc (clo sc.names X.env.cells []) G.objs.size (lcG X xs js) s2 H2 fp) [(s2.heap.objs.size,xK its k)] (lcT σ js o0) H' s'/\tn i s'.heap/\(∀b∈fp,H' b=none)/\Vals ys its/\ys.length<=sizeLine/\W i n ys H') ?_ m0
   ⟨0,[],[],0,List.replicate xs.length none,H2,List.length_replicate,B0,T.keep _ _ _ st2 fun b _ o e=>old b o e,fun b hb=>(f2 b hb).1,.nil,zC5 _,w0⟩
  rintro n s4 ⟨i,ys,its,k,o0,H4,lo0,I4,st4,fr4,vs4,z4,w4⟩
  have one:∀p∈[(s2.heap.objs.size,xK its k)],p.1=s2.heap.objs.size:=fun p hp=>by
   have e:p=(s2.heap.objs.size,xK its k):=by simpa using hp
   rw[e]
  rcases turn i n ys H4 w4 with ⟨stop,qn⟩ | ⟨go,zl,step⟩
  ·refine ud (T.done (X.blk sc (clo sc.names X.env.cells []) G.objs.size (lcG X xs js) s2 H2 fp) rfl rfl rfl hc i _ s4 _ H4 _ I4 (stat fr4 one) st4 stop) fun r s5 ⟨hr,I5⟩=>?_
   subst hr
   obtain⟨m5,hn5,_⟩:=I5.loc
   obtain⟨p1,p2,p3,p4,p5⟩:=I5.pin (s2.heap.objs.size,xK its k) (by simp)
   have ch:∀b∈fp,(b∈X.ex\/X.s₀.heap.objs.size<=b)/\b≠X.env.locals/\(∀x c,X.env.cells.lookup x=some c->c≠b)/\∀p∈X.pn++pins,p.1≠b:=fun b hb =>
    ⟨(f2 b hb).2.2.2.1,(f2 b hb).2.1,(f2 b hb).2.2.2.2.1,(f2 b hb).2.2.2.2.2⟩
   have J1:Inv X pins σ H4 s5:=I2.call' I5.os I5.base I5.hok I5.bare ch
   have ltp:∀p∈X.pn++pins,p.1<s2.heap.objs.size:=fun p hp=>zCP (I2.pin p hp).1
   have ltc:∀y c,X.env.cells.lookup y=some c->c<s2.heap.objs.size:=fun y c e=>by
    obtain⟨v,o,q,_⟩:=I2.cell y c e
    exact zCP q
   have s0:X.s₀.heap.objs.size<=s2.heap.objs.size:=I2.sz
   have own:∀a,s2.heap.objs.size<=a->H4 a=none->Own X pins H4 a:=fun a ha hn=>⟨hn,Ne.symm (zCX (zCR I2.lt ha)),zC4 s0 ha,fun y c e=>zCX (zCR (ltc y c e) ha),
    fun p hp=>zCX (zCR (ltp p hp) ha),I2.znz ha⟩
   exact hfin _ _ s5 H4 ys its k m5 J1 (own _ (zCY _) p2) (own _ hCle I5.free) hDC p1 vs4 z4 hn5 qn
  ·refine ud (T.item (X.blk sc (clo sc.names X.env.cells []) G.objs.size (lcG X xs js) s2 H2 fp) rfl rfl rfl hc i _ s4 _ H4 _ I4 (stat fr4 one) st4 go) fun r s5 ⟨u,hr,h5⟩=>?_
   subst hr
   refine wpAny_mono h5 (fun _ s5' ⟨v,H6,I6,r6,y6,st6,fr6⟩=>?_) fun _ _ z=>z
   have I7:=I6.pinned (stat fr6 one) (T.obj _ _ st6)
   have zrQ:∀p∈Ri fp s5'.heap,p.1≠s2.heap.objs.size:=fun p hp=>zCX (lt _ (zbo hp).1)
   have zvs:=vs4.length
   have back:∀{its':List Value} {k':Nat} {H7:Hp} {s7:Shared} {ys':List V} {m':Nat} {o1:List (Option V)},o1.length=xs.length->Inv (X.blk sc (clo sc.names X.env.cells []) G.objs.size (lcG X xs js) s2 H2 fp) ((s2.heap.objs.size,xK its' k')::Ri fp s5'.heap) (lcT σ js o1) H7 s7 ->
     Vals ys' its'->ys'.length<=sizeLine->m'<n->W (i+1) m' ys' H7->∃m,m<n/\∃i ys its k o0 H',o0.length=xs.length/\Inv (X.blk sc (clo sc.names X.env.cells []) G.objs.size (lcG X xs js) s2 H2 fp) [(s2.heap.objs.size,xK its k)] (lcT σ js o0) H' s7/\tn i s7.heap/\(∀b∈fp,H' b=none)/\Vals ys its/\ys.length<=sizeLine/\W i m ys H':=by
    intro its' k' H7 s7 ys' m' o1 l1 J vs' z' hm w'
    refine⟨m',hm,i+1,ys',its',k',o1,H7,l1,J.W6 fun p hp=>J.pin p (zCZ _ (by simp at hp;simp[hp])),?_,?_,vs',z',w'⟩
    ·exact T.keep _ _ _ st6 fun b hb o e=>(J.pin (b,o) (zCZ _ (zCT _ (Wo hb e)))).1
    ·intro b hb
     obtain⟨o,e,_⟩:=T.obj _ _ st6 b hb
     exact(J.pin (b,o) (zCZ _ (zCT _ (Wo hb e)))).2.1
   refine wpAny_mono (znO (X:=X) (sc:=sc) (xs:=xs) (js:=js) (tg:=tg) (g:=g) (elt:=elt) (ifs:=ifs) (tt:=tt) (te:=te) (D:=s2.heap.objs.size) (its:=its) (n:=k) (pl:=Ri fp s5'.heap)
    (hg _ _ _ _ _) I7 r6 (ht _ _ _ _ _) (he _ _ _ _ _) (by omega) (zCY _) hDC (fun y c e=>zCX (zrO y c e)) zrQ (step v H6 y6 o0 lo0)) (fun _ s6 h6=>?_) fun _ _ z=>z
   refine wpAny_mono h6 (fun ok s7 h7=>?_) fun _ _ z=>z
   cases ok with
   | false =>
    rw[if_neg zCM] at h7 ⊢
    obtain⟨H7,o1,l1,⟨m',hm,w'⟩,J⟩:=h7
    exact back l1 J vs4 z4 hm w'
   | true =>
    rw[if_pos rfl] at h7 ⊢
    refine wpAny_mono h7 (fun y s8 h8=>?_) fun _ _ z=>z
    refine wpAny_mono h8 (fun _ s9 h9=>?_) fun _ _ z=>z
    obtain⟨z,y',H9,o1,l1,⟨m',hm,w'⟩,rz,J⟩:=h9
    refine back l1 J (vs4.append (.cons rz .nil)) ?_ hm w'
    rw[zCQ,zDg]
    omega
 exact codeAny_compStart_list (loop _ rfl) (T.self _ 0 _ _ _ (T.keep _ _ _ st2 fun b _ o e=>old b o e) (loop _ rfl))
end
section
variable {X:Cx}{sc Zj:Scope}{x:Str}{js:List Nat}{elt iter:Expr}{px pos:Pos}{ifs:List Expr}{wi:TI}{tt:TT}{te:TE}
theorem zlx {use:Option (Value->Sem Unit)}{QQ:Value->Shared->Prop}{Fin:List V->Hp->Prop}{pins:List (Addr×Obj)}{s:Shared}{σ:St}{H:Hp}(Ws:X.env.scope=Zj)(L:ZG Zj sc x (js.map fun j=>X.N.getD j ""))(hc:X.calm=true)(hi:PI X (.Name x px) iter wi)(hjs:∀j∈js,j<X.N.length)
  (ht:∀(cl:List (Str×Addr)) (C:Addr) (s₂:Shared) (H₂:Hp) (fp:List Addr) (pins:List (Addr×Obj)) (s':Shared) (σ':St) (H':Hp) (Q:Bool->Hp->Prop),Inv (X.blk sc cl C (Nz X x js) s₂ H₂ fp) pins σ' H' s'->tt σ' H' Q ->
   wpAny (model X.prog X.w) X.A (Z4 ifs (compEnvC sc cl C X.env)) (TP (X.blk sc cl C (Nz X x js) s₂ H₂ fp) pins σ' Q) (fun _ _=>False) s')
  (he:∀(cl:List (Str×Addr)) (C:Addr) (s₂:Shared) (H₂:Hp) (fp:List Addr),PE (X.blk sc cl C (Nz X x js) s₂ H₂ fp) elt te)
  (hs:∀x,foldedSetIterable iter X.env x=pure x)(I:Inv X pins σ H s)
  (h:wi σ H fun J H1=>∃W:Nat->Nat->List V->Hp->Prop,(∃m,W 0 m [] H1)/\∀i m ys H,W i m ys H->(J.stop i H/\Fin ys H) \/
   (J.go i H/\ys.length<sizeLine/\∀x H',J.JG i H x H'->tt (Z1 σ js (some x)) H' fun b H2 =>
    if b=true then te (Z1 σ js (some x)) H2 fun v H3=>∃m',m'<m/\W (i+1) m' (ys++[v]) H3 else ∃m',m'<m/\W (i+1) m' ys H2))
  (hfin:∀(D C:Addr) (s5:Shared) (H5:Hp) (ys:List V) (its:List Value) (k:Nat) (m5:Str->Option Value),Inv X pins σ H5 s5->Own X pins H5 D->Own X pins H5 C->D≠C->s5.heap.get? D=some (xK its k)->Vals ys its->ys.length<=sizeLine->s5.heap.Ns C m5->Fin ys H5 ->
   compPost (model X.prog X.w) X.A X.xe use QQ (.ref D) C (.ok .next) s5) :
  wpAny (model X.prog X.w) X.A (comprehension (.ListComp elt [⟨.Name x px,iter,ifs,0⟩] sc pos) sc X.env (firstIterPos [⟨.Name x px,iter,ifs,0⟩] pos) (newList []) false (eval iter X.env) use) QQ X.xe s:=by
 have e:(fun(J:It) (H1:Hp)=>∃W:Nat->Nat->List V->Hp->Prop,(∃m,W 0 m [] H1)/\∀i m ys H,W i m ys H->(J.stop i H/\Fin ys H) \/
   (J.go i H/\ys.length<sizeLine/\∀x H',J.JG i H x H'->tt (Z1 σ js (some x)) H' fun b H2 =>
    if b=true then te (Z1 σ js (some x)) H2 fun v H3=>∃m',m'<m/\W (i+1) m' (ys++[v]) H3 else ∃m',m'<m/\W (i+1) m' ys H2)) =
   (fun(J:It) (H1:Hp)=>∃W:Nat->Nat->List V->Hp->Prop,(∃m,W 0 m [] H1)/\∀i m ys H,W i m ys H->(J.stop i H/\Fin ys H) \/
   (J.go i H/\ys.length<sizeLine/\∀y H',J.JG i H y H'->∀o0:List (Option V),o0.length=[x].length->N5 0 y (lcT σ js o0) H' fun σ2 H1=>∃o1,σ2=lcT σ js o1/\o1.length=[x].length/\tt σ2 H1 fun b H2 =>
    if b=true then te σ2 H2 fun v H3=>∃m',m'<m/\W (i+1) m' (ys++[v]) H3 else ∃m',m'<m/\W (i+1) m' ys H2)):=by
  funext J H1
  refine propext ⟨fun⟨W,w0,w1⟩=>⟨W,w0,fun i m ys H hw=>?_⟩,fun⟨W,w0,w1⟩=>⟨W,w0,fun i m ys H hw=>?_⟩⟩
  ·rcases w1 i m ys H hw with a | ⟨a,b,c⟩
   ·exact .inl a
   ·refine .inr ⟨a,b,fun y H' hy o0 ho=>?_⟩
    match o0,ho with
    | [o],_=>exact⟨[some y],rfl,rfl,c y H' hy⟩
  ·rcases w1 i m ys H hw with a | ⟨a,b,c⟩
   ·exact .inl a
   ·refine .inr ⟨a,b,fun y H' hy=>?_⟩
    obtain⟨o1,e1,e2,e3⟩:=c y H' hy [none] rfl
    exact e3
 rw[e] at h
 exact zih (xs:=[x]) (g:=N5 0) Ws ⟨L.kind,L.Qy,L.names,L.fr,L.fvs⟩ hc hi (fun cl C s₂ H₂ fp=>z9 (X:=X.blk sc cl C (lcG X [x] js) s₂ H₂ fp) L.nd rfl (.inl (lookup_relabel_local L.hx)) (.inr (lookup_relabel_local L.hx))) hjs ht he hs I h hfin
theorem znP (Ws:X.env.scope=Zj)(L:ZG Zj sc x (js.map fun j=>X.N.getD j ""))(hc:X.calm=true)(hi:PI X (.Name x px) iter wi)(hjs:∀j∈js,j<X.N.length)
  (ht:∀(cl:List (Str×Addr)) (C:Addr) (s₂:Shared) (H₂:Hp) (fp:List Addr) (pins:List (Addr×Obj)) (s':Shared) (σ':St) (H':Hp) (Q:Bool->Hp->Prop),Inv (X.blk sc cl C (Nz X x js) s₂ H₂ fp) pins σ' H' s'->tt σ' H' Q ->
   wpAny (model X.prog X.w) X.A (Z4 ifs (compEnvC sc cl C X.env)) (TP (X.blk sc cl C (Nz X x js) s₂ H₂ fp) pins σ' Q) (fun _ _=>False) s')
  (he:∀(cl:List (Str×Addr)) (C:Addr) (s₂:Shared) (H₂:Hp) (fp:List Addr),PE (X.blk sc cl C (Nz X x js) s₂ H₂ fp) elt te)
  (hs:∀x,foldedSetIterable iter X.env x=pure x:=by intro _;rfl) :
  PE X (.ListComp elt [⟨.Name x px,iter,ifs,0⟩] sc pos) (tLC wi js tt te):=by
 intro pins s σ H Q I h
 rw[eval_ListComp]
 refine zlx (use:=none) (Fin:=fun ys H=>∀p,H p=none->Q (.ref p) (upd H p (.lst ys))) Ws L hc hi hjs ht he hs I h fun D C s5 H5 ys its k m5 J oD oC hDC p1 vs z hn fin=>?_
 refine⟨m5,hn,fun h' hsb=>?_⟩
 have J2:Inv X pins σ H5 { s5 with heap:=h',toks:=s5.toks }:=J.turned (it:=C) (fun b o hb e=>hsb.extBut b o hb e) oC.free oC.loc (.inr oC.new) oC.cel oC.pin
 have p1':h'.get? D=some (xK its k):=hsb.extBut _ _ hDC p1
 have J3:Inv X pins σ (upd H5 D (.lst ys)) { s5 with heap:=h',toks:=s5.toks }:=J2.track oD.free oD.loc oD.new oD.cel oD.pin ⟨z,its,k,vs,p1'⟩
 exact⟨.ref D,_,J3,rfl,fin D oD.free⟩
def sLC (i:Nat)(wi:TI)(js:List Nat)(tt:TT)(te:TE):TS:=fun D σ H=>tLC wi js tt te σ H fun v H1=>D.nx (σ.set i (some v)) H1
theorem zdW {i:Nat}{y:Str}{py spos:Pos}(hN:X.N.Nodup)(hy:X.N[i]?=some y)(hl:Loc X.env.scope y)(hf:X.fn y=true\/X.env.scope.names.lookup y=some .local)
  (Ws:X.env.scope=Zj)(L:ZG Zj sc x (js.map fun j=>X.N.getD j ""))(hc:X.calm=true)(hi:PI X (.Name x px) iter wi)(hjs:∀j∈js,j<X.N.length)
  (ht:∀(cl:List (Str×Addr)) (C:Addr) (s₂:Shared) (H₂:Hp) (fp:List Addr) (pins:List (Addr×Obj)) (s':Shared) (σ':St) (H':Hp) (Q:Bool->Hp->Prop),Inv (X.blk sc cl C (Nz X x js) s₂ H₂ fp) pins σ' H' s'->tt σ' H' Q ->
   wpAny (model X.prog X.w) X.A (Z4 ifs (compEnvC sc cl C X.env)) (TP (X.blk sc cl C (Nz X x js) s₂ H₂ fp) pins σ' Q) (fun _ _=>False) s')
  (he:∀(cl:List (Str×Addr)) (C:Addr) (s₂:Shared) (H₂:Hp) (fp:List Addr),PE (X.blk sc cl C (Nz X x js) s₂ H₂ fp) elt te)
  (hsw:swapsWith (.ListComp elt [⟨.Name x px,iter,ifs,0⟩] sc pos) (some (.Name y py)) spos.line X.env=pure true)(hs:∀x,foldedSetIterable iter X.env x=pure x:=by intro _;rfl) :
  PS X (.Assign [.Name y py] (.ListComp elt [⟨.Name x px,iter,ifs,0⟩] sc pos) spos) (sLC i wi js tt te):=by
 intro pins s σ H D I h
 rw[exec_Assign_Name_used _ _ _ _ hsw]
 refine wpAny_bind (wpAny_standAt (wpAny_bind ?_))
 show wpAny _ _ (do let _ <-comprehension (.ListComp elt [⟨.Name x px,iter,ifs,0⟩] sc pos) sc X.env _ (newList []) false (eval iter X.env) (some (assign (.Name y py) X.env))) _ _ s
 have pg:=z9 (X:=X) (i:=i) (x:=y) (pos:=py) hN hy hl hf
 refine wpAny_bind (wpAny_mono (zlx (use:=some (assign (.Name y py) X.env)) (QQ:=fun _ z=>SP X pins D .next z) (Fin:=fun ys H=>∀p,H p=none->D.nx (σ.set i (some (.ref p))) (upd H p (.lst ys))) Ws L hc hi hjs ht he hs I h fun A C s5 H5 ys its k m5 J oD oC hDC p1 vs z hn fin=>?_) (fun _ z hq=>wpAny_pure (wpAny_pure hq)) fun _ _ e=>e)
 have J1:Inv X pins σ (upd H5 A (.lst ys)) s5:=J.track oD.free oD.loc oD.new oD.cel oD.pin ⟨z,its,k,vs,p1⟩
 obtain⟨oc,es,ep,hC,hd,hr⟩:=hn
 have Qy:∀v,oc.data≠.cell v:=fun v q=>by rw[hd] at q;cases q
 have hCA:C≠A:=Ne.symm hDC
 have fC:(upd H5 A (.lst ys)) C=none:=by rw[zJ hCA];exact oC.free
 have J2:Inv X (pins++[(C,oc)]) σ (upd H5 A (.lst ys)) s5:=J1.W6 fun p hp=>(List.mem_append.mp hp).elim (fun q=>J1.pin p (zCZ _ q)) fun q=>by
  have e:p=(C,oc):=by simpa using q
  subst e
  exact⟨hC,fC,oC.loc,oC.fs,Qy⟩
 refine wpAny_mono (pg _ s5 σ _ (.ref A) (.ref A) (fun σ6 H6=>σ6=σ.set i (some (.ref A))/\H6=upd H5 A (.lst ys)) J2 rfl ⟨rfl,rfl⟩) (fun _ s6 ⟨σ6,H6,I6,e1,e2⟩=>?_) fun _ _ e=>e
 subst e1 e2
 obtain⟨c1,c2,_⟩:=I6.pin (C,oc) (zCZ _ (zCZ _ (by simp)))
 refine⟨m5,⟨oc,es,ep,c1,hd,hr⟩,fun h' hsb=>?_⟩
 have J3:Inv X pins (σ.set i (some (.ref A))) (upd H5 A (.lst ys)) s6:=I6.W6 fun p hp=>I6.pin p (zCZ _ (List.mem_append_left _ hp))
 have J4:Inv X pins (σ.set i (some (.ref A))) (upd H5 A (.lst ys)) { s6 with heap:=h',toks:=s6.toks }:=J3.turned (it:=C) (fun b o hb e=>hsb.extBut b o hb e) c2 oC.loc (.inr oC.new) oC.cel oC.pin
 exact⟨_,_,J4,fin A oD.free⟩
end
section
variable {X:Cx}
def zdX:TT:=fun _ H Q=>Q true H
theorem tQ {sc Zj:Scope}{x:Str}{js:List Nat}{elt iter:Expr}{px pos:Pos}{wi:TI}{te:TE}(Ws:X.env.scope=Zj)(L:ZG Zj sc x (js.map fun j=>X.N.getD j ""))(hc:X.calm=true)(hi:PI X (.Name x px) iter wi)(hjs:∀j∈js,j<X.N.length)
  (he:∀(cl:List (Str×Addr)) (C:Addr) (s₂:Shared) (H₂:Hp) (fp:List Addr),PE (X.blk sc cl C (Nz X x js) s₂ H₂ fp) elt te)
  (hs:∀x,foldedSetIterable iter X.env x=pure x:=by intro _;rfl) :
  PE X (.ListComp elt [⟨.Name x px,iter,[],0⟩] sc pos) (tLC wi js zdX te) :=
 znP Ws L hc hi hjs (fun cl C s₂ H₂ fp pins s' σ' H' Q I h=>wpAny_pure ⟨H',I,h⟩) he hs
theorem zjT {sc Zj:Scope}{x:Str}{js:List Nat}{elt iter c:Expr}{px pos:Pos}{wi:TI}{te:TE}{tt:TT}(Ws:X.env.scope=Zj)(L:ZG Zj sc x (js.map fun j=>X.N.getD j ""))(hc:X.calm=true)(hi:PI X (.Name x px) iter wi)(hjs:∀j∈js,j<X.N.length)
  (ht:∀(cl:List (Str×Addr)) (C:Addr) (s₂:Shared) (H₂:Hp) (fp:List Addr),PT (X.blk sc cl C (Nz X x js) s₂ H₂ fp) c tt)
  (he:∀(cl:List (Str×Addr)) (C:Addr) (s₂:Shared) (H₂:Hp) (fp:List Addr),PE (X.blk sc cl C (Nz X x js) s₂ H₂ fp) elt te)
  (hs:∀x,foldedSetIterable iter X.env x=pure x:=by intro _;rfl) :
  PE X (.ListComp elt [⟨.Name x px,iter,[c],0⟩] sc pos) (tLC wi js tt te) :=
 znP Ws L hc hi hjs (fun cl C s₂ H₂ fp pins s' σ' H' Q I h=>wpAny_tests_one (ht cl C s₂ H₂ fp pins s' σ' H' Q I h)) he hs
theorem zly {K:Frag}{a:Addr}{xs:List V}{σ:St}{js:List Nat}{tt:TT}{te:TE}{H:Hp}{Qf:Addr->Hp->List V->Prop}(Pv:Nat->List V->Hp->Prop)(h0:Pv 0 [] H)(hz:xs.length<=sizeLine)
  (hl:∀i ys H,i<=xs.length->Pv i ys H->zM K H a xs/\ys.length<=i)
  (hs:∀i x ys H,xs[i]?=some x->Pv i ys H->tt (Z1 σ js (some x)) H fun b H2=>if b=true then te (Z1 σ js (some x)) H2 fun v H3=>Pv (i+1) (ys++[v]) H3 else Pv (i+1) ys H2)
  (mt:∀ σ H Q Q',(∀b H1,Q b H1->Q' b H1)->tt σ H Q->tt σ H Q')(me:∀ σ H Q Q',(∀v H1,Q v H1->Q' v H1)->te σ H Q->te σ H Q')
  (hd:∀ys H p,Pv xs.length ys H->H p=none->Qf p H ys) :
  ∃W:Nat->Nat->List V->Hp->Prop,(∃m,W 0 m [] H)/\∀i m ys H,W i m ys H ->
   ((Itl K a).stop i H/\∀p,H p=none->Qf p H ys) \/
   ((Itl K a).go i H/\ys.length<sizeLine/\∀x H',(Itl K a).JG i H x H'->tt (Z1 σ js (some x)) H' fun b H2 =>
    if b=true then te (Z1 σ js (some x)) H2 fun v H3=>∃m',m'<m/\W (i+1) m' (ys++[v]) H3 else ∃m',m'<m/\W (i+1) m' ys H2):=by
 refine⟨fun i m ys H=>m=xs.length-i/\i<=xs.length/\Pv i ys H,⟨xs.length,by simp,zC5 _,h0⟩,?_⟩
 rintro i m ys H ⟨rfl,hi,p⟩
 obtain⟨q,hy⟩:=hl i ys H hi p
 by_cases hlt:i<xs.length
 ·refine .inr ⟨⟨xs,xs[i],q,by simp[hlt]⟩,by omega,fun x H' y=>?_⟩
  obtain⟨e,y⟩:=y
  subst e
  refine mt _ _ _ _ (fun b H2 h2=>?_) (hs i x ys _ (y xs q) p)
  cases b with
  | true =>
   rw[if_pos rfl] at h2 ⊢
   exact me _ _ _ _ (fun v H3 h3=>⟨_,by omega,rfl,hlt,h3⟩) h2
  | false =>
   rw[if_neg zCM] at h2 ⊢
   exact⟨_,by omega,rfl,hlt,h2⟩
 ·have e:i=xs.length:=by omega
  subst e
  exact .inl ⟨⟨xs,q,zCY _⟩,fun pp hp=>hd ys H pp p hp⟩
theorem znQ {K:Frag}{a:Addr}{xs:List V}{σ:St}{js:List Nat}{tt:TT}{te:TE}{H:Hp}{Qf:Addr->Hp->List V->Prop}(Pv:Nat->List V->Hp->Prop)(h0:Pv 0 [] H)(hz:xs.length<=sizeLine)
  (hl:∀i ys H,i<=xs.length->Pv i ys H->vW K H a xs/\ys.length<=i)
  (hs:∀i x ys H,xs[i]?=some x->Pv i ys H->tt (Z1 σ js (some x)) H fun b H2=>if b=true then te (Z1 σ js (some x)) H2 fun v H3=>Pv (i+1) (ys++[v]) H3 else Pv (i+1) ys H2)
  (mt:∀ σ H Q Q',(∀b H1,Q b H1->Q' b H1)->tt σ H Q->tt σ H Q')(me:∀ σ H Q Q',(∀v H1,Q v H1->Q' v H1)->te σ H Q->te σ H Q')
  (hd:∀ys H p,Pv xs.length ys H->H p=none->Qf p H ys) :
  ∃W:Nat->Nat->List V->Hp->Prop,(∃m,W 0 m [] H)/\∀i m ys H,W i m ys H ->
   ((Itt K a).stop i H/\∀p,H p=none->Qf p H ys) \/
   ((Itt K a).go i H/\ys.length<sizeLine/\∀x H',(Itt K a).JG i H x H'->tt (Z1 σ js (some x)) H' fun b H2 =>
    if b=true then te (Z1 σ js (some x)) H2 fun v H3=>∃m',m'<m/\W (i+1) m' (ys++[v]) H3 else ∃m',m'<m/\W (i+1) m' ys H2):=by
 refine⟨fun i m ys H=>m=xs.length-i/\i<=xs.length/\Pv i ys H,⟨xs.length,by simp,zC5 _,h0⟩,?_⟩
 rintro i m ys H ⟨rfl,hi,p⟩
 obtain⟨q,hy⟩:=hl i ys H hi p
 by_cases hlt:i<xs.length
 ·refine .inr ⟨⟨xs,xs[i],q,by simp[hlt]⟩,by omega,fun x H' y=>?_⟩
  obtain⟨e,y⟩:=y
  subst e
  refine mt _ _ _ _ (fun b H2 h2=>?_) (hs i x ys _ (y xs q) p)
  cases b with
  | true =>
   rw[if_pos rfl] at h2 ⊢
   exact me _ _ _ _ (fun v H3 h3=>⟨_,by omega,rfl,hlt,h3⟩) h2
  | false =>
   rw[if_neg zCM] at h2 ⊢
   exact⟨_,by omega,rfl,hlt,h2⟩
 ·have e:i=xs.length:=by omega
  subst e
  exact .inl ⟨⟨xs,q,zCY _⟩,fun pp hp=>hd ys H pp p hp⟩
theorem zdY {x:V}:∀{xs:List V} {us:List Value},Vals xs us->xs.all uO=true->∀{j:Nat},xs.findIdx? (fun y=>eqV y x)=some j ->
  ∃hj:j<us.length,eqU x us[j]=true/\∀m (hm:m<us.length),m<j->eqU x us[m]=false
 | _,_,.nil,_,j,h=>by simp at h
 | y::xs,u::us,.cons r t,f,j,h=>by
  rw[List.all_cons,zDa] at f
  rw[List.findIdx?_cons] at h
  by_cases hy:eqV y x=true
  ·rw[if_pos hy] at h
   cases h
   refine⟨by simp,?_,fun m hm hlt=>absurd hlt (Nat.not_lt_zero _)⟩
   show eqU x u=true
   rw[zgV r f.1];exact hy
  ·rw[if_neg hy] at h
   cases hq:xs.findIdx? (fun y=>eqV y x) with
   | none=>rw[hq] at h;cases h
   | some k =>
    rw[hq] at h
    have e:k+1=j:=zDd h
    subst e
    obtain⟨hk,h1,h2⟩:=zdY t f.2 hq
    refine⟨by rw[zCU];omega,h1,fun m hm hlt=>?_⟩
    cases m with
    | zero =>
     show eqU x u=false
     rw[zgV r f.1];exact Bool.eq_false_iff.mpr hy
    | succ m=>exact h2 m (by rw[zCU] at hm;omega) (by omega)
def znR (K:Frag):V->List V->Hp->VK->Prop:=fun x vs H Q=>∃l xs y j,x=.ref l/\vs=[y]/\zM K H l xs/\uO y=true/\xs.all uO=true/\xs.findIdx? (fun z=>eqV z y)=some j/\Q (.int (j:Nat)) H
theorem RV:MtM X "list.index" (znR X.K):=by
 intro pins s σ H x vs v us Q I rx rv h
 obtain⟨l,xs,y,j,rfl,rfl,hq,fy,fs,hj,q⟩:=h
 cases rx
 obtain⟨u,rfl,ru⟩:=rv.one
 obtain⟨its,r,⟨o,n,e,hc,hd,hdat⟩,hz⟩:=I.list hq
 obtain⟨cls,dd,dt,sl⟩:=o
 have hc':cls=.type "list" := hc
 have hdat':dt=.seq its.toArray n:=hdat
 subst hc' hdat'
 obtain⟨h1,h2,h3⟩:=zdY r fs hj
 have hl:=r.length
 have hn:=Qx
 refine call_meets F.slot_list_index ⟨_,e,rfl⟩ F.entry_list_index (F.args_list_index_2 _ _) (SeqAt.list_indexAt l its.toArray n dd sl u (eqU y) j (by simpa using h1) (by omega) (by simpa using h2) (fun m hm hlt=>by simpa using h3 m (by simpa using hm) hlt)) ⟨e,fun w hw=>RT ru fy r fs w (by simpa using hw),?_⟩
 exact⟨.int (j:Nat),H,I.tok _,⟨_,rfl⟩,q⟩
def zpS:V->List V->Hp->VK->Prop:=fun x vs H Q=>∃l xs i y,x=.ref l/\vs=[.int i,y]/\H l=some (.lst xs)/\0<=i/\i<=(xs.length:Int)/\xs.length<sizeLine/\Q .non (upd H l (.lst (xs.take i.toNat++y::xs.drop i.toNat)))
theorem zjU {A:Around}{s:Shared}{P:Program}{w:World}{E:Value->Shared->Prop}{Q:Value->Shared->Prop}{l:Addr}{its:List Value}{n:Nat}{i:Int}{t:Tok}{u:Value}(e:s.heap.get? l=some { cls:=.type "list", data:=.seq its.toArray n })(h0:0<=i)(h1:i<=(its.length:Int))(hz:its.length<=sizeLine)
  (h:∀f:Array Value->Array Value,f its.toArray=(its.take i.toNat++u::its.drop i.toNat).toArray->Q .none { s with heap:=s.heap.update l (Obj.mapSeq f),toks:=s.toks }):wpAny (model P w) A (call (.builtin "list.insert") [.ref l,.int i t,u]) Q E s:=by
 have hn:=Qx
 have fit:¬(!Builtin.List.listFitsIndex i)=true:=by
  rw[fitsIndex_both (k:=i) (Int.le_trans (by decide) h0) (by omega)]
  exact zCM
 have hs3:its.toArray.size<=sizeLine:=by rw[zCS];exact hz
 have M:=AutoSeq1.list_insert_list_int_val_1 l its.toArray n i t u fit hs3
 refine call_meets F.slot_list_insert ⟨_,e,rfl⟩ F.entry_list_insert (F.args_list_insert_3 _ _ _) M ⟨e,?_⟩
 refine h _ ?_
 have hk:(if i<0 then (i+(its.toArray.size:Int)).toNat else min i.toNat its.toArray.size)=i.toNat:=by
  rw[if_neg (by omega),zCS]
  omega
 show(its.toArray.extract 0 (if i<0 then (i+(its.toArray.size:Int)).toNat else min i.toNat its.toArray.size)).push u++its.toArray.extract (if i<0 then (i+(its.toArray.size:Int)).toNat else min i.toNat its.toArray.size)=_
 rw[hk]
 apply Array.toList_inj.mp
 simp[List.take_of_length_le]
theorem zge:MtM X "list.insert" zpS:=by
 intro pins s σ H x vs v us Q I rx rv h
 obtain⟨l,xs,i,y,rfl,rfl,hH,h0,h1,hz,q⟩:=h
 cases rx
 obtain⟨u,w,rfl,⟨t,rfl⟩,rw'⟩:=rv.two
 obtain⟨z,its,n,r,hl,e⟩:=I.znK hH
 refine zjU e h0 (by rw[<-hl];exact h1) (by omega) fun f hf=>?_
 refine⟨.non,_,I.zpK (its':=its.take i.toNat++w::its.drop i.toNat) hH e hf ((r.take i.toNat).append (.cons rw' (r.drop i.toNat))) ?_,rfl,q⟩
 rw[zCQ,zCU,zC6,List.length_drop]
 omega
def znS (K:Frag):V->List V->Hp->VK->Prop:=fun x vs H Q=>∃l b xs zs,x=.ref l/\vs=[.ref b]/\H l=some (.lst xs)/\vW K H b zs/\xs.length+zs.length<=sizeLine/\Q .non (upd H l (.lst (xs++zs)))
theorem zbt (l:Addr)(its:Array Value)(n:Nat)(b:Addr)(its2:Array Value)(n2:Nat)(dd:Option Addr)(sl:Array (Option Value))(h0:¬(!its.isEmpty&&Builtin.List.listTooLong (its.size+its2.size))=true)(h1:its.size<=sizeLine)(h2:its.size+its2.size<=sizeLine+1) :
  Meets (Builtin.«list.extend» ⟨[.ref l,.ref b],[]⟩) (fun _ R s=>s.heap.get? l=some { cls:=.type "list", data:=.seq its n }/\s.heap.get? b=some { cls:=.type "tuple", dict:=dd,data:=.seq its2 n2,slots:=sl } /\
   R (.ok (.ret Value.none)) { s with heap:=s.heap.update l (Obj.mapSeq fun x=>x++its2),toks:=s.toks }) :=
 .of_wp fun prog w A R s h=>by
  obtain⟨hp,g,d,tk,os⟩:=s
  obtain⟨hl,hb,h⟩:=h
  have g1:=AutoSeq1.idx_int
  have g2:=AutoSeq1.sub_tuple_tuple
  have g3:=AutoSeq1.sub_list_list
  have g4:=AutoSeq1.sub_tuple_list
  have g5:=AutoSeq1.sub_list_tuple
  have hz:(its++its2).size<=sizeLine+1:=by rw[Array.size_append];exact h2
  wp_walk using (wpAny_updateSeq hl rfl (hz:=h1) (_hz':=hz)),AutoSeq1.wpAny_loadPart' hl,AutoSeq1.wpAny_loadPart' hb
  exact⟨_,rfl,h⟩
theorem zdZ:MtM X "list.extend" (znS X.K):=by
 intro pins s σ H x vs v us Q I rx rv h
 obtain⟨l,b,xs,zs,rfl,rfl,hH,hB,hz,q⟩:=h
 cases rx
 obtain⟨u,rfl,ru⟩:=rv.one
 cases ru
 obtain⟨z,its,n,r,hl,e⟩:=I.znK hH
 obtain⟨its2,r2,⟨o,e2,hc,n2,hd⟩,z2⟩:=I.tuple hB
 obtain⟨cls,dd,dt,sl⟩:=o
 have hc':cls=.type "tuple" := hc
 have hd':dt=.seq its2.toArray n2:=hd
 subst hc' hd'
 have hl2:=r2.length
 have hsz:its.toArray.size+its2.toArray.size<=sizeLine:=by rw[zCS,zCS];omega
 have znL:¬(!its.toArray.isEmpty&&Builtin.List.listTooLong (its.toArray.size+its2.toArray.size))=true:=by
  rw[zif hsz,Bool.and_false]
  exact zCM
 refine call_meets F.slot_list_extend ⟨_,e,rfl⟩ F.entry_list_extend (F.args_list_extend_2 _ _)
  (zbt l its.toArray n b its2.toArray n2 dd sl znL (by rw[zCS];omega) (by omega)) ⟨e,e2,?_⟩
 refine⟨.non,_,I.zpK (its':=its++its2) hH e (by simp) (r.append r2) ?_,rfl,q⟩
 rw[zCQ]
 omega
theorem zfp (bs:List Bool):((List.range bs.length).all fun i=>(bs[i]?).getD true)=bs.all id:=by
 rw[zDp,zDc,zDc]
 constructor
 ·intro h b hb
  obtain⟨i,hi,e⟩:=zDr hb
  have q:=h i (List.mem_range.mpr hi)
  rw[zCJ hi,Option.getD_some,e] at q
  exact q
 ·intro h i hi
  have hi':=List.mem_range.mp hi
  rw[zCJ hi',Option.getD_some]
  exact h _ (zDq hi')
theorem ZJ (hc:X.calm=true):Wm X (.builtin "all") (fun xs H Q=>∃(p:Addr) (bs:List Bool),xs=[.ref p]/\zM X.K H p (bs.map V.bl)/\Q (.bl (bs.all id)) H):=by
 intro pins s σ H xs us Q I r h
 obtain⟨p,bs,rfl,hq,q⟩:=h
 obtain⟨u,rfl,rx⟩:=vals1 r
 cases rx
 obtain⟨its,r',pl,hz⟩:=I.list hq
 have hlen:bs.length=its.length:=by have:=r'.length;rw[zCI] at this;exact this
 have hlt:p<s.heap.objs.size:=by obtain⟨_,e,_⟩:=pl.isList;exact zCP e
 refine call_all_walk (wpAny_pyIter_list pl.isList ?_)
 refine⟨s.heap.objs.size,[s.heap.objs.size,p],[s.heap.objs.size],its.toArray.size,_,_,fun i=>(bs[i]?).getD true,rfl,Walks.list (A:=X.A.in1) (I.ok.hd hc) _ p (zCX hlt) its.toArray,
  ⟨⟨_,zC3 _ rfl,rfl,rfl⟩,pl.isList.push _⟩,fun i v s' Q' E' hP hQ=>?_,fun h' tk hk=>?_⟩
 ·have hP':its[i]?=some v:=by simpa using hP
  have hi:i<bs.length:=by
   have:=(zCL.mp hP').1
   omega
  obtain⟨w,hw,rw'⟩:=r'.get (i:=i) (x:=.bl bs[i]) (by rw[zCK,zCJ hi];rfl)
  rw[hP'] at hw
  cases hw
  cases rw'
  simp only[zCJ hi,Option.getD_some] at hQ
  exact wpAny_truthy_bool hQ
 ·have kp:∀b o,s.heap.get? b=some o->h'.get? b=some o:=fun b o e=>hk b o (fun hm=>by
   rw[List.mem_singleton.mp hm] at e
   exact Nat.lt_irrefl _ (zCP e)) (zCO _ e)
  refine⟨.bl _,H,I.kept kp,rfl,?_⟩
  rw[zCS,<-hlen,zfp]
  exact q
theorem Y8:Wm X (.builtin "isinstance") (fun xs H Q=>∃x T t b,xs=[x,.ty T]/\zap X.K H x t/\PySem.W.kitOne X.K t (.type T)=some b/\Q (.bl b) H):=by
 intro pins s σ H xs us Q I r h
 obtain⟨x,T,t,b,rfl,ty,e,q⟩:=h
 obtain⟨u,w',rfl,rx,ry⟩:=vals2 r
 cases ry
 exact zms I rx ty e fun tk=>⟨.bl b,H,I.tok _,rfl,q⟩
end
def met (acc:List Str)(x:Str):List Str:=if acc.any (·==x) then acc else acc++[x]
def dd (xs:List Str):List Str:=xs.foldl met []
theorem zlz (xs:List Str)(x:Str):dd (xs++[x])=met (dd xs) x:=by
 unfold dd
 rw[List.foldl_append]
 rfl
theorem zdu (acc:List Str)(x k:Str):(met acc x).any (·==k)=(acc.any (·==k)||decide (k=x)):=by
 unfold met
 by_cases h:acc.any (·==x)=true
 ·rw[if_pos h]
  by_cases e:k=x
  ·subst e;rw[h];simp
  ·simp[e]
 ·rw[if_neg h,List.any_append]
  by_cases e:k=x
  ·subst e;simp
  ·have hb:(x==k)=false:=by simpa [beq_iff_eq] using (fun z:x=k=>e z.symm)
   simp[hb,e]
theorem Sv (acc:List Str)(x:Str):(met acc x).length=if acc.any (·==x)=true then acc.length else acc.length+1:=by
 unfold met
 split<;>simp
theorem ztf (xs:List Str):(dd xs).length<=xs.length:=by
 suffices h:∀acc:List Str,(xs.foldl met acc).length<=acc.length+xs.length by have:=h [];unfold dd;simpa using this
 induction xs with
 | nil=>intro acc;simp
 | cons x r ih =>
  intro acc
  rw[List.foldl_cons]
  have h1:=ih (met acc x)
  have h2:=Sv acc x
  rw[zCU]
  split at h2<;>omega
theorem znT {xs:List Str}(h:xs.Nodup):(dd xs).length=xs.length:=by
 suffices g:∀acc:List Str,(∀x∈xs,acc.any (·==x)=false)->(xs.foldl met acc).length=acc.length+xs.length by have:=g [] (fun _ _=>rfl);unfold dd;simpa using this
 induction xs with
 | nil=>intro acc _;simp
 | cons x r ih =>
  intro acc ha
  obtain⟨hx,hr⟩:=List.nodup_cons.mp h
  rw[List.foldl_cons,ih hr (met acc x) (fun y hy=>?_),Sv,ha x zC2]
  ·simp;omega
  ·rw[zdu,ha y (zCT _ hy)]
   have:y≠x:=fun e=>hx (e ▸ hy)
   simp[this]
theorem zrR {xs:List Str}(h:¬xs.Nodup):(dd xs).length<xs.length:=by
 suffices g:∀acc:List Str,¬xs.Nodup->(xs.foldl met acc).length<acc.length+xs.length by have:=g [] h;unfold dd;simpa using this
 clear h
 have le:∀(ys acc:List Str),(ys.foldl met acc).length<=acc.length+ys.length:=fun ys=>by
  induction ys with
  | nil=>intro acc;simp
  | cons x r ih =>
   intro acc
   rw[List.foldl_cons]
   have h1:=ih (met acc x)
   have h2:=Sv acc x
   rw[zCU]
   split at h2<;>omega
 have mem:∀(ys acc:List Str) (x:Str),x∈ys->acc.any (·==x)=true->(ys.foldl met acc).length<acc.length+ys.length:=fun ys=>by
  induction ys with
  | nil=>intro acc x hx _;cases hx
  | cons y r ih =>
   intro acc x hx ha
   rw[List.foldl_cons,zCU]
   rcases List.mem_cons.mp hx with e | hx
   ·subst e
    have h1:=le r (met acc x)
    have h2:=Sv acc x
    rw[if_pos ha] at h2
    omega
   ·have h1:=ih (met acc y) x hx (by rw[zdu,ha];rfl)
    have h2:=Sv acc y
    split at h2<;>omega
 induction xs with
 | nil=>intro acc h;exact absurd List.nodup_nil h
 | cons x r ih =>
  intro acc h
  rw[List.foldl_cons,zCU]
  by_cases hx:x∈r
  ·have h1:=mem r (met acc x) x hx (by rw[zdu];simp)
   have h2:=Sv acc x
   split at h2<;>omega
  ·have h1:=ih (met acc x) (fun hr=>h (List.nodup_cons.mpr ⟨hx,hr⟩))
   have h2:=Sv acc x
   split at h2<;>omega
abbrev zd0 (led:Bool):Obj:={ cls:=.type "set", dict:=none,data:=.set #[] 0 (.fresh 0 0 led) }
section
variable {P:Program}{w:World}{A:Around}{R:Result->Shared->Prop}{E:Value->Shared->Prop}{s:Shared}
theorem znU {I:Addr}{fp wr:List Addr}{G:Array GenState->Array GenState->Prop}{n:Nat}{Pv:Nat->Value->Prop}{St:Nat->Shared->Prop}(W:WalksS P w A.in1 I fp wr G n Pv St)(S:Addr)(hS:S∉fp)(xs:List Str)(hn:xs.length=n)
  (hv:∀i v,Pv i v->∃t,v=.str (xs.getD i "") t)(hb:n+1<scanBound) :
  ∀(k i:Nat) (z:Shared),n-i=k->i<=n->St i z->z.heap.SetOf (strKind P w) S (fun q=>(dd (xs.take i)).any (·==q)) (dd (xs.take i)).length ->
   (∀z',Moved (S::wr) G z z'->z'.heap.SetOf (strKind P w) S (fun q=>(dd xs).any (·==q)) (dd xs).length->R (.ok (.ret .none)) z') ->
   codeAny (model P w) A (.builtin "set.update.loop" ⟨[.ref S,.ref I],[]⟩) R z:=by
 have ztg:S∉wr:=fun h=>hS (W.sub _ h)
 have more:∀b∈wr,b∈S::wr:=fun b h=>zCT _ h
 intro k
 induction k with
 | zero =>
  intro i z hk hi st zpT fin
  have ei:i=n:=by omega
  subst ei
  refine codeAny_builtin PyProof.Rows.F.entry_set_update_loop ?_
  rw[Around.under_plainId PyProof.Rows.F.plain_set_update_loop _]
  show wpAny _ A.in1 (pyNext (.ref I)>>=_) _ _ z
  refine wpAny_bind (W.done z _ _ st fun z' mv=>?_)
  show wpAny _ A.in1 (ret Value.none) _ _ z'
  refine wpAny_pure (fin z' (mv.mono more) ?_)
  rw[<-hn,zDb] at zpT
  obtain⟨o,es,ep,t,ho,more'⟩:=zpT
  exact⟨o,es,ep,t,mv.heap S _ ztg ho,more'⟩
 | succ k ih =>
  intro i z hk hi st zpT fin
  have il:i<n:=by omega
  refine codeAny_builtin PyProof.Rows.F.entry_set_update_loop ?_
  rw[Around.under_plainId PyProof.Rows.F.plain_set_update_loop _]
  show wpAny _ A.in1 (pyNext (.ref I)>>=_) _ _ z
  refine wpAny_bind (W.item i z _ _ il st fun v z' pv st' mv=>?_)
  obtain⟨t,rfl⟩:=hv i v pv
  have hset':z'.heap.SetOf (strKind P w) S (fun q=>(dd (xs.take i)).any (·==q)) (dd (xs.take i)).length:=by
   obtain⟨o,es,ep,tb,ho,more'⟩:=zpT
   exact⟨o,es,ep,tb,mv.heap S _ ztg ho,more'⟩
  show wpAny _ A.in1 (holding [Value.str (xs.getD i "") t] (setAdd S (.str (xs.getD i "") t))>>=_) _ _ z'
  refine wpAny_bind (wpAny_holding ?_)
  unfold setAdd
  refine wpAny_holding ?_
  refine wpAny_bind ((strKind P w).pyHash (k:=xs.getD i "") (strKind_is _ _ _ _) ?_)
  have hroom:(dd (xs.take i)).length+1<scanBound:=by
   have:=ztf (xs.take i)
   rw[zC6] at this
   omega
  have et:xs.take (i+1)=xs.take i++[xs.getD i ""]:=by
   rw[List.take_succ,zCV,zCJ (by omega)]
   rfl
  refine wpAny_setAddHashed_of (knd:=strKind P w) (s:={ z' with toks:=z'.toks+1 }) (strKind_is _ _ _ _) rfl hset' hroom fun h' sb s2=>?_
  have zth:h'.SetOf (strKind P w) S (fun q=>(dd (xs.take (i+1))).any (·==q)) (dd (xs.take (i+1))).length :=
   SetOf_congr s2 (fun q=>by rw[et,zlz,zdu]) (by rw[et,zlz,Sv])
  refine wpAny_pure ⟨plainId_quiet PyProof.Rows.F.plain_set_update_loop _,ih (i+1) _ (by omega) il (W.frame _ z' _ _ st' (Nat.le_succ _) fun b hb' o e=>?_) zth fun z'' mv2 s3=>?_⟩
  ·rw[sb.2 b (fun h:b=S=>hS (by rw[<-h];exact hb'))];exact e
  ·refine fin z'' (Moved.trans W.gtrans ((mv.mono more).then_heap (Nat.le_succ _) fun b o hb' e=>?_) mv2) s3
   rw[sb.2 b (fun h:b=S=>hb' (by rw[h];exact zC2))];exact e
theorem zpU {xs:List Str}:∀{us:List Value},Vals (xs.map V.str) us->∀(i:Nat) (v:Value),us[i]?=some v->∃t,v=.str (xs.getD i "") t:=by
 intro us r i v h
 have hl:=r.length
 rw[zCI] at hl
 have hi:i<xs.length:=by have:=(zCL.mp h).1;omega
 obtain⟨u,hu,t,e⟩:=r.get (i:=i) (x:=.str xs[i]) (by rw[zCK,zCJ hi];rfl)
 rw[h] at hu
 cases hu
 refine⟨t,?_⟩
 rw[e,zCV,zCJ hi]
 rfl
set_option maxHeartbeats 8000000 in
theorem znV {l:Addr}{us:List Value}{xs:List Str}{Q:Value->Shared->Prop}(hh:A.handled=none)(hl:s.heap.IsList l us.toArray)(r:Vals (xs.map V.str) us)(hb:xs.length+1<scanBound)
  (h:∀(h':Heap) (tk:Nat),h'.SetOf (strKind P w) s.heap.objs.size (fun q=>(dd xs).any (·==q)) (dd xs).length->(∀b o,s.heap.get? b=some o->h'.get? b=some o)->Q (.ref s.heap.objs.size) { s with heap:=h',toks:=tk }) :
  wpAny (model P w) A (call (.type "set") [.ref l]) Q E s:=by
 have hlen:xs.length=us.toArray.size:=by have:=r.length;rw[zCI] at this;simpa using this
 obtain⟨cc,tl,hmro⟩:=F.called_set.mro
 have made:=F.called_set.made
 have sub:=F.called_set.sub
 refine wpAny_call (codeAny_of_tree ?_)
 show wpAny _ _ (callAny (.type "set") _) _ _ _
 refine wpAny_pure ⟨Code.quiet_builtin _ (by decide +kernel),codeAny_builtin F.entry_type_call ?_⟩
 rw[Around.under_plain (weight_type_call_type "set" [.ref l] []) rfl]
 have a1:=F.called_set.notType
 have a2:=F.called_set.canCreate
 have a3:=F.typeCall_set_1 (.ref l)
 repeat (any_goals (first | assumption | wp_step))
 refine codeAny_mono (code_set_new_1 (.ref l) (E:=E) (Q₁:=fun ob z=>∃led:Bool,ob=.ref s.heap.objs.size/\z={ s with heap:=s.heap.push { cls:=.type "set", dict:=none,data:=.set #[] 0 (.fresh 0 0 led) } }) fun led=>⟨led,rfl,rfl⟩) fun res z hres=>?_
 cases res with
 | error e=>exact hres
 | ok fl =>
  cases fl with
  | ret ob =>
   obtain⟨led,rfl,rfl⟩:=hres
   have gS:(s.heap.push (zd0 led)).get? s.heap.objs.size=some (zd0 led):=zC3 _ rfl
   have tS:Shared.TypeIs { s with heap:=s.heap.push (zd0 led) } (.ref s.heap.objs.size) "set" := ⟨_,gS,rfl⟩
   have b1:=F.called_set.init.lookup
   have b2:=F.called_set.init.bind (.ref s.heap.objs.size)
   repeat (any_goals (first | assumption | wp_step))
   refine codeAny_mono (codeAny_call_builtin (R:=wants (fun v z=>v=.none/\∃h' tk,z={ s with heap:=h',toks:=tk }/\h'.SetOf (strKind P w) s.heap.objs.size (fun q=>(dd xs).any (·==q)) (dd xs).length/\(∀b o,s.heap.get? b=some o->h'.get? b=some o)) E)
    F.called_set.init.plain F.entry_set_init (check_set_init_1 tS ?_)) fun res2 z2 znW=>?_
   ·obtain⟨ol,gl,cl,nl,dl⟩:=hl
    obtain⟨ocls,odict,odata,oslots⟩:=ol
    have cl':ocls=.type "list" := cl
    have dl':odata=.seq us.toArray nl:=dl
    subst cl' dl'
    have gl':(s.heap.push (zd0 led)).get? l=some { cls:=.type "list", dict:=odict,data:=.seq us.toArray nl,slots:=oslots }:=zCO _ gl
    have c1:=F.sub_list_set
    have c2:=F.sub_list_frozenset
    have c3:(Value.type "list" == Value.type "dict")=false:=by decide
    have isl:(s.heap.push (zd0 led)).IsList l us.toArray:=⟨_,gl',rfl,nl,rfl⟩
    unfold Builtin.«set.__init__» noKeywords Builtin.Frozenset.updateFrom
    generalize hit:pyIter=itf
    wp_walk
    subst hit
    refine wpAny_pyIter_list isl ?_
    refine wpAny_bind (wpAny_runValue ?_)
    have ltl:l<s.heap.objs.size:=zCP gl
    have hd3:A.in1.in1.in1.handled=none:=by simp[hh]
    have sz1:(s.heap.push (zd0 led)).objs.size=s.heap.objs.size+1:=Heap.size_push ..
    have nel:l≠(s.heap.push (zd0 led)).objs.size:=by rw[sz1];exact zCX (Nat.lt_succ_of_lt ltl)
    have nin:s.heap.objs.size∉[(s.heap.push (zd0 led)).objs.size,l]:=by
     rw[sz1]
     simp only[List.mem_cons,zC9,or_false,not_or]
     exact⟨zCX (Nat.lt_succ_self _),Nat.ne_of_gt ltl⟩
    refine znU ((Walks.list hd3 _ l nel us.toArray).toS) s.heap.objs.size nin xs hlen (fun i v hv=>zpU r i v (by simpa using hv)) (by rw[<-hlen];exact hb) (us.toArray.size-0) 0 _ (by omega) (zC5 _)
     ⟨⟨_,zC3 _ rfl,rfl,rfl⟩,isl.push _⟩ ?s0 ?fin
    case s0 =>
     have gg:((s.heap.push (zd0 led)).push { cls:=.type "list_iterator", data:=.fields #[.ref l,.int 0 0] }).get? s.heap.objs.size=some (zd0 led):=zCO _ gS
     exact SetOf_congr ((setObjOf_fresh (knd:=strKind P w) led).setOf gg (by unfold scanBound;omega)) (fun _=>rfl) rfl
    case fin =>
     intro z mv sz
     obtain⟨h',g',d',tk',os'⟩:=z
     have e1:g'=s.gens:=mv.gens
     have e2:d'=s.drawn:=mv.drawn
     have e3:os'=s.os:=mv.os
     subst e1 e2 e3
     show wpAny _ _ _ _ _ _
     refine wpAny_pure ?_
     show wpAny _ _ (ret Value.none) _ _ _
     refine wpAny_pure ⟨rfl,h',tk',rfl,sz,fun b o e=>?_⟩
     have lb:=zCP e
     have n1:b≠s.heap.objs.size:=zCX lb
     have n2:b≠(s.heap.push (zd0 led)).objs.size:=by rw[sz1];exact zCX (Nat.lt_succ_of_lt lb)
     exact mv.heap b o (by simp only[List.mem_cons,zC9,or_false,not_or];exact⟨n1,n2⟩) (zCO _ (zCO _ e))
   ·cases res2 with
    | error e=>exact znW
    | ok fl2 =>
     cases fl2 with
     | ret v =>
      obtain⟨rfl,h',tk,rfl,sS,kk⟩:=znW
      repeat (any_goals (first | assumption | wp_step))
      exact h _ _ sS kk
     | _=>exact znW.elim
  | _=>exact hres.elim
end
section
variable {X:Cx}
def zpV (P:Program)(w:World)(a:Addr)(n:Nat):HO:=.ext fun h=>∃S,h.SetOf (strKind P w) a S n
theorem znX (hc:X.calm=true):Wm X (.type "set") (fun xs H Q=>∃(p:Addr) (ts:List Str),xs=[.ref p]/\zM X.K H p (ts.map V.str)/\ts.length<=100/\∀q,H q=none->Q (.ref q) (upd H q (zpV X.prog X.w q (dd ts).length))):=by
 intro pins s σ H xs us Q I r h
 obtain⟨p,ts,rfl,hq,h100,q⟩:=h
 obtain⟨u,rfl,rx⟩:=vals1 r
 cases rx
 obtain⟨its,r',pl,hz⟩:=I.list hq
 refine znV (I.ok.hd hc) pl.isList r' (Nat.lt_of_le_of_lt (Nat.add_le_add_right h100 1) (by decide)) fun h' tk hS hk=>?_
 refine⟨.ref s.heap.objs.size,_,I.laid hk (zCY _) (o:=zpV X.prog X.w s.heap.objs.size (dd ts).length) ?_,rfl,q _ (I.hok.fresh (zCY _))⟩
 refine⟨⟨_,hS⟩,?_,?_⟩
 ·obtain⟨o,es,ep,t,ho,_⟩:=hS
  exact⟨o,ho⟩
 ·rintro h1 h2 ⟨S,o,es,ep,t,ho,rest⟩ k
  exact⟨S,o,es,ep,t,k o ho,rest⟩
theorem call_len_set':Wm X (.builtin "len") (fun xs H Q=>∃(p:Addr) (n:Nat),xs=[.ref p]/\H p=some (zpV X.prog X.w p n)/\Q (.int n) H):=by
 intro pins s σ H xs us Q I r h
 obtain⟨p,n,rfl,hp,q⟩:=h
 obtain⟨u,rfl,rx⟩:=vals1 r
 cases rx
 obtain⟨⟨S,o,es,ep,t,ho,hex,hd,_,_,hb,hf,hn⟩,_⟩:=I.hok p _ hp
 have h63:(es.size:Int)<2^63:=by
  have h1:scanBound<2^63:=by decide
  omega
 refine call_len_set ho hex hd hf h63 ⟨.int n,H,I.tok _,⟨s.toks+1,?_⟩,q⟩
 rw[hn]
def zpW (K:Frag)(P:Program)(w:World)(a:Addr)(kvs:List (Str×Value)):Prop:=(a==sysModules)=false/\∃o,K.lookup a=some o/\o.IsDictOf (strKind P w) kvs
theorem zgX {a:Addr}{kvs:List (Str×Value)}(hd:zpW X.K X.prog X.w a kvs):IxR X (fun x y H Q=>∃k u v,x=.ref a/\y=.str k/\valueAt kvs k=some u/\RelV v u/\Q v H):=by
 intro value slice pins s σ H x y v u Q I rx ry h hs
 obtain⟨k,z,vv,rfl,rfl,hv,rv,q⟩:=h
 cases rx
 obtain⟨t,rfl⟩:=ry
 obtain⟨_,o,hk,hdd⟩:=hd
 have D:s.heap.DictOf (strKind X.prog X.w) a kvs:=Heap.dictOf_iff.mpr ⟨o,I.kIn a o hk,hdd⟩
 exact tail_any D.typeIs slot_dict_getitem.lookup (wpAny_getItem_of (strKind_is _ _ k t) D.mapOf hv ⟨vv,H,I.tok _,rv,q⟩) hs
theorem zfq {a:Addr}{kvs:List (Str×Value)}(hd:zpW X.K X.prog X.w a kvs):Qu X (compareOp .NotIn) (fun x y H Q=>∃k,x=.str k/\y=.ref a/\Q (.bl (!(valueAt kvs k).isSome)) H):=by
 intro pins s σ H x y v u Q I rx ry h
 obtain⟨k,rfl,rfl,q⟩:=h
 cases ry
 obtain⟨t,rfl⟩:=rx
 obtain⟨hs,o,hk,hdd⟩:=hd
 have D:s.heap.DictOf (strKind X.prog X.w) a kvs:=Heap.dictOf_iff.mpr ⟨o,I.kIn a o hk,hdd⟩
 exact wpAny_notIn_of (strKind_is _ _ k t) hs D.mapOf ⟨.bl _,H,I.tok _,rfl,q⟩
theorem Inv.zpX {pins:List (Addr×Obj)}{σ:St}{H:Hp}{s:Shared}{h':Heap}{t':Nat}{fp:List Addr}(I:Inv X pins σ H s)(k:∀b o,b∉fp->s.heap.get? b=some o->h'.get? b=some o)(ex:∀b∈fp,∃o,h'.get? b=some o)(hf:∀b∈fp,zc9 X pins H b) :
  Inv X pins σ H { s with heap:=h',toks:=t' }:=by
 have nit:∀b u,H b=some u->b∉fp:=fun b u e z=>by rw[(hf b z).1] at e;cases e
 refine I.step (g':=s.gens) (d':=s.drawn) (ch:=fp) (fun b hb=>⟨(hf b hb).2.2.2.1,(hf b hb).2.1,(hf b hb).2.2.2.2.1,(hf b hb).2.2.2.2.2⟩) (fun b o _ _ hc e _=>k b o hc e) (fun b o _ _ hc e _=>⟨o.slots,k b o hc e⟩) (fun _ _ _ _ n=>n)
  (fun b o hc e=>⟨o,k b o hc e⟩) (fun _ _ e=>e) (fun _ _ _ e=>e) (fun b ps e=>⟨#[],by rw[e];simp⟩) (fun m hm=>?_) (fun b u e=>?_) I.bare
 ·obtain⟨o,es,ep,ho,r⟩:=hm
  exact⟨o,es,ep,k _ o (fun z=>(hf _ z).2.1 rfl) ho,r⟩
 ·refine(I.hok b u e).stay (fun c v hc q=>k c v ?_ q) (fun _ q=>q) fun _ _ q=>q
  rcases hc with z | z
  ·rw[z];exact nit b u e
  ·exact nit c _ z
end
theorem yr:bootBuiltins "len"=some (.builtin "len"):=by decide +kernel
theorem U8:bootBuiltins "all"=some (.builtin "all"):=by decide +kernel
theorem uE:bootBuiltins "isinstance"=some (.builtin "isinstance"):=by decide +kernel
theorem zjV:bootBuiltins "int"=some (.type "int"):=by decide +kernel
theorem zpY:bootBuiltins "bool"=some (.type "bool"):=by decide +kernel
theorem zrS:bootBuiltins "str"=some (.type "str"):=by decide +kernel
theorem znY:bootBuiltins "tuple"=some (.type "tuple"):=by decide +kernel
theorem Sw:bootBuiltins "list"=some (.type "list"):=by decide +kernel
theorem zrT:bootBuiltins "set"=some (.type "set"):=by decide +kernel
theorem zjW {v:V}{u:Value}(h:V6 u=some v):RelV v u:=by
 cases u<;>simp only[V6,Option.some.injEq,reduceCtorEq] at h<;>subst h<;>first | exact rfl | exact⟨_,rfl⟩
theorem zcF:∀{us:List Value} {xs:List V},us.map V6=xs.map some->Vals xs us
 | [],[],_=>.nil
 | u::us,x::xs,h=>by
  rw[zC7,zC7] at h
  injection h with h1 h2
  exact .cons (zjW h1) (zcF h2)
 | [],_::_,h=>by cases h
 | _::_,[],h=>by cases h
theorem V4 {K:Frag}{H:Hp}{p:Addr}{od:Option Addr}{it:Array Value}{n:Nat}{sl:Array (Option Value)}{xs:List V}(l:K.lookup p=some ⟨.type "tuple", od,.seq it n,sl⟩)(v:it.toList.map V6=xs.map some)(hz:xs.length<=1000):vW K H p xs:=by
 have r:=zcF v
 refine .inr ⟨_,it,n,l,rfl,rfl,?_,r⟩
 have e:xs.length=it.size:=by have:=r.length;simpa using this
 rw[<-e]
 exact zC1 (zN hz)
theorem zrU {P:Program}{w:World}:Pairs (strKind P w) [] []/\∀e∈([]:List DictEntry),∃k,(strKind P w).is k e.key=true/\e.hash=(strKind P w).hash k:=⟨.nil,fun _ h=>nomatch h⟩
theorem W8 {P:Program}{w:World}{k:Str}{t:Tok}{v:Value}{es:List DictEntry}{kvs:List (Str×Value)}(h:Pairs (strKind P w) es kvs/\∀e∈es,∃k,(strKind P w).is k e.key=true/\e.hash=(strKind P w).hash k) :
  Pairs (strKind P w) (⟨hashStr w k,.str k t,v⟩::es) ((k,v)::kvs)/\∀e∈(⟨hashStr w k,.str k t,v⟩::es:List DictEntry),∃k,(strKind P w).is k e.key=true/\e.hash=(strKind P w).hash k:=by
 refine⟨.cons (strKind_is _ _ k t) rfl h.1,fun e he=>?_⟩
 rcases List.mem_cons.mp he with z | z
 ·subst z;exact⟨k,strKind_is _ _ k t,rfl⟩
 ·exact h.2 e z
theorem zpZ {P:Program}{w:World}{K:Frag}{p:Addr}{es:Array DictEntry}{ep:Nat}{el:List DictEntry}{kvs:List (Str×Value)}(l:K.lookup p=some ⟨.type "dict", none,.dict es ep,#[]⟩)(e:es.toList=el)(s:(p==sysModules)=false)
  (h:Pairs (strKind P w) el kvs/\∀e∈el,∃k,(strKind P w).is k e.key=true/\e.hash=(strKind P w).hash k)(nd:(kvs.map (·.1)).Nodup):zpW K P w p kvs:=by
 subst e
 exact⟨s,_,l,es,ep,⟨rfl,rfl,rfl⟩,rfl,fun x hx=>h.2 x (by simpa using hx),h.1,nd⟩
theorem zmx {kvs:List (Str×Value)}{k:Str}(h:∀e∈kvs,e.1≠k):valueAt kvs k=none:=by
 unfold valueAt
 rw[List.find?_eq_none.mpr fun e he=>by simpa using h e he]
 rfl
end L2
namespace Zk
open PySem
inductive Sn where
 | c0 (y:Bool)
 | mk (x:Str)
 | nt (s:Sn)
 | b2 (o:Fin 4) (s t:Sn)
 | q1 (o:Bool) (x:Str) (s:Sn)
def w2:Fin 4->Str
 | 0 => "and"
 | 1 => "or"
 | 2 => "either"
 | 3 => "if"
namespace Sn
def word:Sn->Str
 | c0 true => "yes"
 | c0 false => "no"
 | mk _ => "mark"
 | nt _ => "not"
 | b2 o _ _=>w2 o
 | q1 true _ _ => "some"
 | q1 false _ _ => "each"
def letters:Sn->List Str
 | mk x=>[x]
 | q1 _ x _=>[x]
 | _=>[]
def parts:Sn->List Sn
 | nt s=>[s]
 | b2 _ s t=>[s,t]
 | q1 _ _ s=>[s]
 | _=>[]
def count:Sn->Nat
 | nt s=>1+s.count
 | b2 _ s t=>1+(s.count+t.count)
 | q1 _ _ s=>1+s.count
 | _=>1
def depth:Sn->Nat
 | nt s=>1+s.depth
 | b2 _ s t=>1+max s.depth t.depth
 | q1 _ _ s=>1+s.depth
 | _=>1
def Ub (os:List Str):Sn->Prop
 | c0 _=>True
 | mk x=>x∈os
 | nt s=>s.Ub os
 | b2 _ s t=>s.Ub os/\t.Ub os
 | q1 _ x s=>x∈os/\s.Ub os
def op2:Fin 4->Bool->Bool->Bool
 | 0,a,b=>a&&b
 | 1,a,b=>a||b
 | 2,a,b=>a != b
 | 3,a,b=>!a||b
def val:Sn->(Str->Bool)->Bool
 | c0 y,_=>y
 | mk x,e=>e x
 | nt s,e=>!s.val e
 | b2 o s t,e=>op2 o (s.val e) (t.val e)
 | q1 true x s,e=>s.val (fun y=>if y=x then true else e y)||s.val (fun y=>if y=x then false else e y)
 | q1 false x s,e=>s.val (fun y=>if y=x then true else e y)&&s.val (fun y=>if y=x then false else e y)
theorem val_congr {os:List Str}:∀(s:Sn) {e e':Str->Bool},s.Ub os->(∀x∈os,e x=e' x)->s.val e=s.val e'
 | c0 _,_,_,_,_=>rfl
 | mk x,_,_,h,q=>q x h
 | nt s,_,_,h,q=>by unfold val;rw[val_congr s h q]
 | b2 o s t,_,_,h,q=>by unfold val;rw[val_congr s h.1 q,val_congr t h.2 q]
 | q1 o x s,e,e',h,q=>by
  have k:∀b:Bool,s.val (fun y=>if y=x then b else e y)=s.val (fun y=>if y=x then b else e' y):=fun b=>val_congr s h.2 fun y hy=>by
   by_cases hx:y=x
   ·rw[if_pos hx,if_pos hx]
   ·rw[if_neg hx,if_neg hx,q y hy]
  cases o<;>(unfold val;rw[k,k])
theorem Lw:∀s:Sn,1<=s.depth
 | c0 _=>zCY _
 | mk _=>zCY _
 | nt _=>by unfold depth;omega
 | b2 _ _ _=>by unfold depth;omega
 | q1 _ _ _=>by unfold depth;omega
theorem zcG:∀s:Sn,s.count=1+(s.parts.map count).sum
 | c0 _=>rfl
 | mk _=>rfl
 | nt _=>by simp[count,parts]
 | b2 _ _ _=>by simp[count,parts]
 | q1 _ _ _=>by simp[count,parts]
theorem Ma:∀(s:Sn),∀t∈s.parts,t.depth+1<=s.depth
 | c0 _,t,h=>by simp[parts] at h
 | mk _,t,h=>by simp[parts] at h
 | nt s,t,h=>by simp[parts] at h;subst h;show t.depth+1<=1+t.depth;omega
 | b2 _ s u,t,h=>by
  simp[parts] at h
  rcases h with h | h
  ·subst h;show t.depth+1<=1+max t.depth u.depth;omega
  ·subst h;show t.depth+1<=1+max s.depth t.depth;omega
 | q1 _ _ s,t,h=>by simp[parts] at h;subst h;show t.depth+1<=1+t.depth;omega
theorem zgf {os:List Str}:∀(s:Sn),s.Ub os->∀t∈s.parts,t.Ub os
 | c0 _,_,t,h=>by simp[parts] at h
 | mk _,_,t,h=>by simp[parts] at h
 | nt s,q,t,h=>by simp[parts] at h;subst h;exact q
 | b2 _ s u,q,t,h=>by
  simp[parts] at h
  rcases h with h | h<;>subst h
  ·exact q.1
  ·exact q.2
 | q1 _ _ s,q,t,h=>by simp[parts] at h;subst h;exact q.2
theorem zii {os:List Str}:∀(s:Sn),s.Ub os->∀x∈s.letters,x∈os
 | c0 _,_,t,h=>by simp[letters] at h
 | mk _,q,t,h=>by simp[letters] at h;subst h;exact q
 | nt s,q,t,h=>by simp[letters] at h
 | b2 _ s u,q,t,h=>by simp[letters] at h
 | q1 _ _ s,q,t,h=>by simp[letters] at h;subst h;exact q.1
end Sn
theorem tE (b p:Nat):(b+2^p).testBit p=!b.testBit p:=by rw[Nat.add_comm];exact Nat.testBit_two_pow_add_eq b p
theorem Lx {b p j:Nat}(h:j<p):(b+2^p).testBit j=b.testBit j:=by rw[Nat.add_comm];exact Nat.testBit_two_pow_add_gt h b
theorem znZ {b p:Nat}(h:b.testBit p=false):b%2^(p+1)<2^p:=by
 have e:b%2^(p+1)=b%2^p+2^p*(b / 2^p%2):=by
  rw[Nat.pow_succ];exact Nat.mod_mul
 have z:b / 2^p%2=0:=by
  rw[Nat.testBit_eq_decide_div_mod_eq] at h
  have:=of_decide_eq_false h
  omega
 rw[e,z,Nat.mul_zero,Nat.add_zero]
 exact Nat.mod_lt b (Nat.two_pow_pos p)
theorem zn0 (x i j:Nat):x.testBit (i+j)=(x / 2^i).testBit j:=by
 rw[Nat.testBit_div_two_pow,Nat.add_comm]
theorem zgg {b p j:Nat}(h:p<j)(h0:b.testBit p=false):(b+2^p).testBit j=b.testBit j:=by
 obtain⟨k,rfl⟩:∃k,j=(p+1)+k:=⟨j-(p+1),by omega⟩
 rw[zn0,zn0]
 have hm:=znZ h0
 have e:(b+2^p) / 2^(p+1)=b / 2^(p+1):=by
  have hp:2^(p+1)=2^p+2^p:=by rw[Nat.pow_succ];omega
  have d:=Nat.div_add_mod b (2^(p+1))
  have pos:=Nat.two_pow_pos (p+1)
  rw[Nat.div_eq_iff pos]
  have c:b / 2^(p+1)*2^(p+1)=2^(p+1)*(b / 2^(p+1)):=Nat.mul_comm _ _
  rw[c]
  omega
 rw[e]
def zO (b p:Nat)(v:Bool):Nat:=if b.testBit p=v then b else if v then b+2^p else b-2^p
theorem zgh {b p:Nat}(h:b.testBit p=true):2^p<=b:=Nat.ge_two_pow_of_testBit h
theorem zV (b p j:Nat)(v:Bool):(zO b p v).testBit j=if j=p then v else b.testBit j:=by
 unfold zO
 by_cases h:b.testBit p=v
 ·rw[if_pos h]
  by_cases hj:j=p
  ·rw[if_pos hj,hj,h]
  ·rw[if_neg hj]
 ·rw[if_neg h]
  cases v with
  | true =>
   have h0:b.testBit p=false:=by simpa using h
   rw[if_pos rfl]
   by_cases hj:j=p
   ·subst hj;rw[if_pos rfl,tE,h0];rfl
   ·rw[if_neg hj]
    rcases Nat.lt_or_gt_of_ne hj with q | q
    ·exact Lx q
    ·exact zgg q h0
  | false =>
   have h1:b.testBit p=true:=by simpa using h
   rw[if_neg zCM]
   have ge:=zgh h1
   obtain⟨c,hc⟩:∃c,b=c+2^p:=⟨b-2^p,by omega⟩
   have h0:c.testBit p=false:=by
    rw[hc,tE] at h1
    simpa using h1
   have e:b-2^p=c:=by omega
   rw[e,hc]
   by_cases hj:j=p
   ·subst hj;rw[if_pos rfl,h0]
   ·rw[if_neg hj]
    rcases Nat.lt_or_gt_of_ne hj with q | q
    ·exact(Lx q).symm
    ·exact(zgg q h0).symm
theorem xg {b p n:Nat}{v:Bool}(hb:b<2^n)(hp:p<n):zO b p v<2^n:=by
 refine Nat.lt_pow_two_of_testBit _ fun i hi=>?_
 rw[zV,if_neg (by omega)]
 exact Nat.testBit_lt_two_pow (zCR hb (zDe (by decide) hi))
def zX (n:Nat)(N:Nat)(f:Nat->Bool):Prop:=∀b,N.testBit b=(decide (b<2^n)&&f b)
theorem zav (n:Nat):zX n (2^2^n-1) (fun _=>true):=fun b=>by
 rw[Nat.testBit_two_pow_sub_one,Bool.and_true]
theorem zaw (n:Nat):zX n 0 (fun _=>false):=fun b=>by simp
theorem Qz {n N M:Nat}{f g:Nat->Bool}(h:zX n N f)(k:zX n M g):zX n (N ^^^ M) (fun b=>f b != g b):=fun b=>by
 rw[Nat.testBit_xor,h b,k b]
 show _=(decide (b<2^n)&&(f b != g b))
 cases decide (b<2^n)<;>cases f b<;>cases g b<;>rfl
theorem Uc {n N M:Nat}{f g:Nat->Bool}(h:zX n N f)(k:zX n M g):zX n (N&&&M) (fun b=>f b&&g b):=fun b=>by
 rw[Nat.testBit_and,h b,k b]
 show _=(decide (b<2^n)&&(f b&&g b))
 cases decide (b<2^n)<;>cases f b<;>cases g b<;>rfl
theorem JM {n N M:Nat}{f g:Nat->Bool}(h:zX n N f)(k:zX n M g):zX n (N|||M) (fun b=>f b||g b):=fun b=>by
 rw[Nat.testBit_or,h b,k b]
 show _=(decide (b<2^n)&&(f b||g b))
 cases decide (b<2^n)<;>cases f b<;>cases g b<;>rfl
theorem vY {n N:Nat}{f g:Nat->Bool}(h:zX n N f)(e:∀b,b<2^n->f b=g b):zX n N g:=fun b=>by
 rw[h b]
 by_cases hb:b<2^n
 ·rw[e b hb]
 ·rw[decide_eq_false hb];rfl
theorem zn1 {n N:Nat}{f:Nat->Bool}(h:zX n N f):N<2^2^n:=Nat.lt_pow_two_of_testBit _ fun i hi=>by
 rw[h i,decide_eq_false (by omega)];rfl
theorem zmy (p:Nat):zX (p+1) ((2^2^p-1)*2^2^p) (fun b=>b.testBit p):=fun b=>by
 rw[Nat.testBit_mul_two_pow,Nat.testBit_two_pow_sub_one]
 show _=(decide (b<2^(p+1))&&b.testBit p)
 have hp:2^(p+1)=2^p+2^p:=by rw[Nat.pow_succ];omega
 by_cases h1:2^p<=b
 ·by_cases h2:b<2^(p+1)
  ·have e:b.testBit p=true:=by
    obtain⟨c,rfl⟩:∃c,b=c+2^p:=⟨b-2^p,by omega⟩
    rw[tE,Nat.testBit_lt_two_pow (by omega)]
    rfl
   rw[e]
   simp[h1,h2]
   omega
  ·simp[h2]
   intro _
   omega
 ·have e:b.testBit p=false:=Nat.testBit_lt_two_pow (by omega)
  rw[e]
  simp[h1]
theorem zjX {p m N:Nat}(hp:p<m)(h:zX m N (fun b=>b.testBit p)):zX (m+1) (N|||N*2^2^m) (fun b=>b.testBit p):=fun b=>by
 rw[Nat.testBit_or,Nat.testBit_mul_two_pow,h b,h (b-2^m)]
 show(_||(_&&(_&&(b-2^m).testBit p)))=(decide (b<2^(m+1))&&b.testBit p)
 have hm:2^(m+1)=2^m+2^m:=by rw[Nat.pow_succ];omega
 by_cases h1:b<2^m
 ·have h2:b<2^(m+1):=by omega
  have h3:¬ 2^m<=b:=by omega
  simp[h1,h2,h3]
 ·have h3:2^m<=b:=by omega
  have e:(b-2^m).testBit p=b.testBit p:=by
   obtain⟨c,rfl⟩:∃c,b=c+2^m:=⟨b-2^m,by omega⟩
   rw[Lx hp,Nat.add_sub_cancel]
  rw[e]
  by_cases h2:b<2^(m+1)
  ·have h4:b-2^m<2^m:=by omega
   simp[h1,h2,h3,h4]
  ·have h4:¬b-2^m<2^m:=by omega
   simp[h1,h2,h3,h4]
theorem zn2 {n p N R:Nat}{f:Nat->Bool}(hp:p<n)(h:zX n N f)(r:zX n R (fun b=>b.testBit p)) :
  zX n ((N&&&R) / 2^2^p|||(N ^^^ (N&&&R))*2^2^p) (fun b=>f (zO b p (!b.testBit p))):=fun b=>by
 have o:=Uc h r
 have z:=Qz h o
 have pp:=Nat.two_pow_pos p
 rw[Nat.testBit_or,Nat.testBit_mul_two_pow,Nat.testBit_div_two_pow,o,z]
 dsimp only
 by_cases hb:b<2^n
 ·cases hbit:b.testBit p with
  | false =>
   have e:zO b p (!false)=b+2^p:=by
    unfold zO
    rw[hbit,if_neg (by decide),if_pos (by decide)]
   have lt:b+2^p<2^n:=by rw[<-e];exact xg hb hp
   rw[e,tE,hbit]
   by_cases h1:2^p<=b
   ·have e2:(b-2^p).testBit p=true:=by
     obtain⟨c,rfl⟩:∃c,b=c+2^p:=⟨b-2^p,by omega⟩
     rw[tE] at hbit
     rw[Nat.add_sub_cancel]
     simpa using hbit
    rw[e2]
    have h4:b-2^p<2^n:=by omega
    simp[hb,lt,h1,h4]
   ·simp[hb,lt,h1]
  | true =>
   have ge:=zgh hbit
   have e:zO b p (!true)=b-2^p:=by
    unfold zO
    rw[hbit,if_neg (by decide),if_neg (by decide)]
   have e2:(b-2^p).testBit p=false:=by
    obtain⟨c,rfl⟩:∃c,b=c+2^p:=⟨b-2^p,by omega⟩
    rw[tE] at hbit
    rw[Nat.add_sub_cancel]
    simpa using hbit
   rw[e,tE,hbit,e2]
   have h4:b-2^p<2^n:=by omega
   simp[hb,ge,h4]
 ·have h3:¬b+2^p<2^n:=by omega
  have h5:(decide (2^p<=b)&&(decide (b-2^p<2^n)&&(f (b-2^p) != (f (b-2^p)&&(b-2^p).testBit p))))=false:=by
   by_cases h1:2^p<=b
   ·by_cases h4:b-2^p<2^n
    ·
     have e:(b-2^p).testBit p=true:=by
      cases q:(b-2^p).testBit p with
      | true=>rfl
      | false =>
       exfalso
       have l:=xg (v:=true) h4 hp
       unfold zO at l
       rw[q,if_neg (by decide),if_pos rfl] at l
       omega
     rw[e]
     cases f (b-2^p)<;>simp
    ·simp[h4]
   ·simp[h1]
  rw[h5]
  simp[hb,h3]
theorem Ja (a:Nat):a%2=(a.testBit 0).toNat:=by
 rw[Nat.testBit_zero]
 have:=Nat.mod_two_eq_zero_or_one a
 rcases this with h | h<;>rw[h]<;>rfl
theorem zlA:∀(n a b:Nat),a<=n->(a ^^^ b)+2*(a&&&b)=a+b
 | 0,a,b,h=>by
  have:a=0:=by omega
  subst this;simp
 | n+1,a,b,h=>by
  by_cases h0:a=0
  ·subst h0;simp
  ·have ih:=zlA n (a / 2) (b / 2) (by omega)
   have e1:(a ^^^ b) / 2=a / 2 ^^^ b / 2:=Nat.xor_div_two
   have e2:(a&&&b) / 2=a / 2&&&b / 2:=Nat.and_div_two
   have d1:=Nat.div_add_mod (a ^^^ b) 2
   have d2:=Nat.div_add_mod (a&&&b) 2
   have d3:=Nat.div_add_mod a 2
   have d4:=Nat.div_add_mod b 2
   rw[e1] at d1
   rw[e2] at d2
   cases ha:a.testBit 0<;>cases hb:b.testBit 0
   ·have m1:(a ^^^ b)%2=0:=by rw[Ja,Nat.testBit_xor,ha,hb];rfl
    have m2:(a&&&b)%2=0:=by rw[Ja,Nat.testBit_and,ha,hb];rfl
    have m3:a%2=0:=by rw[Ja,ha];rfl
    have m4:b%2=0:=by rw[Ja,hb];rfl
    omega
   ·have m1:(a ^^^ b)%2=1:=by rw[Ja,Nat.testBit_xor,ha,hb];rfl
    have m2:(a&&&b)%2=0:=by rw[Ja,Nat.testBit_and,ha,hb];rfl
    have m3:a%2=0:=by rw[Ja,ha];rfl
    have m4:b%2=1:=by rw[Ja,hb];rfl
    omega
   ·have m1:(a ^^^ b)%2=1:=by rw[Ja,Nat.testBit_xor,ha,hb];rfl
    have m2:(a&&&b)%2=0:=by rw[Ja,Nat.testBit_and,ha,hb];rfl
    have m3:a%2=1:=by rw[Ja,ha];rfl
    have m4:b%2=0:=by rw[Ja,hb];rfl
    omega
   ·have m1:(a ^^^ b)%2=0:=by rw[Ja,Nat.testBit_xor,ha,hb];rfl
    have m2:(a&&&b)%2=1:=by rw[Ja,Nat.testBit_and,ha,hb];rfl
    have m3:a%2=1:=by rw[Ja,ha];rfl
    have m4:b%2=1:=by rw[Ja,hb];rfl
    omega
theorem zn3:∀(n a b:Nat),a<=n->(a|||b)+(a&&&b)=a+b
 | 0,a,b,h=>by
  have:a=0:=by omega
  subst this;simp
 | n+1,a,b,h=>by
  by_cases h0:a=0
  ·subst h0;simp
  ·have ih:=zn3 n (a / 2) (b / 2) (by omega)
   have e1:(a|||b) / 2=a / 2|||b / 2:=Nat.or_div_two
   have e2:(a&&&b) / 2=a / 2&&&b / 2:=Nat.and_div_two
   have d1:=Nat.div_add_mod (a|||b) 2
   have d2:=Nat.div_add_mod (a&&&b) 2
   have d3:=Nat.div_add_mod a 2
   have d4:=Nat.div_add_mod b 2
   rw[e1] at d1
   rw[e2] at d2
   cases ha:a.testBit 0<;>cases hb:b.testBit 0
   ·have m1:(a|||b)%2=0:=by rw[Ja,Nat.testBit_or,ha,hb];rfl
    have m2:(a&&&b)%2=0:=by rw[Ja,Nat.testBit_and,ha,hb];rfl
    have m3:a%2=0:=by rw[Ja,ha];rfl
    have m4:b%2=0:=by rw[Ja,hb];rfl
    omega
   ·have m1:(a|||b)%2=1:=by rw[Ja,Nat.testBit_or,ha,hb];rfl
    have m2:(a&&&b)%2=0:=by rw[Ja,Nat.testBit_and,ha,hb];rfl
    have m3:a%2=0:=by rw[Ja,ha];rfl
    have m4:b%2=1:=by rw[Ja,hb];rfl
    omega
   ·have m1:(a|||b)%2=1:=by rw[Ja,Nat.testBit_or,ha,hb];rfl
    have m2:(a&&&b)%2=0:=by rw[Ja,Nat.testBit_and,ha,hb];rfl
    have m3:a%2=1:=by rw[Ja,ha];rfl
    have m4:b%2=0:=by rw[Ja,hb];rfl
    omega
   ·have m1:(a|||b)%2=1:=by rw[Ja,Nat.testBit_or,ha,hb];rfl
    have m2:(a&&&b)%2=1:=by rw[Ja,Nat.testBit_and,ha,hb];rfl
    have m3:a%2=1:=by rw[Ja,ha];rfl
    have m4:b%2=1:=by rw[Ja,hb];rfl
    omega
theorem zrV (a b:Nat):Builtin.bitAnd (a:Int) (b:Int)=((a&&&b:Nat):Int):=by
 unfold Builtin.bitAnd
 rw[decide_eq_true (Int.natCast_nonneg a),decide_eq_true (Int.natCast_nonneg b)]
 simp
theorem orI (a b:Nat):Builtin.bitOr (a:Int) (b:Int)=((a|||b:Nat):Int):=by
 rw[PyProof.Rows.bitOr_and,zrV]
 have:=zn3 a a b (zCY _)
 omega
theorem zvu (a b:Nat):Builtin.bitXor (a:Int) (b:Int)=((a ^^^ b:Nat):Int):=by
 rw[PyProof.Rows.bitXor_and,zrV]
 have:=zlA a a b (zCY _)
 omega
theorem zti (n:Nat):(2:Int)^n=((2^n:Nat):Int):=by simp
end Zk
namespace L2
open PySem PySem.Spec PyProof.Rows Zk
section
variable {X:Cx}
def ztj:R2:=fun x y H Q=>∃a n:Nat,x=.int a/\y=.int n/\a<2^10000/\n<=10000/\Q (.int (a*2^n:Nat)) H
theorem W9:Qu X (binaryOp .LShift) ztj:=by
 intro pins s σ H x y v u Q I rx ry h
 obtain⟨a,n,rfl,rfl,ha,hn,q⟩:=h
 obtain⟨t,rfl⟩:=rx
 obtain⟨t',rfl⟩:=ry
 have hb:Builtin.Int.intBits (a:Int)<=10000:=intBits_le (by simpa using ha)
 refine lshift_int (Int.natCast_nonneg n) ?_ ?_
 ·have e:(2:Int)^27=134217728:=by decide
  rw[e];omega
 ·rw[zDm]
  have e:(a:Int)*2^n=((a*2^n:Nat):Int):=by rw[zti,Int.natCast_mul]
  rw[e]
  exact⟨.int (a*2^n:Nat),H,I.tok _,⟨_,rfl⟩,q⟩
def ztk:R2:=fun x y H Q=>∃a n:Nat,x=.int a/\y=.int n/\Q (.int (a / 2^n:Nat)) H
theorem zp0:Qu X (binaryOp .RShift) ztk:=by
 intro pins s σ H x y v u Q I rx ry h
 obtain⟨a,n,rfl,rfl,q⟩:=h
 refine zrF pins s σ H _ _ v u Q I rx ry ⟨_,_,rfl,rfl,Int.natCast_nonneg n,?_⟩
 show Q (.int ((a:Int) / 2^(n:Int).toNat)) H
 rw[zDm,zti,<-Int.natCast_ediv]
 exact q
def rN2 (g:Nat->Nat->Nat):R2:=fun x y H Q=>∃a b:Nat,x=.int a/\y=.int b/\Q (.int (g a b:Nat)) H
theorem Zz:Qu X (binaryOp .BitAnd) (rN2 (·&&&·)):=by
 intro pins s σ H x y v u Q I rx ry h
 obtain⟨a,b,rfl,rfl,q⟩:=h
 exact zrG pins s σ H _ _ v u Q I rx ry ⟨_,_,rfl,rfl,by show Q (.int (Builtin.bitAnd a b)) H;rw[zrV];exact q⟩
theorem QB:Qu X (binaryOp .BitOr) (rN2 (·|||·)):=by
 intro pins s σ H x y v u Q I rx ry h
 obtain⟨a,b,rfl,rfl,q⟩:=h
 exact zsW pins s σ H _ _ v u Q I rx ry ⟨_,_,rfl,rfl,by show Q (.int (Builtin.bitOr a b)) H;rw[orI];exact q⟩
theorem Ly:Qu X (binaryOp .BitXor) (rN2 (· ^^^ ·)):=by
 intro pins s σ H x y v u Q I rx ry h
 obtain⟨a,b,rfl,rfl,q⟩:=h
 exact zrH pins s σ H _ _ v u Q I rx ry ⟨_,_,rfl,rfl,by show Q (.int (Builtin.bitXor a b)) H;rw[zvu];exact q⟩
end
end L2
namespace L2
open PySem PySem.Spec PyProof.Rows
def strsOf:List Expr->Option (List Str)
 | []=>some []
 | .Constant (.str x) _ _::r=>(strsOf r).map (x::·)
 | _=>none
theorem zij {e:Expr}{r:List Expr}{xs:List Str}(h:strsOf (e::r)=some xs):∃x j p ys,e=.Constant (.str x) j p/\strsOf r=some ys/\xs=x::ys:=by
 cases e with
 | Constant c j p =>
  cases c with
  | str x =>
   have h':(strsOf r).map (x::·)=some xs:=h
   cases hr:strsOf r with
   | none=>rw[hr] at h';cases h'
   | some ys =>
    rw[hr] at h'
    exact⟨x,j,p,ys,rfl,rfl,(zDd h').symm⟩
  | _=>cases h
 | _=>cases h
def ztl (xs:List Str):TA:=fun _ H Q=>Q (xs.map V.str) H
def zq5 (xs:List Str):TE:=fun _ H Q=>xs.length<=sizeLine/\∀p,H p=none->Q (.ref p) (upd H p (.lst (xs.map V.str)))
section
variable {X:Cx}
theorem zp1 {es:List Expr}:∀{xs:List Str},strsOf es=some xs->PA X es (ztl xs):=by
 induction es with
 | nil =>
  intro xs h
  cases h
  exact fun pos pins s σ H Q I q=>zc pos pins s σ H Q I q
 | cons e r ih =>
  intro xs h
  obtain⟨x,j,p,ys,rfl,hr,rfl⟩:=zij h
  exact fun pos pins s σ H Q I q=>za (zZ (x:=x) (j:=j) (pos:=p)) (ih hr) rfl pos pins s σ H Q I q
theorem zp2 {es:List Expr}{pos:Pos}{xs:List Str}(h:strsOf es=some xs):PE X (.List es pos) (zq5 xs):=by
 intro pins s σ H Q I q
 refine xq (zp1 h) pins s σ H Q I ⟨?_,q.2⟩
 rw[zCI];exact q.1
def zgY:Stmt->Option (Str×List Str)
 | .Assign [.Name x _] (.List es _) _=>(strsOf es).map (x,·)
 | _=>none
theorem zgZ {st:Stmt}{x:Str}{xs:List Str}(h:zgY st=some (x,xs)):∃p es q r,st=.Assign [.Name x p] (.List es q) r/\strsOf es=some xs:=by
 unfold zgY at h
 split at h
 ·rename_i y p es q r
  cases hs:strsOf es with
  | none=>rw[hs] at h;cases h
  | some ys =>
   rw[hs] at h
   cases h
   exact⟨_,_,_,_,rfl,hs⟩
 ·cases h
theorem zp3 {i:Nat}{x:Str}{xs:List Str}{st:Stmt}(h:zgY st=some (x,xs))(hN:X.N.Nodup)(hi:X.N[i]?=some x)(hx:Loc X.env.scope x)(hf:X.fn x=true\/X.env.scope.names.lookup x=some .local):PS X st (zry (zq5 xs) (N5 i)):=by
 obtain⟨p,es,q,r,rfl,hs⟩:=zgZ h
 exact zF hN hi hx (zp2 hs) rfl hf
end
end L2
set_option exponentiation.threshold 20000
namespace Zk
open PySem L2
section
variable {K:Frag}
theorem zik {a k:Nat}(h:a<2^k)(hk:k<=10000):a<2^10000:=zCR h (zDe (by decide) hk)
theorem zjY {n:Nat}(hn:n<=8):2^n<=256:=zDe (n:=2) (by decide) hn
def Wt:Sp:=fun vs H Q _=>∃n:Nat,vs=[.int n]/\n<=8/\Q (.int ((2^2^n-1:Nat):Int)) H
def tU:Sp:=fun vs H Q _=>∃p n:Nat,vs=[.int p,.int n]/\p<n/\n<=8/\∀R:Nat,zX n R (fun b=>b.testBit p)->Q (.int R) H
def Wu:Sp:=fun vs H Q _=>∃(N p n:Nat) (f:Nat->Bool),vs=[.int N,.int p,.int n]/\p<n/\n<=8/\zX n N f/\∀R:Nat,zX n R (fun b=>f (zO b p (!b.testBit p)))->Q (.int R) H
def yh:List Bool->Nat
 | []=>0
 | b::r=>b.toNat+2*yh r
theorem zd1:∀r:List Bool,yh r<2^r.length
 | []=>by decide
 | b::r=>by
  have:=zd1 r
  show b.toNat+2*yh r<2^(r.length+1)
  rw[Nat.pow_succ]
  cases b<;>simp<;>omega
theorem Vv:∀(r:List Bool) (i:Nat),(yh r).testBit i=(r[i]?).getD false
 | [],i=>by simp[yh]
 | b::r,0=>by
  show(b.toNat+2*yh r).testBit 0=b
  rw[Nat.testBit_zero]
  cases b<;>simp<;>omega
 | b::r,i+1=>by
  show(b.toNat+2*yh r).testBit (i+1)=(r[i]?).getD false
  rw[Nat.testBit_succ,<-Vv r i]
  have:(b.toNat+2*yh r) / 2=yh r:=by cases b<;>simp<;>omega
  rw[this]
abbrev yd (r:List Bool):List V:=r.map fun b=>V.int (b.toNat:Nat)
theorem zd2 {H:Hp}{p:Addr}(h:H p=none)(o:HO):Same H (upd H p o):=fun b u q=>by rw[zJ (zE q h)];exact q
def zax (K:Frag):Sp:=fun vs H Q _=>∃(l:Addr) (ns:List Int) (i:Int),vs=[.ref l,.int i]/\zM K H l (ns.map V.int)/\0<=i/\∀v:Int,Q (.int v) H
def zdv:Sp:=fun vs H Q _=>∃i:Int,vs=[.int i]/\Q (.bl true) H
def Mf:Sp:=fun vs H Q _=>∃(c:Int) (k:Nat) (b:Int),vs=[.int c,.int k,.int b]/\k<=40/\0<b/\b<1073741824/\∀r:Int,0<=r->r<b->Q (.int r) H
def Y9:List Str:=["a", "b", "c", "d", "e", "f", "g", "h"]
structure vH (os:List Str):Prop where
 nd:os.Nodup
 mem:∀x∈os,x∈Y9
 pos:0<os.length
theorem zd3 {α:Type}[DecidableEq α]:∀{xs ys:List α},xs.Nodup->(∀x∈xs,x∈ys)->xs.length<=ys.length
 | [],_,_,_=>zC5 _
 | x::xs,ys,nd,h=>by
  obtain⟨h1,h2⟩:=List.nodup_cons.mp nd
  have hx:=h x zC2
  have ih:=zd3 (xs:=xs) (ys:=ys.erase x) h2 fun y hy=>(List.mem_erase_of_ne (fun e:y=x=>h1 (by rw[<-e];exact hy))).mpr (h y (zCT _ hy))
  rw[List.length_erase_of_mem hx] at ih
  have:=List.length_pos_of_mem hx
  rw[zCU]
  omega
theorem vH.le {os:List Str}(h:vH os):os.length<=8:=zd3 h.nd h.mem
def RQ (H:Hp):Sn->Addr->Prop
 | .c0 y,p=>H p=some (.tup [.str (Sn.word (.c0 y))])
 | .mk x,p=>H p=some (.tup [.str "mark", .str x])
 | .nt s,p=>∃q,H p=some (.tup [.str "not", .ref q])/\RQ H s q
 | .b2 o s t,p=>∃q r,H p=some (.tup [.str (w2 o),.ref q,.ref r])/\RQ H s q/\RQ H t r
 | .q1 o x s,p=>∃q,H p=some (.tup [.str (if o then "some" else "each"),.str x,.ref q])/\RQ H s q
def yC (H H':Hp):Prop:=∀b xs,H b=some (.tup xs)->H' b=some (.tup xs)
theorem yC.trans {H H1 H2:Hp}(a:yC H H1)(b:yC H1 H2):yC H H2:=fun c o h=>b c o (a c o h)
theorem yC.of {H H':Hp}(g:Same H H'):yC H H':=fun b xs h=>g b _ h
theorem yC.new {H:Hp}{p:Addr}(h:H p=none)(o:HO):yC H (upd H p o):=fun b u q=>by rw[zJ (zE q h)];exact q
theorem yC.lst {H:Hp}{p:Addr}{xs:List V}(h:H p=some (.lst xs))(o:HO):yC H (upd H p o):=fun b u q=>by rw[zJ (NQ q h (fun z=>nomatch z))];exact q
theorem RQ.mono {H H':Hp}(g:yC H H'):∀{s:Sn} {p:Addr},RQ H s p->RQ H' s p
 | .c0 y,p,h=>g _ _ h
 | .mk x,p,h=>g _ _ h
 | .nt s,p,⟨q,h,k⟩=>⟨q,g _ _ h,k.mono g⟩
 | .b2 o s t,p,⟨q,r,h,k,l⟩=>⟨q,r,g _ _ h,k.mono g,l.mono g⟩
 | .q1 o x s,p,⟨q,h,k⟩=>⟨q,g _ _ h,k.mono g⟩
theorem zg0 (o:Bool)(x:Str)(s:Sn):Sn.word (.q1 o x s)=if o then Str.ofString "some" else Str.ofString "each" := by cases o<;>rfl
theorem RQ.shape {H:Hp}:∀{s:Sn} {p:Addr},RQ H s p->∃qs:List Addr,H p=some (.tup (.str s.word::(s.letters.map V.str++qs.map V.ref)))/\Paired (RQ H) s.parts qs
 | .c0 y,p,h=>⟨[],h,.nil⟩
 | .mk x,p,h=>⟨[],h,.nil⟩
 | .nt s,p,⟨q,h,k⟩=>⟨[q],h,.cons k .nil⟩
 | .b2 o s t,p,⟨q,r,h,k,l⟩=>⟨[q,r],h,.cons k (.cons l .nil)⟩
 | .q1 o x s,p,⟨q,h,k⟩=>⟨[q],by rw[zg0];exact h,.cons k .nil⟩
theorem zg1 {α:Type}{xs:List α}{i:Int}(h0:-(xs.length:Int)<=i)(h1:i<xs.length):∃(j:Nat) (v:α),atI xs i=some v/\xs[j]?=some v:=by
 by_cases h:0<=i
 ·have hj:i.toNat<xs.length:=by omega
  have q:=wk (xs:=xs) (j:=i.toNat) (zCJ hj)
  have e:((i.toNat:Nat):Int)=i:=by omega
  rw[e] at q
  exact⟨_,_,q,zCJ hj⟩
 ·have hj:(i+xs.length).toNat<xs.length:=by omega
  refine⟨_,_,?_,zCJ hj⟩
  unfold atI ixN
  rw[if_neg h,if_pos h0]
  show xs[(i+xs.length).toNat]?=_
  exact zCJ hj
def JN:List Str:=["mark", "mark", "not", "and", "or", "either", "if", "and", "or", "some", "each", "yes", "no", "mark"]
structure Made (H0 H:Hp)(os:List Str)(m kd:Addr)(ps:List Addr)(d:Nat):Prop where
 old:Same H0 H
 mad:H m=some (.lst (ps.map V.ref))
 kin:H kd=some (.lst (JN.map V.str))
 ne:ps≠[]
 all:∀p∈ps,∃s,RQ H s p/\s.Ub os/\s.depth<=d
theorem Made.push {H0 H:Hp}{os:List Str}{m kd p:Addr}{ps:List Addr}{d:Nat}{xs:List V}(M:Made H0 H os m kd ps d)(fm:H0 m=none)(hp:H p=none){s:Sn}(hs:RQ (upd H p (.tup xs)) s p)(ho:s.Ub os)(hd:s.depth<=d+1)(hk:m≠kd) :
  Made H0 (upd (upd H p (.tup xs)) m (.lst ((ps++[p]).map V.ref))) os m kd (ps++[p]) (d+1):=by
 have hm:m≠p:=zE M.mad hp
 have hkp:kd≠p:=zE M.kin hp
 have mad':(upd H p (.tup xs)) m=some (.lst (ps.map V.ref)):=by rw[zJ hm];exact M.mad
 have t1:yC H (upd H p (.tup xs)):=yC.new hp _
 have t2:yC (upd H p (.tup xs)) (upd (upd H p (.tup xs)) m (.lst ((ps++[p]).map V.ref))):=yC.lst mad' _
 refine⟨fun b o h=>?_,zj,?_,by simp,fun q hq=>?_⟩
 ·have h1:=M.old b o h
  rw[zJ (zE h fm),zJ (zE h1 hp)]
  exact h1
 ·rw[zJ (Ne.symm hk),zJ hkp];exact M.kin
 ·rcases List.mem_append.mp hq with z | z
  ·obtain⟨s',q1,q2,q3⟩:=M.all q z
   exact⟨s',(q1.mono t1).mono t2,q2,by omega⟩
  ·have z':q=p:=by simpa using z
   subst z'
   exact⟨s,hs.mono t2,ho,hd⟩
def U9 (K:Frag):Sp:=fun vs H Q _=>∃(sc ol:Addr) (ns:List Int) (t m:Nat) (os:List Str),vs=[.ref sc,.int t,.int m,.ref ol]/\zM K H sc (ns.map V.int)/\zM K H ol (os.map V.str)/\0<os.length/\os.length<=8/\0<m/\m<=40/\t<=60 /\
 ∀(p:Addr) (H':Hp) (s:Sn),Same H H'->RQ H' s p->s.Ub os->s.depth<=m->Q (.ref p) H'
theorem zcH {os:List Str}(h0:0<os.length)(r:Int):∃x,x∈os/\atI (os.map V.str) (r%((os.map V.str).length:Nat))=some (.str x):=by
 have e:(os.map V.str).length=os.length:=zCI _
 have m0:0<=r%((os.map V.str).length:Nat):=zDs _ (by omega)
 have m1:r%((os.map V.str).length:Nat)<((os.map V.str).length:Nat):=zDo _ (by omega)
 obtain⟨j,v,q1,q2⟩:=zg1 (xs:=os.map V.str) (i:=r%((os.map V.str).length:Nat)) (by omega) m1
 rw[zCK] at q2
 cases hx:os[j]? with
 | none=>rw[hx] at q2;cases q2
 | some x =>
  rw[hx] at q2
  cases q2
  exact⟨x,zCN hx,q1⟩
theorem zbu {ps:List Addr}{i:Int}(h0:-(ps.length:Int)<=i)(h1:i<ps.length):∃p,p∈ps/\atI (ps.map V.ref) i=some (.ref p):=by
 have e:(ps.map V.ref).length=ps.length:=zCI _
 obtain⟨j,v,q1,q2⟩:=zg1 (xs:=ps.map V.ref) (i:=i) (by omega) (by omega)
 rw[zCK] at q2
 cases hx:ps[j]? with
 | none=>rw[hx] at q2;cases q2
 | some x =>
  rw[hx] at q2
  cases q2
  exact⟨x,zCN hx,q1⟩
end
end Zk
namespace L2
open PySem
section
variable {α β:Type}{R S:α->β->Prop}
theorem Wv:∀{xs ys:List α} {us ws:List β},Paired R xs us->Paired R ys ws->Paired R (xs++ys) (us++ws)
 | _,_,_,_,.nil,s=>s
 | _,_,_,_,.cons r t,s=>.cons r (Wv t s)
theorem vm (f:∀a b,R a b->S a b):∀{xs:List α} {us:List β},Paired R xs us->Paired S xs us
 | _,_,.nil=>.nil
 | _,_,.cons r t=>.cons (f _ _ r) (vm f t)
theorem xT:∀{xs:List α} {us:List β},Paired R xs us->xs.length=us.length
 | _,_,.nil=>rfl
 | _,_,.cons _ t=>by rw[zCU,zCU,xT t]
theorem Yr:∀{xs:List α} {us:List β} {i:Nat} {x:α},Paired R xs us->xs[i]?=some x->∃u,us[i]?=some u/\R x u
 | _,_,_,_,.nil,e=>by simp at e
 | _,_,0,_,.cons r _,e=>by simp at e;subst e;exact⟨_,rfl,r⟩
 | _,_,i+1,x,.cons _ t,e=>by
  obtain⟨u,h1,h2⟩:=Yr (i:=i) (x:=x) t (by simpa using e)
  exact⟨u,by simpa using h1,h2⟩
theorem zcI:∀{xs:List α} {us:List β} {i:Nat} {u:β},Paired R xs us->us[i]?=some u->∃x,xs[i]?=some x/\R x u
 | _,_,_,_,.nil,e=>by simp at e
 | _,_,0,_,.cons r _,e=>by simp at e;subst e;exact⟨_,rfl,r⟩
 | _,_,i+1,x,.cons _ t,e=>by
  obtain⟨u,h1,h2⟩:=zcI (i:=i) (u:=x) t (by simpa using e)
  exact⟨u,by simpa using h1,h2⟩
theorem yW {α:Type}{xs:List α}{i:Nat}{x:α}(h:xs[i]?=some x):xs.take (i+1)=xs.take i++[x]:=by
 rw[List.take_succ,h]
 rfl
theorem Same.ztm {K:Frag}{H H':Hp}{a:Addr}{xs:List V}(e:Same H H')(h:vW K H a xs):vW K H' a xs:=by
 rcases h with (h | ⟨o,h⟩) | h
 ·exact .inl (.inl (e _ _ h))
 ·exact .inl (.inr ⟨o,e _ _ h⟩)
 ·exact .inr h
theorem Same.new {H:Hp}{p:Addr}(h:H p=none)(o:HO):Same H (upd H p o):=fun b u q=>by rw[zJ (zE q h)];exact q
theorem Same.over {H H':Hp}{p:Addr}(g:Same H H')(h:H p=none)(o:HO):Same H (upd H' p o):=fun b u q=>by rw[zJ (zE q h)];exact g b u q
theorem at0 {α:Type}{x:α}{xs:List α}:atI (x::xs) 0=some x:=wk (j:=0) rfl
theorem at1 {α:Type}{x y:α}{xs:List α}:atI (x::y::xs) 1=some y:=wk (j:=1) rfl
theorem at2 {α:Type}{x y z:α}{xs:List α}:atI (x::y::z::xs) 2=some z:=wk (j:=2) rfl
end
section
variable {K:Frag}{a:Addr}{xs:List V}{σ:St}{js:List Nat}{te:TE}{H:Hp}{Qf:Addr->Hp->List V->Prop}
theorem zdw (R:V->V->Prop)(hq:zM K H a xs)(hz:xs.length<=sizeLine)
  (hs:∀(i:Nat) x H',xs[i]?=some x->Same H H'->te (Z1 σ js (some x)) H' fun v H3=>R x v/\Same H H3)
  (me:∀ σ H Q Q',(∀v H1,Q v H1->Q' v H1)->te σ H Q->te σ H Q')
  (hd:∀ys H' p,Paired R xs ys->Same H H'->H' p=none->Qf p H' ys) :
  ∃W:Nat->Nat->List V->Hp->Prop,(∃m,W 0 m [] H)/\∀i m ys H,W i m ys H ->
   ((Itl K a).stop i H/\∀p,H p=none->Qf p H ys) \/
   ((Itl K a).go i H/\ys.length<sizeLine/\∀x H',(Itl K a).JG i H x H'->zdX (Z1 σ js (some x)) H' fun b H2 =>
    if b=true then te (Z1 σ js (some x)) H2 fun v H3=>∃m',m'<m/\W (i+1) m' (ys++[v]) H3 else ∃m',m'<m/\W (i+1) m' ys H2):=by
 refine zly (fun i ys H'=>Same H H'/\Paired R (xs.take i) ys) ⟨Same.refl _,.nil⟩ hz ?_ ?_ (fun _ _ _ _ h q=>h _ _ q) me ?_
 ·rintro i ys H' hi ⟨g,r⟩
  have:=xT r
  rw[zC6] at this
  exact⟨g.seq hq,by omega⟩
 ·rintro i x ys H' hx ⟨g,r⟩
  show te (Z1 σ js (some x)) H' fun v H3=>Same H H3/\Paired R (xs.take (i+1)) (ys++[v])
  refine me _ _ _ _ (fun v H3 h3=>⟨h3.2,?_⟩) (hs i x H' hx g)
  rw[yW hx]
  exact Wv r (.cons h3.1 .nil)
 ·rintro ys H' p ⟨g,r⟩ hp
  rw[zDb] at r
  exact hd ys H' p r g hp
theorem zlB (R:V->V->Prop)(hq:vW K H a xs)(hz:xs.length<=sizeLine)
  (hs:∀(i:Nat) x H',xs[i]?=some x->Same H H'->te (Z1 σ js (some x)) H' fun v H3=>R x v/\Same H H3)
  (me:∀ σ H Q Q',(∀v H1,Q v H1->Q' v H1)->te σ H Q->te σ H Q')
  (hd:∀ys H' p,Paired R xs ys->Same H H'->H' p=none->Qf p H' ys) :
  ∃W:Nat->Nat->List V->Hp->Prop,(∃m,W 0 m [] H)/\∀i m ys H,W i m ys H ->
   ((Itt K a).stop i H/\∀p,H p=none->Qf p H ys) \/
   ((Itt K a).go i H/\ys.length<sizeLine/\∀x H',(Itt K a).JG i H x H'->zdX (Z1 σ js (some x)) H' fun b H2 =>
    if b=true then te (Z1 σ js (some x)) H2 fun v H3=>∃m',m'<m/\W (i+1) m' (ys++[v]) H3 else ∃m',m'<m/\W (i+1) m' ys H2):=by
 refine znQ (fun i ys H'=>Same H H'/\Paired R (xs.take i) ys) ⟨Same.refl _,.nil⟩ hz ?_ ?_ (fun _ _ _ _ h q=>h _ _ q) me ?_
 ·rintro i ys H' hi ⟨g,r⟩
  have:=xT r
  rw[zC6] at this
  exact⟨g.ztm hq,by omega⟩
 ·rintro i x ys H' hx ⟨g,r⟩
  show te (Z1 σ js (some x)) H' fun v H3=>Same H H3/\Paired R (xs.take (i+1)) (ys++[v])
  refine me _ _ _ _ (fun v H3 h3=>⟨h3.2,?_⟩) (hs i x H' hx g)
  rw[yW hx]
  exact Wv r (.cons h3.1 .nil)
 ·rintro ys H' p ⟨g,r⟩ hp
  rw[zDb] at r
  exact hd ys H' p r g hp
theorem JQ {f:V->V}:∀{xs ys:List V},Paired (fun x v=>v=f x) xs ys->ys=xs.map f
 | _,_,.nil=>rfl
 | _,_,.cons r t=>by rw[zC7,r,JQ t]
end
section
variable {X:Cx}{K:Frag}{a:Expr}{ta:TE}
theorem JR (h:X.K=K):Qu X (compareOp .In) (rIn K false):=by subst h;exact Ux
theorem zmz (h:X.K=K):Qu X (compareOp .NotIn) (rIn K true):=by subst h;exact V8
theorem zay (h:X.K=K):Wm X (.builtin "isinstance") (fun xs H Q=>∃x T t b,xs=[x,.ty T]/\zap K H x t/\PySem.W.kitOne K t (.type T)=some b/\Q (.bl b) H):=by subst h;exact Y8
theorem Vw (h:X.K=K):IxR X (zrL K):=by subst h;exact yV
theorem zfr (h:X.K=K):Wm X (.builtin "len") (fun xs H Q=>∃p ys,xs=[.ref p]/\(zM K H p ys\/vW K H p ys)/\Q (.int ys.length) H):=by subst h;exact zG
theorem zmA (h:X.K=K)(ha:PE X a ta)(he:∀whole,isTrue a X.env whole=(do let v <-whole;standAt a.pos;holding [v] (truthy v))):PT X a (fun σ H Q=>ta σ H fun x H'=>∃k,zpC K x H' k/\Q k H'):=by subst h;exact vg ha he
def zd4 (sp:Sp):Prop:=∀vs H Q Q' E,(∀v H1,Q v H1->Q' v H1)->sp vs H Q E->sp vs H Q' E
theorem zn4 {sp:Sp}(m:zd4 sp):∀ σ H Q Q',(∀v H1,Q v H1->Q' v H1)->zf3 sp [] E0 (zaq (zc8 0) zjN) σ H Q->zf3 sp [] E0 (zaq (zc8 0) zjN) σ H Q' :=
 fun σ H Q Q' h ⟨v,e,q⟩=>⟨v,e,m _ _ _ _ _ h q⟩
theorem zaz (x:Str)(ts:List Str):inV (.str x) (ts.map V.str)=decide (x∈ts):=by
 induction ts with
 | nil=>rfl
 | cons t r ih =>
  have e:inV (.str x) ((t::r).map V.str)=((t==x)||inV (.str x) (r.map V.str)):=rfl
  rw[e,ih]
  by_cases h:t=x
  ·subst h;simp
  ·have h':¬x=t:=fun z=>h z.symm
   simp[h,h']
theorem vd (ts:List Str):(ts.map V.str).all uO=true:=by
 rw[List.all_map,zDc]
 exact fun _ _=>rfl
theorem zn5 {w:V}{rest:List V}{m n:Nat}(h:rest.length=m+n):K3 (w::rest) (some 1) (some (1+(m:Int)))=rest.take m:=by
 have e1:HT.Xl (w::rest).length 0 (some 1)=min 1 (w::rest).length:=HT.Ls _ _ 1
 have e2:HT.Xl (w::rest).length (w::rest).length (some (1+(m:Int)))=min (1+m) (w::rest).length:=by
  have z:(1:Int)+(m:Int)=((1+m:Nat):Int):=by omega
  rw[z];exact HT.Ls _ _ _
 have l:(w::rest).length=m+n+1:=by rw[zCU,h]
 unfold K3
 rw[e1,e2,l,Nat.min_eq_left (by omega),Nat.min_eq_left (by omega),List.drop_one,List.tail_cons]
 congr 1
 omega
theorem zn6 {w:V}{rest:List V}{m n:Nat}(h:rest.length=m+n):K3 (w::rest) (some (1+(m:Int))) none=rest.drop m:=by
 have e2:HT.Xl (w::rest).length 0 (some (1+(m:Int)))=min (1+m) (w::rest).length:=by
  have z:(1:Int)+(m:Int)=((1+m:Nat):Int):=by omega
  rw[z];exact HT.Ls _ _ _
 have l:(w::rest).length=m+n+1:=by rw[zCU,h]
 unfold K3
 rw[e2,HT.zdR,l,Nat.min_eq_left (by omega),Nat.add_comm 1 m,List.drop_succ_cons,List.take_of_length_le]
 rw[List.length_drop,h]
 omega
theorem zd5 {w:V}{rest:List V}{i:Int}{o:Option Int}(h:1<=i):¬(HT.Xl (w::rest).length 0 (some i)=0/\HT.Xl (w::rest).length (w::rest).length o=(w::rest).length):=by
 rintro⟨h1,_⟩
 have e:HT.Xl (w::rest).length 0 (some i)=min i.toNat (w::rest).length:=by
  have z:=HT.Ls (w::rest).length 0 i.toNat
  have z2:((i.toNat:Nat):Int)=i:=by omega
  rw[z2] at z
  exact z
 rw[e,zCU] at h1
 omega
end
end L2
namespace Zk
open PySem L2
section
variable {K:Frag}
def Sn.all:Sn->List Str
 | .c0 _=>[]
 | .mk x=>[x]
 | .nt s=>s.all
 | .b2 _ s t=>s.all++t.all
 | .q1 _ x s=>x::s.all
theorem Sn.zg2:∀(s:Sn) (x:Str),x∈s.all↔x∈s.letters\/∃t∈s.parts,x∈t.all
 | .c0 _,x=>by simp[Sn.all,Sn.letters,Sn.parts]
 | .mk y,x=>by simp[Sn.all,Sn.letters,Sn.parts]
 | .nt s,x=>by simp[Sn.all,Sn.letters,Sn.parts]
 | .b2 _ s t,x=>by simp[Sn.all,Sn.letters,Sn.parts]
 | .q1 _ y s,x=>by simp[Sn.all,Sn.letters,Sn.parts]
theorem Sn.Ud {os:List Str}:∀(s:Sn),s.Ub os↔∀x∈s.all,x∈os
 | .c0 _=>by simp[Sn.all,Sn.Ub]
 | .mk y=>by simp[Sn.all,Sn.Ub]
 | .nt s=>by simp only[Sn.all,Sn.Ub];exact Sn.Ud s
 | .b2 _ s t=>by
  simp only[Sn.all,Sn.Ub,List.mem_append]
  rw[Sn.Ud s,Sn.Ud t]
  exact⟨fun h x hx=>hx.elim (h.1 x) (h.2 x),fun h=>⟨fun x hx=>h x (.inl hx),fun x hx=>h x (.inr hx)⟩⟩
 | .q1 _ y s=>by
  simp only[Sn.all,Sn.Ub,List.mem_cons]
  rw[Sn.Ud s]
  exact⟨fun h x hx=>hx.elim (fun e=>by rw[e];exact h.1) (h.2 x),fun h=>⟨h y (.inl rfl),fun x hx=>h x (.inr hx)⟩⟩
theorem Sn.zaA:∀s:Sn,s.parts.length<=2
 | .c0 _=>by simp[Sn.parts]
 | .mk _=>by simp[Sn.parts]
 | .nt _=>by simp[Sn.parts]
 | .b2 _ _ _=>by simp[Sn.parts]
 | .q1 _ _ _=>by simp[Sn.parts]
theorem Sn.zd6:∀s:Sn,s.letters.length<=1
 | .c0 _=>by simp[Sn.letters]
 | .mk _=>by simp[Sn.letters]
 | .nt _=>by simp[Sn.letters]
 | .b2 _ _ _=>by simp[Sn.letters]
 | .q1 _ _ _=>by simp[Sn.letters]
def cnt (ss:List Sn):Nat:=(ss.map Sn.count).sum
theorem cnt_cons (s:Sn)(ss:List Sn):cnt (s::ss)=s.count+cnt ss:=rfl
theorem zp4 (ss ts:List Sn):cnt (ss++ts)=cnt ss+cnt ts:=by
 unfold cnt;rw[zCW,List.sum_append]
theorem Lz:∀ss:List Sn,cnt ss=ss.length+cnt (ss.flatMap Sn.parts)
 | []=>rfl
 | s::ss=>by
  rw[cnt_cons,List.flatMap_cons,zp4,Lz ss,Sn.zcG s,zCU]
  show 1+cnt s.parts+_=_
  omega
theorem zlC (ss:List Sn):ss.length<=cnt ss:=by rw[Lz];omega
theorem zbv {ss:List Sn}{t:Sn}:t∈ss.flatMap Sn.parts↔∃s∈ss,t∈s.parts:=List.mem_flatMap
def RW:Sp:=fun vs H Q _=>∃x:Str,vs=[.str x]/\Q (.bl (decide (x∈Y9))) H
theorem zcJ:zd4 RW:=fun vs H Q Q' E h ⟨x,e,q⟩=>⟨x,e,h _ _ q⟩
def zg3 (os:List Str):Bool:=decide (0<os.length)&&(os.all (fun x=>decide (x∈Y9))&&decide os.Nodup)
theorem zp5 {os:List Str}(h:vH os):zg3 os=true:=by
 unfold zg3
 rw[decide_eq_true h.pos,decide_eq_true h.nd,zDc.mpr fun x hx=>decide_eq_true (h.mem x hx)]
 rfl
def zgi (K:Frag):Sp:=fun vs H Q _=>∃(l:Addr) (os:List Str),vs=[.ref l]/\zM K H l (os.map V.str)/\os.length<=100/\∀H',Same H H'->Q (.bl (zg3 os)) H'
def zil (n:Nat)(ns:List Int):Bool:=decide (ns.length=n)&&ns.all (fun i=>i==0||i==1)
def zdx (K:Frag):Sp:=fun vs H Q _=>∃(l r:Addr) (xs:List V) (ns:List Int),vs=[.ref l,.ref r]/\zM K H l xs/\zM K H r (ns.map V.int)/\ns.length<=1000/\∀H',Same H H'->Q (.bl (zil xs.length ns)) H'
def vf:List (Str×Int×Int):=[("yes", 0,0),("no", 0,0),("mark", 1,0),("not", 0,1),("and", 0,2),("or", 0,2),("either", 0,2),("if", 0,2),("some", 1,1),("each", 1,1)]
theorem Xm (s:Sn):(s.word,((s.letters.length:Nat):Int),((s.parts.length:Nat):Int))∈vf:=by
 cases s with
 | c0 y =>
  cases y
  ·show((Str.ofString "no", (0:Int),(0:Int)):Str×Int×Int)∈vf
   decide +kernel
  ·show((Str.ofString "yes", (0:Int),(0:Int)):Str×Int×Int)∈vf
   decide +kernel
 | mk x =>
  show((Str.ofString "mark", (1:Int),(0:Int)):Str×Int×Int)∈vf
  decide +kernel
 | nt s =>
  show((Str.ofString "not", (0:Int),(1:Int)):Str×Int×Int)∈vf
  decide +kernel
 | b2 o s t =>
  show((w2 o,(0:Int),(2:Int)):Str×Int×Int)∈vf
  revert o
  decide +kernel
 | q1 o x s =>
  cases o
  ·show((Str.ofString "each", (1:Int),(1:Int)):Str×Int×Int)∈vf
   decide +kernel
  ·show((Str.ofString "some", (1:Int),(1:Int)):Str×Int×Int)∈vf
   decide +kernel
def Vx:Sp:=fun vs H Q _=>∃(p:Addr) (x:Str) (m n:Nat) (rest:List V),vs=[.ref p]/\H p=some (.tup (.str x::rest))/\(x,(m:Int),(n:Int))∈vf/\rest.length=m+n/\∀q,H q=none->Q (.ref q) (upd H q (.tup (rest.take m)))
def Ww:Sp:=fun vs H Q _=>∃(p:Addr) (x:Str) (m n:Nat) (rest:List V),vs=[.ref p]/\H p=some (.tup (.str x::rest))/\(x,(m:Int),(n:Int))∈vf/\rest.length=m+n/\∀q,H q=none->Q (.ref q) (upd H q (.tup (rest.drop m)))
theorem LC {H:Hp}{s:Sn}{p:Addr}(h:RQ H s p):∃qs:List Addr,H p=some (.tup (.str s.word::(s.letters.map V.str++qs.map V.ref)))/\Paired (RQ H) s.parts qs /\
  (s.letters.map V.str++qs.map V.ref).length=s.letters.length+s.parts.length/\(s.letters.map V.str++qs.map V.ref).take s.letters.length=s.letters.map V.str/\(s.letters.map V.str++qs.map V.ref).drop s.letters.length=qs.map V.ref:=by
 obtain⟨qs,h1,h2⟩:=h.shape
 have l:=xT h2
 refine⟨qs,h1,h2,by simp[l],?_,?_⟩
 ·rw[List.take_append_of_le_length (by simp),List.take_of_length_le (by simp)]
 ·rw[List.drop_append_of_le_length (by simp),List.drop_of_length_le (by simp)]
  rfl
def Ue (K:Frag):Sp:=fun vs H Q _=>∃(l:Addr) (ss:List Sn) (ps:List Addr),vs=[.ref l]/\zM K H l (ps.map V.ref)/\Paired (RQ H) ss ps/\ss.length<=400 /\
 ∀(l':Addr) (H':Hp) (ps':List Addr),Same H H'->H l'=none->H' l'=some (.lst (ps'.map V.ref))->Paired (RQ H') (ss.flatMap Sn.parts) ps'->Q (.ref l') H'
def zd7:Sp:=fun vs H Q _=>∃(p:Addr) (s:Sn),vs=[.ref p]/\RQ H s p/\(∀x∈s.letters,x∈Y9)/\∀H',Same H H'->Q (.bl true) H'
theorem zim:zd4 zd7:=fun vs H Q Q' E h ⟨p,s,e,h1,h2,q⟩=>⟨p,s,e,h1,h2,fun H' g=>h _ _ (q H' g)⟩
abbrev VC (sn:Sn)(zs:List Addr):List V:=V.str sn.word::(sn.letters.map V.str++zs.map V.ref)
def zlD:Sp:=fun vs H Q _=>∃(p:Addr) (s:Sn),vs=[.ref p]/\RQ H s p/\s.Ub Y9/\s.count<=200/\s.depth<=24/\∀H',Same H H'->Q (.bl true) H'
def zcK (K:Frag):Sp:=fun vs H Q _=>∃(l:Addr) (os:List Str),vs=[.ref l]/\zM K H l (os.map V.str)/\vH os/\∀H',Same H H'->Q .non H'
def zgj:Sp:=fun vs H Q _=>∃(p:Addr) (s:Sn),vs=[.ref p]/\RQ H s p/\s.Ub Y9/\s.count<=200/\s.depth<=24/\∀H',Same H H'->Q .non H'
def zgk (K:Frag):Sp:=fun vs H Q _=>∃(l r:Addr) (xs:List V) (ns:List Int),vs=[.ref l,.ref r]/\zM K H l xs/\zM K H r (ns.map V.int)/\ns.length<=1000/\zil xs.length ns=true/\∀H',Same H H'->Q .non H'
def zd8:Sp:=fun vs H Q _=>∃(p:Addr) (s:Sn),vs=[.ref p]/\RQ H s p/\s.count<=400/\∀(l:Addr) (H':Hp) (ts:List Sn) (ps:List Addr),Same H H'->H l=none->H' l=some (.lst (ps.map V.ref))->Paired (RQ H') ts ps ->
 ts.length=s.count->(∀x,(∃t∈ts,x∈t.letters)↔x∈s.all)->Q (.ref l) H'
def zcL:Sp:=fun vs H Q _=>∃(p:Addr) (s:Sn),vs=[.ref p]/\RQ H s p/\s.count<=400/\∀(l:Addr) (H':Hp) (xs:List Str),Same H H'->H l=none->H' l=some (.lst (xs.map V.str))->(∀x,x∈xs↔x∈s.all)->xs.length<=400->Q (.ref l) H'
def QC (K:Frag):Sp:=fun vs H Q _=>∃(l:Addr) (x:Str) (os:List Str),vs=[.ref l,.str x]/\zM K H l (os.map V.str)/\x∈os/\Q .non H
def zcM (K:Frag):Sp:=fun vs H Q _=>∃(l p:Addr) (os:List Str) (s:Sn),vs=[.ref l,.ref p]/\zM K H l (os.map V.str)/\RQ H s p/\s.count<=400/\s.Ub os/\∀H',Same H H'->Q .non H'
end
end Zk
namespace L2
open PySem
section
variable {K:Frag}{a:Addr}{xs:List V}{σ:St}{js:List Nat}{te:TE}{H:Hp}{Qf:Addr->Hp->List V->Prop}
theorem zp6 (R:Nat->V->Prop)(hq:vW K H a xs)(hz:xs.length<=sizeLine)
  (hs:∀(i:Nat) x H',xs[i]?=some x->Same H H'->te (Z1 σ js (some x)) H' fun v H3=>R i v/\Same H H3)
  (me:∀ σ H Q Q',(∀v H1,Q v H1->Q' v H1)->te σ H Q->te σ H Q')
  (hd:∀ys H' p,ys.length=xs.length->(∀(j:Nat) v,ys[j]?=some v->R j v)->Same H H'->H' p=none->Qf p H' ys) :
  ∃W:Nat->Nat->List V->Hp->Prop,(∃m,W 0 m [] H)/\∀i m ys H,W i m ys H ->
   ((Itt K a).stop i H/\∀p,H p=none->Qf p H ys) \/
   ((Itt K a).go i H/\ys.length<sizeLine/\∀x H',(Itt K a).JG i H x H'->zdX (Z1 σ js (some x)) H' fun b H2 =>
    if b=true then te (Z1 σ js (some x)) H2 fun v H3=>∃m',m'<m/\W (i+1) m' (ys++[v]) H3 else ∃m',m'<m/\W (i+1) m' ys H2):=by
 refine znQ (fun i ys H'=>Same H H'/\ys.length=i/\∀(j:Nat) v,ys[j]?=some v->R j v) ⟨Same.refl _,rfl,fun j v h=>by simp at h⟩ hz ?_ ?_ (fun _ _ _ _ h q=>h _ _ q) me ?_
 ·rintro i ys H' hi ⟨g,e,r⟩
  exact⟨g.ztm hq,by omega⟩
 ·rintro i x ys H' hx ⟨g,e,r⟩
  show te (Z1 σ js (some x)) H' fun v H3=>Same H H3/\(ys++[v]).length=i+1/\∀(j:Nat) u,(ys++[v])[j]?=some u->R j u
  refine me _ _ _ _ (fun v H3 h3=>⟨h3.2,by rw[zCQ,e];rfl,fun j u hj=>?_⟩) (hs i x H' hx g)
  by_cases hlt:j<ys.length
  ·rw[zDf hlt] at hj
   exact r j u hj
  ·rw[List.getElem?_append_right (by omega)] at hj
   have hj0:j-ys.length=0:=by
    have:=(zCL.mp hj).1
    rw[zDg] at this
    omega
   rw[hj0] at hj
   have ev:v=u:=zDd hj
   have ej:j=i:=by omega
   rw[<-ev,ej]
   exact h3.1
 ·rintro ys H' p ⟨g,e,r⟩ hp
  exact hd ys H' p e r g hp
theorem ztn {sp:Sp}(m:zd4 sp):∀ σ H Q Q',(∀v H1,Q v H1->Q' v H1)->zf3 sp [] E0 (zaq (zc8 0) (zaq (zc8 1) zjN)) σ H Q->zf3 sp [] E0 (zaq (zc8 0) (zaq (zc8 1) zjN)) σ H Q' :=
 fun σ H Q Q' h ⟨v,e,u,e',q⟩=>⟨v,e,u,e',m _ _ _ _ _ h q⟩
theorem ne_str {x y:Str}(h:x≠y):¬decide (V.str x=V.str y)=true:=fun z=>h (by have:=of_decide_eq_true z;injection this)
theorem len1 {α:Type}{ys:List α}(h:ys.length=1):∃v,ys=[v]:=by
 match ys,h with
 | [v],_=>exact⟨v,rfl⟩
theorem len2 {α:Type}{ys:List α}(h:ys.length=2):∃v u,ys=[v,u]:=by
 match ys,h with
 | [v,u],_=>exact⟨v,u,rfl⟩
end
end L2
namespace Zk
open PySem L2
section
variable {K:Frag}
def ix (os:List Str)(x:Str):Nat:=os.findIdx (·==x)
theorem vU:∀{os:List Str} {x:Str},x∈os->(os.map V.str).findIdx? (fun z=>eqV z (.str x))=some (ix os x)/\ix os x<os.length/\os[ix os x]?=some x
 | t::r,x,h=>by
  unfold ix
  rw[zC7,List.findIdx?_cons,List.findIdx_cons]
  show(if (t==x)=true then some 0 else _)=_/\_
  by_cases e:t=x
  ·subst e
   simp
  ·have hb:(t==x)=false:=by simpa using e
   have hr:x∈r:=by
    rcases List.mem_cons.mp h with z | z
    ·exact absurd z.symm e
    ·exact z
   obtain⟨h1,h2,h3⟩:=vU hr
   rw[hb,h1]
   unfold ix at h2 h3 ⊢
   refine⟨rfl,?_,?_⟩
   ·show(r.findIdx (·==x))+1<(t::r).length
    rw[zCU];omega
   ·show(t::r)[(r.findIdx (·==x))+1]?=some x
    rw[List.getElem?_cons_succ];exact h3
theorem zg4 {os:List Str}{x y:Str}(hx:x∈os)(hy:y∈os):ix os y=ix os x↔y=x:=by
 constructor
 ·intro e
  have h1:=(vU hx).2.2
  have h2:=(vU hy).2.2
  rw[e,h1] at h2
  exact(zDd h2).symm
 ·intro e;rw[e]
def wI (os:List Str)(b:Nat):Str->Bool:=fun x=>b.testBit (ix os x)
theorem zdy {os:List Str}{s:Sn}{x:Str}(hs:s.Ub os)(hx:x∈os)(b:Nat)(v:Bool):s.val (fun y=>if y=x then v else wI os b y)=s.val (wI os (zO b (ix os x) v)):=by
 refine Sn.val_congr s hs fun y hy=>?_
 show _=(zO b (ix os x) v).testBit (ix os y)
 rw[zV]
 by_cases e:y=x
 ·rw[if_pos e,if_pos ((zg4 hx hy).mpr e)]
 ·rw[if_neg e,if_neg (fun z=>e ((zg4 hx hy).mp z))]
  rfl
theorem xY (b p:Nat):zO b p (b.testBit p)=b:=by unfold zO;rw[if_pos rfl]
theorem zn7 {os:List Str}{s:Sn}{x:Str}(hs:s.Ub os)(hx:x∈os)(b:Nat):(Sn.q1 true x s).val (wI os b)=(s.val (wI os b)||s.val (wI os (zO b (ix os x) (!b.testBit (ix os x))))):=by
 show(s.val (fun y=>if y=x then true else wI os b y)||s.val (fun y=>if y=x then false else wI os b y))=_
 rw[zdy hs hx,zdy hs hx]
 have z:=xY b (ix os x)
 cases hb:b.testBit (ix os x)
 ·rw[hb] at z;rw[z];exact Bool.or_comm _ _
 ·rw[hb] at z;rw[z];rfl
theorem zn8 {os:List Str}{s:Sn}{x:Str}(hs:s.Ub os)(hx:x∈os)(b:Nat):(Sn.q1 false x s).val (wI os b)=(s.val (wI os b)&&s.val (wI os (zO b (ix os x) (!b.testBit (ix os x))))):=by
 show(s.val (fun y=>if y=x then true else wI os b y)&&s.val (fun y=>if y=x then false else wI os b y))=_
 rw[zdy hs hx,zdy hs hx]
 have z:=xY b (ix os x)
 cases hb:b.testBit (ix os x)
 ·rw[hb] at z;rw[z];exact Bool.and_comm _ _
 ·rw[hb] at z;rw[z];rfl
def TabOf (os:List Str)(s:Sn)(N:Nat):Prop:=zX os.length N (fun b=>s.val (wI os b))
theorem zq6:∀o,w2 o≠Str.ofString "no" := by decide +kernel
theorem zn9:∀o,w2 o≠Str.ofString "yes" := by decide +kernel
theorem zlE:∀o,w2 o≠Str.ofString "mark" := by decide +kernel
theorem zoa:∀o,w2 o≠Str.ofString "not" := by decide +kernel
theorem zlF:∀o,w2 o≠Str.ofString "some" := by decide +kernel
theorem zlG:∀o,w2 o≠Str.ofString "each" := by decide +kernel
theorem zrW (o:Fin 4):o=0\/o=1\/o=2\/o=3:=by
 match o with
 | 0=>exact .inl rfl
 | 1=>exact .inr (.inl rfl)
 | 2=>exact .inr (.inr (.inl rfl))
 | 3=>exact .inr (.inr (.inr rfl))
def zin:Sp:=fun vs H Q _=>∃(o:Fin 4) (N M n:Nat) (f g:Nat->Bool),vs=[.str (w2 o),.int N,.int M,.int ((2^2^n-1:Nat):Int)]/\zX n N f/\zX n M g/\∀R:Nat,zX n R (fun b=>Sn.op2 o (f b) (g b))->Q (.int R) H
def LK (K:Frag)(d:Nat):Sp:=fun vs H Q _=>∃(p l:Addr) (s:Sn) (os:List Str),vs=[.ref p,.ref l]/\RQ H s p/\zM K H l (os.map V.str)/\s.Ub os/\os.length<=8/\s.depth<=d/\∀(N:Nat) (H':Hp),Same H H'->TabOf os s N->Q (.int N) H'
theorem zjZ (d:Nat):zd4 (LK K d):=fun vs H Q Q' E h ⟨p,l,s,os,e,h1,h2,h3,h4,h5,q⟩=>⟨p,l,s,os,e,h1,h2,h3,h4,h5,fun N H' g z=>h _ _ (q N H' g z)⟩
theorem zbw (r:List Bool):yd r=(r.map fun b=>((b.toNat:Nat):Int)).map V.int:=by rw[zDk];rfl
theorem zj0 (r:List Bool){n:Nat}(h:r.length=n):zil n (r.map fun b=>((b.toNat:Nat):Int))=true:=by
 unfold zil
 rw[zCI,decide_eq_true h,List.all_map,Bool.true_and,zDc]
 intro b _
 cases b<;>rfl
end
end Zk
namespace L2
open PySem
theorem zbx {x a b:Str}(h1:x≠a)(h2:x≠b):¬(if false=true then !inV (.str x) [.str a,.str b] else inV (.str x) [.str a,.str b])=true:=by
 rw[if_neg zCM]
 have e:=zaz x [a,b]
 have e':inV (.str x) [.str a,.str b]=decide (x∈[a,b]):=e
 rw[e']
 intro z
 have:=of_decide_eq_true z
 simp at this
 rcases this with z | z
 ·exact h1 z
 ·exact h2 z
theorem zg5 {x a b:Str}(h:x=a\/x=b):(if false=true then !inV (.str x) [.str a,.str b] else inV (.str x) [.str a,.str b])=true:=by
 rw[if_neg zCM]
 have e:=zaz x [a,b]
 have e':inV (.str x) [.str a,.str b]=decide (x∈[a,b]):=e
 rw[e']
 refine decide_eq_true ?_
 simp
 exact h
end L2
namespace Zk
open PySem L2
section
variable {K:Frag}
theorem zto:∀o:Bool,(if o then Str.ofString "some" else Str.ofString "each")≠Str.ofString "yes" /\ (if o then Str.ofString "some" else Str.ofString "each")≠Str.ofString "no" /\ (if o then Str.ofString "some" else Str.ofString "each")≠Str.ofString "mark" := by decide +kernel
theorem zlH {os:List Str}{s:Sn}{x:Str}{r:List Bool}(hs:s.Ub os)(hx:x∈os)(hl:r.length=os.length)(b:Bool):s.val (wI os (yh (r.set (ix os x) b)))=s.val (fun y=>if y=x then b else wI os (yh r) y):=by
 refine Sn.val_congr s hs fun y hy=>?_
 show(yh (r.set (ix os x) b)).testBit (ix os y)=if y=x then b else (yh r).testBit (ix os y)
 rw[Vv,Vv]
 by_cases e:y=x
 ·rw[if_pos e,e,List.getElem?_set_self (by rw[hl];exact(vU hx).2.1)]
  rfl
 ·rw[if_neg e,List.getElem?_set_ne (fun z=>e ((zg4 hx hy).mp z.symm))]
theorem zob (r:List Bool)(i:Nat)(b:Bool):(yd r).set i (.int (b.toNat:Nat))=yd (r.set i b):=by
 unfold yd
 rw[List.map_set]
theorem zp7 {r:List Bool}{i:Nat}(h:i<r.length):(yd r)[i]?=some (.int (((r[i]?).getD false).toNat:Nat)):=by
 rw[zCK,zCJ h]
 rfl
def zaB (K:Frag)(d:Nat):Sp:=fun vs H Q _=>∃(p l rl:Addr) (s:Sn) (os:List Str) (r:List Bool),vs=[.ref p,.ref l,.ref rl]/\RQ H s p/\zM K H l (os.map V.str)/\zM K H rl (yd r)/\s.Ub os/\os.length<=8/\r.length=os.length/\s.depth<=d /\
 ∀H',Same H H'->Q (.int ((s.val (wI os (yh r))).toNat:Nat)) H'
def zoc (K:Frag):Sp:=fun vs H Q _=>∃(a:Addr) (ns:List Int),vs=[.ref a]/\zM K H a (ns.map V.int)/\ns.length<=63/\∀H',Q (.bl true) H'
end
end Zk
namespace L2
open PySem PySem.Spec PyProof.Rows
section
variable {κ:Type}[DecidableEq κ]
def Yx (kvs:List (κ×V))(k:κ):Option V:=(kvs.find? fun kv=>decide (kv.1=k)).map (·.2)
def putK (kvs:List (κ×V))(k:κ)(v:V):List (κ×V) :=
 if (kvs.any fun kv=>decide (kv.1=k))=true then kvs.map (fun kv=>if kv.1=k then (kv.1,v) else kv) else kvs++[(k,v)]
theorem ZK {p:κ×V}{r:List (κ×V)}{k:κ}(e:p.1=k):Yx (p::r) k=some p.2:=by simp[Yx,List.find?_cons,e]
theorem ZL {p:κ×V}{r:List (κ×V)}{k:κ}(e:¬p.1=k):Yx (p::r) k=Yx r k:=by simp[Yx,List.find?_cons,e]
theorem zaC (k:κ):∀kvs:List (κ×V),(kvs.any fun kv=>decide (kv.1=k))=(Yx kvs k).isSome
 | []=>rfl
 | p::r=>by
  rw[List.any_cons]
  by_cases e:p.1=k
  ·simp only[ZK e,decide_eq_true e,Bool.true_or,Option.isSome_some]
  ·rw[ZL e,decide_eq_false e,Bool.false_or];exact zaC k r
theorem zio (k j:κ)(y:V):∀kvs:List (κ×V),Yx (kvs.map fun kv=>if kv.1=k then (kv.1,y) else kv) j=(Yx kvs j).map fun x=>if j=k then y else x
 | []=>rfl
 | p::r=>by
  have ih:=zio k j y r
  rw[zC7]
  by_cases h:p.1=k
  ·rw[if_pos h]
   by_cases e:p.1=j
   ·rw[ZK (p:=(p.1,y)) e,ZK e,Option.map_some,if_pos (e.symm.trans h)]
   ·rw[ZL (p:=(p.1,y)) e,ZL e,ih]
  ·rw[if_neg h]
   by_cases e:p.1=j
   ·rw[ZK (p:=p) e,ZK e,Option.map_some,if_neg (fun z=>h (e.trans z))]
   ·rw[ZL (p:=p) e,ZL e,ih]
theorem zgl (k j:κ)(y:V):∀kvs:List (κ×V),Yx kvs k=none->Yx (kvs++[(k,y)]) j=if j=k then some y else Yx kvs j
 | [],_=>by
  by_cases e:k=j
  ·rw[if_pos e.symm];exact ZK (p:=(k,y)) e
  ·rw[if_neg (fun z=>e z.symm)];exact ZL (p:=(k,y)) e
 | p::r,hn=>by
  rw[List.cons_append]
  have hk:¬p.1=k:=fun z=>by rw[ZK z] at hn;cases hn
  rw[ZL hk] at hn
  have ih:=zgl k j y r hn
  by_cases e:p.1=j
  ·rw[ZK e,ZK e,if_neg (fun z=>hk (e.trans z))]
  ·rw[ZL e,ZL e,ih]
theorem wV (kvs:List (κ×V))(k j:κ)(y:V):Yx (putK kvs k y) j=if j=k then some y else Yx kvs j:=by
 unfold putK
 by_cases a:(kvs.any fun kv=>decide (kv.1=k))=true
 ·rw[if_pos a,zio]
  rw[zaC] at a
  by_cases e:j=k
  ·obtain⟨x,hx⟩:=Option.isSome_iff_exists.mp a
   rw[if_pos e,e,hx,Option.map_some,if_pos rfl]
  ·rw[if_neg e]
   cases Yx kvs j with
   | none=>rfl
   | some x=>rw[Option.map_some,if_neg e]
 ·rw[if_neg a]
  refine zgl k j y kvs ?_
  rw[zaC] at a
  cases q:Yx kvs k with
  | none=>rfl
  | some x=>rw[q] at a;exact(a rfl).elim
theorem Sx (kvs:List (κ×V))(k:κ)(v:V):(putK kvs k v).length<=kvs.length+1:=by
 unfold putK
 split
 ·rw[zCI];omega
 ·rw[zCQ,zCU,List.length_nil];omega
theorem KZ.zby {o:Option V}{u:Option Value}(r:KZ o u):o.isSome=u.isSome:=by
 cases o with
 | none=>cases u with
  | none=>rfl
  | some _=>exact(show False from r).elim
 | some _=>cases u with
  | none=>exact(show False from r).elim
  | some _=>rfl
theorem KV.val {kvs:List (κ×V)}{vs:List (κ×Value)}(r:KV kvs vs)(k:κ):KZ (Yx kvs k) (valueAt vs k):=by
 unfold KV at r
 induction r with
 | nil=>exact True.intro
 | @cons p q ps qs h t ih =>
  obtain⟨h1,h2⟩:=h
  by_cases e:p.1=k
  ·have e':q.1=k:=h1.symm.trans e
   have b:valueAt (q::qs) k=some q.2:=by simp[valueAt,List.find?_cons,e']
   rw[ZK e,b];exact h2
  ·have e':¬q.1=k:=fun z=>e (h1.trans z)
   have b:valueAt (q::qs) k=valueAt qs k:=by simp[valueAt,List.find?_cons,e']
   rw[ZL e,b];exact ih
theorem KV.any {kvs:List (κ×V)}{vs:List (κ×Value)}(r:KV kvs vs)(k:κ):(kvs.any fun kv=>decide (kv.1=k))=vs.any fun kv=>decide (kv.1=k):=by
 unfold KV at r
 induction r with
 | nil=>rfl
 | cons h t ih=>rw[List.any_cons,List.any_cons,ih,h.1]
theorem KV.repl {kvs:List (κ×V)}{vs:List (κ×Value)}(r:KV kvs vs)(k:κ){y:V}{u:Value}(ry:RelV y u) :
  KV (kvs.map fun kv=>if kv.1=k then (kv.1,y) else kv) (vs.map fun kv=>if kv.1=k then (kv.1,u) else kv):=by
 unfold KV at r ⊢
 induction r with
 | nil=>exact .nil
 | @cons p q ps qs h t ih =>
  rw[zC7,zC7]
  refine .cons ?_ ih
  obtain⟨h1,h2⟩:=h
  by_cases e:p.1=k
  ·rw[if_pos e,if_pos (h1.symm.trans e)];exact⟨h1,ry⟩
  ·rw[if_neg e,if_neg (fun z=>e (h1.trans z))];exact⟨h1,h2⟩
theorem KV.put {kvs:List (κ×V)}{vs:List (κ×Value)}(r:KV kvs vs)(k:κ){y:V}{u:Value}(ry:RelV y u):KV (putK kvs k y) (stored vs k u):=by
 unfold putK stored
 rw[r.any k]
 by_cases e:(vs.any fun kv=>decide (kv.1=k))=true
 ·rw[if_pos e,if_pos e];exact r.repl k ry
 ·rw[if_neg e,if_neg e];exact Paired.snoc r ⟨rfl,ry⟩
theorem KV.length {kvs:List (κ×V)}{vs:List (κ×Value)}(r:KV kvs vs):kvs.length=vs.length:=Paired.length r
end
theorem zgm {P:Program}{w:World}{k:Key}{u:Value}(r:RelV (kV k) u):(vh P w).is k u=true:=by
 cases k with
 | inl i=>obtain⟨t,e⟩:=(show ∃t,u=Value.int i t from r);subst e;exact zh6 P w i t
 | inr x=>obtain⟨t,e⟩:=(show ∃t,u=Value.str x t from r);subst e;exact zh7 P w x t
theorem zgn {P:Program}{w:World}:∀{ks:List Key} {us:List Value},Vals (ks.map kV) us->ItemsAre (vh P w) ks us
 | [],_,r=>by rw[List.map_nil] at r;cases r;exact .nil
 | k::ks,_,r=>by
  rw[zC7] at r
  cases r with
  | cons h t=>exact .cons (zgm h) (zgn t)
abbrev KT (H:Hp):List (List Key×V)->List (List Key×Addr×Value)->Prop:=Paired fun p q=>p.1=q.1/\H q.2.1=some (.tup (p.1.map kV))/\RelV p.2 q.2.2
theorem KT.val {H:Hp}{kvs:List (List Key×V)}{xs:List (List Key×Addr×Value)}(r:KT H kvs xs)(k:List Key):KZ (Yx kvs k) ((atKey xs k).map (·.2)):=by
 induction r with
 | nil=>exact True.intro
 | @cons p q ps qs h t ih =>
  obtain⟨h1,_,h2⟩:=h
  by_cases e:p.1=k
  ·have e':q.1=k:=h1.symm.trans e
   have b:atKey (q::qs) k=some q.2:=by simp[atKey,List.find?_cons,e']
   rw[ZK e,b];exact h2
  ·have e':¬q.1=k:=fun z=>e (h1.trans z)
   have b:atKey (q::qs) k=atKey qs k:=by simp[atKey,List.find?_cons,e']
   rw[ZL e,b];exact ih
theorem KT.repl {H:Hp}{kvs:List (List Key×V)}{xs:List (List Key×Addr×Value)}(r:KT H kvs xs)(k:List Key){y:V}{u:Value}(ry:RelV y u) :
  KT H (kvs.map fun kv=>if kv.1=k then (kv.1,y) else kv) (xs.map (putAt k u)):=by
 induction r with
 | nil=>exact .nil
 | @cons p q ps qs h t ih =>
  rw[zC7,zC7]
  refine .cons ?_ ih
  obtain⟨h1,h2,h3⟩:=h
  unfold putAt
  by_cases e:p.1=k
  ·rw[if_pos e,if_pos (h1.symm.trans e)];exact⟨h1,h2,ry⟩
  ·rw[if_neg e,if_neg (fun z=>e (h1.trans z))];exact⟨h1,h2,h3⟩
theorem KT.put {H:Hp}{kvs:List (List Key×V)}{xs:List (List Key×Addr×Value)}(r:KT H kvs xs)(k:List Key){b:Addr}{y:V}{u:Value}(hb:H b=some (.tup (k.map kV)))(ry:RelV y u) :
  KT H (putK kvs k y) (storedH xs k b u):=by
 have e:(kvs.any fun kv=>decide (kv.1=k))=(atKey xs k).isSome:=by
  rw[zaC,(r.val k).zby,Option.isSome_map]
 unfold putK storedH
 rw[e]
 by_cases q:(atKey xs k).isSome=true
 ·rw[if_pos q,if_pos q];exact r.repl k ry
 ·rw[if_neg q,if_neg q];exact Paired.snoc r ⟨rfl,hb,ry⟩
theorem KT.keeps {H H':Hp}{kvs:List (List Key×V)}{xs:List (List Key×Addr×Value)}(r:KT H kvs xs)(ht:∀b ys,H b=some (.tup ys)->H' b=some (.tup ys)):KT H' kvs xs :=
 Paired.zrr r fun _ _ z=>⟨z.1,ht _ _ z.2.1,z.2.2⟩
section
variable {P:Program}{w:World}{H:Hp}{h:Heap}{a:Addr}
theorem zq7 {u:HO}(ok:K1 P w H h)(e:Rd H a u):vV P w H h a u:=e.ok ok
theorem zlI {kvs:List (Key×V)}(ok:K1 P w H h)(e:Rd H a (.dK kvs)):kvs.length<=sizeLine/\(a==sysModules)=false/\∃vs,KV kvs vs/\h.DictOf (vh P w) a vs :=
 show vV P w H h a (.dK kvs) from zq7 ok e
theorem zq8 {kvs:List (Key×V)}(ok:K1 P w H h)(e:H a=some (.dK kvs)):kvs.length<=sizeLine/\(a==sysModules)=false/\∃vs,KV kvs vs/\h.DictOf (vh P w) a vs:=zlI ok (.inl e)
theorem zg6 {ks:List Key}(ok:K1 P w H h)(e:H a=some (.tup (ks.map kV))):(tupleKind (vh P w)).is h ks a:=by
 obtain⟨_,its,r,o,h1,h2,n,h3⟩:=(show vV P w H h a (.tup (ks.map kV)) from ok a _ e)
 exact⟨o,its.toArray,n,h1,h2,h3,by simpa using zgn r⟩
theorem zlJ {kvs:List (List Key×V)}(ok:K1 P w H h)(e:Rd H a (.dT kvs)):kvs.length<=sizeLine/\(a==sysModules)=false /\
  ∃xs,KT H kvs xs/\h.DictOfH (tupleKind (vh P w)) a xs:=by
 obtain⟨z,y,xs,r,o,es,ep,h1,h2,h3,h4,h5⟩:=(show vV P w H h a (.dT kvs) from zq7 ok e)
 refine⟨z,y,xs,r,o,es,ep,h1,h2,h3,h4,fun x hx=>?_,h5⟩
 have all:∀{l:List (List Key×V)} {m:List (List Key×Addr×Value)},KT H l m->∀x∈m,(tupleKind (vh P w)).is h x.1 x.2.1:=by
  intro l m q
  induction q with
  | nil=>intro x hx;exact nomatch hx
  | @cons p q ps qs hq t ih =>
   intro x hx
   rcases List.mem_cons.mp hx with e | hx
   ·subst e
    exact zg6 ok (by rw[<-hq.1];exact hq.2.1)
   ·exact ih x hx
 exact all r x hx
theorem ztp {kvs:List (List Key×V)}(ok:K1 P w H h)(e:H a=some (.dT kvs)):kvs.length<=sizeLine/\(a==sysModules)=false /\
  ∃xs,KT H kvs xs/\h.DictOfH (tupleKind (vh P w)) a xs:=zlJ ok (.inl e)
end
def zdb (H:Hp)(a:Addr)(y:V)(r:Option V):Prop :=
 (∃kvs k,Rd H a (.dK kvs)/\y=kV k/\r=Yx kvs k)\/∃kvs k b,Rd H a (.dT kvs)/\y=.ref b/\H b=some (.tup (k.map kV))/\r=Yx kvs k
def zmB (H:Hp)(a:Addr)(y v:V)(H':Hp):Prop :=
 (∃kvs k,H a=some (.dK kvs)/\y=kV k/\kvs.length<sizeLine/\H'=upd H a (.dK (putK kvs k v))) \/
 ∃kvs k b,H a=some (.dT kvs)/\y=.ref b/\H b=some (.tup (k.map kV))/\kvs.length<sizeLine/\H'=upd H a (.dT (putK kvs k v))
theorem zdb.k {H:Hp}{a:Addr}{kvs:List (Key×V)}{k:Key}(e:H a=some (.dK kvs)):zdb H a (kV k) (Yx kvs k):=.inl ⟨kvs,k,.inl e,rfl,rfl⟩
theorem zmB.k {H:Hp}{a:Addr}{kvs:List (Key×V)}{k:Key}{v:V}(e:H a=some (.dK kvs))(hl:kvs.length<sizeLine):zmB H a (kV k) v (upd H a (.dK (putK kvs k v))):=.inl ⟨kvs,k,e,rfl,hl,rfl⟩
section
variable {X:Cx}{pins:List (Addr×Obj)}{σ:St}{H:Hp}{s:Shared}{a:Addr}{y v:V}{u r:Value}{o:Option V}{A:Around}{E:Value->Shared->Prop}
theorem Inv.big (I:Inv X pins σ H s):sysModules<s.heap.objs.size:=by
 have h:mainGlobals<s.heap.objs.size:=(I.mod.glob.keeps I.bk).lt
 exact Nat.lt_trans (by decide) h
theorem zmC {Q:Value->Shared->Prop}(hu:A.units+1<cLine)(I:Inv X pins σ H s)(g:zdb H a y (some v))(ry:RelV y u)(h:∀w' s',Inv X pins σ H s'->RelV v w'->Q w' s') :
  wpAny (model X.prog X.w) A (getItem (.ref a) u) Q E s:=by
 rcases g with ⟨kvs,k,e,ey,l⟩ | ⟨kvs,k,b,e,ey,eb,l⟩
 ·subst ey
  obtain⟨z,hd,vs,rel,dd⟩:=zlI I.hok e
  obtain⟨w',hw,rw'⟩:=KZ.some_of (v:=v) (o:=valueAt vs k) (by rw[l];exact rel.val k)
  exact wpAny_getItem_of (zgm ry) dd.mapOf hw (h w' _ (I.tok _) rw')
 ·subst ey
  cases (show u=Value.ref b from ry)
  obtain⟨z,hd,xs,rel,dd⟩:=zlJ I.hok e
  obtain⟨w',hw,rw'⟩:=KZ.some_of (v:=v) (o:=(atKey xs k).map (·.2)) (by rw[l];exact rel.val k)
  obtain⟨p,hp,hp2⟩:=Option.map_eq_some_iff.mp hw
  refine wpAny_getItem_heap (tupleKind_room_in1 hu) (zg6 I.hok eb) dd hp ?_
  rw[hp2]
  exact h w' _ (I.tok _) rw'
theorem zp8 {Q:Value->Shared->Prop}(hu:A.units+1<cLine)(I:Inv X pins σ H s)(g:zdb H a y o)(ry:RelV y u)(h:∀s',Inv X pins σ H s'->Q (.bool (!o.isSome)) s') :
  wpAny (model X.prog X.w) A (compareOp .NotIn u (.ref a)) Q E s:=by
 rcases g with ⟨kvs,k,e,ey,l⟩ | ⟨kvs,k,b,e,ey,eb,l⟩
 ·subst ey
  obtain⟨z,hd,vs,rel,dd⟩:=zlI I.hok e
  refine wpAny_notIn_of (zgm ry) hd dd.mapOf ?_
  rw[<-(rel.val k).zby,<-l]
  exact h _ (I.tok _)
 ·subst ey
  cases (show u=Value.ref b from ry)
  obtain⟨z,hd,xs,rel,dd⟩:=zlJ I.hok e
  refine wpAny_notIn_heap (tupleKind_room_in1 hu) (zg6 I.hok eb) hd dd ?_
  have q:=(rel.val k).zby
  rw[Option.isSome_map] at q
  rw[<-q,<-l]
  exact h _ (I.tok _)
theorem zg7 {h':Heap}{t':Nat}{ob:HO}(I:Inv X pins σ H s)(mu:Mut (H a))(hs:Heap.SameBut a s.heap h')(he:∃q,h'.get? a=some q)(new:vV X.prog X.w (upd H a ob) h' a ob) :
  Inv X pins σ (upd H a ob) { s with heap:=h',toks:=t' } :=
 I.write (x:=a) (e:=a) mu (.inl rfl) (fun b q hb z=>(hs.2 b hb).trans z) he new
theorem zj1 {P:Program}{w:World}{H':Hp}{h':Heap}{kvs:List (Key×V)}{vs:List (Key×Value)}(z:kvs.length<=sizeLine)(hd:(a==sysModules)=false)(rel:KV kvs vs)(dd:h'.DictOf (vh P w) a vs) :
  vV P w H' h' a (.dK kvs):=⟨z,hd,vs,rel,dd⟩
theorem zmD {H':Hp}{Q:Unit->Shared->Prop}(hu:A.units+1<cLine)(I:Inv X pins σ H s)(g:zmB H a y v H')(ry:RelV y u)(rv:RelV v r)(h:∀s',Inv X pins σ H' s'->Q () s') :
  wpAny (model X.prog X.w) A (setItem (.ref a) u r) Q E s:=by
 rcases g with ⟨kvs,k,e,ey,l,eH⟩ | ⟨kvs,k,b,e,ey,eb,l,eH⟩
 ·subst ey eH
  obtain⟨z,hd,vs,rel,dd⟩:=zq8 I.hok e
  have hz:vs.length<=sizeLine:=by rw[<-rel.length];exact z
  have hl:(putK kvs k v).length<=sizeLine:=by have:=Sx kvs k v;omega
  refine wpAny_setItem_pairs (hsz:=hz) (zgm ry) dd fun h' dd' hs=>h _ ?_
  have he:∃q,h'.get? a=some q:=let ⟨q,_,_,hq,_⟩:=dd';⟨q,hq⟩
  exact zg7 I (by rw[e];exact True.intro) hs he (zj1 hl hd (rel.put k rv) dd')
 ·subst ey eH
  cases (show u=Value.ref b from ry)
  obtain⟨z,hd,xs,rel,dd⟩:=ztp I.hok e
  have hz:xs.length<=sizeLine:=by rw[<-Paired.length rel];exact z
  have hl:(putK kvs k v).length<=sizeLine:=by have:=Sx kvs k v;omega
  refine wpAny_setItem_heap (hsz:=hz) (tupleKind_room_in1 hu) (zg6 I.hok eb) dd fun h' dd' hs=>h _ ?_
  obtain⟨q,es,ep,hq,h2,h3,h4,_,h5⟩:=dd'
  refine zg7 I (by rw[e];exact True.intro) hs ⟨q,hq⟩ ⟨hl,hd,_,(rel.put k eb rv).keeps fun c ys ec=>?_,q,es,ep,hq,h2,h3,h4,h5⟩
  rw[zJ (NQ ec e (fun z=>nomatch z))]
  exact ec
end
def ztq (i:Expr):Prop:=∀ov iv,subscripted i false ov iv=operate [ov,iv] (getItem ov iv)
theorem zp9 {prog:Program}{w:World}{A:Around}{E:Value->Shared->Prop}{s:Shared}{env:Env}{value slice:Expr}{pos:Pos}{T id:String}{Q:Value->Shared->Prop}
  (hl:typeLookup (.type T) "__getitem__"=pure (some (.builtin id)))(hs:ztq slice)
  (h:wpAny (model prog w) A (eval value env) (fun o s₁=>wpAny (model prog w) A (eval slice env) (fun i s₂=>s₂.TypeIs o T/\wpAny (model prog w) A (getItem o i) Q E s₂) E s₁) E s) :
  wpAny (model prog w) A (eval (.Subscript value slice pos) env) Q E s:=by
 refine Subscript_ (wpAny_mono h (fun o s₁ h₁=>wpAny_mono h₁ (fun i s₂ h₂=>?_) fun _ _ x=>x) fun _ _ x=>x)
 obtain⟨hT,h₂⟩:=h₂
 unfold subscriptTail
 refine wpAny_bind ?_
 rw[getitemInPython_of_ne hT.not_modules]
 refine wpAny_bind (wpAny_specialOf hT hl ?_)
 have fin:wpAny (model prog w) A (subscripted slice false o i) (fun r s₃=>wpAny (model prog w) A (letTemporaryGo value o r>>=fun _=>pure r) Q E s₃) E s₂:=by
  rw[hs o i]
  exact wpAny_operating (wpAny_mono h₂ (fun r s₃ h₃=>wpAny_bind (wpAny_letTemporaryGo (wpAny_pure h₃))) fun _ _ x=>x)
 first
  | exact wpAny_pure (wpAny_bind fin)
  | exact wpAny_bind (wpAny_pure (wpAny_bind fin))
  | exact wpAny_bind fin
theorem ziq {X:Cx}{pins:List (Addr×Obj)}{σ:St}{H:Hp}{s:Shared}{a:Addr}{y:V}{o:Option V}(I:Inv X pins σ H s)(g:zdb H a y o):s.TypeIs (.ref a) "dict" := by
 rcases g with ⟨kvs,k,e,_,_⟩ | ⟨kvs,k,b,e,_,_,_⟩
 ·obtain⟨_,_,vs,_,dd⟩:=zlI I.hok e
  exact dd.typeIs
 ·obtain⟨_,_,xs,_,dd⟩:=zlJ I.hok e
  exact dd.typeIs
def ztr (td ty:TE):TE:=fun σ H Q=>td σ H fun x H1=>ty σ H1 fun y H2=>∃a v,x=.ref a/\zdb H2 a y (some v)/\Q v H2
def zqa (ty td:TE):TE:=fun σ H Q=>ty σ H fun y H1=>td σ H1 fun x H2=>∃a o,x=.ref a/\zdb H2 a y o/\Q (.bl (!o.isSome)) H2
def zts (td ty tv:TE):TS:=fun D σ H=>tv σ H fun v H1=>td σ H1 fun x H2=>ty σ H2 fun y H3=>∃a H4,x=.ref a/\zmB H3 a y v H4/\D.nx σ H4
section
variable {X:Cx}{o i e value:Expr}{pos pos' tpos:Pos}{td ty tv:TE}
theorem zg8 (hu:X.A.units+1<cLine)(ho:PE X o td)(hi:PE X i ty)(hs:ztq i):PE X (.Subscript o i pos) (ztr td ty):=by
 intro pins s σ H Q I h
 refine zp9 PySem.F.slot_dict_getitem.lookup hs (ud (ho pins s σ H _ I h) fun u s1 ⟨x,H1,I1,rx,q1⟩=>ud (hi pins s1 σ H1 _ I1 q1) fun iv s2 ⟨y,H2,I2,ry,a,v,ex,g,q2⟩=>?_)
 subst ex
 obtain rfl:u=Value.ref a:=rx
 exact⟨ziq I2 g,zmC hu I2 g ry fun w' s3 I3 rw'=>⟨v,H2,I3,rw',q2⟩⟩
theorem zmE (hu:X.A.units+1<cLine)(hi:PE X i ty)(ho:PE X o td):PC X .NotIn i o (zqa ty td):=by
 intro pins s σ H Q I h
 refine ud (hi pins s σ H _ I h) fun iv s1 ⟨y,H1,I1,ry,q1⟩=>ud (ho pins s1 σ H1 _ I1 q1) fun u s2 ⟨x,H2,I2,rx,a,ov,ex,g,q2⟩=>?_
 subst ex
 obtain rfl:u=Value.ref a:=rx
 exact zp8 hu I2 g ry fun s3 I3=>⟨.bl (!ov.isSome),H2,I3,rfl,q2⟩
theorem zlK (hu:X.A.units+1<cLine)(ho:PE X o td)(hi:PE X i ty)(hv:PE X value tv)(hs:swapsWith value (some (.Subscript o i pos')) pos.line X.env=pure false) :
  PS X (.Assign [.Subscript o i pos'] value pos) (zts td ty tv):=by
 intro pins s σ H D I h
 refine wpAny_Assign_Subscript (ud (hv pins s σ H _ I h) fun r s1 ⟨v,H1,I1,rv,q1⟩=>ud (ho pins s1 σ H1 _ I1 q1) fun u s2 ⟨x,H2,I2,rx,q2⟩=>ud (hi pins s2 σ H2 _ I2 q2) fun iv s3 ⟨y,H3,I3,ry,a,H4,ex,g,q3⟩=>?_) hs
 subst ex
 obtain rfl:u=Value.ref a:=rx
 exact zmD hu I3 g ry rv fun s4 I4=>⟨σ,H4,I4,q3⟩
end
theorem zod {P:Program}{w:World}{H:Hp}(h:Heap)(hb:sysModules<h.objs.size):vV P w H (h.push { cls:=.type "dict", data:=.dict #[] }) h.objs.size (.dK []) :=
 ⟨zC5 _,beq_eq_false_iff_ne.mpr (Ne.symm (zCX hb)),[],.nil,Heap.DictOf.new h⟩
def zj2:List (TE×TE)->St->Hp->(List (V×V)->Hp->Prop)->Prop
 | [],_,H,Q=>Q [] H
 | (tk,tv)::r,σ,H,Q=>tk σ H fun x H1=>tv σ H1 fun y H2=>zj2 r σ H2 fun ps H3=>Q ((x,y)::ps) H3
abbrev VV:List (V×V)->List (Value×Value)->Prop:=Paired fun p q=>RelV p.1 q.1/\RelV p.2 q.2
def PPs (X:Cx)(pos:Pos)(keys:List (Option Expr))(values:List Expr)(trs:List (TE×TE)):Prop :=
 ∀(pins:List (Addr×Obj)) (s:Shared) (σ:St) (H:Hp) (Q:List (V×V)->Hp->Prop),Inv X pins σ H s->zj2 trs σ H Q ->
  wpAny (model X.prog X.w) X.A (evalPairs (pairTrees keys values X.env pos)) (fun vs s'=>∃ps H',Inv X pins σ H' s'/\VV ps vs/\Q ps H') X.xe s
theorem zlL {X:Cx}{pos:Pos}:PPs X pos [] [] []:=fun pins s σ H Q I h=>pairTrees_nil_walk ⟨[],H,I,.nil,h⟩
theorem RX {X:Cx}{pos:Pos}{k v:Expr}{ks:List (Option Expr)}{vs:List Expr}{tk tv:TE}{trs:List (TE×TE)}(hk:PE X k tk)(hv:PE X v tv)(hr:PPs X pos ks vs trs) :
  PPs X pos (some k::ks) (v::vs) ((tk,tv)::trs):=fun pins s σ H Q I h =>
 pairTrees_cons_walk (ud (hk pins s σ H _ I h) fun u s1 ⟨x,H1,I1,rx,q1⟩=>ud (hv pins s1 σ H1 _ I1 q1) fun w2 s2 ⟨y,H2,I2,ry,q2⟩ =>
  ud (hr pins s2 σ H2 _ I2 q2) fun ws s3 ⟨ps,H3,I3,rel,q3⟩=>⟨(x,y)::ps,H3,I3,.cons ⟨rx,ry⟩ rel,q3⟩)
def vI (kvs more:List (Key×V)):List (Key×V):=more.foldl (fun acc kv=>putK acc kv.1 kv.2) kvs
theorem KV.merge:∀{more:List (Key×V)} {rs:List (Key×Value)} {kvs:List (Key×V)} {vs:List (Key×Value)},KV more rs->KV kvs vs->KV (vI kvs more) (merged vs rs):=by
 intro more rs kvs vs r
 unfold KV at r
 induction r generalizing kvs vs with
 | nil=>intro q;exact q
 | @cons p q ps qs h t ih =>
  intro r0
  have e:KV (putK kvs p.1 p.2) (stored vs q.1 q.2):=by
   have:=r0.put p.1 h.2
   rw[<-h.1];exact this
  exact ih e
theorem Va:∀(more kvs:List (Key×V)),(vI kvs more).length<=kvs.length+more.length
 | [],kvs=>by show kvs.length<=kvs.length+0;omega
 | p::r,kvs=>by
  have h1:=Va r (putK kvs p.1 p.2)
  have h2:=Sx kvs p.1 p.2
  show(vI (putK kvs p.1 p.2) r).length<=_
  rw[zCU];omega
theorem zd9 {P:Program}{w:World}:∀{kvs:List (Key×V)} {ws:List (Value×Value)},VV (kvs.map fun kv=>(kV kv.1,kv.2)) ws->∃rs,Carries (vh P w) ws rs/\KV kvs rs
 | [],_,r=>by rw[List.map_nil] at r;cases r;exact⟨[],True.intro,.nil⟩
 | p::kvs,_,r=>by
  rw[zC7] at r
  cases r with
  | @cons a b as bs h t =>
   obtain⟨rs,c,q⟩:=zd9 (P:=P) (w:=w) t
   obtain⟨b1,b2⟩:=b
   exact⟨(p.1,b2)::rs,⟨zgm h.1,rfl,c⟩,.cons ⟨rfl,h.2⟩ q⟩
def ztt (trs:List (TE×TE)):TE:=fun σ H Q=>∀p,H p=none->zj2 trs σ (upd H p (.dK [])) fun ps H2=>H2 p=some (.dK [])/\∃kvs:List (Key×V),ps=kvs.map (fun kv=>(kV kv.1,kv.2))/\kvs.length<=15/\Q (.ref p) (upd H2 p (.dK (vI [] kvs)))
theorem zlM {X:Cx}{pos:Pos}{keys:List (Option Expr)}{values:List Expr}{trs:List (TE×TE)}(h:PPs X pos keys values trs)(hall:keys.all (·.isSome)=true)(hl:keys.length=values.length)(h0:keys≠[])
  (h15:keys.length<=15):PE X (.Dict keys values pos) (ztt trs):=by
 intro pins s σ H Q I q
 have hn:=I.hok.fresh (zCY s.heap.objs.size)
 have I1:=I.laid (a:=s.heap.objs.size) (o:=.dK []) (h':=s.heap.push { cls:=.type "dict", data:=.dict #[] }) (t':=s.toks) (fun _ _ q=>zCO _ q) (zCY _) (zod s.heap I.big)
 refine wpAny_Dict_walk (knd:=vh X.prog X.w) hall hl h0 h15 (ud (h pins _ σ _ _ I1 (q _ hn)) fun ws s2 ⟨ps,H2,I2,rel,e,kvs,ep,lk,q2⟩=>?_)
 subst ep
 obtain⟨rs,c,rk⟩:=zd9 (P:=X.prog) (w:=X.w) rel
 obtain⟨z,hd,vs0,r0,dd⟩:=zq8 I2.hok e
 cases r0
 refine⟨rs,c,dd,fun h' dd' hs=>⟨.ref s.heap.objs.size,_,?_,rfl,q2⟩⟩
 have hz:(vI [] kvs).length<=sizeLine:=by
  have h1:=Va kvs []
  rw[List.length_nil] at h1
  rw[sizeLine_eq];omega
 have he:∃q,h'.get? s.heap.objs.size=some q:=let ⟨q,_,_,hq,_⟩:=dd';⟨q,hq⟩
 exact zg7 I2 (by rw[e];exact True.intro) hs he (zj1 hz hd (rk.merge .nil) dd')
inductive NP (K:Frag)(H:Hp):Nat->V->V->Bool->Prop
 | flat {n:Nat} {x y:V} (fx:uO x=true) (fy:uO y=true):NP K H n x y (eqV x y)
 | tt {n:Nat} {p q:Addr} {xs ys:List V} {e:Nat->Bool} (hp:vW K H p xs) (hq:vW K H q ys) (h:∀(j:Nat) x y,xs[j]?=some x->ys[j]?=some y->NP K H n x y (e j)) :
   NP K H (n+1) (.ref p) (.ref q) ((List.range (min xs.length ys.length)).all e&&xs.length==ys.length)
 | ll {n:Nat} {p q:Addr} {xs ys:List V} {e:Nat->Bool} (hp:zM K H p xs) (hq:zM K H q ys) (hl:xs.length=ys.length) (h:∀(j:Nat) x y,xs[j]?=some x->ys[j]?=some y->NP K H n x y (e j)) :
   NP K H (n+1) (.ref p) (.ref q) ((List.range xs.length).all e)
 | ln {n:Nat} {p q:Addr} {xs ys:List V} (hp:zM K H p xs) (hq:zM K H q ys) (hl:xs.length≠ys.length):NP K H (n+1) (.ref p) (.ref q) false
 | lt {n:Nat} {p q:Addr} {xs ys:List V} (hp:zM K H p xs) (hq:vW K H q ys):NP K H (n+1) (.ref p) (.ref q) false
 | tl {n:Nat} {p q:Addr} {xs ys:List V} (hp:vW K H p xs) (hq:zM K H q ys):NP K H (n+1) (.ref p) (.ref q) false
 | lf {n:Nat} {p:Addr} {xs:List V} {y:V} (hp:zM K H p xs) (fy:uO y=true):NP K H (n+1) (.ref p) y false
 | fl {n:Nat} {p:Addr} {xs:List V} {y:V} (hp:zM K H p xs) (fy:uO y=true):NP K H (n+1) y (.ref p) false
 | tf {n:Nat} {p:Addr} {xs:List V} {y:V} (hp:vW K H p xs) (fy:uO y=true):NP K H (n+1) (.ref p) y false
 | ft {n:Nat} {p:Addr} {xs:List V} {y:V} (hp:vW K H p xs) (fy:uO y=true):NP K H (n+1) y (.ref p) false
section
variable {X:Cx}{pins:List (Addr×Obj)}{σ:St}{H:Hp}{s:Shared}
theorem zaD {x:V}(f:uO x=true):eqV x x=true:=by
 cases x<;>first | rfl | (simp[eqV];done) | exact absurd (show false=true from f) zCM
theorem Mg (I:Inv X pins σ H s){p:Addr}{xs ys:List V}(h:zM X.K H p xs)(k:vW X.K H p ys):False:=by
 obtain⟨_,_,⟨o,n,e,c,_⟩,_⟩:=I.list h
 obtain⟨_,_,⟨o',e',c',_⟩,_⟩:=I.tuple k
 rw[e] at e'
 cases e'
 rw[c] at c'
 injection c' with z
 exact absurd z (by decide)
theorem NP.refl (I:Inv X pins σ H s){n:Nat}{x y:V}{b:Bool}(h:NP X.K H n x y b):x=y->b=true:=by
 induction h with
 | flat fx fy=>intro e;subst e;exact zaD fx
 | tt hp hq h ih =>
  intro e
  cases e
  have ee:=I.zfZ hp hq
  subst ee
  rw[Nat.min_self,beq_self_eq_true,Bool.and_true,zDc]
  intro j hj
  have hj':=List.mem_range.mp hj
  exact ih j _ _ (zCJ hj') (zCJ hj') rfl
 | ll hp hq hl h ih =>
  intro e
  cases e
  have ee:=I.U4 hp hq
  subst ee
  rw[zDc]
  intro j hj
  have hj':=List.mem_range.mp hj
  exact ih j _ _ (zCJ hj') (zCJ hj') rfl
 | ln hp hq hl =>
  intro e
  cases e
  exact absurd (congrArg List.length (I.U4 hp hq)) hl
 | lt hp hq=>intro e;cases e;exact(Mg I hp hq).elim
 | tl hp hq=>intro e;cases e;exact(Mg I hq hp).elim
 | lf hp fy=>intro e;subst e;exact absurd (show false=true from fy) zCM
 | fl hp fy=>intro e;subst e;exact absurd (show false=true from fy) zCM
 | tf hp fy=>intro e;subst e;exact absurd (show false=true from fy) zCM
 | ft hp fy=>intro e;subst e;exact absurd (show false=true from fy) zCM
theorem LQ {A:Around}{u:Value}{y:V}{p:Addr}{its:Array Value}(hl:s.heap.IsList p its)(fy:uO y=true)(ry:RelV y u)(hu:A.units<cLine):SeqAt.RcAt A s (.ref p) u false/\SeqAt.EqAt A s (.ref p) u false/\SeqAt.RcAt A s u (.ref p) false/\SeqAt.EqAt A s u (.ref p) false/\SeqAt.RcNeAt A s (.ref p) u true/\SeqAt.RcNeAt A s u (.ref p) true:=by
 cases y with
 | non=>cases ry;exact⟨.list_none hl hu,.list_none hl hu,.none_list hl hu,.none_list hl hu,.list_none hl hu,.none_list hl hu⟩
 | bl b=>cases ry;exact⟨.list_bool b hl hu,.list_bool b hl hu,.bool_list b hl hu,.bool_list b hl hu,.list_bool b hl hu,.bool_list b hl hu⟩
 | int i=>obtain⟨t,rfl⟩:=ry;exact⟨.list_int i t hl hu,.list_int i t hl hu,.int_list i t hl hu,.int_list i t hl hu,.list_int i t hl hu,.int_list i t hl hu⟩
 | str i=>obtain⟨t,rfl⟩:=ry;exact⟨.list_str i t hl hu,.list_str i t hl hu,.str_list i t hl hu,.str_list i t hl hu,.list_str i t hl hu,.str_list i t hl hu⟩
 | _=>exact absurd (show false=true from fy) zCM
theorem QD {A:Around}{u:Value}{y:V}{p:Addr}{its:Array Value}(hl:s.heap.IsTuple p its)(fy:uO y=true)(ry:RelV y u)(hu:A.units<cLine):SeqAt.RcAt A s (.ref p) u false/\SeqAt.EqAt A s (.ref p) u false/\SeqAt.RcAt A s u (.ref p) false/\SeqAt.EqAt A s u (.ref p) false/\SeqAt.RcNeAt A s (.ref p) u true/\SeqAt.RcNeAt A s u (.ref p) true:=by
 cases y with
 | non=>cases ry;exact⟨.tuple_none hl hu,.tuple_none hl hu,.none_tuple hl hu,.none_tuple hl hu,.tuple_none hl hu,.none_tuple hl hu⟩
 | bl b=>cases ry;exact⟨.tuple_bool b hl hu,.tuple_bool b hl hu,.bool_tuple b hl hu,.bool_tuple b hl hu,.tuple_bool b hl hu,.bool_tuple b hl hu⟩
 | int i=>obtain⟨t,rfl⟩:=ry;exact⟨.tuple_int i t hl hu,.tuple_int i t hl hu,.int_tuple i t hl hu,.int_tuple i t hl hu,.tuple_int i t hl hu,.int_tuple i t hl hu⟩
 | str i=>obtain⟨t,rfl⟩:=ry;exact⟨.tuple_str i t hl hu,.tuple_str i t hl hu,.str_tuple i t hl hu,.str_tuple i t hl hu,.tuple_str i t hl hu,.str_tuple i t hl hu⟩
 | _=>exact absurd (show false=true from fy) zCM
theorem item_at {xs:List V}{us:List Value}(r:Vals xs us){j:Nat}(h:j<us.toArray.size):∃x,xs[j]?=some x/\RelV x us.toArray[j]:=by
 have hl:=r.length
 have hj:j<xs.length:=by simp at h;omega
 obtain⟨u,hu,ru⟩:=r.get (zCJ hj)
 refine⟨xs[j],zCJ hj,?_⟩
 have e:us.toArray[j]=u:=by
  have:=(zCL.mp hu).2
  simpa using this
 rw[e];exact ru
theorem NP.at {n:Nat}{x y:V}{b:Bool}(h:NP X.K H n x y b)(I:Inv X pins σ H s):∀{A:Around} {u v:Value},RelV x u->RelV y v->A.units+n<cLine->SeqAt.EqAt A s u v b:=by
 induction h with
 | flat fx fy=>intro A u v rx ry _;exact znJ rx ry fx fy
 | @tt n p q xs ys e hp hq h ih =>
  intro A u v rx ry hu
  cases rx
  cases ry
  obtain⟨us,r1,t1,_⟩:=I.tuple hp
  obtain⟨ws,r2,t2,_⟩:=I.tuple hq
  have l1:=r1.length
  have l2:=r2.length
  by_cases hne:p=q
  ·subst hne
   have z:=(NP.tt hp hq h).refl I rfl
   rw[z]
   exact SeqAt.EqAt.same _
  ·refine SeqAt.EqAt.of_refs hne ?_
   have z:=SeqAt.RcAt.tuples (A:=A) (e:=e) t1 t2 (by omega) fun j h1 h2=>by
    obtain⟨x,hx,rx⟩:=item_at r1 h1
    obtain⟨y,hy,ry⟩:=item_at r2 h2
    exact ih j x y hx hy rx ry (by show A.units+1+n<cLine;omega)
   rw[zCS,zCS,<-l1,<-l2] at z
   exact z
 | @ll n p q xs ys e hp hq hl h ih =>
  intro A u v rx ry hu
  cases rx
  cases ry
  obtain⟨us,r1,t1,_⟩:=I.list hp
  obtain⟨ws,r2,t2,_⟩:=I.list hq
  have l1:=r1.length
  have l2:=r2.length
  by_cases hne:p=q
  ·subst hne
   have z:=(NP.ll hp hq hl h).refl I rfl
   rw[z]
   exact SeqAt.EqAt.same _
  ·refine SeqAt.EqAt.of_refs hne ?_
   have z:=SeqAt.RcAt.lists (A:=A) (e:=e) t1.isList t2.isList (by simp;omega) (by omega) fun j h1 h2=>by
    obtain⟨x,hx,rx⟩:=item_at r1 h1
    obtain⟨y,hy,ry⟩:=item_at r2 h2
    exact ih j x y hx hy rx ry (by show A.units+1+n<cLine;omega)
   rw[zCS,<-l1] at z
   exact z
 | @ln n p q xs ys hp hq hl =>
  intro A u v rx ry hu
  cases rx
  cases ry
  obtain⟨us,r1,t1,_⟩:=I.list hp
  obtain⟨ws,r2,t2,_⟩:=I.list hq
  have l1:=r1.length
  have l2:=r2.length
  have hne:p≠q:=fun e=>by subst e;exact hl (congrArg List.length (I.U4 hp hq))
  exact SeqAt.EqAt.of_refs hne (SeqAt.RcAt.lists_lengths t1.isList t2.isList (by simp;omega) (by omega))
 | lt hp hq =>
  intro A u v rx ry hu
  cases rx
  cases ry
  obtain⟨us,r1,t1,_⟩:=I.list hp
  obtain⟨ws,r2,t2,_⟩:=I.tuple hq
  exact SeqAt.EqAt.list_tuple t1.isList t2 (by omega)
 | tl hp hq =>
  intro A u v rx ry hu
  cases rx
  cases ry
  obtain⟨us,r1,t1,_⟩:=I.tuple hp
  obtain⟨ws,r2,t2,_⟩:=I.list hq
  exact SeqAt.EqAt.tuple_list t1 t2.isList (by omega)
 | lf hp fy =>
  intro A u v rx ry hu
  cases rx
  obtain⟨us,r1,t1,_⟩:=I.list hp
  exact(LQ t1.isList fy ry (by omega)).2.1
 | fl hp fy =>
  intro A u v rx ry hu
  cases ry
  obtain⟨us,r1,t1,_⟩:=I.list hp
  exact(LQ t1.isList fy rx (by omega)).2.2.2.1
 | tf hp fy =>
  intro A u v rx ry hu
  cases rx
  obtain⟨us,r1,t1,_⟩:=I.tuple hp
  exact(QD t1 fy ry (by omega)).2.1
 | ft hp fy =>
  intro A u v rx ry hu
  cases ry
  obtain⟨us,r1,t1,_⟩:=I.tuple hp
  exact(QD t1 fy rx (by omega)).2.2.2.1
theorem NP.rc {n:Nat}{x y:V}{b:Bool}(h:NP X.K H n x y b)(I:Inv X pins σ H s)(hn:¬(uO x=true/\uO y=true)){A:Around}{u v:Value}(rx:RelV x u)(ry:RelV y v)(hu:A.units+n<cLine):SeqAt.RcAt A s u v b/\SeqAt.RcNeAt A s u v (!b):=by
 cases h with
 | flat fx fy=>exact absurd ⟨fx,fy⟩ hn
 | @tt n p q xs ys e hp hq h =>
  cases rx
  cases ry
  obtain⟨us,r1,t1,_⟩:=I.tuple hp
  obtain⟨ws,r2,t2,_⟩:=I.tuple hq
  have l1:=r1.length
  have l2:=r2.length
  have he:∀j (h1:j<us.toArray.size) (h2:j<ws.toArray.size),SeqAt.EqAt A.in1 s us.toArray[j] ws.toArray[j] (e j):=fun j h1 h2=>by
   obtain⟨x,hx,rx⟩:=item_at r1 h1
   obtain⟨y,hy,ry⟩:=item_at r2 h2
   exact(h j x y hx hy).at I rx ry (by show A.units+1+n<cLine;omega)
  have z:=SeqAt.RcAt.tuples (A:=A) (e:=e) t1 t2 (by omega) he
  have z2:=SeqAt.RcNeAt.tuples (A:=A) (e:=e) t1 t2 (by omega) he
  rw[zCS,zCS,<-l1,<-l2] at z z2
  exact⟨z,z2⟩
 | @ll n p q xs ys e hp hq hl h =>
  cases rx
  cases ry
  obtain⟨us,r1,t1,_⟩:=I.list hp
  obtain⟨ws,r2,t2,_⟩:=I.list hq
  have l1:=r1.length
  have l2:=r2.length
  have he:∀j (h1:j<us.toArray.size) (h2:j<ws.toArray.size),SeqAt.EqAt A.in1 s us.toArray[j] ws.toArray[j] (e j):=fun j h1 h2=>by
   obtain⟨x,hx,rx⟩:=item_at r1 h1
   obtain⟨y,hy,ry⟩:=item_at r2 h2
   exact(h j x y hx hy).at I rx ry (by show A.units+1+n<cLine;omega)
  have z:=SeqAt.RcAt.lists (A:=A) (e:=e) t1.isList t2.isList (by simp;omega) (by omega) he
  have z2:=SeqAt.RcNeAt.lists (A:=A) (e:=e) t1.isList t2.isList (by simp;omega) (by omega) he
  rw[zCS,<-l1] at z z2
  exact⟨z,z2⟩
 | @ln n p q xs ys hp hq hl =>
  cases rx
  cases ry
  obtain⟨us,r1,t1,_⟩:=I.list hp
  obtain⟨ws,r2,t2,_⟩:=I.list hq
  have l1:=r1.length
  have l2:=r2.length
  exact⟨SeqAt.RcAt.lists_lengths t1.isList t2.isList (by simp;omega) (by omega),SeqAt.RcNeAt.lists_lengths t1.isList t2.isList (by simp;omega) (by omega)⟩
 | lt hp hq =>
  cases rx
  cases ry
  obtain⟨us,r1,t1,_⟩:=I.list hp
  obtain⟨ws,r2,t2,_⟩:=I.tuple hq
  exact⟨SeqAt.RcAt.list_tuple t1.isList t2 (by omega),SeqAt.RcNeAt.list_tuple t1.isList t2 (by omega)⟩
 | tl hp hq =>
  cases rx
  cases ry
  obtain⟨us,r1,t1,_⟩:=I.tuple hp
  obtain⟨ws,r2,t2,_⟩:=I.list hq
  exact⟨SeqAt.RcAt.tuple_list t1 t2.isList (by omega),SeqAt.RcNeAt.tuple_list t1 t2.isList (by omega)⟩
 | lf hp fy =>
  cases rx
  obtain⟨us,r1,t1,_⟩:=I.list hp
  have z:=LQ (A:=A) t1.isList fy ry (by omega)
  exact⟨z.1,z.2.2.2.2.1⟩
 | fl hp fy =>
  cases ry
  obtain⟨us,r1,t1,_⟩:=I.list hp
  have z:=LQ (A:=A) t1.isList fy rx (by omega)
  exact⟨z.2.2.1,z.2.2.2.2.2⟩
 | tf hp fy =>
  cases rx
  obtain⟨us,r1,t1,_⟩:=I.tuple hp
  have z:=QD (A:=A) t1 fy ry (by omega)
  exact⟨z.1,z.2.2.2.2.1⟩
 | ft hp fy =>
  cases ry
  obtain⟨us,r1,t1,_⟩:=I.tuple hp
  have z:=QD (A:=A) t1 fy rx (by omega)
  exact⟨z.2.2.1,z.2.2.2.2.2⟩
end
section
variable {X:Cx}
theorem zj3 {K:Frag}(hK:X.K=K)(hu:X.A.units+8<cLine):Qu X (compareOp .Eq) (fun x y H Q=>∃b,¬(uO x=true/\uO y=true)/\NP K H 8 x y b/\Q (.bl b) H):=by
 subst hK
 intro pins s σ H x y v u Q I rx ry h
 obtain⟨b,hn,he,q⟩:=h
 exact(he.rc I hn rx ry hu).1 X.prog X.w X.xe _ ⟨.bl b,H,I,rfl,q⟩
theorem hu8 {A:Around}{k:Nat}(hr:Wj k A):A.units+8<cLine:=by have:=hr.units;omega
theorem zea {K:Frag}{H:Hp}{x:V}{n:Nat}{e:V->Bool}:∀{xs:List V} {us:List Value},Vals xs us->(∀y∈xs,NP K H n y x (e y))->∃f:Value->Bool,(∀(i:Nat) y u,xs[i]?=some y->us[i]?=some u->f u=e y)/\us.any f=xs.any e:=by
 intro xs us r h
 refine⟨fun u=>match V6 u with | some y=>e y | none=>false,fun i y u hy hu=>?_,?_⟩
 ·obtain⟨u',hu',ru⟩:=r.get hy
  rw[hu] at hu'
  cases hu'
  show(match V6 u with | some y=>e y | none=>false)=e y
  rw[ru.abs]
 ·clear h
  induction r with
  | nil=>rfl
  | cons r t ih =>
   rw[List.any_cons,List.any_cons,ih]
   congr 1
   show(match V6 _ with | some y=>e y | none=>false)=_
   rw[r.abs]
def ztu (K:Frag)(neg:Bool):R2:=fun x y H Q=>∃(p:Addr) (xs:List V) (e:V->Bool),y=.ref p/\(zM K H p xs\/vW K H p xs)/\(∀z∈xs,NP K H 8 z x (e z))/\Q (.bl (if neg then !xs.any e else xs.any e)) H
theorem zrX {K:Frag}(hK:X.K=K)(hu:X.A.units+9<cLine):Qu X (compareOp .In) (ztu K false):=by
 subst hK
 intro pins s σ H x y v u Q I rx ry h
 obtain⟨p,xs,e,rfl,hq,he,q⟩:=h
 cases ry
 rcases hq with hq | hq
 ·obtain⟨us,r,pl,hz⟩:=I.list hq
  obtain⟨f,f1,f2⟩:=zea r he
  refine SeqAt.in_listAt f pl.isList (fun w hw=>?_) ⟨.bl _,H,I,rfl,?_⟩
  ·have hw':w∈us:=by simpa using hw
   obtain⟨i,hi,ew⟩:=zDr hw'
   have hx:i<xs.length:=by rw[r.length];exact hi
   have z:=f1 i xs[i] w (zCJ hx) (by rw[zCJ hi,ew])
   obtain⟨w',hw2,rw'⟩:=r.get (zCJ hx)
   rw[zCJ hi,ew] at hw2
   cases hw2
   rw[z]
   exact(he _ (zDq hx)).at I rw' rx (by show X.A.units+1+8<cLine;omega)
  ·rw[show us.toArray.any f=us.any f by simp,f2]
   exact q
 ·obtain⟨us,r,pl,hz⟩:=I.tuple hq
  obtain⟨f,f1,f2⟩:=zea r he
  refine SeqAt.in_tupleAt f pl (fun w hw=>?_) ⟨.bl _,H,I,rfl,?_⟩
  ·have hw':w∈us:=by simpa using hw
   obtain⟨i,hi,ew⟩:=zDr hw'
   have hx:i<xs.length:=by rw[r.length];exact hi
   have z:=f1 i xs[i] w (zCJ hx) (by rw[zCJ hi,ew])
   obtain⟨w',hw2,rw'⟩:=r.get (zCJ hx)
   rw[zCJ hi,ew] at hw2
   cases hw2
   rw[z]
   exact(he _ (zDq hx)).at I rw' rx (by show X.A.units+1+8<cLine;omega)
  ·rw[show us.toArray.any f=us.any f by simp,f2]
   exact q
theorem zmF {K:Frag}(hK:X.K=K)(hu:X.A.units+9<cLine):Qu X (compareOp .NotIn) (ztu K true):=by
 subst hK
 intro pins s σ H x y v u Q I rx ry h
 obtain⟨p,xs,e,rfl,hq,he,q⟩:=h
 cases ry
 rcases hq with hq | hq
 ·obtain⟨us,r,pl,hz⟩:=I.list hq
  obtain⟨f,f1,f2⟩:=zea r he
  refine SeqAt.notIn_listAt f pl.isList (fun w hw=>?_) ⟨.bl _,H,I,rfl,?_⟩
  ·have hw':w∈us:=by simpa using hw
   obtain⟨i,hi,ew⟩:=zDr hw'
   have hx:i<xs.length:=by rw[r.length];exact hi
   have z:=f1 i xs[i] w (zCJ hx) (by rw[zCJ hi,ew])
   obtain⟨w',hw2,rw'⟩:=r.get (zCJ hx)
   rw[zCJ hi,ew] at hw2
   cases hw2
   rw[z]
   exact(he _ (zDq hx)).at I rw' rx (by show X.A.units+1+8<cLine;omega)
  ·rw[show us.toArray.any f=us.any f by simp,f2]
   exact q
 ·obtain⟨us,r,pl,hz⟩:=I.tuple hq
  obtain⟨f,f1,f2⟩:=zea r he
  refine SeqAt.notIn_tupleAt f pl (fun w hw=>?_) ⟨.bl _,H,I,rfl,?_⟩
  ·have hw':w∈us:=by simpa using hw
   obtain⟨i,hi,ew⟩:=zDr hw'
   have hx:i<xs.length:=by rw[r.length];exact hi
   have z:=f1 i xs[i] w (zCJ hx) (by rw[zCJ hi,ew])
   obtain⟨w',hw2,rw'⟩:=r.get (zCJ hx)
   rw[zCJ hi,ew] at hw2
   cases hw2
   rw[z]
   exact(he _ (zDq hx)).at I rw' rx (by show X.A.units+1+8<cLine;omega)
  ·rw[show us.toArray.any f=us.any f by simp,f2]
   exact q
theorem zir:∀{xs:List V} {us:List Value},xs.length=us.length->(∀(j:Nat) u,us[j]?=some u->∃x,xs[j]?=some x/\RelV x u)->Vals xs us
 | [],[],_,_=>.nil
 | [],_::_,h,_=>by simp at h
 | _::_,[],h,_=>by simp at h
 | x::xs,u::us,hl,h=>by
  obtain⟨x',e,r⟩:=h 0 u rfl
  cases e
  refine .cons r (zir (by simpa using hl) fun j v hv=>?_)
  obtain⟨y,e,r⟩:=h (j+1) v (by simpa using hv)
  exact⟨y,by simpa using e,r⟩
end
end L2
namespace wK
abbrev Rm:=Option (Nat×Nat×Nat)
def Jb (n:Nat)(rs:List Rm)(k:Nat):Nat:=match rs[k]? with
 | some (some (i,_,_))=>i
 | _=>n
structure Bk (n:Nat)(rs:List Rm):Prop where
 h0:rs[0]?=some none
 h1:rs[1]?=some none
 rm:∀k,2<=k->k<rs.length->∃i lo hi,rs[k]?=some (some (i,lo,hi))/\i<n/\lo<k/\hi<k/\lo≠hi/\i<Jb n rs lo/\i<Jb n rs hi
 uq:∀(k l:Nat) (x:Nat×Nat×Nat),rs[k]?=some (some x)->rs[l]?=some (some x)->k=l
abbrev Row:=Nat->Bool
def put (r:Row)(i:Nat)(v:Bool):Row:=fun j=>if j=i then v else r j
def lead (rs:List Rm)(r:Row):Nat->Nat->Nat
 | 0,k=>k
 | f+1,k=>match rs[k]? with
  | some (some (i,lo,hi))=>lead rs r f (if r i then hi else lo)
  | _=>k
theorem zgo {n:Nat}{rs:List Rm}(B:Bk n rs)(r:Row):∀(f g k:Nat),k<=f->k<=g->k<rs.length->lead rs r f k=lead rs r g k
 | 0,0,k,_,_,_=>rfl
 | 0,g+1,k,h,_,_=>by
  have e:k=0:=by omega
  subst e
  show 0=lead rs r (g+1) 0
  unfold lead
  rw[B.h0]
 | f+1,0,k,_,h,_=>by
  have e:k=0:=by omega
  subst e
  show lead rs r (f+1) 0=0
  unfold lead
  rw[B.h0]
 | f+1,g+1,k,hf,hg,hk=>by
  by_cases h2:2<=k
  ·obtain⟨i,lo,hi,e,_,hlo,hhi,_⟩:=B.rm k h2 hk
   unfold lead
   rw[e]
   show lead rs r f (if r i then hi else lo)=lead rs r g (if r i then hi else lo)
   refine zgo B r f g _ ?_ ?_ ?_<;>(split<;>omega)
  ·have:k=0\/k=1:=by omega
   rcases this with e | e<;>subst e<;>unfold lead
   ·rw[B.h0]
   ·rw[B.h1]
def yes (rs:List Rm)(k:Nat)(r:Row):Bool:=lead rs r k k==1
section
variable {n:Nat}{rs:List Rm}(B:Bk n rs)
include B
theorem len2:2<=rs.length:=by
 have:=(zCL.mp B.h1).1
 omega
theorem zoe (r:Row):yes rs 0 r=false:=rfl
theorem LR (r:Row):yes rs 1 r=true:=by
 unfold yes lead
 rw[B.h1]
 rfl
theorem zmG {k i lo hi:Nat}(e:rs[k]?=some (some (i,lo,hi)))(r:Row):lead rs r k k=lead rs r (if r i then hi else lo) (if r i then hi else lo):=by
 have hk:=(zCL.mp e).1
 have k2:2<=k:=by
  by_cases h:2<=k
  ·exact h
  ·exfalso
   have:k=0\/k=1:=by omega
   rcases this with z | z<;>subst z
   ·rw[B.h0] at e;cases e
   ·rw[B.h1] at e;cases e
 obtain⟨i',lo',hi',e',_,hlo,hhi,_⟩:=B.rm k k2 hk
 rw[e] at e'
 cases e'
 obtain⟨m,rfl⟩:∃m,k=m+1:=⟨k-1,by omega⟩
 show(match rs[m+1]? with | some (some (i,lo,hi))=>lead rs r m (if r i then hi else lo) | _=>m+1)=_
 rw[e]
 show lead rs r m (if r i then hi else lo)=_
 refine zgo B r _ _ _ ?_ (zCY _) ?_<;>(split<;>omega)
theorem Mh {k i lo hi:Nat}(e:rs[k]?=some (some (i,lo,hi)))(r:Row):yes rs k r=if r i then yes rs hi r else yes rs lo r:=by
 unfold yes
 rw[zmG B e r]
 split<;>rfl
theorem Mi {k i lo hi:Nat}(e:rs[k]?=some (some (i,lo,hi))):Jb n rs k=i:=by unfold Jb;rw[e]
theorem zj4:Jb n rs 0=n:=by unfold Jb;rw[B.h0]
theorem zg9:Jb n rs 1=n:=by unfold Jb;rw[B.h1]
theorem RZ:∀(m k:Nat),k<=m->k<rs.length->∀{r r':Row},(∀i,Jb n rs k<=i->i<n->r i=r' i)->yes rs k r=yes rs k r'
 | m,k,hm,hk,r,r',h=>by
  by_cases h2:2<=k
  ·obtain⟨i,lo,hi,e,hin,hlo,hhi,_,l1,l2⟩:=B.rm k h2 hk
   have lk:=Mi B e
   rw[Mh B e,Mh B e,h i (by omega) hin]
   match m,hm with
   | 0,hm=>omega
   | m+1,hm =>
    rw[RZ m hi (by omega) (by omega) fun j hj hjn=>h j (by omega) hjn,RZ m lo (by omega) (by omega) fun j hj hjn=>h j (by omega) hjn]
  ·have:k=0\/k=1:=by omega
   rcases this with z | z<;>subst z
   ·rfl
   ·rw[LR B,LR B]
theorem Xn {k i:Nat}(hk:k<rs.length)(h:i<Jb n rs k)(r:Row)(v:Bool):yes rs k (put r i v)=yes rs k r:=by
 refine RZ B k k (zCY _) hk fun j hj _=>?_
 unfold put
 rw[if_neg (by omega)]
theorem QF {k i lo hi:Nat}(e:rs[k]?=some (some (i,lo,hi)))(hk:k<rs.length)(r:Row):yes rs k (put r i false)=yes rs lo r/\yes rs k (put r i true)=yes rs hi r:=by
 have k2:2<=k:=by
  by_cases h:2<=k
  ·exact h
  ·exfalso
   have:k=0\/k=1:=by omega
   rcases this with z | z<;>subst z
   ·rw[B.h0] at e;cases e
   ·rw[B.h1] at e;cases e
 obtain⟨i',lo',hi',e',_,hlo,hhi,_,l1,l2⟩:=B.rm k k2 hk
 rw[e] at e'
 cases e'
 constructor
 ·rw[Mh B e]
  have z:put r i false i=false:=by unfold put;rw[if_pos rfl]
  rw[z,if_neg zCM]
  exact Xn B (by omega) l1 r false
 ·rw[Mh B e]
  have z:put r i true i=true:=by unfold put;rw[if_pos rfl]
  rw[z,if_pos rfl]
  exact Xn B (by omega) l2 r true
theorem Vy:∀(m k l:Nat),(k<=m/\l<=m)->k<rs.length->l<rs.length->(∀r,yes rs k r=yes rs l r)->k=l
 | m,k,l,hm,hk,hl,h=>by
  by_cases k2:2<=k
  ·obtain⟨i,lo,hi,e,hin,hlo,hhi,hne,l1,l2⟩:=B.rm k k2 hk
   by_cases l2':2<=l
   ·obtain⟨j,lo',hi',e',hjn,hlo',hhi',hne',l1',l2''⟩:=B.rm l l2' hl
    match m,hm with
    | 0,hm=>omega
    | m+1,hm =>
     rcases Nat.lt_trichotomy i j with q | q | q
     ·exfalso
      refine hne (Vy m lo hi (by omega) (by omega) (by omega) fun r=>?_)
      have z:=QF B e hk r
      rw[<-z.1,<-z.2,h,h,Xn B hl (by rw[Mi B e'];exact q),Xn B hl (by rw[Mi B e'];exact q)]
     ·subst q
      have a1:lo=lo':=Vy m lo lo' (by omega) (by omega) (by omega) fun r=>by rw[<-(QF B e hk r).1,<-(QF B e' hl r).1,h]
      have a2:hi=hi':=Vy m hi hi' (by omega) (by omega) (by omega) fun r=>by rw[<-(QF B e hk r).2,<-(QF B e' hl r).2,h]
      subst a1 a2
      exact B.uq k l _ e e'
     ·exfalso
      refine hne' (Vy m lo' hi' (by omega) (by omega) (by omega) fun r=>?_)
      have z:=QF B e' hl r
      rw[<-z.1,<-z.2,<-h,<-h,Xn B hk (by rw[Mi B e];exact q),Xn B hk (by rw[Mi B e];exact q)]
   ·exfalso
    match m,hm with
    | 0,hm=>omega
    | m+1,hm =>
     have ll:Jb n rs l=n:=by
      have:l=0\/l=1:=by omega
      rcases this with z | z<;>subst z
      ·exact zj4 B
      ·exact zg9 B
     refine hne (Vy m lo hi (by omega) (by omega) (by omega) fun r=>?_)
     have z:=QF B e hk r
     rw[<-z.1,<-z.2,h,h,Xn B hl (by omega),Xn B hl (by omega)]
  ·by_cases l2':2<=l
   ·exfalso
    obtain⟨j,lo',hi',e',hjn,hlo',hhi',hne',l1',l2''⟩:=B.rm l l2' hl
    match m,hm with
    | 0,hm=>omega
    | m+1,hm =>
     have ll:Jb n rs k=n:=by
      have:k=0\/k=1:=by omega
      rcases this with z | z<;>subst z
      ·exact zj4 B
      ·exact zg9 B
     refine hne' (Vy m lo' hi' (by omega) (by omega) (by omega) fun r=>?_)
     have z:=QF B e' hl r
     rw[<-z.1,<-z.2,<-h,<-h,Xn B hk (by omega),Xn B hk (by omega)]
   ·have a:k=0\/k=1:=by omega
    have b:l=0\/l=1:=by omega
    have z:=h fun _=>false
    rcases a with a | a<;>rcases b with b | b<;>subst a<;>subst b
    ·rfl
    ·rw[zoe B,LR B] at z;cases z
    ·rw[zoe B,LR B] at z;cases z
    ·rfl
end
theorem Xo {rs:List Rm}{x:Rm}{k:Nat}(h:k<rs.length):(rs++[x])[k]?=rs[k]?:=zDf h
theorem Mj {n:Nat}{rs:List Rm}{x:Rm}{k:Nat}(h:k<rs.length):Jb n (rs++[x]) k=Jb n rs k:=by
 unfold Jb;rw[Xo h]
theorem Bk.snoc {n:Nat}{rs:List Rm}(B:Bk n rs){i lo hi:Nat}(hin:i<n)(hlo:lo<rs.length)(hhi:hi<rs.length)(hne:lo≠hi)(l1:i<Jb n rs lo)(l2:i<Jb n rs hi)(new:some (i,lo,hi)∉rs):Bk n (rs++[some (i,lo,hi)]) where
 h0:=by rw[Xo (by have:=len2 B;omega)];exact B.h0
 h1:=by rw[Xo (by have:=len2 B;omega)];exact B.h1
 rm:=fun k h2 hk=>by
  rw[zCQ,zDg] at hk
  by_cases hlt:k<rs.length
  ·obtain⟨i',lo',hi',e,a1,a2,a3,a4,a5,a6⟩:=B.rm k h2 hlt
   exact⟨i',lo',hi',by rw[Xo hlt];exact e,a1,a2,a3,a4,by rw[Mj (by omega)];exact a5,by rw[Mj (by omega)];exact a6⟩
  ·have e:k=rs.length:=by omega
   subst e
   exact⟨i,lo,hi,by simp,hin,hlo,hhi,hne,by rw[Mj hlo];exact l1,by rw[Mj hhi];exact l2⟩
 uq:=fun k l x hk hl=>by
  have lk:=(zCL.mp hk).1
  have ll:=(zCL.mp hl).1
  rw[zCQ,zDg] at lk ll
  have last:∀m,m=rs.length->(rs++[some (i,lo,hi)])[m]?=some (some x)->x=(i,lo,hi):=fun m hm h=>by
   subst hm
   simp at h
   exact h.symm
  by_cases h1:k<rs.length
  ·by_cases h2:l<rs.length
   ·rw[Xo h1] at hk
    rw[Xo h2] at hl
    exact B.uq k l x hk hl
   ·exfalso
    have e:=last l (by omega) hl
    subst e
    rw[Xo h1] at hk
    exact new (zCN hk)
  ·by_cases h2:l<rs.length
   ·exfalso
    have e:=last k (by omega) hk
    subst e
    rw[Xo h2] at hl
    exact new (zCN hl)
   ·omega
theorem zgp {n:Nat}{rs:List Rm}(B:Bk n rs){x:Rm}(r:Row):∀(f k:Nat),k<rs.length->lead (rs++[x]) r f k=lead rs r f k
 | 0,_,_=>rfl
 | f+1,k,hk=>by
  unfold lead
  rw[Xo hk]
  by_cases h2:2<=k
  ·obtain⟨i,lo,hi,e,_,hlo,hhi,_⟩:=B.rm k h2 hk
   rw[e]
   show lead (rs++[x]) r f (if r i then hi else lo)=lead rs r f (if r i then hi else lo)
   exact zgp B r f _ (by split<;>omega)
  ·have:k=0\/k=1:=by omega
   rcases this with z | z<;>subst z
   ·rw[B.h0]
   ·rw[B.h1]
theorem zis {n:Nat}{rs:List Rm}(B:Bk n rs){x:Rm}{k:Nat}(hk:k<rs.length)(r:Row):yes (rs++[x]) k r=yes rs k r:=by
 unfold yes;rw[zgp B r k k hk]
def tG (rs rs':List Rm):Prop:=∃xs,rs'=rs++xs
theorem tG.refl (rs:List Rm):tG rs rs:=⟨[],by simp⟩
theorem tG.trans {a b c:List Rm}(h:tG a b)(k:tG b c):tG a c:=by
 obtain⟨x,rfl⟩:=h
 obtain⟨y,rfl⟩:=k
 exact⟨x++y,by rw[List.append_assoc]⟩
theorem tG.len {a b:List Rm}(h:tG a b):a.length<=b.length:=by
 obtain⟨x,rfl⟩:=h
 rw[zCQ];omega
theorem tG.get {a b:List Rm}(h:tG a b){k:Nat}(hk:k<a.length):b[k]?=a[k]?:=by
 obtain⟨x,rfl⟩:=h
 exact zDf hk
theorem tG.snoc (rs:List Rm)(x:Rm):tG rs (rs++[x]):=⟨[x],rfl⟩
theorem tG.Jb {n:Nat}{a b:List Rm}(h:tG a b){k:Nat}(hk:k<a.length):Jb n b k=Jb n a k:=by
 unfold wK.Jb;rw[h.get hk]
theorem tG.lead {n:Nat}{a b:List Rm}(B:Bk n a)(h:tG a b)(r:Row):∀(f k:Nat),k<a.length->lead b r f k=lead a r f k
 | 0,_,_=>rfl
 | f+1,k,hk=>by
  unfold wK.lead
  rw[h.get hk]
  by_cases h2:2<=k
  ·obtain⟨i,lo,hi,e,_,hlo,hhi,_⟩:=B.rm k h2 hk
   rw[e]
   show wK.lead b r f (if r i then hi else lo)=wK.lead a r f (if r i then hi else lo)
   exact tG.lead B h r f _ (by split<;>omega)
  ·have:k=0\/k=1:=by omega
   rcases this with z | z<;>subst z
   ·rw[B.h0]
   ·rw[B.h1]
theorem tG.yes {n:Nat}{a b:List Rm}(B:Bk n a)(h:tG a b){k:Nat}(hk:k<a.length)(r:Row):yes b k r=yes a k r:=by
 unfold wK.yes;rw[tG.lead B h r k k hk]
theorem sub_len {α:Type}[DecidableEq α]:∀{xs ys:List α},xs.Nodup->(∀x∈xs,x∈ys)->xs.length<=ys.length
 | [],_,_,_=>zC5 _
 | x::xs,ys,nd,h=>by
  obtain⟨h1,h2⟩:=List.nodup_cons.mp nd
  have hx:=h x zC2
  have ih:=sub_len (xs:=xs) (ys:=ys.erase x) h2 fun y hy=>(List.mem_erase_of_ne (fun e:y=x=>h1 (by rw[<-e];exact hy))).mpr (h y (zCT _ hy))
  rw[List.length_erase_of_mem hx] at ih
  have:=List.length_pos_of_mem hx
  rw[zCU]
  omega
end wK
namespace L2
theorem hu9 {A:PySem.Around}{k:Nat}(hr:Wj k A):A.units+9<PySem.cLine:=by have:=hr.units;omega
end L2
namespace Zk
open PySem L2 wK
abbrev uF:=Addr->Prop
def zqc (F:uF)(H H':Hp):Prop:=∀x o,H x=some o->¬F x->H' x=some o
def zgq:List Str:=["room", "size", "order", "enter", "worth_at", "below"]
structure Ml (C:Addr)(B:Hp->Addr->List Str->List Rm->uF->Prop):Prop where
 ins:∀{H b os rs F},B H b os rs F->∃dx fs,H b=some (.ins C dx fs)/\∀m∈zgq,fs.lookup m=none
 frame:∀{H H' b os rs F},B H b os rs F->(∀x o,H x=some o->F x->H' x=some o)->yC H H'->B H' b os rs F
 there:∀{H b os rs F x},B H b os rs F->F x->H x≠none
 bk:∀{H b os rs F},B H b os rs F->Bk os.length rs
 ord:∀{H b os rs F},B H b os rs F->vH os
theorem Ml.same {C:Addr}{B:Hp->Addr->List Str->List Rm->uF->Prop}(L:Ml C B){H H':Hp}{b:Addr}{os:List Str}{rs:List Rm}{F:uF}(h:B H b os rs F)(g:Same H H'):B H' b os rs F :=
 L.frame h (fun x o e _=>g x o e) (yC.of g)
theorem Ml.fresh {C:Addr}{B:Hp->Addr->List Str->List Rm->uF->Prop}(L:Ml C B){H:Hp}{b x:Addr}{os:List Str}{rs:List Rm}{F:uF}(h:B H b os rs F)(e:H x=none):¬F x:=fun q=>L.there h q e
def zmH (os:List Str)(r:Row):Str->Bool:=fun x=>r (ix os x)
section
variable (B:Hp->Addr->List Str->List Rm->uF->Prop)(K:Frag)(C:Addr)
def zeb:Sp:=fun vs H Q _=>∃(b dx l:Addr) (os:List Str),vs=[.ref b,.ref l]/\H b=some (.ins C dx [])/\b≠dx/\zM K H l (os.map V.str)/\vH os /\
 ∀(H':Hp) (F:uF),(∀x o,H x=some o->x≠b->H' x=some o)->B H' b os [none,none] F->(∀x,F x->x=b\/x=dx\/H x=none)->Q .non H'
def xQ:Sp:=fun vs H Q _=>∃(b:Addr) (os:List Str) (rs:List Rm) (F:uF),vs=[.ref b]/\B H b os rs F/\∀(l:Addr) (H':Hp),Same H H'->H l=none->H' l=some (.lst (os.map V.str))->Q (.ref l) H'
end
theorem ztw {K:Frag}{H:Hp}{n:Nat}{p q:Addr}{xs ys:List V}(hp:zM K H p xs)(hq:zM K H q ys)(hl:xs.length=ys.length)(h:∀(j:Nat) x y,xs[j]?=some x->ys[j]?=some y->NP K H n x y true):NP K H (n+1) (.ref p) (.ref q) true:=by
 have z:=NP.ll (e:=fun _=>true) hp hq hl h
 have e:(List.range xs.length).all (fun _=>true)=true:=by simp
 rw[e] at z
 exact z
theorem zqd {K:Frag}{H:Hp}{n:Nat}{x:V}(f:uO x=true):NP K H n x x true:=by
 have z:=NP.flat (K:=K) (H:=H) (n:=n) f f
 rw[zaD f] at z
 exact z
theorem zit {xs:List V}{n:Nat}:K3 xs none (some (n:Int))=xs.take n:=by
 unfold K3
 rw[HT.zdR,HT.Ls,List.drop_zero,Nat.sub_zero]
 by_cases h:n<=xs.length
 ·rw[Nat.min_eq_left h]
 ·rw[Nat.min_eq_right (by omega),zDb,List.take_of_length_le (by omega)]
end Zk
namespace wK
def Means (rs:List Rm)(k:Nat)(f:Row->Bool):Prop:=k<rs.length/\∀r,yes rs k r=f r
theorem Means.grown {n:Nat}{a b:List Rm}(B:Bk n a)(g:tG a b){k:Nat}{f:Row->Bool}(h:Means a k f):Means b k f:=⟨zCR h.1 g.len,fun r=>by rw[g.yes B h.1];exact h.2 r⟩
end wK
namespace L2
open PySem
theorem zqe {X:Cx}{all rest:List Stmt}{D:Ends}{Tf:TS->TS}{Pre:St->Hp->Prop}(Mid:St->Hp->Prop)(h1:∀t,PSs X rest t->PSs X all (Tf t))(h:∀u:TS,(∀ σ H,Mid σ H->u D σ H)->∀ σ H,Pre σ H->Tf u D σ H)
  (hr:∃t,PSs X rest t/\∀ σ H,Mid σ H->t D σ H):∃t,PSs X all t/\∀ σ H,Pre σ H->t D σ H :=
 let ⟨t,a,b⟩:=hr
 ⟨Tf t,h1 t a,h t b⟩
theorem ztx {X:Cx}{all:List Stmt}{D:Ends}{σ:St}{H:Hp}(h:∃t,PSs X all t/\∀ σ' H',(σ'=σ/\H'=H)->t D σ' H'):∃t,PSs X all t/\t D σ H :=
 let ⟨t,a,b⟩:=h
 ⟨t,a,b _ _ ⟨rfl,rfl⟩⟩
end L2
namespace wK
open Zk
def QG (b:Nat):Row:=fun i=>b.testBit i
def bits (r:Row):Nat->Nat
 | 0=>0
 | n+1=>if r n then bits r n+2^n else bits r n
theorem wu (r:Row):∀n,bits r n<2^n
 | 0=>Nat.zero_lt_one
 | n+1=>by
  have ih:=wu r n
  unfold bits
  rw[Nat.pow_succ]
  split<;>omega
theorem Vz (r:Row):∀{n i:Nat},i<n->(bits r n).testBit i=r i
 | 0,i,h=>by omega
 | n+1,i,h=>by
  have lt:=wu r n
  have z:(bits r n).testBit n=false:=Nat.testBit_lt_two_pow lt
  unfold bits
  by_cases e:i=n
  ·subst e
   cases hr:r i
   ·rw[if_neg zCM];exact z
   ·rw[if_pos rfl,tE,z];rfl
  ·have hi:i<n:=by omega
   split
   ·rw[Lx hi];exact Vz r hi
   ·exact Vz r hi
theorem QJ {n a b:Nat}(ha:a<2^n)(hb:b<2^n)(h:∀i,i<n->a.testBit i=b.testBit i):a=b :=
 Nat.eq_of_testBit_eq fun i=>by
  by_cases hi:i<n
  ·exact h i hi
  ·have:2^n<=2^i:=zDe (by decide) (by omega)
   rw[Nat.testBit_lt_two_pow (by omega),Nat.testBit_lt_two_pow (by omega)]
theorem ziu {r:Row}{n i:Nat}(hi:i<n)(v:Bool):bits (put r i v) n=zO (bits r n) i v:=by
 refine QJ (wu _ _) (xg (wu _ _) hi) fun j hj=>?_
 rw[Vz _ hj,zV,Vz _ hj]
 rfl
theorem Ka {n b:Nat}(h:b<2^n):bits (QG b) n=b:=QJ (wu _ _) h fun i hi=>by rw[Vz _ hi];rfl
theorem zof {n:Nat}{rs:List Rm}(B:Bk n rs){k:Nat}(hk:k<rs.length)(r:Row):yes rs k (QG (bits r n))=yes rs k r :=
 RZ B k k (zCY _) hk fun i _ hi=>Vz r hi
theorem zlN {n N M:Nat}{f g:Nat->Bool}(h:zX n N f)(k:zX n M g)(e:∀b,b<2^n->f b=g b):N=M :=
 Nat.eq_of_testBit_eq fun i=>by
  rw[h i,k i]
  by_cases hi:i<2^n
  ·rw[e i hi]
  ·rw[decide_eq_false hi];rfl
theorem zaE {n N:Nat}{f:Nat->Bool}(h:zX n N f){b:Nat}(hb:b<2^n):N.testBit b=f b:=by rw[h b,decide_eq_true hb];rfl
def Free (n:Nat)(f:Nat->Bool)(p:Nat):Prop:=∀b,b<2^n->∀v,f (zO b p v)=f b
theorem xY (b p:Nat):zO b p (b.testBit p)=b:=by unfold zO;rw[if_pos rfl]
theorem Free.zqf {n p:Nat}{f:Nat->Bool}(h:∀b,b<2^n->f (zO b p (!b.testBit p))=f b):Free n f p:=fun b hb v=>by
 by_cases e:v=b.testBit p
 ·rw[e,xY]
 ·have:v=!b.testBit p:=by cases v<;>cases hh:b.testBit p<;>simp_all
  rw[this];exact h b hb
theorem zfs {n:Nat}{f:Nat->Bool}(h:∀p,p<n->Free n f p):∀b,b<2^n->f b=f 0:=by
 have key:∀m b,m<=n->b<2^n->(∀i,m<=i->i<n->b.testBit i=false)->f b=f 0:=by
  intro m
  induction m with
  | zero =>
   intro b _ hb hz
   have:b=0:=QJ hb (Nat.two_pow_pos n) fun i hi=>by rw[hz i (zC5 _) hi,Nat.zero_testBit]
   rw[this]
  | succ m ih =>
   intro b hm hb hz
   rw[<-h m (by omega) b hb false]
   refine ih _ (by omega) (xg hb (by omega)) fun i hi hin=>?_
   rw[zV]
   by_cases e:i=m
   ·rw[if_pos e]
   ·rw[if_neg e];exact hz i (by omega) hin
 exact fun b hb=>key n b (zCY _) hb fun i hi hin=>by omega
theorem zrY {n:Nat}{rs:List Rm}(B:Bk n rs){k p:Nat}(hk:k<rs.length)(hp:p<n)(h:∀i,i<=p->∀r v,yes rs k (put r i v)=yes rs k r):p<Jb n rs k:=by
 by_cases k2:2<=k
 ·obtain⟨i,lo,hi,e,hin,hlo,hhi,hne,l1,l2⟩:=B.rm k k2 hk
  rw[Mi B e]
  by_cases hip:i<=p
  ·exfalso
   refine hne (Vy B (max lo hi) lo hi ⟨Nat.le_max_left _ _,Nat.le_max_right _ _⟩ (by omega) (by omega) fun r=>?_)
   have z:=QF B e hk r
   rw[<-z.1,<-z.2,h i hip,h i hip]
  ·omega
 ·have:k=0\/k=1:=by omega
  rcases this with z | z<;>subst z
  ·rw[zj4 B];exact hp
  ·rw[zg9 B];exact hp
theorem zog {n m p k0 k1:Nat}{rs:List Rm}{f:Nat->Bool}(B:Bk n rs)(hp:p<n)(m0:k0<rs.length)(m1:k1<rs.length)
  (y0:∀r,yes rs k0 r=f (zO (bits r n) p false))(y1:∀r,yes rs k1 r=f (zO (bits r n) p true))(fr:∀i,i<p->Free n f i)
  (dep:∃b,b<2^n/\f (zO b p false)≠f (zO b p true))(old:∀j,j<m->¬∀r,yes rs j r=f (bits r n))(hl:∀j,m<=j->j<rs.length->p<Jb n rs j) :
  Bk n (rs++[some (p,k0,k1)])/\∀r,yes (rs++[some (p,k0,k1)]) rs.length r=f (bits r n):=by
 have pb:∀(r:Row) v,zO (bits r n) p v<2^n:=fun r v=>xg (wu _ _) hp
 have low:∀(k:Nat) (w:Bool),k<rs.length->(∀r,yes rs k r=f (zO (bits r n) p w))->p<Jb n rs k:=fun k w hk hy=>zrY B hk hp fun i hi r v=>by
  rw[hy,hy,ziu (by omega)]
  by_cases e:i=p
  ·subst e
   congr 1
   refine QJ (xg (xg (wu _ _) hp) hp) (pb r w) fun j _=>?_
   rw[zV,zV,zV]
   by_cases e:j=i
   ·rw[if_pos e,if_pos e]
   ·rw[if_neg e,if_neg e,if_neg e]
  ·rw[<-fr i (by omega) _ (pb r w) v]
   congr 1
   refine QJ (xg (xg (wu _ _) (by omega)) hp) (xg (pb r w) (by omega)) fun j _=>?_
   rw[zV,zV,zV,zV]
   by_cases e1:j=p
   ·rw[if_pos e1,if_pos e1,if_neg (by omega)]
   ·rw[if_neg e1,if_neg e1]
 have ne:k0≠k1:=fun e=>by
  subst e
  obtain⟨b,hb,hne⟩:=dep
  refine hne ?_
  have a:=y0 (QG b)
  have c:=y1 (QG b)
  rw[Ka hb] at a c
  exact a.symm.trans c
 have fin:∀(R:List Rm) (k:Nat),Bk n R->R[k]?=some (some (p,k0,k1))->(∀j,j<rs.length->∀r,yes R j r=yes rs j r)->∀r,yes R k r=f (bits r n):=fun R k BR e same r=>by
  rw[Mh BR e,same _ m1,same _ m0,y0,y1]
  have hb:=Vz r hp
  cases hr:r p
  ·rw[if_neg zCM]
   rw[hr] at hb
   conv=>rhs;rw[<-xY (bits r n) p,hb]
  ·rw[if_pos rfl]
   rw[hr] at hb
   conv=>rhs;rw[<-xY (bits r n) p,hb]
 have new:some (p,k0,k1)∉rs:=fun h=>by
  obtain⟨j,hj,e⟩:=zDr h
  have e':rs[j]?=some (some (p,k0,k1)):=by rw[zCJ hj,e]
  by_cases hm:j<m
  ·exact old j hm (fin rs j B e' fun _ _ _=>rfl)
  ·have:=hl j (by omega) hj
   rw[Mi B e'] at this
   omega
 have B':=B.snoc hp m0 m1 ne (low k0 false m0 y0) (low k1 true m1 y1) new
 refine⟨B',fin _ _ B' (by simp) fun j hj r=>?_⟩
 exact zis B hj r
structure ziv (n:Nat)(rs:List Rm)(ts:List Nat):Prop where
 len:ts.length=rs.length
 tab:∀(j t:Nat),ts[j]?=some t->zX n t (fun b=>yes rs j (QG b))
theorem ziv.snoc {n:Nat}{rs:List Rm}(B:Bk n rs){ts:List Nat}{x:Rm}{t:Nat}(h:ziv n rs ts)(k:zX n t (fun b=>yes (rs++[x]) rs.length (QG b))):ziv n (rs++[x]) (ts++[t]):=by
 refine⟨by rw[zCQ,zCQ,h.len];rfl,fun j u e=>?_⟩
 by_cases hj:j<ts.length
 ·rw[zDf hj] at e
  refine vY (h.tab j u e) fun b _=>?_
  rw[zis B (by rw[<-h.len];exact hj)]
 ·have lt:=(zCL.mp e).1
  rw[zCQ,zDg] at lt
  have ej:j=ts.length:=by omega
  subst ej
  simp at e
  subst e
  rw[h.len]
  exact k
theorem ziv.find {n:Nat}{rs:List Rm}(B:Bk n rs){ts:List Nat}(h:ziv n rs ts){j t:Nat}{f:Nat->Bool}(e:ts[j]?=some t)(tb:zX n t f)(r:Row):yes rs j r=f (bits r n):=by
 have hj:j<rs.length:=by rw[<-h.len];exact(zCL.mp e).1
 rw[<-zof B hj,<-zaE tb (wu r n),zaE (h.tab j t e) (wu r n)]
theorem ziv.same {n:Nat}{rs:List Rm}{ts:List Nat}(h:ziv n rs ts){j t:Nat}{f:Nat->Bool}(hj:j<rs.length)(tb:zX n t f)(hy:∀r,yes rs j r=f (bits r n)):ts[j]?=some t:=by
 have lt:j<ts.length:=by rw[h.len];exact hj
 rw[zCJ lt]
 congr 1
 refine zlN (h.tab j _ (zCJ lt)) tb fun b hb=>?_
 show yes rs j (QG b)=f b
 rw[hy,Ka hb]
end wK
namespace Zk
open PySem L2 wK
structure Nums (ts:List Nat)(kvs:List (Key×V)):Prop where
 get:∀(j t:Nat),ts[j]?=some t->Yx kvs (Sum.inl (t:Int))=some (.int (j:Nat))
 non:∀t:Nat,t∉ts->Yx kvs (Sum.inl (t:Int))=none
 len:kvs.length<=ts.length
theorem Nums.snoc {ts:List Nat}{kvs:List (Key×V)}(h:Nums ts kvs){t:Nat}(ht:t∉ts):Nums (ts++[t]) (putK kvs (Sum.inl (t:Int)) (.int (ts.length:Nat))):=by
 refine⟨fun j u e=>?_,fun u hu=>?_,?_⟩
 ·rw[wV]
  by_cases hj:j<ts.length
  ·rw[zDf hj] at e
   have hm:=zCN e
   rw[if_neg fun z=>?_]
   ·exact h.get j u e
   ·have:(u:Int)=(t:Int):=Sum.inl.inj z
    have:u=t:=by omega
    exact ht (this ▸ hm)
  ·have lt:=(zCL.mp e).1
   rw[zCQ,zDg] at lt
   have ej:j=ts.length:=by omega
   subst ej
   simp at e
   subst e
   rw[if_pos rfl]
 ·rw[wV,if_neg fun z=>?_]
  ·exact h.non u fun z=>hu (List.mem_append_left _ z)
  ·have:(u:Int)=(t:Int):=Sum.inl.inj z
   have:u=t:=by omega
   exact hu (this ▸ zCZ _ zC2)
 ·have:=Sx kvs (Sum.inl (t:Int)) (.int (ts.length:Nat))
  have:=h.len
  rw[zCQ,zDg]
  omega
def zty (n j:Nat):Rm->List V
 | none=>[.int (n:Nat),.int (j:Nat),.int (j:Nat)]
 | some (i,lo,hi)=>[.int (i:Nat),.int (lo:Nat),.int (hi:Nat)]
def zbz (ml rl tl nd:Addr):List (Str×V):=[("marks", .ref ml),("rooms", .ref rl),("tables", .ref tl),("numbers", .ref nd)]
structure Parts (C:Addr)(H:Hp)(b:Addr)(os:List Str)(rs:List Rm)(F:uF)(dx ml rl tl nd:Addr)(rv:List V)(ts:List Nat)(kvs:List (Key×V)):Prop where
 hb:H b=some (.ins C dx (zbz ml rl tl nd))
 hm:H ml=some (.lst (os.map V.str))
 hr:H rl=some (.lst rv)
 ht:H tl=some (.lst (ts.map fun t=>V.int (t:Nat)))
 hd:H nd=some (.dK kvs)
 mr:ml≠rl
 mt:ml≠tl
 rt:rl≠tl
 ord:vH os
 bk:Bk os.length rs
 len:rv.length=rs.length
 rm:∀(j:Nat) x,rs[j]?=some x->∃p,rv[j]?=some (.ref p)/\H p=some (.tup (zty os.length j x))
 tabs:ziv os.length rs ts
 nums:Nums ts kvs
 ft:∀x,F x↔(x=b\/x=ml\/x=rl\/x=tl\/x=nd)
def yD (C:Addr)(H:Hp)(b:Addr)(os:List Str)(rs:List Rm)(F:uF):Prop:=∃dx ml rl tl nd rv ts kvs,Parts C H b os rs F dx ml rl tl nd rv ts kvs
theorem Parts.frame {C:Addr}{H H':Hp}{b:Addr}{os:List Str}{rs:List Rm}{F:uF}{dx ml rl tl nd:Addr}{rv:List V}{ts:List Nat}{kvs:List (Key×V)}(h:Parts C H b os rs F dx ml rl tl nd rv ts kvs)
  (s:∀x o,H x=some o->F x->H' x=some o)(t:yC H H'):Parts C H' b os rs F dx ml rl tl nd rv ts kvs :=
 {h with
  hb:=s _ _ h.hb ((h.ft _).mpr (.inl rfl))
  hm:=s _ _ h.hm ((h.ft _).mpr (.inr (.inl rfl)))
  hr:=s _ _ h.hr ((h.ft _).mpr (.inr (.inr (.inl rfl))))
  ht:=s _ _ h.ht ((h.ft _).mpr (.inr (.inr (.inr (.inl rfl)))))
  hd:=s _ _ h.hd ((h.ft _).mpr (.inr (.inr (.inr (.inr rfl)))))
  rm:=fun j x e=>let ⟨p,a,c⟩:=h.rm j x e;⟨p,a,t _ _ c⟩ }
theorem xU (C:Addr):Ml C (yD C) where
 ins:=fun⟨dx,ml,rl,tl,nd,rv,ts,kvs,h⟩=>⟨dx,_,h.hb,fun m hm=>by
  simp only[zgq,List.mem_cons,zC9,or_false] at hm
  rcases hm with z | z | z | z | z | z<;>subst z<;>rfl⟩
 frame:=fun⟨dx,ml,rl,tl,nd,rv,ts,kvs,h⟩ s t=>⟨dx,ml,rl,tl,nd,rv,ts,kvs,h.frame s t⟩
 there:=fun⟨dx,ml,rl,tl,nd,rv,ts,kvs,h⟩ hx=>by
  rcases (h.ft _).mp hx with z | z | z | z | z<;>subst z
  ·rw[h.hb];exact fun z=>by cases z
  ·rw[h.hm];exact fun z=>by cases z
  ·rw[h.hr];exact fun z=>by cases z
  ·rw[h.ht];exact fun z=>by cases z
  ·rw[h.hd];exact fun z=>by cases z
 bk:=fun⟨_,_,_,_,_,_,_,_,h⟩=>h.bk
 ord:=fun⟨_,_,_,_,_,_,_,_,h⟩=>h.ord
theorem Parts.more {C:Addr}{H H':Hp}{b:Addr}{os:List Str}{rs:List Rm}{F:uF}{dx ml rl tl nd:Addr}{rv:List V}{ts:List Nat}{kvs:List (Key×V)}(h:Parts C H b os rs F dx ml rl tl nd rv ts kvs)
  {i lo hi t:Nat}{q:Addr}(t':yC H H')(hb:H' b=H b)(hm:H' ml=H ml)(hr:H' rl=some (.lst (rv++[.ref q])))(ht:H' tl=some (.lst (ts.map (fun t=>V.int (t:Nat))++[.int (t:Nat)])))
  (hd:H' nd=some (.dK (putK kvs (Sum.inl (t:Int)) (.int (rs.length:Nat)))))(hq:H' q=some (.tup [.int (i:Nat),.int (lo:Nat),.int (hi:Nat)]))(B':Bk os.length (rs++[some (i,lo,hi)]))(hn:t∉ts)(tb:zX os.length t (fun b=>yes (rs++[some (i,lo,hi)]) rs.length (QG b))) :
  Parts C H' b os (rs++[some (i,lo,hi)]) F dx ml rl tl nd (rv++[.ref q]) (ts++[t]) (putK kvs (Sum.inl (t:Int)) (.int (rs.length:Nat))) :=
 {hb:=by rw[hb];exact h.hb
  hm:=by rw[hm];exact h.hm
  hr:=hr
  ht:=by rw[ht,zCW];rfl
  hd:=hd
  mr:=h.mr
  mt:=h.mt
  rt:=h.rt
  ord:=h.ord
  bk:=B'
  len:=by rw[zCQ,zCQ,h.len];rfl
  rm:=fun j x e=>by
   by_cases hj:j<rs.length
   ·rw[zDf hj] at e
    obtain⟨p,a,c⟩:=h.rm j x e
    exact⟨p,by rw[zDf (by rw[h.len];exact hj)];exact a,t' _ _ c⟩
   ·have lt:=(zCL.mp e).1
    rw[zCQ,zDg] at lt
    have ej:j=rs.length:=by omega
    subst ej
    simp at e
    subst e
    exact⟨q,by rw[<-h.len];simp,hq⟩
  tabs:=h.tabs.snoc h.bk tb
  nums:=by
   have z:=h.nums.snoc hn
   rw[h.tabs.len] at z
   exact z
  ft:=h.ft }
def R3:Sp:=fun vs H Q _=>∃(N p n:Nat) (v:Bool) (f:Nat->Bool),vs=[.int N,.int p,.int (v.toNat:Nat),.int n]/\p<n/\n<=8/\zX n N f/\∀R:Nat,zX n R (fun b=>f (zO b p v))->Q (.int R) H
def zdz:Sp:=fun vs H Q _=>∃(N n:Nat) (f:Nat->Bool),vs=[.int N,.int n]/\n<=8/\zX n N f/\∀p:Nat,p<=n->(∀i,i<p->Free n f i)->(p<n->∃b,b<2^n/\f (zO b p false)≠f (zO b p true))->Q (.int p) H
def Tc (C:Addr):Sp:=fun vs H Q _=>∃(b:Addr) (os:List Str) (rs:List Rm) (F:uF) (k:Nat),vs=[.ref b,.int k]/\yD C H b os rs F/\k<rs.length/\Q .non H
def Z5 (C:Addr):Sp:=fun vs H Q _=>∃(b:Addr) (os:List Str) (rs:List Rm) (F:uF) (k:Nat),vs=[.ref b,.int k]/\yD C H b os rs F/\k<rs.length/\∀t:Nat,zX os.length t (fun b=>yes rs k (QG b))->Q (.int t) H
def zdA:Sp:=fun vs H Q _=>∃(N p n:Nat) (f:Nat->Bool),vs=[.int N,.int p,.int n]/\p<n/\n<=8/\zX n N f/\∀b:Bool,(b=false->Free n f p)->(b=true->∃c,c<2^n/\f (zO c p false)≠f (zO c p true))->Q (.bl b) H
def Uy:Sp:=fun vs H Q _=>∃(N M n:Nat) (f g:Nat->Bool),vs=[.int N,.int M]/\zX n N f/\zX n M g/\∀R:Nat,zX n R (fun b=>f b&&!g b)->Q (.int R) H
def ziw:Sp:=fun vs H Q _=>∃(W L M n:Nat) (f g h:Nat->Bool),vs=[.int W,.int L,.int M]/\zX n W f/\zX n L g/\zX n M h/\∀R:Nat,zX n R (fun b=>if f b then h b else g b)->Q (.int R) H
end Zk
namespace L2
open PySem PySem.Spec PyProof.Rows
def Its (x:Str):It:={ go:=fun i _=>i<x.cps.size,JG:=fun i H v H'=>H'=H/\∃c,x.cps[i]?=some c/\v=.str ⟨#[c]⟩,stop:=fun i _=>i=x.cps.size }
theorem zoh {P:Program}{w:World}{K:Frag}{tg:Expr}(it:Addr)(x:Str)(t:Tok):Turn P w K tg (Its x) [it] it (fun i h=>h.IsStrIter it "str_ascii_iterator" x t i) where
 mem:=by simp
 obj:=fun i h st b hb=>by
  have e:b=it:=by simpa using hb
  subst e
  obtain⟨o,e,c,d⟩:=st
  exact⟨o,e,fun v z=>by rw[d] at z;cases z⟩
 keep:=fun i h h' st k=>by
  obtain⟨o,e,c,d⟩:=st
  exact⟨o,k it (by simp) o e,c,d⟩
 item:=by
  intro X hP hw hK hc i pins s σ H E I hf st hg
  subst hP hw hK
  obtain⟨f0,f1,f2,f3,f4,f5⟩:=hf it (by simp)
  have W:=Walks.strAscii (prog:=X.prog) (w:=X.w) (I.ok.hd hc) it x t
  refine W.item i s _ _ hg st fun v h' tk hv st' kk=>?_
  obtain⟨c,u,hc',rfl⟩:=hv
  have I1:Inv X pins σ H { s with heap:=h',toks:=tk }:=I.turned (fun b o hb e=>kk b o (by simpa using hb) e) f0 f1 f3 f4 f5
  obtain⟨o,e,cc,d⟩:=id st'
  exact⟨_,rfl,zib (s:={ s with heap:=h',toks:=tk }) e cc d (by decide) ⟨.str ⟨#[c]⟩,H,I1,⟨u,rfl⟩,⟨rfl,c,hc',rfl⟩,st',fun b hb=>(hf b hb).1⟩⟩
 done:=by
  intro X hP hw hK hc i pins s σ H E I hf st hg
  subst hP hw hK
  obtain⟨f0,f1,f2,f3,f4,f5⟩:=hf it (by simp)
  have W:=Walks.strAscii (prog:=X.prog) (w:=X.w) (I.ok.hd hc) it x t
  have e:i=x.cps.size:=hg
  subst e
  exact W.done s _ _ st fun h' tk kk=>⟨rfl,I.turned (fun b o hb e=>kk b o (by simpa using hb) e) f0 f1 f3 f4 f5⟩
 self:=fun _ _ _ _ _ st h=>wpAny_pyIter_striter_ascii st h
section
variable {X:Cx}{tg:Expr}
def zvx (tl:TE):TI:=fun σ H R=>tl σ H fun x H1=>∃z:Str,x=.str z/\(z.cps.all fun c=>decide (c<128))=true/\R (Its z) H1
theorem zrZ {l:Expr}{tl:TE}(hl:PE X l tl):PI X tg l (zvx tl):=by
 intro pins s σ H R I h
 refine ud (hl pins s σ H _ I h) fun v s1 ⟨x,H1,I1,r1,q1⟩=>?_
 obtain⟨z,e,ha,q⟩:=q1
 subst e
 obtain⟨t,rfl⟩:=r1
 refine wpAny_pyIter_ascii ha ?_
 refine⟨s1.heap.objs.size,[s1.heap.objs.size],_,_,H1,rfl,I1.kept (t':=s1.toks) fun b o e=>zCO _ e,zoh _ z t,⟨_,zC3 _ rfl,rfl,rfl⟩,fun b hb=>?_,q⟩
 have e:b=s1.heap.objs.size:=by simpa using hb
 subst e
 exact I1.zml (zCY _) (I1.hok.fresh (zCY _))
end
end L2
namespace wK
open Zk
def allR:Nat->List (List Bool)
 | 0=>[[]]
 | n+1=>(allR n).flatMap fun r=>[r++[false],r++[true]]
def ztz (r:List Bool):Row:=fun i=>r.getD i false
theorem R4:∀(n:Nat) (r:List Bool),r∈allR n->r.length=n
 | 0,r,h=>by
  have:r=[]:=by simpa [allR] using h
  rw[this];rfl
 | n+1,r,h=>by
  obtain⟨x,hx,hr⟩:=List.mem_flatMap.mp h
  have ih:=R4 n x hx
  simp at hr
  rcases hr with z | z<;>rw[z,zCQ,ih]<;>rfl
theorem zbA {α β:Type}(f:α->List β)(h:∀a,(f a).length=2):∀l:List α,(l.flatMap f).length=2*l.length
 | []=>rfl
 | a::l=>by rw[List.flatMap_cons,zCQ,h a,zbA f h l,zCU];omega
theorem vZ:∀n,(allR n).length=2^n
 | 0=>rfl
 | n+1=>by
  show((allR n).flatMap _).length=_
  rw[zbA _ (fun _=>rfl),vZ n,Nat.pow_succ];omega
end wK
namespace L2
open PySem PySem.Spec PyProof.Rows
section
variable {X:Cx}{sc Zj:Scope}{xs:List Str}{js:List Nat}{tg:Expr}{g:TG}{elt iter:Expr}{px pos:Pos}{ifs:List Expr}{wi:TI}{tt:TT}{te:TE}
theorem zr0 (Ws:X.env.scope=Zj)(L:zlw Zj sc xs (js.map fun j=>X.N.getD j ""))(hc:X.calm=true)(hi:PI X tg iter wi)(hg:∀(cl:List (Str×Addr)) (C:Addr) (s₂:Shared) (H₂:Hp) (fp:List Addr),PG (X.blk sc cl C (lcG X xs js) s₂ H₂ fp) tg g)(hjs:∀j∈js,j<X.N.length)
  (ht:∀(cl:List (Str×Addr)) (C:Addr) (s₂:Shared) (H₂:Hp) (fp:List Addr) (pins:List (Addr×Obj)) (s':Shared) (σ':St) (H':Hp) (Q:Bool->Hp->Prop),Inv (X.blk sc cl C (lcG X xs js) s₂ H₂ fp) pins σ' H' s'->tt σ' H' Q ->
   wpAny (model X.prog X.w) X.A (Z4 ifs (compEnvC sc cl C X.env)) (TP (X.blk sc cl C (lcG X xs js) s₂ H₂ fp) pins σ' Q) (fun _ _=>False) s')
  (he:∀(cl:List (Str×Addr)) (C:Addr) (s₂:Shared) (H₂:Hp) (fp:List Addr),PE (X.blk sc cl C (lcG X xs js) s₂ H₂ fp) elt te)
  (hs:∀x,foldedSetIterable iter X.env x=pure x:=by intro _;rfl) :
  PE X (.ListComp elt [⟨tg,iter,ifs,0⟩] sc pos) (zs8 wi xs js g tt te):=by
 intro pins s σ H Q I h
 rw[eval_ListComp]
 refine zih (use:=none) (Fin:=fun ys H=>∀p,H p=none->Q (.ref p) (upd H p (.lst ys))) Ws L hc hi hg hjs ht he hs I h fun D C s5 H5 ys its k m5 J oD oC hDC p1 vs z hn fin=>?_
 refine⟨m5,hn,fun h' hsb=>?_⟩
 have J2:Inv X pins σ H5 { s5 with heap:=h',toks:=s5.toks }:=J.turned (it:=C) (fun b o hb e=>hsb.extBut b o hb e) oC.free oC.loc (.inr oC.new) oC.cel oC.pin
 have p1':h'.get? D=some (xK its k):=hsb.extBut _ _ hDC p1
 have J3:Inv X pins σ (upd H5 D (.lst ys)) { s5 with heap:=h',toks:=s5.toks }:=J2.track oD.free oD.loc oD.new oD.cel oD.pin ⟨z,its,k,vs,p1'⟩
 exact⟨.ref D,_,J3,rfl,fin D oD.free⟩
end
theorem Inv.zqg {X:Cx}{pins:List (Addr×Obj)}{σ:St}{H:Hp}{s:Shared}{h':Heap}{t':Nat}{fp:List Addr}(I:Inv X pins σ H s)(k:∀b o,b∉fp->s.heap.get? b=some o->h'.get? b=some o)(hf:∀b∈fp,zc9 X pins H b) :
  Inv X pins σ H { s with heap:=h',toks:=t' }:=by
 have nit:∀b u,H b=some u->b∉fp:=fun b u e z=>by rw[(hf b z).1] at e;cases e
 refine I.step (g':=s.gens) (d':=s.drawn) (ch:=fp) (fun b hb=>⟨(hf b hb).2.2.2.1,(hf b hb).2.1,(hf b hb).2.2.2.2.1,(hf b hb).2.2.2.2.2⟩) (fun b o _ _ hc e _=>k b o hc e) (fun b o _ _ hc e _=>⟨o.slots,k b o hc e⟩) (fun _ _ _ _ n=>n)
  (fun b o hc e=>⟨o,k b o hc e⟩) (fun _ _ e=>e) (fun _ _ _ e=>e) (fun b ps e=>⟨#[],by rw[e];simp⟩) (fun m hm=>?_) (fun b u e=>?_) I.bare
 ·obtain⟨o,es,ep,ho,r⟩:=hm
  exact⟨o,es,ep,k _ o (fun z=>(hf _ z).2.1 rfl) ho,r⟩
 ·refine(I.hok b u e).stay (fun c v hc q=>k c v ?_ q) (fun _ q=>q) fun _ _ q=>q
  rcases hc with z | z
  ·rw[z];exact nit b u e
  ·exact nit c _ z
def Itz (K:Frag)(a b:Addr):It :=
 {go:=fun i H=>∃xs ys x y,zM K H a xs/\zM K H b ys/\xs[i]?=some x/\ys[i]?=some y
  JG:=fun i H v H'=>∃q x y,(∀xs,zM K H a xs->xs[i]?=some x)/\(∀ys,zM K H b ys->ys[i]?=some y)/\v=.ref q/\H q=none/\H'=upd H q (.tup [x,y])
  stop:=fun i H=>∃xs ys,zM K H a xs/\zM K H b ys/\(xs.length<=i\/ys.length<=i) }
theorem zoi {P:Program}{w:World}{K:Frag}{els:List Expr}{x1}{pt:Pos}(a b z ti to i1 i2:Addr)(D:ZipApart z ti to i1 i2 a b):Turn P w K (.Tuple els x1 pt) (Itz K a b) [z,ti,to,i1,i2] z
  (fun i h=>IsZip h z ti to .none/\IsPair h ti (.ref i1) (.ref i2)/\(∃u v,IsPair h to u v)/\h.IsListIter i1 a i/\h.IsListIter i2 b i) where
 mem:=by simp
 obj:=fun i h st c hc=>by
  obtain⟨q1,q2,⟨u,v,q3⟩,⟨o4,q4,c4,d4⟩,⟨o5,q5,c5,d5⟩⟩:=st
  simp only[List.mem_cons,zC9,or_false] at hc
  rcases hc with e | e | e | e | e<;>subst e
  ·exact⟨_,q1,fun v hv=>by cases hv⟩
  ·exact⟨_,q2,fun v hv=>by cases hv⟩
  ·exact⟨_,q3,fun v hv=>by cases hv⟩
  ·exact⟨_,q4,fun v hv=>by rw[d4] at hv;cases hv⟩
  ·exact⟨_,q5,fun v hv=>by rw[d5] at hv;cases hv⟩
 keep:=fun i h h' st k=>by
  obtain⟨q1,q2,⟨u,v,q3⟩,q4,q5⟩:=st
  exact⟨k z (by simp) _ q1,k ti (by simp) _ q2,⟨u,v,k to (by simp) _ q3⟩,q4.at fun o e=>k i1 (by simp) o e,q5.at fun o e=>k i2 (by simp) o e⟩
 item:=by
  intro X hP hw hK hc i pins s σ H E I hf st hg
  subst hP hw hK
  obtain⟨xs,ys,x,y,hq1,hq2,hx,hy⟩:=hg
  obtain⟨q1,q2,⟨u0,v0,q3⟩,q4,q5⟩:=st
  obtain⟨zec,rv1,pl1,hz1⟩:=I.list hq1
  obtain⟨its2,rv2,pl2,hz2⟩:=I.list hq2
  obtain⟨u,hu,ru⟩:=rv1.get hx
  obtain⟨v,hv,rv⟩:=rv2.get hy
  refine wpAny_pyNext_zip_item D q1 q2 q3 q4 q5 pl1.isList pl2.isList (x:=u) (y:=v) (by simpa using hu) (by simpa using hv) fun h1 out pto it1 it2 tup sz k1=>?_
  refine⟨.ref s.heap.objs.size,rfl,wpAny_letOwnedTupleGo_zip out fun h2 he2 sb=>?_⟩
  have ltz:=zCP q1
  have ltf:∀c∈[z,ti,to,i1,i2],c<s.heap.objs.size:=fun c hc=>by
   simp only[List.mem_cons,zC9,or_false] at hc
   rcases hc with e | e | e | e | e<;>subst e
   ·exact ltz
   ·exact zCP q2
   ·exact zCP q3
   ·obtain⟨o,e,_⟩:=q4;exact zCP e
   ·obtain⟨o,e,_⟩:=q5;exact zCP e
  have k2:∀c o,c∉[z,ti,to,i1,i2]->s.heap.get? c=some o->h2.get? c=some o:=fun c o hc q=>by
   simp only[List.mem_cons,zC9,or_false,not_or] at hc
   obtain⟨c1,c2,c3,c4,c5⟩:=hc
   exact(sb.2 c c1).trans (k1 c o c1 c3 c4 c5 q)
  have it1':h2.IsListIter i1 a (i+1):=it1.at fun o e=>(sb.2 i1 D.i1z).trans e
  have it2':h2.IsListIter i2 b (i+1):=it2.at fun o e=>(sb.2 i2 D.i2z).trans e
  have hti:IsPair h2 ti (.ref i1) (.ref i2):=(sb.2 ti D.TIz).trans (k1 ti _ D.TIz D.TITO D.TIi1 D.TIi2 q2)
  have hto:IsPair h2 to u v:=(sb.2 to D.TOz).trans pto
  have J1:Inv X pins σ H { s with heap:=h2,toks:=s.toks }:=I.zpX (fp:=[z,ti,to,i1,i2]) k2 (fun c hc=>by
   simp only[List.mem_cons,zC9,or_false] at hc
   rcases hc with e | e | e | e | e<;>subst e
   ·exact⟨_,he2⟩
   ·exact⟨_,hti⟩
   ·exact⟨_,hto⟩
   ·obtain⟨o,e,_⟩:=it1';exact⟨o,e⟩
   ·obtain⟨o,e,_⟩:=it2';exact⟨o,e⟩) hf
  have zvy:h2.get? s.heap.objs.size=some { cls:=.type "tuple", data:=.seq #[u,v] }:=(sb.2 _ (Nat.ne_of_gt ltz)).trans tup
  have ltc:∀y c,X.env.cells.lookup y=some c->c≠s.heap.objs.size:=fun y c q=>by
   obtain⟨v,o,z,_⟩:=I.cell y c q
   exact zCX (zCP z)
  have ltp:∀p∈X.pn++pins,p.1≠s.heap.objs.size:=fun p hp=>zCX (zCP (I.pin p hp).1)
  have J2:=J1.track (a:=s.heap.objs.size) (o:=.tup [x,y]) I.fresh (Ne.symm (zCX I.lt)) I.sz ltc ltp ⟨by show 2<=sizeLine;decide,[u,v],.cons ru (.cons rv .nil),⟨_,zvy,rfl,_,rfl⟩⟩
  refine⟨.ref s.heap.objs.size,_,J2,rfl,⟨_,x,y,fun zs hzs=>by rw[I.U4 hzs hq1];exact hx,fun zs hzs=>by rw[I.U4 hzs hq2];exact hy,rfl,I.fresh,rfl⟩,⟨he2,hti,⟨u,v,hto⟩,it1',it2'⟩,fun c hc=>?_⟩
  rw[zJ (zCX (ltf c hc))]
  exact(hf c hc).1
 done:=by
  intro X hP hw hK hc i pins s σ H E I hf st hg
  subst hP hw hK
  obtain⟨xs,ys,hq1,hq2,hx⟩:=hg
  obtain⟨q1,q2,⟨u0,v0,q3⟩,q4,q5⟩:=st
  obtain⟨zec,rv1,pl1,hz1⟩:=I.list hq1
  obtain⟨its2,rv2,pl2,hz2⟩:=I.list hq2
  have l1:=rv1.length
  have l2:=rv2.length
  refine wpAny_pyNext_zip_end (I.ok.hd hc) D q1 q2 q3 q4 q5 pl1.isList pl2.isList (by
   rcases hx with e | e
   ·left;simp;omega
   ·right;simp;omega) fun h' k=>⟨rfl,?_⟩
  refine I.zqg (t':=s.toks) (fp:=[z,to,i1,i2]) (fun c o hc e=>?_) fun c hc=>hf c (by simp only[List.mem_cons,zC9,or_false] at hc ⊢;rcases hc with e | e | e | e<;>simp[e])
  simp only[List.mem_cons,zC9,or_false,not_or] at hc
  exact k c o hc.1 hc.2.1 hc.2.2.1 hc.2.2.2 e
 self:=fun _ _ _ _ _ st h=>wpAny_pyIter_zip st.1 h
section
variable {X:Cx}
def zvz (K:Frag)(ta:TA):TI:=fun σ H R=>ta σ H fun vs H1=>∃a b xs ys,vs=[.ref a,.ref b]/\zM K H1 a xs/\zM K H1 b ys/\R (Itz K a b) H1
theorem zok {l m:Expr}{ta:TA}{p pos:Pos}{els:List Expr}{x1}{pt:Pos}(hg:Gl X "zip")(hm:X.mg "zip"=none)(ha:PA X [l,m] ta)(hs:starEach [l,m] X.env=[(false,eval l X.env),(false,eval m X.env)]:=by rfl)(hs2:starEach [m] X.env=[(false,eval m X.env)]:=by rfl) :
  PI X (.Tuple els x1 pt) (.Call (.Name "zip" p) [l,m] [] pos) (zvz X.K ta):=by
 intro pins s σ H R I h
 refine Call_ (U3 I hg hm boot_zip (PyProof.Rows.callWith_type1 (ud (ha pos pins s σ H _ I h) fun us s1 ⟨vs,H1,I1,r1,q1⟩=>?_) (by rw[hs,hs2]) (by rw[hs2];rfl)))
 obtain⟨a,b,xs,ys,e,hq1,hq2,q⟩:=q1
 subst e
 obtain⟨u,v,rfl,ru,rv⟩:=vals2 r1
 cases ru
 cases rv
 obtain⟨zec,rv1,pl1,hz1⟩:=I1.list hq1
 obtain⟨its2,rv2,pl2,hz2⟩:=I1.list hq2
 obtain⟨o1,e1,_⟩:=id pl1.isList
 obtain⟨o2,e2,_⟩:=id pl2.isList
 refine call_zip_2 pl1.isList pl2.isList fun h' hz hti hto it1 it2 hsz hk=>?_
 have J:Inv X pins σ H1 { s1 with heap:=h',toks:=s1.toks }:=I1.kept hk
 refine wpAny_pyIter_zip hz ?_
 refine⟨s1.heap.objs.size+4,[s1.heap.objs.size+4,s1.heap.objs.size+2,s1.heap.objs.size+3,s1.heap.objs.size,s1.heap.objs.size+1],_,_,H1,rfl,J,zoi a b _ _ _ _ _ (zipApart_new (zCP e1) (zCP e2)),⟨hz,hti,⟨_,_,hto⟩,it1,it2⟩,fun c hc=>?_,q⟩
 have gc:s1.heap.objs.size<=c:=by
  simp only[List.mem_cons,zC9,or_false] at hc
  rcases hc with z | z | z | z | z<;>rw[z]<;>omega
 exact I1.zml gc (I1.hok.fresh gc)
def zq9 (K:Frag):R2:=fun x y H Q=>∃p q xs ys,x=.ref p/\y=.ref q/\zM K H p xs/\zM K H q ys/\xs.length+ys.length<=sizeLine/\∀l,H l=none->Q (.ref l) (upd H l (.lst (xs++ys)))
theorem QK:Qu X (binaryOp .Add) (zq9 X.K):=by
 intro pins s σ H x y v u Q I rx ry h
 obtain⟨p,q,xs,ys,rfl,rfl,hp,hq,hz,h⟩:=h
 cases rx
 cases ry
 obtain⟨zec,rv1,pl1,hz1⟩:=I.list hp
 obtain⟨its2,rv2,pl2,hz2⟩:=I.list hq
 obtain⟨⟨cls,dd,data,sl⟩,ho,hc,n,hd⟩:=id pl1.isList
 obtain⟨⟨cls2,dd2,data2,sl2⟩,ho2,hc2,n2,hd2⟩:=id pl2.isList
 simp only at hc hd hc2 hd2
 subst hc hd hc2 hd2
 have l1:=rv1.length
 have l2:=rv2.length
 have e:zec.toArray++its2.toArray=(zec++its2).toArray:=by simp
 refine concat_meets ⟨_,ho,rfl⟩ ⟨_,ho2,rfl⟩ noFill_list_add seq_list_add PySem.F.slot_list_add PySem.F.entry_list_add (PySem.F.args_list_add_2 _ _) (list_addW p q zec.toArray its2.toArray n n2 dd dd2 sl sl2 (by simp;omega)) ⟨ho,ho2,?_⟩
 rw[e]
 refine⟨.ref s.heap.objs.size,_,I.laid (t':=s.toks) (o:=.lst (xs++ys)) (fun b o e=>zCO _ e) (zCY _) ?_,rfl,h _ (I.hok.fresh (zCY _))⟩
 exact⟨by rw[zCQ];exact hz,zec++its2,0,rv1.append rv2,zC3 _ rfl⟩
end
end L2
namespace L2
open PySem
section
variable {K:Frag}{a:Addr}{xs:List V}{σ:St}{js:List Nat}{te:TE}{H:Hp}{Qf:Addr->Hp->List V->Prop}
theorem zha (R:Nat->V->Prop)(hq:zM K H a xs)(hz:xs.length<=sizeLine)
  (hs:∀(i:Nat) x H',xs[i]?=some x->Same H H'->te (Z1 σ js (some x)) H' fun v H3=>R i v/\Same H H3)
  (me:∀ σ H Q Q',(∀v H1,Q v H1->Q' v H1)->te σ H Q->te σ H Q')
  (hd:∀ys H' p,ys.length=xs.length->(∀(i:Nat) y,ys[i]?=some y->R i y)->Same H H'->H' p=none->Qf p H' ys) :
  ∃W:Nat->Nat->List V->Hp->Prop,(∃m,W 0 m [] H)/\∀i m ys H,W i m ys H ->
   ((Itl K a).stop i H/\∀p,H p=none->Qf p H ys) \/
   ((Itl K a).go i H/\ys.length<sizeLine/\∀x H',(Itl K a).JG i H x H'->zdX (Z1 σ js (some x)) H' fun b H2 =>
    if b=true then te (Z1 σ js (some x)) H2 fun v H3=>∃m',m'<m/\W (i+1) m' (ys++[v]) H3 else ∃m',m'<m/\W (i+1) m' ys H2):=by
 refine zly (fun i ys H'=>Same H H'/\ys.length=i/\∀(j:Nat) y,ys[j]?=some y->R j y) ⟨Same.refl _,rfl,fun j y e=>by simp at e⟩ hz ?_ ?_ (fun _ _ _ _ h q=>h _ _ q) me ?_
 ·rintro i ys H' hi ⟨g,e,r⟩
  exact⟨g.seq hq,by omega⟩
 ·rintro i x ys H' hx ⟨g,e,r⟩
  show te (Z1 σ js (some x)) H' fun v H3=>Same H H3/\(ys++[v]).length=i+1/\∀(j:Nat) y,(ys++[v])[j]?=some y->R j y
  refine me _ _ _ _ (fun v H3 h3=>⟨h3.2,by rw[zCQ,e];rfl,fun j y ey=>?_⟩) (hs i x H' hx g)
  by_cases hj:j<ys.length
  ·rw[zDf hj] at ey
   exact r j y ey
  ·have lt:=(zCL.mp ey).1
   rw[zCQ,zDg] at lt
   have ej:j=ys.length:=by omega
   subst ej
   simp at ey
   subst ey
   rw[e]
   exact h3.1
 ·rintro ys H' p ⟨g,e,r⟩ hp
  exact hd ys H' p e r g hp
end
end L2
namespace Zk
open PySem L2 wK
def ztB (H0 H:Hp)(p:Addr)(r:List Bool):Prop:=H0 p=none/\H p=some (.lst (yd r))
end Zk
namespace L2
open PySem
theorem zqh {X:Cx}{x y:Str}{px py pt:Pos}{x1:Nat}(hc:X.calm=true)(hN:X.N.Nodup)(h0:X.N[0]?=some x)(h1:X.N[1]?=some y)(hx:X.env.scope.names.lookup x=some .local)(hy:X.env.scope.names.lookup y=some .local):PG X (.Tuple [.Name x px,.Name y py] x1 pt) (zpz X.K 2 (zdM (N5 0) (zdM (N5 1) zpy))) :=
 N6 hc (wJ (z9 hN h0 (.inl hx) (.inr hx)) (wJ (z9 hN h1 (.inl hy) (.inr hy)) Sq))
end L2
namespace L2
open PySem PySem.Spec PyProof.Rows
structure zol (Zj sc:Scope)(x y:Str)(fv:List Str):Prop where
 g:zlw Zj sc [x,y] fv
 hx:sc.names.lookup x=some .local
 hy:sc.names.lookup y=some .local
 nd:([x,y]++fv).Nodup
section
variable {X:Cx}{K:Frag}
theorem zft (h:X.K=K):Wm X (.type "list") (fun xs H Q=>∃p ys,xs=[.ref p]/\(zM K H p ys\/vW K H p ys)/\∀l,H l=none->Q (.ref l) (upd H l (.lst ys))):=by subst h;exact V9
end
end L2
namespace Zk
open PySem L2 wK
def uP (ns:List Int)(i:Nat):Int:=(ns[i]?).getD 0
def Kc (K:Frag):Sp:=fun vs H Q _=>∃(l:Addr) (ns:List Int) (i:Nat),vs=[.ref l,.int i]/\zM K H l (ns.map V.int)/\Q (.int (uP ns i)) H
theorem Sn.Mp:∀s:Sn,s.count+1<=2^s.depth:=by
 have key:∀(d:Nat) (s:Sn),s.depth<=d->s.count+1<=2^d:=by
  intro d
  induction d with
  | zero=>intro s h;have:=Sn.Lw s;omega
  | succ d ih =>
   intro s h
   have hp:=Sn.zcG s
   have hl:=Sn.zaA s
   have hd:=Sn.Ma s
   have hc:∀t∈s.parts,t.count+1<=2^d:=fun t ht=>ih t (by have:=hd t ht;omega)
   have p1:1<=2^d:=Nat.one_le_two_pow
   rw[Nat.pow_succ,hp]
   match hs:s.parts,hl with
   | [],_=>simp;omega
   | [a],_ =>
    have:=hc a (by rw[hs];simp)
    simp;omega
   | [a,b],_ =>
    have h1:=hc a (by rw[hs];simp)
    have h2:=hc b (by rw[hs];simp)
    simp;omega
   | a::b::c::r,h=>simp at h
 exact fun s=>key _ s (zCY _)
end Zk
namespace L2
open PySem
theorem zj5:bootBuiltins "max"=some (.builtin "max"):=by decide +kernel
theorem zr1:bootBuiltins "min"=some (.builtin "min"):=by decide +kernel
theorem zix {xs:List V}{n:Nat}:K3 xs (some (n:Int)) none=xs.drop n:=by
 unfold K3
 rw[HT.Ls,HT.zdR]
 by_cases h:n<=xs.length
 ·rw[Nat.min_eq_left h]
  exact List.take_of_length_le (by rw[List.length_drop];omega)
 ·rw[Nat.min_eq_right (by omega),List.drop_eq_nil_of_le (zCY _),List.drop_eq_nil_of_le (by omega)]
  simp
end L2
namespace Zk
open PySem L2 wK
theorem zlP {r:List Bool}{i:Nat}(h:i<r.length)(v:Bool):(yd r).take i++[V.int (v.toNat:Nat)]++(yd r).drop (i+1)=yd (r.set i v):=by
 rw[<-zob,List.set_eq_take_append_cons_drop]
 rw[if_pos (by rw[zCI];exact h)]
 simp
theorem zvA:w2 0=Str.ofString "and" := rfl
theorem zvB:w2 1=Str.ofString "or" := rfl
theorem zvC:w2 2=Str.ofString "either" := rfl
theorem zvD:w2 3=Str.ofString "if" := rfl
theorem ztC {A B C D:V}(o:Fin 4):Yx (vI [] ([(Sum.inr "and", A),(Sum.inr "or", B),(Sum.inr "either", C),(Sum.inr "if", D)]:List (Key×V))) (Sum.inr (w2 o):Key)=some (match o with | 0=>A | 1=>B | 2=>C | 3=>D):=by
 have ne:∀{x y:Str},x≠y->¬((Sum.inr x:Key)=Sum.inr y):=fun h z=>h (Sum.inr.inj z)
 show Yx (putK (putK (putK (putK ([]:List (Key×V)) (Sum.inr "and") A) (Sum.inr "or") B) (Sum.inr "either") C) (Sum.inr "if") D) (Sum.inr (w2 o))=_
 rcases zrW o with e | e | e | e<;>subst e
 ·rw[zvA,wV,if_neg (ne (by decide +kernel)),wV,if_neg (ne (by decide +kernel)),wV,if_neg (ne (by decide +kernel)),wV,if_pos rfl]
 ·rw[zvB,wV,if_neg (ne (by decide +kernel)),wV,if_neg (ne (by decide +kernel)),wV,if_pos rfl]
 ·rw[zvC,wV,if_neg (ne (by decide +kernel)),wV,if_pos rfl]
 ·rw[zvD,wV,if_pos rfl]
def zom (x:Addr)(H0 H:Hp)(p:Addr)(r:List Bool):Prop:=H0 p=none/\p≠x/\H p=some (.lst (yd r))
theorem zj6 {x:Addr}{H0 H H':Hp}{ps:List Addr}{es:List (List Bool)}(h:Paired (zom x H0 H) ps es)(g:Same H H'):Paired (zom x H0 H') ps es:=vm (fun _ _ r=>⟨r.1,r.2.1,g _ _ r.2.2⟩) h
theorem zmK {x:Addr}{H0 H:Hp}{ps:List Addr}{es:List (List Bool)}{o:HO}(h:Paired (zom x H0 H) ps es):Paired (zom x H0 (upd H x o)) ps es:=vm (fun _ _ r=>⟨r.1,r.2.1,by rw[zJ r.2.1];exact r.2.2⟩) h
def Uz:Sp:=fun vs H Q _=>∃n:Nat,vs=[.int n]/\n<=8/\∀(l:Addr) (H':Hp) (ps:List Addr),Same H H'->H l=none->H' l=some (.lst (ps.map V.ref))->Paired (ztB H H') ps (allR n)->Q (.ref l) H'
def zed (K:Frag):Sp:=fun vs H Q _=>∃(p q:Addr) (ns:List Int),vs=[.ref p,.ref q]/\H p=some (.lst (ns.map V.int))/\zM K H q (ns.map V.int)/\ns.length<=1000/\∀H',Same H H'->Q (.bl true) H'
end Zk
namespace L2
open PySem PySem.Spec PyProof.Rows
structure zlQ (Zj sc:Scope)(x:Str)(fv:List Str):Prop where
 kind:sc.kind=.function
 cf:∀(n:Nat) (acc:List (Str×Addr)),cellsFrom n sc.names acc=(x,n)::acc
 pc:∀h:Heap,pushCells h sc.names=h.push { cls:=.type "cell", data:=.cell none }
 only:∀y∈sc.names,y.2=.cell->y.1=x
 names:∀y∈sc.names,y.2=.local->sc.names.lookup y.1=some .local
 hx:sc.names.lookup x=some .cell
 fr:∀y∈sc.names,y.2=.free->Zj.names.lookup y.1=some .cell\/Zj.names.lookup y.1=some .free
 fvs:∀y∈fv,sc.names.lookup y=some .free/\(Zj.names.lookup y=some .cell\/Zj.names.lookup y=some .free)
 nd:(x::fv).Nodup
abbrev Cx.Td (X:Cx)(x:Str)(sc:Scope)(cl:List (Str×Addr))(C:Addr)(N:List Str)(s:Shared)(H:Hp)(fp:List Addr):Cx :=
 {X with N:=N,s₀:=s,H₀:=H,env:=compEnvC sc cl C X.env,outer:=X.stack,ex:=fp,fn:=fun y=>y==x,pn:=[],xe:=fun _ _=>False }
theorem Jc {env:Env}{names:List (Str×NameKind)}{y:Str}{k:NameKind}(h:(names.map fun(n,k)=>if (k==NameKind.free&&env.scope.kind==.function&&env.kindOf n==some .cell) then (n,NameKind.cell) else (n,k)).lookup y=some k)(hk:k=.cell\/k=.free):(y,NameKind.free)∈names\/(y,NameKind.cell)∈names:=by
 have hm:=PySem.mem_of_lookup h
 obtain⟨p,hp,e⟩:=List.mem_map.mp hm
 obtain⟨n,k'⟩:=p
 dsimp only at e
 by_cases hc:(k'==NameKind.free&&env.scope.kind==.function&&env.kindOf n==some .cell)=true
 ·rw[if_pos hc] at e
  have hk':k'=NameKind.free:=by
   rw[zDa,zDa] at hc
   simpa using hc.1.1
  cases e
  subst hk'
  exact .inl hp
 ·rw[if_neg hc] at e
  cases e
  rcases hk with z | z
  ·subst z;exact .inr hp
  ·subst z;exact .inl hp
theorem Ug {env:Env}:∀{names:List (Str×NameKind)} {x:Str},names.lookup x=some .cell->(names.map fun(n,k)=>if (k==NameKind.free&&env.scope.kind==.function&&env.kindOf n==some .cell) then (n,NameKind.cell) else (n,k)).lookup x=some .cell
 | [],_,h=>by simp at h
 | (n,k)::r,x,h=>by
  have ih:=@Ug env r x
  show List.lookup x ((if (k==NameKind.free&&env.scope.kind==.function&&env.kindOf n==some .cell)=true then (n,NameKind.cell) else (n,k))::_)=_
  rw[zC8] at h
  cases hx:x==n with
  | true =>
   rw[hx] at h
   cases zDd h
   rw[if_neg (by simp),zC8,hx]
  | false =>
   rw[hx] at h
   by_cases hc:(k==NameKind.free&&env.scope.kind==.function&&env.kindOf n==some .cell)=true
   ·rw[if_pos hc,zC8,hx]
    exact ih h
   ·rw[if_neg hc,zC8,hx]
    exact ih h
theorem ZG.zra {sc sc2:Scope}{y:Str}{fv:List Str}{env:Env}(h:ZG sc sc2 y fv):ZG (relabel sc env) sc2 y fv where
 kind:=h.kind
 Qy:=h.Qy
 names:=h.names
 hx:=h.hx
 fr:=fun z hz e=>(h.fr z hz e).elim (fun q=>.inl (Ug q)) fun q=>U7 q
 fvs:=fun z hz=>⟨(h.fvs z hz).1,(h.fvs z hz).2.elim (fun q=>.inl (Ug q)) fun q=>U7 q⟩
 nd:=h.nd
theorem ziy {X:Cx}{K:Frag}{tg l:Expr}{tl:TE}(h:X.K=K)(hl:PE X l tl):PI X tg l (zqZ K tl):=by subst h;exact yU hl
theorem zfu {P:Program}{w:World}{A:Around}{s:Shared}{E:Value->Shared->Prop}{scope:Scope}{x:Str}{globals:Addr}{closure:List (Str×Addr)}{qual:Str}{func:Option Addr}{code:Value}{env:Env}{builtins:Addr}{Q:Env->Shared->Prop}
  (cf:∀(n:Nat) (acc:List (Str×Addr)),cellsFrom n scope.names acc=(x,n)::acc)(pc:∀h:Heap,pushCells h scope.names=h.push { cls:=.type "cell", data:=.cell none })
  (hQ:∀h':Heap,h'.Ns s.heap.objs.size (fun _=>none)->(∀b o,s.heap.get? b=some o->h'.get? b=some o)->h'.IsCell (s.heap.objs.size+1) none ->
   Q (newEnv scope s.heap.objs.size globals ((x,s.heap.objs.size+1)::closure) qual func code (some env) builtins) { s with heap:=h' }) :
  wpAny (model P w) A (newFunctionEnv scope globals closure [] qual func code (some env) builtins) Q E s:=by
 simp only[newFunctionEnv,Option.isSome_some,if_true]
 refine wpAny_bind (wpAny_alloc ?_)
 refine wpAny_bind (wpAny_layCells _ (fun name kind cells=>by cases hkc:kind==NameKind.cell<;>simp[hkc]) _ _ _ _ ?_)
 rw[cf,pc]
 refine wpAny_bind ?_
 rw[List.forIn_nil]
 refine wpAny_pure (wpAny_pure ?_)
 have z:=hQ ((s.heap.push { cls:=.type "dict", data:=.dict #[] }).push { cls:=.type "cell", data:=.cell none }) ((Heap.Ns.new s.heap (.type "dict")).keeps fun b o e=>zCO _ e) (fun b o e=>zCO _ (zCO _ e)) ⟨_,by rw[<-Heap.size_push s.heap { cls:=.type "dict", data:=.dict #[] }];exact zC3 _ rfl,rfl⟩
 rw[<-Heap.size_push s.heap { cls:=.type "dict", data:=.dict #[] }] at z
 exact z
section
variable {X:Cx}{sc Zj:Scope}{x:Str}{js:List Nat}
theorem zqi {pins:List (Addr×Obj)}{σ:St}{H:Hp}{s:Shared}{fp:List Addr}{C:Addr}(I:Inv X pins σ H s)(Ws:X.env.scope=Zj)(L:zlQ Zj sc x (js.map fun j=>X.N.getD j ""))
  (f2:∀b∈fp,zc9 X pins H b)(lt:∀b∈fp,b<s.heap.objs.size)(hC:s.heap.objs.size<=C):(X.Td x sc ((x,C+1)::clo sc.names X.env.cells []) C (Nz X x js) s H fp).Ok where
 mod:=I.ok.mod
 kind:=L.kind
 glob:=I.ok.glob
 blt:=I.ok.blt
 above:=hC
 inj:=fun y z c h1 h2=>by
  have h1':((x,C+1)::clo sc.names X.env.cells []).lookup y=some c:=h1
  have h2':((x,C+1)::clo sc.names X.env.cells []).lookup z=some c:=h2
  rw[zC8] at h1' h2'
  have small:∀u,(clo sc.names X.env.cells []).lookup u=some c->c<s.heap.objs.size:=fun u e=>by
   obtain⟨v,o,q,_⟩:=I.cell u c (Zo _ _ [] (fun _ _ e=>by simp at e) u c e)
   exact zCP q
  cases hy:y==x with
  | true =>
   rw[hy] at h1'
   have e1:@Eq Nat (C+1) c:=zDd h1'
   cases hz:z==x with
   | true=>exact(eq_of_beq hy).trans (eq_of_beq hz).symm
   | false =>
    rw[hz] at h2'
    have:@LT.lt Nat _ c s.heap.objs.size:=small z h2'
    omega
  | false =>
   rw[hy] at h1'
   cases hz:z==x with
   | true =>
    rw[hz] at h2'
    have e1:@Eq Nat (C+1) c:=zDd h2'
    have:@LT.lt Nat _ c s.heap.objs.size:=small y h1'
    omega
   | false =>
    rw[hz] at h2'
    exact I.ok.inj y z c (Zo _ _ [] (fun _ _ e=>by simp at e) y c h1') (Zo _ _ [] (fun _ _ e=>by simp at e) z c h2')
 has:=fun y hy=>by
  have hy':(relabel sc X.env).names.lookup y=some .cell\/(relabel sc X.env).names.lookup y=some .free:=hy
  show ∃c,((x,C+1)::clo sc.names X.env.cells []).lookup y=some c
  rw[zC8]
  cases hyx:y==x with
  | true=>exact⟨_,rfl⟩
  | false =>
   have hm2:(y,NameKind.free)∈sc.names\/(y,NameKind.cell)∈sc.names:=by
    rcases hy' with e | e
    ·exact Jc e (.inl rfl)
    ·exact Jc e (.inr rfl)
   have hm:(y,NameKind.free)∈sc.names:=by
    rcases hm2 with e | e
    ·exact e
    ·have z:y=x:=L.only _ e rfl
     rw[z] at hyx
     simp at hyx
   have ho:X.env.kindOf y=some .cell\/X.env.kindOf y=some .free:=by
    show X.env.scope.names.lookup y=_\/X.env.scope.names.lookup y=_
    rw[Ws]
    exact L.fr _ hm rfl
   obtain⟨c,e⟩:=I.ok.has y ho
   exact Option.isSome_iff_exists.mp (zau _ _ [] y hm (by rw[e];rfl))
 cab:=fun y c h e=>by
  have h':(y==x)=true:=h
  have e':((x,C+1)::clo sc.names X.env.cells []).lookup y=some c:=e
  rw[zC8,h'] at e'
  have z:@Eq Nat (C+1) c:=zDd e'
  have z2:@LE.le Nat _ s.heap.objs.size c:=by omega
  exact z2
 hd:=I.ok.hd
 frames:=I.ok.frames
 stk:=.inl rfl
 exf:=fun b hb=>⟨zCX (zCR (lt b hb) hC),fun y c e=>by
  have e':((x,C+1)::clo sc.names X.env.cells []).lookup y=some c:=e
  rw[zC8] at e'
  cases hy:y==x with
  | true =>
   rw[hy] at e'
   have z:@Eq Nat (C+1) c:=zDd e'
   have z2:@LT.lt Nat _ b s.heap.objs.size:=lt b hb
   intro z3
   have z4:@Eq Nat c b:=z3
   omega
  | false =>
   rw[hy] at e'
   exact(f2 b hb).2.2.2.2.1 y c (Zo _ _ [] (fun _ _ e=>by simp at e) y c e')⟩
 bs:=I.bs
 bsz:=zC4 I.ok.bsz I.sz
 zh8:=fun b o e hb=>by
  rcases (f2 b hb).2.2.2.1 with z | z
  ·exact I.ok.zh8 b o e z
  ·exact absurd (zCR (zCP (I.ok.bs b o e).1) z) (Nat.lt_irrefl _)
 zh9:=fun b hb hm=>by
  rcases List.mem_cons.mp (I.zbm b hm) with z | z
  ·exact(f2 b hb).2.1 z
  ·exact(f2 b hb).2.2.1 z
 zan:=I.stack
 frf:=I.zgN
end
section
variable {X:Cx}{sc Zj:Scope}{x:Str}{js:List Nat}{elt iter:Expr}{px pos:Pos}{ifs:List Expr}{wi:TI}{tt:TT}{te:TE}
theorem zon {cl:List (Str×Addr)}{C D:Addr}{s₂:Shared}{H₂:Hp}{fp:List Addr}{pl:List (Addr×Obj)}{σ0:St}{H:Hp}{s:Shared}{u:Value}{v:V}{its:List Value}{n:Nat}{o0:Option V}{E:Value->Shared->Prop}
  {Ny:V->Hp->Prop}{Nn:Hp->Prop}
  (hx:(relabel sc X.env).names.lookup x=some .cell)(nd:(Nz X x js).Nodup)
  (I:Inv (X.Td x sc cl C (Nz X x js) s₂ H₂ fp) ((D,xK its n)::pl) (Z1 σ0 js o0) H s)(ru:RelV v u)
  (ht:∀(pins:List (Addr×Obj)) (s':Shared) (σ':St) (H':Hp) (Q:Bool->Hp->Prop),Inv (X.Td x sc cl C (Nz X x js) s₂ H₂ fp) pins σ' H' s'->tt σ' H' Q ->
   wpAny (model X.prog X.w) X.A (Z4 ifs (compEnvC sc cl C X.env)) (TP (X.Td x sc cl C (Nz X x js) s₂ H₂ fp) pins σ' Q) (fun _ _=>False) s')
  (he:PE (X.Td x sc cl C (Nz X x js) s₂ H₂ fp) elt te)
  (hlen:its.length<sizeLine)(hD0:s₂.heap.objs.size<=D)(hDC:D≠C)(hDc:∀y c,cl.lookup y=some c->c≠D)(hDp:∀p∈pl,p.1≠D)
  (h:tt (Z1 σ0 js (some v)) H fun b H2=>if b=true then te (Z1 σ0 js (some v)) H2 Ny else Nn H2) :
  wpAny (model X.prog X.w) X.A (assign (.Name x px) (compEnvC sc cl C X.env) u) (fun _ s2 =>
   wpAny (model X.prog X.w) X.A (Z4 ifs (compEnvC sc cl C X.env)) (fun ok s3 =>
    if ok=true then wpAny (model X.prog X.w) X.A (eval elt (compEnvC sc cl C X.env)) (fun y s4 =>
     wpAny (model X.prog X.w) X.A (call (.builtin "list.append") [.ref D,y]) (fun _ s5=>∃z y' H5,Ny z H5/\RelV z y'/\Inv (X.Td x sc cl C (Nz X x js) s₂ H₂ fp) ((D,xK (its++[y']) (n+1))::pl) (Z1 σ0 js (some v)) H5 s5) E s4) E s3
    else ∃H5,Nn H5/\Inv (X.Td x sc cl C (Nz X x js) s₂ H₂ fp) ((D,xK its n)::pl) (Z1 σ0 js (some v)) H5 s3) E s2) E s:=by
 have pg:=z9 (X:=X.Td x sc cl C (Nz X x js) s₂ H₂ fp) (i:=0) (x:=x) (pos:=px) nd rfl (Or.inr hx) (.inl (by show(x==x)=true;simp))
 refine wpAny_mono (pg _ s _ H v u (fun σ6 H6=>σ6=Z1 σ0 js (some v)/\H6=H) I ru ⟨rfl,rfl⟩) (fun _ s2 ⟨σ6,H6,I6,e1,e2⟩=>?_) fun _ _ z=>False.elim z
 subst e1 e2
 refine wpAny_mono (ht _ s2 _ _ _ I6 h) (fun ok s3 ⟨H7,I7,q7⟩=>?_) fun _ _ z=>False.elim z
 cases ok with
 | false =>
  rw[if_neg zCM] at q7 ⊢
  exact⟨H7,q7,I7⟩
 | true =>
  rw[if_pos rfl] at q7 ⊢
  refine wpAny_mono (he _ s3 _ H7 _ I7 q7) (fun y s4 ⟨z,H8,I8,r8,q8⟩=>?_) fun _ _ z=>False.elim z
  obtain⟨p1,p2,p3,p4,p5⟩:=I8.pin (D,xK its n) (zCZ _ zC2)
  have p1':s4.heap.get? D=some { cls:=.type "list", data:=.seq its.toArray n }:=p1
  refine call_meets F.slot_list_append ⟨_,p1',rfl⟩ F.entry_list_append (F.args_list_append_2 _ _) (PySem.list_append D its.toArray n y (by rw[zCS];omega)) ⟨p1',?_⟩
  have q:=PySem.IsL.update p1' (fun a=>a.push y)
  have sz:((its.toArray.push y).size==its.toArray.size)=false:=by simp
  have e3:(s4.heap.update D (Obj.mapSeq fun a=>a.push y)).get? D=some (xK (its++[y]) (n+1)):=by
   have q':(s4.heap.update D (Obj.mapSeq fun a=>a.push y)).get? D=some { cls:=.type "list", data:=.seq (its.toArray.push y) (if ((its.toArray.push y).size==its.toArray.size)=true then n else n+1) }:=q
   rw[q',sz,if_neg zCM]
   simp
  have I9:Inv (X.Td x sc cl C (Nz X x js) s₂ H₂ fp) pl (Z1 σ0 js (some v)) H8 s4:=I8.W6 fun p hp=>I8.pin p (zCZ _ (zCT _ hp))
  have oth:∀b o,b≠D->s4.heap.get? b=some o->(s4.heap.update D (Obj.mapSeq fun a=>a.push y)).get? b=some o:=fun b o hb e=>(Heap.get?_update_other _ _ (Ne.symm hb)).trans e
  have I10:=I9.turned (t':=s4.toks) (h':=s4.heap.update D (Obj.mapSeq fun a=>a.push y)) (it:=D) oth p2 hDC (.inr hD0) hDc (fun p hp=>hDp p hp)
  refine⟨z,y,H8,q8,r8,I10.W6 fun p hp=>?_⟩
  rcases List.mem_cons.mp hp with e | e
  ·subst e
   exact⟨e3,p2,p3,p4,fun w hw=>by cases hw⟩
  ·exact I10.pin p (zCZ _ e)
theorem zoo {use:Option (Value->Sem Unit)}{QQ:Value->Shared->Prop}{Fin:List V->Hp->Prop}{pins:List (Addr×Obj)}{s:Shared}{σ:St}{H:Hp}(Ws:X.env.scope=Zj)(L:zlQ Zj sc x (js.map fun j=>X.N.getD j ""))(hc:X.calm=true)(hi:PI X (.Name x px) iter wi)(hjs:∀j∈js,j<X.N.length)
  (ht:∀(cl:List (Str×Addr)) (C:Addr) (s₂:Shared) (H₂:Hp) (fp:List Addr) (pins:List (Addr×Obj)) (s':Shared) (σ':St) (H':Hp) (Q:Bool->Hp->Prop),Inv (X.Td x sc cl C (Nz X x js) s₂ H₂ fp) pins σ' H' s'->tt σ' H' Q ->
   wpAny (model X.prog X.w) X.A (Z4 ifs (compEnvC sc cl C X.env)) (TP (X.Td x sc cl C (Nz X x js) s₂ H₂ fp) pins σ' Q) (fun _ _=>False) s')
  (he:∀(cl:List (Str×Addr)) (C:Addr) (s₂:Shared) (H₂:Hp) (fp:List Addr),PE (X.Td x sc cl C (Nz X x js) s₂ H₂ fp) elt te)
  (hs:∀x,foldedSetIterable iter X.env x=pure x)(I:Inv X pins σ H s)
  (h:wi σ H fun J H1=>∃W:Nat->Nat->List V->Hp->Prop,(∃m,W 0 m [] H1)/\∀i m ys H,W i m ys H->(J.stop i H/\Fin ys H) \/
   (J.go i H/\ys.length<sizeLine/\∀x H',J.JG i H x H'->tt (Z1 σ js (some x)) H' fun b H2 =>
    if b=true then te (Z1 σ js (some x)) H2 fun v H3=>∃m',m'<m/\W (i+1) m' (ys++[v]) H3 else ∃m',m'<m/\W (i+1) m' ys H2))
  (hfin:∀(D C:Addr) (s5:Shared) (H5:Hp) (ys:List V) (its:List Value) (k:Nat) (m5:Str->Option Value),Inv X pins σ H5 s5->Own X pins H5 D->Own X pins H5 C->D≠C->s5.heap.get? D=some (xK its k)->Vals ys its->ys.length<=sizeLine->s5.heap.Ns C m5->Fin ys H5 ->
   compPost (model X.prog X.w) X.A X.xe use QQ (.ref D) C (.ok .next) s5) :
  wpAny (model X.prog X.w) X.A (comprehension (.ListComp elt [⟨.Name x px,iter,ifs,0⟩] sc pos) sc X.env (firstIterPos [⟨.Name x px,iter,ifs,0⟩] pos) (newList []) false (eval iter X.env) use) QQ X.xe s:=by
 have hcl:closureFor sc X.env=pure (clo sc.names X.env.cells []):=zdV fun y hy=>by
  have ho:X.env.kindOf y=some .cell\/X.env.kindOf y=some .free:=by
   show X.env.scope.names.lookup y=_\/X.env.scope.names.lookup y=_
   rw[Ws]
   exact L.fr _ hy rfl
  obtain⟨c,e⟩:=I.ok.has y ho
  rw[e];rfl
 have hxl:(relabel sc X.env).names.lookup x=some .cell:=Ug L.hx
 refine wpAny_comprehension_free (use:=use) rfl hs hcl L.kind L.names (ud (hi pins s σ H _ I h) fun v s1 h1=>ud h1 fun itv s2 h2=>?_)
 obtain⟨it,fp,tn,J,H2,e,I2,T,st2,f2,W,⟨m0,w0⟩,turn⟩:=h2
 subst e
 refine wpAny_newObj_type (zfu L.cf L.pc (fun h₁ hns₁ hsb₁ zr2₁=>?_))
 dsimp only at hns₁ hsb₁ zr2₁ ⊢
 generalize hG:s2.heap.push { cls:=.type "list", dict:=none,data:=.seq ([]:List Value).toArray }=G at hns₁ hsb₁ zr2₁ ⊢
 have hGs:G.objs.size=s2.heap.objs.size+1:=by rw[<-hG,Heap.size_push]
 have hCle:s2.heap.objs.size<=G.objs.size:=by rw[hGs];exact Nat.le_succ _
 have hDC:s2.heap.objs.size≠G.objs.size:=by rw[hGs];exact zCX (Nat.lt_succ_self _)
 have old:∀b o,s2.heap.get? b=some o->h₁.get? b=some o:=fun b o e=>by
  have lt:=zCP e
  refine hsb₁ b o ?_
  rw[<-hG]
  exact zCO _ e
 have hacc:h₁.get? s2.heap.objs.size=some (xK [] 0):=by
  refine hsb₁ _ _ ?_
  rw[<-hG]
  exact zC3 _ rfl
 have lt:∀b∈fp,b<s2.heap.objs.size:=fun b hb=>by
  obtain⟨o,e,_⟩:=T.obj _ _ st2 b hb
  exact zCP e
 have clS:∀y c,(clo sc.names X.env.cells []).lookup y=some c->X.env.cells.lookup y=some c:=Zo _ _ [] (fun _ _ e=>by simp at e)
 have zrO:∀y c,(clo sc.names X.env.cells []).lookup y=some c->c<s2.heap.objs.size:=fun y c e=>by
  obtain⟨v,o,q,_⟩:=I2.cell y c (clS y c e)
  exact zCP q
 have clD:∀y c,((x,G.objs.size+1)::clo sc.names X.env.cells []).lookup y=some c->c≠s2.heap.objs.size:=fun y c e=>by
  rw[zC8] at e
  cases hy:y==x with
  | true =>
   rw[hy] at e
   have z:@Eq Nat (G.objs.size+1) c:=zDd e
   omega
  | false =>
   rw[hy] at e
   exact zCX (zrO y c e)
 have Bok:(X.Td x sc ((x,G.objs.size+1)::clo sc.names X.env.cells []) G.objs.size (Nz X x js) s2 H2 fp).Ok:=zqi I2 Ws L f2 lt hCle
 have fresh:∀a,s2.heap.objs.size<=a->H2 a=none:=fun a ha=>I2.hok.fresh ha
 have zjS:∀b∈frs X.stack,b<s2.heap.objs.size:=fun b hb=>by
  rcases List.mem_cons.mp (I2.zbm b hb) with z | z
  ·rw[z];exact I2.lt
  ·refine Nat.lt_of_not_le fun q=>I2.znz q z
 have B0:Inv (X.Td x sc ((x,G.objs.size+1)::clo sc.names X.env.cells []) G.objs.size (Nz X x js) s2 H2 fp) [(s2.heap.objs.size,xK [] 0)] (Z1 σ js none) H2 { s2 with heap:=h₁,toks:=s2.toks+([]:List (Str×Value)).length }:=by
  refine⟨Bok,rfl,I2.bare,Un.kept old,⟨_,hns₁,fun i y v e1 e2 e3=>?_⟩,fun y c e=>?_,fresh _ hCle,fun y c e=>?_,fun p hp=>?_,I2.hok.kept old,?_⟩
  ·cases i with
   | zero=>cases e2
   | succ i =>
    have e1':(js.map fun j=>X.N.getD j "")[i]?=some y:=e1
    have e2':(js.map fun j=>σ.getD j none)[i]?=some (some v):=e2
    rw[zCK] at e1' e2'
    cases hj:js[i]? with
    | none=>rw[hj] at e1';cases e1'
    | some j =>
     rw[hj] at e1' e2'
     have e4:X.N.getD j ""=y:=zDd e1'
     have e5:σ.getD j none=some v:=zDd e2'
     have hjl:=hjs j (zCN hj)
     have e6:X.N[j]?=some y:=by
      rw[zCV,zCJ hjl] at e4
      rw[zCJ hjl]
      exact congrArg some e4
     have e7:σ[j]?=some (some v):=by
      rw[zCV] at e5
      cases hq:σ[j]? with
      | none=>rw[hq] at e5;cases e5
      | some w=>rw[hq] at e5;exact congrArg some e5
     obtain⟨hm0,hk⟩:=L.fvs y (zCN e1)
     have hm:(y,NameKind.free)∈sc.names:=PySem.mem_of_lookup hm0
     have hk':X.env.kindOf y=some .cell\/X.env.kindOf y=some .free:=by
      show X.env.scope.names.lookup y=_\/X.env.scope.names.lookup y=_
      rw[Ws];exact hk
     have hv:Vis X.env.scope y:=by rcases hk' with z | z;exact .inr (.inl z);exact .inr (.inr z)
     obtain⟨m,hn,hl⟩:=I2.loc
     obtain⟨u,r,l⟩:=hl j y v e6 e7 hv
     refine⟨u,r,.inr ?_⟩
     rcases l with ⟨z,_⟩ | ⟨_,c,hc1,hc2⟩
     ·rw[z] at hk';rcases hk' with q | q<;>cases q
     ·have hs2:((clo sc.names X.env.cells []).lookup y).isSome=true:=zau _ _ [] y hm (by rw[hc1];rfl)
      obtain⟨c',hc'⟩:=Option.isSome_iff_exists.mp hs2
      have hcc:c'=c:=by have:=clS y c' hc';rw[hc1] at this;exact(zDd this).symm
      subst hcc
      obtain⟨o,ho,hd⟩:=hc2
      refine⟨U7 hm0,c',?_,o,old _ o ho,hd⟩
      show((x,G.objs.size+1)::clo sc.names X.env.cells []).lookup y=some c'
      have hne:(y==x)=false:=by
       have:=L.nd
       rw[List.nodup_cons] at this
       have h9:y≠x:=fun z=>this.1 (by rw[<-z];exact zCN e1)
       simpa using h9
      rw[zC8,hne]
      exact hc'
  ·have e':((x,G.objs.size+1)::clo sc.names X.env.cells []).lookup y=some c:=e
   rw[zC8] at e'
   cases hy:y==x with
   | true =>
    rw[hy] at e'
    cases zDd e'
    exact⟨none,zr2₁⟩
   | false =>
    rw[hy] at e'
    obtain⟨v,o,q,d⟩:=I2.cell y c (clS y c e')
    exact⟨v,o,old _ o q,d⟩
  ·have e':((x,G.objs.size+1)::clo sc.names X.env.cells []).lookup y=some c:=e
   rw[zC8] at e'
   cases hy:y==x with
   | true =>
    rw[hy] at e'
    cases zDd e'
    exact fresh _ (zC4 hCle (Nat.le_succ _))
   | false =>
    rw[hy] at e'
    exact I2.P0 y c (clS y c e')
  ·have e:p=(s2.heap.objs.size,xK [] 0):=by simpa using hp
   subst e
   exact⟨hacc,fresh _ (zCY _),hDC,fun z=>Nat.lt_irrefl _ (zjS _ z),fun w hw=>by cases hw⟩
  ·show _=(Nz X x js).length
   simp
 have stat:∀{H':Hp} {pl:List (Addr×Obj)},(∀b∈fp,H' b=none)->(∀p∈pl,p.1=s2.heap.objs.size)->∀b∈fp,zc9 (X.Td x sc ((x,G.objs.size+1)::clo sc.names X.env.cells []) G.objs.size (Nz X x js) s2 H2 fp) pl H' b:=fun hn hp b hb =>
  ⟨hn b hb,(Bok.exf b hb).1,Bok.zh9 b hb,.inl hb,(Bok.exf b hb).2,fun p hm=>by
   rw[hp p (by simpa using hm)]
   exact Ne.symm (zCX (lt b hb))⟩
 have loop:∀s3:Shared,s3={ s2 with heap:=h₁,toks:=s2.toks+([]:List (Str×Value)).length } ->
   codeAny (model X.prog X.w) X.A (.compLoop (.ListComp elt [⟨.Name x px,iter,ifs,0⟩] sc pos) 0 (.ref it) (.ref s2.heap.objs.size) (compEnvC sc ((x,G.objs.size+1)::clo sc.names X.env.cells []) G.objs.size X.env))
    (compPost (model X.prog X.w) X.A X.xe use QQ (.ref s2.heap.objs.size) G.objs.size) s3:=by
  rintro s3 rfl
  refine zlv (fun n s'=>∃i ys its k o0 H',Inv (X.Td x sc ((x,G.objs.size+1)::clo sc.names X.env.cells []) G.objs.size (Nz X x js) s2 H2 fp) [(s2.heap.objs.size,xK its k)] (Z1 σ js o0) H' s'/\tn i s'.heap/\(∀b∈fp,H' b=none)/\Vals ys its/\ys.length<=sizeLine/\W i n ys H') ?_ m0
   ⟨0,[],[],0,none,H2,B0,T.keep _ _ _ st2 fun b _ o e=>old b o e,fun b hb=>(f2 b hb).1,.nil,zC5 _,w0⟩
  rintro n s4 ⟨i,ys,its,k,o0,H4,I4,st4,fr4,vs4,z4,w4⟩
  have one:∀p∈[(s2.heap.objs.size,xK its k)],p.1=s2.heap.objs.size:=fun p hp=>by
   have e:p=(s2.heap.objs.size,xK its k):=by simpa using hp
   rw[e]
  rcases turn i n ys H4 w4 with ⟨stop,qn⟩ | ⟨go,zl,step⟩
  ·refine ud (T.done (X.Td x sc ((x,G.objs.size+1)::clo sc.names X.env.cells []) G.objs.size (Nz X x js) s2 H2 fp) rfl rfl rfl hc i _ s4 _ H4 _ I4 (stat fr4 one) st4 stop) fun r s5 ⟨hr,I5⟩=>?_
   subst hr
   obtain⟨m5,hn5,_⟩:=I5.loc
   obtain⟨p1,p2,p3,p4,p5⟩:=I5.pin (s2.heap.objs.size,xK its k) (by simp)
   have ch:∀b∈fp,(b∈X.ex\/X.s₀.heap.objs.size<=b)/\b≠X.env.locals/\(∀x c,X.env.cells.lookup x=some c->c≠b)/\∀p∈X.pn++pins,p.1≠b:=fun b hb =>
    ⟨(f2 b hb).2.2.2.1,(f2 b hb).2.1,(f2 b hb).2.2.2.2.1,(f2 b hb).2.2.2.2.2⟩
   have J1:Inv X pins σ H4 s5:=I2.call' I5.os I5.base I5.hok I5.bare ch
   have ltp:∀p∈X.pn++pins,p.1<s2.heap.objs.size:=fun p hp=>zCP (I2.pin p hp).1
   have ltc:∀y c,X.env.cells.lookup y=some c->c<s2.heap.objs.size:=fun y c e=>by
    obtain⟨v,o,q,_⟩:=I2.cell y c e
    exact zCP q
   have s0:X.s₀.heap.objs.size<=s2.heap.objs.size:=I2.sz
   have own:∀a,s2.heap.objs.size<=a->H4 a=none->Own X pins H4 a:=fun a ha hn=>⟨hn,Ne.symm (zCX (zCR I2.lt ha)),zC4 s0 ha,fun y c e=>zCX (zCR (ltc y c e) ha),
    fun p hp=>zCX (zCR (ltp p hp) ha),I2.znz ha⟩
   exact hfin _ _ s5 H4 ys its k m5 J1 (own _ (zCY _) p2) (own _ hCle I5.free) hDC p1 vs4 z4 hn5 qn
  ·refine ud (T.item (X.Td x sc ((x,G.objs.size+1)::clo sc.names X.env.cells []) G.objs.size (Nz X x js) s2 H2 fp) rfl rfl rfl hc i _ s4 _ H4 _ I4 (stat fr4 one) st4 go) fun r s5 ⟨u,hr,h5⟩=>?_
   subst hr
   refine wpAny_mono h5 (fun _ s5' ⟨v,H6,I6,r6,y6,st6,fr6⟩=>?_) fun _ _ z=>z
   have I7:=I6.pinned (stat fr6 one) (T.obj _ _ st6)
   have zrQ:∀p∈Ri fp s5'.heap,p.1≠s2.heap.objs.size:=fun p hp=>zCX (lt _ (zbo hp).1)
   have zvs:=vs4.length
   have back:∀{its':List Value} {k':Nat} {H7:Hp} {s7:Shared} {ys':List V} {m':Nat},Inv (X.Td x sc ((x,G.objs.size+1)::clo sc.names X.env.cells []) G.objs.size (Nz X x js) s2 H2 fp) ((s2.heap.objs.size,xK its' k')::Ri fp s5'.heap) (Z1 σ js (some v)) H7 s7 ->
     Vals ys' its'->ys'.length<=sizeLine->m'<n->W (i+1) m' ys' H7->∃m,m<n/\∃i ys its k o0 H',Inv (X.Td x sc ((x,G.objs.size+1)::clo sc.names X.env.cells []) G.objs.size (Nz X x js) s2 H2 fp) [(s2.heap.objs.size,xK its k)] (Z1 σ js o0) H' s7/\tn i s7.heap/\(∀b∈fp,H' b=none)/\Vals ys its/\ys.length<=sizeLine/\W i m ys H':=by
    intro its' k' H7 s7 ys' m' J vs' z' hm w'
    refine⟨m',hm,i+1,ys',its',k',some v,H7,J.W6 fun p hp=>J.pin p (zCZ _ (by simp at hp;simp[hp])),?_,?_,vs',z',w'⟩
    ·exact T.keep _ _ _ st6 fun b hb o e=>(J.pin (b,o) (zCZ _ (zCT _ (Wo hb e)))).1
    ·intro b hb
     obtain⟨o,e,_⟩:=T.obj _ _ st6 b hb
     exact(J.pin (b,o) (zCZ _ (zCT _ (Wo hb e)))).2.1
   refine wpAny_mono (zon (X:=X) (sc:=sc) (x:=x) (js:=js) (elt:=elt) (px:=px) (ifs:=ifs) (tt:=tt) (te:=te) (D:=s2.heap.objs.size) (its:=its) (n:=k) (pl:=Ri fp s5'.heap)
    hxl L.nd I7 r6 (ht _ _ _ _ _) (he _ _ _ _ _) (by omega) (zCY _) hDC clD zrQ (step v H6 y6)) (fun _ s6 h6=>?_) fun _ _ z=>z
   refine wpAny_mono h6 (fun ok s7 h7=>?_) fun _ _ z=>z
   cases ok with
   | false =>
    rw[if_neg zCM] at h7 ⊢
    obtain⟨H7,⟨m',hm,w'⟩,J⟩:=h7
    exact back J vs4 z4 hm w'
   | true =>
    rw[if_pos rfl] at h7 ⊢
    refine wpAny_mono h7 (fun y s8 h8=>?_) fun _ _ z=>z
    refine wpAny_mono h8 (fun _ s9 h9=>?_) fun _ _ z=>z
    obtain⟨z,y',H9,⟨m',hm,w'⟩,rz,J⟩:=h9
    refine back J (vs4.append (.cons rz .nil)) ?_ hm w'
    rw[zCQ,zDg]
    omega
 exact codeAny_compStart_list (loop _ rfl) (T.self _ 0 _ _ _ (T.keep _ _ _ st2 fun b _ o e=>old b o e) (loop _ rfl))
theorem zqj (Ws:X.env.scope=Zj)(L:zlQ Zj sc x (js.map fun j=>X.N.getD j ""))(hc:X.calm=true)(hi:PI X (.Name x px) iter wi)(hjs:∀j∈js,j<X.N.length)
  (ht:∀(cl:List (Str×Addr)) (C:Addr) (s₂:Shared) (H₂:Hp) (fp:List Addr) (pins:List (Addr×Obj)) (s':Shared) (σ':St) (H':Hp) (Q:Bool->Hp->Prop),Inv (X.Td x sc cl C (Nz X x js) s₂ H₂ fp) pins σ' H' s'->tt σ' H' Q ->
   wpAny (model X.prog X.w) X.A (Z4 ifs (compEnvC sc cl C X.env)) (TP (X.Td x sc cl C (Nz X x js) s₂ H₂ fp) pins σ' Q) (fun _ _=>False) s')
  (he:∀(cl:List (Str×Addr)) (C:Addr) (s₂:Shared) (H₂:Hp) (fp:List Addr),PE (X.Td x sc cl C (Nz X x js) s₂ H₂ fp) elt te)
  (hs:∀x,foldedSetIterable iter X.env x=pure x:=by intro _;rfl) :
  PE X (.ListComp elt [⟨.Name x px,iter,ifs,0⟩] sc pos) (tLC wi js tt te):=by
 intro pins s σ H Q I h
 rw[eval_ListComp]
 refine zoo (use:=none) (Fin:=fun ys H=>∀p,H p=none->Q (.ref p) (upd H p (.lst ys))) Ws L hc hi hjs ht he hs I h fun D C s5 H5 ys its k m5 J oD oC hDC p1 vs z hn fin=>?_
 refine⟨m5,hn,fun h' hsb=>?_⟩
 have J2:Inv X pins σ H5 { s5 with heap:=h',toks:=s5.toks }:=J.turned (it:=C) (fun b o hb e=>hsb.extBut b o hb e) oC.free oC.loc (.inr oC.new) oC.cel oC.pin
 have p1':h'.get? D=some (xK its k):=hsb.extBut _ _ hDC p1
 have J3:Inv X pins σ (upd H5 D (.lst ys)) { s5 with heap:=h',toks:=s5.toks }:=J2.track oD.free oD.loc oD.new oD.cel oD.pin ⟨z,its,k,vs,p1'⟩
 exact⟨.ref D,_,J3,rfl,fin D oD.free⟩
end
end L2
namespace wK
open PySem
def Nf:List Bool->List Bool->Bool
 | a::r,b::t=>if a==b then Nf r t else !a&&b
 | [],_::_=>true
 | _,[]=>false
theorem zee:∀{r t:List Bool},r.length=t.length->Nf r t=true->∀u v,Nf (r++[u]) (t++[v])=true
 | [],[],_,h,_,_=>by cases h
 | a::r,b::t,hl,h,u,v=>by
  show(if a==b then Nf (r++[u]) (t++[v]) else !a&&b)=true
  have h':(if a==b then Nf r t else !a&&b)=true:=h
  cases hab:a==b with
  | true =>
   rw[hab] at h'
   simp only[if_true] at h' ⊢
   exact zee (by simpa using hl) h' u v
  | false =>
   rw[hab] at h'
   exact h'
theorem zef:∀(r:List Bool),Nf (r++[false]) (r++[true])=true
 | []=>rfl
 | a::r=>by
  show(if a==a then Nf (r++[false]) (r++[true]) else !a&&a)=true
  rw[beq_self_eq_true,if_pos rfl]
  exact zef r
theorem zgr:∀(l:List (List Bool)),(∀r∈l,∀t∈l,r.length=t.length)->l.Pairwise (fun r t=>Nf r t=true)->(l.flatMap fun r=>[r++[false],r++[true]]).Pairwise (fun r t=>Nf r t=true)
 | [],_,_=>List.Pairwise.nil
 | r::l,hl,h=>by
  rw[List.pairwise_cons] at h
  rw[List.flatMap_cons,List.pairwise_append]
  refine⟨List.pairwise_cons.mpr ⟨fun t ht=>?_,List.pairwise_cons.mpr ⟨fun t ht=>by simp at ht,List.Pairwise.nil⟩⟩,zgr l (fun a ha b hb=>hl a (zCT _ ha) b (zCT _ hb)) h.2,fun a ha b hb=>?_⟩
  ·have e:t=r++[true]:=by simpa using ht
   rw[e]
   exact zef r
  ·obtain⟨t,ht,hb'⟩:=List.mem_flatMap.mp hb
   have hrt:=h.1 t ht
   have hlen:=hl r zC2 t (zCT _ ht)
   have ea:a=r++[false]\/a=r++[true]:=by simpa using ha
   have eb:b=t++[false]\/b=t++[true]:=by simpa using hb'
   rcases ea with ea | ea<;>rcases eb with eb | eb<;>rw[ea,eb]<;>exact zee hlen hrt _ _
theorem zgs:∀n,(allR n).Pairwise (fun r t=>Nf r t=true)
 | 0=>List.pairwise_cons.mpr ⟨fun t ht=>by simp at ht,List.Pairwise.nil⟩
 | n+1=>zgr _ (fun r hr t ht=>(R4 n r hr).trans (R4 n t ht).symm) (zgs n)
end wK
namespace L2
open PySem PySem.Spec PyProof.Rows
theorem ztD {x:V}{p q:Prop}(h:q):if (!decide (x=x))=true then p else q:=by
 rw[decide_eq_true rfl]
 exact h
theorem zhb {x y:V}{p q:Prop}(e:x=y)(h:q):if (!decide (x=y))=true then p else q:=by
 subst e
 exact ztD h
section
variable {X:Cx}
def zqk (K:Frag):V->List V->Hp->VK->Prop:=fun x vs H Q=>∃(l:Addr) (xs:List V) (y:V) (e:V->Bool) (j:Nat),x=.ref l/\vs=[y]/\zM K H l xs/\(∀z∈xs,NP K H 8 z y (e z))/\xs.findIdx? e=some j/\Q (.int (j:Nat)) H
theorem zmL {K:Frag}(hK:X.K=K)(hu:X.A.units+9<cLine):MtM X "list.index" (zqk K):=by
 subst hK
 intro pins s σ H x vs v us Q I rx rv h
 obtain⟨l,xs,y,e,j,rfl,rfl,hq,he,hj,q⟩:=h
 cases rx
 obtain⟨u,rfl,ru⟩:=rv.one
 obtain⟨its,r,⟨o,n,e0,hc,hd,hdat⟩,hz⟩:=I.list hq
 obtain⟨cls,dd,dt,sl⟩:=o
 have hc':cls=.type "list" := hc
 have hdat':dt=.seq its.toArray n:=hdat
 subst hc' hdat'
 obtain⟨f,f1,f2⟩:=zea r he
 have hl:=r.length
 have hn:=Qx
 obtain⟨h1,h2,h3⟩:=List.findIdx?_eq_some_iff_getElem.mp hj
 have at_:∀m (hm:m<its.length),f its[m]=e (xs[m]'(by omega)):=fun m hm=>f1 m _ _ (zCJ (by omega)) (zCJ hm)
 refine call_meets F.slot_list_index ⟨_,e0,rfl⟩ F.entry_list_index (F.args_list_index_2 _ _) (SeqAt.list_indexAt l its.toArray n dd sl u f j (by simp;omega) (by omega) (by simp only[List.getElem_toArray];rw[at_];exact h2) (fun m hm hlt=>?_)) ⟨e0,fun w hw=>?_,?_⟩
 ·have hm':m<its.length:=by simpa using hm
  simp only[List.getElem_toArray]
  rw[at_ m hm']
  exact Bool.eq_false_iff.mpr (h3 m hlt)
 ·have hw':w∈its:=by simpa using hw
  obtain⟨i,hi,ew⟩:=zDr hw'
  have hx:i<xs.length:=by omega
  obtain⟨w',hw2,rw'⟩:=r.get (zCJ hx)
  rw[zCJ hi,ew] at hw2
  cases hw2
  have z:=at_ i hi
  rw[ew] at z
  rw[z]
  exact(he _ (zDq hx)).at I rw' ru (by show X.A.units+1+8<cLine;omega)
 exact⟨.int (j:Nat),H,I.tok _,⟨_,rfl⟩,q⟩
end
end L2
namespace wK
open Zk
def anyB (n:Nat)(f:Nat->Bool):Bool:=(List.range (2^n)).any f
theorem anyB_iff {n:Nat}{f:Nat->Bool}:anyB n f=true↔∃b,b<2^n/\f b=true:=by
 unfold anyB
 rw[List.any_eq_true]
 exact⟨fun⟨b,h,e⟩=>⟨b,List.mem_range.mp h,e⟩,fun⟨b,h,e⟩=>⟨b,List.mem_range.mpr h,e⟩⟩
theorem zaw {n N:Nat}{f:Nat->Bool}(h:zX n N f):decide (N=0)=!anyB n f:=by
 by_cases e:N=0
 ·subst e
  rw[decide_eq_true rfl]
  cases hb:anyB n f with
  | false=>rfl
  | true =>
   obtain⟨b,hb,e⟩:=anyB_iff.mp hb
   have:=zaE h hb
   rw[e,Nat.zero_testBit] at this
   cases this
 ·rw[decide_eq_false e]
  cases hb:anyB n f with
  | true=>rfl
  | false =>
   exfalso
   refine e (Nat.eq_of_testBit_eq fun i=>?_)
   rw[h i,Nat.zero_testBit]
   by_cases hi:i<2^n
   ·cases hf:f i with
    | false=>rw[Bool.and_false]
    | true=>rw[anyB_iff.mpr ⟨i,hi,hf⟩] at hb;cases hb
   ·rw[decide_eq_false hi];rfl
def fvP (n:Nat):(Nat->Bool)->List Nat->List Bool
 | _,[]=>[]
 | f,p::ps=>(!anyB n fun b=>f (zO b p false))::fvP n (fun b=>f (zO b p (!anyB n fun b=>f (zO b p false)))) ps
end wK
namespace Zk
open PySem L2 wK
theorem zop {r t:List Bool}(h:yd r=yd t):r=t:=by
 unfold yd at h
 refine List.map_inj_right (f:=fun b:Bool=>V.int (b.toNat:Nat)) (fun a b e=>?_) |>.mp h
 cases a<;>cases b<;>first | rfl | (injection e with e;cases e)
def Jd (K:Frag):Sp:=fun vs H Q _=>∃(N n:Nat) (f:Nat->Bool) (pl:Addr) (ps:List Nat),vs=[.int N,.ref pl,.int n]/\n<=8/\zX n N f/\zM K H pl (ps.map fun p=>V.int (p:Nat))/\(∀p∈ps,p<n)/\ps.length<=1000 /\
 ∀(l:Addr) (H':Hp),Same H H'->H l=none->H' l=some (.lst (yd (fvP n f ps)))->Q (.ref l) H'
end Zk
namespace wK
open PySem Zk
def upR (n:Nat)(x:Rm):Bool:=match x with | some (i,_,_)=>decide (i+2<n) | none=>false
def hiN (n:Nat)(rs:List Rm):Nat:=(rs.filter (upR n)).length
theorem zqm {n:Nat}{rs:List Rm}{p lo hi:Nat}:hiN n (rs++[some (p,lo,hi)])=hiN n rs+if p+2<n then 1 else 0:=by
 unfold hiN
 rw[zDn,zCQ]
 congr 1
 by_cases h:p+2<n
 ·rw[if_pos h,List.filter_cons_of_pos (show upR n (some (p,lo,hi))=true from decide_eq_true h)]
  rfl
 ·rw[if_neg h,List.filter_cons_of_neg (show ¬upR n (some (p,lo,hi))=true from fun z=>h (of_decide_eq_true z))]
  rfl
def zqn (n:Nat)(rs:List Rm)(k:Nat):Bool×Bool×Bool×Bool :=
 (yes rs k (fun i=>if i+1=n then false else false),yes rs k (fun i=>if i+1=n then true else false),yes rs k (fun i=>if i+1=n then false else true),yes rs k (fun i=>if i+1=n then true else true))
theorem zqo {n:Nat}{rs:List Rm}(B:Bk n rs){j k:Nat}(hj:j<rs.length)(hk:k<rs.length)(lj:n<=Jb n rs j+2)(lk:n<=Jb n rs k+2)(e:zqn n rs j=zqn n rs k):j=k:=by
 unfold zqn at e
 rw[Prod.mk.injEq,Prod.mk.injEq,Prod.mk.injEq] at e
 obtain⟨e0,e1,e2,e3⟩:=e
 have key:∀{m:Nat},m<rs.length->n<=Jb n rs m+2->∀r:Row,yes rs m r=yes rs m (fun i=>if i+1=n then r (n-1) else r (n-2)):=fun {m} hm lm r=>by
  refine RZ B m m (zCY _) hm fun i h1 h2=>?_
  by_cases h:i+1=n
  ·rw[if_pos h,show i=n-1 by omega]
  ·rw[if_neg h,show i=n-2 by omega]
 refine Vy B (max j k) j k ⟨Nat.le_max_left _ _,Nat.le_max_right _ _⟩ hj hk fun r=>?_
 rw[key hj lj r,key hk lk r]
 cases r (n-1)<;>cases r (n-2)
 ·exact e0
 ·exact e2
 ·exact e1
 ·exact e3
def ztE:List (Bool×Bool×Bool×Bool):=[false,true].flatMap fun a=>[false,true].flatMap fun b=>[false,true].flatMap fun c=>[false,true].map fun d=>(a,b,c,d)
theorem zoq:∀x:Bool×Bool×Bool×Bool,x∈ztE:=by
 rintro⟨a,b,c,d⟩
 cases a<;>cases b<;>cases c<;>cases d<;>decide
theorem ziz {α:Type}(f:α->Bool)(d:α):∀l:List α,(l.filter f).length=((List.range l.length).filter fun i=>f (l.getD i d)).length
 | []=>rfl
 | a::l=>by
  have ih:=ziz f d l
  rw[zCU,List.range_succ_eq_map,List.filter_cons,List.filter_cons,List.filter_map,]
  have e:((List.range l.length).filter ((fun i=>f ((a::l).getD i d)) ∘ Nat.succ))=((List.range l.length).filter fun i=>f (l.getD i d)):=rfl
  rw[e]
  show(if f a=true then a::l.filter f else l.filter f).length=(if f a=true then 0::_ else _).length
  cases f a
  ·rw[if_neg zCM,if_neg zCM,zCI]
   exact ih
  ·rw[if_pos rfl,if_pos rfl,zCU,zCU,zCI,ih]
theorem zgt {α:Type}(f:α->Bool):∀l:List α,l.length=(l.filter f).length+(l.filter fun a=>!f a).length
 | []=>rfl
 | a::l=>by
  have ih:=zgt f l
  cases h:f a
  ·rw[List.filter_cons_of_neg (by rw[h];exact zCM),List.filter_cons_of_pos (p:=fun a=>!f a) (by rw[h];rfl),zCU,zCU]
   omega
  ·rw[List.filter_cons_of_pos h,List.filter_cons_of_neg (p:=fun a=>!f a) (by rw[h];exact zCM),zCU,zCU]
   omega
theorem zr3 {n:Nat}{rs:List Rm}(B:Bk n rs):rs.length<=hiN n rs+16:=by
 have e1:=zgt (fun i=>upR n (rs.getD i none)) (List.range rs.length)
 rw[zC0,<-ziz] at e1
 have e2:((List.range rs.length).filter fun i=>!upR n (rs.getD i none)).length<=16:=by
  have nd:(((List.range rs.length).filter fun i=>!upR n (rs.getD i none)).map (zqn n rs)).Nodup:=by
   have h:=(List.nodup_range (n:=rs.length)).filter (fun i=>!upR n (rs.getD i none))
   show List.Pairwise _ _
   rw[List.pairwise_map]
   refine List.Pairwise.imp_of_mem (fun {j k} hj hk ne e=>ne ?_) h
   obtain⟨j1,j2⟩:=List.mem_filter.mp hj
   obtain⟨k1,k2⟩:=List.mem_filter.mp hk
   have lv:∀m,m<rs.length->(!upR n (rs.getD m none))=true->n<=Jb n rs m+2:=fun m hm hu=>by
    unfold Jb
    rw[zCV] at hu
    cases hx:rs[m]? with
    | none=>show n<=n+2;omega
    | some x =>
     rw[hx] at hu
     cases x with
     | none=>show n<=n+2;omega
     | some t =>
      obtain⟨i,lo,hi⟩:=t
      have:¬i+2<n:=fun z=>by
       have:upR n (some (i,lo,hi))=true:=decide_eq_true z
       simp[this] at hu
      show n<=i+2
      omega
   exact zqo B (List.mem_range.mp j1) (List.mem_range.mp k1) (lv j (List.mem_range.mp j1) j2) (lv k (List.mem_range.mp k1) k2) e
  have:=zd3 nd (ys:=ztE) fun x _=>zoq x
  rw[zCI] at this
  exact this
 unfold hiN
 omega
def bH (n u:Nat):Nat:=2^(n-2-u)-1
theorem zqp {n u p:Nat}(h:u<=p):bH n (p+1)+bH n (p+1)+(if p+2<n then 1 else 0)<=bH n u:=by
 unfold bH
 by_cases hp:p+2<n
 ·rw[if_pos hp]
  have e:n-2-p=(n-2-(p+1))+1:=by omega
  have m:2^(n-2-p)<=2^(n-2-u):=zDe (by decide) (by omega)
  have p1:1<=2^(n-2-(p+1)):=Nat.one_le_two_pow
  rw[e,Nat.pow_succ] at m
  omega
 ·rw[if_neg hp,show n-2-(p+1)=0 by omega]
  show 1-1+(1-1)+0<=_
  omega
theorem zvE {n:Nat}(h:n<=8):bH n 0<=63:=by
 have:2^(n-2-0)<=2^6:=zDe (by decide) (by omega)
 have e:2^6=64:=rfl
 unfold bH
 omega
end wK
namespace Zk
open PySem L2 wK
section
variable (C:Addr)(K:Frag)
def Sy (d:Nat):Sp:=fun vs H Q _=>∃(b:Addr) (os:List Str) (rs:List Rm) (F:uF) (t u:Nat) (f:Nat->Bool),vs=[.ref b,.int t]/\yD C H b os rs F/\rs.length+2^d<=9000000/\u<=os.length/\os.length+1<=u+d/\zX os.length t f/\(∀i,i<u->Free os.length f i) /\
 ∀(k:Nat) (rs':List Rm) (H':Hp),zqc F H H'->yC H H'->yD C H' b os rs' F->tG rs rs'->k<rs'.length->(∀r,yes rs' k r=f (bits r os.length))->rs'.length+1<=rs.length+2^d->(∀j,rs.length<=j->j<rs'.length->u<=Jb os.length rs' j)->hiN os.length rs'<=hiN os.length rs+bH os.length u->Q (.int (k:Nat)) H'
def ztF (b:Addr)(os:List Str)(H:Hp)(rs:List Rm)(F:uF)(f:Row->Bool)(Q:VK):Prop:=∀(k:Nat) (rs':List Rm) (H':Hp),zqc F H H'->yC H H'->yD C H' b os rs' F->tG rs rs'->Means rs' k f->hiN os.length rs'<=hiN os.length rs+63->Q (.int (k:Nat)) H'
def ziA:Sp:=fun vs H Q _=>∃(b p:Addr) (os:List Str) (rs:List Rm) (F:uF) (s:Sn),vs=[.ref b,.ref p]/\yD C H b os rs F/\rs.length<=8000000/\RQ H s p/\s.Ub os/\s.count<=200/\s.depth<=24/\ztF C b os H rs F (fun r=>s.val (zmH os r)) Q
end
structure JT (C:Addr)(H0:Hp)(b:Addr)(os:List Str)(m:Nat)(H:Hp)(rs:List Rm)(F:uF):Prop where
 same:Same H0 H
 away:∀x,F x->H0 x=none
 bk:yD C H b os rs F
 hi:hiN os.length rs<=m
section
variable {C:Addr}{H0:Hp}{b:Addr}{os:List Str}{m:Nat}{H:Hp}{rs:List Rm}{F:uF}
theorem JT.len (h:JT C H0 b os m H rs F):rs.length<=m+16:=zC4 (zr3 ((xU C).bk h.bk)) (Nat.add_le_add_right h.hi _)
theorem JT.new (h:JT C H0 b os m H rs F){H':Hp}(g:Same H H'):JT C H0 b os m H' rs F:=⟨h.same.trans g,h.away,(xU C).same h.bk g,h.hi⟩
end
theorem JT.up {C:Addr}{H0:Hp}{b:Addr}{os:List Str}{m m':Nat}{H:Hp}{rs:List Rm}{F:uF}(h:JT C H0 b os m H rs F)(hm:m<=m'):JT C H0 b os m' H rs F:=⟨h.same,h.away,h.bk,zC4 h.hi hm⟩
theorem zgu {os:List Str}{p:Nat}{x:Str}(nd:os.Nodup)(h:os[p]?=some x):ix os x=p:=by
 have hp:=(zCL.mp h).1
 obtain⟨_,h2,h3⟩:=vU (zCN h)
 exact(List.getElem?_inj h2 nd).mp (h3.trans h.symm)
end Zk
namespace L2
open PySem PySem.Spec PyProof.Rows
theorem zlS {K:Frag}{a b:Addr}{xs ys:List V}{g:TG}{tb:TS}{D:Ends}{σ:St}{H:Hp}(hlen:xs.length=ys.length)(Pv:Nat->St->Hp->Prop)(h0:Pv 0 σ H)(hl:∀i σ H,i<=xs.length->Pv i σ H->zM K H a xs/\zM K H b ys)
  (hs:∀i x y σ H p,xs[i]?=some x->ys[i]?=some y->Pv i σ H->H p=none->g (.ref p) σ (upd H p (.tup [x,y])) fun σ2 H2=>tb { D with nx:=Pv (i+1),ct:=Pv (i+1),bk:=D.nx } σ2 H2)(hd:∀ σ H,Pv xs.length σ H->D.nx σ H) :
  ∃W:Nat->Nat->St->Hp->Prop,(∃m,W 0 m σ H)/\∀i m σ H,W i m σ H ->
   ((Itz K a b).stop i H/\D.nx σ H)\/((Itz K a b).go i H/\∃N:St->Hp->Prop,(∀ σ' H',N σ' H'->∃m',m'<m/\W (i+1) m' σ' H')/\∀x H',(Itz K a b).JG i H x H'->g x σ H' fun σ2 H2=>tb { D with nx:=N,ct:=N,bk:=D.nx } σ2 H2):=by
 refine⟨fun i m σ H=>m=xs.length-i/\i<=xs.length/\Pv i σ H,⟨xs.length,by simp,zC5 _,h0⟩,?_⟩
 rintro i m σ H ⟨rfl,hi,p⟩
 obtain⟨q,q'⟩:=hl i σ H hi p
 by_cases hlt:i<xs.length
 ·refine .inr ⟨⟨xs,ys,_,_,q,q',zCJ hlt,zCJ (l:=ys) (i:=i) (by omega)⟩,Pv (i+1),fun σ' H' p'=>⟨xs.length-(i+1),by omega,rfl,hlt,p'⟩,fun x H' y=>?_⟩
  obtain⟨pp,u,v,hu,hv,rfl,hn,rfl⟩:=y
  exact hs i u v σ H pp (hu xs q) (hv ys q') p hn
 ·have e:i=xs.length:=by omega
  subst e
  exact .inl ⟨⟨xs,ys,q,q',.inl (zCY _)⟩,hd σ H p⟩
section
variable {X:Cx}{K:Frag}{o e:Expr}{es:List Expr}{to:TE}{t:TA}{name:Str}{apos cpos:Pos}{T id:String}{r:V->List V->Hp->VK->Prop}
theorem zj7 (hK:X.K=K)(pa:PlainAttrs T)(slot:Slot T name id)(hty:typeOf (.builtin id)=pure (.type "method_descriptor"))(hm:MtR X id r)(ho:PE X o to)(ha:PA X (e::es) t)
  (hbase:attributeBase o name X.env (eval o X.env)=eval o X.env:=by rfl)
  (hfew:((backTo cpos (starEach (e::es) X.env)).all (fun x=>!x.1)&&(backToKw cpos (keywordEach [] X.env)).all (fun x=>x.1.isSome)
   && decide ((e::es).length+([]:List Keyword).length+(if ([]:List Keyword).isEmpty then 0 else 1)<30))=true:=by rfl)
  (hline:(apos.endLine==cpos.line)=true:=by rfl)(hs:starEach (e::es) X.env=(false,eval e X.env)::starEach es X.env:=by rfl)(hplain:(backTo cpos (starEach es X.env)).any (·.1)=false:=by rfl) :
  PE X (.Call (.Attribute o name apos) (e::es) [] cpos) (tBM K T r to t):=by
 subst hK
 exact vG pa slot hty hm ho ha hbase hfew hline hs hplain
theorem zgv (hK:X.K=K):MtR X "list.index" (znR K):=by subst hK;exact RV
end
theorem zlT {X:Cx}{sc Zj:Scope}{x y:Str}{js:List Nat}{elt iter c:Expr}{px py pt pos:Pos}{x1:Nat}{wi:TI}{te:TE}{tt:TT}(Ws:X.env.scope=Zj)(L:zol Zj sc x y (js.map fun j=>X.N.getD j ""))(hc:X.calm=true)(hi:PI X (.Tuple [.Name x px,.Name y py] x1 pt) iter wi)(hjs:∀j∈js,j<X.N.length)
  (ht:∀(cl:List (Str×Addr)) (C:Addr) (s₂:Shared) (H₂:Hp) (fp:List Addr),PT (X.blk sc cl C (lcG X [x,y] js) s₂ H₂ fp) c tt)
  (he:∀(cl:List (Str×Addr)) (C:Addr) (s₂:Shared) (H₂:Hp) (fp:List Addr),PE (X.blk sc cl C (lcG X [x,y] js) s₂ H₂ fp) elt te)
  (hs:∀x,foldedSetIterable iter X.env x=pure x:=by intro _;rfl) :
  PE X (.ListComp elt [⟨.Tuple [.Name x px,.Name y py] x1 pt,iter,[c],0⟩] sc pos) (zs8 wi [x,y] js (zpz X.K 2 (zdM (N5 0) (zdM (N5 1) zpy))) tt te) :=
 zr0 Ws L.g hc hi (fun cl C s₂ H₂ fp=>zqh (X:=X.blk sc cl C (lcG X [x,y] js) s₂ H₂ fp) hc L.nd rfl rfl (lookup_relabel_local L.hx) (lookup_relabel_local L.hy)) hjs (fun cl C s₂ H₂ fp pins s' σ' H' Q I h=>wpAny_tests_one (ht cl C s₂ H₂ fp pins s' σ' H' Q I h)) he hs
theorem ziB {K:Frag}{a:Addr}{xs:List V}{σ:St}{js:List Nat}{tt:TT}{te:TE}{H:Hp}{Qf:Addr->Hp->List V->Prop}{x y:Str}(Pv:Nat->List V->Hp->Prop)(h0:Pv 0 [] H)(hz:xs.length<=sizeLine)
  (hl:∀i ys H,i<=xs.length->Pv i ys H->vW K H a xs/\ys.length<=i)
  (hs:∀i v ys H,xs[i]?=some v->Pv i ys H->∃(p:Addr) (u w:V),v=.ref p/\vW K H p [u,w]/\tt (lcT σ js [some u,some w]) H fun b H2=>if b=true then te (lcT σ js [some u,some w]) H2 fun z H3=>Pv (i+1) (ys++[z]) H3 else Pv (i+1) ys H2)
  (mt:∀ σ H Q Q',(∀b H1,Q b H1->Q' b H1)->tt σ H Q->tt σ H Q')(me:∀ σ H Q Q',(∀v H1,Q v H1->Q' v H1)->te σ H Q->te σ H Q')
  (hd:∀ys H p,Pv xs.length ys H->H p=none->Qf p H ys) :
  ∃W:Nat->Nat->List V->Hp->Prop,(∃m,W 0 m [] H)/\∀i m zs H,W i m zs H ->
   ((Itt K a).stop i H/\∀p,H p=none->Qf p H zs) \/
   ((Itt K a).go i H/\zs.length<sizeLine/\∀v H',(Itt K a).JG i H v H'->∀o0:List (Option V),o0.length=[x,y].length->zpz K 2 (zdM (N5 0) (zdM (N5 1) zpy)) v (lcT σ js o0) H' fun σ2 H1=>∃o1,σ2=lcT σ js o1/\o1.length=[x,y].length/\tt σ2 H1 fun b H2 =>
    if b=true then te σ2 H2 fun v H3=>∃m',m'<m/\W (i+1) m' (zs++[v]) H3 else ∃m',m'<m/\W (i+1) m' zs H2):=by
 refine⟨fun i m ys H=>m=xs.length-i/\i<=xs.length/\Pv i ys H,⟨xs.length,by simp,zC5 _,h0⟩,?_⟩
 rintro i m ys H ⟨rfl,hi,p⟩
 obtain⟨q,hy⟩:=hl i ys H hi p
 by_cases hlt:i<xs.length
 ·refine .inr ⟨⟨xs,xs[i],q,by simp[hlt]⟩,by omega,fun v H' y o0 l0=>?_⟩
  obtain⟨e,y⟩:=y
  subst e
  obtain⟨pp,u,w,rfl,hp,ht⟩:=hs i v ys _ (y xs q) p
  have eσ:((lcT σ js o0).set 0 (some u)).set 1 (some w)=lcT σ js [some u,some w]:=by
   match o0,l0 with
   | [a0,a1],_=>rfl
  refine⟨pp,[u,w],rfl,hp,rfl,u,[w],rfl,w,[],rfl,rfl,[some u,some w],eσ,rfl,?_⟩
  rw[eσ]
  refine mt _ _ _ _ (fun b H2 h2=>?_) ht
  cases b with
  | true =>
   rw[if_pos rfl] at h2 ⊢
   exact me _ _ _ _ (fun v H3 h3=>⟨_,by omega,rfl,hlt,h3⟩) h2
  | false =>
   rw[if_neg zCM] at h2 ⊢
   exact⟨_,by omega,rfl,hlt,h2⟩
 ·have e:i=xs.length:=by omega
  subst e
  exact .inl ⟨⟨xs,q,zCY _⟩,fun r hr=>hd _ _ r p hr⟩
end L2
namespace Zk
open PySem L2 wK
def zeg:List Nat->(Nat->Bool)->Nat->Bool
 | [],f=>f
 | p::ps,f=>zeg ps fun c=>f c||f (zO c p (!c.testBit p))
theorem zgw (p:Nat):∀(ps:List Nat) (f:Nat->Bool),zeg (ps++[p]) f=fun c=>zeg ps f c||zeg ps f (zO c p (!c.testBit p))
 | [],_=>rfl
 | q::ps,f=>by show zeg (ps++[p]) _=_;rw[zgw p ps];rfl
def zeh:List (Nat×Nat)->(Nat->Bool)->Nat->Bool
 | [],f=>f
 | pq::r,f=>zeh r fun c=>if c.testBit pq.2 then f (zO c pq.1 true) else f (zO c pq.1 false)
theorem zgx (pq:Nat×Nat):∀(r:List (Nat×Nat)) (f:Nat->Bool),zeh (r++[pq]) f=fun c=>if c.testBit pq.2 then zeh r f (zO c pq.1 true) else zeh r f (zO c pq.1 false)
 | [],_=>rfl
 | q::r,f=>by show zeh (r++[pq]) _=_;rw[zgx pq r];rfl
def zR (ps:List Nat):List V:=ps.map fun p=>V.int (p:Nat)
def zaF (K:Frag):Sp:=fun vs H Q _=>∃(N n:Nat) (f:Nat->Bool) (l:Addr) (ps:List Nat),vs=[.int N,.ref l,.int n]/\n<=8/\zX n N f/\zM K H l (zR ps)/\(∀p∈ps,p<n)/\∀R:Nat,zX n R (zeg ps f)->Q (.int R) H
def zdB (K:Frag):Sp:=fun vs H Q _=>∃(N n:Nat) (f:Nat->Bool) (l m:Addr) (ps qs:List Nat),vs=[.int N,.ref l,.ref m,.int n]/\n<=8/\zX n N f/\zM K H l (zR ps)/\zM K H m (zR qs)/\ps.length=qs.length/\ps.length<=8/\(∀p∈ps,p<n)/\(∀p∈qs,p<n)/\∀(R:Nat) (H':Hp),Same H H'->zX n R (zeh (ps.zip qs) f)->Q (.int R) H'
def prs:List (Str×Str):=[("a", "e"),("b", "f"),("c", "g"),("d", "h")]
def yq (os:List Str):List Str:=(prs.filter fun p=>os.contains p.1).map (·.1)
def Zm (os:List Str):List Str:=(prs.filter fun p=>os.contains p.2).map (·.2)
def QL (C:Addr):Sp:=fun vs H Q _=>∃(b:Addr) (os:List Str) (rs:List Rm) (F:uF),vs=[.ref b]/\yD C H b os rs F/\∀(l:Addr) (H':Hp),Same H H'->H l=none->H' l=some (.lst ((yq os).map V.str))->Q (.ref l) H'
def zcN (C:Addr):Sp:=fun vs H Q _=>∃(b:Addr) (os:List Str) (rs:List Rm) (F:uF),vs=[.ref b]/\yD C H b os rs F/\∀(l:Addr) (H':Hp),Same H H'->H l=none->H' l=some (.lst ((Zm os).map V.str))->Q (.ref l) H'
def Xa (C:Addr):Sp:=fun vs H Q _=>∃(b:Addr) (os:List Str) (rs:List Rm) (F:uF),vs=[.ref b]/\yD C H b os rs F/\∀(l:Addr) (H':Hp),Same H H'->H l=none->H' l=some (.lst (zR ((yq os).map (ix os))))->Q (.ref l) H'
def Xp (C:Addr):Sp:=fun vs H Q _=>∃(b:Addr) (os:List Str) (rs:List Rm) (F:uF),vs=[.ref b]/\yD C H b os rs F/\∀(l:Addr) (H':Hp),Same H H'->H l=none->H' l=some (.lst (zR ((Zm os).map (ix os))))->Q (.ref l) H'
theorem zaG {os:List Str}{x:Str}:inV (.str x) (os.map V.str)=os.contains x:=by
 unfold inV
 rw[List.any_map]
 induction os with
 | nil=>rfl
 | cons a l ih =>
  rw[List.any_cons,List.contains_cons,ih]
  show((a==x)||l.contains x)=((x==a)||l.contains x)
  rw[Bool.beq_comm]
theorem zei {os:List Str}{x:Str}(h:x∈yq os):x∈os:=by
 obtain⟨p,hp,e⟩:=List.mem_map.mp h
 rw[<-e]
 exact List.contains_iff_mem.mp (List.mem_filter.mp hp).2
theorem zbB {os:List Str}{x:Str}(h:x∈Zm os):x∈os:=by
 obtain⟨p,hp,e⟩:=List.mem_map.mp h
 rw[<-e]
 exact List.contains_iff_mem.mp (List.mem_filter.mp hp).2
def yt (os:List Str):Prop:=∀p∈prs,os.contains p.1=os.contains p.2
theorem yt.len {os:List Str}(h:yt os):(yq os).length=(Zm os).length:=by
 unfold yq Zm
 rw[zCI,zCI,List.filter_congr fun p hp=>h p hp]
theorem uT (os:List Str):(yq os).length<=4:=by
 show((prs.filter _).map _).length<=4
 rw[zCI]
 exact zDh _ _
def yg (os:List Str):List Nat:=(yq os).map (ix os)
def zU (os:List Str):List Nat:=(Zm os).map (ix os)
theorem Xq {os:List Str}:∀p∈yg os,p<os.length:=fun p hp=>by
 obtain⟨x,hx,e⟩:=List.mem_map.mp hp
 rw[<-e]
 exact(vU (zei hx)).2.1
theorem Yy {os:List Str}:∀p∈zU os,p<os.length:=fun p hp=>by
 obtain⟨x,hx,e⟩:=List.mem_map.mp hp
 rw[<-e]
 exact(vU (zbB hx)).2.1
def R5 (os:List Str)(t f:Nat->Bool):Nat->Bool:=zeh ((zU os).zip (yg os)) (zeg (yg os) fun b=>f b&&t b)
def zj8 (os:List Str)(t f:Nat->Bool):Nat->Bool:=zeg (zU os) fun b=>zeh ((yg os).zip (zU os)) f b&&t b
def zdC (C:Addr):Sp:=fun vs H Q _=>∃(b:Addr) (os:List Str) (rs:List Rm) (F:uF) (k N:Nat) (f:Nat->Bool),vs=[.ref b,.int (k:Nat),.int (N:Nat)]/\yD C H b os rs F/\k<rs.length/\yt os/\zX os.length N f/\∀(R:Nat) (H':Hp),Same H H'->zX os.length R (R5 os (fun b=>yes rs k (QG b)) f)->Q (.int R) H'
def ziC (C:Addr):Sp:=fun vs H Q _=>∃(b:Addr) (os:List Str) (rs:List Rm) (F:uF) (k N:Nat) (f:Nat->Bool),vs=[.ref b,.int (k:Nat),.int (N:Nat)]/\yD C H b os rs F/\k<rs.length/\yt os/\zX os.length N f/\∀(R:Nat) (H':Hp),Same H H'->zX os.length R (zj8 os (fun b=>yes rs k (QG b)) f)->Q (.int R) H'
def zcO (C:Addr):Sp:=fun vs H Q _=>∃(b:Addr) (os:List Str) (rs:List Rm) (F:uF),vs=[.ref b]/\yD C H b os rs F/\yt os/\∀H',Same H H'->Q .non H'
def zaH (os:List Str)(rs:List Rm)(k:Nat):Prop:=k<rs.length/\∀p∈zU os,Free os.length (fun b=>yes rs k (QG b)) p
def zgy (C:Addr):Sp:=fun vs H Q _=>∃(b:Addr) (os:List Str) (rs:List Rm) (F:uF) (k:Nat),vs=[.ref b,.int (k:Nat)]/\yD C H b os rs F/\zaH os rs k/\∀H',Same H H'->Q .non H'
def QM (C:Addr)(K:Frag):Sp:=fun vs H Q _=>∃(b l:Addr) (os:List Str) (rs:List Rm) (F:uF) (k:Nat) (ks:List Nat),vs=[.ref b,.int (k:Nat),.ref l]/\yD C H b os rs F/\yt os/\k<rs.length/\zM K H l (zR ks)/\(∀j∈ks,zaH os rs j)/\∀H',Same H H'->Q .non H'
theorem QS {a b:Nat}(h:∀i,a.testBit i=b.testBit i):a=b:=Nat.eq_of_testBit_eq h
theorem zej:∀(ps:List Nat) (f:Nat->Bool) (c:Nat),zeg ps f c=true↔∃d,(∀i,i∉ps->d.testBit i=c.testBit i)/\f d=true
 | [],f,c=>by
  constructor
  ·exact fun h=>⟨c,fun _ _=>rfl,h⟩
  ·rintro⟨d,h1,h2⟩
   have e:d=c:=QS fun i=>h1 i (by simp)
   rw[e] at h2
   exact h2
 | p::ps,f,c=>by
  show zeg ps _ c=true↔_
  rw[zej ps]
  constructor
  ·rintro⟨d,h1,h2⟩
   rcases (Bool.or_eq_true _ _).mp h2 with z | z
   ·exact⟨d,fun i hi=>h1 i (fun y=>hi (zCT _ y)),z⟩
   ·refine⟨_,fun i hi=>?_,z⟩
    rw[zV,if_neg (fun y=>hi (by rw[y];exact zC2))]
    exact h1 i (fun y=>hi (zCT _ y))
  ·rintro⟨d,h1,h2⟩
   refine⟨zO d p (c.testBit p),fun i hi=>?_,?_⟩
   ·rw[zV]
    by_cases e:i=p
    ·rw[if_pos e,e]
    ·rw[if_neg e]
     exact h1 i (fun y=>(List.mem_cons.mp y).elim e hi)
   ·refine(Bool.or_eq_true _ _).mpr ?_
    by_cases e:c.testBit p=d.testBit p
    ·left
     rw[e,xY]
     exact h2
    ·right
     have e':zO (zO d p (c.testBit p)) p (!(zO d p (c.testBit p)).testBit p)=d:=QS fun i=>by
      rw[zV,zV,zV]
      by_cases y:i=p
      ·rw[if_pos y,if_pos rfl,y]
       cases hc:c.testBit p<;>cases hd:d.testBit p<;>rw[hc,hd] at e<;>first | rfl | exact absurd rfl e
      ·rw[if_neg y,if_neg y]
     rw[e']
     exact h2
def mv:List (Nat×Nat)->Nat->Nat
 | [],c=>c
 | pq::r,c=>zO (mv r c) pq.1 ((mv r c).testBit pq.2)
theorem zaI:∀(r:List (Nat×Nat)) (f:Nat->Bool) (c:Nat),zeh r f c=f (mv r c)
 | [],_,_=>rfl
 | pq::r,f,c=>by
  show zeh r _ c=_
  rw[zaI r]
  show(if (mv r c).testBit pq.2=true then _ else _)=f (zO (mv r c) pq.1 ((mv r c).testBit pq.2))
  cases (mv r c).testBit pq.2<;>simp
theorem zek:∀(r:List (Nat×Nat)) (c:Nat),(r.map (·.1)).Nodup->(∀x∈r,∀y∈r,x.2≠y.1)->(∀x∈r,(mv r c).testBit x.1=c.testBit x.2)/\∀i,i∉r.map (·.1)->(mv r c).testBit i=c.testBit i
 | [],c,_,_=>⟨fun x hx=>by simp at hx,fun _ _=>rfl⟩
 | pq::r,c,nd,dj=>by
  rw[zC7,List.nodup_cons] at nd
  obtain⟨h1,h2⟩:=zek r c nd.2 fun x hx y hy=>dj x (zCT _ hx) y (zCT _ hy)
  have e2:(mv r c).testBit pq.2=c.testBit pq.2:=h2 _ fun h=>by
   obtain⟨y,hy,e⟩:=List.mem_map.mp h
   exact dj pq zC2 y (zCT _ hy) e.symm
  constructor
  ·intro x hx
   show(zO (mv r c) pq.1 ((mv r c).testBit pq.2)).testBit x.1=_
   rw[zV]
   rcases List.mem_cons.mp hx with z | z
   ·rw[z,if_pos rfl,e2]
   ·rw[if_neg (fun y=>nd.1 (by rw[<-y];exact List.mem_map.mpr ⟨x,z,rfl⟩))]
    exact h1 x z
  ·intro i hi
   show(zO (mv r c) pq.1 ((mv r c).testBit pq.2)).testBit i=_
   rw[zV,if_neg (fun y=>hi (by rw[zC7,y];exact zC2))]
   exact h2 i fun y=>hi (by rw[zC7];exact zCT _ y)
end Zk
namespace L2
open PySem PySem.Spec PyProof.Rows PySem.W
section
variable {X:Cx}
theorem ziD {K:Frag}(h:X.K=K):Qu X (binaryOp .Add) (zq9 K):=by subst h;exact QK
end
theorem zor {X:Cx}{c:Expr}{t:TT}{pins:List (Addr×Obj)}{s:Shared}{σ:St}{H:Hp}{Q:Bool->Hp->Prop}(I:Inv X pins σ H s)(h:t σ H Q)(hp:PT X c t):wpAny (model X.prog X.w) X.A (Z4 [c] X.env) (TP X pins σ Q) X.xe s:=wpAny_tests_one (hp pins s σ H Q I h)
end L2
namespace wK
open PySem L2
theorem Je (R:Row):∀n,(List.range n).map R∈allR n
 | 0=>by simp[allR]
 | n+1=>by
  rw[List.range_succ,zCW,List.map_singleton]
  refine List.mem_flatMap.mpr ⟨_,Je R n,?_⟩
  cases R n<;>simp
end wK
namespace Zk
open PySem L2 wK
def zqq (ks:List Nat):List V:=ks.map fun(n:Nat)=>V.int n
theorem R6 (x:Nat)(ks:List Nat):inV (.int (x:Nat)) (zqq ks)=decide (x∈ks):=by
 unfold zqq
 induction ks with
 | nil=>rfl
 | cons t r ih =>
  have e:inV (.int (x:Nat)) ((t::r).map fun(n:Nat)=>V.int n)=(((t:Int)==(x:Int))||inV (.int (x:Nat)) (r.map fun(n:Nat)=>V.int n)):=rfl
  rw[e,ih]
  by_cases h:t=x
  ·subst h;simp
  ·have h':¬x=t:=fun z=>h z.symm
   have h2:¬(t:Int)=(x:Int):=fun z=>h (Int.ofNat.inj z)
   simp[h2,h']
theorem UG (ks:List Nat):(zqq ks).all uO=true:=by
 unfold zqq
 rw[List.all_map,zDc]
 exact fun _ _=>rfl
theorem zos {x:List Bool}{j:Nat}{v:V}(h:(yd x)[j]?=some v):∃b,x[j]?=some b/\v=.int (b.toNat:Nat):=by
 unfold yd at h
 rw[zCK] at h
 cases hx:x[j]? with
 | none=>rw[hx] at h;cases h
 | some b=>rw[hx] at h;exact⟨b,rfl,(zDd h).symm⟩
theorem Mq (x:List Bool):(yd x).length=x.length:=zCI _
theorem zot {K:Frag}{H:Hp}{n:Nat}{p q:Addr}{x y:List Bool}(hp:zM K H p (yd x))(hq:zM K H q (yd y)):NP K H (n+1) (.ref p) (.ref q) (decide (x=y)):=by
 by_cases hl:x.length=y.length
 ·have z:=NP.ll (n:=n) (e:=fun j=>x[j]?==y[j]?) hp hq (by rw[Mq,Mq,hl]) fun j u v hu hv=>by
   obtain⟨b,hb,rfl⟩:=zos hu
   obtain⟨c,hc,rfl⟩:=zos hv
   rw[hb,hc]
   have:eqV (.int (b.toNat:Nat)) (.int (c.toNat:Nat))=(some b==some c):=by cases b<;>cases c<;>rfl
   rw[<-this]
   exact .flat rfl rfl
  have e:((List.range (yd x).length).all fun j=>x[j]?==y[j]?)=decide (x=y):=by
   rw[Mq]
   by_cases h:x=y
   ·subst h
    rw[decide_eq_true rfl,zDc]
    exact fun j _=>by simp
   ·rw[decide_eq_false h]
    cases hc:(List.range x.length).all fun j=>x[j]?==y[j]? with
    | false=>rfl
    | true =>
     exfalso
     rw[zDc] at hc
     refine h (List.ext_getElem? fun j=>?_)
     by_cases hj:j<x.length
     ·exact eq_of_beq (hc j (List.mem_range.mpr hj))
     ·rw[zDi (by omega),zDi (by omega)]
  rw[e] at z
  exact z
 ·rw[decide_eq_false (fun z=>hl (by rw[z]))]
  exact .ln hp hq (by rw[Mq,Mq];exact hl)
open Classical in
noncomputable def zaJ (H:Hp) (r:List Bool) (z:V):Bool:=decide (∃p,z=V.ref p/\H p=some (.lst (yd r)))
theorem zgz {H:Hp}{r:List Bool}{z:V}:zaJ H r z=true↔∃p,z=V.ref p/\H p=some (.lst (yd r)):=by
 unfold zaJ
 exact @decide_eq_true_iff _ (Classical.propDecidable _)
theorem zel {H:Hp}{r x:List Bool}{p:Addr}(h:H p=some (.lst (yd x))):zaJ H r (.ref p)=decide (x=r):=by
 by_cases e:x=r
 ·rw[decide_eq_true e]
  exact zgz.mpr ⟨p,rfl,e ▸ h⟩
 ·rw[decide_eq_false e]
  cases hc:zaJ H r (.ref p) with
  | false=>rfl
  | true =>
   exfalso
   obtain⟨q,hq,h2⟩:=zgz.mp hc
   cases hq
   rw[h] at h2
   injection h2 with h2
   injection h2 with h2
   exact e (zop h2)
end Zk
namespace L2
open PySem PySem.Spec PyProof.Rows
section
variable {prog:Program}{w:World}{κ:Type}[DecidableEq κ]{knd:KeyKind prog w κ}{A:Around}{E:Value->Shared->Prop}{s:Shared}
theorem zou {a:Addr}{Q:Option Obj->Shared->Prop}(h:Q (s.heap.get? a) s):wpAny (model prog w) A (loadIfAlive a) Q E s:=fun _ _ _=>h
end
theorem zhc {α β:Type}{R:α->β->Prop}:∀{xs:List α} {ys:List β},xs.length=ys.length->(∀(j:Nat) x y,xs[j]?=some x->ys[j]?=some y->R x y)->Paired R xs ys
 | [],[],_,_=>.nil
 | [],_::_,e,_=>by cases e
 | _::_,[],e,_=>by cases e
 | x::xs,y::ys,e,h=>.cons (h 0 x y rfl rfl) (zhc (Nat.succ.inj e) fun j a b h1 h2=>h (j+1) a b h1 h2)
end L2
namespace PySem
open Sem (wp)
theorem zbC:isSubtype (.type "AttributeError") (.type "AttributeError")=pure true:=by rw[isSubtype_type];kernel_rfl
theorem zmM (v:Value):ownMembersOf (Value.type "AttributeError") [v]=#[unsetMember,unsetMember]:=rfl
theorem zmN:((Manifest.find? "AttributeError").elim false fun t=>t.mro.contains "StopIteration" || t.mro.contains "SystemExit")=false:=by
 rw[find?_eq_fast];kernel_rfl
section
variable {prog:Program}{w:World}{A:Around}{E:Value->Shared->Prop}{h:Heap}{g:Array GenState}{d:Drawn}{t:Nat}{os:OsState}{a:Addr}{its:Array Value}{n:Nat}{sl:Array (Option Value)}
theorem zj9 {α:Type}{o:Value}{name msg:Str}{Q:α->Shared->Prop}(hh:A.handled=none)(zm:msg.length<=sizeLine)(zn:name.length<=sizeLine)
  (hE:∀e h' t',(∀b o,h.get? b=some o->h'.get? b=some o)->Shared.TypeIs ⟨h',g,d,t',os⟩ (.ref e) "AttributeError" -> E (.ref e) ⟨h',g,d,t',os⟩) :
  wpAny (model prog w) A (raiseAttrError o name msg) Q E ⟨h,g,d,t,os⟩:=by
 unfold raiseAttrError
 refine wpAny_bind (wpAny_mkStr ?_ zm)
 refine wpAny_bind ?_
 simp only[newExc,newTuple]
 refine wpAny_bind (wpAny_newObj_type ?_ (by size_fits))
 refine wpAny_bind (m:=firstArgMember _ _) (wpAny_of_eq (a:=Value.none) (by simp only[firstArgMember,zmN];rfl) ?_)
 rw[zmM]
 refine wpAny_newObj_type ?_ (by size_fits)
 dsimp only
 have kp:∀b o,h.get? b=some o->((h.push { cls:=.type "tuple", data:=.seq #[Value.str msg t] }).push { cls:=.type "AttributeError", data:=.fields (#[.ref h.objs.size,.none,.none,.none,.bool false,.none] ++ #[unsetMember,unsetMember]) }).get? b=some o:=fun b o e=>zCO _ (zCO _ e)
 have ex:((h.push { cls:=.type "tuple", data:=.seq #[Value.str msg t] }).push { cls:=.type "AttributeError", data:=.fields (#[.ref h.objs.size,.none,.none,.none,.bool false,.none] ++ #[unsetMember,unsetMember]) }).get? (h.push { cls:=.type "tuple", data:=.seq #[Value.str msg t] }).objs.size=some { cls:=.type "AttributeError", data:=.fields (#[.ref h.objs.size,.none,.none,.none,.bool false,.none] ++ #[unsetMember,unsetMember]) }:=zC3 _ rfl
 have lt:∀b o,h.get? b=some o->b≠(h.push { cls:=.type "tuple", data:=.seq #[Value.str msg t] }).objs.size:=fun b o e=>zCX (zCR (zCP e) (by rw[Heap.size_push];exact Nat.le_succ _))
 generalize hs:(h.push { cls:=.type "tuple", data:=.seq #[Value.str msg t] }).objs.size=e at ex lt
 generalize ((h.push { cls:=.type "tuple", data:=.seq #[Value.str msg t] }).push { cls:=.type "AttributeError", data:=.fields (#[.ref h.objs.size,.none,.none,.none,.bool false,.none] ++ #[unsetMember,unsetMember]) })=h2 at kp ex
 refine wpAny_bind (wpAny_mkText ?_)
 have ty:Shared.TypeIs ⟨h2,g,d,t+1+1,os⟩ (.ref e) "AttributeError" := ⟨_,ex,rfl⟩
 refine wpAny_bind ?_
 unfold noteAttr lacksNameAndObj
 refine wpAny_bind (wpAny_bind (wpAny_isInstance ty zbC (wpAny_bind (wpAny_load ex (wpAny_pure ?_)))))
 refine wpAny_bind (wpAny_rule (wpAny_bind (wpAny_typeOf ty ?_)))
 show wpAny _ _ (layMembers e 6 #[Value.str name (t+1),o]) _ _ _
 unfold layMembers
 refine wpAny_bind (wpAny_load ex (wpAny_update ex ?_))
 have ex3:=Heap.get?_update_self (Obj.mapFields fun vs=>vs.extract 0 6 ++ #[Value.str name (t+1),o]) ex rfl
 have kp3:∀b o',h.get? b=some o'->(h2.update e (Obj.mapFields fun vs=>vs.extract 0 6 ++ #[Value.str name (t+1),o])).get? b=some o':=fun b o' z=>(Heap.get?_update_other _ _ (Ne.symm (lt b o' z))).trans (kp b o' z)
 simp only[raiseNew]
 refine wpAny_bind (wpAny_handled ?_)
 rw[hh]
 refine wpAny_bind (wpAny_pure (wpAny_throw ?_))
 exact hE e _ _ kp3 ⟨_,ex3,rfl⟩
end
theorem Mr:entryFor table "dict.update.loop"=some Builtin.«dict.update.loop»:=entryFor_of_tree (by kernel_rfl)
theorem Xr:plainId "dict.update.loop"=true:=by decide +kernel
end PySem
namespace L2
open PySem PySem.Spec PyProof.Rows
theorem zqr:bootBuiltins "dict"=some (.type "dict"):=by decide +kernel
section
variable {X:Cx}
theorem zqs:Qu X (compareOp .IsNot) (fun x y H Q=>∃a b,x=.bl a/\y=.bl b/\Q (.bl (a != b)) H):=by
 intro pins s σ H x y v u Q I rx ry h
 obtain⟨a,b,rfl,rfl,q⟩:=h
 cases rx
 cases ry
 refine wpAny_pure (xR I q ?_)
 cases a<;>cases b<;>rfl
def zvG:V->Option Int->Option Int->Hp->VK->Prop:=fun x lo hi H Q=>∃z:Str,x=.str z/\z.length<=sizeLine/\Q (.str (Txt.slice z lo hi)) H
theorem zr4:SlR X zvG:=by
 intro pins s σ H x v vl vu lo hi sl Q I rx hs pl pu h
 obtain⟨z,rfl,hz,q⟩:=h
 obtain⟨t,rfl⟩:=rx
 refine⟨"str", _,PySem.F.slot_str_getitem.lookup,typeIs_str _ _ _,?_⟩
 have fin:∀(t':Tok) (k:Nat),EP X pins σ Q (.str (Txt.slice z lo hi) t') { s with toks:=k }:=fun t' k=>⟨.str (Txt.slice z lo hi),H,I.tok _,⟨t',rfl⟩,q⟩
 cases pl with
 | none=>cases pu with
  | none=>exact wpAny_getItem_str_slice (l:=none) (u:=none) (st:=none) hs rfl (post_val_or_str ⟨zC4 (Txt.slice_le z _ _) hz,fin⟩)
  | int j uj=>exact wpAny_getItem_str_slice (l:=none) (u:=some (j,uj)) (st:=none) hs rfl (post_val_or_str ⟨zC4 (Txt.slice_le z _ _) hz,fin⟩)
 | int i ui=>cases pu with
  | none=>exact wpAny_getItem_str_slice (l:=some (i,ui)) (u:=none) (st:=none) hs rfl (post_val_or_str ⟨zC4 (Txt.slice_le z _ _) hz,fin⟩)
  | int j uj=>exact wpAny_getItem_str_slice (l:=some (i,ui)) (u:=some (j,uj)) (st:=none) hs rfl (post_val_or_str ⟨zC4 (Txt.slice_le z _ _) hz,fin⟩)
def zqt:V->List V->Hp->VK->Prop:=fun x vs H Q=>∃(y z:Str) (i:Nat) (rest:List Nat),x=.str y/\vs=[.str z]/\Builtin.Str.occurrences y z 0 y.length 1=i::rest/\Q (.int (i:Nat)) H
theorem zbD:MtM X "str.index" zqt:=by
 intro pins s σ H x vs v us Q I rx rv h
 obtain⟨y,z,i,rest,rfl,rfl,ho,q⟩:=h
 obtain⟨t,rfl⟩:=rx
 obtain⟨u,rfl,ru⟩:=rv.one
 obtain⟨t',rfl⟩:=ru
 exact SC.index ho ⟨.int (i:Nat),H,I.tok _,⟨_,rfl⟩,q⟩
end
section
variable {x:Str}{σ:St}{js:List Nat}{tt:TT}{te:TE}{H:Hp}{Qf:Addr->Hp->List V->Prop}
theorem zqu (Pv:Nat->List V->Hp->Prop)(h0:Pv 0 [] H)(hz:x.cps.size<=sizeLine)(hl:∀i ys H,Pv i ys H->ys.length<=i)
  (hs:∀(i:Nat) c ys H',x.cps[i]?=some c->Pv i ys H'->tt (Z1 σ js (some (.str ⟨#[c]⟩))) H' fun b H2=>if b=true then te (Z1 σ js (some (.str ⟨#[c]⟩))) H2 fun v H3=>Pv (i+1) (ys++[v]) H3 else Pv (i+1) ys H2)
  (mt:∀ σ H Q Q',(∀b H1,Q b H1->Q' b H1)->tt σ H Q->tt σ H Q')(me:∀ σ H Q Q',(∀v H1,Q v H1->Q' v H1)->te σ H Q->te σ H Q')
  (hd:∀ys H' p,Pv x.cps.size ys H'->H' p=none->Qf p H' ys) :
  ∃W:Nat->Nat->List V->Hp->Prop,(∃m,W 0 m [] H)/\∀i m ys H,W i m ys H ->
   ((Its x).stop i H/\∀p,H p=none->Qf p H ys) \/
   ((Its x).go i H/\ys.length<sizeLine/\∀v H',(Its x).JG i H v H'->tt (Z1 σ js (some v)) H' fun b H2 =>
    if b=true then te (Z1 σ js (some v)) H2 fun v H3=>∃m',m'<m/\W (i+1) m' (ys++[v]) H3 else ∃m',m'<m/\W (i+1) m' ys H2):=by
 refine⟨fun i m ys H'=>m=x.cps.size-i/\i<=x.cps.size/\Pv i ys H',⟨_,rfl,zC5 _,h0⟩,?_⟩
 rintro i m ys H1 ⟨rfl,hi,hp⟩
 by_cases hlt:i<x.cps.size
 ·have:=hl _ _ _ hp
  refine .inr ⟨hlt,by omega,fun v H' y=>?_⟩
  obtain⟨rfl,c,hc,rfl⟩:=y
  refine mt _ _ _ _ (fun b H2 h2=>?_) (hs i c ys _ hc hp)
  cases b with
  | true =>
   rw[if_pos rfl] at h2 ⊢
   exact me _ _ _ _ (fun v H3 h3=>⟨_,by omega,rfl,hlt,h3⟩) h2
  | false =>
   rw[if_neg zCM] at h2 ⊢
   exact⟨_,by omega,rfl,hlt,h2⟩
 ·have e:i=x.cps.size:=by omega
  subst e
  exact .inl ⟨rfl,fun p h=>hd ys H1 p hp h⟩
end
end L2
namespace Zk
open PySem L2 wK
def sg (c:Nat):Str:=⟨#[c]⟩
theorem zhd {a b:Nat}(h:sg a=sg b):a=b:=by
 have e:=congrArg (fun s:Str=>s.cps.toList) h
 have e:[a]=[b]:=e
 injection e
def xM (i:Nat):Str:=sg (97+i)
def uG (i:Nat):Str:=sg (101+i)
def nmS (is:List Nat):Str:=⟨(is.map fun i=>97+i).toArray⟩
theorem zka {is:List Nat}{k i:Nat}(h:is[k]?=some i):atI (nmS is).cps.toList (k:Int)=some (97+i):=by
 refine wk ?_
 show((is.map fun i=>97+i).toArray.toList)[k]?=_
 rw[zCK,h];rfl
theorem zaK (is:List Nat):(nmS is).length=is.length:=by
 show(is.map fun i=>97+i).toArray.size=_
 rw[zCS,zCI]
theorem JV {i:Nat}(h:i<4):∃rest,Builtin.Str.occurrences (Str.ofString "abcd") (sg (97+i)) 0 (Str.ofString "abcd").length 1=i::rest:=by
 match i,h with
 | 0,_=>exact⟨[],by decide +kernel⟩
 | 1,_=>exact⟨[],by decide +kernel⟩
 | 2,_=>exact⟨[],by decide +kernel⟩
 | 3,_=>exact⟨[],by decide +kernel⟩
theorem zhe {i:Nat}(h:i<4):atI (Str.ofString "efgh").cps.toList (i:Int)=some (101+i):=by
 match i,h with
 | 0,_=>decide +kernel
 | 1,_=>decide +kernel
 | 2,_=>decide +kernel
 | 3,_=>decide +kernel
theorem Ms {i:Nat}(h:i<4):prs[i]?=some (xM i,uG i):=by
 match i,h with
 | 0,_=>decide +kernel
 | 1,_=>decide +kernel
 | 2,_=>decide +kernel
 | 3,_=>decide +kernel
theorem zdD {p:Str×Str}(h:p∈prs):∃i,i<4/\p=(xM i,uG i):=by
 obtain⟨i,hi⟩:=List.getElem?_of_mem h
 have h4:i<4:=(zCL.mp hi).1
 rw[Ms h4] at hi
 exact⟨i,h4,(zDd hi).symm⟩
theorem zmO {i:Nat}(h:i<4):xM i∈Y9:=by
 match i,h with
 | 0,_=>decide +kernel
 | 1,_=>decide +kernel
 | 2,_=>decide +kernel
 | 3,_=>decide +kernel
theorem zmP {i:Nat}(h:i<4):uG i∈Y9:=by
 match i,h with
 | 0,_=>decide +kernel
 | 1,_=>decide +kernel
 | 2,_=>decide +kernel
 | 3,_=>decide +kernel
theorem Wx {i j:Nat}(h:i<4):xM i≠uG j:=fun e=>by have:=zhd e;omega
def Mks (is:List Nat)(os:List Str):Prop:=os.Nodup/\∀x,x∈os↔∃i∈is,x=xM i\/x=uG i
theorem Mks.has {is:List Nat}{os:List Str}(h:Mks is os)(h4:∀i∈is,i<4){j:Nat}(hj:j<4):(xM j∈os↔j∈is)/\(uG j∈os↔j∈is):=by
 refine⟨⟨fun z=>?_,fun z=>(h.2 _).mpr ⟨j,z,.inl rfl⟩⟩,⟨fun z=>?_,fun z=>(h.2 _).mpr ⟨j,z,.inr rfl⟩⟩⟩
 ·obtain⟨i,hi,e | e⟩:=(h.2 _).mp z
  ·have:=zhd e
   have:j=i:=by omega
   rw[this];exact hi
  ·exact absurd e (Wx hj)
 ·obtain⟨i,hi,e | e⟩:=(h.2 _).mp z
  ·exact absurd e.symm (Wx (h4 i hi))
  ·have:=zhd e
   have:j=i:=by omega
   rw[this];exact hi
theorem contains_iff {os:List Str}{x:Str}:os.contains x=decide (x∈os):=List.contains_eq_mem ..
theorem Mks.world {is:List Nat}{os:List Str}(h:Mks is os)(h4:∀i∈is,i<4)(ne:is≠[]):vH os/\yt os/\0<(yq os).length:=by
 obtain⟨i0,hi0⟩:∃i,i∈is:=by
  match is,ne with
  | a::r,_=>exact⟨a,zC2⟩
 have m0:xM i0∈os:=(h.2 _).mpr ⟨i0,hi0,.inl rfl⟩
 refine⟨⟨h.1,fun x hx=>?_,List.length_pos_of_mem m0⟩,fun p hp=>?_,?_⟩
 ·obtain⟨i,hi,e | e⟩:=(h.2 x).mp hx
  ·rw[e];exact zmO (h4 i hi)
  ·rw[e];exact zmP (h4 i hi)
 ·obtain⟨j,hj,rfl⟩:=zdD hp
  obtain⟨a,b⟩:=h.has h4 hj
  rw[contains_iff,contains_iff]
  exact decide_eq_decide.mpr (a.trans b.symm)
 ·refine List.length_pos_of_mem (a:=xM i0) ?_
  unfold yq
  exact List.mem_map.mpr ⟨(xM i0,uG i0),List.mem_filter.mpr ⟨zCN (Ms (h4 _ hi0)),by rw[contains_iff];exact decide_eq_true m0⟩,rfl⟩
theorem mem_mid {α:Type}{x y:α}{os:List α}{j:Nat}:x∈os.take j++y::os.drop j↔x=y\/x∈os:=by
 have e:List.Perm (os.take j++y::os.drop j) (y::os):=(List.perm_middle).trans (by rw[List.take_append_drop])
 rw[e.mem_iff,List.mem_cons]
theorem zgA {α:Type}{y:α}{os:List α}{j:Nat}(nd:os.Nodup)(h:y∉os):(os.take j++y::os.drop j).Nodup:=by
 refine List.perm_middle.nodup_iff.mpr (List.nodup_cons.mpr ⟨?_,?_⟩)
 ·rw[List.take_append_drop];exact h
 ·rw[List.take_append_drop];exact nd
theorem zlU {α:Type}{y:α}{os:List α}{j:Nat}:(os.take j++y::os.drop j).length=os.length+1:=by
 rw[zCQ,zCU,zC6,List.length_drop]
 omega
structure VB (os:List Str)(H:Hp)(s:Sn)(p:Addr):Prop where
 is_:RQ H s p
 Ub:s.Ub os
 ct:s.count<=200
 dp:s.depth<=24
theorem VB.mono {os:List Str}{H H':Hp}{s:Sn}{p:Addr}(h:VB os H s p)(t:yC H H'):VB os H' s p:=⟨h.is_.mono t,h.Ub,h.ct,h.dp⟩
theorem zqv {os ps:List Str}(h:∀x∈os,x∈ps):∀{s:Sn},s.Ub os->s.Ub ps:=fun {s} e=>(Sn.Ud s).mpr fun x hx=>h x ((Sn.Ud s).mp e x hx)
section
variable (K:Frag)
def zlV:Sp:=fun vs H Q _=>∃c:Int,vs=[.int c]/\∀(l:Addr) (H':Hp) (os:List Str),Same H H'->H' l=some (.lst (os.map V.str))->vH os->yt os->0<(yq os).length->Q (.ref l) H'
def Rk:Sp:=fun vs H Q _=>∃(ol:Addr) (os:List Str),vs=[.ref ol]/\zM K H ol (os.map V.str)/\∀(l:Addr) (H':Hp),Same H H'->H l=none->H' l=some (.lst ((yq os).map V.str))->Q (.ref l) H'
def zem:Sp:=fun vs H Q _=>∃(ol:Addr) (os:List Str),vs=[.ref ol]/\zM K H ol (os.map V.str)/\yt os/\∀(p:Addr) (H':Hp) (s:Sn),Same H H'->VB os H' s p->Q (.ref p) H'
def ziE:Sp:=fun vs H Q _=>∃(ol:Addr) (os:List Str) (c:Int),vs=[.ref ol,.int c]/\zM K H ol (os.map V.str)/\∀(p:Addr) (H':Hp) (s:Sn),Same H H'->VB (yq os) H' s p->Q (.ref p) H'
def zov:Sp:=fun vs H Q _=>∃(sc:Addr) (ns:List Int),vs=[.ref sc]/\zM K H sc (ns.map V.int)/\∀(t ol p:Addr) (H':Hp) (os:List Str) (s:Sn),Same H H'->H' t=some (.tup [.ref ol,.ref p])->H' ol=some (.lst (os.map V.str))->vH os->yt os->0<(yq os).length->VB os H' s p->Q (.ref t) H'
def zcP:Sp:=fun vs H Q _=>∃(sc ol:Addr) (ns:List Int) (t:Nat) (os:List Str),vs=[.ref sc,.int (t:Nat),.ref ol]/\zM K H sc (ns.map V.int)/\zM K H ol (os.map V.str)/\os.length<=8/\0<(yq os).length/\t<=40/\∀(p:Addr) (H':Hp) (s:Sn),Same H H'->VB (yq os) H' s p->Q (.ref p) H'
end
section
variable (os:List Str)(t:Nat->Bool)
def vJ (f:Nat->Bool):Nat->(Nat->Bool)×(Nat->Bool)
 | 0=>(f,fun _=>false)
 | i+1=>(fun b=>R5 os t (vJ f i).1 b&&!((vJ f i).2 b||(vJ f i).1 b),fun b=>(vJ f i).2 b||(vJ f i).1 b)
structure zqw (f:Nat->Bool)(Ns:List Nat):Prop where
 tab:∀(i N:Nat),Ns[i]?=some N->zX os.length N (vJ os t f i).1/\N≠0
 fin:zX os.length 0 (vJ os t f Ns.length).1
end
section
variable {os:List Str}{t:Nat->Bool}
theorem zbE (f:Nat->Bool)(i b:Nat)(h:(vJ os t f i).1 b=true):(vJ os t f i).2 b=false:=by
 cases i with
 | zero=>rfl
 | succ i =>
  have h:(R5 os t (vJ os t f i).1 b&&!((vJ os t f i).2 b||(vJ os t f i).1 b))=true:=h
  show((vJ os t f i).2 b||(vJ os t f i).1 b)=false
  cases e:((vJ os t f i).2 b||(vJ os t f i).1 b) with
  | false=>rfl
  | true=>rw[e,Bool.not_true,Bool.and_false] at h;cases h
theorem zhf {α:Type}{p q:α->Bool}:∀{l:List α},(∀a,p a=true->q a=true)->(∃a∈l,q a=true/\p a=false)->(l.filter p).length<(l.filter q).length
 | [],_,h=>by obtain⟨a,ha,_⟩:=h;cases ha
 | x::l,hpq,h=>by
  have le:(l.filter p).length<=(l.filter q).length:=by
   clear h
   induction l with
   | nil=>exact zCY _
   | cons y l ih =>
    rw[List.filter_cons,List.filter_cons]
    by_cases c:p y=true
    ·rw[if_pos c,if_pos (hpq y c),zCU,zCU];omega
    ·rw[if_neg c]
     split
     ·rw[zCU];omega
     ·exact ih
  rw[List.filter_cons,List.filter_cons]
  by_cases c:p x=true
  ·rw[if_pos c,if_pos (hpq x c),zCU,zCU]
   obtain⟨a,ha,h1,h2⟩:=h
   rcases List.mem_cons.mp ha with e | e
   ·rw[e,c] at h2;cases h2
   ·have:=zhf (l:=l) hpq ⟨a,e,h1,h2⟩
    omega
  ·rw[if_neg c]
   by_cases d:q x=true
   ·rw[if_pos d,zCU];omega
   ·rw[if_neg d]
    obtain⟨a,ha,h1,h2⟩:=h
    rcases List.mem_cons.mp ha with e | e
    ·rw[e] at h1;exact absurd h1 d
    ·exact zhf (l:=l) hpq ⟨a,e,h1,h2⟩
def zow (os:List Str)(t f:Nat->Bool)(i:Nat):Nat:=((List.range (2^os.length)).filter (vJ os t f i).2).length
theorem zlW (f:Nat->Bool)(i:Nat):zow os t f i<=2^os.length:=zC4 (zDh _ _) (by rw[zC0];exact zCY _)
theorem zqx {f:Nat->Bool}{i N:Nat}(h:zX os.length N (vJ os t f i).1)(ne:N≠0):zow os t f i<zow os t f (i+1):=by
 unfold zow
 refine zhf (fun a ha=>by show((vJ os t f i).2 a||(vJ os t f i).1 a)=true;rw[ha];rfl) ?_
 have hb:∃b,N.testBit b=true:=by
  refine Classical.byContradiction fun no=>ne (Nat.eq_of_testBit_eq fun b=>?_)
  rw[Nat.zero_testBit]
  cases e:N.testBit b with
  | false=>rfl
  | true=>exact absurd ⟨b,e⟩ no
 obtain⟨b,hb⟩:=hb
 have z:=h b
 rw[hb] at z
 have z1:b<2^os.length:=by
  by_cases c:b<2^os.length
  ·exact c
  ·rw[decide_eq_false c,Bool.false_and] at z;cases z
 rw[decide_eq_true z1,Bool.true_and] at z
 refine⟨b,List.mem_range.mpr z1,?_,zbE f i b z.symm⟩
 show((vJ os t f i).2 b||(vJ os t f i).1 b)=true
 rw[<-z,Bool.or_true]
theorem zox {n N M:Nat}{f g:Nat->Bool}(a:zX n N f)(b:zX n M g):zX n (N|||M) fun c=>f c||g c:=fun c=>by
 rw[Nat.testBit_or,a c,b c]
 cases decide (c<2^n)<;>rfl
theorem Xu {os:List Str}{x:Str}(h:x∈yq os):x∈os/\∃i,i<4/\x=xM i:=by
 refine⟨zei h,?_⟩
 obtain⟨p,hp,rfl⟩:=List.mem_map.mp h
 obtain⟨i,hi,rfl⟩:=zdD (List.mem_filter.mp hp).1
 exact⟨i,hi,rfl⟩
theorem zbF {os:List Str}{x:Str}(h:x∈Zm os):x∈os/\∃i,i<4/\x=uG i:=by
 refine⟨zbB h,?_⟩
 obtain⟨p,hp,rfl⟩:=List.mem_map.mp h
 obtain⟨i,hi,rfl⟩:=zdD (List.mem_filter.mp hp).1
 exact⟨i,hi,rfl⟩
theorem ix_inj' {os:List Str}{x y:Str}(hx:x∈os)(hy:y∈os)(e:ix os x=ix os y):x=y:=(zg4 hy hx).mp e
theorem zaL (os:List Str):(Zm os).Nodup:=by
 unfold Zm
 have e:(prs.map (·.2)).Nodup:=by decide +kernel
 exact List.Nodup.sublist (List.Sublist.map _ (List.filter_sublist)) e
theorem ziF {os:List Str}(ho:vH os):(zU os).Nodup:=by
 unfold zU
 refine List.pairwise_map.mpr ((zaL os).imp_of_mem fun {a b} ha hb ne e=>ne ?_)
 exact ix_inj' (zbF ha).1 (zbF hb).1 e
theorem tH {os:List Str}(ho:vH os){i j:Nat}(hi:i∈yg os)(hj:j∈zU os):i≠j:=fun e=>by
 obtain⟨x,hx,rfl⟩:=List.mem_map.mp hi
 obtain⟨y,hy,rfl⟩:=List.mem_map.mp hj
 obtain⟨h1,a,ha,rfl⟩:=Xu hx
 obtain⟨h2,b,hb,rfl⟩:=zbF hy
 exact Wx ha (ix_inj' h1 h2 e)
theorem ziG (ho:vH os)(hW:yt os)(f:Nat->Bool):∀p∈zU os,Free os.length (R5 os t f) p:=by
 intro p hp b hb v
 unfold R5
 rw[zaI,zaI]
 congr 1
 have e1:((zU os).zip (yg os)).map (·.1)=zU os:=List.map_fst_zip (by unfold zU yg;rw[zCI,zCI,hW.len];exact zCY _)
 have nd:(((zU os).zip (yg os)).map (·.1)).Nodup:=by rw[e1];exact ziF ho
 have ap:∀x∈(zU os).zip (yg os),∀y∈(zU os).zip (yg os),x.2≠y.1:=fun x hx y hy=>tH ho (zDl hx).2 (zDl hy).1
 obtain⟨a1,a2⟩:=zek _ (zO b p v) nd ap
 obtain⟨b1,b2⟩:=zek _ b nd ap
 refine QS fun i=>?_
 by_cases c:i∈((zU os).zip (yg os)).map (·.1)
 ·obtain⟨x,hx,rfl⟩:=List.mem_map.mp c
  rw[a1 x hx,b1 x hx,zV,if_neg]
  exact fun e=>tH ho (zDl hx).2 hp e
 ·rw[a2 i c,b2 i c,zV,if_neg]
  exact fun e=>c (by rw[e1,e];exact hp)
theorem Mt (ho:vH os)(hW:yt os){f:Nat->Bool}(hf:∀p∈zU os,Free os.length f p):∀i,∀p∈zU os,Free os.length (vJ os t f i).1 p/\Free os.length (vJ os t f i).2 p
 | 0,p,hp=>⟨hf p hp,fun _ _ _=>rfl⟩
 | i+1,p,hp=>by
  obtain⟨a,b⟩:=Mt ho hW hf i p hp
  refine⟨fun c hc v=>?_,fun c hc v=>?_⟩
  ·show(R5 os t (vJ os t f i).1 (zO c p v)&&!((vJ os t f i).2 (zO c p v)||(vJ os t f i).1 (zO c p v)))=_
   rw[ziG ho hW _ p hp c hc v,a c hc v,b c hc v]
   rfl
  ·show((vJ os t f i).2 (zO c p v)||(vJ os t f i).1 (zO c p v))=_
   rw[a c hc v,b c hc v]
   rfl
theorem zgB {rs:List Rm}(ho:vH os){j:Nat}{s:Sn}(hs:s.Ub (yq os))(m:Means rs j fun r=>s.val (zmH os r)):zaH os rs j:=⟨m.1,fun p hp b hb v=>by
 show yes rs j _=yes rs j _
 rw[m.2,m.2]
 refine Sn.val_congr s hs fun x hx=>?_
 show QG (zO b p v) (ix os x)=QG b (ix os x)
 unfold QG
 rw[zV,if_neg]
 exact fun e=>tH ho (List.mem_map_of_mem hx) hp e⟩
theorem zen {x:List Nat}{j:Nat}{v:V}(h:(zR x)[j]?=some v):∃b,x[j]?=some b/\v=.int (b:Nat):=by
 unfold zR at h
 rw[zCK] at h
 cases hx:x[j]? with
 | none=>rw[hx] at h;cases h
 | some b=>rw[hx] at h;exact⟨b,rfl,(zDd h).symm⟩
theorem Yz (x:List Nat):(zR x).length=x.length:=zCI _
theorem zeo {K:Frag}{H:Hp}{n:Nat}{p q:Addr}{x y:List Nat}(hp:zM K H p (zR x))(hq:zM K H q (zR y)):NP K H (n+1) (.ref p) (.ref q) (decide (x=y)):=by
 by_cases hl:x.length=y.length
 ·have z:=NP.ll (n:=n) (e:=fun j=>x[j]?==y[j]?) hp hq (by rw[Yz,Yz,hl]) fun j u v hu hv=>by
   obtain⟨b,hb,rfl⟩:=zen hu
   obtain⟨c,hc,rfl⟩:=zen hv
   rw[hb,hc]
   have:eqV (.int (b:Nat)) (.int (c:Nat))=(some b==some c):=by
    show(((b:Nat):Int)==((c:Nat):Int))=(some b==some c)
    by_cases e:b=c
    ·subst e;simp
    ·have e':¬((b:Nat):Int)=((c:Nat):Int):=by omega
     rw[beq_eq_false_iff_ne.mpr e',beq_eq_false_iff_ne.mpr (fun z=>e (zDd z))]
   rw[<-this]
   exact .flat rfl rfl
  have e:((List.range (zR x).length).all fun j=>x[j]?==y[j]?)=decide (x=y):=by
   rw[Yz]
   by_cases h:x=y
   ·subst h
    rw[decide_eq_true rfl,zDc]
    exact fun j _=>by simp
   ·rw[decide_eq_false h]
    cases hc:(List.range x.length).all fun j=>x[j]?==y[j]? with
    | false=>rfl
    | true =>
     exfalso
     refine h (List.ext_getElem? fun j=>?_)
     by_cases hj:j<x.length
     ·exact eq_of_beq (zDc.mp hc j (List.mem_range.mpr hj))
     ·rw[zDi (by omega),zDi (by omega)]
  rw[e] at z
  exact z
 ·rw[decide_eq_false fun e=>hl (by rw[e])]
  exact .ln hp hq (by rw[Yz,Yz];exact hl)
end
section
variable (C:Addr)(K:Frag)
def tB (rs:List Rm)(k:Nat):Nat->Bool:=fun b=>yes rs k (QG b)
def Jf:Sp:=fun vs H Q _=>∃(b:Addr) (os:List Str) (rs:List Rm) (F:uF) (k j:Nat),vs=[.ref b,.int (k:Nat),.int (j:Nat)]/\yD C H b os rs F/\yt os/\k<rs.length/\j<rs.length /\
 ∀(l:Addr) (H':Hp) (Ns:List Nat),Same H H'->H l=none->H' l=some (.lst (zR Ns))->zqw os (tB rs k) (tB rs j) Ns->Ns.length<=256->Q (.ref l) H'
end
theorem JT.rise {C:Addr}{H0:Hp}{b:Addr}{os:List Str}{m n:Nat}{H:Hp}{rs:List Rm}{F:uF}(h:JT C H0 b os m H rs F){H':Hp}{rs':List Rm}(aw:zqc F H H')(hB:yD C H' b os rs' F)(hh:hiN os.length rs'<=hiN os.length rs+n):JT C H0 b os (m+n) H' rs' F :=
 ⟨fun x o e=>aw x o (h.same _ _ e) fun z=>(by have:=h.away x z;rw[this] at e;cases e),h.away,hB,zC4 hh (Nat.add_le_add_right h.hi _)⟩
end Zk
namespace PySem
namespace F
theorem zkb:typeLookup (.type "list_reverseiterator") "__len__"=pure none:=by rw[typeLookup_type,builtinLookup_eq_fast];kernel_rfl
theorem zoy:typeLookup (.type "list_reverseiterator") "__length_hint__"=pure (some (.builtin "list_reverseiterator.__length_hint__")):=by rw[typeLookup_type,builtinLookup_eq_fast];kernel_rfl
end F
end PySem
namespace L2
open PySem PySem.W PySem.Spec PyProof.Rows PySem.Calls PyProof.V
section
variable {prog:Program}{w:World}{A:Around}{E:Value->Shared->Prop}{s:Shared}{r l:Addr}{items:Array Value}
theorem zoz {Q:Bool->Shared->Prop}(hT:s.TypeIs (.ref r) "list_reverseiterator")(h:Q false s):wpAny (model prog w) A (Builtin.List.listLengthHint (.ref r)) Q E s:=by
 unfold Builtin.List.listLengthHint
 refine wpAny_bind (wpAny_specialOf hT PySem.F.zkb ?_)
 refine wpAny_ite_split (fun hab=>absurd hab (by decide)) (fun _=>?_)
 refine wpAny_ite_split (fun hab=>absurd hab (by decide)) (fun _=>?_)
 refine wpAny_bind (wpAny_specialOf hT PySem.F.zoy ?_)
 generalize hid:("list_reverseiterator.__length_hint__" : String)=id0
 wp_delta
 rw[show splitId id0=some ("list_reverseiterator", "__length_hint__") from by subst hid;decide +kernel]
 subst hid
 refine wpAny_bind (wpAny_isInstance (T := "list_reverseiterator") (b:=true) hT (by rw[isSubtype_type];kernel_rfl) ?_)
 refine wpAny_ite_split (fun hab=>absurd hab (by decide)) (fun _=>?_)
 refine wpAny_ite_split (fun _=>?_) (fun hab=>absurd (by decide +kernel) hab)
 refine wpAny_ite_split (fun hab=>absurd hab (by decide +kernel)) (fun _=>?_)
 exact wpAny_pure h
theorem zkc {R:Result->Shared->Prop}(hh:A.handled=none)(hne:l≠r)(hit:s.heap.IsRevIter r l ((items.size:Int)-1))(hl:s.heap.IsList l items)(S:Addr)(hSr:S≠r)(hSl:S≠l)(res:Value)(c₀:Nat)(hS:s.heap.get? S=some { cls:=.type "list", data:=.seq #[] c₀ })
  (hR:∀h' tk acc' c',(∀b o,b≠S->b≠r->s.heap.get? b=some o->h'.get? b=some o)->h'.get? S=some { cls:=.type "list", dict:=none,data:=.seq acc' c',slots:=#[] }->ItemsOf (fun i v=>items[items.size-1-i]?=some v) acc' items.size->R (.ok (.ret res)) { s with heap:=h',toks:=tk })(hn:items.size<=sizeLine) :
  wpAny (model prog w) A.in1 (Builtin.List.listExtendWith (.ref S) (.ref r) res)
   (fun fin s'=>match fin with | .done f=>R (.ok f) s' | .again c'=>c'.quiet=true/\codeAny (model prog w) A c' R s') (fun e s'=>R (.error e) s') s:=by
 have hSf:S∉[r,l]:=by simp only[List.mem_cons,zC9,or_false,not_or];exact⟨hSr,hSl⟩
 have W:=Walks.listRev (prog:=prog) (w:=w) (A:=A.in1) hh r l hne items
 have st0:(0<=items.size/\s.heap.IsRevIter r l ((items.size:Int)-1-((0:Nat):Int))/\s.heap.IsList l items):=⟨zC5 _,by rw[show(items.size:Int)-1-((0:Nat):Int)=(items.size:Int)-1 by omega];exact hit,hl⟩
 unfold Builtin.List.listExtendWith
 refine wpAny_bind (wpAny_typeOf (T := "list_reverseiterator") hit.typeIs ?_)
 have h1:Builtin.List.listSameRef (.ref S) (.ref r)=false:=by simp[Builtin.List.listSameRef,hSr]
 have h2:(Value.type "list_reverseiterator" == Value.type "list")=false:=by decide
 have h3:(Value.type "list_reverseiterator" == Value.type "tuple")=false:=by decide
 simp only[h1,h2,h3,Bool.or_false,Bool.false_eq_true,if_false]
 refine wpAny_bind (wpAny_pyIter_revIter hit ?_)
 refine wpAny_bind (wpAny_holding (zoz hit.typeIs ?_))
 refine wpAny_ite_split (fun hab=>absurd hab zCM) (fun _=>wpAny_pure ⟨plainId_quiet PySem.F.plain_extend_loop _,?_⟩)
 refine codeAny_extend_loopS W.toS hn S hSf res items.size 0 _ #[] c₀ rfl (zC5 _) st0 hS (ItemsOf.nil _) fun s' acc' c' hm hS' hacc=>?_
 rw[Moved.eq_with hm]
 refine hR s'.heap s'.toks acc' c' (fun b o hb hbr e=>hm.heap b o (fun hmem=>?_) e) hS' hacc
 rcases List.mem_cons.mp hmem with e' | hmem
 ·exact hb e'
 ·exact hbr (List.mem_singleton.mp hmem)
theorem zoA {Q:Value->Shared->Prop}(hh:A.handled=none)(hne:l≠r)(hit:s.heap.IsRevIter r l ((items.size:Int)-1))(hl:s.heap.IsList l items)(hn:items.size<=sizeLine)
  (hQ:∀h' tk acc' c',(∀b o,b≠r->s.heap.get? b=some o->h'.get? b=some o)->h'.get? s.heap.objs.size=some { cls:=.type "list", dict:=none,data:=.seq acc' c',slots:=#[] }->ItemsOf (fun i v=>items[items.size-1-i]?=some v) acc' items.size->Q (.ref s.heap.objs.size) { s with heap:=h',toks:=tk }) :
  wpAny (model prog w) A (call (.type "list") [.ref r]) Q E s:=by
 refine callType_codes (Q₁:=fun obj s₁=>obj=.ref s.heap.objs.size/\s₁={ s with heap:=s.heap.push { cls:=.type "list", data:=.seq #[] } }) PySem.F.called_list (PySem.F.typeCall_list_1 _) PySem.F.entry_list_init
  (code_list_new _ ⟨rfl,rfl⟩) fun obj s₁ h₁=>?_
 obtain⟨rfl,rfl⟩:=h₁
 have hS:(s.heap.push { cls:=.type "list", data:=.seq #[] }).get? s.heap.objs.size=some { cls:=.type "list", data:=.seq #[] }:=zC3 _ rfl
 obtain⟨o1,ho1,_⟩:=id hit
 obtain⟨o2,ho2,_⟩:=id hl
 have lr:r<s.heap.objs.size:=zCP ho1
 have ll:l<s.heap.objs.size:=zCP ho2
 refine⟨⟨_,hS,rfl⟩,PySem.F.args_list_init_2 _ _,?_⟩
 show wpAny _ _ (do let old <-Builtin.List.listItems (.ref s.heap.objs.size);Builtin.List.listUpdate (.ref s.heap.objs.size) (fun _=>#[]);letGo old.toList.reverse;Builtin.List.listExtendWith (.ref s.heap.objs.size) (.ref r) .none) _ _ _
 refine wpAny_bind ?_
 unfold Builtin.List.listItems
 refine wpAny_bind (wpAny_seqItems hS rfl (wpAny_pure ?_))
 show wpAny _ _ (updateSeq s.heap.objs.size (fun _=>#[])>>=fun _=>letGo (#[]:Array Value).toList.reverse>>=fun _=>Builtin.List.listExtendWith (.ref s.heap.objs.size) (.ref r) .none) _ _ _
 refine wpAny_bind (wpAny_updateSeq hS rfl ?_)
 have hS₂:=Heap.get?_update_self (Obj.mapSeq (fun _=>(#[]:Array Value))) hS rfl
 have oth:∀b o,b≠s.heap.objs.size->s.heap.get? b=some o->((s.heap.push { cls:=.type "list", data:=.seq #[] }).update s.heap.objs.size (Obj.mapSeq (fun _=>(#[]:Array Value)))).get? b=some o :=
  fun b o hb e=>(Heap.get?_update_other _ _ (Ne.symm hb)).trans (zCO _ e)
 refine wpAny_bind (wpAny_letGo ?_)
 refine zkc (A:=A.in1) hh hne (hit.at fun o e=>oth r o (zCX lr) e) (hl.at fun o e=>oth l o (zCX ll) e) s.heap.objs.size (Nat.ne_of_gt lr) (Nat.ne_of_gt ll) .none _ hS₂ (fun h' tk acc' c' hk hS' hacc=>?_) hn
 exact⟨rfl,hQ h' tk acc' c' (fun b o hbr e=>hk b o (zCX (zCP e)) hbr (oth b o (zCX (zCP e)) e)) hS' hacc⟩
end
section
variable {X:Cx}
def ztH (K:Frag)(ta:TA):TE:=fun σ H Q=>ta σ H fun vs H1=>∃(a:Addr) (xs:List V),vs=[.ref a]/\zM K H1 a xs/\∀l,H1 l=none->Q (.ref l) (upd H1 l (.lst xs.reverse))
theorem zkd {e:Expr}{ta:TA}{p p2 pos pos2:Pos}(hc:X.calm=true)(hg:Gl X "list")(hm:X.mg "list"=none)(hg2:Gl X "reversed")(hm2:X.mg "reversed"=none)(ha:PA X [e] ta)
  (hs:starEach [e] X.env=[(false,eval e X.env)]:=by rfl)
  (hs2:starEach [.Call (.Name "reversed" p2) [e] [] pos2] X.env=[(false,eval (.Call (.Name "reversed" p2) [e] [] pos2) X.env)]:=by rfl) :
  PE X (.Call (.Name "list" p) [.Call (.Name "reversed" p2) [e] [] pos2] [] pos) (ztH X.K ta):=by
 intro pins s σ H Q I h
 refine wpAny_Call_Name_kw (U3 I hg hm Sw ?_ (by decide) (by decide))
 refine PyProof.Rows.callWith_type1 ?_ hs2 rfl
 rw[hs2]
 show wpAny _ _ (spliced ((false,eval (.Call (.Name "reversed" p2) [e] [] pos2) X.env)::[])) _ _ s
 refine Calls.spliced_cons ?_
 refine Call_ (U3 I hg2 hm2 (by rfl) (PyProof.Rows.callWith_type1 (ud (ha pos2 pins s σ H _ I h) fun us s1 ⟨vs,H1,I1,r1,q1⟩=>?_) hs rfl))
 obtain⟨a,xs,e1,hq,q⟩:=q1
 subst e1
 obtain⟨u,rfl,ru⟩:=vals1 r1
 cases ru
 obtain⟨its,rv,pl,hz⟩:=I1.list hq
 have hlen:=rv.length
 refine call_reversed_list pl.isList (Calls.spliced_nil ?_)
 obtain⟨oa,hoa,_⟩:=id pl.isList
 have la:a<s1.heap.objs.size:=zCP hoa
 have es:(s1.heap.push (revObj a ((its.toArray.size:Int)-1))).objs.size=s1.heap.objs.size+1:=Heap.size_push ..
 refine zoA (s:={ s1 with heap:=s1.heap.push (revObj a ((its.toArray.size:Int)-1)) }) (l:=a) (items:=its.toArray) (I1.ok.hd hc) (zCX la) ⟨_,zC3 _ rfl,rfl,rfl⟩ (pl.isList.at fun o e=>zCO _ e) (by rw[zCS];omega) fun h' tk acc c kp hD hacc=>?_
 have kk:∀b o,s1.heap.get? b=some o->h'.get? b=some o:=fun b o e=>kp b o (zCX (zCP e)) (zCO _ e)
 show EP X pins σ Q (.ref (s1.heap.push (revObj a ((its.toArray.size:Int)-1))).objs.size) { s1 with heap:=h',toks:=tk }
 rw[es] at hD ⊢
 refine⟨.ref (s1.heap.objs.size+1),_,I1.laid (t':=tk) (o:=.lst xs.reverse) kk (Nat.le_succ _) ?_,rfl,q _ (I1.hok.fresh (Nat.le_succ _))⟩
 refine⟨by rw[List.length_reverse];exact hz,acc.toList,c,?_,by simpa using hD⟩
 have hsz:acc.size=xs.length:=by rw[hacc.1,zCS];omega
 refine zir (by rw[List.length_reverse];simp;omega) fun j v hv=>?_
 have hjl:j<xs.length:=by
  have:=(zCL.mp hv).1
  rw[Array.length_toList] at this
  omega
 have hx:=hacc.2 j v (by rw[<-Array.getElem?_toList];exact hv)
 rw[zCS,List.getElem?_toArray] at hx
 obtain⟨y,hy⟩:∃y,xs[xs.length-1-j]?=some y:=⟨_,zCJ (by omega)⟩
 obtain⟨u2,hu2,ru2⟩:=rv.get hy
 rw[<-hlen,hu2] at hx
 cases hx
 exact⟨y,by rw[List.getElem?_reverse hjl];exact hy,ru2⟩
end
end L2
namespace Zk
open PySem L2 wK
section
variable {os:List Str}
theorem zhg (t f:Nat->Bool)(b:Nat):R5 os t f b=true↔∃d,(∀i,i∉yg os->d.testBit i=(mv ((zU os).zip (yg os)) b).testBit i)/\f d=true/\t d=true:=by
 unfold R5
 rw[zaI,zej]
 simp only[zDa]
theorem zlX (t f:Nat->Bool)(b:Nat):zj8 os t f b=true↔∃e,(∀i,i∉zU os->e.testBit i=b.testBit i)/\f (mv ((yg os).zip (zU os)) e)=true/\t e=true:=by
 unfold zj8
 rw[zej]
 simp only[zDa,zaI]
theorem zaM {n b:Nat}(h:∀i,n<=i->b.testBit i=false):b<2^n:=Nat.lt_pow_two_of_testBit b h
theorem wu {n b i:Nat}(h:b<2^n)(hi:n<=i):b.testBit i=false:=Nat.testBit_lt_two_pow (zCR h (zDe (by decide) hi))
theorem free_eq {n:Nat}:∀(ps:List Nat) {f:Nat->Bool},(∀p∈ps,p<n/\Free n f p)->∀{b c:Nat},b<2^n->c<2^n->(∀i,i∉ps->b.testBit i=c.testBit i)->f b=f c
 | [],f,_,b,c,_,_,h=>by rw[QS fun i=>h i (by simp)]
 | p::ps,f,hf,b,c,hb,hc,h=>by
  obtain⟨pn,fr⟩:=hf p zC2
  rw[<-fr b hb (c.testBit p)]
  refine free_eq ps (fun q hq=>hf q (zCT _ hq)) (xg hb pn) hc fun i hi=>?_
  rw[zV]
  by_cases e:i=p
  ·rw[if_pos e,e]
  ·rw[if_neg e];exact h i fun y=>(List.mem_cons.mp y).elim e hi
section
variable (ho:vH os)(hW:yt os)
include ho hW
theorem zhh:(yq os).Nodup:=by
 have e:(prs.map (·.1)).Nodup:=by decide +kernel
 exact List.Nodup.sublist (List.Sublist.map _ (List.filter_sublist)) e
theorem zhi:(yg os).Nodup:=by
 unfold yg
 refine List.pairwise_map.mpr ((zhh ho hW).imp_of_mem fun {a b} ha hb ne e=>ne ?_)
 exact ix_inj' (Xu ha).1 (Xu hb).1 e
theorem mvT (b:Nat):(∀x∈(zU os).zip (yg os),(mv ((zU os).zip (yg os)) b).testBit x.1=b.testBit x.2)/\∀i,i∉zU os->(mv ((zU os).zip (yg os)) b).testBit i=b.testBit i:=by
 have e1:((zU os).zip (yg os)).map (·.1)=zU os:=List.map_fst_zip (by unfold zU yg;rw[zCI,zCI,hW.len];exact zCY _)
 have z:=zek ((zU os).zip (yg os)) b (by rw[e1];exact ziF ho) fun x hx y hy=>tH ho (zDl hx).2 (zDl hy).1
 rw[e1] at z
 exact z
theorem mvN (b:Nat):(∀x∈(yg os).zip (zU os),(mv ((yg os).zip (zU os)) b).testBit x.1=b.testBit x.2)/\∀i,i∉yg os->(mv ((yg os).zip (zU os)) b).testBit i=b.testBit i:=by
 have e1:((yg os).zip (zU os)).map (·.1)=yg os:=List.map_fst_zip (by unfold zU yg;rw[zCI,zCI,hW.len];exact zCY _)
 have z:=zek ((yg os).zip (zU os)) b (by rw[e1];exact zhi ho hW) fun x hx y hy=>Ne.symm (tH ho (zDl hy).1 (zDl hx).2)
 rw[e1] at z
 exact z
theorem ziH {i:Nat}(h:i∈zU os):∃j,(i,j)∈(zU os).zip (yg os):=by
 obtain⟨m,hm,e⟩:=List.mem_iff_getElem.mp h
 have l:m<(yg os).length:=by
  have:(yg os).length=(zU os).length:=by unfold zU yg;rw[zCI,zCI,hW.len]
  omega
 refine⟨(yg os)[m],List.mem_iff_getElem.mpr ⟨m,by rw[List.length_zip];omega,?_⟩⟩
 rw[List.getElem_zip,e]
theorem zqy {i:Nat}(h:i∈yg os):∃j,(i,j)∈(yg os).zip (zU os):=by
 obtain⟨m,hm,e⟩:=List.mem_iff_getElem.mp h
 have l:m<(zU os).length:=by
  have:(yg os).length=(zU os).length:=by unfold zU yg;rw[zCI,zCI,hW.len]
  omega
 refine⟨(zU os)[m],List.mem_iff_getElem.mpr ⟨m,by rw[List.length_zip];omega,?_⟩⟩
 rw[List.getElem_zip,e]
theorem ziI {i j:Nat}:(i,j)∈(zU os).zip (yg os)↔(j,i)∈(yg os).zip (zU os):=by
 constructor
 ·intro h
  obtain⟨m,hm,e⟩:=List.mem_iff_getElem.mp h
  rw[List.length_zip] at hm
  rw[List.getElem_zip,Prod.mk.injEq] at e
  refine List.mem_iff_getElem.mpr ⟨m,by rw[List.length_zip];omega,?_⟩
  rw[List.getElem_zip,e.1,e.2]
 ·intro h
  obtain⟨m,hm,e⟩:=List.mem_iff_getElem.mp h
  rw[List.length_zip] at hm
  rw[List.getElem_zip,Prod.mk.injEq] at e
  refine List.mem_iff_getElem.mpr ⟨m,by rw[List.length_zip];omega,?_⟩
  rw[List.getElem_zip,e.1,e.2]
theorem zlY {t f g:Nat->Bool}(hf:∀p∈zU os,Free os.length f p)(hg:∀p∈zU os,Free os.length g p):(∃b,b<2^os.length/\R5 os t f b=true/\g b=true)↔∃b,b<2^os.length/\f b=true/\zj8 os t g b=true:=by
 have hf':∀p∈zU os,p<os.length/\Free os.length f p:=fun p hp=>⟨Yy p hp,hf p hp⟩
 have hg':∀p∈zU os,p<os.length/\Free os.length g p:=fun p hp=>⟨Yy p hp,hg p hp⟩
 constructor
 ·rintro⟨b,hb,ha,gb⟩
  obtain⟨d,h1,fd,td⟩:=(zhg _ _ _).mp ha
  obtain⟨m1,m2⟩:=mvT ho hW b
  obtain⟨k1,k2⟩:=mvN ho hW d
  have dl:d<2^os.length:=zaM fun i hi=>by
   have a1:i∉yg os:=fun z=>by have:=Xq i z;omega
   have a2:i∉zU os:=fun z=>by have:=Yy i z;omega
   rw[h1 i a1,m2 i a2];exact wu hb hi
  have ml:mv ((yg os).zip (zU os)) d<2^os.length:=zaM fun i hi=>by
   have a1:i∉yg os:=fun z=>by have:=Xq i z;omega
   rw[k2 i a1];exact wu dl hi
  refine⟨d,dl,fd,(zlX _ _ _).mpr ⟨d,fun _ _=>rfl,?_,td⟩⟩
  rw[free_eq (zU os) hg' ml hb fun i hi=>?_]
  ·exact gb
  by_cases c:i∈yg os
  ·obtain⟨j,hj⟩:=zqy ho hW c
   rw[k1 _ hj]
   have tj:=(zDl hj).2
   have nj:j∉yg os:=fun z=>tH ho z tj rfl
   show d.testBit j=b.testBit i
   rw[h1 j nj,m1 _ ((ziI ho hW).mpr hj)]
  ·rw[k2 i c,h1 i c,m2 i hi]
 ·rintro⟨c,hc,fc,hb⟩
  obtain⟨e,h1,ge,te⟩:=(zlX _ _ _).mp hb
  obtain⟨k1,k2⟩:=mvN ho hW e
  have el:e<2^os.length:=zaM fun i hi=>by
   have a2:i∉zU os:=fun z=>by have:=Yy i z;omega
   rw[h1 i a2];exact wu hc hi
  have ml:mv ((yg os).zip (zU os)) e<2^os.length:=zaM fun i hi=>by
   have a1:i∉yg os:=fun z=>by have:=Xq i z;omega
   rw[k2 i a1];exact wu el hi
  obtain⟨m1,m2⟩:=mvT ho hW (mv ((yg os).zip (zU os)) e)
  refine⟨_,ml,(zhg _ _ _).mpr ⟨e,fun i hi=>?_,?_,te⟩,ge⟩
  ·by_cases z:i∈zU os
   ·obtain⟨j,hj⟩:=ziH ho hW z
    rw[m1 _ hj]
    show e.testBit i=_
    rw[k1 _ ((ziI ho hW).mp hj)]
   ·rw[m2 i z,k2 i hi]
  ·rw[free_eq (zU os) hf' el hc h1];exact fc
end
variable {t:Nat->Bool}
theorem ziJ (f:Nat->Bool)(i b:Nat):(vJ os t f (i+1)).2 b=((vJ os t f i).2 b||(vJ os t f i).1 b):=rfl
theorem zdE {n N M:Nat}{f g:Nat->Bool}(a:zX n N f)(b:zX n M g):zX n (N&&&M) fun c=>f c&&g c:=fun c=>by
 rw[Nat.testBit_and,a c,b c]
 cases decide (c<2^n)<;>simp
end
end Zk
namespace L2
open PySem PySem.W PySem.Spec PyProof.Rows PySem.Calls PyProof.V
def Itv (K:Frag)(a:Addr)(n:Nat):It :=
 ⟨fun i H=>i<n/\∃xs,zM K H a xs/\xs.length=n,fun i H x H'=>H'=H/\∀xs,zM K H a xs->xs[n-1-i]?=some x,fun i H=>n<=i⟩
theorem zoB {P:Program}{w:World}{K:Frag}{tg:Expr}(a it:Addr)(n:Nat):Turn P w K tg (Itv K a n) [it] it (fun i h=>i<=n/\h.IsRevIter it a ((n:Int)-1-(i:Int))) where
 mem:=by simp
 obj:=fun i h st b hb=>by
  have e:b=it:=by simpa using hb
  subst e
  obtain⟨o,e,c,d⟩:=st.2
  exact⟨o,e,fun v z=>by rw[d] at z;cases z⟩
 keep:=fun i h h' st k=>⟨st.1,st.2.at fun o e=>k it (by simp) o e⟩
 item:=by
  intro X hP hw hK hc i pins s σ H E I hf st hg
  subst hP hw hK
  obtain⟨hi,xs,hq,hn⟩:=hg
  obtain⟨its,rv,p,hz⟩:=I.list hq
  have hx:xs[n-1-i]?=some (xs[n-1-i]'(by omega)):=zCJ (by omega)
  obtain⟨u,hu,ru⟩:=rv.get hx
  obtain⟨f0,f1,f2,f3,f4,f5⟩:=hf it (by simp)
  have e:(n:Int)-1-(i:Int)=((n-1-i:Nat):Int):=by omega
  have st2:=st.2
  rw[e] at st2
  refine wpAny_pyNext_rev_item st2 p.isList (x:=u) (by simpa using hu) fun h' st' sb=>?_
  have I1:Inv X pins σ H { s with heap:=h' }:=I.turned (t':=s.toks) (fun b o hb e=>(sb.2 b hb).trans e) f0 f1 f3 f4 f5
  have e2:((n-1-i:Nat):Int)-1=(n:Int)-1-((i+1:Nat):Int):=by omega
  rw[e2] at st'
  obtain⟨o,e,c,d⟩:=id st'
  exact⟨u,rfl,zib (s:={ s with heap:=h' }) e c d (by decide) ⟨_,H,I1,ru,⟨rfl,fun ys hy=>by rw[I.U4 hy hq];exact hx⟩,⟨hi,st'⟩,fun b hb=>(hf b hb).1⟩⟩
 done:=by
  intro X hP hw hK hc i pins s σ H E I hf st hg
  subst hP hw hK
  obtain⟨f0,f1,f2,f3,f4,f5⟩:=hf it (by simp)
  have hg:n<=i:=hg
  have e:(n:Int)-1-(i:Int)=-1:=by have:=st.1;omega
  have st2:=st.2
  rw[e] at st2
  exact wpAny_pyNext_rev_end (I.ok.hd hc) st2 fun h' eb=>⟨rfl,I.turned (t':=s.toks) (fun b o hb e=>eb b o hb e) f0 f1 f3 f4 f5⟩
 self:=fun _ _ _ _ _ st h=>wpAny_pyIter_revIter st.2 h
section
variable {X:Cx}{tg:Expr}
def zvI (K:Frag)(ta:TA):TI:=fun σ H R=>ta σ H fun vs H1=>∃(a:Addr) (xs:List V),vs=[.ref a]/\zM K H1 a xs/\R (Itv K a xs.length) H1
theorem zr5 {e:Expr}{ta:TA}{p pos:Pos}(hg:Gl X "reversed")(hm:X.mg "reversed"=none)(ha:PA X [e] ta)(hs:starEach [e] X.env=[(false,eval e X.env)]:=by rfl):PI X tg (.Call (.Name "reversed" p) [e] [] pos) (zvI X.K ta):=by
 intro pins s σ H R I h
 refine Call_ (U3 I hg hm (by rfl) (PyProof.Rows.callWith_type1 (ud (ha pos pins s σ H _ I h) fun us s1 ⟨vs,H1,I1,r1,q1⟩=>?_) hs rfl))
 obtain⟨a,xs,e1,hq,q⟩:=q1
 subst e1
 obtain⟨u,rfl,ru⟩:=vals1 r1
 cases ru
 obtain⟨its,rv,pl,hz⟩:=I1.list hq
 have hlen:=rv.length
 refine call_reversed_list pl.isList ?_
 have hit:(s1.heap.push (revObj a ((its.toArray.size:Int)-1))).IsRevIter s1.heap.objs.size a ((its.toArray.size:Int)-1):=⟨_,zC3 _ rfl,rfl,rfl⟩
 refine wpAny_pyIter_revIter (s:={ s1 with heap:=s1.heap.push (revObj a ((its.toArray.size:Int)-1)) }) hit ?_
 refine⟨s1.heap.objs.size,[s1.heap.objs.size],_,_,H1,rfl,I1.kept (t':=s1.toks) fun b o e=>zCO _ e,zoB a _ xs.length,⟨zC5 _,?_⟩,fun b hb=>?_,q⟩
 ·have e:((its.toArray.size:Nat):Int)-1=(xs.length:Int)-1-((0:Nat):Int):=by rw[zCS];omega
  show(s1.heap.push (revObj a ((its.toArray.size:Int)-1))).IsRevIter s1.heap.objs.size a ((xs.length:Int)-1-((0:Nat):Int))
  rw[<-e]
  exact hit
 ·have e:b=s1.heap.objs.size:=by simpa using hb
  subst e
  exact I1.zml (zCY _) (I1.hok.fresh (zCY _))
end
theorem zqz {K:Frag}{a:Addr}{xs:List V}{g:TG}{tb:TS}{D:Ends}{σ:St}{H:Hp}(Pv:Nat->St->Hp->Prop)(h0:Pv 0 σ H)(hl:∀i σ H,i<=xs.length->Pv i σ H->zM K H a xs)
  (hs:∀i x σ H,i<xs.length->xs[xs.length-1-i]?=some x->Pv i σ H->g x σ H fun σ2 H2=>tb { D with nx:=Pv (i+1),ct:=Pv (i+1),bk:=D.nx } σ2 H2)(hd:∀ σ H,Pv xs.length σ H->D.nx σ H) :
  ∃W:Nat->Nat->St->Hp->Prop,(∃m,W 0 m σ H)/\∀i m σ H,W i m σ H ->
   ((Itv K a xs.length).stop i H/\D.nx σ H)\/((Itv K a xs.length).go i H/\∃N:St->Hp->Prop,(∀ σ' H',N σ' H'->∃m',m'<m/\W (i+1) m' σ' H')/\∀x H',(Itv K a xs.length).JG i H x H'->g x σ H' fun σ2 H2=>tb { D with nx:=N,ct:=N,bk:=D.nx } σ2 H2):=by
 refine⟨fun i m σ H=>m=xs.length-i/\i<=xs.length/\Pv i σ H,⟨xs.length,by simp,zC5 _,h0⟩,?_⟩
 rintro i m σ H ⟨rfl,hi,p⟩
 have q:=hl i σ H hi p
 by_cases hlt:i<xs.length
 ·refine .inr ⟨⟨hlt,xs,q,rfl⟩,Pv (i+1),fun σ' H' p'=>⟨xs.length-(i+1),by omega,rfl,hlt,p'⟩,fun x H' y=>?_⟩
  obtain⟨e,y⟩:=y
  subst e
  exact hs i x σ _ hlt (y xs q) p
 ·have e:i=xs.length:=by omega
  subst e
  exact .inl ⟨zCY _,hd σ H p⟩
end L2
namespace Zk
open PySem L2 wK
def hav (l:List (Nat×Bool))(b:Nat):Bool:=l.all fun x=>b.testBit x.1==x.2
def K4 (os:List Str)(t:Nat->Bool):List (Nat->Bool)->List Bool->List (List Bool)
 | [],r=>[r]
 | f::fs,r=>r::K4 os t fs (fvP os.length (fun b=>f b&&zj8 os t (hav ((yg os).zip r)) b) (yg os))
theorem ziK (os:List Str)(t:Nat->Bool):∀(fs:List (Nat->Bool)) (r:List Bool),(K4 os t fs r).length=fs.length+1
 | [],_=>rfl
 | f::fs,r=>by
  show(K4 os t fs _).length+1=_
  rw[ziK os t fs];rfl
theorem zaN (n:Nat):∀(f:Nat->Bool) (ps:List Nat),(fvP n f ps).length=ps.length
 | _,[]=>rfl
 | f,p::ps=>by
  show(fvP n _ ps).length+1=_
  rw[zaN n _ ps];rfl
theorem zoC {α β:Type}{R:α->β->Prop}:∀{xs:List α} {ys:List β},Paired R xs ys->Paired R xs.reverse ys.reverse
 | _,_,.nil=>.nil
 | _,_,.cons h hs=>by
  rw[List.reverse_cons,List.reverse_cons]
  exact Wv (zoC hs) (.cons h .nil)
section
variable (C:Addr)(K:Frag)
def zaO:Sp:=fun vs H Q _=>∃(pl rl:Addr) (n:Nat) (ps:List Nat) (r:List Bool),vs=[.ref pl,.ref rl,.int (n:Nat)]/\n<=8/\zM K H pl (zR ps)/\zM K H rl (yd r)/\(∀p∈ps,p<n)/\ps.length=r.length/\ps.length<=8/\∀(R:Nat) (H':Hp),Same H H'->zX n R (hav (ps.zip r))->Q (.int (R:Nat)) H'
def zep:Sp:=fun vs H Q _=>∃(b:Addr) (os:List Str) (rs:List Rm) (F:uF) (N:Nat) (f:Nat->Bool),vs=[.ref b,.int (N:Nat)]/\yD C H b os rs F/\zX os.length N f/\∀(l:Addr) (H':Hp),Same H H'->H l=none->H' l=some (.lst (yd (fvP os.length f (yg os))))->Q (.ref l) H'
def zhj:Sp:=fun vs H Q _=>∃(b rl:Addr) (os:List Str) (rs:List Rm) (F:uF) (r:List Bool),vs=[.ref b,.ref rl]/\yD C H b os rs F/\zM K H rl (yd r)/\(yg os).length=r.length/\∀(R:Nat) (H':Hp),Same H H'->zX os.length R (hav ((yg os).zip r))->Q (.int (R:Nat)) H'
def JW (H:Hp)(p:Addr)(r:List Bool):Prop:=H p=some (.lst (yd r))
def zaP:Sp:=fun vs H Q _=>∃(b al:Addr) (os:List Str) (rs:List Rm) (F:uF) (k N:Nat) (Ns:List Nat) (f:Nat->Bool) (fs:List (Nat->Bool)),vs=[.ref b,.int (k:Nat),.ref al,.int (N:Nat)]/\yD C H b os rs F/\yt os/\k<rs.length/\zM K H al (zR Ns)/\Ns.length<=256/\Paired (zX os.length) Ns fs/\zX os.length N f /\
 ∀(l:Addr) (H':Hp) (qs:List Addr),Same H H'->H l=none->H' l=some (.lst (qs.map V.ref))->Paired (JW H') qs (K4 os (tB rs k) fs.reverse (fvP os.length f (yg os))).reverse->(∀x∈qs,H x=none)->Q (.ref l) H'
def Meet (os:List Str)(t f g:Nat->Bool)(i:Nat):Prop:=(∃b,b<2^os.length/\(vJ os t f i).1 b=true/\g b=true)/\∀j,j<i->∀b,b<2^os.length->(vJ os t f j).1 b=true->g b=false
def zlZ:Sp:=fun vs H Q _=>∃(b:Addr) (os:List Str) (rs:List Rm) (F:uF) (k i j:Nat),vs=[.ref b,.int (k:Nat),.int (i:Nat),.int (j:Nat)]/\yD C H b os rs F/\yt os/\k<rs.length/\zaH os rs i/\zaH os rs j /\
 (∀(H':Hp) (Ns:List Nat),Same H H'->zqw os (tB rs k) (tB rs i) Ns->(∀m,m<Ns.length->∀b,b<2^os.length->(vJ os (tB rs k) (tB rs i) m).1 b=true->tB rs j b=false)->Q .non H') /\
 ∀(l:Addr) (H':Hp) (qs:List Addr) (Ns:List Nat) (m:Nat),Same H H'->H l=none->H' l=some (.lst (qs.map V.ref))->zqw os (tB rs k) (tB rs i) Ns->m<Ns.length->Meet os (tB rs k) (tB rs i) (tB rs j) m ->
  Paired (JW H') qs (K4 os (tB rs k) ((List.range m).map fun d=>(vJ os (tB rs k) (tB rs i) d).1).reverse (fvP os.length (fun b=>(vJ os (tB rs k) (tB rs i) m).1 b&&tB rs j b) (yg os))).reverse->(∀x∈qs,H x=none)->Q (.ref l) H'
end
theorem zr6 {m:Nat}:(V.int (m:Nat)=V.int 0)↔m=0:=⟨fun e=>by injection e;omega,fun e=>by rw[e];rfl⟩
section
variable {os:List Str}{t f:Nat->Bool}
theorem zhk {x:Str}(h:x∈Y9):∃i,i<4/\(x=xM i\/x=uG i):=by
 have key:∀x∈Y9,(List.range 4).any (fun i=>decide (x=xM i)||decide (x=uG i))=true:=by decide +kernel
 obtain⟨i,hi,e⟩:=List.any_eq_true.mp (key x h)
 refine⟨i,List.mem_range.mp hi,?_⟩
 rcases (Bool.or_eq_true _ _).mp e with z | z
 ·exact .inl (of_decide_eq_true z)
 ·exact .inr (of_decide_eq_true z)
theorem JX (hW:yt os){i:Nat}(hi:i<4):xM i∈os↔uG i∈os:=by
 have h:=hW (xM i,uG i) (zCN (Ms hi))
 dsimp only at h
 rw[contains_iff,contains_iff] at h
 exact decide_eq_decide.mp h
theorem zl0 (hW:yt os):(zU os).zip (yg os)=(prs.filter fun p=>os.contains p.1).map fun p=>(ix os p.2,ix os p.1):=by
 have e:(prs.filter fun p=>os.contains p.2)=prs.filter fun p=>os.contains p.1:=List.filter_congr fun p hp=>by rw[hW p hp]
 unfold zU yg Zm yq
 rw[e,zDk,zDk,List.zip_map']
 rfl
theorem zr7 (hW:yt os){i:Nat}(hi:i<4)(h:xM i∈os):(ix os (uG i),ix os (xM i))∈(zU os).zip (yg os):=by
 rw[zl0 hW]
 refine List.mem_map.mpr ⟨(xM i,uG i),List.mem_filter.mpr ⟨zCN (Ms hi),?_⟩,rfl⟩
 show os.contains (xM i)=true
 rw[contains_iff];exact decide_eq_true h
theorem zr8 (hW:yt os){x y:Nat}(h:(x,y)∈(zU os).zip (yg os)):∃i,i<4/\xM i∈os/\x=ix os (uG i)/\y=ix os (xM i):=by
 rw[zl0 hW] at h
 obtain⟨p,hp,e⟩:=List.mem_map.mp h
 obtain⟨h1,h2⟩:=List.mem_filter.mp hp
 obtain⟨i,hi,rfl⟩:=zdD h1
 rw[Prod.mk.injEq] at e
 rw[contains_iff] at h2
 exact⟨i,hi,of_decide_eq_true h2,e.1.symm,e.2.symm⟩
theorem ziL (ho:vH os){i:Nat}(hi:i<os.length):i∈yg os\/i∈zU os:=by
 have hx:os[i]?=some os[i]:=zCJ hi
 have mx:os[i]∈os:=zDq hi
 have ei:=zgu ho.nd hx
 obtain⟨j,hj,e⟩:=zhk (ho.mem _ mx)
 rcases e with e | e
 ·left
  refine List.mem_map.mpr ⟨os[i],?_,ei⟩
  rw[e] at mx ⊢
  unfold yq
  refine List.mem_map.mpr ⟨(xM j,uG j),List.mem_filter.mpr ⟨zCN (Ms hj),?_⟩,rfl⟩
  show os.contains (xM j)=true
  rw[contains_iff];exact decide_eq_true mx
 ·right
  refine List.mem_map.mpr ⟨os[i],?_,ei⟩
  rw[e] at mx ⊢
  unfold Zm
  refine List.mem_map.mpr ⟨(xM j,uG j),List.mem_filter.mpr ⟨zCN (Ms hj),?_⟩,rfl⟩
  show os.contains (uG j)=true
  rw[contains_iff];exact decide_eq_true mx
theorem zqA (ho:vH os)(hW:yt os){b:Nat}(hb:b<2^os.length):R5 os t f b=true↔∃d,d<2^os.length/\(∀i,i<4->xM i∈os->d.testBit (ix os (uG i))=b.testBit (ix os (xM i)))/\f d=true/\t d=true:=by
 rw[zhg]
 obtain⟨m1,m2⟩:=mvT ho hW b
 constructor
 ·rintro⟨d,h1,fd,td⟩
  refine⟨d,zaM fun i hi=>?_,fun i hi hn=>?_,fd,td⟩
  ·have a1:i∉yg os:=fun z=>by have:=Xq i z;omega
   have a2:i∉zU os:=fun z=>by have:=Yy i z;omega
   rw[h1 i a1,m2 i a2];exact wu hb hi
  ·have z:=zr7 hW hi hn
   have tj:=(zDl z).1
   rw[h1 _ fun y=>tH ho y tj rfl]
   exact m1 _ z
 ·rintro⟨d,dl,h1,fd,td⟩
  refine⟨d,fun i hi=>?_,fd,td⟩
  by_cases c:i∈zU os
  ·obtain⟨j,hj⟩:=ziH ho hW c
   obtain⟨e,he,hn,rfl,rfl⟩:=zr8 hW hj
   rw[h1 e he hn]
   exact(m1 _ hj).symm
  ·rw[m2 i c]
   rcases Nat.lt_or_ge i os.length with z | z
   ·rcases ziL ho z with y | y
    ·exact absurd y hi
    ·exact absurd y c
   ·rw[wu dl z,wu hb z]
end
theorem zke {n:Nat}:∀(ps:List Nat) (f:Nat->Bool),ps.Nodup->(∀p∈ps,p<n)->(∃b,b<2^n/\f b=true)->∃b,b<2^n/\f b=true/\hav (ps.zip (fvP n f ps)) b=true
 | [],f,_,_,⟨b,hb,e⟩=>⟨b,hb,e,rfl⟩
 | p::ps,f,nd,hp,⟨b,hb,e⟩=>by
  rw[List.nodup_cons] at nd
  have pn:=hp p zC2
  have go:∀v,(!anyB n fun b=>f (zO b p false))=v->∃b,b<2^n/\f b=true/\hav ((p,v)::ps.zip (fvP n (fun b=>f (zO b p v)) ps)) b=true:=fun v hv=>by
   have ex:∃b,b<2^n/\f (zO b p v)=true:=by
    cases v with
    | false =>
     have z:(anyB n fun b=>f (zO b p false))=true:=by
      cases y:(anyB n fun b=>f (zO b p false)) with
      | true=>rfl
      | false=>rw[y] at hv;cases hv
     exact anyB_iff.mp z
    | true =>
     have z:(anyB n fun b=>f (zO b p false))=false:=by
      cases y:(anyB n fun b=>f (zO b p false)) with
      | false=>rfl
      | true=>rw[y] at hv;cases hv
     cases c:b.testBit p with
     | true =>
      have z2:=wK.xY b p
      rw[c] at z2
      exact⟨b,hb,by rw[z2];exact e⟩
     | false =>
      have y:=anyB_iff.mpr (⟨b,hb,by rw[<-c,wK.xY];exact e⟩:∃b,b<2^n/\f (zO b p false)=true)
      rw[z] at y
      cases y
   obtain⟨d,dl,fd,hd⟩:=zke ps (fun b=>f (zO b p v)) nd.2 (fun q hq=>hp q (zCT _ hq)) ex
   refine⟨zO d p v,xg dl pn,fd,?_⟩
   unfold hav
   rw[List.all_cons,zDa]
   constructor
   ·dsimp only
    rw[zV,if_pos rfl]
    exact beq_self_eq_true v
   ·rw[zDc]
    intro x hx
    have y:=zDc.mp hd x hx
    have xp:x.1≠p:=fun z=>nd.1 (by rw[<-z];exact(zDl hx).1)
    rw[zV,if_neg xp]
    exact y
  exact go _ rfl
section
variable (os:List Str)(t:Nat->Bool)
def zrc (r r':List Bool):Prop:=∃b,b<2^os.length/\R5 os t (hav ((yg os).zip r)) b=true/\hav ((yg os).zip r') b=true
def zhl:List (List Bool)->Prop
 | x::y::L=>zrc os t y x/\zhl (y::L)
 | _=>True
end
section
variable {os:List Str}{t f:Nat->Bool}
theorem zeq (ho:vH os)(r:List Bool):∀p∈zU os,Free os.length (hav ((yg os).zip r)) p:=fun p hp b _ v=>by
 unfold hav
 rw[zDp,zDc,zDc]
 have key:∀x∈(yg os).zip r,(zO b p v).testBit x.1=b.testBit x.1:=fun x hx=>by
  rw[zV,if_neg]
  exact tH ho (zDl hx).1 hp
 constructor<;>intro h x hx
 ·rw[<-key x hx];exact h x hx
 ·rw[key x hx];exact h x hx
theorem zgC (fs:List (Nat->Bool))(r:List Bool):∃L,K4 os t fs r=r::L:=by
 cases fs with
 | nil=>exact⟨_,rfl⟩
 | cons g fs=>exact⟨_,rfl⟩
theorem zoD (i b:Nat)(h:(vJ os t f (i+1)).1 b=true):R5 os t (vJ os t f i).1 b=true:=((zDa _ _).mp (show(R5 os t (vJ os t f i).1 b&&!((vJ os t f i).2 b||(vJ os t f i).1 b))=true from h)).1
theorem zl1 (ho:vH os)(hW:yt os)(hf:∀p∈zU os,Free os.length f p):∀(i:Nat) (r:List Bool),(∃b,b<2^os.length/\(vJ os t f i).1 b=true/\hav ((yg os).zip r) b=true) ->
  zhl os t (K4 os t ((List.range i).map fun d=>(vJ os t f d).1).reverse r)/\∃z,(K4 os t ((List.range i).map fun d=>(vJ os t f d).1).reverse r).getLast?=some z/\∃b,b<2^os.length/\f b=true/\hav ((yg os).zip z) b=true
 | 0,r,h=>⟨trivial,r,rfl,h⟩
 | i+1,r,⟨b,hb,h1,h2⟩=>by
  have fi:=fun p hp=>(Mt (t:=t) ho hW hf i p hp).1
  have fr:=zeq ho r
  obtain⟨c,hc,c1,c2⟩:=(zlY (t:=t) ho hW fi fr).mp ⟨b,hb,zoD i b h1,h2⟩
  obtain⟨d,hd,d1,d2⟩:=zke (yg os) (fun b=>(vJ os t f i).1 b&&zj8 os t (hav ((yg os).zip r)) b) (zhi ho hW) Xq ⟨c,hc,by rw[c1,c2];rfl⟩
  obtain⟨d3,d4⟩:=(zDa _ _).mp d1
  have e:((List.range (i+1)).map fun d=>(vJ os t f d).1).reverse=(vJ os t f i).1::((List.range i).map fun d=>(vJ os t f d).1).reverse:=by
   rw[List.range_succ,zCW,List.reverse_append]
   rfl
  rw[e]
  obtain⟨a1,z,a2,a3⟩:=zl1 ho hW hf i _ ⟨d,hd,d3,d2⟩
  obtain⟨L,eL⟩:=zgC (os:=os) (t:=t) ((List.range i).map fun d=>(vJ os t f d).1).reverse (fvP os.length (fun b=>(vJ os t f i).1 b&&zj8 os t (hav ((yg os).zip r)) b) (yg os))
  show zhl os t (r::K4 os t _ _)/\∃z,(r::K4 os t _ _).getLast?=some z/\_
  rw[eL] at a1 a2 ⊢
  refine⟨⟨?_,a1⟩,z,?_,a3⟩
  ·exact(zlY (t:=t) ho hW (zeq ho _) fr).mpr ⟨d,hd,d2,d4⟩
  ·rw[List.getLast?_cons_cons];exact a2
end
end Zk
namespace PySem
open Sem (wp)
theorem ziM:typeLookup (.type "zip") "keys"=pure none:=by rw[typeLookup_type,builtinLookup_eq_fast];kernel_rfl
theorem zkf:entryFor table "zip.__getattribute__"=some Builtin.«object.__getattribute__» :=
 entryFor_alias (id' := "object.__getattribute__") (by kernel_rfl) (by first | rfl | decide +kernel | (unfold String.splitOn;simp +decide [String.splitOnAux])) (by decide +kernel) (by kernel_rfl)
abbrev zkg (h:Heap)(z TI TO:Addr)(f0:Value)(fl:Bool):Prop :=
 h.get? z=some { cls:=.type "zip", dict:=none,data:=.fields #[f0,.bool fl,.bool false,.ref TI,.ref TO],slots:=#[] }
section
variable {prog:Program}{w:World}{A:Around}{E:Value->Shared->Prop}{h:Heap}{g:Array GenState}{d:Drawn}{t:Nat}{os:OsState}{a:Addr}{fs:Array Value}{sl:Array (Option Value)}
theorem zer (hh:A.handled=none){tk:Tok}{Q:Fin->Shared->Prop}(hx:h.get? a=some { cls:=.type "zip", dict:=none,data:=.fields fs,slots:=sl })
  (hE:∀e h' t',(∀b o,h.get? b=some o->h'.get? b=some o)->Shared.TypeIs ⟨h',g,d,t',os⟩ (.ref e) "AttributeError" -> E (.ref e) ⟨h',g,d,t',os⟩) :
  wpAny (model prog w) A (Builtin.«object.__getattribute__» ⟨[.ref a,.str "keys" tk],[]⟩) Q E ⟨h,g,d,t,os⟩:=by
 have hT:(⟨h,g,d,t,os⟩:Shared).TypeIs (.ref a) "zip" := ⟨_,hx,rfl⟩
 have f4:=ziM
 repeat (any_goals (first | assumption | wp_step))
 have em:(Manifest.find? "zip").elim "zip" (fun x=>x.tpName)="zip" := by rw[find?_eq_fast];kernel_rfl
 rw[em]
 exact zj9 hh (by decide +kernel) (by decide +kernel) hE
theorem zfw (hh:A.handled=none){tk:Tok}{R:Result->Shared->Prop}(hx:h.get? a=some { cls:=.type "zip", dict:=none,data:=.fields fs,slots:=sl })
  (hE:∀e h' t',(∀b o,h.get? b=some o->h'.get? b=some o)->Shared.TypeIs ⟨h',g,d,t',os⟩ (.ref e) "AttributeError" -> R (.error (.ref e)) ⟨h',g,d,t',os⟩) :
  codeAny (model prog w) A (.call (.builtin "zip.__getattribute__") ⟨[.ref a,.str "keys" tk],[]⟩) R ⟨h,g,d,t,os⟩ :=
 codeAny_call_builtin F.slot_zip_getattribute.plain zkf (F.slot_zip_getattribute.check _ _ _ _ _ _ _ _ (show(⟨h,g,d,t,os⟩:Shared).TypeIs (.ref a) "zip" from ⟨_,hx,rfl⟩) (F.args_zip_getattribute_2 _ _) (zer (A:=A.in1) hh hx hE))
theorem ziN (hh:A.handled=none){tk:Tok}{Q:Value->Shared->Prop}(hx:h.get? a=some { cls:=.type "zip", dict:=none,data:=.fields fs,slots:=sl })
  (hE:∀e h' t',(∀b o,h.get? b=some o->h'.get? b=some o)->Shared.TypeIs ⟨h',g,d,t',os⟩ (.ref e) "AttributeError" -> E (.ref e) ⟨h',g,d,t',os⟩):wpAny (model prog w) A (getAttrBy (.ref a) (.str "keys" tk) false) Q E ⟨h,g,d,t,os⟩:=by
 have hT:(⟨h,g,d,t,os⟩:Shared).TypeIs (.ref a) "zip" := ⟨_,hx,rfl⟩
 have f2:=F.slot_zip_getattribute.lookup
 have f3:=F.slot_zip_getattribute.bind (.ref a)
 repeat (any_goals (first | assumption | wp_step))
 refine zfw hh hx fun e h' t' k ty=>?_
 show wpAny _ _ (getattributeRaised (Value.ref a) (Value.str (Str.ofString "keys") tk) (Value.type "zip") (.ref e) none false false) _ _ _
 unfold getattributeRaised
 refine wpAny_bind (wpAny_isInstance ty zbC ?_)
 rw[if_pos rfl]
 have lk:hookBehind (.type "zip") none=pure none:=by
  unfold hookBehind
  rw[if_neg (by decide),typeLookup_type,builtinLookup_eq_fast]
  kernel_rfl
 rw[lk]
 refine wpAny_bind (wpAny_pure ?_)
 show wpAny _ _ (attributeErrorLeaves _ _ _ false false) _ _ _
 unfold attributeErrorLeaves
 exact wpAny_bind (wpAny_throw (hE e h' t' k ty))
theorem zfx (hh:A.handled=none){Q:Option Value->Shared->Prop}(hx:h.get? a=some { cls:=.type "zip", dict:=none,data:=.fields fs,slots:=sl })
  (hQ:∀h' t',(∀b o,h.get? b=some o->h'.get? b=some o)->Q none ⟨h',g,d,t',os⟩):wpAny (model prog w) A (getAttr? (.ref a) "keys") Q E ⟨h,g,d,t,os⟩:=by
 unfold getAttr? getAttrBy?
 refine wpAny_bind (wpAny_mkText ?_)
 refine wpAny_bind (wpAny_attempt (ziN hh hx fun e h' t' k ty=>?_))
 refine wpAny_bind (wpAny_isInstance ty zbC ?_)
 exact wpAny_pure (hQ h' t' k)
end
section
variable {prog:Program}{w:World}{A:Around}{E:Value->Shared->Prop}{s:Shared}
theorem ziO {z TI TO a0:Addr}{fl:Bool}{oA:Obj}(hz:zkg s.heap z TI TO (rawInt a0) fl)(hA:s.heap.get? a0=some oA):wpAny (model prog w) A (Builtin.SmallTypes.ownedTupleIsFree (.ref z)) (fun b s'=>b=false/\∃h0,s'={ s with heap:=h0 }/\zkg h0 z TI TO (rawInt a0) true/\Heap.SameBut z s.heap h0) E s:=by
 unfold Builtin.SmallTypes.ownedTupleIsFree
 refine wpAny_bind (wpAny_field hz rfl (x:=rawInt a0) rfl ?_)
 show wpAny _ _ (loadIfAlive ((a0:Nat):Int).toNat>>=_) _ _ _
 rw[zDm]
 refine wpAny_bind (L2.zou ?_)
 rw[hA]
 show wpAny _ _ (field (.ref z) 1>>=_) _ _ _
 refine wpAny_bind (wpAny_field hz rfl (x:=.bool fl) rfl ?_)
 cases fl with
 | true=>exact wpAny_pure ⟨rfl,_,rfl,hz,Heap.SameBut.refl ..⟩
 | false =>
  refine wpAny_bind (wpAny_setField_rec hz (by simp) fun h3 he3 hs3=>?_)
  exact wpAny_pure ⟨rfl,_,rfl,he3,hs3⟩
theorem zoE {z TI TO i1 i2 l1 l2 a0:Addr}{k1 k2:Nat}{xs ys:Array Value}{x y:Value}{fl:Bool}{oA:Obj}{Q:Option Value->Shared->Prop}(D:ZipApart z TI TO i1 i2 l1 l2)
  (hz:zkg s.heap z TI TO (rawInt a0) fl)(hA:s.heap.get? a0=some oA)(hTI:IsPair s.heap TI (.ref i1) (.ref i2))
  (h1:s.heap.IsListIter i1 l1 k1)(h2:s.heap.IsListIter i2 l2 k2)(hl1:s.heap.IsList l1 xs)(hl2:s.heap.IsList l2 ys)(hx:xs[k1]?=some x)(hy:ys[k2]?=some y)
  (hQ:∀h',zkg h' z TI TO (rawInt a0) true->h'.IsListIter i1 l1 (k1+1)->h'.IsListIter i2 l2 (k2+1)->IsPair h' s.heap.objs.size x y->h'.objs.size=s.heap.objs.size+1 ->
   (∀c o,c≠z->c≠i1->c≠i2->s.heap.get? c=some o->h'.get? c=some o)->Q (some (.ref s.heap.objs.size)) { s with heap:=h' }) :
  wpAny (model prog w) A (pyNext (.ref z)) Q E s:=by
 have hT:s.TypeIs (.ref z) "zip" := ⟨_,hz,rfl⟩
 unfold pyNext
 refine wpAny_bind (wpAny_attempt (wpAny_callSpecial?_slot (name:=Str.ofString "__next__") hT F.slot_zip_next
  (wpAny_call_entry F.slot_zip_next hT F.entry_zip_next ?_ (F.args_zip_next_1 _))))
 show wpAny _ _ (field (.ref z) 2>>=_) _ _ _
 refine wpAny_bind (wpAny_field hz rfl (x:=.bool false) rfl ?_)
 show wpAny _ _ (field (.ref z) 3>>=_) _ _ _
 refine wpAny_bind (wpAny_field hz rfl (x:=.ref TI) rfl ?_)
 refine wpAny_bind (wpAny_seqItems hTI rfl ?_)
 show wpAny _ _ (Builtin.SmallTypes.ownedTupleIsFree (.ref z)>>=_) _ _ _
 refine wpAny_bind (wpAny_mono (ziO hz hA) ?_ fun _ _ h=>h)
 rintro b s' ⟨rfl,h0,rfl,hz0,hs0⟩
 simp only[Bool.false_eq_true,if_false]
 rw[<-Array.forIn_toList]
 simp only[List.forIn_cons,List.forIn_nil]
 refine wpAny_bind (wpAny_bind (wpAny_bind (wpAny_holding ?_)))
 show wpAny _ _ (Builtin.SmallTypes.nextOf (.ref i1)>>=_) _ _ _
 refine wpAny_bind (wpAny_nextOf_list_item (h1.extBut hs0.extBut D.i1z) (hl1.extBut hs0.extBut D.l1z) hx fun h₂ h1₂ hs₂=>wpAny_pure (wpAny_pure ?_))
 refine wpAny_bind (wpAny_bind (wpAny_holding ?_))
 show wpAny _ _ (Builtin.SmallTypes.nextOf (.ref i2)>>=_) _ _ _
 refine wpAny_bind (wpAny_nextOf_list_item ((h2.extBut hs0.extBut D.i2z).extBut hs₂.extBut D.i12.symm) ((hl2.extBut hs0.extBut D.l2z).extBut hs₂.extBut D.l2i1) hy fun h₄ h2₄ hs₄=>wpAny_pure (wpAny_pure (wpAny_pure ?_)))
 refine wpAny_bind (wpAny_newTuple ?_ (by show 2<=sizeLine;decide))
 have hsz:h₄.objs.size=s.heap.objs.size:=by rw[hs₄.1,hs₂.1,hs0.1]
 have hz₄:zkg h₄ z TI TO (rawInt a0) true:=hs₄.extBut _ _ D.i2z.symm (hs₂.extBut _ _ D.i1z.symm hz0)
 refine wpAny_pure ⟨_,rfl,wpAny_pure ?_⟩
 rw[hsz]
 refine hQ _ (zCO _ hz₄) ((h1₂.extBut hs₄.extBut D.i12).at fun o e=>zCO _ e) (h2₄.at fun o e=>zCO _ e) ?_ (by rw[Heap.size_push,hsz]) fun c o c1 c2 c3 e=>zCO _ (hs₄.extBut _ _ c3 (hs₂.extBut _ _ c2 (hs0.extBut _ _ c1 e)))
 rw[<-hsz]
 exact zC3 _ rfl
theorem zoF {z TI TO i1 i2 l1 l2 a0:Addr}{k1:Nat}{xs:Array Value}{fl:Bool}{oA:Obj}{Q:Option Value->Shared->Prop}(hh:A.handled=none)(D:ZipApart z TI TO i1 i2 l1 l2)
  (hz:zkg s.heap z TI TO (rawInt a0) fl)(hA:s.heap.get? a0=some oA)(hTI:IsPair s.heap TI (.ref i1) (.ref i2))
  (h1:s.heap.IsListIter i1 l1 k1)(hl1:s.heap.IsList l1 xs)(hx:xs[k1]?=none)
  (hQ:∀h',(∀c o,c≠z->c≠i1->s.heap.get? c=some o->h'.get? c=some o)->Q none { s with heap:=h' }) :
  wpAny (model prog w) A (pyNext (.ref z)) Q E s:=by
 have hT:s.TypeIs (.ref z) "zip" := ⟨_,hz,rfl⟩
 unfold pyNext
 refine wpAny_bind (wpAny_attempt (wpAny_callSpecial?_slot (name:=Str.ofString "__next__") hT F.slot_zip_next
  (wpAny_call_entry F.slot_zip_next hT F.entry_zip_next ?_ (F.args_zip_next_1 _))))
 show wpAny _ _ (field (.ref z) 2>>=_) _ _ _
 refine wpAny_bind (wpAny_field hz rfl (x:=.bool false) rfl ?_)
 show wpAny _ _ (field (.ref z) 3>>=_) _ _ _
 refine wpAny_bind (wpAny_field hz rfl (x:=.ref TI) rfl ?_)
 refine wpAny_bind (wpAny_seqItems hTI rfl ?_)
 show wpAny _ _ (Builtin.SmallTypes.ownedTupleIsFree (.ref z)>>=_) _ _ _
 refine wpAny_bind (wpAny_mono (ziO hz hA) ?_ fun _ _ h=>h)
 rintro b s' ⟨rfl,h0,rfl,hz0,hs0⟩
 simp only[Bool.false_eq_true,if_false]
 rw[<-Array.forIn_toList]
 simp only[List.forIn_cons,List.forIn_nil]
 refine wpAny_bind (wpAny_bind (wpAny_bind (wpAny_holding ?_)))
 show wpAny _ _ (Builtin.SmallTypes.nextOf (.ref i1)>>=_) _ _ _
 refine wpAny_bind (wpAny_nextOf_list_end hh (h1.extBut hs0.extBut D.i1z) (hl1.extBut hs0.extBut D.l1z) hx fun h₂ e hs₂ he=>?_)
 obtain⟨o,ho,hc⟩:=he
 refine wpAny_bind (wpAny_isInstance (T := "StopIteration") (b:=true) ⟨o,ho,hc⟩ isSubtype_stop ?_)
 exact wpAny_pure (hQ _ fun c o c1 c2 e=>hs₂ _ _ c2 (hs0.extBut _ _ c1 e))
end
section
variable {prog:Program}{w:World}{κ:Type}[DecidableEq κ]{knd:KeyKind prog w κ}{A:Around}{E:Value->Shared->Prop}
def zr9 (h:Heap)(z TI TO i1 i2 D:Addr)(i:Nat):Prop:=(i=0/\IsZip h z TI TO .none)\/∃(a0:Addr) (fl:Bool) (oA:Obj),0<i/\zkg h z TI TO (rawInt a0) fl/\h.get? a0=some oA/\a0≠z/\a0≠i1/\a0≠i2/\a0≠D
theorem zmQ {s:Shared}{z TI TO i1 i2 l1 l2 D:Addr}{i:Nat}{xs ys:Array Value}{x y:Value}{Q:Option Value->Shared->Prop}(AP:ZipApart z TI TO i1 i2 l1 l2)(hZ:zr9 s.heap z TI TO i1 i2 D i)(hTI:IsPair s.heap TI (.ref i1) (.ref i2))(hTO:∃u v,IsPair s.heap TO u v)
  (h1:s.heap.IsListIter i1 l1 i)(h2:s.heap.IsListIter i2 l2 i)(hl1:s.heap.IsList l1 xs)(hl2:s.heap.IsList l2 ys)(hx:xs[i]?=some x)(hy:ys[i]?=some y)(dlt:D<s.heap.objs.size)
  (hQ:∀h',zr9 h' z TI TO i1 i2 D (i+1)->(∃u v,IsPair h' TO u v)->h'.IsListIter i1 l1 (i+1)->h'.IsListIter i2 l2 (i+1)->IsPair h' s.heap.objs.size x y ->
   (∀c o,c≠z->c≠TO->c≠i1->c≠i2->s.heap.get? c=some o->h'.get? c=some o)->Q (some (.ref s.heap.objs.size)) { s with heap:=h' }) :
  wpAny (model prog w) A (pyNext (.ref z)) Q E s:=by
 obtain⟨u,v,hTO⟩:=hTO
 have l1':i1<s.heap.objs.size:=by obtain⟨_,e,_⟩:=h1;exact zCP e
 have l2':i2<s.heap.objs.size:=by obtain⟨_,e,_⟩:=h2;exact zCP e
 rcases hZ with ⟨_,hZ⟩ | ⟨a0,fl,oA,_,hZ,hA,n1,n2,n3,n4⟩
 ·exact wpAny_pyNext_zip_item AP hZ hTI hTO h1 h2 hl1 hl2 hx hy fun h' b1 b2 b3 b4 b5 b6 b7=>hQ h' (.inr ⟨s.heap.objs.size,false,_,Nat.succ_pos _,b1,b5,Nat.ne_of_gt (zCP hZ),Nat.ne_of_gt l1',Nat.ne_of_gt l2',Nat.ne_of_gt dlt⟩) ⟨_,_,b2⟩ b3 b4 b5 b7
 ·exact zoE AP hZ hA hTI h1 h2 hl1 hl2 hx hy fun h' b1 b2 b3 b4 b5 b6=>hQ h' (.inr ⟨a0,true,oA,Nat.succ_pos _,b1,b6 _ _ n1 n2 n3 hA,n1,n2,n3,n4⟩) ⟨_,_,b6 _ _ AP.TOz AP.TOi1 AP.TOi2 hTO⟩ b2 b3 b4 fun c o c1 _ c3 c4=>b6 c o c1 c3 c4
theorem zmR {R:Result->Shared->Prop}{res:Value}{D z TI TO i1 i2 l1 l2:Addr}{xs ys:Array Value}{ps:List (κ×Value)}(hh:A.handled=none)(AP:ZipApart z TI TO i1 i2 l1 l2)(hl:ps.length=xs.size)(hl2:ps.length=ys.size)(zz:ps.length<=sizeLine)
  (nD:D≠z/\D≠TI/\D≠TO/\D≠i1/\D≠i2/\D≠l1/\D≠l2) :
  ∀(m i:Nat) (s:Shared) (kvs:List (κ×Value)),ps.length-i=m->i<=ps.length->zr9 s.heap z TI TO i1 i2 D i->IsPair s.heap TI (.ref i1) (.ref i2)->(∃u v,IsPair s.heap TO u v)->s.heap.IsListIter i1 l1 i->s.heap.IsListIter i2 l2 i->s.heap.IsList l1 xs->s.heap.IsList l2 ys->s.heap.DictOf knd D kvs->kvs.length<=i ->
  (∀(j:Nat) k v,ps[j]?=some (k,v)->∃key,xs[j]?=some key/\ys[j]?=some v/\knd.is k key=true) ->
  (∀h' tk,h'.DictOf knd D ((ps.drop i).foldl (fun acc kv=>stored acc kv.1 kv.2) kvs)->(∀b o,b≠D->b≠z->b≠TO->b≠i1->b≠i2->s.heap.get? b=some o->h'.get? b=some o)->R (.ok (.ret res)) { s with heap:=h',toks:=tk }) ->
  codeAny (model prog w) A (.builtin "dict.update.loop" ⟨[.ref D,.ref z,.int (i:Nat) 0,res],[]⟩) R s:=by
 obtain⟨nz,nTI,nTO,n1,n2,m1,m2⟩:=nD
 intro m
 induction m with
 | zero =>
  intro i s kvs hk hi hZ hTI hTO hi1 hi2 hL1 hL2 hD hz hp hR
  obtain rfl:i=ps.length:=by omega
  refine codeAny_builtin Mr ?_
  rw[Around.under_plainId Xr _];show wpAny _ A.in1 (pyNext (.ref z)>>=_) _ _ s
  have fin:∀h':Heap,(∀c o,c≠z->c≠TO->c≠i1->c≠i2->s.heap.get? c=some o->h'.get? c=some o)->R (.ok (.ret res)) { s with heap:=h' }:=fun h' e=>by
   refine hR h' s.toks ?_ fun b o _ b1 b2 b3 b4 q=>e b o b1 b2 b3 b4 q
   rw[List.drop_length]
   obtain⟨o,es,ep,h1,h2⟩:=hD
   exact⟨o,es,ep,e D o nz nTO n1 n2 h1,h2⟩
  obtain⟨u,v,hTO⟩:=hTO
  have x0:xs[ps.length]?=none:=by rw[hl];simp
  rcases hZ with ⟨_,hZ⟩ | ⟨a0,fl,oA,_,hZ,hA,_⟩
  ·refine wpAny_bind (wpAny_pyNext_zip_end hh AP hZ hTI hTO hi1 hi2 hL1 hL2 (.inl x0) fun h' e=>?_)
   show wpAny _ _ (Builtin.Dict.addKeywords D []>>=_) _ _ _
   exact wpAny_bind (wpAny_pure (wpAny_pure (fin h' e)))
  ·refine wpAny_bind (zoF hh AP hZ hA hTI hi1 hL1 x0 fun h' e=>?_)
   show wpAny _ _ (Builtin.Dict.addKeywords D []>>=_) _ _ _
   exact wpAny_bind (wpAny_pure (wpAny_pure (fin h' fun c o c1 _ c3 _=>e c o c1 c3)))
 | succ m ih =>
  intro i s kvs hk hi hZ hTI hTO hi1 hi2 hL1 hL2 hD hz hp hR
  have lt:i<ps.length:=by omega
  obtain⟨⟨k,v⟩,hx⟩:∃x,ps[i]?=some x:=⟨_,zCJ lt⟩
  obtain⟨key,e1,e2,h4⟩:=hp i k v hx
  refine codeAny_builtin Mr ?_
  rw[Around.under_plainId Xr _];show wpAny _ A.in1 (pyNext (.ref z)>>=_) _ _ s
  have dlt:D<s.heap.objs.size:=by obtain⟨o,es,ep,a1,_⟩:=hD;exact zCP a1
  refine wpAny_bind (zmQ AP hZ hTI hTO hi1 hi2 hL1 hL2 e1 e2 dlt fun h' hZ' hTO' hi1' hi2' t1 kp=>?_)
  have klt:∀b o,s.heap.get? b=some o->b≠s.heap.objs.size:=fun b o e=>zCX (zCP e)
  refine wpAny_bind (wpAny_holding (wpAny_bind (wpAny_tryCatch ?_)))
  unfold Builtin.Dict.pairItems
  refine wpAny_bind (wpAny_typeOf (T := "tuple") ⟨_,t1,rfl⟩ ?_)
  rw[if_pos (by decide)]
  refine wpAny_bind ?_
  unfold seqItems?
  refine wpAny_bind (wpAny_load t1 ?_)
  refine wpAny_pure (wpAny_pure ?_)
  have hD':h'.DictOf knd D kvs:=by
   obtain⟨o,es,ep,a1,a2⟩:=hD
   exact⟨o,es,ep,kp D o nz nTO n1 n2 a1,a2⟩
  show wpAny _ _ (holding [key,v] (dictSet D key v)) _ _ _
  refine wpAny_holding (wpAny_dictSet_pairs (s:={ s with heap:=h' }) h4 hD' (fun h2' hD2 hs2=>?_) (by omega))
  refine wpAny_pure ⟨plainId_quiet Xr _,?_⟩
  have nx:((i:Nat):Int)+1=((i+1:Nat):Int):=by omega
  show codeAny _ A (.builtin "dict.update.loop" ⟨[.ref D,.ref z,.int (((i:Nat):Int)+1) 0,res],[]⟩) R _
  rw[nx]
  have st:∀b o,b≠D->h'.get? b=some o->h2'.get? b=some o:=fun b o hb e=>hs2.extBut b o hb e
  have kp2:∀b o,b≠D->b≠z->b≠TO->b≠i1->b≠i2->s.heap.get? b=some o->h2'.get? b=some o:=fun b o b0 b1 b2 b3 b4 e=>st b o b0 (kp b o b1 b2 b3 b4 e)
  refine ih (i+1) _ (stored kvs k v) (by omega) lt ?_ ?_ ?_ ?_ ?_ ?_ ?_ hD2 ?_ hp (fun h3' tk hD3 kp3=>?_)
  ·rcases hZ' with ⟨e,_⟩ | ⟨a0,fl,oA,p1,p2,p3,p4,p5,p6,p7⟩
   ·omega
   ·exact .inr ⟨a0,fl,oA,p1,st _ _ (Ne.symm nz) p2,st _ _ p7 p3,p4,p5,p6,p7⟩
  ·exact st _ _ (Ne.symm nTI) (kp _ _ AP.TIz AP.TITO AP.TIi1 AP.TIi2 hTI)
  ·obtain⟨u,v,e⟩:=hTO'
   exact⟨u,v,st _ _ (Ne.symm nTO) e⟩
  ·exact hi1'.at fun o e=>st _ _ (Ne.symm n1) e
  ·exact hi2'.at fun o e=>st _ _ (Ne.symm n2) e
  ·obtain⟨o,a1,a2⟩:=hL1
   exact⟨o,kp2 l1 o (Ne.symm m1) AP.l1z AP.l1TO AP.l1i1 AP.l1i2 a1,a2⟩
  ·obtain⟨o,a1,a2⟩:=hL2
   exact⟨o,kp2 l2 o (Ne.symm m2) AP.l2z AP.l2TO AP.l2i1 AP.l2i2 a1,a2⟩
  ·unfold stored
   split
   ·rw[zCI];omega
   ·rw[zCQ];simp;omega
  ·refine hR h3' tk ?_ fun b o b0 b1 b2 b3 b4 e=>kp3 b o b0 b1 b2 b3 b4 (kp2 b o b0 b1 b2 b3 b4 e)
   rw[List.drop_eq_getElem_cons lt]
   obtain⟨_,e⟩:=zCL.mp hx
   rw[e]
   exact hD3
end
end PySem
namespace L2
open PySem PySem.Spec PyProof.Rows
section
variable {X:Cx}
def tDz (K:Frag)(ta:TA):TE:=fun σ H Q=>ta σ H fun vs H1=>∃(a b:Addr) (ks:List Key) (vs':List V),vs=[.ref a,.ref b]/\zM K H1 a (ks.map kV)/\zM K H1 b vs'/\ks.length=vs'.length/\∀d,H1 d=none->Q (.ref d) (upd H1 d (.dK (vI [] (ks.zip vs'))))
theorem zkh {l m:Expr}{ta:TA}{p p' pos pos':Pos}(hc:X.calm=true)(hg:Gl X "zip")(hm:X.mg "zip"=none)(hg2:Gl X "dict")(hm2:X.mg "dict"=none)(ha:PA X [l,m] ta)(hs:starEach [l,m] X.env=[(false,eval l X.env),(false,eval m X.env)]:=by rfl)(hs2:starEach [m] X.env=[(false,eval m X.env)]:=by rfl)
  (hs3:starEach [.Call (.Name "zip" p) [l,m] [] pos] X.env=[(false,eval (.Call (.Name "zip" p) [l,m] [] pos) X.env)]:=by rfl) :
  PE X (.Call (.Name "dict" p') [.Call (.Name "zip" p) [l,m] [] pos] [] pos') (tDz X.K ta):=by
 intro pins s σ H Q I h
 refine wpAny_Call_Name_kw (U3 I hg2 hm2 zqr ?_ (by decide) (by decide))
 refine PyProof.Rows.callWith_type1 ?_ hs3 rfl
 rw[hs3]
 show wpAny _ _ (spliced ((false,eval (.Call (.Name "zip" p) [l,m] [] pos) X.env)::[])) _ _ s
 refine Calls.spliced_cons ?_
 refine Call_ (U3 I hg hm boot_zip (PyProof.Rows.callWith_type1 (ud (ha pos pins s σ H _ I h) fun us s1 ⟨vs,H1,I1,r1,q1⟩=>?_) (by rw[hs,hs2]) (by rw[hs2];rfl)))
 obtain⟨a,b,ks,vs',e,hq1,hq2,hlen,q⟩:=q1
 subst e
 obtain⟨u,v,rfl,ru,rv⟩:=vals2 r1
 cases ru
 cases rv
 obtain⟨zec,rv1,pl1,hz1⟩:=I1.list hq1
 obtain⟨its2,rv2,pl2,hz2⟩:=I1.list hq2
 have la:a<s1.heap.objs.size:=by obtain⟨_,e,_⟩:=pl1.isList;exact zCP e
 have lb:b<s1.heap.objs.size:=by obtain⟨_,e,_⟩:=pl2.isList;exact zCP e
 have ln1:=rv1.length
 have ln2:=rv2.length
 rw[zCI] at ln1 hz1
 refine call_zip_2 pl1.isList pl2.isList fun h1 hz hti hto it1 it2 hsz hk=>?_
 have pr:∃rs:List (Key×Value),KV (ks.zip vs') rs/\∀(j:Nat) k v,rs[j]?=some (k,v)->∃key,zec.toArray[j]?=some key/\its2.toArray[j]?=some v/\(vh X.prog X.w).is k key=true:=by
  clear hq1 hq2 q hz1 hz2 ln1 ln2 hlen it1 it2 hz hti hto hk hsz h1 la lb pl1 pl2
  induction ks generalizing zec its2 vs' with
  | nil=>exact⟨[],.nil,fun j k v e=>by cases e⟩
  | cons k ks ih =>
   cases rv1 with
   | @cons _ u1 _ us1 a1 rv1' =>
    cases vs' with
    | nil=>exact⟨[],.nil,fun j k v e=>by cases e⟩
    | cons v vs' =>
     cases rv2 with
     | @cons _ u2 _ us2 a2 rv2' =>
      obtain⟨rs,r1,r2⟩:=ih vs' us1 rv1' us2 rv2'
      refine⟨(k,u2)::rs,.cons ⟨rfl,a2⟩ r1,fun j k' v' e=>?_⟩
      cases j with
      | zero=>cases e;exact⟨u1,rfl,rfl,zgm a1⟩
      | succ j =>
       obtain⟨key,b1,b2,b3⟩:=r2 j k' v' e
       exact⟨key,by simpa using b1,by simpa using b2,b3⟩
 obtain⟨rs,kv,r2⟩:=pr
 have lr:(ks.zip vs').length=rs.length:=Paired.length kv
 have lz:(ks.zip vs').length=ks.length:=by rw[List.length_zip];omega
 refine Calls.spliced_nil ?_
 have nn:∀x:Nat,x<s1.heap.objs.size+5->h1.objs.size≠x:=fun x hx=>Nat.ne_of_gt (by rw[hsz];exact hx)
 have hbig:(h1.objs.size==sysModules)=false:=beq_eq_false_iff_ne.mpr (Ne.symm (zCX (zCR I1.big (by rw[hsz];exact zDj _ _))))
 refine callType_codes (Q₁:=fun obj s₁=>obj=.ref h1.objs.size/\s₁={ s1 with heap:=h1.push { cls:=.type "dict", data:=.dict #[] } }) F.kt_called_dict (F.kt_typeCall_dict_1 _) F.entry_dict_init (kt_code_dict_new _ ⟨rfl,rfl⟩) ?_
 rintro obj s₁ ⟨rfl,rfl⟩
 have hnew:(h1.push { cls:=.type "dict", data:=.dict #[] }).DictOf (vh X.prog X.w) h1.objs.size []:=Heap.DictOf.new h1
 have kp:∀b o,h1.get? b=some o->(h1.push { cls:=.type "dict", data:=.dict #[] }).get? b=some o:=fun b o e=>zCO _ e
 refine⟨hnew.typeIs,F.args_dict_init_2 _ _,?_⟩
 unfold Builtin.«dict.__init__»;refine wpAny_bind ?_
 unfold Builtin.Dict.selfAndRest;refine wpAny_bind (wpAny_notOrdered_dict hnew.typeIs ?_)
 show wpAny _ _ (pure (h1.objs.size,[Value.ref (s1.heap.objs.size+4)])) _ _ _
 refine wpAny_pure ?_
 show wpAny _ _ (Builtin.Dict.updateFrom "dict.__init__" h1.objs.size (.ref (s1.heap.objs.size+4)) [] .none) _ _ { s1 with heap:=h1.push { cls:=.type "dict", data:=.dict #[] } }
 generalize h1.push { cls:=.type "dict", data:=.dict #[] }=h2 at hnew kp
 have hz':=kp _ _ hz
 unfold Builtin.Dict.updateFrom;refine wpAny_bind (wpAny_typeOf (T := "zip") ⟨_,hz',rfl⟩ ?_)
 rw[if_pos (by decide)]
 refine wpAny_bind (zfx (A:=X.A.in1.in1) (h:=h2) (g:=s1.gens) (d:=s1.drawn) (t:=s1.toks) (os:=s1.os) (I1.ok.hd hc) hz' fun h3 t3 k3=>?_)
 refine wpAny_bind (m:=rule _) (wpAny_rule ?_)
 refine wpAny_bind (wpAny_pyIter_zip (s:=⟨h3,s1.gens,s1.drawn,t3,s1.os⟩) (k3 _ _ hz') ?_)
 have k13:∀b o,h1.get? b=some o->h3.get? b=some o:=fun b o e=>k3 _ _ (kp _ _ e)
 refine wpAny_pure ⟨plainId_quiet Xr _,?_⟩
 obtain⟨oD,esD,epD,aD,bD⟩:=hnew
 refine zmR (A:=X.A.in1) (knd:=vh X.prog X.w) (D:=h1.objs.size) (z:=s1.heap.objs.size+4) (TI:=s1.heap.objs.size+2) (TO:=s1.heap.objs.size+3) (i1:=s1.heap.objs.size) (i2:=s1.heap.objs.size+1) (l1:=a) (l2:=b) (xs:=zec.toArray) (ys:=its2.toArray) (ps:=rs) (I1.ok.hd hc) (zipApart_new la lb) (by simp;omega) (by simp;omega) (by omega)
  ⟨nn _ (Nat.add_lt_add_left (by decide) _),nn _ (Nat.add_lt_add_left (by decide) _),nn _ (Nat.add_lt_add_left (by decide) _),nn _ (Nat.lt_add_of_pos_right (by decide)),nn _ (Nat.add_lt_add_left (by decide) _),nn _ (zCR la (zDj _ _)),nn _ (zCR lb (zDj _ _))⟩ rs.length 0 _ [] rfl (zC5 _) (.inl ⟨rfl,k13 _ _ hz⟩) (k13 _ _ hti) ⟨_,_,k13 _ _ hto⟩ (it1.at fun o e=>k13 _ _ e) (it2.at fun o e=>k13 _ _ e) (pl1.isList.at fun o e=>k13 _ _ (hk _ _ e)) (pl2.isList.at fun o e=>k13 _ _ (hk _ _ e)) ⟨oD,esD,epD,k3 _ _ aD,bD⟩ (zC5 _) r2 (fun h' tk hD kp'=>?_)
 have kk:∀b o,s1.heap.get? b=some o->h'.get? b=some o:=fun b o e=>by
  have hb:b<s1.heap.objs.size:=zCP e
  have h0:∀x:Nat,s1.heap.objs.size<=x->b≠x:=fun x hx=>zCX (zCR hb hx)
  exact kp' b o (h0 _ (by rw[hsz];exact zDj _ _)) (h0 _ (zDj _ _)) (h0 _ (zDj _ _)) (h0 _ (zCY _)) (h0 _ (zDj _ _)) (k13 _ _ (hk _ _ e))
 refine⟨rfl,.ref h1.objs.size,_,I1.laid (a:=h1.objs.size) (o:=.dK (vI [] (ks.zip vs'))) (t':=tk) kk (by rw[hsz];exact zDj _ _) ?_,rfl,q _ (I1.hok.fresh (by rw[hsz];exact zDj _ _))⟩
 have lm:=Va (ks.zip vs') []
 exact zj1 (by simp at lm;omega) hbig (KV.merge kv .nil) hD
end
end L2
namespace Zk
open PySem L2 wK
def nis (os:List Str):List Nat:=(List.range 4).filter fun i=>os.contains (xM i)
theorem zgD:prs=(List.range 4).map fun i=>(xM i,uG i):=by decide +kernel
theorem zdF {os:List Str}{i:Nat}:i∈nis os↔i<4/\xM i∈os:=by
 unfold nis
 rw[List.mem_filter,List.mem_range,contains_iff,decide_eq_true_iff]
theorem Xv (os:List Str):yq os=(nis os).map xM:=by
 unfold yq nis
 rw[zgD,List.filter_map,zDk]
 rfl
theorem R7 {os:List Str}(hW:yt os):Zm os=(nis os).map uG:=by
 have e:(prs.filter fun p=>os.contains p.2)=prs.filter fun p=>os.contains p.1:=List.filter_congr fun p hp=>by rw[hW p hp]
 unfold Zm nis
 rw[e,zgD,List.filter_map,zDk]
 rfl
def pv (os:List Str)(r s:List Bool)(x:Str):Bool:=if x∈yq os then r.getD (ix (yq os) x) false else s.getD (ix (Zm os) x) false
def prR (os:List Str)(r s:List Bool):List Bool:=os.map (pv os r s)
def pB (os:List Str)(r s:List Bool):Nat:=yh (prR os r s)
def nb (os:List Str)(d:Nat):List Bool:=(nis os).map fun i=>d.testBit (ix os (xM i))
theorem zoG (os:List Str)(d:Nat):(nb os d).length=(yq os).length:=by unfold nb;rw[Xv,zCI,zCI]
theorem zhm (os:List Str)(r s:List Bool):(prR os r s).length=os.length:=zCI _
theorem zl2 (os:List Str)(r s:List Bool):pB os r s<2^os.length:=by have:=zd1 (prR os r s);rwa [zhm] at this
theorem zki {os:List Str}{x:Str}(hx:x∈os)(r s:List Bool):(pB os r s).testBit (ix os x)=pv os r s x:=by
 unfold pB prR
 rw[Vv,zCK,(vU hx).2.2]
 rfl
section
variable {os:List Str}(ho:vH os)(hW:yt os)
include ho hW
theorem zes {j i:Nat}(h:(nis os)[j]?=some i):i<4/\xM i∈os/\uG i∈os/\ix (yq os) (xM i)=j/\ix (Zm os) (uG i)=j/\xM i∈yq os/\uG i∉yq os:=by
 obtain⟨i4,hi⟩:=zdF.mp (zCN h)
 have e1:(yq os)[j]?=some (xM i):=by rw[Xv,zCK,h];rfl
 have e2:(Zm os)[j]?=some (uG i):=by rw[R7 hW,zCK,h];rfl
 refine⟨i4,hi,(JX hW i4).mp hi,zgu (zhh ho hW) e1,zgu (zaL os) e2,zCN e1,fun z=>?_⟩
 obtain⟨_,k,hk,e⟩:=Xu z
 exact Wx hk e.symm
theorem zoH {j i:Nat}(h:(nis os)[j]?=some i)(r s:List Bool):pv os r s (xM i)=r.getD j false:=by
 obtain⟨_,_,_,e1,_,m1,_⟩:=zes ho hW h
 unfold pv
 rw[if_pos m1,e1]
theorem zsa {j i:Nat}(h:(nis os)[j]?=some i)(r s:List Bool):pv os r s (uG i)=s.getD j false:=by
 obtain⟨_,_,_,_,e2,_,m2⟩:=zes ho hW h
 unfold pv
 rw[if_neg m2,e2]
theorem zgE {i:Nat}(hi:i<4)(h:xM i∈os):∃j:Nat,(nis os)[j]?=some i:=by
 obtain⟨j,hj,e⟩:=List.mem_iff_getElem.mp (zdF.mpr ⟨hi,h⟩)
 exact⟨j,by rw[zCJ hj,e]⟩
theorem zmS {d c:Nat}(dl:d<2^os.length)(cl:c<2^os.length)(h:∀i,i<4->xM i∈os->d.testBit (ix os (xM i))=c.testBit (ix os (xM i))/\d.testBit (ix os (uG i))=c.testBit (ix os (uG i))):d=c:=by
 refine QS fun p=>?_
 rcases Nat.lt_or_ge p os.length with z | z
 ·have hx:os[p]?=some os[p]:=zCJ z
  have mx:os[p]∈os:=zDq z
  have ei:=zgu ho.nd hx
  obtain⟨i,hi,e⟩:=zhk (ho.mem _ mx)
  rcases e with e | e
  ·rw[e] at mx ei
   rw[<-ei];exact(h i hi mx).1
  ·rw[e] at mx ei
   rw[<-ei];exact(h i hi ((JX hW hi).mpr mx)).2
 ·rw[wu dl z,wu cl z]
theorem zaQ {f:Nat->Bool}(hf:∀p∈zU os,Free os.length f p){d c:Nat}(dl:d<2^os.length)(cl:c<2^os.length)(h:∀i,i<4->xM i∈os->d.testBit (ix os (xM i))=c.testBit (ix os (xM i))):f d=f c:=by
 refine free_eq (zU os) (fun p hp=>⟨Yy p hp,hf p hp⟩) dl cl fun p hp=>?_
 rcases Nat.lt_or_ge p os.length with z | z
 ·rcases ziL ho z with y | y
  ·obtain⟨x,hx,e⟩:=List.mem_map.mp y
   obtain⟨mx,i,hi,ex⟩:=Xu hx
   rw[ex] at mx e
   rw[<-e];exact h i hi mx
  ·exact absurd y hp
 ·rw[wu dl z,wu cl z]
end
def Wk (os:List Str)(k:Nat):List Bool:=(allR (yq os).length).getD k []
def eb (os:List Str)(k:Nat):Nat:=pB os (Wk os k) (Wk os k)
def nM (os:List Str):Nat:=2^(yq os).length
theorem Kd {os:List Str}{k:Nat}(h:k<nM os):(Wk os k).length=(yq os).length:=by
 unfold Wk
 have l:k<(allR (yq os).length).length:=by rw[vZ];exact h
 rw[zCV,zCJ l]
 exact R4 _ _ (zDq l)
theorem list_range (r:List Bool):(List.range r.length).map (ztz r)=r:=by
 refine List.ext_getElem? fun i=>?_
 rw[zCK]
 rcases Nat.lt_or_ge i r.length with z | z
 ·rw[List.getElem?_range z,zCJ z]
  show some (r.getD i false)=_
  rw[zCV,zCJ z]
  rfl
 ·rw[zDi (by rw[zC0];exact z),zDi z]
  rfl
theorem zoI (r:List Bool):r∈allR r.length:=by
 have:=Je (ztz r) r.length
 rwa [list_range] at this
theorem zkj {os:List Str}{r:List Bool}(h:r.length=(yq os).length):∃k,k<nM os/\Wk os k=r:=by
 have m:=zoI r
 rw[h] at m
 obtain⟨k,hk,e⟩:=List.mem_iff_getElem.mp m
 rw[vZ] at hk
 refine⟨k,hk,?_⟩
 unfold Wk
 rw[zCV,zCJ (by rw[vZ];exact hk),e]
 rfl
theorem zcQ (os:List Str)(k:Nat):eb os k<2^os.length:=zl2 ..
def gr (os:List Str)(t:Nat->Bool)(j k:Nat):Bool:=t (pB os (Wk os j) (Wk os k))
section
variable {os:List Str}{t f g:Nat->Bool}(ho:vH os)(hW:yt os)
include ho hW
theorem Mu {k:Nat}{j i:Nat}(h:(nis os)[j]?=some i):(eb os k).testBit (ix os (xM i))=(Wk os k).getD j false:=by
 obtain⟨_,h1,_⟩:=zes ho hW h
 unfold eb
 rw[zki h1,zoH ho hW h]
theorem zkk {r s:List Bool}{j i:Nat}(h:(nis os)[j]?=some i):(pB os r s).testBit (ix os (xM i))=r.getD j false/\(pB os r s).testBit (ix os (uG i))=s.getD j false:=by
 obtain⟨_,h1,h2,_⟩:=zes ho hW h
 rw[zki h1,zoH ho hW h,zki h2,zsa ho hW h]
 exact⟨rfl,rfl⟩
theorem zoJ (hf:∀p∈zU os,Free os.length f p)(k:Nat):R5 os t f (eb os k)=true↔∃j,j<nM os/\f (eb os j)=true/\gr os t j k=true:=by
 rw[zqA ho hW (zcQ os k)]
 constructor
 ·rintro⟨d,dl,h1,fd,td⟩
  obtain⟨j,hj,ej⟩:=zkj (zoG os d)
  refine⟨j,hj,?_,?_⟩
  ·rw[<-fd]
   refine zaQ ho hW hf (zcQ os j) dl fun i hi hn=>?_
   obtain⟨p,hp⟩:=zgE ho hW hi hn
   rw[Mu ho hW hp,ej]
   unfold nb
   rw[zCV,zCK,hp]
   rfl
  ·unfold gr
   rw[ej,<-td]
   congr 1
   refine zmS ho hW (zl2 ..) dl fun i hi hn=>?_
   obtain⟨p,hp⟩:=zgE ho hW hi hn
   obtain⟨a1,a2⟩:=zkk ho hW (r:=nb os d) (s:=Wk os k) hp
   rw[a1,a2,h1 i hi hn,Mu ho hW hp]
   refine⟨?_,rfl⟩
   unfold nb
   rw[zCV,zCK,hp]
   rfl
 ·rintro⟨j,hj,fj,gj⟩
  refine⟨pB os (Wk os j) (Wk os k),zl2 ..,fun i hi hn=>?_,?_,gj⟩
  ·obtain⟨p,hp⟩:=zgE ho hW hi hn
   rw[(zkk ho hW hp).2,Mu ho hW hp]
  ·rw[<-fj]
   refine zaQ ho hW hf (zl2 ..) (zcQ os j) fun i hi hn=>?_
   obtain⟨p,hp⟩:=zgE ho hW hi hn
   rw[(zkk ho hW hp).1,Mu ho hW hp]
theorem zl3 (hf:∀p∈zU os,Free os.length f p){d:Nat}(dl:d<2^os.length):∃k,k<nM os/\f (eb os k)=f d:=by
 obtain⟨j,hj,ej⟩:=zkj (zoG os d)
 refine⟨j,hj,?_⟩
 refine zaQ ho hW hf (zcQ os j) dl fun i hi hn=>?_
 obtain⟨p,hp⟩:=zgE ho hW hi hn
 rw[Mu ho hW hp,ej]
 unfold nb
 rw[zCV,zCK,hp]
 rfl
theorem zqB (hf:∀p∈zU os,Free os.length f p):(∀k,k<nM os->f (eb os k)=false)↔∀d,d<2^os.length->f d=false:=by
 constructor
 ·intro h d dl
  obtain⟨k,hk,e⟩:=zl3 ho hW hf dl
  rw[<-e];exact h k hk
 ·intro h k _
  exact h _ (zcQ os k)
end
end Zk
namespace L2
open PySem
section
variable {K:Frag}{σ:St}{js:List Nat}{tt:TT}{te:TE}{H:Hp}{Qf:Addr->Hp->List V->Prop}
open Zk
theorem zet {n:Nat}(p:Nat->Bool)(hz:n<=sizeLine)(hte:∀x H' Q,Q x H'->te (Z1 σ js (some x)) H' Q)
  (hs:∀(i:Nat) H' (Q:Bool->Hp->Prop),i<n->Same H H'->(∀H2,Same H H2->Q (p i) H2)->tt (Z1 σ js (some (.int ((0:Int)+i)))) H' Q)
  (hd:∀H' l,Same H H'->H' l=none->Qf l H' (zR ((List.range n).filter p))) :
  ∃W:Nat->Nat->List V->Hp->Prop,(∃m,W 0 m [] H)/\∀i m ys H,W i m ys H ->
   ((Itr 0 n).stop i H/\∀p,H p=none->Qf p H ys) \/
   ((Itr 0 n).go i H/\ys.length<sizeLine/\∀x H',(Itr 0 n).JG i H x H'->tt (Z1 σ js (some x)) H' fun b H2 =>
    if b=true then te (Z1 σ js (some x)) H2 fun v H3=>∃m',m'<m/\W (i+1) m' (ys++[v]) H3 else ∃m',m'<m/\W (i+1) m' ys H2):=by
 refine⟨fun i m ys H'=>m=n-i/\i<=n/\Same H H'/\ys=zR ((List.range i).filter p),⟨n,by simp,zC5 _,Same.refl _,rfl⟩,?_⟩
 rintro i m ys H1 ⟨rfl,hi,g,rfl⟩
 have hy:(zR ((List.range i).filter p)).length<=i:=by
  have:=zDh p (List.range i)
  rw[zC0] at this
  unfold zR
  rw[zCI]
  exact this
 by_cases hlt:i<n
 ·refine .inr ⟨hlt,by omega,fun x H' y=>?_⟩
  obtain⟨e,y⟩:=y
  subst e y
  refine hs i _ _ hlt g fun H2 g2=>?_
  cases e:p i with
  | true =>
   rw[if_pos rfl]
   refine hte _ _ _ ⟨_,Nat.sub_lt_sub_left hlt (Nat.lt_succ_self i),rfl,hlt,g2,?_⟩
   rw[List.range_succ,zDn,List.filter_cons_of_pos e]
   unfold zR
   rw[zCW]
   show _++[V.int ((0:Int)+(i:Nat))]=_++[V.int (i:Nat)]
   rw[Int.zero_add]
  | false =>
   rw[if_neg zCM]
   refine⟨_,Nat.sub_lt_sub_left hlt (Nat.lt_succ_self i),rfl,hlt,g2,?_⟩
   rw[List.range_succ,zDn,List.filter_cons_of_neg (by rw[e];exact zCM),List.filter_nil,List.append_nil]
 ·have e:i=n:=by omega
  subst e
  exact .inl ⟨zCY _,fun l hl=>hd _ l g hl⟩
theorem ziP {a:Addr}{ps:List Nat}(p:Nat->Bool)(hq:zM K H a (zR ps))(hz:ps.length<=sizeLine)(hte:∀x H' Q,Q x H'->te (Z1 σ js (some x)) H' Q)
  (hs:∀(x:Nat) H' (Q:Bool->Hp->Prop),x∈ps->Same H H'->(∀H2,Same H H2->Q (p x) H2)->tt (Z1 σ js (some (.int (x:Nat)))) H' Q)
  (hd:∀H' l,Same H H'->H' l=none->Qf l H' (zR (ps.filter p))) :
  ∃W:Nat->Nat->List V->Hp->Prop,(∃m,W 0 m [] H)/\∀i m ys H,W i m ys H ->
   ((Itl K a).stop i H/\∀p,H p=none->Qf p H ys) \/
   ((Itl K a).go i H/\ys.length<sizeLine/\∀x H',(Itl K a).JG i H x H'->tt (Z1 σ js (some x)) H' fun b H2 =>
    if b=true then te (Z1 σ js (some x)) H2 fun v H3=>∃m',m'<m/\W (i+1) m' (ys++[v]) H3 else ∃m',m'<m/\W (i+1) m' ys H2):=by
 have ln:(zR ps).length=ps.length:=zCI _
 refine⟨fun i m ys H'=>m=ps.length-i/\i<=ps.length/\Same H H'/\ys=zR ((ps.take i).filter p),⟨_,by rw[Nat.sub_zero],zC5 _,Same.refl _,rfl⟩,?_⟩
 rintro i m ys H1 ⟨rfl,hi,g,rfl⟩
 have hy:(zR ((ps.take i).filter p)).length<=i:=by
  have:=zDh p (ps.take i)
  rw[zC6] at this
  unfold zR
  rw[zCI]
  omega
 by_cases hlt:i<ps.length
 ·have hb:ps[i]?=some ps[i]:=zCJ hlt
  generalize ps[i]=b at hb
  have hv:(zR ps)[i]?=some (.int (b:Nat)):=by unfold zR;rw[zCK,hb];rfl
  refine .inr ⟨⟨_,_,g.seq hq,hv⟩,by omega,fun x H' y=>?_⟩
  obtain⟨e,y⟩:=y
  subst e
  have ex:=y _ (g.seq hq)
  rw[hv] at ex
  cases ex
  refine hs b _ _ (zCN hb) g fun H2 g2=>?_
  cases e:p b with
  | true =>
   rw[if_pos rfl]
   refine hte _ _ _ ⟨_,Nat.sub_lt_sub_left hlt (Nat.lt_succ_self i),rfl,hlt,g2,?_⟩
   rw[yW hb,zDn,List.filter_cons_of_pos e]
   unfold zR
   rw[zCW]
   rfl
  | false =>
   rw[if_neg zCM]
   refine⟨_,Nat.sub_lt_sub_left hlt (Nat.lt_succ_self i),rfl,hlt,g2,?_⟩
   rw[yW hb,zDn,List.filter_cons_of_neg (by rw[e];exact zCM),List.filter_nil,List.append_nil]
 ·have e:i=ps.length:=by omega
  subst e
  refine .inl ⟨⟨_,g.seq hq,by rw[ln];exact zCY _⟩,fun l hl=>?_⟩
  rw[zDb]
  exact hd _ l g hl
theorem R8 {a:Addr}{xs:List V}(Pv:Nat->List V->Hp->Prop)(h0:Pv 0 [] H)(hz:xs.length<=sizeLine)
  (hl:∀i ys H,i<=xs.length->Pv i ys H->zM K H a xs/\ys.length<=i)
  (hs:∀i x ys H (Q:V->Hp->Prop),xs[i]?=some x->Pv i ys H->(∀v H3,Pv (i+1) (ys++[v]) H3->Q v H3)->te (Z1 σ js (some x)) H Q)
  (hd:∀ys H p,Pv xs.length ys H->H p=none->Qf p H ys) :
  ∃W:Nat->Nat->List V->Hp->Prop,(∃m,W 0 m [] H)/\∀i m ys H,W i m ys H ->
   ((Itl K a).stop i H/\∀p,H p=none->Qf p H ys) \/
   ((Itl K a).go i H/\ys.length<sizeLine/\∀x H',(Itl K a).JG i H x H'->zdX (Z1 σ js (some x)) H' fun b H2 =>
    if b=true then te (Z1 σ js (some x)) H2 fun v H3=>∃m',m'<m/\W (i+1) m' (ys++[v]) H3 else ∃m',m'<m/\W (i+1) m' ys H2):=by
 refine⟨fun i m ys H=>m=xs.length-i/\i<=xs.length/\Pv i ys H,⟨xs.length,by simp,zC5 _,h0⟩,?_⟩
 rintro i m ys H ⟨rfl,hi,p⟩
 obtain⟨q,hy⟩:=hl i ys H hi p
 by_cases hlt:i<xs.length
 ·refine .inr ⟨⟨xs,xs[i],q,by simp[hlt]⟩,by omega,fun x H' y=>?_⟩
  obtain⟨e,y⟩:=y
  subst e
  show te (Z1 σ js (some x)) H' fun v H3=>∃m',m'<xs.length-i/\(m'=xs.length-(i+1)/\i+1<=xs.length/\Pv (i+1) (ys++[v]) H3)
  exact hs i x ys _ _ (y xs q) p fun v H3 h3=>⟨_,Nat.sub_lt_sub_left hlt (Nat.lt_succ_self i),rfl,hlt,h3⟩
 ·have e:i=xs.length:=by omega
  subst e
  exact .inl ⟨⟨xs,q,zCY _⟩,fun pp hp=>hd ys H pp p hp⟩
end
end L2
namespace Zk
open PySem L2 wK
theorem zqC {ks:List Str}{vs:List V}(nd:ks.Nodup):∀{j:Nat} {x:Str} {v:V},ks[j]?=some x->vs[j]?=some v->Yx (vI [] ((ks.map fun x=>(Sum.inr x:Key)).zip vs)) (Sum.inr x:Key)=some v:=by
 have key:∀(ks:List Str) (vs:List V) (acc:List (Key×V)),ks.Nodup->(∀(j:Nat) (x:Str) (v:V),ks[j]?=some x->vs[j]?=some v->Yx (vI acc ((ks.map fun x=>(Sum.inr x:Key)).zip vs)) (Sum.inr x:Key)=some v)/\∀x:Str,x∉ks->Yx (vI acc ((ks.map fun x=>(Sum.inr x:Key)).zip vs)) (Sum.inr x:Key)=Yx acc (Sum.inr x:Key):=by
  intro ks
  induction ks with
  | nil=>exact fun vs acc _=>⟨fun j x v e=>by simp at e,fun x _=>rfl⟩
  | cons y ks ih =>
   intro vs acc nd
   cases vs with
   | nil=>exact⟨fun j x v _ e=>by simp at e,fun x _=>rfl⟩
   | cons u vs =>
    obtain⟨n1,n2⟩:=List.nodup_cons.mp nd
    obtain⟨i1,i2⟩:=ih vs (putK acc (Sum.inr y) u) n2
    refine⟨fun j x v e1 e2=>?_,fun x hx=>?_⟩
    ·cases j with
     | zero =>
      cases e1;cases e2
      refine(i2 y n1).trans ?_
      rw[wV,if_pos rfl]
     | succ j=>exact i1 j x v (by simpa using e1) (by simpa using e2)
    ·have hx':¬(x=y\/x∈ks):=fun z=>hx (List.mem_cons.mpr z)
     refine(i2 x fun z=>hx' (.inr z)).trans ?_
     rw[wV,if_neg fun z=>hx' (.inl (by injection z))]
 intro j x v e1 e2
 exact(key ks vs [] nd).1 j x v e1 e2
def Qv (os:List Str)(p:Nat->Bool):List Nat:=(List.range (nM os)).filter p
theorem Z6 {os:List Str}{p:Nat->Bool}{k:Nat}:k∈Qv os p↔k<nM os/\p k=true:=by unfold Qv;rw[List.mem_filter,List.mem_range]
theorem zhn (os:List Str)(p:Nat->Bool):(Qv os p).length<=nM os:=zC4 (zDh _ _) (by rw[zC0];exact zCY _)
theorem ziQ {os:List Str}:nM os<=16:=by
 have l:(yq os).length<=4:=by
  rw[Xv,zCI]
  exact zC4 (zDh _ _) (by rw[zC0];exact zCY _)
 exact zDe (n:=2) (j:=4) (by decide) l
section
variable (K:Frag)
def zdG:Sp:=fun vs H Q _=>∃(ol rl sl:Addr) (os:List Str) (r s:List Bool),vs=[.ref ol,.ref rl,.ref sl]/\zM K H ol (os.map V.str)/\vH os/\yt os/\zM K H rl (yd r)/\zM K H sl (yd s)/\r.length=(yq os).length/\s.length=(yq os).length /\
 ∀(l:Addr) (H':Hp),Same H H'->H l=none->H' l=some (.lst (yd (prR os r s)))->Q (.ref l) H'
def GrL (os:List Str)(t:Nat->Bool)(H:Hp)(l:Addr)(k:Nat):Prop:=H l=some (.lst (zR (Qv os (gr os t k))))
structure GrA (os:List Str)(t:Nat->Bool)(H0 H:Hp)(l:Addr)(ls:List Addr):Prop where
 hl:H l=some (.lst (ls.map V.ref))
 pd:Paired (GrL os t H) ls (List.range (nM os))
 fr:H0 l=none
 fs:∀x∈ls,H0 x=none
def zl4:Sp:=fun vs H Q _=>∃(p ol:Addr) (os:List Str) (s:Sn),vs=[.ref p,.ref ol]/\zM K H ol (os.map V.str)/\vH os/\yt os/\VB os H s p /\
 ∀(l:Addr) (ls:List Addr) (H':Hp),Same H H'->GrA os (fun b=>s.val (wI os b)) H H' l ls->Q (.ref l) H'
def ziR:Sp:=fun vs H Q _=>∃(p ol:Addr) (os:List Str) (s:Sn),vs=[.ref p,.ref ol]/\zM K H ol (os.map V.str)/\vH os/\yt os/\VB os H s p /\
 ∀(l:Addr) (H':Hp),Same H H'->H l=none->H' l=some (.lst (zR (Qv os fun k=>s.val (wI os (eb os k)))))->Q (.ref l) H'
def zho:Sp:=fun vs H Q _=>∃(gl pl:Addr) (os:List Str) (t:Nat->Bool) (H0:Hp) (ls:List Addr) (p:Nat->Bool),vs=[.ref gl,.ref pl]/\GrA os t H0 H gl ls/\H pl=some (.lst (zR (Qv os p))) /\
 ∀(l:Addr) (H':Hp),Same H H'->H l=none->H' l=some (.lst (zR (Qv os fun k=>(List.range (nM os)).any fun j=>p j&&gr os t j k)))->Q (.ref l) H'
end
theorem GrA.same {os:List Str}{t:Nat->Bool}{H0 H H':Hp}{l:Addr}{ls:List Addr}(h:GrA os t H0 H l ls)(g:Same H H'):GrA os t H0 H' l ls:=⟨g _ _ h.hl,vm (fun _ _ z=>g _ _ z) h.pd,h.fr,h.fs⟩
theorem GrA.at {os:List Str}{t:Nat->Bool}{H0 H:Hp}{l:Addr}{ls:List Addr}(h:GrA os t H0 H l ls){k:Nat}(hk:k<nM os):∃a,ls[k]?=some a/\H a=some (.lst (zR (Qv os (gr os t k)))):=by
 have e:=xT h.pd
 rw[zC0] at e
 obtain⟨a,ha⟩:∃a,ls[k]?=some a:=⟨_,zCJ (by omega)⟩
 obtain⟨j,hj,z⟩:=Yr h.pd ha
 rw[List.getElem?_range (by omega)] at hj
 cases hj
 exact⟨a,ha,z⟩
section
variable {os:List Str}{t t' f:Nat->Bool}
theorem zqD (ho:vH os)(hW:yt os)(hf:∀p∈zU os,Free os.length f p)(k:Nat):R5 os t f (eb os k)=(List.range (nM os)).any fun j=>f (eb os j)&&gr os t j k:=by
 rw[zDp,zoJ ho hW hf,List.any_eq_true]
 constructor
 ·rintro⟨j,hj,a,b⟩
  exact⟨j,List.mem_range.mpr hj,by rw[a,b];rfl⟩
 ·rintro⟨j,hj,e⟩
  rw[zDa] at e
  exact⟨j,List.mem_range.mp hj,e.1,e.2⟩
theorem zeu {rs:List Rm}{k:Nat}{s:Sn}(m:Means rs k fun r=>s.val (zmH os r))(b:Nat):tB rs k b=s.val (wI os b):=by
 unfold tB
 rw[m.2]
 rfl
end
structure Gst (C:Addr)(K:Frag)(sc:Addr)(ns:List Int)(H1:Hp)(ol bk:Addr)(os:List Str)(m:Nat)(H:Hp)(rs:List Rm)(F:uF):Prop where
 led:JT C H1 bk os m H rs F
 hS:zM K H1 sc (ns.map V.int)
 hol:H1 ol=some (.lst (os.map V.str))
 ho:vH os
 hW:yt os
 hn:0<(yq os).length
section
variable {C:Addr}{K:Frag}{sc:Addr}{ns:List Int}{H1:Hp}{ol bk:Addr}{os:List Str}{m:Nat}{H H':Hp}{rs rs':List Rm}{F:uF}
theorem Gst.new (h:Gst C K sc ns H1 ol bk os m H rs F)(g:Same H H'):Gst C K sc ns H1 ol bk os m H' rs F:=⟨h.led.new g,h.hS,h.hol,h.ho,h.hW,h.hn⟩
theorem Gst.up {m':Nat}(h:Gst C K sc ns H1 ol bk os m H rs F)(g:m<=m'):Gst C K sc ns H1 ol bk os m' H rs F:=⟨h.led.up g,h.hS,h.hol,h.ho,h.hW,h.hn⟩
theorem Gst.B (h:Gst C K sc ns H1 ol bk os m H rs F):Bk os.length rs:=(xU C).bk h.led.bk
theorem Gst.grow {n:Nat}(h:Gst C K sc ns H1 ol bk os m H rs F)(aw:zqc F H H')(hB:yD C H' bk os rs' F)(hh:hiN os.length rs'<=hiN os.length rs+n):Gst C K sc ns H1 ol bk os (m+n) H' rs' F :=
 ⟨h.led.rise aw hB hh,h.hS,h.hol,h.ho,h.hW,h.hn⟩
theorem Gst.olL (h:Gst C K sc ns H1 ol bk os m H rs F):zM K H ol (os.map V.str):=zM.of (h.led.same _ _ h.hol)
theorem Gst.scL (h:Gst C K sc ns H1 ol bk os m H rs F):zM K H sc (ns.map V.int):=h.led.same.seq h.hS
end
theorem JT.made {C:Addr}{H0 H':Hp}{bk dx:Addr}{os:List Str}{F:uF}{o1 o2:HO}(hbk:H0 bk=none)(hdx:H0 dx=none)(hne:dx≠bk)(keep:∀x o,upd (upd H0 dx o1) bk o2 x=some o->x≠bk->H' x=some o)
  (hB:yD C H' bk os [none,none] F)(hF:∀x,F x->x=bk\/x=dx\/upd (upd H0 dx o1) bk o2 x=none):JT C H0 bk os 0 H' [none,none] F:=by
 refine⟨fun x o e=>keep x o (by rw[zJ (zE e hbk),zJ (zE e hdx)];exact e) (zE e hbk),fun x hx=>?_,hB,zCY _⟩
 rcases hF x hx with z | z | z
 ·rw[z];exact hbk
 ·rw[z];exact hdx
 ·by_cases e1:x=bk
  ·rw[e1] at z;rw[zj] at z;cases z
  ·by_cases e2:x=dx
   ·rw[e2,zJ hne,zj] at z;cases z
   ·rw[zJ e1,zJ e2] at z;exact z
theorem VB.all {os:List Str}{H:Hp}{s:Sn}{p:Addr}(h:VB (yq os) H s p):VB os H s p:=⟨h.is_,zqv (fun x hx=>(Xu hx).1) h.Ub,h.ct,h.dp⟩
def frs (os:List Str)(t f:Nat->Bool)(i:Nat):List Nat:=Qv os fun k=>(vJ os t f i).1 (eb os k)
structure TrA (os:List Str)(t f:Nat->Bool)(H0 H:Hp)(tl:Addr)(us:List Addr)(n:Nat):Prop where
 hl:H tl=some (.lst (us.map V.ref))
 pd:Paired (fun u i=>H u=some (.lst (zR (frs os t f i)))) us (List.range n)
 ne:∀i,i<n->∃k,k<nM os/\(vJ os t f i).1 (eb os k)=true
 fin:∀k,k<nM os->(vJ os t f n).1 (eb os k)=false
 le:n<=16
 fr:H0 tl=none
 fs:∀x∈us,H0 x=none
def zl5 (K:Frag):Sp:=fun vs H Q _=>∃(gl pl:Addr) (os:List Str) (t f:Nat->Bool) (H0:Hp) (ls:List Addr),vs=[.ref gl,.ref pl]/\vH os/\yt os/\(∀p∈zU os,Free os.length f p)/\GrA os t H0 H gl ls/\H pl=some (.lst (zR (Qv os fun k=>f (eb os k)))) /\
 ∀(tl:Addr) (us:List Addr) (n:Nat) (H':Hp),Same H H'->TrA os t f H H' tl us n->Q (.ref tl) H'
section
variable {os:List Str}{t f:Nat->Bool}
theorem zoK (ho:vH os)(hW:yt os)(hf:∀p∈zU os,Free os.length f p){i:Nat}{sn:List Nat}(h:∀x,x<nM os->(x∈sn↔((vJ os t f i).2 (eb os x)||(vJ os t f i).1 (eb os x))=true)) :
  (Qv os fun k=>(List.range (nM os)).any fun j=>(vJ os t f i).1 (eb os j)&&gr os t j k).filter (fun x=>!decide (x∈sn))=frs os t f (i+1):=by
 unfold Qv frs
 rw[List.filter_filter]
 refine List.filter_congr fun k hk=>?_
 have hk:=List.mem_range.mp hk
 rw[<-zqD ho hW fun p hp=>(Mt ho hW hf i p hp).1]
 show(!decide (k∈sn)&&R5 os t (vJ os t f i).1 (eb os k))=(R5 os t (vJ os t f i).1 (eb os k)&&!((vJ os t f i).2 (eb os k)||(vJ os t f i).1 (eb os k)))
 rw[Bool.and_comm]
 congr 2
 rw[zDp,decide_eq_true_iff]
 exact h k hk
theorem TrA.len {H0 H:Hp}{tl:Addr}{us:List Addr}{n:Nat}(ho:vH os)(hW:yt os)(hf:∀p∈zU os,Free os.length f p)(h:TrA os t f H0 H tl us n){Ns:List Nat}(r:zqw os t f Ns):Ns.length=n:=by
 rcases Nat.lt_trichotomy Ns.length n with z | z | z
 ·obtain⟨k,hk,e⟩:=h.ne _ z
  have q:=r.fin (eb os k)
  rw[e,decide_eq_true (zcQ os k)] at q
  rw[Nat.zero_testBit] at q
  cases q
 ·exact z
 ·exfalso
  obtain⟨x,y⟩:=r.tab n Ns[n] (zCJ z)
  have z0:=(zqB ho hW fun p hp=>(Mt ho hW hf n p hp).1).mp h.fin
  refine y (QS fun b=>?_)
  rw[x b,Nat.zero_testBit]
  by_cases c:b<2^os.length
  ·rw[z0 b c,Bool.and_false]
  ·rw[decide_eq_false c];rfl
end
section
variable {os:List Str}{t f g g':Nat->Bool}
theorem TrA.at {H0 H:Hp}{tl:Addr}{us:List Addr}{n:Nat}(h:TrA os t f H0 H tl us n){i:Nat}{u:Addr}(hu:us[i]?=some u):i<n/\H u=some (.lst (zR (Zk.frs os t f i))):=by
 obtain⟨j,hj,z⟩:=Yr h.pd hu
 have il:=(zCL.mp hj).1
 rw[zC0] at il
 rw[List.getElem?_range il] at hj
 cases hj
 exact⟨il,z⟩
theorem TrA.ul {H0 H:Hp}{tl:Addr}{us:List Addr}{n:Nat}(h:TrA os t f H0 H tl us n):us.length=n:=by
 have:=xT h.pd
 rwa [zC0] at this
theorem TrA.same {H0 H H':Hp}{tl:Addr}{us:List Addr}{n:Nat}(h:TrA os t f H0 H tl us n)(s:Same H H'):TrA os t f H0 H' tl us n:=⟨s _ _ h.hl,vm (fun _ _ z=>s _ _ z) h.pd,h.ne,h.fin,h.le,h.fr,h.fs⟩
end
theorem zgF {σ:St}{js:List Nat}{te:TE}{H:Hp}{Qf:Addr->Hp->List V->Prop}{n:Nat}(hz:n<=sizeLine)
  (hte:∀(i:Nat) H' (Q:V->Hp->Prop),i<n->Same H H'->(∀H3,Same H' H3->Q (.bl true) H3)->te (Z1 σ js (some (.int ((0:Int)+i)))) H' Q)
  (hd:∀H' p,Same H H'->H' p=none->Qf p H' ((List.replicate n true).map V.bl)) :
  ∃W:Nat->Nat->List V->Hp->Prop,(∃m,W 0 m [] H)/\∀i m ys H,W i m ys H ->
   ((Itr 0 n).stop i H/\∀p,H p=none->Qf p H ys) \/
   ((Itr 0 n).go i H/\ys.length<sizeLine/\∀x H',(Itr 0 n).JG i H x H'->zdX (Z1 σ js (some x)) H' fun b H2 =>
    if b=true then te (Z1 σ js (some x)) H2 fun v H3=>∃m',m'<m/\W (i+1) m' (ys++[v]) H3 else ∃m',m'<m/\W (i+1) m' ys H2):=by
 refine⟨fun i m ys H'=>m=n-i/\i<=n/\Same H H'/\ys=(List.replicate i true).map V.bl,⟨n,by simp,zC5 _,Same.refl _,rfl⟩,?_⟩
 rintro i m ys H1 ⟨rfl,hi,g,rfl⟩
 by_cases hlt:i<n
 ·refine .inr ⟨hlt,by rw[zCI,List.length_replicate];omega,fun x H' y=>?_⟩
  obtain⟨e,y⟩:=y
  subst e y
  refine hte i _ _ hlt g fun H3 g3=>⟨_,Nat.sub_lt_sub_left hlt (Nat.lt_succ_self i),rfl,hlt,g.trans g3,?_⟩
  rw[List.replicate_succ',zCW]
  rfl
 ·have e:i=n:=by omega
  subst e
  exact .inl ⟨zCY _,fun l hl=>hd _ l g hl⟩
theorem R9 (n:Nat):(List.replicate n true).all id=true:=by
 rw[zDc]
 intro x hx
 exact(List.mem_replicate.mp hx).2
end Zk
namespace L2
open PySem PySem.Spec PyProof.Rows
theorem zsb:bootBuiltins "any"=some (.builtin "any"):=by decide +kernel
theorem zfy (bs:List Bool):((List.range bs.length).any fun i=>(bs[i]?).getD true)=bs.any id:=by
 rw[zDp,List.any_eq_true,List.any_eq_true]
 constructor
 ·rintro⟨i,hi,e⟩
  have hi':=List.mem_range.mp hi
  rw[zCJ hi',Option.getD_some] at e
  exact⟨_,zDq hi',e⟩
 ·rintro⟨b,hb,e⟩
  obtain⟨i,hi,eb⟩:=zDr hb
  refine⟨i,List.mem_range.mpr hi,?_⟩
  rw[zCJ hi,Option.getD_some,eb]
  exact e
section
variable {X:Cx}
theorem zoL (hc:X.calm=true):Wm X (.builtin "any") (fun xs H Q=>∃(p:Addr) (bs:List Bool),xs=[.ref p]/\zM X.K H p (bs.map V.bl)/\Q (.bl (bs.any id)) H):=by
 intro pins s σ H xs us Q I r h
 obtain⟨p,bs,rfl,hq,q⟩:=h
 obtain⟨u,rfl,rx⟩:=vals1 r
 cases rx
 obtain⟨its,r',pl,hz⟩:=I.list hq
 have hlen:bs.length=its.length:=by have:=r'.length;rw[zCI] at this;exact this
 have hlt:p<s.heap.objs.size:=by obtain⟨_,e,_⟩:=pl.isList;exact zCP e
 refine call_any_walk (wpAny_pyIter_list pl.isList ?_)
 refine⟨s.heap.objs.size,[s.heap.objs.size,p],[s.heap.objs.size],its.toArray.size,_,_,fun i=>(bs[i]?).getD true,rfl,Walks.list (A:=X.A.in1) (I.ok.hd hc) _ p (zCX hlt) its.toArray,
  ⟨⟨_,zC3 _ rfl,rfl,rfl⟩,pl.isList.push _⟩,fun i v s' Q' E' hP hQ=>?_,fun h' tk hk=>?_⟩
 ·have hP':its[i]?=some v:=by simpa using hP
  have hi:i<bs.length:=by
   have:=(zCL.mp hP').1
   omega
  obtain⟨w,hw,rw'⟩:=r'.get (i:=i) (x:=.bl bs[i]) (by rw[zCK,zCJ hi];rfl)
  rw[hP'] at hw
  cases hw
  cases rw'
  simp only[zCJ hi,Option.getD_some] at hQ
  exact wpAny_truthy_bool hQ
 ·have kp:∀b o,s.heap.get? b=some o->h'.get? b=some o:=fun b o e=>hk b o (fun hm=>by
   rw[List.mem_singleton.mp hm] at e
   exact Nat.lt_irrefl _ (zCP e)) (zCO _ e)
  refine⟨.bl _,H,I.kept kp,rfl,?_⟩
  rw[zCS,<-hlen,zfy]
  exact q
end
section
variable {K:Frag}{σ:St}{js:List Nat}{te:TE}{H:Hp}{Qf:Addr->Hp->List V->Prop}
open Zk
theorem zqE {a:Addr}{xs:List V}(f:V->V)(hq:zM K H a xs)(hz:xs.length<=sizeLine)
  (hs:∀(i:Nat) x H' (Q:V->Hp->Prop),xs[i]?=some x->Same H H'->(∀H3,Same H' H3->Q (f x) H3)->te (Z1 σ js (some x)) H' Q)
  (hd:∀H' p,Same H H'->H' p=none->Qf p H' (xs.map f)) :
  ∃W:Nat->Nat->List V->Hp->Prop,(∃m,W 0 m [] H)/\∀i m ys H,W i m ys H ->
   ((Itl K a).stop i H/\∀p,H p=none->Qf p H ys) \/
   ((Itl K a).go i H/\ys.length<sizeLine/\∀x H',(Itl K a).JG i H x H'->zdX (Z1 σ js (some x)) H' fun b H2 =>
    if b=true then te (Z1 σ js (some x)) H2 fun v H3=>∃m',m'<m/\W (i+1) m' (ys++[v]) H3 else ∃m',m'<m/\W (i+1) m' ys H2):=by
 refine R8 (xs:=xs) (fun i ys H'=>Same H H'/\ys=(xs.take i).map f) ⟨Same.refl _,rfl⟩ hz ?_ ?_ ?_
 ·rintro i ys H' hi ⟨g,rfl⟩
  exact⟨g.seq hq,by rw[zCI,zC6];omega⟩
 ·rintro i x ys H' Q0 hx ⟨g,rfl⟩ hQ
  refine hs i x H' Q0 hx g fun H3 g3=>hQ _ _ ⟨g.trans g3,?_⟩
  rw[yW hx,zCW]
  rfl
 ·rintro ys H' p ⟨g,rfl⟩ hp
  rw[zDb]
  exact hd H' p g hp
end
end L2
namespace Zk
open PySem L2 wK
section
variable (C:Addr)(K:Frag)
def zaR (os:List Str)(H:Hp)(rl:Addr)(ps:List Addr):Prop:=H rl=some (.lst (ps.map V.ref))/\Paired (fun p r=>H p=some (.lst (yd r))) ps (allR (yq os).length)
end
theorem zaR.same {os:List Str}{H H':Hp}{rl:Addr}{ps:List Addr}(h:zaR os H rl ps)(g:Same H H'):zaR os H' rl ps:=⟨g _ _ h.1,vm (fun _ _ z=>g _ _ z) h.2⟩
theorem zaR.len {os:List Str}{H:Hp}{rl:Addr}{ps:List Addr}(h:zaR os H rl ps):ps.length=nM os:=by
 have:=xT h.2
 rwa [vZ] at this
theorem zaR.at {os:List Str}{H:Hp}{rl:Addr}{ps:List Addr}(h:zaR os H rl ps){i:Nat}{p:Addr}(e:ps[i]?=some p):H p=some (.lst (yd (Wk os i)))/\i<nM os:=by
 obtain⟨r,hr,z⟩:=Yr h.2 e
 refine⟨?_,by rw[<-h.len];exact(zCL.mp e).1⟩
 unfold Wk
 rw[zCV,hr]
 exact z
section
variable {os:List Str}{t f:Nat->Bool}
theorem QT {xs:List Nat}{j x:Nat}(h:xs[j]?=some x):(zR xs)[j]?=some (.int (x:Nat)):=by unfold zR;rw[zCK,h];rfl
end
def hv (os:List Str)(r:List Bool):Nat->Bool:=hav ((yg os).zip r)
def zcR (C:Addr)(K:Frag):Sp:=fun vs H Q _=>∃(b rl:Addr) (os:List Str) (rs:List Rm) (F:uF) (k i j:Nat) (ps:List Addr) (rr:List (List Bool)),vs=[.ref b,.int (k:Nat),.int (i:Nat),.int (j:Nat),.ref rl]/\yD C H b os rs F/\yt os/\k<rs.length/\zaH os rs i/\zaH os rs j/\H rl=some (.lst (ps.map V.ref))/\Paired (JW H) ps rr/\(∀r∈rr,r.length=(yq os).length)/\rr.length<=300 /\
 (∃r,rr[0]?=some r/\∃c,c<2^os.length/\hv os r c=true/\tB rs i c=true)/\(∃r,rr[rr.length-1]?=some r/\∃c,c<2^os.length/\hv os r c=true/\tB rs j c=true) /\
 (∀(x:Nat) r r',rr[x]?=some r->rr[x+1]?=some r'->∃c,c<2^os.length/\R5 os (tB rs k) (hv os r) c=true/\hv os r' c=true)/\∀H',Same H H'->Q (.bl true) H'
theorem zkl {n N M:Nat}{f g:Nat->Bool}(a:zX n N f)(b:zX n M g)(h:∃c,c<2^n/\f c=true/\g c=true):N&&&M≠0:=fun e=>by
 obtain⟨c,hc,x,y⟩:=h
 have z:=zdE a b c
 dsimp only at z
 rw[e,Nat.zero_testBit,decide_eq_true hc,x,y] at z
 cases z
end Zk
namespace L2
open PySem PySem.Spec PyProof.Rows
theorem zl6:bootBuiltins "repr"=some (.builtin "repr"):=by decide +kernel
def zaS (r:List Bool):PyData:=.list (r.map fun b=>.int ((b.toNat:Nat):Int))
def zrd (rr:List (List Bool)):PyData:=.list (rr.map zaS)
def shR (rr:List (List Bool)):Str:=(zrd rr).shown
theorem zkm (b:Bool):(PyData.int ((b.toNat:Nat):Int)).weight<=1:=by cases b<;>decide
theorem zgG:∀(r:List Bool),PyData.showableAll (r.map fun b=>.int ((b.toNat:Nat):Int))=true/\PyData.hasDictAll (r.map fun b=>.int ((b.toNat:Nat):Int))=false/\PyData.depthAll (r.map fun b=>.int ((b.toNat:Nat):Int))<=1/\PyData.leavesShortAll 13 (r.map fun b=>.int ((b.toNat:Nat):Int))=true/\PyData.weightAll (r.map fun b=>.int ((b.toNat:Nat):Int))<=2*r.length
 | []=>⟨rfl,rfl,zC5 _,rfl,zC5 _⟩
 | b::r=>by
  obtain⟨a1,a2,a3,a4,a5⟩:=zgG r
  have w:=zkm b
  refine⟨?_,?_,?_,?_,?_⟩
  ·simp only[zC7,PyData.showableAll,a1,Bool.and_true]
   cases b<;>decide
  ·simp only[zC7,PyData.hasDictAll,a2,PyData.hasDict,Bool.or_false]
  ·simp only[zC7,PyData.depthAll,PyData.depth]
   omega
  ·simp only[zC7,PyData.leavesShortAll,a4,Bool.and_true,PyData.leavesShort]
   refine decide_eq_true ?_
   exact PyData.shown_int_le (by cases b<;>decide)
  ·simp only[zC7,PyData.weightAll,zCU]
   omega
theorem zew:∀(rr:List (List Bool)),(∀r∈rr,r.length<=8)->PyData.showableAll (rr.map zaS)=true/\PyData.hasDictAll (rr.map zaS)=false/\PyData.depthAll (rr.map zaS)<=2/\PyData.leavesShortAll 13 (rr.map zaS)=true/\PyData.weightAll (rr.map zaS)<=17*rr.length
 | [],_=>⟨rfl,rfl,zC5 _,rfl,zC5 _⟩
 | r::rr,h=>by
  obtain⟨a1,a2,a3,a4,a5⟩:=zew rr fun x hx=>h x (zCT _ hx)
  obtain⟨b1,b2,b3,b4,b5⟩:=zgG r
  have lr:=h r zC2
  refine⟨?_,?_,?_,?_,?_⟩
  ·simp only[zC7,PyData.showableAll,a1,Bool.and_true,zaS,PyData.showable,b1]
  ·simp only[zC7,PyData.hasDictAll,a2,zaS,PyData.hasDict,b2,Bool.or_false]
  ·simp only[zC7,PyData.depthAll,zaS,PyData.depth]
   omega
  ·simp only[zC7,PyData.leavesShortAll,a4,Bool.and_true,zaS,PyData.leavesShort,b4]
  ·simp only[zC7,PyData.weightAll,zCU,zaS,PyData.weight]
   omega
theorem zgH {h:Heap}:∀{r:List Bool} {us:List Value},Vals (Zk.yd r) us->∃as,ReadsAll h us (r.map fun b=>.int ((b.toNat:Nat):Int)) as
 | [],_,.nil=>⟨_,.nil⟩
 | b::r,_,.cons e t=>by
  obtain⟨as,z⟩:=zgH t
  obtain⟨tk,rfl⟩:=e
  exact⟨_,.cons (.int _ _) z⟩
section
variable {X:Cx}
theorem Jg (hg:X.A.guards=some [])(hu:X.A.units+9<cLine):Wm X (.builtin "repr") (fun xs H Q=>∃(p:Addr) (ps:List Addr) (rr:List (List Bool)),xs=[.ref p]/\H p=some (.lst (ps.map V.ref))/\Paired (Zk.JW H) ps rr/\rr.length<=300/\(∀r∈rr,r.length<=8)/\Q (.str (shR rr)) H):=by
 intro pins s σ H xs us Q I r h
 obtain⟨p,ps,rr,rfl,hp,pr,l3,l8,q⟩:=h
 obtain⟨u,rfl,rx⟩:=vals1 r
 cases rx
 obtain⟨hz,its,c,rv,hl⟩:=(show vV X.prog X.w H s.heap p (.lst (ps.map V.ref)) from I.hok p _ hp)
 have all:∃as,ReadsAll s.heap its (rr.map zaS) as:=by
  clear hp q hl hz c l3 l8
  induction pr generalizing its with
  | nil=>cases rv;exact⟨_,.nil⟩
  | @cons t r ps rr ht _ ih =>
   cases rv with
   | @cons _ u _ us ru rv' =>
    cases ru
    obtain⟨as,z⟩:=ih us rv'
    obtain⟨_,ks,c2,rk,hk⟩:=(show vV X.prog X.w H s.heap t (.lst (Zk.yd r)) from I.hok t _ ht)
    obtain⟨bs,y⟩:=zgH (h:=s.heap) rk
    exact⟨_,.cons (.list hk rfl rfl (by simpa using y)) z⟩
 obtain⟨as,z⟩:=all
 obtain⟨f1,f2,f3,f4,f5⟩:=zew rr l8
 have rd:Reads s.heap (.ref p) (zrd rr) (p::as):=.list hl rfl rfl (by simpa using z)
 refine repr_of_reads' rd (by show PyData.showableAll _=true;exact f1) (PyData.noDict_hsm (by show PyData.hasDictAll _=false;exact f2)) hg (by show X.A.units+(PyData.depthAll (rr.map zaS)+1+1)<cLine;omega) (fun _ _ e=>e) (fun h' u tk k=>?_) (PyData.shown_fits (B:=13) (by decide) (by decide) (by show PyData.leavesShortAll 13 _=true;exact f4) (by show PyData.weightAll (rr.map zaS)<=2^20;have:2^20=1048576:=rfl;omega))
 exact⟨.str (shR rr),H,I.kept k,⟨u,rfl⟩,q⟩
end
end L2
namespace L2
open PySem
section
variable {K:Frag}{σ:St}{js:List Nat}{te:TE}{H:Hp}{Qf:Addr->Hp->List V->Prop}
theorem zbG {a:Addr}{xs:List V}(hq:zM K H a xs)(hz:xs.length<=sizeLine)
  (hs:∀(i:Nat) x H' (Q:V->Hp->Prop),xs[i]?=some x->Same H H'->(∀H3,Same H' H3->Q (.bl true) H3)->te (Z1 σ js (some x)) H' Q)
  (hd:∀H' p,Same H H'->H' p=none->Qf p H' ((List.replicate xs.length true).map V.bl)) :
  ∃W:Nat->Nat->List V->Hp->Prop,(∃m,W 0 m [] H)/\∀i m ys H,W i m ys H ->
   ((Itl K a).stop i H/\∀p,H p=none->Qf p H ys) \/
   ((Itl K a).go i H/\ys.length<sizeLine/\∀x H',(Itl K a).JG i H x H'->zdX (Z1 σ js (some x)) H' fun b H2 =>
    if b=true then te (Z1 σ js (some x)) H2 fun v H3=>∃m',m'<m/\W (i+1) m' (ys++[v]) H3 else ∃m',m'<m/\W (i+1) m' ys H2):=by
 refine R8 (xs:=xs) (fun i ys H'=>Same H H'/\ys=(List.replicate i true).map V.bl) ⟨Same.refl _,rfl⟩ hz ?_ ?_ ?_
 ·rintro i ys H' hi ⟨g,rfl⟩
  exact⟨g.seq hq,by rw[zCI,List.length_replicate];exact zCY _⟩
 ·rintro i x ys H' Q0 hx ⟨g,rfl⟩ hQ
  refine hs i x H' Q0 hx g fun H3 g3=>hQ _ _ ⟨g.trans g3,?_⟩
  rw[List.replicate_succ',zCW]
  rfl
 ·rintro ys H' p ⟨g,rfl⟩ hp
  exact hd H' p g hp
end
end L2
namespace Zk
open PySem L2 wK
def ziS (K:Frag):Sp:=fun vs H Q _=>∃(rl gl pl ql fl:Addr) (os:List Str) (t P G:Nat->Bool) (H0:Hp) (ls ps ws:List Addr) (rr:List (List Bool)) (hs:List Nat),vs=[.ref rl,.ref gl,.ref pl,.ref ql,.ref fl]/\zaR os H rl ps/\GrA os t H0 H gl ls/\H pl=some (.lst (zR (Qv os P)))/\H ql=some (.lst (zR (Qv os G)))/\H fl=some (.lst (ws.map V.ref))/\Paired (JW H) ws rr/\Paired (fun r x=>x<nM os/\Wk os x=r) rr hs/\hs.length<=300 /\
 (∃x,hs[0]?=some x/\P x=true)/\(∃x,hs[hs.length-1]?=some x/\G x=true)/\(∀(i x y:Nat),hs[i]?=some x->hs[i+1]?=some y->gr os t x y=true)/\∀H',Same H H'->Q (.bl true) H'
theorem zqF (n:Nat):(allR n).Nodup:=(zgs n).imp fun {a b} h e=>by
 subst e
 have:∀r:List Bool,Nf r r=false:=by
  intro r
  induction r with
  | nil=>rfl
  | cons x r ih=>cases x<;>simpa [Nf] using ih
 rw[this] at h
 cases h
theorem zl7 {os:List Str}{x y:Nat}(hx:x<nM os)(hy:y<nM os)(e:Wk os x=Wk os y):x=y:=by
 unfold Wk at e
 have lx:x<(allR (yq os).length).length:=by rw[vZ];exact hx
 have ly:y<(allR (yq os).length).length:=by rw[vZ];exact hy
 rw[zCV,zCV,zCJ lx,zCJ ly] at e
 exact(List.getElem_inj (zqF _)).mp e
end Zk
namespace L2
open PySem
theorem zmT {X:Cx}{K:Frag}(h:X.K=K)(hc:X.calm=true):Wm X (.builtin "any") (fun xs H Q=>∃(p:Addr) (bs:List Bool),xs=[.ref p]/\zM K H p (bs.map V.bl)/\Q (.bl (bs.any id)) H):=by
 subst h
 exact zoL hc
end L2
namespace Zk
open PySem L2 wK
def Sh (os:List Str)(t f g:Nat->Bool)(m:Nat):List (List Bool):=(K4 os t ((List.range m).map fun d=>(vJ os t f d).1).reverse (fvP os.length (fun b=>(vJ os t f m).1 b&&g b) (yg os))).reverse
section
variable {os:List Str}{t f g:Nat->Bool}(ho:vH os)(hW:yt os)
include ho hW
theorem ziT {m:Nat}(hf:∀p∈zU os,Free os.length f p)(M:Meet os t f g m) :
  (Sh os t f g m).length=m+1/\(∃r,(Sh os t f g m)[0]?=some r/\∃c,c<2^os.length/\hv os r c=true/\f c=true)/\(∃r,(Sh os t f g m)[(Sh os t f g m).length-1]?=some r/\∃c,c<2^os.length/\hv os r c=true/\g c=true) /\
   (∀(x:Nat) r r',(Sh os t f g m)[x]?=some r->(Sh os t f g m)[x+1]?=some r'->∃c,c<2^os.length/\R5 os t (hv os r) c=true/\hv os r' c=true):=by
 obtain⟨b,hb,b1,b2⟩:=M.1
 obtain⟨d,hd,d1,d2⟩:=zke (yg os) (fun b=>(vJ os t f m).1 b&&g b) (zhi ho hW) Xq ⟨b,hb,by rw[b1,Bool.true_and];exact b2⟩
 obtain⟨d3,d4⟩:=(zDa _ _).mp d1
 obtain⟨a1,z,a2,c0,hc0,f0,v0⟩:=zl1 ho hW hf m _ ⟨d,hd,d3,d2⟩
 have wl:=ziK os t ((List.range m).map fun d=>(vJ os t f d).1).reverse (fvP os.length (fun b=>(vJ os t f m).1 b&&g b) (yg os))
 obtain⟨L,eL⟩:=zgC (os:=os) (t:=t) ((List.range m).map fun d=>(vJ os t f d).1).reverse (fvP os.length (fun b=>(vJ os t f m).1 b&&g b) (yg os))
 rw[List.length_reverse,zCI,zC0] at wl
 unfold Sh
 refine⟨by rw[List.length_reverse];exact wl,⟨z,?_,c0,hc0,v0,f0⟩,⟨fvP os.length (fun b=>(vJ os t f m).1 b&&g b) (yg os),?_,d,hd,d2,d4⟩,fun x r r' e1 e2=>?_⟩
 ·rw[List.getElem?_reverse (by omega),<-a2,List.getLast?_eq_getElem?]
  rfl
 ·rw[List.length_reverse,List.getElem?_reverse (by omega),eL]
  rw[show(fvP os.length (fun b=>(vJ os t f m).1 b&&g b) (yg os)::L).length-1-((fvP os.length (fun b=>(vJ os t f m).1 b&&g b) (yg os)::L).length-1)=0 by omega]
  rfl
 ·have back:∀(W:List (List Bool)) (y:Nat) (u v:List Bool),zhl os t W->W[y]?=some u->W[y+1]?=some v->zrc os t v u:=by
   intro W
   induction W with
   | nil=>intro y u v _ e;simp at e
   | cons w W ih =>
    intro y u v B e e'
    cases W with
    | nil=>simp at e'
    | cons w2 W =>
     cases y with
     | zero =>
      have q1:w=u:=by simpa using e
      have q2:w2=v:=by simpa using e'
      rw[<-q1,<-q2]
      exact B.1
     | succ y=>exact ih y u v B.2 (by simpa using e) (by simpa using e')
  have lx:=(zCL.mp e2).1
  rw[List.length_reverse] at lx
  rw[List.getElem?_reverse (by omega)] at e1 e2
  rw[wl] at e1 e2 lx
  exact back _ _ r' r a1 e2 (by rw[show m+1-1-(x+1)+1=m+1-1-x by omega];exact e1)
omit ho hW in
theorem ziU (m:Nat):∀r∈Sh os t f g m,r.length=(yq os).length:=fun r hr=>by
 have ll:∀(fs:List (Nat->Bool)) (r:List Bool),r.length=(yg os).length->∀x∈K4 os t fs r,x.length=(yg os).length:=by
  intro fs
  induction fs with
  | nil =>
   intro r h x hx
   have:x=r:=by simpa [K4] using hx
   rw[this];exact h
  | cons g fs ih =>
   intro r h x hx
   rcases List.mem_cons.mp (show x∈r::K4 os t fs _ from hx) with z | z
   ·rw[z];exact h
   ·exact ih _ (zaN _ _ _) x z
 rw[ll _ _ (zaN _ _ _) r (List.mem_reverse.mp hr)]
 exact zCI _
theorem zl8 {x b:Nat}(hx:x<nM os)(h:hv os (Wk os x) b=true):∀i,i<4->xM i∈os->b.testBit (ix os (xM i))=(eb os x).testBit (ix os (xM i)):=fun i hi hn=>by
 obtain⟨p,hp⟩:=zgE ho hW hi hn
 rw[Mu ho hW hp]
 unfold hv hav at h
 rw[zDc] at h
 have pl:=(zCL.mp hp).1
 have e1:(yg os)[p]?=some (ix os (xM i)):=by unfold yg;rw[Xv,zCK,zCK,hp];rfl
 have l1:(Wk os x).length=(yq os).length:=Kd hx
 have l2:(yq os).length=(nis os).length:=by rw[Xv,zCI]
 have pr:p<(Wk os x).length:=by omega
 have m:(ix os (xM i),(Wk os x)[p])∈(yg os).zip (Wk os x):=zCN (i:=p) (List.getElem?_zip_eq_some.mpr ⟨e1,zCJ pr⟩)
 have z:=h _ m
 rw[beq_iff_eq] at z
 rw[z,zCV,zCJ pr]
 rfl
theorem zoM {x b:Nat}(hx:x<nM os)(hb:b<2^os.length)(h:hv os (Wk os x) b=true)(hf:∀p∈zU os,Free os.length f p):f b=f (eb os x):=zaQ ho hW hf hb (zcQ os x) (zl8 ho hW hx h)
theorem zoN {x y:Nat}(hx:x<nM os)(hy:y<nM os)(h:hv os (Wk os x) (eb os y)=true):y=x:=by
 refine zl7 hy hx (List.ext_getElem? fun p=>?_)
 have l1:(Wk os x).length=(yq os).length:=Kd hx
 have l3:(Wk os y).length=(yq os).length:=Kd hy
 have l2:(yq os).length=(nis os).length:=by rw[Xv,zCI]
 by_cases c:p<(nis os).length
 ·have hp:(nis os)[p]?=some (nis os)[p]:=zCJ c
  obtain⟨hi,hn,_⟩:=zes ho hW hp
  have z:=zl8 ho hW hx h _ hi hn
  rw[Mu ho hW hp,Mu ho hW hp,zCV,zCV,zCJ (by omega),zCJ (by omega)] at z
  rw[zCJ (by omega),zCJ (by omega)]
  exact congrArg some z
 ·rw[zDi (by omega),zDi (by omega)]
theorem zoO {x y:Nat}(hx:x<nM os)(hy:y<nM os)(h:∃c,c<2^os.length/\R5 os t (hv os (Wk os x)) c=true/\hv os (Wk os y) c=true):gr os t x y=true:=by
 obtain⟨c,hc,h1,h2⟩:=h
 have fr:∀p∈zU os,Free os.length (hv os (Wk os x)) p:=zeq ho _
 have z:=zoM ho hW hy hc h2 fun p hp=>ziG (t:=t) ho hW (hv os (Wk os x)) p hp
 rw[h1] at z
 obtain⟨j,hj,a,b⟩:=(zoJ ho hW fr y).mp z.symm
 rw[zoN ho hW hx hj a] at b
 exact b
theorem zoP {m:Nat}(hf:∀p∈zU os,Free os.length f p)(hg:∀p∈zU os,Free os.length g p)(M:Meet os t f g m):∃hs:List Nat,Paired (fun r x=>x<nM os/\Wk os x=r) (Sh os t f g m) hs/\hs.length=m+1 /\
  (∃x,hs[0]?=some x/\f (eb os x)=true)/\(∃x,hs[hs.length-1]?=some x/\g (eb os x)=true)/\∀(i x y:Nat),hs[i]?=some x->hs[i+1]?=some y->gr os t x y=true:=by
 obtain⟨l,⟨r0,e0,c0,hc0,v0,f0⟩,⟨r1,e1,c1,hc1,v1,f1⟩,st⟩:=ziT ho hW hf M
 have ex:∀(rr:List (List Bool)),(∀r∈rr,r.length=(yq os).length)->∃hs:List Nat,Paired (fun r x=>x<nM os/\Wk os x=r) rr hs:=by
  intro rr
  induction rr with
  | nil=>intro _;exact⟨[],.nil⟩
  | cons r rr ih =>
   intro h
   obtain⟨hs,p⟩:=ih fun x hx=>h x (zCT _ hx)
   obtain⟨k,hk,e⟩:=zkj (h r zC2)
   exact⟨k::hs,.cons ⟨hk,e⟩ p⟩
 obtain⟨hs,pd⟩:=ex _ (ziU (os:=os) (t:=t) (f:=f) (g:=g) m)
 have lh:hs.length=m+1:=by rw[<-xT pd];exact l
 refine⟨hs,pd,lh,?_,?_,fun i x y hx hy=>?_⟩
 ·obtain⟨x,hx,lx,ex⟩:=Yr pd e0
  subst ex
  exact⟨x,hx,by rw[<-zoM ho hW lx hc0 v0 hf];exact f0⟩
 ·rw[l] at e1
  obtain⟨x,hx,lx,ex⟩:=Yr pd e1
  subst ex
  exact⟨x,by rw[lh];exact hx,by rw[<-zoM ho hW lx hc1 v1 hg];exact f1⟩
 ·have l1:=(zCL.mp hx).1
  have l2:=(zCL.mp hy).1
  obtain⟨x',hx',lx,ex⟩:=Yr pd (zCJ (show i<(Sh os t f g m).length by omega))
  obtain⟨y',hy',ly,ey⟩:=Yr pd (zCJ (show i+1<(Sh os t f g m).length by omega))
  rw[hx] at hx'
  rw[hy] at hy'
  cases hx'
  cases hy'
  refine zoO ho hW lx ly ?_
  have z:=st i _ _ (zCJ (show i<(Sh os t f g m).length by omega)) (zCJ (show i+1<(Sh os t f g m).length by omega))
  rw[ex,ey]
  exact z
omit ho hW in
theorem Meet.one {m n:Nat}(a:Meet os t f g m)(b:Meet os t f g n):m=n:=by
 have key:∀{m n:Nat},Meet os t f g m->Meet os t f g n->¬m<n:=fun {m n} a b h=>by
  obtain⟨c,hc,x,y⟩:=a.1
  rw[b.2 m h c hc x] at y
  cases y
 rcases Nat.lt_trichotomy m n with z | z | z
 ·exact absurd z (key a b)
 ·exact z
 ·exact absurd z (key b a)
def mtB (os:List Str)(t f g:Nat->Bool)(i:Nat):Bool:=(frs os t f i).any fun x=>decide (x∈Qv os fun k=>g (eb os k))
theorem zl9 (hf:∀p∈zU os,Free os.length f p)(hg:∀p∈zU os,Free os.length g p)(i:Nat):mtB os t f g i=true↔∃b,b<2^os.length/\(vJ os t f i).1 b=true/\g b=true:=by
 have fi:=fun p hp=>(Mt (t:=t) ho hW hf i p hp).1
 unfold mtB frs Qv
 rw[List.any_eq_true]
 constructor
 ·rintro⟨x,hx,e⟩
  have e:=of_decide_eq_true e
  exact⟨eb os x,zcQ os x,(List.mem_filter.mp hx).2,(List.mem_filter.mp e).2⟩
 ·rintro⟨b,hb,h1,h2⟩
  have fh:∀p∈zU os,Free os.length (fun b=>(vJ os t f i).1 b&&g b) p:=fun p hp b hb v=>by
   show((vJ os t f i).1 _&&g _)=((vJ os t f i).1 _&&g _)
   rw[fi p hp b hb v,hg p hp b hb v]
  obtain⟨k,hk,e⟩:=zl3 ho hW fh hb
  have e:((vJ os t f i).1 (eb os k)&&g (eb os k))=((vJ os t f i).1 b&&g b):=e
  rw[h1,h2] at e
  obtain⟨a1,a2⟩:=(zDa _ _).mp e
  exact⟨k,List.mem_filter.mpr ⟨List.mem_range.mpr hk,a1⟩,decide_eq_true (List.mem_filter.mpr ⟨List.mem_range.mpr hk,a2⟩)⟩
theorem ziW (hf:∀p∈zU os,Free os.length f p)(hg:∀p∈zU os,Free os.length g p){n:Nat}(h:∀m,m<n->∀b,b<2^os.length->(vJ os t f m).1 b=true->g b=false):(List.range n).filter (mtB os t f g)=[]:=by
 refine List.filter_eq_nil_iff.mpr fun i hi e=>?_
 obtain⟨b,hb,h1,h2⟩:=(zl9 ho hW hf hg i).mp e
 rw[h i (List.mem_range.mp hi) b hb h1] at h2
 cases h2
theorem zoQ (hf:∀p∈zU os,Free os.length f p)(hg:∀p∈zU os,Free os.length g p){n m:Nat}(hm:m<n)(M:Meet os t f g m):∃L,(List.range n).filter (mtB os t f g)=m::L:=by
 have e:List.range n=List.range m++m::(List.range (n-m-1)).map fun x=>m+1+x:=by
  refine List.ext_getElem (by simp;omega) fun i h1 h2=>?_
  rw[List.getElem_range]
  rcases Nat.lt_trichotomy i m with z | z | z
  ·rw[List.getElem_append_left (by rw[zC0];exact z),List.getElem_range]
  ·subst z
   rw[List.getElem_append_right (by rw[zC0];exact zCY _)]
   simp
  ·rw[List.getElem_append_right (by rw[zC0];omega)]
   rw[List.getElem_cons,dif_neg (by rw[zC0];omega),List.getElem_map,List.getElem_range,zC0]
   omega
 have e2:=ziW (t:=t) ho hW hf hg M.2
 rw[e,zDn,e2,List.nil_append,List.filter_cons,if_pos ((zl9 ho hW hf hg m).mpr M.1)]
 exact⟨_,rfl⟩
end
def ziX (os:List Str)(H:Hp)(rs:List Rm)(x:V):Prop:=∃(t p q z:Addr) (kw:Nat) (s1 s2 s3:Sn),x=.ref t/\H t=some (.tup [.ref p,.int (kw:Nat),.ref q,.ref z])/\VB os H s1 p/\VB (yq os) H s2 q/\VB (yq os) H s3 z/\Means rs kw fun r=>s1.val (zmH os r)
theorem ziX.grow {os:List Str}{H H':Hp}{rs rs':List Rm}(B:Bk os.length rs)(tu:yC H H')(gr:tG rs rs'){x:V}(h:ziX os H rs x):ziX os H' rs' x:=by
 obtain⟨t,p,q,z,kw,s1,s2,s3,e,h1,h2,h3,h5,h4⟩:=h
 exact⟨t,p,q,z,kw,s1,s2,s3,e,tu _ _ h1,h2.mono tu,h3.mono tu,h5.mono tu,h4.grown B gr⟩
def zgI (C:Addr):Sp:=fun vs H Q _=>∃(b rm gl pl ql:Addr) (os:List Str) (rs:List Rm) (F:uF) (kw ki kj:Nat) (H0:Hp) (ls:List Addr),vs=[.ref b,.int (kw:Nat),.ref rm,.ref gl,.ref pl,.ref ql]/\yD C H b os rs F/\yt os/\kw<rs.length/\zaH os rs ki/\zaH os rs kj/\H rm=some (.tup [.int (ki:Nat),.int (kj:Nat)])/\GrA os (tB rs kw) H0 H gl ls/\H pl=some (.lst (zR (Qv os fun k=>tB rs ki (eb os k))))/\H ql=some (.lst (zR (Qv os fun k=>tB rs kj (eb os k)))) /\
 ∀(H':Hp),Same H H'->Q (.bl true) H'
end Zk
namespace K75
open PySem L2
def top (i:Nat):Stmt:=PySem.Challenge.pw_decidebook_k75_ways_told.main.body.getD i (.Pass ⟨0,0,0,0⟩)
abbrev JZ:Stmt:=top 9
abbrev Mv:Stmt:=top 10
abbrev zbH:Stmt:=top 11
abbrev zbI:Stmt:=top 12
abbrev J0:Stmt:=top 13
abbrev Rn:Stmt:=top 14
abbrev zbJ:Stmt:=top 15
abbrev Ro:Stmt:=top 16
abbrev Te:Stmt:=top 17
abbrev zex:Stmt:=top 18
abbrev zbK:Stmt:=top 24
abbrev Tg:Stmt:=top 25
abbrev Mw:Stmt:=top 26
abbrev QV:Stmt:=top 27
abbrev J5:Stmt:=top 28
abbrev Ti:Stmt:=top 29
abbrev ZM:Stmt:=top 30
abbrev YB:Stmt:=top 31
abbrev VL:Stmt:=top 32
abbrev YZ:Stmt:=top 33
abbrev Wy:Stmt:=top 34
abbrev Xw:Stmt:=top 35
abbrev Rp:Stmt:=top 36
abbrev Mx:Stmt:=top 37
abbrev QW:Stmt:=top 38
abbrev Tj:Stmt:=top 39
abbrev Tn:Stmt:=top 40
abbrev VD:Stmt:=top 43
abbrev Xx:Stmt:=top 44
abbrev Xy:Stmt:=top 45
abbrev YC:Stmt:=top 46
abbrev VN:Stmt:=top 47
abbrev Wz:Stmt:=top 48
abbrev ZP:Stmt:=top 49
abbrev zhq:Stmt:=top 50
abbrev zey:Stmt:=top 51
abbrev zbL:Stmt:=top 52
abbrev zhr:Stmt:=top 53
abbrev Tp:Stmt:=top 54
abbrev zez:Stmt:=top 55
abbrev Rq:Stmt:=top 56
abbrev Tq:Stmt:=top 57
abbrev zkn:Stmt:=top 58
abbrev ZQ:Stmt:=top 59
abbrev Mz:Stmt:=inClass (top 61) 0
abbrev QX:Stmt:=inClass (top 61) 1
abbrev zcS:Stmt:=inClass (top 61) 2
abbrev QZ:Stmt:=inClass (top 61) 3
abbrev MF:Stmt:=inClass (top 61) 4
abbrev Ys:Stmt:=inClass (top 61) 7
abbrev Ng:Stmt:=inClass (top 61) 8
abbrev zaT:Stmt:=inClass (top 61) 9
abbrev zeA:Stmt:=inClass (top 61) 10
abbrev VP:Stmt:=inClass (top 61) 11
abbrev WD:Stmt:=inClass (top 61) 12
abbrev VR:Stmt:=top 63
abbrev Q5:Stmt:=top 64
abbrev vq:Stmt:=top 65
abbrev Q6:Stmt:=top 66
abbrev Rr:Stmt:=top 67
abbrev Rt:Stmt:=top 68
abbrev Zn:Stmt:=top 69
abbrev Ru:Stmt:=top 70
abbrev VF:Stmt:=top 71
abbrev Xz:Stmt:=top 72
abbrev Rv:Stmt:=top 73
abbrev vK:Stmt:=top 74
abbrev XC:Stmt:=top 75
abbrev YD:Stmt:=top 76
abbrev WK:Stmt:=top 77
abbrev Tr:Stmt:=top 78
abbrev Q7:Stmt:=top 79
abbrev Y0:Stmt:=top 80
abbrev yO:Stmt:=top 81
abbrev uH:Stmt:=top 82
abbrev S_law:Stmt:=top 83
theorem ziY:zL ["marks"] ["marks"] (zq JZ):=⟨rfl,rfl,rfl,by decide +kernel,rfl,by decide +kernel,by decide +kernel⟩
theorem XD:zL ["place", "marks", "half", "table", "further"] ["place", "marks"] (zq Mv):=⟨rfl,rfl,rfl,by decide +kernel,rfl,by decide +kernel,by decide +kernel⟩
theorem J6:zL ["table", "place", "marks", "ones", "noughts"] ["table", "place", "marks"] (zq zbH):=⟨rfl,rfl,rfl,by decide +kernel,rfl,by decide +kernel,by decide +kernel⟩
theorem J7:zL ["table", "place", "value", "marks", "ones", "kept"] ["table", "place", "value", "marks"] (zq zbI):=⟨rfl,rfl,rfl,by decide +kernel,rfl,by decide +kernel,by decide +kernel⟩
theorem ziZ:zL ["table", "place", "marks"] ["table", "place", "marks"] (zq J0):=⟨rfl,rfl,rfl,by decide +kernel,rfl,by decide +kernel,by decide +kernel⟩
theorem Tt:zL ["table", "marks", "place"] ["table", "marks"] (zq Rn):=⟨rfl,rfl,rfl,by decide +kernel,rfl,by decide +kernel,by decide +kernel⟩
theorem zko:zL ["table", "other"] ["table", "other"] (zq zbJ):=⟨rfl,rfl,rfl,by decide +kernel,rfl,by decide +kernel,by decide +kernel⟩
theorem uU:zL ["places", "values", "marks", "table", "place", "value", "ones"] ["places", "values", "marks"] (zq Ro):=⟨rfl,rfl,rfl,by decide +kernel,rfl,by decide +kernel,by decide +kernel⟩
theorem v7:zL ["table", "places", "marks", "values", "place", "low", "value"] ["table", "places", "marks"] (zq Te):=⟨rfl,rfl,rfl,by decide +kernel,rfl,by decide +kernel,by decide +kernel⟩
theorem zmU:zL ["where", "low", "high"] ["where", "low", "high"] (zq zex):=⟨rfl,rfl,rfl,by decide +kernel,rfl,by decide +kernel,by decide +kernel⟩
theorem zkp:zL ["letter"] ["letter"] (zq zbK):=⟨rfl,rfl,rfl,by decide +kernel,rfl,by decide +kernel,by decide +kernel⟩
theorem zi0:zL ["order"] ["order"] (zq Tg):=⟨rfl,rfl,rfl,by decide +kernel,rfl,by decide +kernel,by decide +kernel⟩
theorem zmV:zL ["order", "row"] ["order", "row"] (zq Mw):=⟨rfl,rfl,rfl,by decide +kernel,rfl,by decide +kernel,by decide +kernel⟩
theorem zfz:zL ["sentence"] ["sentence"] (zq QV):=⟨rfl,rfl,rfl,by decide +kernel,rfl,by decide +kernel,by decide +kernel⟩
theorem zi1:zL ["sentence"] ["sentence"] (zq J5):=⟨rfl,rfl,rfl,by decide +kernel,rfl,by decide +kernel,by decide +kernel⟩
theorem V0:zL ["level", "found", "sentence"] ["level"] (zq Ti):=⟨rfl,rfl,rfl,by decide +kernel,rfl,by decide +kernel,by decide +kernel⟩
theorem zaU:zL ["some", "shape"] ["some"] (zq ZM):=⟨rfl,rfl,rfl,by decide +kernel,rfl,by decide +kernel,by decide +kernel⟩
theorem vL:zL ["some", "level", "deep", "tuples"] ["some"] (zq YB):=⟨rfl,rfl,rfl,by decide +kernel,rfl,by decide +kernel,by decide +kernel⟩
theorem zbM:zL ["order"] ["order"] (zq VL):=⟨rfl,rfl,rfl,by decide +kernel,rfl,by decide +kernel,by decide +kernel⟩
theorem K5:zL ["some"] ["some"] (zq YZ):=⟨rfl,rfl,rfl,by decide +kernel,rfl,by decide +kernel,by decide +kernel⟩
theorem zaV:zL ["order", "letter"] ["order", "letter"] (zq Wy):=⟨rfl,rfl,rfl,by decide +kernel,rfl,by decide +kernel,by decide +kernel⟩
theorem Tv:zL ["order", "sentence", "letter"] ["order", "sentence"] (zq Xw):=⟨rfl,rfl,rfl,by decide +kernel,rfl,by decide +kernel,by decide +kernel⟩
theorem zeB:zL ["order", "row"] ["order", "row"] (zq Rp):=⟨rfl,rfl,rfl,by decide +kernel,rfl,by decide +kernel,by decide +kernel⟩
theorem Uh:zL ["sentence", "found", "level"] ["sentence"] (zq Mx):=⟨rfl,rfl,rfl,by decide +kernel,rfl,by decide +kernel,by decide +kernel⟩
theorem Rw:zL ["sentence", "found", "part"] ["sentence"] (zq QW):=⟨rfl,rfl,rfl,by decide +kernel,rfl,by decide +kernel,by decide +kernel⟩
theorem SJ:zL ["sentence", "order", "word", "marks", "tables"] ["sentence", "order"] (zq Tj):=⟨rfl,rfl,rfl,by decide +kernel,rfl,by decide +kernel,by decide +kernel⟩
theorem zdc:zL ["word", "one", "other", "every"] ["word", "one", "other", "every"] (zq Tn):=⟨rfl,rfl,rfl,by decide +kernel,rfl,by decide +kernel,by decide +kernel⟩
theorem zhs:zL ["book"] ["book"] (zq VD):=⟨rfl,rfl,rfl,by decide +kernel,rfl,by decide +kernel,by decide +kernel⟩
theorem zfA:zL ["book"] ["book"] (zq Xx):=⟨rfl,rfl,rfl,by decide +kernel,rfl,by decide +kernel,by decide +kernel⟩
theorem zfB:zL ["book"] ["book"] (zq Xy):=⟨rfl,rfl,rfl,by decide +kernel,rfl,by decide +kernel,by decide +kernel⟩
theorem zeC:zL ["book"] ["book"] (zq YC):=⟨rfl,rfl,rfl,by decide +kernel,rfl,by decide +kernel,by decide +kernel⟩
theorem Z7:zL ["book", "order", "now", "then"] ["book"] (zq VN):=⟨rfl,rfl,rfl,by decide +kernel,rfl,by decide +kernel,by decide +kernel⟩
theorem SM:zL ["book", "room", "place"] ["book", "room"] (zq Wz):=⟨rfl,rfl,rfl,by decide +kernel,rfl,by decide +kernel,by decide +kernel⟩
theorem Wn:zL ["book", "steps", "rooms", "room"] ["book", "steps", "rooms"] (zq ZP):=⟨rfl,rfl,rfl,by decide +kernel,rfl,by decide +kernel,by decide +kernel⟩
theorem zeD:zL ["book", "steps", "table", "marks", "led"] ["book", "steps", "table"] (zq zhq):=⟨rfl,rfl,rfl,by decide +kernel,rfl,by decide +kernel,by decide +kernel⟩
theorem zbN:zL ["book", "steps", "table", "marks", "goal"] ["book", "steps", "table"] (zq zey):=⟨rfl,rfl,rfl,by decide +kernel,rfl,by decide +kernel,by decide +kernel⟩
theorem J8:zL ["table", "places", "marks", "place"] ["table", "places", "marks"] (zq zbL):=⟨rfl,rfl,rfl,by decide +kernel,rfl,by decide +kernel,by decide +kernel⟩
theorem Qa:zL ["table", "places", "others", "marks", "place", "other", "low", "high"] ["table", "places", "others", "marks"] (zq zhr):=⟨rfl,rfl,rfl,by decide +kernel,rfl,by decide +kernel,by decide +kernel⟩
theorem v8:zL ["book", "steps", "start", "found", "table", "told"] ["book", "steps", "start"] (zq Tp):=⟨rfl,rfl,rfl,by decide +kernel,rfl,by decide +kernel,by decide +kernel⟩
theorem Ke:zL ["book", "steps", "start", "goal", "ahead", "table", "met"] ["book", "steps", "start", "goal"] (zq zez):=⟨rfl,rfl,rfl,by decide +kernel,rfl,by decide +kernel,by decide +kernel⟩
theorem Tw:zL ["book", "steps", "ahead", "met", "rows", "table"] ["book", "steps", "ahead", "met"] (zq Rq):=⟨rfl,rfl,rfl,by decide +kernel,rfl,by decide +kernel,by decide +kernel⟩
theorem zdd:zL ["book", "table"] ["book", "table"] (zq Tq):=⟨rfl,rfl,rfl,by decide +kernel,rfl,by decide +kernel,by decide +kernel⟩
theorem zqG:zL ["book", "row"] ["book", "row"] (zq zkn):=⟨rfl,rfl,rfl,by decide +kernel,rfl,by decide +kernel,by decide +kernel⟩
theorem Q8:zL ["book", "steps", "start", "goal", "rows", "row", "tables"] ["book", "steps", "start", "goal", "rows"] (zq ZQ):=⟨rfl,rfl,rfl,by decide +kernel,rfl,by decide +kernel,by decide +kernel⟩
theorem zaW:zL ["self", "order", "marks"] ["self", "order"] (zq Mz):=⟨rfl,rfl,rfl,by decide +kernel,rfl,by decide +kernel,by decide +kernel⟩
theorem zfC:zL ["self"] ["self"] (zq QX):=⟨rfl,rfl,rfl,by decide +kernel,rfl,by decide +kernel,by decide +kernel⟩
theorem zfD:zL ["self", "sentence"] ["self", "sentence"] (zq QZ):=⟨rfl,rfl,rfl,by decide +kernel,rfl,by decide +kernel,by decide +kernel⟩
theorem zqH:zL ["self", "number"] ["self", "number"] (zq MF):=⟨rfl,rfl,rfl,by decide +kernel,rfl,by decide +kernel,by decide +kernel⟩
theorem MJ:zL ["self", "number"] ["self", "number"] (zq Ys):=⟨rfl,rfl,rfl,by decide +kernel,rfl,by decide +kernel,by decide +kernel⟩
theorem zbO:zL ["self", "number"] ["self", "number"] (zq VP):=⟨rfl,rfl,rfl,by decide +kernel,rfl,by decide +kernel,by decide +kernel⟩
theorem ug:zL ["self", "table", "marks", "place", "low", "high"] ["self", "table"] (zq WD):=⟨rfl,rfl,rfl,by decide +kernel,rfl,by decide +kernel,by decide +kernel⟩
theorem Qc:zL ["script", "k"] ["script", "k"] (zq VR):=⟨rfl,rfl,rfl,by decide +kernel,rfl,by decide +kernel,by decide +kernel⟩
theorem Zq:zL ["cell", "k", "bound", "stir", "left", "j"] ["cell", "k", "bound"] (zq Q5):=⟨rfl,rfl,rfl,by decide +kernel,rfl,by decide +kernel,by decide +kernel⟩
theorem yX:zL ["script", "at", "many", "order", "kinds", "made", "k", "cell", "kind", "one", "other", "letter"] ["script", "at", "many", "order"] (zq vq):=⟨rfl,rfl,rfl,by decide +kernel,rfl,by decide +kernel,by decide +kernel⟩
theorem Zr:zL ["size", "found", "k", "longer", "row"] ["size"] (zq Q6):=⟨rfl,rfl,rfl,by decide +kernel,rfl,by decide +kernel,by decide +kernel⟩
theorem vM:zL ["sentence", "order", "row", "word", "one", "other", "at", "low", "high"] ["sentence", "order", "row"] (zq Rr):=⟨rfl,rfl,rfl,by decide +kernel,rfl,by decide +kernel,by decide +kernel⟩
theorem zeE:zL ["found"] ["found"] (zq Rt):=⟨rfl,rfl,rfl,by decide +kernel,rfl,by decide +kernel,by decide +kernel⟩
theorem zbP:zL ["found", "due"] ["found", "due"] (zq Zn):=⟨rfl,rfl,rfl,by decide +kernel,rfl,by decide +kernel,by decide +kernel⟩
theorem xV:zL ["cell", "first", "size", "names", "found", "k", "later"] ["cell"] (zq Ru):=⟨rfl,rfl,rfl,by decide +kernel,rfl,by decide +kernel,by decide +kernel⟩
theorem zht:zL ["order"] ["order"] (zq VF):=⟨rfl,rfl,rfl,by decide +kernel,rfl,by decide +kernel,by decide +kernel⟩
theorem Vb:zL ["order", "row", "other", "marks", "values", "k"] ["order", "row", "other"] (zq Xz):=⟨rfl,rfl,rfl,by decide +kernel,rfl,by decide +kernel,by decide +kernel⟩
theorem uV:zL ["sentence", "order", "rows", "found", "row", "here", "k"] ["sentence", "order"] (zq Rv):=⟨rfl,rfl,rfl,by decide +kernel,rfl,by decide +kernel,by decide +kernel⟩
theorem Nh:zL ["sentence", "order", "rows"] ["sentence", "order"] (zq vK):=⟨rfl,rfl,rfl,by decide +kernel,rfl,by decide +kernel,by decide +kernel⟩
theorem zfE:zL ["graph", "places"] ["graph", "places"] (zq XC):=⟨rfl,rfl,rfl,by decide +kernel,rfl,by decide +kernel,by decide +kernel⟩
theorem uW:zL ["graph", "places", "found", "seen", "fresh"] ["graph", "places"] (zq YD):=⟨rfl,rfl,rfl,by decide +kernel,rfl,by decide +kernel,by decide +kernel⟩
theorem wA:zL ["order", "carry", "found", "mark", "later"] ["order"] (zq WK):=⟨rfl,rfl,rfl,by decide +kernel,rfl,by decide +kernel,by decide +kernel⟩
theorem v9:zL ["order", "cell", "found", "now", "k", "one"] ["order", "cell"] (zq Tr):=⟨rfl,rfl,rfl,by decide +kernel,rfl,by decide +kernel,by decide +kernel⟩
theorem Vc:zL ["script", "order", "steps"] ["script"] (zq Q7):=⟨rfl,rfl,rfl,by decide +kernel,rfl,by decide +kernel,by decide +kernel⟩
theorem K6:zL ["script", "at", "order"] ["script", "at", "order"] (zq Y0):=⟨rfl,rfl,rfl,by decide +kernel,rfl,by decide +kernel,by decide +kernel⟩
theorem Ni:zL ["rows", "graph", "places", "goal", "found", "here"] ["rows", "graph", "places", "goal", "found"] (zq yO):=⟨rfl,rfl,rfl,by decide +kernel,rfl,by decide +kernel,by decide +kernel⟩
theorem xr:zL ["book", "steps", "rooms", "graph", "places", "goal", "turns", "met", "due", "kept", "turn", "start", "end", "found", "row"] ["book", "steps", "rooms", "graph", "places", "goal"] (zq uH):=⟨rfl,rfl,rfl,by decide +kernel,rfl,by decide +kernel,by decide +kernel⟩
theorem sc_law:zL ["script", "one", "other", "more", "book", "steps", "third", "asked", "order", "sentence", "some", "way", "first", "last", "rooms", "places", "goal"] ["script"] (zq S_law):=⟨rfl,rfl,rfl,by decide +kernel,rfl,by decide +kernel,by decide +kernel⟩
def vf:List (Str×Int×Int):=[("yes", 0,0),("no", 0,0),("mark", 1,0),("not", 0,1),("and", 0,2),("or", 0,2),("either", 0,2),("if", 0,2),("some", 1,1),("each", 1,1)]
theorem zvN {α:Type}{us:List α}(h:us.length=0):us=[]:=List.length_eq_zero_iff.mp h
theorem zmW {α:Type}{us:List α}{n:Nat}(h:us.length=n+1):∃a vs,us=a::vs/\vs.length=n:=by
 cases us with
 | nil=>cases h
 | cons a vs=>exact⟨a,vs,rfl,by simpa using h⟩
theorem WL {α:Type}{us:List α}(h:us.length=1):∃a,us=[a]:=by
 obtain⟨a,v,e,h⟩:=zmW h
 rw[e,zvN h]
 exact⟨a,rfl⟩
theorem VG {α:Type}{us:List α}(h:us.length=2):∃a b,us=[a,b]:=by
 obtain⟨a,v,e,h⟩:=zmW h
 obtain⟨b,e2⟩:=WL h
 exact⟨a,b,by rw[e,e2]⟩
theorem K7 {α:Type}{us:List α}(h:us.length=3):∃a b c,us=[a,b,c]:=by
 obtain⟨a,v,e,h⟩:=zmW h
 obtain⟨b,c,e2⟩:=VG h
 exact⟨a,b,c,by rw[e,e2]⟩
theorem zi2 {α:Type}{us:List α}(h:us.length=4):∃a b c d,us=[a,b,c,d]:=by
 obtain⟨a,v,e,h⟩:=zmW h
 obtain⟨b,c,d,e2⟩:=K7 h
 exact⟨a,b,c,d,by rw[e,e2]⟩
theorem zsc {α:Type}{us:List α}(h:us.length=5):∃a b c d f,us=[a,b,c,d,f]:=by
 obtain⟨a,v,e,h⟩:=zmW h
 obtain⟨b,c,d,f,e2⟩:=zi2 h
 exact⟨a,b,c,d,f,by rw[e,e2]⟩
theorem zvO {α:Type}{us:List α}(h:us.length=6):∃a b c d f g,us=[a,b,c,d,f,g]:=by
 obtain⟨a,v,e,h⟩:=zmW h
 obtain⟨b,c,d,f,g,e2⟩:=zsc h
 exact⟨a,b,c,d,f,g,by rw[e,e2]⟩
set_option genInjectivity false in
set_option genSizeOf false in
structure Ad where
 tV:Addr
 tW:FuncData
 wW:Addr
 wX:FuncData
 Z8:Addr
 Z9:FuncData
 Xb:Addr
 Xc:FuncData
 WM:Addr
 WQ:FuncData
 Zt:Addr
 Zu:FuncData
 Xd:Addr
 Xe:FuncData
 Vd:Addr
 Ve:FuncData
 XF:Addr
 XH:FuncData
 zaX:Addr
 zaY:FuncData
 WR:Addr
 WT:FuncData
 Q9:Addr
 Pa:FuncData
 Qd:Addr
 Qe:FuncData
 tX:Addr
 tY:FuncData
 tZ:Addr
 Za:FuncData
 uX:Addr
 uY:FuncData
 SN:Addr
 SQ:FuncData
 Vf:Addr
 Vg:FuncData
 YJ:Addr
 YK:FuncData
 Zb:Addr
 Zc:FuncData
 vA:Addr
 vB:FuncData
 ZC:Addr
 ZD:FuncData
 Vh:Addr
 Vi:FuncData
 SX:Addr
 S5:FuncData
 Ui:Addr
 Uj:FuncData
 WW:Addr
 WX:FuncData
 vN:Addr
 vO:FuncData
 Xf:Addr
 Xg:FuncData
 Uk:Addr
 Ul:FuncData
 uh:Addr
 uo:FuncData
 uI:Addr
 uJ:FuncData
 YL:Addr
 YM:FuncData
 Yb:Addr
 Yc:FuncData
 xZ:Addr
 wg:FuncData
 Kf:Addr
 Kg:FuncData
 zaZ:Addr
 za0:FuncData
 UJ:Addr
 UL:FuncData
 Kh:Addr
 Kl:FuncData
 XJ:Addr
 XM:FuncData
 za1:Addr
 za2:FuncData
 Vj:Addr
 Vk:FuncData
 XQ:Addr
 XR:FuncData
 zbQ:Addr
 zbR:FuncData
 S6:Addr
 S7:FuncData
 VH:Addr
 S8:FuncData
 yF:Addr
 yG:FuncData
 zcT:Addr
 zcU:FuncData
 Um:Addr
 Uo:FuncData
 zcV:Addr
 zcW:FuncData
 xO:Addr
 xP:FuncData
 Nj:Addr
 Nk:FuncData
 za3:Addr
 za4:FuncData
 zeF:Addr
 zeG:FuncData
 yR:Addr
 yS:FuncData
 vC:Addr
 vD:FuncData
 yJ:Addr
 yK:FuncData
 wO:Addr
 wQ:FuncData
 wM:Addr
 wN:FuncData
 ur:Addr
 uw:FuncData
 uK:Addr
 uL:FuncData
 Zv:Addr
 Zw:FuncData
 YQ:Addr
 YS:FuncData
 Vl:Addr
 Vm:FuncData
 wC:Addr
 wD:FuncData
 Yd:Addr
 Ye:FuncData
 Vn:Addr
 Vo:FuncData
 XS:Addr
 X3:FuncData
 Yg:Addr
 Yh:FuncData
 Vp:Addr
 Vq:FuncData
 Yi:Addr
 Yj:FuncData
 X4:Addr
 X5:FuncData
 Uq:Addr
 Ur:FuncData
 Zd:Addr
 Ze:FuncData
 X6:Addr
 X7:FuncData
 Vr:Addr
 Vs:FuncData
 a_law:Addr
 d_law:FuncData
 zy:Addr
 S9:Addr
 Vt:Tok
 Ra:Tok
 YF:Addr
 zbS:List (Str×Value)
 YT:Addr
 Qg:Addr
 Qh:Addr
 Qi:Addr
 Qj:Addr
structure Txt (P:Program)(w:World)(K:Frag)(mg:Str->Option Value)(a:Ad):Prop where
 ZR:yQ K "all_rows" "all_rows" JZ a.tV a.tW
 Y4:Binds K a.tW ["marks"] []
 Y5:mg "all_rows"=some (.ref a.tV)
 ZS:yQ K "rows_with" "rows_with" Mv a.wW a.wX
 Xh:Binds K a.wX ["place", "marks"] []
 Xi:mg "rows_with"=some (.ref a.wW)
 WY:yQ K "flipped" "flipped" zbH a.Z8 a.Z9
 UW:Binds K a.Z9 ["table", "place", "marks"] []
 U0:mg "flipped"=some (.ref a.Z8)
 Xj:yQ K "held_at" "held_at" zbI a.Xb a.Xc
 W0:Binds K a.Xc ["table", "place", "value", "marks"] []
 W2:mg "held_at"=some (.ref a.Xb)
 Pb:yQ K "hangs_on" "hangs_on" J0 a.WM a.WQ
 J9:Binds K a.WQ ["table", "place", "marks"] []
 zaa:mg "hangs_on"=some (.ref a.WM)
 Rx:yQ K "first_place" "first_place" Rn a.Zt a.Zu
 Jh:Binds K a.Zu ["table", "marks"] []
 Ji:mg "first_place"=some (.ref a.Zt)
 Qk:yQ K "without" "without" zbJ a.Xd a.Xe
 Km:Binds K a.Xe ["table", "other"] []
 Ko:mg "without"=some (.ref a.Xd)
 Ry:yQ K "rows_having" "rows_having" Ro a.Vd a.Ve
 Jj:Binds K a.Ve ["places", "values", "marks"] []
 Jk:mg "rows_having"=some (.ref a.Vd)
 Tz:yQ K "first_values" "first_values" Te a.XF a.XH
 MK:Binds K a.XH ["table", "places", "marks"] []
 MN:mg "first_values"=some (.ref a.XF)
 zeH:yQ K "chosen" "chosen" zex a.zaX a.zaY
 zi3:Binds K a.zaY ["where", "low", "high"] []
 zi4:mg "chosen"=some (.ref a.zaX)
 Kp:yQ K "is_mark" "is_mark" zbK a.WR a.WT
 zbT:Binds K a.WT ["letter"] []
 zbU:mg "is_mark"=some (.ref a.WR)
 zab:yQ K "is_order" "is_order" Tg a.Q9 a.Pa
 zeI:Binds K a.Pa ["order"] []
 zeJ:mg "is_order"=some (.ref a.Q9)
 zeK:yQ K "is_row" "is_row" Mw a.Qd a.Qe
 zi5:Binds K a.Qe ["order", "row"] []
 zi6:mg "is_row"=some (.ref a.Qd)
 Us:yQ K "letters_of" "letters_of" QV a.tX a.tY
 Pg:Binds K a.tY ["sentence"] []
 Ph:mg "letters_of"=some (.ref a.tX)
 TF:yQ K "parts_of" "parts_of" J5 a.tZ a.Za
 Pj:Binds K a.Za ["sentence"] []
 Pk:mg "parts_of"=some (.ref a.tZ)
 X8:yQ K "parts_of_all" "parts_of_all" Ti a.uX a.uY
 TJ:Binds K a.uY ["level"] []
 TQ:mg "parts_of_all"=some (.ref a.uX)
 MP:yQ K "is_shaped" "is_shaped" ZM a.SN a.SQ
 zcX:Binds K a.SQ ["some"] []
 zcY:mg "is_shaped"=some (.ref a.SN)
 RB:yQ K "is_sentence" "is_sentence" YB a.Vf a.Vg
 Jl:Binds K a.Vg ["some"] []
 Jm:mg "is_sentence"=some (.ref a.Vf)
 V1:yQ K "must_be_order" "must_be_order" VL a.YJ a.YK
 Nm:Binds K a.YK ["order"] []
 Np:mg "must_be_order"=some (.ref a.YJ)
 Y6:yQ K "must_be_sentence" "must_be_sentence" YZ a.Zb a.Zc
 TV:Binds K a.Zc ["some"] []
 TX:mg "must_be_sentence"=some (.ref a.Zb)
 W3:yQ K "must_have_mark" "must_have_mark" Wy a.vA a.vB
 Ql:Binds K a.vB ["order", "letter"] []
 Qm:mg "must_have_mark"=some (.ref a.vA)
 Wa:yQ K "must_have_marks" "must_have_marks" Xw a.ZC a.ZD
 Rb:Binds K a.ZD ["order", "sentence"] []
 Rf:mg "must_have_marks"=some (.ref a.ZC)
 RD:yQ K "must_be_row" "must_be_row" Rp a.Vh a.Vi
 Jo:Binds K a.Vi ["order", "row"] []
 Jp:mg "must_be_row"=some (.ref a.Vh)
 M4:yQ K "tuples_in" "tuples_in" Mx a.SX a.S5
 zcZ:Binds K a.S5 ["sentence"] []
 zc0:mg "tuples_in"=some (.ref a.SX)
 Pn:yQ K "letters_in" "letters_in" QW a.Ui a.Uj
 za5:Binds K a.Uj ["sentence"] []
 za6:mg "letters_in"=some (.ref a.Ui)
 Pq:yQ K "table_of" "table_of" Tj a.WW a.WX
 zac:Binds K a.WX ["sentence", "order"] []
 zad:mg "table_of"=some (.ref a.WW)
 TY:yQ K "table_of_two" "table_of_two" Tn a.vN a.vO
 M5:Binds K a.vO ["word", "one", "other", "every"] []
 M6:mg "table_of_two"=some (.ref a.vN)
 Rg:yQ K "now_marks" "now_marks" VD a.Xf a.Xg
 M7:Binds K a.Xg ["book"] []
 M8:mg "now_marks"=some (.ref a.Xf)
 Pr:yQ K "then_marks" "then_marks" Xx a.Uk a.Ul
 za7:Binds K a.Ul ["book"] []
 za8:mg "then_marks"=some (.ref a.Uk)
 Zf:yQ K "now_places" "now_places" Xy a.uh a.uo
 Yk:Binds K a.uo ["book"] []
 Yl:mg "now_places"=some (.ref a.uh)
 Zx:yQ K "then_places" "then_places" YC a.uI a.uJ
 YG:Binds K a.uJ ["book"] []
 YH:mg "then_places"=some (.ref a.uI)
 V2:yQ K "must_be_world" "must_be_world" VN a.YL a.YM
 Nq:Binds K a.YM ["book"] []
 Nr:mg "must_be_world"=some (.ref a.YL)
 W4:yQ K "must_be_of_now" "must_be_of_now" Wz a.Yb a.Yc
 Qn:Binds K a.Yc ["book", "room"] []
 Qo:mg "must_be_of_now"=some (.ref a.Yb)
 ux:yQ K "must_be_world_with" "must_be_world_with" ZP a.xZ a.wg
 ZV:Binds K a.wg ["book", "steps", "rooms"] []
 ZW:mg "must_be_world_with"=some (.ref a.xZ)
 zdH:yQ K "after" "after" zhq a.Kf a.Kg
 zhu:Binds K a.Kg ["book", "steps", "table"] []
 zhv:mg "after"=some (.ref a.Kf)
 zeL:yQ K "before" "before" zey a.zaZ a.za0
 zi7:Binds K a.za0 ["book", "steps", "table"] []
 zi8:mg "before"=some (.ref a.zaZ)
 Kq:yQ K "for_any" "for_any" zbL a.UJ a.UL
 zbV:Binds K a.UL ["table", "places", "marks"] []
 zbW:mg "for_any"=some (.ref a.UJ)
 zdI:yQ K "moved" "moved" zhr a.Kh a.Kl
 zhw:Binds K a.Kl ["table", "places", "others", "marks"] []
 zhx:mg "moved"=some (.ref a.Kh)
 T3:yQ K "round_tables" "round_tables" Tp a.XJ a.XM
 M9:Binds K a.XM ["book", "steps", "start"] []
 La:mg "round_tables"=some (.ref a.XJ)
 zeM:yQ K "way_to" "way_to" zez a.za1 a.za2
 zi9:Binds K a.za2 ["book", "steps", "start", "goal"] []
 zja:mg "way_to"=some (.ref a.za1)
 RG:yQ K "way_through" "way_through" Rq a.Vj a.Vk
 Jq:Binds K a.Vk ["book", "steps", "ahead", "met"] []
 Jr:mg "way_through"=some (.ref a.Vj)
 Wb:yQ K "first_of_now" "first_of_now" Tq a.XQ a.XR
 T4:Binds K a.XR ["book", "table"] []
 T5:mg "first_of_now"=some (.ref a.XQ)
 zhy:yQ K "only" "only" zkn a.zbQ a.zbR
 zkq:Binds K a.zbR ["book", "row"] []
 zkr:mg "only"=some (.ref a.zbQ)
 Lb:yQ K "way_shows" "way_shows" ZQ a.S6 a.S7
 zc1:Binds K a.S7 ["book", "steps", "start", "goal", "rows"] []
 zc2:mg "way_shows"=some (.ref a.S6)
 zc3:yQ K "__init__" "Book.__init__" Mz a.VH a.S8
 zc4:Binds K a.S8 ["self", "order"] []
 zjb:Meth K a.zy "__init__" a.VH
 za9:yQ K "order" "Book.order" QX a.yF a.yG
 xW:Binds K a.yG ["self"] []
 xX:Meth K a.zy "order" a.yF
 zjc:yQ K "size" "Book.size" zcS a.zcT a.zcU
 zjd:Binds K a.zcU ["self"] []
 zje:Meth K a.zy "size" a.zcT
 zba:yQ K "enter" "Book.enter" QZ a.Um a.Uo
 Wc:Binds K a.Uo ["self", "sentence"] []
 Wd:Meth K a.zy "enter" a.Um
 zjf:yQ K "room" "Book.room" MF a.zcV a.zcW
 zjg:Binds K a.zcW ["self", "number"] []
 zjh:Meth K a.zy "room" a.zcV
 V5:yQ K "must_be_room" "Book.must_be_room" Ys a.xO a.xP
 Yt:Binds K a.xP ["self", "number"] []
 Yu:Meth K a.zy "must_be_room" a.xO
 zde:yQ K "place_of" "Book.place_of" Ng a.Nj a.Nk
 zdf:Binds K a.Nk ["self", "number"] []
 zdg:Meth K a.zy "place_of" a.Nj
 zhz:yQ K "going" "Book.going" zaT a.za3 a.za4
 zhA:Binds K a.za4 ["self", "number", "value"] []
 zhB:Meth K a.zy "going" a.za3
 zks:yQ K "led" "Book.led" zeA a.zeF a.zeG
 zkt:Binds K a.zeG ["self", "number", "place", "value"] []
 zku:Meth K a.zy "led" a.zeF
 Nt:yQ K "table_at" "Book.table_at" VP a.yR a.yS
 wF:Binds K a.yS ["self", "number"] []
 wG:Meth K a.zy "table_at" a.yR
 Qp:yQ K "room_with" "Book.room_with" WD a.vC a.vD
 Ym:Binds K a.vD ["self", "table"] []
 Yn:Meth K a.zy "room_with" a.vC
 yL:yQ K "_law_cell_at" "_law_cell_at" VR a.yJ a.yK
 xG:Binds K a.yK ["script", "k"] []
 xH:mg "_law_cell_at"=some (.ref a.yJ)
 yx:yQ K "_law_draw" "_law_draw" Q5 a.wO a.wQ
 yH:Binds K a.wQ ["cell", "k", "bound"] []
 yI:mg "_law_draw"=some (.ref a.wO)
 uZ:yQ K "_law_sentence" "_law_sentence" vq a.wM a.wN
 Yo:Binds K a.wN ["script", "at", "many", "order"] []
 Yp:mg "_law_sentence"=some (.ref a.wM)
 Wf:yQ K "_law_rows" "_law_rows" Q6 a.ur a.uw
 Ut:Binds K a.uw ["size"] []
 Uu:mg "_law_rows"=some (.ref a.ur)
 vo:yQ K "_law_value" "_law_value" Rr a.uK a.uL
 uM:Binds K a.uL ["sentence", "order", "row"] []
 uN:mg "_law_value"=some (.ref a.uK)
 RJ:yQ K "_law_whole" "_law_whole" Rt a.Zv a.Zw
 Js:Binds K a.Zw ["found"] []
 Jt:mg "_law_whole"=some (.ref a.Zv)
 V3:yQ K "_law_numbers" "_law_numbers" Zn a.YQ a.YS
 Nu:Binds K a.YS ["found", "due"] []
 Nv:mg "_law_numbers"=some (.ref a.YQ)
 RK:yQ K "_law_world" "_law_world" Ru a.Vl a.Vm
 Ju:Binds K a.Vm ["cell"] []
 Jv:mg "_law_world"=some (.ref a.Vl)
 uy:yQ K "_law_now" "_law_now" VF a.wC a.wD
 tK:Binds K a.wD ["order"] []
 tL:mg "_law_now"=some (.ref a.wC)
 Uv:yQ K "_law_pair" "_law_pair" Xz a.Yd a.Ye
 Pu:Binds K a.Ye ["order", "row", "other"] []
 Px:mg "_law_pair"=some (.ref a.Yd)
 RL:yQ K "_law_graph" "_law_graph" Rv a.Vn a.Vo
 Jw:Binds K a.Vo ["sentence", "order"] []
 Jx:mg "_law_graph"=some (.ref a.Vn)
 Wg:yQ K "_law_places" "_law_places" vK a.XS a.X3
 T6:Binds K a.X3 ["sentence", "order"] []
 T7:mg "_law_places"=some (.ref a.XS)
 Py:yQ K "_law_into" "_law_into" XC a.Yg a.Yh
 zbb:Binds K a.Yh ["graph", "places"] []
 zbc:mg "_law_into"=some (.ref a.Yg)
 RM:yQ K "_law_turns" "_law_turns" YD a.Vp a.Vq
 Jy:Binds K a.Vq ["graph", "places"] []
 Jz:mg "_law_turns"=some (.ref a.Vp)
 W5:yQ K "_law_counting" "_law_counting" WK a.Yi a.Yj
 Qq:Binds K a.Yj ["order"] []
 Qs:mg "_law_counting"=some (.ref a.Yi)
 T8:yQ K "_law_single" "_law_single" Tr a.X4 a.X5
 Ld:Binds K a.X5 ["order", "cell"] []
 Le:mg "_law_single"=some (.ref a.X4)
 Pz:yQ K "_law_both" "_law_both" Q7 a.Uq a.Ur
 zbd:Binds K a.Ur ["script"] []
 zbe:mg "_law_both"=some (.ref a.Uq)
 vP:yQ K "_law_told_place" "_law_told_place" Y0 a.Zd a.Ze
 Zg:Binds K a.Ze ["script", "at", "order"] []
 Zh:mg "_law_told_place"=some (.ref a.Zd)
 T9:yQ K "_law_is_way" "_law_is_way" yO a.X6 a.X7
 Lf:Binds K a.X7 ["rows", "graph", "places", "goal", "found"] []
 Lg:mg "_law_is_way"=some (.ref a.X6)
 RN:yQ K "_law_asked" "_law_asked" uH a.Vr a.Vs
 JB:Binds K a.Vs ["book", "steps", "rooms", "graph", "places", "goal"] []
 JC:mg "_law_asked"=some (.ref a.Vr)
 F_law:yQ K "law" "law" S_law a.a_law a.d_law
 b_law:Binds K a.d_law ["script"] []
 m_law:mg "law"=some (.ref a.a_law)
 yu:Cls K a.zy
 zoR:mg "Book"=some (.ref a.zy)
 Kr:Mk K a.zy a.VH
 wz:Rj K a.zy "marks"
 wR:Rj K a.zy "rooms"
 wY:Rj K a.zy "tables"
 xJ:Rj K a.zy "numbers"
 x_law:∀(s:Shared) (u:Value),BindsTo s a.d_law ⟨[u],[]⟩ [("script", u)]
 zma:mg "MARKS"=some (.ref a.S9)
 zmb:∀H,vW K H a.S9 ((["a", "b", "c", "d", "e", "f", "g", "h"]:List Str).map V.str)
 JD:mg "MOST_TUPLES"=some (.int 200 a.Vt)
 zc5:mg "MOST_DEEP"=some (.int 24 a.Ra)
 Lh:mg "SHAPES"=some (.ref a.YF)
 Li:zpW K P w a.YF a.zbS
 zbf:∀k m n,(k,m,n)∈vf->∃p,valueAt a.zbS k=some (.ref p)/\∀H,vW K H p [.int m,.int n]
 zoS:∀k,(∀e∈vf,e.1≠k)->valueAt a.zbS k=none
 zdJ:mg "PAIRS"=some (.ref a.YT)
 PB:∀H,vW K H a.YT [.ref a.Qg,.ref a.Qh,.ref a.Qi,.ref a.Qj]
 Ks:∀H,vW K H a.Qg ((["a", "e"]:List Str).map V.str)
 Ku:∀H,vW K H a.Qh ((["b", "f"]:List Str).map V.str)
 Kv:∀H,vW K H a.Qi ((["c", "g"]:List Str).map V.str)
 Kw:∀H,vW K H a.Qj ((["d", "h"]:List Str).map V.str)
 Nx:mg "all"=none
 zre:mg "any"=none
 zoT:mg "bool"=none
 zoU:mg "dict"=none
 zmc:mg "int"=none
 uz:mg "isinstance"=none
 xu:mg "len"=none
 PJ:mg "list"=none
 zmd:mg "max"=none
 zrf:mg "min"=none
 Zi:mg "range"=none
 zkv:mg "repr"=none
 zae:mg "reversed"=none
 zrg:mg "set"=none
 zrh:mg "str"=none
 zme:mg "tuple"=none
 zmf:mg "zip"=none
theorem zsd {P:Program}{w:World}{K:Frag}{h:Heap}{mg:Str->Option Value}(X:K.In h)(G:h.Ns mainGlobals mg)
  {vQ:Addr}
  {f0 f1 f2 f3 f4 f5 f6 f7 f8 f9 f10 f11 f12 f13 f14 f15 f16 f17 f18 f19 f20 f21 f22 f23 f24 f25 f26 f27 f28 f29 f30 f31 f32 f33 f34 f35 f36 f37 f38 f39 f40 f41 f42 f43 f44 f45 f46 f47 f48 f49 f50 f51 f52 f53 f54 f55 f56 f57 f58 f59 f60 f61 f62 f63 f64 f65 f66 f67 f68 f69 f70 f71 f72 f73 f74 f75:Addr}{d0 d1 d2 d3 d4 d5 d6 d7 d8 d9 d10 d11 d12 d13 d14 d15 d16 d17 d18 d19 d20 d21 d22 d23 d24 d25 d26 d27 d28 d29 d30 d31 d32 d33 d34 d35 d36 d37 d38 d39 d40 d41 d42 d43 d44 d45 d46 d47 d48 d49 d50 d51 d52 d53 d54 d55 d56 d57 d58 d59 d60 d61 d62 d63 d64 d65 d66 d67 d68 d69 d70 d71 d72 d73 d74 d75:FuncData}
  {zhC:Addr}
  {zoX:Option Addr}{zji:Array Value}{zqI:Nat}{zoY:Array (Option Value)}
  {Vt:Tok}
  {Ra:Tok}
  {zbg:Addr}
  {zgJ:Array DictEntry}{zmX:Nat}
  {zmY:Tok}{Ky:Addr}{zkw:Option Addr}{zeN:Array Value}{zmZ:Nat}{zkx:Array (Option Value)}
  {zm0:Tok}{Kz:Addr}{zky:Option Addr}{zeO:Array Value}{zm1:Nat}{zkz:Array (Option Value)}
  {zm2:Tok}{KC:Addr}{zkA:Option Addr}{zeP:Array Value}{zm3:Nat}{zkB:Array (Option Value)}
  {zm4:Tok}{KD:Addr}{zkC:Option Addr}{zeQ:Array Value}{zm5:Nat}{zkD:Array (Option Value)}
  {zm6:Tok}{KH:Addr}{zkE:Option Addr}{zeR:Array Value}{zm7:Nat}{zkF:Array (Option Value)}
  {zm8:Tok}{KJ:Addr}{zkG:Option Addr}{zeS:Array Value}{zm9:Nat}{zkH:Array (Option Value)}
  {zna:Tok}{KN:Addr}{zkI:Option Addr}{zeT:Array Value}{znb:Nat}{zkJ:Array (Option Value)}
  {znc:Tok}{KQ:Addr}{zkK:Option Addr}{zeU:Array Value}{znd:Nat}{zkL:Array (Option Value)}
  {zne:Tok}{KR:Addr}{zkM:Option Addr}{zeV:Array Value}{znf:Nat}{zkN:Array (Option Value)}
  {zng:Tok}{KY:Addr}{zkO:Option Addr}{zeW:Array Value}{znh:Nat}{zkP:Array (Option Value)}
  {zhD:Addr}
  {zoZ:Option Addr}{zjj:Array Value}{zqJ:Nat}{zo0:Array (Option Value)}
  {zbX:Addr}{zkQ:Option Addr}{zeX:Array Value}{zni:Nat}{zkR:Array (Option Value)}
  {zbY:Addr}{zkS:Option Addr}{zeY:Array Value}{znj:Nat}{zkT:Array (Option Value)}
  {zbZ:Addr}{zkU:Option Addr}{zeZ:Array Value}{znk:Nat}{zkV:Array (Option Value)}
  {zb0:Addr}{zkW:Option Addr}{ze0:Array Value}{znl:Nat}{zkX:Array (Option Value)}
  (zy:nsIn K mainGlobals "Book"=some (some (.ref vQ)))
  (a0:nsIn K mainGlobals "all_rows"=some (some (.ref f0)))
  (F0:yQ K "all_rows" "all_rows" JZ f0 d0)
  (a1:nsIn K mainGlobals "rows_with"=some (some (.ref f1)))
  (F1:yQ K "rows_with" "rows_with" Mv f1 d1)
  (a2:nsIn K mainGlobals "flipped"=some (some (.ref f2)))
  (F2:yQ K "flipped" "flipped" zbH f2 d2)
  (a3:nsIn K mainGlobals "held_at"=some (some (.ref f3)))
  (F3:yQ K "held_at" "held_at" zbI f3 d3)
  (a4:nsIn K mainGlobals "hangs_on"=some (some (.ref f4)))
  (F4:yQ K "hangs_on" "hangs_on" J0 f4 d4)
  (a5:nsIn K mainGlobals "first_place"=some (some (.ref f5)))
  (F5:yQ K "first_place" "first_place" Rn f5 d5)
  (a6:nsIn K mainGlobals "without"=some (some (.ref f6)))
  (F6:yQ K "without" "without" zbJ f6 d6)
  (a7:nsIn K mainGlobals "rows_having"=some (some (.ref f7)))
  (F7:yQ K "rows_having" "rows_having" Ro f7 d7)
  (a8:nsIn K mainGlobals "first_values"=some (some (.ref f8)))
  (F8:yQ K "first_values" "first_values" Te f8 d8)
  (a9:nsIn K mainGlobals "chosen"=some (some (.ref f9)))
  (F9:yQ K "chosen" "chosen" zex f9 d9)
  (a10:nsIn K mainGlobals "is_mark"=some (some (.ref f10)))
  (F10:yQ K "is_mark" "is_mark" zbK f10 d10)
  (a11:nsIn K mainGlobals "is_order"=some (some (.ref f11)))
  (F11:yQ K "is_order" "is_order" Tg f11 d11)
  (a12:nsIn K mainGlobals "is_row"=some (some (.ref f12)))
  (F12:yQ K "is_row" "is_row" Mw f12 d12)
  (a13:nsIn K mainGlobals "letters_of"=some (some (.ref f13)))
  (F13:yQ K "letters_of" "letters_of" QV f13 d13)
  (a14:nsIn K mainGlobals "parts_of"=some (some (.ref f14)))
  (F14:yQ K "parts_of" "parts_of" J5 f14 d14)
  (a15:nsIn K mainGlobals "parts_of_all"=some (some (.ref f15)))
  (F15:yQ K "parts_of_all" "parts_of_all" Ti f15 d15)
  (a16:nsIn K mainGlobals "is_shaped"=some (some (.ref f16)))
  (F16:yQ K "is_shaped" "is_shaped" ZM f16 d16)
  (a17:nsIn K mainGlobals "is_sentence"=some (some (.ref f17)))
  (F17:yQ K "is_sentence" "is_sentence" YB f17 d17)
  (a18:nsIn K mainGlobals "must_be_order"=some (some (.ref f18)))
  (F18:yQ K "must_be_order" "must_be_order" VL f18 d18)
  (a19:nsIn K mainGlobals "must_be_sentence"=some (some (.ref f19)))
  (F19:yQ K "must_be_sentence" "must_be_sentence" YZ f19 d19)
  (a20:nsIn K mainGlobals "must_have_mark"=some (some (.ref f20)))
  (F20:yQ K "must_have_mark" "must_have_mark" Wy f20 d20)
  (a21:nsIn K mainGlobals "must_have_marks"=some (some (.ref f21)))
  (F21:yQ K "must_have_marks" "must_have_marks" Xw f21 d21)
  (a22:nsIn K mainGlobals "must_be_row"=some (some (.ref f22)))
  (F22:yQ K "must_be_row" "must_be_row" Rp f22 d22)
  (a23:nsIn K mainGlobals "tuples_in"=some (some (.ref f23)))
  (F23:yQ K "tuples_in" "tuples_in" Mx f23 d23)
  (a24:nsIn K mainGlobals "letters_in"=some (some (.ref f24)))
  (F24:yQ K "letters_in" "letters_in" QW f24 d24)
  (a25:nsIn K mainGlobals "table_of"=some (some (.ref f25)))
  (F25:yQ K "table_of" "table_of" Tj f25 d25)
  (a26:nsIn K mainGlobals "table_of_two"=some (some (.ref f26)))
  (F26:yQ K "table_of_two" "table_of_two" Tn f26 d26)
  (a27:nsIn K mainGlobals "now_marks"=some (some (.ref f27)))
  (F27:yQ K "now_marks" "now_marks" VD f27 d27)
  (a28:nsIn K mainGlobals "then_marks"=some (some (.ref f28)))
  (F28:yQ K "then_marks" "then_marks" Xx f28 d28)
  (a29:nsIn K mainGlobals "now_places"=some (some (.ref f29)))
  (F29:yQ K "now_places" "now_places" Xy f29 d29)
  (a30:nsIn K mainGlobals "then_places"=some (some (.ref f30)))
  (F30:yQ K "then_places" "then_places" YC f30 d30)
  (a31:nsIn K mainGlobals "must_be_world"=some (some (.ref f31)))
  (F31:yQ K "must_be_world" "must_be_world" VN f31 d31)
  (a32:nsIn K mainGlobals "must_be_of_now"=some (some (.ref f32)))
  (F32:yQ K "must_be_of_now" "must_be_of_now" Wz f32 d32)
  (a33:nsIn K mainGlobals "must_be_world_with"=some (some (.ref f33)))
  (F33:yQ K "must_be_world_with" "must_be_world_with" ZP f33 d33)
  (a34:nsIn K mainGlobals "after"=some (some (.ref f34)))
  (F34:yQ K "after" "after" zhq f34 d34)
  (a35:nsIn K mainGlobals "before"=some (some (.ref f35)))
  (F35:yQ K "before" "before" zey f35 d35)
  (a36:nsIn K mainGlobals "for_any"=some (some (.ref f36)))
  (F36:yQ K "for_any" "for_any" zbL f36 d36)
  (a37:nsIn K mainGlobals "moved"=some (some (.ref f37)))
  (F37:yQ K "moved" "moved" zhr f37 d37)
  (a38:nsIn K mainGlobals "round_tables"=some (some (.ref f38)))
  (F38:yQ K "round_tables" "round_tables" Tp f38 d38)
  (a39:nsIn K mainGlobals "way_to"=some (some (.ref f39)))
  (F39:yQ K "way_to" "way_to" zez f39 d39)
  (a40:nsIn K mainGlobals "way_through"=some (some (.ref f40)))
  (F40:yQ K "way_through" "way_through" Rq f40 d40)
  (a41:nsIn K mainGlobals "first_of_now"=some (some (.ref f41)))
  (F41:yQ K "first_of_now" "first_of_now" Tq f41 d41)
  (a42:nsIn K mainGlobals "only"=some (some (.ref f42)))
  (F42:yQ K "only" "only" zkn f42 d42)
  (a43:nsIn K mainGlobals "way_shows"=some (some (.ref f43)))
  (F43:yQ K "way_shows" "way_shows" ZQ f43 d43)
  (a44:findIn K (.ref vQ) "__init__"=some (some (.ref f44)))
  (i44:PySem.W.isFn K (.ref f44)=true)
  (F44:yQ K "__init__" "Book.__init__" Mz f44 d44)
  (a45:findIn K (.ref vQ) "order"=some (some (.ref f45)))
  (i45:PySem.W.isFn K (.ref f45)=true)
  (F45:yQ K "order" "Book.order" QX f45 d45)
  (a46:findIn K (.ref vQ) "size"=some (some (.ref f46)))
  (i46:PySem.W.isFn K (.ref f46)=true)
  (F46:yQ K "size" "Book.size" zcS f46 d46)
  (a47:findIn K (.ref vQ) "enter"=some (some (.ref f47)))
  (i47:PySem.W.isFn K (.ref f47)=true)
  (F47:yQ K "enter" "Book.enter" QZ f47 d47)
  (a48:findIn K (.ref vQ) "room"=some (some (.ref f48)))
  (i48:PySem.W.isFn K (.ref f48)=true)
  (F48:yQ K "room" "Book.room" MF f48 d48)
  (a49:findIn K (.ref vQ) "must_be_room"=some (some (.ref f49)))
  (i49:PySem.W.isFn K (.ref f49)=true)
  (F49:yQ K "must_be_room" "Book.must_be_room" Ys f49 d49)
  (a50:findIn K (.ref vQ) "place_of"=some (some (.ref f50)))
  (i50:PySem.W.isFn K (.ref f50)=true)
  (F50:yQ K "place_of" "Book.place_of" Ng f50 d50)
  (a51:findIn K (.ref vQ) "going"=some (some (.ref f51)))
  (i51:PySem.W.isFn K (.ref f51)=true)
  (F51:yQ K "going" "Book.going" zaT f51 d51)
  (a52:findIn K (.ref vQ) "led"=some (some (.ref f52)))
  (i52:PySem.W.isFn K (.ref f52)=true)
  (F52:yQ K "led" "Book.led" zeA f52 d52)
  (a53:findIn K (.ref vQ) "table_at"=some (some (.ref f53)))
  (i53:PySem.W.isFn K (.ref f53)=true)
  (F53:yQ K "table_at" "Book.table_at" VP f53 d53)
  (a54:findIn K (.ref vQ) "room_with"=some (some (.ref f54)))
  (i54:PySem.W.isFn K (.ref f54)=true)
  (F54:yQ K "room_with" "Book.room_with" WD f54 d54)
  (a55:nsIn K mainGlobals "_law_cell_at"=some (some (.ref f55)))
  (F55:yQ K "_law_cell_at" "_law_cell_at" VR f55 d55)
  (a56:nsIn K mainGlobals "_law_draw"=some (some (.ref f56)))
  (F56:yQ K "_law_draw" "_law_draw" Q5 f56 d56)
  (a57:nsIn K mainGlobals "_law_sentence"=some (some (.ref f57)))
  (F57:yQ K "_law_sentence" "_law_sentence" vq f57 d57)
  (a58:nsIn K mainGlobals "_law_rows"=some (some (.ref f58)))
  (F58:yQ K "_law_rows" "_law_rows" Q6 f58 d58)
  (a59:nsIn K mainGlobals "_law_value"=some (some (.ref f59)))
  (F59:yQ K "_law_value" "_law_value" Rr f59 d59)
  (a60:nsIn K mainGlobals "_law_whole"=some (some (.ref f60)))
  (F60:yQ K "_law_whole" "_law_whole" Rt f60 d60)
  (a61:nsIn K mainGlobals "_law_numbers"=some (some (.ref f61)))
  (F61:yQ K "_law_numbers" "_law_numbers" Zn f61 d61)
  (a62:nsIn K mainGlobals "_law_world"=some (some (.ref f62)))
  (F62:yQ K "_law_world" "_law_world" Ru f62 d62)
  (a63:nsIn K mainGlobals "_law_now"=some (some (.ref f63)))
  (F63:yQ K "_law_now" "_law_now" VF f63 d63)
  (a64:nsIn K mainGlobals "_law_pair"=some (some (.ref f64)))
  (F64:yQ K "_law_pair" "_law_pair" Xz f64 d64)
  (a65:nsIn K mainGlobals "_law_graph"=some (some (.ref f65)))
  (F65:yQ K "_law_graph" "_law_graph" Rv f65 d65)
  (a66:nsIn K mainGlobals "_law_places"=some (some (.ref f66)))
  (F66:yQ K "_law_places" "_law_places" vK f66 d66)
  (a67:nsIn K mainGlobals "_law_into"=some (some (.ref f67)))
  (F67:yQ K "_law_into" "_law_into" XC f67 d67)
  (a68:nsIn K mainGlobals "_law_turns"=some (some (.ref f68)))
  (F68:yQ K "_law_turns" "_law_turns" YD f68 d68)
  (a69:nsIn K mainGlobals "_law_counting"=some (some (.ref f69)))
  (F69:yQ K "_law_counting" "_law_counting" WK f69 d69)
  (a70:nsIn K mainGlobals "_law_single"=some (some (.ref f70)))
  (F70:yQ K "_law_single" "_law_single" Tr f70 d70)
  (a71:nsIn K mainGlobals "_law_both"=some (some (.ref f71)))
  (F71:yQ K "_law_both" "_law_both" Q7 f71 d71)
  (a72:nsIn K mainGlobals "_law_told_place"=some (some (.ref f72)))
  (F72:yQ K "_law_told_place" "_law_told_place" Y0 f72 d72)
  (a73:nsIn K mainGlobals "_law_is_way"=some (some (.ref f73)))
  (F73:yQ K "_law_is_way" "_law_is_way" yO f73 d73)
  (a74:nsIn K mainGlobals "_law_asked"=some (some (.ref f74)))
  (F74:yQ K "_law_asked" "_law_asked" uH f74 d74)
  (a75:nsIn K mainGlobals "law"=some (some (.ref f75)))
  (F75:yQ K "law" "law" S_law f75 d75)
  (zhE:PySem.W.plainGet K vQ Str.empty=true)
  (zhF:PySem.W.hasDictIn K vQ=true)
  (zhG:PySem.W.plainOver K vQ=true)
  (zhH:findIn K (.ref vQ) "__setattr__"=some (some (.builtin "object.__setattr__")))
  (Kr:PySem.W.makesIn K vQ=true)
  (zhI:PySem.W.keepIn K (.ref vQ)=true)
  (wz:findIn K (.ref vQ) "marks"=some none)
  (wR:findIn K (.ref vQ) "rooms"=some none)
  (wY:findIn K (.ref vQ) "tables"=some none)
  (xJ:findIn K (.ref vQ) "numbers"=some none)
  (S9:nsIn K mainGlobals "MARKS"=some (some (.ref zhC)))
  (zhJ:K.lookup zhC=some ⟨.type "tuple", zoX,.seq zji zqI,zoY⟩)
  (zhK:zji.toList.map V6=((["a", "b", "c", "d", "e", "f", "g", "h"]:List Str).map V.str).map some)
  (RP:nsIn K mainGlobals "MOST_TUPLES"=some (some (.int 200 Vt)))
  (Lj:nsIn K mainGlobals "MOST_DEEP"=some (some (.int 24 Ra)))
  (YF:nsIn K mainGlobals "SHAPES"=some (some (.ref zbg)))
  (ze1:K.lookup zbg=some ⟨.type "dict", none,.dict zgJ zmX,#[]⟩)
  (ze2:zgJ.toList=[⟨hashStr w "yes", .str "yes" zmY,.ref Ky⟩,⟨hashStr w "no", .str "no" zm0,.ref Kz⟩,⟨hashStr w "mark", .str "mark" zm2,.ref KC⟩,⟨hashStr w "not", .str "not" zm4,.ref KD⟩,⟨hashStr w "and", .str "and" zm6,.ref KH⟩,⟨hashStr w "or", .str "or" zm8,.ref KJ⟩,⟨hashStr w "either", .str "either" zna,.ref KN⟩,⟨hashStr w "if", .str "if" znc,.ref KQ⟩,⟨hashStr w "some", .str "some" zne,.ref KR⟩,⟨hashStr w "each", .str "each" zng,.ref KY⟩])
  (ze3:(zbg==sysModules)=false)
  (zb1:K.lookup Ky=some ⟨.type "tuple", zkw,.seq zeN zmZ,zkx⟩)
  (zb2:zeN.toList.map V6=[V.int 0,V.int 0].map some)
  (zb3:K.lookup Kz=some ⟨.type "tuple", zky,.seq zeO zm1,zkz⟩)
  (zb4:zeO.toList.map V6=[V.int 0,V.int 0].map some)
  (zb5:K.lookup KC=some ⟨.type "tuple", zkA,.seq zeP zm3,zkB⟩)
  (zb6:zeP.toList.map V6=[V.int 1,V.int 0].map some)
  (zb7:K.lookup KD=some ⟨.type "tuple", zkC,.seq zeQ zm5,zkD⟩)
  (zb8:zeQ.toList.map V6=[V.int 0,V.int 1].map some)
  (zb9:K.lookup KH=some ⟨.type "tuple", zkE,.seq zeR zm7,zkF⟩)
  (zca:zeR.toList.map V6=[V.int 0,V.int 2].map some)
  (zcb:K.lookup KJ=some ⟨.type "tuple", zkG,.seq zeS zm9,zkH⟩)
  (zcc:zeS.toList.map V6=[V.int 0,V.int 2].map some)
  (zcd:K.lookup KN=some ⟨.type "tuple", zkI,.seq zeT znb,zkJ⟩)
  (zce:zeT.toList.map V6=[V.int 0,V.int 2].map some)
  (zcf:K.lookup KQ=some ⟨.type "tuple", zkK,.seq zeU znd,zkL⟩)
  (zcg:zeU.toList.map V6=[V.int 0,V.int 2].map some)
  (zch:K.lookup KR=some ⟨.type "tuple", zkM,.seq zeV znf,zkN⟩)
  (zci:zeV.toList.map V6=[V.int 1,V.int 1].map some)
  (zcj:K.lookup KY=some ⟨.type "tuple", zkO,.seq zeW znh,zkP⟩)
  (zck:zeW.toList.map V6=[V.int 1,V.int 1].map some)
  (YT:nsIn K mainGlobals "PAIRS"=some (some (.ref zhD)))
  (zhL:K.lookup zhD=some ⟨.type "tuple", zoZ,.seq zjj zqJ,zo0⟩)
  (zhM:zjj.toList.map V6=([.ref zbX,.ref zbY,.ref zbZ,.ref zb0]:List V).map some)
  (zcl:K.lookup zbX=some ⟨.type "tuple", zkQ,.seq zeX zni,zkR⟩)
  (zcm:zeX.toList.map V6=((["a", "e"]:List Str).map V.str).map some)
  (zcn:K.lookup zbY=some ⟨.type "tuple", zkS,.seq zeY znj,zkT⟩)
  (zco:zeY.toList.map V6=((["b", "f"]:List Str).map V.str).map some)
  (zcp:K.lookup zbZ=some ⟨.type "tuple", zkU,.seq zeZ znk,zkV⟩)
  (zcq:zeZ.toList.map V6=((["c", "g"]:List Str).map V.str).map some)
  (zcr:K.lookup zb0=some ⟨.type "tuple", zkW,.seq ze0 znl,zkX⟩)
  (zcs:ze0.toList.map V6=((["d", "h"]:List Str).map V.str).map some)
  (zo1:nsIn K mainGlobals "all"=some none)
  (zo2:nsIn K mainGlobals "any"=some none)
  (zkY:nsIn K mainGlobals "bool"=some none)
  (zkZ:nsIn K mainGlobals "dict"=some none)
  (zo3:nsIn K mainGlobals "int"=some none)
  (PK:nsIn K mainGlobals "isinstance"=some none)
  (zo4:nsIn K mainGlobals "len"=some none)
  (zk0:nsIn K mainGlobals "list"=some none)
  (zo5:nsIn K mainGlobals "max"=some none)
  (zo6:nsIn K mainGlobals "min"=some none)
  (zhN:nsIn K mainGlobals "range"=some none)
  (zk1:nsIn K mainGlobals "repr"=some none)
  (zaf:nsIn K mainGlobals "reversed"=some none)
  (zo7:nsIn K mainGlobals "set"=some none)
  (zo8:nsIn K mainGlobals "str"=some none)
  (zhO:nsIn K mainGlobals "tuple"=some none)
  (zo9:nsIn K mainGlobals "zip"=some none) :
  ∃a:Ad,Txt P w K mg a:=by
 exact⟨⟨f0,d0,f1,d1,f2,d2,f3,d3,f4,d4,f5,d5,f6,d6,f7,d7,f8,d8,f9,d9,f10,d10,f11,d11,f12,d12,f13,d13,f14,d14,f15,d15,f16,d16,f17,d17,f18,d18,f19,d19,f20,d20,f21,d21,f22,d22,f23,d23,f24,d24,f25,d25,f26,d26,f27,d27,f28,d28,f29,d29,f30,d30,f31,d31,f32,d32,f33,d33,f34,d34,f35,d35,f36,d36,f37,d37,f38,d38,f39,d39,f40,d40,f41,d41,f42,d42,f43,d43,f44,d44,f45,d45,f46,d46,f47,d47,f48,d48,f49,d49,f50,d50,f51,d51,f52,d52,f53,d53,f54,d54,f55,d55,f56,d56,f57,d57,f58,d58,f59,d59,f60,d60,f61,d61,f62,d62,f63,d63,f64,d64,f65,d65,f66,d66,f67,d67,f68,d68,f69,d69,f70,d70,f71,d71,f72,d72,f73,d73,f74,d74,f75,d75,vQ,zhC,Vt,Ra,zbg,[("yes", .ref Ky),("no", .ref Kz),("mark", .ref KC),("not", .ref KD),("and", .ref KH),("or", .ref KJ),("either", .ref KN),("if", .ref KQ),("some", .ref KR),("each", .ref KY)],zhD,zbX,zbY,zbZ,zb0⟩,{
  zoR:=mg_of X G zy
  ZR:=F0
  Y4:=F0.binds fun _ _ _ _ _ _ us hl=>by obtain⟨_,rfl⟩:=WL hl;rfl
  Y5:=mg_of X G a0
  ZS:=F1
  Xh:=F1.binds fun _ _ _ _ _ _ us hl=>by obtain⟨_,_,rfl⟩:=VG hl;rfl
  Xi:=mg_of X G a1
  WY:=F2
  UW:=F2.binds fun _ _ _ _ _ _ us hl=>by obtain⟨_,_,_,rfl⟩:=K7 hl;rfl
  U0:=mg_of X G a2
  Xj:=F3
  W0:=F3.binds fun _ _ _ _ _ _ us hl=>by obtain⟨_,_,_,_,rfl⟩:=zi2 hl;rfl
  W2:=mg_of X G a3
  Pb:=F4
  J9:=F4.binds fun _ _ _ _ _ _ us hl=>by obtain⟨_,_,_,rfl⟩:=K7 hl;rfl
  zaa:=mg_of X G a4
  Rx:=F5
  Jh:=F5.binds fun _ _ _ _ _ _ us hl=>by obtain⟨_,_,rfl⟩:=VG hl;rfl
  Ji:=mg_of X G a5
  Qk:=F6
  Km:=F6.binds fun _ _ _ _ _ _ us hl=>by obtain⟨_,_,rfl⟩:=VG hl;rfl
  Ko:=mg_of X G a6
  Ry:=F7
  Jj:=F7.binds fun _ _ _ _ _ _ us hl=>by obtain⟨_,_,_,rfl⟩:=K7 hl;rfl
  Jk:=mg_of X G a7
  Tz:=F8
  MK:=F8.binds fun _ _ _ _ _ _ us hl=>by obtain⟨_,_,_,rfl⟩:=K7 hl;rfl
  MN:=mg_of X G a8
  zeH:=F9
  zi3:=F9.binds fun _ _ _ _ _ _ us hl=>by obtain⟨_,_,_,rfl⟩:=K7 hl;rfl
  zi4:=mg_of X G a9
  Kp:=F10
  zbT:=F10.binds fun _ _ _ _ _ _ us hl=>by obtain⟨_,rfl⟩:=WL hl;rfl
  zbU:=mg_of X G a10
  zab:=F11
  zeI:=F11.binds fun _ _ _ _ _ _ us hl=>by obtain⟨_,rfl⟩:=WL hl;rfl
  zeJ:=mg_of X G a11
  zeK:=F12
  zi5:=F12.binds fun _ _ _ _ _ _ us hl=>by obtain⟨_,_,rfl⟩:=VG hl;rfl
  zi6:=mg_of X G a12
  Us:=F13
  Pg:=F13.binds fun _ _ _ _ _ _ us hl=>by obtain⟨_,rfl⟩:=WL hl;rfl
  Ph:=mg_of X G a13
  TF:=F14
  Pj:=F14.binds fun _ _ _ _ _ _ us hl=>by obtain⟨_,rfl⟩:=WL hl;rfl
  Pk:=mg_of X G a14
  X8:=F15
  TJ:=F15.binds fun _ _ _ _ _ _ us hl=>by obtain⟨_,rfl⟩:=WL hl;rfl
  TQ:=mg_of X G a15
  MP:=F16
  zcX:=F16.binds fun _ _ _ _ _ _ us hl=>by obtain⟨_,rfl⟩:=WL hl;rfl
  zcY:=mg_of X G a16
  RB:=F17
  Jl:=F17.binds fun _ _ _ _ _ _ us hl=>by obtain⟨_,rfl⟩:=WL hl;rfl
  Jm:=mg_of X G a17
  V1:=F18
  Nm:=F18.binds fun _ _ _ _ _ _ us hl=>by obtain⟨_,rfl⟩:=WL hl;rfl
  Np:=mg_of X G a18
  Y6:=F19
  TV:=F19.binds fun _ _ _ _ _ _ us hl=>by obtain⟨_,rfl⟩:=WL hl;rfl
  TX:=mg_of X G a19
  W3:=F20
  Ql:=F20.binds fun _ _ _ _ _ _ us hl=>by obtain⟨_,_,rfl⟩:=VG hl;rfl
  Qm:=mg_of X G a20
  Wa:=F21
  Rb:=F21.binds fun _ _ _ _ _ _ us hl=>by obtain⟨_,_,rfl⟩:=VG hl;rfl
  Rf:=mg_of X G a21
  RD:=F22
  Jo:=F22.binds fun _ _ _ _ _ _ us hl=>by obtain⟨_,_,rfl⟩:=VG hl;rfl
  Jp:=mg_of X G a22
  M4:=F23
  zcZ:=F23.binds fun _ _ _ _ _ _ us hl=>by obtain⟨_,rfl⟩:=WL hl;rfl
  zc0:=mg_of X G a23
  Pn:=F24
  za5:=F24.binds fun _ _ _ _ _ _ us hl=>by obtain⟨_,rfl⟩:=WL hl;rfl
  za6:=mg_of X G a24
  Pq:=F25
  zac:=F25.binds fun _ _ _ _ _ _ us hl=>by obtain⟨_,_,rfl⟩:=VG hl;rfl
  zad:=mg_of X G a25
  TY:=F26
  M5:=F26.binds fun _ _ _ _ _ _ us hl=>by obtain⟨_,_,_,_,rfl⟩:=zi2 hl;rfl
  M6:=mg_of X G a26
  Rg:=F27
  M7:=F27.binds fun _ _ _ _ _ _ us hl=>by obtain⟨_,rfl⟩:=WL hl;rfl
  M8:=mg_of X G a27
  Pr:=F28
  za7:=F28.binds fun _ _ _ _ _ _ us hl=>by obtain⟨_,rfl⟩:=WL hl;rfl
  za8:=mg_of X G a28
  Zf:=F29
  Yk:=F29.binds fun _ _ _ _ _ _ us hl=>by obtain⟨_,rfl⟩:=WL hl;rfl
  Yl:=mg_of X G a29
  Zx:=F30
  YG:=F30.binds fun _ _ _ _ _ _ us hl=>by obtain⟨_,rfl⟩:=WL hl;rfl
  YH:=mg_of X G a30
  V2:=F31
  Nq:=F31.binds fun _ _ _ _ _ _ us hl=>by obtain⟨_,rfl⟩:=WL hl;rfl
  Nr:=mg_of X G a31
  W4:=F32
  Qn:=F32.binds fun _ _ _ _ _ _ us hl=>by obtain⟨_,_,rfl⟩:=VG hl;rfl
  Qo:=mg_of X G a32
  ux:=F33
  ZV:=F33.binds fun _ _ _ _ _ _ us hl=>by obtain⟨_,_,_,rfl⟩:=K7 hl;rfl
  ZW:=mg_of X G a33
  zdH:=F34
  zhu:=F34.binds fun _ _ _ _ _ _ us hl=>by obtain⟨_,_,_,rfl⟩:=K7 hl;rfl
  zhv:=mg_of X G a34
  zeL:=F35
  zi7:=F35.binds fun _ _ _ _ _ _ us hl=>by obtain⟨_,_,_,rfl⟩:=K7 hl;rfl
  zi8:=mg_of X G a35
  Kq:=F36
  zbV:=F36.binds fun _ _ _ _ _ _ us hl=>by obtain⟨_,_,_,rfl⟩:=K7 hl;rfl
  zbW:=mg_of X G a36
  zdI:=F37
  zhw:=F37.binds fun _ _ _ _ _ _ us hl=>by obtain⟨_,_,_,_,rfl⟩:=zi2 hl;rfl
  zhx:=mg_of X G a37
  T3:=F38
  M9:=F38.binds fun _ _ _ _ _ _ us hl=>by obtain⟨_,_,_,rfl⟩:=K7 hl;rfl
  La:=mg_of X G a38
  zeM:=F39
  zi9:=F39.binds fun _ _ _ _ _ _ us hl=>by obtain⟨_,_,_,_,rfl⟩:=zi2 hl;rfl
  zja:=mg_of X G a39
  RG:=F40
  Jq:=F40.binds fun _ _ _ _ _ _ us hl=>by obtain⟨_,_,_,_,rfl⟩:=zi2 hl;rfl
  Jr:=mg_of X G a40
  Wb:=F41
  T4:=F41.binds fun _ _ _ _ _ _ us hl=>by obtain⟨_,_,rfl⟩:=VG hl;rfl
  T5:=mg_of X G a41
  zhy:=F42
  zkq:=F42.binds fun _ _ _ _ _ _ us hl=>by obtain⟨_,_,rfl⟩:=VG hl;rfl
  zkr:=mg_of X G a42
  Lb:=F43
  zc1:=F43.binds fun _ _ _ _ _ _ us hl=>by obtain⟨_,_,_,_,_,rfl⟩:=zsc hl;rfl
  zc2:=mg_of X G a43
  zc3:=F44
  zc4:=F44.binds fun _ _ _ _ _ _ us hl=>by obtain⟨_,_,rfl⟩:=VG hl;rfl
  zjb:=⟨a44,i44,F44.2⟩
  Kr:=⟨Kr,a44,i44,zhI⟩
  za9:=F45
  xW:=F45.binds fun _ _ _ _ _ _ us hl=>by obtain⟨_,rfl⟩:=WL hl;rfl
  xX:=⟨a45,i45,F45.2⟩
  zjc:=F46
  zjd:=F46.binds fun _ _ _ _ _ _ us hl=>by obtain⟨_,rfl⟩:=WL hl;rfl
  zje:=⟨a46,i46,F46.2⟩
  zba:=F47
  Wc:=F47.binds fun _ _ _ _ _ _ us hl=>by obtain⟨_,_,rfl⟩:=VG hl;rfl
  Wd:=⟨a47,i47,F47.2⟩
  zjf:=F48
  zjg:=F48.binds fun _ _ _ _ _ _ us hl=>by obtain⟨_,_,rfl⟩:=VG hl;rfl
  zjh:=⟨a48,i48,F48.2⟩
  V5:=F49
  Yt:=F49.binds fun _ _ _ _ _ _ us hl=>by obtain⟨_,_,rfl⟩:=VG hl;rfl
  Yu:=⟨a49,i49,F49.2⟩
  zde:=F50
  zdf:=F50.binds fun _ _ _ _ _ _ us hl=>by obtain⟨_,_,rfl⟩:=VG hl;rfl
  zdg:=⟨a50,i50,F50.2⟩
  zhz:=F51
  zhA:=F51.binds fun _ _ _ _ _ _ us hl=>by obtain⟨_,_,_,rfl⟩:=K7 hl;rfl
  zhB:=⟨a51,i51,F51.2⟩
  zks:=F52
  zkt:=F52.binds fun _ _ _ _ _ _ us hl=>by obtain⟨_,_,_,_,rfl⟩:=zi2 hl;rfl
  zku:=⟨a52,i52,F52.2⟩
  Nt:=F53
  wF:=F53.binds fun _ _ _ _ _ _ us hl=>by obtain⟨_,_,rfl⟩:=VG hl;rfl
  wG:=⟨a53,i53,F53.2⟩
  Qp:=F54
  Ym:=F54.binds fun _ _ _ _ _ _ us hl=>by obtain⟨_,_,rfl⟩:=VG hl;rfl
  Yn:=⟨a54,i54,F54.2⟩
  yL:=F55
  xG:=F55.binds fun _ _ _ _ _ _ us hl=>by obtain⟨_,_,rfl⟩:=VG hl;rfl
  xH:=mg_of X G a55
  yx:=F56
  yH:=F56.binds fun _ _ _ _ _ _ us hl=>by obtain⟨_,_,_,rfl⟩:=K7 hl;rfl
  yI:=mg_of X G a56
  uZ:=F57
  Yo:=F57.binds fun _ _ _ _ _ _ us hl=>by obtain⟨_,_,_,_,rfl⟩:=zi2 hl;rfl
  Yp:=mg_of X G a57
  Wf:=F58
  Ut:=F58.binds fun _ _ _ _ _ _ us hl=>by obtain⟨_,rfl⟩:=WL hl;rfl
  Uu:=mg_of X G a58
  vo:=F59
  uM:=F59.binds fun _ _ _ _ _ _ us hl=>by obtain⟨_,_,_,rfl⟩:=K7 hl;rfl
  uN:=mg_of X G a59
  RJ:=F60
  Js:=F60.binds fun _ _ _ _ _ _ us hl=>by obtain⟨_,rfl⟩:=WL hl;rfl
  Jt:=mg_of X G a60
  V3:=F61
  Nu:=F61.binds fun _ _ _ _ _ _ us hl=>by obtain⟨_,_,rfl⟩:=VG hl;rfl
  Nv:=mg_of X G a61
  RK:=F62
  Ju:=F62.binds fun _ _ _ _ _ _ us hl=>by obtain⟨_,rfl⟩:=WL hl;rfl
  Jv:=mg_of X G a62
  uy:=F63
  tK:=F63.binds fun _ _ _ _ _ _ us hl=>by obtain⟨_,rfl⟩:=WL hl;rfl
  tL:=mg_of X G a63
  Uv:=F64
  Pu:=F64.binds fun _ _ _ _ _ _ us hl=>by obtain⟨_,_,_,rfl⟩:=K7 hl;rfl
  Px:=mg_of X G a64
  RL:=F65
  Jw:=F65.binds fun _ _ _ _ _ _ us hl=>by obtain⟨_,_,rfl⟩:=VG hl;rfl
  Jx:=mg_of X G a65
  Wg:=F66
  T6:=F66.binds fun _ _ _ _ _ _ us hl=>by obtain⟨_,_,rfl⟩:=VG hl;rfl
  T7:=mg_of X G a66
  Py:=F67
  zbb:=F67.binds fun _ _ _ _ _ _ us hl=>by obtain⟨_,_,rfl⟩:=VG hl;rfl
  zbc:=mg_of X G a67
  RM:=F68
  Jy:=F68.binds fun _ _ _ _ _ _ us hl=>by obtain⟨_,_,rfl⟩:=VG hl;rfl
  Jz:=mg_of X G a68
  W5:=F69
  Qq:=F69.binds fun _ _ _ _ _ _ us hl=>by obtain⟨_,rfl⟩:=WL hl;rfl
  Qs:=mg_of X G a69
  T8:=F70
  Ld:=F70.binds fun _ _ _ _ _ _ us hl=>by obtain⟨_,_,rfl⟩:=VG hl;rfl
  Le:=mg_of X G a70
  Pz:=F71
  zbd:=F71.binds fun _ _ _ _ _ _ us hl=>by obtain⟨_,rfl⟩:=WL hl;rfl
  zbe:=mg_of X G a71
  vP:=F72
  Zg:=F72.binds fun _ _ _ _ _ _ us hl=>by obtain⟨_,_,_,rfl⟩:=K7 hl;rfl
  Zh:=mg_of X G a72
  T9:=F73
  Lf:=F73.binds fun _ _ _ _ _ _ us hl=>by obtain⟨_,_,_,_,_,rfl⟩:=zsc hl;rfl
  Lg:=mg_of X G a73
  RN:=F74
  JB:=F74.binds fun _ _ _ _ _ _ us hl=>by obtain⟨_,_,_,_,_,_,rfl⟩:=zvO hl;rfl
  JC:=mg_of X G a74
  F_law:=F75
  b_law:=F75.binds fun _ _ _ _ _ _ us hl=>by obtain⟨_,rfl⟩:=WL hl;rfl
  m_law:=mg_of X G a75
  yu:=⟨zhE,zhF,zhG,zhH⟩
  wz:=wz
  wR:=wR
  wY:=wY
  xJ:=xJ
  x_law:=by
   obtain⟨_,_,_,_,_,_,_,_,_,rfl,_,_⟩:=F75.ex
   exact fun s u=>.of_eq rfl
  zma:=mg_of X G S9
  zmb:=fun H=>V4 zhJ zhK (by decide)
  JD:=mg_of X G RP
  zc5:=mg_of X G Lj
  Lh:=mg_of X G YF
  Li:=zpZ ze1 ze2 ze3 (kvs:=[("yes", .ref Ky),("no", .ref Kz),("mark", .ref KC),("not", .ref KD),("and", .ref KH),("or", .ref KJ),("either", .ref KN),("if", .ref KQ),("some", .ref KR),("each", .ref KY)]) (W8 (W8 (W8 (W8 (W8 (W8 (W8 (W8 (W8 (W8 (zrU))))))))))) (by show(["yes", "no", "mark", "not", "and", "or", "either", "if", "some", "each"]:List Str).Nodup;decide +kernel)
  zbf:=by
   intro k m n h
   simp only[vf,List.mem_cons,zC9,or_false,Prod.mk.injEq] at h
   rcases h with ⟨rfl,rfl,rfl⟩ | ⟨rfl,rfl,rfl⟩ | ⟨rfl,rfl,rfl⟩ | ⟨rfl,rfl,rfl⟩ | ⟨rfl,rfl,rfl⟩ | ⟨rfl,rfl,rfl⟩ | ⟨rfl,rfl,rfl⟩ | ⟨rfl,rfl,rfl⟩ | ⟨rfl,rfl,rfl⟩ | ⟨rfl,rfl,rfl⟩
   ·exact⟨_,rfl,fun H=>V4 zb1 zb2 (by decide)⟩
   ·exact⟨_,rfl,fun H=>V4 zb3 zb4 (by decide)⟩
   ·exact⟨_,rfl,fun H=>V4 zb5 zb6 (by decide)⟩
   ·exact⟨_,rfl,fun H=>V4 zb7 zb8 (by decide)⟩
   ·exact⟨_,rfl,fun H=>V4 zb9 zca (by decide)⟩
   ·exact⟨_,rfl,fun H=>V4 zcb zcc (by decide)⟩
   ·exact⟨_,rfl,fun H=>V4 zcd zce (by decide)⟩
   ·exact⟨_,rfl,fun H=>V4 zcf zcg (by decide)⟩
   ·exact⟨_,rfl,fun H=>V4 zch zci (by decide)⟩
   ·exact⟨_,rfl,fun H=>V4 zcj zck (by decide)⟩
  zoS:=by
   intro k h
   refine zmx fun e he=>?_
   simp only[List.mem_cons,zC9,or_false] at he
   rcases he with rfl | rfl | rfl | rfl | rfl | rfl | rfl | rfl | rfl | rfl
   ·exact h ("yes", 0,0) (by decide +kernel)
   ·exact h ("no", 0,0) (by decide +kernel)
   ·exact h ("mark", 1,0) (by decide +kernel)
   ·exact h ("not", 0,1) (by decide +kernel)
   ·exact h ("and", 0,2) (by decide +kernel)
   ·exact h ("or", 0,2) (by decide +kernel)
   ·exact h ("either", 0,2) (by decide +kernel)
   ·exact h ("if", 0,2) (by decide +kernel)
   ·exact h ("some", 1,1) (by decide +kernel)
   ·exact h ("each", 1,1) (by decide +kernel)
  zdJ:=mg_of X G YT
  PB:=fun H=>V4 zhL zhM (by show 4<=1000;decide)
  Ks:=fun H=>V4 zcl zcm (by decide)
  Ku:=fun H=>V4 zcn zco (by decide)
  Kv:=fun H=>V4 zcp zcq (by decide)
  Kw:=fun H=>V4 zcr zcs (by decide)
  Nx:=mg_none_of X G zo1
  zre:=mg_none_of X G zo2
  zoT:=mg_none_of X G zkY
  zoU:=mg_none_of X G zkZ
  zmc:=mg_none_of X G zo3
  uz:=mg_none_of X G PK
  xu:=mg_none_of X G zo4
  PJ:=mg_none_of X G zk0
  zmd:=mg_none_of X G zo5
  zrf:=mg_none_of X G zo6
  Zi:=mg_none_of X G zhN
  zkv:=mg_none_of X G zk1
  zae:=mg_none_of X G zaf
  zrg:=mg_none_of X G zo7
  zrh:=mg_none_of X G zo8
  zme:=mg_none_of X G zhO
  zmf:=mg_none_of X G zo9 }⟩
end K75
namespace K75
open PySem L2 Zk
section
variable {P : Program}{w : World}{K : Frag}{mg : Str -> Option Value}{a : Ad}
abbrev Txt.c0_ (T : Txt P w K mg a)(base : Heap)(k : Nat) : Prop := zA P w K mg base zW k a.tV a.tW ["marks"] Wt
abbrev Txt.c1_ (T : Txt P w K mg a)(base : Heap)(k : Nat) : Prop := zA P w K mg base zW k a.wW a.wX ["place", "marks"] tU
abbrev Txt.c2_ (T : Txt P w K mg a)(base : Heap)(k : Nat) : Prop := zA P w K mg base zW k a.Z8 a.Z9 ["table", "place", "marks"] Wu
abbrev Txt.c3_ (T : Txt P w K mg a)(base : Heap)(k : Nat) : Prop := zA P w K mg base zW k a.yJ a.yK ["script", "k"] (zax K)
abbrev Txt.c4_ (T : Txt P w K mg a)(base : Heap)(k : Nat) : Prop := zA P w K mg base zW k a.wO a.wQ ["cell", "k", "bound"] Mf
abbrev Txt.c5_ (T : Txt P w K mg a)(base : Heap)(k : Nat) : Prop := zA P w K mg base zW k a.wM a.wN ["script", "at", "many", "order"] (U9 K)
abbrev Txt.c6_ (T : Txt P w K mg a)(base : Heap)(k : Nat) : Prop := zA P w K mg base zW k a.WR a.WT ["letter"] RW
abbrev Txt.c7_ (T : Txt P w K mg a)(base : Heap)(k : Nat) : Prop := zA P w K mg base zW k a.tX a.tY ["sentence"] Vx
abbrev Txt.c8_ (T : Txt P w K mg a)(base : Heap)(k : Nat) : Prop := zA P w K mg base zW k a.tZ a.Za ["sentence"] Ww
abbrev Txt.c9_ (T : Txt P w K mg a)(base : Heap)(k : Nat) : Prop := zA P w K mg base zW k a.uX a.uY ["level"] (Ue K)
abbrev Txt.zAj (T : Txt P w K mg a)(base : Heap)(k : Nat) : Prop := zA P w K mg base zW k a.vA a.vB ["order", "letter"] (QC K)
abbrev Txt.zAk (T : Txt P w K mg a)(base : Heap)(k : Nat) : Prop := zA P w K mg base zW k a.vN a.vO ["word", "one", "other", "every"] zin
abbrev Txt.zAl (T : Txt P w K mg a)(base : Heap)(k : Nat) : Prop := zA P w K mg base zW k a.Xb a.Xc ["table", "place", "value", "marks"] R3
abbrev Txt.zAm (T : Txt P w K mg a)(base : Heap)(k : Nat) : Prop := zA P w K mg base zW k a.WM a.WQ ["table", "place", "marks"] zdA
abbrev Txt.zAn (T : Txt P w K mg a)(base : Heap)(k : Nat) : Prop := zA P w K mg base zW k a.Zt a.Zu ["table", "marks"] zdz
abbrev Txt.zAo (T : Txt P w K mg a)(base : Heap)(k : Nat) : Prop := zA P w K mg base zW k a.yJ a.yK ["script", "k"] (Kc K)
abbrev Txt.zAp (T : Txt P w K mg a)(base : Heap)(k : Nat) : Prop := zA P w K mg base zW k a.xO a.xP ["self", "number"] (Tc a.zy)
abbrev Txt.zAq (T : Txt P w K mg a)(base : Heap)(k : Nat) : Prop := zA P w K mg base zW k a.yR a.yS ["self", "number"] (Z5 a.zy)
abbrev Txt.zAr (T : Txt P w K mg a)(base : Heap)(k : Nat) : Prop := zA P w K mg base zW k a.yF a.yG ["self"] (xQ (yD a.zy))
abbrev Txt.zAs (T : Txt P w K mg a)(base : Heap)(k : Nat) : Prop := zA P w K mg base zW k a.Xd a.Xe ["table", "other"] Uy
abbrev Txt.zAt (T : Txt P w K mg a)(base : Heap)(k : Nat) : Prop := zA P w K mg base zW k a.Qd a.Qe ["order", "row"] (zdx K)
abbrev Txt.zAu (T : Txt P w K mg a)(base : Heap)(k : Nat) : Prop := zA P w K mg base zW k a.Zv a.Zw ["found"] zdv
abbrev Txt.zAv (T : Txt P w K mg a)(base : Heap)(k : Nat) : Prop := zA P w K mg base zW k a.UJ a.UL ["table", "places", "marks"] (zaF K)
abbrev Txt.zAw (T : Txt P w K mg a)(base : Heap)(k : Nat) : Prop := zA P w K mg base zW k a.Kh a.Kl ["table", "places", "others", "marks"] (zdB K)
abbrev Txt.zAx (T : Txt P w K mg a)(base : Heap)(k : Nat) : Prop := zA P w K mg base zW k a.Xf a.Xg ["book"] (QL a.zy)
abbrev Txt.zAy (T : Txt P w K mg a)(base : Heap)(k : Nat) : Prop := zA P w K mg base zW k a.uh a.uo ["book"] (Xa a.zy)
abbrev Txt.zAz (T : Txt P w K mg a)(base : Heap)(k : Nat) : Prop := zA P w K mg base zW k a.uI a.uJ ["book"] (Xp a.zy)
abbrev Txt.zAA (T : Txt P w K mg a)(base : Heap)(k : Nat) : Prop := zA P w K mg base zW k a.Kf a.Kg ["book", "steps", "table"] (zdC a.zy)
abbrev Txt.zAB (T : Txt P w K mg a)(base : Heap)(k : Nat) : Prop := zA P w K mg base zW k a.xZ a.wg ["book", "steps", "rooms"] (QM a.zy K)
abbrev Txt.zAC (T : Txt P w K mg a)(base : Heap)(k : Nat) : Prop := zA P w K mg base zW k a.wC a.wD ["order"] (Rk K)
abbrev Txt.zAD (T : Txt P w K mg a)(base : Heap)(k : Nat) : Prop := zA P w K mg base zW k a.ur a.uw ["size"] Uz
abbrev Txt.zAE (T : Txt P w K mg a)(base : Heap)(k : Nat) : Prop := zA P w K mg base zW k a.Yd a.Ye ["order", "row", "other"] (zdG K)
abbrev Txt.zAF (T : Txt P w K mg a)(base : Heap)(k : Nat) : Prop := zA P w K mg base zW k a.Yg a.Yh ["graph", "places"] zho
abbrev Txt.zAG (T : Txt P w K mg a)(base : Heap)(k : Nat) : Prop := zA P w K mg base zW k a.zbQ a.zbR ["book", "row"] (zhj a.zy K)
end
end K75
namespace K75
open PySem L2 Zk
section
variable {P:Program}{w:World}{K:Frag}{mg:Str->Option Value}{base:Heap}{a:Ad}{k:Nat}
theorem zjk (T:Txt P w K mg a):zA P w K mg base zW (k+1) a.tV a.tW ["marks"] Wt:=by
 refine T.ZR.ok ziY (fun vs H Q E h=>?_) (fun cdv A outer s H vs Q E hr h=>?_)
 ·obtain⟨n,rfl,_⟩:=h
  rfl
 obtain⟨n,rfl,hn,q⟩:=h
 refine⟨_,(zp (zK (zQ JH (zQ W9 zu (zQ W9 zu (pv 0))) zu))),?_⟩
 have h1:=zjY hn
 have one:1<2^10000:=zik (k:=1) (by decide) (by decide)
 refine⟨_,rfl,1,n,rfl,rfl,one,by omega,1,1*2^n,rfl,rfl,one,by omega,_,1,rfl,rfl,?_⟩
 have e:(((1*2^(1*2^n):Nat):Int)-1)=((2^2^n-1:Nat):Int):=by
  rw[Nat.one_mul,Nat.one_mul]
  have:=Nat.two_pow_pos (2^n)
  omega
 show Q (.int (((1*2^(1*2^n):Nat):Int)-1)) H
 rw[e]
 exact q
theorem zhP (T:Txt P w K mg a):zA P w K mg base zW (k+1) a.wW a.wX ["place", "marks"] tU:=by
 refine T.ZS.ok XD (fun vs H Q E h=>?_) (fun cdv A outer s H vs Q E hr h=>?_)
 ·obtain⟨p,n,rfl,_⟩:=h
  rfl
 obtain⟨p,n,rfl,hp,hn,q⟩:=h
 refine⟨_,(zf (zF (i:=2) XD.nd rfl (Or.inl rfl) (zQ W9 zu (pv 0)))
   (zf (zF (i:=3) XD.nd rfl (Or.inl rfl) (zQ W9 (zQ JH (zQ W9 zu (pv 2)) zu) (pv 2)))
   (zf (wL PassesOwn.never rfl (zf1 rfl T.Zi (za (zQ wU (pv 0) zu) (za (pv 1) zc))) (z9 (i:=4) XD.nd rfl (Or.inl rfl)) (zp (zF (i:=3) XD.nd rfl (Or.inl rfl) (zQ QB (pv 3) (zQ W9 (pv 3) (zQ W9 zu (pv 4)))))))
   (zp (zK (pv 3)))))),?_⟩
 have one:1<2^10000:=zik (k:=1) (by decide) (by decide)
 have h1:=zjY (n:=p) (by omega)
 have hh:2^p<2^10000:=Nat.pow_lt_pow_right (by decide) (by omega)
 have pp:=Nat.two_pow_pos (2^p)
 have e1:((1*2^(1*2^p):Nat):Int)-1=((2^2^p-1:Nat):Int):=by
  rw[Nat.one_mul,Nat.one_mul]
  omega
 have lt1:2^2^p-1<2^10000:=zCR (Nat.sub_lt pp (by decide)) (zDe (by decide) (by omega))
 refine⟨_,rfl,1,p,rfl,rfl,one,by omega,?_⟩
 refine⟨_,rfl,1,1*2^p,rfl,rfl,one,by omega,_,1,rfl,rfl,_,rfl,2^2^p-1,1*2^p,congrArg V.int e1,rfl,lt1,by omega,?_⟩
 refine⟨_,rfl,_,1,rfl,rfl,_,rfl,(p:Int)+1,(n:Int),rfl,⟨by omega,by omega,by omega,by omega⟩,?_⟩
 refine Z2 (fun i σ H'=>H'=H/\∃(N:Nat) (f:Option V),σ=[some (.int p),some (.int n),some (.int ((1*2^p:Nat):Int)),some (.int N),f]/\zX (p+1+i) N (fun b=>b.testBit p)) ⟨rfl,_,_,rfl,?_⟩ ?_ ?_
 ·rw[Nat.one_mul]
  exact zmy p
 ·rintro i σ H' hi ⟨rfl,N,f,rfl,tb⟩
  have hi':p+1+i<n:=by omega
  have h2:=zjY (n:=p+1+i) (by omega)
  have e2:V.int ((p:Int)+1+(i:Nat))=V.int ((p+1+i:Nat):Int):=congrArg V.int (by omega)
  have lt2:N<2^10000:=zik (zn1 tb) (zC4 h2 (by decide))
  refine⟨_,rfl,_,rfl,_,rfl,1,p+1+i,rfl,e2,one,by omega,N,1*2^(p+1+i),rfl,rfl,lt2,by omega,N,N*2^(1*2^(p+1+i)),rfl,rfl,?_⟩
  refine⟨rfl,_,_,rfl,?_⟩
  rw[Nat.one_mul]
  exact zjX (m:=p+1+i) (by omega) tb
 ·rintro σ H' ⟨rfl,N,f,rfl,tb⟩
  have e3:p+1+((n:Int)-((p:Int)+1)).toNat=n:=by omega
  rw[e3] at tb
  exact⟨_,rfl,q N tb⟩
theorem zk2 (T:Txt P w K mg a)(wH:zA P w K mg base zW k a.wW a.wX ["place", "marks"] tU):zA P w K mg base zW (k+1) a.Z8 a.Z9 ["table", "place", "marks"] Wu:=by
 refine T.WY.ok J6 (fun vs H Q E h=>?_) (fun cdv A outer s H vs Q E hr h=>?_)
 ·obtain⟨N,p,n,f,rfl,_⟩:=h
  rfl
 obtain⟨N,p,n,f,rfl,hp,hn,tb,q⟩:=h
 refine⟨_,(zf (zF (i:=3) J6.nd rfl (Or.inl rfl) (zQ Zz (pv 0) (zx wH hr rfl T.Xi T.ZS.2 T.Xh .nil zB (za (pv 1) (za (pv 2) zc)))))
   (zf (zF (i:=4) J6.nd rfl (Or.inl rfl) (zQ Ly (pv 0) (pv 3)))
   (zp (zK (zQ QB (zQ zp0 (pv 3) (zQ W9 zu (pv 1))) (zQ W9 (pv 4) (zQ W9 zu (pv 1)))))))),?_⟩
 have one:1<2^10000:=zik (k:=1) (by decide) (by decide)
 have h1:=zjY (n:=p) (by omega)
 have h2:=zjY (n:=n) (by omega)
 refine⟨_,rfl,_,rfl,_,rfl,p,n,rfl,hp,hn,fun R tr=>?_⟩
 refine⟨N,R,rfl,rfl,?_⟩
 refine⟨_,rfl,_,rfl,N,N&&&R,rfl,rfl,?_⟩
 have o:=Uc tb tr
 have z:=Qz tb o
 have lt2:N ^^^ (N&&&R)<2^10000:=zik (zn1 z) (zC4 h2 (by decide))
 refine⟨_,rfl,_,rfl,1,p,rfl,rfl,one,by omega,N&&&R,1*2^p,rfl,rfl,_,rfl,_,rfl,1,p,rfl,rfl,one,by omega,N ^^^ (N&&&R),1*2^p,rfl,rfl,lt2,by omega,_,_,rfl,rfl,?_⟩
 refine q _ ?_
 rw[Nat.one_mul]
 exact zn2 hp tb tr
theorem zk3 (T:Txt P w K mg a):zA P w K mg base zW (k+1) a.yJ a.yK ["script", "k"] (zax K):=by
 refine T.yL.ok Qc (fun vs H Q E h=>?_) (fun cdv A outer s H vs Q E hr h=>?_)
 ·obtain⟨l,ns,i,rfl,_⟩:=h
  rfl
 obtain⟨l,ns,i,rfl,hS,h0,q⟩:=h
 refine⟨_,(zf (yP (zP zlq (pv 1) (zH zG rfl T.xu yr (za (pv 0) zc)) (zY _)) (zp (zK (yj yV (pv 0) (pv 1) (fun _ _=>rfl)))) z8)
   (zp (zK zu))),?_⟩
 refine⟨_,rfl,_,rfl,l,_,rfl,.inl hS,_,_,rfl,rfl,_,rfl,?_⟩
 refine yw (fun c=>?_) (fun c=>?_)
 ·have c':i<(((ns.map V.int).length:Nat):Int):=of_decide_eq_true c
  rw[zCI] at c'
  have hi:i.toNat<ns.length:=by omega
  have e:atI (ns.map V.int) i=some (.int ns[i.toNat]):=by
   have q:=wk (xs:=ns.map V.int) (j:=i.toNat) (v:=.int ns[i.toNat]) (by rw[zCK,zCJ hi];rfl)
   have ei:((i.toNat:Nat):Int)=i:=by omega
   rw[ei] at q
   exact q
  exact⟨_,rfl,_,rfl,l,_,i,_,rfl,rfl,hS,e,q _⟩
 ·exact q 0
theorem zqK (T:Txt P w K mg a):zA P w K mg base zW (k+1) a.wO a.wQ ["cell", "k", "bound"] Mf:=by
 refine T.yx.ok Zq (fun vs H Q E h=>?_) (fun cdv A outer s H vs Q E hr h=>?_)
 ·obtain⟨c,m,b,rfl,_⟩:=h
  rfl
 obtain⟨c,m,b,rfl,hm,b0,b1,q⟩:=h
 refine⟨_,(zf (yP (zP zq0 (pv 0) (zQ zrE zu zu) (zY _)) (zf (zF (i:=4) Zq.nd rfl (Or.inl rfl) (pv 0))
   (zf (wL PassesOwn.never rfl (vX rfl T.Zi (za (pv 1) zc)) (z9 (i:=5) Zq.nd rfl (Or.inl rfl)) (zp (zF (i:=4) Zq.nd rfl (Or.inl rfl) (zQ zlm (pv 4) (pv 2)))))
   (zp (zK (zQ YW (pv 4) (pv 2)))))) z8)
   (zf (zF (i:=3) Zq.nd rfl (Or.inl rfl) (zQ YW (zQ N8 (zQ wU (zQ wU (zQ YW (pv 0) zu) (zQ N8 zu (pv 1))) zu) zu) zu))
   (zf (zF (i:=3) Zq.nd rfl (Or.inl rfl) (zQ YW (zQ wU (zQ wU (zQ N8 (pv 3) (pv 3)) (zQ N8 zu (pv 1))) zu) zu))
   (zp (zK (zQ YW (zQ zlm (zQ YW (zQ N8 (pv 3) zu) zu) zu) (pv 2))))))),?_⟩
 refine⟨_,rfl,10,18,rfl,rfl,⟨by decide,by decide,by decide⟩,_,_,rfl,rfl,_,rfl,?_⟩
 refine yw (fun _=>?_) (fun _=>?_)
 ·refine⟨_,rfl,?_⟩
  refine⟨_,rfl,(m:Int),rfl,by omega,by omega,?_⟩
  refine Z2 (fun i σ H'=>H'=H/\∃(x:Int) (f1 f2:Option V),σ=[some (.int c),some (.int m),some (.int b),f1,some (.int x),f2]) ⟨rfl,c,_,_,rfl⟩ ?_ ?_
  ·rintro i σ H' hi ⟨rfl,x,f1,f2,rfl⟩
   refine⟨_,rfl,_,rfl,x,b,rfl,rfl,⟨b0,b1⟩,?_⟩
   exact⟨rfl,x / b,_,_,rfl⟩
  ·rintro σ H' ⟨rfl,x,f1,f2,rfl⟩
   refine⟨_,rfl,_,rfl,x,b,rfl,rfl,b0,?_⟩
   exact q _ (zDs _ (by omega)) (zDo _ b0)
 ·have p1:(0:Int)<1000000007:=by decide
  have p2:(0:Int)<2147483647:=by decide
  have p3:(0:Int)<2147483629:=by decide
  refine⟨_,rfl,c,1000000007,rfl,rfl,p1,_,rfl,1009,(m:Int),rfl,rfl,.inl ⟨by decide,by decide⟩,_,_,rfl,rfl,_,17,rfl,rfl,_,69621,rfl,rfl,.inr ⟨by decide,by decide⟩,_,2147483647,rfl,rfl,p2,?_⟩
  have z0:0<=(c%1000000007+1009*(m:Int)+17)*69621%2147483647:=zDs _ (by decide)
  have z1:(c%1000000007+1009*(m:Int)+17)*69621%2147483647<2147483647:=zDo _ p2
  refine⟨_,rfl,_,rfl,_,_,rfl,rfl,.inl ⟨Int.lt_of_lt_of_le (by decide) z0,Int.lt_trans z1 (by decide)⟩,_,rfl,40503,(m:Int),rfl,rfl,.inl ⟨by decide,by decide⟩,_,_,rfl,rfl,_,5,rfl,rfl,_,2147483629,rfl,rfl,p3,?_⟩
  refine⟨_,rfl,_,48271,rfl,rfl,.inr ⟨by decide,by decide⟩,_,2147483647,rfl,rfl,p2,_,32,rfl,rfl,⟨by decide,by decide⟩,_,rfl,_,b,rfl,rfl,b0,?_⟩
  exact q _ (zDs _ (by omega)) (zDo _ b0)
theorem zjl (T:Txt P w K mg a)(yM:zA P w K mg base zW k a.yJ a.yK ["script", "k"] (zax K))(yp:zA P w K mg base zW k a.wO a.wQ ["cell", "k", "bound"] Mf) :
  zA P w K mg base zW (k+1) a.wM a.wN ["script", "at", "many", "order"] (U9 K):=by
 refine T.uZ.ok yX (fun vs H Q E h=>?_) (fun cdv A outer s H vs Q E hr h=>?_)
 ·obtain⟨sc,ol,ns,t,m,os,rfl,_⟩:=h
  rfl
 obtain⟨sc,ol,ns,t,m,os,rfl,hS,hO,o0,o8,m0,m40,t60,q⟩:=h
 obtain⟨st0,h0⟩:∃st0,st0=(Ss vq).headD (.Pass ⟨0,0,0,0⟩):=⟨_,rfl⟩
 have hb:Ss vq=st0::(Ss vq).tail:=by rw[h0];rfl
 rw[hb]
 have hk:zgY st0=some (Str.ofString "kinds", JN):=by rw[h0];rfl
 refine⟨_,zf (zp3 (i:=4) hk yX.nd rfl (Or.inl rfl) (.inl rfl)) (zf (zF (i:=5) yX.nd rfl (Or.inl rfl) (xq (za (yZ (za zZ (za (yj yV (pv 3) (zQ YW (zx yp hr rfl T.yI T.yx.2 T.yH .nil zB (za (zx yM hr rfl T.xH T.yL.2 T.xG .nil zB (za (pv 0) (za (pv 1) zc))) (za zu (za zu zc)))) (zH zG rfl T.xu yr (za (pv 3) zc))) (fun _ _=>rfl)) zc))) zc)))
   (zf (wL PassesOwn.never rfl (zf1 rfl T.Zi (za zu (za (pv 2) zc))) (z9 (i:=6) yX.nd rfl (Or.inl rfl)) (zf (zF (i:=7) yX.nd rfl (Or.inl rfl) (zx yM hr rfl T.xH T.yL.2 T.xG .nil zB (za (pv 0) (za (zQ wU (pv 1) (pv 6)) zc))))
   (zf (zF (i:=8) yX.nd rfl (Or.inl rfl) (yj yV (pv 4) (zx yp hr rfl T.yI T.yx.2 T.yH .nil zB (za (pv 7) (za zu (za zu zc)))) (fun _ _=>rfl)))
   (zf (zF (i:=9) yX.nd rfl (Or.inl rfl) (yj yV (pv 5) (zQ JH (zid zdO zu) (zQ YW (zx yp hr rfl T.yI T.yx.2 T.yH .nil zB (za (pv 7) (za zu (za zu zc)))) (zH zG rfl T.xu yr (za (pv 5) zc)))) (fun _ _=>rfl)))
   (zf (zF (i:=10) yX.nd rfl (Or.inl rfl) (yj yV (pv 5) (zQ YW (zx yp hr rfl T.yI T.yx.2 T.yH .nil zB (za (pv 7) (za zu (za zu zc)))) (zH zG rfl T.xu yr (za (pv 5) zc))) (fun _ _=>rfl)))
   (zf (zF (i:=11) yX.nd rfl (Or.inl rfl) (yj yV (pv 3) (zQ YW (zx yp hr rfl T.yI T.yx.2 T.yH .nil zB (za (pv 7) (za zu (za zu zc)))) (zH zG rfl T.xu yr (za (pv 3) zc))) (fun _ _=>rfl)))
   (zp (yP (PW.pt (Nb (zP wZ (pv 8) zZ (zY _)) (Rh (zP wZ (pv 8) zZ (zY _))))) (zp (yE (vG PySem.F.plainAttrs_list PySem.F.slot_list_append PySem.F.type_list_append wB (pv 5) (za (yZ (za (pv 8) zc)) zc)))) (zp (yP (zP wZ (pv 8) zZ (zY _)) (zp (yE (vG PySem.F.plainAttrs_list PySem.F.slot_list_append PySem.F.type_list_append wB (pv 5) (za (yZ (za zZ (za (pv 11) zc))) zc)))) (zp (yP (zP wZ (pv 8) zZ (zY _)) (zp (yE (vG PySem.F.plainAttrs_list PySem.F.slot_list_append PySem.F.type_list_append wB (pv 5) (za (yZ (za zZ (za (pv 9) zc))) zc)))) (zp (yP (PW.pt (Nb (zP wZ (pv 8) zZ (zY _)) (Rh (zP wZ (pv 8) zZ (zY _))))) (zp (yE (vG PySem.F.plainAttrs_list PySem.F.slot_list_append PySem.F.type_list_append wB (pv 5) (za (yZ (za (pv 8) (za (pv 11) (za (pv 9) zc)))) zc)))) (zp (yE (vG PySem.F.plainAttrs_list PySem.F.slot_list_append PySem.F.type_list_append wB (pv 5) (za (yZ (za (pv 8) (za (pv 10) (za (pv 9) zc)))) zc))))))))))))))))))
   (zp (zK (yj yV (pv 5) (zid zdO zu) (fun _ _=>rfl)))))),?_⟩
 refine⟨by show 14<=sizeLine;decide,fun kd hkd=>?_⟩
 have g1:=zd2 hkd (.lst (JN.map V.str))
 have hS1:=g1.seq hS
 have hO1:=g1.seq hO
 refine⟨_,rfl,_,rfl,_,rfl,sc,ns,(t:Int),rfl,hS1,by omega,fun c0=>?_⟩
 refine⟨c0,3,40320,rfl,by decide,by decide,by decide,fun r0 _ _=>?_⟩
 obtain⟨x0,hx0,hx0'⟩:=zcH o0 r0
 have pl:(0:Int)<((os.map V.str).length:Nat):=by rw[zCI];omega
 refine⟨_,rfl,ol,_,rfl,.inl hO1,_,_,rfl,rfl,pl,ol,_,_,.str x0,rfl,rfl,hO1,hx0',by show 2<=sizeLine;decide,fun p0 hp0=>?_⟩
 refine⟨by show 1<=sizeLine;decide,fun md hmd=>?_⟩
 have g2:=zd2 hp0 (.tup [.str "mark", .str x0])
 have g3:=zd2 hmd (.lst [.ref p0])
 have f0:H md=none:=(g1.trans g2).free hmd
 have nk:md≠kd:=Ne.symm (zE (g2 _ _ zj) hmd)
 have M0:Made H (upd (upd (upd H kd (.lst (JN.map V.str))) p0 (.tup [.str "mark", .str x0])) md (.lst [.ref p0])) os md kd [p0] 1:=by
  refine⟨g1.trans (g2.trans g3),zj,g3 _ _ (g2 _ _ zj),by simp,fun p hp=>?_⟩
  have e:p=p0:=by simpa using hp
  subst e
  exact⟨.mk x0,g3 _ _ zj,hx0,zCY _⟩
 refine⟨_,rfl,1,(m:Int),rfl,⟨by omega,by omega,by omega,by omega⟩,?_⟩
 refine Z2 (fun i σ H'=>∃(ps:List Addr) (f1 f2 f3 f4 f5 f6:Option V),Made H H' os md kd ps (i+1)/\ps.length=i+1/\σ=[some (.ref sc),some (.int t),some (.int m),some (.ref ol),some (.ref kd),some (.ref md),f1,f2,f3,f4,f5,f6])
  ⟨[p0],_,_,_,_,_,_,M0,rfl,rfl⟩ ?_ ?_
 ·rintro i σ H' hi ⟨ps,f1,f2,f3,f4,f5,f6,M,lp,rfl⟩
  have hS2:=M.old.seq hS
  have hO2:=M.old.seq hO
  have e1:(t:Int)+(1+(i:Nat))=((t+(1+i):Nat):Int):=by omega
  refine⟨_,rfl,_,rfl,_,rfl,_,_,rfl,rfl,sc,ns,_,rfl,hS2,by omega,fun c=>?_⟩
  refine⟨_,rfl,_,rfl,c,0,14,rfl,by decide,by decide,by decide,fun d d0 d1=>?_⟩
  obtain⟨jk,vk,qk1,qk2⟩:=zg1 (xs:=JN.map V.str) (i:=d) (by show -((14:Nat):Int)<=d;omega) (by show d<((14:Nat):Int);omega)
  obtain⟨kind,hkm,hkv⟩:∃kind,kind∈JN/\vk=.str kind:=by
   rw[zCK] at qk2
   cases hx:JN[jk]? with
   | none=>rw[hx] at qk2;cases qk2
   | some x=>rw[hx] at qk2;cases qk2;exact⟨x,zCN hx,rfl⟩
  subst hkv
  refine⟨kd,_,_,_,rfl,rfl,zM.of M.kin,qk1,?_⟩
  have lm:((ps.map V.ref).length:Nat)=i+1:=by rw[zCI];exact lp
  have pm:(0:Int)<((ps.map V.ref).length:Nat):=by rw[lm];omega
  refine⟨_,rfl,1,rfl,_,rfl,c,1,2,rfl,by decide,by decide,by decide,fun d2 _ _=>?_⟩
  refine⟨_,rfl,md,_,rfl,.inl (zM.of M.mad),_,_,rfl,rfl,pm,_,_,rfl,rfl,?_⟩
  have a0:=zDs d2 (show((ps.map V.ref).length:Int)≠0 by omega)
  have a1:=zDo d2 pm
  obtain⟨q1,hq1,hq1'⟩:=zbu (ps:=ps) (i:=-1-d2%((ps.map V.ref).length:Nat)) (by rw[lm] at a0 a1 ⊢;omega) (by rw[lm] at a0 a1 ⊢;omega)
  refine⟨md,_,_,_,rfl,rfl,zM.of M.mad,hq1',?_⟩
  refine⟨_,rfl,_,rfl,c,2,60,rfl,by decide,by decide,by decide,fun d3 _ _=>?_⟩
  refine⟨_,rfl,md,_,rfl,.inl (zM.of M.mad),_,_,rfl,rfl,pm,?_⟩
  have b0:=zDs d3 (show((ps.map V.ref).length:Int)≠0 by omega)
  have b1:=zDo d3 pm
  obtain⟨q2,hq2,hq2'⟩:=zbu (ps:=ps) (i:=d3%((ps.map V.ref).length:Nat)) (by rw[lm] at b0 b1 ⊢;omega) (by rw[lm] at b0 b1 ⊢;omega)
  refine⟨md,_,_,_,rfl,rfl,zM.of M.mad,hq2',?_⟩
  refine⟨_,rfl,_,rfl,c,3,40320,rfl,by decide,by decide,by decide,fun d4 _ _=>?_⟩
  obtain⟨x,hx,hx'⟩:=zcH o0 d4
  refine⟨_,rfl,ol,_,rfl,.inl hO2,_,_,rfl,rfl,pl,ol,_,_,.str x,rfl,rfl,hO2,hx',?_⟩
  obtain⟨s1,s1i,s1o,s1d⟩:=M.all q1 hq1
  obtain⟨s2,s2i,s2o,s2d⟩:=M.all q2 hq2
  have big:ps.length<sizeLine:=Nat.lt_of_le_of_lt (show ps.length<=100 by omega) (by decide)
  have zk4:(ps.map V.ref).length<sizeLine:=by rw[zCI];exact big
  have mdu:∀(p:Addr) (o:HO),H' p=none->(upd H' p o) md=some (.lst (ps.map V.ref)):=fun p o hp=>by rw[zJ (zE M.mad hp)];exact M.mad
  have fin:∀(p:Addr) (xs:List V) (s':Sn),H' p=none->RQ (upd H' p (.tup xs)) s' p->s'.Ub os->s'.depth<=i+1+1 ->
    ∃(ps':List Addr) (f1 f2 f3 f4 f5 f6:Option V),Made H (upd (upd H' p (.tup xs)) md (.lst (ps.map V.ref++[.ref p]))) os md kd ps' (i+1+1)/\ps'.length=i+1+1 /\
     [some (.ref sc),some (.int t),some (.int m),some (.ref ol),some (.ref kd),some (.ref md),some (.int (1+(i:Nat))),some (.int c),some (.str kind),some (.ref q1),some (.ref q2),some (.str x)]=[some (.ref sc),some (.int t),some (.int m),some (.ref ol),some (.ref kd),some (.ref md),f1,f2,f3,f4,f5,f6]:=fun p xs s' hp hs ho hd=>by
   have:=M.push f0 hp hs ho hd nk
   rw[zCW] at this
   exact⟨ps++[p],_,_,_,_,_,_,this,by simp[lp],rfl⟩
  refine⟨_,rfl,rfl,_,rfl,yw (fun c1=>?_) (fun c1=>?_)⟩
  ·have ek:kind="yes" := by have:=of_decide_eq_true c1;cases this;rfl
   subst ek
   refine zbs ⟨_,rfl,.inl ⟨rfl,_,zM.of M.mad⟩,_,rfl,by show 1<=sizeLine;decide,fun p hp=>⟨md,_,_,rfl,rfl,mdu p _ hp,zk4,?_⟩⟩
   exact fin p _ (.c0 true) hp zj trivial (by show 1<=_;omega)
  have n1:kind ≠ "yes" := fun e=>c1 (decide_eq_true (by rw[e]))
  refine⟨_,rfl,rfl,_,rfl,yw (fun c2=>?_) (fun c2=>?_)⟩
  ·have ek:kind="no" := by have:=of_decide_eq_true c2;cases this;rfl
   subst ek
   refine⟨_,rfl,.inl ⟨rfl,_,zM.of M.mad⟩,_,rfl,by show 1<=sizeLine;decide,fun p hp=>⟨md,_,_,rfl,rfl,mdu p _ hp,zk4,?_⟩⟩
   exact fin p _ (.c0 false) hp zj trivial (by show 1<=_;omega)
  have n2:kind ≠ "no" := fun e=>c2 (decide_eq_true (by rw[e]))
  refine⟨_,rfl,rfl,_,rfl,yw (fun c3=>?_) (fun c3=>?_)⟩
  ·have ek:kind="mark" := by have:=of_decide_eq_true c3;cases this;rfl
   subst ek
   refine⟨_,rfl,.inl ⟨rfl,_,zM.of M.mad⟩,_,rfl,by show 2<=sizeLine;decide,fun p hp=>⟨md,_,_,rfl,rfl,mdu p _ hp,zk4,?_⟩⟩
   exact fin p _ (.mk x) hp zj hx (by show 1<=_;omega)
  have n3:kind ≠ "mark" := fun e=>c3 (decide_eq_true (by rw[e]))
  refine⟨_,rfl,rfl,_,rfl,yw (fun c4=>?_) (fun c4=>?_)⟩
  ·have ek:kind="not" := by have:=of_decide_eq_true c4;cases this;rfl
   subst ek
   refine⟨_,rfl,.inl ⟨rfl,_,zM.of M.mad⟩,_,rfl,by show 2<=sizeLine;decide,fun p hp=>⟨md,_,_,rfl,rfl,mdu p _ hp,zk4,?_⟩⟩
   exact fin p _ (.nt s1) hp ⟨q1,zj,s1i.mono (yC.new hp _)⟩ s1o (by show 1+s1.depth<=_;omega)
  have n4:kind ≠ "not" := fun e=>c4 (decide_eq_true (by rw[e]))
  refine⟨_,rfl,rfl,_,rfl,yw (fun c5=>?_) (fun c5=>?_)⟩
  ·have ek:kind="some" := by have:=of_decide_eq_true c5;cases this;rfl
   subst ek
   refine zbs ⟨_,rfl,.inl ⟨rfl,_,zM.of M.mad⟩,_,rfl,_,rfl,_,rfl,by show 3<=sizeLine;decide,fun p hp=>⟨md,_,_,rfl,rfl,mdu p _ hp,zk4,?_⟩⟩
   exact fin p _ (.q1 true x s1) hp ⟨q1,zj,s1i.mono (yC.new hp _)⟩ ⟨hx,s1o⟩ (by show 1+s1.depth<=_;omega)
  have n5:kind ≠ "some" := fun e=>c5 (decide_eq_true (by rw[e]))
  refine⟨_,rfl,rfl,_,rfl,yw (fun c6=>?_) (fun c6=>?_)⟩
  ·have ek:kind="each" := by have:=of_decide_eq_true c6;cases this;rfl
   subst ek
   refine⟨_,rfl,.inl ⟨rfl,_,zM.of M.mad⟩,_,rfl,_,rfl,_,rfl,by show 3<=sizeLine;decide,fun p hp=>⟨md,_,_,rfl,rfl,mdu p _ hp,zk4,?_⟩⟩
   exact fin p _ (.q1 false x s1) hp ⟨q1,zj,s1i.mono (yC.new hp _)⟩ ⟨hx,s1o⟩ (by show 1+s1.depth<=_;omega)
  have n6:kind ≠ "each" := fun e=>c6 (decide_eq_true (by rw[e]))
  obtain⟨o,ho⟩:∃o:Fin 4,kind=w2 o:=by
   have:kind∈([Str.ofString "mark", Str.ofString "mark", Str.ofString "not", Str.ofString "and", Str.ofString "or", Str.ofString "either", Str.ofString "if", Str.ofString "and", Str.ofString "or", Str.ofString "some", Str.ofString "each", Str.ofString "yes", Str.ofString "no", Str.ofString "mark"]:List Str):=hkm
   simp only[List.mem_cons,zC9,or_false] at this
   rcases this with h | h | h | h | h | h | h | h | h | h | h | h | h | h<;>first | exact absurd h n1 | exact absurd h n2 | exact absurd h n3 | exact absurd h n4 | exact absurd h n5 | exact absurd h n6 | exact⟨0,h⟩ | exact⟨1,h⟩ | exact⟨2,h⟩ | exact⟨3,h⟩
  subst ho
  refine⟨_,rfl,.inl ⟨rfl,_,zM.of M.mad⟩,_,rfl,_,rfl,_,rfl,by show 3<=sizeLine;decide,fun p hp=>⟨md,_,_,rfl,rfl,mdu p _ hp,zk4,?_⟩⟩
  exact fin p _ (.b2 o s2 s1) hp ⟨q2,q1,zj,s2i.mono (yC.new hp _),s1i.mono (yC.new hp _)⟩ ⟨s2o,s1o⟩ (by show 1+max s2.depth s1.depth<=_;omega)
 ·rintro σ H' ⟨ps,f1,f2,f3,f4,f5,f6,M,lp,rfl⟩
  obtain⟨p,hp,hp'⟩:=zbu (ps:=ps) (i:=-1) (by omega) (by omega)
  obtain⟨s',z1,z2,z3⟩:=M.all p hp
  have e:((m:Int)-1).toNat+1=m:=by omega
  rw[e] at z3
  exact⟨_,rfl,1,rfl,md,_,-1,_,rfl,rfl,zM.of M.mad,hp',q p H' s' M.old z1 z2 z3⟩
theorem zk5 (T:Txt P w K mg a):zA P w K mg base zW (k+1) a.WR a.WT ["letter"] RW:=by
 refine T.Kp.ok zkp (fun vs H Q E h=>?_) (fun cdv A outer s H vs Q E hr h=>?_)
 ·obtain⟨x,rfl,_⟩:=h
  rfl
 obtain⟨x,rfl,q⟩:=h
 refine⟨_,(zp (zK (tO Ux (pv 0) (W7 (v:=.ref a.S9) rfl T.zma rfl) (by with_unfolding_all rfl)))),?_⟩
 refine⟨_,rfl,a.S9,Y9.map V.str,rfl,.inr (T.zmb H),rfl,vd _,?_⟩
 show Q (.bl (inV (.str x) (Y9.map V.str))) H
 rw[zaz]
 exact q
theorem zjm (T:Txt P w K mg a)(zct:zA P w K mg base zW k a.WR a.WT ["letter"] RW):zA P w K mg base zW (k+1) a.Q9 a.Pa ["order"] (zgi K):=by
 refine T.zab.ok zi0 (fun vs H Q E h=>?_) (fun cdv A outer s H vs Q E hr h=>?_)
 ·obtain⟨l,os,rfl,_⟩:=h
  rfl
 obtain⟨l,os,rfl,hq,h100,q⟩:=h
 refine⟨_,(zp (zK (zdL (tO zdP (zH zG rfl T.xu yr (za (pv 0) zc)) zu (zY _)) (zdL (zH (ZJ rfl) rfl T.Nx U8 (za (tQ (Zj:=zq Tg) (js:=[]) rfl (by show ZG (zq Tg) _ "letter" [];exact⟨rfl,by decide +kernel,by decide +kernel,rfl,by decide +kernel,by decide +kernel,by decide +kernel⟩) rfl (yU (pv 0)) (by show ∀j∈([]:List Nat),j<1;decide) (fun cl C s₂ H₂ fp=>(zx zct hr rfl T.zbU T.Kp.2 T.zbT .nil zB (za (pv 0) zc)))) zc)) (zgQ (tO wZ (zH call_len_set' rfl T.xu yr (za (Wr (znX rfl) rfl T.zrg zrT (za (pv 0) zc)) zc)) (zH zG rfl T.xu yr (za (pv 0) zc)) (zY _))))))),?_⟩
 have hlen:(os.map V.str).length=os.length:=zCI _
 refine⟨_,rfl,l,_,rfl,.inl hq,_,_,rfl,rfl,_,rfl,yw (fun c=>?_) (fun c=>?_)⟩
 ·have c':0<os.length:=by have:=of_decide_eq_true c;rw[hlen] at this;omega
  refine⟨_,rfl,l,rfl,⟨_,hq⟩,zdw (fun x v=>v=(match x with | .str y=>.bl (decide (y∈Y9)) | _=>.non)) hq (by rw[hlen];exact zC1 (zN (by omega))) ?_ (zn4 zcJ) ?_⟩
  ·intro i x H' hx g
   rw[zCK] at hx
   cases ho:os[i]? with
   | none=>rw[ho] at hx;cases hx
   | some y =>
    rw[ho] at hx
    cases hx
    exact⟨_,rfl,y,rfl,rfl,g⟩
  ·intro ys H' p hr' g hp
   have e:=JQ (f:=fun x=>match x with | .str y=>.bl (decide (y∈Y9)) | _=>.non) hr'
   rw[zDk] at e
   have e2:ys=(os.map fun y=>decide (y∈Y9)).map V.bl:=by rw[e,zDk];rfl
   subst e2
   have g1:=Same.new hp (.lst ((os.map fun y=>decide (y∈Y9)).map V.bl))
   refine⟨p,_,rfl,zM.of zj,_,rfl,yw (fun c2=>?_) (fun c2=>?_)⟩
   ·have hq2:=(g.trans g1).seq hq
    refine⟨_,rfl,l,os,rfl,hq2,h100,fun z hz=>⟨z,_,rfl,zj,?_⟩⟩
    have g2:=Same.new hz (zpV P w z (dd os).length)
    refine⟨_,rfl,l,_,rfl,.inl (g2.seq hq2),rfl,?_⟩
    have e3:decide (V.int ((dd os).length:Nat)=V.int ((os.map V.str).length:Nat))=zg3 os:=by
     unfold zg3
     have c2':os.all (fun x=>decide (x∈Y9))=true:=by rw[List.all_map] at c2;exact c2
     rw[decide_eq_true c',c2',hlen]
     by_cases nd:os.Nodup
     ·rw[decide_eq_true nd,znT nd];simp
     ·have:=zrR nd
      rw[decide_eq_false nd,decide_eq_false (fun z=>by injection z with z;omega)];rfl
    rw[e3]
    exact q _ ((g.trans g1).trans g2)
   ·have e4:zg3 os=false:=by
     unfold zg3
     have c2':os.all (fun x=>decide (x∈Y9))=false:=by
      rw[List.all_map] at c2
      exact Bool.eq_false_iff.mpr c2
     rw[c2',Bool.false_and,Bool.and_false]
    rw[<-e4]
    exact q _ (g.trans g1)
 ·have e4:zg3 os=false:=by
   unfold zg3
   rw[decide_eq_false (fun z=>c (decide_eq_true (by rw[hlen];omega))),Bool.false_and]
  rw[<-e4]
  exact q _ (Same.refl _)
theorem zfF (T:Txt P w K mg a):zA P w K mg base zW (k+1) a.tX a.tY ["sentence"] Vx:=by
 refine T.Us.ok zfz (fun vs H Q E h=>?_) (fun cdv A outer s H vs Q E hr h=>?_)
 ·obtain⟨p,x,m,n,rest,rfl,_⟩:=h
  rfl
 obtain⟨p,x,m,n,rest,rfl,hp,hm,hl,q⟩:=h
 refine⟨_,(zp (zK (U6 znI (pv 0) (V7 zu) (V7 (zQ wU zu (yj uR (yj (zgX T.Li) (W7 (v:=.ref a.YF) rfl T.Lh rfl) (yj uR (pv 0) zu (fun _ _=>rfl)) (fun _ _=>rfl)) zu (fun _ _=>rfl))))))),?_⟩
 obtain⟨pt,hv,hpt⟩:=T.zbf x m n hm
 refine⟨_,rfl,1,rfl,_,rfl,p,_,0,_,rfl,rfl,vW.of hp,at0,x,.ref pt,.ref pt,rfl,rfl,hv,rfl,pt,_,0,_,rfl,rfl,hpt H,at0,1,(m:Int),rfl,rfl,_,rfl,p,_,rfl,vW.of hp,zd5 (by decide),fun z hz=>?_⟩
 rw[zn5 hl]
 exact q z hz
theorem zjn (T:Txt P w K mg a):zA P w K mg base zW (k+1) a.tZ a.Za ["sentence"] Ww:=by
 refine T.TF.ok zi1 (fun vs H Q E h=>?_) (fun cdv A outer s H vs Q E hr h=>?_)
 ·obtain⟨p,x,m,n,rest,rfl,_⟩:=h
  rfl
 obtain⟨p,x,m,n,rest,rfl,hp,hm,hl,q⟩:=h
 refine⟨_,(zp (zK (U6 znI (pv 0) (V7 (zQ wU zu (yj uR (yj (zgX T.Li) (W7 (v:=.ref a.YF) rfl T.Lh rfl) (yj uR (pv 0) zu (fun _ _=>rfl)) (fun _ _=>rfl)) zu (fun _ _=>rfl)))) zas))),?_⟩
 obtain⟨pt,hv,hpt⟩:=T.zbf x m n hm
 refine⟨_,rfl,_,rfl,p,_,0,_,rfl,rfl,vW.of hp,at0,x,.ref pt,.ref pt,rfl,rfl,hv,rfl,pt,_,0,_,rfl,rfl,hpt H,at0,1,(m:Int),rfl,rfl,_,rfl,p,_,rfl,vW.of hp,zd5 (by omega),fun z hz=>?_⟩
 rw[zn6 hl]
 exact q z hz
theorem zdh (T:Txt P w K mg a)(ZX:zA P w K mg base zW k a.tZ a.Za ["sentence"] Ww):zA P w K mg base zW (k+1) a.uX a.uY ["level"] (Ue K):=by
 refine T.X8.ok V0 (fun vs H Q E h=>?_) (fun cdv A outer s H vs Q E hr h=>?_)
 ·obtain⟨l,ss,ps,rfl,_⟩:=h
  rfl
 obtain⟨l,ss,ps,rfl,hl,hp,hz,q⟩:=h
 refine⟨_,(zf (zF (i:=1) V0.nd rfl (Or.inl rfl) (xq zc))
   (zf (wL PassesOwn.never rfl (yU (pv 0)) (z9 (i:=2) V0.nd rfl (Or.inl rfl)) (zp (yE (vG PySem.F.plainAttrs_list PySem.F.slot_list_extend PySem.F.type_list_extend zdZ (pv 1) (za (zx ZX hr rfl T.Pk T.TF.2 T.Pj .nil zB (za (pv 2) zc)) zc)))))
   (zp (zK (pv 1))))),?_⟩
 have pl:=xT hp
 refine⟨by show 0<=sizeLine;decide,fun f hf=>?_⟩
 have g0:=Same.new hf (.lst [])
 refine⟨_,rfl,l,rfl,⟨_,g0.seq hl⟩,?_⟩
 refine uf (xs:=ps.map V.ref) (fun i σ H'=>∃(qs:List Addr) (f1:Option V),Same H H'/\H' f=some (.lst (qs.map V.ref))/\Paired (RQ H') ((ss.take i).flatMap Sn.parts) qs/\qs.length<=2*i/\i<=ss.length/\σ=[some (.ref l),some (.ref f),f1])
  ⟨[],_,g0,zj,.nil,by simp,zC5 _,rfl⟩ ?_ ?_ ?_
 ·rintro i σ H' _ ⟨qs,f1,g,_⟩
  exact g.seq hl
 ·rintro i x σ H' hx ⟨qs,f1,g,hf',hqs,lq,li,rfl⟩
  rw[zCK] at hx
  cases ho:ps[i]? with
  | none=>rw[ho] at hx;cases hx
  | some p =>
   rw[ho] at hx
   cases hx
   obtain⟨sn,hsn,isp⟩:=zcI hp ho
   have hlt:=(zCL.mp hsn).1
   obtain⟨zs,c1,c2,c3,c4,c5⟩:=LC (isp.mono (yC.of g))
   have lz:=xT c2
   have lp2:=Sn.zaA sn
   refine⟨_,rfl,.inl ⟨rfl,_,zM.of hf'⟩,_,rfl,p,sn.word,sn.letters.length,sn.parts.length,_,rfl,c1,Xm sn,c3,fun b hb=>?_⟩
   rw[c5]
   have nfb:f≠b:=zE hf' hb
   have hf2:(upd H' b (.tup (zs.map V.ref))) f=some (.lst (qs.map V.ref)):=by rw[zJ nfb];exact hf'
   refine⟨f,b,qs.map V.ref,zs.map V.ref,rfl,rfl,hf2,?_,?_,?_⟩
   ·exact vW.of zj
   ·rw[zCI,zCI]
    exact zC1 (zN (by omega))
   ·refine⟨qs++zs,_,(g.trans (Same.new hb _)).over hf _,by rw[zj,zCW],?_,?_,hlt,rfl⟩
    ·rw[yW hsn,List.flatMap_append,List.flatMap_singleton]
     have t1:yC H' (upd (upd H' b (.tup (zs.map V.ref))) f (.lst (qs.map V.ref++zs.map V.ref))):=(yC.new hb _).trans (yC.lst hf2 _)
     exact Wv (vm (fun _ _ z=>z.mono t1) hqs) (vm (fun _ _ z=>z.mono t1) c2)
    ·rw[zCQ];omega
 ·rintro σ H' ⟨qs,f1,g,hf',hqs,lq,li,rfl⟩
  rw[zCI,<-pl,zDb] at hqs
  exact⟨_,rfl,q f H' qs g hf hf' hqs⟩
theorem zhQ (T:Txt P w K mg a)(zct:zA P w K mg base zW k a.WR a.WT ["letter"] RW)(PL:zA P w K mg base zW k a.tX a.tY ["sentence"] Vx)(ZX:zA P w K mg base zW k a.tZ a.Za ["sentence"] Ww) :
  zA P w K mg base zW (k+1) a.SN a.SQ ["some"] zd7:=by
 refine T.MP.ok zaU (fun vs H Q E h=>?_) (fun cdv A outer s H vs Q E hr h=>?_)
 ·obtain⟨p,s,rfl,_⟩:=h
  rfl
 obtain⟨p,sn,rfl,isp,hle,q⟩:=h
 refine⟨_,(zf (yP (PW.pt (Nb (zP wZ (zH zG rfl T.xu yr (za (pv 0) zc)) zu (zY _)) (Nb (Xk (vg (zH Y8 rfl T.uz uE (za (yj uR (pv 0) zu (fun _ _=>rfl)) (za (Qw (v:=.ty "str") rfl T.zrh zrS rfl) zc))) (fun _=>rfl))) (Rh (zP (zfq T.Li) (yj uR (pv 0) zu (fun _ _=>rfl)) (W7 (v:=.ref a.YF) rfl T.Lh rfl) (by with_unfolding_all rfl)))))) (zp (zK Yw)) z8)
   (zf (zF (i:=1) zaU.nd rfl (Or.inl rfl) (yj (zgX T.Li) (W7 (v:=.ref a.YF) rfl T.Lh rfl) (yj uR (pv 0) zu (fun _ _=>rfl)) (fun _ _=>rfl)))
   (zf (yP (zP K9 (zH zG rfl T.xu yr (za (pv 0) zc)) (zQ wU (zQ wU zu (yj uR (pv 1) zu (fun _ _=>rfl))) (yj uR (pv 1) zu (fun _ _=>rfl))) (zY _)) (zp (zK Yw)) z8)
   (zf (yP (Xk (vg (zH (ZJ rfl) rfl T.Nx U8 (za (tQ (Zj:=zq ZM) (js:=[]) rfl (by show ZG (zq ZM) _ "letter" [];exact⟨rfl,by decide +kernel,by decide +kernel,rfl,by decide +kernel,by decide +kernel,by decide +kernel⟩) rfl (zbn (zx PL hr rfl T.Ph T.Us.2 T.Pg .nil zB (za (pv 0) zc))) (by show ∀j∈([]:List Nat),j<2;decide) (fun cl C s₂ H₂ fp=>(zx zct hr rfl T.zbU T.Kp.2 T.zbT .nil zB (za (pv 0) zc)))) zc)) (fun _=>rfl))) (zp (zK Yw)) z8)
   (zp (zK (zH (ZJ rfl) rfl T.Nx U8 (za (tQ (Zj:=zq ZM) (js:=[]) rfl (by show ZG (zq ZM) _ "part" [];exact⟨rfl,by decide +kernel,by decide +kernel,rfl,by decide +kernel,by decide +kernel,by decide +kernel⟩) rfl (zbn (zx ZX hr rfl T.Pk T.TF.2 T.Pj .nil zB (za (pv 0) zc))) (by show ∀j∈([]:List Nat),j<2;decide) (fun cl C s₂ H₂ fp=>(zH (zay (K:=K) rfl) rfl T.uz uE (za (pv 0) (za (Qw (v:=.ty "tuple") rfl T.zme znY rfl) zc))))) zc)))))))),?_⟩
 obtain⟨zs,c1,c2,c3,c4,c5⟩:=LC isp
 have lz:=xT c2
 obtain⟨pt,hv,hpt⟩:=T.zbf _ _ _ (Xm sn)
 have lp2:=Sn.zaA sn
 have ll1:=Sn.zd6 sn
 refine⟨_,rfl,p,_,rfl,.inr (vW.of c1),rfl,_,rfl,yw (fun c=>?_) (fun _=>?_)⟩
 ·exfalso
  have:=of_decide_eq_true c
  injection this with this
  rw[zCU] at this
  omega
 refine⟨_,rfl,p,_,0,_,rfl,rfl,vW.of c1,at0,_,_,_,true,rfl,.str sn.word,rfl,_,rfl,YX ?_⟩
 refine⟨_,rfl,p,_,0,_,rfl,rfl,vW.of c1,at0,sn.word,rfl,rfl,_,rfl,?_⟩
 rw[hv]
 refine YX ?_
 refine⟨_,rfl,p,_,0,_,rfl,rfl,vW.of c1,at0,sn.word,.ref pt,.ref pt,rfl,rfl,hv,rfl,?_⟩
 refine⟨_,rfl,p,_,rfl,.inr (vW.of c1),_,rfl,pt,_,0,_,rfl,rfl,hpt H,at0,1,_,rfl,rfl,_,rfl,pt,_,1,_,rfl,rfl,hpt H,at1,_,_,rfl,rfl,rfl,_,rfl,yw (fun c=>?_) (fun _=>?_)⟩
 ·exfalso
  have z:V.int ((VC sn zs).length:Nat)=V.int (1+((sn.letters.length:Nat):Int)+((sn.parts.length:Nat):Int)):=by
   congr 1
   show(((V.str sn.word::(sn.letters.map V.str++zs.map V.ref)).length:Nat):Int)=_
   rw[zCU,c3]
   omega
  have c':(!decide (V.int ((VC sn zs).length:Nat)=V.int (1+((sn.letters.length:Nat):Int)+((sn.parts.length:Nat):Int))))=true:=c
  rw[decide_eq_true z] at c'
  cases c'
 refine⟨_,rfl,p,sn.word,sn.letters.length,sn.parts.length,_,rfl,c1,Xm sn,c3,fun b hb=>?_⟩
 rw[c4]
 have g1:=Same.new hb (.tup (sn.letters.map V.str))
 refine⟨b,rfl,⟨_,vW.of zj⟩,zlB (xs:=sn.letters.map V.str) (fun _ v=>v=.bl true) (vW.of zj) (by rw[zCI];exact zC1 (zN (by omega))) ?_ (zn4 zcJ) ?_⟩
 ·intro i x H' hx g
  rw[zCK] at hx
  cases ho:sn.letters[i]? with
  | none=>rw[ho] at hx;cases hx
  | some y =>
   rw[ho] at hx
   cases hx
   refine⟨_,rfl,y,rfl,?_,g⟩
   rw[decide_eq_true (hle y (zCN ho))]
 intro ys H' p2 hr' g hp2
 have e:=JQ (f:=fun _=>.bl true) hr'
 have e2:ys=(sn.letters.map fun _=>true).map V.bl:=by rw[e,zDk,zDk];rfl
 subst e2
 have g2:=Same.new hp2 (.lst ((sn.letters.map fun _=>true).map V.bl))
 have ea:(sn.letters.map fun _=>true).all id=true:=by rw[List.all_map,zDc];exact fun _ _=>rfl
 refine⟨p2,_,rfl,zM.of zj,_,rfl,?_⟩
 rw[ea]
 refine YX ?_
 have gg:=(g1.trans g).trans g2
 have c1':=gg _ _ c1
 refine⟨_,rfl,p,sn.word,sn.letters.length,sn.parts.length,_,rfl,c1',Xm sn,c3,fun b3 hb3=>?_⟩
 rw[c5]
 have g3:=Same.new hb3 (.tup (zs.map V.ref))
 refine⟨b3,rfl,⟨_,vW.of zj⟩,zlB (xs:=zs.map V.ref) (fun _ v=>v=.bl true) (vW.of zj) (by rw[zCI];exact zC1 (zN (by omega))) ?_ ?_ ?_⟩
 ·intro i x H4 hx g4
  rw[zCK] at hx
  cases ho:zs[i]? with
  | none=>rw[ho] at hx;cases hx
  | some y =>
   rw[ho] at hx
   cases hx
   obtain⟨sy,_,iy⟩:=zcI c2 ho
   obtain⟨ws,d1,_⟩:=LC iy
   have d1':=((gg.trans g3).trans g4) _ _ d1
   exact⟨_,rfl,_,_,_,true,rfl,.tup d1',rfl,rfl,g4⟩
 ·rintro σ' H' Q1 Q2 hQ ⟨v,e,x,T',t,b',h1,h2,h3,h4⟩
  exact⟨v,e,x,T',t,b',h1,h2,h3,hQ _ _ h4⟩
 ·intro ys H4 p4 hr4 g4 hp4
  have e:=JQ (f:=fun _=>.bl true) hr4
  have e2:ys=(zs.map fun _=>true).map V.bl:=by rw[e,zDk,zDk];rfl
  subst e2
  have ea:(zs.map fun _=>true).all id=true:=by rw[List.all_map,zDc];exact fun _ _=>rfl
  refine⟨p4,_,rfl,zM.of zj,?_⟩
  rw[ea]
  exact q _ (((gg.trans g3).trans g4).trans (Same.new hp4 _))
theorem ze4 (T:Txt P w K mg a)(zjo:zA P w K mg base zW k a.SN a.SQ ["some"] zd7)(Sd:zA P w K mg base zW k a.uX a.uY ["level"] (Ue K)) :
  zA P w K mg base zW (k+1) a.Vf a.Vg ["some"] zlD:=by
 refine T.RB.ok vL (fun vs H Q E h=>?_) (fun cdv A outer s H vs Q E hr h=>?_)
 ·obtain⟨p,s,rfl,_⟩:=h
  rfl
 obtain⟨p,sn,rfl,isp,hin,hc,hd,q⟩:=h
 refine⟨_,(zf (zF (i:=1) vL.nd rfl (Or.inl rfl) (xq (za (pv 0) zc)))
   (zf (zF (i:=2) vL.nd rfl (Or.inl rfl) zu)
   (zf (zF (i:=3) vL.nd rfl (Or.inl rfl) zu)
   (zf (N7 PassesOwn.never (zP zdP (zH zG rfl T.xu yr (za (pv 1) zc)) zu (zY _)) (zf (zjC (i:=2) vL.nd rfl (Or.inl rfl) zu zgR)
   (zf (zjC (i:=3) vL.nd rfl (Or.inl rfl) (zH zG rfl T.xu yr (za (pv 1) zc)) zgR)
   (zf (yP (PW.pt (Nb (zP zdP (pv 2) (W7 (v:=.int 24) rfl T.zc5 ⟨_,rfl⟩) (zY _)) (Rh (zP zdP (pv 3) (W7 (v:=.int 200) rfl T.JD ⟨_,rfl⟩) (zY _))))) (zp (zK Yw)) z8)
   (zf (yP (Xk (vg (zH (ZJ rfl) rfl T.Nx U8 (za (tQ (Zj:=zq YB) (js:=[]) rfl (by show ZG (zq YB) _ "part" [];exact⟨rfl,by decide +kernel,by decide +kernel,rfl,by decide +kernel,by decide +kernel,by decide +kernel⟩) rfl (yU (pv 1)) (by show ∀j∈([]:List Nat),j<4;decide) (fun cl C s₂ H₂ fp=>(zx zjo hr rfl T.zcY T.MP.2 T.zcX .nil zB (za (pv 0) zc)))) zc)) (fun _=>rfl))) (zp (zK Yw)) z8)
   (zp (zF (i:=1) vL.nd rfl (Or.inl rfl) (zx Sd hr rfl T.TQ T.X8.2 T.TJ .nil zB (za (pv 1) zc)))))))))
   (zp (zK Yw)))))),?_⟩
 refine⟨_,rfl,by show 1<=sizeLine;decide,fun l0 hl0=>?_⟩
 have g0:=Same.new hl0 (.lst [.ref p])
 refine⟨fun m σ H'=>∃(ss:List Sn) (ps:List Addr) (l:Addr) (d t:Nat),m=cnt ss/\Same H H'/\H' l=some (.lst (ps.map V.ref))/\Paired (RQ H') ss ps/\(∀u∈ss,u.Ub Y9/\d+u.depth<=24)/\t+cnt ss<=200/\σ=[some (.ref p),some (.ref l),some (.int d),some (.int t)],
  ⟨_,[sn],[p],l0,0,0,rfl,g0,zj,.cons (isp.mono (yC.of g0)) .nil,?_,?_,rfl⟩,?_⟩
 ·intro u hu
  have e:u=sn:=by simpa using hu
  subst e
  exact⟨hin,by omega⟩
 ·show 0+(sn.count+0)<=200
  omega
 rintro m σ H' ⟨ss,ps,l,d,t,rfl,g,hl,hp,hi,ht,rfl⟩
 have lp:=xT hp
 have le:(ps.map V.ref).length=ss.length:=by rw[zCI];exact lp.symm
 have cl:=zlC ss
 refine⟨_,rfl,l,_,rfl,.inl (zM.of hl),_,_,rfl,rfl,_,rfl,yw (fun c=>?_) (fun c=>?_)⟩
 ·have c':0<ss.length:=by have:=of_decide_eq_true c;rw[le] at this;omega
  have hd1:d+1<=24:=by
   have hm:ss[0]∈ss:=zDq c'
   have:=(hi _ hm).2
   have:=Sn.Lw ss[0]
   omega
  refine⟨_,fun σ' H2 h=>h,?_⟩
  refine⟨_,rfl,(d:Int),1,rfl,rfl,?_⟩
  refine⟨_,rfl,_,rfl,l,_,rfl,.inl (zM.of hl),(t:Int),_,rfl,rfl,?_⟩
  refine⟨_,rfl,_,_,rfl,rfl,_,rfl,yw (fun c2=>?_) (fun _=>?_)⟩
  ·exfalso
   have:=of_decide_eq_true c2
   omega
  refine⟨_,rfl,_,_,rfl,rfl,_,rfl,yw (fun c2=>?_) (fun _=>?_)⟩
  ·exfalso
   have:=of_decide_eq_true c2
   rw[le] at this
   omega
  refine⟨_,rfl,l,rfl,⟨_,zM.of hl⟩,zdw (fun _ v=>v=.bl true) (zM.of hl) (by rw[le];exact zC1 (zN (by omega))) ?_ (zn4 zim) ?_⟩
  ·intro i x H2 hx g2
   rw[zCK] at hx
   cases ho:ps[i]? with
   | none=>rw[ho] at hx;cases hx
   | some y =>
    rw[ho] at hx
    cases hx
    obtain⟨sy,hsy,iy⟩:=zcI hp ho
    exact⟨_,rfl,y,sy,rfl,iy.mono (yC.of g2),Sn.zii sy (hi sy (zCN hsy)).1,fun H3 g3=>⟨rfl,g2.trans g3⟩⟩
  intro ys H2 p2 hr' g2 hp2
  have e:=JQ (f:=fun _=>.bl true) hr'
  have e2:ys=(ps.map fun _=>true).map V.bl:=by rw[e,zDk,zDk];rfl
  subst e2
  have g3:=Same.new hp2 (.lst ((ps.map fun _=>true).map V.bl))
  have ea:(ps.map fun _=>true).all id=true:=by rw[List.all_map,zDc];exact fun _ _=>rfl
  refine⟨p2,_,rfl,zM.of zj,_,rfl,?_⟩
  rw[ea]
  refine YX ?_
  have gg:=g2.trans g3
  refine⟨_,rfl,l,ss,ps,rfl,gg.seq (zM.of hl),vm (fun _ _ z=>z.mono (yC.of gg)) hp,by omega,fun l' H4 ps' g4 hn hl' hp'=>?_⟩
  have cp:=Lz ss
  refine⟨cnt (ss.flatMap Sn.parts),by omega,ss.flatMap Sn.parts,ps',l',d+1,t+(ps.map V.ref).length,rfl,(g.trans gg).trans g4,hl',hp',?_,by omega,rfl⟩
  intro u hu
  obtain⟨s',hs',hu'⟩:=zbv.mp hu
  obtain⟨i1,i2⟩:=hi s' hs'
  have:=Sn.Ma s' u hu'
  exact⟨Sn.zgf s' i1 u hu',by omega⟩
 ·exact q _ g
theorem zcu (T:Txt P w K mg a)(zk6:zA P w K mg base zW k a.Q9 a.Pa ["order"] (zgi K)):zA P w K mg base zW (k+1) a.YJ a.YK ["order"] (zcK K):=by
 refine T.V1.ok zbM (fun vs H Q E h=>?_) (fun cdv A outer s H vs Q E hr h=>?_)
 ·obtain⟨l,os,rfl,_⟩:=h
  rfl
 obtain⟨l,os,rfl,hq,ho,q⟩:=h
 refine⟨_,(zp (yP (Xk (vg (zx zk6 hr rfl T.zeJ T.zab.2 T.zeI .nil zB (za (pv 0) zc)) (fun _=>rfl))) (zp U5) z8)),?_⟩
 refine⟨_,rfl,l,os,rfl,hq,zC4 ho.le (by decide),fun H' g=>⟨_,rfl,?_⟩⟩
 rw[zp5 ho]
 exact YX (q H' g)
theorem K8 (T:Txt P w K mg a)(zfG:zA P w K mg base zW k a.Vf a.Vg ["some"] zlD):zA P w K mg base zW (k+1) a.Zb a.Zc ["some"] zgj:=by
 refine T.Y6.ok K5 (fun vs H Q E h=>?_) (fun cdv A outer s H vs Q E hr h=>?_)
 ·obtain⟨p,s,rfl,_⟩:=h
  rfl
 obtain⟨p,sn,rfl,h1,h2,h3,h4,q⟩:=h
 refine⟨_,(zp (yP (Xk (vg (zx zfG hr rfl T.Jm T.RB.2 T.Jl .nil zB (za (pv 0) zc)) (fun _=>rfl))) (zp U5) z8)),?_⟩
 exact⟨_,rfl,p,sn,rfl,h1,h2,h3,h4,fun H' g=>⟨_,rfl,YX (q H' g)⟩⟩
theorem zhR (T:Txt P w K mg a)(Sd:zA P w K mg base zW k a.uX a.uY ["level"] (Ue K)):zA P w K mg base zW (k+1) a.SX a.S5 ["sentence"] zd8:=by
 refine T.M4.ok Uh (fun vs H Q E h=>?_) (fun cdv A outer s H vs Q E hr h=>?_)
 ·obtain⟨p,s,rfl,_⟩:=h
  rfl
 obtain⟨p,sn,rfl,isp,hc,q⟩:=h
 refine⟨_,(zf (zF (i:=1) Uh.nd rfl (Or.inl rfl) (xq zc))
   (zf (zF (i:=2) Uh.nd rfl (Or.inl rfl) (xq (za (pv 0) zc)))
   (zf (N7 PassesOwn.never (zP zdP (zH zG rfl T.xu yr (za (pv 2) zc)) zu (zY _)) (zf (yE (vG PySem.F.plainAttrs_list PySem.F.slot_list_extend PySem.F.type_list_extend zga (pv 1) (za (pv 2) zc)))
   (zp (zF (i:=2) Uh.nd rfl (Or.inl rfl) (zx Sd hr rfl T.TQ T.X8.2 T.TJ .nil zB (za (pv 2) zc))))))
   (zp (zK (pv 1)))))),?_⟩
 refine⟨by show 0<=sizeLine;decide,fun f hf=>?_⟩
 refine⟨_,rfl,by show 1<=sizeLine;decide,fun l0 hl0=>?_⟩
 have g0:=(Same.new hf (.lst [])).trans (Same.new hl0 (.lst [.ref p]))
 have nfl:f≠l0:=zE zj hl0
 refine⟨fun m σ H'=>∃(ts ss:List Sn) (qs ps:List Addr) (l:Addr),m=cnt ss/\Same H H'/\H' f=some (.lst (qs.map V.ref))/\H' l=some (.lst (ps.map V.ref))/\f≠l/\Paired (RQ H') ts qs/\Paired (RQ H') ss ps/\ts.length+cnt ss=sn.count /\
   (∀x,((∃t∈ts,x∈t.letters)\/∃u∈ss,x∈u.all)↔x∈sn.all)/\σ=[some (.ref p),some (.ref f),some (.ref l)],
  ⟨_,[],[sn],[],[p],l0,rfl,g0,by rw[zJ nfl];exact zj,zj,nfl,.nil,.cons (isp.mono (yC.of g0)) .nil,?_,?_,rfl⟩,?_⟩
 ·show 0+(sn.count+0)=sn.count
  omega
 ·intro x
  simp
 rintro m σ H' ⟨ts,ss,qs,ps,l,rfl,g,hf',hl,nfl,hts,hss,hcn,hle,rfl⟩
 have lt:=xT hts
 have lp:=xT hss
 have cl:=zlC ss
 have le:(ps.map V.ref).length=ss.length:=by rw[zCI];exact lp.symm
 refine⟨_,rfl,l,_,rfl,.inl (zM.of hl),_,_,rfl,rfl,_,rfl,yw (fun c=>?_) (fun c=>?_)⟩
 ·have c':0<ss.length:=by have:=of_decide_eq_true c;rw[le] at this;omega
  refine⟨_,fun σ' H2 h=>h,?_⟩
  refine⟨_,rfl,.inl ⟨rfl,_,zM.of hf'⟩,_,rfl,f,l,_,_,rfl,rfl,hf',hl,by rw[zCI,zCI];exact zC1 (zN (by omega)),?_⟩
  have t1:yC H' (upd H' f (.lst (qs.map V.ref++ps.map V.ref))):=yC.lst hf' _
  have g1:Same H (upd H' f (.lst (qs.map V.ref++ps.map V.ref))):=g.over hf _
  have hl1:(upd H' f (.lst (qs.map V.ref++ps.map V.ref))) l=some (.lst (ps.map V.ref)):=by rw[zJ (Ne.symm nfl)];exact hl
  refine⟨_,rfl,l,ss,ps,rfl,zM.of hl1,vm (fun _ _ z=>z.mono t1) hss,by omega,fun l' H3 ps' g3 hn hl' hp'=>?_⟩
  have cp:=Lz ss
  have t3:=t1.trans (yC.of g3)
  refine⟨cnt (ss.flatMap Sn.parts),by omega,ts++ss,ss.flatMap Sn.parts,qs++ps,ps',l',rfl,g1.trans g3,by rw[zCW];exact g3 _ _ zj,hl',zE zj hn,
   Wv (vm (fun _ _ z=>z.mono t3) hts) (vm (fun _ _ z=>z.mono t3) hss),hp',by rw[zCQ];omega,fun x=>?_,rfl⟩
  rw[<-hle x]
  constructor
  ·rintro (⟨t,ht,hx⟩ | ⟨u,hu,hx⟩)
   ·rcases List.mem_append.mp ht with z | z
    ·exact .inl ⟨t,z,hx⟩
    ·exact .inr ⟨t,z,(Sn.zg2 t x).mpr (.inl hx)⟩
   ·obtain⟨s',hs',hu'⟩:=zbv.mp hu
    exact .inr ⟨s',hs',(Sn.zg2 s' x).mpr (.inr ⟨u,hu',hx⟩)⟩
  ·rintro (⟨t,ht,hx⟩ | ⟨u,hu,hx⟩)
   ·exact .inl ⟨t,List.mem_append_left _ ht,hx⟩
   ·rcases (Sn.zg2 u x).mp hx with z | ⟨v,hv,z⟩
    ·exact .inl ⟨u,zCZ _ hu,z⟩
    ·exact .inr ⟨v,zbv.mpr ⟨u,hu,hv⟩,z⟩
 ·have c':ss=[]:=by
   have:¬ 0<ss.length:=fun z=>c (decide_eq_true (by rw[le];omega))
   exact List.length_eq_zero_iff.mp (by omega)
  subst c'
  refine⟨_,rfl,q f H' ts qs g hf hf' hts ?_ fun x=>?_⟩
  ·have:cnt []=0:=rfl
   omega
  ·rw[<-hle x]
   constructor
   ·exact fun z=>.inl z
   ·rintro (z | ⟨u,hu,_⟩)
    ·exact z
    ·cases hu
theorem zfH (T:Txt P w K mg a)(zjp:zA P w K mg base zW k a.SX a.S5 ["sentence"] zd8)(PL:zA P w K mg base zW k a.tX a.tY ["sentence"] Vx):zA P w K mg base zW (k+1) a.Ui a.Uj ["sentence"] zcL:=by
 refine T.Pn.ok Rw (fun vs H Q E h=>?_) (fun cdv A outer s H vs Q E hr h=>?_)
 ·obtain⟨p,s,rfl,_⟩:=h
  rfl
 obtain⟨p,sn,rfl,isp,hc,q⟩:=h
 refine⟨_,(zf (zF (i:=1) Rw.nd rfl (Or.inl rfl) (xq zc))
   (zf (wL PassesOwn.never rfl (yU (zx zjp hr rfl T.zc0 T.M4.2 T.zcZ .nil zB (za (pv 0) zc))) (z9 (i:=2) Rw.nd rfl (Or.inl rfl)) (zp (yE (vG PySem.F.plainAttrs_list PySem.F.slot_list_extend PySem.F.type_list_extend zdZ (pv 1) (za (zx PL hr rfl T.Ph T.Us.2 T.Pg .nil zB (za (pv 2) zc)) zc)))))
   (zp (zK (pv 1))))),?_⟩
 refine⟨by show 0<=sizeLine;decide,fun f hf=>?_⟩
 have g0:=Same.new hf (.lst [])
 refine⟨_,rfl,p,sn,rfl,isp.mono (yC.of g0),hc,fun l H1 ts ps g1 hn hl hts htl hle=>?_⟩
 have nfl:f≠l:=zE zj hn
 have lt:=xT hts
 refine⟨l,rfl,⟨_,zM.of hl⟩,?_⟩
 refine uf (xs:=ps.map V.ref) (fun i σ H'=>∃(f1:Option V),Same H H'/\H' f=some (.lst (((ts.take i).flatMap Sn.letters).map V.str))/\H' l=some (.lst (ps.map V.ref))/\Paired (RQ H') ts ps/\((ts.take i).flatMap Sn.letters).length<=i/\i<=ts.length/\σ=[some (.ref p),some (.ref f),f1])
  ⟨_,g0.trans g1,g1 _ _ zj,hl,hts,by simp,zC5 _,rfl⟩ ?_ ?_ ?_
 ·rintro i σ H' _ ⟨f1,g,hf',hl',_⟩
  exact zM.of hl'
 ·rintro i x σ H' hx ⟨f1,g,hf',hl',hts',lq,li,rfl⟩
  rw[zCK] at hx
  cases ho:ps[i]? with
  | none=>rw[ho] at hx;cases hx
  | some pp =>
   rw[ho] at hx
   cases hx
   obtain⟨sy,hsy,iy⟩:=zcI hts' ho
   have hlt:=(zCL.mp hsy).1
   obtain⟨zs,c1,c2,c3,c4,c5⟩:=LC iy
   have l1:=Sn.zd6 sy
   refine⟨_,rfl,.inl ⟨rfl,_,zM.of hf'⟩,_,rfl,pp,sy.word,sy.letters.length,sy.parts.length,_,rfl,c1,Xm sy,c3,fun b hb=>?_⟩
   rw[c4]
   have hf2:(upd H' b (.tup (sy.letters.map V.str))) f=some (.lst (((ts.take i).flatMap Sn.letters).map V.str)):=by rw[zJ (zE hf' hb)];exact hf'
   refine⟨f,b,_,sy.letters.map V.str,rfl,rfl,hf2,vW.of zj,?_,?_⟩
   ·rw[zCI,zCI]
    exact zC1 (zN (by omega))
   ·have t1:yC H' (upd (upd H' b (.tup (sy.letters.map V.str))) f (.lst (((ts.take i).flatMap Sn.letters).map V.str++sy.letters.map V.str))):=(yC.new hb _).trans (yC.lst hf2 _)
    have e:(ts.take (i+1)).flatMap Sn.letters=(ts.take i).flatMap Sn.letters++sy.letters:=by rw[yW hsy,List.flatMap_append,List.flatMap_singleton]
    refine⟨_,(g.trans (Same.new hb _)).over hf _,by rw[zj,e,zCW],?_,vm (fun _ _ z=>z.mono t1) hts',by rw[e,zCQ];omega,hlt,rfl⟩
    rw[zJ (Ne.symm nfl),zJ (zE hl' hb)]
    exact hl'
 ·rintro σ H' ⟨f1,g,hf',hl',hts',lq,li,rfl⟩
  rw[zCI,<-lt,zDb] at hf' lq
  refine⟨_,rfl,q f H' _ g hf hf' (fun x=>?_) (by omega)⟩
  rw[<-hle x,List.mem_flatMap]
theorem zbh (T:Txt P w K mg a):zA P w K mg base zW (k+1) a.vA a.vB ["order", "letter"] (QC K):=by
 refine T.W3.ok zaV (fun vs H Q E h=>?_) (fun cdv A outer s H vs Q E hr h=>?_)
 ·obtain⟨l,x,os,rfl,_⟩:=h
  rfl
 obtain⟨l,x,os,rfl,hO,hx,q⟩:=h
 refine⟨_,(zp (yP (zP V8 (pv 1) (pv 0) (by with_unfolding_all rfl)) (zp U5) z8)),?_⟩
 refine⟨_,rfl,_,rfl,l,_,rfl,.inl hO,rfl,vd _,_,rfl,?_⟩
 have e:(if true=true then !inV (.str x) (os.map V.str) else inV (.str x) (os.map V.str))=false:=by
  rw[if_pos rfl,zaz,decide_eq_true hx];rfl
 rw[e]
 exact YX q
theorem zag (T:Txt P w K mg a)(zhS:zA P w K mg base zW k a.Ui a.Uj ["sentence"] zcL)(zcv:zA P w K mg base zW k a.vA a.vB ["order", "letter"] (QC K)):zA P w K mg base zW (k+1) a.ZC a.ZD ["order", "sentence"] (zcM K):=by
 refine T.Wa.ok Tv (fun vs H Q E h=>?_) (fun cdv A outer s H vs Q E hr h=>?_)
 ·obtain⟨l,p,os,s,rfl,_⟩:=h
  rfl
 obtain⟨l,p,os,sn,rfl,hO,isp,hc,hin,q⟩:=h
 refine⟨_,(zp (wL PassesOwn.never rfl (yU (zx zhS hr rfl T.za6 T.Pn.2 T.za5 .nil zB (za (pv 1) zc))) (z9 (i:=2) Tv.nd rfl (Or.inl rfl)) (zp (yE (zx zcv hr rfl T.Qm T.W3.2 T.Ql .nil zB (za (pv 0) (za (pv 2) zc))))))),?_⟩
 refine⟨_,rfl,p,sn,rfl,isp,hc,fun f H1 xs g1 hn hl hmem hxl=>?_⟩
 refine⟨f,rfl,⟨_,zM.of hl⟩,?_⟩
 refine uf (xs:=xs.map V.str) (fun i σ H'=>∃f1:Option V,H'=H1/\σ=[some (.ref l),some (.ref p),f1]) ⟨_,rfl,rfl⟩ ?_ ?_ ?_
 ·rintro i σ H' _ ⟨f1,rfl,_⟩
  exact zM.of hl
 ·rintro i x σ H' hx ⟨f1,rfl,rfl⟩
  rw[zCK] at hx
  cases ho:xs[i]? with
  | none=>rw[ho] at hx;cases hx
  | some y =>
   rw[ho] at hx
   cases hx
   have hy:y∈os:=(Sn.Ud sn).mp hin y ((hmem y).mp (zCN ho))
   exact⟨_,rfl,_,rfl,l,y,os,rfl,g1.seq hO,hy,_,rfl,rfl⟩
 ·rintro σ H' ⟨f1,rfl,rfl⟩
  exact q _ g1
theorem zdi (T:Txt P w K mg a):zA P w K mg base zW (k+1) a.vN a.vO ["word", "one", "other", "every"] zin:=by
 refine T.TY.ok zdc (fun vs H Q E h=>?_) (fun cdv A outer s H vs Q E hr h=>?_)
 ·obtain⟨o,N,M,n,f,g,rfl,_⟩:=h
  rfl
 obtain⟨o,N,M,n,f,g,rfl,hN,hM,q⟩:=h
 refine⟨_,(zf (yP (zP wZ (pv 0) zZ (zY _)) (zp (zK (zQ Zz (pv 1) (pv 2)))) z8)
   (zf (yP (zP wZ (pv 0) zZ (zY _)) (zp (zK (zQ QB (pv 1) (pv 2)))) z8)
   (zf (yP (zP wZ (pv 0) zZ (zY _)) (zp (zK (zQ Ly (pv 1) (pv 2)))) z8)
   (zp (zK (zQ QB (zQ Ly (pv 3) (pv 1)) (pv 2))))))),?_⟩
 rcases zrW o with e | e | e | e
 ·subst e
  exact⟨_,rfl,rfl,_,rfl,yw (fun _=>⟨_,rfl,_,rfl,N,M,rfl,rfl,q _ (Uc hN hM)⟩) (fun c=>absurd (decide_eq_true rfl) c)⟩
 ·subst e
  refine⟨_,rfl,rfl,_,rfl,yw (fun c=>absurd c (ne_str (show Str.ofString "or" ≠ Str.ofString "and" by decide +kernel))) (fun _=>?_)⟩
  exact⟨_,rfl,rfl,_,rfl,yw (fun _=>⟨_,rfl,_,rfl,N,M,rfl,rfl,q _ (JM hN hM)⟩) (fun c=>absurd (decide_eq_true rfl) c)⟩
 ·subst e
  refine⟨_,rfl,rfl,_,rfl,yw (fun c=>absurd c (ne_str (show Str.ofString "either" ≠ Str.ofString "and" by decide +kernel))) (fun _=>?_)⟩
  refine⟨_,rfl,rfl,_,rfl,yw (fun c=>absurd c (ne_str (show Str.ofString "either" ≠ Str.ofString "or" by decide +kernel))) (fun _=>?_)⟩
  exact⟨_,rfl,rfl,_,rfl,yw (fun _=>⟨_,rfl,_,rfl,N,M,rfl,rfl,q _ (Qz hN hM)⟩) (fun c=>absurd (decide_eq_true rfl) c)⟩
 ·subst e
  refine⟨_,rfl,rfl,_,rfl,yw (fun c=>absurd c (ne_str (show Str.ofString "if" ≠ Str.ofString "and" by decide +kernel))) (fun _=>?_)⟩
  refine⟨_,rfl,rfl,_,rfl,yw (fun c=>absurd c (ne_str (show Str.ofString "if" ≠ Str.ofString "or" by decide +kernel))) (fun _=>?_)⟩
  refine⟨_,rfl,rfl,_,rfl,yw (fun c=>absurd c (ne_str (show Str.ofString "if" ≠ Str.ofString "either" by decide +kernel))) (fun _=>?_)⟩
  refine⟨_,rfl,_,rfl,_,N,rfl,rfl,_,rfl,_,M,rfl,rfl,q _ (vY (JM (Qz (zav n) hN) hM) fun b _=>?_)⟩
  show((true != f b)||g b)=(!f b||g b)
  cases f b<;>rfl
theorem zfI {d:Nat}(T:Txt P w K mg a)(vR:zA P w K mg base zW k a.tV a.tW ["marks"] Wt)(wH:zA P w K mg base zW k a.wW a.wX ["place", "marks"] tU)
  (u6:zA P w K mg base zW k a.Z8 a.Z9 ["table", "place", "marks"] Wu)(ZX:zA P w K mg base zW k a.tZ a.Za ["sentence"] Ww)
  (Wh:zA P w K mg base zW k a.vN a.vO ["word", "one", "other", "every"] zin)
  (zah:zA P w K mg base zW k a.WW a.WX ["sentence", "order"] (LK K d)):zA P w K mg base zW (k+1) a.WW a.WX ["sentence", "order"] (LK K (d+1)):=by
 refine T.Pq.ok SJ (fun vs H Q E h=>?_) (fun cdv A outer s H vs Q E hr h=>?_)
 ·obtain⟨p,l,sn,os,rfl,_⟩:=h
  rfl
 obtain⟨p,l,sn,os,rfl,isp,hO,hin,h8,hd,q⟩:=h
 refine⟨_,(zf (zF (i:=2) SJ.nd rfl (Or.inl rfl) (yj uR (pv 0) zu (fun _ _=>rfl)))
   (zf (zF (i:=3) SJ.nd rfl (Or.inl rfl) (zH zG rfl T.xu yr (za (pv 1) zc)))
   (zf (yP (zP wZ (pv 2) zZ (zY _)) (zp (zK zu)) z8)
   (zf (yP (zP wZ (pv 2) zZ (zY _)) (zp (zK (zx vR hr rfl T.Y5 T.ZR.2 T.Y4 .nil zB (za (pv 3) zc)))) z8)
   (zf (yP (zP wZ (pv 2) zZ (zY _)) (zp (zK (zx wH hr rfl T.Xi T.ZS.2 T.Xh .nil zB (za (vG PySem.F.plainAttrs_list PySem.F.slot_list_index PySem.F.type_list_index RV (pv 1) (za (yj uR (pv 0) zu (fun _ _=>rfl)) zc)) (za (pv 3) zc))))) z8)
   (zf (zdW (tt:=zdX) (i:=4) SJ.nd rfl (Or.inl rfl) (.inl rfl) (Zj:=zq Tj) (js:=[1]) rfl (by show ZG (zq Tj) _ "part" ["order"];exact⟨rfl,by decide +kernel,by decide +kernel,rfl,by decide +kernel,by decide +kernel,by decide +kernel⟩) rfl (zbn (zx ZX hr rfl T.Pk T.TF.2 T.Pj .nil zB (za (pv 0) zc))) (by show ∀j∈([1]:List Nat),j<5;decide) (fun cl C s₂ H₂ fp pins s' σ' H' Q I h=>wpAny_pure ⟨H',I,h⟩) (fun cl C s₂ H₂ fp=>(zx zah hr rfl T.zad T.Pq.2 T.zac .nil zB (za (pv 0) (za (pv 1) zc)))) rfl)
   (zf (yP (zP wZ (pv 2) zZ (zY _)) (zp (zK (zQ Ly (zx vR hr rfl T.Y5 T.ZR.2 T.Y4 .nil zB (za (pv 3) zc)) (yj yV (pv 4) zu (fun _ _=>rfl))))) z8)
   (zf (yP (zP wZ (pv 2) zZ (zY _)) (zp (zK (zQ QB (yj yV (pv 4) zu (fun _ _=>rfl)) (zx u6 hr rfl T.U0 T.WY.2 T.UW .nil zB (za (yj yV (pv 4) zu (fun _ _=>rfl)) (za (vG PySem.F.plainAttrs_list PySem.F.slot_list_index PySem.F.type_list_index RV (pv 1) (za (yj uR (pv 0) zu (fun _ _=>rfl)) zc)) (za (pv 3) zc))))))) z8)
   (zf (yP (zP wZ (pv 2) zZ (zY _)) (zp (zK (zQ Zz (yj yV (pv 4) zu (fun _ _=>rfl)) (zx u6 hr rfl T.U0 T.WY.2 T.UW .nil zB (za (yj yV (pv 4) zu (fun _ _=>rfl)) (za (vG PySem.F.plainAttrs_list PySem.F.slot_list_index PySem.F.type_list_index RV (pv 1) (za (yj uR (pv 0) zu (fun _ _=>rfl)) zc)) (za (pv 3) zc))))))) z8)
   (zp (zK (zx Wh hr rfl T.M6 T.TY.2 T.M5 .nil zB (za (pv 2) (za (yj yV (pv 4) zu (fun _ _=>rfl)) (za (yj yV (pv 4) zu (fun _ _=>rfl)) (za (zx vR hr rfl T.Y5 T.ZR.2 T.Y4 .nil zB (za (pv 3) zc)) zc)))))))))))))))),?_⟩
 have hlen:(os.map V.str).length=os.length:=zCI _
 obtain⟨zs,c1,c2,c3,c4,c5⟩:=LC isp
 have lz:=xT c2
 have lp2:=Sn.zaA sn
 refine⟨_,rfl,p,_,0,_,rfl,rfl,vW.of c1,at0,?_⟩
 refine⟨_,rfl,l,_,rfl,.inl hO,?_⟩
 rw[hlen]
 have comp:∀{σ:St} {Q2:Addr->Hp->List V->Prop},σ.getD 1 none=some (.ref l)->(∀(b:Addr) (ys:List V) (H':Hp),Same H H'->H' b=none->ys.length=sn.parts.length->(∀(j:Nat) v,ys[j]?=some v->∃t N,sn.parts[j]?=some t/\v=.int (N:Nat)/\TabOf os t N)->Q2 b H' ys) ->
   ∀b0,H b0=none->∃W:Nat->Nat->List V->Hp->Prop,(∃m,W 0 m [] (upd H b0 (.tup (zs.map V.ref))))/\∀i m ys H,W i m ys H ->
    ((Itt K b0).stop i H/\∀p,H p=none->Q2 p H ys) \/
    ((Itt K b0).go i H/\ys.length<sizeLine/\∀x H',(Itt K b0).JG i H x H'->zdX (Z1 σ [1] (some x)) H' fun b H2 =>
     if b=true then zf3 (LK K d) [] E0 (zaq (zc8 0) (zaq (zc8 1) zjN)) (Z1 σ [1] (some x)) H2 fun v H3=>∃m',m'<m/\W (i+1) m' (ys++[v]) H3 else ∃m',m'<m/\W (i+1) m' ys H2):=by
  intro σ Q2 hσ hQ2 b0 hb0
  have g0:=Same.new hb0 (.tup (zs.map V.ref))
  refine zp6 (fun j v=>∃t N,sn.parts[j]?=some t/\v=.int ((N:Nat):Int)/\TabOf os t N) (vW.of zj) (by rw[zCI];exact zC1 (zN (by omega))) ?_ (ztn (zjZ d)) ?_
  ·intro i x H' hx g
   rw[zCK] at hx
   cases ho:zs[i]? with
   | none=>rw[ho] at hx;cases hx
   | some y =>
    rw[ho] at hx
    cases hx
    obtain⟨t,ht,it⟩:=zcI c2 ho
    have htm:=zCN ht
    have dp:=Sn.Ma sn t htm
    refine⟨_,rfl,.ref l,?_,y,l,t,os,rfl,it.mono (yC.of (g0.trans g)),(g0.trans g).seq hO,Sn.zgf sn hin t htm,h8,by omega,fun N H3 g3 hN=>⟨⟨t,N,ht,rfl,hN⟩,g.trans g3⟩⟩
    show some (σ.getD 1 none)=_
    rw[hσ]
  ·intro ys H' pp hl hy g hpp
   exact hQ2 pp ys H' (g0.trans g) hpp (by rw[hl,zCI];exact lz.symm) hy
 cases sn with
 | c0 y =>
  cases y with
  | false=>exact⟨_,rfl,rfl,_,rfl,yw (fun _=>q 0 _ (Same.refl _) (zaw _)) (fun c=>absurd (decide_eq_true rfl) c)⟩
  | true =>
   refine⟨_,rfl,rfl,_,rfl,yw (fun c=>absurd c (ne_str (show Str.ofString "yes" ≠ Str.ofString "no" by decide +kernel))) (fun _=>?_)⟩
   exact⟨_,rfl,rfl,_,rfl,yw (fun _=>⟨_,rfl,os.length,rfl,h8,q _ _ (Same.refl _) (zav _)⟩) (fun c=>absurd (decide_eq_true rfl) c)⟩
 | mk x =>
  refine⟨_,rfl,rfl,_,rfl,yw (fun c=>absurd c (ne_str (show Str.ofString "mark" ≠ Str.ofString "no" by decide +kernel))) (fun _=>?_)⟩
  refine⟨_,rfl,rfl,_,rfl,yw (fun c=>absurd c (ne_str (show Str.ofString "mark" ≠ Str.ofString "yes" by decide +kernel))) (fun _=>?_)⟩
  obtain⟨i1,i2,i3⟩:=vU (show x∈os from hin)
  have isp':H p=some (.tup [.str "mark", .str x]):=isp
  exact⟨_,rfl,rfl,_,rfl,yw (fun _=>⟨_,rfl,.inl ⟨rfl,_,hO⟩,_,rfl,p,_,1,_,rfl,rfl,vW.of isp',at1,l,_,.str x,_,rfl,rfl,hO,rfl,vd _,i1,_,rfl,ix os x,os.length,rfl,i2,h8,fun R hR=>q R _ (Same.refl _) hR⟩) (fun c=>absurd (decide_eq_true rfl) c)⟩
 | nt s1 =>
  refine⟨_,rfl,rfl,_,rfl,yw (fun c=>absurd c (ne_str (show Str.ofString "not" ≠ Str.ofString "no" by decide +kernel))) (fun _=>?_)⟩
  refine⟨_,rfl,rfl,_,rfl,yw (fun c=>absurd c (ne_str (show Str.ofString "not" ≠ Str.ofString "yes" by decide +kernel))) (fun _=>?_)⟩
  refine⟨_,rfl,rfl,_,rfl,yw (fun c=>absurd c (ne_str (show Str.ofString "not" ≠ Str.ofString "mark" by decide +kernel))) (fun _=>?_)⟩
  refine⟨_,rfl,p,_,_,_,_,rfl,c1,Xm (.nt s1),c3,fun b0 hb0=>?_⟩
  rw[c5]
  refine⟨b0,rfl,⟨_,vW.of zj⟩,comp rfl (fun b ys H0 g0 hb0' hyl hy=>?_) b0 hb0⟩
  have hb:=zj (H:=H0) (a:=b) (o:=.lst ys)
  have g:=g0.trans (Same.new hb0' (.lst ys))
  obtain⟨v,rfl⟩:=len1 hyl
  obtain⟨t,N,ht,rfl,hN⟩:=hy 0 v rfl
  cases ht
  refine⟨_,rfl,rfl,_,rfl,yw (fun _=>⟨_,rfl,os.length,rfl,h8,_,rfl,b,_,0,_,rfl,rfl,zM.of hb,at0,_,N,rfl,rfl,q _ _ g (vY (Qz (zav _) hN) fun z _=>?_)⟩) (fun c=>absurd (decide_eq_true rfl) c)⟩
  show(true != s1.val (wI os z))=!s1.val (wI os z)
  cases s1.val (wI os z)<;>rfl
 | b2 o s1 s2 =>
  have w1:w2 o≠Str.ofString "no" := zq6 o
  have w2':w2 o≠Str.ofString "yes" := zn9 o
  have w3:w2 o≠Str.ofString "mark" := zlE o
  have w4:w2 o≠Str.ofString "not" := zoa o
  have w5:w2 o≠Str.ofString "some" := zlF o
  have w6:w2 o≠Str.ofString "each" := zlG o
  refine⟨_,rfl,rfl,_,rfl,yw (fun c=>absurd c (ne_str w1)) (fun _=>?_)⟩
  refine⟨_,rfl,rfl,_,rfl,yw (fun c=>absurd c (ne_str w2')) (fun _=>?_)⟩
  refine⟨_,rfl,rfl,_,rfl,yw (fun c=>absurd c (ne_str w3)) (fun _=>?_)⟩
  refine⟨_,rfl,p,_,_,_,_,rfl,c1,Xm (.b2 o s1 s2),c3,fun b0 hb0=>?_⟩
  rw[c5]
  refine⟨b0,rfl,⟨_,vW.of zj⟩,comp rfl (fun b ys H0 g0 hb0' hyl hy=>?_) b0 hb0⟩
  have hb:=zj (H:=H0) (a:=b) (o:=.lst ys)
  have g:=g0.trans (Same.new hb0' (.lst ys))
  obtain⟨v,u,rfl⟩:=len2 hyl
  obtain⟨t,N,ht,rfl,hN⟩:=hy 0 v rfl
  obtain⟨t',M,ht',rfl,hM⟩:=hy 1 u rfl
  cases ht
  cases ht'
  refine⟨_,rfl,rfl,_,rfl,yw (fun c=>absurd c (ne_str w4)) (fun _=>?_)⟩
  refine⟨_,rfl,rfl,_,rfl,yw (fun c=>absurd c (ne_str w5)) (fun _=>?_)⟩
  refine⟨_,rfl,rfl,_,rfl,yw (fun c=>absurd c (ne_str w6)) (fun _=>?_)⟩
  exact⟨_,rfl,_,rfl,b,_,0,_,rfl,rfl,zM.of hb,at0,_,rfl,b,_,1,_,rfl,rfl,zM.of hb,at1,_,rfl,os.length,rfl,h8,o,N,M,os.length,_,_,rfl,hN,hM,fun R hR=>q R _ g hR⟩
 | q1 o x s1 =>
  obtain⟨hx,hs1⟩:=hin
  obtain⟨i1,i2,i3⟩:=vU hx
  cases o with
  | true =>
   refine⟨_,rfl,rfl,_,rfl,yw (fun c=>absurd c (ne_str (show Str.ofString "some" ≠ Str.ofString "no" by decide +kernel))) (fun _=>?_)⟩
   refine⟨_,rfl,rfl,_,rfl,yw (fun c=>absurd c (ne_str (show Str.ofString "some" ≠ Str.ofString "yes" by decide +kernel))) (fun _=>?_)⟩
   refine⟨_,rfl,rfl,_,rfl,yw (fun c=>absurd c (ne_str (show Str.ofString "some" ≠ Str.ofString "mark" by decide +kernel))) (fun _=>?_)⟩
   refine⟨_,rfl,p,_,_,_,_,rfl,c1,Xm (.q1 true x s1),c3,fun b0 hb0=>?_⟩
   rw[c5]
   refine⟨b0,rfl,⟨_,vW.of zj⟩,comp rfl (fun b ys H0 g0 hb0' hyl hy=>?_) b0 hb0⟩
   have hb:=zj (H:=H0) (a:=b) (o:=.lst ys)
   have g:=g0.trans (Same.new hb0' (.lst ys))
   obtain⟨v,rfl⟩:=len1 hyl
   obtain⟨t,N,ht,rfl,hN⟩:=hy 0 v rfl
   cases ht
   have c1':=g _ _ c1
   refine⟨_,rfl,rfl,_,rfl,yw (fun c=>absurd c (ne_str (show Str.ofString "some" ≠ Str.ofString "not" by decide +kernel))) (fun _=>?_)⟩
   refine⟨_,rfl,rfl,_,rfl,yw (fun _=>?_) (fun c=>absurd (decide_eq_true rfl) c)⟩
   refine⟨_,rfl,b,_,0,_,rfl,rfl,zM.of hb,at0,_,rfl,b,_,0,_,rfl,rfl,zM.of hb,at0,_,rfl,.inl ⟨rfl,_,g.seq hO⟩,_,rfl,p,_,1,_,rfl,rfl,vW.of c1',at1,l,_,.str x,_,rfl,rfl,g.seq hO,rfl,vd _,i1,_,rfl,N,ix os x,os.length,_,rfl,i2,h8,hN,fun R hR=>⟨N,R,rfl,rfl,q _ _ g (vY (JM hN hR) fun z _=>?_)⟩⟩
   exact(zn7 hs1 hx z).symm
  | false =>
   refine⟨_,rfl,rfl,_,rfl,yw (fun c=>absurd c (ne_str (show Str.ofString "each" ≠ Str.ofString "no" by decide +kernel))) (fun _=>?_)⟩
   refine⟨_,rfl,rfl,_,rfl,yw (fun c=>absurd c (ne_str (show Str.ofString "each" ≠ Str.ofString "yes" by decide +kernel))) (fun _=>?_)⟩
   refine⟨_,rfl,rfl,_,rfl,yw (fun c=>absurd c (ne_str (show Str.ofString "each" ≠ Str.ofString "mark" by decide +kernel))) (fun _=>?_)⟩
   refine⟨_,rfl,p,_,_,_,_,rfl,c1,Xm (.q1 false x s1),c3,fun b0 hb0=>?_⟩
   rw[c5]
   refine⟨b0,rfl,⟨_,vW.of zj⟩,comp rfl (fun b ys H0 g0 hb0' hyl hy=>?_) b0 hb0⟩
   have hb:=zj (H:=H0) (a:=b) (o:=.lst ys)
   have g:=g0.trans (Same.new hb0' (.lst ys))
   obtain⟨v,rfl⟩:=len1 hyl
   obtain⟨t,N,ht,rfl,hN⟩:=hy 0 v rfl
   cases ht
   have c1':=g _ _ c1
   refine⟨_,rfl,rfl,_,rfl,yw (fun c=>absurd c (ne_str (show Str.ofString "each" ≠ Str.ofString "not" by decide +kernel))) (fun _=>?_)⟩
   refine⟨_,rfl,rfl,_,rfl,yw (fun c=>absurd c (ne_str (show Str.ofString "each" ≠ Str.ofString "some" by decide +kernel))) (fun _=>?_)⟩
   refine⟨_,rfl,rfl,_,rfl,yw (fun _=>?_) (fun c=>absurd (decide_eq_true rfl) c)⟩
   refine⟨_,rfl,b,_,0,_,rfl,rfl,zM.of hb,at0,_,rfl,b,_,0,_,rfl,rfl,zM.of hb,at0,_,rfl,.inl ⟨rfl,_,g.seq hO⟩,_,rfl,p,_,1,_,rfl,rfl,vW.of c1',at1,l,_,.str x,_,rfl,rfl,g.seq hO,rfl,vd _,i1,_,rfl,N,ix os x,os.length,_,rfl,i2,h8,hN,fun R hR=>⟨N,R,rfl,rfl,q _ _ g (vY (Uc hN hR) fun z _=>?_)⟩⟩
   exact(zn8 hs1 hx z).symm
theorem zc6 (T:Txt P w K mg a)(vR:zA P w K mg base zW k a.tV a.tW ["marks"] Wt)(wH:zA P w K mg base zW k a.wW a.wX ["place", "marks"] tU)
  (u6:zA P w K mg base zW k a.Z8 a.Z9 ["table", "place", "marks"] Wu)(ZX:zA P w K mg base zW k a.tZ a.Za ["sentence"] Ww)
  (Wh:zA P w K mg base zW k a.vN a.vO ["word", "one", "other", "every"] zin):∀d:Nat,zA P w K mg base zW (k+d) a.WW a.WX ["sentence", "order"] (LK K d)
 | 0=>by
  refine⟨fun vs H Q E h=>?_,fun A outer s H args us vs Q E _ _ _ _ h=>?_⟩
  ·obtain⟨p,l,sn,os,rfl,_⟩:=h
   rfl
  ·obtain⟨p,l,sn,os,_,_,_,_,_,hd,_⟩:=h
   have:=Sn.Lw sn
   omega
 | d+1=>zfI T (vR.mono (zDj _ _)) (wH.mono (zDj _ _)) (u6.mono (zDj _ _)) (ZX.mono (zDj _ _)) (Wh.mono (zDj _ _)) (zc6 T vR wH u6 ZX Wh d)
theorem zk7 (T:Txt P w K mg a)(wH:zA P w K mg base zW k a.wW a.wX ["place", "marks"] tU)(u6:zA P w K mg base zW k a.Z8 a.Z9 ["table", "place", "marks"] Wu):zA P w K mg base zW (k+1) a.Xb a.Xc ["table", "place", "value", "marks"] R3:=by
 refine T.Xj.ok J7 (fun vs H Q E h=>?_) (fun cdv A outer s H vs Q E hr h=>?_)
 ·obtain⟨N,p,n,v,f,rfl,_⟩:=h
  rfl
 obtain⟨N,p,n,v,f,rfl,hp,hn,tb,q⟩:=h
 refine⟨_,(zf (zF (i:=4) J7.nd rfl (Or.inl rfl) (zQ Zz (pv 0) (zx wH hr rfl T.Xi T.ZS.2 T.Xh .nil zB (za (pv 1) (za (pv 3) zc)))))
   (zf (zF (i:=5) J7.nd rfl (Or.inl rfl) (zao (zP wZ (pv 2) zu (zY _)) (pv 4) (zQ Ly (pv 0) (pv 4))))
   (zp (zK (zQ QB (pv 5) (zx u6 hr rfl T.U0 T.WY.2 T.UW .nil zB (za (pv 5) (za (pv 1) (za (pv 3) zc))))))))),?_⟩
 refine⟨_,rfl,_,rfl,_,rfl,p,n,rfl,hp,hn,fun R tr=>?_⟩
 refine⟨N,R,rfl,rfl,?_⟩
 have o:=Zk.Uc tb tr
 refine⟨_,rfl,rfl,_,rfl,?_⟩
 cases v with
 | true =>
  refine yw (fun _=>?_) (fun c=>absurd (decide_eq_true rfl) c)
  refine⟨_,rfl,?_⟩
  refine⟨_,rfl,_,rfl,_,rfl,_,rfl,N&&&R,p,n,_,rfl,hp,hn,o,fun R2 t2=>?_⟩
  refine⟨_,_,rfl,rfl,q _ (vY (Zk.JM o t2) fun b hb=>?_)⟩
  show((f b&&b.testBit p)||(f (zO b p (!b.testBit p))&&(zO b p (!b.testBit p)).testBit p))=f (zO b p true)
  rw[zV,if_pos rfl]
  cases e:b.testBit p
  ·simp
  ·rw[<-e,wK.xY,e];simp
 | false =>
  refine yw (fun c=>absurd (of_decide_eq_true c) (fun z=>by injection z with z;revert z;decide)) (fun _=>?_)
  have z:=Zk.Qz tb o
  refine⟨_,rfl,_,rfl,N,N&&&R,rfl,rfl,?_⟩
  refine⟨_,rfl,_,rfl,_,rfl,_,rfl,N ^^^ (N&&&R),p,n,_,rfl,hp,hn,z,fun R2 t2=>?_⟩
  refine⟨_,_,rfl,rfl,q _ (vY (Zk.JM z t2) fun b hb=>?_)⟩
  show((f b != (f b&&b.testBit p))||(f (zO b p (!b.testBit p)) != (f (zO b p (!b.testBit p))&&(zO b p (!b.testBit p)).testBit p)))=f (zO b p false)
  rw[zV,if_pos rfl]
  cases e:b.testBit p
  ·rw[<-e,wK.xY,e];simp
  ·simp
theorem zjq (T:Txt P w K mg a)(u6:zA P w K mg base zW k a.Z8 a.Z9 ["table", "place", "marks"] Wu):zA P w K mg base zW (k+1) a.WM a.WQ ["table", "place", "marks"] zdA:=by
 refine T.Pb.ok ziZ (fun vs H Q E h=>?_) (fun cdv A outer s H vs Q E hr h=>?_)
 ·obtain⟨N,p,n,f,rfl,_⟩:=h
  rfl
 obtain⟨N,p,n,f,rfl,hp,hn,tb,q⟩:=h
 refine⟨_,(zp (zK (tO K9 (zx u6 hr rfl T.U0 T.WY.2 T.UW .nil zB (za (pv 0) (za (pv 1) (za (pv 2) zc)))) (pv 0) (zY _)))),?_⟩
 refine⟨_,rfl,_,rfl,_,rfl,N,p,n,f,rfl,hp,hn,tb,fun R tr=>?_⟩
 refine⟨_,rfl,rfl,?_⟩
 refine q _ (fun e=>?_) (fun e=>?_)
 ·have e1:R=N:=by
   have z:V.int (R:Nat)=V.int (N:Nat):=of_decide_eq_true (by simpa using e)
   injection z with z
   omega
  subst e1
  refine wK.Free.zqf fun b hb=>?_
  rw[<-wK.zaE tr hb,wK.zaE tb hb]
 ·refine Classical.byContradiction fun no=>?_
  have e1:R=N:=wK.zlN tr tb fun b hb=>by
   refine Classical.byContradiction fun ne=>no ⟨b,hb,fun z=>ne ?_⟩
   show f (zO b p (!b.testBit p))=f b
   cases e:b.testBit p
   ·rw[Bool.not_false,<-z,<-e,wK.xY]
   ·rw[Bool.not_true,z,<-e,wK.xY]
  subst e1
  rw[decide_eq_true rfl] at e
  cases e
theorem ze5 (T:Txt P w K mg a)(zai:zA P w K mg base zW k a.WM a.WQ ["table", "place", "marks"] zdA):zA P w K mg base zW (k+1) a.Zt a.Zu ["table", "marks"] zdz:=by
 refine T.Rx.ok Tt (fun vs H Q E h=>?_) (fun cdv A outer s H vs Q E hr h=>?_)
 ·obtain⟨N,n,f,rfl,_⟩:=h
  rfl
 obtain⟨N,n,f,rfl,hn,tb,q⟩:=h
 refine⟨_,(zf (zF (i:=2) Tt.nd rfl (Or.inl rfl) zu)
   (zf (N7 PassesOwn.never (PW.pt (znB (zP zlq (pv 2) (pv 1) (zY _)) (zll (Xk (vg (zx zai hr rfl T.zaa T.Pb.2 T.J9 .nil zB (za (pv 0) (za (pv 2) (za (pv 1) zc)))) (fun _=>rfl)))))) (zp (zjC (i:=2) Tt.nd rfl (Or.inl rfl) zu zgR)))
   (zp (zK (pv 2))))),?_⟩
 refine⟨fun m σ H'=>∃p:Nat,m=n-p/\H'=H/\p<=n/\(∀i,i<p->wK.Free n f i)/\σ=[some (.int N),some (.int n),some (.int p)],⟨_,0,rfl,rfl,zC5 _,fun i hi=>absurd hi (Nat.not_lt_zero _),rfl⟩,?_⟩
 rintro m σ H' ⟨p,rfl,rfl,hp,fr,rfl⟩
 refine⟨_,rfl,_,rfl,_,_,rfl,rfl,_,rfl,yw (fun c=>?_) (fun c=>?_)⟩
 ·have hpn:p<n:=by have:=of_decide_eq_true c;omega
  refine⟨_,rfl,_,rfl,_,rfl,N,p,n,f,rfl,hpn,hn,tb,fun b hf ht=>?_⟩
  cases b with
  | false =>
   refine⟨_,rfl,yw (fun c2=>?_) (fun c2=>absurd rfl c2)⟩
   refine⟨_,fun σ' H2 h=>h,?_⟩
   refine⟨_,rfl,_,_,rfl,rfl,n-(p+1),by omega,p+1,rfl,rfl,hpn,fun i hi=>?_,rfl⟩
   by_cases e:i=p
   ·subst e
    exact hf rfl
   ·exact fr i (by omega)
  | true =>
   refine⟨_,rfl,yw (fun c2=>absurd c2 zCM) (fun c2=>?_)⟩
   exact⟨_,rfl,q p hp fr fun _=>ht rfl⟩
 ·refine⟨_,rfl,q p hp fr fun h=>absurd (decide_eq_true (by omega)) c⟩
theorem zaj {d:Nat}(T:Txt P w K mg a)(Vu:zA P w K mg base zW k a.Zt a.Zu ["table", "marks"] zdz)(u9:zA P w K mg base zW k a.Xb a.Xc ["table", "place", "value", "marks"] R3)
  (Yq:zA P w K mg base zW k a.vC a.vD ["self", "table"] (Sy a.zy d)):zA P w K mg base zW (k+1) a.vC a.vD ["self", "table"] (Sy a.zy (d+1)):=by
 refine T.Qp.ok ug (fun vs H Q E h=>?_) (fun cdv A outer s H vs Q E hr h=>?_)
 ·obtain⟨b,os,rs,F,t,u,f,rfl,_⟩:=h
  rfl
 obtain⟨b,os,rs,F,t,u,f,rfl,hB,hlen,hu,hd,tb,fr,q⟩:=h
 refine⟨_,(zf (yP (zru (zmE (zgc hr) (pv 1) (VJ (pv 0) rfl))) (zf (zF (i:=2) ug.nd rfl (Or.inl rfl) (zH zG rfl T.xu yr (za (VJ (pv 0) rfl) zc)))
   (zf (zF (i:=3) ug.nd rfl (Or.inl rfl) (zx Vu hr rfl T.Ji T.Rx.2 T.Jh .nil zB (za (pv 1) (za (pv 2) zc))))
   (zf (zF (i:=4) ug.nd rfl (Or.inl rfl) (uQ (pv 0) T.yu T.Yn Yq hr T.Ym .nil zB (za (zx u9 hr rfl T.W2 T.Xj.2 T.W0 .nil zB (za (pv 1) (za (pv 3) (za zu (za (pv 2) zc))))) zc)))
   (zf (zF (i:=5) ug.nd rfl (Or.inl rfl) (uQ (pv 0) T.yu T.Yn Yq hr T.Ym .nil zB (za (zx u9 hr rfl T.W2 T.Xj.2 T.W0 .nil zB (za (pv 1) (za (pv 3) (za zu (za (pv 2) zc))))) zc)))
   (zf (zlK (zgc hr) (VJ (pv 0) rfl) (pv 1) (zH zG rfl T.xu yr (za (VJ (pv 0) rfl) zc)) rfl)
   (zf (yE (vG PySem.F.plainAttrs_list PySem.F.slot_list_append PySem.F.type_list_append wB (VJ (pv 0) rfl) (za (yZ (za (pv 3) (za (pv 4) (za (pv 5) zc)))) zc)))
   (zp (yE (vG PySem.F.plainAttrs_list PySem.F.slot_list_append PySem.F.type_list_append wB (VJ (pv 0) rfl) (za (pv 1) zc)))))))))) z8)
   (zp (zK (zg8 (zgc hr) (VJ (pv 0) rfl) (pv 1) (fun _ _=>rfl))))),?_⟩
 have hB0:=hB
 obtain⟨dx,ml,rl,tl,nd,rv,ts,kvs,h⟩:=hB
 have n8:os.length<=8:=h.ord.le
 have hml:(os.map V.str).length=os.length:=zCI _
 have pw:2^(d+1)=2^d+2^d:=by rw[Nat.pow_succ];omega
 have pd:1<=2^d:=Nat.one_le_two_pow
 have pn:2^os.length<=256:=Zk.zjY n8
 refine⟨_,rfl,_,rfl,b,a.zy,dx,_,_,rfl,h.hb,T.yu,T.xJ,rfl,nd,_,rfl,zdb.k (k:=.inl (t:Int)) h.hd,?_⟩
 by_cases hm:t∈ts
 ·obtain⟨j,hj,ej⟩:=zDr hm
  have ej':ts[j]?=some t:=by rw[zCJ hj,ej]
  have ev:=h.nums.get j t ej'
  have z:=zdb.k (k:=.inl (t:Int)) h.hd
  rw[ev] at z
  rw[ev]
  refine⟨_,rfl,YX ?_⟩
  refine⟨_,rfl,b,a.zy,dx,_,_,rfl,h.hb,T.yu,T.xJ,rfl,_,rfl,nd,_,rfl,z,?_⟩
  refine q j rs H (fun x o e _=>e) (fun _ _ e=>e) hB0 (.refl _) (by rw[<-h.tabs.len];exact hj) (h.tabs.find h.bk ej' tb) (by omega) (fun j h1 h2=>by omega) (zDj _ _)
 ·have ev:=h.nums.non t hm
  rw[ev]
  refine⟨_,rfl,zbs ?_⟩
  refine⟨_,rfl,b,a.zy,dx,_,_,rfl,h.hb,T.yu,T.wz,rfl,ml,_,rfl,.inl (zM.of h.hm),?_⟩
  rw[hml]
  refine⟨_,rfl,_,rfl,t,os.length,f,rfl,n8,tb,fun p hp0 frp dep=>?_⟩
  have hp:p<os.length:=by
   refine Nat.lt_of_le_of_ne hp0 fun e=>hm ?_
   subst e
   have cs:=wK.zfs frp
   have two:=wK.len2 h.bk
   cases hf:f 0 with
   | false=>exact zCN (h.tabs.same (j:=0) (by omega) tb fun r=>by rw[cs _ (wK.wu _ _),hf];rfl)
   | true=>exact zCN (h.tabs.same (j:=1) (by omega) tb fun r=>by rw[cs _ (wK.wu _ _),hf];exact wK.LR h.bk r)
  have hup:u<=p:=by
   refine Nat.le_of_not_lt fun hlt=>?_
   obtain⟨c,hc,hne⟩:=dep hp
   exact hne (by rw[fr p hlt c hc,fr p hlt c hc])
  have fre:∀(v:Bool) i,i<p+1->wK.Free os.length (fun c=>f (zO c p v)) i:=fun v i hi c hc v'=>by
   show f (zO (zO c i v') p v)=f (zO c p v)
   by_cases e:i=p
   ·subst e
    congr 1
    refine wK.QJ (xg (xg hc hp) hp) (xg hc hp) fun j _=>?_
    rw[zV,zV,zV]
    by_cases e:j=i
    ·rw[if_pos e,if_pos e]
    ·rw[if_neg e,if_neg e,if_neg e]
   ·rw[<-frp i (by omega) _ (xg (v:=v) hc hp) v']
    congr 1
    refine wK.QJ (xg (xg hc (by omega)) hp) (xg (xg hc hp) (by omega)) fun j _=>?_
    rw[zV,zV,zV,zV]
    by_cases e1:j=p
    ·rw[if_pos e1,if_pos e1,if_neg (by omega)]
    ·rw[if_neg e1,if_neg e1]
  refine⟨_,rfl,b,dx,_,rfl,h.hb,rfl,_,rfl,_,rfl,_,rfl,t,p,os.length,false,f,rfl,hp,n8,tb,fun R0 tr0=>?_⟩
  refine⟨b,os,rs,F,R0,p+1,_,rfl,hB0,by omega,hp,by omega,tr0,fre false,fun k0 rs1 H1 aw1 tu1 JF gr1 lt1 y1 ln1 lv1 hh1=>?_⟩
  have hB1':=JF
  obtain⟨dx1,ml1,rl1,tl1,nd1,rv1,ts1,zAR,h1⟩:=JF
  refine⟨_,rfl,b,dx1,_,rfl,h1.hb,rfl,_,rfl,_,rfl,_,rfl,t,p,os.length,true,f,rfl,hp,n8,tb,fun R1 tr1=>?_⟩
  refine⟨b,os,rs1,F,R1,p+1,_,rfl,hB1',by omega,hp,by omega,tr1,fre true,fun k1 rs2 H2 aw2 tu2 hB2 gr2 lt2 y2 ln2 lv2 hh2=>?_⟩
  obtain⟨dx2,ml2,rl2,tl2,nd2,rv2,ts2,ztM,h2⟩:=hB2
  have lt1':k0<rs2.length:=zCR lt1 gr2.len
  have y1':∀r,wK.yes rs2 k0 r=f (zO (wK.bits r os.length) p false):=fun r=>by rw[gr2.yes h1.bk lt1];exact y1 r
  have g02:=gr1.trans gr2
  have lrs:=g02.len
  have lvs:∀j,rs.length<=j->j<rs2.length->p<wK.Jb os.length rs2 j:=fun j a1 a2=>by
   by_cases hj:j<rs1.length
   ·rw[gr2.Jb hj];exact lv1 j a1 hj
   ·exact lv2 j (by omega) a2
  have old:∀j,j<rs.length->¬∀r,wK.yes rs2 j r=f (wK.bits r os.length):=fun j hj hy=>hm (zCN (h.tabs.same hj tb fun r=>by rw[<-g02.yes h.bk hj];exact hy r))
  obtain⟨B',yn⟩:=wK.zog h2.bk hp lt1' lt2 y1' y2 frp (dep hp) old lvs
  have hn2:t∉ts2:=fun hm2=>by
   obtain⟨j,hj,ej⟩:=zDr hm2
   have ej':ts2[j]?=some t:=by rw[zCJ hj,ej]
   have hjr:j<rs2.length:=by rw[<-h2.tabs.len];exact hj
   have hy:=h2.tabs.find h2.bk ej' tb
   by_cases hjo:j<rs.length
   ·exact old j hjo hy
   ·obtain⟨c,hc,hne⟩:=dep hp
    have lv:=lvs j (by omega) hjr
    refine hne ?_
    have a1:=hy (wK.put (wK.QG c) p false)
    have a2:=hy (wK.put (wK.QG c) p true)
    rw[wK.Xn h2.bk hjr lv,wK.ziu hp,wK.Ka hc] at a1 a2
    exact a1.symm.trans a2
  have l2:=h2.len
  have s2:rs2.length<sizeLine:=zCR (show rs2.length<9000001 by omega) (by decide)
  refine⟨_,rfl,b,a.zy,dx2,_,_,rfl,h2.hb,T.yu,T.wR,rfl,rl2,_,rfl,.inl (zM.of h2.hr),?_⟩
  rw[l2]
  refine⟨_,rfl,b,a.zy,dx2,_,_,rfl,h2.hb,T.yu,T.xJ,rfl,_,rfl,nd2,_,rfl,zmB.k (k:=.inl (t:Int)) h2.hd (by have:=h2.nums.len;have:=h2.tabs.len;omega),?_⟩
  have nb:nd2≠b:=NQ h2.hd h2.hb (by intro z;cases z)
  have nm:nd2≠ml2:=NQ h2.hd h2.hm (by intro z;cases z)
  have nr:nd2≠rl2:=NQ h2.hd h2.hr (by intro z;cases z)
  have nt:nd2≠tl2:=NQ h2.hd h2.ht (by intro z;cases z)
  have br:b≠rl2:=NQ h2.hb h2.hr (by intro z;cases z)
  have bt:b≠tl2:=NQ h2.hb h2.ht (by intro z;cases z)
  generalize hO3:HO.dK (putK ztM (Sum.inl (t:Int)) (V.int (rs2.length:Nat)))=o3
  have b3:upd H2 nd2 o3 b=some (.ins a.zy dx2 (zbz ml2 rl2 tl2 nd2)):=by rw[zJ (Ne.symm nb)];exact h2.hb
  have r3:upd H2 nd2 o3 rl2=some (.lst rv2):=by rw[zJ (Ne.symm nr)];exact h2.hr
  refine⟨_,rfl,b,a.zy,dx2,_,_,rfl,b3,T.yu,T.wR,rfl,.inl ⟨rfl,_,zM.of r3⟩,?_⟩
  refine⟨_,rfl,_,rfl,_,rfl,by show 3<=sizeLine;decide,fun q4 hq4=>?_⟩
  generalize hO4:HO.tup [V.int (p:Nat),V.int (k0:Nat),V.int (k1:Nat)]=o4
  have r4:upd (upd H2 nd2 o3) q4 o4 rl2=some (.lst rv2):=by rw[zJ (zE r3 hq4)];exact r3
  refine⟨rl2,_,_,rfl,rfl,r4,by rw[l2];exact s2,?_⟩
  have b4:upd (upd H2 nd2 o3) q4 o4 b=some (.ins a.zy dx2 (zbz ml2 rl2 tl2 nd2)):=by rw[zJ (zE b3 hq4)];exact b3
  have t3:upd H2 nd2 o3 tl2=some (.lst (ts2.map fun t=>V.int (t:Nat))):=by rw[zJ (Ne.symm nt)];exact h2.ht
  have t4:upd (upd H2 nd2 o3) q4 o4 tl2=some (.lst (ts2.map fun t=>V.int (t:Nat))):=by rw[zJ (zE t3 hq4)];exact t3
  have m3:upd H2 nd2 o3 ml2=some (.lst (os.map V.str)):=by rw[zJ (Ne.symm nm)];exact h2.hm
  have m4:upd (upd H2 nd2 o3) q4 o4 ml2=some (.lst (os.map V.str)):=by rw[zJ (zE m3 hq4)];exact m3
  have n3:upd H2 nd2 o3 nd2=some o3:=zj
  have n4:upd (upd H2 nd2 o3) q4 o4 nd2=some o3:=by rw[zJ (zE n3 hq4)];exact n3
  have qr:q4≠rl2:=Ne.symm (zE r3 hq4)
  have qt:q4≠tl2:=Ne.symm (zE t3 hq4)
  have q4':upd (upd H2 nd2 o3) q4 o4 q4=some o4:=zj
  have tu4:yC H2 (upd (upd H2 nd2 o3) q4 o4):=fun x xs e=>by
   have e3:upd H2 nd2 o3 x=some (.tup xs):=by rw[zJ (NQ e h2.hd (by intro z;cases z))];exact e
   rw[zJ (zE e3 hq4)];exact e3
  have aw4:∀x o,H2 x=some o->¬F x->upd (upd H2 nd2 o3) q4 o4 x=some o:=fun x o e nf=>by
   have e3:upd H2 nd2 o3 x=some o:=by rw[zJ (fun z=>nf ((h2.ft x).mpr (.inr (.inr (.inr (.inr z))))))];exact e
   rw[zJ (zE e3 hq4)];exact e3
  generalize upd (upd H2 nd2 o3) q4 o4=H4 at b4 t4 m4 n4 r4 q4' tu4 aw4
  generalize hO5:HO.lst (rv2++[V.ref q4])=o5
  have b5:upd H4 rl2 o5 b=some (.ins a.zy dx2 (zbz ml2 rl2 tl2 nd2)):=by rw[zJ br];exact b4
  have t5:upd H4 rl2 o5 tl2=some (.lst (ts2.map fun t=>V.int (t:Nat))):=by rw[zJ (Ne.symm h2.rt)];exact t4
  refine⟨_,rfl,b,a.zy,dx2,_,_,rfl,b5,T.yu,T.wY,rfl,.inl ⟨rfl,_,zM.of t5⟩,_,rfl,tl2,_,_,rfl,rfl,t5,by rw[zCI,h2.tabs.len];exact s2,?_⟩
  generalize hO6:HO.lst (ts2.map (fun t=>V.int (t:Nat))++[V.int (t:Nat)])=o6
  have b6:upd (upd H4 rl2 o5) tl2 o6 b=some (.ins a.zy dx2 (zbz ml2 rl2 tl2 nd2)):=by rw[zJ bt];exact b5
  have n6:upd (upd H4 rl2 o5) tl2 o6 nd2=some (.dK (putK ztM (Sum.inl (t:Int)) (V.int (rs2.length:Nat)))):=by rw[zJ nt,zJ nr,n4,hO3]
  have z:=zdb.k (k:=.inl (t:Int)) n6
  rw[wV,if_pos rfl] at z
  refine⟨_,rfl,b,a.zy,dx2,_,_,rfl,b6,T.yu,T.xJ,rfl,_,rfl,nd2,_,rfl,z,?_⟩
  have tu6:yC H4 (upd (upd H4 rl2 o5) tl2 o6):=fun x xs e=>by
   rw[zJ (NQ e t4 (by intro z;cases z)),zJ (NQ e r4 (by intro z;cases z))];exact e
  have parts:=h2.more (H':=upd (upd H4 rl2 o5) tl2 o6) (i:=p) (lo:=k0) (hi:=k1) (t:=t) (q:=q4) (fun x xs e=>tu6 _ _ (tu4 _ _ e)) (b6.trans h2.hb.symm)
   (by rw[zJ h2.mt,zJ h2.mr,m4,h2.hm]) (by rw[zJ h2.rt,zj,hO5]) (by rw[zj,hO6]) n6
   (by rw[zJ qt,zJ qr,q4',hO4]) B' hn2 (vY tb fun c hc=>by rw[yn,wK.Ka hc])
  refine q rs2.length _ _ (fun x o e nf=>?_) (fun x xs e=>tu6 _ _ (tu4 _ _ (tu2 _ _ (tu1 _ _ e)))) ⟨_,_,_,_,_,_,_,_,parts⟩ (g02.trans (wK.tG.snoc _ _)) (by simp) yn (by rw[zCQ,zDg];omega) (fun j a1 a2=>?_) ?_
  ·have e2:=aw2 x o (aw1 x o e nf) nf
   rw[zJ (fun z=>nf ((h2.ft x).mpr (.inr (.inr (.inr (.inl z)))))),zJ (fun z=>nf ((h2.ft x).mpr (.inr (.inr (.inl z)))))]
   exact aw4 x o e2 nf
  ·rw[zCQ,zDg] at a2
   by_cases hj:j<rs2.length
   ·rw[wK.Mj hj]
    have:=lvs j a1 hj
    omega
   ·have:j=rs2.length:=by omega
    subst this
    rw[wK.Mi B' (i:=p) (lo:=k0) (hi:=k1) (by simp)]
    exact hup
  ·rw[wK.zqm]
   have:=wK.zqp (n:=os.length) hup
   omega
theorem Sg (T:Txt P w K mg a)(Vu:zA P w K mg base zW k a.Zt a.Zu ["table", "marks"] zdz)(u9:zA P w K mg base zW k a.Xb a.Xc ["table", "place", "value", "marks"] R3) :
  ∀d:Nat,zA P w K mg base zW (k+d) a.vC a.vD ["self", "table"] (Sy a.zy d)
 | 0=>by
  refine⟨fun vs H Q E h=>?_,fun A outer s H args us vs Q E _ _ _ _ h=>?_⟩
  ·obtain⟨b,os,rs,F,t,u,f,rfl,_⟩:=h
   rfl
  ·obtain⟨b,os,rs,F,t,u,f,_,_,_,hu,hd,_⟩:=h
   omega
 | d+1=>zaj T (Vu.mono (zDj _ _)) (u9.mono (zDj _ _)) (Sg T Vu u9 d)
theorem ze7 (T:Txt P w K mg a)(zal:zA P w K mg base zW k a.Zb a.Zc ["some"] zgj)(zbi:zA P w K mg base zW k a.ZC a.ZD ["order", "sentence"] (zcM K))
  (zah:zA P w K mg base zW k a.WW a.WX ["sentence", "order"] (LK K 24))(Yq:zA P w K mg base zW k a.vC a.vD ["self", "table"] (Sy a.zy 9)) :
  zA P w K mg base zW (k+1) a.Um a.Uo ["self", "sentence"] (ziA a.zy):=by
 refine T.zba.ok zfD (fun vs H Q E h=>?_) (fun cdv A outer s H vs Q E hr h=>?_)
 ·obtain⟨b,p,os,rs,F,sn,rfl,_⟩:=h
  rfl
 obtain⟨b,p,os,rs,F,sn,rfl,hB,hlen,isp,hin,hc,hd,q⟩:=h
 refine⟨_,(zf (yE (zx zal hr rfl T.TX T.Y6.2 T.TV .nil zB (za (pv 1) zc)))
   (zf (yE (zx zbi hr rfl T.Rf T.Wa.2 T.Rb .nil zB (za (VJ (pv 0) rfl) (za (pv 1) zc))))
   (zp (zK (uQ (pv 0) T.yu T.Yn Yq hr T.Ym .nil zB (za (zx zah hr rfl T.zad T.Pq.2 T.zac .nil zB (za (pv 1) (za (VJ (pv 0) rfl) zc))) zc)))))),?_⟩
 have L:=xU a.zy
 have ho:=L.ord hB
 have hlt:sn.Ub Y9:=(Sn.Ud sn).mpr fun x hx=>ho.mem x ((Sn.Ud sn).mp hin x hx)
 refine⟨_,rfl,p,sn,rfl,isp,hlt,hc,hd,fun H1 g1=>?_⟩
 have JF:=L.same hB g1
 obtain⟨dx,ml,rl,tl,nd,rv,ts,kvs,h1⟩:=JF
 refine⟨_,rfl,b,a.zy,dx,_,_,rfl,h1.hb,T.yu,T.wz,rfl,_,rfl,ml,p,os,sn,rfl,zM.of h1.hm,isp.mono (yC.of g1),by omega,hin,fun H2 g2=>?_⟩
 have g12:=g1.trans g2
 have h2:=h1.frame (fun x o e _=>g2 x o e) (yC.of g2)
 refine⟨_,rfl,b,dx,_,rfl,h2.hb,rfl,_,rfl,_,rfl,b,a.zy,dx,_,_,rfl,h2.hb,T.yu,T.wz,rfl,p,ml,sn,os,rfl,isp.mono (yC.of g12),zM.of h2.hm,hin,ho.le,hd,fun N H3 g3 hN=>?_⟩
 have g13:=g12.trans g3
 have hB3:=L.same hB g13
 refine⟨b,os,rs,F,N,0,_,rfl,hB3,by show rs.length+512<=9000000;omega,zC5 _,by have:=ho.le;omega,hN,fun i hi=>absurd hi (Nat.not_lt_zero _),fun j rs' H' aw tu hB' gr lt y ln _ hh=>?_⟩
 refine q j rs' H' (fun x o e nf=>aw x o (g13 _ _ e) nf) (fun x xs e=>tu _ _ (g13 _ _ e)) hB' gr ⟨lt,fun r=>?_⟩ (zC4 hh (Nat.add_le_add_left (wK.zvE ho.le) _))
 rw[y]
 refine Sn.val_congr sn hin fun x hx=>?_
 show(wK.bits r os.length).testBit (ix os x)=r (ix os x)
 exact wK.Vz r (vU hx).2.1
theorem zhU (T:Txt P w K mg a)(zdj:zA P w K mg base zW k a.YJ a.YK ["order"] (zcK K))(vR:zA P w K mg base zW k a.tV a.tW ["marks"] Wt) :
  zA P w K mg base zW (k+1) a.VH a.S8 ["self", "order"] (zeb (yD a.zy) K a.zy):=by
 refine T.zc3.ok zaW (fun vs H Q E h=>?_) (fun cdv A outer s H vs Q E hr h=>?_)
 ·obtain⟨b,dx,l,os,rfl,_⟩:=h
  rfl
 obtain⟨b,dx,l,os,rfl,hb,bd,hl,ho,q⟩:=h
 refine⟨_,(zf (yE (zx zdj hr rfl T.Np T.V1.2 T.Nm .nil zB (za (pv 1) zc)))
   (zf (zF (i:=2) zaW.nd rfl (Or.inl rfl) (zH zG rfl T.xu yr (za (pv 1) zc)))
   (zf (zgS (pv 0) (Wr V9 rfl T.PJ Sw (za (pv 1) zc)) rfl)
   (zf (zgS (pv 0) (xq (za (yZ (za (pv 2) (za zu (za zu zc)))) (za (yZ (za (pv 2) (za zu (za zu zc)))) zc))) rfl)
   (zf (zgS (pv 0) (xq (za zu (za (zx vR hr rfl T.Y5 T.ZR.2 T.Y4 .nil zB (za (pv 2) zc)) zc))) rfl)
   (zp (zgS (pv 0) (zlM (RX zu zu (RX (zx vR hr rfl T.Y5 T.ZR.2 T.Y4 .nil zB (za (pv 2) zc)) zu zlL)) rfl rfl (List.cons_ne_nil _ _) (Nat.le_of_ble_eq_true rfl)) rfl))))))),?_⟩
 have n8:=ho.le
 have hml:(os.map V.str).length=os.length:=zCI _
 refine⟨_,rfl,l,os,rfl,hl,ho,fun H1 g1=>?_⟩
 have hl1:=g1.seq hl
 refine⟨_,rfl,l,_,rfl,.inl hl1,?_⟩
 rw[hml]
 have b1:=g1 _ _ hb
 refine⟨_,rfl,l,_,rfl,.inl hl1,fun ml hm1=>?_⟩
 have bm:b≠ml:=zE b1 hm1
 have b2:upd H1 ml (.lst (os.map V.str)) b=some (.ins a.zy dx []):=by rw[zJ bm];exact b1
 refine⟨_,rfl,b,a.zy,dx,_,rfl,b2,T.yu,T.wz,by decide,?_⟩
 have s2:∀x o,H x=some o->x≠b->upd (upd H1 ml (.lst (os.map V.str))) b (.ins a.zy dx (Wq "marks" (.ref ml) [])) x=some o:=fun x o e nb=>by
  rw[zJ nb,zJ (zE (g1 _ _ e) hm1)];exact g1 _ _ e
 have hm2:upd (upd H1 ml (.lst (os.map V.str))) b (.ins a.zy dx (Wq "marks" (.ref ml) [])) ml=some (.lst (os.map V.str)):=by rw[zJ (Ne.symm bm)];exact zj
 have f2:∀x,upd (upd H1 ml (.lst (os.map V.str))) b (.ins a.zy dx (Wq "marks" (.ref ml) [])) x=none->H x=none:=fun x e=>by
  have nb:x≠b:=fun z=>by rw[z,zj] at e;cases e
  cases hx:H x with
  | none=>rfl
  | some o=>rw[s2 x o hx nb] at e;cases e
 have fm:H ml=none:=g1.free hm1
 have b2':upd (upd H1 ml (.lst (os.map V.str))) b (.ins a.zy dx (Wq "marks" (.ref ml) [])) b=some (.ins a.zy dx (Wq "marks" (.ref ml) [])):=zj
 generalize upd (upd H1 ml (.lst (os.map V.str))) b (.ins a.zy dx (Wq "marks" (.ref ml) []))=H2 at s2 hm2 f2 b2'
 refine⟨_,rfl,by show 3<=sizeLine;decide,fun p0 hp0=>?_⟩
 refine⟨_,rfl,by show 3<=sizeLine;decide,fun p1 hp1=>?_⟩
 refine⟨by show 2<=sizeLine;decide,fun rl hrl=>?_⟩
 have g2:=((Same.new hp0 (.tup [.int (os.length:Nat),.int 0,.int 0])).trans (Same.new hp1 (.tup [.int (os.length:Nat),.int 1,.int 1]))).trans (Same.new hrl (.lst [.ref p0,.ref p1]))
 have hp0':=((Same.new hp1 (.tup [.int (os.length:Nat),.int 1,.int 1])).trans (Same.new hrl (.lst [.ref p0,.ref p1]))) p0 (.tup [.int (os.length:Nat),.int 0,.int 0]) zj
 have hp1':=(Same.new hrl (.lst [.ref p0,.ref p1])) p1 (.tup [.int (os.length:Nat),.int 1,.int 1]) zj
 have hr3:upd (upd (upd H2 p0 (.tup [.int (os.length:Nat),.int 0,.int 0])) p1 (.tup [.int (os.length:Nat),.int 1,.int 1])) rl (.lst [.ref p0,.ref p1]) rl=some (.lst [.ref p0,.ref p1]):=zj
 have frl:H2 rl=none:=((Same.new hp0 _).trans (Same.new hp1 _)).free hrl
 have brl:b≠rl:=zE b2' frl
 have mr:ml≠rl:=zE hm2 frl
 have b0:b≠p0:=zE b2' hp0
 have b1':b≠p1:=zE b2' ((Same.new hp0 _).free hp1)
 generalize upd (upd (upd H2 p0 (.tup [.int (os.length:Nat),.int 0,.int 0])) p1 (.tup [.int (os.length:Nat),.int 1,.int 1])) rl (.lst [.ref p0,.ref p1])=H3 at g2 hp0' hp1' hr3
 refine⟨_,rfl,b,a.zy,dx,_,rfl,g2 _ _ b2',T.yu,T.wR,by show 1<1000;decide,?_⟩
 generalize hfs:Wq "rooms" (V.ref rl) (Wq "marks" (V.ref ml) [])=fs3
 have u3:∀x,x≠b->upd H3 b (.ins a.zy dx fs3) x=H3 x:=fun x nb=>zJ nb
 have b3:upd H3 b (.ins a.zy dx fs3) b=some (.ins a.zy dx fs3):=zj
 generalize upd H3 b (.ins a.zy dx fs3)=H4 at u3 b3
 refine⟨_,rfl,os.length,rfl,n8,by show 2<=sizeLine;decide,fun tl htl=>?_⟩
 have btl:b≠tl:=zE b3 htl
 have g4:=Same.new htl (.lst [.int 0,.int ((2^2^os.length-1:Nat):Int)])
 have ht5:upd H4 tl (.lst [.int 0,.int ((2^2^os.length-1:Nat):Int)]) tl=some (.lst [.int 0,.int ((2^2^os.length-1:Nat):Int)]):=zj
 generalize upd H4 tl (.lst [.int 0,.int ((2^2^os.length-1:Nat):Int)])=H5 at g4 ht5
 refine⟨_,rfl,b,a.zy,dx,_,rfl,g4 _ _ b3,T.yu,T.wY,by rw[<-hfs];show 2<1000;decide,?_⟩
 generalize ztP:Wq "tables" (V.ref tl) fs3=fs4
 have u5:∀x,x≠b->upd H5 b (.ins a.zy dx fs4) x=H5 x:=fun x nb=>zJ nb
 have b5:upd H5 b (.ins a.zy dx fs4) b=some (.ins a.zy dx fs4):=zj
 generalize upd H5 b (.ins a.zy dx fs4)=H6 at u5 b5
 refine fun nd hnd=>?_
 have bnd:b≠nd:=zE b5 hnd
 have g6:=Same.new hnd (.dK [])
 refine⟨_,rfl,os.length,rfl,n8,zj,[(Sum.inl 0,.int 0),(Sum.inl ((2^2^os.length-1:Nat):Int),.int 1)],rfl,(by show 2<=15;decide),?_⟩
 rw[zlk]
 have g7:=Same.new hnd (.dK (vI [] [(Sum.inl 0,.int 0),(Sum.inl ((2^2^os.length-1:Nat):Int),.int 1)]))
 have hn7:upd H6 nd (.dK (vI [] [(Sum.inl 0,.int 0),(Sum.inl ((2^2^os.length-1:Nat):Int),.int 1)])) nd=some (.dK (vI [] [(Sum.inl 0,.int 0),(Sum.inl ((2^2^os.length-1:Nat):Int),.int 1)])):=zj
 generalize upd H6 nd (.dK (vI [] [(Sum.inl 0,.int 0),(Sum.inl ((2^2^os.length-1:Nat):Int),.int 1)]))=H7 at g7 hn7
 refine⟨_,rfl,b,a.zy,dx,_,rfl,g7 _ _ b5,T.yu,T.xJ,by rw[<-ztP,<-hfs];show 3<1000;decide,?_⟩
 have big:2^2^os.length-1≠0:=by
  have:2^1<=2^2^os.length:=zDe (by decide) Nat.one_le_two_pow
  omega
 have to7:∀x o,H3 x=some o->x≠b->upd H7 b (.ins a.zy dx (Wq "numbers" (.ref nd) fs4)) x=some o:=fun x o e nb=>by
  rw[zJ nb]
  refine g7 _ _ ?_
  rw[u5 x nb]
  refine g4 _ _ ?_
  rw[u3 x nb]
  exact e
 have tl6:H6 tl=some (.lst [.int 0,.int ((2^2^os.length-1:Nat):Int)]):=by rw[u5 tl (Ne.symm btl)];exact ht5
 have efs:Wq "numbers" (.ref nd) fs4=zbz ml rl tl nd:=by rw[<-ztP,<-hfs];rfl
 have up:∀x o,H3 x=some o->x≠b->H4 x=some o:=fun x o e nb=>by rw[u3 x nb];exact e
 have mt:ml≠tl:=zE (up _ _ (g2 _ _ hm2) (Ne.symm bm)) htl
 have rt:rl≠tl:=zE (up _ _ hr3 (Ne.symm brl)) htl
 have fr4:∀x,H4 x=none->H x=none:=fun x e=>f2 x (by
  cases hx:H2 x with
  | none=>rfl
  | some o =>
   by_cases nb:x=b
   ·rw[nb,b3] at e;cases e
   ·rw[up x o (g2 _ _ hx) nb] at e;cases e)
 have fr6:∀x,H6 x=none->H x=none:=fun x e=>by
  have nb:x≠b:=fun z=>by rw[z,b5] at e;cases e
  rw[u5 x nb] at e
  exact fr4 x (g4.free e)
 have two:∀{j:Nat},j<2->j=0\/j=1:=fun h=>by omega
 have bk0:wK.Bk os.length [none,none]:=⟨rfl,rfl,fun k h1 h2=>by simp at h2;omega,fun i j x e _=>by
  have:=(zCL.mp e).1
  rcases two (by simpa using this) with z | z<;>subst z<;>cases e⟩
 refine q _ (fun x=>x=b\/x=ml\/x=rl\/x=tl\/x=nd) (fun x o e nb=>to7 x o (g2 _ _ (s2 x o e nb)) nb) ⟨dx,ml,rl,tl,nd,[.ref p0,.ref p1],[0,2^2^os.length-1],vI [] [(Sum.inl 0,.int 0),(Sum.inl ((2^2^os.length-1:Nat):Int),.int 1)],?_⟩ (fun x hx=>?_)
 ·refine { hb:=by rw[zj,efs],hm:=to7 _ _ (g2 _ _ hm2) (Ne.symm bm),hr:=to7 _ _ hr3 (Ne.symm brl),ht:=by rw[zJ (Ne.symm btl)];exact g7 _ _ tl6,hd:=by rw[zJ (Ne.symm bnd)];exact hn7,mr:=mr,mt:=mt,rt:=rt,ord:=ho,bk:=bk0,len:=rfl,rm:=?_,tabs:=?_,nums:=?_,ft:=fun x=>Iff.rfl }
  ·intro j x e
   have:=(zCL.mp e).1
   rcases two (by simpa using this) with z | z<;>subst z<;>cases e
   ·exact⟨p0,rfl,to7 _ _ hp0' (Ne.symm b0)⟩
   ·exact⟨p1,rfl,to7 _ _ hp1' (Ne.symm b1')⟩
  ·refine⟨rfl,fun j t e=>?_⟩
   have:=(zCL.mp e).1
   rcases two (by simpa using this) with z | z<;>subst z<;>cases e
   ·exact vY (zaw _) fun b _=>rfl
   ·exact vY (zav _) fun b _=>(wK.LR bk0 _).symm
  ·have z0:Nums [] []:=⟨fun j t e=>by simp at e,fun t _=>rfl,zCY _⟩
   have z1:=z0.snoc (t:=0) (by simp)
   exact z1.snoc (t:=2^2^os.length-1) (fun hm=>by simp at hm;omega)
 ·rcases hx with z | z | z | z | z<;>subst z
  ·exact .inl rfl
  ·exact .inr (.inr fm)
  ·exact .inr (.inr (f2 _ frl))
  ·exact .inr (.inr (fr4 _ htl))
  ·exact .inr (.inr (fr6 _ hnd))
theorem znm (T:Txt P w K mg a):zA P w K mg base zW (k+1) a.yJ a.yK ["script", "k"] (Kc K):=by
 refine T.yL.ok Qc (fun vs H Q E h=>?_) (fun cdv A outer s H vs Q E hr h=>?_)
 ·obtain⟨l,ns,i,rfl,_⟩:=h
  rfl
 obtain⟨l,ns,i,rfl,hS,q⟩:=h
 refine⟨_,(zf (yP (zP zlq (pv 1) (zH zG rfl T.xu yr (za (pv 0) zc)) (zY _)) (zp (zK (yj yV (pv 0) (pv 1) (fun _ _=>rfl)))) z8)
   (zp (zK zu))),?_⟩
 refine⟨_,rfl,_,rfl,l,_,rfl,.inl hS,_,_,rfl,rfl,_,rfl,?_⟩
 refine yw (fun c=>?_) (fun c=>?_)
 ·have c':(i:Int)<(((ns.map V.int).length:Nat):Int):=of_decide_eq_true c
  rw[zCI] at c'
  have hi:i<ns.length:=by omega
  have ec:uP ns i=ns[i]:=by unfold uP;rw[zCJ hi];rfl
  rw[ec] at q
  exact⟨_,rfl,_,rfl,l,_,i,_,rfl,rfl,hS,wk (by rw[zCK,zCJ hi];rfl),q⟩
 ·have hi:ns.length<=i:=by
   refine Nat.le_of_not_lt fun hlt=>c (decide_eq_true ?_)
   rw[zCI];omega
  have ec:uP ns i=0:=by unfold uP;rw[zDi hi];rfl
  rw[ec] at q
  exact q
theorem Lk (T:Txt P w K mg a):zA P w K mg base zW (k+1) a.xO a.xP ["self", "number"] (Tc a.zy):=by
 refine T.V5.ok MJ (fun vs H Q E h=>?_) (fun cdv A outer s H vs Q E hr h=>?_)
 ·obtain⟨b,os,rs,F,j,rfl,_⟩:=h
  rfl
 obtain⟨b,os,rs,F,j,rfl,⟨dx,ml,rl,tl,nd,rv,ts,kvs,h⟩,hk,q⟩:=h
 refine⟨_,(zp (yP (PW.pt (Nb (zP zlq (pv 1) zu (zY _)) (Rh (zP zq0 (pv 1) (zH zG rfl T.xu yr (za (VJ (pv 0) rfl) zc)) (zY _))))) (zp U5) z8)),?_⟩
 have hl:=h.len
 refine⟨_,rfl,_,_,rfl,rfl,_,rfl,yw (fun c=>absurd (of_decide_eq_true c) (by omega)) (fun _=>?_)⟩
 refine⟨_,rfl,_,rfl,b,a.zy,dx,_,_,rfl,h.hb,T.yu,T.wR,rfl,rl,_,rfl,.inl (zM.of h.hr),_,_,rfl,rfl,_,rfl,yw (fun c=>absurd (of_decide_eq_true c) (by omega)) (fun _=>?_)⟩
 exact q
theorem zcw (T:Txt P w K mg a):zA P w K mg base zW (k+1) a.yR a.yS ["self", "number"] (Z5 a.zy):=by
 refine T.Nt.ok zbO (fun vs H Q E h=>?_) (fun cdv A outer s H vs Q E hr h=>?_)
 ·obtain⟨b,os,rs,F,j,rfl,_⟩:=h
  rfl
 obtain⟨b,os,rs,F,j,rfl,⟨dx,ml,rl,tl,nd,rv,ts,kvs,h⟩,hk,q⟩:=h
 refine⟨_,(zp (zK (yj yV (VJ (pv 0) rfl) (pv 1) (fun _ _=>rfl)))),?_⟩
 have ht:j<ts.length:=by rw[h.tabs.len];exact hk
 have ex:=zCJ ht
 refine⟨_,rfl,b,a.zy,dx,_,_,rfl,h.hb,T.yu,T.wY,rfl,_,rfl,tl,_,_,.int (ts[j]:Nat),rfl,rfl,zM.of h.ht,wk (by rw[zCK,ex];rfl),?_⟩
 exact q _ (h.tabs.tab j _ ex)
theorem zfJ (T:Txt P w K mg a):zA P w K mg base zW (k+1) a.yF a.yG ["self"] (xQ (yD a.zy)):=by
 refine T.za9.ok zfC (fun vs H Q E h=>?_) (fun cdv A outer s H vs Q E hr h=>?_)
 ·obtain⟨b,os,rs,F,rfl,_⟩:=h
  rfl
 obtain⟨b,os,rs,F,rfl,⟨dx,ml,rl,tl,nd,rv,ts,kvs,h⟩,q⟩:=h
 refine⟨_,(zp (zK (Wr V9 rfl T.PJ Sw (za (VJ (pv 0) rfl) zc)))),?_⟩
 exact⟨_,rfl,b,a.zy,dx,_,_,rfl,h.hb,T.yu,T.wz,rfl,ml,_,rfl,.inl (zM.of h.hm),fun l hl=>q l _ (Same.new hl _) hl zj⟩
theorem zk9 (T:Txt P w K mg a):zA P w K mg base zW (k+1) a.Xd a.Xe ["table", "other"] Uy:=by
 refine T.Qk.ok zko (fun vs H Q E h=>?_) (fun cdv A outer s H vs Q E hr h=>?_)
 ·obtain⟨N,M,n,f,g,rfl,_⟩:=h
  rfl
 obtain⟨N,M,n,f,g,rfl,tb,tg,q⟩:=h
 refine⟨_,(zp (zK (zQ Ly (pv 0) (zQ Zz (pv 0) (pv 1))))),?_⟩
 refine⟨_,rfl,_,rfl,_,rfl,N,M,rfl,rfl,N,N&&&M,rfl,rfl,q _ (vY (Zk.Qz tb (Zk.Uc tb tg)) fun b _=>?_)⟩
 show(f b != (f b&&g b))=(f b&&!g b)
 cases f b<;>cases g b<;>rfl
theorem znn (T:Txt P w K mg a)(Qt:zA P w K mg base zW k a.Xd a.Xe ["table", "other"] Uy):zA P w K mg base zW (k+1) a.zaX a.zaY ["where", "low", "high"] ziw:=by
 refine T.zeH.ok zmU (fun vs H Q E h=>?_) (fun cdv A outer s H vs Q E hr h=>?_)
 ·obtain⟨W,L,M,n,f,g,h,rfl,_⟩:=h
  rfl
 obtain⟨W,L,M,n,f,g,h,rfl,tf,tg,th,q⟩:=h
 refine⟨_,(zp (zK (zQ QB (zQ Zz (pv 2) (pv 0)) (zx Qt hr rfl T.Ko T.Qk.2 T.Km .nil zB (za (pv 1) (za (pv 0) zc)))))),?_⟩
 refine⟨_,rfl,_,rfl,M,W,rfl,rfl,_,rfl,_,rfl,L,W,n,g,f,rfl,tg,tf,fun R tr=>?_⟩
 refine⟨M&&&W,R,rfl,rfl,q _ (vY (Zk.JM (Zk.Uc th tf) tr) fun b _=>?_)⟩
 show((h b&&f b)||(g b&&!f b))=if f b then h b else g b
 cases f b<;>simp
theorem zno (T:Txt P w K mg a):zA P w K mg base zW (k+1) a.Qd a.Qe ["order", "row"] (zdx K):=by
 refine T.zeK.ok zmV (fun vs H Q E h=>?_) (fun cdv A outer s H vs Q E hr h=>?_)
 ·obtain⟨l,r,xs,ns,rfl,_⟩:=h
  rfl
 obtain⟨l,r,xs,ns,rfl,hl,hq,hz,q⟩:=h
 refine⟨_,(zp (zK (zdL (tO wZ (zH zG rfl T.xu yr (za (pv 1) zc)) (zH zG rfl T.xu yr (za (pv 0) zc)) (zY _)) (zgQ (zH (ZJ rfl) rfl T.Nx U8 (za (tQ (Zj:=zq Mw) (js:=[]) rfl (by show ZG (zq Mw) _ "value" [];exact⟨rfl,by decide +kernel,by decide +kernel,rfl,by decide +kernel,by decide +kernel,by decide +kernel⟩) rfl (yU (pv 1)) (by show ∀j∈([]:List Nat),j<2;decide) (fun cl C s₂ H₂ fp=>(tO (JR (K:=K) rfl) (pv 0) (yZ (za zu (za zu zc))) (by with_unfolding_all rfl)))) zc)))))),?_⟩
 have hlen:(ns.map V.int).length=ns.length:=zCI _
 refine⟨_,rfl,r,_,rfl,.inl hq,_,rfl,l,_,rfl,.inl hl,rfl,_,rfl,yw (fun c=>?_) (fun c=>?_)⟩
 ·have c':ns.length=xs.length:=by
   have:=of_decide_eq_true c
   injection this with this
   rw[hlen] at this;omega
  refine⟨_,rfl,r,rfl,⟨_,hq⟩,zdw (fun x v=>v=(match x with | .int i=>.bl (i==0||i==1) | _=>.non)) hq (by rw[hlen];exact zC1 (zN hz)) ?_ ?_ ?_⟩
  ·intro i x H' hx g
   rw[zCK] at hx
   cases ho:ns[i]? with
   | none=>rw[ho] at hx;cases hx
   | some y =>
    rw[ho] at hx
    cases hx
    refine⟨_,rfl,by show 2<=sizeLine;decide,fun p hp=>⟨p,_,rfl,.inr (vW.of zj),rfl,rfl,?_,g.trans (Same.new hp _)⟩⟩
    show V.bl ((0==y)||((1==y)||false))=V.bl (y==0||y==1)
    have e0:((0:Int)==y)=(y==0):=by rw[zDp];simp;exact eq_comm
    have e1:((1:Int)==y)=(y==1):=by rw[zDp];simp;exact eq_comm
    rw[e0,e1,Bool.or_false]
  ·rintro σ' H' Q1 Q2 hQ ⟨v,e,z,h2⟩
   exact⟨v,e,z,fun p hp=>let ⟨a1,a2,a3,a4,a5,a6,a7⟩:=h2 p hp;⟨a1,a2,a3,a4,a5,a6,hQ _ _ a7⟩⟩
  ·intro ys H' p hr' g hp
   have e:=JQ (f:=fun x=>match x with | .int i=>.bl (i==0||i==1) | _=>.non) hr'
   have e2:ys=(ns.map fun i=>(i==0||i==1)).map V.bl:=by rw[e,zDk,zDk];rfl
   subst e2
   refine⟨p,_,rfl,zM.of zj,?_⟩
   have e4:(ns.map fun i=>(i==0||i==1)).all id=zil xs.length ns:=by
    unfold zil
    rw[decide_eq_true c',Bool.true_and,List.all_map]
    rfl
   rw[e4]
   exact q _ (g.trans (Same.new hp _))
 ·have e4:zil xs.length ns=false:=by
   unfold zil
   rw[decide_eq_false (fun z=>c (decide_eq_true (by rw[hlen,z]))),Bool.false_and]
  rw[<-e4]
  exact q _ (Same.refl _)
theorem ze8 (T:Txt P w K mg a)(zpb:zA P w K mg base zW k a.Qd a.Qe ["order", "row"] (zdx K)):zA P w K mg base zW (k+1) a.Vh a.Vi ["order", "row"] (zgk K):=by
 refine T.RD.ok zeB (fun vs H Q E h=>?_) (fun cdv A outer s H vs Q E hr h=>?_)
 ·obtain⟨l,r,xs,ns,rfl,_⟩:=h
  rfl
 obtain⟨l,r,xs,ns,rfl,h1,h2,h3,h4,q⟩:=h
 refine⟨_,(zp (yP (Xk (vg (zx zpb hr rfl T.zi6 T.zeK.2 T.zi5 .nil zB (za (pv 0) (za (pv 1) zc))) (fun _=>rfl))) (zp U5) z8)),?_⟩
 refine⟨_,rfl,_,rfl,l,r,xs,ns,rfl,h1,h2,h3,fun H' g=>⟨_,rfl,?_⟩⟩
 rw[h4]
 exact YX (q H' g)
theorem zpc (T:Txt P w K mg a):zA P w K mg base zW (k+1) a.Zv a.Zw ["found"] zdv:=by
 refine T.RJ.ok zeE (fun vs H Q E h=>?_) (fun cdv A outer s H vs Q E hr h=>?_)
 ·obtain⟨i,rfl,_⟩:=h
  rfl
 obtain⟨i,rfl,q⟩:=h
 refine⟨_,(zp (zK (zdL (zH Y8 rfl T.uz uE (za (pv 0) (za (Qw (v:=.ty "int") rfl T.zmc zjV rfl) zc))) (zgQ (zrv (zH Y8 rfl T.uz uE (za (pv 0) (za (Qw (v:=.ty "bool") rfl T.zoT zpY rfl) zc)))))))),?_⟩
 refine⟨_,rfl,_,_,_,true,rfl,.int i,rfl,true,rfl,zbs ?_⟩
 exact⟨_,rfl,_,_,_,false,rfl,.int i,rfl,false,rfl,q⟩
theorem zhV (T:Txt P w K mg a)(zfK:zA P w K mg base zW k a.Zv a.Zw ["found"] zdv):zA P w K mg base zW (k+1) a.YQ a.YS ["found", "due"] (zed K):=by
 refine T.V3.ok zbP (fun vs H Q E h=>?_) (fun cdv A outer s H vs Q E hr h=>?_)
 ·obtain⟨p,q,ns,rfl,_⟩:=h
  rfl
 obtain⟨p,p2,ns,rfl,hp,hq,h9,q⟩:=h
 refine⟨_,(zf (yP (PW.pt (Nb (Xk (vg (zH Y8 rfl T.uz uE (za (pv 0) (za (Qw (v:=.ty "list") rfl T.PJ Sw rfl) zc))) (fun _=>rfl))) (Rh (zP K9 (zH zG rfl T.xu yr (za (pv 0) zc)) (zH zG rfl T.xu yr (za (pv 1) zc)) (zY _))))) (zp (zK Yw)) z8)
   (zp (zK (zdL (zH (ZJ rfl) rfl T.Nx U8 (za (tQ (Zj:=zq Zn) (js:=[]) rfl (by show ZG (zq Zn) _ "number" [];exact⟨rfl,by decide +kernel,by decide +kernel,rfl,by decide +kernel,by decide +kernel,by decide +kernel⟩) rfl (yU (pv 0)) (by show ∀j∈([]:List Nat),j<2;decide) (fun cl C s₂ H₂ fp=>(zx zfK hr rfl T.Jt T.RJ.2 T.Js .nil zB (za (pv 0) zc)))) zc)) (zgQ (tO (zj3 rfl (hu8 hr)) (pv 0) (pv 1) (zY _))))))),?_⟩
 refine⟨_,rfl,_,_,_,true,rfl,.lst hp,rfl,_,rfl,?_⟩
 refine yw (fun z=>by cases z) (fun _=>?_)
 refine⟨_,rfl,p,_,rfl,.inl (zM.of hp),?_⟩
 refine⟨_,rfl,p2,_,rfl,.inl hq,rfl,_,rfl,zs6 rfl ?_⟩
 have hz:(ns.map V.int).length<=sizeLine:=by rw[zCI];exact zC1 (zN h9)
 refine⟨_,rfl,p,rfl,⟨_,zM.of hp⟩,zha (fun i v=>v=.bl true) (zM.of hp) hz ?_ ?_ ?_⟩
 ·intro j x H' hx g
  rw[zCK] at hx
  cases hj:ns[j]? with
  | none=>rw[hj] at hx;cases hx
  | some n=>rw[hj] at hx;cases hx;exact⟨_,rfl,_,rfl,rfl,g⟩
 ·rintro σ' H' Q1 Q2 hQ ⟨v,e,i',z1,z2⟩
  exact⟨v,e,i',z1,hQ _ _ z2⟩
 ·intro us H5 p5 hul hu g5 hp5
  have eu:us=(List.replicate us.length true).map V.bl:=by
   rw[List.map_replicate]
   exact List.eq_replicate_iff.mpr ⟨rfl,fun b hb=>by
    obtain⟨j,hj⟩:=List.getElem?_of_mem hb
    exact hu j b hj⟩
  have g6:=g5.trans (Same.new hp5 (.lst us))
  refine⟨p5,List.replicate us.length true,rfl,zM.of (by rw[zj,<-eu]),?_⟩
  generalize upd H5 p5 (.lst us)=H6 at g6
  have ea:(List.replicate us.length true).all id=true:=by simp
  rw[ea]
  refine⟨true,rfl,zbs ?_⟩
  refine⟨_,rfl,_,rfl,true,(fun z=>by cases z.1),ztw (zM.of (g6 _ _ hp)) (g6.seq hq) rfl fun j x y hx hy=>?_,q _ g6⟩
  rw[hx] at hy
  cases hy
  refine zqd ?_
  rw[zCK] at hx
  cases hj:ns[j]? with
  | none=>rw[hj] at hx;cases hx
  | some n=>rw[hj] at hx;cases hx;rfl
theorem zla (T:Txt P w K mg a)(u6:zA P w K mg base zW k a.Z8 a.Z9 ["table", "place", "marks"] Wu):zA P w K mg base zW (k+1) a.UJ a.UL ["table", "places", "marks"] (zaF K):=by
 refine T.Kq.ok J8 (fun vs H Q E h=>?_) (fun cdv A outer s H vs Q E hr h=>?_)
 ·obtain⟨N,n,f,l,ps,rfl,_⟩:=h
  rfl
 obtain⟨N,n,f,l,ps,rfl,n8,tf,hl,hp,q⟩:=h
 refine⟨_,(zf (wL PassesOwn.never rfl (yU (pv 1)) (z9 (i:=3) J8.nd rfl (Or.inl rfl)) (zp (zF (i:=0) J8.nd rfl (Or.inl rfl) (zQ QB (pv 0) (zx u6 hr rfl T.U0 T.WY.2 T.UW .nil zB (za (pv 0) (za (pv 3) (za (pv 2) zc))))))))
   (zp (zK (pv 0)))),?_⟩
 refine⟨_,rfl,l,rfl,⟨_,hl⟩,?_⟩
 refine uf (xs:=zR ps) (fun i σ H'=>H'=H/\∃(M:Nat) (f3:Option V),zX n M (zeg (ps.take i) f)/\σ=[some (.int M),some (.ref l),some (.int (n:Nat)),f3]) ⟨rfl,N,_,tf,rfl⟩ ?_ ?_ ?_
 ·rintro i σ H' _ ⟨rfl,_⟩
  exact hl
 ·rintro i v σ H' hv ⟨rfl,M,f3,tm,rfl⟩
  unfold zR at hv
  rw[zCK] at hv
  cases hj:ps[i]? with
  | none=>rw[hj] at hv;cases hv
  | some p =>
   rw[hj] at hv
   cases hv
   refine⟨_,rfl,_,rfl,_,rfl,_,rfl,M,p,n,_,rfl,hp p (zCN hj),n8,tm,fun R tr=>?_⟩
   refine⟨M,R,rfl,rfl,rfl,M|||R,some (.int (p:Nat)),?_,rfl⟩
   rw[yW hj,zgw]
   exact Zk.JM tm tr
 ·rintro σ H' ⟨rfl,M,f3,tm,rfl⟩
  have el:(zR ps).length=ps.length:=zCI _
  rw[el,zDb] at tm
  exact⟨_,rfl,q M tm⟩
theorem zpd (T:Txt P w K mg a)(u9:zA P w K mg base zW k a.Xb a.Xc ["table", "place", "value", "marks"] R3)
  (wH:zA P w K mg base zW k a.wW a.wX ["place", "marks"] tU)
  (zpe:zA P w K mg base zW k a.zaX a.zaY ["where", "low", "high"] ziw):zA P w K mg base zW (k+1) a.Kh a.Kl ["table", "places", "others", "marks"] (zdB K):=by
 refine T.zdI.ok Qa (fun vs H Q E h=>?_) (fun cdv A outer s H vs Q E hr h=>?_)
 ·obtain⟨N,n,f,l,m,ps,qs,rfl,_⟩:=h
  rfl
 obtain⟨N,n,f,l,m,ps,qs,rfl,n8,tf,hl,hm,le,l8,hp,hq,q⟩:=h
 refine⟨_,(zf (wL PassesOwn.never rfl (zok rfl T.zmf (za (pv 1) (za (pv 2) zc))) (N6 rfl (wJ (z9 (i:=4) Qa.nd rfl (Or.inl rfl)) (wJ (z9 (i:=5) Qa.nd rfl (Or.inl rfl)) Sq))) (zf (zF (i:=6) Qa.nd rfl (Or.inl rfl) (zx u9 hr rfl T.W2 T.Xj.2 T.W0 .nil zB (za (pv 0) (za (pv 4) (za zu (za (pv 3) zc))))))
   (zf (zF (i:=7) Qa.nd rfl (Or.inl rfl) (zx u9 hr rfl T.W2 T.Xj.2 T.W0 .nil zB (za (pv 0) (za (pv 4) (za zu (za (pv 3) zc))))))
   (zp (zF (i:=0) Qa.nd rfl (Or.inl rfl) (zx zpe hr rfl T.zi4 T.zeH.2 T.zi3 .nil zB (za (zx wH hr rfl T.Xi T.ZS.2 T.Xh .nil zB (za (pv 5) (za (pv 3) zc))) (za (pv 6) (za (pv 7) zc)))))))))
   (zp (zK (pv 0)))),?_⟩
 have e1:(zR ps).length=ps.length:=zCI _
 have e2:(zR qs).length=qs.length:=zCI _
 refine⟨_,rfl,_,rfl,l,m,_,_,rfl,hl,hm,?_⟩
 refine zlS (xs:=zR ps) (ys:=zR qs) (by omega) (fun i σ H'=>Same H H'/\∃(M:Nat) (f4 f5 f6 f7:Option V),zX n M (zeh ((ps.zip qs).take i) f)/\σ=[some (.int M),some (.ref l),some (.ref m),some (.int (n:Nat)),f4,f5,f6,f7]) ⟨Same.refl _,N,_,_,_,_,tf,rfl⟩ ?_ ?_ ?_
 ·rintro i σ H' _ ⟨g,_⟩
  exact⟨g.seq hl,g.seq hm⟩
 ·rintro i x y σ H' t hx hy ⟨g,M,f4,f5,f6,f7,tm,rfl⟩ ht
  unfold zR at hx hy
  rw[zCK] at hx hy
  cases hj:ps[i]? with
  | none=>rw[hj] at hx;cases hx
  | some p =>
   rw[hj] at hx
   cases hx
   cases hk:qs[i]? with
   | none=>rw[hk] at hy;cases hy
   | some o =>
    rw[hk] at hy
    cases hy
    have hz:(ps.zip qs)[i]?=some (p,o):=List.getElem?_zip_eq_some.mpr ⟨hj,hk⟩
    have pn:=hp p (zCN hj)
    have on:=hq o (zCN hk)
    refine⟨t,_,rfl,vW.of zj,rfl,_,_,rfl,_,_,rfl,rfl,?_⟩
    refine⟨_,rfl,_,rfl,_,rfl,M,p,n,false,_,rfl,pn,n8,tm,fun R0 t0=>?_⟩
    refine⟨_,rfl,_,rfl,_,rfl,M,p,n,true,_,rfl,pn,n8,tm,fun R1 t1=>?_⟩
    refine⟨_,rfl,_,rfl,o,n,rfl,on,n8,fun W tw=>?_⟩
    refine⟨_,rfl,_,rfl,W,R0,R1,n,_,_,_,rfl,tw,t0,t1,fun R tr=>?_⟩
    refine⟨g.trans (Same.new ht _),R,_,_,_,_,?_,rfl⟩
    rw[yW hz,zgx]
    exact tr
 ·rintro σ H' ⟨g,M,f4,f5,f6,f7,tm,rfl⟩
  have el:(ps.zip qs).length=(zR ps).length:=by rw[List.length_zip,e1];omega
  rw[<-el,zDb] at tm
  exact⟨_,rfl,q M H' g tm⟩
theorem zhW (T:Txt P w K mg a)(yc:zA P w K mg base zW k a.yF a.yG ["self"] (xQ (yD a.zy))):zA P w K mg base zW (k+1) a.Xf a.Xg ["book"] (QL a.zy):=by
 refine T.Rg.ok zhs (fun vs H Q E h=>?_) (fun cdv A outer s H vs Q E hr h=>?_)
 ·obtain⟨b,os,rs,F,rfl,_⟩:=h
  rfl
 obtain⟨b,os,rs,F,rfl,hB,q⟩:=h
 refine⟨_,(zp (zK (zlT (Zj:=zq VD) (js:=[0]) rfl (by show zol (zq VD) _ "now" "then" ["book"];exact⟨⟨rfl,by decide +kernel,by decide +kernel,by decide +kernel,by decide +kernel⟩,by decide +kernel,by decide +kernel,by decide +kernel⟩) rfl (zbn (W7 (v:=.ref a.YT) rfl T.zdJ rfl)) (by show ∀j∈([0]:List Nat),j<1;decide) (fun cl C s₂ H₂ fp=>(zP (JR (K:=K) rfl) (pv 0) (ZF (pv 2) T.yu T.xX yc hr T.xW .nil zB) (by with_unfolding_all rfl))) (fun cl C s₂ H₂ fp=>(pv 0))))),?_⟩
 have L:=xU a.zy
 refine⟨a.YT,rfl,⟨_,T.PB H⟩,?_⟩
 refine ziB (xs:=[.ref a.Qg,.ref a.Qh,.ref a.Qi,.ref a.Qj]) (fun i zs H'=>Same H H'/\zs=(((prs.take i).filter fun p=>os.contains p.1).map (·.1)).map V.str) ⟨Same.refl _,rfl⟩ (by show 4<=sizeLine;decide) ?_ ?_ ?_ ?_ ?_
 ·rintro i zs H' hi ⟨g,rfl⟩
  refine⟨T.PB H',?_⟩
  have:=zDh (fun p:Str×Str=>os.contains p.1) (prs.take i)
  rw[zC6] at this
  rw[zCI,zCI]
  omega
 ·rintro i v zs H' hv ⟨g,rfl⟩
  obtain⟨p,pr,rfl,hp,hpr⟩:∃(p:Addr) (pr:Str×Str),v=.ref p/\vW K H' p [.str pr.1,.str pr.2]/\prs[i]?=some pr:=by
   match i,hv with
   | 0,hv=>cases hv;exact⟨_,("a", "e"),rfl,T.Ks H',rfl⟩
   | 1,hv=>cases hv;exact⟨_,("b", "f"),rfl,T.Ku H',rfl⟩
   | 2,hv=>cases hv;exact⟨_,("c", "g"),rfl,T.Kv H',rfl⟩
   | 3,hv=>cases hv;exact⟨_,("d", "h"),rfl,T.Kw H',rfl⟩
  refine⟨p,.str pr.1,.str pr.2,rfl,hp,?_⟩
  have JF:=L.same hB g
  obtain⟨dx,fs,PN,hm⟩:=L.ins JF
  refine⟨_,rfl,_,rfl,b,dx,_,rfl,PN,hm _ (by decide +kernel),b,os,rs,F,rfl,JF,fun l1 H1 g1 fl1 hl1=>?_⟩
  refine⟨l1,_,rfl,.inl (zM.of hl1),rfl,vd os,_,rfl,?_⟩
  rw[yW hpr,zDn]
  show if inV (.str pr.1) (os.map V.str)=true then _ else _
  rw[zaG]
  cases hn:os.contains pr.1
  ·refine YX ⟨g.trans g1,?_⟩
   rw[List.filter_cons_of_neg (p:=fun p:Str×Str=>os.contains p.1) (by rw[hn];exact zCM),List.filter_nil,List.append_nil]
  ·refine zbs ⟨_,rfl,g.trans g1,?_⟩
   rw[List.filter_cons_of_pos (p:=fun p:Str×Str=>os.contains p.1) hn,List.filter_nil,zCW,zCW]
   rfl
 ·rintro σ' H' Q1 Q2 hQ ⟨v1,e1,v2,e2,b',dx',fs',y1,y2,y3,b2,os2,rs2,F2,y4,y5,y6⟩
  refine⟨v1,e1,v2,e2,b',dx',fs',y1,y2,y3,b2,os2,rs2,F2,y4,y5,fun l1 H1 g1 f1 h1=>?_⟩
  obtain⟨p5,xs5,z1,z2,z3,z4,b6,z5,z6⟩:=y6 l1 H1 g1 f1 h1
  exact⟨p5,xs5,z1,z2,z3,z4,b6,z5,hQ _ _ z6⟩
 ·rintro σ' H' Q1 Q2 hQ ⟨v,e,z⟩
  exact⟨v,e,hQ _ _ z⟩
 rintro zs H7 zl ⟨g,rfl⟩ hzl
 exact q zl _ (g.trans (Same.new hzl _)) (g.free hzl) zj
theorem zfL (T:Txt P w K mg a)(yc:zA P w K mg base zW k a.yF a.yG ["self"] (xQ (yD a.zy))):zA P w K mg base zW (k+1) a.Uk a.Ul ["book"] (zcN a.zy):=by
 refine T.Pr.ok zfA (fun vs H Q E h=>?_) (fun cdv A outer s H vs Q E hr h=>?_)
 ·obtain⟨b,os,rs,F,rfl,_⟩:=h
  rfl
 obtain⟨b,os,rs,F,rfl,hB,q⟩:=h
 refine⟨_,(zp (zK (zlT (Zj:=zq Xx) (js:=[0]) rfl (by show zol (zq Xx) _ "now" "then" ["book"];exact⟨⟨rfl,by decide +kernel,by decide +kernel,by decide +kernel,by decide +kernel⟩,by decide +kernel,by decide +kernel,by decide +kernel⟩) rfl (zbn (W7 (v:=.ref a.YT) rfl T.zdJ rfl)) (by show ∀j∈([0]:List Nat),j<1;decide) (fun cl C s₂ H₂ fp=>(zP (JR (K:=K) rfl) (pv 1) (ZF (pv 2) T.yu T.xX yc hr T.xW .nil zB) (by with_unfolding_all rfl))) (fun cl C s₂ H₂ fp=>(pv 1))))),?_⟩
 have L:=xU a.zy
 refine⟨a.YT,rfl,⟨_,T.PB H⟩,?_⟩
 refine ziB (xs:=[.ref a.Qg,.ref a.Qh,.ref a.Qi,.ref a.Qj]) (fun i zs H'=>Same H H'/\zs=(((prs.take i).filter fun p=>os.contains p.2).map (·.2)).map V.str) ⟨Same.refl _,rfl⟩ (by show 4<=sizeLine;decide) ?_ ?_ ?_ ?_ ?_
 ·rintro i zs H' hi ⟨g,rfl⟩
  refine⟨T.PB H',?_⟩
  have:=zDh (fun p:Str×Str=>os.contains p.2) (prs.take i)
  rw[zC6] at this
  rw[zCI,zCI]
  omega
 ·rintro i v zs H' hv ⟨g,rfl⟩
  obtain⟨p,pr,rfl,hp,hpr⟩:∃(p:Addr) (pr:Str×Str),v=.ref p/\vW K H' p [.str pr.1,.str pr.2]/\prs[i]?=some pr:=by
   match i,hv with
   | 0,hv=>cases hv;exact⟨_,("a", "e"),rfl,T.Ks H',rfl⟩
   | 1,hv=>cases hv;exact⟨_,("b", "f"),rfl,T.Ku H',rfl⟩
   | 2,hv=>cases hv;exact⟨_,("c", "g"),rfl,T.Kv H',rfl⟩
   | 3,hv=>cases hv;exact⟨_,("d", "h"),rfl,T.Kw H',rfl⟩
  refine⟨p,.str pr.1,.str pr.2,rfl,hp,?_⟩
  have JF:=L.same hB g
  obtain⟨dx,fs,PN,hm⟩:=L.ins JF
  refine⟨_,rfl,_,rfl,b,dx,_,rfl,PN,hm _ (by decide +kernel),b,os,rs,F,rfl,JF,fun l1 H1 g1 fl1 hl1=>?_⟩
  refine⟨l1,_,rfl,.inl (zM.of hl1),rfl,vd os,_,rfl,?_⟩
  rw[yW hpr,zDn]
  show if inV (.str pr.2) (os.map V.str)=true then _ else _
  rw[zaG]
  cases hn:os.contains pr.2
  ·refine YX ⟨g.trans g1,?_⟩
   rw[List.filter_cons_of_neg (p:=fun p:Str×Str=>os.contains p.2) (by rw[hn];exact zCM),List.filter_nil,List.append_nil]
  ·refine zbs ⟨_,rfl,g.trans g1,?_⟩
   rw[List.filter_cons_of_pos (p:=fun p:Str×Str=>os.contains p.2) hn,List.filter_nil,zCW,zCW]
   rfl
 ·rintro σ' H' Q1 Q2 hQ ⟨v1,e1,v2,e2,b',dx',fs',y1,y2,y3,b2,os2,rs2,F2,y4,y5,y6⟩
  refine⟨v1,e1,v2,e2,b',dx',fs',y1,y2,y3,b2,os2,rs2,F2,y4,y5,fun l1 H1 g1 f1 h1=>?_⟩
  obtain⟨p5,xs5,z1,z2,z3,z4,b6,z5,z6⟩:=y6 l1 H1 g1 f1 h1
  exact⟨p5,xs5,z1,z2,z3,z4,b6,z5,hQ _ _ z6⟩
 ·rintro σ' H' Q1 Q2 hQ ⟨v,e,z⟩
  exact⟨v,e,hQ _ _ z⟩
 rintro zs H7 zl ⟨g,rfl⟩ hzl
 exact q zl _ (g.trans (Same.new hzl _)) (g.free hzl) zj
theorem zfM (T:Txt P w K mg a)(yc:zA P w K mg base zW k a.yF a.yG ["self"] (xQ (yD a.zy)))
  (Ln:zA P w K mg base zW k a.Xf a.Xg ["book"] (QL a.zy)):zA P w K mg base zW (k+1) a.uh a.uo ["book"] (Xa a.zy):=by
 refine T.Zf.ok zfB (fun vs H Q E h=>?_) (fun cdv A outer s H vs Q E hr h=>?_)
 ·obtain⟨b,os,rs,F,rfl,_⟩:=h
  rfl
 obtain⟨b,os,rs,F,rfl,hB,q⟩:=h
 refine⟨_,(zp (zK (tQ (Zj:=zq Xy) (js:=[0]) rfl (by show ZG (zq Xy) _ "mark" ["book"];exact⟨rfl,by decide +kernel,by decide +kernel,rfl,by decide +kernel,by decide +kernel,by decide +kernel⟩) rfl (yU (zx Ln hr rfl T.M8 T.Rg.2 T.M7 .nil zB (za (pv 0) zc))) (by show ∀j∈([0]:List Nat),j<1;decide) (fun cl C s₂ H₂ fp=>(zj7 (K:=K) rfl PySem.F.plainAttrs_list PySem.F.slot_list_index PySem.F.type_list_index (zgv (K:=K) rfl) (ZF (pv 1) T.yu T.xX yc hr T.xW .nil zB) (za (pv 0) zc)))))),?_⟩
 have L:=xU a.zy
 refine⟨_,rfl,b,os,rs,F,rfl,hB,fun l0 H0 g0 fl0 hl0=>?_⟩
 have hB0:=L.same hB g0
 have l4:(yq os).length<=4:=by
  show((prs.filter _).map _).length<=4
  rw[zCI]
  exact zDh _ _
 refine⟨l0,rfl,⟨_,zM.of hl0⟩,zha (fun i v=>∃x,(yq os)[i]?=some x/\v=.int ((ix os x:Nat):Int)) (zM.of hl0) (by rw[zCI];exact zC1 (zN (by omega))) ?_ ?_ ?_⟩
 ·intro i v H' hv g
  rw[zCK] at hv
  cases hj:(yq os)[i]? with
  | none=>rw[hj] at hv;cases hv
  | some x =>
   rw[hj] at hv
   cases hv
   have hx:x∈os:=zei (zCN hj)
   obtain⟨i1,i2,i3⟩:=vU hx
   have JF:=L.same hB0 g
   obtain⟨dx,fs,PN,hm⟩:=L.ins JF
   refine⟨_,rfl,b,dx,_,rfl,PN,hm _ (by decide +kernel),b,os,rs,F,rfl,JF,fun l1 H1 g1 fl1 hl1=>?_⟩
   exact⟨.inl ⟨rfl,_,zM.of hl1⟩,_,rfl,l1,_,_,_,rfl,rfl,zM.of hl1,rfl,vd _,i1,⟨x,rfl,rfl⟩,g.trans g1⟩
 ·rintro σ' H' Q1 Q2 hQ ⟨v1,e1,b',dx',fs',y1,y2,y3,b2,os2,rs2,F2,y4,y5,y6⟩
  refine⟨v1,e1,b',dx',fs',y1,y2,y3,b2,os2,rs2,F2,y4,y5,fun l1 H1 g1 f1 h1=>?_⟩
  obtain⟨z0,v2,e2,p5,xs5,w5,j5,z1,z2,z3,z4,z5,z6,z7⟩:=y6 l1 H1 g1 f1 h1
  exact⟨z0,v2,e2,p5,xs5,w5,j5,z1,z2,z3,z4,z5,z6,hQ _ _ z7⟩
 intro us H7 zl hul huv g7 hzl
 rw[zCI] at hul
 have eu:us=zR ((yq os).map (ix os)):=by
  refine List.ext_getElem? fun i=>?_
  unfold zR
  by_cases hi:i<us.length
  ·obtain⟨x,hx,e⟩:=huv i _ (zCJ hi)
   rw[zCJ hi,e,zCK,zCK,hx]
   rfl
  ·rw[zDi (by omega),zDi (by rw[zCI,zCI];omega)]
 subst eu
 exact q zl _ (g0.trans (g7.trans (Same.new hzl _))) (g0.free (g7.free hzl)) zj
theorem ze9 (T:Txt P w K mg a)(yc:zA P w K mg base zW k a.yF a.yG ["self"] (xQ (yD a.zy)))
  (zhX:zA P w K mg base zW k a.Uk a.Ul ["book"] (zcN a.zy)):zA P w K mg base zW (k+1) a.uI a.uJ ["book"] (Xp a.zy):=by
 refine T.Zx.ok zeC (fun vs H Q E h=>?_) (fun cdv A outer s H vs Q E hr h=>?_)
 ·obtain⟨b,os,rs,F,rfl,_⟩:=h
  rfl
 obtain⟨b,os,rs,F,rfl,hB,q⟩:=h
 refine⟨_,(zp (zK (tQ (Zj:=zq YC) (js:=[0]) rfl (by show ZG (zq YC) _ "mark" ["book"];exact⟨rfl,by decide +kernel,by decide +kernel,rfl,by decide +kernel,by decide +kernel,by decide +kernel⟩) rfl (yU (zx zhX hr rfl T.za8 T.Pr.2 T.za7 .nil zB (za (pv 0) zc))) (by show ∀j∈([0]:List Nat),j<1;decide) (fun cl C s₂ H₂ fp=>(zj7 (K:=K) rfl PySem.F.plainAttrs_list PySem.F.slot_list_index PySem.F.type_list_index (zgv (K:=K) rfl) (ZF (pv 1) T.yu T.xX yc hr T.xW .nil zB) (za (pv 0) zc)))))),?_⟩
 have L:=xU a.zy
 refine⟨_,rfl,b,os,rs,F,rfl,hB,fun l0 H0 g0 fl0 hl0=>?_⟩
 have hB0:=L.same hB g0
 have l4:(Zm os).length<=4:=by
  show((prs.filter _).map _).length<=4
  rw[zCI]
  exact zDh _ _
 refine⟨l0,rfl,⟨_,zM.of hl0⟩,zha (fun i v=>∃x,(Zm os)[i]?=some x/\v=.int ((ix os x:Nat):Int)) (zM.of hl0) (by rw[zCI];exact zC1 (zN (by omega))) ?_ ?_ ?_⟩
 ·intro i v H' hv g
  rw[zCK] at hv
  cases hj:(Zm os)[i]? with
  | none=>rw[hj] at hv;cases hv
  | some x =>
   rw[hj] at hv
   cases hv
   have hx:x∈os:=zbB (zCN hj)
   obtain⟨i1,i2,i3⟩:=vU hx
   have JF:=L.same hB0 g
   obtain⟨dx,fs,PN,hm⟩:=L.ins JF
   refine⟨_,rfl,b,dx,_,rfl,PN,hm _ (by decide +kernel),b,os,rs,F,rfl,JF,fun l1 H1 g1 fl1 hl1=>?_⟩
   exact⟨.inl ⟨rfl,_,zM.of hl1⟩,_,rfl,l1,_,_,_,rfl,rfl,zM.of hl1,rfl,vd _,i1,⟨x,rfl,rfl⟩,g.trans g1⟩
 ·rintro σ' H' Q1 Q2 hQ ⟨v1,e1,b',dx',fs',y1,y2,y3,b2,os2,rs2,F2,y4,y5,y6⟩
  refine⟨v1,e1,b',dx',fs',y1,y2,y3,b2,os2,rs2,F2,y4,y5,fun l1 H1 g1 f1 h1=>?_⟩
  obtain⟨z0,v2,e2,p5,xs5,w5,j5,z1,z2,z3,z4,z5,z6,z7⟩:=y6 l1 H1 g1 f1 h1
  exact⟨z0,v2,e2,p5,xs5,w5,j5,z1,z2,z3,z4,z5,z6,hQ _ _ z7⟩
 intro us H7 zl hul huv g7 hzl
 rw[zCI] at hul
 have eu:us=zR ((Zm os).map (ix os)):=by
  refine List.ext_getElem? fun i=>?_
  unfold zR
  by_cases hi:i<us.length
  ·obtain⟨x,hx,e⟩:=huv i _ (zCJ hi)
   rw[zCJ hi,e,zCK,zCK,hx]
   rfl
  ·rw[zDi (by omega),zDi (by rw[zCI,zCI];omega)]
 subst eu
 exact q zl _ (g0.trans (g7.trans (Same.new hzl _))) (g0.free (g7.free hzl)) zj
theorem zpg (T:Txt P w K mg a)(yc:zA P w K mg base zW k a.yF a.yG ["self"] (xQ (yD a.zy)))(yN:zA P w K mg base zW k a.yR a.yS ["self", "number"] (Z5 a.zy))
  (uD:zA P w K mg base zW k a.uh a.uo ["book"] (Xa a.zy))(Zy:zA P w K mg base zW k a.uI a.uJ ["book"] (Xp a.zy))
  (zcx:zA P w K mg base zW k a.UJ a.UL ["table", "places", "marks"] (zaF K))(zhY:zA P w K mg base zW k a.Kh a.Kl ["table", "places", "others", "marks"] (zdB K)):zA P w K mg base zW (k+1) a.Kf a.Kg ["book", "steps", "table"] (zdC a.zy):=by
 refine T.zdH.ok zeD (fun vs H Q E h=>?_) (fun cdv A outer s H vs Q E hr h=>?_)
 ·obtain⟨b,os,rs,F,k0,N,f,rfl,_⟩:=h
  rfl
 obtain⟨b,os,rs,F,k0,N,f,rfl,hB,hk,hW,tf,q⟩:=h
 refine⟨_,(zf (zF (i:=3) zeD.nd rfl (Or.inl rfl) (zH zG rfl T.xu yr (za (ZF (pv 0) T.yu T.xX yc hr T.xW .nil zB) zc)))
   (zf (zF (i:=4) zeD.nd rfl (Or.inl rfl) (zx zcx hr rfl T.zbW T.Kq.2 T.zbV .nil zB (za (zQ Zz (pv 2) (uQ (pv 0) T.yu T.wG yN hr T.wF .nil zB (za (pv 1) zc))) (za (zx uD hr rfl T.Yl T.Zf.2 T.Yk .nil zB (za (pv 0) zc)) (za (pv 3) zc)))))
   (zp (zK (zx zhY hr rfl T.zhx T.zdI.2 T.zhw .nil zB (za (pv 4) (za (zx Zy hr rfl T.YH T.Zx.2 T.YG .nil zB (za (pv 0) zc)) (za (zx uD hr rfl T.Yl T.Zf.2 T.Yk .nil zB (za (pv 0) zc)) (za (pv 3) zc))))))))),?_⟩
 have L:=xU a.zy
 have o8:=(L.ord hB).le
 have lo5:(os.map V.str).length=os.length:=zCI _
 have ln:(yg os).length=(zU os).length:=by unfold yg zU;rw[zCI,zCI];exact hW.len
 have l4:(yg os).length<=8:=by unfold yg;rw[zCI];have:=uT os;omega
 have hB0:=hB
 obtain⟨dx,ml,rl,tl,nd,rv,ts,kvs,h⟩:=hB
 refine⟨_,rfl,b,dx,_,rfl,h.hb,rfl,b,os,rs,F,rfl,hB0,fun l1 H1 g1 fl1 hl1=>?_⟩
 refine⟨l1,_,rfl,.inl (zM.of hl1),?_⟩
 rw[lo5]
 have JF:=L.same hB0 g1
 refine⟨_,rfl,_,rfl,b,dx,_,rfl,(g1 _ _ h.hb),rfl,_,rfl,b,os,rs,F,k0,rfl,JF,hk,fun t tt=>?_⟩
 refine⟨N,t,rfl,rfl,?_⟩
 refine⟨_,rfl,b,os,rs,F,rfl,JF,fun l2 H2 g2 fl2 hl2=>?_⟩
 have hB2:=L.same JF g2
 refine⟨_,rfl,_,os.length,_,l2,yg os,rfl,o8,Zk.Uc tf tt,zM.of hl2,Xq,fun R tr=>?_⟩
 refine⟨_,rfl,_,rfl,b,os,rs,F,rfl,hB2,fun l3 H3 g3 fl3 hl3=>?_⟩
 have hB3:=L.same hB2 g3
 refine⟨_,rfl,b,os,rs,F,rfl,hB3,fun l4' H4 g4 fl4 hl4=>?_⟩
 refine⟨_,rfl,R,os.length,_,l3,l4',zU os,yg os,rfl,o8,tr,zM.of (g4 _ _ hl3),zM.of hl4,ln.symm,by omega,Yy,Xq,fun R2 H5 g5 t5=>?_⟩
 exact q R2 H5 (g1.trans (g2.trans (g3.trans (g4.trans g5)))) t5
theorem znp (T:Txt P w K mg a)(yc:zA P w K mg base zW k a.yF a.yG ["self"] (xQ (yD a.zy)))(yN:zA P w K mg base zW k a.yR a.yS ["self", "number"] (Z5 a.zy))
  (uD:zA P w K mg base zW k a.uh a.uo ["book"] (Xa a.zy))(Zy:zA P w K mg base zW k a.uI a.uJ ["book"] (Xp a.zy))
  (zcx:zA P w K mg base zW k a.UJ a.UL ["table", "places", "marks"] (zaF K))(zhY:zA P w K mg base zW k a.Kh a.Kl ["table", "places", "others", "marks"] (zdB K)):zA P w K mg base zW (k+1) a.zaZ a.za0 ["book", "steps", "table"] (ziC a.zy):=by
 refine T.zeL.ok zbN (fun vs H Q E h=>?_) (fun cdv A outer s H vs Q E hr h=>?_)
 ·obtain⟨b,os,rs,F,k0,N,f,rfl,_⟩:=h
  rfl
 obtain⟨b,os,rs,F,k0,N,f,rfl,hB,hk,hW,tf,q⟩:=h
 refine⟨_,(zf (zF (i:=3) zbN.nd rfl (Or.inl rfl) (zH zG rfl T.xu yr (za (ZF (pv 0) T.yu T.xX yc hr T.xW .nil zB) zc)))
   (zf (zF (i:=4) zbN.nd rfl (Or.inl rfl) (zx zhY hr rfl T.zhx T.zdI.2 T.zhw .nil zB (za (pv 2) (za (zx uD hr rfl T.Yl T.Zf.2 T.Yk .nil zB (za (pv 0) zc)) (za (zx Zy hr rfl T.YH T.Zx.2 T.YG .nil zB (za (pv 0) zc)) (za (pv 3) zc))))))
   (zp (zK (zx zcx hr rfl T.zbW T.Kq.2 T.zbV .nil zB (za (zQ Zz (pv 4) (uQ (pv 0) T.yu T.wG yN hr T.wF .nil zB (za (pv 1) zc))) (za (zx Zy hr rfl T.YH T.Zx.2 T.YG .nil zB (za (pv 0) zc)) (za (pv 3) zc)))))))),?_⟩
 have L:=xU a.zy
 have o8:=(L.ord hB).le
 have lo5:(os.map V.str).length=os.length:=zCI _
 have ln:(yg os).length=(zU os).length:=by unfold yg zU;rw[zCI,zCI];exact hW.len
 have l4:(yg os).length<=8:=by unfold yg;rw[zCI];have:=uT os;omega
 have hB0:=hB
 obtain⟨dx,ml,rl,tl,nd,rv,ts,kvs,h⟩:=hB
 refine⟨_,rfl,b,dx,_,rfl,h.hb,rfl,b,os,rs,F,rfl,hB0,fun l1 H1 g1 fl1 hl1=>?_⟩
 refine⟨l1,_,rfl,.inl (zM.of hl1),?_⟩
 rw[lo5]
 have JF:=L.same hB0 g1
 refine⟨_,rfl,_,rfl,b,os,rs,F,rfl,JF,fun l2 H2 g2 fl2 hl2=>?_⟩
 have hB2:=L.same JF g2
 refine⟨_,rfl,b,os,rs,F,rfl,hB2,fun l3 H3 g3 fl3 hl3=>?_⟩
 refine⟨_,rfl,N,os.length,_,l2,l3,yg os,zU os,rfl,o8,tf,zM.of (g3 _ _ hl2),zM.of hl3,ln,by omega,Xq,Yy,fun R H4 g4 tr=>?_⟩
 have hB4:=L.same hB2 (g3.trans g4)
 refine⟨_,rfl,_,rfl,b,dx,_,rfl,((g1.trans (g2.trans (g3.trans g4))) _ _ h.hb),rfl,_,rfl,b,os,rs,F,k0,rfl,hB4,hk,fun t tt=>?_⟩
 refine⟨R,t,rfl,rfl,?_⟩
 refine⟨_,rfl,b,os,rs,F,rfl,hB4,fun l5 H5 g5 fl5 hl5=>?_⟩
 refine⟨_,rfl,_,os.length,_,l5,zU os,rfl,o8,Zk.Uc tr tt,zM.of hl5,Yy,fun R2 t2=>?_⟩
 exact q R2 H5 (g1.trans (g2.trans (g3.trans (g4.trans g5)))) t2
theorem zcy (T:Txt P w K mg a)(yc:zA P w K mg base zW k a.yF a.yG ["self"] (xQ (yD a.zy))):zA P w K mg base zW (k+1) a.YL a.YM ["book"] (zcO a.zy):=by
 refine T.V2.ok Z7 (fun vs H Q E h=>?_) (fun cdv A outer s H vs Q E hr h=>?_)
 ·obtain⟨b,os,rs,F,rfl,_⟩:=h
  rfl
 obtain⟨b,os,rs,F,rfl,hB,hW,q⟩:=h
 refine⟨_,(zf (zF (i:=1) Z7.nd rfl (Or.inl rfl) (ZF (pv 0) T.yu T.xX yc hr T.xW .nil zB))
   (zp (wL PassesOwn.never rfl (zbn (W7 (v:=.ref a.YT) rfl T.zdJ rfl)) (N6 rfl (wJ (z9 (i:=2) Z7.nd rfl (Or.inl rfl)) (wJ (z9 (i:=3) Z7.nd rfl (Or.inl rfl)) Sq))) (zp (yP (zP K9 (tO Ux (pv 2) (pv 1) (by with_unfolding_all rfl)) (tO Ux (pv 3) (pv 1) (by with_unfolding_all rfl)) (zY _)) (zp U5) z8))))),?_⟩
 have L:=xU a.zy
 obtain⟨dx,fs,PN,hm⟩:=L.ins hB
 refine⟨_,rfl,b,dx,_,rfl,PN,hm _ (by decide +kernel),b,os,rs,F,rfl,hB,fun l1 H1 g1 fl1 hl1=>?_⟩
 refine⟨a.YT,rfl,⟨_,T.PB H1⟩,?_⟩
 refine zpA (xs:=[.ref a.Qg,.ref a.Qh,.ref a.Qi,.ref a.Qj]) (fun i σ H'=>H'=H1/\∃f2 f3:Option V,σ=[some (.ref b),some (.ref l1),f2,f3]) ⟨rfl,_,_,rfl⟩ ?_ ?_ ?_
 ·rintro i σ H' _ ⟨rfl,_⟩
  exact T.PB H'
 ·rintro i v σ H' hv ⟨rfl,f2,f3,rfl⟩
  obtain⟨p,pr,rfl,hp,hpr⟩:∃(p:Addr) (pr:Str×Str),v=.ref p/\vW K H' p [.str pr.1,.str pr.2]/\prs[i]?=some pr:=by
   match i,hv with
   | 0,hv=>cases hv;exact⟨_,("a", "e"),rfl,T.Ks H',rfl⟩
   | 1,hv=>cases hv;exact⟨_,("b", "f"),rfl,T.Ku H',rfl⟩
   | 2,hv=>cases hv;exact⟨_,("c", "g"),rfl,T.Kv H',rfl⟩
   | 3,hv=>cases hv;exact⟨_,("d", "h"),rfl,T.Kw H',rfl⟩
  have e:=hW pr (zCN hpr)
  refine⟨p,_,rfl,hp,rfl,_,_,rfl,_,_,rfl,rfl,?_⟩
  refine⟨_,rfl,_,rfl,l1,_,rfl,.inl (zM.of hl1),rfl,vd os,?_⟩
  refine⟨_,rfl,_,rfl,l1,_,rfl,.inl (zM.of hl1),rfl,vd os,rfl,_,rfl,zhb (congrArg V.bl ?_) ⟨rfl,_,_,rfl⟩⟩
  show inV (.str pr.1) (os.map V.str)=inV (.str pr.2) (os.map V.str)
  rw[zaG,zaG,e]
 ·rintro σ H' ⟨rfl,f2,f3,rfl⟩
  exact q _ g1
theorem zbj (T:Txt P w K mg a)(yc:zA P w K mg base zW k a.yF a.yG ["self"] (xQ (yD a.zy)))(yN:zA P w K mg base zW k a.yR a.yS ["self", "number"] (Z5 a.zy))
  (Yv:zA P w K mg base zW k a.xO a.xP ["self", "number"] (Tc a.zy))(Zy:zA P w K mg base zW k a.uI a.uJ ["book"] (Xp a.zy))
  (zai:zA P w K mg base zW k a.WM a.WQ ["table", "place", "marks"] zdA):zA P w K mg base zW (k+1) a.Yb a.Yc ["book", "room"] (zgy a.zy):=by
 refine T.W4.ok SM (fun vs H Q E h=>?_) (fun cdv A outer s H vs Q E hr h=>?_)
 ·obtain⟨b,os,rs,F,k0,rfl,_⟩:=h
  rfl
 obtain⟨b,os,rs,F,k0,rfl,hB,hN,q⟩:=h
 refine⟨_,(zf (yE (uQ (pv 0) T.yu T.Yu Yv hr T.Yt .nil zB (za (pv 1) zc)))
   (zp (wL PassesOwn.never rfl (yU (zx Zy hr rfl T.YH T.Zx.2 T.YG .nil zB (za (pv 0) zc))) (z9 (i:=2) SM.nd rfl (Or.inl rfl)) (zp (yP (vg (zx zai hr rfl T.zaa T.Pb.2 T.J9 .nil zB (za (uQ (pv 0) T.yu T.wG yN hr T.wF .nil zB (za (pv 1) zc)) (za (pv 2) (za (zH zG rfl T.xu yr (za (ZF (pv 0) T.yu T.xX yc hr T.xW .nil zB) zc)) zc)))) (fun _=>rfl)) (zp U5) z8))))),?_⟩
 have L:=xU a.zy
 have o8:=(L.ord hB).le
 have lo5:(os.map V.str).length=os.length:=zCI _
 have hB0:=hB
 obtain⟨dx,ml,rl,tl,nd,rv,ts,kvs,h⟩:=hB
 refine⟨_,rfl,b,dx,_,rfl,h.hb,rfl,_,rfl,b,os,rs,F,k0,rfl,hB0,hN.1,?_⟩
 refine⟨_,rfl,b,os,rs,F,rfl,hB0,fun l1 H1 g1 fl1 hl1=>?_⟩
 refine⟨l1,rfl,⟨_,zM.of hl1⟩,?_⟩
 refine uf (xs:=zR (zU os)) (fun i σ H'=>Same H1 H'/\∃f2:Option V,σ=[some (.ref b),some (.int (k0:Nat)),f2]) ⟨Same.refl _,_,rfl⟩ ?_ ?_ ?_
 ·rintro i σ H' _ ⟨g,_⟩
  exact zM.of (g _ _ hl1)
 ·rintro i v σ H' hv ⟨g,f2,rfl⟩
  unfold zR at hv
  rw[zCK] at hv
  cases hj:(zU os)[i]? with
  | none=>rw[hj] at hv;cases hv
  | some p =>
   rw[hj] at hv
   cases hv
   have hp:=zCN hj
   have JF:=L.same hB0 (g1.trans g)
   have b1:=(g1.trans g) _ _ h.hb
   refine⟨_,rfl,b,dx,_,rfl,b1,rfl,_,rfl,b,os,rs,F,k0,rfl,JF,hN.1,fun t tt=>?_⟩
   refine⟨_,rfl,_,rfl,b,dx,_,rfl,b1,rfl,b,os,rs,F,rfl,JF,fun l2 H2 g2 fl2 hl2=>?_⟩
   refine⟨l2,_,rfl,.inl (zM.of hl2),?_⟩
   rw[lo5]
   refine⟨t,p,os.length,_,rfl,Yy p hp,o8,tt,fun c cf ct=>?_⟩
   cases c with
   | true =>
    obtain⟨z,z1,z2⟩:=ct rfl
    exact absurd ((hN.2 p hp z z1 false).trans (hN.2 p hp z z1 true).symm) z2
   | false=>exact⟨_,rfl,YX ⟨g.trans g2,_,rfl⟩⟩
 ·rintro σ H' ⟨g,f2,rfl⟩
  exact q _ (g1.trans g)
theorem NK (T:Txt P w K mg a)(zdk:zA P w K mg base zW k a.YL a.YM ["book"] (zcO a.zy))
  (Yv:zA P w K mg base zW k a.xO a.xP ["self", "number"] (Tc a.zy))
  (zcz:zA P w K mg base zW k a.Yb a.Yc ["book", "room"] (zgy a.zy)):zA P w K mg base zW (k+1) a.xZ a.wg ["book", "steps", "rooms"] (QM a.zy K):=by
 refine T.ux.ok Wn (fun vs H Q E h=>?_) (fun cdv A outer s H vs Q E hr h=>?_)
 ·obtain⟨b,l,os,rs,F,k0,ks,rfl,_⟩:=h
  rfl
 obtain⟨b,l,os,rs,F,k0,ks,rfl,hB,hW,hk,hl,hN,q⟩:=h
 refine⟨_,(zf (yE (zx zdk hr rfl T.Nr T.V2.2 T.Nq .nil zB (za (pv 0) zc)))
   (zf (yE (uQ (pv 0) T.yu T.Yu Yv hr T.Yt .nil zB (za (pv 1) zc)))
   (zp (wL PassesOwn.never rfl (yU (pv 2)) (z9 (i:=3) Wn.nd rfl (Or.inl rfl)) (zp (yE (zx zcz hr rfl T.Qo T.W4.2 T.Qn .nil zB (za (pv 0) (za (pv 3) zc))))))))),?_⟩
 have L:=xU a.zy
 have hB0:=hB
 obtain⟨dx,ml,rl,tl,nd,rv,ts,kvs,h⟩:=hB
 refine⟨_,rfl,b,os,rs,F,rfl,hB0,hW,fun H1 g1=>?_⟩
 refine⟨_,rfl,b,dx,_,rfl,g1 _ _ h.hb,rfl,_,rfl,b,os,rs,F,k0,rfl,L.same hB0 g1,hk,?_⟩
 refine⟨_,rfl,l,rfl,⟨_,g1.seq hl⟩,?_⟩
 refine uf (xs:=zR ks) (fun i σ H'=>Same H H'/\∃f3:Option V,σ=[some (.ref b),some (.int (k0:Nat)),some (.ref l),f3]) ⟨g1,_,rfl⟩ ?_ ?_ ?_
 ·rintro i σ H' _ ⟨g,_⟩
  exact g.seq hl
 ·rintro i v σ H' hv ⟨g,f3,rfl⟩
  unfold zR at hv
  rw[zCK] at hv
  cases hj:ks[i]? with
  | none=>rw[hj] at hv;cases hv
  | some j =>
   rw[hj] at hv
   cases hv
   exact⟨_,rfl,_,rfl,b,os,rs,F,j,rfl,L.same hB0 g,hN j (zCN hj),fun H2 g2=>⟨g.trans g2,_,rfl⟩⟩
 ·rintro σ H' ⟨g,f3,rfl⟩
  exact q _ g
theorem zdl (T:Txt P w K mg a)(yN:zA P w K mg base zW k a.yR a.yS ["self", "number"] (Z5 a.zy))(zhZ:zA P w K mg base zW k a.Kf a.Kg ["book", "steps", "table"] (zdC a.zy))(Qt:zA P w K mg base zW k a.Xd a.Xe ["table", "other"] Uy):zA P w K mg base zW (k+1) a.XJ a.XM ["book", "steps", "start"] (Jf a.zy):=by
 refine T.T3.ok v8 (fun vs H Q E h=>?_) (fun cdv A outer s H vs Q E hr h=>?_)
 ·obtain⟨b,os,rs,F,k0,j,rfl,_⟩:=h
  rfl
 obtain⟨b,os,rs,F,k0,j,rfl,hB,hW,hk,hj,q⟩:=h
 refine⟨_,(zf (zF (i:=3) v8.nd rfl (Or.inl rfl) (xq zc))
   (zf (zF (i:=4) v8.nd rfl (Or.inl rfl) (uQ (pv 0) T.yu T.wG yN hr T.wF .nil zB (za (pv 2) zc)))
   (zf (zF (i:=5) v8.nd rfl (Or.inl rfl) zu)
   (zf (N7 PassesOwn.never (zP K9 (pv 4) zu (zY _)) (zf (yE (vG PySem.F.plainAttrs_list PySem.F.slot_list_append PySem.F.type_list_append wB (pv 3) (za (pv 4) zc)))
   (zf (zF (i:=5) v8.nd rfl (Or.inl rfl) (zQ QB (pv 5) (pv 4)))
   (zp (zF (i:=4) v8.nd rfl (Or.inl rfl) (zx Qt hr rfl T.Ko T.Qk.2 T.Km .nil zB (za (zx zhZ hr rfl T.zhv T.zdH.2 T.zhu .nil zB (za (pv 0) (za (pv 1) (za (pv 4) zc)))) (za (pv 5) zc))))))))
   (zp (zK (pv 3))))))),?_⟩
 have L:=xU a.zy
 have o8:=(L.ord hB).le
 have p256:2^os.length<=256:=zjY o8
 obtain⟨dx,ml,rl,tl,nd,rv,ts,kvs,h⟩:=id hB
 refine⟨by show 0<=sizeLine;decide,fun l hl=>?_⟩
 have g0:=Same.new hl (.lst [])
 have e0:upd H l (.lst []) l=some (.lst (zR [])):=zj
 generalize upd H l (.lst [])=H1 at g0 e0
 refine⟨_,rfl,b,dx,_,rfl,g0 _ _ h.hb,rfl,_,rfl,b,os,rs,F,j,rfl,L.same hB g0,hj,fun N tN=>?_⟩
 refine⟨fun m σ H'=>∃(Ns:List Nat) (cur told:Nat),m=256-Ns.length/\Ns.length<=zow os (tB rs k0) (tB rs j) Ns.length/\Same H H'/\H' l=some (.lst (zR Ns))/\(∀(i N:Nat),Ns[i]?=some N->zX os.length N (vJ os (tB rs k0) (tB rs j) i).1/\N≠0)/\zX os.length cur (vJ os (tB rs k0) (tB rs j) Ns.length).1/\zX os.length told (vJ os (tB rs k0) (tB rs j) Ns.length).2/\σ=[some (.ref b),some (.int (k0:Nat)),some (.int (j:Nat)),some (.ref l),some (.int (cur:Nat)),some (.int (told:Nat))],⟨_,[],N,0,rfl,zC5 _,g0,e0,(fun i N e=>by cases e),tN,(fun c=>by rw[Nat.zero_testBit];show false=(_&&false);rw[Bool.and_false]),rfl⟩,?_⟩
 rintro m σ H' ⟨Ns,cur,told,rfl,hc,g,hl',ok,tc,tt,rfl⟩
 refine⟨_,rfl,rfl,_,rfl,?_⟩
 by_cases c0:cur=0
 ·subst c0
  refine zhb rfl ⟨_,rfl,?_⟩
  exact q l H' Ns g hl hl' ⟨ok,tc⟩ (zC4 hc (zC4 (zlW _ _) p256))
 ·have ct:=zqx tc c0
  have cl:=zlW (os:=os) (t:=tB rs k0) (tB rs j) (Ns.length+1)
  show if (!decide (V.int (cur:Nat)=V.int 0))=true then _ else _
  rw[decide_eq_false (fun e=>c0 (by injection e;omega))]
  refine zbs ⟨_,fun σ' H2 h=>h,?_⟩
  refine⟨_,rfl,.inl ⟨rfl,_,zM.of hl'⟩,_,rfl,l,_,_,rfl,rfl,hl',by rw[Yz];exact zN (by omega),?_⟩
  have g2:Same H (upd H' l (.lst (zR Ns++[V.int (cur:Nat)]))):=g.over hl _
  have e2:upd H' l (.lst (zR Ns++[V.int (cur:Nat)])) l=some (.lst (zR (Ns++[cur]))):=by rw[zj];unfold zR;rw[zCW];rfl
  generalize upd H' l (.lst (zR Ns++[V.int (cur:Nat)]))=H2 at g2 e2
  refine⟨_,rfl,_,rfl,told,cur,rfl,rfl,?_⟩
  refine⟨_,rfl,_,rfl,_,rfl,b,os,rs,F,k0,cur,_,rfl,L.same hB g2,hk,hW,tc,fun R H3 g3 tr=>?_⟩
  refine⟨_,rfl,R,told|||cur,os.length,_,_,rfl,tr,zox tt tc,fun R2 tr2=>?_⟩
  have el:(Ns++[cur]).length=Ns.length+1:=by rw[zCQ];rfl
  refine⟨256-(Ns++[cur]).length,by rw[el];omega,Ns++[cur],R2,told|||cur,rfl,by rw[el];omega,g2.trans g3,g3 _ _ e2,fun i N e=>?_,by rw[el];exact tr2,by rw[el];exact zox tt tc,rfl⟩
  rcases Nat.lt_or_ge i Ns.length with z | z
  ·rw[zDf z] at e
   exact ok i N e
  ·have hi:=(zCL.mp e).1
   have ei:i=Ns.length:=by omega
   subst ei
   rw[List.getElem?_append_right (zCY _),Nat.sub_self] at e
   cases e
   exact⟨tc,c0⟩
theorem zlb (T:Txt P w K mg a)  : zA P w K mg base zW (k+1) a.wC a.wD ["order"] (Rk K):=by
 refine T.uy.ok zht (fun vs H Q E h=>?_) (fun cdv A outer s H vs Q E hr h=>?_)
 ·obtain⟨ol,os,rfl,_⟩:=h
  rfl
 obtain⟨ol,os,rfl,hol,q⟩:=h
 refine⟨_,(zp (zK (zjT (Zj:=zq VF) (js:=[0]) rfl (by show ZG (zq VF) _ "mark" ["order"];exact⟨rfl,by decide +kernel,by decide +kernel,rfl,by decide +kernel,by decide +kernel,by decide +kernel⟩) rfl (zrZ zZ) (by show ∀j∈([0]:List Nat),j<1;decide) (fun cl C s₂ H₂ fp=>(zP (JR (K:=K) rfl) (pv 0) (pv 1) (by with_unfolding_all rfl))) (fun cl C s₂ H₂ fp=>(pv 0))))),?_⟩
 refine⟨_,rfl,by decide +kernel,?_⟩
 refine zqu (x:=Str.ofString "abcd") (fun i ys H'=>H'=H/\ys=(((prs.take i).filter fun p=>os.contains p.1).map (·.1)).map V.str) ⟨rfl,rfl⟩ (by decide +kernel) ?_ ?_ ?_ (fun _ _ _ _ h ⟨v,e,q⟩=>⟨v,e,h _ _ q⟩) ?_
 ·rintro i ys H' ⟨rfl,rfl⟩
  have:=zDh (fun p:Str×Str=>os.contains p.1) (prs.take i)
  rw[zC6] at this
  rw[zCI,zCI]
  omega
 ·rintro i c ys H' hc ⟨rfl,rfl⟩
  have h4:i<4:=by
   have:=(Array.getElem?_eq_some_iff.mp hc).1
   have e:(Str.ofString "abcd").cps.size=4:=by decide +kernel
   omega
  have ec:c=97+i:=by
   match i,h4 with
   | 0,_=>exact(zDd (hc.symm.trans (by decide +kernel)))
   | 1,_=>exact(zDd (hc.symm.trans (by decide +kernel)))
   | 2,_=>exact(zDd (hc.symm.trans (by decide +kernel)))
   | 3,_=>exact(zDd (hc.symm.trans (by decide +kernel)))
  subst ec
  refine⟨_,rfl,_,rfl,ol,_,rfl,.inl hol,rfl,vd os,_,rfl,?_⟩
  rw[yW (Ms h4),zDn]
  show if inV (.str (xM i)) (os.map V.str)=true then _ else _
  rw[zaG]
  cases e:os.contains (xM i) with
  | true =>
   refine zbs ⟨_,rfl,rfl,?_⟩
   rw[List.filter_cons,if_pos (show os.contains (xM i,uG i).1=true from e),zCW,zCW]
   rfl
  | false =>
   refine YX ⟨rfl,?_⟩
   rw[List.filter_cons,if_neg (by show ¬os.contains (xM i)=true;rw[e];exact zCM),List.filter_nil,List.append_nil]
 ·rintro σ' H' Q1 Q2 hQ ⟨v1,e1,v2,e2,p,xs,z1,z2,z3,z4,z5,z6,z7⟩
  exact⟨v1,e1,v2,e2,p,xs,z1,z2,z3,z4,z5,z6,hQ _ _ z7⟩
 rintro ys H' l ⟨rfl,rfl⟩ hl
 refine q l _ (Same.new hl _) hl ?_
 rw[zj]
 rfl
theorem zh0 (T:Txt P w K mg a)(yp:zA P w K mg base zW k a.wO a.wQ ["cell", "k", "bound"] Mf):zA P w K mg base zW (k+1) a.Vl a.Vm ["cell"] zlV:=by
 refine T.RK.ok xV (fun vs H Q E h=>?_) (fun cdv A outer s H vs Q E hr h=>?_)
 ·obtain⟨c,rfl,_⟩:=h
  rfl
 obtain⟨c,rfl,q⟩:=h
 refine ztx ?_
 refine zqe (fun σ H'=>Same H H'/\∃(f z:Nat) (f3 f4 f5 f6:Option V),(f,z)∈[(0,1),(0,2),(0,3),(1,1),(1,2),(1,3),(0,4)]/\σ=[some (.int c),some (.int (f:Nat)),some (.int (z:Nat)),f3,f4,f5,f6]) (fun t z=>(zf (zF (i:=1) xV.nd rfl (Or.inl rfl) (zx yp hr rfl T.yI T.yx.2 T.yH .nil zB (za (pv 0) (za zu (za zu zc)))))
   (zf (zF (i:=2) xV.nd rfl (Or.inl rfl) (zQ wU zu (zx yp hr rfl T.yI T.yx.2 T.yH .nil zB (za (pv 0) (za zu (za zu zc))))))
   (zf (yP (zP wZ (zx yp hr rfl T.yI T.yx.2 T.yH .nil zB (za (pv 0) (za zu (za zu zc)))) zu (zY _)) (zp (zjB (yZ (za zu (za zu zc))) (N6 rfl (wJ (z9 (i:=1) xV.nd rfl (Or.inl rfl)) (wJ (z9 (i:=2) xV.nd rfl (Or.inl rfl)) Sq))))) z8)
   z)))) ?_ ?_
 ·rintro u hu σ H' ⟨rfl,rfl⟩
  refine⟨_,rfl,c,1,2,rfl,by decide,by decide,by decide,fun r1 a0 a1=>?_⟩
  refine⟨_,rfl,c,0,3,rfl,by decide,by decide,by decide,fun r2 b0 b1=>⟨1,r2,rfl,rfl,?_⟩⟩
  refine⟨_,rfl,c,12,8,rfl,by decide,by decide,by decide,fun r3 d0 d1=>⟨rfl,_,rfl,yw (fun _=>?_) (fun _=>?_)⟩⟩
  ·refine⟨by show 2<=sizeLine;decide,fun t ht=>⟨t,_,rfl,vW.of zj,rfl,_,_,rfl,_,_,rfl,rfl,?_⟩⟩
   exact hu _ _ ⟨Same.new ht _,0,4,_,_,_,_,by decide,rfl⟩
  ·obtain⟨f,rfl⟩:∃f:Nat,r1=(f:Int):=⟨r1.toNat,by omega⟩
   obtain⟨z,rfl⟩:∃z:Nat,r2=(z:Int):=⟨r2.toNat,by omega⟩
   refine hu _ _ ⟨Same.refl _,f,1+z,none,none,none,none,?_,?_⟩
   ·have f2:f=0\/f=1:=by omega
    have z3:z=0\/z=1\/z=2:=by omega
    rcases f2 with rfl | rfl<;>rcases z3 with rfl | rfl | rfl<;>decide
   ·show [some (V.int c),some (V.int (f:Nat)),some (V.int (1+(z:Int))),none,none,none,none]=_
    rw[show(1+(z:Int))=((1+z:Nat):Int) by omega]
 refine zqe (fun σ H'=>Same H H'/\∃(is:List Nat) (v1 v2:Option V) (f4 f5 f6:Option V),is.Nodup/\(∀i∈is,i<4)/\is≠[]/\is.length<=4/\σ=[some (.int c),v1,v2,some (.str (nmS is)),f4,f5,f6]) (fun t z=>(zf (zF (i:=3) xV.nd rfl (Or.inl rfl) (U6 zr4 zZ (V7 (pv 1)) (V7 (zQ wU (pv 1) (pv 2)))))
   (zf (yP (PW.pt (znB (zP wZ (pv 2) zu (zY _)) (zll (zP wZ (zx yp hr rfl T.yI T.yx.2 T.yH .nil zB (za (pv 0) (za zu (za zu zc)))) zu (zY _))))) (zp (zF (i:=3) xV.nd rfl (Or.inl rfl) (zQ zjH (yj JL (pv 3) zu (fun _ _=>rfl)) (yj JL (pv 3) zu (fun _ _=>rfl))))) z8)
   z))) ?_ ?_
 ·rintro u hu σ H' ⟨g,f,z,f3,f4,f5,f6,hfz,rfl⟩
  have sl:Txt.slice (Str.ofString "abcd") (some ((f:Nat):Int)) (some (((f:Nat):Int)+((z:Nat):Int)))=nmS (List.range' f z):=by
   simp only[List.mem_cons,Prod.mk.injEq,zC9,or_false] at hfz
   rcases hfz with ⟨rfl,rfl⟩ | ⟨rfl,rfl⟩ | ⟨rfl,rfl⟩ | ⟨rfl,rfl⟩ | ⟨rfl,rfl⟩ | ⟨rfl,rfl⟩ | ⟨rfl,rfl⟩<;>decide +kernel
  have fz:0<z/\f+z<=4/\(z=3->f=0\/f=1):=by
   simp only[List.mem_cons,Prod.mk.injEq,zC9,or_false] at hfz
   omega
  refine⟨_,rfl,_,rfl,_,rfl,_,rfl,_,_,rfl,rfl,_,rfl,_,rfl,by show(Str.ofString "abcd").length<=sizeLine;decide,?_⟩
  rw[sl]
  have nd:(List.range' f z).Nodup:=List.nodup_range'
  have l4:∀i∈List.range' f z,i<4:=fun i hi=>by have:=List.mem_range'_1.mp hi;omega
  have ne:List.range' f z≠[]:=fun e=>by have:=congrArg List.length e;rw[List.length_range'] at this;have:z=0:=this;omega
  have go:u _ [some (.int c),some (.int (f:Nat)),some (.int (z:Nat)),some (.str (nmS (List.range' f z))),f4,f5,f6] H':=hu _ _ ⟨g,List.range' f z,_,_,_,_,_,nd,l4,ne,by rw[List.length_range'];omega,rfl⟩
  refine⟨_,rfl,rfl,_,rfl,yw (fun c3=>?_) (fun _=>YX go)⟩
  have z3:z=3:=by
   have:=of_decide_eq_true c3
   injection this
   omega
  subst z3
  refine⟨_,rfl,c,14,3,rfl,by decide,by decide,by decide,fun r4 _ _=>⟨rfl,_,rfl,yw (fun _=>?_) (fun _=>go)⟩⟩
  have e3:List.range' f 3=[f,f+1,f+2]:=rfl
  rw[e3]
  refine⟨_,rfl,_,_,_,rfl,rfl,by rw[zaK];show 3<=sizeLine;decide,zka (k:=0) rfl,_,rfl,_,_,_,rfl,rfl,by rw[zaK];show 3<=sizeLine;decide,zka (k:=2) rfl,_,_,rfl,rfl,by show 2<=sizeLine;decide,?_⟩
  refine hu _ _ ⟨g,[f,f+2],some (.int (f:Nat)),some (.int (3:Nat)),f4,f5,f6,?_,?_,List.cons_ne_nil _ _,by show 2<=4;decide,?_⟩
  ·rw[List.nodup_cons];exact⟨fun h=>by have:=List.mem_singleton.mp h;omega,by rw[List.nodup_cons];exact⟨zC9,List.nodup_nil⟩⟩
  ·intro i hi
   rcases List.mem_cons.mp hi with z | z
   ·omega
   ·have:=List.mem_singleton.mp z;omega
  ·have f01:=fz.2.2 rfl
   rcases f01 with rfl | rfl<;>rfl
 refine⟨_,(zf (zF (i:=4) xV.nd rfl (Or.inl rfl) (xq zc))
   (zf (wL PassesOwn.never rfl (vX rfl T.Zi (za (zH zgW rfl T.xu yr (za (pv 3) zc)) zc)) (z9 (i:=5) xV.nd rfl (Or.inl rfl)) (zf (zF (i:=6) xV.nd rfl (Or.inl rfl) (yj JL zZ (vG PySem.F.plainAttrs_str PySem.F.slot_str_index PySem.F.type_str_index zbD zZ (za (yj JL (pv 3) (pv 5) (fun _ _=>rfl)) zc)) (fun _ _=>rfl)))
   (zf (yE (vG PySem.F.plainAttrs_list PySem.F.slot_list_insert PySem.F.type_list_insert zge (pv 4) (za (zQ YW (zx yp hr rfl T.yI T.yx.2 T.yH .nil zB (za (pv 0) (za (zQ wU zu (zQ N8 zu (pv 5))) (za zu zc)))) (zQ wU (zH zG rfl T.xu yr (za (pv 4) zc)) zu)) (za (yj JL (pv 3) (pv 5) (fun _ _=>rfl)) zc))))
   (zp (yE (vG PySem.F.plainAttrs_list PySem.F.slot_list_insert PySem.F.type_list_insert zge (pv 4) (za (zQ YW (zx yp hr rfl T.yI T.yx.2 T.yH .nil zB (za (pv 0) (za (zQ wU zu (zQ N8 zu (pv 5))) (za zu zc)))) (zQ wU (zH zG rfl T.xu yr (za (pv 4) zc)) zu)) (za (pv 6) zc))))))))
   (zp (zK (pv 4))))),?_⟩
 rintro σ H' ⟨g0,is,v1,v2,f4,f5,f6,nd,l4,ne,len,rfl⟩
 refine⟨by show 0<=sizeLine;decide,fun l hl=>?_⟩
 have fl:H l=none:=g0.free hl
 refine⟨_,rfl,_,rfl,by rw[zaK];exact zC1 (zN (by omega)),_,rfl,?_⟩
 rw[zaK]
 refine⟨by omega,by omega,?_⟩
 rw[zDm]
 refine Z2 (fun i σ H'=>Same H H'/\∃(os:List Str) (f5 f6:Option V),H' l=some (.lst (os.map V.str))/\Mks (is.take i) os/\os.length=2*i/\σ=[some (.int c),v1,v2,some (.str (nmS is)),some (.ref l),f5,f6]) ⟨g0.trans (Same.new hl _),[],_,_,zj,⟨List.nodup_nil,fun x=>⟨(fun h=>by cases h),(fun⟨i,h,_⟩=>by cases h)⟩⟩,rfl,rfl⟩ ?_ ?_
 ·rintro i σ H' hi ⟨g,os,f5,f6,hl',mk,lo,rfl⟩
  obtain⟨j,hj⟩:∃j,is[i]?=some j:=⟨_,zCJ hi⟩
  have j4:=l4 j (zCN hj)
  obtain⟨rest,hx⟩:=JV j4
  have t4:∀i'∈is.take i,i'<4:=fun i' h=>l4 i' (List.mem_of_mem_take h)
  have jn:j∉is.take i:=fun h=>by
   have e:=nd
   rw[<-List.take_append_drop i is] at e
   have z:=(List.nodup_append.mp e).2.2 j h j (by
    rw[List.drop_eq_getElem_cons hi]
    have:is[i]=j:=(zCL.mp hj).2
    rw[this];exact zC2)
   exact z rfl
  have e2:(0:Int)+(i:Nat)=((i:Nat):Int):=by omega
  have nam:atI (nmS is).cps.toList ((i:Nat):Int)=some (97+j):=zka hj
  have nml:(nmS is).length<=sizeLine:=by rw[zaK];exact zC1 (zN (by omega))
  refine⟨rfl,_,rfl,_,rfl,_,_,_,rfl,congrArg V.int e2,nml,nam,_,_,j,rest,rfl,rfl,hx,_,_,_,rfl,rfl,by show(Str.ofString "efgh").length<=sizeLine;decide,zhe j4,?_⟩
  have k1:xM j∉os:=fun h=>jn ((mk.has t4 j4).1.mp h)
  have k2:uG j∉os:=fun h=>jn ((mk.has t4 j4).2.mp h)
  have lmap:(os.map V.str).length=os.length:=zCI _
  refine⟨_,rfl,.inl ⟨rfl,_,zM.of hl'⟩,?_⟩
  refine⟨_,rfl,_,rfl,2,_,rfl,rfl,.inl ⟨by decide,by decide⟩,2,_,rfl,rfl,c,2+2*i,5040,?_,by omega,by decide,by decide,fun r1 a0 a1=>?_⟩
  ·show [V.int c,V.int (2+2*(0+(i:Int))),V.int 5040]=[V.int c,V.int ((2+2*i:Nat):Int),V.int 5040]
   rw[show(2+2*(0+(i:Int)))=((2+2*i:Nat):Int) by omega]
  refine⟨_,rfl,l,_,rfl,.inl (zM.of hl'),_,1,rfl,rfl,r1,_,rfl,rfl,by show(0:Int)<((os.map V.str).length:Int)+1;omega,?_⟩
  refine⟨_,rfl,_,rfl,_,_,_,rfl,congrArg V.int e2,nml,nam,?_⟩
  have m0:0<=r1%(((os.map V.str).length:Int)+1):=zDs _ (by omega)
  have m1:r1%(((os.map V.str).length:Int)+1)<((os.map V.str).length:Int)+1:=zDo _ (by omega)
  generalize hj1:r1%(((os.map V.str).length:Int)+1)=j1 at m0 m1
  refine⟨l,os.map V.str,j1,_,rfl,by rw[<-hj1],hl',m0,by omega,by rw[lmap];exact zN (by omega),?_⟩
  have G1:Same H (upd H' l (.lst ((os.map V.str).take j1.toNat++V.str (⟨#[97+j]⟩:Str)::(os.map V.str).drop j1.toNat))):=g.over fl _
  have E1:upd H' l (.lst ((os.map V.str).take j1.toNat++V.str (⟨#[97+j]⟩:Str)::(os.map V.str).drop j1.toNat)) l=some (.lst ((os.take j1.toNat++xM j::os.drop j1.toNat).map V.str)):=by
   rw[zj];simp;rfl
  have n1:(os.take j1.toNat++xM j::os.drop j1.toNat).Nodup:=zgA mk.1 k1
  have l1:(os.take j1.toNat++xM j::os.drop j1.toNat).length=os.length+1:=zlU
  have x1:∀x,x∈os.take j1.toNat++xM j::os.drop j1.toNat↔x=xM j\/x∈os:=fun x=>mem_mid
  generalize upd H' l (.lst ((os.map V.str).take j1.toNat++V.str (⟨#[97+j]⟩:Str)::(os.map V.str).drop j1.toNat))=H1 at G1 E1
  generalize os.take j1.toNat++xM j::os.drop j1.toNat=o1 at E1 n1 l1 x1
  have lm1:(o1.map V.str).length=o1.length:=zCI _
  refine⟨_,rfl,.inl ⟨rfl,_,zM.of E1⟩,?_⟩
  refine⟨_,rfl,_,rfl,2,_,rfl,rfl,.inl ⟨by decide,by decide⟩,3,_,rfl,rfl,c,3+2*i,5040,?_,by omega,by decide,by decide,fun r2 b0 b1=>?_⟩
  ·show [V.int c,V.int (3+2*(0+(i:Int))),V.int 5040]=[V.int c,V.int ((3+2*i:Nat):Int),V.int 5040]
   rw[show(3+2*(0+(i:Int)))=((3+2*i:Nat):Int) by omega]
  refine⟨_,rfl,l,_,rfl,.inl (zM.of E1),_,1,rfl,rfl,r2,_,rfl,rfl,by show(0:Int)<((o1.map V.str).length:Int)+1;omega,_,rfl,?_⟩
  have m2:0<=r2%(((o1.map V.str).length:Int)+1):=zDs _ (by omega)
  have m3:r2%(((o1.map V.str).length:Int)+1)<((o1.map V.str).length:Int)+1:=zDo _ (by omega)
  generalize hj2:r2%(((o1.map V.str).length:Int)+1)=j2 at m2 m3
  refine⟨l,o1.map V.str,j2,_,rfl,by rw[<-hj2],E1,m2,by omega,by rw[lm1];exact zN (by omega),?_⟩
  refine⟨G1.over fl _,o1.take j2.toNat++uG j::o1.drop j2.toNat,_,_,?_,⟨?_,fun x=>?_⟩,?_,rfl⟩
  ·rw[zj];simp;rfl
  ·exact zgA n1 fun h=>((x1 _).mp h).elim (fun e=>Wx j4 e.symm) k2
  ·rw[mem_mid,x1,mk.2,yW hj]
   constructor
   ·rintro (e | e | ⟨i',hi',e⟩)
    ·exact⟨j,zCZ _ (List.mem_singleton.mpr rfl),.inr e⟩
    ·exact⟨j,zCZ _ (List.mem_singleton.mpr rfl),.inl e⟩
    ·exact⟨i',List.mem_append_left _ hi',e⟩
   ·rintro⟨i',hi',e⟩
    rcases List.mem_append.mp hi' with z | z
    ·exact .inr (.inr ⟨i',z,e⟩)
    ·rw[List.mem_singleton.mp z] at e
     rcases e with e | e
     ·exact .inr (.inl e)
     ·exact .inl e
  ·rw[zlU,l1];omega
 ·rintro σ H' ⟨g,os,f5,f6,hl',mk,lo,rfl⟩
  rw[zDb] at mk
  obtain⟨w1,w2,w3⟩:=mk.world l4 ne
  exact⟨_,rfl,q l H' os g hl' w1 w2 w3⟩
theorem zdm (T:Txt P w K mg a)(wj:zA P w K mg base zW k a.wC a.wD ["order"] (Rk K)):zA P w K mg base zW (k+1) a.Yi a.Yj ["order"] (zem K):=by
 refine T.W5.ok wA (fun vs H Q E h=>?_) (fun cdv A outer s H vs Q E hr h=>?_)
 ·obtain⟨ol,os,rfl,_⟩:=h
  rfl
 obtain⟨ol,os,rfl,hol,hW,q⟩:=h
 refine⟨_,(zf (zF (i:=1) wA.nd rfl (Or.inl rfl) (yZ (za zZ zc)))
   (zf (zF (i:=2) wA.nd rfl (Or.inl rfl) (yZ (za zZ zc)))
   (zf (wL PassesOwn.never rfl (yU (zx wj hr rfl T.tL T.uy.2 T.tK .nil zB (za (pv 0) zc))) (z9 (i:=3) wA.nd rfl (Or.inl rfl)) (zf (zF (i:=4) wA.nd rfl (Or.inl rfl) (yZ (za zZ (za (yj JL zZ (vG PySem.F.plainAttrs_str PySem.F.slot_str_index PySem.F.type_str_index zbD zZ (za (pv 3) zc)) (fun _ _=>rfl)) zc))))
   (zf (zF (i:=2) wA.nd rfl (Or.inl rfl) (yZ (za zZ (za (pv 2) (za (yZ (za zZ (za (yZ (za zZ (za (pv 4) (za (yZ (za zZ (za (yZ (za zZ (za (pv 3) zc))) (za (pv 1) zc)))) zc)))) zc))) zc)))))
   (zp (zF (i:=1) wA.nd rfl (Or.inl rfl) (yZ (za zZ (za (pv 1) (za (yZ (za zZ (za (pv 3) zc))) zc)))))))))
   (zp (zK (pv 2)))))),?_⟩
 refine⟨by show 1<=sizeLine;decide,fun p1 hp1=>?_⟩
 have g1:=Same.new hp1 (.tup [.str "yes"])
 have i1:RQ (upd H p1 (.tup [.str "yes"])) (.c0 true) p1:=zj
 generalize upd H p1 (.tup [.str "yes"])=H1 at g1 i1
 refine⟨by show 1<=sizeLine;decide,fun p2 hp2=>?_⟩
 have g2:=Same.new hp2 (.tup [.str "yes"])
 have i2:RQ (upd H1 p2 (.tup [.str "yes"])) (.c0 true) p2:=zj
 have i1:=i1.mono (yC.of g2)
 generalize upd H1 p2 (.tup [.str "yes"])=H2 at g2 i1 i2
 have g12:=g1.trans g2
 refine⟨_,rfl,ol,os,rfl,g12.seq hol,fun nl H3 g3 _ hnl=>?_⟩
 have g13:=g12.trans g3
 have n4:=uT os
 refine⟨nl,rfl,⟨_,zM.of hnl⟩,?_⟩
 refine uf (xs:=(yq os).map V.str) (fun i σ H'=>Same H3 H'/\∃(pc pf:Addr) (sc sf:Sn) (f3 f4:Option V),RQ H' sc pc/\RQ H' sf pf/\sc.Ub os/\sf.Ub os/\sc.depth<=1+i/\sf.depth<=4+i/\sc.count<=1+2*i/\sf.count<=1+15*i/\σ=[some (.ref ol),some (.ref pc),some (.ref pf),f3,f4]) ⟨Same.refl _,p1,p2,.c0 true,.c0 true,_,_,i1.mono (yC.of g3),i2.mono (yC.of g3),trivial,trivial,by decide,by decide,by decide,by decide,rfl⟩ (fun i σ H' _ ⟨g,_⟩=>zM.of (g _ _ hnl)) ?_ ?_
 ·rintro i x σ H' hx ⟨g,pc,pf,sc,sf,f3,f4,ic,if_,oc,of_,dc,df,cc,cf,rfl⟩
  rw[zCK] at hx
  cases hm:(yq os)[i]? with
  | none=>rw[hm] at hx;cases hx
  | some y =>
   rw[hm] at hx
   cases hx
   have hi:=(zCL.mp hm).1
   obtain⟨yo,j,j4,rfl⟩:=Xu (zCN hm)
   have lo:uG j∈os:=by
    have z:=hW (xM j,uG j) (zCN (Ms j4))
    rw[contains_iff,contains_iff] at z
    exact of_decide_eq_true (z.symm.trans (decide_eq_true yo))
   obtain⟨rest,hx⟩:=JV j4
   refine⟨rfl,_,rfl,_,_,j,rest,rfl,rfl,hx,_,_,_,rfl,rfl,by show(Str.ofString "efgh").length<=sizeLine;decide,zhe j4,by show 2<=sizeLine;decide,fun q1 hq1=>?_⟩
   have h1:=Same.new hq1 (.tup [.str "mark", .str (uG j)])
   have e1:RQ (upd H' q1 (.tup [.str "mark", .str (uG j)])) (.mk (uG j)) q1:=zj
   refine⟨_,rfl,_,rfl,_,rfl,by show 2<=sizeLine;decide,fun q2 hq2=>?_⟩
   have h2:=Same.new hq2 (.tup [.str "mark", .str (xM j)])
   refine⟨_,rfl,by show 3<=sizeLine;decide,fun q3 hq3=>⟨by show 3<=sizeLine;decide,fun q4 hq4=>⟨by show 2<=sizeLine;decide,fun q5 hq5=>⟨by show 3<=sizeLine;decide,fun q6 hq6=>?_⟩⟩⟩⟩
   have h3:=Same.new hq3 (.tup [.str "either", .ref q2,.ref pc])
   have h4:=Same.new hq4 (.tup [.str "either", .ref q1,.ref q3])
   have h5:=Same.new hq5 (.tup [.str "not", .ref q4])
   have h6:=Same.new hq6 (.tup [.str "and", .ref pf,.ref q5])
   have h36:=h3.trans (h4.trans (h5.trans h6))
   have h16:=h1.trans (h2.trans h36)
   refine⟨_,rfl,_,rfl,by show 2<=sizeLine;decide,fun q7 hq7=>⟨by show 3<=sizeLine;decide,fun q8 hq8=>?_⟩⟩
   have h7:=Same.new hq7 (.tup [.str "mark", .str (xM j)])
   have h8:=Same.new hq8 (.tup [.str "and", .ref pc,.ref q7])
   have h78:=h7.trans h8
   have h18:=h16.trans h78
   refine⟨g.trans h18,q8,q6,.b2 0 sc (.mk (xM j)),.b2 0 sf (.nt (.b2 2 (.mk (uG j)) (.b2 2 (.mk (xM j)) sc))),_,_,⟨pc,q7,zj,ic.mono (yC.of h18),h8 _ _ zj⟩,⟨pf,q5,h78 _ _ zj,if_.mono (yC.of h18),q4,h78 _ _ (h6 _ _ zj),q1,q3,h78 _ _ (h6 _ _ (h5 _ _ zj)),h78 _ _ (h36 _ _ (h2 _ _ zj)),q2,pc,h78 _ _ (h6 _ _ (h5 _ _ (h4 _ _ zj))),h78 _ _ (h36 _ _ zj),ic.mono (yC.of h18)⟩,⟨oc,yo⟩,⟨of_,lo,yo,oc⟩,?_,?_,?_,?_,rfl⟩
   ·show 1+max sc.depth 1<=_;omega
   ·show 1+max sf.depth (1+(1+max 1 (1+max 1 sc.depth)))<=_;omega
   ·show 1+(sc.count+1)<=_;omega
   ·show 1+(sf.count+(1+(1+(1+(1+(1+sc.count))))))<=_;omega
 ·rintro σ H' ⟨g,pc,pf,sc,sf,f3,f4,ic,if_,oc,of_,dc,df,cc,cf,rfl⟩
  have el:((yq os).map V.str).length<=4:=by rw[zCI];exact n4
  exact⟨_,rfl,q pf H' sf (g13.trans g) ⟨if_,of_,by omega,by omega⟩⟩
theorem zfN (T:Txt P w K mg a)(yp:zA P w K mg base zW k a.wO a.wQ ["cell", "k", "bound"] Mf)(wj:zA P w K mg base zW k a.wC a.wD ["order"] (Rk K)):zA P w K mg base zW (k+1) a.X4 a.X5 ["order", "cell"] (ziE K):=by
 refine T.T8.ok v9 (fun vs H Q E h=>?_) (fun cdv A outer s H vs Q E hr h=>?_)
 ·obtain⟨ol,os,c,rfl,_⟩:=h
  rfl
 obtain⟨ol,os,c,rfl,hol,q⟩:=h
 refine⟨_,(zf (zF (i:=2) v9.nd rfl (Or.inl rfl) (yZ (za zZ zc)))
   (zf (zF (i:=3) v9.nd rfl (Or.inl rfl) (zx wj hr rfl T.tL T.uy.2 T.tK .nil zB (za (pv 0) zc)))
   (zf (wL PassesOwn.never rfl (vX rfl T.Zi (za (zH zG rfl T.xu yr (za (pv 3) zc)) zc)) (z9 (i:=4) v9.nd rfl (Or.inl rfl)) (zf (zF (i:=5) v9.nd rfl (Or.inl rfl) (yZ (za zZ (za (yj yV (pv 3) (pv 4) (fun _ _=>rfl)) zc))))
   (zp (zF (i:=2) v9.nd rfl (Or.inl rfl) (yZ (za zZ (za (pv 2) (za (yj yV (xq (za (pv 5) (za (yZ (za zZ (za (pv 5) zc))) zc))) (zx yp hr rfl T.yI T.yx.2 T.yH .nil zB (za (pv 1) (za (zQ wU zu (pv 4)) (za zu zc)))) (fun _ _=>rfl)) zc))))))))
   (zp (zK (yj yV (xq (za (pv 2) (za (yZ (za zZ (za (pv 2) zc))) zc))) (zx yp hr rfl T.yI T.yx.2 T.yH .nil zB (za (pv 1) (za zu (za zu zc)))) (fun _ _=>rfl))))))),?_⟩
 refine⟨by show 1<=sizeLine;decide,fun p1 hp1=>?_⟩
 have g1:=Same.new hp1 (.tup [.str "yes"])
 have i1:RQ (upd H p1 (.tup [.str "yes"])) (.c0 true) p1:=zj
 generalize upd H p1 (.tup [.str "yes"])=H1 at g1 i1
 refine⟨_,rfl,ol,os,rfl,g1.seq hol,fun nl H3 g3 _ hnl=>?_⟩
 have g13:=g1.trans g3
 have n4:=uT os
 have lnm:((yq os).map V.str).length=(yq os).length:=zCI _
 refine⟨_,rfl,nl,_,rfl,.inl (zM.of hnl),_,rfl,by omega,by omega,?_⟩
 rw[zDm,lnm]
 refine Z2 (fun i σ H'=>Same H3 H'/\∃(pf:Addr) (sf:Sn) (f4 f5:Option V),RQ H' sf pf/\sf.Ub (yq os)/\sf.depth<=2+i/\sf.count<=1+3*i/\σ=[some (.ref ol),some (.int c),some (.ref pf),some (.ref nl),f4,f5]) ⟨Same.refl _,p1,.c0 true,_,_,i1.mono (yC.of g3),trivial,by decide,by decide,rfl⟩ ?_ ?_
 ·rintro i σ H' hi ⟨g,pf,sf,f4,f5,if_,of_,df,cf,rfl⟩
  obtain⟨y,hm⟩:∃y,(yq os)[i]?=some y:=⟨_,zCJ hi⟩
  have e2:(0:Int)+(i:Nat)=((i:Nat):Int):=by omega
  refine⟨_,rfl,_,rfl,nl,_,_,_,rfl,congrArg V.int e2,zM.of (g _ _ hnl),wk (by rw[zCK,hm];rfl),by show 2<=sizeLine;decide,fun q1 hq1=>?_⟩
  have h1:=Same.new hq1 (.tup [.str "mark", .str y])
  refine⟨_,rfl,_,rfl,_,rfl,by show 2<=sizeLine;decide,fun q2 hq2=>⟨by show 2<=sizeLine;decide,fun ll hll=>?_⟩⟩
  have h2:=Same.new hq2 (.tup [.str "not", .ref q1])
  have h3:=Same.new hll (.lst [.ref q1,.ref q2])
  refine⟨_,rfl,_,rfl,20,_,rfl,rfl,c,20+i,2,?_,by omega,by decide,by decide,fun r r0 r1=>?_⟩
  ·show [V.int c,V.int (20+(0+(i:Int))),V.int 2]=[V.int c,V.int ((20+i:Nat):Int),V.int 2]
   rw[show(20+(0+(i:Int)))=((20+i:Nat):Int) by omega]
  have h13:=h1.trans (h2.trans h3)
  have pick:∃(qq:Addr) (ss:Sn),atI [V.ref q1,V.ref q2] r=some (.ref qq)/\RQ (upd (upd (upd H' q1 (.tup [.str "mark", .str y])) q2 (.tup [.str "not", .ref q1])) ll (.lst [.ref q1,.ref q2])) ss qq/\ss.Ub (yq os)/\ss.depth<=2/\ss.count<=2:=by
   rcases (by omega:r=0\/r=1) with rfl | rfl
   ·exact⟨q1,.mk y,at0,h3 _ _ (h2 _ _ zj),zCN hm,by show 1<=2;decide,by show 1<=2;decide⟩
   ·exact⟨q2,.nt (.mk y),at1,⟨q1,h3 _ _ zj,h3 _ _ (h2 _ _ zj)⟩,zCN hm,by show 1+1<=2;decide,by show 1+1<=2;decide⟩
  obtain⟨qq,ss,ea,is_,os_,ds,cs⟩:=pick
  refine⟨ll,_,_,_,rfl,rfl,zM.of zj,ea,by show 3<=sizeLine;decide,fun q3 hq3=>?_⟩
  have h4:=Same.new hq3 (.tup [.str "and", .ref pf,.ref qq])
  refine⟨g.trans (h13.trans h4),q3,.b2 0 sf ss,_,_,⟨pf,qq,zj,if_.mono (yC.of (h13.trans h4)),is_.mono (yC.of h4)⟩,⟨of_,os_⟩,?_,?_,rfl⟩
  ·show 1+max sf.depth ss.depth<=_;omega
  ·show 1+(sf.count+ss.count)<=_;omega
 ·rintro σ H' ⟨g,pf,sf,f4,f5,if_,of_,df,cf,rfl⟩
  refine⟨_,rfl,_,rfl,by show 2<=sizeLine;decide,fun q2 hq2=>⟨by show 2<=sizeLine;decide,fun ll hll=>?_⟩⟩
  have h2:=Same.new hq2 (.tup [.str "not", .ref pf])
  have h3:=Same.new hll (.lst [.ref pf,.ref q2])
  refine⟨_,rfl,c,25,2,rfl,by decide,by decide,by decide,fun r r0 r1=>?_⟩
  rcases (by omega:r=0\/r=1) with rfl | rfl
  ·refine⟨ll,_,_,_,rfl,rfl,zM.of zj,at0,?_⟩
   exact q pf _ sf (g13.trans (g.trans (h2.trans h3))) ⟨if_.mono (yC.of (h2.trans h3)),of_,by omega,by omega⟩
  ·refine⟨ll,_,_,_,rfl,rfl,zM.of zj,at1,?_⟩
   exact q q2 _ (.nt sf) (g13.trans (g.trans (h2.trans h3))) ⟨⟨pf,h3 _ _ zj,if_.mono (yC.of (h2.trans h3))⟩,of_,by show 1+sf.count<=_;omega,by show 1+sf.depth<=_;omega⟩
theorem zjs (T:Txt P w K mg a)(yM:zA P w K mg base zW k a.yJ a.yK ["script", "k"] (Kc K))(yp:zA P w K mg base zW k a.wO a.wQ ["cell", "k", "bound"] Mf)(tD:zA P w K mg base zW k a.wM a.wN ["script", "at", "many", "order"] (U9 K))(zfO:zA P w K mg base zW k a.Vl a.Vm ["cell"] zlV)(zcA:zA P w K mg base zW k a.Yi a.Yj ["order"] (zem K)):zA P w K mg base zW (k+1) a.Uq a.Ur ["script"] (zov K):=by
 refine T.Pz.ok Vc (fun vs H Q E h=>?_) (fun cdv A outer s H vs Q E hr h=>?_)
 ·obtain⟨sc,ns,rfl,_⟩:=h
  rfl
 obtain⟨sc,ns,rfl,hS,q⟩:=h
 refine⟨_,(zf (zF (i:=1) Vc.nd rfl (Or.inl rfl) (zx zfO hr rfl T.Jv T.RK.2 T.Ju .nil zB (za (zx yM hr rfl T.xH T.yL.2 T.xG .nil zB (za (pv 0) (za zu zc))) zc)))
   (zf (zF (i:=2) Vc.nd rfl (Or.inl rfl) (zx tD hr rfl T.Yp T.uZ.2 T.Yo .nil zB (za (pv 0) (za zu (za (zQ wU zu (zQ YW (zx yM hr rfl T.xH T.yL.2 T.xG .nil zB (za (pv 0) (za zu zc))) zu)) (za (pv 1) zc))))))
   (zf (yP (zP wZ (zx yp hr rfl T.yI T.yx.2 T.yH .nil zB (za (zx yM hr rfl T.xH T.yL.2 T.xG .nil zB (za (pv 0) (za zu zc))) (za zu (za zu zc)))) zu (zY _)) (zp (zF (i:=2) Vc.nd rfl (Or.inl rfl) (zx zcA hr rfl T.Qs T.W5.2 T.Qq .nil zB (za (pv 1) zc)))) z8)
   (zp (zK (yZ (za (pv 1) (za (pv 2) zc)))))))),?_⟩
 refine⟨_,rfl,sc,ns,0,rfl,hS,uP ns 0,rfl,fun ol H1 os g1 hol ho hW hn=>?_⟩
 have o8:=ho.le
 have m0:0<=uP ns 1%6:=zDs _ (by decide)
 have m1:uP ns 1%6<6:=zDo _ (by decide)
 have em:(2:Int)+uP ns 1%6=(((2+uP ns 1%6).toNat:Nat):Int):=by omega
 have zlc:∀{s:Sn} {m:Nat},s.depth<=m->m<=7->s.count<=200:=fun {s m} h1 h2=>by
  have h3:=Sn.Mp s
  have h4:2^s.depth<=2^7:=zDe (by decide) (by omega)
  have h5:2^7=128:=rfl
  omega
 have hS1:=g1.seq hS
 refine⟨_,rfl,_,rfl,sc,ns,1,rfl,hS1,uP ns 1,6,rfl,rfl,(show(0:Int)<6 by decide),2,_,rfl,rfl,_,rfl,sc,ol,ns,2,(2+uP ns 1%6).toNat,os,?_,hS1,zM.of hol,ho.pos,o8,by omega,by omega,by decide,fun p1 H2 s1 g2 is1 in1 d1=>?_⟩
 ·show [V.ref sc,V.int 2,V.int (2+uP ns 1%6),V.ref ol]=_
  rw[em];rfl
 have hS2:=g2.seq hS1
 refine⟨_,rfl,sc,ns,0,rfl,hS2,_,13,8,rfl,by decide,by decide,by decide,fun r r0 r1=>⟨rfl,_,rfl,yw (fun _=>?_) (fun _=>?_)⟩⟩
 ·refine⟨_,rfl,ol,os,rfl,zM.of (g2 _ _ hol),hW,fun p2 H3 s2 g3 sp=>?_⟩
  refine⟨_,rfl,_,rfl,by show 2<=sizeLine;decide,fun t ht=>?_⟩
  have g4:=Same.new ht (.tup [.ref ol,.ref p2])
  exact q t ol p2 _ os s2 (g1.trans (g2.trans (g3.trans g4))) zj (g4 _ _ (g3 _ _ (g2 _ _ hol))) ho hW hn (sp.mono (yC.of g4))
 ·refine⟨_,rfl,_,rfl,by show 2<=sizeLine;decide,fun t ht=>?_⟩
  have g4:=Same.new ht (.tup [.ref ol,.ref p1])
  exact q t ol p1 _ os s1 (g1.trans (g2.trans g4)) zj (g4 _ _ (g2 _ _ hol)) ho hW hn (VB.mono ⟨is1,in1,zlc d1 (by omega),by omega⟩ (yC.of g4))
theorem zbk (T:Txt P w K mg a)(yM:zA P w K mg base zW k a.yJ a.yK ["script", "k"] (Kc K))(yp:zA P w K mg base zW k a.wO a.wQ ["cell", "k", "bound"] Mf)(tD:zA P w K mg base zW k a.wM a.wN ["script", "at", "many", "order"] (U9 K))(wj:zA P w K mg base zW k a.wC a.wD ["order"] (Rk K))(zfa:zA P w K mg base zW k a.X4 a.X5 ["order", "cell"] (ziE K)):zA P w K mg base zW (k+1) a.Zd a.Ze ["script", "at", "order"] (zcP K):=by
 refine T.vP.ok K6 (fun vs H Q E h=>?_) (fun cdv A outer s H vs Q E hr h=>?_)
 ·obtain⟨sc,ol,ns,t,os,rfl,_⟩:=h
  rfl
 obtain⟨sc,ol,ns,t,os,rfl,hS,hol,o8,hn,t40,q⟩:=h
 refine⟨_,(zf (yP (zP wZ (zx yp hr rfl T.yI T.yx.2 T.yH .nil zB (za (zx yM hr rfl T.xH T.yL.2 T.xG .nil zB (za (pv 0) (za zu zc))) (za zu (za zu zc)))) zu (zY _)) (zp (zK (zx zfa hr rfl T.Le T.T8.2 T.Ld .nil zB (za (pv 2) (za (zx yM hr rfl T.xH T.yL.2 T.xG .nil zB (za (pv 0) (za (pv 1) zc))) zc))))) z8)
   (zp (zK (zx tD hr rfl T.Yp T.uZ.2 T.Yo .nil zB (za (pv 0) (za (zQ wU (pv 1) zu) (za (zQ wU zu (zQ YW (zx yM hr rfl T.xH T.yL.2 T.xG .nil zB (za (pv 0) (za (pv 1) zc))) zu)) (za (zx wj hr rfl T.tL T.uy.2 T.tK .nil zB (za (pv 2) zc)) zc)))))))),?_⟩
 have zlc:∀{s:Sn} {m:Nat},s.depth<=m->m<=7->s.count<=200:=fun {s m} h1 h2=>by
  have h3:=Sn.Mp s
  have h4:2^s.depth<=2^7:=zDe (by decide) (by omega)
  have h5:2^7=128:=rfl
  omega
 refine⟨_,rfl,sc,ns,0,rfl,hS,_,13,8,rfl,by decide,by decide,by decide,fun r r0 r1=>⟨rfl,_,rfl,yw (fun _=>?_) (fun _=>?_)⟩⟩
 ·refine⟨_,rfl,_,rfl,_,rfl,sc,ns,t,rfl,hS,ol,os,_,rfl,hol,fun p H1 s1 g1 sp=>?_⟩
  exact q p H1 s1 g1 sp
 ·have m0:0<=uP ns t%6:=zDs _ (by decide)
  have m1:uP ns t%6<6:=zDo _ (by decide)
  have em:(1:Int)+uP ns t%6=(((1+uP ns t%6).toNat:Nat):Int):=by omega
  refine⟨_,rfl,_,rfl,_,1,rfl,rfl,_,rfl,_,rfl,sc,ns,t,rfl,hS,uP ns t,6,rfl,rfl,(show(0:Int)<6 by decide),1,_,rfl,rfl,_,rfl,ol,os,rfl,hol,fun nl H1 g1 _ hnl=>?_⟩
  refine⟨sc,nl,ns,t+1,(1+uP ns t%6).toNat,yq os,?_,g1.seq hS,zM.of hnl,hn,by have:=uT os;omega,by omega,by omega,by omega,fun p1 H2 s1 g2 is1 in1 d1=>?_⟩
  ·show [V.ref sc,V.int ((t:Int)+1),V.int (1+uP ns t%6),V.ref nl]=_
   rw[em];rfl
  exact q p1 H2 s1 (g1.trans g2) ⟨is1,in1,zlc d1 (by omega),by omega⟩
theorem zjt (T:Txt P w K mg a):zA P w K mg base zW (k+1) a.ur a.uw ["size"] Uz:=by
 refine T.Wf.ok Zr (fun vs H Q E h=>?_) (fun cdv A outer s H vs Q E hr h=>?_)
 ·obtain⟨n,rfl,_⟩:=h
  rfl
 obtain⟨n,rfl,n8,q⟩:=h
 refine⟨_,(zf (zF (i:=1) Zr.nd rfl (Or.inl rfl) (xq (za (xq zc) zc)))
   (zf (wL PassesOwn.never rfl (vX rfl T.Zi (za (pv 0) zc)) (z9 (i:=2) Zr.nd rfl (Or.inl rfl)) (zf (zF (i:=3) Zr.nd rfl (Or.inl rfl) (xq zc))
   (zf (wL PassesOwn.never rfl (yU (pv 1)) (z9 (i:=4) Zr.nd rfl (Or.inl rfl)) (zp (yE (vG PySem.F.plainAttrs_list PySem.F.slot_list_extend PySem.F.type_list_extend zga (pv 3) (za (xq (za (zQ (ziD rfl) (pv 4) (xq (za zu zc))) (za (zQ (ziD rfl) (pv 4) (xq (za zu zc))) zc))) zc)))))
   (zp (zF (i:=1) Zr.nd rfl (Or.inl rfl) (pv 3))))))
   (zp (zK (pv 1))))),?_⟩
 have p256:∀i,i<=n->(wK.allR i).length<=256:=fun i hi=>by rw[wK.vZ];exact zC4 (zDe (n:=2) (by decide) (show i<=8 by omega)) (by decide)
 refine⟨by show 0<=sizeLine;decide,fun q0 hq0=>⟨by show 1<=sizeLine;decide,fun l0 hl0=>?_⟩⟩
 have g0:=(Same.new hq0 (.lst [])).trans (Same.new hl0 (.lst [.ref q0]))
 have e2:=(Same.new hl0 (.lst [.ref q0])) q0 (.lst []) zj
 have fl0:H l0=none:=(Same.new hq0 _).free hl0
 refine⟨_,rfl,(n:Int),rfl,by omega,by omega,?_⟩
 rw[zDm]
 refine Z2 (fun i σ H'=>∃(l:Addr) (es:List Addr) (f2 f3 f4:Option V),Same H H'/\H l=none/\H' l=some (.lst (es.map V.ref))/\Paired (ztB H H') es (wK.allR i)/\σ=[some (.int (n:Nat)),some (.ref l),f2,f3,f4])
  ⟨l0,[q0],_,_,_,g0,fl0,zj,.cons ⟨hq0,e2⟩ .nil,rfl⟩ ?_ ?_
 ·rintro i σ H2 hi ⟨l,es,f2,f3,f4,g2,fl,hl,he,rfl⟩
  have el:=xT he
  have lt:=p256 i (by omega)
  refine⟨by show 0<=sizeLine;decide,fun lg hlg=>?_⟩
  have g3:=Same.new hlg (.lst [])
  have flg:H lg=none:=g2.free hlg
  refine⟨_,rfl,l,rfl,⟨_,zM.of (g3 _ _ hl)⟩,?_⟩
  refine uf (xs:=es.map V.ref) (fun m σ H'=>∃(us:List Addr) (f4:Option V),Same H2 H'/\H' lg=some (.lst (us.map V.ref))/\Paired (zom lg H H') us (((wK.allR i).take m).flatMap fun r=>[r++[false],r++[true]])/\σ=[some (.int (n:Nat)),some (.ref l),some (.int (0+(i:Nat))),some (.ref lg),f4])
   ⟨[],_,g3,zj,.nil,rfl⟩ ?_ ?_ ?_
  ·rintro m σ H' _ ⟨us,f4,g,_⟩
   exact zM.of (g _ _ hl)
  ·rintro m x σ H3 hx ⟨us,f4,g,hL0,hu,rfl⟩
   rw[zCK] at hx
   cases hp:es[m]? with
   | none=>rw[hp] at hx;cases hx
   | some p =>
    rw[hp] at hx
    cases hx
    obtain⟨e,hee,fp,hpt⟩:=Yr he hp
    have hp2:=g _ _ hpt
    have eln:=wK.R4 i e (zCN hee)
    have ul:=xT hu
    rw[wK.zbA _ (fun _=>rfl),zC6] at ul
    have gr:Same H3 H3:=Same.refl _
    refine⟨_,rfl,.inl ⟨rfl,_,zM.of hL0⟩,?_⟩
    refine⟨_,rfl,by show 1<=sizeLine;decide,fun a0 ha0=>?_⟩
    have ka0:=Same.new ha0 (.lst [.int 0])
    refine⟨p,a0,_,_,rfl,rfl,zM.of ((gr.trans ka0) _ _ hp2),zM.of zj,by rw[zCI,eln];exact zC4 (show i+1<=9 by omega) (by decide),fun r0 hr0=>?_⟩
    have nr0:r0≠lg:=Ne.symm (zE ((gr.trans ka0) _ _ hL0) hr0)
    have fr0:H r0=none:=(g2.trans (g.trans (gr.trans ka0))).free hr0
    have kb0:=(gr.trans ka0).trans (Same.new hr0 (.lst (yd e++[.int 0])))
    have er0:upd (upd H3 a0 (.lst [.int 0])) r0 (.lst (yd e++[.int 0])) r0=some (.lst (yd (e++[false]))):=by rw[zj];unfold yd;rw[zCW];rfl
    generalize upd (upd H3 a0 (.lst [.int 0])) r0 (.lst (yd e++[.int 0]))=Hb0 at kb0 er0
    refine⟨_,rfl,by show 1<=sizeLine;decide,fun a1 ha1=>?_⟩
    have ka1:=Same.new ha1 (.lst [.int 1])
    refine⟨p,a1,_,_,rfl,rfl,zM.of ((kb0.trans ka1) _ _ hp2),zM.of zj,by rw[zCI,eln];exact zC4 (show i+1<=9 by omega) (by decide),fun r1 hr1=>?_⟩
    have nr1:r1≠lg:=Ne.symm (zE ((kb0.trans ka1) _ _ hL0) hr1)
    have fr1:H r1=none:=(g2.trans (g.trans (kb0.trans ka1))).free hr1
    have kb1:=(kb0.trans ka1).trans (Same.new hr1 (.lst (yd e++[.int 1])))
    have er1:upd (upd Hb0 a1 (.lst [.int 1])) r1 (.lst (yd e++[.int 1])) r1=some (.lst (yd (e++[true]))):=by rw[zj];unfold yd;rw[zCW];rfl
    have kbs:Same Hb0 (upd (upd Hb0 a1 (.lst [.int 1])) r1 (.lst (yd e++[.int 1]))):=(Same.new ha1 (.lst [.int 1])).trans (Same.new hr1 (.lst (yd e++[.int 1])))
    generalize upd (upd Hb0 a1 (.lst [.int 1])) r1 (.lst (yd e++[.int 1]))=Hb1 at kb1 er1 kbs
    refine⟨by show 2<=sizeLine;decide,fun l2 hl2=>?_⟩
    have kc:=kb1.trans (Same.new hl2 (.lst [.ref r0,.ref r1]))
    have hLc:=kc _ _ hL0
    have er0':upd Hb1 l2 (.lst [.ref r0,.ref r1]) r0=some (.lst (yd (e++[false]))):=(Same.new hl2 _) _ _ (by
     have z:Same Hb0 Hb1:=kbs
     exact z _ _ er0)
    have er1':upd Hb1 l2 (.lst [.ref r0,.ref r1]) r1=some (.lst (yd (e++[true]))):=(Same.new hl2 _) _ _ er1
    refine⟨lg,l2,_,_,rfl,rfl,hLc,zj,by rw[zCI];exact zC1 (zN (by show us.length+2<=1000;omega)),?_⟩
    refine⟨us++[r0,r1],_,(g.trans kc).over hlg _,by rw[zj,zCW];rfl,?_,rfl⟩
    rw[yW hee,List.flatMap_append]
    exact Wv (zmK (zj6 hu kc)) (.cons ⟨fr0,nr0,by rw[zJ nr0];exact er0'⟩ (.cons ⟨fr1,nr1,by rw[zJ nr1];exact er1'⟩ .nil))
  ·rintro σ H3 ⟨us,f4,g,hL0,hu,rfl⟩
   rw[zCI,el,zDb] at hu
   exact⟨_,rfl,lg,us,_,_,_,g2.trans g,flg,hL0,vm (fun _ _ r=>⟨r.1,r.2.2⟩) hu,rfl⟩
 ·rintro σ H2 ⟨l,es,f2,f3,f4,g2,fl,hl,he,rfl⟩
  exact⟨_,rfl,q l H2 es g2 fl hl he⟩
theorem zfb {d:Nat}(T:Txt P w K mg a)(vp:zA P w K mg base zW k a.uK a.uL ["sentence", "order", "row"] (zaB K d)):zA P w K mg base zW (k+1) a.uK a.uL ["sentence", "order", "row"] (zaB K (d+1)):=by
 refine T.vo.ok vM (fun vs H Q E h=>?_) (fun cdv A outer s H vs Q E hr h=>?_)
 ·obtain⟨p,l,rl,sn,os,r,rfl,_⟩:=h
  rfl
 obtain⟨p,l,rl,sn,os,r,rfl,isp,hO,hR,hin,h8,hrl,hd,q⟩:=h
 refine⟨_,(zf (zF (i:=3) vM.nd rfl (Or.inl rfl) (yj uR (pv 0) zu (fun _ _=>rfl)))
   (zf (yP (zP Ux (pv 3) (yZ (za zZ (za zZ zc))) (by with_unfolding_all rfl)) (zp (zK (Wr zf2 rfl T.zmc zjV (za (tO wZ (pv 3) zZ (zY _)) zc)))) z8)
   (zf (yP (zP wZ (pv 3) zZ (zY _)) (zp (zK (yj yV (pv 2) (vG PySem.F.plainAttrs_list PySem.F.slot_list_index PySem.F.type_list_index RV (pv 1) (za (yj uR (pv 0) zu (fun _ _=>rfl)) zc)) (fun _ _=>rfl)))) z8)
   (zf (yP (zP Ux (pv 3) (yZ (za zZ (za zZ zc))) (by with_unfolding_all rfl)) (zf (zF (i:=6) vM.nd rfl (Or.inl rfl) (vG PySem.F.plainAttrs_list PySem.F.slot_list_index PySem.F.type_list_index RV (pv 1) (za (yj uR (pv 0) zu (fun _ _=>rfl)) zc)))
   (zf (zF (i:=7) vM.nd rfl (Or.inl rfl) (zx vp hr rfl T.uN T.vo.2 T.uM .nil zB (za (yj uR (pv 0) zu (fun _ _=>rfl)) (za (pv 1) (za (zQ QK (zQ QK (U6 zdr (pv 2) zas (V7 (pv 6))) (xq (za zu zc))) (U6 zdr (pv 2) (V7 (zQ wU (pv 6) zu)) zas)) zc)))))
   (zf (zF (i:=8) vM.nd rfl (Or.inl rfl) (zx vp hr rfl T.uN T.vo.2 T.uM .nil zB (za (yj uR (pv 0) zu (fun _ _=>rfl)) (za (pv 1) (za (zQ QK (zQ QK (U6 zdr (pv 2) zas (V7 (pv 6))) (xq (za zu zc))) (U6 zdr (pv 2) (V7 (zQ wU (pv 6) zu)) zas)) zc)))))
   (zp (zK (zao (zP wZ (pv 3) zZ (zY _)) (zH (zbp rfl) rfl T.zmd zj5 (za (pv 7) (za (pv 8) zc))) (zH (zmp rfl) rfl T.zrf zr1 (za (pv 7) (za (pv 8) zc))))))))) z8)
   (zf (zF (i:=4) vM.nd rfl (Or.inl rfl) (zx vp hr rfl T.uN T.vo.2 T.uM .nil zB (za (yj uR (pv 0) zu (fun _ _=>rfl)) (za (pv 1) (za (pv 2) zc)))))
   (zf (yP (zP wZ (pv 3) zZ (zY _)) (zp (zK (zQ JH zu (pv 4)))) z8)
   (zf (zF (i:=5) vM.nd rfl (Or.inl rfl) (zx vp hr rfl T.uN T.vo.2 T.uM .nil zB (za (yj uR (pv 0) zu (fun _ _=>rfl)) (za (pv 1) (za (pv 2) zc)))))
   (zp (zK (zg8 (zgc hr) (zlM (RX zZ (zQ N8 (pv 4) (pv 5)) (RX zZ (zH (zbp rfl) rfl T.zmd zj5 (za (pv 4) (za (pv 5) zc))) (RX zZ (Wr zf2 rfl T.zmc zjV (za (tO K9 (pv 4) (pv 5) (zY _)) zc)) (RX zZ (zH (zbp rfl) rfl T.zmd zj5 (za (zQ JH zu (pv 4)) (za (pv 5) zc))) zlL)))) rfl rfl (List.cons_ne_nil _ _) (Nat.le_of_ble_eq_true rfl)) (pv 3) (fun _ _=>rfl))))))))))),?_⟩
 obtain⟨zs,c1,c2,c3,c4,c5⟩:=LC isp
 refine⟨_,rfl,p,_,0,_,rfl,rfl,vW.of c1,at0,?_⟩
 refine⟨_,rfl,by show 2<=sizeLine;decide,fun z1 hz1=>⟨z1,_,rfl,.inr (vW.of zj),rfl,rfl,_,rfl,?_⟩⟩
 have g1:=Same.new hz1 (.tup [.str "yes", .str "no"])
 cases sn with
 | c0 y =>
  cases y with
  | true=>exact yw (fun _=>⟨_,rfl,rfl,.inr ⟨_,rfl,q _ g1⟩⟩) (fun c=>absurd (zg5 (.inl rfl)) c)
  | false=>exact yw (fun _=>⟨_,rfl,rfl,.inr ⟨_,rfl,q _ g1⟩⟩) (fun c=>absurd (zg5 (.inr rfl)) c)
 | mk x =>
  refine yw (fun c=>absurd c (zbx (show Str.ofString "mark" ≠ Str.ofString "yes" by decide +kernel) (show Str.ofString "mark" ≠ Str.ofString "no" by decide +kernel))) (fun _=>?_)
  have isp':H p=some (.tup [.str "mark", .str x]):=isp
  obtain⟨i1,i2,i3⟩:=vU (show x∈os from hin)
  refine⟨_,rfl,rfl,_,rfl,yw (fun _=>?_) (fun c=>absurd (decide_eq_true rfl) c)⟩
  refine⟨_,rfl,_,rfl,.inl ⟨rfl,_,g1.seq hO⟩,_,rfl,p,_,1,_,rfl,rfl,vW.of (g1 _ _ isp'),at1,l,_,.str x,_,rfl,rfl,g1.seq hO,rfl,vd _,i1,rl,_,_,_,rfl,rfl,g1.seq hR,wk (zp7 (by rw[hrl];exact i2)),?_⟩
  rw[<-Vv]
  exact q _ g1
 | nt s1 =>
  refine yw (fun c=>absurd c (zbx (show Str.ofString "not" ≠ Str.ofString "yes" by decide +kernel) (show Str.ofString "not" ≠ Str.ofString "no" by decide +kernel))) (fun _=>?_)
  refine⟨_,rfl,rfl,_,rfl,yw (fun c=>absurd c (ne_str (show Str.ofString "not" ≠ Str.ofString "mark" by decide +kernel))) (fun _=>?_)⟩
  refine⟨_,rfl,by show 2<=sizeLine;decide,fun z2 hz2=>⟨z2,_,rfl,.inr (vW.of zj),rfl,rfl,_,rfl,?_⟩⟩
  refine yw (fun c=>absurd c (zbx (show Str.ofString "not" ≠ Str.ofString "some" by decide +kernel) (show Str.ofString "not" ≠ Str.ofString "each" by decide +kernel))) (fun _=>?_)
  have g2:=g1.trans (Same.new hz2 (.tup [.str "some", .str "each"]))
  obtain⟨q1,e1,is1⟩:=isp
  have dp:s1.depth<=d:=by have:1+s1.depth<=d+1:=hd;omega
  refine⟨_,rfl,p,_,1,_,rfl,rfl,vW.of (g2 _ _ e1),at1,_,rfl,_,rfl,q1,l,rl,s1,os,r,rfl,is1.mono (yC.of g2),g2.seq hO,g2.seq hR,hin,h8,hrl,dp,fun H3 g3=>?_⟩
  refine⟨_,rfl,rfl,_,rfl,yw (fun _=>?_) (fun c=>absurd (decide_eq_true rfl) c)⟩
  refine⟨_,rfl,1,_,rfl,rfl,?_⟩
  have e:(1:Int)-(((s1.val (wI os (yh r))).toNat:Nat):Int)=(((!s1.val (wI os (yh r))).toNat:Nat):Int):=by cases s1.val (wI os (yh r))<;>rfl
  show Q (.int ((1:Int)-(((s1.val (wI os (yh r))).toNat:Nat):Int))) H3
  rw[e]
  exact q _ (g2.trans g3)
 | b2 o s1 s2 =>
  have w0:w2 o≠Str.ofString "yes" := zn9 o
  have w1:w2 o≠Str.ofString "no" := zq6 o
  have w3:w2 o≠Str.ofString "mark" := zlE o
  have w4:w2 o≠Str.ofString "not" := zoa o
  have w5:w2 o≠Str.ofString "some" := zlF o
  have w6:w2 o≠Str.ofString "each" := zlG o
  refine yw (fun c=>absurd c (zbx w0 w1)) (fun _=>?_)
  refine⟨_,rfl,rfl,_,rfl,yw (fun c=>absurd c (ne_str w3)) (fun _=>?_)⟩
  refine⟨_,rfl,by show 2<=sizeLine;decide,fun z2 hz2=>⟨z2,_,rfl,.inr (vW.of zj),rfl,rfl,_,rfl,?_⟩⟩
  refine yw (fun c=>absurd c (zbx w5 w6)) (fun _=>?_)
  have g2:=g1.trans (Same.new hz2 (.tup [.str "some", .str "each"]))
  obtain⟨q1,q2,e1,is1,is2⟩:=isp
  have dp:1+max s1.depth s2.depth<=d+1:=hd
  refine⟨_,rfl,p,_,1,_,rfl,rfl,vW.of (g2 _ _ e1),at1,_,rfl,_,rfl,q1,l,rl,s1,os,r,rfl,is1.mono (yC.of g2),g2.seq hO,g2.seq hR,hin.1,h8,hrl,by omega,fun H3 g3=>?_⟩
  have g23:=g2.trans g3
  refine⟨_,rfl,rfl,_,rfl,yw (fun c=>absurd c (ne_str w4)) (fun _=>?_)⟩
  refine⟨_,rfl,p,_,2,_,rfl,rfl,vW.of (g23 _ _ e1),at2,_,rfl,_,rfl,q2,l,rl,s2,os,r,rfl,is2.mono (yC.of g23),g23.seq hO,g23.seq hR,hin.2,h8,hrl,by omega,fun H4 g4=>?_⟩
  have g24:=g23.trans g4
  have q':∀H5,Same H4 H5->Q (.int (((Sn.op2 o (s1.val (wI os (yh r))) (s2.val (wI os (yh r)))).toNat:Nat):Int)) H5:=fun H5 g5=>q _ (g24.trans g5)
  clear q
  generalize s1.val (wI os (yh r))=A1 at q' ⊢
  generalize s2.val (wI os (yh r))=A2 at q' ⊢
  refine fun dp hdp=>?_
  refine⟨_,rfl,_,rfl,_,_,rfl,rfl,.inl ?_,?_⟩
  ·cases A1<;>exact⟨by decide,by decide⟩
  refine⟨_,rfl,_,rfl,_,_,rfl,?_⟩
  refine⟨_,rfl,_,rfl,rfl,.inr ⟨_,rfl,?_⟩⟩
  refine⟨_,rfl,1,_,rfl,rfl,_,rfl,_,_,rfl,?_⟩
  refine⟨zj,([(Sum.inr "and", _),(Sum.inr "or", _),(Sum.inr "either", _),(Sum.inr "if", _)]:List (Key×V)),rfl,(by show 4<=15;decide),?_⟩
  rw[zlk]
  have gd:=Same.new hdp (.dK (vI [] ([(Sum.inr "and", V.int ((A1.toNat:Int)*(A2.toNat:Int))),(Sum.inr "or", V.int (if (A2.toNat:Int) > (A1.toNat:Int) then (A2.toNat:Int) else (A1.toNat:Int))),(Sum.inr "either", V.int (if (!decide (V.int (A1.toNat:Nat)=V.int (A2.toNat:Nat)))=true then 1 else 0)),(Sum.inr "if", V.int (if (A2.toNat:Int) > 1-(A1.toNat:Int) then (A2.toNat:Int) else 1-(A1.toNat:Int)))]:List (Key×V))))
  have z:=zdb.k (k:=(Sum.inr (w2 o):Key)) (zj (H:=H4) (a:=dp) (o:=.dK (vI [] ([(Sum.inr "and", V.int ((A1.toNat:Int)*(A2.toNat:Int))),(Sum.inr "or", V.int (if (A2.toNat:Int) > (A1.toNat:Int) then (A2.toNat:Int) else (A1.toNat:Int))),(Sum.inr "either", V.int (if (!decide (V.int (A1.toNat:Nat)=V.int (A2.toNat:Nat)))=true then 1 else 0)),(Sum.inr "if", V.int (if (A2.toNat:Int) > 1-(A1.toNat:Int) then (A2.toNat:Int) else 1-(A1.toNat:Int)))]:List (Key×V)))))
  rw[ztC] at z
  refine⟨_,rfl,dp,_,rfl,z,?_⟩
  have q2:=q' _ gd
  rcases zrW o with e | e | e | e<;>subst e<;>cases A1<;>cases A2<;>exact q2
 | q1 o x s1 =>
  obtain⟨hx,hs1⟩:=hin
  obtain⟨i1,i2,i3⟩:=vU hx
  have wq:(Sn.q1 o x s1).word≠Str.ofString "yes" /\ (Sn.q1 o x s1).word≠Str.ofString "no" /\ (Sn.q1 o x s1).word≠Str.ofString "mark" := by
   rw[zg0];exact zto o
  have wi:(Sn.q1 o x s1).word=Str.ofString "some" \/ (Sn.q1 o x s1).word=Str.ofString "each" := by cases o;exact .inr rfl;exact .inl rfl
  refine yw (fun c=>absurd c (zbx wq.1 wq.2.1)) (fun _=>?_)
  refine⟨_,rfl,rfl,_,rfl,yw (fun c=>absurd c (ne_str wq.2.2)) (fun _=>?_)⟩
  refine⟨_,rfl,by show 2<=sizeLine;decide,fun z2 hz2=>⟨z2,_,rfl,.inr (vW.of zj),rfl,rfl,_,rfl,?_⟩⟩
  refine yw (fun _=>?_) (fun c=>absurd (zg5 wi) c)
  have g2:=g1.trans (Same.new hz2 (.tup [.str "some", .str "each"]))
  obtain⟨qq,e1',is1⟩:=isp
  have e1:H p=some (.tup [.str (Sn.q1 o x s1).word,.str x,.ref qq]):=by rw[zg0];exact e1'
  have dp:s1.depth<=d:=by have:1+s1.depth<=d+1:=hd;omega
  have hlr:(yd r).length=r.length:=zCI _
  have ixr:ix os x<r.length:=by rw[hrl];exact i2
  have l9:r.length<=8:=by rw[hrl];exact h8
  refine⟨_,rfl,.inl ⟨rfl,_,g2.seq hO⟩,_,rfl,p,_,1,_,rfl,rfl,vW.of (g2 _ _ e1),at1,l,_,.str x,_,rfl,rfl,g2.seq hO,rfl,vd _,i1,?_⟩
  refine⟨_,rfl,p,_,2,_,rfl,rfl,vW.of (g2 _ _ e1),at2,_,rfl,_,rfl,_,rfl,_,rfl,rl,_,rfl,g2.seq hR,fun sa5 zw7=>?_⟩
  rw[zit] at *
  have ga5:=g2.trans (Same.new zw7 (.lst ((yd r).take (ix os x))))
  refine⟨by show 1<=sizeLine;decide,fun sb5 ztW=>?_⟩
  have gb5:=ga5.trans (Same.new ztW (.lst [.int 0]))
  have ea5:=(Same.new ztW (.lst [.int 0])) sa5 (.lst ((yd r).take (ix os x))) zj
  refine⟨sa5,sb5,_,_,rfl,rfl,zM.of ea5,zM.of zj,by rw[zC6,hlr];exact zC1 (zN (by show min _ _+1<=1000;omega)),fun sc5 zw8=>?_⟩
  have gc5:=gb5.trans (Same.new zw8 (.lst ((yd r).take (ix os x)++[.int 0])))
  refine⟨_,rfl,_,rfl,_,1,rfl,rfl,_,rfl,rl,_,rfl,gc5.seq hR,fun sd5 ztX=>?_⟩
  have ei5:K3 (yd r) (some ((ix os x:Nat)+1)) none=(yd r).drop (ix os x+1):=zix (n:=ix os x+1)
  rw[ei5] at *
  have gd5:=gc5.trans (Same.new ztX (.lst ((yd r).drop (ix os x+1))))
  have ec5:=(Same.new ztX (.lst ((yd r).drop (ix os x+1)))) sc5 (.lst ((yd r).take (ix os x)++[.int 0])) zj
  refine⟨sc5,sd5,_,_,rfl,rfl,zM.of ec5,zM.of zj,by rw[zCQ,zC6,List.length_drop,hlr];exact zC1 (zN (by show min _ _+1+_<=1000;omega)),fun se5 zw9=>?_⟩
  have er5:(yd r).take (ix os x)++[V.int 0]++(yd r).drop (ix os x+1)=yd (r.set (ix os x) false):=zlP ixr false
  rw[er5]
  have ge5:=gd5.trans (Same.new zw9 (.lst (yd (r.set (ix os x) false))))
  refine⟨qq,l,se5,s1,os,r.set (ix os x) false,rfl,is1.mono (yC.of ge5),ge5.seq hO,zM.of zj,hs1,h8,by rw[List.length_set];exact hrl,dp,fun H5 gf5=>?_⟩
  rw[zlH hs1 hx hrl]
  have gg5:=ge5.trans gf5
  refine⟨_,rfl,p,_,2,_,rfl,rfl,vW.of (gg5 _ _ e1),at2,_,rfl,_,rfl,_,rfl,_,rfl,rl,_,rfl,gg5.seq hR,fun sa6 zxc=>?_⟩
  rw[zit] at *
  have ga6:=gg5.trans (Same.new zxc (.lst ((yd r).take (ix os x))))
  refine⟨by show 1<=sizeLine;decide,fun sb6 ztY=>?_⟩
  have gb6:=ga6.trans (Same.new ztY (.lst [.int 1]))
  have ea6:=(Same.new ztY (.lst [.int 1])) sa6 (.lst ((yd r).take (ix os x))) zj
  refine⟨sa6,sb6,_,_,rfl,rfl,zM.of ea6,zM.of zj,by rw[zC6,hlr];exact zC1 (zN (by show min _ _+1<=1000;omega)),fun sc6 zxd=>?_⟩
  have gc6:=gb6.trans (Same.new zxd (.lst ((yd r).take (ix os x)++[.int 1])))
  refine⟨_,rfl,_,rfl,_,1,rfl,rfl,_,rfl,rl,_,rfl,gc6.seq hR,fun sd6 ztZ=>?_⟩
  have ei6:K3 (yd r) (some ((ix os x:Nat)+1)) none=(yd r).drop (ix os x+1):=zix (n:=ix os x+1)
  rw[ei6] at *
  have gd6:=gc6.trans (Same.new ztZ (.lst ((yd r).drop (ix os x+1))))
  have ec6:=(Same.new ztZ (.lst ((yd r).drop (ix os x+1)))) sc6 (.lst ((yd r).take (ix os x)++[.int 1])) zj
  refine⟨sc6,sd6,_,_,rfl,rfl,zM.of ec6,zM.of zj,by rw[zCQ,zC6,List.length_drop,hlr];exact zC1 (zN (by show min _ _+1+_<=1000;omega)),fun se6 zxe=>?_⟩
  have er6:(yd r).take (ix os x)++[V.int 1]++(yd r).drop (ix os x+1)=yd (r.set (ix os x) true):=zlP ixr true
  rw[er6]
  have ge6:=gd6.trans (Same.new zxe (.lst (yd (r.set (ix os x) true))))
  refine⟨qq,l,se6,s1,os,r.set (ix os x) true,rfl,is1.mono (yC.of ge6),ge6.seq hO,zM.of zj,hs1,h8,by rw[List.length_set];exact hrl,dp,fun H6 gf6=>?_⟩
  rw[zlH hs1 hx hrl]
  have gg6:=ge6.trans gf6
  have q':Q (.int ((((Sn.q1 o x s1).val (wI os (yh r))).toNat:Nat):Int)) H6:=q _ gg6
  clear q
  cases o with
  | true =>
   refine⟨_,rfl,rfl,_,rfl,yw (fun _=>?_) (fun c=>absurd (decide_eq_true rfl) c)⟩
   refine⟨_,rfl,_,rfl,_,_,rfl,?_⟩
   have e9:((((Sn.q1 true x s1).val (wI os (yh r))).toNat:Nat):Int)=(((s1.val (fun y=>if y=x then true else wI os (yh r) y)||s1.val (fun y=>if y=x then false else wI os (yh r) y)).toNat:Nat):Int):=rfl
   rw[e9] at q'
   revert q'
   cases s1.val (fun y=>if y=x then true else wI os (yh r) y)<;>cases s1.val (fun y=>if y=x then false else wI os (yh r) y)<;>exact id
  | false =>
   refine⟨_,rfl,rfl,_,rfl,yw (fun c=>absurd c (ne_str (show Str.ofString "each" ≠ Str.ofString "some" by decide +kernel))) (fun _=>?_)⟩
   refine⟨_,rfl,_,rfl,_,_,rfl,?_⟩
   have e9:((((Sn.q1 false x s1).val (wI os (yh r))).toNat:Nat):Int)=(((s1.val (fun y=>if y=x then true else wI os (yh r) y)&&s1.val (fun y=>if y=x then false else wI os (yh r) y)).toNat:Nat):Int):=rfl
   rw[e9] at q'
   revert q'
   cases s1.val (fun y=>if y=x then true else wI os (yh r) y)<;>cases s1.val (fun y=>if y=x then false else wI os (yh r) y)<;>exact id
theorem zgK (T:Txt P w K mg a):∀d:Nat,zA P w K mg base zW (k+d) a.uK a.uL ["sentence", "order", "row"] (zaB K d)
 | 0=>by
  refine⟨fun vs H Q E h=>?_,fun A outer s H args us vs Q E _ _ _ _ h=>?_⟩
  ·obtain⟨p,l,rl,sn,os,r,rfl,_⟩:=h
   rfl
  ·obtain⟨p,l,rl,sn,os,r,_,_,_,_,_,_,_,hd,_⟩:=h
   have:=Sn.Lw sn
   omega
 | d+1=>zfb T (zgK T d)
theorem zju (T:Txt P w K mg a)(wj:zA P w K mg base zW k a.wC a.wD ["order"] (Rk K)):zA P w K mg base zW (k+1) a.Yd a.Ye ["order", "row", "other"] (zdG K):=by
 refine T.Uv.ok Vb (fun vs H Q E h=>?_) (fun cdv A outer s H vs Q E hr h=>?_)
 ·obtain⟨ol,rl,sl,os,r,s',rfl,_⟩:=h
  rfl
 obtain⟨ol,rl,sl,os,r,s',rfl,hol,ho,hW,hrl,hsl,lr,ls,q⟩:=h
 refine⟨_,(zf (zF (i:=3) Vb.nd rfl (Or.inl rfl) (zx wj hr rfl T.tL T.uy.2 T.tK .nil zB (za (pv 0) zc)))
   (zf (zF (i:=4) Vb.nd rfl (Or.inr rfl) (zkh rfl rfl T.zmf rfl T.zoU (za (pv 3) (za (pv 1) zc))))
   (zf (wL PassesOwn.never rfl (vX rfl T.Zi (za (zH zG rfl T.xu yr (za (pv 3) zc)) zc)) (z9 (i:=5) Vb.nd rfl (Or.inl rfl)) (zp (zlK (zgc hr) (pv 4) (yj JL zZ (vG PySem.F.plainAttrs_str PySem.F.slot_str_index PySem.F.type_str_index zbD zZ (za (yj yV (pv 3) (pv 5) (fun _ _=>rfl)) zc)) (fun _ _=>rfl)) (yj yV (pv 2) (pv 5) (fun _ _=>rfl)) rfl)))
   (zp (zK (tQ (Zj:=zq Xz) (js:=[4]) rfl (by show ZG (zq Xz) _ "mark" ["values"];exact⟨rfl,by decide +kernel,by decide +kernel,rfl,by decide +kernel,by decide +kernel,by decide +kernel⟩) rfl (yU (pv 0)) (by show ∀j∈([4]:List Nat),j<6;decide) (fun cl C s₂ H₂ fp=>(zg8 (zgc hr) (pv 1) (pv 0) (fun _ _=>rfl))))))))),?_⟩
 refine⟨_,rfl,ol,os,rfl,hol,fun nl H1 g1 _ hnl=>?_⟩
 have en:(yq os).map V.str=((yq os).map fun x=>(Sum.inr x:Key)).map kV:=by rw[zDk];rfl
 have n4:=uT os
 refine⟨_,rfl,_,rfl,nl,rl,(yq os).map fun x=>(Sum.inr x:Key),yd r,rfl,by rw[<-en];exact zM.of hnl,g1.seq hrl,by rw[zCI];unfold yd;rw[zCI];exact lr.symm,fun d hd=>?_⟩
 have g2:=Same.new hd (.dK (vI [] (((yq os).map fun x=>(Sum.inr x:Key)).zip (yd r))))
 have d2:upd H1 d (.dK (vI [] (((yq os).map fun x=>(Sum.inr x:Key)).zip (yd r)))) d=some (.dK (vI [] (((yq os).map fun x=>(Sum.inr x:Key)).zip (yd r)))):=zj
 have lm:=Va (((yq os).map fun x=>(Sum.inr x:Key)).zip (yd r)) []
 have lz:=List.length_zip (l₁:=(yq os).map fun x=>(Sum.inr x:Key)) (l₂:=yd r)
 rw[zCI] at lz
 have hvN:∀(j:Nat) (x:Str),(yq os)[j]?=some x->Yx (vI [] (((yq os).map fun x=>(Sum.inr x:Key)).zip (yd r))) (Sum.inr x:Key)=some (.int ((r.getD j false).toNat:Nat)):=fun j x e=>by
  have jl:=(zCL.mp e).1
  refine zqC (zhh ho hW) e ?_
  unfold yd
  rw[zCK,zCJ (by omega),zCV,zCJ (by omega)]
  rfl
 generalize vI [] (((yq os).map fun x=>(Sum.inr x:Key)).zip (yd r))=kv0 at g2 d2 lm hvN
 have fd:=g1.free hd
 generalize upd H1 d (.dK kv0)=H2 at g2 d2
 have zt0:=g2 _ _ hnl
 have lnm:((yq os).map V.str).length=(yq os).length:=zCI _
 refine⟨_,rfl,nl,_,rfl,.inl (zM.of zt0),_,rfl,by omega,by omega,?_⟩
 rw[zDm,lnm]
 have g12:=g1.trans g2
 refine Z2 (fun i σ H'=>Same H H'/\H' nl=some (.lst ((yq os).map V.str))/\∃(kvs:List (Key×V)) (f5:Option V),H' d=some (.dK kvs)/\kvs.length<=4+i/\(∀(j:Nat) (x:Str),(yq os)[j]?=some x->Yx kvs (Sum.inr x:Key)=some (.int ((r.getD j false).toNat:Nat)))/\(∀(j:Nat) (x:Str),j<i->(Zm os)[j]?=some x->Yx kvs (Sum.inr x:Key)=some (.int ((s'.getD j false).toNat:Nat)))/\σ=[some (.ref ol),some (.ref rl),some (.ref sl),some (.ref nl),some (.ref d),f5])
  ⟨g12,zt0,kv0,none,d2,by simp at lm;omega,hvN,fun j x hj=>by omega,rfl⟩ ?_ ?_
 ·rintro i σ H' hi ⟨g,hn,kvs,f5,hd',hl,v1,v2,rfl⟩
  have em:(yq os)[i]?=some (yq os)[i]:=zCJ hi
  obtain⟨yo,j,j4,ey⟩:=Xu (zCN em)
  rw[ey] at em
  obtain⟨rest,hx⟩:=JV j4
  have e2:(Zm os)[i]?=some (uG j):=by
   rw[Xv,zCK] at em
   cases hj:(nis os)[i]? with
   | none=>rw[hj] at em;cases em
   | some j' =>
    rw[hj] at em
    have:xM j'=xM j:=by injection em
    have:j'=j:=by have:=zhd this;omega
    rw[R7 hW,zCK,hj,this]
    rfl
  have nt:uG j∉yq os:=fun z=>by
   obtain⟨_,k',hk',e⟩:=Xu z
   exact Wx hk' e.symm
  have es:(yd s')[i]?=some (.int ((s'.getD i false).toNat:Nat)):=by
   unfold yd
   rw[zCK,zCJ (by omega),zCV,zCJ (by omega)]
   rfl
  have dn:d≠nl:=fun z=>by rw[z,hn] at hd';cases hd'
  have hx2:=em
  have ei:(0:Int)+(i:Nat)=((i:Nat):Int):=by omega
  refine⟨_,rfl,_,rfl,sl,_,_,_,rfl,congrArg V.int ei,g.seq hsl,wk es,_,rfl,rfl,_,rfl,_,rfl,nl,_,_,_,rfl,congrArg V.int ei,zM.of hn,wk (by rw[zCK,em];rfl),_,_,j,rest,rfl,rfl,hx,_,_,_,rfl,rfl,by show(Str.ofString "efgh").length<=sizeLine;decide,zhe j4,d,_,rfl,zmB.k (k:=Sum.inr (uG j)) hd' (Nat.lt_of_le_of_lt hl (zN (by omega))),?_⟩
  refine⟨g.over fd _,by rw[zJ (Ne.symm dn)];exact hn,_,_,zj,?_,fun j' x e=>?_,fun j' x hj' e=>?_,rfl⟩
  ·unfold putK
   split
   ·rw[zCI];omega
   ·rw[zCQ];simp;omega
  ·rw[wV,if_neg fun z=>?_]
   ·exact v1 j' x e
   ·have:x=uG j:=by injection z
    rw[this] at e
    exact nt (zCN e)
  ·rw[wV]
   by_cases c:j'=i
   ·rw[c,e2] at e
    cases e
    rw[if_pos rfl,c]
   ·rw[if_neg fun z=>?_]
    ·exact v2 j' x (by omega) e
    ·have ex:x=uG j:=by injection z
     rw[ex] at e
     have i1:=zgu (zaL os) e
     have i2:=zgu (zaL os) e2
     exact c (i1.symm.trans i2)
 ·rintro σ H' ⟨g,hn,kvs,f5,hd',hl,v1,v2,rfl⟩
  refine⟨_,rfl,ol,rfl,⟨_,g.seq hol⟩,?_⟩
  refine zdw (xs:=os.map V.str) (fun x v=>v=(match x with | .str y=>V.int ((pv os r s' y).toNat:Nat) | _=>V.non)) (g.seq hol) (by rw[zCI];exact zC1 (zN (by have:=ho.le;omega))) (fun i x H2 hx g2=>?_) (fun _ _ _ _ h ⟨v1,e1,v2,e2,a0,v0,z1,z2,z3⟩=>⟨v1,e1,v2,e2,a0,v0,z1,z2,h _ _ z3⟩) (fun ys H2 p hp g2 hp0=>?_)
  ·rw[zCK] at hx
   cases hm:os[i]? with
   | none=>rw[hm] at hx;cases hx
   | some y =>
    rw[hm] at hx
    cases hx
    refine⟨_,rfl,_,rfl,d,.int ((pv os r s' y).toNat:Nat),rfl,?_,rfl,g2⟩
    have yo:=zCN hm
    have key:Yx kvs (Sum.inr y:Key)=some (.int ((pv os r s' y).toNat:Nat)):=by
     unfold Zk.pv
     by_cases c:y∈yq os
     ·rw[if_pos c]
      exact v1 _ _ (vU c).2.2
     ·rw[if_neg c]
      have ct:y∈Zm os:=by
       obtain⟨i',hi',e⟩:=zhk (ho.mem _ yo)
       rcases e with e | e
       ·rw[e] at c yo
        refine absurd ?_ c
        rw[Xv]
        exact List.mem_map.mpr ⟨i',zdF.mpr ⟨hi',yo⟩,rfl⟩
       ·rw[e] at yo ⊢
        rw[R7 hW]
        exact List.mem_map.mpr ⟨i',zdF.mpr ⟨hi',(JX hW hi').mpr yo⟩,rfl⟩
      refine v2 _ _ ?_ (vU ct).2.2
      have:=(vU ct).2.1
      rw[R7 hW,zCI] at this
      rw[Xv,zCI,R7 hW]
      exact this
    rw[<-key]
    exact zdb.k (k:=Sum.inr y) (g2 _ _ hd')
  ·have ey:ys=yd (prR os r s'):=by
    rw[JQ hp]
    unfold yd prR
    rw[zDk,zDk]
    rfl
   rw[ey]
   exact q p _ (g.trans (g2.trans (Same.new hp0 _))) ((g.trans g2).free hp0) zj
theorem zh1 (T:Txt P w K mg a)(wj:zA P w K mg base zW k a.wC a.wD ["order"] (Rk K))(Wi:zA P w K mg base zW k a.ur a.uw ["size"] Uz)(vp:zA P w K mg base zW k a.uK a.uL ["sentence", "order", "row"] (zaB K 24))(PX:zA P w K mg base zW k a.Yd a.Ye ["order", "row", "other"] (zdG K)) :
  zA P w K mg base zW (k+1) a.Vn a.Vo ["sentence", "order"] (zl4 K):=by
 refine T.RL.ok uV (fun vs H Q E h=>?_) (fun cdv A outer s H vs Q E hr h=>?_)
 ·obtain⟨p,ol,os,sn,rfl,_⟩:=h
  rfl
 obtain⟨p,ol,os,sn,rfl,hol,ho,hW,hS,q⟩:=h
 refine⟨_,(zf (zF (i:=2) uV.nd rfl (Or.inl rfl) (zx Wi hr rfl T.Uu T.Wf.2 T.Ut .nil zB (za (zH zG rfl T.xu yr (za (zx wj hr rfl T.tL T.uy.2 T.tK .nil zB (za (pv 1) zc)) zc)) zc)))
   (zf (zF (i:=3) uV.nd rfl (Or.inl rfl) (xq zc))
   (zf (wL PassesOwn.never rfl (yU (pv 2)) (z9 (i:=4) uV.nd rfl (Or.inl rfl)) (zf (zF (i:=5) uV.nd rfl (Or.inl rfl) (xq zc))
   (zf (wL PassesOwn.never rfl (vX rfl T.Zi (za (zH zG rfl T.xu yr (za (pv 2) zc)) zc)) (z9 (i:=6) uV.nd rfl (Or.inl rfl)) (zp (yP (zP wZ (zx vp hr rfl T.uN T.vo.2 T.uM .nil zB (za (pv 0) (za (pv 1) (za (zx PX hr rfl T.Px T.Uv.2 T.Pu .nil zB (za (pv 1) (za (pv 4) (za (yj yV (pv 2) (pv 6) (fun _ _=>rfl)) zc)))) zc)))) zu (zY _)) (zp (yE (vG PySem.F.plainAttrs_list PySem.F.slot_list_append PySem.F.type_list_append wB (pv 5) (za (pv 6) zc)))) z8)))
   (zp (yE (vG PySem.F.plainAttrs_list PySem.F.slot_list_append PySem.F.type_list_append wB (pv 3) (za (pv 5) zc)))))))
   (zp (zK (pv 3)))))),?_⟩
 have n4:=uT os
 have M16:=ziQ (os:=os)
 refine⟨_,rfl,ol,os,rfl,hol,fun nl H1 g1 _ hnl=>⟨nl,_,rfl,.inl (zM.of hnl),(yq os).length,by rw[zCI];rfl,by omega,fun rl H2 ps g2 frl hrl he=>?_⟩⟩
 have el:=xT he
 rw[wK.vZ] at el
 have el':ps.length=nM os:=el
 have g12:=g1.trans g2
 refine⟨by show 0<=sizeLine;decide,fun fl hfl=>?_⟩
 have g3:=Same.new hfl (.lst [])
 refine⟨_,rfl,rl,rfl,⟨_,zM.of (g3 _ _ hrl)⟩,?_⟩
 have zph:∀{i:Nat} {x:Addr},ps[i]?=some x->H1 x=none/\H2 x=some (.lst (yd (Wk os i)))/\i<nM os:=fun {i x} hx=>by
  obtain⟨r,hr',f1,f2⟩:=Yr he hx
  refine⟨f1,?_,by rw[<-el'];exact(zCL.mp hx).1⟩
  unfold Wk
  rw[zCV,hr']
  exact f2
 refine uf (xs:=ps.map V.ref) (fun i σ H'=>Same H2 H'/\∃(hs:List Addr) (f4 f5 f6:Option V),H' fl=some (.lst (hs.map V.ref))/\Paired (GrL os (fun b=>sn.val (wI os b)) H') hs (List.range i)/\(∀x∈hs,H x=none/\x≠fl)/\σ=[some (.ref p),some (.ref ol),some (.ref rl),some (.ref fl),f4,f5,f6])
  ⟨g3,[],_,_,_,zj,.nil,(fun _ h=>nomatch h),rfl⟩ (fun i σ H' _ ⟨g,_⟩=>zM.of (g _ _ hrl)) ?_ ?_
 ·rintro i x σ H' hx ⟨g,hs,f4,f5,f6,hf,pd,fs,rfl⟩
  rw[zCK] at hx
  cases hp:ps[i]? with
  | none=>rw[hp] at hx;cases hx
  | some rp =>
   rw[hp] at hx
   cases hx
   obtain⟨_,ri,il⟩:=zph hp
   have hsl:=xT pd
   rw[zC0] at hsl
   refine⟨by show 0<=sizeLine;decide,fun hl hhl=>?_⟩
   have g4:=Same.new hhl (.lst [])
   have gA:=g.trans g4
   have nfl:hl≠fl:=Ne.symm (zE hf hhl)
   have fhl:H hl=none:=(g12.trans g).free hhl
   have lpm:(ps.map V.ref).length=ps.length:=zCI _
   refine⟨_,rfl,rl,_,rfl,.inl (zM.of (gA _ _ hrl)),_,rfl,by omega,by omega,?_⟩
   rw[zDm,lpm]
   refine Z2 (fun j σ H3=>Same H' H3/\∃f6:Option V,H3 hl=some (.lst (zR ((List.range j).filter (gr os (fun b=>sn.val (wI os b)) i))))/\σ=[some (.ref p),some (.ref ol),some (.ref rl),some (.ref fl),some (.ref rp),some (.ref hl),f6])
    ⟨g4,_,zj,rfl⟩ ?_ ?_
   ·rintro j σ H3 hj ⟨h1,f6,hh,rfl⟩
    obtain⟨y,hy⟩:∃y,ps[j]?=some y:=⟨_,zCJ hj⟩
    obtain⟨_,rj,jl⟩:=zph hy
    have e2:(0:Int)+(j:Nat)=((j:Nat):Int):=by omega
    have gB:=g.trans h1
    have gC:=g12.trans gB
    refine⟨_,rfl,_,rfl,_,rfl,_,rfl,_,rfl,_,rfl,rl,_,_,_,rfl,congrArg V.int e2,zM.of (gB _ _ hrl),wk (by rw[zCK,hy];rfl),ol,rp,y,os,Wk os i,Wk os j,rfl,gC.seq hol,ho,hW,zM.of (gB _ _ ri),zM.of (gB _ _ rj),Kd il,Kd jl,fun pl H4 g4' fpl hpl=>?_⟩
    have gD:=gC.trans g4'
    refine⟨p,ol,pl,sn,os,prR os (Wk os i) (Wk os j),rfl,hS.is_.mono (yC.of gD),gD.seq hol,zM.of hpl,hS.Ub,ho.le,zhm ..,hS.dp,fun H5 g5=>?_⟩
    have hh5:=g5 _ _ (g4' _ _ hh)
    refine⟨rfl,_,rfl,?_⟩
    have ed:decide (V.int ((sn.val (wI os (yh (prR os (Wk os i) (Wk os j))))).toNat:Nat)=V.int 1)=gr os (fun b=>sn.val (wI os b)) i j:=by
     show _=sn.val (wI os (yh (prR os (Wk os i) (Wk os j))))
     cases sn.val (wI os (yh (prR os (Wk os i) (Wk os j))))<;>decide
    rw[ed]
    have gE:=h1.trans (g4'.trans g5)
    cases hb:gr os (fun b=>sn.val (wI os b)) i j with
    | true =>
     refine zbs ⟨_,rfl,.inl ⟨rfl,_,zM.of hh5⟩,_,rfl,hl,_,_,rfl,rfl,hh5,?_,?_⟩
     ·have:=zDh (gr os (fun b=>sn.val (wI os b)) i) (List.range j)
      rw[zC0] at this
      unfold zR;rw[zCI];exact zN (by omega)
     ·refine⟨gE.over hhl _,_,?_,rfl⟩
      rw[zj,List.range_succ,zDn,List.filter_cons_of_pos hb]
      unfold zR
      rw[zCW]
      show some (HO.lst (_++[V.int ((0:Int)+(j:Nat))]))=some (HO.lst (_++[V.int (j:Nat)]))
      rw[e2]
    | false =>
     refine YX ⟨gE,_,?_,rfl⟩
     rw[hh5,List.range_succ,zDn,List.filter_cons_of_neg (by rw[hb];exact zCM),List.filter_nil,List.append_nil]
   ·rintro σ H3 ⟨h1,f6,hh,rfl⟩
    have hf3:=h1 _ _ hf
    refine⟨_,rfl,.inl ⟨rfl,_,zM.of hf3⟩,_,rfl,fl,_,_,rfl,rfl,hf3,by rw[zCI];exact zN (by omega),?_⟩
    refine⟨(g.trans h1).over hfl _,hs++[hl],_,_,_,by rw[zj,zCW];rfl,?_,fun z hz=>?_,rfl⟩
    ·rw[List.range_succ]
     refine Wv (zhc (by rw[zC0];exact hsl) fun j x y e1 e2=>?_) (.cons ?_ .nil)
     ·obtain⟨u,hu,gu⟩:=Yr pd e1
      rw[hu] at e2
      cases e2
      have nx:=(fs x (zCN e1)).2
      show upd H3 fl _ x=_
      rw[zJ nx]
      exact h1 _ _ gu
     ·show upd H3 fl _ hl=_
      rw[zJ nfl,hh,el']
      rfl
    ·rcases List.mem_append.mp hz with z' | z'
     ·exact fs z z'
     ·have:z=hl:=by simpa using z'
      rw[this];exact⟨fhl,nfl⟩
 ·rintro σ H' ⟨g,hs,f4,f5,f6,hf,pd,fs,rfl⟩
  rw[zCI,el'] at pd
  exact⟨_,rfl,q fl hs H' (g12.trans g) ⟨hf,pd,g12.free hfl,fun x hx=>(fs x hx).1⟩⟩
theorem zfP (T:Txt P w K mg a)(wj:zA P w K mg base zW k a.wC a.wD ["order"] (Rk K))(Wi:zA P w K mg base zW k a.ur a.uw ["size"] Uz)(vp:zA P w K mg base zW k a.uK a.uL ["sentence", "order", "row"] (zaB K 24))(PX:zA P w K mg base zW k a.Yd a.Ye ["order", "row", "other"] (zdG K)) :
  zA P w K mg base zW (k+1) a.XS a.X3 ["sentence", "order"] (ziR K):=by
 refine T.Wg.ok Nh (fun vs H Q E h=>?_) (fun cdv A outer s H vs Q E hr h=>?_)
 ·obtain⟨p,ol,os,sn,rfl,_⟩:=h
  rfl
 obtain⟨p,ol,os,sn,rfl,hol,ho,hW,hS,q⟩:=h
 refine⟨_,(zf (zF (i:=2) Nh.nd rfl (Or.inr rfl) (tQ (Zj:=zq vK) (js:=[1]) rfl (by show ZG (zq vK) _ "row" ["order"];exact⟨rfl,by decide +kernel,by decide +kernel,rfl,by decide +kernel,by decide +kernel,by decide +kernel⟩) rfl (yU (zx Wi hr rfl T.Uu T.Wf.2 T.Ut .nil zB (za (zH zG rfl T.xu yr (za (zx wj hr rfl T.tL T.uy.2 T.tK .nil zB (za (pv 1) zc)) zc)) zc))) (by show ∀j∈([1]:List Nat),j<3;decide) (fun cl C s₂ H₂ fp=>(zx PX hr rfl T.Px T.Uv.2 T.Pu .nil zB (za (pv 1) (za (pv 0) (za (pv 0) zc)))))))
   (zp (zK (zjT (Zj:=zq vK) (js:=[0,1,2]) rfl (by show ZG (zq vK) _ "k" ["sentence", "order", "rows"];exact⟨rfl,by decide +kernel,by decide +kernel,rfl,by decide +kernel,by decide +kernel,by decide +kernel⟩) rfl (vX rfl T.Zi (za (zH zG rfl T.xu yr (za (pv 2) zc)) zc)) (by show ∀j∈([0,1,2]:List Nat),j<3;decide) (fun cl C s₂ H₂ fp=>(zP wZ (zx vp hr rfl T.uN T.vo.2 T.uM .nil zB (za (pv 1) (za (pv 2) (za (yj (Vw (K:=K) rfl) (pv 3) (pv 0) (fun _ _=>rfl)) zc)))) zu (zY _))) (fun cl C s₂ H₂ fp=>(pv 0)))))),?_⟩
 have n4:=uT os
 have M16:=ziQ (os:=os)
 refine⟨_,rfl,ol,os,rfl,hol,fun nl H1 g1 _ hnl=>⟨nl,_,rfl,.inl (zM.of hnl),(yq os).length,by rw[zCI];rfl,by omega,fun rl H2 ps g2 frl hrl he=>?_⟩⟩
 have el:=xT he
 rw[wK.vZ] at el
 have el':ps.length=nM os:=el
 have g12:=g1.trans g2
 refine⟨rl,rfl,⟨_,zM.of hrl⟩,?_⟩
 refine R8 (xs:=ps.map V.ref) (fun i ys H'=>Same H2 H'/\∃us:List Addr,ys=us.map V.ref/\Paired (fun u r=>H' u=some (.lst (yd (prR os r r)))) us ((wK.allR (yq os).length).take i)) ⟨Same.refl _,[],rfl,.nil⟩ (by rw[zCI];exact zC1 (zN (by omega))) ?_ ?_ ?_
 ·rintro i ys H' hi ⟨g,us,rfl,pu⟩
  have:=xT pu
  rw[zC6] at this
  exact⟨zM.of (g _ _ hrl),by rw[zCI];omega⟩
 ·rintro i x ys H' Q0 hx ⟨g,us,rfl,pu⟩ hQ
  rw[zCK] at hx
  cases hp:ps[i]? with
  | none=>rw[hp] at hx;cases hx
  | some rp =>
   rw[hp] at hx
   cases hx
   obtain⟨r,hr',_,ar⟩:=Yr he hp
   have rlen:=wK.R4 _ r (zCN hr')
   refine⟨_,rfl,_,rfl,_,rfl,ol,rp,rp,os,r,r,rfl,(g12.trans g).seq hol,ho,hW,zM.of (g _ _ ar),zM.of (g _ _ ar),rlen,rlen,fun l H3 g3 fl hl=>hQ _ _ ⟨g.trans g3,us++[l],by rw[zCW];rfl,?_⟩⟩
   rw[yW hr']
   exact Wv (vm (fun _ _ z=>g3 _ _ z) pu) (.cons hl .nil)
 ·rintro ys H' rl' ⟨g,us,rfl,pu⟩ hrl'
  rw[zCI,el,<-wK.vZ,zDb] at pu
  have gn:=Same.new hrl' (.lst (us.map V.ref))
  have hn:upd H' rl' (.lst (us.map V.ref)) rl'=some (.lst (us.map V.ref)):=zj
  have pu':=vm (fun _ _ z=>gn _ _ z) pu
  have gA:=g12.trans (g.trans gn)
  generalize upd H' rl' (.lst (us.map V.ref))=H4 at gn hn pu' gA
  have ul:=xT pu
  rw[wK.vZ] at ul
  have lum:(us.map V.ref).length=nM os:=by rw[zCI];exact ul
  refine⟨_,rfl,rl',_,rfl,.inl (zM.of hn),_,rfl,by omega,by omega,?_⟩
  rw[zDm,lum]
  refine zet (fun k=>sn.val (wI os (eb os k))) (zC1 (zN (by omega))) (fun x H' Q h=>⟨_,rfl,h⟩) (fun i H5 Q0 hi g5 hQ=>?_) (fun H5 l g5 hl=>?_)
  ·obtain⟨y,hy⟩:∃y,us[i]?=some y:=⟨_,zCJ (by rw[ul];exact hi)⟩
   obtain⟨r,hr',ar⟩:=Yr pu' hy
   have er:Wk os i=r:=by unfold Wk;rw[zCV,hr'];rfl
   have e2:(0:Int)+(i:Nat)=((i:Nat):Int):=by omega
   have gB:=gA.trans g5
   refine⟨_,rfl,_,rfl,_,rfl,_,rfl,rl',_,_,_,rfl,congrArg V.int e2,zM.of (g5 _ _ hn),wk (by rw[zCK,hy];rfl),p,ol,y,sn,os,prR os r r,rfl,hS.is_.mono (yC.of gB),gB.seq hol,zM.of (g5 _ _ ar),hS.Ub,ho.le,zhm ..,hS.dp,fun H6 g6=>?_⟩
   refine⟨rfl,_,rfl,?_⟩
   have ed:decide (V.int ((sn.val (wI os (yh (prR os r r)))).toNat:Nat)=V.int 1)=sn.val (wI os (eb os i)):=by
    show _=sn.val (wI os (yh (prR os (Wk os i) (Wk os i))))
    rw[er]
    cases sn.val (wI os (yh (prR os r r)))<;>decide
   rw[ed]
   exact hQ _ (g5.trans g6)
  ·exact q l _ (gA.trans (g5.trans (Same.new hl _))) ((gA.trans g5).free hl) zj
theorem zjv (T:Txt P w K mg a):zA P w K mg base zW (k+1) a.Yg a.Yh ["graph", "places"] zho:=by
 refine T.Py.ok zfE (fun vs H Q E h=>?_) (fun cdv A outer s H vs Q E hr h=>?_)
 ·obtain⟨gl,pl,os,t,H0,ls,p,rfl,_⟩:=h
  rfl
 obtain⟨gl,pl,os,t,H0,ls,p,rfl,hG,hp,q⟩:=h
 refine⟨_,(zp (zK (zqj (Zj:=zq XC) (js:=[1,0]) rfl (by show zlQ (zq XC) _ "k" ["places", "graph"];exact⟨rfl,fun _ _=>rfl,fun _=>rfl,by decide +kernel,by decide +kernel,rfl,by decide +kernel,by decide +kernel,by decide +kernel⟩) rfl (vX rfl T.Zi (za (zH zG rfl T.xu yr (za (pv 0) zc)) zc)) (by show ∀j∈([1,0]:List Nat),j<2;decide) (fun cl C s₂ H₂ fp pins s' σ' H' Q I h=>zor I h (zP zdP (zH (zfr (K:=K) rfl) rfl T.xu yr (za (zjT (Zj:=_) (js:=[0,2]) rfl (ZG.zra (by show ZG _ _ "one" ["k", "graph"];exact⟨rfl,by decide +kernel,by decide +kernel,rfl,by decide +kernel,by decide +kernel,by decide +kernel⟩)) rfl (ziy (K:=K) rfl (pv 1)) (by show ∀j∈([0,2]:List Nat),j<3;decide) (fun cl C s₂ H₂ fp=>(zP (JR (K:=K) rfl) (pv 1) (yj (Vw (K:=K) rfl) (pv 2) (pv 0) (fun _ _=>rfl)) (by with_unfolding_all rfl))) (fun cl C s₂ H₂ fp=>(pv 0))) zc)) zu (zY _))) (fun cl C s₂ H₂ fp=>(pv 0))))),?_⟩
 have M16:=ziQ (os:=os)
 have el:=xT hG.pd
 rw[zC0] at el
 have lum:(ls.map V.ref).length=nM os:=by rw[zCI];exact el
 refine⟨_,rfl,gl,_,rfl,.inl (zM.of hG.hl),_,rfl,by omega,by omega,?_⟩
 rw[zDm,lum]
 refine zet (fun k=>(List.range (nM os)).any fun j=>p j&&gr os t j k) (zC1 (zN (by omega))) (fun x H' Q h=>⟨_,rfl,h⟩) (fun i H5 Q0 hi g5 hQ=>?_) (fun H5 l g5 hl=>?_)
 ·have cl:=zhn os p
  refine⟨_,rfl,pl,rfl,⟨_,zM.of (g5 _ _ hp)⟩,?_⟩
  refine ziP (ps:=Qv os p) (fun j=>gr os t j i) (zM.of (g5 _ _ hp)) (zC1 (zN (by omega))) (fun x H' Q h=>⟨_,rfl,h⟩) (fun j H6 Q1 hj g6 hQ1=>?_) (fun H6 l g6 hl=>?_)
  ·obtain⟨jl,pj⟩:=Z6.mp hj
   obtain⟨x,hx,ax⟩:=(hG.same (g5.trans g6)).at jl
   refine⟨_,rfl,_,rfl,_,rfl,gl,_,_,_,rfl,rfl,zM.of ((g5.trans g6) _ _ hG.hl),wk (by rw[zCK,hx];rfl),x,_,rfl,.inl (zM.of ax),rfl,UG _,?_⟩
   refine⟨_,rfl,?_⟩
   have ed:inV (V.int ((0:Int)+(i:Nat))) (zR (Qv os (gr os t j)))=gr os t j i:=by
    rw[Int.zero_add]
    refine(R6 i (Qv os (gr os t j))).trans ?_
    rw[zDp,decide_eq_true_iff,Z6]
    exact⟨fun z=>z.2,fun z=>⟨hi,z⟩⟩
   have z:=hQ1 _ (g6.trans (Same.refl _))
   rw[<-ed] at z
   exact z
  ·have gn:=Same.new hl (.lst (zR ((Qv os p).filter fun j=>gr os t j i)))
   refine⟨l,_,rfl,.inl (zM.of zj),_,_,rfl,rfl,_,rfl,?_⟩
   have ed:decide ((0:Int)<(((zR ((Qv os p).filter fun j=>gr os t j i)).length:Nat):Int))=(List.range (nM os)).any fun j=>p j&&gr os t j i:=by
    rw[zDp,decide_eq_true_iff,List.any_eq_true]
    unfold zR
    rw[zCI]
    constructor
    ·intro z
     obtain⟨j,hj⟩:=List.exists_mem_of_length_pos (show 0<((Qv os p).filter fun j=>gr os t j i).length by omega)
     obtain⟨h1,h2⟩:=List.mem_filter.mp hj
     obtain⟨h3,h4⟩:=Z6.mp h1
     exact⟨j,List.mem_range.mpr h3,by rw[h4];exact h2⟩
    ·rintro⟨j,hj,e⟩
     rw[zDa] at e
     have:=List.length_pos_of_mem (List.mem_filter.mpr ⟨Z6.mpr ⟨List.mem_range.mp hj,e.1⟩,e.2⟩:j∈(Qv os p).filter fun j=>gr os t j i)
     omega
   have z:=hQ _ (g5.trans (g6.trans gn))
   rw[<-ed] at z
   exact z
 ·exact q l _ (g5.trans (Same.new hl _)) (g5.free hl) zj
theorem zh2 (T:Txt P w K mg a)(zh3:zA P w K mg base zW k a.Yg a.Yh ["graph", "places"] zho):zA P w K mg base zW (k+1) a.Vp a.Vq ["graph", "places"] (zl5 K):=by
 refine T.RM.ok uW (fun vs H Q E h=>?_) (fun cdv A outer s H vs Q E hr h=>?_)
 ·obtain⟨gl,pl,os,t,f,H0,ls,rfl,_⟩:=h
  rfl
 obtain⟨gl,pl,os,t,f,H0,ls,rfl,ho,hW,hf,hG,hp,q⟩:=h
 refine⟨_,(zf (zF (i:=2) uW.nd rfl (Or.inl rfl) (xq zc))
   (zf (zF (i:=3) uW.nd rfl (Or.inr rfl) (xq zc))
   (zf (zF (i:=4) uW.nd rfl (Or.inl rfl) (Wr V9 rfl T.PJ Sw (za (pv 1) zc)))
   (zf (N7 PassesOwn.never (zP zdP (zH zG rfl T.xu yr (za (pv 4) zc)) zu (zY _)) (zf (yE (vG PySem.F.plainAttrs_list PySem.F.slot_list_append PySem.F.type_list_append wB (pv 2) (za (pv 4) zc)))
   (zf (zF (i:=3) uW.nd rfl (Or.inr rfl) (zQ QK (pv 3) (pv 4)))
   (zp (zdW (i:=4) uW.nd rfl (Or.inl rfl) (.inl rfl) (Zj:=zq YD) (js:=[3]) rfl (by show ZG (zq YD) _ "k" ["seen"];exact⟨rfl,by decide +kernel,by decide +kernel,rfl,by decide +kernel,by decide +kernel,by decide +kernel⟩) rfl (yU (zx zh3 hr rfl T.zbc T.Py.2 T.zbb .nil zB (za (pv 0) (za (pv 4) zc)))) (by show ∀j∈([3]:List Nat),j<5;decide) (fun cl C s₂ H₂ fp pins s' σ' H' Q I h=>wpAny_tests_one ((zP (zmz (K:=K) rfl) (pv 0) (pv 1) (by with_unfolding_all rfl)) pins s' σ' H' Q I h)) (fun cl C s₂ H₂ fp=>(pv 0)) rfl)))))
   (zp (zK (pv 2))))))),?_⟩
 have M16:=ziQ (os:=os)
 refine⟨by show 0<=sizeLine;decide,fun tl htl=>?_⟩
 have g1:=Same.new htl (.lst [])
 have e1:upd H tl (.lst []) tl=some (.lst []):=zj
 generalize upd H tl (.lst [])=H1 at g1 e1
 refine⟨by show 0<=sizeLine;decide,fun sl hsl=>?_⟩
 have g2:=Same.new hsl (.lst [])
 have e2:upd H1 sl (.lst []) sl=some (.lst []):=zj
 have nst:sl≠tl:=Ne.symm (zE e1 hsl)
 generalize upd H1 sl (.lst [])=H2 at g2 e2
 have g12:=g1.trans g2
 refine⟨_,rfl,pl,_,rfl,.inl (zM.of (g12 _ _ hp)),fun fl hfl=>?_⟩
 have g3:=Same.new hfl (.lst (zR (Qv os fun k=>f (eb os k))))
 have e3:upd H2 fl (.lst (zR (Qv os fun k=>f (eb os k)))) fl=some (.lst (zR (frs os t f 0))):=zj
 have nft:fl≠tl:=Ne.symm (zE (g2 _ _ e1) hfl)
 have ffl:H fl=none:=g12.free hfl
 generalize upd H2 fl (.lst (zR (Qv os fun k=>f (eb os k))))=H3 at g3 e3
 have g13:=g12.trans g3
 refine⟨fun m σ H'=>∃(i:Nat) (us:List Addr) (sl fl:Addr) (sn:List Nat),m=nM os-sn.length/\Same H H'/\H' tl=some (.lst (us.map V.ref))/\Paired (fun u i=>H' u=some (.lst (zR (frs os t f i)))) us (List.range i)/\(∀u∈us,H u=none/\u≠tl)/\(∀j,j<i->∃k,k<nM os/\(vJ os t f j).1 (eb os k)=true)/\H' sl=some (.lst (zR sn))/\sl≠tl/\sn.Nodup/\(∀x,x∈sn↔x<nM os/\(vJ os t f i).2 (eb os x)=true)/\H' fl=some (.lst (zR (frs os t f i)))/\H fl=none/\fl≠tl/\i<=sn.length/\σ=[some (.ref gl),some (.ref pl),some (.ref tl),some (.ref sl),some (.ref fl)],
  ⟨_,0,[],sl,fl,[],rfl,g13,(g2.trans g3) _ _ e1,.nil,(fun _ h=>nomatch h),(fun j hj=>by omega),g3 _ _ e2,nst,List.nodup_nil,(fun x=>⟨(fun h=>nomatch h),(fun h=>by cases h.2)⟩),e3,ffl,nft,zCY _,rfl⟩,?_⟩
 rintro m σ H' ⟨i,us,sl,fl,sn,rfl,g,ht,pd,fs,ne,hs,nst,nd,mem,hfr,ffr,nft,il,rfl⟩
 have snl:sn.length<=nM os:=by
  have:=wK.sub_len (xs:=sn) (ys:=List.range (nM os)) nd fun y h=>List.mem_range.mpr ((mem y).mp h).1
  rwa [zC0] at this
 have ul:=xT pd
 rw[zC0] at ul
 have zBE:=zhn os fun k=>(vJ os t f i).1 (eb os k)
 refine⟨_,rfl,fl,_,rfl,.inl (zM.of hfr),_,_,rfl,rfl,_,rfl,yw (fun c=>?_) (fun c=>?_)⟩
 ·have fp:0<(frs os t f i).length:=by
   have:=of_decide_eq_true c
   unfold zR at this
   rw[zCI] at this
   omega
  refine⟨fun σ' H2=>∃m',m'<nM os-sn.length/\∃(i:Nat) (us:List Addr) (sl fl:Addr) (sn:List Nat),m'=nM os-sn.length/\Same H H2/\H2 tl=some (.lst (us.map V.ref))/\Paired (fun u i=>H2 u=some (.lst (zR (frs os t f i)))) us (List.range i)/\(∀u∈us,H u=none/\u≠tl)/\(∀j,j<i->∃k,k<nM os/\(vJ os t f j).1 (eb os k)=true)/\H2 sl=some (.lst (zR sn))/\sl≠tl/\sn.Nodup/\(∀x,x∈sn↔x<nM os/\(vJ os t f i).2 (eb os x)=true)/\H2 fl=some (.lst (zR (frs os t f i)))/\H fl=none/\fl≠tl/\i<=sn.length/\σ'=[some (.ref gl),some (.ref pl),some (.ref tl),some (.ref sl),some (.ref fl)],fun σ' H2 h=>h,?_⟩
  refine⟨_,rfl,.inl ⟨rfl,_,zM.of ht⟩,_,rfl,tl,_,_,rfl,rfl,ht,by rw[zCI];exact zN (by omega),?_⟩
  have ga:Same H (upd H' tl (.lst (us.map V.ref++[.ref fl]))):=g.over htl _
  have ta:upd H' tl (.lst (us.map V.ref++[.ref fl])) tl=some (.lst ((us++[fl]).map V.ref)):=by rw[zj,zCW];rfl
  have sa:upd H' tl (.lst (us.map V.ref++[.ref fl])) sl=some (.lst (zR sn)):=by rw[zJ nst];exact hs
  have fa:upd H' tl (.lst (us.map V.ref++[.ref fl])) fl=some (.lst (zR (frs os t f i))):=by rw[zJ nft];exact hfr
  have pa:Paired (fun u i=>upd H' tl (.lst (us.map V.ref++[.ref fl])) u=some (.lst (zR (frs os t f i)))) (us++[fl]) (List.range (i+1)):=by
   rw[List.range_succ]
   refine Wv (zhc (by rw[zC0];exact ul) fun j x y a1 a2=>?_) (.cons fa .nil)
   obtain⟨u,hu,gu⟩:=Yr pd a1
   rw[hu] at a2
   cases a2
   rw[zJ (fs x (zCN a1)).2]
   exact gu
  generalize upd H' tl (.lst (us.map V.ref++[.ref fl]))=Ha at ga ta sa fa pa
  have fsl:(frs os t f i).length<=16:=by unfold Zk.frs;omega
  refine⟨_,rfl,_,rfl,sl,fl,_,_,rfl,rfl,zM.of sa,zM.of fa,by unfold zR;rw[zCI,zCI];exact zC1 (zN (by omega)),fun sl2 zt2=>?_⟩
  have gb:=Same.new zt2 (.lst (zR sn++zR (frs os t f i)))
  have sb:upd Ha sl2 (.lst (zR sn++zR (frs os t f i))) sl2=some (.lst (zR (sn++frs os t f i))):=by rw[zj];unfold zR;rw[zCW]
  have n2:sl2≠tl:=Ne.symm (zE ta zt2)
  generalize upd Ha sl2 (.lst (zR sn++zR (frs os t f i)))=Hb at gb sb
  have gab:=ga.trans gb
  refine⟨_,rfl,_,rfl,gl,fl,os,t,H0,ls,_,rfl,hG.same gab,gb _ _ fa,fun bl Hc gc fbl hbl=>?_⟩
  have cb:=zhn os fun k=>(List.range (nM os)).any fun j=>(vJ os t f i).1 (eb os j)&&gr os t j k
  have zsm:∀x,x∈sn++frs os t f i↔x<nM os/\(vJ os t f (i+1)).2 (eb os x)=true:=fun x=>by
   rw[List.mem_append,mem x]
   unfold Zk.frs
   rw[Z6,ziJ,Bool.or_eq_true]
   exact⟨fun z=>z.elim (fun z=>⟨z.1,.inl z.2⟩) fun z=>⟨z.1,.inr z.2⟩,fun⟨z1,z2⟩=>z2.elim (fun z=>.inl ⟨z1,z⟩) fun z=>.inr ⟨z1,z⟩⟩
  refine⟨bl,rfl,⟨_,zM.of hbl⟩,?_⟩
  refine ziP (ps:=Qv os fun k=>(List.range (nM os)).any fun j=>(vJ os t f i).1 (eb os j)&&gr os t j k) (fun x=>!decide (x∈sn++frs os t f i)) (zM.of hbl) (zC1 (zN (by omega))) (fun x H' Q h=>⟨_,rfl,h⟩) (fun x H4 Q0 hx g4 hQ=>?_) (fun H4 l g4 hl=>?_)
  ·refine⟨_,rfl,_,rfl,sl2,_,rfl,.inl (zM.of ((gc.trans g4) _ _ sb)),rfl,UG _,_,rfl,?_⟩
   have z:=hQ _ (g4.trans (Same.refl _))
   rw[<-R6] at z
   exact z
  ·rw[zoK ho hW hf (i:=i) fun x hx=>by rw[zsm x,ziJ];exact⟨fun z=>z.2,fun z=>⟨hx,z⟩⟩]
   have gn:=Same.new hl (.lst (zR (frs os t f (i+1))))
   have gz:=gb.trans (gc.trans (g4.trans gn))
   have nl:l≠tl:=Ne.symm (zE ((gb.trans (gc.trans g4)) _ _ ta) hl)
   refine⟨nM os-(sn++frs os t f i).length,?_,i+1,us++[fl],sl2,l,sn++frs os t f i,rfl,ga.trans gz,gz _ _ ta,vm (fun _ _ z=>gz _ _ z) pa,fun u hu=>?_,fun j hj=>?_,(gc.trans (g4.trans gn)) _ _ sb,n2,?_,zsm,zj,(ga.trans (gb.trans (gc.trans g4))).free hl,nl,?_,rfl⟩
   ·have l2:(sn++frs os t f i).length<=nM os:=by
     have nd2:(sn++frs os t f i).Nodup:=by
      refine List.nodup_append.mpr ⟨nd,List.Nodup.sublist List.filter_sublist List.nodup_range,fun x hx y hy e=>?_⟩
      subst e
      have a1:=((mem x).mp hx).2
      have a2:=(Z6.mp hy).2
      rw[zbE f i _ a2] at a1
      cases a1
     have:=wK.sub_len (xs:=sn++frs os t f i) (ys:=List.range (nM os)) nd2 fun y h=>List.mem_range.mpr ((zsm y).mp h).1
     rwa [zC0] at this
    rw[zCQ] at l2 ⊢
    omega
   ·rcases List.mem_append.mp hu with z | z
    ·exact fs u z
    ·have:u=fl:=by simpa using z
     rw[this];exact⟨ffr,nft⟩
   ·rcases Nat.lt_or_ge j i with z | z
    ·exact ne j z
    ·have:j=i:=by omega
     subst this
     obtain⟨x,hx⟩:=List.exists_mem_of_length_pos fp
     exact⟨x,(Z6.mp hx).1,(Z6.mp hx).2⟩
   ·refine List.nodup_append.mpr ⟨nd,List.Nodup.sublist List.filter_sublist List.nodup_range,fun x hx y hy e=>?_⟩
    subst e
    have a1:=((mem x).mp hx).2
    have a2:=(Z6.mp hy).2
    rw[zbE f i _ a2] at a1
    cases a1
   ·rw[zCQ];omega
 ·refine⟨_,rfl,q tl us i H' g ⟨ht,pd,ne,fun x hx=>?_,by omega,htl,fun u hu=>(fs u hu).1⟩⟩
  cases e:(vJ os t f i).1 (eb os x) with
  | false=>rfl
  | true =>
   have m:x∈frs os t f i:=Z6.mpr ⟨hx,e⟩
   have:=List.length_pos_of_mem m
   have c':¬((0:Int)<(((zR (frs os t f i)).length:Nat):Int)):=of_decide_eq_false (by simpa using c)
   unfold zR at c'
   rw[zCI] at c'
   omega
theorem zdn (T:Txt P w K mg a)(u9:zA P w K mg base zW k a.Xb a.Xc ["table", "place", "value", "marks"] R3):zA P w K mg base zW (k+1) a.XF a.XH ["table", "places", "marks"] (Jd K):=by
 refine T.Tz.ok v7 (fun vs H Q E h=>?_) (fun cdv A outer s H vs Q E hr h=>?_)
 ·obtain⟨N,n,f,pl,ps,rfl,_⟩:=h
  rfl
 obtain⟨N,n,f,pl,ps,rfl,hn,tb,hpl,hps,zzA,q⟩:=h
 refine⟨_,(zf (zF (i:=3) v7.nd rfl (Or.inl rfl) (xq zc))
   (zf (wL PassesOwn.never rfl (yU (pv 1)) (z9 (i:=4) v7.nd rfl (Or.inl rfl)) (zf (zF (i:=5) v7.nd rfl (Or.inl rfl) (zx u9 hr rfl T.W2 T.Xj.2 T.W0 .nil zB (za (pv 0) (za (pv 4) (za zu (za (pv 2) zc))))))
   (zf (zF (i:=6) v7.nd rfl (Or.inl rfl) (zao (zP K9 (pv 5) zu (zY _)) zu zu))
   (zf (zF (i:=0) v7.nd rfl (Or.inl rfl) (zx u9 hr rfl T.W2 T.Xj.2 T.W0 .nil zB (za (pv 0) (za (pv 4) (za (pv 6) (za (pv 2) zc))))))
   (zp (yE (vG PySem.F.plainAttrs_list PySem.F.slot_list_append PySem.F.type_list_append wB (pv 3) (za (pv 6) zc))))))))
   (zp (zK (pv 3))))),?_⟩
 refine⟨by show 0<=sizeLine;decide,fun l hl=>?_⟩
 have g0:=Same.new hl (.lst [])
 refine⟨_,rfl,pl,rfl,⟨_,g0.seq hpl⟩,?_⟩
 refine uf (xs:=ps.map fun p=>V.int (p:Nat)) (fun i σ H'=>∃(M:Nat) (g:Nat->Bool) (r:List Bool) (f4 f5 f6:Option V),Same H H'/\H' l=some (.lst (yd r))/\zX n M g/\r.length=i/\wK.fvP n f ps=r++wK.fvP n g (ps.drop i)/\σ=[some (.int M),some (.ref pl),some (.int n),some (.ref l),f4,f5,f6])
  ⟨N,f,[],_,_,_,g0,zj,tb,rfl,rfl,rfl⟩ ?_ ?_ ?_
 ·rintro i σ H' _ ⟨M,g,r,f4,f5,f6,gg,_⟩
  exact gg.seq hpl
 ·rintro i x σ H' hx ⟨M,g,r,f4,f5,f6,gg,hL,tg,hr',e,rfl⟩
  rw[zCK] at hx
  cases hp:ps[i]? with
  | none=>rw[hp] at hx;cases hx
  | some p =>
   rw[hp] at hx
   cases hx
   have hpn:=hps p (zCN hp)
   obtain⟨lt,e'⟩:=zCL.mp hp
   rw[List.drop_eq_getElem_cons lt,e'] at e
   refine⟨_,rfl,_,rfl,_,rfl,M,p,n,false,g,rfl,hpn,hn,tg,fun R tr=>?_⟩
   have tz:=wK.zaw tr
   refine⟨_,rfl,rfl,_,rfl,?_⟩
   have ee:(!decide (V.int (R:Nat)=V.int 0))=wK.anyB n fun b=>g (zO b p false):=by
    cases hz:wK.anyB n fun b=>g (zO b p false) with
    | true =>
     rw[hz] at tz
     rw[decide_eq_false fun z=>by injection z with z;exact absurd (decide_eq_true (show R=0 by omega)) (by rw[tz];exact zCM)]
     rfl
    | false =>
     rw[hz] at tz
     have z:R=0:=of_decide_eq_true tz
     subst z
     rfl
   rw[ee]
   cases hz:wK.anyB n fun b=>g (zO b p false) with
   | true =>
    refine yw (fun _=>?_) (fun c=>absurd rfl c)
    refine⟨_,rfl,_,rfl,_,rfl,_,rfl,M,p,n,false,g,rfl,hpn,hn,tg,fun R2 t2=>?_⟩
    refine⟨_,rfl,.inl ⟨rfl,_,zM.of hL⟩,_,rfl,l,_,_,rfl,rfl,hL,?_,?_⟩
    ·unfold yd;rw[zCI,hr'];exact zN (by omega)
    ·refine⟨R2,_,r++[false],_,_,_,gg.over hl _,by rw[zj];unfold yd;rw[zCW];rfl,t2,by rw[zCQ,hr'];rfl,?_,rfl⟩
     rw[e,List.append_assoc]
     show r++(_::_)=r++([false]++_)
     rw[hz]
     rfl
   | false =>
    refine yw (fun c=>absurd c zCM) (fun _=>?_)
    refine⟨_,rfl,_,rfl,_,rfl,_,rfl,M,p,n,true,g,rfl,hpn,hn,tg,fun R2 t2=>?_⟩
    refine⟨_,rfl,.inl ⟨rfl,_,zM.of hL⟩,_,rfl,l,_,_,rfl,rfl,hL,?_,?_⟩
    ·unfold yd;rw[zCI,hr'];exact zN (by omega)
    ·refine⟨R2,_,r++[true],_,_,_,gg.over hl _,by rw[zj];unfold yd;rw[zCW];rfl,t2,by rw[zCQ,hr'];rfl,?_,rfl⟩
     rw[e,List.append_assoc]
     show r++(_::_)=r++([true]++_)
     rw[hz]
     rfl
 ·rintro σ H' ⟨M,g,r,f4,f5,f6,gg,hL,tg,hr',e,rfl⟩
  rw[zCI,List.drop_length] at e
  have e1:wK.fvP n f ps=r:=by rw[e];exact List.append_nil _
  refine⟨_,rfl,q l H' gg hl ?_⟩
  rw[e1]
  exact hL
theorem zfc (T:Txt P w K mg a)(vR:zA P w K mg base zW k a.tV a.tW ["marks"] Wt)(wH:zA P w K mg base zW k a.wW a.wX ["place", "marks"] tU)(Qt:zA P w K mg base zW k a.Xd a.Xe ["table", "other"] Uy):zA P w K mg base zW (k+1) a.Vd a.Ve ["places", "values", "marks"] (zaO K):=by
 refine T.Ry.ok uU (fun vs H Q E h=>?_) (fun cdv A outer s H vs Q E hr h=>?_)
 ·obtain⟨pl,rl,n,ps,r,rfl,_⟩:=h
  rfl
 obtain⟨pl,rl,n,ps,r,rfl,n8,hl,hm,hp,el,l8,q⟩:=h
 refine⟨_,(zf (zF (i:=3) uU.nd rfl (Or.inl rfl) (zx vR hr rfl T.Y5 T.ZR.2 T.Y4 .nil zB (za (pv 2) zc)))
   (zf (wL PassesOwn.never rfl (zok rfl T.zmf (za (pv 0) (za (pv 1) zc))) (N6 rfl (wJ (z9 (i:=4) uU.nd rfl (Or.inl rfl)) (wJ (z9 (i:=5) uU.nd rfl (Or.inl rfl)) Sq))) (zf (zF (i:=6) uU.nd rfl (Or.inl rfl) (zx wH hr rfl T.Xi T.ZS.2 T.Xh .nil zB (za (pv 4) (za (pv 2) zc))))
   (zp (zF (i:=3) uU.nd rfl (Or.inl rfl) (zao (zP wZ (pv 5) zu (zY _)) (zQ Zz (pv 3) (pv 6)) (zx Qt hr rfl T.Ko T.Qk.2 T.Km .nil zB (za (pv 3) (za (pv 6) zc))))))))
   (zp (zK (pv 3))))),?_⟩
 refine⟨_,rfl,n,rfl,n8,?_⟩
 refine⟨_,rfl,_,rfl,pl,rl,zR ps,yd r,rfl,hl,hm,?_⟩
 have e1:(zR ps).length=ps.length:=zCI _
 have e2:(yd r).length=r.length:=zCI _
 refine zlS (xs:=zR ps) (ys:=yd r) (by omega) (fun i σ H'=>Same H H'/\∃(M:Nat) (f4 f5 f6:Option V),zX n M (hav ((ps.zip r).take i))/\σ=[some (.ref pl),some (.ref rl),some (.int (n:Nat)),some (.int (M:Nat)),f4,f5,f6]) ⟨Same.refl _,_,_,_,_,zav n,rfl⟩ ?_ ?_ ?_
 ·rintro i σ H' _ ⟨g,_⟩
  exact⟨g.seq hl,g.seq hm⟩
 ·rintro i x y σ H' t hx hy ⟨g,M,f4,f5,f6,tm,rfl⟩ ht
  unfold zR at hx
  unfold yd at hy
  rw[zCK] at hx hy
  cases hj:ps[i]? with
  | none=>rw[hj] at hx;cases hx
  | some p =>
   rw[hj] at hx
   cases hx
   cases hk:r[i]? with
   | none=>rw[hk] at hy;cases hy
   | some v =>
    rw[hk] at hy
    cases hy
    have hz:(ps.zip r)[i]?=some (p,v):=List.getElem?_zip_eq_some.mpr ⟨hj,hk⟩
    have pn:=hp p (zCN hj)
    have nx:hav ((ps.zip r).take (i+1))=fun b=>hav ((ps.zip r).take i) b&&(b.testBit p==v):=funext fun b=>by
     rw[yW hz]
     unfold hav
     rw[List.all_append]
     simp
    refine⟨t,_,rfl,vW.of zj,rfl,_,_,rfl,_,_,rfl,rfl,?_⟩
    refine⟨_,rfl,_,rfl,p,n,rfl,pn,n8,fun W tw=>?_⟩
    refine⟨_,rfl,rfl,_,rfl,?_⟩
    cases v with
    | true =>
     refine zbs ⟨_,rfl,_,rfl,M,W,rfl,rfl,g.trans (Same.new ht _),_,_,_,_,?_,rfl⟩
     rw[nx]
     have e:(fun b=>hav ((ps.zip r).take i) b&&(b.testBit p==true))=fun b=>hav ((ps.zip r).take i) b&&b.testBit p:=funext fun b=>by simp
     rw[e]
     exact zdE tm tw
    | false =>
     refine YX ⟨_,rfl,_,rfl,M,W,n,_,_,rfl,tm,tw,fun R tr=>⟨g.trans (Same.new ht _),R,_,_,_,?_,rfl⟩⟩
     rw[nx]
     have e:(fun b=>hav ((ps.zip r).take i) b&&(b.testBit p==false))=fun b=>hav ((ps.zip r).take i) b&&!b.testBit p:=funext fun b=>by cases b.testBit p<;>rfl
     rw[e]
     exact tr
 ·rintro σ H' ⟨g,M,f4,f5,f6,tm,rfl⟩
  have el:(ps.zip r).length=(zR ps).length:=by rw[List.length_zip,e1];omega
  rw[<-el,zDb] at tm
  exact⟨_,rfl,q M H' g tm⟩
theorem zdo (T:Txt P w K mg a)(zfd:zA P w K mg base zW k a.XF a.XH ["table", "places", "marks"] (Jd K))(uD:zA P w K mg base zW k a.uh a.uo ["book"] (Xa a.zy))(yc:zA P w K mg base zW k a.yF a.yG ["self"] (xQ (yD a.zy))):zA P w K mg base zW (k+1) a.XQ a.XR ["book", "table"] (zep a.zy):=by
 refine T.Wb.ok zdd (fun vs H Q E h=>?_) (fun cdv A outer s H vs Q E hr h=>?_)
 ·obtain⟨b,os,rs,F,N,f,rfl,_⟩:=h
  rfl
 obtain⟨b,os,rs,F,N,f,rfl,hB,tf,q⟩:=h
 refine⟨_,(zp (zK (zx zfd hr rfl T.MN T.Tz.2 T.MK .nil zB (za (pv 1) (za (zx uD hr rfl T.Yl T.Zf.2 T.Yk .nil zB (za (pv 0) zc)) (za (zH zG rfl T.xu yr (za (ZF (pv 0) T.yu T.xX yc hr T.xW .nil zB) zc)) zc)))))),?_⟩
 have L:=xU a.zy
 have o8:=(L.ord hB).le
 have lo5:(os.map V.str).length=os.length:=zCI _
 have l4:(yg os).length<=8:=by unfold yg;rw[zCI];have:=uT os;omega
 have hB0:=hB
 obtain⟨dx,ml,rl,tl,nd,rv,ts,kvs,h⟩:=hB
 refine⟨_,rfl,_,rfl,b,os,rs,F,rfl,hB0,fun l1 H1 g1 fl1 hl1=>?_⟩
 have JF:=L.same hB0 g1
 refine⟨_,rfl,b,dx,_,rfl,g1 _ _ h.hb,rfl,b,os,rs,F,rfl,JF,fun l2 H2 g2 fl2 hl2=>?_⟩
 refine⟨l2,_,rfl,.inl (zM.of hl2),?_⟩
 rw[lo5]
 refine⟨N,os.length,f,l1,yg os,rfl,o8,tf,zM.of (g2 _ _ hl1),Xq,by omega,fun l H' g3 fl hl=>?_⟩
 exact q l H' (g1.trans (g2.trans g3)) (g1.free (g2.free fl)) hl
theorem zqP (T:Txt P w K mg a)(zfQ:zA P w K mg base zW k a.Vd a.Ve ["places", "values", "marks"] (zaO K))(uD:zA P w K mg base zW k a.uh a.uo ["book"] (Xa a.zy))(yc:zA P w K mg base zW k a.yF a.yG ["self"] (xQ (yD a.zy))):zA P w K mg base zW (k+1) a.zbQ a.zbR ["book", "row"] (zhj a.zy K):=by
 refine T.zhy.ok zqG (fun vs H Q E h=>?_) (fun cdv A outer s H vs Q E hr h=>?_)
 ·obtain⟨b,rl,os,rs,F,r,rfl,_⟩:=h
  rfl
 obtain⟨b,rl,os,rs,F,r,rfl,hB,hr',lr,q⟩:=h
 refine⟨_,(zp (zK (zx zfQ hr rfl T.Jk T.Ry.2 T.Jj .nil zB (za (zx uD hr rfl T.Yl T.Zf.2 T.Yk .nil zB (za (pv 0) zc)) (za (pv 1) (za (zH zG rfl T.xu yr (za (ZF (pv 0) T.yu T.xX yc hr T.xW .nil zB) zc)) zc)))))),?_⟩
 have L:=xU a.zy
 have o8:=(L.ord hB).le
 have lo5:(os.map V.str).length=os.length:=zCI _
 have l4:(yg os).length<=8:=by unfold yg;rw[zCI];have:=uT os;omega
 have hB0:=hB
 obtain⟨dx,ml,rl',tl,nd,rv,ts,kvs,h⟩:=hB
 refine⟨_,rfl,b,os,rs,F,rfl,hB0,fun l1 H1 g1 fl1 hl1=>?_⟩
 have JF:=L.same hB0 g1
 refine⟨_,rfl,_,rfl,b,dx,_,rfl,g1 _ _ h.hb,rfl,b,os,rs,F,rfl,JF,fun l2 H2 g2 fl2 hl2=>?_⟩
 refine⟨l2,_,rfl,.inl (zM.of hl2),?_⟩
 rw[lo5]
 refine⟨l1,rl,os.length,yg os,r,rfl,o8,zM.of (g2 _ _ hl1),(g1.trans g2).seq hr',Xq,lr,l4,fun R H' g3 tr=>?_⟩
 exact q R H' (g1.trans (g2.trans g3)) tr
theorem zfe (T:Txt P w K mg a)(Lp:zA P w K mg base zW k a.XQ a.XR ["book", "table"] (zep a.zy))(zpi:zA P w K mg base zW k a.zaZ a.za0 ["book", "steps", "table"] (ziC a.zy))(zld:zA P w K mg base zW k a.zbQ a.zbR ["book", "row"] (zhj a.zy K)):zA P w K mg base zW (k+1) a.Vj a.Vk ["book", "steps", "ahead", "met"] (zaP a.zy K):=by
 refine T.RG.ok Tw (fun vs H Q E h=>?_) (fun cdv A outer s H vs Q E hr h=>?_)
 ·obtain⟨b,al,os,rs,F,k0,N,Ns,f,fs,rfl,_⟩:=h
  rfl
 obtain⟨b,al,os,rs,F,k0,N,Ns,f,fs,rfl,hB,hW,hk,hal,ln,pf,tf,q⟩:=h
 refine⟨_,(zf (zF (i:=4) Tw.nd rfl (Or.inl rfl) (xq (za (zx Lp hr rfl T.T5 T.Wb.2 T.T4 .nil zB (za (pv 0) (za (pv 3) zc))) zc)))
   (zf (wL PassesOwn.never rfl (zr5 rfl T.zae (za (pv 2) zc)) (z9 (i:=5) Tw.nd rfl (Or.inl rfl)) (zp (yE (vG PySem.F.plainAttrs_list PySem.F.slot_list_append PySem.F.type_list_append wB (pv 4) (za (zx Lp hr rfl T.T5 T.Wb.2 T.T4 .nil zB (za (pv 0) (za (zQ Zz (pv 5) (zx zpi hr rfl T.zi8 T.zeL.2 T.zi7 .nil zB (za (pv 0) (za (pv 1) (za (zx zld hr rfl T.zkr T.zhy.2 T.zkq .nil zB (za (pv 0) (za (yj yV (pv 4) (zid zdO zu) (fun _ _=>rfl)) zc))) zc))))) zc))) zc)))))
   (zp (zK (zkd rfl rfl T.PJ rfl T.zae (za (pv 4) zc)))))),?_⟩
 have L:=xU a.zy
 have lf:=xT pf
 refine⟨_,rfl,_,rfl,b,os,rs,F,N,f,rfl,hB,tf,fun l0 H1 g1 fl0 hl0=>⟨by show 1<=sizeLine;decide,fun rl hrl=>?_⟩⟩
 have j1:=Same.new hrl (.lst [V.ref l0])
 have e1:upd H1 rl (.lst [V.ref l0]) rl=some (.lst (([]++[l0]).map V.ref)):=zj
 have hl0':=j1 _ _ hl0
 have fr:=g1.free hrl
 have ne0:l0≠rl:=fun e=>by rw[e,hrl] at hl0;cases hl0
 generalize upd H1 rl (.lst [V.ref l0])=H2 at j1 e1 hl0'
 have g2:=g1.trans j1
 refine⟨_,rfl,al,zR Ns,rfl,g2.seq hal,?_⟩
 refine zqz (xs:=zR Ns) (fun i σ H'=>∃(q0:List Addr) (p:Addr) (w0:List (List Bool)) (r:List Bool) (f5:Option V),Same H H'/\H' rl=some (.lst ((q0++[p]).map V.ref))/\q0.length=i/\Paired (JW H') q0 w0/\JW H' p r/\(yg os).length=r.length/\(∀y∈q0++[p],H y=none)/\K4 os (tB rs k0) fs.reverse (wK.fvP os.length f (yg os))=w0++K4 os (tB rs k0) (fs.reverse.drop i) r/\σ=[some (.ref b),some (.int (k0:Nat)),some (.ref al),some (.int (N:Nat)),some (.ref rl),f5])
  ⟨[],l0,[],_,_,g2,e1,rfl,.nil,hl0',(zaN _ _ _).symm,(fun y hy=>by rw[List.nil_append,List.mem_singleton] at hy;rw[hy];exact fl0),rfl,rfl⟩ ?_ ?_ ?_
 ·rintro i σ H' _ ⟨q0,p,w0,r,f5,g,_⟩
  exact g.seq hal
 ·rintro i x σ H' hi hx ⟨q0,p,w0,r,f5,g,hr',lq,pq,pr,lr,fq,ew,rfl⟩
  rw[Yz] at hi hx
  obtain⟨M,hM,rfl⟩:=zen hx
  obtain⟨fm,hfm,tm⟩:=Yr pf hM
  have hfr:fs.reverse[i]?=some fm:=by
   rw[List.getElem?_reverse (by omega),<-lf]
   exact hfm
  obtain⟨lt,efm⟩:=zCL.mp hfr
  have hB':=L.same hB g
  refine⟨_,rfl,.inl ⟨rfl,_,zM.of hr'⟩,?_⟩
  refine⟨_,rfl,_,rfl,_,rfl,_,rfl,_,rfl,_,rfl,_,rfl,rl,_,-1,_,rfl,rfl,zM.of hr',by rw[zCW];exact zdU _ _,?_⟩
  refine⟨b,p,os,rs,F,r,rfl,hB',zM.of pr,lr,fun R H3 g3 tR=>?_⟩
  have hB3:=L.same hB' g3
  refine⟨b,os,rs,F,k0,R,_,rfl,hB3,hk,hW,tR,fun R2 H4 g4 tR2=>⟨M,R2,rfl,rfl,?_⟩⟩
  have hB4:=L.same hB3 g4
  refine⟨b,os,rs,F,_,_,rfl,hB4,zdE tm tR2,fun l5 H5 g5 fl5 hl5=>?_⟩
  have G5:=g3.trans (g4.trans g5)
  have hr5:=G5 _ _ hr'
  have lq2:(q0++[p]).length=i+1:=by rw[zCQ,lq];rfl
  refine⟨rl,_,_,rfl,rfl,hr5,by rw[zCI,lq2];exact zN (by omega),?_⟩
  have gO:Same H (upd H5 rl (.lst ((q0++[p]).map V.ref++[V.ref l5]))):=(g.trans G5).over fr _
  have keep:∀{y:Addr} {c:List Bool},JW H' y c->y≠rl->JW (upd H5 rl (.lst ((q0++[p]).map V.ref++[V.ref l5]))) y c:=fun {y c} hy ny=>by
   unfold JW
   rw[zJ ny]
   exact G5 _ _ hy
  have nrl:∀{y:Addr} {c:List Bool},JW H' y c->y≠rl:=fun {y c} hy e=>by
   unfold JW at hy
   rw[e,hr'] at hy
   injection hy with z
   injection z with z
   cases c with
   | nil=>rw[zCW] at z;cases hq:q0.map V.ref with
    | nil=>rw[hq] at z;cases z
    | cons _ _=>rw[hq] at z;cases z
   | cons v c =>
    cases q0 with
    | nil=>injection z with z1 z2;cases z1
    | cons _ _=>injection z with z1 z2;cases z1
  have n5:l5≠rl:=fun e=>by rw[e,(g3.trans g4) _ _ hr'] at fl5;cases fl5
  refine⟨q0++[p],l5,w0++[r],_,_,gO,by rw[zj,zCW (l₁:=q0++[p])];rfl,lq2,Wv (vm (fun _ _ e=>keep e (nrl e)) pq) (.cons (keep pr (nrl pr)) .nil),by unfold JW;rw[zJ n5];exact hl5,(zaN _ _ _).symm,(fun y hy=>(List.mem_append.mp hy).elim (fq y) fun hy=>by rw[List.mem_singleton] at hy;rw[hy];exact(g.trans (g3.trans g4)).free fl5),?_,rfl⟩
  rw[ew,List.drop_eq_getElem_cons lt,efm,List.append_assoc]
  rfl
 ·rintro σ H' ⟨q0,p,w0,r,f5,g,hr',lq,pq,pr,lr,fq,ew,rfl⟩
  rw[Yz] at ew
  rw[List.drop_eq_nil_of_le (by rw[List.length_reverse];omega)] at ew
  refine⟨_,rfl,rl,_,rfl,zM.of hr',fun l hl=>?_⟩
  have gN:=Same.new hl (.lst ((q0++[p]).map V.ref).reverse)
  refine q l _ (q0++[p]).reverse (g.trans gN) (g.free hl) (by rw[zj,List.map_reverse]) ?_ (fun y hy=>fq y (List.mem_reverse.mp hy))
  rw[ew]
  exact zoC (Wv (vm (fun _ _ e=>gN _ _ e) pq) (.cons (gN _ _ pr) .nil))
theorem znr (T:Txt P w K mg a)(Z0:zA P w K mg base zW k a.xZ a.wg ["book", "steps", "rooms"] (QM a.zy K))(zff:zA P w K mg base zW k a.XJ a.XM ["book", "steps", "start"] (Jf a.zy))(yN:zA P w K mg base zW k a.yR a.yS ["self", "number"] (Z5 a.zy))(zfR:zA P w K mg base zW k a.Vj a.Vk ["book", "steps", "ahead", "met"] (zaP a.zy K)):zA P w K mg base zW (k+1) a.za1 a.za2 ["book", "steps", "start", "goal"] (zlZ a.zy):=by
 refine T.zeM.ok Ke (fun vs H Q E h=>?_) (fun cdv A outer s H vs Q E hr h=>?_)
 ·obtain⟨b,os,rs,F,k0,i0,j0,rfl,_⟩:=h
  rfl
 obtain⟨b,os,rs,F,k0,i0,j0,rfl,hB,hW,hk,hI,hJ,q1,q2⟩:=h
 refine⟨_,(zf (yE (zx Z0 hr rfl T.ZW T.ux.2 T.ZV .nil zB (za (pv 0) (za (pv 1) (za (xq (za (pv 2) (za (pv 3) zc))) zc)))))
   (zf (zF (i:=4) Ke.nd rfl (Or.inl rfl) (xq zc))
   (zf (wL PassesOwn.never rfl (yU (zx zff hr rfl T.La T.T3.2 T.M9 .nil zB (za (pv 0) (za (pv 1) (za (pv 2) zc))))) (z9 (i:=5) Ke.nd rfl (Or.inl rfl)) (zf (zF (i:=6) Ke.nd rfl (Or.inl rfl) (zQ Zz (pv 5) (uQ (pv 0) T.yu T.wG yN hr T.wF .nil zB (za (pv 3) zc))))
   (zf (yP (zP K9 (pv 6) zu (zY _)) (zp (zK (zx zfR hr rfl T.Jr T.RG.2 T.Jq .nil zB (za (pv 0) (za (pv 1) (za (pv 4) (za (pv 6) zc))))))) z8)
   (zp (yE (vG PySem.F.plainAttrs_list PySem.F.slot_list_append PySem.F.type_list_append wB (pv 4) (za (pv 5) zc)))))))
   (zp (zK znA))))),?_⟩
 have L:=xU a.zy
 refine⟨_,rfl,_,rfl,_,rfl,_,rfl,by show 2<=sizeLine;decide,fun l0 hl0=>?_⟩
 have g0:=Same.new hl0 (.lst [.int (i0:Nat),.int (j0:Nat)])
 refine⟨b,l0,os,rs,F,k0,[i0,j0],rfl,L.same hB g0,hW,hk,zM.of zj,fun j' hj'=>?_,fun H1 g1=>?_⟩
 ·simp only[List.mem_cons,zC9,or_false] at hj'
  rcases hj' with e | e<;>subst e
  ·exact hI
  ·exact hJ
 have G1:=g0.trans g1
 generalize upd H l0 (.lst [.int (i0:Nat),.int (j0:Nat)])=Hx at g0 g1
 refine⟨by show 0<=sizeLine;decide,fun al hal=>?_⟩
 have g2:=Same.new hal (.lst [])
 have e2:upd H1 al (.lst []) al=some (.lst (zR [])):=zj
 have fal:=G1.free hal
 generalize upd H1 al (.lst [])=H2 at g2 e2
 have G2:=G1.trans g2
 refine⟨_,rfl,_,rfl,_,rfl,b,os,rs,F,k0,i0,rfl,L.same hB G2,hW,hk,hI.1,fun l H3 Ns g3 fl hl rn ln=>?_⟩
 have G3:=G2.trans g3
 have nl:l≠al:=fun e=>by rw[e,e2] at fl;cases fl
 have fll:=G2.free fl
 refine⟨l,rfl,⟨_,zM.of hl⟩,?_⟩
 refine uf (xs:=zR Ns) (fun i σ H'=>∃(f5 f6:Option V),Same H H'/\H' l=some (.lst (zR Ns))/\H' al=some (.lst (zR (Ns.take i)))/\(∀m,m<i->∀c,c<2^os.length->(vJ os (tB rs k0) (tB rs i0) m).1 c=true->tB rs j0 c=false)/\σ=[some (.ref b),some (.int (k0:Nat)),some (.int (i0:Nat)),some (.int (j0:Nat)),some (.ref al),f5,f6])
  ⟨_,_,G3,hl,g3 _ _ e2,(fun m hm=>absurd hm (Nat.not_lt_zero _)),rfl⟩ ?_ ?_ ?_
 ·rintro i σ H' _ ⟨f5,f6,g,h1,_⟩
  exact zM.of h1
 ·rintro i x σ H' hx ⟨f5,f6,g,h1,h2,no,rfl⟩
  obtain⟨N,hN,rfl⟩:=zen hx
  have hi:=(zCL.mp hN).1
  obtain⟨tN,_⟩:=rn.tab i N hN
  have hB':=L.same hB g
  obtain⟨dx,ml,rl,tl,nd,rv,ts,kvs,h⟩:=id hB'
  refine⟨_,rfl,_,rfl,b,dx,_,rfl,h.hb,rfl,_,rfl,b,os,rs,F,j0,rfl,hB',hJ.1,fun M tM=>⟨N,M,rfl,rfl,?_⟩⟩
  have tNM:=zdE tN tM
  refine⟨_,rfl,rfl,_,rfl,?_⟩
  by_cases c0:N&&&M=0
  ·refine zhb (show V.int ((N&&&M:Nat):Int)=V.int 0 by rw[c0];rfl) ?_
   refine⟨_,rfl,.inl ⟨rfl,_,zM.of h2⟩,_,rfl,al,_,_,rfl,rfl,h2,by rw[Yz,zC6];exact zN (by omega),?_⟩
   refine⟨_,_,g.over fal _,by rw[zJ nl];exact h1,?_,fun m hm c hc e=>?_,rfl⟩
   ·rw[zj,yW hN]
    unfold zR
    rw[zCW]
    rfl
   ·rcases (by omega:m<i\/m=i) with z | z
    ·exact no m z c hc e
    ·subst z
     have y:=tNM c
     rw[c0,Nat.zero_testBit,decide_eq_true hc,Bool.true_and] at y
     have y2:((vJ os (tB rs k0) (tB rs i0) m).1 c&&tB rs j0 c)=false:=y.symm
     rw[e,Bool.true_and] at y2
     exact y2
  ·show if (!decide (V.int ((N&&&M:Nat):Int)=V.int 0))=true then _ else _
   rw[decide_eq_false (fun e=>c0 (by injection e;omega))]
   refine zbs ?_
   have pf:Paired (zX os.length) (Ns.take i) ((List.range i).map fun d=>(vJ os (tB rs k0) (tB rs i0) d).1):=by
    refine zhc (by rw[zC6,zCI,zC0];omega) fun j x y hx hy=>?_
    rw[List.getElem?_take] at hx
    split at hx
    ·rename_i lt
     rw[zCK,List.getElem?_range lt] at hy
     cases hy
     exact(rn.tab j x hx).1
    ·cases hx
   refine⟨_,rfl,_,rfl,_,rfl,_,rfl,b,al,os,rs,F,k0,N&&&M,Ns.take i,_,_,rfl,hB',hW,hk,zM.of h2,by rw[zC6];omega,pf,tNM,fun l5 H5 qs g5 fl5 hl5 hp5 fq5=>?_⟩
   refine q2 l5 H5 qs Ns i (g.trans g5) (g.free fl5) hl5 rn hi ⟨?_,fun j hj c hc e=>no j hj c hc e⟩ hp5 fun y hy=>g.free (fq5 y hy)
   refine Classical.byContradiction fun nx=>c0 (QS fun c=>?_)
   rw[tNM c,Nat.zero_testBit]
   by_cases hc:c<2^os.length
   ·rw[decide_eq_true hc,Bool.true_and]
    dsimp only
    cases e:((vJ os (tB rs k0) (tB rs i0) i).1 c&&wK.yes rs j0 (wK.QG c)) with
    | false=>rfl
    | true=>exact absurd ⟨c,hc,((zDa _ _).mp e).1,((zDa _ _).mp e).2⟩ nx
   ·rw[decide_eq_false hc,Bool.false_and]
 ·rintro σ H' ⟨f5,f6,g,h1,h2,no,rfl⟩
  rw[Yz] at no
  exact q1 H' Ns g rn no
theorem zfS (T:Txt P w K mg a)(Z0:zA P w K mg base zW k a.xZ a.wg ["book", "steps", "rooms"] (QM a.zy K))(Ln:zA P w K mg base zW k a.Xf a.Xg ["book"] (QL a.zy))(zfT:zA P w K mg base zW k a.Vh a.Vi ["order", "row"] (zgk K))(zld:zA P w K mg base zW k a.zbQ a.zbR ["book", "row"] (zhj a.zy K))(yN:zA P w K mg base zW k a.yR a.yS ["self", "number"] (Z5 a.zy))(zhZ:zA P w K mg base zW k a.Kf a.Kg ["book", "steps", "table"] (zdC a.zy)) :
  zA P w K mg base zW (k+1) a.S6 a.S7 ["book", "steps", "start", "goal", "rows"] (zcR a.zy K):=by
 refine T.Lb.ok Q8 (fun vs H Q E h=>?_) (fun cdv A outer s H vs Q E hr h=>?_)
 ·obtain⟨b,rl,os,rs,F,k0,i0,j0,ps,rr,rfl,_⟩:=h
  rfl
 obtain⟨b,rl,os,rs,F,k0,i0,j0,ps,rr,rfl,hB,hW,hk,hI,hJ,hrl,hp,hlen,zxj,first,last,step,q⟩:=h
 refine⟨_,(zf (yE (zx Z0 hr rfl T.ZW T.ux.2 T.ZV .nil zB (za (pv 0) (za (pv 1) (za (xq (za (pv 2) (za (pv 3) zc))) zc)))))
   (zf (wL PassesOwn.never rfl (yU (pv 4)) (z9 (i:=5) Q8.nd rfl (Or.inl rfl)) (zp (yE (zx zfT hr rfl T.Jp T.RD.2 T.Jo .nil zB (za (zx Ln hr rfl T.M8 T.Rg.2 T.M7 .nil zB (za (pv 0) zc)) (za (pv 5) zc))))))
   (zf (yP (zP wZ (zH zG rfl T.xu yr (za (pv 4) zc)) zu (zY _)) (zp (zK Yw)) z8)
   (zf (zF (i:=6) Q8.nd rfl (Or.inr rfl) (tQ (Zj:=zq ZQ) (js:=[0]) rfl (by show ZG (zq ZQ) _ "row" ["book"];exact⟨rfl,by decide +kernel,by decide +kernel,rfl,by decide +kernel,by decide +kernel,by decide +kernel⟩) rfl (yU (pv 4)) (by show ∀j∈([0]:List Nat),j<7;decide) (fun cl C s₂ H₂ fp=>(zx zld hr rfl T.zkr T.zhy.2 T.zkq .nil zB (za (pv 1) (za (pv 0) zc))))))
   (zf (yP (PW.pt (Nb (zP wZ (zQ Zz (yj yV (pv 6) zu (fun _ _=>rfl)) (uQ (pv 0) T.yu T.wG yN hr T.wF .nil zB (za (pv 2) zc))) zu (zY _)) (Rh (zP wZ (zQ Zz (yj yV (pv 6) (zid zdO zu) (fun _ _=>rfl)) (uQ (pv 0) T.yu T.wG yN hr T.wF .nil zB (za (pv 3) zc))) zu (zY _))))) (zp (zK Yw)) z8)
   (zp (zK (zH (ZJ rfl) rfl T.Nx U8 (za (tQ (Zj:=zq ZQ) (js:=[0,1,6]) rfl (by show ZG (zq ZQ) _ "at" ["book", "steps", "tables"];exact⟨rfl,by decide +kernel,by decide +kernel,rfl,by decide +kernel,by decide +kernel,by decide +kernel⟩) rfl (vX rfl T.Zi (za (zQ JH (zH zG rfl T.xu yr (za (pv 6) zc)) zu) zc)) (by show ∀j∈([0,1,6]:List Nat),j<7;decide) (fun cl C s₂ H₂ fp=>(tO K9 (zQ Zz (zx zhZ hr rfl T.zhv T.zdH.2 T.zhu .nil zB (za (pv 1) (za (pv 2) (za (yj (Vw (K:=K) rfl) (pv 3) (pv 0) (fun _ _=>rfl)) zc)))) (yj (Vw (K:=K) rfl) (pv 3) (zQ wU (pv 0) zu) (fun _ _=>rfl))) zu (zY _)))) zc))))))))),?_⟩
 have L:=xU a.zy
 have ho:=L.ord hB
 have n4:=uT os
 have pl:=xT hp
 refine⟨_,rfl,_,rfl,_,rfl,_,rfl,by show 2<=sizeLine;decide,fun l0 hl0=>?_⟩
 have g0:=Same.new hl0 (.lst [.int (i0:Nat),.int (j0:Nat)])
 refine⟨b,l0,os,rs,F,k0,[i0,j0],rfl,L.same hB g0,hW,hk,zM.of zj,fun j' hj'=>?_,fun H1 g1=>?_⟩
 ·simp only[List.mem_cons,zC9,or_false] at hj'
  rcases hj' with e | e<;>subst e
  ·exact hI
  ·exact hJ
 have G1:=g0.trans g1
 generalize upd H l0 (.lst [.int (i0:Nat),.int (j0:Nat)])=Hx at g0 g1
 have zxk:=G1 _ _ hrl
 refine⟨_,rfl,rl,rfl,⟨_,zM.of zxk⟩,?_⟩
 refine uf (xs:=ps.map V.ref) (fun i σ H'=>Same H H'/\∃f5:Option V,σ=[some (.ref b),some (.int (k0:Nat)),some (.int (i0:Nat)),some (.int (j0:Nat)),some (.ref rl),f5,none]) ⟨G1,_,rfl⟩ (fun i σ H' _ ⟨g,_⟩=>zM.of (g _ _ hrl)) ?_ ?_
 ·rintro i x σ H' hx ⟨g,f5,rfl⟩
  rw[zCK] at hx
  cases hpp:ps[i]? with
  | none=>rw[hpp] at hx;cases hx
  | some p =>
   rw[hpp] at hx
   cases hx
   obtain⟨r,hr',hpr⟩:=Yr hp hpp
   have rl':=hlen r (zCN hr')
   refine⟨_,rfl,b,os,rs,F,rfl,L.same hB g,fun nl H2 g2 _ hnl=>⟨_,rfl,nl,p,_,r.map (fun b=>((b.toNat:Nat):Int)),rfl,zM.of hnl,by rw[<-zbw];exact zM.of ((g.trans g2) _ _ hpr),by rw[zCI];omega,by rw[zCI];exact zj0 r rl',fun H3 g3=>?_⟩⟩
   exact⟨g.trans (g2.trans g3),_,rfl⟩
 rintro σ H' ⟨g,f5,rfl⟩
 obtain⟨r0,hr0,m0⟩:=first
 obtain⟨r1,hr1,m1⟩:=last
 have rp:0<rr.length:=(zCL.mp hr0).1
 have lpm:(ps.map V.ref).length=rr.length:=by rw[zCI];exact pl
 have hrl':=g _ _ hrl
 refine⟨_,rfl,rl,_,rfl,.inl (zM.of hrl'),rfl,_,rfl,?_⟩
 rw[lpm]
 refine yw (fun c=>absurd (of_decide_eq_true c) (fun e=>by injection e;omega)) (fun _=>?_)
 refine⟨_,rfl,rl,rfl,⟨_,zM.of hrl'⟩,?_⟩
 refine R8 (xs:=ps.map V.ref) (fun i ys H2=>Same H H2/\∃Ns:List Nat,ys=zR Ns/\Paired (fun N r=>zX os.length N (hv os r)) Ns (rr.take i)) ⟨g,[],rfl,.nil⟩ (by rw[lpm];exact zC1 (zN (by omega))) ?_ ?_ ?_
 ·rintro i ys H2 hi ⟨g2,Ns,rfl,pN⟩
  have:=xT pN
  rw[zC6] at this
  exact⟨zM.of (g2 _ _ hrl),by unfold zR;rw[zCI];omega⟩
 ·rintro i x ys H2 Q0 hx ⟨g2,Ns,rfl,pN⟩ hQ
  rw[zCK] at hx
  cases hpp:ps[i]? with
  | none=>rw[hpp] at hx;cases hx
  | some p =>
   rw[hpp] at hx
   cases hx
   obtain⟨r,hr',hpr⟩:=Yr hp hpp
   have rl':=hlen r (zCN hr')
   refine⟨_,rfl,_,rfl,b,p,os,rs,F,r,rfl,L.same hB g2,zM.of (g2 _ _ hpr),by unfold yg;rw[zCI];exact rl'.symm,fun R H3 g3 tR=>hQ _ _ ⟨g2.trans g3,Ns++[R],by unfold zR;rw[zCW];rfl,?_⟩⟩
   rw[yW hr']
   exact Wv pN (.cons tR .nil)
 ·rintro ys H2 tl ⟨g2,Ns,rfl,pN⟩ htl
  rw[lpm,zDb] at pN
  have g3:=Same.new htl (.lst (zR Ns))
  have e3:upd H2 tl (.lst (zR Ns)) tl=some (.lst (zR Ns)):=zj
  have g23:=g2.trans g3
  generalize upd H2 tl (.lst (zR Ns))=H3 at g3 e3 g23
  have nl:=xT pN
  have tab:∀{x:Nat} {r:List Bool},rr[x]?=some r->∃N,Ns[x]?=some N/\zX os.length N (hv os r):=fun {x r} h=>zcI (R:=fun N r=>zX os.length N (hv os r)) pN h
  obtain⟨N0,hN0,t0⟩:=tab hr0
  obtain⟨N1,hN1,t1⟩:=tab hr1
  have hB3:=L.same hB g23
  obtain⟨dx,ml,rl',tl',nd,rv,ts,kvs,h⟩:=id hB3
  refine⟨_,rfl,tl,_,_,_,rfl,rfl,zM.of e3,wk (QT hN0),?_⟩
  refine⟨_,rfl,b,dx,_,rfl,h.hb,rfl,_,rfl,b,os,rs,F,i0,rfl,hB3,hI.1,fun M0 tM0=>⟨N0,M0,rfl,rfl,rfl,_,rfl,?_⟩⟩
  rw[decide_eq_false (fun e=>zkl t0 tM0 m0 (zr6.mp e))]
  refine YX ?_
  have en:zR Ns=zR (Ns.take (rr.length-1))++[V.int (N1:Nat)]:=by
   have e:Ns=Ns.take (rr.length-1)++[N1]:=by
    have z:=yW hN1
    rw[show rr.length-1+1=Ns.length by omega,zDb] at z
    exact z
   have e2:zR (Ns.take (rr.length-1)++[N1])=zR (Ns.take (rr.length-1))++[V.int (N1:Nat)]:=by unfold zR;rw[zCW];rfl
   rw[<-e2,<-e]
  have at':atI (zR Ns) (-1)=some (.int (N1:Nat)):=by rw[en];exact zdU _ _
  refine⟨_,rfl,(1:Int),rfl,tl,_,_,_,rfl,rfl,zM.of e3,at',_,rfl,b,dx,_,rfl,h.hb,rfl,_,rfl,b,os,rs,F,j0,rfl,hB3,hJ.1,fun M1 tM1=>⟨N1,M1,rfl,rfl,rfl,_,rfl,?_⟩⟩
  rw[decide_eq_false (fun e=>zkl t1 tM1 m1 (zr6.mp e))]
  refine YX ?_
  have lN:(zR Ns).length=rr.length:=by unfold zR;rw[zCI];exact nl
  refine⟨_,rfl,tl,_,rfl,.inl (zM.of e3),_,_,rfl,rfl,_,rfl,by omega,by omega,?_⟩
  rw[show((((zR Ns).length:Nat):Int)-1).toNat=rr.length-1 by omega]
  refine zgF (zC1 (zN (by omega))) (fun x H4 Q0 hx g4 hQ=>?_) (fun H4 l g4 hl=>?_)
  ·have e2:(0:Int)+(x:Nat)=((x:Nat):Int):=by omega
   obtain⟨r,hr'⟩:∃r,rr[x]?=some r:=⟨_,zCJ (by omega)⟩
   obtain⟨r',hr2⟩:∃r,rr[x+1]?=some r:=⟨_,zCJ (by omega)⟩
   obtain⟨N,hN,tN⟩:=tab hr'
   obtain⟨M,hM,tM⟩:=tab hr2
   have e4:(0:Int)+(x:Nat)+1=((x+1:Nat):Int):=by omega
   refine⟨_,rfl,_,rfl,_,rfl,_,rfl,tl,_,_,_,rfl,congrArg V.int e2,zM.of (g4 _ _ e3),wk (QT hN),b,os,rs,F,k0,N,hv os r,rfl,L.same hB3 g4,hk,hW,tN,fun R H5 g5 tR=>?_⟩
   refine⟨_,rfl,_,rfl,_,_,rfl,rfl,tl,_,_,_,rfl,congrArg V.int e4,zM.of ((g4.trans g5) _ _ e3),wk (QT hM),R,M,rfl,rfl,rfl,?_⟩
   have ne:=zkl tR tM (step x r r' hr' hr2)
   have z:=hQ _ g5
   have eb:V.bl (!decide (V.int ((R&&&M:Nat):Int)=V.int 0))=V.bl true:=by rw[decide_eq_false (fun e=>ne (zr6.mp e))];rfl
   rw[<-eb] at z
   exact z
  ·have g5:=Same.new hl (.lst ((List.replicate (rr.length-1) true).map V.bl))
   refine⟨l,_,rfl,zM.of zj,?_⟩
   rw[R9]
   exact q _ (g23.trans (g4.trans g5))
theorem zfU (T:Txt P w K mg a)(zdp:zA P w K mg base zW k a.YQ a.YS ["found", "due"] (zed K)):zA P w K mg base zW (k+1) a.X6 a.X7 ["rows", "graph", "places", "goal", "found"] (ziS K):=by
 refine T.T9.ok Ni (fun vs H Q E h=>?_) (fun cdv A outer s H vs Q E hr h=>?_)
 ·obtain⟨rl,gl,pl,ql,fl,os,t,PP,GG,H0,ls,ps,ws,rr,hs,rfl,_⟩:=h
  rfl
 obtain⟨rl,gl,pl,ql,fl,os,t,PP,GG,H0,ls,ps,ws,rr,hs,rfl,hR,hG,hp,hq,hf,pw,ph,zxj,first,last,step,q⟩:=h
 refine⟨_,(zf (yP (PW.pt (Nb (Xk (vg (zH Y8 rfl T.uz uE (za (pv 4) (za (Qw (v:=.ty "list") rfl T.PJ Sw rfl) zc))) (fun _=>rfl))) (Rh (Xk (vg (zH (ZJ rfl) rfl T.Nx U8 (za (tQ (Zj:=zq yO) (js:=[]) rfl (by show ZG (zq yO) _ "row" [];exact⟨rfl,by decide +kernel,by decide +kernel,rfl,by decide +kernel,by decide +kernel,by decide +kernel⟩) rfl (yU (pv 4)) (by show ∀j∈([]:List Nat),j<6;decide) (fun cl C s₂ H₂ fp=>(zH (zay (K:=K) rfl) rfl T.uz uE (za (pv 0) (za (Qw (v:=.ty "list") rfl T.PJ Sw rfl) zc))))) zc)) (fun _=>rfl)))))) (zp (zK Yw)) z8)
   (zf (yP (Xk (vg (zH (ZJ rfl) rfl T.Nx U8 (za (tQ (Zj:=zq yO) (js:=[0]) rfl (by show ZG (zq yO) _ "row" ["rows"];exact⟨rfl,by decide +kernel,by decide +kernel,rfl,by decide +kernel,by decide +kernel,by decide +kernel⟩) rfl (yU (pv 4)) (by show ∀j∈([0]:List Nat),j<6;decide) (fun cl C s₂ H₂ fp=>(tO (zrX rfl (hu9 hr)) (pv 0) (pv 1) (by with_unfolding_all rfl)))) zc)) (fun _=>rfl))) (zp (zK Yw)) z8)
   (zf (yP (Xk (vg (zH (ZJ rfl) rfl T.Nx U8 (za (tQ (Zj:=zq yO) (js:=[]) rfl (by show ZG (zq yO) _ "row" [];exact⟨rfl,by decide +kernel,by decide +kernel,rfl,by decide +kernel,by decide +kernel,by decide +kernel⟩) rfl (yU (pv 4)) (by show ∀j∈([]:List Nat),j<6;decide) (fun cl C s₂ H₂ fp=>(zx zdp hr rfl T.Nv T.V3.2 T.Nu .nil zB (za (pv 0) (za (Wr (zft (K:=K) rfl) rfl T.PJ Sw (za (pv 0) zc)) zc))))) zc)) (fun _=>rfl))) (zp (zK Yw)) z8)
   (zf (zF (i:=5) Ni.nd rfl (Or.inr rfl) (tQ (Zj:=zq yO) (js:=[0]) rfl (by show ZG (zq yO) _ "row" ["rows"];exact⟨rfl,by decide +kernel,by decide +kernel,rfl,by decide +kernel,by decide +kernel,by decide +kernel⟩) rfl (yU (pv 4)) (by show ∀j∈([0]:List Nat),j<6;decide) (fun cl C s₂ H₂ fp=>(zj7 (K:=K) rfl PySem.F.plainAttrs_list PySem.F.slot_list_index PySem.F.type_list_index (zmL (K:=K) rfl (hu9 hr)) (pv 1) (za (pv 0) zc)))))
   (zf (yP (PW.pt (Nb (zP (zj3 rfl (hu8 hr)) (pv 5) (xq zc) (zY _)) (Nb (zP V8 (yj yV (pv 5) zu (fun _ _=>rfl)) (pv 2) (by with_unfolding_all rfl)) (Rh (zP V8 (yj yV (pv 5) (zid zdO zu) (fun _ _=>rfl)) (pv 3) (by with_unfolding_all rfl)))))) (zp (zK Yw)) z8)
   (zp (zK (zH (ZJ rfl) rfl T.Nx U8 (za (tQ (Zj:=zq yO) (js:=[5,1]) rfl (by show ZG (zq yO) _ "k" ["here", "graph"];exact⟨rfl,by decide +kernel,by decide +kernel,rfl,by decide +kernel,by decide +kernel,by decide +kernel⟩) rfl (vX rfl T.Zi (za (zQ JH (zH zG rfl T.xu yr (za (pv 5) zc)) zu) zc)) (by show ∀j∈([5,1]:List Nat),j<6;decide) (fun cl C s₂ H₂ fp=>(tO (JR (K:=K) rfl) (yj (Vw (K:=K) rfl) (pv 1) (zQ wU (pv 0) zu) (fun _ _=>rfl)) (yj (Vw (K:=K) rfl) (pv 2) (yj (Vw (K:=K) rfl) (pv 1) (pv 0) (fun _ _=>rfl)) (fun _ _=>rfl)) (by with_unfolding_all rfl)))) zc))))))))),?_⟩
 have lw:=xT pw
 have lh:=xT ph
 have lwm:(ws.map V.ref).length<=sizeLine:=by rw[zCI];exact zC1 (zN (by omega))
 refine⟨_,rfl,_,_,_,true,rfl,.lst hf,rfl,_,rfl,?_⟩
 refine yw (fun z=>by cases z) (fun _=>?_)
 refine⟨_,rfl,fl,rfl,⟨_,zM.of hf⟩,?_⟩
 refine zbG (zM.of hf) lwm (fun i x H' Q0 hx g hQ=>?_) (fun H1 l1 g1 hl1=>?_)
 ·rw[zCK] at hx
  cases hw:ws[i]? with
  | none=>rw[hw] at hx;cases hx
  | some w =>
   rw[hw] at hx
   cases hx
   obtain⟨r,hr',hwr⟩:=Yr pw hw
   exact⟨_,rfl,_,_,_,true,rfl,.lst (g _ _ hwr),rfl,hQ _ (Same.refl _)⟩
 have g1n:=g1.trans (Same.new hl1 (.lst ((List.replicate (ws.map V.ref).length true).map V.bl)))
 refine⟨l1,_,rfl,zM.of zj,_,rfl,?_⟩
 rw[R9]
 refine YX ?_
 generalize upd H1 l1 (.lst ((List.replicate (ws.map V.ref).length true).map V.bl))=Ha at g1n
 have zle:∀{Hz:Hp} {i:Nat} {x:V},Same H Hz->(ws.map V.ref)[i]?=some x->∃(w:Addr) (y:Nat),x=.ref w/\Hz w=some (.lst (yd (Wk os y)))/\y<nM os/\hs[i]?=some y:=fun {Hz i x} gz hx=>by
  rw[zCK] at hx
  cases hw:ws[i]? with
  | none=>rw[hw] at hx;cases hx
  | some w =>
   rw[hw] at hx
   cases hx
   obtain⟨r,hr',hwr⟩:=Yr pw hw
   obtain⟨y,hy,yl,ey⟩:=Yr ph hr'
   exact⟨w,y,rfl,by rw[ey];exact gz _ _ hwr,yl,hy⟩
 have fits:∀{Hz:Hp} {w:Addr} {y:Nat},Same H Hz->Hz w=some (.lst (yd (Wk os y)))->y<nM os->(∀z∈ps.map V.ref,NP K Hz 8 z (.ref w) (zaJ Hz (Wk os y) z))/\(ps.map V.ref).findIdx? (fun z=>zaJ Hz (Wk os y) z)=some y:=fun {Hz w y} gz hw yl=>by
  have Rz:=hR.same gz
  have pl':=Rz.len
  have at':∀{j:Nat} {z:V},(ps.map V.ref)[j]?=some z->∃p,z=.ref p/\Hz p=some (.lst (yd (Wk os j)))/\j<nM os:=fun {j z} hz=>by
   rw[zCK] at hz
   cases hp':ps[j]? with
   | none=>rw[hp'] at hz;cases hz
   | some p =>
    rw[hp'] at hz
    cases hz
    exact⟨p,rfl,(Rz.at hp').1,(Rz.at hp').2⟩
  refine⟨fun z hz=>?_,?_⟩
  ·obtain⟨j,hj⟩:=List.mem_iff_getElem?.mp hz
   obtain⟨p,rfl,e,_⟩:=at' hj
   rw[zel e]
   exact zot (zM.of e) (zM.of hw)
  ·rw[List.findIdx?_eq_some_iff_getElem]
   have ly:y<(ps.map V.ref).length:=by rw[zCI];omega
   refine⟨ly,?_,fun j hj=>?_⟩
   ·obtain⟨p,e1,e2,_⟩:=at' (zCJ ly)
    rw[e1,zel e2]
    exact decide_eq_true rfl
   ·obtain⟨p,e1,e2,jl⟩:=at' (zCJ (Nat.lt_trans hj ly))
    rw[e1,zel e2]
    simp only[Bool.not_eq_true,decide_eq_false_iff_not]
    exact fun z=>absurd (zl7 jl yl z) (by omega)
 have hfA:=g1n _ _ hf
 refine⟨_,rfl,fl,rfl,⟨_,zM.of hfA⟩,?_⟩
 refine zbG (zM.of hfA) lwm (fun i x H' Q0 hx g hQ=>?_) (fun H2 l2 g2 hl2=>?_)
 ·obtain⟨w,y,rfl,hw,yl,_⟩:=zle (g1n.trans g) hx
  obtain⟨f1,f2⟩:=fits (g1n.trans g) hw yl
  refine⟨_,rfl,_,rfl,rl,_,_,rfl,.inl (zM.of ((g1n.trans g) _ _ hR.1)),f1,?_⟩
  have ea:(ps.map V.ref).any (zaJ H' (Wk os y))=true:=by
   obtain⟨ly,e,_⟩:=List.findIdx?_eq_some_iff_getElem.mp f2
   exact List.any_eq_true.mpr ⟨_,zDq ly,e⟩
  have z:=hQ _ (Same.refl _)
  rw[<-ea] at z
  exact z
 have g2n:=g1n.trans (g2.trans (Same.new hl2 (.lst ((List.replicate (ws.map V.ref).length true).map V.bl))))
 refine⟨l2,_,rfl,zM.of zj,_,rfl,?_⟩
 rw[R9]
 refine YX ?_
 generalize upd H2 l2 (.lst ((List.replicate (ws.map V.ref).length true).map V.bl))=Hb at g2n
 have hfB:=g2n _ _ hf
 refine⟨_,rfl,fl,rfl,⟨_,zM.of hfB⟩,?_⟩
 refine zbG (zM.of hfB) lwm (fun i x H' Q0 hx g hQ=>?_) (fun H3 l3 g3 hl3=>?_)
 ·obtain⟨w,y,rfl,hw,yl,_⟩:=zle (g2n.trans g) hx
  refine⟨_,rfl,_,rfl,w,_,rfl,.inl (zM.of hw),fun cl hcl=>?_⟩
  have gc:=Same.new hcl (.lst (yd (Wk os y)))
  refine⟨w,cl,(Wk os y).map (fun b=>((b.toNat:Nat):Int)),rfl,by rw[<-zbw];exact gc _ _ hw,by rw[<-zbw];exact zM.of zj,by rw[zCI,Kd yl];have:=uT os;omega,fun H4 g4=>hQ _ (gc.trans g4)⟩
 have g3n:=g2n.trans (g3.trans (Same.new hl3 (.lst ((List.replicate (ws.map V.ref).length true).map V.bl))))
 refine⟨l3,_,rfl,zM.of zj,_,rfl,?_⟩
 rw[R9]
 refine YX ?_
 generalize upd H3 l3 (.lst ((List.replicate (ws.map V.ref).length true).map V.bl))=Hc at g3n
 have hfC:=g3n _ _ hf
 refine⟨_,rfl,fl,rfl,⟨_,zM.of hfC⟩,?_⟩
 refine R8 (xs:=ws.map V.ref) (fun i ys H'=>Same H H'/\ys=zR (hs.take i)) ⟨g3n,rfl⟩ lwm (fun i ys H' hi ⟨g,e⟩=>⟨zM.of (g _ _ hf),by rw[e];unfold zR;rw[zCI,zC6];omega⟩) (fun i x ys H' Q0 hx hP hQ=>?_) (fun ys H' hl hP hhl=>?_)
 ·obtain⟨g,rfl⟩:=hP
  obtain⟨w,y,rfl,hw,yl,hy⟩:=zle g hx
  obtain⟨f1,f2⟩:=fits g hw yl
  refine⟨_,rfl,.inl ⟨rfl,_,zM.of (g _ _ hR.1)⟩,_,rfl,rl,_,_,_,y,rfl,rfl,zM.of (g _ _ hR.1),f1,f2,hQ _ _ ⟨g,?_⟩⟩
  rw[yW hy]
  unfold zR
  rw[zCW]
  rfl
 obtain⟨g,rfl⟩:=hP
 rw[zCI,lw,lh,zDb]
 obtain⟨x0,hx0,p0⟩:=first
 obtain⟨x1,hx1,q1⟩:=last
 have h0l:=(zCL.mp hx0).1
 have hsM:∀{i x:Nat},hs[i]?=some x->x<nM os:=fun {i x} hx=>by
  obtain⟨r,_,z⟩:=zcI ph hx
  exact z.1
 have gn:=g.trans (Same.new hhl (.lst (zR hs)))
 have en:upd H' hl (.lst (zR hs)) hl=some (.lst (zR hs)):=zj
 generalize upd H' hl (.lst (zR hs))=Hd at gn en
 refine⟨_,rfl,by show 0<=sizeLine;decide,fun el hel=>?_⟩
 have ge:=Same.new hel (.lst [])
 have ee:upd Hd el (.lst []) el=some (.lst (zR [])):=zj
 have enE:=ge _ _ en
 generalize upd Hd el (.lst [])=He at ge ee enE
 have gE:=gn.trans ge
 refine⟨_,(by rintro⟨z,_⟩;cases z),zeo (zM.of enE) (zM.of ee),_,rfl,?_⟩
 rw[decide_eq_false (fun z:hs=[]=>by rw[z] at h0l;cases h0l)]
 refine YX ?_
 have c0:inV (V.int (x0:Nat)) (zR (Qv os PP))=true:=(R6 x0 (Qv os PP)).trans (decide_eq_true (Z6.mpr ⟨hsM hx0,p0⟩))
 refine⟨_,rfl,hl,_,_,_,rfl,rfl,zM.of enE,wk (QT hx0),_,rfl,pl,_,rfl,.inl (zM.of (gE _ _ hp)),rfl,UG _,_,rfl,?_⟩
 rw[c0]
 refine YX ?_
 have e1:zR hs=zR (hs.take (hs.length-1))++[V.int (x1:Nat)]:=by
  have e:hs=hs.take (hs.length-1)++[x1]:=by
   have z:=yW hx1
   rw[show hs.length-1+1=hs.length by omega,zDb] at z
   exact z
  have e2:zR (hs.take (hs.length-1)++[x1])=zR (hs.take (hs.length-1))++[V.int (x1:Nat)]:=by unfold zR;rw[zCW];rfl
  rw[<-e2,<-e]
 have at':atI (zR hs) (-1)=some (.int (x1:Nat)):=by rw[e1];exact zdU _ _
 have c1:inV (V.int (x1:Nat)) (zR (Qv os GG))=true:=(R6 x1 (Qv os GG)).trans (decide_eq_true (Z6.mpr ⟨hsM hx1,q1⟩))
 refine⟨_,rfl,(1:Int),rfl,hl,_,_,_,rfl,rfl,zM.of enE,at',_,rfl,ql,_,rfl,.inl (zM.of (gE _ _ hq)),rfl,UG _,_,rfl,?_⟩
 rw[c1]
 refine YX ?_
 have lN:(zR hs).length=hs.length:=by unfold zR;rw[zCI]
 refine⟨_,rfl,hl,_,rfl,.inl (zM.of enE),_,_,rfl,rfl,_,rfl,by omega,by omega,?_⟩
 rw[show((((zR hs).length:Nat):Int)-1).toNat=hs.length-1 by omega]
 refine zgF (zC1 (zN (by omega))) (fun i H4 Q0 hi g4 hQ=>?_) (fun H4 l g4 hl4=>?_)
 ·have e2:(0:Int)+(i:Nat)=((i:Nat):Int):=by omega
  have e4:(0:Int)+(i:Nat)+1=((i+1:Nat):Int):=by omega
  obtain⟨x,hx⟩:∃x,hs[i]?=some x:=⟨_,zCJ (by omega)⟩
  obtain⟨y,hy⟩:∃x,hs[i+1]?=some x:=⟨_,zCJ (by omega)⟩
  have G4:=hG.same (gE.trans g4)
  obtain⟨ga,hga,aga⟩:=G4.at (hsM hx)
  have cy:inV (V.int (y:Nat)) (zR (Qv os (gr os t x)))=true:=(R6 y (Qv os (gr os t x))).trans (decide_eq_true (Z6.mpr ⟨hsM hy,step i x y hx hy⟩))
  refine⟨_,rfl,_,rfl,_,_,rfl,rfl,hl,_,_,_,rfl,congrArg V.int e4,zM.of (g4 _ _ enE),wk (QT hy),_,rfl,_,rfl,_,rfl,hl,_,_,_,rfl,congrArg V.int e2,zM.of (g4 _ _ enE),wk (QT hx),gl,_,_,_,rfl,rfl,zM.of G4.hl,wk (by rw[zCK,hga];rfl),ga,_,rfl,.inl (zM.of aga),rfl,UG _,?_⟩
  have z:=hQ _ (Same.refl _)
  rw[<-cy] at z
  exact z
 ·refine⟨l,_,rfl,zM.of zj,?_⟩
  rw[R9]
  exact q _ (gE.trans (g4.trans (Same.new hl4 _)))
theorem zfg (T:Txt P w K mg a)(yc:zA P w K mg base zW k a.yF a.yG ["self"] (xQ (yD a.zy)))(zpj:zA P w K mg base zW k a.za1 a.za2 ["book", "steps", "start", "goal"] (zlZ a.zy))(zjw:zA P w K mg base zW k a.S6 a.S7 ["book", "steps", "start", "goal", "rows"] (zcR a.zy K))(zfV:zA P w K mg base zW k a.Vp a.Vq ["graph", "places"] (zl5 K))(wj:zA P w K mg base zW k a.wC a.wD ["order"] (Rk K))(Wi:zA P w K mg base zW k a.ur a.uw ["size"] Uz)(zfh:zA P w K mg base zW k a.X6 a.X7 ["rows", "graph", "places", "goal", "found"] (ziS K)) :
  zA P w K mg base zW (k+1) a.Vr a.Vs ["book", "steps", "rooms", "graph", "places", "goal"] (zgI a.zy):=by
 refine T.RN.ok xr (fun vs H Q E h=>?_) (fun cdv A outer s H vs Q E hr h=>?_)
 ·obtain⟨b,rm,gl,pl,ql,os,rs,F,kw,ki,kj,H0,ls,rfl,_⟩:=h
  rfl
 obtain⟨b,rm,gl,pl,ql,os,rs,F,kw,ki,kj,H0,ls,rfl,hB,hW,hkw,hI,hJ,hrm,hG,hpl,hql,q⟩:=h
 refine⟨_,(zf (zjB (pv 2) (N6 rfl (wJ (z9 (i:=11) xr.nd rfl (Or.inl rfl)) (wJ (z9 (i:=12) xr.nd rfl (Or.inl rfl)) Sq))))
   (zf (zF (i:=6) xr.nd rfl (Or.inl rfl) (zx zfV hr rfl T.Jz T.RM.2 T.Jy .nil zB (za (pv 3) (za (pv 4) zc))))
   (zf (zF (i:=7) xr.nd rfl (Or.inr rfl) (tQ (Zj:=zq uH) (js:=[5]) rfl (by show ZG (zq uH) _ "fresh" ["goal"];exact⟨rfl,by decide +kernel,by decide +kernel,rfl,by decide +kernel,by decide +kernel,by decide +kernel⟩) rfl (yU (pv 6)) (by show ∀j∈([5]:List Nat),j<15;decide) (fun cl C s₂ H₂ fp=>(zH (zmT (K:=K) rfl rfl) rfl T.zre zsb (za (tQ (Zj:=_) (js:=[1]) rfl (ZG.zra (by show ZG _ _ "place" ["goal"];exact⟨rfl,by decide +kernel,by decide +kernel,rfl,by decide +kernel,by decide +kernel,by decide +kernel⟩)) rfl (ziy (K:=K) rfl (pv 0)) (by show ∀j∈([1]:List Nat),j<2;decide) (fun cl C s₂ H₂ fp=>(tO (JR (K:=K) rfl) (pv 0) (pv 1) (by with_unfolding_all rfl)))) zc)))))
   (zf (zdW (i:=8) xr.nd rfl (Or.inl rfl) (.inl rfl) (Zj:=zq uH) (js:=[7]) rfl (by show ZG (zq uH) _ "k" ["met"];exact⟨rfl,by decide +kernel,by decide +kernel,rfl,by decide +kernel,by decide +kernel,by decide +kernel⟩) rfl (vX rfl T.Zi (za (zH zG rfl T.xu yr (za (pv 7) zc)) zc)) (by show ∀j∈([7]:List Nat),j<15;decide) (fun cl C s₂ H₂ fp pins s' σ' H' Q I h=>wpAny_tests_one ((zmA (K:=K) rfl (yj (Vw (K:=K) rfl) (pv 1) (pv 0) (fun _ _=>rfl)) (fun _=>rfl)) pins s' σ' H' Q I h)) (fun cl C s₂ H₂ fp=>(pv 0)) rfl)
   (zf (zF (i:=9) xr.nd rfl (Or.inl rfl) zZ)
   (zf (wL PassesOwn.never rfl (vX rfl T.Zi (za zu zc)) (z9 (i:=10) xr.nd rfl (Or.inl rfl)) (zf (zF (i:=13) xr.nd rfl (Or.inl rfl) (zx zpj hr rfl T.zja T.zeM.2 T.zi9 .nil zB (za (pv 0) (za (pv 1) (za (pv 11) (za (pv 12) zc))))))
   (zp (yP (zP (zj3 rfl (hu8 hr)) (pv 8) (xq zc) (zY _)) (zp (yP (zP zpB (pv 13) znA (zY _)) (zp (zK Yw)) z8)) (zp (yP (Xk (vg (zx zfh hr rfl T.Lg T.T9.2 T.Lf .nil zB (za (zx Wi hr rfl T.Uu T.Wf.2 T.Ut .nil zB (za (zH zG rfl T.xu yr (za (zx wj hr rfl T.tL T.uy.2 T.tK .nil zB (za (ZF (pv 0) T.yu T.xX yc hr T.xW .nil zB) zc)) zc)) zc)) (za (pv 3) (za (pv 4) (za (pv 5) (za (pv 13) zc)))))) (fun _=>rfl))) (zp (zK Yw)) (zp (yP (PW.pt (Nb (zP K9 (zH zG rfl T.xu yr (za (pv 13) zc)) (zQ wU (yj yV (pv 8) zu (fun _ _=>rfl)) zu) (zY _)) (Rh (zP (zmF rfl (hu9 hr)) (pv 9) (yZ (za zZ (za (zH (Jg hr.gd (hu9 hr)) rfl T.zkv zl6 (za (pv 13) zc)) zc))) (by with_unfolding_all rfl))))) (zp (zK Yw)) (zp (yP (zP zqs (zx zjw hr rfl T.zc2 T.Lb.2 T.zc1 .nil zB (za (pv 0) (za (pv 1) (za (pv 11) (za (pv 12) (za (pv 13) zc)))))) Yw (zY _)) (zp (zK Yw)) (zf (zF (i:=9) xr.nd rfl (Or.inl rfl) (zH (Jg hr.gd (hu9 hr)) rfl T.zkv zl6 (za (pv 13) zc)))
   (zf (wL PassesOwn.never rfl (yU (pv 13)) (z9 (i:=14) xr.nd rfl (Or.inl rfl)) (zp (yE (vG PySem.F.plainAttrs_list PySem.F.slot_list_append PySem.F.type_list_append wB (pv 14) (za zu zc)))))
   (zp (yE (vG PySem.F.plainAttrs_list PySem.F.slot_list_append PySem.F.type_list_append wB (pv 13) (za (xq zc) zc))))))))))))))))
   (zp (zK Yw)))))))),?_⟩
 have L:=xU a.zy
 have ho:=L.ord hB
 have hf:∀p∈zU os,wK.Free os.length (tB rs ki) p:=hI.2
 have hg:∀p∈zU os,wK.Free os.length (tB rs kj) p:=hJ.2
 have M16:=ziQ (os:=os)
 refine⟨_,rfl,rm,_,rfl,vW.of hrm,rfl,_,_,rfl,_,_,rfl,rfl,?_⟩
 refine⟨_,rfl,_,rfl,gl,pl,os,tB rs kw,tB rs ki,H0,ls,rfl,ho,hW,hf,hG,hpl,fun tl us n H1 g1 hT=>?_⟩
 have n16:=hT.le
 have uln:=hT.ul
 have lum:(us.map V.ref).length=n:=by rw[zCI];exact uln
 refine⟨_,rfl,tl,rfl,⟨_,zM.of hT.hl⟩,?_⟩
 refine R8 (xs:=us.map V.ref) (fun i ys H'=>Same H1 H'/\ys=((List.range i).map (mtB os (tB rs kw) (tB rs ki) (tB rs kj))).map V.bl) ⟨Same.refl _,rfl⟩ (by rw[lum];exact zC1 (zN (by omega))) ?_ ?_ ?_
 ·rintro i ys H' hi ⟨g,rfl⟩
  exact⟨zM.of (g _ _ hT.hl),by rw[zCI,zCI,zC0];exact zCY _⟩
 ·rintro i x ys H' Q0 hx ⟨g,rfl⟩ hQ
  rw[zCK] at hx
  cases hu:us[i]? with
  | none=>rw[hu] at hx;cases hx
  | some u =>
   rw[hu] at hx
   cases hx
   obtain⟨_,eu⟩:=(hT.same g).at hu
   have lfr:(zR (Zk.frs os (tB rs kw) (tB rs ki) i)).length<=16:=by
    unfold zR Zk.frs Qv
    rw[zCI]
    have:=zDh (fun k=>(vJ os (tB rs kw) (tB rs ki) i).1 (eb os k)) (List.range (nM os))
    rw[zC0] at this
    omega
   have hql':=(g1.trans g) _ _ hql
   refine⟨_,rfl,u,rfl,⟨_,zM.of eu⟩,?_⟩
   refine zqE (xs:=zR (Zk.frs os (tB rs kw) (tB rs ki) i)) (fun v=>.bl (inV v (zR (Qv os fun k=>tB rs kj (eb os k))))) (zM.of eu) (zC1 (zN (by omega))) (fun j x H3 Q1 hx g3 hQ1=>?_) (fun H3 bl g3 hbl=>?_)
   ·obtain⟨xx,hxx,rfl⟩:=zen hx
    exact⟨_,rfl,_,rfl,ql,_,rfl,.inl (zM.of (g3 _ _ hql')),rfl,UG _,hQ1 _ (Same.refl _)⟩
   ·have em:(zR (Zk.frs os (tB rs kw) (tB rs ki) i)).map (fun v=>V.bl (inV v (zR (Qv os fun k=>tB rs kj (eb os k)))))=((Zk.frs os (tB rs kw) (tB rs ki) i).map fun x=>decide (x∈Qv os fun k=>tB rs kj (eb os k))).map V.bl:=by
     unfold zR
     rw[zDk,zDk]
     refine List.map_congr_left fun x _=>congrArg V.bl ?_
     exact R6 x _
    rw[em]
    have gn:=Same.new hbl (.lst (((Zk.frs os (tB rs kw) (tB rs ki) i).map fun x=>decide (x∈Qv os fun k=>tB rs kj (eb os k))).map V.bl))
    refine⟨bl,_,rfl,zM.of zj,?_⟩
    refine hQ _ _ ⟨g.trans (g3.trans gn),?_⟩
    rw[List.range_succ,zCW,zCW,List.any_map]
    rfl
 ·rintro ys H2 ml ⟨g,rfl⟩ hml
  rw[lum]
  have g2:=g.trans (Same.new hml (.lst (((List.range n).map (mtB os (tB rs kw) (tB rs ki) (tB rs kj))).map V.bl)))
  have e2:upd H2 ml (.lst (((List.range n).map (mtB os (tB rs kw) (tB rs ki) (tB rs kj))).map V.bl)) ml=some (.lst (((List.range n).map (mtB os (tB rs kw) (tB rs ki) (tB rs kj))).map V.bl)):=zj
  generalize upd H2 ml (.lst (((List.range n).map (mtB os (tB rs kw) (tB rs ki) (tB rs kj))).map V.bl))=H3 at g2 e2
  have lml:(((List.range n).map (mtB os (tB rs kw) (tB rs ki) (tB rs kj))).map V.bl).length=n:=by rw[zCI,zCI,zC0]
  refine⟨_,rfl,ml,_,rfl,.inl (zM.of e2),_,rfl,by omega,by omega,?_⟩
  rw[zDm,lml]
  refine zet (tt:=fun σ H Q=>tOp (zrL K) (zc8 1) (zc8 0) σ H fun x H'=>∃k,zpC K x H' k/\Q k H') (mtB os (tB rs kw) (tB rs ki) (tB rs kj)) (zC1 (zN (by omega))) (fun x H' Q h=>⟨_,rfl,h⟩) (fun i H5 Q0 hi g5 hQ=>?_) (fun H5 dl g5 hdl=>?_)
  ·have e0:(0:Int)+(i:Nat)=((i:Nat):Int):=by omega
   have ei:(((List.range n).map (mtB os (tB rs kw) (tB rs ki) (tB rs kj))).map V.bl)[i]?=some (.bl (mtB os (tB rs kw) (tB rs ki) (tB rs kj) i)):=by rw[zCK,zCK,List.getElem?_range hi];rfl
   exact⟨_,rfl,_,rfl,ml,_,_,_,rfl,congrArg V.int e0,zM.of (g5 _ _ e2),wk ei,_,rfl,hQ _ g5⟩
  have g6:=g5.trans (Same.new hdl (.lst (zR ((List.range n).filter (mtB os (tB rs kw) (tB rs ki) (tB rs kj))))))
  have e6:upd H5 dl (.lst (zR ((List.range n).filter (mtB os (tB rs kw) (tB rs ki) (tB rs kj))))) dl=some (.lst (zR ((List.range n).filter (mtB os (tB rs kw) (tB rs ki) (tB rs kj))))):=zj
  generalize upd H5 dl (.lst (zR ((List.range n).filter (mtB os (tB rs kw) (tB rs ki) (tB rs kj)))))=H6 at g6 e6
  have g16:=g1.trans (g2.trans g6)
  clear g5 g2 e2 hml hdl g
  refine⟨_,rfl,by decide,by decide,?_⟩
  refine Z2 (fun i σ H'=>∃(kv:V) (f10 f13 f14:Option V),Same H6 H'/\(kv=.str (Str.ofString "")\/∃m,Meet os (tB rs kw) (tB rs ki) (tB rs kj) m/\kv=.str (shR (Sh os (tB rs kw) (tB rs ki) (tB rs kj) m)))/\σ=[some (.ref b),some (.int (kw:Nat)),some (.ref rm),some (.ref gl),some (.ref pl),some (.ref ql),some (.ref tl),some (.ref ml),some (.ref dl),some kv,f10,some (.int (ki:Nat)),some (.int (kj:Nat)),f13,f14])
   ⟨_,_,_,_,Same.refl _,.inl rfl,rfl⟩ ?_ ?_
  ·rintro i σ H' hi ⟨kv,f10,f13,f14,g7,hkv,rfl⟩
   have gA:=g16.trans g7
   refine⟨_,rfl,_,rfl,_,rfl,_,rfl,b,os,rs,F,kw,ki,kj,rfl,L.same hB gA,hW,hkw,hI,hJ,fun H8 Ns g8 rn no=>?_,fun l H8 qs Ns m g8 fl hl rn lt mt pq fq=>?_⟩
   ·have en:=hT.len ho hW hf rn
    rw[en] at no
    have dn:=ziW (t:=tB rs kw) ho hW hf hg no
    rw[dn] at e6
    have e8:=(g7.trans g8) _ _ e6
    refine⟨_,rfl,by show 0<=sizeLine;decide,fun el hel=>?_⟩
    have g9:=g8.trans (Same.new hel (.lst []))
    have z:=zeo (K:=K) (n:=7) (x:=[]) (y:=[]) (zM.of (Same.new hel (.lst []) _ _ e8)) (zM.of (zj (H:=H8) (a:=el) (o:=.lst [])))
    refine⟨_,(by rintro⟨z,_⟩;cases z),z,_,rfl,zbs ?_⟩
    refine⟨_,rfl,rfl,_,rfl,YX ?_⟩
    exact⟨_,_,_,_,g7.trans g9,hkv,rfl⟩
   have en:=hT.len ho hW hf rn
   rw[en] at lt
   obtain⟨D,eD⟩:=zoQ (t:=tB rs kw) ho hW hf hg lt mt
   rw[eD] at e6
   obtain⟨wl,first,last,st⟩:=ziT ho hW hf mt
   obtain⟨hs,ph,lh,n0,n1,ns⟩:=zoP ho hW hf hg mt
   have wn:=ziU (os:=os) (t:=tB rs kw) (f:=tB rs ki) (g:=tB rs kj) m
   have pq:Paired (JW H8) qs (Sh os (tB rs kw) (tB rs ki) (tB rs kj) m):=pq
   have e8:=(g7.trans g8) _ _ e6
   refine⟨_,rfl,by show 0<=sizeLine;decide,fun el hel=>?_⟩
   have g9:=Same.new hel (.lst [])
   have z:=zeo (K:=K) (n:=7) (x:=m::D) (y:=[]) (zM.of (g9 _ _ e8)) (zM.of (zj (H:=H8) (a:=el) (o:=.lst [])))
   rw[decide_eq_false (by intro z;cases z)] at z
   generalize upd H8 el (.lst [])=H9 at g9 z
   refine⟨_,(by rintro⟨z,_⟩;cases z),z,_,rfl,YX ?_⟩
   clear z
   have gB:=gA.trans (g8.trans g9)
   obtain⟨dx,fs,PN,hm⟩:=L.ins (L.same hB gB)
   refine⟨_,rfl,b,dx,fs,rfl,PN,hm _ (by decide +kernel),b,os,rs,F,rfl,L.same hB gB,fun ol Ha ga _ hol=>?_⟩
   have n4:=uT os
   refine⟨ol,os,rfl,zM.of hol,fun nl Hb gb _ hnl=>⟨nl,_,rfl,.inl (zM.of hnl),(yq os).length,by rw[zCI];rfl,by omega,fun rl Hc ps gc frl hrl he=>?_⟩⟩
   have gC:=ga.trans (gb.trans gc)
   have gD:=gB.trans gC
   have g9C:=g9.trans gC
   have R:zaR os Hc rl ps:=⟨hrl,vm (fun _ _ z=>z.2) he⟩
   have pqC:=vm (fun _ _ z=>g9C _ _ z) pq
   refine⟨_,rfl,_,rfl,_,rfl,_,rfl,rl,gl,pl,ql,l,os,tB rs kw,_,_,H0,ls,ps,qs,_,hs,rfl,R,hG.same gD,gD _ _ hpl,gD _ _ hql,g9C _ _ hl,pqC,ph,by omega,n0,n1,ns,fun Hd gd=>?_⟩
   have g9D:=g9C.trans gd
   refine⟨_,rfl,YX ?_⟩
   have hlD:=g9D _ _ hl
   have edD:=g9D _ _ e8
   refine⟨_,rfl,l,_,rfl,.inl (zM.of hlD),_,rfl,dl,_,_,_,rfl,rfl,zM.of edD,wk (j:=0) (QT (xs:=m::D) (j:=0) rfl),_,_,rfl,rfl,rfl,_,rfl,?_⟩
   have lq:=xT pq
   refine zhb (by rw[zCI,lq,wl];rfl) ?_
   have pqD:=vm (fun _ _ z=>g9D _ _ z) pq
   refine⟨_,rfl,_,rfl,l,qs,_,rfl,hlD,pqD,by omega,fun r hr=>by have:=wn r hr;omega,by show 2<=sizeLine;decide,fun tp htp=>?_⟩
   have gE:=Same.new htp (.tup [.str (Str.ofString ""),.str (shR (Sh os (tB rs kw) (tB rs ki) (tB rs kj) m))])
   have eE:upd Hd tp (.tup [.str (Str.ofString ""),.str (shR (Sh os (tB rs kw) (tB rs ki) (tB rs kj) m))]) tp=some (.tup [.str (Str.ofString ""),.str (shR (Sh os (tB rs kw) (tB rs ki) (tB rs kj) m))]):=zj
   generalize upd Hd tp (.tup [.str (Str.ofString ""),.str (shR (Sh os (tB rs kw) (tB rs ki) (tB rs kj) m))])=He at gE eE
   have key:[V.str (Str.ofString ""),.str (shR (Sh os (tB rs kw) (tB rs ki) (tB rs kj) m))].any (fun z=>eqV z kv)=true/\uO kv=true:=by
    rcases hkv with e | ⟨m',mt',e⟩
    ·subst e
     exact⟨by rw[List.any_cons,zaD rfl];rfl,rfl⟩
    ·subst e
     rw[mt'.one mt]
     exact⟨by rw[List.any_cons,List.any_cons,zaD (x:=V.str (shR (Sh os (tB rs kw) (tB rs ki) (tB rs kj) m))) rfl,Bool.true_or,Bool.or_true],rfl⟩
   obtain⟨k1,k2⟩:=key
   refine⟨tp,_,fun z=>eqV z kv,rfl,.inr (vW.of eE),fun z hz=>?_,_,rfl,?_⟩
   ·simp only[List.mem_cons,zC9,or_false] at hz
    rcases hz with e | e<;>subst e
    ·exact NP.flat (by rfl) k2
    ·exact NP.flat (by rfl) k2
   rw[k1]
   refine YX ?_
   have g9E:=g9D.trans gE
   have gF:=gB.trans (gC.trans (gd.trans gE))
   refine⟨_,rfl,_,rfl,_,rfl,_,rfl,_,rfl,b,l,os,rs,F,kw,ki,kj,qs,_,rfl,L.same hB gF,hW,hkw,hI,hJ,g9E _ _ hl,vm (fun _ _ z=>g9E _ _ z) pq,wn,by omega,first,last,st,fun Hf gf=>⟨true,true,rfl,rfl,_,rfl,YX ?_⟩⟩
   have g9F:=g9E.trans gf
   have hlF:=g9F _ _ hl
   have pqF:=vm (fun _ _ z=>g9F _ _ z) pq
   refine⟨_,rfl,l,qs,_,rfl,hlF,pqF,by omega,(fun r hr=>by have:=wn r hr;omega),?_⟩
   refine⟨_,rfl,l,rfl,⟨_,zM.of hlF⟩,?_⟩
   have nl:∀x∈qs,x≠l:=fun x hx e=>by
    obtain⟨j,hj⟩:=List.getElem?_of_mem hx
    obtain⟨r,_,ar⟩:=Yr pq hj
    unfold JW at ar
    rw[e,hl] at ar
    have z:qs.map V.ref=yd r:=by injection ar with z;injection z
    cases qs with
    | nil=>cases hx
    | cons y qs =>
     cases r with
     | nil=>cases z
     | cons c r=>injection z with z1 _;cases z1
   have rl0:∀x∈qs,∃vs,Hf x=some (.lst vs)/\vs.length<=8+0:=fun x hx=>by
    obtain⟨j,hj⟩:=List.getElem?_of_mem hx
    obtain⟨r,hr',ar⟩:=Yr pqF hj
    have:=wn r (zCN hr')
    exact⟨_,ar,by unfold yd;rw[zCI];omega⟩
   have gG:=g8.trans g9F
   have lqm:(qs.map V.ref).length=m+1:=by rw[zCI,lq,wl]
   refine uf (xs:=qs.map V.ref) (fun j σ Hg=>∃f14:Option V,Same H' Hg/\Hg l=some (.lst (qs.map V.ref))/\(∀x∈qs,∃vs,Hg x=some (.lst vs)/\vs.length<=8+j)/\σ=[some (.ref b),some (.int (kw:Nat)),some (.ref rm),some (.ref gl),some (.ref pl),some (.ref ql),some (.ref tl),some (.ref ml),some (.ref dl),some (.str (shR (Sh os (tB rs kw) (tB rs ki) (tB rs kj) m))),some (.int ((0:Int)+(i:Nat))),some (.int (ki:Nat)),some (.int (kj:Nat)),some (.ref l),f14])
    ⟨_,gG,hlF,rl0,rfl⟩ ?_ ?_ ?_
   ·rintro j σ Hg _ ⟨f14,_,h,_⟩
    exact zM.of h
   ·rintro j x σ Hg hx ⟨f14,gg,h1,h2,rfl⟩
    have jl:=(zCL.mp hx).1
    rw[zCK] at hx
    cases hq:qs[j]? with
    | none=>rw[hq] at hx;cases hx
    | some y =>
     rw[hq] at hx
     cases hx
     have hy:=zCN hq
     obtain⟨vs,a1,a2⟩:=h2 y hy
     refine⟨_,rfl,.inl ⟨rfl,_,zM.of a1⟩,y,_,_,rfl,rfl,a1,zN (by omega),?_⟩
     refine⟨_,gg.over (fq y hy) _,by rw[zJ (Ne.symm (nl y hy))];exact h1,fun x hx=>?_,rfl⟩
     by_cases e:x=y
     ·subst e
      exact⟨_,zj,by rw[zCQ];show vs.length+1<=_;omega⟩
     ·obtain⟨us,b1,b2⟩:=h2 x hx
      exact⟨us,by rw[zJ e];exact b1,by omega⟩
   ·rintro σ Hg ⟨f14,gg,h1,h2,rfl⟩
    refine⟨_,rfl,.inl ⟨rfl,_,zM.of h1⟩,by show 0<=sizeLine;decide,fun el2 hel2=>?_⟩
    have gn:=Same.new hel2 (.lst [])
    refine⟨l,_,_,rfl,rfl,gn _ _ h1,by rw[lqm];exact zN (by omega),?_⟩
    exact⟨_,_,_,_,g7.trans ((gg.trans gn).over fl _),.inr ⟨m,mt,rfl⟩,rfl⟩
  ·rintro σ H' ⟨kv,f10,f13,f14,g7,hkv,rfl⟩
   exact q _ (g16.trans g7)
theorem ok_law (T:Txt P w K mg a)
  (yM:zA P w K mg base zW (k+1) a.yJ a.yK ["script", "k"] (Kc K))
  (zh4:zA P w K mg base zW (k+1) a.Uq a.Ur ["script"] (zov K))
  (Y7:zA P w K mg base zW (k+1) a.Zd a.Ze ["script", "at", "order"] (zcP K))
  (tD:zA P w K mg base zW (k+1) a.wM a.wN ["script", "at", "many", "order"] (U9 K))
  (zfW:zA P w K mg base zW (k+1) a.Vn a.Vo ["sentence", "order"] (zl4 K))
  (Lq:zA P w K mg base zW (k+1) a.XS a.X3 ["sentence", "order"] (ziR K))
  (zfX:zA P w K mg base zW (k+1) a.Vr a.Vs ["book", "steps", "rooms", "graph", "places", "goal"] (zgI a.zy))
  (zjx:zA P w K mg base zW k a.VH a.S8 ["self", "order"] (zeb (yD a.zy) K a.zy))
  (Uw:zA P w K mg base zW (k+1) a.Um a.Uo ["self", "sentence"] (ziA a.zy)) :
  zA P w K mg base zW (k+2) a.a_law a.d_law ["script"] (zoc K):=by
 refine T.F_law.ok sc_law (fun vs H Q E h=>?_) (fun cdv A outer s H vs Q E hr h=>?_)
 ·obtain⟨a,ns,rfl,_⟩:=h
  rfl
 obtain⟨sc,ns,rfl,hS,h63,q⟩:=h
 have L:=xU a.zy
 refine ztx ?_
 refine zqe (fun σ H=>∃(H1:Hp) (ol bk p0 p1 p2 p3 p4:Addr) (os:List Str) (rs:List wK.Rm) (F:uF) (k0:Nat) (s0 s1 s2 s3 s4:Sn),Gst a.zy K sc ns H1 ol bk os 70 H rs F/\VB os H s0 p0/\VB (yq os) H s1 p1/\VB os H s2 p2/\VB (yq os) H s3 p3/\VB (yq os) H s4 p4/\wK.Means rs k0 (fun r=>s0.val (zmH os r))/\σ=[some (.ref sc),some (.ref p1),some (.ref p4),some (.ref p2),some (.ref bk),some (.int (k0:Nat)),some (.ref p3),none,some (.ref ol),some (.ref p0),none,none,none,none,none,none,none]) (fun t z=>(zf (zjB (zx zh4 hr rfl T.zbe T.Pz.2 T.zbd .nil zB (za (pv 0) zc)) (N6 rfl (wJ (z9 (i:=8) sc_law.nd rfl (Or.inl rfl)) (wJ (z9 (i:=9) sc_law.nd rfl (Or.inl rfl)) Sq))))
   (zf (zF (i:=1) sc_law.nd rfl (Or.inl rfl) (zx Y7 hr rfl T.Zh T.vP.2 T.Zg .nil zB (za (pv 0) (za zu (za (pv 8) zc)))))
   (zf (zF (i:=2) sc_law.nd rfl (Or.inl rfl) (zx Y7 hr rfl T.Zh T.vP.2 T.Zg .nil zB (za (pv 0) (za zu (za (pv 8) zc)))))
   (zf (zF (i:=3) sc_law.nd rfl (Or.inl rfl) (zx tD hr rfl T.Yp T.uZ.2 T.Yo .nil zB (za (pv 0) (za zu (za (zQ wU zu (zQ YW (zx yM hr rfl T.xH T.yL.2 T.xG .nil zB (za (pv 0) (za zu zc))) zu)) (za (pv 8) zc))))))
   (zf (zF (i:=4) sc_law.nd rfl (Or.inl rfl) (zpF T.Kr zjx hr rfl T.zoR T.zc4 .nil zB (za (pv 8) zc)))
   (zf (zF (i:=5) sc_law.nd rfl (Or.inl rfl) (uQ (pv 4) T.yu T.Wd Uw hr T.Wc .nil zB (za (pv 9) zc)))
   (zf (zF (i:=6) sc_law.nd rfl (Or.inl rfl) (zx Y7 hr rfl T.Zh T.vP.2 T.Zg .nil zB (za (pv 0) (za zu (za (pv 8) zc)))))
   z)))))))) ?_ ?_
 ·rintro u hu σ H ⟨rfl,rfl⟩
  refine⟨_,rfl,sc,ns,rfl,hS,fun t ol p0 H0 os s0 g0 ht zt3 ho hW hn sp0=>?_⟩
  refine⟨t,_,rfl,vW.of ht,rfl,_,_,rfl,_,_,rfl,rfl,?_⟩
  have o8:=ho.le
  refine⟨_,rfl,_,rfl,sc,ol,ns,11,os,rfl,g0.seq hS,zM.of zt3,o8,hn,by decide,fun p1 H2 s1 g2 zxq=>?_⟩
  have g02:=g0.trans g2
  have hol2:=g2 _ _ zt3
  refine⟨_,rfl,_,rfl,sc,ol,ns,19,os,rfl,g02.seq hS,zM.of hol2,o8,hn,by decide,fun p4 H2b s4 g2b zxs=>?_⟩
  have c6:0<=uP ns 31%6/\uP ns 31%6<6:=⟨zDs _ (by decide),zDo _ (by decide)⟩
  have zso:=g02.trans g2b
  have zrk:=g2b _ _ hol2
  refine⟨_,rfl,_,rfl,sc,ns,31,rfl,zso.seq hS,uP ns 31,6,rfl,rfl,(show(0:Int)<6 by decide),2,_,rfl,rfl,_,rfl,sc,ol,ns,32,(2+uP ns 31%6).toNat,os,?_,zso.seq hS,zM.of zrk,ho.pos,o8,by omega,by omega,by decide,fun p2 H3 s2 g3 is2 in2 d2=>?_⟩
  ·rw[Int.toNat_of_nonneg (by omega)]
   rfl
  have zxt:s2.count<=200:=by
   have h3:=Sn.Mp s2
   have h4:2^s2.depth<=2^7:=zDe (by decide) (by omega)
   have h5:2^7=128:=rfl
   omega
  have zxu:VB os H3 s2 p2:=⟨is2,in2,zxt,by omega⟩
  have g03:=zso.trans g3
  have hc3:=g3 _ _ zrk
  have zxv:=sp0.mono (yC.of (g2.trans (g2b.trans g3)))
  have zxw:=zxq.mono (yC.of (g2b.trans g3))
  have zxx:=zxs.mono (yC.of g3)
  refine⟨_,rfl,fun bk dx hbk hdx hne=>⟨bk,dx,ol,os,rfl,zj,Ne.symm hne,?_,ho,fun H4 F0 keep hB hF=>⟨rfl,?_⟩⟩⟩
  ·refine zM.of ?_
   rw[zJ (zE hc3 hbk),zJ (zE hc3 hdx)]
   exact hc3
  have L0:=JT.made hbk hdx hne keep hB hF
  clear keep hF
  have G0:Gst a.zy K sc ns H3 ol bk os 0 H4 [none,none] F0:=⟨L0,g03.seq hS,hc3,ho,hW,hn⟩
  have zpk:=zxv.mono (yC.of L0.same)
  have zxy:=zxw.mono (yC.of L0.same)
  have zns:=zxu.mono (yC.of L0.same)
  have zxz:=zxx.mono (yC.of L0.same)
  obtain⟨dx0,fs,PN,hm⟩:=L.ins G0.led.bk
  refine⟨_,rfl,bk,dx0,fs,rfl,PN,hm _ (by decide +kernel),_,rfl,bk,p0,os,[none,none],F0,s0,rfl,G0.led.bk,by decide,zpk.is_,zpk.Ub,zpk.ct,zpk.dp,fun k0 rs1 H5 aw1 tu1 JF gr1 mk0 hh1=>?_⟩
  have G1:=G0.grow aw1 JF hh1
  refine⟨_,rfl,_,rfl,sc,ol,ns,40,os,rfl,G1.scL,G1.olL,o8,hn,by decide,fun p3 H6 s3 g6 sp3=>?_⟩
  have G2:=G1.new g6
  have tu:=tu1.trans (yC.of g6)
  exact hu _ _ ⟨H3,ol,bk,p0,p1,p2,p3,p4,os,rs1,F0,k0,s0,s1,s2,s3,s4,G2.up (by decide),zpk.mono tu,zxy.mono tu,zns.mono tu,sp3,zxz.mono tu,mk0,rfl⟩
 refine zqe (fun σ H=>∃(H1:Hp) (ol bk p0 p1 p2 p3 p4 al t0 t1 t2:Addr) (os:List Str) (rs:List wK.Rm) (F:uF) (k0:Nat),Gst a.zy K sc ns H1 ol bk os 200 H rs F/\H al=some (.lst [.ref t0,.ref t1,.ref t2])/\¬F al/\ziX os H rs (.ref t0)/\ziX os H rs (.ref t1)/\ziX os H rs (.ref t2)/\(∃s0 s1 s3 s4:Sn,VB os H s0 p0/\VB (yq os) H s1 p1/\VB (yq os) H s3 p3/\VB (yq os) H s4 p4/\wK.Means rs k0 (fun r=>s0.val (zmH os r)))/\σ=[some (.ref sc),some (.ref p1),some (.ref p4),some (.ref p2),some (.ref bk),some (.int (k0:Nat)),some (.ref p3),some (.ref al),some (.ref ol),some (.ref p0),none,none,none,none,none,none,none]) (fun t z=>(zf (zF (i:=7) sc_law.nd rfl (Or.inl rfl) (xq (za (yZ (za (pv 9) (za (pv 5) (za (pv 1) (za (pv 2) zc))))) (za (yZ (za (pv 3) (za (uQ (pv 4) T.yu T.Wd Uw hr T.Wc .nil zB (za (pv 3) zc)) (za (pv 1) (za (pv 2) zc))))) (za (yZ (za (pv 9) (za (pv 5) (za (pv 1) (za (pv 6) zc))))) zc)))))
   z)) ?_ ?_
 ·rintro u hu σ H3' ⟨H1,ol,bk,p0,p1,p2,p3,p4,os,rs,F,k0,s0,s1,s2,s3,s4,G3,sp0',sp1',sp2,sp3',sp4',mk0,rfl⟩
  refine⟨_,rfl,_,rfl,_,rfl,_,rfl,by show 4<=sizeLine;decide,fun t0 ht0=>?_⟩
  have g4:=Same.new ht0 (.tup [.ref p0,.int (k0:Nat),.ref p1,.ref p4])
  have e4:upd H3' t0 (.tup [.ref p0,.int (k0:Nat),.ref p1,.ref p4]) t0=some (.tup [.ref p0,.int (k0:Nat),.ref p1,.ref p4]):=zj
  generalize upd H3' t0 (.tup [.ref p0,.int (k0:Nat),.ref p1,.ref p4])=H4 at g4 e4
  have G4:=G3.new g4
  have zns:=sp2.mono (yC.of g4)
  obtain⟨dx,fs,PN,hm⟩:=L.ins G4.led.bk
  refine⟨_,rfl,_,rfl,bk,dx,fs,rfl,PN,hm _ (by decide +kernel),_,rfl,bk,p2,os,rs,F,s2,rfl,G4.led.bk,by have:=G4.led.len;omega,zns.is_,zns.Ub,zns.ct,zns.dp,fun k2 rs2 H5 aw5 tu5 hB5 gr5 mk2 hh5=>?_⟩
  have G5:=G4.grow aw5 hB5 hh5
  refine⟨_,rfl,_,rfl,by show 4<=sizeLine;decide,fun t1 ht1=>?_⟩
  have g6:=Same.new ht1 (.tup [.ref p2,.int (k2:Nat),.ref p1,.ref p4])
  have e6:upd H5 t1 (.tup [.ref p2,.int (k2:Nat),.ref p1,.ref p4]) t1=some (.tup [.ref p2,.int (k2:Nat),.ref p1,.ref p4]):=zj
  generalize upd H5 t1 (.tup [.ref p2,.int (k2:Nat),.ref p1,.ref p4])=H6 at g6 e6
  refine⟨_,rfl,_,rfl,_,rfl,_,rfl,by show 4<=sizeLine;decide,fun t2 ht2=>?_⟩
  have g7:=Same.new ht2 (.tup [.ref p0,.int (k0:Nat),.ref p1,.ref p3])
  have e7:upd H6 t2 (.tup [.ref p0,.int (k0:Nat),.ref p1,.ref p3]) t2=some (.tup [.ref p0,.int (k0:Nat),.ref p1,.ref p3]):=zj
  generalize upd H6 t2 (.tup [.ref p0,.int (k0:Nat),.ref p1,.ref p3])=H7 at g7 e7
  refine⟨by show 3<=sizeLine;decide,fun al hal=>?_⟩
  have g8:=Same.new hal (.lst [.ref t0,.ref t1,.ref t2])
  have g68:=g6.trans (g7.trans g8)
  have G8:=G5.new g68
  have nal:¬F al:=L.fresh (G5.new (g6.trans g7)).led.bk hal
  have tA:=(yC.of g4).trans (tu5.trans (yC.of g68))
  have mk0':=mk0.grown G4.B gr5
  refine hu _ _ ⟨H1,ol,bk,p0,p1,p2,p3,p4,al,t0,t1,t2,os,rs2,F,k0,G8.up (by decide),zj,nal,?_,?_,?_,⟨s0,s1,s3,s4,sp0'.mono tA,sp1'.mono tA,sp3'.mono tA,sp4'.mono tA,mk0'⟩,rfl⟩
  ·exact⟨t0,p0,p1,p4,k0,s0,s1,s4,rfl,tu5.trans (yC.of g68) _ _ e4,sp0'.mono tA,sp1'.mono tA,sp4'.mono tA,mk0'⟩
  ·exact⟨t1,p2,p1,p4,k2,s2,s1,s4,rfl,(g7.trans g8) _ _ e6,sp2.mono tA,sp1'.mono tA,sp4'.mono tA,mk2⟩
  ·exact⟨t2,p0,p1,p3,k0,s0,s1,s3,rfl,g8 _ _ e7,sp0'.mono tA,sp1'.mono tA,sp3'.mono tA,mk0'⟩
 refine⟨_,(zf (wL PassesOwn.never rfl (yU (zQ QK (pv 7) (xq (za (yZ (za (pv 9) (za (pv 5) (za (pv 6) (za (pv 2) zc))))) (za (yZ (za (pv 9) (za (pv 5) (za (pv 1) (za (pv 2) zc))))) zc))))) (N6 rfl (wJ (z9 (i:=10) sc_law.nd rfl (Or.inl rfl)) (wJ (z9 (i:=11) sc_law.nd rfl (Or.inl rfl)) (wJ (z9 (i:=12) sc_law.nd rfl (Or.inl rfl)) (wJ (z9 (i:=13) sc_law.nd rfl (Or.inl rfl)) Sq))))) (zf (zF (i:=14) sc_law.nd rfl (Or.inl rfl) (yZ (za (uQ (pv 4) T.yu T.Wd Uw hr T.Wc .nil zB (za (pv 12) zc)) (za (uQ (pv 4) T.yu T.Wd Uw hr T.Wc .nil zB (za (pv 13) zc)) zc))))
   (zf (zrz (i:=15) (j:=16) rfl sc_law.nd rfl rfl (by decide) rfl rfl (za (zx Lq hr rfl T.T7 T.Wg.2 T.T6 .nil zB (za (pv 12) (za (pv 8) zc))) (za (zx Lq hr rfl T.T7 T.Wg.2 T.T6 .nil zB (za (pv 13) (za (pv 8) zc))) zc)) rfl)
   (zp (yP (Xk (vg (zx zfX hr rfl T.JC T.RN.2 T.JB .nil zB (za (pv 4) (za (pv 11) (za (pv 14) (za (zx zfW hr rfl T.Jx T.RL.2 T.Jw .nil zB (za (pv 10) (za (pv 8) zc))) (za (pv 15) (za (pv 16) zc))))))) (fun _=>rfl))) (zp (zK Yw)) z8)))))
   (zp (zK Yw))),?_⟩
 rintro σ H ⟨H1,ol,bk,p0,p1,p2,p3,p4,al,t0,t1,t2,os,rs,F,k0,G,hal,nal,A0,A1,A2,⟨s0,s1,s3,s4,sp0,sp1,sp3,sp4,mk0⟩,rfl⟩
 refine⟨_,rfl,_,rfl,_,rfl,_,rfl,_,rfl,by show 4<=sizeLine;decide,fun t3 ht3=>?_⟩
 have g2:=Same.new ht3 (.tup [.ref p0,.int (k0:Nat),.ref p3,.ref p4])
 have e2:upd H t3 (.tup [.ref p0,.int (k0:Nat),.ref p3,.ref p4]) t3=some (.tup [.ref p0,.int (k0:Nat),.ref p3,.ref p4]):=zj
 generalize upd H t3 (.tup [.ref p0,.int (k0:Nat),.ref p3,.ref p4])=H2 at g2 e2
 refine⟨_,rfl,_,rfl,_,rfl,_,rfl,by show 4<=sizeLine;decide,fun t4 ht4=>?_⟩
 have g2b:=Same.new ht4 (.tup [.ref p0,.int (k0:Nat),.ref p1,.ref p4])
 have e2b:upd H2 t4 (.tup [.ref p0,.int (k0:Nat),.ref p1,.ref p4]) t4=some (.tup [.ref p0,.int (k0:Nat),.ref p1,.ref p4]):=zj
 generalize upd H2 t4 (.tup [.ref p0,.int (k0:Nat),.ref p1,.ref p4])=H2b at g2b e2b
 refine⟨by show 2<=sizeLine;decide,fun ol1 hol1=>?_⟩
 have g3:=Same.new hol1 (.lst [.ref t3,.ref t4])
 have e3:upd H2b ol1 (.lst [.ref t3,.ref t4]) ol1=some (.lst [.ref t3,.ref t4]):=zj
 generalize upd H2b ol1 (.lst [.ref t3,.ref t4])=H3 at g3 e3
 have g23:=g2.trans (g2b.trans g3)
 refine⟨al,ol1,_,_,rfl,rfl,zM.of (g23 _ _ hal),zM.of e3,by show 5<=sizeLine;decide,fun ll hll=>?_⟩
 rw[show([V.ref t0,V.ref t1,V.ref t2]++[V.ref t3,V.ref t4])=[V.ref t0,V.ref t1,V.ref t2,V.ref t3,V.ref t4] from rfl]
 have g4:=Same.new hll (.lst [.ref t0,.ref t1,.ref t2,.ref t3,.ref t4])
 have e4:upd H3 ll (.lst [.ref t0,.ref t1,.ref t2,.ref t3,.ref t4]) ll=some (.lst [.ref t0,.ref t1,.ref t2,.ref t3,.ref t4]):=zj
 have nll:¬F ll:=L.fresh (G.new g23).led.bk hll
 have g24:=g23.trans g4
 have G4:=G.new g24
 have tA:=yC.of g24
 have rfl':=wK.tG.refl rs
 have B0:=G.B
 have as4:∀x∈[V.ref t0,.ref t1,.ref t2,.ref t3,.ref t4],ziX os (upd H3 ll (.lst [.ref t0,.ref t1,.ref t2,.ref t3,.ref t4])) rs x:=fun x hx=>by
  simp only[List.mem_cons,zC9,or_false] at hx
  rcases hx with e | e | e | e | e<;>subst e
  ·exact A0.grow B0 tA rfl'
  ·exact A1.grow B0 tA rfl'
  ·exact A2.grow B0 tA rfl'
  ·exact⟨t3,p0,p3,p4,k0,s0,s3,s4,rfl,(g2b.trans (g3.trans g4)) _ _ e2,sp0.mono tA,sp3.mono tA,sp4.mono tA,mk0⟩
  ·exact⟨t4,p0,p1,p4,k0,s0,s1,s4,rfl,(g3.trans g4) _ _ e2b,sp0.mono tA,sp1.mono tA,sp4.mono tA,mk0⟩
 clear A0 A1 A2 sp0 sp1 sp3 sp4 mk0 e2 e2b e3 hal nal tA
 generalize upd H3 ll (.lst [.ref t0,.ref t1,.ref t2,.ref t3,.ref t4])=H4 at g4 e4 g24 G4 as4
 refine⟨ll,rfl,⟨_,zM.of e4⟩,?_⟩
 refine uf (xs:=[.ref t0,.ref t1,.ref t2,.ref t3,.ref t4]) (fun i σ H'=>∃(rs':List wK.Rm) (f10 f11 f12 f13 f14 f15 f16:Option V),Gst a.zy K sc ns H1 ol bk os (200+200*i) H' rs' F/\H' ll=some (.lst [.ref t0,.ref t1,.ref t2,.ref t3,.ref t4])/\(∀x∈[V.ref t0,.ref t1,.ref t2,.ref t3,.ref t4],ziX os H' rs' x)/\σ=[some (.ref sc),some (.ref p1),some (.ref p4),some (.ref p2),some (.ref bk),some (.int (k0:Nat)),some (.ref p3),some (.ref al),some (.ref ol),some (.ref p0),f10,f11,f12,f13,f14,f15,f16])
  ⟨rs,_,_,_,_,_,_,_,G4.up (by omega),e4,as4,rfl⟩ (fun i σ H' _ ⟨_,_,_,_,_,_,_,_,_,h,_⟩=>zM.of h) ?_ ?_
 ·rintro i x σ H' hx ⟨rs',f10,f11,f12,f13,f14,f15,f16,G',hll',as',rfl⟩
  have i5:i<5:=(zCL.mp hx).1
  obtain⟨t,p,qq,zz,kw,sw,sq,sz,rfl,ht,sp,sqp,szp,mw⟩:=as' x (zCN hx)
  refine⟨t,_,rfl,vW.of ht,rfl,_,_,rfl,_,_,rfl,_,_,rfl,_,_,rfl,rfl,?_⟩
  have l5:=G'.led.len
  obtain⟨dx,fs,PN,hm⟩:=L.ins G'.led.bk
  refine⟨_,rfl,bk,dx,fs,rfl,PN,hm _ (by decide +kernel),_,rfl,bk,qq,os,rs',F,sq,rfl,G'.led.bk,by omega,sqp.all.is_,sqp.all.Ub,sqp.ct,sqp.dp,fun ki rs5 H5 aw5 tu5 hB5 gr5 mi hh5=>?_⟩
  have G5:=G'.grow aw5 hB5 hh5
  have l6:=G5.led.len
  have zqQ:=szp.mono tu5
  obtain⟨dx,fs,PN,hm⟩:=L.ins G5.led.bk
  refine⟨_,rfl,bk,dx,fs,rfl,PN,hm _ (by decide +kernel),_,rfl,bk,zz,os,rs5,F,sz,rfl,G5.led.bk,by omega,zqQ.all.is_,zqQ.all.Ub,zqQ.ct,zqQ.dp,fun kj rs6 H6 aw6 tu6 hB6 gr6 mj hh6=>?_⟩
  have G6:=G5.grow aw6 hB6 hh6
  refine⟨by show 2<=sizeLine;decide,fun rm hrm=>?_⟩
  have g7:=Same.new hrm (.tup [.int (ki:Nat),.int (kj:Nat)])
  have e7:upd H6 rm (.tup [.int (ki:Nat),.int (kj:Nat)]) rm=some (.tup [.int (ki:Nat),.int (kj:Nat)]):=zj
  generalize upd H6 rm (.tup [.int (ki:Nat),.int (kj:Nat)])=H7 at g7 e7
  have G7:=G6.new g7
  have tu7:=tu5.trans (tu6.trans (yC.of g7))
  have sq7:=sqp.mono tu7
  have sz7:=szp.mono tu7
  refine⟨_,rfl,_,rfl,qq,ol,os,sq,rfl,G7.olL,G7.ho,G7.hW,sq7.all,fun pl H8 g8 fpl hpl=>?_⟩
  have G8:=G7.new g8
  have sz8:=sz7.mono (yC.of g8)
  refine⟨_,rfl,_,rfl,zz,ol,os,sz,rfl,G8.olL,G8.ho,G8.hW,sz8.all,fun ql H9 g9 fql hql=>?_⟩
  have G9:=G8.new g9
  refine⟨_,_,rfl,?_⟩
  have g79:=g8.trans g9
  have sp9:=sp.mono (tu7.trans (yC.of g79))
  refine⟨_,rfl,_,rfl,_,rfl,_,rfl,_,rfl,p,ol,os,sw,rfl,G9.olL,G9.ho,G9.hW,sp9,fun gl ls H10 g10 hG=>?_⟩
  have G10:=G9.new g10
  have mi6:=mi.grown G5.B gr6
  have mw6:=(mw.grown G'.B gr5).grown G5.B gr6
  have nI:=zgB G10.ho sqp.Ub mi6
  have nJ:=zgB G10.ho szp.Ub mj
  have tw:tB rs6 kw=fun b=>sw.val (wI os b):=funext fun b=>zeu mw6 b
  have fi:tB rs6 ki=fun b=>sq.val (wI os b):=funext fun b=>zeu mi6 b
  have fj:tB rs6 kj=fun b=>sz.val (wI os b):=funext fun b=>zeu mj b
  rw[<-tw] at hG
  have hpl':=(g9.trans g10) _ _ hpl
  have hql':=g10 _ _ hql
  refine⟨_,rfl,_,rfl,bk,rm,gl,pl,ql,os,rs6,F,kw,ki,kj,H9,ls,rfl,G10.led.bk,G10.hW,mw6.1,nI,nJ,(g79.trans g10) _ _ e7,hG,by rw[fi];exact hpl',by rw[fj];exact hql',fun H11 g11=>⟨_,rfl,YX ?_⟩⟩
  have gz:=g7.trans (g79.trans (g10.trans g11))
  have tuz:yC H' H11:=tu5.trans (tu6.trans (yC.of gz))
  exact⟨rs6,_,_,_,_,_,_,_,((G6.new gz).up (by omega)),gz _ _ (aw6 _ _ (aw5 _ _ hll' nll) nll),fun x hx=>(as' x hx).grow G'.B tuz (gr5.trans gr6),rfl⟩
 ·rintro σ H' ⟨rs',f10,f11,f12,f13,f14,f15,f16,G',hll',as',rfl⟩
  exact q _
theorem zqR (T:Txt P w K mg a)(base:Heap):zA P w K mg base zW 60 a.a_law a.d_law ["script"] (zoc K):=by
 have cell:zA P w K mg base zW 1 a.yJ a.yK ["script", "k"] (zax K):=zk3 (k:=0) T
 have draw:zA P w K mg base zW 1 a.wO a.wQ ["cell", "k", "bound"] Mf:=zqK (k:=0) T
 have sentence:=zjl (k:=1) T cell draw
 have zh5:zA P w K mg base zW 2 a.tV a.tW ["marks"] Wt:=zjk (k:=1) T
 have Lr:zA P w K mg base zW 1 a.wW a.wX ["place", "marks"] tU:=zhP (k:=0) T
 have flipped:=zk2 (k:=1) T Lr
 have zpl:zA P w K mg base zW 1 a.WR a.WT ["letter"] RW:=zk5 (k:=0) T
 have zqS:=zjm (k:=1) T zpl
 have lettersOf:zA P w K mg base zW 1 a.tX a.tY ["sentence"] Vx:=zfF (k:=0) T
 have partsOf:zA P w K mg base zW 1 a.tZ a.Za ["sentence"] Ww:=zjn (k:=0) T
 have zfi:=zdh (k:=1) T partsOf
 have shaped:=zhQ (k:=1) T zpl lettersOf partsOf
 have zt7:=ze4 (k:=2) T shaped zfi
 have znt:=zcu (k:=2) T zqS
 have zqT:=K8 (k:=3) T zt7
 have zpm:=zhR (k:=2) T zfi
 have znu:=zfH (k:=3) T zpm (lettersOf.mono (by decide))
 have zpn:zA P w K mg base zW 1 a.vA a.vB ["order", "letter"] (QC K):=zbh (k:=0) T
 have znv:=zag (k:=4) T znu (zpn.mono (by decide))
 have two:zA P w K mg base zW 2 a.vN a.vO ["word", "one", "other", "every"] zin:=zdi (k:=1) T
 have table:=zc6 (k:=2) T zh5 (Lr.mono (by decide)) flipped (partsOf.mono (by decide)) two 24
 have zlf:=zk7 (k:=2) T (Lr.mono (by decide)) flipped
 have hangs:=zjq (k:=2) T flipped
 have first:=ze5 (k:=3) T hangs
 have zpo:=Sg (k:=4) T first (zlf.mono (by decide)) 9
 have enter:=ze7 (k:=26) T (zqT.mono (by decide)) (znv.mono (by decide)) table (zpo.mono (by decide))
 have init:=zhU (k:=3) T znt (zh5.mono (by decide))
 have mbr:zA P w K mg base zW 1 a.xO a.xP ["self", "number"] (Tc a.zy):=Lk (k:=0) T
 have tat:zA P w K mg base zW 1 a.yR a.yS ["self", "number"] (Z5 a.zy):=zcw (k:=0) T
 have zfj:zA P w K mg base zW 1 a.yF a.yG ["self"] (xQ (yD a.zy)):=zfJ (k:=0) T
 have zfk:zA P w K mg base zW 1 a.Xd a.Xe ["table", "other"] Uy:=zk9 (k:=0) T
 have zqU:=znn (k:=1) T zfk
 have uP:zA P w K mg base zW 1 a.yJ a.yK ["script", "k"] (Kc K):=znm (k:=0) T
 have zpp:=zla (k:=2) T flipped
 have moved:=zpd (k:=3) T zlf (Lr.mono (by decide)) (zqU.mono (by decide))
 have yq:=zhW (k:=1) T zfj
 have Zm:=zfL (k:=1) T zfj
 have zmg:=zfM (k:=2) T (zfj.mono (by decide)) yq
 have zlg:=ze9 (k:=2) T (zfj.mono (by decide)) Zm
 have after:=zpg (k:=4) T (zfj.mono (by decide)) (tat.mono (by decide)) (zmg.mono (by decide)) (zlg.mono (by decide)) (zpp.mono (by decide)) moved
 have before:=znp (k:=4) T (zfj.mono (by decide)) (tat.mono (by decide)) (zmg.mono (by decide)) (zlg.mono (by decide)) (zpp.mono (by decide)) moved
 have zsq:=zcy (k:=1) T zfj
 have zxJ:=zbj (k:=3) T (zfj.mono (by decide)) (tat.mono (by decide)) (mbr.mono (by decide)) zlg hangs
 have zrl:=NK (k:=4) T (zsq.mono (by decide)) (mbr.mono (by decide)) zxJ
 have zt8:=zdl (k:=5) T (tat.mono (by decide)) after (zfk.mono (by decide))
 have zlh:zA P w K mg base zW 1 a.wC a.wD ["order"] (Rk K):=zlb (k:=0) T
 have zsr:=zh0 (k:=1) T draw
 have zss:=zdm (k:=1) T zlh
 have zqV:=zfN (k:=1) T draw zlh
 have zt9:=zjs (k:=2) T (uP.mono (by decide)) (draw.mono (by decide)) sentence zsr zss
 have zua:=zbk (k:=2) T (uP.mono (by decide)) (draw.mono (by decide)) sentence (zlh.mono (by decide)) zqV
 have whole:zA P w K mg base zW 1 a.Zv a.Zw ["found"] zdv:=zpc (k:=0) T
 have zpq:zA P w K mg base zW 1 a.ur a.uw ["size"] Uz:=zjt (k:=0) T
 have lval:=zgK (k:=1) (base:=base) (K:=K) T 24
 have pair:=zju (k:=1) T zlh
 have graph:=zh1 (k:=25) T (zlh.mono (by decide)) (zpq.mono (by decide)) lval (pair.mono (by decide))
 have places:=zfP (k:=25) T (zlh.mono (by decide)) (zpq.mono (by decide)) lval (pair.mono (by decide))
 have into:zA P w K mg base zW 1 a.Yg a.Yh ["graph", "places"] zho:=zjv (k:=0) T
 have turns:=zh2 (k:=1) (K:=K) T into
 have zaJ:zA P w K mg base zW 1 a.Qd a.Qe ["order", "row"] (zdx K):=zno (k:=0) T
 have zqW:=ze8 (k:=1) T zaJ
 have zub:=zdn (k:=3) (K:=K) T zlf
 have having:=zfc (k:=2) (K:=K) T zh5 (Lr.mono (by decide)) (zfk.mono (by decide))
 have zxK:=zdo (k:=4) (K:=K) T zub (zmg.mono (by decide)) (zfj.mono (by decide))
 have only:=zqP (k:=3) (K:=K) T having zmg (zfj.mono (by decide))
 have through:=zfe (k:=5) (K:=K) T zxK before (only.mono (by decide))
 have zuc:=znr (k:=6) (K:=K) T (zrl.mono (by decide)) zt8 (tat.mono (by decide)) through
 have shows:=zfS (k:=6) (K:=K) T (zrl.mono (by decide)) (yq.mono (by decide)) (zqW.mono (by decide)) (only.mono (by decide)) (tat.mono (by decide)) (after.mono (by decide))
 have numbers:=zhV (k:=1) (K:=K) T whole
 have zud:=zfU (k:=2) (K:=K) T numbers
 have asked:=zfg (k:=30) T (zfj.mono (by decide)) (zuc.mono (by decide)) (shows.mono (by decide)) (turns.mono (by decide)) (zlh.mono (by decide)) (zpq.mono (by decide)) (zud.mono (by decide))
 exact ok_law (k:=58) T (uP.mono (by decide)) (zt9.mono (by decide)) (zua.mono (by decide)) (sentence.mono (by decide)) (graph.mono (by decide)) (places.mono (by decide)) (asked.mono (by decide)) (init.mono (by decide)) (enter.mono (by decide))
end
end K75
namespace PySem.W.Fast
def tw8667305802270916899:Nat:=0
def tw6280075987029254204:Nat:=0
def tw16250542635265115281:Nat:=0
def tw15979986461435124668:Nat:=0
def tw12798823386025661994:Nat:=0
def tw9581888420872980065:Nat:=0
def tw6921985100122432898:Nat:=0
def tw125588531601162293:Nat:=0
def tw17099837131957208956:Nat:=0
def tw10256593762886583943:Nat:=0
def tw14444079341711596708:Nat:=0
def tw7664078972009143124:Nat:=0
def tw8671264627194863645:Nat:=0
def tw16554171718536935293:Nat:=0
def tw3117918951952031821:Nat:=0
def tw9789455849086693600:Nat:=0
def tw9386311989091532879:Nat:=0
def tw2647863025778747604:Nat:=0
def tw3362946300927243247:Nat:=0
def tw18334929615027932006:Nat:=0
def tw14992591164177339417:Nat:=0
def tw16960584567592569543:Nat:=0
def tw1129050286053119456:Nat:=0
def tw7512127695231805593:Nat:=0
def tw6469517177711675954:Nat:=0
def tw11029387306015055273:Nat:=0
def tw6091994589640682105:Nat:=0
def tw10444147654279319310:Nat:=0
def tw656481246098826822:Nat:=0
def tw17627825983614431594:Nat:=0
def tw3965459643369539285:Nat:=0
def tw17990671094346741721:Nat:=0
def tw5540838788276021456:Nat:=0
def tw696739849975749797:Nat:=0
def tw12718083073414384216:Nat:=0
def tw12062029388311394425:Nat:=0
def tw2556831459418434575:Nat:=0
def tw8933409067913504027:Nat:=0
def tw8997038295842134471:Nat:=0
def tw7888359337317966776:Nat:=0
def tw9734013636072088852:Nat:=0
def tw17420647477448893511:Nat:=0
def tw215831365072430971:Nat:=0
def tw10364631433284881209:Nat:=0
def tw13292890824259695190:Nat:=0
def tw15972060364164629346:Nat:=0
def tw1262346710302070924:Nat:=0
def tw1702645138724318240:Nat:=0
def tw10111500330316548176:Nat:=0
def tw17297728547031729603:Nat:=0
def tw3233023694160964992:Nat:=0
def tw606542973858203837:Nat:=0
def tw5114409338589617967:Nat:=0
def tw10844353487781592675:Nat:=0
def tw2832329000237196563:Nat:=0
def tw2600028296786849892:Nat:=0
def tw2474812816266629437:Nat:=0
def tw316037935677976805:Nat:=0
def tw15500793743360972983:Nat:=0
def tw12539553196987833195:Nat:=0
def tw7045981184160216224:Nat:=0
def tw11536931299705243937:Nat:=0
def tw922903231183527943:Nat:=0
def tw11544173659908251105:Nat:=0
def tw17190812973212382365:Nat:=0
def tw8760335509847522073:Nat:=0
def tw4227120368849703068:Nat:=0
def tw10741777649687416420:Nat:=0
def tw9430368811623566322:Nat:=0
def tw8159290392587515574:Nat:=0
def tw4470254175976406973:Nat:=0
def tw6453590655345955556:Nat:=0
def tw15967472724742845023:Nat:=0
def tw5142442397698546517:Nat:=0
def tw7255456962765423262:Nat:=0
def tw14116918311798355411:Nat:=0
def tw18131277581832388253:Nat:=0
def tw4726978974323900753:Nat:=0
def tw122973782591719134:Nat:=0
def tw16018605888590514224:Nat:=0
def tw18184493501836960583:Nat:=0
def tw10898947306425884342:Nat:=0
def tw4091147529495207094:Nat:=0
def tw18343884020460380004:Nat:=0
def tw7945681868950778477:Nat:=0
def tw15939842734318008758:Nat:=0
def tw4929736768174084418:Nat:=0
def tw16592045216630826225:Nat:=0
def tw15227649632169747872:Nat:=0
def tw8246067975711077109:Nat:=0
def tw13360594622968642866:Nat:=0
def tw9103895310352666324:Nat:=0
def tw13657488701743335093:Nat:=0
def tw15818748044816187:Nat:=0
def tw525746914911285768:Nat:=0
def tw6001072062491479302:Nat:=0
def tw8131156620926993020:Nat:=0
def tw8989202710169409811:Nat:=0
def tw7463107255517794817:Nat:=0
def tw15000748403566043121:Nat:=0
def tw17403323125911730456:Nat:=0
def tw2533533412471400628:Nat:=0
def tw6594239213703402511:Nat:=0
def tw3604948070769354903:Nat:=0
def tw12042993898057981220:Nat:=0
def tw18083300351673436194:Nat:=0
def tw12048128125790322519:Nat:=0
def tw8536121987064404678:Nat:=0
def tw6459329415460284215:Nat:=0
def tw15988789921033448845:Nat:=0
def tw2849827327246889714:Nat:=0
def tw10989280021663545194:Nat:=0
def tw9266291570560809656:Nat:=0
def tw4954474145467311695:Nat:=0
def tw4327646608563800313:Nat:=0
def tw10513434669333624128:Nat:=0
def tw8420404061710215825:Nat:=0
def tw5350715458230745104:Nat:=0
def tw17748500257170683057:Nat:=0
def tw14369962577520081355:Nat:=0
def tw778610117845037539:Nat:=0
def tw6902084136997319975:Nat:=0
def tw3931512586347334694:Nat:=0
def tw14099861263416309703:Nat:=0
def tw14033567778566446389:Nat:=0
def tw9119752885291169970:Nat:=0
def tw12500010308424594533:Nat:=0
def tw9498188648402899642:Nat:=0
def tw6007199890608180352:Nat:=0
def tw11501369187179079909:Nat:=0
def tw18229985066593693250:Nat:=0
def tw14504450235435019624:Nat:=0
def tw14048050667025065715:Nat:=0
def tw7122703898377323208:Nat:=0
def tw5190450753232066865:Nat:=0
def tw7545814085661977132:Nat:=0
def tw15732346283197815483:Nat:=0
def tw14170416778358561792:Nat:=0
def tw11482446867658105495:Nat:=0
def tw7780655291727858446:Nat:=0
def tw16641195275575898480:Nat:=0
def tw16876553145067656735:Nat:=0
def tw852258378506168423:Nat:=0
def tw5269217398123666637:Nat:=0
def tw18130988116013377614:Nat:=0
def tw16870168338037896345:Nat:=0
def tw3833456122106871811:Nat:=0
def tw10988764423891078172:Nat:=0
def tw376629071622196024:Nat:=0
def tw15015655102423177211:Nat:=0
def tw15613541940974445520:Nat:=0
def tw18147250228063605911:Nat:=0
def tw14937024688805847134:Nat:=0
def tw2542498606208115696:Nat:=0
def tw13551006734437906892:Nat:=0
def tw13308556372360995722:Nat:=0
def tw8610961538773216370:Nat:=0
def tw16521619844050341091:Nat:=0
def tw9675247930785302570:Nat:=0
def tw9740317479771073895:Nat:=0
def tw2364398052856509238:Nat:=0
def tw17905912936098688239:Nat:=0
def tw11070610236380659876:Nat:=0
def tw13522798649559744616:Nat:=0
def tw2304603052002318464:Nat:=0
def tw4634588747874768748:Nat:=0
def tw12054481811624800078:Nat:=0
def tw12399616979511488827:Nat:=0
def tw9186703103001254959:Nat:=0
def tw13371098915598149572:Nat:=0
def tw17003594766449724784:Nat:=0
def tw16627583838277516476:Nat:=0
def tw5536765022674058338:Nat:=0
def tw3048984309862579062:Nat:=0
def tw5979781513996443458:Nat:=0
def tw5762097334256546052:Nat:=0
def tw4280547257884053978:Nat:=0
def tw7099976101504075813:Nat:=0
def tw10542614491349476681:Nat:=0
def tw2097598652900356109:Nat:=0
def tw3763685514488951858:Nat:=0
def tw5764850796884374509:Nat:=0
def tw5842881915315250153:Nat:=0
def tw12096168803025632002:Nat:=0
def tw17659416248347009987:Nat:=0
def tw1954696308210368610:Nat:=0
def tw7211441112449895899:Nat:=0
def tw16431855479433791589:Nat:=0
def tw2717163219484440119:Nat:=0
def tw1917714549260733164:Nat:=0
def tw13787493576702750026:Nat:=0
def tw5066812747664060619:Nat:=0
def tw9176532169140587751:Nat:=0
def tw12407719253704128558:Nat:=0
def tw3485496725738425348:Nat:=0
def tw15954696479231019908:Nat:=0
def tw13723041986235307916:Nat:=0
def tw11997379881014995615:Nat:=0
def tw871273706000347498:Nat:=0
def tw1126624451834948861:Nat:=0
def tw16350092388242813340:Nat:=0
def tw16178965261829120392:Nat:=0
def tw14894536205391339710:Nat:=0
def tw12584140082919657621:Nat:=0
def tw1239709448929899518:Nat:=0
def tw17398881217854272643:Nat:=0
def tw16683076452572500814:Nat:=0
def tw16223276553521911465:Nat:=0
def tw196859603666704174:Nat:=0
def tw14341217921150016138:Nat:=0
def tw15650188624435357091:Nat:=0
def tw2587461652507276255:Nat:=0
def tw4950908154052594533:Nat:=0
def tw3241074682644112146:Nat:=0
def tw16750919160380281196:Nat:=0
def tw1808804936708036355:Nat:=0
def tw17708184958858935300:Nat:=0
def tw1398833588029926640:Nat:=0
def tw15772035795945378676:Nat:=0
def tw11949027523792103525:Nat:=0
def tw8378624751941429137:Nat:=0
def tw3511463390114060933:Nat:=0
def tw7504991302022886113:Nat:=0
def tw4437966509427664810:Nat:=0
def tw5928698665272028444:Nat:=0
def tw4461400814151522406:Nat:=0
def tw7144962417520887749:Nat:=0
def tw18360214124072115605:Nat:=0
def tw795145281955006113:Nat:=0
def tw10789389237078140091:Nat:=0
def tw5806330971632361218:Nat:=0
def tw13307376223662182304:Nat:=0
def tw905241022095542455:Nat:=0
def tw11333338430586562233:Nat:=0
def tw3311100300806048196:Nat:=0
def tw9353300135476584554:Nat:=0
def tw2112336670775540874:Nat:=0
def tw4418617774616591254:Nat:=0
def tw15833026387729354597:Nat:=0
def tw4559361697990899390:Nat:=0
def tw2479638111735199545:Nat:=0
def tw8655337025579743746:Nat:=0
def tw13991483533702854023:Nat:=0
def tw11876921883516992025:Nat:=0
def tw8441945725070509921:Nat:=0
def tw13860594654510394266:Nat:=0
def tw7655876229867029618:Nat:=0
def tw9405390587153643210:Nat:=0
def tw14203700226507028998:Nat:=0
def tw291091805514190434:Nat:=0
def tw10226788470397118433:Nat:=0
def tw2475495015577077667:Nat:=0
def tw11844720309955468235:Nat:=0
def tw6657935974086872576:Nat:=0
def tw2744184603147239426:Nat:=0
def tw1904339339866512437:Nat:=0
def tw9035613941858840799:Nat:=0
def tw3371214618369735014:Nat:=0
def tw11347788732606913075:Nat:=0
def tw14150494078662138841:Nat:=0
def tw18229883859957279867:Nat:=0
def tw13349127521880819861:Nat:=0
def tw12978657097723117831:Nat:=0
def tw2740577258353198021:Nat:=0
def tw15629472972830677113:Nat:=0
def tw7652945206066736898:Nat:=0
def tw6718229114893520469:Nat:=0
def tw2886824658220927270:Nat:=0
def tw6202326354585760005:Nat:=0
def tw11060243520741530135:Nat:=0
def tw6615638144287869400:Nat:=0
def tw15767804796796600035:Nat:=0
def tw16194206577619833627:Nat:=0
def tw15082177495870250911:Nat:=0
def tw16492844189608762309:Nat:=0
def tw11694903280074901731:Nat:=0
def tw7382180834926795468:Nat:=0
def tw10529638463040203871:Nat:=0
def tw12794891374128109579:Nat:=0
def tw8136252304578265196:Nat:=0
def tw16989898794044786405:Nat:=0
def tw3902022637560214470:Nat:=0
def tw3584424883032318401:Nat:=0
def tw2327934134922304205:Nat:=0
def tw1370537778114234995:Nat:=0
def tw2199877509747929479:Nat:=0
def tw14612646397154215467:Nat:=0
def tw3385114007587025397:Nat:=0
def tw8479112695135392317:Nat:=0
def tw161032206355826953:Nat:=0
def tw9313205132895732143:Nat:=0
def tw14704825560997353894:Nat:=0
def tw8889828631018281791:Nat:=0
def tw12852493156446084928:Nat:=0
def tw1567310370199154218:Nat:=0
def tw4524839017959826036:Nat:=0
def tw2033781697829320772:Nat:=0
def tw1097084684877943636:Nat:=0
def tw5438858614327616695:Nat:=0
def tw7650266031942776382:Nat:=0
def tw10876586521162136571:Nat:=0
def tw13184626439006886389:Nat:=0
def tw3765725588867922449:Nat:=0
def tw17418280428128735955:Nat:=0
def tw9545806023673669900:Nat:=0
def tw15584897735114178829:Nat:=0
def tw10821886763551408581:Nat:=0
def tw3362170428290210524:Nat:=0
def tw3128673231529951328:Nat:=0
def tw6983757701501608835:Nat:=0
def tw3846192863447350437:Nat:=0
def tw7707299019395290616:Nat:=0
def tw11501188641802875017:Nat:=0
def tw17298185293358068144:Nat:=0
def tw9125707308268547038:Nat:=0
def tw16223582990417148894:Nat:=0
def tw12340423536130491087:Nat:=0
def tw4438669562806293139:Nat:=0
def tw14844425260821497359:Nat:=0
def tw13327946591431094315:Nat:=0
def tw13611430488897905349:Nat:=0
def tw1427438349563787909:Nat:=0
def tw10812514477898935256:Nat:=0
def tw4073516782353150117:Nat:=0
def tw8768018668347523295:Nat:=0
def tw3617699610494563122:Nat:=0
def tw8928327434436936038:Nat:=0
def tw16839143115446181868:Nat:=0
def tw2592660567236262042:Nat:=0
def tw4769112135996156534:Nat:=0
def tw16593834693347859757:Nat:=0
def tw6906342417338096167:Nat:=0
def tw16324700256136594147:Nat:=0
def tw8343368688095035193:Nat:=0
def tw12592252921781265876:Nat:=0
def tw15662272990372646219:Nat:=0
def tw16565608814778892761:Nat:=0
def tw4753293516995170665:Nat:=0
def tw7927630724289326691:Nat:=0
def tw18428708435005755773:Nat:=0
def tw3118838202452710790:Nat:=0
def tw1920672073971985740:Nat:=0
def tw15331038688839009335:Nat:=0
def tw4332761937061826598:Nat:=0
def tw1199582453533576541:Nat:=0
def tw17072665297118820832:Nat:=0
def tw14081288189743250886:Nat:=0
def tw1294594157975858612:Nat:=0
def tw8490316261623764342:Nat:=0
def tw11973060714591151737:Nat:=0
def tw4228226181354900458:Nat:=0
def tw13395381244297866985:Nat:=0
def tw11733727842404614738:Nat:=0
def tw15620811808635711613:Nat:=0
def tw1585301444273746575:Nat:=0
def tw11012725121086272164:Nat:=0
def tw6280568620390111279:Nat:=0
def tw15365552588463068298:Nat:=0
def tw8085741938115837433:Nat:=0
def tw7472640314428015127:Nat:=0
def tw15666110112751876132:Nat:=0
def tw12025458844920100179:Nat:=0
def tw10668787500824745707:Nat:=0
def tw9217871882058920900:Nat:=0
def tw6355497610177805244:Nat:=0
def tw8051827615824627315:Nat:=0
def tw11599274554870701998:Nat:=0
def tw184393210267196619:Nat:=0
def tw952448556862970627:Nat:=0
def tw4196099185533780601:Nat:=0
def tw1986569763607615499:Nat:=0
def tw14788674569089146170:Nat:=0
def tw13137486173555320879:Nat:=0
def tw17216781456147023371:Nat:=0
def tw5607345557199140898:Nat:=0
end PySem.W.Fast
open PySem PySem.W PyProof.Rows
set_option maxRecDepth 100000 in
set_option maxHeartbeats 0 in
theorem PySem.Challenge.cw_decidebook_k75_ways_told_holds : PySem.Challenge.rw_decidebook_k75_ways_told.Holds := by
  w_on;o_law;k_head;(case hw => w_witness2)
  k_fill
  refine L2.znN (l := PySem.Challenge.rw_decidebook_k75_ways_told) (n := 63) (k := 60) (x := "script") (CX := L2.zW) (sp := Zk.zoc) rfl (by decide) rfl (by first | exact⟨rfl, by decide, by decide⟩ | exact⟨rfl, rfl, by decide, by decide⟩) (fun w h Y => PySem.W.kIn_of Y) ?F ?S ?C
  case F =>
    intro w mg fa h KX G hmg
    have T : ∃a, K75.Txt PySem.Challenge.rw_decidebook_k75_ways_told.prog w (L2.KOf KX) mg a := by
      dsimp only[L2.KOf]
      refine' K75.zsd KX G ?zy ?a0 ?F0 ?a1 ?F1 ?a2 ?F2 ?a3 ?F3 ?a4 ?F4 ?a5 ?F5 ?a6 ?F6 ?a7 ?F7 ?a8 ?F8 ?a9 ?F9 ?a10 ?F10 ?a11 ?F11 ?a12 ?F12 ?a13 ?F13 ?a14 ?F14 ?a15 ?F15 ?a16 ?F16 ?a17 ?F17 ?a18 ?F18 ?a19 ?F19 ?a20 ?F20 ?a21 ?F21 ?a22 ?F22 ?a23 ?F23 ?a24 ?F24 ?a25 ?F25 ?a26 ?F26 ?a27 ?F27 ?a28 ?F28 ?a29 ?F29 ?a30 ?F30 ?a31 ?F31 ?a32 ?F32 ?a33 ?F33 ?a34 ?F34 ?a35 ?F35 ?a36 ?F36 ?a37 ?F37 ?a38 ?F38 ?a39 ?F39 ?a40 ?F40 ?a41 ?F41 ?a42 ?F42 ?a43 ?F43 ?a44 ?i44 ?F44 ?a45 ?i45 ?F45 ?a46 ?i46 ?F46 ?a47 ?i47 ?F47 ?a48 ?i48 ?F48 ?a49 ?i49 ?F49 ?a50 ?i50 ?F50 ?a51 ?i51 ?F51 ?a52 ?i52 ?F52 ?a53 ?i53 ?F53 ?a54 ?i54 ?F54 ?a55 ?F55 ?a56 ?F56 ?a57 ?F57 ?a58 ?F58 ?a59 ?F59 ?a60 ?F60 ?a61 ?F61 ?a62 ?F62 ?a63 ?F63 ?a64 ?F64 ?a65 ?F65 ?a66 ?F66 ?a67 ?F67 ?a68 ?F68 ?a69 ?F69 ?a70 ?F70 ?a71 ?F71 ?a72 ?F72 ?a73 ?F73 ?a74 ?F74 ?a75 ?F75 ?zhE ?zhF ?zhG ?zhH ?Kr ?zhI ?wz ?wR ?wY ?xJ ?S9 ?zhJ ?zhK ?RP ?Lj ?YF ?ze1 ?ze2 ?ze3 ?zb1 ?zb2 ?zb3 ?zb4 ?zb5 ?zb6 ?zb7 ?zb8 ?zb9 ?zca ?zcb ?zcc ?zcd ?zce ?zcf ?zcg ?zch ?zci ?zcj ?zck ?YT ?zhL ?zhM ?zcl ?zcm ?zcn ?zco ?zcp ?zcq ?zcr ?zcs ?zo1 ?zo2 ?zkY ?zkZ ?zo3 ?PK ?zo4 ?zk0 ?zo5 ?zo6 ?zhN ?zk1 ?zaf ?zo7 ?zo8 ?zhO ?zo9
      (case zy => k_is)
      (case a0 => k_is)
      (case F0 => apply L2.zT;k_is;k_is;k_is)
      (case a1 => k_is)
      (case F1 => apply L2.zT;k_is;k_is;k_is)
      (case a2 => k_is)
      (case F2 => apply L2.zT;k_is;k_is;k_is)
      (case a3 => k_is)
      (case F3 => apply L2.zT;k_is;k_is;k_is)
      (case a4 => k_is)
      (case F4 => apply L2.zT;k_is;k_is;k_is)
      (case a5 => k_is)
      (case F5 => apply L2.zT;k_is;k_is;k_is)
      (case a6 => k_is)
      (case F6 => apply L2.zT;k_is;k_is;k_is)
      (case a7 => k_is)
      (case F7 => apply L2.zT;k_is;k_is;k_is)
      (case a8 => k_is)
      (case F8 => apply L2.zT;k_is;k_is;k_is)
      (case a9 => k_is)
      (case F9 => apply L2.zT;k_is;k_is;k_is)
      (case a10 => k_is)
      (case F10 => apply L2.zT;k_is;k_is;k_is)
      (case a11 => k_is)
      (case F11 => apply L2.zT;k_is;k_is;k_is)
      (case a12 => k_is)
      (case F12 => apply L2.zT;k_is;k_is;k_is)
      (case a13 => k_is)
      (case F13 => apply L2.zT;k_is;k_is;k_is)
      (case a14 => k_is)
      (case F14 => apply L2.zT;k_is;k_is;k_is)
      (case a15 => k_is)
      (case F15 => apply L2.zT;k_is;k_is;k_is)
      (case a16 => k_is)
      (case F16 => apply L2.zT;k_is;k_is;k_is)
      (case a17 => k_is)
      (case F17 => apply L2.zT;k_is;k_is;k_is)
      (case a18 => k_is)
      (case F18 => apply L2.zT;k_is;k_is;k_is)
      (case a19 => k_is)
      (case F19 => apply L2.zT;k_is;k_is;k_is)
      (case a20 => k_is)
      (case F20 => apply L2.zT;k_is;k_is;k_is)
      (case a21 => k_is)
      (case F21 => apply L2.zT;k_is;k_is;k_is)
      (case a22 => k_is)
      (case F22 => apply L2.zT;k_is;k_is;k_is)
      (case a23 => k_is)
      (case F23 => apply L2.zT;k_is;k_is;k_is)
      (case a24 => k_is)
      (case F24 => apply L2.zT;k_is;k_is;k_is)
      (case a25 => k_is)
      (case F25 => apply L2.zT;k_is;k_is;k_is)
      (case a26 => k_is)
      (case F26 => apply L2.zT;k_is;k_is;k_is)
      (case a27 => k_is)
      (case F27 => apply L2.zT;k_is;k_is;k_is)
      (case a28 => k_is)
      (case F28 => apply L2.zT;k_is;k_is;k_is)
      (case a29 => k_is)
      (case F29 => apply L2.zT;k_is;k_is;k_is)
      (case a30 => k_is)
      (case F30 => apply L2.zT;k_is;k_is;k_is)
      (case a31 => k_is)
      (case F31 => apply L2.zT;k_is;k_is;k_is)
      (case a32 => k_is)
      (case F32 => apply L2.zT;k_is;k_is;k_is)
      (case a33 => k_is)
      (case F33 => apply L2.zT;k_is;k_is;k_is)
      (case a34 => k_is)
      (case F34 => apply L2.zT;k_is;k_is;k_is)
      (case a35 => k_is)
      (case F35 => apply L2.zT;k_is;k_is;k_is)
      (case a36 => k_is)
      (case F36 => apply L2.zT;k_is;k_is;k_is)
      (case a37 => k_is)
      (case F37 => apply L2.zT;k_is;k_is;k_is)
      (case a38 => k_is)
      (case F38 => apply L2.zT;k_is;k_is;k_is)
      (case a39 => k_is)
      (case F39 => apply L2.zT;k_is;k_is;k_is)
      (case a40 => k_is)
      (case F40 => apply L2.zT;k_is;k_is;k_is)
      (case a41 => k_is)
      (case F41 => apply L2.zT;k_is;k_is;k_is)
      (case a42 => k_is)
      (case F42 => apply L2.zT;k_is;k_is;k_is)
      (case a43 => k_is)
      (case F43 => apply L2.zT;k_is;k_is;k_is)
      (case a44 => k_is)
      (case i44 => k_is)
      (case F44 => apply L2.zT;k_is;k_is;k_is)
      (case a45 => k_is)
      (case i45 => k_is)
      (case F45 => apply L2.zT;k_is;k_is;k_is)
      (case a46 => k_is)
      (case i46 => k_is)
      (case F46 => apply L2.zT;k_is;k_is;k_is)
      (case a47 => k_is)
      (case i47 => k_is)
      (case F47 => apply L2.zT;k_is;k_is;k_is)
      (case a48 => k_is)
      (case i48 => k_is)
      (case F48 => apply L2.zT;k_is;k_is;k_is)
      (case a49 => k_is)
      (case i49 => k_is)
      (case F49 => apply L2.zT;k_is;k_is;k_is)
      (case a50 => k_is)
      (case i50 => k_is)
      (case F50 => apply L2.zT;k_is;k_is;k_is)
      (case a51 => k_is)
      (case i51 => k_is)
      (case F51 => apply L2.zT;k_is;k_is;k_is)
      (case a52 => k_is)
      (case i52 => k_is)
      (case F52 => apply L2.zT;k_is;k_is;k_is)
      (case a53 => k_is)
      (case i53 => k_is)
      (case F53 => apply L2.zT;k_is;k_is;k_is)
      (case a54 => k_is)
      (case i54 => k_is)
      (case F54 => apply L2.zT;k_is;k_is;k_is)
      (case a55 => k_is)
      (case F55 => apply L2.zT;k_is;k_is;k_is)
      (case a56 => k_is)
      (case F56 => apply L2.zT;k_is;k_is;k_is)
      (case a57 => k_is)
      (case F57 => apply L2.zT;k_is;k_is;k_is)
      (case a58 => k_is)
      (case F58 => apply L2.zT;k_is;k_is;k_is)
      (case a59 => k_is)
      (case F59 => apply L2.zT;k_is;k_is;k_is)
      (case a60 => k_is)
      (case F60 => apply L2.zT;k_is;k_is;k_is)
      (case a61 => k_is)
      (case F61 => apply L2.zT;k_is;k_is;k_is)
      (case a62 => k_is)
      (case F62 => apply L2.zT;k_is;k_is;k_is)
      (case a63 => k_is)
      (case F63 => apply L2.zT;k_is;k_is;k_is)
      (case a64 => k_is)
      (case F64 => apply L2.zT;k_is;k_is;k_is)
      (case a65 => k_is)
      (case F65 => apply L2.zT;k_is;k_is;k_is)
      (case a66 => k_is)
      (case F66 => apply L2.zT;k_is;k_is;k_is)
      (case a67 => k_is)
      (case F67 => apply L2.zT;k_is;k_is;k_is)
      (case a68 => k_is)
      (case F68 => apply L2.zT;k_is;k_is;k_is)
      (case a69 => k_is)
      (case F69 => apply L2.zT;k_is;k_is;k_is)
      (case a70 => k_is)
      (case F70 => apply L2.zT;k_is;k_is;k_is)
      (case a71 => k_is)
      (case F71 => apply L2.zT;k_is;k_is;k_is)
      (case a72 => k_is)
      (case F72 => apply L2.zT;k_is;k_is;k_is)
      (case a73 => k_is)
      (case F73 => apply L2.zT;k_is;k_is;k_is)
      (case a74 => k_is)
      (case F74 => apply L2.zT;k_is;k_is;k_is)
      (case a75 => k_is)
      (case F75 => apply L2.zT;k_is;k_is;k_is)
      (case zhE => k_is)
      (case zhF => k_is)
      (case zhG => k_is)
      (case zhH => k_is)
      (case Kr => k_is)
      (case zhI => k_is)
      (case wz => k_is)
      (case wR => k_is)
      (case wY => k_is)
      (case xJ => k_is)
      (case S9 => k_is)
      (case zhJ => k_is)
      (case zhK => rfl)
      (case RP => k_is)
      (case Lj => k_is)
      (case YF => k_is)
      (case ze1 => k_is)
      (case ze2 => rfl)
      (case ze3 => rfl)
      (case zb1 => k_is)
      (case zb2 => rfl)
      (case zb3 => k_is)
      (case zb4 => rfl)
      (case zb5 => k_is)
      (case zb6 => rfl)
      (case zb7 => k_is)
      (case zb8 => rfl)
      (case zb9 => k_is)
      (case zca => rfl)
      (case zcb => k_is)
      (case zcc => rfl)
      (case zcd => k_is)
      (case zce => rfl)
      (case zcf => k_is)
      (case zcg => rfl)
      (case zch => k_is)
      (case zci => rfl)
      (case zcj => k_is)
      (case zck => rfl)
      (case YT => k_is)
      (case zhL => k_is)
      (case zhM => rfl)
      (case zcl => k_is)
      (case zcm => rfl)
      (case zcn => k_is)
      (case zco => rfl)
      (case zcp => k_is)
      (case zcq => rfl)
      (case zcr => k_is)
      (case zcs => rfl)
      (case zo1 => k_is)
      (case zo2 => k_is)
      (case zkY => k_is)
      (case zkZ => k_is)
      (case zo3 => k_is)
      (case PK => k_is)
      (case zo4 => k_is)
      (case zk0 => k_is)
      (case zo5 => k_is)
      (case zo6 => k_is)
      (case zhN => k_is)
      (case zk1 => k_is)
      (case zaf => k_is)
      (case zo7 => k_is)
      (case zo8 => k_is)
      (case zhO => k_is)
      (case zo9 => k_is)
    obtain⟨a, T⟩ := T
    have e0 := hmg.symm.trans T.m_law
    cases e0
    exact⟨_, T.x_law, fun base kb nb => K75.zqR T base⟩
  case S => exact fun K H a ns hl hO hS => ⟨a, ns, rfl, hS, hl, fun _ => rfl⟩
  case C => exact fun _ _ _ _ h => h
