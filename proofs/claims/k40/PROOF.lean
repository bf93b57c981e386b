import PyProof.Rows.All
import Wide.All
import OpenK.AllK
import Wide.FinOn
import Lean
import PyProof.EqAt
import PyProof.EqKinds
import PyProof.TupleCall
import KE.KRevIter
import OpenK.KOwn
import PySem.Challenge.RW_decidebook_k40_counting_refused
open PySem.W (Frag nsIn mg_of findIn mg_none_of)
def zvA:=@List.length_map
def zvB:=@List.getElem?_eq_getElem
def zvC:=@List.getElem?_map
def zvD:=@List.getElem?_eq_some_iff
def zvE:=@Bool.false_ne_true
def zvF:=@List.mem_of_getElem?
def zvG:=@PySem.Heap.get?_push_of_some
def zvH:=@PySem.Heap.lt_size
def zvI:=@List.length_append
def zvJ:=@Nat.lt_of_lt_of_le
def zvK:=@List.size_toArray
def zvL:=@List.mem_cons_of_mem
def zvM:=@List.length_cons
def zvN:=@List.getD_eq_getElem?_getD
def zvO:=@List.map_append
def zvP:=@Nat.ne_of_lt
def zvQ:=@Nat.le_refl
def zvR:=@List.mem_append_right
def zvS:=@Nat.le_of_lt
def zvT:=@List.mem_cons_self
def zvU:=@PySem.Heap.get?_push_size
def zvV:=@Nat.le_trans
def zvW:=@Nat.zero_le
def zvX:=@List.length_take
def zvY:=@List.map_cons
def zvZ:=@List.lookup_cons
def zv0:=@List.not_mem_nil
def zv1:=@Bool.and_eq_true
def zv2:=@List.take_length
def zv3:=@List.all_eq_true
def zv4:=@Option.some.inj
def zv5:=@Nat.pow_le_pow_right
def zv6:=@List.getElem?_append_left
def zv7:=@List.length_singleton
def zv8:=@List.getElem?_eq_none
def zv9:=@Nat.le_add_right
def zwa:=@List.map_map
def zwb:=@Int.toNat_natCast
def zwc:=@Int.emod_lt_of_pos
def zwd:=@Bool.eq_iff_iff
def zwe:=@List.getElem_of_mem
def zwf:=@Int.emod_nonneg
set_option Elab.async false
set_option linter.all false
set_option maxRecDepth 100000
namespace L2
open PySem PySem.Spec PyProof.Rows
abbrev Key:=Sum Int Str
def zbq:Key->Value->Bool
 | .inl k,v=>Value.isInt k v
 | .inr x,v=>Value.isStrOf x v
def zrn (w:World):Key->Int
 | .inl k=>hashInt k
 | .inr x=>hashStr w x
theorem wC:∀{k:Key} {v:Value},zbq k v=true->(∃i t,k=Sum.inl i/\v=Value.int i t)\/(∃x t,k=Sum.inr x/\v=Value.str x t)
 | .inl i,v,h=>by
  obtain⟨t,e⟩:=Value.isInt_shape (k:=i) (v:=v) h
  exact .inl ⟨i,t,rfl,e⟩
 | .inr x,v,h=>by
  obtain⟨t,e⟩:=Value.isStrOf_shape (x:=x) (v:=v) h
  exact .inr ⟨x,t,rfl,e⟩
theorem ziO (i:Int)(t:Tok):zbq (.inl i) (.int i t)=true:=by simp[zbq,Value.isInt]
theorem ziP (x:Str)(t:Tok):zbq (.inr x) (.str x t)=true:=by simp[zbq,Value.isStrOf]
theorem znC (a b:Int):decide ((Sum.inl a:Key)=Sum.inl b)=(a==b):=by
 by_cases e:a=b
 ·subst e;simp
 ·have h:¬(Sum.inl a:Key)=Sum.inl b:=fun q=>e (Sum.inl.inj q)
  rw[decide_eq_false h]
  exact(beq_eq_false_iff_ne.mpr e).symm
theorem znD (a b:Str):decide ((Sum.inr a:Key)=Sum.inr b)=decide (a=b):=by
 by_cases e:a=b
 ·subst e;simp
 ·have h:¬(Sum.inr a:Key)=Sum.inr b:=fun q=>e (Sum.inr.inj q)
  rw[decide_eq_false h,decide_eq_false e]
theorem znE (a:Int)(b:Str):decide ((Sum.inl a:Key)=Sum.inr b)=false:=decide_eq_false (fun q=>nomatch q)
theorem znF (a:Str)(b:Int):decide ((Sum.inr a:Key)=Sum.inl b)=false:=decide_eq_false (fun q=>nomatch q)
def yS (prog:Program)(w:World):PySem.KeyKind prog w Key where
 is:=zbq
 hash:=zrn w
 inj:=fun v a b ha hb=>by
  rcases wC ha with ⟨i,t,rfl,rfl⟩ | ⟨x,t,rfl,rfl⟩
  ·rcases wC hb with ⟨j,u,rfl,e⟩ | ⟨y,u,rfl,e⟩
   ·injection e with e1 _;rw[e1]
   ·exact nomatch e
  ·rcases wC hb with ⟨j,u,rfl,e⟩ | ⟨y,u,rfl,e⟩
   ·exact nomatch e
   ·injection e with e1 _;rw[e1]
 byValue:=fun k v h=>by
  rcases wC h with ⟨i,t,rfl,rfl⟩ | ⟨x,t,rfl,rfl⟩<;>rfl
 pyHash:=fun hv h=>by
  rcases wC hv with ⟨i,t,rfl,rfl⟩ | ⟨x,t,rfl,rfl⟩
  ·exact wpAny_pyHash_int h
  ·exact wpAny_pyHash_str h
 eqBool:=fun hu hv h=>by
  rcases wC hu with ⟨i,t,rfl,rfl⟩ | ⟨x,t,rfl,rfl⟩
  ·rcases wC hv with ⟨j,u,rfl,rfl⟩ | ⟨y,u,rfl,rfl⟩
   ·rw[znC] at h;exact wpAny_eqBool_int h
   ·rw[znE] at h;exact SeqAt.EqAt.int_str i t y u _ _ _ _ h
  ·rcases wC hv with ⟨j,u,rfl,rfl⟩ | ⟨y,u,rfl,rfl⟩
   ·rw[znF] at h;exact SeqAt.EqAt.str_int x t j u _ _ _ _ h
   ·rw[znD] at h;exact wpAny_eqBool_str h
 «strs»:=fun k x t v h=>by
  rcases wC h with ⟨i,u,rfl,e⟩ | ⟨y,u,rfl,e⟩
  ·exact nomatch e
  ·injection e with e1 _
   subst e1
   cases v<;>rfl
theorem zgL (prog:Program)(w:World)(k:Key)(v:Value):(yS prog w).is k v=zbq k v:=rfl
theorem zfb (prog:Program)(w:World)(i:Int)(t:Tok):(yS prog w).is (.inl i) (.int i t)=true:=ziO i t
theorem zfc (prog:Program)(w:World)(x:Str)(t:Tok):(yS prog w).is (.inr x) (.str x t)=true:=ziP x t
inductive V where
 | non | bl (b:Bool) | int (i:Int) | str (x:Str) | byt (b:Array UInt8) | flt (b:UInt64) | ref (a:Addr) | ty (n:String)
 deriving DecidableEq
def RelV:V->Value->Prop
 | .non,u=>u=Value.none
 | .bl b,u=>u=Value.bool b
 | .int i,u=>∃t,u=Value.int i t
 | .str x,u=>∃t,u=Value.str x t
 | .byt b,u=>∃t,u=Value.bytes b t
 | .flt b,u=>∃t,u=Value.float b t
 | .ref a,u=>u=Value.ref a
 | .ty n,u=>u=Value.type n
abbrev Vals:List V->List Value->Prop:=Paired RelV
theorem Vals.length {xs:List V}{us:List Value}(r:Vals xs us):xs.length=us.length:=Paired.length r
theorem Vals.get:∀{xs:List V} {us:List Value} {i:Nat} {x:V},Vals xs us->xs[i]?=some x->∃u,us[i]?=some u/\RelV x u
 | _,_,_,_,.nil,e=>by simp at e
 | _,_,0,_,.cons r _,e=>by simp at e;subst e;exact⟨_,rfl,r⟩
 | _,_,i+1,x,.cons _ t,e=>by
  obtain⟨u,h1,h2⟩:=Vals.get (i:=i) (x:=x) t (by simpa using e)
  exact⟨u,by simpa using h1,h2⟩
theorem Vals.append:∀{xs ys:List V} {us ws:List Value},Vals xs us->Vals ys ws->Vals (xs++ys) (us++ws)
 | _,_,_,_,.nil,s=>s
 | _,_,_,_,.cons r t,s=>.cons r (Vals.append t s)
theorem Vals.take:∀{xs:List V} {us:List Value} (n:Nat),Vals xs us->Vals (xs.take n) (us.take n)
 | _,_,0,_=>.nil
 | _,_,_+1,.nil=>.nil
 | _,_,n+1,.cons r t=>.cons r (Vals.take n t)
theorem Vals.drop:∀{xs:List V} {us:List Value} (n:Nat),Vals xs us->Vals (xs.drop n) (us.drop n)
 | _,_,0,r=>r
 | _,_,_+1,.nil=>.nil
 | _,_,n+1,.cons _ t=>Vals.drop n t
def PL:Option V->Option Value->Prop
 | some v,some u=>RelV v u
 | none,none=>True
 | _,_=>False
def KV {κ:Type}:List (κ×V)->List (κ×Value)->Prop:=Paired fun(p:κ×V) (q:κ×Value)=>p.1=q.1/\RelV p.2 q.2
def kV:Key->V
 | .inl i=>.int i
 | .inr x=>.str x
inductive HO where
 | lst (xs:List V)
 | tup (xs:List V)
 | dK (kvs:List (Key×V)) | dT (kvs:List (List Key×V))
 | set (S:Int->Bool) (n:Nat)
 | ins (C dx:Addr) (fs:List (Str×V))
 | own (x:Addr)
 | xd (fs:List (Str×V))
 | met (f x:Addr)
 | rng (lo hi:Int)
 | frz (o:Obj) (u:HO)
 | tbl (ps:Array Value)
 | ext (φ:Heap->Prop)
abbrev Hp:=Addr->Option HO
def upd (H:Hp)(a:Addr)(o:HO):Hp:=fun b=>if b=a then some o else H b
theorem zu {H:Hp}{a:Addr}{o:HO}:upd H a o a=some o:=by unfold upd;rw[if_pos rfl]
theorem zJ {H:Hp}{a b:Addr}{o:HO}(h:b≠a):upd H a o b=H b:=by unfold upd;rw[if_neg h]
theorem zlC {H:Hp}{a:Addr}{o u:HO}:upd (upd H a o) a u=upd H a u:=by
 funext b;unfold upd;split<;>rfl
theorem Vv {H:Hp}{a b:Addr}{o u:HO}(h:H a=some o)(h':H b=some u)(d:o≠u):a≠b:=by
 intro e;subst e;rw[h] at h';exact d (zv4 h')
theorem zF {H:Hp}{a b:Addr}{o:HO}(h:H a=some o)(h':H b=none):a≠b:=by
 intro e;subst e;rw[h] at h';cases h'
section
variable (P:Program)(w:World)
def wF (H:Hp)(h:Heap)(a:Addr):HO->Prop
 | .lst xs=>xs.length<=sizeLine/\∃(its:List Value) (n:Nat),Vals xs its/\h.get? a=some { cls:=.type "list", data:=.seq its.toArray n }
 | .tup xs=>xs.length<=sizeLine/\∃its:List Value,Vals xs its/\IsTup h a its.toArray
 | .dK kvs=>kvs.length<=sizeLine/\(a==sysModules)=false/\∃vs,KV kvs vs/\h.DictOf (yS P w) a vs
 | .dT kvs=>kvs.length<=sizeLine/\(a==sysModules)=false/\∃xs:List (List Key×Addr×Value),
   Paired (fun(p:List Key×V) (q:List Key×Addr×Value)=>p.1=q.1/\H q.2.1=some (.tup (p.1.map kV))/\RelV p.2 q.2.2) kvs xs /\
   ∃o es ep,h.get? a=some o/\o.ExactDict/\o.data=.dict es ep/\es.toList=xs.map (entryOfKey (tupleKind (yS P w)))/\(xs.map (·.1)).Nodup
 | .set S n=>h.SetOf (intKind P w) a S n
 | .ins C dx fs=>H dx=some (.own a)/\fs.length<=1000/\dx≠a/\h.get? a=some (PySem.W.instObj C dx) /\
   ∃mA,h.Ns1 dx mA/\(∀f,PL (fs.lookup f) (mA f))/\PySem.Within mA (fs.map (·.1))
 | .own _=>∃o,h.get? a=some o
 | .xd fs=>∃mA,h.Ns1 a mA/\∀f,PL (fs.lookup f) (mA f)
 | .rng lo hi=>∃t u v,h.get? a=some { cls:=.type "range", data:=.fields #[.int lo t,.int hi u,.int 1 v] }
 | .frz o u=>h.get? a=some o/\wF H h a u
 | .tbl ps=>h.get? a=some { cls:=.none,data:=.fields ps }
 | .met f x=>h.get? a=some (PySem.W.methodObj (.ref f) (.ref x))
 | .ext φ=>φ h/\(∃o,h.get? a=some o)/\∀h1 h2:Heap,φ h1->(∀o,h1.get? a=some o->h2.get? a=some o)->φ h2
def Rv (H:Hp)(h:Heap):Prop:=∀a o,H a=some o->wF P w H h a o
end
section
variable {P:Program}{w:World}{H H':Hp}{h h':Heap}{a:Addr}{o:HO}
theorem wF.lt (x:wF P w H h a o):a<h.objs.size:=by
 cases o with
 | lst xs=>obtain⟨_,_,_,_,e⟩:=x;exact zvH e
 | tup xs=>obtain⟨_,_,_,p⟩:=x;exact p.lt
 | dK kvs=>obtain⟨_,_,_,_,o,_,_,e,_⟩:=x;exact zvH e
 | dT kvs=>obtain⟨_,_,_,_,o,_,_,e,_⟩:=x;exact zvH e
 | set S n=>obtain⟨o,_,_,_,e,_⟩:=x;exact zvH e
 | ins C dx fs=>obtain⟨_,_,_,e,_⟩:=x;exact zvH e
 | own y=>obtain⟨_,e⟩:=x;exact zvH e
 | xd fs=>obtain⟨_,⟨_,_,_,e,_⟩,_⟩:=x;exact zvH e
 | rng lo hi=>obtain⟨_,_,_,e⟩:=x;exact zvH e
 | frz ob u=>obtain⟨e,_⟩:=x;exact zvH e
 | tbl ps=>exact zvH (show h.get? a=some _ from x)
 | met f y=>exact zvH (show h.get? a=some _ from x)
 | ext φ=>obtain⟨_,⟨_,e⟩,_⟩:=x;exact zvH e
theorem Paired.znG {α β:Type}{F G:α->β->Prop}:∀{l₁:List α} {l₂:List β},Paired F l₁ l₂->(∀a b,F a b->G a b)->Paired G l₁ l₂
 | _,_,.nil,_=>.nil
 | _,_,.cons r t,f=>.cons (f _ _ r) (Paired.znG t f)
theorem wF.stay (x:wF P w H h a o)(k:∀b u,(b=a\/H b=some (.own a))->h.get? b=some u->h'.get? b=some u)
  (ho:∀b,H b=some (.own a)->H' b=some (.own a))(ht:∀b xs,H b=some (.tup xs)->H' b=some (.tup xs)):wF P w H' h' a o:=by
 induction o with
 | lst xs=>obtain⟨z,its,n,r,e⟩:=x;exact⟨z,its,n,r,k _ _ (.inl rfl) e⟩
 | tup xs=>obtain⟨z,its,r,ob,e,c⟩:=x;exact⟨z,its,r,ob,k _ _ (.inl rfl) e,c⟩
 | dK kvs=>obtain⟨z,y,vs,r,ob,es,ep,e,c⟩:=x;exact⟨z,y,vs,r,ob,es,ep,k _ _ (.inl rfl) e,c⟩
 | dT kvs =>
  obtain⟨z,y,xs,r,ob,es,ep,e,c⟩:=x
  exact⟨z,y,xs,Paired.znG r fun p q z=>⟨z.1,ht _ _ z.2.1,z.2.2⟩,ob,es,ep,k _ _ (.inl rfl) e,c⟩
 | set S n=>obtain⟨ob,es,ep,t,e,c⟩:=x;exact⟨ob,es,ep,t,k _ _ (.inl rfl) e,c⟩
 | ins C dx fs =>
  obtain⟨d,z,ne,e,mA,⟨od,es,ep,e2,c⟩,r⟩:=x
  exact⟨ho _ d,z,ne,k _ _ (.inl rfl) e,mA,⟨od,es,ep,k _ _ (.inr d) e2,c⟩,r⟩
 | own y=>obtain⟨ob,e⟩:=x;exact⟨ob,k _ _ (.inl rfl) e⟩
 | xd fs=>obtain⟨mA,⟨od,es,ep,e,c⟩,r⟩:=x;exact⟨mA,⟨od,es,ep,k _ _ (.inl rfl) e,c⟩,r⟩
 | rng lo hi=>obtain⟨t,u,v,e⟩:=x;exact⟨t,u,v,k _ _ (.inl rfl) e⟩
 | frz ob u ih=>obtain⟨e,q⟩:=x;exact⟨k _ _ (.inl rfl) e,ih q⟩
 | tbl ps =>
  have e:h.get? a=some { cls:=.none,data:=.fields ps }:=x
  show h'.get? a=some { cls:=.none,data:=.fields ps }
  exact k a _ (.inl rfl) e
 | met f y =>
  have e:h.get? a=some (PySem.W.methodObj (.ref f) (.ref y)):=x
  show h'.get? a=some (PySem.W.methodObj (.ref f) (.ref y))
  exact k a _ (.inl rfl) e
 | ext φ=>obtain⟨p,⟨o,e⟩,st⟩:=x;exact⟨st _ _ p fun o q=>k _ _ (.inl rfl) q,⟨o,k _ _ (.inl rfl) e⟩,st⟩
theorem Rv.lt (x:Rv P w H h)(e:H a=some o):a<h.objs.size:=(x a o e).lt
theorem Rv.fresh (x:Rv P w H h)(e:h.objs.size<=a):H a=none:=by
 cases q:H a with
 | none=>rfl
 | some u=>exact absurd (zvJ (x.lt q) e) (Nat.lt_irrefl _)
theorem Rv.kept (x:Rv P w H h)(k:∀b u,h.get? b=some u->h'.get? b=some u):Rv P w H h':=fun a o e =>
 (x a o e).stay (fun b u _ q=>k b u q) (fun _ q=>q) fun _ _ q=>q
theorem Rv.laid (x:Rv P w H h)(k:∀b u,h.get? b=some u->h'.get? b=some u)(hp:h.objs.size<=a)(new:wF P w (upd H a o) h' a o):Rv P w (upd H a o) h':=fun b u e=>by
 have hn:=x.fresh hp
 by_cases hb:b=a
 ·subst hb;rw[zu] at e;cases e;exact new
 ·rw[zJ hb] at e
  exact(x b u e).stay (fun c v _ q=>k c v q) (fun c q=>by rw[zJ (zF q hn)];exact q) fun c xs q=>by rw[zJ (zF q hn)];exact q
end
def Rd (H:Hp)(a:Addr)(u:HO):Prop:=H a=some u\/∃o,H a=some (.frz o u)
theorem Rd.ok {P:Program}{w:World}{H:Hp}{h:Heap}{a:Addr}{u:HO}(r:Rd H a u)(x:Rv P w H h):wF P w H h a u:=by
 rcases r with r | ⟨o,r⟩
 ·exact x a u r
 ·obtain⟨_,q⟩:=x a _ r
  exact q
def Mut:Option HO->Prop
 | some (.lst _)=>True
 | some (.dK _)=>True
 | some (.dT _)=>True
 | some (.set _ _)=>True
 | some (.ins _ _ _)=>True
 | some (.ext _)=>True
 | _=>False
section
variable {P:Program}{w:World}{H:Hp}{h h':Heap}{x e:Addr}{o':HO}
theorem Rv.write (ok:Rv P w H h)(mu:Mut (H x))(he:e=x\/H e=some (.own x))(k:∀b u,b≠e->h.get? b=some u->h'.get? b=some u)(heo:∃u,h'.get? e=some u)
  (new:wF P w (upd H x o') h' x o'):Rv P w (upd H x o') h':=fun b u q=>by
 have zpb:∀c y,H c=some (.own y)->c≠x:=fun c y r z=>by subst z;rw[r] at mu;exact mu
 have zro:∀c xs,H c=some (.tup xs)->c≠x:=fun c xs r z=>by subst z;rw[r] at mu;exact mu
 by_cases hb:b=x
 ·subst hb;rw[zu] at q;cases q;exact new
 ·rw[zJ hb] at q
  by_cases hbe:b=e
  ·have q':H b=some (.own x):=by
    rcases he with z | z
    ·exact absurd (hbe.trans z) hb
    ·rw[hbe];exact z
   rw[q] at q';cases q'
   obtain⟨v,hv⟩:=heo
   exact⟨v,by rw[hbe];exact hv⟩
  ·refine(ok b u q).stay (fun c v hc r=>k c v ?_ r) (fun c r=>by rw[zJ (zpb c b r)];exact r) fun c xs r=>by rw[zJ (zro c xs r)];exact r
   rcases hc with rfl | hc
   ·exact hbe
   ·rintro rfl
    rcases he with z | z
    ·exact zpb c b hc z
    ·rw[hc] at z;cases z;exact hb rfl
end
structure Un (fs ex:List Addr)(H H':Hp)(h h':Heap):Prop where
 keep:∀b o,h.get? b=some o->H b=none->b∉fs->b∉ex->h'.get? b=some o
 slot:∀b o,h.get? b=some o->H b=none->b∈fs->b∉ex->∃sl,h'.get? b=some { o with slots:=sl }
 free:∀b o,h.get? b=some o->H b=none->b∉ex->H' b=none
 there:∀b o,h.get? b=some o->b∉ex->∃o',h'.get? b=some o'
 tups:∀b xs,H b=some (.tup xs)->H' b=some (.tup xs)
 Le:∀b o u,H b=some (.frz o u)->H' b=some (.frz o u)
 Jq:∀b ps,H b=some (.tbl ps)->∃more,H' b=some (.tbl (ps++more))
section
variable {fs fs' ex ex':List Addr}{H H1 H2:Hp}{h h1 h2 h':Heap}{a x e:Addr}{o:HO}
theorem Un.any (u:Un fs ex H H1 h h1){b:Addr}{ob:Obj}(q:h.get? b=some ob)(n:H b=none)(hx:b∉ex):∃sl,h1.get? b=some { ob with slots:=sl }:=by
 by_cases hb:b∈fs
 ·exact u.slot b ob q n hb hx
 ·exact⟨ob.slots,u.keep b ob q n hb hx⟩
theorem Un.kept (k:∀b u,h.get? b=some u->h'.get? b=some u):Un fs ex H H h h' :=
 ⟨fun b ob q _ _ _=>k b ob q,fun b ob q _ _ _=>⟨ob.slots,k b ob q⟩,fun _ _ _ n _=>n,fun b ob q _=>⟨ob,k b ob q⟩,fun _ _ q=>q,fun _ _ _ q=>q,fun _ ps q=>⟨#[],by rw[q];simp⟩⟩
theorem Un.refl:Un fs ex H H h h:=Un.kept fun _ _ q=>q
theorem Un.laid (k:∀b u,h.get? b=some u->h'.get? b=some u)(hp:h.objs.size<=a)(hn:H a=none):Un fs ex H (upd H a o) h h' where
 keep:=fun b u q _ _ _=>k b u q
 slot:=fun b u q _ _ _=>⟨u.slots,k b u q⟩
 free:=fun b u q n _=>by rw[zJ (zvP (zvJ (zvH q) hp))];exact n
 there:=fun b u q _=>⟨u,k b u q⟩
 tups:=fun b xs q=>by rw[zJ (zF q hn)];exact q
 Le:=fun b u xs q=>by rw[zJ (zF q hn)];exact q
 Jq:=fun b ps q=>⟨#[],by rw[zJ (zF q hn),q];simp⟩
theorem Un.write (mu:Mut (H x))(he:e=x\/H e=some (.own x))(k:∀b u,b≠e->h.get? b=some u->h'.get? b=some u)(heo:∃u,h'.get? e=some u):Un fs ex H (upd H x o) h h':=by
 have hx:∀b,H b=none->b≠x:=fun b n z=>by subst z;rw[n] at mu;exact mu
 have hb:∀b,H b=none->b≠e:=fun b n z=>by
  subst z
  rcases he with r | r
  ·exact hx b n r
  ·rw[n] at r;cases r
 have hm:∀b u,H b=some u->¬Mut (some u)->b≠x:=fun b u q nm z=>by subst z;rw[q] at mu;exact nm mu
 refine⟨fun b u q n _ _=>k b u (hb b n) q,fun b u q n _ _=>⟨u.slots,k b u (hb b n) q⟩,fun b u q n _=>by rw[zJ (hx b n)];exact n,fun b u q _=>?_,
  fun b xs q=>by rw[zJ (hm b _ q fun z=>z)];exact q,fun b u xs q=>by rw[zJ (hm b _ q fun z=>z)];exact q,fun b ps q=>⟨#[],by rw[zJ (hm b _ q fun z=>z),q];simp⟩⟩
 by_cases hbe:b=e
 ·subst hbe;exact heo
 ·exact⟨u,k b u hbe q⟩
end
def trk (h:Heap)(H:Hp):List Addr:=(List.range h.objs.size).filter fun a=>(H a).isSome
def zd1 (h:Heap)(H:Hp):Heap:=PySem.W.hideAll h (trk h H)
theorem ziQ (h:Heap)(H:Hp):(zd1 h H).objs.size=h.objs.size:=PySem.W.hideAll_size _ _
theorem zjW {h:Heap}{H:Hp}{b:Addr}{o:Obj}(e:h.get? b=some o)(n:H b=none):(zd1 h H).get? b=some o :=
 PySem.W.hideAll_get _ e fun hm=>by
  have q:(H b).isSome=true:=(List.mem_filter.mp hm).2
  rw[n] at q;simp at q
theorem zlE {h:Heap}{H:Hp}{b:Addr}{o:Obj}(e:(zd1 h H).get? b=some o):h.get? b=some o/\H b=none:=by
 have e':h.get? b=some o:=PySem.W.of_hideAll (trk h H) e
 refine⟨e',?_⟩
 cases q:H b with
 | none=>rfl
 | some x =>
  have hm:b∈trk h H:=List.mem_filter.mpr ⟨List.mem_range.mpr (zvH e'),by simp[q]⟩
  have z:(zd1 h H).get? b=none:=PySem.W.hideAll_none (trk h H) hm
  rw[z] at e;cases e
structure Mod (K:Frag)(mg:Str->Option Value)(base:Heap):Prop where
 kin:K.In base
 glob:base.Ns mainGlobals mg
 blt:∃mb,base.Ns builtinsNs mb/\∀x:Str,x ≠ "__name__" -> mb x=bootBuiltins x
 nolimit:base.NoLimit
structure Cx where
 prog:Program
 w:World
 K:Frag
 mg:Str->Option Value
 base:Heap
 A:Around
 N:List Str
 s₀:Shared
 H₀:Hp
 env:Env
 outer:List Env
 stack:List Env
 ex:List Addr
 fn:Str->Bool
 calm:Bool
 pn:List (Addr×Obj)
 xe:Value->Shared->Prop
def frs (l:List Env):List Addr:=l.filterMap (·.frame)
abbrev Cx.fs (X:Cx):List Addr:=frs X.outer
def Vis (sc:Scope)(x:Str):Prop:=sc.names.lookup x=some .local\/sc.names.lookup x=some .cell\/sc.names.lookup x=some .free
def Loc (sc:Scope)(x:Str):Prop:=sc.names.lookup x=some .local\/sc.names.lookup x=some .cell
def Look (env:Env)(h:Heap)(m:Str->Option Value)(x:Str)(u:Value):Prop :=
 (env.kindOf x=some .local/\m x=some u)\/((env.kindOf x=some .cell\/env.kindOf x=some .free)/\∃c,env.cells.lookup x=some c/\h.IsCell c (some u))
structure Cx.Ok (X:Cx):Prop where
 mod:Mod X.K X.mg X.base
 kind:X.env.scope.kind=.function
 glob:X.env.globals=mainGlobals
 blt:X.env.builtins=builtinsNs
 above:X.s₀.heap.objs.size<=X.env.locals
 inj:∀x y c,X.env.cells.lookup x=some c->X.env.cells.lookup y=some c->x=y
 has:∀x,(X.env.kindOf x=some .cell\/X.env.kindOf x=some .free)->∃c,X.env.cells.lookup x=some c
 cab:∀x c,X.fn x=true->X.env.cells.lookup x=some c->X.s₀.heap.objs.size<=c
 hd:X.calm=true->X.A.handled=none
 frames:X.A.frames=some X.stack
 stk:X.stack=X.outer\/(X.stack=X.env::X.outer/\X.env.frame=some X.env.locals)
 exf:∀b∈X.ex,b≠X.env.locals/\∀x c,X.env.cells.lookup x=some c->c≠b
 bs:∀b o,X.base.get? b=some o->X.s₀.heap.get? b=some o/\X.H₀ b=none
 bsz:X.base.objs.size<=X.s₀.heap.objs.size
 zfd:∀b o,X.base.get? b=some o->b∉X.ex
 zfe:∀b∈X.ex,b∉X.fs
 PN:X.s₀.heap.FunFrames X.base X.outer
 frf:∀b∈X.fs,X.H₀ b=none
structure Inv (X:Cx)(pins:List (Addr×Obj))(σ:List (Option V))(H:Hp)(s:Shared):Prop where
 ok:X.Ok
 os:s.os=X.s₀.os
 bare:AllBare s.gens
 base:Un X.fs X.ex X.H₀ H X.s₀.heap s.heap
 loc:∃m,s.heap.Ns X.env.locals m/\∀(i:Nat) (x:Str) (v:V),X.N[i]?=some x->σ[i]?=some (some v)->Vis X.env.scope x->∃u,RelV v u/\Look X.env s.heap m x u
 cell:∀x c,X.env.cells.lookup x=some c->∃v,s.heap.IsCell c v
 free:H X.env.locals=none
 Xq:∀x c,X.env.cells.lookup x=some c->H c=none
 pin:∀p∈X.pn++pins,s.heap.get? p.1=some p.2/\H p.1=none/\p.1≠X.env.locals/\p.1∉X.fs/\∀v,p.2.data≠.cell v
 hok:Rv X.prog X.w H s.heap
 len:σ.length=X.N.length
section
variable {X:Cx}{pins:List (Addr×Obj)}{σ:List (Option V)}{H H':Hp}{s:Shared}{h':Heap}
theorem Cx.Ok.zrp (ok:X.Ok){b:Addr}{o:Obj}(e:X.base.get? b=some o):b∉X.fs:=fun hb=>by
 have:=(ok.PN.mem hb).1
 rw[e] at this;cases this
theorem Inv.bs (I:Inv X pins σ H s):∀b o,X.base.get? b=some o->s.heap.get? b=some o/\H b=none:=fun b o e =>
 ⟨I.base.keep b o (I.ok.bs b o e).1 (I.ok.bs b o e).2 (I.ok.zrp e) (I.ok.zfd b o e),I.base.free b o (I.ok.bs b o e).1 (I.ok.bs b o e).2 (I.ok.zfd b o e)⟩
theorem Inv.bk (I:Inv X pins σ H s):∀b o,X.base.get? b=some o->s.heap.get? b=some o:=fun b o e=>(I.bs b o e).1
theorem Inv.mod (I:Inv X pins σ H s):Mod X.K X.mg X.base:=I.ok.mod
theorem Inv.PX (I:Inv X pins σ H s):X.K.In s.heap:=I.ok.mod.kin.keeps I.bk
theorem Inv.lt (I:Inv X pins σ H s):X.env.locals<s.heap.objs.size:=let ⟨_,hn,_⟩:=I.loc;hn.lt
theorem Inv.sz (I:Inv X pins σ H s):X.s₀.heap.objs.size<=s.heap.objs.size:=zvV I.ok.above (zvS I.lt)
theorem Inv.znI (I:Inv X pins σ H s){a:Addr}(h:s.heap.objs.size<=a):a∉X.fs:=fun hb=>by
 obtain⟨_,o,ho,_⟩:=I.ok.PN.mem hb
 exact absurd (zvJ (zvH ho) (zvV I.sz h)) (Nat.lt_irrefl _)
theorem Inv.cne (I:Inv X pins σ H s):∀x c,X.env.cells.lookup x=some c->c≠X.env.locals:=fun x c e z=>by
 obtain⟨v,o,ho,hd⟩:=I.cell x c e
 obtain⟨m,⟨o',es,ep,ho',hd',_⟩,_⟩:=I.loc
 rw[z,ho'] at ho;cases ho;rw[hd'] at hd;cases hd
theorem Inv.PN (I:Inv X pins σ H s):s.heap.FunFrames X.base X.outer:=by
 have all:∀(l:List Env),(∀b∈frs l,b∈X.fs)->X.s₀.heap.FunFrames X.base l->s.heap.FunFrames X.base l:=by
  intro l
  induction l with
  | nil=>intro _ _;trivial
  | cons env r ih =>
   intro hs hl
   obtain⟨hk,⟨L,o,hf,hn,ho,hd⟩,hr⟩:=hl
   have hL:L∈X.fs:=hs L (by unfold frs;rw[List.filterMap_cons,hf];exact zvT)
   obtain⟨sl,e⟩:=I.base.slot L o ho (I.ok.frf L hL) hL fun z=>I.ok.zfe L z hL
   exact⟨hk,⟨L,_,hf,hn,e,hd⟩,ih (fun b hb=>hs b (by unfold frs;rw[List.filterMap_cons,hf];exact zvL _ hb)) hr⟩
 exact all X.outer (fun _ hb=>hb) I.ok.PN
theorem Inv.stack (I:Inv X pins σ H s):s.heap.FunFrames X.base X.stack:=by
 rcases I.ok.stk with e | ⟨e,hf⟩
 ·rw[e];exact I.PN
 ·rw[e]
  obtain⟨m,hn,_⟩:=I.loc
  refine .cons (by rw[I.ok.kind];decide) hf hn ?_ I.PN
  exact Heap.get?_none_of_le (zvV I.ok.bsz I.ok.above)
theorem Inv.zbr (I:Inv X pins σ H s):∀b∈frs X.stack,b∈X.env.locals::X.fs:=fun b hb=>by
 rcases I.ok.stk with e | ⟨e,hf⟩
 ·rw[e] at hb;exact zvL _ hb
 ·rw[e] at hb
  unfold frs at hb
  rw[List.filterMap_cons,hf] at hb
  exact hb
theorem Inv.za7 (I:Inv X pins σ H s):∀b∈frs X.stack,H b=none:=fun b hb=>by
 rcases List.mem_cons.mp (I.zbr b hb) with e | hb
 ·rw[e];exact I.free
 ·obtain⟨_,o,ho,_⟩:=I.ok.PN.mem hb
  exact I.base.free b o ho (I.ok.frf b hb) fun z=>I.ok.zfe b z hb
theorem Inv.step {g':Array GenState}{t':Nat}{d':Drawn}{ch:List Addr}(I:Inv X pins σ H s)
  (hch:∀b∈ch,(b∈X.ex\/X.s₀.heap.objs.size<=b)/\b≠X.env.locals/\(∀x c,X.env.cells.lookup x=some c->c≠b)/\∀p∈X.pn++pins,p.1≠b)
  (keep:∀b o,b≠X.env.locals->b∉X.fs->b∉ch->s.heap.get? b=some o->H b=none->h'.get? b=some o)
  (slot:∀b o,b≠X.env.locals->b∈X.fs->b∉ch->s.heap.get? b=some o->H b=none->∃sl,h'.get? b=some { o with slots:=sl })(free:∀b o,b∉ch->s.heap.get? b=some o->H b=none->H' b=none)
  (there:∀b o,b∉ch->s.heap.get? b=some o->∃o',h'.get? b=some o')
  (tups:∀b xs,H b=some (.tup xs)->H' b=some (.tup xs))(Le:∀b o u,H b=some (.frz o u)->H' b=some (.frz o u))(Jq:∀b ps,H b=some (.tbl ps)->∃more,H' b=some (.tbl (ps++more)))
  (ns:∀m,s.heap.Ns X.env.locals m->h'.Ns X.env.locals m)(hok:Rv X.prog X.w H' h')(hg:AllBare g') :
  Inv X pins σ H' { s with heap:=h',gens:=g',drawn:=d',toks:=t' }:=by
 have neL:∀b o,X.s₀.heap.get? b=some o->b≠X.env.locals:=fun b o e=>zvP (zvJ (zvH e) I.ok.above)
 have neC:∀b o,X.s₀.heap.get? b=some o->b∉X.ex->b∉ch:=fun b o e hx hb=>by
  rcases (hch b hb).1 with z | z
  ·exact hx z
  ·exact absurd (zvJ (zvH e) z) (Nat.lt_irrefl _)
 have cellK:∀x c,X.env.cells.lookup x=some c->∀v,s.heap.IsCell c v->h'.IsCell c v:=fun x c e v ⟨o,ho,hd⟩=>by
  have nch:c∉ch:=fun z=>(hch c z).2.2.1 x c e rfl
  by_cases hc:c∈X.fs
  ·obtain⟨sl,q⟩:=slot c o (I.cne x c e) hc nch ho (I.Xq x c e)
   exact⟨_,q,hd⟩
  ·exact⟨o,keep c o (I.cne x c e) hc nch ho (I.Xq x c e),hd⟩
 refine⟨I.ok,I.os,hg,⟨fun b o e n hb hx=>?_,fun b o e n hb hx=>?_,fun b o e n hx=>?_,fun b o e hx=>?_,fun b xs e=>tups b xs (I.base.tups b xs e),fun b o xs e=>Le b o xs (I.base.Le b o xs e),fun b ps e=>?_⟩,?_,fun x c e=>?_,?_,fun x c e=>?_,fun p hp=>?_,hok,I.len⟩
 ·exact keep b o (neL b o e) hb (neC b o e hx) (I.base.keep b o e n hb hx) (I.base.free b o e n hx)
 ·obtain⟨sl,e1⟩:=I.base.slot b o e n hb hx
  obtain⟨sl',e2⟩:=slot b _ (neL b o e) hb (neC b o e hx) e1 (I.base.free b o e n hx)
  exact⟨sl',e2⟩
 ·obtain⟨o',e1⟩:=I.base.there b o e hx
  exact free b o' (neC b o e hx) e1 (I.base.free b o e n hx)
 ·obtain⟨o',e1⟩:=I.base.there b o e hx
  exact there b o' (neC b o e hx) e1
 ·obtain⟨m1,e1⟩:=I.base.Jq b ps e
  obtain⟨m2,e2⟩:=Jq b _ e1
  exact⟨m1++m2,by rw[e2,Array.append_assoc]⟩
 ·obtain⟨m,hn,hl⟩:=I.loc
  refine⟨m,ns m hn,fun i x v e1 e2 e3=>?_⟩
  obtain⟨u,r,l⟩:=hl i x v e1 e2 e3
  refine⟨u,r,?_⟩
  rcases l with l | ⟨k,c,e,z⟩
  ·exact .inl l
  ·exact .inr ⟨k,c,e,cellK x c e _ z⟩
 ·obtain⟨v,z⟩:=I.cell x c e
  exact⟨v,cellK x c e v z⟩
 ·obtain⟨m,⟨o,_,_,ho,_⟩,_⟩:=I.loc
  exact free _ o (fun z=>(hch _ z).2.1 rfl) ho I.free
 ·obtain⟨v,o,ho,hd⟩:=I.cell x c e
  exact free c o (fun z=>(hch c z).2.2.1 x c e rfl) ho (I.Xq x c e)
 ·obtain⟨e,n,ne,nf,d⟩:=I.pin p hp
  have nch:p.1∉ch:=fun z=>(hch p.1 z).2.2.2 p hp rfl
  exact⟨keep p.1 p.2 ne nf nch e n,free p.1 p.2 nch e n,ne,nf,d⟩
theorem Inv.un {t':Nat}(I:Inv X pins σ H s)(u:Un X.fs [] H H' s.heap h')(hok:Rv X.prog X.w H' h'):Inv X pins σ H' { s with heap:=h',toks:=t' }:=by
 obtain⟨m,⟨o,es,ep,ho,r⟩,_⟩:=id I.loc
 obtain⟨sl,hL⟩:=u.any ho I.free (by simp)
 exact I.step (g':=s.gens) (d':=s.drawn) (ch:=[]) (fun _ z=>nomatch z) (fun b o _ hb _ e n=>u.keep b o e n hb (by simp)) (fun b o _ hb _ e n=>u.slot b o e n hb (by simp)) (fun b o _ e n=>u.free b o e n (by simp)) (fun b o _ e=>u.there b o e (by simp)) u.tups u.Le u.Jq (fun m' hm=>by
  obtain⟨o',es',ep',ho',r'⟩:=hm
  rw[ho] at ho';cases ho'
  exact⟨_,es',ep',hL,r'⟩) hok I.bare
theorem Inv.call {g':Array GenState}{t':Nat}{d':Drawn}{ch:List Addr}(I:Inv X pins σ H s)(u:Un (frs X.stack) ch H H' s.heap h')(hok:Rv X.prog X.w H' h')(hg:AllBare g')
  (hch:∀b∈ch,(b∈X.ex\/X.s₀.heap.objs.size<=b)/\b≠X.env.locals/\(∀x c,X.env.cells.lookup x=some c->c≠b)/\∀p∈X.pn++pins,p.1≠b) :
  Inv X pins σ H' { s with heap:=h',gens:=g',drawn:=d',toks:=t' }:=by
 obtain⟨m,⟨o,es,ep,ho,r⟩,_⟩:=id I.loc
 obtain⟨sl,hL⟩:=u.any ho I.free fun z=>(hch _ z).2.1 rfl
 exact I.step (ch:=ch) hch (fun b o hL hb hc e n=>u.keep b o e n (fun z=>(List.mem_cons.mp (I.zbr b z)).elim hL hb) hc) (fun b o _ _ hc e n=>u.any e n hc) (fun b o hc e n=>u.free b o e n hc) (fun b o hc e=>u.there b o e hc) u.tups u.Le u.Jq (fun m' hm=>by
  obtain⟨o',es',ep',ho',r'⟩:=hm
  rw[ho] at ho';cases ho'
  exact⟨_,es',ep',hL,r'⟩) hok hg
theorem Inv.turned {t':Nat}{it:Addr}(I:Inv X pins σ H s)(k:∀b o,b≠it->s.heap.get? b=some o->h'.get? b=some o)(hn:H it=none)(hL:it≠X.env.locals)
  (h1:it∈X.ex\/X.s₀.heap.objs.size<=it)(h2:∀x c,X.env.cells.lookup x=some c->c≠it)(h3:∀p∈X.pn++pins,p.1≠it):Inv X pins σ H { s with heap:=h',toks:=t' }:=by
 have nit:∀b u,H b=some u->b≠it:=fun b u e z=>by rw[z,hn] at e;cases e
 refine I.step (g':=s.gens) (d':=s.drawn) (ch:=[it]) (fun b hb=>?_) (fun b o _ _ hc e _=>k b o (fun z=>hc (by simp[z])) e) (fun b o _ _ hc e _=>⟨o.slots,k b o (fun z=>hc (by simp[z])) e⟩) (fun _ _ _ _ n=>n)
  (fun b o hc e=>⟨o,k b o (fun z=>hc (by simp[z])) e⟩) (fun _ _ e=>e) (fun _ _ _ e=>e) (fun b ps e=>⟨#[],by rw[e];simp⟩) (fun m hm=>?_) (fun b u e=>?_) I.bare
 ·have e:b=it:=by simpa using hb
  subst e
  exact⟨h1,hL,h2,h3⟩
 ·obtain⟨o,es,ep,ho,r⟩:=hm
  exact⟨o,es,ep,k _ o (Ne.symm hL) ho,r⟩
 ·refine(I.hok b u e).stay (fun c v hc q=>k c v ?_ q) (fun _ q=>q) fun _ _ q=>q
  rcases hc with z | z
  ·rw[z];exact nit b u e
  ·exact nit c _ z
theorem Inv.tok (I:Inv X pins σ H s)(t:Nat):Inv X pins σ H { s with toks:=t }:=I.un (h':=s.heap) (t':=t) Un.refl I.hok
theorem Inv.kept {t':Nat}(I:Inv X pins σ H s)(k:∀b u,s.heap.get? b=some u->h'.get? b=some u):Inv X pins σ H { s with heap:=h',toks:=t' }:=I.un (Un.kept k) (I.hok.kept k)
theorem Inv.laid {a:Addr}{o:HO}{t':Nat}(I:Inv X pins σ H s)(k:∀b u,s.heap.get? b=some u->h'.get? b=some u)(hp:s.heap.objs.size<=a)(new:wF X.prog X.w (upd H a o) h' a o) :
  Inv X pins σ (upd H a o) { s with heap:=h',toks:=t' }:=I.un (Un.laid k hp (I.hok.fresh hp)) (I.hok.laid k hp new)
theorem Inv.write {x e:Addr}{o:HO}{t':Nat}(I:Inv X pins σ H s)(mu:Mut (H x))(he:e=x\/H e=some (.own x))(k:∀b u,b≠e->s.heap.get? b=some u->h'.get? b=some u)(heo:∃u,h'.get? e=some u)
  (new:wF X.prog X.w (upd H x o) h' x o):Inv X pins σ (upd H x o) { s with heap:=h',toks:=t' }:=I.un (Un.write mu he k heo) (I.hok.write mu he k heo new)
theorem Inv.TJ {pins':List (Addr×Obj)}(I:Inv X pins σ H s)(h:∀p∈pins',s.heap.get? p.1=some p.2/\H p.1=none/\p.1≠X.env.locals/\p.1∉X.fs/\∀v,p.2.data≠.cell v):Inv X pins' σ H s :=
 ⟨I.ok,I.os,I.bare,I.base,I.loc,I.cell,I.free,I.Xq,fun p hp=>(List.mem_append.mp hp).elim (fun z=>I.pin p (List.mem_append_left _ z)) (h p),I.hok,I.len⟩
theorem zbs {N:List Str}(hN:N.Nodup){i j:Nat}{x:Str}(a:N[i]?=some x)(b:N[j]?=some x):i=j:=by
 obtain⟨h1,e1⟩:=zvD.mp a
 obtain⟨h2,e2⟩:=zvD.mp b
 exact(List.getElem_inj hN).mp (e1.trans e2.symm)
theorem ziS {M:Model}{A:Around}{E:Value->Shared->Prop}{i:Nat}{x:Str}{v:V}{u:Value}{Q:Unit->Shared->Prop}(I:Inv X pins σ H s)(hN:X.N.Nodup)(hi:X.N[i]?=some x)(hx:Loc X.env.scope x)(r:RelV v u)
  (h:∀s',Inv X pins (σ.set i (some v)) H s'->(∃a,Heap.SameBut a s.heap s'.heap/\(a=X.env.locals\/X.env.cells.lookup x=some a))->Q () s')(hf:X.fn x=true\/X.env.scope.names.lookup x=some .local:=by first | exact .inl rfl | exact .inr rfl | assumption):wpAny M A (storeName X.env x u) Q E s:=by
 obtain⟨m,hn,hl⟩:=id I.loc
 have hcls:(X.env.scope.kind==.class||(X.env.scope.kind==.module&&X.env.locals != X.env.globals))=false:=by rw[I.ok.kind];rfl
 have hiσ:i < σ.length:=by rw[I.len];exact(zvD.mp hi).1
 have cne:=I.cne
 have tracked:∀{a:Addr} {h':Heap},(∃o,s.heap.get? a=some o/\H a=none)->Heap.SameBut a s.heap h'->Rv X.prog X.w H h':=fun {a h'} ha hs b ob e=>by
  obtain⟨_,_,hfree⟩:=ha
  refine(I.hok b ob e).stay (fun c w' hc q=>(hs.2 c ?_).trans q) (fun _ q=>q) fun _ _ q=>q
  rintro rfl
  rcases hc with rfl | hc
  ·rw[hfree] at e;cases e
  ·rw[hfree] at hc;cases hc
 rcases hx with hk | hk
 ·refine wpAny_storeName_local hk hn (fun h' hn' hs=>?_) hcls
  obtain⟨oL,_,_,hoL,_⟩:=id hn
  refine h _ ⟨I.ok,I.os,I.bare,⟨fun b o e n hb hx=>?_,fun b o e n hb hx=>?_,I.base.free,fun b o e hx=>?_,I.base.tups,I.base.Le,I.base.Jq⟩,⟨_,hn',fun j y v' e1 e2 e3=>?_⟩,fun y c e=>?_,I.free,I.Xq,fun p hp=>?_,tracked ⟨oL,hoL,I.free⟩ hs,by simpa using I.len⟩ ⟨_,hs,.inl rfl⟩
  ·exact(hs.2 b (zvP (zvJ (zvH e) I.ok.above))).trans (I.base.keep b o e n hb hx)
  ·obtain⟨sl,e1⟩:=I.base.slot b o e n hb hx
   exact⟨sl,(hs.2 b (zvP (zvJ (zvH e) I.ok.above))).trans e1⟩
  ·obtain⟨o',e1⟩:=I.base.there b o e hx
   exact⟨o',(hs.2 b (zvP (zvJ (zvH e) I.ok.above))).trans e1⟩
  ·by_cases hj:j=i
   ·subst hj
    rw[hi] at e1;cases e1
    rw[List.getElem?_set_self hiσ] at e2
    cases e2
    exact⟨u,r,.inl ⟨hk,by simp⟩⟩
   ·rw[List.getElem?_set_ne (Ne.symm hj)] at e2
    obtain⟨u',r',q⟩:=hl j y v' e1 e2 e3
    refine⟨u',r',?_⟩
    rcases q with ⟨k,e⟩ | ⟨k,c,e,z⟩
    ·refine .inl ⟨k,?_⟩
     have:y≠x:=fun e=>hj (zbs hN e1 (e ▸ hi))
     simp[this,e]
    ·exact .inr ⟨k,c,e,z.sameBut hs (cne y c e)⟩
  ·obtain⟨w',z⟩:=I.cell y c e
   exact⟨w',z.sameBut hs (cne y c e)⟩
  ·obtain⟨e,n,ne,nf,d⟩:=I.pin p hp
   exact⟨(hs.2 p.1 ne).trans e,n,ne,nf,d⟩
 ·have hfn:X.fn x=true:=by
   rcases hf with z | z
   ·exact z
   ·rw[z] at hk;cases hk
  obtain⟨c,hc⟩:=I.ok.has x (.inl hk)
  obtain⟨w',z⟩:=I.cell x c hc
  refine wpAny_storeName_cell I.ok.kind hk hc z (fun h' hc' hs=>?_)
  obtain⟨oc,hoc,zrq⟩:=id z
  refine h { s with heap:=h' } ⟨I.ok,I.os,I.bare,⟨fun b o e n hb hx=>?_,fun b o e n hb hx=>?_,I.base.free,fun b o e hx=>?_,I.base.tups,I.base.Le,I.base.Jq⟩,⟨m,hn.sameBut hs (Ne.symm (cne x c hc)),fun j y v' e1 e2 e3=>?_⟩,fun y c' e=>?_,I.free,I.Xq,fun p hp=>?_,tracked ⟨oc,hoc,I.Xq x c hc⟩ hs,by simpa using I.len⟩ ⟨c,hs,.inr hc⟩
  ·exact(hs.2 b (zvP (zvJ (zvH e) (I.ok.cab x c hfn hc)))).trans (I.base.keep b o e n hb hx)
  ·obtain⟨sl,e1⟩:=I.base.slot b o e n hb hx
   exact⟨sl,(hs.2 b (zvP (zvJ (zvH e) (I.ok.cab x c hfn hc)))).trans e1⟩
  ·obtain⟨o',e1⟩:=I.base.there b o e hx
   exact⟨o',(hs.2 b (zvP (zvJ (zvH e) (I.ok.cab x c hfn hc)))).trans e1⟩
  ·by_cases hj:j=i
   ·subst hj
    rw[hi] at e1;cases e1
    rw[List.getElem?_set_self hiσ] at e2
    cases e2
    exact⟨u,r,.inr ⟨.inl hk,c,hc,hc'⟩⟩
   ·rw[List.getElem?_set_ne (Ne.symm hj)] at e2
    obtain⟨u',r',q⟩:=hl j y v' e1 e2 e3
    refine⟨u',r',?_⟩
    rcases q with q | ⟨k,c',e,z'⟩
    ·exact .inl q
    ·refine .inr ⟨k,c',e,z'.sameBut hs ?_⟩
     rintro rfl
     exact hj (zbs hN e1 (I.ok.inj _ _ _ e hc ▸ hi))
  ·by_cases hcc:c'=c
   ·subst hcc;exact⟨_,hc'⟩
   ·obtain⟨w2,z2⟩:=I.cell y c' e
    exact⟨w2,z2.sameBut hs hcc⟩
  ·obtain⟨e,n,ne,nf,d⟩:=I.pin p hp
   refine⟨(hs.2 p.1 ?_).trans e,n,ne,nf,d⟩
   intro q
   rw[q,hoc] at e
   have q':oc=p.2:=zv4 e
   exact d w' (by rw[<-q'];exact zrq)
theorem WD {M:Model}{A:Around}{E:Value->Shared->Prop}{i:Nat}{x:Str}{v:V}{u:Value}{Q:Unit->Shared->Prop}(I:Inv X pins σ H s)(hN:X.N.Nodup)(hi:X.N[i]?=some x)(hx:Loc X.env.scope x)(r:RelV v u)
  (h:∀s',Inv X pins (σ.set i (some v)) H s'->Q () s')(hf:X.fn x=true\/X.env.scope.names.lookup x=some .local:=by first | exact .inl rfl | exact .inr rfl | assumption):wpAny M A (storeName X.env x u) Q E s :=
 ziS I hN hi hx r (fun s' I' _=>h s' I') hf
theorem Inv.call' {s':Shared}{ch:List Addr}(I:Inv X pins σ H s)(ho:s'.os=s.os)(u:Un (frs X.stack) ch H H' s.heap s'.heap)(hok:Rv X.prog X.w H' s'.heap)(hg:AllBare s'.gens)
  (hch:∀b∈ch,(b∈X.ex\/X.s₀.heap.objs.size<=b)/\b≠X.env.locals/\(∀x c,X.env.cells.lookup x=some c->c≠b)/\∀p∈X.pn++pins,p.1≠b):Inv X pins σ H' s':=by
 obtain⟨h',g',d',t',o'⟩:=s'
 have e:o'=s.os:=ho
 subst e
 exact I.call (g':=g') (t':=t') (d':=d') u hok hg hch
end
abbrev XK:=Value->Option Addr->Hp->Prop
abbrev St:=List (Option V)
abbrev VK:=V->Hp->Prop
abbrev TE:=St->Hp->VK->Prop
abbrev TT:=St->Hp->(Bool->Hp->Prop)->Prop
abbrev TA:=St->Hp->(List V->Hp->Prop)->Prop
structure Ends where
 nx:St->Hp->Prop
 rt:VK
 bk:St->Hp->Prop:=fun _ _=>False
 ct:St->Hp->Prop:=fun _ _=>False
abbrev TS:=Ends->St->Hp->Prop
def EP (X:Cx)(pins:List (Addr×Obj))(σ:St)(Q:VK)(u:Value)(s':Shared):Prop:=∃v H',Inv X pins σ H' s'/\RelV v u/\Q v H'
def TP (X:Cx)(pins:List (Addr×Obj))(σ:St)(Q:Bool->Hp->Prop)(b:Bool)(s':Shared):Prop:=∃H',Inv X pins σ H' s'/\Q b H'
def AP (X:Cx)(pins:List (Addr×Obj))(σ:St)(Q:List V->Hp->Prop)(us:List Value)(s':Shared):Prop:=∃vs H',Inv X pins σ H' s'/\Vals vs us/\Q vs H'
def SP (X:Cx)(pins:List (Addr×Obj))(D:Ends)(f:Flow)(s':Shared):Prop :=
 match f with
 | .next=>∃ σ' H',Inv X pins σ' H' s'/\D.nx σ' H'
 | .brk=>∃ σ' H',Inv X pins σ' H' s'/\D.bk σ' H'
 | .cont=>∃ σ' H',Inv X pins σ' H' s'/\D.ct σ' H'
 | .ret u=>∃v σ' H',Inv X pins σ' H' s'/\RelV v u/\D.rt v H'
def PE (X:Cx)(e:Expr)(t:TE):Prop :=
 ∀(pins:List (Addr×Obj)) (s:Shared) (σ:St) (H:Hp) (Q:VK),Inv X pins σ H s->t σ H Q->wpAny (model X.prog X.w) X.A (eval e X.env) (EP X pins σ Q) X.xe s
def PT (X:Cx)(e:Expr)(t:TT):Prop :=
 ∀(pins:List (Addr×Obj)) (s:Shared) (σ:St) (H:Hp) (Q:Bool->Hp->Prop),Inv X pins σ H s->t σ H Q->wpAny (model X.prog X.w) X.A (isTrue e X.env (eval e X.env)) (TP X pins σ Q) X.xe s
def PW (X:Cx)(e:Expr)(t:TT):Prop :=
 ∀(whole:Sem Value) (pins:List (Addr×Obj)) (s:Shared) (σ:St) (H:Hp) (Q:Bool->Hp->Prop),Inv X pins σ H s->t σ H Q->wpAny (model X.prog X.w) X.A (isTrue e X.env whole) (TP X pins σ Q) X.xe s
theorem PW.pt {X:Cx}{e:Expr}{t:TT}(h:PW X e t):PT X e t:=h _
def PA (X:Cx)(es:List Expr)(t:TA):Prop :=
 ∀(pos:Pos) (pins:List (Addr×Obj)) (s:Shared) (σ:St) (H:Hp) (Q:List V->Hp->Prop),Inv X pins σ H s->t σ H Q->wpAny (model X.prog X.w) X.A (spliced (backTo pos (starEach es X.env))) (AP X pins σ Q) X.xe s
def PS (X:Cx)(st:Stmt)(t:TS):Prop :=
 ∀(pins:List (Addr×Obj)) (s:Shared) (σ:St) (H:Hp) (D:Ends),Inv X pins σ H s->t D σ H->wpAny (model X.prog X.w) X.A (exec st X.env) (SP X pins D) X.xe s
def PSs (X:Cx)(st:List Stmt)(t:TS):Prop :=
 ∀(pins:List (Addr×Obj)) (s:Shared) (σ:St) (H:Hp) (D:Ends),Inv X pins σ H s->t D σ H->wpAny (model X.prog X.w) X.A (execs st X.env) (SP X pins D) X.xe s
theorem vo {α:Type}{t:Sem α}{Q Q':α->Shared->Prop}{M:Model}{A:Around}{E:Value->Shared->Prop}{s:Shared}(h:wpAny M A t Q E s)(hQ:∀a s,Q a s->Q' a s):wpAny M A t Q' E s:=wpAny_mono h hQ fun _ _ x=>x
section
variable {X:Cx}
theorem bin {a b:Expr}{ta tb:TE}(ha:PE X a ta)(hb:PE X b tb){pins:List (Addr×Obj)}{s:Shared}{σ:St}{H:Hp}{R:V->V->Hp->Prop}(I:Inv X pins σ H s)(h:ta σ H fun x H1=>tb σ H1 fun y H2=>R x y H2)
  {α:Type}{Q:α->Shared->Prop}{f:Value->Value->Sem α}
  (hf:∀v u s2 x y H2,Inv X pins σ H2 s2->RelV x v->RelV y u->R x y H2->wpAny (model X.prog X.w) X.A (f v u) Q X.xe s2) :
  wpAny (model X.prog X.w) X.A (eval a X.env) (fun v s₁=>wpAny (model X.prog X.w) X.A (eval b X.env) (fun u s₂=>wpAny (model X.prog X.w) X.A (f v u) Q X.xe s₂) X.xe s₁) X.xe s:=by
 refine vo (ha pins s σ H _ I h) fun v s1 ⟨x,H1,I1,r1,q1⟩=>?_
 refine vo (hb pins s1 σ H1 _ I1 q1) fun u s2 ⟨y,H2,I2,r2,q2⟩=>?_
 exact hf v u s2 x y H2 I2 r1 r2 q2
inductive Lf (i:Nat)(σ:St)(H:Hp)(Q:V->Hp->Prop):Prop
 | mk (v:V) (_:σ[i]?=some (some v)) (_:Q v H):Lf i σ H Q
def tC (v:V):TE:=fun _ H Q=>Q v H
theorem znJ {i:Nat}{x:Str}{pos:Pos}(hN:X.N[i]?=some x)(hv:Vis X.env.scope x)(hd:(x==("__debug__" : Str))=false:=by decide)(hcd:(x==("__classdict__" : Str))=false:=by decide):PE X (.Name x pos) (Lf i):=by
 intro pins s σ H Q I h
 obtain⟨v,e,h⟩:=h
 obtain⟨m,hn,hl⟩:=I.loc
 obtain⟨u,r,l⟩:=hl i x v hN e hv
 have fin:EP X pins σ Q u s:=⟨v,H,I,r,h⟩
 rcases l with ⟨hk,hm⟩ | ⟨hk,c,hc,hcell⟩
 ·exact wpAny_Name (wpAny_loadName_local I.ok.kind hk hn hm fin) hd
 ·rcases hk with hk | hk
  ·exact wpAny_Name (wpAny_loadName_cell I.ok.kind hk hc hcell fin) hd
  ·exact wpAny_Name (wpAny_loadName_free I.ok.kind hk hc hcell fin hcd) hd
theorem zq {i j pos}:PE X (.Constant (.int i) j pos) (tC (.int i)):=fun _ _ _ H _ I h=>wpAny_Constant_int ⟨.int i,H,I.tok _,⟨_,rfl⟩,h⟩
theorem RV {b j pos}:PE X (.Constant (.bool b) j pos) (tC (.bl b)):=fun _ _ _ H _ I h=>Constant_bool ⟨.bl b,H,I,rfl,h⟩
theorem zjZ {j pos}:PE X (.Constant .none j pos) (tC .non):=fun _ _ _ H _ I h=>Constant_none ⟨.non,H,I,rfl,h⟩
theorem xH {x j pos}:PE X (.Constant (.str x) j pos) (tC (.str x)):=fun _ _ _ H _ I h=>Calls.Constant_str ⟨.str x,H,I.tok _,⟨_,rfl⟩,h⟩
def Gl (X:Cx)(x:Str):Prop:=X.env.kindOf x=some .globalImplicit
theorem TQ {E:Value->Shared->Prop}{pins:List (Addr×Obj)}{s:Shared}{σ:St}{H:Hp}{x:Str}{u:Value}{pos:Pos}{Q:Value->Shared->Prop}(I:Inv X pins σ H s)(hg:Gl X x)(hm:X.mg x=some u)(h:Q u s)
  (hd:(x==("__debug__" : Str))=false:=by decide):wpAny (model X.prog X.w) X.A (eval (.Name x pos) X.env) Q E s :=
 Calls.Name_function_global I.ok.kind hg (Calls.loadGlobal_global (by rw[I.ok.glob];exact I.mod.glob.keeps I.bk) hm h) hd
theorem V7 {E:Value->Shared->Prop}{pins:List (Addr×Obj)}{s:Shared}{σ:St}{H:Hp}{x:Str}{u:Value}{pos:Pos}{Q:Value->Shared->Prop}(I:Inv X pins σ H s)(hg:Gl X x)(hm:X.mg x=none)(hv:bootBuiltins x=some u)(h:Q u s)
  (hn:x ≠ "__name__" := by decide)(hd:(x==("__debug__" : Str))=false:=by decide):wpAny (model X.prog X.w) X.A (eval (.Name x pos) X.env) Q E s:=by
 obtain⟨mb,h1,h2⟩:=I.mod.blt
 exact Calls.Name_function_global I.ok.kind hg (Calls.loadGlobal_builtin (by rw[I.ok.glob];exact I.mod.glob.keeps I.bk) hm (by rw[I.ok.blt];exact h1.keeps I.bk) ((h2 x hn).trans hv) h) hd
theorem wG {x:Str}{v:V}{u:Value}{pos:Pos}(hg:Gl X x)(hm:X.mg x=some u)(r:RelV v u)(hd:(x==("__debug__" : Str))=false:=by decide):PE X (.Name x pos) (tC v) :=
 fun _ _ _ H _ I h=>TQ I hg hm ⟨v,H,I,r,h⟩ hd
theorem za8 {x:Str}{v:V}{u:Value}{pos:Pos}(hg:Gl X x)(hm:X.mg x=none)(hv:bootBuiltins x=some u)(r:RelV v u)(hn:x ≠ "__name__" := by decide)(hd:(x==("__debug__" : Str))=false:=by decide):PE X (.Name x pos) (tC v) :=
 fun _ _ _ H _ I h=>V7 I hg hm hv ⟨v,H,I,r,h⟩ hn hd
variable {a b:Expr}{ta tb:TE}{pos:Pos}
def PC (X:Cx)(op:CmpOp)(a b:Expr)(t:TE):Prop :=
 ∀(pins:List (Addr×Obj)) (s:Shared) (σ:St) (H:Hp) (Q:VK),Inv X pins σ H s->t σ H Q ->
  wpAny (model X.prog X.w) X.A (eval a X.env) (fun v s₁=>wpAny (model X.prog X.w) X.A (eval b X.env) (fun u s₂=>wpAny (model X.prog X.w) X.A (compareOp op v u) (EP X pins σ Q) X.xe s₂) X.xe s₁) X.xe s
def tB (t:TE):TT:=fun σ H Q=>t σ H fun x H1=>∃c,x=.bl c/\Q c H1
theorem zj0 {op:CmpOp}{t:TE}(h:PC X op a b t)(h1:behindInMarks op b=false:=by first | exact zpe _ (by decide) (by decide) | rfl):PT X (.Compare a [op] [b] pos) (tB t):=by
 intro pins s σ H Q I hw
 refine wpAny_isTrue_Compare1 (vo (h pins s σ H _ I hw) fun v s1 h1=>vo h1 fun u s2 h2=>vo h2 fun c s3 ⟨x,H1,I1,r1,q1⟩=>?_) h1
 obtain⟨d,rfl,q⟩:=q1
 cases r1
 exact wpAny_truthy_bool ⟨H1,I1,q⟩
variable {tA tB':TT}{rest:List Expr}
def zrr (t u:TT):TT:=fun σ H Q=>t σ H fun c H1=>if c=true then u σ H1 Q else Q false H1
def tOr (t u:TT):TT:=fun σ H Q=>t σ H fun c H1=>if c=true then Q true H1 else u σ H1 Q
def zrs (t:TT):TT:=fun σ H Q=>t σ H fun c H1=>Q (!c) H1
theorem zd2 (ha:PT X a tA):PW X (.BoolOp .And [a] pos) tA:=by
 intro wh pins s σ H Q I h
 refine isTrue_and (vo (ha pins s σ H Q I h) fun c s1 e=>?_)
 cases c with
 | true=>exact isTrue_and_nil e
 | false=>exact e
theorem XC (ha:PT X a tA):PW X (.BoolOp .Or [a] pos) tA:=by
 intro wh pins s σ H Q I h
 refine isTrue_or (vo (ha pins s σ H Q I h) fun c s1 e=>?_)
 cases c with
 | false=>exact isTrue_or_nil e
 | true=>exact e
theorem zgN (ha:PT X a tA)(hb:PW X (.BoolOp .And (b::rest) pos) tB'):PW X (.BoolOp .And (a::b::rest) pos) (zrr tA tB'):=by
 intro wh pins s σ H Q I h
 refine isTrue_and (vo (ha pins s σ H _ I h) fun c s1 ⟨H1,I1,q1⟩=>?_)
 cases c with
 | true=>exact hb wh pins s1 σ H1 Q I1 q1
 | false=>exact⟨H1,I1,q1⟩
theorem Uq (ha:PT X a tA)(hb:PW X (.BoolOp .Or (b::rest) pos) tB'):PW X (.BoolOp .Or (a::b::rest) pos) (tOr tA tB'):=by
 intro wh pins s σ H Q I h
 refine isTrue_or (vo (ha pins s σ H _ I h) fun c s1 ⟨H1,I1,q1⟩=>?_)
 cases c with
 | true=>exact⟨H1,I1,q1⟩
 | false=>exact hb wh pins s1 σ H1 Q I1 q1
theorem Zu (ha:PT X a tA):PT X (.UnaryOp .Not a pos) (zrs tA):=by
 intro pins s σ H Q I h
 exact isTrue_not (ha pins s σ H (fun c H1=>Q (!c) H1) I h)
def zpf (ta tb:TE):TE:=fun σ H Q=>ta σ H fun x H1=>∃c,x=.bl c/\if c=true then tb σ H1 Q else Q (.bl false) H1
theorem N6 {op}{t:TE}(h:PE X a t):PE X (.BoolOp op [a] pos) t:=fun pins s σ H Q I hw=>BoolOp_one (h pins s σ H Q I hw)
theorem WK (ha:PE X a ta)(hb:PE X (.BoolOp .And (b::rest) pos) tb):PE X (.BoolOp .And (a::b::rest) pos) (zpf ta tb):=by
 intro pins s σ H Q I h
 refine BoolOp_and (vo (ha pins s σ H _ I h) fun v s1 ⟨x,H1,I1,r1,q1⟩=>?_)
 obtain⟨c,rfl,q1⟩:=q1
 cases r1
 refine wpAny_truthy_bool ?_
 cases c with
 | true=>exact hb pins s1 σ H1 Q I1 q1
 | false=>exact⟨.bl false,H1,I1,rfl,q1⟩
def tIf (t:TT)(ta tb:TE):TE:=fun σ H Q=>t σ H fun c H1=>if c=true then ta σ H1 Q else tb σ H1 Q
theorem zff {c:Expr}(hc:PT X c tA)(ha:PE X a ta)(hb:PE X b tb):PE X (.IfExp c a b pos) (tIf tA ta tb):=by
 intro pins s σ H Q I h
 refine wpAny_IfExp (vo (hc pins s σ H _ I h) fun d s1 ⟨H1,I1,q1⟩=>?_)
 cases d with
 | true=>exact ha pins s1 σ H1 Q I1 q1
 | false=>exact hb pins s1 σ H1 Q I1 q1
end
def zX (K:Frag)(H:Hp)(a:Addr)(xs:List V):Prop :=
 Rd H a (.lst xs) \/
  ∃(o:Obj) (its:Array Value) (n:Nat),K.lookup a=some o/\o.cls=.type "list" /\ o.dict=none/\o.data=.seq its n/\its.size<=sizeLine/\Vals xs its.toList
def vO (K:Frag)(H:Hp)(a:Addr)(xs:List V):Prop :=
 Rd H a (.tup xs) \/
  ∃(o:Obj) (its:Array Value) (n:Nat),K.lookup a=some o/\o.cls=.type "tuple" /\ o.data=.seq its n/\its.size<=sizeLine/\Vals xs its.toList
def zcJ:Value->Option V
 | .none=>some .non
 | .bool b=>some (.bl b)
 | .int i _=>some (.int i)
 | .str x _=>some (.str x)
 | .bytes b _=>some (.byt b)
 | .float b _=>some (.flt b)
 | .ref a=>some (.ref a)
 | .type n=>some (.ty n)
 | _=>none
theorem RelV.abs {x:V}{u:Value}(r:RelV x u):zcJ u=some x:=by
 cases x with
 | non=>cases r;rfl
 | bl _=>cases r;rfl
 | int _=>obtain⟨t,rfl⟩:=r;rfl
 | str _=>obtain⟨t,rfl⟩:=r;rfl
 | byt _=>obtain⟨t,rfl⟩:=r;rfl
 | flt _=>obtain⟨t,rfl⟩:=r;rfl
 | ref _=>cases r;rfl
 | ty _=>cases r;rfl
theorem RelV.inj {x y:V}{u:Value}(r:RelV x u)(q:RelV y u):x=y:=zv4 (r.abs.symm.trans q.abs)
theorem Vals.inj:∀{xs ys:List V} {us:List Value},Vals xs us->Vals ys us->xs=ys
 | _,_,_,.nil,.nil=>rfl
 | _,_,_,.cons r t,.cons r' t'=>by rw[r.inj r',Vals.inj t t']
section
variable {X:Cx}{pins:List (Addr×Obj)}{σ:St}{H:Hp}{s:Shared}{a:Addr}{xs ys:List V}
theorem zX.of {K:Frag}(h:H a=some (.lst xs)):zX K H a xs:=.inl (.inl h)
theorem vO.of {K:Frag}(h:H a=some (.tup xs)):vO K H a xs:=.inl (.inl h)
theorem Inv.list (I:Inv X pins σ H s)(h:zX X.K H a xs):∃its:List Value,Vals xs its/\PlainL s.heap a its.toArray/\xs.length<=sizeLine:=by
 rcases h with h | ⟨o,its,n,hk,hc,hd,hs,hz,r⟩
 ·obtain⟨z,its,n,r,e⟩:=h.ok I.hok
  exact⟨its,r,⟨_,n,e,rfl,rfl,rfl⟩,z⟩
 ·refine⟨its.toList,r,⟨o,n,I.PX a o hk,hc,hd,by simpa using hs⟩,?_⟩
  have e:=r.length
  simp only[Array.length_toList] at e
  omega
theorem Inv.tuple (I:Inv X pins σ H s)(h:vO X.K H a xs):∃its:List Value,Vals xs its/\IsTup s.heap a its.toArray/\xs.length<=sizeLine:=by
 rcases h with h | ⟨o,its,n,hk,hc,hs,hz,r⟩
 ·obtain⟨z,its,r,p⟩:=h.ok I.hok
  exact⟨its,r,p,z⟩
 ·refine⟨its.toList,r,⟨o,I.PX a o hk,hc,n,by simpa using hs⟩,?_⟩
  have e:=r.length
  simp only[Array.length_toList] at e
  omega
theorem Inv.WM (I:Inv X pins σ H s)(h:zX X.K H a xs)(h':zX X.K H a ys):xs=ys:=by
 obtain⟨its,r,⟨o,n,e,_,_,d⟩,_⟩:=I.list h
 obtain⟨its',r',⟨o',n',e',_,_,d'⟩,_⟩:=I.list h'
 rw[e] at e';cases e'
 rw[d] at d'
 injection d' with d1 _
 have:its=its':=by simpa using congrArg Array.toList d1
 subst this
 exact r.inj r'
theorem Inv.zdh (I:Inv X pins σ H s)(h:vO X.K H a xs)(h':vO X.K H a ys):xs=ys:=by
 obtain⟨its,r,⟨o,e,_,n,d⟩,_⟩:=I.tuple h
 obtain⟨its',r',⟨o',e',_,n',d'⟩,_⟩:=I.tuple h'
 rw[e] at e';cases e'
 rw[d] at d'
 injection d' with d1 _
 have:its=its':=by simpa using congrArg Array.toList d1
 subst this
 exact r.inj r'
end
abbrev Cx.wish (X:Cx)(E:Value->Shared->Prop):Cx:={ X with xe:=E }
abbrev Cx.nox (X:Cx):Cx:=X.wish fun _ _=>False
theorem Cx.Ok.wish {X:Cx}(ok:X.Ok)(E:Value->Shared->Prop):(X.wish E).Ok :=
 ⟨ok.mod,ok.kind,ok.glob,ok.blt,ok.above,ok.inj,ok.has,ok.cab,ok.hd,ok.frames,ok.stk,ok.exf,ok.bs,ok.bsz,ok.zfd,ok.zfe,ok.PN,ok.frf⟩
theorem Cx.Ok.TV {X:Cx}{E:Value->Shared->Prop}(ok:(X.wish E).Ok):X.Ok :=
 ⟨ok.mod,ok.kind,ok.glob,ok.blt,ok.above,ok.inj,ok.has,ok.cab,ok.hd,ok.frames,ok.stk,ok.exf,ok.bs,ok.bsz,ok.zfd,ok.zfe,ok.PN,ok.frf⟩
section
variable {X:Cx}{pins:List (Addr×Obj)}{σ:St}{H:Hp}{s:Shared}{E:Value->Shared->Prop}
theorem Inv.wish (I:Inv X pins σ H s)(E:Value->Shared->Prop):Inv (X.wish E) pins σ H s:=⟨I.ok.wish E,I.os,I.bare,I.base,I.loc,I.cell,I.free,I.Xq,I.pin,I.hok,I.len⟩
theorem Inv.TV (I:Inv (X.wish E) pins σ H s):Inv X pins σ H s:=⟨I.ok.TV,I.os,I.bare,I.base,I.loc,I.cell,I.free,I.Xq,I.pin,I.hok,I.len⟩
theorem SP.TV {D:Ends}{f:Flow}{s':Shared}(h:SP (X.wish E) pins D f s'):SP X pins D f s':=by
 cases f with
 | next=>obtain⟨σ',H',I,q⟩:=h;exact⟨σ',H',I.TV,q⟩
 | brk=>obtain⟨σ',H',I,q⟩:=h;exact⟨σ',H',I.TV,q⟩
 | cont=>obtain⟨σ',H',I,q⟩:=h;exact⟨σ',H',I.TV,q⟩
 | ret u=>obtain⟨v,σ',H',I,r,q⟩:=h;exact⟨v,σ',H',I.TV,r,q⟩
theorem PSs.nox {st:List Stmt}{t:TS}(h:PSs X.nox st t):PSs X st t:=fun pins s σ H D I hw =>
 wpAny_mono (h pins s σ H D (I.wish _) hw) (fun _ _ q=>q.TV) fun _ _ z=>False.elim z
end
section
variable {X:Cx}{st:Stmt}{rest:List Stmt}{t u:TS}{e:Expr}{te:TE}{pos:Pos}
def zpg:TS:=fun D σ H=>D.nx σ H
def zrt (t u:TS):TS:=fun D σ H=>t { D with nx:=u D } σ H
theorem z8:PSs X [] zpg:=fun _ _ σ H _ I h=>wpAny_execs_nil ⟨σ,H,I,h⟩
theorem zf (h1:PS X st t)(h2:PSs X rest u):PSs X (st::rest) (zrt t u):=by
 intro pins s σ H D I h
 refine wpAny_execs_cons (vo (h1 pins s σ H { D with nx:=u D } I h) fun f s1 q=>?_)
 cases f with
 | next =>
  obtain⟨σ',H',I',q⟩:=q
  exact h2 pins s1 σ' H' D I' q
 | ret v=>exact q
 | brk=>exact q
 | cont=>exact q
theorem zx (h1:PS X st t):PSs X [st] t:=by
 intro pins s σ H D I h
 refine wpAny_execs_cons (vo (h1 pins s σ H D I h) fun f s1 q=>?_)
 cases f with
 | next=>exact wpAny_execs_nil q
 | ret v=>exact q
 | brk=>exact q
 | cont=>exact q
theorem Inv.quiet {pins:List (Addr×Obj)}{σ:St}{H:Hp}{s:Shared}(I:Inv X pins σ H s):interactive X.env=false:=by simp[interactive,I.ok.kind]
def zph (te:TE):TS:=fun D σ H=>te σ H fun _ H1=>D.nx σ H1
theorem zV (he:PE X e te)(hs:swapsWith e none pos.line X.env=pure false:=by rfl):PS X (.Expr e pos) (zph te):=by
 intro pins s σ H D I h
 exact wpAny_Expr_any (vo (he pins s σ H _ I h) fun v s1 ⟨x,H1,I1,r1,q1⟩=>⟨σ,H1,I1,q1⟩) I.quiet hs
def zru (te:TE):TS:=fun D σ H=>te σ H D.rt
theorem zR (he:PE X e te):PS X (.Return (some e) pos) (zru te):=by
 intro pins s σ H D I h
 exact wpAny_Return_some (vo (he pins s σ H _ I h) fun v s1 ⟨x,H1,I1,r1,q1⟩=>⟨x,σ,H1,I1,r1,q1⟩)
def zrv (c:TT)(t u:TS):TS:=fun D σ H=>c σ H fun b H1=>if b=true then t D σ H1 else u D σ H1
theorem yr {c:Expr}{a b:List Stmt}{tc:TT}(hc:PT X c tc)(ha:PSs X a t)(hb:PSs X b u):PS X (.If c a b pos) (zrv tc t u):=by
 intro pins s σ H D I h
 refine wpAny_If (vo (hc pins s σ H _ I h) fun d s1 ⟨H1,I1,q1⟩=>?_)
 cases d with
 | true=>exact ha pins s1 σ H1 D I1 q1
 | false=>exact hb pins s1 σ H1 D I1 q1
def zj1:TS:=fun _ _ _=>False
theorem Z8:PS X st zj1:=fun _ _ _ _ _ _ h=>h.elim
theorem yU {sts:List Stmt}:PSs X sts zj1:=fun _ _ _ _ _ _ h=>h.elim
end
abbrev TG:=V->St->Hp->(St->Hp->Prop)->Prop
abbrev TGs:=List V->St->Hp->(St->Hp->Prop)->Prop
def PG (X:Cx)(target:Expr)(t:TG):Prop :=
 ∀(pins:List (Addr×Obj)) (s:Shared) (σ:St) (H:Hp) (v:V) (u:Value) (Q:St->Hp->Prop),Inv X pins σ H s->RelV v u->t v σ H Q ->
  wpAny (model X.prog X.w) X.A (assign target X.env u) (fun _ s'=>∃ σ' H',Inv X pins σ' H' s'/\Q σ' H') X.xe s
def PGs (X:Cx)(ts:List Expr)(t:TGs):Prop :=
 ∀(pins:List (Addr×Obj)) (s:Shared) (σ:St) (H:Hp) (vs:List V) (us:List Value) (Q:St->Hp->Prop),Inv X pins σ H s->Vals vs us->t vs σ H Q ->
  wpAny (model X.prog X.w) X.A (assignInOrder ((assignEach ts X.env).map (·.2)) us) (fun _ s'=>∃ σ' H',Inv X pins σ' H' s'/\Q σ' H') X.xe s
abbrev TIp:=V->V->Hp->VK->Prop
def PIp (X:Cx)(op:Operator)(t:TIp):Prop :=
 ∀(pins:List (Addr×Obj)) (s:Shared) (σ:St) (H:Hp) (x y:V) (v u:Value) (Q:VK),Inv X pins σ H s->RelV x v->RelV y u->t x y H Q ->
  wpAny (model X.prog X.w) X.A (inplaceOp op v u) (EP X pins σ Q) X.xe s
section
variable {X:Cx}{pos:Pos}
def Rw (i:Nat):TG:=fun v σ H Q=>Q (σ.set i (some v)) H
theorem wA {i:Nat}{x:Str}(hN:X.N.Nodup)(hi:X.N[i]?=some x)(hx:Loc X.env.scope x)(hf:X.fn x=true\/X.env.scope.names.lookup x=some .local:=by first | exact .inl rfl | exact .inr rfl | assumption):PG X (.Name x pos) (Rw i):=by
 intro pins s σ H v u Q I r h
 exact wpAny_assign_Name (WD I hN hi hx r (fun s' I'=>⟨_,H,I',h⟩) hf)
def zlF:TGs:=fun vs σ H Q=>vs=[]/\Q σ H
def zbt (t:TG)(u:TGs):TGs:=fun vs σ H Q=>∃v r,vs=v::r/\t v σ H fun σ' H'=>u r σ' H' Q
theorem zd3:PGs X [] zlF:=by
 intro pins s σ H vs us Q I r h
 obtain⟨e,h⟩:=h
 subst e
 cases r
 exact assignInOrder_nil ⟨σ,H,I,h⟩
theorem Ur {e:Expr}{es:List Expr}{t:TG}{u:TGs}(h1:PG X e t)(h2:PGs X es u)
  (hs:(assignEach (e::es) X.env).map (·.2)=assign e X.env::(assignEach es X.env).map (·.2):=by rfl):PGs X (e::es) (zbt t u):=by
 intro pins s σ H vs us Q I r h
 obtain⟨v,vr,e1,h⟩:=h
 subst e1
 cases r with
 | cons r rr =>
  rw[hs]
  refine assignInOrder_cons (vo (h1 pins s σ H _ _ _ I r h) fun _ s1 ⟨σ1,H1,I1,q1⟩=>?_)
  exact h2 pins s1 σ1 H1 _ _ Q I1 rr q1
def zlG (K:Frag)(n:Nat)(t:TGs):TG:=fun v σ H Q=>∃a xs,v=.ref a/\vO K H a xs/\xs.length=n/\t xs σ H Q
theorem zgO {es:List Expr}{k:Nat}{t:TGs}{n:Nat}(hc:X.calm=true)(h:PGs X es t)
  (hn:(assignEach es X.env).length=n:=by rfl)(hst:(assignEach es X.env).findIdx? (·.1)=none:=by rfl):PG X (.Tuple es k pos) (zlG X.K n t):=by
 intro pins s σ H v u Q I r hw
 obtain⟨a,xs,e1,hq,hl,hw⟩:=hw
 subst e1
 cases r
 obtain⟨its,rv,ht,hz⟩:=I.tuple hq
 refine assign_Tuple_tuple (I.ok.hd hc) ht (by simp[hn,<-hl,rv.length]) hst fun h' hx=>?_
 have I1:Inv X pins σ H { s with heap:=h' }:=I.kept (t':=s.toks) fun b o e=>hx b o (zvP (zvH e)) e
 exact h pins _ σ H xs _ Q I1 (by simpa using rv) hw
def znL (te:TE)(g:TG):TS:=fun D σ H=>te σ H fun x H1=>g x σ H1 D.nx
theorem Z9 {i:Nat}{x:Str}{e:Expr}{te:TE}{pos':Pos}(hN:X.N.Nodup)(hi:X.N[i]?=some x)(hx:Loc X.env.scope x)(he:PE X e te)(hs:swapsWith e (some (.Name x pos')) pos.line X.env=pure false:=by rfl)(hf:X.fn x=true\/X.env.scope.names.lookup x=some .local:=by first | exact .inl rfl | exact .inr rfl | assumption) :
  PS X (.Assign [.Name x pos'] e pos) (znL te (Rw i)):=by
 intro pins s σ H D I h
 refine wpAny_Assign_Name (vo (he pins s σ H _ I h) fun v s1 ⟨y,H1,I1,r1,q1⟩=>?_) hs
 exact WD I1 hN hi hx r1 (fun s2 I2=>⟨_,H1,I2,q1⟩) hf
def zrx (i:Nat)(te:TE)(ti:TIp):TS:=fun D σ H=>∃x,σ[i]?=some (some x)/\te σ H fun y H1=>ti x y H1 fun z H2=>D.nx (σ.set i (some z)) H2
theorem zgP {i:Nat}{x:Str}{e:Expr}{te:TE}{op:Operator}{ti:TIp}{pos':Pos}(hN:X.N.Nodup)(hi:X.N[i]?=some x)(hx:Loc X.env.scope x)(he:PE X e te)(ho:PIp X op ti)(hf:X.fn x=true\/X.env.scope.names.lookup x=some .local:=by first | exact .inl rfl | exact .inr rfl | assumption) :
  PS X (.AugAssign (.Name x pos') op e pos) (zrx i te ti):=by
 intro pins s σ H D I h
 obtain⟨v,e1,h⟩:=h
 obtain⟨m,hn,hl⟩:=I.loc
 have vis:Vis X.env.scope x:=by rcases hx with k | k;exact .inl k;exact .inr (.inl k)
 obtain⟨u,r,l⟩:=hl i x v hi e1 vis
 refine wpAny_AugAssign_Name ?_
 have go:wpAny (model X.prog X.w) X.A (eval e X.env) (fun w s₂=>wpAny (model X.prog X.w) X.A (inplaceOp op u w) (fun r s₃=>wpAny (model X.prog X.w) X.A (storeName X.env x r) (fun _=>SP X pins D .next) X.xe s₃) X.xe s₂) X.xe s:=by
  refine vo (he pins s σ H _ I h) fun w s1 ⟨y,H1,I1,r1,q1⟩=>?_
  refine vo (ho pins s1 σ H1 v y u w _ I1 r r1 q1) fun z s2 ⟨zv,H2,I2,r2,q2⟩=>?_
  exact WD I2 hN hi hx r2 (fun s3 I3=>⟨_,H2,I3,q2⟩) hf
 rcases l with ⟨hk,hm⟩ | ⟨hk,c,hc,hcell⟩
 ·exact wpAny_loadName_local I.ok.kind hk hn hm go
 ·rcases hk with hk | hk
  ·exact wpAny_loadName_cell I.ok.kind hk hc hcell go
  ·rcases hx with k | k
   ·have:X.env.scope.names.lookup x=some .free:=hk
    rw[k] at this;cases this
   ·have:X.env.scope.names.lookup x=some .free:=hk
    rw[k] at this;cases this
def znM (c:TT)(tb:TS):TS:=fun D σ H=>∃W:Nat->St->Hp->Prop,(∃m,W m σ H)/\∀m σ H,W m σ H ->
 c σ H fun b H1=>if b=true then ∃N:St->Hp->Prop,(∀ σ' H',N σ' H'->∃m',m'<m/\W m' σ' H')/\tb { D with nx:=N,ct:=N,bk:=D.nx } σ H1 else D.nx σ H1
theorem RW {c:Expr}{body:List Stmt}{tc:TT}{tb:TS}(hp:PassesOwn (model X.prog X.w) X.A X.env X.xe)(hc:PT X c tc)(hb:PSs X body tb):PS X (.While c body [] pos) (znM tc tb):=by
 intro pins s σ H D I h
 obtain⟨W,⟨m0,w0⟩,turn⟩:=h
 refine wpAny_While (codeAny_whileLoop (fun n s'=>∃ σ' H',Inv X pins σ' H' s'/\W n σ' H') ?_ m0 ⟨σ,H,I,w0⟩)
 rintro n s1 ⟨σ1,H1,I1,w1⟩
 refine wpAny_passesOwn hp (vo (hc pins s1 σ1 H1 _ I1 (turn n σ1 H1 w1)) fun b s2 ⟨H2,I2,q2⟩=>?_)
 cases b with
 | true =>
  obtain⟨N,hN,q2⟩:=q2
  rw[if_pos rfl]
  refine wpAny_passesOwn hp (vo (hb pins s2 σ1 H2 _ I2 q2) fun f s3 q3=>?_)
  cases f with
  | next =>
   obtain⟨σ3,H3,I3,n3⟩:=q3
   obtain⟨m',hm,w3⟩:=hN σ3 H3 n3
   exact⟨m',hm,σ3,H3,I3,w3⟩
  | cont =>
   obtain⟨σ3,H3,I3,n3⟩:=q3
   obtain⟨m',hm,w3⟩:=hN σ3 H3 n3
   exact⟨m',hm,σ3,H3,I3,w3⟩
  | brk=>exact q3
  | ret v=>exact q3
 | false =>
  rw[if_neg zvE]
  exact wpAny_execs_nil ⟨σ1,H2,I2,q2⟩
end
structure It where
 go:Nat->Hp->Prop
 yld:Nat->Hp->V->Hp->Prop
 stop:Nat->Hp->Prop
def zcK (X:Cx)(pins:List (Addr×Obj))(H:Hp)(b:Addr):Prop :=
 H b=none/\b≠X.env.locals/\b∉X.fs/\(b∈X.ex\/X.s₀.heap.objs.size<=b)/\(∀x c,X.env.cells.lookup x=some c->c≠b)/\∀p∈X.pn++pins,p.1≠b
theorem Inv.ziT {X:Cx}{pins:List (Addr×Obj)}{σ:St}{H H':Hp}{s:Shared}{b:Addr}(I:Inv X pins σ H s)(hb:s.heap.objs.size<=b)(hn:H' b=none):zcK X pins H' b:=by
 refine⟨hn,Nat.ne_of_gt (zvJ I.lt hb),I.znI hb,.inr (zvV I.sz hb),fun x c e z=>?_,fun p hp z=>?_⟩
 ·obtain⟨v,q⟩:=I.cell x c e
  exact absurd (zvJ q.lt (by rw[z];exact hb)) (Nat.lt_irrefl _)
 ·exact absurd (zvJ (zvH (I.pin p hp).1) (by rw[z];exact hb)) (Nat.lt_irrefl _)
abbrev Calm (X:Cx):Prop:=X.calm=true
structure Turn (P:Program)(w:World)(K:Frag)(tg:Expr)(J:It)(fp:List Addr)(it:Addr)(tn:Nat->Heap->Prop)(rd:Cx->Prop:=Calm):Prop where
 mem:it∈fp
 obj:∀i h,tn i h->∀b∈fp,∃o,h.get? b=some o/\∀v,o.data≠.cell v
 keep:∀i h h',tn i h->(∀b∈fp,∀o,h.get? b=some o->h'.get? b=some o)->tn i h'
 item:∀(X:Cx),X.prog=P->X.w=w->X.K=K->rd X->∀(i:Nat) (pins:List (Addr×Obj)) (s:Shared) (σ:St) (H:Hp) (E:Value->Shared->Prop),Inv X pins σ H s->(∀b∈fp,zcK X pins H b)->tn i s.heap->J.go i H ->
  wpAny (model P w) X.A (pyNext (.ref it)) (fun r s1=>∃u,r=some u /\
   wpAny (model P w) X.A (letOwnedTupleGo tg (.ref it) u) (fun _ s2=>∃x H',Inv X pins σ H' s2/\RelV x u/\J.yld i H x H'/\tn (i+1) s2.heap/\∀b∈fp,H' b=none) E s1) E s
 done:∀(X:Cx),X.prog=P->X.w=w->X.K=K->rd X->∀(i:Nat) (pins:List (Addr×Obj)) (s:Shared) (σ:St) (H:Hp) (E:Value->Shared->Prop),Inv X pins σ H s->(∀b∈fp,zcK X pins H b)->tn i s.heap->J.stop i H ->
  wpAny (model P w) X.A (pyNext (.ref it)) (fun r s1=>r=none/\Inv X pins σ H s1) E s
 self:∀(A:Around) (i:Nat) (s:Shared) (Q:Value->Shared->Prop) (E:Value->Shared->Prop),tn i s.heap->Q (.ref it) s->wpAny (model P w) A (pyIter (.ref it)) Q E s
abbrev TI:=St->Hp->(It->Hp->Prop)->Prop
def znN (rd:Cx->Prop)(X:Cx)(pins:List (Addr×Obj))(σ:St)(tg:Expr)(R:It->Hp->Prop)(itv:Value)(s2:Shared):Prop :=
 ∃(it:Addr) (fp:List Addr) (tn:Nat->Heap->Prop) (J:It) (H':Hp),itv=.ref it/\Inv X pins σ H' s2/\Turn X.prog X.w X.K tg J fp it tn rd/\tn 0 s2.heap/\(∀b∈fp,zcK X pins H' b)/\R J H'
abbrev PIE:=znN Calm
def PIr (rd:Cx->Prop)(X:Cx)(tg iter:Expr)(wi:TI):Prop :=
 ∀(pins:List (Addr×Obj)) (s:Shared) (σ:St) (H:Hp) (R:It->Hp->Prop),Inv X pins σ H s->wi σ H R ->
  wpAny (model X.prog X.w) X.A (eval iter X.env) (fun v s1=>wpAny (model X.prog X.w) X.A (pyIter v) (znN rd X pins σ tg R) X.xe s1) X.xe s
abbrev PI:=PIr Calm
theorem zh1 {M:Model}{A:Around}{E:Value->Shared->Prop}{s:Shared}{tg:Expr}{it:Addr}{u:Value}{o:Obj}{n:String}{vs:Array Value}{Q:Unit->Shared->Prop}(ho:s.heap.get? it=some o)(hc:o.cls=.type n)(hd:o.data=.fields vs)
  (hn:["enumerate", "zip", "dict_itemiterator", "dict_reverseitemiterator", "odict_iterator", "itertools.zip_longest", "itertools.pairwise"].contains n=false)(hQ:Q () s):wpAny M A (letOwnedTupleGo tg (.ref it) u) Q E s:=by
 unfold letOwnedTupleGo
 cases tg<;>first
  | exact wpAny_pure hQ
  | (cases u<;>first
    | exact wpAny_pure hQ
    | (refine wpAny_bind (wpAny_load ho ?_)
       rw[hc,hd]
       show wpAny M A (if (["enumerate", "zip", "dict_itemiterator", "dict_reverseitemiterator", "odict_iterator", "itertools.zip_longest", "itertools.pairwise"].contains n&&vs[0]?==some (rawInt _))=true then _ else _) Q E s
       rw[if_neg (by intro h;rw[hn,Bool.false_and] at h;cases h)]
       exact wpAny_pure hQ))
def Itl (K:Frag)(a:Addr):It :=
 ⟨fun i H=>∃xs x,zX K H a xs/\xs[i]?=some x,fun i H x H'=>H'=H/\∀xs,zX K H a xs->xs[i]?=some x,fun i H=>∃xs,zX K H a xs/\xs.length<=i⟩
def Itt (K:Frag)(a:Addr):It :=
 ⟨fun i H=>∃xs x,vO K H a xs/\xs[i]?=some x,fun i H x H'=>H'=H/\∀xs,vO K H a xs->xs[i]?=some x,fun i H=>∃xs,vO K H a xs/\xs.length<=i⟩
def Itr (lo:Int)(n:Nat):It:=⟨fun i _=>i<n,fun i H x H'=>H'=H/\x=.int (lo+i),fun i _=>n<=i⟩
theorem ziV {P:Program}{w:World}{K:Frag}{tg:Expr}(a it:Addr):Turn P w K tg (Itl K a) [it] it (fun i h=>h.IsListIter it a i) where
 mem:=by simp
 obj:=fun i h st b hb=>by
  have e:b=it:=by simpa using hb
  subst e
  obtain⟨o,e,c,d⟩:=st
  exact⟨o,e,fun v z=>by rw[d] at z;cases z⟩
 keep:=fun i h h' st k=>st.at fun o e=>k it (by simp) o e
 item:=by
  intro X hP hw hK hc i pins s σ H E I hf st hg
  subst hP hw hK
  obtain⟨xs,x,hq,hx⟩:=hg
  obtain⟨its,rv,p,hz⟩:=I.list hq
  obtain⟨u,hu,ru⟩:=rv.get hx
  obtain⟨f0,f1,f2,f3,f4,f5⟩:=hf it (by simp)
  refine wpAny_pyNext_list_item st p.isList (x:=u) (by simpa using hu) fun h' st' sb=>?_
  have I1:Inv X pins σ H { s with heap:=h' }:=I.turned (t':=s.toks) (fun b o hb e=>(sb.2 b hb).trans e) f0 f1 f3 f4 f5
  obtain⟨o,e,c,d⟩:=id st'
  exact⟨u,rfl,zh1 (s:={ s with heap:=h' }) e c d (by decide) ⟨x,H,I1,ru,⟨rfl,fun ys hy=>by rw[I.WM hy hq];exact hx⟩,st',fun b hb=>(hf b hb).1⟩⟩
 done:=by
  intro X hP hw hK hc i pins s σ H E I hf st hg
  subst hP hw hK
  obtain⟨xs,hq,hx⟩:=hg
  obtain⟨its,rv,p,hz⟩:=I.list hq
  obtain⟨f0,f1,f2,f3,f4,f5⟩:=hf it (by simp)
  have hl:=rv.length
  exact wpAny_pyNext_list_end (I.ok.hd hc) st p.isList (by simp;omega) fun h' eb=>⟨rfl,I.turned (t':=s.toks) (fun b o hb e=>eb b o hb e) f0 f1 f3 f4 f5⟩
 self:=fun _ _ _ _ _ st h=>wpAny_pyIter_listiter st h
theorem zgQ {P:Program}{w:World}{K:Frag}{tg:Expr}(a it:Addr):Turn P w K tg (Itt K a) [it] it (fun i h=>h.IsTupleIter it a i) where
 mem:=by simp
 obj:=fun i h st b hb=>by
  have e:b=it:=by simpa using hb
  subst e
  obtain⟨o,e,c,d⟩:=st
  exact⟨o,e,fun v z=>by rw[d] at z;cases z⟩
 keep:=fun i h h' st k=>st.at fun o e=>k it (by simp) o e
 item:=by
  intro X hP hw hK hc i pins s σ H E I hf st hg
  subst hP hw hK
  obtain⟨xs,x,hq,hx⟩:=hg
  obtain⟨its,rv,p,hz⟩:=I.tuple hq
  obtain⟨u,hu,ru⟩:=rv.get hx
  obtain⟨f0,f1,f2,f3,f4,f5⟩:=hf it (by simp)
  refine wpAny_pyNext_tuple_item st (show s.heap.IsTuple a its.toArray from p) (x:=u) (by simpa using hu) fun h' st' sb=>?_
  have I1:Inv X pins σ H { s with heap:=h' }:=I.turned (t':=s.toks) (fun b o hb e=>(sb.2 b hb).trans e) f0 f1 f3 f4 f5
  obtain⟨o,e,c,d⟩:=id st'
  exact⟨u,rfl,zh1 (s:={ s with heap:=h' }) e c d (by decide) ⟨x,H,I1,ru,⟨rfl,fun ys hy=>by rw[I.zdh hy hq];exact hx⟩,st',fun b hb=>(hf b hb).1⟩⟩
 done:=by
  intro X hP hw hK hc i pins s σ H E I hf st hg
  subst hP hw hK
  obtain⟨xs,hq,hx⟩:=hg
  obtain⟨its,rv,p,hz⟩:=I.tuple hq
  obtain⟨f0,f1,f2,f3,f4,f5⟩:=hf it (by simp)
  have hl:=rv.length
  exact wpAny_pyNext_tuple_end (I.ok.hd hc) st (show s.heap.IsTuple a its.toArray from p) (by simp;omega) fun h' eb=>⟨rfl,I.turned (t':=s.toks) (fun b o hb e=>eb b o hb e) f0 f1 f3 f4 f5⟩
 self:=fun _ _ _ _ _ st h=>wpAny_pyIter_tupleiter st h
theorem zgR {P:Program}{w:World}{K:Frag}{tg:Expr}(it:Addr)(lo:Int)(n:Nat):Turn P w K tg (Itr lo n) [it] it (fun i h=>IsRangeIter h it (lo+(i:Nat)*1) ((n:Int)-(i:Nat)) 1) where
 mem:=by simp
 obj:=fun i h st b hb=>by
  have e:b=it:=by simpa using hb
  subst e
  exact⟨_,st,fun v z=>by
   have z':Data.fields _=Data.cell v:=z
   cases z'⟩
 keep:=fun i h h' st k=>k it (by simp) _ st
 item:=by
  intro X hP hw hK hc i pins s σ H E I hf st hg
  subst hP hw hK
  obtain⟨f0,f1,f2,f3,f4,f5⟩:=hf it (by simp)
  have W:=Walks.range (prog:=X.prog) (w:=X.w) (I.ok.hd hc) it lo 1 n
  refine W.item i s _ _ hg st fun v h' tk hv st' kk=>?_
  obtain⟨t,rfl⟩:=hv
  have I1:Inv X pins σ H { s with heap:=h',toks:=tk }:=I.turned (fun b o hb e=>kk b o (by simpa using hb) e) f0 f1 f3 f4 f5
  refine⟨_,rfl,zh1 (s:={ s with heap:=h',toks:=tk }) (n := "range_iterator") st' rfl rfl (by decide) ⟨.int (lo+i),H,I1,⟨t,?_⟩,⟨rfl,rfl⟩,st',fun b hb=>(hf b hb).1⟩⟩
  rw[Int.mul_one]
 done:=by
  intro X hP hw hK hc i pins s σ H E I hf st hg
  subst hP hw hK
  obtain⟨f0,f1,f2,f3,f4,f5⟩:=hf it (by simp)
  exact wpAny_pyNext_range_end (I.ok.hd hc) st (by have:n<=i:=hg;omega) fun h' eb=>⟨rfl,I.turned (t':=s.toks) (fun b o hb e=>eb b o hb e) f0 f1 f3 f4 f5⟩
 self:=fun _ _ _ _ _ st h=>wpAny_pyIter_rangeiter st h
section
variable {X:Cx}{tg:Expr}
def zpj (K:Frag)(tl:TE):TI:=fun σ H R=>tl σ H fun x H1=>∃a,x=.ref a/\(∃xs,zX K H1 a xs)/\R (Itl K a) H1
def zry (K:Frag)(tl:TE):TI:=fun σ H R=>tl σ H fun x H1=>∃a,x=.ref a/\(∃xs,vO K H1 a xs)/\R (Itt K a) H1
theorem yZ {l:Expr}{tl:TE}(hl:PE X l tl):PI X tg l (zpj X.K tl):=by
 intro pins s σ H R I h
 refine vo (hl pins s σ H _ I h) fun v s1 ⟨x,H1,I1,r1,q1⟩=>?_
 obtain⟨a,e,⟨xs,hq⟩,q⟩:=q1
 subst e
 cases r1
 obtain⟨its,rv,p,hz⟩:=I1.list hq
 refine wpAny_pyIter_list p.isList ?_
 refine⟨s1.heap.objs.size,[s1.heap.objs.size],_,_,H1,rfl,I1.kept (t':=s1.toks) fun b o e=>zvG _ e,ziV a _,⟨_,zvU _ rfl,rfl,rfl⟩,fun b hb=>?_,q⟩
 have e:b=s1.heap.objs.size:=by simpa using hb
 subst e
 exact I1.ziT (zvQ _) (I1.hok.fresh (zvQ _))
theorem zbu {l:Expr}{tl:TE}(hl:PE X l tl):PI X tg l (zry X.K tl):=by
 intro pins s σ H R I h
 refine vo (hl pins s σ H _ I h) fun v s1 ⟨x,H1,I1,r1,q1⟩=>?_
 obtain⟨a,e,⟨xs,hq⟩,q⟩:=q1
 subst e
 cases r1
 obtain⟨its,rv,p,hz⟩:=I1.tuple hq
 refine wpAny_pyIter_tuple (show s1.heap.IsTuple a its.toArray from p) ?_
 refine⟨s1.heap.objs.size,[s1.heap.objs.size],_,_,H1,rfl,I1.kept (t':=s1.toks) fun b o e=>zvG _ e,zgQ a _,⟨_,zvU _ rfl,rfl,rfl⟩,fun b hb=>?_,q⟩
 have e:b=s1.heap.objs.size:=by simpa using hb
 subst e
 exact I1.ziT (zvQ _) (I1.hok.fresh (zvQ _))
theorem zfh {pins:List (Addr×Obj)}{σ:St}{H:Hp}{s:Shared}{R:It->Hp->Prop}{E:Value->Shared->Prop}{lo hi:Int}{t u v:Tok}{tk:Nat}(I:Inv X pins σ H s)(h1:-(2^62)<=lo)(h2:lo<2^62)(h3:-(2^62)<=hi)(h4:hi<2^62)
  (q:R (Itr lo (hi-lo).toNat) H):wpAny (model X.prog X.w) X.A (pyIter (.ref s.heap.objs.size)) (PIE X pins σ tg R) E { s with heap:=s.heap.push { cls:=.type "range", data:=.fields #[.int lo t,.int hi u,.int 1 v] },toks:=tk }:=by
 refine wpAny_pyIter_range (IsRange.new ..) (small_one h1 h2 h3 h4) ?_
 have I1:Inv X pins σ H { s with heap:=s.heap.push { cls:=.type "range", data:=.fields #[.int lo t,.int hi u,.int 1 v] },toks:=tk }:=I.kept fun b o e=>zvG _ e
 refine⟨(s.heap.push { cls:=.type "range", data:=.fields #[.int lo t,.int hi u,.int 1 v] }).objs.size,[(s.heap.push { cls:=.type "range", data:=.fields #[.int lo t,.int hi u,.int 1 v] }).objs.size],_,_,H,rfl,
  I1.kept (t':=tk) fun b o e=>zvG _ e,zgR _ lo (hi-lo).toNat,?_,fun b hb=>?_,q⟩
 ·have e1:lo+((0:Nat):Int)*1=lo:=by simp
  have e2:(((hi-lo).toNat:Nat):Int)-((0:Nat):Int)=Builtin.Range.rangeSize lo hi 1:=by rw[rangeSize_one];split<;>omega
  show IsRangeIter _ _ (lo+((0:Nat):Int)*1) ((((hi-lo).toNat:Nat):Int)-((0:Nat):Int)) 1
  rw[e1,e2]
  exact zvU _ rfl
 ·have e:b=(s.heap.push { cls:=.type "range", data:=.fields #[.int lo t,.int hi u,.int 1 v] }).objs.size:=by simpa using hb
  subst e
  exact I1.ziT (zvQ _) (I1.hok.fresh (zvQ _))
def zpk (ta:TA):TI:=fun σ H R=>ta σ H fun vs H1=>∃j:Int,vs=[.int j]/\-(2^62)<=j/\j<2^62/\R (Itr 0 j.toNat) H1
def zpl (ta:TA):TI:=fun σ H R=>ta σ H fun vs H1=>∃i j:Int,vs=[.int i,.int j]/\(-(2^62)<=i/\i<2^62/\-(2^62)<=j/\j<2^62)/\R (Itr i (j-i).toNat) H1
theorem Wk {a:Expr}{ta:TA}{p pos:Pos}(hg:Gl X "range")(hm:X.mg "range"=none)(ha:PA X [a] ta)(hs:starEach [a] X.env=[(false,eval a X.env)]:=by rfl):PI X tg (.Call (.Name "range" p) [a] [] pos) (zpk ta):=by
 intro pins s σ H R I h
 refine Call_ (V7 I hg hm boot_range (PyProof.Rows.callWith_type1 (vo (ha pos pins s σ H _ I h) fun us s1 ⟨vs,H1,I1,r1,q1⟩=>?_) hs rfl))
 obtain⟨j,e,q1,q2,q⟩:=q1
 subst e
 cases r1 with
 | cons r rr =>
  cases rr
  obtain⟨t,rfl⟩:=r
  exact call_range_1 (zfh I1 (by omega) (by omega) q1 q2 (by simpa using q))
theorem zdi {a b:Expr}{ta:TA}{p pos:Pos}(hg:Gl X "range")(hm:X.mg "range"=none)(ha:PA X [a,b] ta)(hs:starEach [a,b] X.env=[(false,eval a X.env),(false,eval b X.env)]:=by rfl)(hs2:starEach [b] X.env=[(false,eval b X.env)]:=by rfl) :
  PI X tg (.Call (.Name "range" p) [a,b] [] pos) (zpl ta):=by
 intro pins s σ H R I h
 refine Call_ (V7 I hg hm boot_range (PyProof.Rows.callWith_type1 (vo (ha pos pins s σ H _ I h) fun us s1 ⟨vs,H1,I1,r1,q1⟩=>?_) (by rw[hs,hs2]) (by rw[hs2];rfl)))
 obtain⟨i,j,e,⟨q1,q2,q3,q4⟩,q⟩:=q1
 subst e
 cases r1 with
 | cons r rr =>
  cases rr with
  | cons r' rr =>
   cases rr
   obtain⟨t,rfl⟩:=r
   obtain⟨t',rfl⟩:=r'
   exact call_range_2 (zfh I1 q1 q2 q3 q4 q)
def zrz (wi:TI)(g:TG)(tb:TS):TS:=fun D σ H=>wi σ H fun J H1=>∃W:Nat->Nat->St->Hp->Prop,(∃m,W 0 m σ H1)/\∀i m σ H,W i m σ H ->
 (J.stop i H/\D.nx σ H)\/(J.go i H/\∃N:St->Hp->Prop,(∀ σ' H',N σ' H'->∃m',m'<m/\W (i+1) m' σ' H')/\∀x H',J.yld i H x H'->g x σ H' fun σ2 H2=>tb { D with nx:=N,ct:=N,bk:=D.nx } σ2 H2)
def N7 (fp:List Addr)(h:Heap):List (Addr×Obj):=fp.filterMap fun b=>(h.get? b).map fun o=>(b,o)
theorem TX {fp:List Addr}{h:Heap}{b:Addr}{o:Obj}(hb:b∈fp)(e:h.get? b=some o):(b,o)∈N7 fp h:=List.mem_filterMap.mpr ⟨b,hb,by rw[e];rfl⟩
theorem zdj {fp:List Addr}{h:Heap}{p:Addr×Obj}(hp:p∈N7 fp h):p.1∈fp/\h.get? p.1=some p.2:=by
 obtain⟨b,hb,e⟩:=List.mem_filterMap.mp hp
 cases q:h.get? b with
 | none=>rw[q] at e;cases e
 | some o =>
  rw[q] at e
  have e':(b,o)=p:=zv4 e
  subst e'
  exact⟨hb,q⟩
theorem Inv.pinned {pins:List (Addr×Obj)}{σ:St}{H:Hp}{s:Shared}{fp:List Addr}(I:Inv X pins σ H s)(hf:∀b∈fp,zcK X pins H b)(ho:∀b∈fp,∃o,s.heap.get? b=some o/\∀v,o.data≠.cell v):Inv X (pins++N7 fp s.heap) σ H s :=
 I.TJ fun p hp=>(List.mem_append.mp hp).elim (fun z=>I.pin p (zvR _ z)) fun z=>by
  obtain⟨hb,e⟩:=zdj z
  obtain⟨f0,f1,f2,_⟩:=hf p.1 hb
  obtain⟨o,e',d⟩:=ho p.1 hb
  rw[e] at e';cases e'
  exact⟨e,f0,f1,f2,d⟩
theorem Inv.zbv {pins pl:List (Addr×Obj)}{σ:St}{H:Hp}{s:Shared}(I:Inv X (pins++pl) σ H s):Inv X pins σ H s:=I.TJ fun p hp=>I.pin p (zvR _ (List.mem_append_left _ hp))
theorem ZP {iter:Expr}{body:List Stmt}{wi:TI}{g:TG}{tb:TS}{pos:Pos}(hp:PassesOwn (model X.prog X.w) X.A X.env X.xe)(hc:X.calm=true)(hi:PI X tg iter wi)(hg:PG X tg g)(hb:PSs X body tb)
  (hs:∀x,foldedSetIterable iter X.env x=pure x:=by intro _;rfl):PS X (.For tg iter body [] pos) (zrz wi g tb):=by
 intro pins s σ H D I h
 refine wpAny_For (vo (hi pins s σ H _ I h) fun v s1 h1=>vo h1 fun itv s2 h2=>?_) hs
 obtain⟨it,fp,tn,J,H2,e,I2,T,st2,f2,W,⟨m0,w0⟩,turn⟩:=h2
 subst e
 have stat:∀{H':Hp},(∀b∈fp,H' b=none)->∀b∈fp,zcK X pins H' b:=fun hn b hb=>⟨hn b hb,(f2 b hb).2⟩
 refine codeAny_forLoop_any (fun n s'=>∃i σ' H',Inv X pins σ' H' s'/\tn i s'.heap/\(∀b∈fp,H' b=none)/\W i n σ' H') ?_ m0 ⟨0,σ,H2,I2,st2,fun b hb=>(f2 b hb).1,w0⟩
 rintro n s3 ⟨i,σ3,H3,I3,st3,fr3,w3⟩
 rcases turn i n σ3 H3 w3 with ⟨stop,qn⟩ | ⟨go,N,hN,step⟩
 ·refine wpAny_passesOwn hp (vo (T.done X rfl rfl rfl hc i pins s3 σ3 H3 X.xe I3 (stat fr3) st3 stop) fun r s4 ⟨hr,I4⟩=>?_)
  subst hr
  exact wpAny_execs_nil ⟨σ3,H3,I4,qn⟩
 ·refine wpAny_passesOwn hp (vo (T.item X rfl rfl rfl hc i pins s3 σ3 H3 X.xe I3 (stat fr3) st3 go) fun r s4 ⟨u,hr,h4⟩=>?_)
  subst hr
  refine wpAny_passesOwn hp (vo h4 fun _ s5 ⟨x,H5,I5,r5,y5,st5,fr5⟩=>?_)
  have I5':=I5.pinned (stat fr5) (T.obj _ _ st5)
  refine wpAny_passesOwn hp (vo (hg _ s5 σ3 H5 x u _ I5' r5 (step x H5 y5)) fun _ s6 ⟨σ6,H6,I6,q6⟩=>?_)
  refine wpAny_passesOwn hp (vo (hb _ s6 σ6 H6 _ I6 q6) fun f s7 q7=>?_)
  have again:∀{σ7:St} {H7:Hp},Inv X (pins++N7 fp s5.heap) σ7 H7 s7->N σ7 H7->∃m,m<n/\∃i σ' H',Inv X pins σ' H' s7/\tn i s7.heap/\(∀b∈fp,H' b=none)/\W i m σ' H':=fun {σ7 H7} I7 n7=>by
   obtain⟨m',hm,w7⟩:=hN σ7 H7 n7
   refine⟨m',hm,i+1,σ7,H7,I7.zbv,T.keep _ _ _ st5 fun b hb o e=>(I7.pin (b,o) (zvR _ (zvR _ (TX hb e)))).1,fun b hb=>?_,w7⟩
   obtain⟨o,e,d⟩:=T.obj _ _ st5 b hb
   exact(I7.pin (b,o) (zvR _ (zvR _ (TX hb e)))).2.1
  cases f with
  | next=>obtain⟨σ7,H7,I7,n7⟩:=q7;exact again I7 n7
  | cont=>obtain⟨σ7,H7,I7,n7⟩:=q7;exact again I7 n7
  | brk=>obtain⟨σ7,H7,I7,q7⟩:=q7;exact⟨σ7,H7,I7.zbv,q7⟩
  | ret v=>obtain⟨x7,σ7,H7,I7,r7,q7⟩:=q7;exact⟨x7,σ7,H7,I7.zbv,r7,q7⟩
end
theorem WQ {K:Frag}{a:Addr}{xs:List V}{g:TG}{tb:TS}{D:Ends}{σ:St}{H:Hp}(Pv:Nat->St->Hp->Prop)(h0:Pv 0 σ H)(hl:∀i σ H,i<=xs.length->Pv i σ H->zX K H a xs)
  (hs:∀i x σ H,xs[i]?=some x->Pv i σ H->g x σ H fun σ2 H2=>tb { D with nx:=Pv (i+1),ct:=Pv (i+1),bk:=D.nx } σ2 H2)(hd:∀ σ H,Pv xs.length σ H->D.nx σ H) :
  ∃W:Nat->Nat->St->Hp->Prop,(∃m,W 0 m σ H)/\∀i m σ H,W i m σ H ->
   ((Itl K a).stop i H/\D.nx σ H)\/((Itl K a).go i H/\∃N:St->Hp->Prop,(∀ σ' H',N σ' H'->∃m',m'<m/\W (i+1) m' σ' H')/\∀x H',(Itl K a).yld i H x H'->g x σ H' fun σ2 H2=>tb { D with nx:=N,ct:=N,bk:=D.nx } σ2 H2):=by
 refine⟨fun i m σ H=>m=xs.length-i/\i<=xs.length/\Pv i σ H,⟨xs.length,by simp,zvW _,h0⟩,?_⟩
 rintro i m σ H ⟨rfl,hi,p⟩
 have q:=hl i σ H hi p
 by_cases hlt:i<xs.length
 ·refine .inr ⟨⟨xs,xs[i],q,by simp[hlt]⟩,Pv (i+1),fun σ' H' p'=>⟨xs.length-(i+1),by omega,rfl,hlt,p'⟩,fun x H' y=>?_⟩
  obtain⟨e,y⟩:=y
  subst e
  exact hs i x σ _ (y xs q) p
 ·have e:i=xs.length:=by omega
  subst e
  exact .inl ⟨⟨xs,q,zvQ _⟩,hd σ H p⟩
theorem Wm {lo:Int}{n:Nat}{g:TG}{tb:TS}{D:Ends}{σ:St}{H:Hp}(Pv:Nat->St->Hp->Prop)(h0:Pv 0 σ H)
  (hs:∀i σ H,i<n->Pv i σ H->g (.int (lo+i)) σ H fun σ2 H2=>tb { D with nx:=Pv (i+1),ct:=Pv (i+1),bk:=D.nx } σ2 H2)(hd:∀ σ H,Pv n σ H->D.nx σ H) :
  ∃W:Nat->Nat->St->Hp->Prop,(∃m,W 0 m σ H)/\∀i m σ H,W i m σ H ->
   ((Itr lo n).stop i H/\D.nx σ H)\/((Itr lo n).go i H/\∃N:St->Hp->Prop,(∀ σ' H',N σ' H'->∃m',m'<m/\W (i+1) m' σ' H')/\∀x H',(Itr lo n).yld i H x H'->g x σ H' fun σ2 H2=>tb { D with nx:=N,ct:=N,bk:=D.nx } σ2 H2):=by
 refine⟨fun i m σ H=>m=n-i/\i<=n/\Pv i σ H,⟨n,by simp,zvW _,h0⟩,?_⟩
 rintro i m σ H ⟨rfl,hi,p⟩
 by_cases hlt:i<n
 ·refine .inr ⟨hlt,Pv (i+1),fun σ' H' p'=>⟨n-(i+1),by omega,rfl,hlt,p'⟩,fun x H' y=>?_⟩
  obtain⟨e,y⟩:=y
  subst e y
  exact hs i σ _ hlt p
 ·have e:i=n:=by omega
  subst e
  exact .inl ⟨zvQ _,hd σ H p⟩
abbrev R2:=V->V->Hp->VK->Prop
def Vp (X:Cx)(f:Value->Value->Sem Value)(r:R2):Prop :=
 ∀(pins:List (Addr×Obj)) (s:Shared) (σ:St) (H:Hp) (x y:V) (v u:Value) (Q:VK),Inv X pins σ H s->RelV x v->RelV y u->r x y H Q ->
  wpAny (model X.prog X.w) X.A (f v u) (EP X pins σ Q) X.xe s
def UnR (X:Cx)(f:Value->Sem Value)(r:V->Hp->VK->Prop):Prop :=
 ∀(pins:List (Addr×Obj)) (s:Shared) (σ:St) (H:Hp) (x:V) (v:Value) (Q:VK),Inv X pins σ H s->RelV x v->r x H Q ->
  wpAny (model X.prog X.w) X.A (f v) (EP X pins σ Q) X.xe s
def WR (X:Cx)(f:Value)(r:List V->Hp->VK->Prop):Prop :=
 ∀(pins:List (Addr×Obj)) (s:Shared) (σ:St) (H:Hp) (xs:List V) (us:List Value) (Q:VK),Inv X pins σ H s->Vals xs us->r xs H Q ->
  wpAny (model X.prog X.w) X.A (call f us) (EP X pins σ Q) X.xe s
def zrC (X:Cx)(r:V->Hp->(Bool->Hp->Prop)->Prop):Prop :=
 ∀(pins:List (Addr×Obj)) (s:Shared) (σ:St) (H:Hp) (x:V) (v:Value) (Q:Bool->Hp->Prop),Inv X pins σ H s->RelV x v->r x H Q ->
  wpAny (model X.prog X.w) X.A (truthy v) (TP X pins σ Q) X.xe s
def tOp (r:R2)(ta tb:TE):TE:=fun σ H Q=>ta σ H fun x H1=>tb σ H1 fun y H2=>r x y H2 Q
def tUn (r:V->Hp->VK->Prop)(ta:TE):TE:=fun σ H Q=>ta σ H fun x H1=>r x H1 Q
def rI (C:Int->Int->Prop)(g:Int->Int->V):R2:=fun x y H Q=>∃i j,x=.int i/\y=.int j/\C i j/\Q (g i j) H
def rI0 (g:Int->Int->V):R2:=fun x y H Q=>∃i j,x=.int i/\y=.int j/\Q (g i j) H
def rU (g:Int->V):V->Hp->VK->Prop:=fun x H Q=>∃i,x=.int i/\Q (g i) H
section
variable {X:Cx}{a b c:Expr}{ta tb tc:TE}{pos:Pos}
theorem znO (ha:PE X a ta)(hb:PE X b tb){pins:List (Addr×Obj)}{s:Shared}{σ:St}{H:Hp}{R:V->V->Hp->Prop}(I:Inv X pins σ H s)
  (h:ta σ H fun x H1=>tb σ H1 fun y H2=>R x y H2){Q:Value->Shared->Prop}{f:Value->Value->Sem Value}
  (hf:∀v u s2 x y H2,Inv X pins σ H2 s2->RelV x v->RelV y u->R x y H2->wpAny (model X.prog X.w) X.A (f v u) Q X.xe s2) :
  wpAny (model X.prog X.w) X.A (eval a X.env) (fun v s₁=>wpAny (model X.prog X.w) X.A (eval b X.env) (fun u s₂=>wpAny (model X.prog X.w) X.A (f v u) Q X.xe s₂) X.xe s₁) X.xe s:=by
 refine vo (ha pins s σ H _ I h) fun v s1 ⟨x,H1,I1,r1,q1⟩=>?_
 refine vo (hb pins s1 σ H1 _ I1 q1) fun u s2 ⟨y,H2,I2,r2,q2⟩=>?_
 exact hf v u s2 x y H2 I2 r1 r2 q2
theorem zQ {op:Operator}{r:R2}(ho:Vp X (binaryOp op) r)(ha:PE X a ta)(hb:PE X b tb):PE X (.BinOp a op b pos) (tOp r ta tb):=by
 intro pins s σ H Q I h
 exact wpAny_BinOp (znO ha hb I h fun v u s2 x y H2 I2 rx ry q=>ho pins s2 σ H2 x y v u Q I2 rx ry q)
theorem RX {op:UnaryOp}{r:V->Hp->VK->Prop}(ho:UnR X (unaryOp op) r)(ha:PE X a ta):PE X (.UnaryOp op a pos) (tUn r ta):=by
 intro pins s σ H Q I h
 exact UnaryOp_ (vo (ha pins s σ H _ I h) fun v s1 ⟨x,H1,I1,r1,q1⟩=>ho pins s1 σ H1 x v Q I1 r1 q1)
theorem opI {f:Value->Value->Sem Value}{C:Int->Int->Prop}{g:Int->Int->Int}
  (rule:∀(i j:Int) (t u:Tok) (s:Shared) (Q:Value->Shared->Prop) (E:Value->Shared->Prop),C i j->Q (.int (g i j) s.toks) { s with toks:=s.toks+1 }->wpAny (model X.prog X.w) X.A (f (.int i t) (.int j u)) Q E s) :
  Vp X f (rI C fun i j=>.int (g i j)):=by
 intro pins s σ H x y v u Q I rx ry h
 obtain⟨i,j,rfl,rfl,hc,q⟩:=h
 obtain⟨t,rfl⟩:=rx
 obtain⟨t',rfl⟩:=ry
 exact rule i j t t' s _ _ hc ⟨.int (g i j),H,I.tok _,⟨_,rfl⟩,q⟩
theorem ziW {f:Value->Value->Sem Value}{g:Int->Int->Int}
  (rule:∀(i j:Int) (t u:Tok) (s:Shared) (Q:Value->Shared->Prop) (E:Value->Shared->Prop),Q (.int (g i j) s.toks) { s with toks:=s.toks+1 }->wpAny (model X.prog X.w) X.A (f (.int i t) (.int j u)) Q E s) :
  Vp X f (rI0 fun i j=>.int (g i j)):=by
 intro pins s σ H x y v u Q I rx ry h
 obtain⟨i,j,rfl,rfl,q⟩:=h
 obtain⟨t,rfl⟩:=rx
 obtain⟨t',rfl⟩:=ry
 exact rule i j t t' s _ _ ⟨.int (g i j),H,I.tok _,⟨_,rfl⟩,q⟩
theorem zlH {f:Value->Value->Sem Value}{g:Int->Int->Bool}
  (rule:∀(i j:Int) (t u:Tok) (s:Shared) (Q:Value->Shared->Prop) (E:Value->Shared->Prop),Q (.bool (g i j)) s->wpAny (model X.prog X.w) X.A (f (.int i t) (.int j u)) Q E s) :
  Vp X f (rI0 fun i j=>.bl (g i j)):=by
 intro pins s σ H x y v u Q I rx ry h
 obtain⟨i,j,rfl,rfl,q⟩:=h
 obtain⟨t,rfl⟩:=rx
 obtain⟨t',rfl⟩:=ry
 exact rule i j t t' s _ _ ⟨.bl (g i j),H,I,rfl,q⟩
def zrD (i j:Int):Prop:=0<j/\j<1073741824
def zrE (i j:Int):Prop:=0<=j/\j<=1000000/\i.natAbs<2^64
def znP (i j:Int):Prop:=(-(2^64)<i/\i<2^64)\/(-(2^64)<j/\j<2^64)
theorem znP.ok {i j:Int}(h:znP i j):IntMulOk i j:=by
 rcases h with ⟨h1,h2⟩ | ⟨h1,h2⟩
 ·exact .of_left (intBits_le_64 h1 h2)
 ·exact .of_right (intBits_le_64 h1 h2)
theorem zgS (k:Nat):(0:Int)<=2^k:=by
 rw[two_pow_cast]
 exact Int.natCast_nonneg _
theorem vq:Vp X (binaryOp .Add) (rI0 fun i j=>.int (i+j)):=ziW fun _ _ _ _ _ _ _ q=>add_int q
theorem Yy:Vp X (binaryOp .Sub) (rI0 fun i j=>.int (i-j)):=ziW fun _ _ _ _ _ _ _ q=>sub_int q
theorem Jr:Vp X (binaryOp .Mult) (rI znP fun i j=>.int (i*j)):=opI fun _ _ _ _ _ _ _ hc q=>mul_int q hc.ok
theorem zh3:Vp X (binaryOp .FloorDiv) (rI zrD fun i j=>.int (i / j)):=opI fun i j _ _ _ _ _ hc q=>by
 have h1:(0:Int)<j:=hc.1
 have h2:j<1073741824:=hc.2
 exact floordiv_int (by omega) (by rw[Int.fdiv_eq_ediv_of_nonneg i (by omega)];exact q) (.inl (PyProof.noPylong_small (by omega)))
theorem Yz:Vp X (binaryOp .Mod) (rI (fun _ j=>0<j) fun i j=>.int (i%j)):=opI fun i j _ _ _ _ _ hc q=>by
 have h1:(0:Int)<j:=hc
 exact mod_int' (by omega) (by rw[Int.fmod_eq_emod_of_nonneg i (by omega)];exact q)
theorem zgT:Vp X (binaryOp .Pow) (rI zrE fun i j=>.int (i^j.toNat)):=opI fun _ _ _ _ _ _ _ hc q=>pow_int_small hc.1 hc.2.1 hc.2.2 q
theorem znQ:Vp X (binaryOp .RShift) (rI (fun _ j=>0<=j) fun i j=>.int (i / 2^j.toNat)):=opI fun i j _ _ _ _ _ hc q =>
 rshift_int hc (by rw[Int.fdiv_eq_ediv_of_nonneg i (zgS _)];exact q)
theorem znR:Vp X (binaryOp .BitAnd) (rI0 fun i j=>.int (Builtin.bitAnd i j)):=ziW fun _ _ _ _ _ _ _ q=>and_int q
theorem zpo:Vp X (binaryOp .BitOr) (rI0 fun i j=>.int (Builtin.bitOr i j)):=ziW fun _ _ _ _ _ _ _ q=>or_int q
theorem znS:Vp X (binaryOp .BitXor) (rI0 fun i j=>.int (Builtin.bitXor i j)):=ziW fun _ _ _ _ _ _ _ q=>xor_int q
theorem zd4:Vp X (inplaceOp .Add) (rI0 fun i j=>.int (i+j)):=ziW fun _ _ _ _ _ _ _ q=>iadd_int q
theorem unI {f:Value->Sem Value}{g:Int->Int}
  (rule:∀(i:Int) (t:Tok) (s:Shared) (Q:Value->Shared->Prop) (E:Value->Shared->Prop),Q (.int (g i) s.toks) { s with toks:=s.toks+1 }->wpAny (model X.prog X.w) X.A (f (.int i t)) Q E s) :
  UnR X f (rU fun i=>.int (g i)):=by
 intro pins s σ H x v Q I rx h
 obtain⟨i,rfl,q⟩:=h
 obtain⟨t,rfl⟩:=rx
 exact rule i t s _ _ ⟨.int (g i),H,I.tok _,⟨_,rfl⟩,q⟩
theorem WT:UnR X (unaryOp .USub) (rU fun i=>.int (-i)):=unI fun _ _ _ _ _ q=>neg_int q
end
def zpp:V->V->Bool
 | .non,.non=>true | .non,.int _=>true | .int _,.non=>true | .non,.bl _=>true | .bl _,.non=>true | .non,.str _=>true | .str _,.non=>true
 | .int _,.int _=>true | .bl _,.bl _=>true | .str _,.str _=>true | .byt _,.byt _=>true
 | .int _,.str _=>true | .str _,.int _=>true | .bl _,.str _=>true | .str _,.bl _=>true
 | _,_=>false
def rEq:R2:=fun x y H Q=>zpp x y=true/\Q (.bl (decide (x=y))) H
def rNe:R2:=fun x y H Q=>zpp x y=true/\Q (.bl (!decide (x=y))) H
theorem zh4 {i j:Int}:decide (V.int i=V.int j)=(i==j):=by
 rw[zwd]
 simp
theorem zj2 {i j:Bool}:decide (V.bl i=V.bl j)=(i==j):=by
 rw[zwd]
 simp
theorem zh5 {i j:Str}:decide (V.str i=V.str j)=(i==j):=by
 rw[zwd]
 simp
theorem zh6 {i j:Array UInt8}:decide (V.byt i=V.byt j)=(i.toList==j.toList):=by
 rw[zwd]
 cases i
 cases j
 simp
section
variable {X:Cx}{a b c:Expr}{ta tb tc:TE}{pos:Pos}
theorem xQ {pins:List (Addr×Obj)}{σ:St}{H:Hp}{s:Shared}{Q:VK}{k k':Bool}(I:Inv X pins σ H s)(q:Q (.bl k) H)(e:k=k'):EP X pins σ Q (.bool k') s:=by
 subst e
 exact⟨.bl k,H,I,rfl,q⟩
theorem xG:Vp X (compareOp .Eq) rEq:=by
 intro pins s σ H x y v u Q I rx ry h
 obtain⟨hs,q⟩:=h
 cases x with
 | non =>
  cases rx
  cases y with
  | non=>cases ry;exact PySem.EqNone.eq_none_none (xQ I q (by simp))
  | bl j=>cases ry;exact PySem.EqNone.eq_none_bool (xQ I q (by simp))
  | int j=>obtain⟨t',rfl⟩:=ry;exact PySem.EqNone.eq_none_int (xQ I q (by simp))
  | str j=>obtain⟨t',rfl⟩:=ry;exact PySem.EqNone.eq_none_str (xQ I q (by simp))
  | _=>exact absurd (show false=true from hs) zvE
 | bl i =>
  cases rx
  cases y with
  | non=>cases ry;exact PySem.EqNone.eq_bool_none (xQ I q (by simp))
  | bl j=>cases ry;exact eq_bool (xQ I q zj2)
  | str j=>obtain⟨t',rfl⟩:=ry;exact PySem.EqMixed.eq_bool_str (xQ I q (by simp))
  | _=>exact absurd (show false=true from hs) zvE
 | int i =>
  obtain⟨t,rfl⟩:=rx
  cases y with
  | non=>cases ry;exact PySem.EqNone.eq_int_none (xQ I q (by simp))
  | int j=>obtain⟨t',rfl⟩:=ry;exact eq_int (xQ I q zh4)
  | str j=>obtain⟨t',rfl⟩:=ry;exact PySem.EqMixed.eq_int_str (xQ I q (by simp))
  | _=>exact absurd (show false=true from hs) zvE
 | str i =>
  obtain⟨t,rfl⟩:=rx
  cases y with
  | non=>cases ry;exact PySem.EqNone.eq_str_none (xQ I q (by simp))
  | bl j=>cases ry;exact PySem.EqMixed.eq_str_bool (xQ I q (by simp))
  | int j=>obtain⟨t',rfl⟩:=ry;exact PySem.EqMixed.eq_str_int (xQ I q (by simp))
  | str j=>obtain⟨t',rfl⟩:=ry;exact eq_str (xQ I q zh5)
  | _=>exact absurd (show false=true from hs) zvE
 | byt i =>
  obtain⟨t,rfl⟩:=rx
  cases y with
  | byt j=>obtain⟨t',rfl⟩:=ry;exact PySem.W.eq_bytes (xQ I q zh6)
  | _=>exact absurd (show false=true from hs) zvE
 | _=>cases y<;>exact absurd (show false=true from hs) zvE
theorem Lg:Vp X (compareOp .NotEq) rNe:=by
 intro pins s σ H x y v u Q I rx ry h
 obtain⟨hs,q⟩:=h
 cases x with
 | non =>
  cases rx
  cases y with
  | non=>cases ry;exact PySem.EqNone.ne_none_none (xQ I q (by simp))
  | bl j=>cases ry;exact PySem.EqNone.ne_none_bool (xQ I q (by simp))
  | int j=>obtain⟨t',rfl⟩:=ry;exact PySem.EqNone.ne_none_int (xQ I q (by simp))
  | str j=>obtain⟨t',rfl⟩:=ry;exact PySem.EqNone.ne_none_str (xQ I q (by simp))
  | _=>exact absurd (show false=true from hs) zvE
 | bl i =>
  cases rx
  cases y with
  | non=>cases ry;exact PySem.EqNone.ne_bool_none (xQ I q (by simp))
  | bl j=>cases ry;exact ne_bool (xQ I q (congrArg not zj2))
  | str j=>obtain⟨t',rfl⟩:=ry;exact PySem.EqMixed.ne_bool_str (xQ I q (by simp))
  | _=>exact absurd (show false=true from hs) zvE
 | int i =>
  obtain⟨t,rfl⟩:=rx
  cases y with
  | non=>cases ry;exact PySem.EqNone.ne_int_none (xQ I q (by simp))
  | int j=>obtain⟨t',rfl⟩:=ry;exact ne_int (xQ I q (congrArg not zh4))
  | str j=>obtain⟨t',rfl⟩:=ry;exact PySem.EqMixed.ne_int_str (xQ I q (by simp))
  | _=>exact absurd (show false=true from hs) zvE
 | str i =>
  obtain⟨t,rfl⟩:=rx
  cases y with
  | non=>cases ry;exact PySem.EqNone.ne_str_none (xQ I q (by simp))
  | bl j=>cases ry;exact PySem.EqMixed.ne_str_bool (xQ I q (by simp))
  | int j=>obtain⟨t',rfl⟩:=ry;exact PySem.EqMixed.ne_str_int (xQ I q (by simp))
  | str j=>obtain⟨t',rfl⟩:=ry;exact ne_str (xQ I q (congrArg not zh5))
  | _=>exact absurd (show false=true from hs) zvE
 | byt i =>
  obtain⟨t,rfl⟩:=rx
  cases y with
  | byt j=>obtain⟨t',rfl⟩:=ry;exact PySem.W.ne_bytes (xQ I q (congrArg not zh6))
  | _=>exact absurd (show false=true from hs) zvE
 | _=>cases y<;>exact absurd (show false=true from hs) zvE
theorem zbw:Vp X (compareOp .Lt) (rI0 fun i j=>.bl (decide (i<j))):=zlH fun _ _ _ _ _ _ _ q=>lt_int q
theorem Nj:Vp X (compareOp .LtE) (rI0 fun i j=>.bl (decide (i<=j))):=zlH fun _ _ _ _ _ _ _ q=>le_int q
theorem zdk:Vp X (compareOp .Gt) (rI0 fun i j=>.bl (decide (j<i))):=zlH fun _ _ _ _ _ _ _ q=>gt_int q
theorem zfi:Vp X (compareOp .GtE) (rI0 fun i j=>.bl (decide (j<=i))):=zlH fun _ _ _ _ _ _ _ q=>ge_int q
theorem Vp.or {f:Value->Value->Sem Value}{r r':R2}(h:Vp X f r)(h':Vp X f r'):Vp X f (fun x y H Q=>r x y H Q\/r' x y H Q):=by
 intro pins s σ H x y v u Q I rx ry q
 rcases q with q | q
 ·exact h pins s σ H x y v u Q I rx ry q
 ·exact h' pins s σ H x y v u Q I rx ry q
theorem zU (b:Expr){op:CmpOp}(h:op≠.In:=by decide)(h2:op≠.NotIn:=by decide):behindInMarks op b=false:=by
 have e1:(op==CmpOp.In)=false:=by cases op<;>first | rfl | exact absurd rfl h
 have e2:(op==CmpOp.NotIn)=false:=by cases op<;>first | rfl | exact absurd rfl h2
 cases b<;>simp[behindInMarks,e1,e2]
theorem wH {op:CmpOp}{r:R2}(ho:Vp X (compareOp op) r)(ha:PE X a ta)(hb:PE X b tb)(hm:behindInMarks op b=false):PE X (.Compare a [op] [b] pos) (tOp r ta tb):=by
 intro pins s σ H Q I h
 exact wpAny_Compare1 (znO ha hb I h fun v u s2 x y H2 I2 rx ry q=>ho pins s2 σ H2 x y v u Q I2 rx ry q) hm
inductive zpq (x:V)(k:Bool->Prop):Prop
 | mk (c:Bool) (_:x=.bl c) (_:k c):zpq x k
def zpr (t:TE):TT:=fun σ H Q=>t σ H fun x H'=>zpq x fun k=>Q k H'
theorem zT {op:CmpOp}{r:R2}(ho:Vp X (compareOp op) r)(ha:PE X a ta)(hb:PE X b tb)(hm:behindInMarks op b=false):PT X (.Compare a [op] [b] pos) (zpr (tOp r ta tb)):=by
 intro pins s σ H Q I h
 refine wpAny_isTrue_Compare1 (vo (ha pins s σ H _ I h) fun v s1 ⟨x,H1,I1,r1,q1⟩=>vo (hb pins s1 σ H1 _ I1 q1) fun u s2 ⟨y,H2,I2,r2,q2⟩ =>
  vo (ho pins s2 σ H2 x y v u _ I2 r1 r2 q2) fun c s3 ⟨z,H3,I3,r3,k,e,q3⟩=>?_) hm
 subst e
 cases r3
 exact wpAny_truthy_bool ⟨H3,I3,q3⟩
def znT (r r':R2)(ta tb tc:TE):TE:=fun σ H Q=>ta σ H fun x H1=>tb σ H1 fun y H2=>r x y H2 fun z H3=>∃k,z=.bl k /\
 (if k=true then tc σ H3 fun w' H4=>r' y w' H4 Q else Q (.bl false) H3)
theorem Lh {op op':CmpOp}{r r':R2}(ho:Vp X (compareOp op) r)(ho':Vp X (compareOp op') r')(ha:PE X a ta)(hb:PE X b tb)(hc:PE X c tc)
  (hm:lastMarks [op,op'] [b,c]=false:=by with_unfolding_all rfl):PE X (.Compare a [op,op'] [b,c] pos) (znT r r' ta tb tc):=by
 intro pins s σ H Q I h
 refine Compare_chain (vo (ha pins s σ H _ I h) fun v s1 ⟨x,H1,I1,r1,q1⟩=>chain_link (vo (hb pins s1 σ H1 _ I1 q1) fun u s2 ⟨y,H2,I2,r2,q2⟩ =>
  vo (ho pins s2 σ H2 x y v u _ I2 r1 r2 q2) fun d s3 ⟨z,H3,I3,r3,k,e,q3⟩=>?_)) hm
 subst e
 cases r3
 refine wpAny_truthy_bool ?_
 cases k with
 | false=>exact ite_ff ⟨.bl false,H3,I3,rfl,q3⟩
 | true=>exact ite_tt (chain_last (vo (hc pins s3 σ H3 _ I3 q3) fun w' s4 ⟨z',H4,I4,r4,q4⟩=>ho' pins s4 σ H4 y z' u w' Q I4 r2 r4 q4))
def znU (K:Frag)(x:V)(H:Hp)(k:Bool):Prop :=
 match x with
 | .non=>k=false
 | .bl b=>k=b
 | .int i=>k=(i != 0)
 | .str y=>y.length<=sizeLine/\k=((y.length:Int) != 0)
 | .byt y=>y.size<=sizeLine/\k=((y.size:Int) != 0)
 | .ref p=>(∃xs,zX K H p xs/\k=!xs.isEmpty)\/(∃xs,vO K H p xs/\k=!xs.isEmpty)\/∃kvs,H p=some (.dK kvs)/\k=!kvs.isEmpty
 | _=>False
theorem zgU {κ:Type}{kvs:List (κ×V)}{vs:List (κ×Value)}(r:KV kvs vs):(!vs.isEmpty)=!kvs.isEmpty:=by
 cases r<;>rfl
theorem zbx {xs:List V}{its:List Value}(r:Vals xs its):(!its.toArray.isEmpty)=!xs.isEmpty:=by
 cases r<;>simp
theorem RZ:(sizeLine:Nat)<2^63:=by rw[sizeLine_eq];decide
theorem znV:zrC X (fun x H Q=>∃k,znU X.K x H k/\Q k H):=by
 intro pins s σ H x v Q I rx h
 obtain⟨k,e,q⟩:=h
 have hl:=RZ
 have hs:sizeLine=16777216:=sizeLine_eq
 cases x with
 | non =>
  cases rx
  have e':k=false:=e
  subst e'
  exact truthy_none ⟨H,I,q⟩
 | bl b =>
  cases rx
  have e':k=b:=e
  subst e'
  exact wpAny_truthy_bool ⟨H,I,q⟩
 | int i =>
  obtain⟨t,rfl⟩:=rx
  have e':k=(i != 0):=e
  subst e'
  exact PySem.P.truthy_int ⟨H,I,q⟩
 | str y =>
  obtain⟨t,rfl⟩:=rx
  obtain⟨hy,e'⟩:y.length<=sizeLine/\k=((y.length:Int) != 0):=e
  subst e'
  exact PySem.P.truthy_str (by omega) ⟨H,I.tok _,q⟩
 | byt y =>
  obtain⟨t,rfl⟩:=rx
  obtain⟨hy,e'⟩:y.size<=sizeLine/\k=((y.size:Int) != 0):=e
  subst e'
  exact PySem.W.truthy_bytes (by omega) ⟨H,I.tok _,q⟩
 | ref p =>
  cases rx
  have e':(∃xs,zX X.K H p xs/\k=!xs.isEmpty)\/(∃xs,vO X.K H p xs/\k=!xs.isEmpty)\/∃kvs,H p=some (.dK kvs)/\k=!kvs.isEmpty:=e
  rcases e' with ⟨xs,hx,e'⟩ | ⟨xs,hx,e'⟩ | ⟨kvs,hx,e'⟩
  ·subst e'
   obtain⟨its,r,pl,hz⟩:=I.list hx
   have hlen:=r.length
   exact wpAny_truthy_list pl.isList (by simp only[zvK];omega) ⟨H,I.tok _,by rw[zbx r];exact q⟩
  ·subst e'
   obtain⟨its,r,pl,hz⟩:=I.tuple hx
   have hlen:=r.length
   exact truthy_tuple pl (by simp only[zvK];omega) ⟨H,I.tok _,by rw[zbx r];exact q⟩
  ·subst e'
   obtain⟨hz,hS,vs,r,m⟩:kvs.length<=sizeLine/\(p==sysModules)=false/\∃vs,KV kvs vs/\s.heap.DictOf (yS X.prog X.w) p vs:=I.hok p _ hx
   have hlen:kvs.length=vs.length:=Paired.length r
   exact wpAny_truthy_dict hS m (by omega) ⟨H,I.tok _,by rw[zgU r];exact q⟩
 | _=>exact(show False from e).elim
theorem yM (ha:PE X a ta)(he:∀whole,isTrue a X.env whole=(do let v <-whole;standAt a.pos;holding [v] (truthy v))) :
  PT X a (fun σ H Q=>ta σ H fun x H'=>∃k,znU X.K x H' k/\Q k H'):=by
 intro pins s σ H Q I h
 exact isTrue_plain (vo (ha pins s σ H _ I h) fun v s1 ⟨x,H1,I1,r1,q1⟩=>znV pins s1 σ H1 x v Q I1 r1 q1) (he _)
theorem vals1 {x:V}{us:List Value}(r:Vals [x] us):∃u,us=[u]/\RelV x u:=by
 cases r with
 | cons r1 r2=>cases r2;exact⟨_,rfl,r1⟩
theorem vals2 {x y:V}{us:List Value}(r:Vals [x,y] us):∃u w',us=[u,w']/\RelV x u/\RelV y w':=by
 cases r with
 | cons r1 r2 =>
  cases r2 with
  | cons r3 r4=>cases r4;exact⟨_,_,rfl,r1,r3⟩
theorem zfj:WR X (.builtin "abs") (fun xs H Q=>∃i,xs=[.int i]/\Q (.int (if i<0 then -i else i)) H):=by
 intro pins s σ H xs us Q I r h
 obtain⟨i,rfl,q⟩:=h
 obtain⟨u,rfl,t,rfl⟩:=vals1 r
 exact call_abs_int fun u tk=>⟨.int (if i<0 then -i else i),H,I.tok _,⟨_,rfl⟩,q⟩
end
structure zgV (h:Heap)(x dx C:Addr)(mA:Str->Option Value):Prop where
 obj:h.get? x=some (PySem.W.instObj C dx)
 ns:h.Ns1 dx mA
 ne:dx≠x
theorem ziX {h:Heap}{dx:Addr}{mA:Str->Option Value}(n:h.Ns1 dx mA):∃od,h.get? dx=some od/\∀name,PySem.W.lookIn name od=some (mA name):=by
 obtain⟨o,es,ep,ho,hd,hk,_,hm⟩:=n
 refine⟨o,ho,fun name=>?_⟩
 have e:=hm name
 unfold nsFind findBy at e
 rw[<-Array.find?_toList] at e
 unfold PySem.W.lookIn
 rw[hd]
 dsimp only
 split
 ·rename_i y q
  rw[q] at e
  exact congrArg some e
 ·rename_i q
  rw[q] at e
  have a:es.toList.any (·.refKey)=false:=by
   rw[List.any_eq_false]
   intro y hy
   obtain⟨z,t,hkey⟩:=hk y (Array.mem_toList_iff.mp hy)
   simp[DictEntry.refKey,hkey]
  have a':¬es.toList.any (·.refKey)=true:=by rw[a];exact zvE
  rw[if_neg a']
  exact congrArg some e
theorem zgV.look {h:Heap}{x dx C:Addr}{mA:Str->Option Value}(I:zgV h x dx C mA):∃od,PySem.W.InstAt h x (PySem.W.instObj C dx) C (some od)/\∀name,PySem.W.lookIn name od=some (mA name) :=
 let ⟨od,ho,hl⟩:=ziX I.ns
 ⟨od,⟨I.obj,rfl,rfl,ho⟩,hl⟩
section
variable {prog:Program}{w:World}{A:Around}{E:Value->Shared->Prop}{s:Shared}{K:Frag}{x dx C f:Addr}{mA:Str->Option Value}{name:Str}{v:Value}
theorem get_map {expr:Bool}{Q:Value->Shared->Prop}(X:K.In s.heap)(I:zgV s.heap x dx C mA)(hg:PySem.W.plainGet K C name=true)(hh:PySem.W.hasDictIn K C=true)
  (ha:findIn K (.ref C) name=some none)(hv:mA name=some v)(hv':PySem.W.handedIn v=true)(h:Q v { s with toks:=s.toks+1 }) :
  wpAny (model prog w) A (getAttr (.ref x) name expr) Q E s:=by
 obtain⟨od,J,hl⟩:=I.look
 exact PySem.W.get_value X J (PySem.W.plainGet_of hg).1 (PySem.W.findObj_own hh ha rfl (by rw[hl,hv])) hv' h
theorem zj3 {pl:Sem Bool}{Q:Value×List Value->Shared->Prop}(X:K.In s.heap)(I:zgV s.heap x dx C mA)(hg:PySem.W.plainGet K C name=true)
  (hf:findIn K (.ref C) name=some (some (.ref f)))(ht:PySem.W.isFn K (.ref f)=true)(hv:mA name=none)(h:Q (.ref f,[.ref x]) s) :
  wpAny (model prog w) A (getMethod (.ref x) name pl) Q E s:=by
 obtain⟨od,J,hl⟩:=I.look
 exact PySem.W.method_fn X J (PySem.W.plainGet_of hg).1 (PySem.W.plainGet_of hg).2 hf (beq_iff_eq.mp ht) (by show(PySem.W.lookIn name od).map (·.isSome)=some false;rw[hl,hv];rfl) h
theorem zlI {ns:List Str}{Q:Unit->Shared->Prop}(X:K.In s.heap)(I:zgV s.heap x dx C mA)
  (hs:findIn K (.ref C) "__setattr__"=some (some (.builtin "object.__setattr__")))(hp:PySem.W.plainOver K C=true)(ht:PySem.W.takerIn K C name=some none)(hh:PySem.W.hasDictIn K C=true)
  (hw:PySem.Within mA ns)(hsz:ns.length<=sizeLine)
  (h:∀h',zgV h' x dx C (fun y=>if y=name then some v else mA y)->Heap.SameBut dx s.heap h'->Q () { s with heap:=h',toks:=s.toks+2 }) :
  wpAny (model prog w) A (setAttr (.ref x) name v) Q E s:=by
 obtain⟨od,J,hl⟩:=I.look
 refine PySem.W.set_plain X J hs (PySem.W.osa_open (s:={ s with toks:=s.toks+1 }) (r:=none) X J hp ht fun b=>?_)
 obtain⟨cd,hc,hd'⟩:=PySem.W.any_some hh
 have hx:s.heap.get? x=some ⟨.ref C,some dx,.plain,#[]⟩:=I.obj
 refine wpAny_bind (wpAny_pure (wpAny_bind (wpAny_bind (wpAny_loadPart hx (wpAny_bind (PySem.W.Looks.here (s:={ s with toks:=s.toks+1 }) (PySem.W.looks_clsIn X hc) ?_))))))
 rw[hd']
 refine wpAny_pure (a:=some dx) (wpAny_bind (wpAny_pure (wpAny_bind ?_)))
 refine wpAny_nsSet1 (s:={ s with toks:=s.toks+1 }) I.ns fun h' hn2 hs2=>?_
 obtain⟨oD,esD,epD,hoD,hdD,hcD⟩:=hn2.count (PySem.Within.cons name v hw)
 refine wpAny_bind (wpAny_lookBehind hoD (by rw[hdD];exact pastItsLine_dict (zvV hcD (by rw[zvM];omega))) ?_)
 exact wpAny_pure (h _ ⟨(hs2.2 _ (Ne.symm I.ne)).trans I.obj,hn2,I.ne⟩ hs2)
theorem zj4 {R:Result->Shared->Prop}{vs:List Value}{kw:List (Str×Value)}(X:K.In s.heap)(hm:PySem.W.makesIn K C=true)
  (hi:findIn K (.ref C) "__init__"=some (some (.ref f)))(hf:PySem.W.typeIn K (.ref f)=some (.type "function"))
  (h:codeAny (model prog w) (A.under (.builtin "type.__call__" ⟨.ref C::vs,kw⟩)) (.call (.ref f) ⟨.ref (s.heap.objs.size+1)::vs,kw⟩) (PySem.W.InitBack (s.heap.objs.size+1) R)
   {s with heap:=(s.heap.push PySem.W.emptyDict).push (PySem.W.instObj C s.heap.objs.size) }) :
  codeAny (model prog w) A (.call (.ref C) ⟨vs,kw⟩) R s:=by
 obtain⟨hh,g,d,t,os⟩:=s
 exact PySem.W.make_core (PySem.W.makes_of X hm) (PySem.W.looks_findIn X hi) (fun self=>PySem.W.bind_fn X self hf) (.inl rfl) h
end
def YB (f:Str)(v:V):List (Str×V)->List (Str×V)
 | []=>[(f,v)]
 | (g,x)::r=>if g=f then (g,v)::r else (g,x)::YB f v r
theorem zao (f g:Str)(v:V):∀fs:List (Str×V),(YB f v fs).lookup g=if g=f then some v else fs.lookup g
 | []=>by
  show List.lookup g [(f,v)]=_
  by_cases h:g=f
  ·have hb:(g==f)=true:=beq_iff_eq.mpr h
   simp only[List.lookup,hb,if_pos h]
  ·have hb:(g==f)=false:=beq_eq_false_iff_ne.mpr h
   simp only[List.lookup,hb,if_neg h]
 | (k,x)::r=>by
  have ih:=zao f g v r
  rw[show YB f v ((k,x)::r)=(if k=f then (k,v)::r else (k,x)::YB f v r) from rfl]
  by_cases hk:k=f
  ·rw[if_pos hk]
   by_cases h:g=k
   ·have hb:(g==k)=true:=beq_iff_eq.mpr h
    simp only[List.lookup,hb,if_pos (h.trans hk)]
   ·have hb:(g==k)=false:=beq_eq_false_iff_ne.mpr h
    simp only[List.lookup,hb,if_neg (fun e:g=f=>h (e.trans hk.symm))]
  ·rw[if_neg hk]
   by_cases h:g=k
   ·have hb:(g==k)=true:=beq_iff_eq.mpr h
    simp only[List.lookup,hb,if_neg (fun e:g=f=>hk (h.symm.trans e))]
   ·have hb:(g==k)=false:=beq_eq_false_iff_ne.mpr h
    simp only[List.lookup,hb]
    exact ih
theorem Js (f:Str)(v:V):∀fs:List (Str×V),f∈(YB f v fs).map (·.1)/\∀g,g∈fs.map (·.1)->g∈(YB f v fs).map (·.1)
 | []=>⟨by simp[YB],fun g h=>by simp at h⟩
 | (k,x)::r=>by
  obtain⟨i1,i2⟩:=Js f v r
  rw[show YB f v ((k,x)::r)=(if k=f then (k,v)::r else (k,x)::YB f v r) from rfl]
  by_cases hk:k=f
  ·rw[if_pos hk]
   subst hk
   exact⟨by simp,fun g h=>by simpa using h⟩
  ·rw[if_neg hk]
   refine⟨?_,fun g h=>?_⟩
   ·rw[zvY]
    exact zvL _ i1
   ·rw[zvY] at h ⊢
    rcases List.mem_cons.mp h with e | e
    ·exact List.mem_cons.mpr (.inl e)
    ·exact zvL _ (i2 g e)
theorem zap (f:Str)(v:V):∀fs:List (Str×V),(YB f v fs).length<=fs.length+1
 | []=>by simp[YB]
 | (k,x)::r=>by
  have ih:=zap f v r
  rw[show YB f v ((k,x)::r)=(if k=f then (k,v)::r else (k,x)::YB f v r) from rfl]
  by_cases hk:k=f
  ·rw[if_pos hk,zvM,zvM];omega
  ·rw[if_neg hk,zvM,zvM];omega
theorem PL.some_of {v:V}{o:Option Value}(r:PL (some v) o):∃u,o=some u/\RelV v u:=by
 cases o with
 | none=>exact(show False from r).elim
 | some u=>exact⟨u,rfl,r⟩
theorem PL.none_of {o:Option Value}(r:PL none o):o=none:=by
 cases o with
 | none=>rfl
 | some u=>exact(show False from r).elim
theorem ziY {v:V}{u:Value}(r:RelV v u):PySem.W.handedIn u=true:=by
 cases v with
 | non=>cases (show u=Value.none from r);rfl
 | bl b=>cases (show u=Value.bool b from r);rfl
 | int i=>obtain⟨t,e⟩:=(show ∃t,u=Value.int i t from r);cases e;rfl
 | str x=>obtain⟨t,e⟩:=(show ∃t,u=Value.str x t from r);cases e;rfl
 | byt b=>obtain⟨t,e⟩:=(show ∃t,u=Value.bytes b t from r);cases e;rfl
 | flt b=>obtain⟨t,e⟩:=(show ∃t,u=Value.float b t from r);cases e;rfl
 | ref a=>cases (show u=Value.ref a from r);rfl
 | ty n=>cases (show u=Value.type n from r);rfl
section
variable {P:Program}{w:World}{H H':Hp}{h h':Heap}{a C dx:Addr}{fs fs':List (Str×V)}
theorem zba (hok:Rv P w H h)(e:H a=some (.ins C dx fs)):∃mA,zgV h a dx C mA/\(∀f,PL (fs.lookup f) (mA f))/\PySem.Within mA (fs.map (·.1))/\fs.length<=1000/\H dx=some (.own a):=by
 obtain⟨d,z,ne,ob,mA,n,r,q⟩:=(show wF P w H h a (.ins C dx fs) from hok a _ e)
 exact⟨mA,⟨ob,n,ne⟩,r,q,z,d⟩
end
structure Cls (K:Frag)(C:Addr):Prop where
 pg:PySem.W.plainGet K C Str.empty=true
 hd:PySem.W.hasDictIn K C=true
 po:PySem.W.plainOver K C=true
 sa:findIn K (.ref C) "__setattr__"=some (some (.builtin "object.__setattr__"))
theorem Cls.get {K:Frag}{C:Addr}(c:Cls K C)(f:Str):PySem.W.plainGet K C f=true:=c.pg
def WW (K:Frag)(C:Addr)(f:Str):Prop:=findIn K (.ref C) f=some none
theorem WW.taker {K:Frag}{C:Addr}{f:Str}(n:WW K C f):PySem.W.takerIn K C f=some none:=by
 unfold PySem.W.takerIn
 rw[show findIn K (.ref C) f=some none from n]
 rfl
structure Meth (K:Frag)(C:Addr)(m:Str)(f:Addr):Prop where
 at_:findIn K (.ref C) m=some (some (.ref f))
 fn:PySem.W.isFn K (.ref f)=true
 kp:PySem.W.keepIn K (.ref f)=true
section
variable {X:Cx}{pins:List (Addr×Obj)}{σ:St}{H:Hp}{s:Shared}{a C dx:Addr}{fs:List (Str×V)}{f:Str}{v:V}{A:Around}{E:Value->Shared->Prop}
theorem zgW {b:Bool}{Q:Value->Shared->Prop}(I:Inv X pins σ H s)(e:H a=some (.ins C dx fs))(c:Cls X.K C)(n:WW X.K C f)(l:fs.lookup f=some v)
  (h:∀u s',Inv X pins σ H s'->RelV v u->Q u s'):wpAny (model X.prog X.w) A (getAttr (.ref a) f b) Q E s:=by
 obtain⟨mA,O,r,_,_,_⟩:=zba I.hok e
 obtain⟨u,hu,ru⟩:=PL.some_of (v:=v) (o:=mA f) (by rw[<-l];exact r f)
 exact get_map I.PX O (c.get f) c.hd n hu (ziY ru) (h u _ (I.tok _) ru)
theorem N8 {m:Str}{g:Addr}{pl:Sem Bool}{Q:Value×List Value->Shared->Prop}(I:Inv X pins σ H s)(e:H a=some (.ins C dx fs))(c:Cls X.K C)(k:Meth X.K C m g)(l:fs.lookup m=none)
  (h:Q (.ref g,[.ref a]) s):wpAny (model X.prog X.w) A (getMethod (.ref a) m pl) Q E s:=by
 obtain⟨mA,O,r,_,_,_⟩:=zba I.hok e
 have hn:mA m=none:=PL.none_of (by rw[<-l];exact r m)
 exact zj3 I.PX O (c.get m) k.at_ k.fn hn h
theorem zgX {y:V}{u:Value}{Q:Unit->Shared->Prop}(I:Inv X pins σ H s)(e:H a=some (.ins C dx fs))(c:Cls X.K C)(n:WW X.K C f)(hl:fs.length<1000)(ry:RelV y u)
  (h:∀s',Inv X pins σ (upd H a (.ins C dx (YB f y fs))) s'->Q () s'):wpAny (model X.prog X.w) A (setAttr (.ref a) f u) Q E s:=by
 obtain⟨mA,O,r,wi,_,ho⟩:=zba I.hok e
 have hz:(fs.map (·.1)).length<=sizeLine:=by rw[zvA,sizeLine_eq];omega
 refine zlI I.PX O c.sa c.po n.taker c.hd wi hz fun h' O' sb=>h _ ?_
 have hd:∃o,h'.get? dx=some o:=let ⟨o,_,_,e',_⟩:=O'.ns;⟨o,e'⟩
 refine I.write (x:=a) (e:=dx) (by rw[e];exact True.intro) (.inr ho) (fun b q hb z=>(sb.2 b hb).trans z) hd ?_
 refine⟨by rw[zJ O.ne];exact ho,?_,O.ne,O'.obj,_,O'.ns,fun g=>?_,fun g hg=>?_⟩
 ·have:=zap f y fs;omega
 ·show PL ((YB f y fs).lookup g) (if g=f then some u else mA g)
  rw[zao]
  by_cases q:g=f
  ·rw[if_pos q,if_pos q];exact ry
  ·rw[if_neg q,if_neg q];exact r g
 ·by_cases q:g=f
  ·rw[q];exact(Js f y fs).1
  ·refine(Js f y fs).2 g (wi g fun z=>hg ?_)
   show(if g=f then some u else mA g)=none
   rw[if_neg q];exact z
theorem Inv.made (I:Inv X pins σ H s):Inv X pins σ (upd (upd H s.heap.objs.size (.own (s.heap.objs.size+1))) (s.heap.objs.size+1) (.ins C s.heap.objs.size []))
  {s with heap:=(s.heap.push PySem.W.emptyDict).push (PySem.W.instObj C s.heap.objs.size) }:=by
 have e1:(s.heap.push PySem.W.emptyDict).get? s.heap.objs.size=some PySem.W.emptyDict:=zvU s.heap rfl
 have e2:((s.heap.push PySem.W.emptyDict).push (PySem.W.instObj C s.heap.objs.size)).get? (s.heap.objs.size+1)=some (PySem.W.instObj C s.heap.objs.size):=by
  have:=zvU (s.heap.push PySem.W.emptyDict) (o:=PySem.W.instObj C s.heap.objs.size) rfl
  rwa [Heap.size_push] at this
 have e3:(s.heap.push PySem.W.emptyDict).Ns s.heap.objs.size (fun _=>none):=⟨PySem.W.emptyDict,#[],_,e1,rfl,(fun e he=>absurd he (by simp)),fun _=>rfl⟩
 have I1:=I.laid (a:=s.heap.objs.size) (o:=.own (s.heap.objs.size+1)) (h':=s.heap.push PySem.W.emptyDict) (t':=s.toks) (fun b u q=>zvG _ q) (zvQ _) ⟨_,e1⟩
 refine I1.laid (a:=s.heap.objs.size+1) (o:=.ins C s.heap.objs.size []) (t':=s.toks) (fun b u q=>zvG _ q) (Nat.le_of_eq (Heap.size_push _ _)) ?_
 have ne:s.heap.objs.size≠s.heap.objs.size+1:=zvP (Nat.lt_succ_self _)
 refine⟨by rw[zJ ne,zu],zvW _,ne,e2,fun _=>none,(Heap.Ns1.of_empty e3).at fun o q=>zvG _ q,fun _=>True.intro,fun y hy=>absurd rfl hy⟩
theorem zlJ {prog:Program}{w:World}{env:Env}{e:Expr}{f:Str}{pos:Pos}{s:Shared}{Q:Value->Shared->Prop}(hb:attributeBase e f env (eval e env)=eval e env)
  (h:wpAny (model prog w) A (eval e env) (fun o s₁=>wpAny (model prog w) A (getAttr o f true) Q E s₁) E s):wpAny (model prog w) A (eval (.Attribute e f pos) env) Q E s :=
 Attribute_any_ h (by rw[arm_eval_Attribute,hb])
end
def zrF (K:Frag)(ta:TE)(f:Str):TE:=fun σ H Q=>ta σ H fun x H1=>∃a C dx fs v,x=.ref a/\H1 a=some (.ins C dx fs)/\Cls K C/\WW K C f/\fs.lookup f=some v/\Q v H1
def zrG (K:Frag)(ta tv:TE)(f:Str):TS:=fun D σ H=>tv σ H fun y H1=>ta σ H1 fun x H2=>∃a C dx fs,x=.ref a/\H2 a=some (.ins C dx fs)/\Cls K C/\WW K C f/\fs.length<1000 /\
 D.nx σ (upd H2 a (.ins C dx (YB f y fs)))
section
variable {X:Cx}{o e value:Expr}{f:Str}{pos pos' tpos:Pos}{ta tv:TE}
theorem u9 (he:PE X e ta)(hb:attributeBase e f X.env (eval e X.env)=eval e X.env):PE X (.Attribute e f pos) (zrF X.K ta f):=by
 intro pins s σ H Q I h
 refine zlJ hb (vo (he pins s σ H _ I h) fun u s1 ⟨x,H1,I1,rx,a,C,dx,fs,v,ex,ea,c,n,l,q⟩=>?_)
 subst ex
 obtain rfl:u=Value.ref a:=rx
 exact zgW I1 ea c n l fun u' s2 I2 ru=>⟨v,H1,I2,ru,q⟩
theorem zd5 (ha:PE X o ta)(hv:PE X value tv)(hs:swapsWith value (some (.Attribute o f pos')) pos.line X.env=pure false):PS X (.Assign [.Attribute o f pos'] value pos) (zrG X.K ta tv f):=by
 intro pins s σ H D I h
 refine plainObj_wpAny_Assign_Attribute (vo (hv pins s σ H _ I h) fun u s1 ⟨y,H1,I1,ry,q⟩=>vo (ha pins s1 σ H1 _ I1 q) fun ov s2 ⟨x,H2,I2,rx,a,C,dx,fs,ex,ea,c,n,l,q2⟩=>?_) hs
 subst ex
 obtain rfl:ov=Value.ref a:=rx
 exact zgX I2 ea c n l ry fun s3 I3=>⟨σ,_,I3,q2⟩
theorem zne {pl:Sem Bool}{m:Str}{apos:Pos}{args:List Expr}{pins:List (Addr×Obj)}{s:Shared}{σ:St}{H:Hp}{Q:Value->Shared->Prop}{te:TE}(he:PE X e te)(I:Inv X pins σ H s)
  (h:te σ H fun x H1=>∃a C dx fs g,x=.ref a/\H1 a=some (.ins C dx fs)/\Cls X.K C/\Meth X.K C m g/\fs.lookup m=none /\
   ∀s1,Inv X pins σ H1 s1->wpAny (model X.prog X.w) X.A (callWith pos (.ref g) [.ref a] (backTo pos (starEach args X.env)) (backToKw pos (keywordEach [] X.env))) Q X.xe s1)
  (ht:eval (.Call (.Attribute e m apos) args [] pos) X.env=(do
   let ov <-eval e X.env
   standAt apos.atName
   let (f,first) <-holding [ov] (getMethod ov m pl)
   callWith pos f first (backTo pos (starEach args X.env)) (backToKw pos (keywordEach [] X.env)))) :
  wpAny (model X.prog X.w) X.A (eval (.Call (.Attribute e m apos) args [] pos) X.env) Q X.xe s:=by
 refine PySem.W.methodCall_KW (pl:=pl) (vo (he pins s σ H _ I h) fun u s1 ⟨x,H1,I1,rx,a,C,dx,fs,g,ex,ea,c,k,l,q⟩=>?_) ht
 subst ex
 obtain rfl:u=Value.ref a:=rx
 exact N8 I1 ea c k l (q s1 I1)
end
section
variable {X:Cx}{pins:List (Addr×Obj)}{σ:St}{H:Hp}{s:Shared}{A:Around}{E:Value->Shared->Prop}{Q:Value->Shared->Prop}{c:Value}{b:Bool}
inductive Li (K:Frag)(H:Hp):V->Value->Prop where
 | non:Li K H .non (.type "NoneType")
 | bl (x:Bool):Li K H (.bl x) (.type "bool")
 | int (i:Int):Li K H (.int i) (.type "int")
 | str (x:Str):Li K H (.str x) (.type "str")
 | flt (x:UInt64):Li K H (.flt x) (.type "float")
 | lst {a:Addr} {xs:List V} (e:H a=some (.lst xs)):Li K H (.ref a) (.type "list")
 | frz {a:Addr} {o:Obj} {xs:List V} (e:H a=some (.frz o (.lst xs))):Li K H (.ref a) (.type "list")
 | tup {a:Addr} {xs:List V} (e:H a=some (.tup xs)):Li K H (.ref a) (.type "tuple")
 | dK {a:Addr} {kvs:List (Key×V)} (e:H a=some (.dK kvs)):Li K H (.ref a) (.type "dict")
 | dT {a:Addr} {kvs:List (List Key×V)} (e:H a=some (.dT kvs)):Li K H (.ref a) (.type "dict")
 | ins {a C dx:Addr} {fs:List (Str×V)} (e:H a=some (.ins C dx fs)) (cl:Cls K C) (ha:findIn K (.ref C) "__class__"=some (some (.builtin "object.__class__")))
   (hn:PySem.W.specialIn K (.builtin "object.__class__") "__get__"=some (some (.builtin "getset_descriptor.__get__"))) (htk:PySem.W.takesIn K (.builtin "object.__class__")=some true)
   (hm:PySem.W.mroIn K C (.type "object")=some true):Li K H (.ref a) (.ref C)
theorem ziZ {x:V}{u t:Value}(I:Inv X pins σ H s)(rx:RelV x u)(ty:Li X.K H x t)(e:PySem.W.kitOne X.K t c=some b)(h:∀tk,Q (.bool b) { s with toks:=tk }) :
  wpAny (model X.prog X.w) A (call (.builtin "isinstance") [u,c]) Q E s:=by
 cases ty with
 | non=>cases (show u=Value.none from rx);exact PySem.W.kia_one PySem.W.kitx_none I.PX True.intro e (fun z=>nomatch z) h
 | bl y=>cases (show u=Value.bool y from rx);exact PySem.W.kia_one PySem.W.kitx_bool I.PX True.intro e (fun z=>nomatch z) h
 | int i=>obtain⟨t,q⟩:=(show ∃t,u=Value.int i t from rx);cases q;exact PySem.W.kia_one PySem.W.kitx_int I.PX True.intro e (fun z=>nomatch z) h
 | str y=>obtain⟨t,q⟩:=(show ∃t,u=Value.str y t from rx);cases q;exact PySem.W.kia_one PySem.W.kitx_str I.PX True.intro e (fun z=>nomatch z) h
 | flt y=>obtain⟨t,q⟩:=(show ∃t,u=Value.float y t from rx);cases q;exact PySem.W.kia_one PySem.W.kitx_float I.PX True.intro e (fun z=>nomatch z) h
 | @lst a xs ea =>
  cases (show u=Value.ref a from rx)
  obtain⟨_,_,n,_,h1⟩:=(show wF X.prog X.w H s.heap a (.lst xs) from I.hok a _ ea)
  exact PySem.W.kia_one PySem.W.kitx_list I.PX ⟨_,h1,rfl⟩ e (fun z=>nomatch z) h
 | @frz a ob xs ea =>
  cases (show u=Value.ref a from rx)
  obtain⟨_,_,_,n,_,h1⟩:=(show wF X.prog X.w H s.heap a (.frz ob (.lst xs)) from I.hok a _ ea)
  exact PySem.W.kia_one PySem.W.kitx_list I.PX ⟨_,h1,rfl⟩ e (fun z=>nomatch z) h
 | @tup a xs ea =>
  cases (show u=Value.ref a from rx)
  obtain⟨_,_,_,p⟩:=(show wF X.prog X.w H s.heap a (.tup xs) from I.hok a _ ea)
  obtain⟨o,h1,h2,_⟩:=p
  exact PySem.W.kia_one PySem.W.kitx_tuple I.PX ⟨o,h1,h2⟩ e (fun z=>nomatch z) h
 | @dK a kvs ea =>
  cases (show u=Value.ref a from rx)
  obtain⟨_,_,vs,_,p⟩:=(show wF X.prog X.w H s.heap a (.dK kvs) from I.hok a _ ea)
  obtain⟨o,es,ep,h1,h2,_⟩:=p
  exact PySem.W.kia_one PySem.W.kitx_dict I.PX ⟨o,h1,h2.1⟩ e (fun z=>nomatch z) h
 | @dT a kvs ea =>
  cases (show u=Value.ref a from rx)
  obtain⟨_,_,xs,_,o,es,ep,h1,h2,_⟩:=(show wF X.prog X.w H s.heap a (.dT kvs) from I.hok a _ ea)
  exact PySem.W.kia_one PySem.W.kitx_dict I.PX ⟨o,h1,h2.1⟩ e (fun z=>nomatch z) h
 | @ins a C dx fs ea cl ha hn htk hm =>
  cases (show u=Value.ref a from rx)
  obtain⟨mA,O,_⟩:=zba I.hok ea
  obtain⟨od,J,_⟩:=O.look
  exact PySem.W.kia_one (PySem.W.kitx_own (cl.get _) cl.hd ha hn htk hm) I.PX J e (fun z=>nomatch z) h
end
structure uJ (k:Nat)(A:Around):Prop where
 hd:A.handled=none
 gd:A.guards=some []
 dp:A.depth+3*k+5<recursionLimit
 un:A.units+16*k+200<cLine
theorem uJ.mono {j k:Nat}{A:Around}(r:uJ k A)(h:j<=k):uJ j A:=⟨r.hd,r.gd,by have:=r.dp;omega,by have:=r.un;omega⟩
theorem uJ.deeper {k:Nat}{A:Around}(r:uJ (k+1) A)(env:Env):uJ k (A.deeper env) :=
 ⟨r.hd,r.gd,by have:=r.dp;show A.depth+1+3*k+5<_;omega,by have:=r.un;show A.units+3+16*k+200<_;omega⟩
theorem zgY {A:Around}{C:Addr}{us:List Value}{kw:List (Str×Value)}:(A.under (.builtin "type.__call__" ⟨.ref C::us,kw⟩)).depth=A.depth+1:=by
 first | rfl | simp[Around.under,Code.weight,Code.isCreation,Code.isGuard,Code.isCaller,Code.frames,Code.isFrame,guardIds]
theorem zgZ {A:Around}{C:Addr}{us:List Value}{kw:List (Str×Value)}:(A.under (.builtin "type.__call__" ⟨.ref C::us,kw⟩)).units=A.units+1:=by
 first | rfl | simp[Around.under,Code.cUnits,Code.frames,Code.isFrame]
theorem uJ.make {k:Nat}{A:Around}(r:uJ (k+1) A)(C:Addr)(us:List Value)(kw:List (Str×Value)):uJ k (A.under (.builtin "type.__call__" ⟨.ref C::us,kw⟩)) :=
 ⟨r.hd,(by
  have e:(Code.builtin "type.__call__" ⟨.ref C::us,kw⟩).guards=[]:=by first | rfl | simp[Code.guards,Code.isGuard,guardIds]
  unfold Around.under
  simp only[e,pushGuards]
  exact r.gd),by have:=r.dp;rw[zgY];omega,by have:=r.un;rw[zgZ];omega⟩
theorem uJ.depth {k:Nat}{A:Around}(r:uJ k A):A.depth<recursionLimit:=by have:=r.dp;omega
theorem uJ.units {k:Nat}{A:Around}(r:uJ k A):A.units+64<cLine:=by have:=r.un;omega
def Vq:TA:=fun _ H Q=>Q [] H
def Rx (ta:TE)(tr:TA):TA:=fun σ H Q=>ta σ H fun x H1=>tr σ H1 fun xs H2=>Q (x::xs) H2
section
variable {X:Cx}{e:Expr}{es:List Expr}{te:TE}{t:TA}{pos:Pos}
theorem zc:PA X [] Vq:=fun _ _ _ _ H Q I h=>Calls.spliced_nil ⟨[],H,I,.nil,h⟩
theorem za (ha:PE X e te)(hr:PA X es t)(hs:starEach (e::es) X.env=(false,eval e X.env)::starEach es X.env:=by rfl):PA X (e::es) (Rx te t):=by
 intro pos pins s σ H Q I h
 rw[hs]
 show wpAny _ _ (spliced ((false,eval e X.env)::backTo pos (starEach es X.env))) _ _ s
 refine Calls.spliced_cons (vo (ha pins s σ H _ I h) fun u s1 ⟨x,H1,I1,r1,q1⟩=>?_)
 exact vo (hr pos pins s1 σ H1 _ I1 q1) fun us s2 ⟨xs,H2,I2,r2,q2⟩=>⟨x::xs,H2,I2,.cons r1 r2,q2⟩
def zrH (t:TA):TE:=fun σ H Q=>t σ H fun xs H1=>xs.length<=sizeLine/\∀p,H1 p=none->Q (.ref p) (upd H1 p (.tup xs))
def zrI (t:TA):TE:=fun σ H Q=>t σ H fun xs H1=>xs.length<=sizeLine/\∀p,H1 p=none->Q (.ref p) (upd H1 p (.lst xs))
theorem yL {x1}(h:PA X es t):PE X (.Tuple es x1 pos) (zrH t):=by
 intro pins s σ H Q I hq
 refine wpAny_Tuple_spliced (vo (h pos pins s σ H _ I hq) fun us s1 ⟨xs,H1,I1,r,z,q⟩=>⟨by rw[<-r.length];exact z,?_⟩)
 have hf:H1 s1.heap.objs.size=none:=I1.hok.fresh (zvQ _)
 refine⟨.ref s1.heap.objs.size,upd H1 s1.heap.objs.size (.tup xs),I1.laid (t':=s1.toks) (fun b u e=>zvG _ e) (zvQ _) ?_,rfl,q _ hf⟩
 exact⟨z,us,r,⟨_,zvU _ rfl,rfl,_,rfl⟩⟩
theorem yh (h:PA X es t):PE X (.List es pos) (zrI t):=by
 intro pins s σ H Q I hq
 refine wpAny_List_spliced (vo (h pos pins s σ H _ I hq) fun us s1 ⟨xs,H1,I1,r,z,q⟩=>⟨by rw[<-r.length];exact z,?_⟩)
 have hf:H1 s1.heap.objs.size=none:=I1.hok.fresh (zvQ _)
 refine⟨.ref s1.heap.objs.size,upd H1 s1.heap.objs.size (.lst xs),I1.laid (t':=s1.toks) (fun b u e=>zvG _ e) (zvQ _) ?_,rfl,q _ hf⟩
 exact⟨z,us,0,r,zvU _ rfl⟩
end
abbrev Sp:=List V->Hp->VK->XK->Prop
abbrev CXT:=List Env->Hp->Shared->XK->Value->Shared->Prop
structure zd7 (P:Program)(w:World)(K:Frag)(mg:Str->Option Value)(base:Heap)(A:Around)(outer:List Env)(s:Shared)(H:Hp):Prop where
 frames:A.frames=some outer
 mod:Mod K mg base
 bs:∀b o,base.get? b=some o->s.heap.get? b=some o/\H b=none
 bsz:base.objs.size<=s.heap.objs.size
 PN:s.heap.FunFrames base outer
 frf:∀b∈frs outer,H b=none
 hok:Rv P w H s.heap
 bare:AllBare s.gens
def CE (outer:List Env)(P:Program)(w:World)(H:Hp)(s:Shared)(Q:VK)(u:Value)(s':Shared):Prop :=
 ∃v H',s'.os=s.os/\AllBare s'.gens/\Un (frs outer) [] H H' s.heap s'.heap/\Rv P w H' s'.heap/\RelV v u/\Q v H'
def CR (CX:CXT)(outer:List Env)(P:Program)(w:World)(H:Hp)(s:Shared)(Q:VK)(E:XK)(r:Result)(s':Shared):Prop :=
 match r with
 | .ok (.ret u)=>CE outer P w H s Q u s'
 | .ok _=>False
 | .error e=>CX outer H s E e s'
structure zB (P:Program)(w:World)(K:Frag)(mg:Str->Option Value)(base:Heap)(CX:CXT)(k:Nat)(f:Addr)(fd:FuncData)(ps:List Str)(sp:Sp):Prop where
 len:∀vs H Q E,sp vs H Q E->vs.length=ps.length
 run:∀(A:Around) (outer:List Env) (s:Shared) (H:Hp) (args:Args) (us:List Value) (vs:List V) (Q:VK) (E:XK),uJ k A->zd7 P w K mg base A outer s H->BindsTo s fd args (ps.zip us)->Vals vs us->sp vs H Q E ->
  codeAny (model P w) A (.call (.ref f) args) (CR CX outer P w H s Q E) s
theorem zB.mono {P:Program}{w:World}{K:Frag}{mg:Str->Option Value}{base:Heap}{CX:CXT}{j k:Nat}{f:Addr}{fd:FuncData}{ps:List Str}{sp:Sp}(F:zB P w K mg base CX j f fd ps sp)(h:j<=k) :
  zB P w K mg base CX k f fd ps sp:=⟨F.len,fun A outer s H args us vs Q E hr=>F.run A outer s H args us vs Q E (hr.mono h)⟩
theorem zB.imp {P:Program}{w:World}{K:Frag}{mg:Str->Option Value}{base:Heap}{CX:CXT}{k:Nat}{f:Addr}{fd:FuncData}{ps:List Str}{sp sp':Sp}(F:zB P w K mg base CX k f fd ps sp)
  (h:∀vs H Q E,sp' vs H Q E->sp vs H Q E):zB P w K mg base CX k f fd ps sp' :=
 ⟨fun vs H Q E q=>F.len vs H Q E (h _ _ _ _ q),fun A outer s H args us vs Q E hr he hb hv hs=>F.run A outer s H args us vs Q E hr he hb hv (h _ _ _ _ hs)⟩
theorem zd7.make {P:Program}{w:World}{K:Frag}{mg:Str->Option Value}{base:Heap}{A:Around}{outer:List Env}{s:Shared}{H:Hp}(e:zd7 P w K mg base A outer s H)(C:Addr)(us:List Value)(kw:List (Str×Value)) :
  zd7 P w K mg base (A.under (.builtin "type.__call__" ⟨.ref C::us,kw⟩)) outer s H:=⟨by first | exact e.frames | (simpa [Around.under,Code.envs,Code.isFrame,pushEnvs] using e.frames),e.mod,e.bs,e.bsz,e.PN,e.frf,e.hok,e.bare⟩
section
variable {X:Cx}{pins:List (Addr×Obj)}{σ:St}{H:Hp}{s s':Shared}
theorem Inv.env0 (I:Inv X pins σ H s):zd7 X.prog X.w X.K X.mg X.base X.A X.stack s H :=
 ⟨I.ok.frames,I.ok.mod,I.bs,zvV I.ok.bsz I.sz,I.stack,I.za7,I.hok,I.bare⟩
theorem Inv.after {Q:VK}{u:Value}(I:Inv X pins σ H s)(h:CE X.stack X.prog X.w H s Q u s'):EP X pins σ Q u s':=by
 obtain⟨v,H',os,bare,un,hok,r,q⟩:=h
 obtain⟨hh,g,d,t,os'⟩:=s'
 obtain rfl:os'=s.os:=os
 exact⟨v,H',I.call (h':=hh) (g':=g) (d':=d) (t':=t) (ch:=[]) un hok bare (fun b z=>absurd z (by simp)),r,q⟩
end
def Lj (sp:Sp)(R3:List V)(E:XK)(t:TA):TE:=fun σ H Q=>t σ H fun vs H1=>sp (vs++R3) H1 Q E
def zdl (C:Addr)(m:Str)(sp:Sp)(R3:List V)(E:XK)(ta:TE)(t:TA):TE:=fun σ H Q=>ta σ H fun x H1=>∃a dx fs,x=.ref a/\H1 a=some (.ins C dx fs)/\fs.lookup m=none /\
 t σ H1 fun vs H2=>sp (x::(vs++R3)) H2 Q E
def zps (C:Addr)(sp:Sp)(R3:List V)(E:XK)(t:TA):TE:=fun σ H Q=>t σ H fun vs H1=>∀x dx,H1 x=none->H1 dx=none->dx≠x ->
 sp (.ref x::(vs++R3)) (upd (upd H1 dx (.own x)) x (.ins C dx [])) (fun v H2=>v=.non/\Q (.ref x) H2) E
def Binds (K:Frag)(fd:FuncData)(ps:List Str)(ds:List Value):Prop :=
 ∀(s:Shared) (us:List Value),K.In s.heap->(us++ds).length=ps.length->BindsTo s fd ⟨us,[]⟩ (ps.zip (us++ds))
theorem Binds.all {K:Frag}{fd:FuncData}{ps:List Str}(h:∀us:List Value,us.length=ps.length->bindArgs fd ⟨us,[]⟩=pure (ps.zip us)):Binds K fd ps []:=fun s us _ hl=>by
 rw[List.append_nil] at hl ⊢
 exact .of_eq (h us hl)
def Passes (CX:CXT)(X:Cx)(E:XK):Prop:=∀(pins:List (Addr×Obj)) (σ:St) (H:Hp) (s:Shared) (e:Value) (s':Shared),Inv X pins σ H s->CX X.stack H s E e s'->X.xe e s'
section
variable {X:Cx}{CX:CXT}{k:Nat}{f C:Addr}{fd:FuncData}{ps:List Str}{sp:Sp}{R3:List V}{ds:List Value}{E:XK}{x m:Str}{p pos apos:Pos}{e o:Expr}{es:List Expr}{ta:TE}{t:TA}
theorem zg0 {pins:List (Addr×Obj)}{σ:St}{H:Hp}{s:Shared}{Q:VK}{us:List Value}{vs:List V}(F:zB X.prog X.w X.K X.mg X.base CX k f fd ps sp)(hr:uJ k X.A)(hb:Binds X.K fd ps ds)(hd:Vals R3 ds)(hx:Passes CX X E)
  (I:Inv X pins σ H s)(r:Vals vs us)(h:sp (vs++R3) H Q E):wpAny (model X.prog X.w) X.A (call (.ref f) us) (EP X pins σ Q) X.xe s:=by
 have r2:Vals (vs++R3) (us++ds):=r.append hd
 have hl:(us++ds).length=ps.length:=by rw[<-r2.length];exact F.len _ _ _ _ h
 refine wpAny_call (codeAny_mono (F.run X.A X.stack s H ⟨us,[]⟩ (us++ds) (vs++R3) Q E hr I.env0 (hb s us I.PX hl) r2 h) fun r s' hq=>?_)
 cases r with
 | error e=>exact hx pins σ H s e s' I hq
 | ok fl =>
  cases fl with
  | ret u=>exact I.after hq
  | next=>exact False.elim hq
  | brk=>exact False.elim hq
  | cont=>exact False.elim hq
theorem zh7 (F:zB X.prog X.w X.K X.mg X.base CX k f fd ps sp)(hr:uJ k X.A)(hg:Gl X x)(hm:X.mg x=some (.ref f))(hk:PySem.W.keepIn X.K (.ref f)=true)(hb:Binds X.K fd ps ds)(hd:Vals R3 ds)(hx:Passes CX X E)
  (ha:PA X (e::es) t)(hdb:(x==("__debug__" : Str))=false:=by decide)(he:starEach (e::es) X.env=(false,eval e X.env)::starEach es X.env:=by rfl)(hpl:(backTo pos (starEach es X.env)).any (·.1)=false:=by rfl) :
  PE X (.Call (.Name x p) (e::es) [] pos) (Lj sp R3 E t):=by
 intro pins s σ H Q I h
 refine wpAny_Call_Name_kw (TQ I hg hm ?_ hdb)
 refine PySem.W.callWith_K (h₀:=X.base) I.ok.mod.kin hk (vo (ha pos pins s σ H _ I h) fun us s1 ⟨vs,H1,I1,r,q⟩=>⟨I1.PX,?_⟩) he hpl
 exact zg0 F hr hb hd hx I1 r q
theorem zh8 {pl:Sem Bool}(he:PE X o ta)(c:Cls X.K C)(hm:Meth X.K C m f)(F:zB X.prog X.w X.K X.mg X.base CX k f fd ps sp)(hr:uJ k X.A)(hb:Binds X.K fd ps ds)(hd:Vals R3 ds)(hx:Passes CX X E)(ha:PA X (e::es) t)
  (hst:starEach (e::es) X.env=(false,eval e X.env)::starEach es X.env:=by rfl)(hpl:(backTo pos (starEach es X.env)).any (·.1)=false:=by rfl)
  (ht:eval (.Call (.Attribute o m apos) (e::es) [] pos) X.env=(do
   let ov <-eval o X.env
   standAt apos.atName
   let (f,first) <-holding [ov] (getMethod ov m pl)
   callWith pos f first (backTo pos (starEach (e::es) X.env)) (backToKw pos (keywordEach [] X.env))):=by rfl) :
  PE X (.Call (.Attribute o m apos) (e::es) [] pos) (zdl C m sp R3 E ta t):=by
 intro pins s σ H Q I h
 refine PySem.W.methodCall_KW (pl:=pl) (vo (he pins s σ H _ I h) fun u s1 ⟨x,H1,I1,rx,a,dx,fs,ex,ea,l,q⟩=>?_) ht
 subst ex
 obtain rfl:u=Value.ref a:=rx
 refine N8 I1 ea c hm l ?_
 refine PySem.W.callWith_K (first:=[.ref a]) (h₀:=X.base) I.ok.mod.kin hm.kp (vo (ha pos pins s1 σ H1 _ I1 q) fun us s2 ⟨vs,H2,I2,r,q2⟩=>⟨I2.PX,?_⟩) hst hpl
 exact zg0 (us:=.ref a::us) (vs:=.ref a::vs) F hr hb hd hx I2 (.cons rfl r) q2
theorem zfk {pl:Sem Bool}(he:PE X o ta)(c:Cls X.K C)(hm:Meth X.K C m f)(F:zB X.prog X.w X.K X.mg X.base CX k f fd ps sp)(hr:uJ k X.A)(hb:Binds X.K fd ps ds)(hd:Vals R3 ds)(hx:Passes CX X E)
  (ht:eval (.Call (.Attribute o m apos) [] [] pos) X.env=(do
   let ov <-eval o X.env
   standAt apos.atName
   let (f,first) <-holding [ov] (getMethod ov m pl)
   callWith pos f first (backTo pos (starEach [] X.env)) (backToKw pos (keywordEach [] X.env))):=by rfl) :
  PE X (.Call (.Attribute o m apos) [] [] pos) (zdl C m sp R3 E ta Vq):=by
 intro pins s σ H Q I h
 refine PySem.W.methodCall_KW (pl:=pl) (vo (he pins s σ H _ I h) fun u s1 ⟨x,H1,I1,rx,a,dx,fs,ex,ea,l,q⟩=>?_) ht
 subst ex
 obtain rfl:u=Value.ref a:=rx
 refine N8 I1 ea c hm l ?_
 exact PySem.W.callWith_K0 (first:=[.ref a]) I1.PX hm.kp (zg0 (us:=[.ref a]) (vs:=[.ref a]) F hr hb hd hx I1 (.cons rfl .nil) q)
structure Mk (K:Frag)(C f:Addr):Prop where
 makes:PySem.W.makesIn K C=true
 init:findIn K (.ref C) "__init__"=some (some (.ref f))
 fn:PySem.W.isFn K (.ref f)=true
 kp:PySem.W.keepIn K (.ref C)=true
theorem zj5 {pins:List (Addr×Obj)}{σ:St}{H:Hp}{s:Shared}{Q:VK}{us:List Value}{vs:List V}(M:Mk X.K C f)(F:zB X.prog X.w X.K X.mg X.base CX k f fd ps sp)(hr:uJ (k+1) X.A)(hb:Binds X.K fd ps ds)(hd:Vals R3 ds)
  (hx:Passes CX X E)(I:Inv X pins σ H s)(r:Vals vs us)
  (h:∀x dx,H x=none->H dx=none->dx≠x->sp (.ref x::(vs++R3)) (upd (upd H dx (.own x)) x (.ins C dx [])) (fun v H2=>v=.non/\Q (.ref x) H2) E) :
  wpAny (model X.prog X.w) X.A (call (.ref C) us) (EP X pins σ Q) X.xe s:=by
 have hq:=h (s.heap.objs.size+1) s.heap.objs.size (I.hok.fresh (Nat.le_succ _)) (I.hok.fresh (zvQ _)) (zvP (Nat.lt_succ_self _))
 have I2:=Inv.made (C:=C) I
 have r2:Vals (V.ref (s.heap.objs.size+1)::(vs++R3)) (Value.ref (s.heap.objs.size+1)::(us++ds)):=.cons rfl (r.append hd)
 have hl:(Value.ref (s.heap.objs.size+1)::us++ds).length=ps.length:=by
  have e:=r2.length
  rw[F.len _ _ _ _ hq] at e
  exact e.symm
 refine wpAny_call (zj4 (f:=f) I.PX M.makes M.init (beq_iff_eq.mp M.fn) (codeAny_mono (F.run _ X.stack _ _ ⟨Value.ref (s.heap.objs.size+1)::us,[]⟩ (Value.ref (s.heap.objs.size+1)::(us++ds)) _ _ E (hr.make C us [])
  (I2.env0.make C us []) (hb _ (Value.ref (s.heap.objs.size+1)::us) I2.PX hl) r2 hq) fun r s' hq'=>?_))
 cases r with
 | error e=>exact hx pins σ _ _ e s' I2 hq'
 | ok fl =>
  cases fl with
  | ret u =>
   obtain⟨v,H',I3,rv,ev,q3⟩:=I2.after hq'
   subst ev
   exact⟨rv,⟨V.ref (s.heap.objs.size+1),H',I3,rfl,q3⟩⟩
  | next=>exact False.elim hq'
  | brk=>exact False.elim hq'
  | cont=>exact False.elim hq'
theorem zlK (M:Mk X.K C f)(F:zB X.prog X.w X.K X.mg X.base CX k f fd ps sp)(hr:uJ (k+1) X.A)(hg:Gl X x)(hm:X.mg x=some (.ref C))(hb:Binds X.K fd ps ds)(hd:Vals R3 ds)(hx:Passes CX X E)
  (ha:PA X (e::es) t)(hdb:(x==("__debug__" : Str))=false:=by decide)(he:starEach (e::es) X.env=(false,eval e X.env)::starEach es X.env:=by rfl)(hpl:(backTo pos (starEach es X.env)).any (·.1)=false:=by rfl) :
  PE X (.Call (.Name x p) (e::es) [] pos) (zps C sp R3 E t):=by
 intro pins s σ H Q I h
 refine wpAny_Call_Name_kw (TQ I hg hm ?_ hdb)
 refine PySem.W.callWith_K (h₀:=X.base) I.ok.mod.kin M.kp (vo (ha pos pins s σ H _ I h) fun us s1 ⟨vs,H1,I1,r,q⟩=>⟨I1.PX,?_⟩) he hpl
 exact zj5 M F hr hb hd hx I1 r q
end
def PK (X:Cx)(kws:List Keyword)(t:TA):Prop :=
 ∀(pos:Pos) (pins:List (Addr×Obj)) (s:Shared) (σ:St) (H:Hp) (Q:List V->Hp->Prop),Inv X pins σ H s->t σ H Q->wpAny (model X.prog X.w) X.A (evalAll ((backToKw pos (keywordEach kws X.env)).map (·.2))) (AP X pins σ Q) X.xe s
section
variable {X:Cx}{CX:CXT}{k:Nat}{f C:Addr}{fd:FuncData}{ps ks:List Str}{sp:Sp}{E:XK}{x m:Str}{p pos apos kpos:Pos}{e o:Expr}{es:List Expr}{kws:List Keyword}{te ta:TE}{t tk:TA}{nm:Option Str}
theorem znW:PK X [] Vq:=fun _ _ _ _ H Q I h=>wpAny_evalAll_nil ⟨[],H,I,.nil,h⟩
theorem zlL (ha:PE X e te)(hr:PK X kws t):PK X (⟨nm,e,kpos⟩::kws) (Rx te t):=by
 intro pos pins s σ H Q I h
 show wpAny _ _ (evalAll ((do let v <-eval e X.env;standAt pos;pure v)::(backToKw pos (keywordEach kws X.env)).map (·.2))) _ _ s
 refine wpAny_evalAll_cons (wpAny_bind (vo (ha pins s σ H _ I h) fun u s1 ⟨x,H1,I1,r1,q1⟩=>wpAny_bind (wpAny_standAt (wpAny_pure ?_))))
 exact vo (hr pos pins s1 σ H1 _ I1 q1) fun us s2 ⟨xs,H2,I2,r2,q2⟩=>⟨x::xs,H2,I2,.cons r1 r2,q2⟩
variable {g:List Value->List Value->List Value}{gV:List V->List V->List V}
end
structure zP (N P:List Str)(sc:Scope):Prop where
 kind:sc.kind=.function
 co:sc.isCoroutine=false
 gen:sc.isGenerator=false
 nd:N.Nodup
 pre:N.take P.length=P
 par:∀x∈P,sc.names.lookup x=some .local\/sc.names.lookup x=some .cell
 znX:∀y∈sc.names,y.2≠.free
theorem zdm {kindOf:Str->Option NameKind}{x:Str}:∀{binds:List (Str×Value)} {m:Str->Option Value},(∀v,(x,v)∉binds)->bindL kindOf binds m x=m x
 | [],_,_=>rfl
 | (n,v)::r,m,h=>by
  unfold bindL
  rw[zdm fun w hw=>h w (zvL _ hw)]
  split
  ·have:x≠n:=by rintro rfl;exact h v zvT
   simp[this]
  ·rfl
theorem zdn {kindOf:Str->Option NameKind}{x:Str}:∀{binds:List (Str×Value)} {m:Str->Option Value},(∀v,(x,v)∉binds)->bindC kindOf binds m x=m x
 | [],_,_=>rfl
 | (n,v)::r,m,h=>by
  unfold bindC
  rw[zdn fun w hw=>h w (zvL _ hw)]
  split
  ·rfl
  ·have:x≠n:=by rintro rfl;exact h v zvT
   simp[this]
theorem zdo {kindOf:Str->Option NameKind}{x:Str}{v:Value}:∀{P:List Str} {vs:List Value} {i:Nat} {m:Str->Option Value},P.Nodup->P[i]?=some x->vs[i]?=some v->kindOf x=some .local ->
  bindL kindOf (P.zip vs) m x=some v
 | [],_,_,_,_,h,_,_=>by simp at h
 | _::_,[],_,_,_,_,h,_=>by simp at h
 | p::P,w::vs,0,m,nd,h1,h2,hk=>by
  simp at h1 h2;subst h1;subst h2
  show bindL kindOf ((p,w)::P.zip vs) m p=_
  unfold bindL
  rw[zdm fun v hv=>(List.nodup_cons.mp nd).1 (List.of_mem_zip hv).1,if_pos hk]
  simp
 | p::P,w::vs,i+1,m,nd,h1,h2,hk=>by
  show bindL kindOf ((p,w)::P.zip vs) m x=_
  unfold bindL
  exact zdo (i:=i) (List.nodup_cons.mp nd).2 (by simpa using h1) (by simpa using h2) hk
theorem zdp {kindOf:Str->Option NameKind}{x:Str}{v:Value}:∀{P:List Str} {vs:List Value} {i:Nat} {m:Str->Option Value},P.Nodup->P[i]?=some x->vs[i]?=some v->kindOf x≠some .local ->
  bindC kindOf (P.zip vs) m x=some v
 | [],_,_,_,_,h,_,_=>by simp at h
 | _::_,[],_,_,_,_,h,_=>by simp at h
 | p::P,w::vs,0,m,nd,h1,h2,hk=>by
  simp at h1 h2;subst h1;subst h2
  show bindC kindOf ((p,w)::P.zip vs) m p=_
  unfold bindC
  rw[zdn fun v hv=>(List.nodup_cons.mp nd).1 (List.of_mem_zip hv).1,if_neg hk]
  simp
 | p::P,w::vs,i+1,m,nd,h1,h2,hk=>by
  show bindC kindOf ((p,w)::P.zip vs) m x=_
  unfold bindC
  exact zdp (i:=i) (List.nodup_cons.mp nd).2 (by simpa using h1) (by simpa using h2) hk
def start (N:List Str)(vs:List V):St:=vs.map some++List.replicate (N.length-vs.length) none
def Jt (CX:CXT)(P:Program)(w:World)(K:Frag)(mg:Str->Option Value)(base:Heap)(N:List Str)(qual:Str)(scope:Scope)(f:Addr)(cd:Value)(A:Around)(outer:List Env)(s:Shared)(H:Hp)(E:XK):Cx where
 prog:=P
 w:=w
 K:=K
 mg:=mg
 base:=base
 A:=A.deeper (envOfC qual scope s.heap.objs.size f cd)
 N:=N
 s₀:=s
 H₀:=H
 env:=envOfC qual scope s.heap.objs.size f cd
 outer:=outer
 stack:=envOfC qual scope s.heap.objs.size f cd::outer
 ex:=[]
 calm:=true
 fn:=fun _=>true
 pn:=[]
 xe:=fun e s'=>wpAny (model P w) (A.deeper (envOfC qual scope s.heap.objs.size f cd)) (leaving (envOfC qual scope s.heap.objs.size f cd) e) (fun _ s''=>CX outer H s E e s'') (fun e' s''=>CX outer H s E e' s'') s'
theorem zfl {sc:Scope}{n:Nat}{x:Str}(h:sc.names.lookup x=some .cell):∃c,(cellsFrom n sc.names []).lookup x=some c:=by
 have q:=PySem.W.cellsFrom_some sc.names n [] (.inl h)
 exact Option.isSome_iff_exists.mp q
theorem zdq {CX:CXT}{P:Program}{w:World}{K:Frag}{mg:Str->Option Value}{base:Heap}{N ps:List Str}{qual:Str}{scope:Scope}{f:Addr}{cd:Value}{A:Around}{outer:List Env}{s s1:Shared}{H:Hp}{E:XK}{us:List Value}{vs:List V}
  (S:zP N ps scope)(hd:A.handled=none)(e0:zd7 P w K mg base A outer s H)(hl:vs.length=ps.length)(r:Vals vs us)
  (x:InCallC s s.heap.objs.size (bindL (envOfC qual scope s.heap.objs.size f cd).kindOf (ps.zip us) fun _=>none) (cellsFrom (s.heap.objs.size+1) scope.names []) (bindC (envOfC qual scope s.heap.objs.size f cd).kindOf (ps.zip us) fun _=>none) s1) :
  Inv (Jt CX P w K mg base N qual scope f cd A outer s H E) [] (start N vs) H s1:=by
 have hpl:ps.length<=N.length:=by have:=congrArg List.length S.pre;rw[zvX] at this;omega
 obtain⟨h1,tk,rfl,hk⟩:=x.done
 have noA:∀b:Addr,b∉(Jt CX P w K mg base N qual scope f cd A outer s H E).ex:=fun b z=>absurd (show b∈([]:List Addr) from z) (by simp)
 refine⟨⟨e0.mod,S.kind,rfl,rfl,zvQ _,fun y z c h1 h2=>?_,fun y hy=>?_,fun y c _ h=>?_,fun _=>hd,Around.frames_deeper e0.frames,.inr ⟨rfl,rfl⟩,fun b z=>absurd z (noA b),e0.bs,e0.bsz,fun b _ _=>noA b,fun b z=>absurd z (noA b),e0.PN,e0.frf⟩,
  rfl,e0.bare,Un.kept hk,⟨_,x.toInCall.ns,fun i y v h1 h2 h3=>?_⟩,fun y c h=>⟨_,x.cell y c h⟩,e0.hok.fresh (zvQ _),fun y c h=>?_,fun p hp=>absurd (show p∈([]:List (Addr×Obj)) from hp) (by simp),e0.hok.kept hk,?_⟩
 ·exact name_of_addr x.apart (PySem.mem_of_lookup h1) (PySem.mem_of_lookup h2)
 ·have hy:scope.names.lookup y=some .cell\/scope.names.lookup y=some .free:=hy
  rcases hy with hy | hy
  ·exact zfl hy
  ·exact absurd rfl (S.znX _ (PySem.mem_of_lookup hy))
 ·exact zvS (x.above y c (PySem.mem_of_lookup h))
 ·have hi:i<vs.length:=by
   unfold start at h2
   by_cases hi:i<vs.length
   ·exact hi
   ·rw[List.getElem?_append_right (by simpa using hi)] at h2
    rw[List.getElem?_replicate] at h2
    split at h2<;>cases h2
  have ha:vs[i]?=some v:=by
   unfold start at h2
   rw[zv6 (by simpa using hi),zvC] at h2
   cases e:vs[i]? with
   | none=>rw[e] at h2;cases h2
   | some a=>rw[e] at h2;cases h2;rfl
  obtain⟨u,hu,rv⟩:=r.get ha
  have hp:ps[i]?=some y:=by
   rw[<-S.pre,List.getElem?_take_of_lt (by omega)];exact h1
  have ndP:ps.Nodup:=by rw[<-S.pre];exact S.nd.sublist (List.take_sublist _ _)
  refine⟨u,rv,?_⟩
  rcases S.par y (zvF hp) with k | k
  ·exact .inl ⟨k,zdo ndP hp hu k⟩
  ·obtain⟨c,e⟩:=zfl (n:=s.heap.objs.size+1) k
   refine .inr ⟨.inl k,c,e,?_⟩
   have q:=x.cell y c e
   rw[zdp ndP hp hu (by show scope.names.lookup y≠_;rw[k];decide)] at q
   exact q
 ·exact e0.hok.fresh (zvS (x.above y c (PySem.mem_of_lookup h)))
 ·unfold start
  show _=N.length
  rw[zvI,zvA,List.length_replicate]
  omega
theorem znf {CX:CXT}{P:Program}{w:World}{K:Frag}{mg:Str->Option Value}{base:Heap}{k:Nat}{f:Addr}{name qual:Str}{params:Arguments}{body:List Stmt}{scope:Scope}{dV kV doc pm cdv ct oc:Value}{an od:Option Addr}
  {osl:Array (Option Value)}{N ps:List Str}{sp:Sp}(lk:K.lookup f=some ⟨oc,od,.func (PySem.W.fnOf name qual params body scope dV kV doc pm an cdv ct),osl⟩)(hcd:PySem.W.codeIn K cdv qual=true)(S:zP N ps scope)
  (len:∀vs H Q E,sp vs H Q E->vs.length=ps.length)
  (hbody:∀(A:Around) (outer:List Env) (s:Shared) (H:Hp) (vs:List V) (Q:VK) (E:XK),uJ k (A.deeper (envOfC qual scope s.heap.objs.size f cdv))->sp vs H Q E ->
   ∃t,PSs (Jt CX P w K mg base N qual scope f cdv A outer s H E) body t/\t { nx:=fun _ H'=>Q .non H',rt:=Q } (start N vs) H) :
  zB P w K mg base CX (k+1) f (PySem.W.fnOf name qual params body scope dV kV doc pm an cdv ct) ps sp:=by
 refine⟨len,fun A outer s H args us vs Q E hr e0 hb r hsp=>?_⟩
 have hl:=len _ _ _ _ hsp
 have KX:K.In s.heap:=e0.mod.kin.keeps fun b o e=>(e0.bs b o e).1
 have lim:s.heap.NoLimit:=e0.mod.nolimit.keeps fun b o e=>(e0.bs b o e).1
 have hkind:∀y∈ps.zip us,scope.names.lookup y.1=some .local\/(scope.names.lookup y.1=some .cell/\((cellsFrom (s.heap.objs.size+1) scope.names []).lookup y.1).isSome=true):=fun⟨n,v⟩ hy=>by
  rcases S.par n (List.of_mem_zip hy).1 with q | q
  ·exact .inl q
  ·exact .inr ⟨q,PySem.W.cellsFrom_some _ _ _ (.inl q)⟩
 refine codeAny_call_function hr.depth (KX _ _ lk) rfl S.co S.gen rfl (PySem.W.codeRec_of KX hcd) (hb _ _ _ _ ?_)
 refine wpAny_newFunctionEnv_cells S.kind hkind fun env he s1 x=>?_
 subst he
 refine⟨lim.keeps x.toInCall.keep,codeAny_func ?_⟩
 obtain⟨t,ht,hq⟩:=hbody A outer s H vs Q E (hr.deeper _) hsp
 have I:Inv (Jt CX P w K mg base N qual scope f cdv A outer s H E) [] (start N vs) H s1:=zdq S hr.hd e0 hl r x
 refine wpAny_mono (ht [] s1 (start N vs) H _ I hq) (fun fl s' hs=>?_) fun e s' hs=>hs
 have fin:∀{σ':St} {H':Hp} {v:V} {u:Value},Inv (Jt CX P w K mg base N qual scope f cdv A outer s H E) [] σ' H' s'->RelV v u->Q v H'->CE outer P w H s Q u s' :=
  fun {σ' H' v u} J rv q=>⟨v,H',J.os,J.bare,J.base,J.hok,rv,q⟩
 cases fl with
 | ret u =>
  obtain⟨v,σ',H',J,rv,q⟩:=hs
  exact fin J rv q
 | next =>
  obtain⟨σ',H',J,q⟩:=hs
  exact fin (v:=V.non) (u:=Value.none) J rfl q
 | brk =>
  obtain⟨_,_,_,q⟩:=hs
  exact False.elim q
 | cont =>
  obtain⟨_,_,_,q⟩:=hs
  exact False.elim q
section
variable {X:Cx}{x:Str}{p pos:Pos}{e:Expr}{es:List Expr}{t:TA}{id T:String}{r:List V->Hp->VK->Prop}
def tCB (r:List V->Hp->VK->Prop)(t:TA):TE:=fun σ H Q=>t σ H fun vs H1=>r vs H1 Q
theorem zG (hc:WR X (.builtin id) r)(hg:Gl X x)(hm:X.mg x=none)(hv:bootBuiltins x=some (.builtin id))(ha:PA X (e::es) t)(hn:x ≠ "__name__" := by decide)(hdb:(x==("__debug__" : Str))=false:=by decide)
  (he:starEach (e::es) X.env=(false,eval e X.env)::starEach es X.env:=by rfl)(hpl:(backTo pos (starEach es X.env)).any (·.1)=false:=by rfl):PE X (.Call (.Name x p) (e::es) [] pos) (tCB r t):=by
 intro pins s σ H Q I h
 refine wpAny_Call_Name_kw (V7 I hg hm hv ?_ hn hdb)
 exact PyProof.Rows.callWith_builtin1 (vo (ha pos pins s σ H _ I h) fun us s1 ⟨vs,H1,I1,r1,q1⟩=>hc pins s1 σ H1 vs us Q I1 r1 q1) he hpl
theorem Us (hc:WR X (.type T) r)(hg:Gl X x)(hm:X.mg x=none)(hv:bootBuiltins x=some (.type T))(ha:PA X (e::es) t)(hn:x ≠ "__name__" := by decide)(hdb:(x==("__debug__" : Str))=false:=by decide)
  (he:starEach (e::es) X.env=(false,eval e X.env)::starEach es X.env:=by rfl)(hpl:(backTo pos (starEach es X.env)).any (·.1)=false:=by rfl):PE X (.Call (.Name x p) (e::es) [] pos) (tCB r t):=by
 intro pins s σ H Q I h
 refine wpAny_Call_Name_kw (V7 I hg hm hv ?_ hn hdb)
 exact PyProof.Rows.callWith_type1 (vo (ha pos pins s σ H _ I h) fun us s1 ⟨vs,H1,I1,r1,q1⟩=>hc pins s1 σ H1 vs us Q I1 r1 q1) he hpl
end
end L2
namespace HT
open PySem PyProof.Rows
section
variable {prog:Program}{w:World}{A:Around}{E:Value->Shared->Prop}{s:Shared}
def Yb (n d:Nat):Option Int->Nat
 | none=>d
 | some v=>if v<0 then (v+(n:Int)).toNat else min v.toNat n
theorem zj6 (n d:Nat):Yb n d none=d:=rfl
theorem zbb (n d k:Nat):Yb n d (some (k:Int))=min k n:=by
 show(if (k:Int)<0 then ((k:Int)+(n:Int)).toNat else min (k:Int).toNat n)=min k n
 rw[if_neg (by omega),zwb]
theorem znY (n d:Nat)(hd:d<=n)(o:Option Int):Yb n d o<=n:=by
 cases o with
 | none=>exact hd
 | some v =>
  show(if v<0 then (v+(n:Int)).toNat else min v.toNat n)<=n
  by_cases hv:v<0
  ·rw[if_pos hv];omega
  ·rw[if_neg hv];exact Nat.min_le_right _ _
theorem zh9 (v:Int)(n d:Nat):(if v<0 then max (v+(n:Int)) 0 else min v (n:Int))=((Yb n d (some v):Nat):Int):=by
 show(if v<0 then max (v+(n:Int)) 0 else min v (n:Int))=(((if v<0 then (v+(n:Int)).toNat else min v.toNat n):Nat):Int)
 by_cases hv:v<0
 ·simp only[if_pos hv];omega
 ·simp only[if_neg hv];omega
theorem zg1 (lo hi:Option Int)(n:Nat):Builtin.Slice.sliceAdjust lo hi 1 (n:Int)=(((Yb n 0 lo:Nat):Int),((Yb n n hi:Nat):Int)):=by
 have h1:¬((1:Int)<0):=by omega
 unfold Builtin.Slice.sliceAdjust
 simp only[h1,if_false]
 refine Prod.ext ?_ ?_
 ·cases lo with
  | none=>rfl
  | some v=>exact zh9 v n 0
 ·cases hi with
  | none=>rfl
  | some v=>exact zh9 v n n
theorem zg2 (i j:Nat):Builtin.Slice.slicePlaces (i:Int) (j:Int) 1=j-i:=by
 unfold Builtin.Slice.slicePlaces
 have h1:(1:Int) > 0:=by omega
 simp only[h1,if_true,Int.ediv_one]
 split<;>omega
theorem zby {v:Value}{o:Option Int}{Q:Option Int->Shared->Prop}(p:IsPart v o)(h:Q o s):wpAny (model prog w) A (Builtin.Slice.slicePartIndex v) Q E s:=by
 cases p with
 | none=>exact slicePart_none h
 | int i t=>exact slicePart_int h
theorem Ju {sl:Addr}{vl vu:Value}{lo hi:Option Int}{n:Nat}{Q:Int×Int×Nat->Shared->Prop}(hs:s.heap.IsSliceOf sl vl vu .none)(pl:IsPart vl lo)(pu:IsPart vu hi)
  (h:Q (((Yb n 0 lo:Nat):Int),1,Yb n n hi-Yb n 0 lo) s):wpAny (model prog w) A (Builtin.Slice.sliceApplied (.ref sl) (pure (n:Int))) Q E s:=by
 obtain⟨os,hos,hcs,hds⟩:=id hs
 unfold Builtin.Slice.sliceApplied Builtin.Slice.sliceFields
 refine wpAny_bind (wpAny_bind (wpAny_field hos hds (x:=vl) rfl (wpAny_bind (wpAny_field hos hds (x:=vu) rfl (wpAny_bind (wpAny_field hos hds (x:=.none) rfl (wpAny_pure ?_)))))))
 refine wpAny_bind (slicePart_none ?_)
 show wpAny _ _ (if ((1:Int)==0)=true then _ else _) _ _ s
 rw[if_neg (by decide)]
 refine wpAny_bind (zby pl (wpAny_bind (zby pu (wpAny_bind (wpAny_pure ?_)))))
 show wpAny _ _ (match Builtin.Slice.sliceAdjust lo hi 1 (n:Int) with | (lo,hi)=>pure (lo,(1:Int),Builtin.Slice.slicePlaces lo hi 1)) _ _ s
 rw[zg1 lo hi n]
 show wpAny _ _ (pure (((Yb n 0 lo:Nat):Int),(1:Int),Builtin.Slice.slicePlaces ((Yb n 0 lo:Nat):Int) ((Yb n n hi:Nat):Int) 1)) _ _ s
 rw[zg2]
 exact wpAny_pure h
theorem zj7 (xs:Array Value)(i k:Nat):((List.range k).filterMap fun(m:Nat)=>xs[((i:Int)+(m:Int)*1).toNat]?).toArray=((xs.toList.drop i).take k).toArray:=by
 have e:(fun(m:Nat)=>xs[((i:Int)+(m:Int)*1).toNat]?)=fun m=>xs[i+m]?:=by
  funext m
  have:((i:Int)+(m:Int)*1).toNat=i+m:=by omega
  rw[this]
 rw[e]
 have:=pick_run xs i k
 rw[List.filterMap_map] at this
 have e2:((fun x=>xs[x]?) ∘ fun x=>i+x)=fun m=>xs[i+m]?:=rfl
 rw[e2] at this
 rw[this]
theorem Lk {t sl:Addr}{items:Array Value}{vl vu:Value}{lo hi:Option Int}{Q:Value->Shared->Prop}(ht:IsTup s.heap t items)(hs:s.heap.IsSliceOf sl vl vu .none)(pl:IsPart vl lo)(pu:IsPart vu hi)
  (hw:¬(Yb items.size 0 lo=0/\Yb items.size items.size hi=items.size))
  (h:Q (.ref s.heap.objs.size) { s with heap:=s.heap.push { cls:=.type "tuple", data:=.seq ((items.toList.drop (Yb items.size 0 lo)).take (Yb items.size items.size hi-Yb items.size 0 lo)).toArray } })
  (hsz:items.size<=sizeLine):wpAny (model prog w) A (getItem (.ref t) (.ref sl)) Q E s:=by
 have zia:sizeOk (.seq ((items.toList.drop (Yb items.size 0 lo)).take (Yb items.size items.size hi-Yb items.size 0 lo)).toArray):=by
  show((items.toList.drop (Yb items.size 0 lo)).take (Yb items.size items.size hi-Yb items.size 0 lo)).toArray.size<=sizeLine
  rw[zvK,zvX,List.length_drop,Array.length_toList]
  omega
 have hj:Yb items.size items.size hi<=items.size:=znY _ _ (zvQ _) hi
 obtain⟨os,hos,hcs,hds⟩:=id hs
 have hTs:s.TypeIs (.ref sl) "slice" := ⟨os,hos,hcs⟩
 unfold getItem
 try with_reducible refine wpAny_holding ?_
 first | refine wpAny_bind (wpAny_pure ?_) | skip
 refine wpAny_bind (wpAny_sequenceKey ht.typeIs (by decide) ?_)
 refine wpAny_bind (wpAny_callSpecial?_slot (name:=Str.ofString "__getitem__") ht.typeIs PyProof.Rows.slot_tuple_getitem
  (wpAny_call_entry PyProof.Rows.slot_tuple_getitem ht.typeIs entry_tuple_getitem ?_ (args_tuple_getitem _ _)))
 show wpAny _ _ (Builtin.Tuple.tupleItemsOf (.ref t)>>=_) _ _ s
 refine wpAny_bind (tupleItemsOf_ ht ?_)
 refine wpAny_bind (wpAny_typeOf hTs ?_)
 rw[if_pos (by decide)]
 refine wpAny_bind (Ju hs pl pu ?_)
 have hno:¬((((Yb items.size 0 lo:Nat):Int)==0&&(1:Int)==1&&(Yb items.size items.size hi-Yb items.size 0 lo)==items.size)=true):=by
  intro q
  rw[zv1,zv1] at q
  have q1:((Yb items.size 0 lo:Nat):Int)=0:=eq_of_beq q.1.1
  have q2:Yb items.size items.size hi-Yb items.size 0 lo=items.size:=eq_of_beq q.2
  exact hw ⟨by omega,by omega⟩
 show wpAny _ _ (if (((Yb items.size 0 lo:Nat):Int)==0&&(1:Int)==1&&(Yb items.size items.size hi-Yb items.size 0 lo)==items.size)=true then _ else _) _ _ s
 rw[if_neg hno,zj7]
 first
  | exact wpAny_bind (m:=Builtin.Tuple.tupleExact _) (wpAny_newObj_type (wpAny_pure ⟨_,rfl,wpAny_pure h⟩) zia)
  | exact wpAny_bind (m:=Builtin.Tuple.tupleExact _) (wpAny_newObj_type (wpAny_bind (wpAny_pure (wpAny_pure ⟨_,rfl,wpAny_pure h⟩))) zia)
  | exact wpAny_bind (wpAny_bind (m:=Builtin.Tuple.tupleExact _) (wpAny_newObj_type (wpAny_pure (wpAny_pure ⟨_,rfl,wpAny_pure h⟩)) zia))
  | exact wpAny_bind (wpAny_bind (m:=Builtin.Tuple.tupleExact _) (wpAny_newObj_type (wpAny_pure ⟨_,rfl,wpAny_pure h⟩) zia))
end
end HT
namespace L2
open PySem PySem.Spec PyProof.Rows
abbrev TO:=St->Hp->(Option Int->Hp->Prop)->Prop
def PO (X:Cx)(e:Option Expr)(t:TO):Prop :=
 ∀(pins:List (Addr×Obj)) (s:Shared) (σ:St) (H:Hp) (Q:Option Int->Hp->Prop),Inv X pins σ H s->t σ H Q ->
  wpAny (model X.prog X.w) X.A (evalPart e X.env) (fun u s'=>∃o H',Inv X pins σ H' s'/\IsPart u o/\Q o H') X.xe s
def zlM:TO:=fun _ H Q=>Q none H
def zpu (t:TE):TO:=fun σ H Q=>t σ H fun x H1=>∃i,x=.int i/\Q (some i) H1
theorem intsAre_of {ns:List Int}:∀{us:List Value},Vals (ns.map V.int) us->IntsAre us ns:=by
 induction ns with
 | nil=>intro us r;rw[List.map_nil] at r;cases r;exact .nil
 | cons n ns ih =>
  intro us r
  rw[zvY] at r
  cases r with
  | cons r1 r2 =>
   obtain⟨t,e⟩:=r1
   subst e
   exact .cons n t (ih r2)
section
variable {X:Cx}{e:Expr}{te:TE}{lo hi:Option Expr}{tl th:TO}{pos p2:Pos}
theorem zib:PO X none zlM:=by
 intro pins s σ H Q I h
 rw[evalPart_none]
 exact wpAny_pure ⟨none,H,I,.none,h⟩
theorem zbc (h:PE X e te):PO X (some e) (zpu te):=by
 intro pins s σ H Q I hw
 rw[evalPart_some]
 refine vo (h pins s σ H _ I hw) fun u s1 ⟨x,H1,I1,r1,q1⟩=>?_
 obtain⟨i,rfl,q⟩:=q1
 obtain⟨t,rfl⟩:=r1
 exact⟨some i,H1,I1,.int i t,q⟩
def SlR (X:Cx)(r:V->Option Int->Option Int->Hp->VK->Prop):Prop :=
 ∀(pins:List (Addr×Obj)) (s:Shared) (σ:St) (H:Hp) (x:V) (v vl vu:Value) (lo hi:Option Int) (sl:Addr) (Q:VK),Inv X pins σ H s->RelV x v->s.heap.IsSliceOf sl vl vu .none->IsPart vl lo->IsPart vu hi->r x lo hi H Q ->
  ∃T id,typeLookup (.type T) "__getitem__"=pure (some (.builtin id))/\s.TypeIs v T/\wpAny (model X.prog X.w) X.A (getItem v (.ref sl)) (EP X pins σ Q) X.xe s
def tSl (r:V->Option Int->Option Int->Hp->VK->Prop)(te:TE)(tl th:TO):TE:=fun σ H Q=>te σ H fun x H1=>tl σ H1 fun l H2=>th σ H2 fun u H3=>r x l u H3 Q
theorem zbz {r:V->Option Int->Option Int->Hp->VK->Prop}(hr:SlR X r)(he:PE X e te)(hl:PO X lo tl)(hu:PO X hi th):PE X (.Subscript e (.Slice lo hi none p2) pos) (tSl r te tl th):=by
 intro pins s σ H Q I h
 refine Subscript_ (vo (he pins s σ H _ I h) fun v s1 ⟨x,H1,I1,r1,q1⟩=>?_)
 refine wpAny_Slice (vo (hl pins s1 σ H1 _ I1 q1) fun vl s2 ⟨l,H2,I2,pl,q2⟩=>vo (hu pins s2 σ H2 _ I2 q2) fun vu s3 ⟨u,H3,I3,pu,q3⟩=>?_)
 rw[evalPart_none]
 refine wpAny_pure ?_
 have I4:Inv X pins σ H3 { s3 with heap:=s3.heap.push { cls:=.type "slice", data:=.fields #[vl,vu,.none] } }:=I3.kept (t':=s3.toks) fun b ob q=>zvG _ q
 obtain⟨T,id,hT,ht,hg⟩:=hr pins { s3 with heap:=s3.heap.push { cls:=.type "slice", data:=.fields #[vl,vu,.none] } } σ H3 x v vl vu l u s3.heap.objs.size Q I4 r1 (Heap.IsSliceOf.new ..) pl pu q3
 show wpAny (model X.prog X.w) X.A (subscriptTail e (.Slice lo hi none p2) v (.ref s3.heap.objs.size)) (EP X pins σ Q) X.xe { s3 with heap:=s3.heap.push { cls:=.type "slice", data:=.fields #[vl,vu,.none] } }
 exact tail_any (ops:=[.ref s3.heap.objs.size,v]) ht hT hg (by with_unfolding_all rfl)
def Ln (xs:List V)(lo hi:Option Int):List V:=(xs.drop (HT.Yb xs.length 0 lo)).take (HT.Yb xs.length xs.length hi-HT.Yb xs.length 0 lo)
theorem zaq (xs:List V)(lo hi:Option Int):(Ln xs lo hi).length<=xs.length:=by
 unfold Ln
 rw[zvX,List.length_drop]
 omega
def zrK (K:Frag):V->Option Int->Option Int->Hp->VK->Prop:=fun x lo hi H Q=>∃a xs,x=.ref a/\vO K H a xs /\
 ¬(HT.Yb xs.length 0 lo=0/\HT.Yb xs.length xs.length hi=xs.length)/\∀p,H p=none->Q (.ref p) (upd H p (.tup (Ln xs lo hi)))
theorem zg3:SlR X (zrK X.K):=by
 intro pins s σ H x v vl vu lo hi sl Q I rx hs pl pu h
 obtain⟨a,xs,rfl,hx,hw,q⟩:=h
 cases rx
 obtain⟨its,r,ht,hz⟩:=I.tuple hx
 have hlen:its.toArray.size=xs.length:=by rw[zvK];exact r.length.symm
 refine⟨"tuple", _,PyProof.Rows.slot_tuple_getitem.lookup,ht.typeIs,?_⟩
 refine HT.Lk ht hs pl pu (by rw[hlen];exact hw) ?_ (by rw[hlen];exact hz)
 rw[hlen]
 refine⟨.ref s.heap.objs.size,_,I.laid (t':=s.toks) (o:=.tup (Ln xs lo hi)) (fun b ob q=>zvG _ q) (zvQ _) ?_,rfl,q _ (I.hok.fresh (zvQ _))⟩
 exact⟨zvV (zaq xs lo hi) hz,_,(r.drop (HT.Yb xs.length 0 lo)).take (HT.Yb xs.length xs.length hi-HT.Yb xs.length 0 lo),IsTup.new _ _⟩
end
def ixN (n:Nat)(i:Int):Option Nat:=if 0<=i then (if i<n then some i.toNat else none) else if -(n:Int)<=i then some (i+n).toNat else none
def atI {α:Type}(xs:List α)(i:Int):Option α:=(ixN xs.length i).bind fun j=>xs[j]?
theorem zlN {n:Nat}{i:Int}{j:Nat}(h:ixN n i=some j):seqIndex? i n=some j/\j<n/\-(n:Int)<=i/\i<n:=by
 unfold ixN at h
 by_cases h0:0<=i
 ·rw[if_pos h0] at h
  by_cases h1:i<n
  ·rw[if_pos h1] at h
   have e:i.toNat=j:=zv4 h
   exact⟨by rw[seqIndex_of h0 h1,e],by omega,by omega,h1⟩
  ·rw[if_neg h1] at h;cases h
 ·rw[if_neg h0] at h
  by_cases h1:-(n:Int)<=i
  ·rw[if_pos h1] at h
   have e:(i+n).toNat=j:=zv4 h
   exact⟨by rw[seqIndex_neg (by omega) h1,e],by omega,h1,by omega⟩
  ·rw[if_neg h1] at h;cases h
theorem zd8 {α:Type}{xs:List α}{i:Int}{v:α}(h:atI xs i=some v):∃j,seqIndex? i xs.length=some j/\xs[j]?=some v/\j<xs.length/\-(xs.length:Int)<=i/\i<xs.length:=by
 unfold atI at h
 cases e:ixN xs.length i with
 | none=>rw[e] at h;cases h
 | some j =>
  rw[e] at h
  obtain⟨h1,h2,h3,h4⟩:=zlN e
  exact⟨j,h1,h,h2,h3,h4⟩
theorem vU {α:Type}{xs:List α}{j:Nat}{v:α}(h:xs[j]?=some v):atI xs (j:Int)=some v:=by
 have hj:j<xs.length:=(zvD.mp h).1
 have e:ixN xs.length (j:Int)=some j:=by
  unfold ixN
  rw[if_pos (by omega),if_pos (by omega)];simp
 unfold atI;rw[e];exact h
def zlO (b:Expr):Prop:=∀o i,subscripted b false o i=operate [o,i] (getItem o i)
def IxR (X:Cx)(r:R2):Prop :=
 ∀(value slice:Expr) (pins:List (Addr×Obj)) (s:Shared) (σ:St) (H:Hp) (x y:V) (v u:Value) (Q:VK),Inv X pins σ H s->RelV x v->RelV y u->r x y H Q ->
  subscripted slice false v u=operate [v,u] (getItem v u)->wpAny (model X.prog X.w) X.A (subscriptTail value slice v u) (EP X pins σ Q) X.xe s
def MtR (X:Cx)(id:String)(r:V->List V->Hp->VK->Prop):Prop :=
 ∀(pins:List (Addr×Obj)) (s:Shared) (σ:St) (H:Hp) (x:V) (xs:List V) (v:Value) (us:List Value) (Q:VK),Inv X pins σ H s->RelV x v->Vals xs us->r x xs H Q ->
  wpAny (model X.prog X.w) X.A (call (.builtin id) (v::us)) (EP X pins σ Q) X.xe s
section
variable {X:Cx}{a b:Expr}{ta tb:TE}{pos:Pos}
theorem yg {r:R2}(hr:IxR X r)(ha:PE X a ta)(hb:PE X b tb)(hs:zlO b):PE X (.Subscript a b pos) (tOp r ta tb):=by
 intro pins s σ H Q I h
 exact Subscript_ (znO ha hb I h fun v u s2 x y H2 I2 rx ry q=>hr a b pins s2 σ H2 x y v u Q I2 rx ry q (hs _ _))
def zpv (K:Frag):R2:=fun x y H Q=>∃p xs i v,x=.ref p/\y=.int i/\zX K H p xs/\atI xs i=some v/\Q v H
def zn1 (K:Frag):R2:=fun x y H Q=>∃p xs i v,x=.ref p/\y=.int i/\vO K H p xs/\atI xs i=some v/\Q v H
def zrL:R2:=fun x y H Q=>∃z i c,x=.str z/\y=.int i/\z.length<=sizeLine/\atI z.cps.toList i=some c/\Q (.str ⟨#[c]⟩) H
theorem yC:IxR X (zpv X.K):=by
 intro value slice pins s σ H x y v u Q I rx ry h hs
 obtain⟨p,xs,i,z,rfl,rfl,hq,he,q⟩:=h
 cases rx
 obtain⟨t,rfl⟩:=ry
 obtain⟨its,r,pl,hz⟩:=I.list hq
 obtain⟨j,h1,h2,h3,h4,h5⟩:=zd8 he
 obtain⟨w,ew,rw'⟩:=r.get h2
 have hl:=r.length
 have hn:=RZ
 have fin:EP X pins σ Q w s:=⟨z,H,I,rw',q⟩
 by_cases h0:0<=i
 ·have hj:i.toNat=j:=by
   rw[seqIndex_of h0 h5] at h1
   exact zv4 h1
  exact item_listR pl.isList h0 (by omega) (by rw[hj];simpa using ew) fin hs
 ·have hj:(i+(its.toArray.size:Int)).toNat=j:=by
   rw[seqIndex_neg (by omega) h4] at h1
   rw[zvK,<-hl]
   exact zv4 h1
  exact subscriptTail_builtinR (x:=w) pl.isList.typeIs slot_list_getitem.lookup
   (wpAny_getItem_list_neg (Q:=fun r s'=>r=w/\EP X pins σ Q r s') pl.isList (by omega) (by rw[zvK]<;>omega) (by omega) (by rw[hj];simpa using ew) ⟨rfl,fin⟩) hs
theorem wD:IxR X (zn1 X.K):=by
 intro value slice pins s σ H x y v u Q I rx ry h hs
 obtain⟨p,xs,i,z,rfl,rfl,hq,he,q⟩:=h
 cases rx
 obtain⟨t,rfl⟩:=ry
 obtain⟨its,r,pl,hz⟩:=I.tuple hq
 obtain⟨j,h1,h2,h3,h4,h5⟩:=zd8 he
 obtain⟨w,ew,rw'⟩:=r.get h2
 have hl:=r.length
 have hn:=RZ
 have fin:EP X pins σ Q w s:=⟨z,H,I,rw',q⟩
 exact subscriptTail_builtinR (x:=w) pl.typeIs slot_tuple_getitem.lookup
  (getItem_tuple (j:=j) (Q:=fun r s'=>r=w/\EP X pins σ Q r s') pl (by omega) (by omega) (by rw[zvK,<-hl];exact h1) (by simpa using ew) ⟨rfl,fin⟩) hs
theorem zn2:IxR X zrL:=by
 intro value slice pins s σ H x y v u Q I rx ry h hs
 obtain⟨z,i,c,rfl,rfl,hz,he,q⟩:=h
 obtain⟨t,rfl⟩:=rx
 obtain⟨t',rfl⟩:=ry
 obtain⟨j,h1,h2,h3,h4,h5⟩:=zd8 he
 have hl:z.cps.toList.length=z.length:=by simp[Str.length]
 rw[hl] at h1 h4 h5
 have hn:=RZ
 exact tail_any (typeIs_str s z t) slot_str_getitem.lookup (getItem_str (c:=c) (by
  have e1:decide (i < -(2^63:Int))=false:=decide_eq_false (by omega)
  have e2:decide (i >= 2^63)=false:=decide_eq_false (by omega)
  rw[e1,e2,Bool.or_false]) (by rw[h1];simpa using h2) ⟨.str ⟨#[c]⟩,H,I.tok _,⟨_,rfl⟩,q⟩) hs
theorem zd9 (lo hi:Option Int)(n:Nat):(sliceBounds lo hi none n).1=((HT.Yb n 0 lo:Nat):Int)/\(sliceBounds lo hi none n).2.1=((HT.Yb n n hi:Nat):Int)/\(sliceBounds lo hi none n).2.2=1:=by
 refine⟨?_,?_,rfl⟩
 ·cases lo with
  | none=>simp[sliceBounds,HT.Yb]
  | some i =>
   simp only[sliceBounds,HT.Yb,Option.getD_none,show(1:Int) > 0 by decide,if_true]
   by_cases h:i<0
   ·simp only[h,if_true]<;>omega
   ·simp only[h,if_false]<;>omega
 ·cases hi with
  | none=>simp[sliceBounds,HT.Yb]
  | some i =>
   simp only[sliceBounds,HT.Yb,Option.getD_none,show(1:Int) > 0 by decide,if_true]
   by_cases h:i<0
   ·simp only[h,if_true]<;>omega
   ·simp only[h,if_false]<;>omega
theorem zcL (its:List Value)(lo hi:Option Int):slicePick its.toArray lo hi none=((its.drop (HT.Yb its.length 0 lo)).take (HT.Yb its.length its.length hi-HT.Yb its.length 0 lo)).toArray:=by
 obtain⟨h1,h2,h3⟩:=zd9 lo hi its.toArray.size
 unfold slicePick
 rw[h1,h2,h3]
 simp only[sliceRange_one,pick_run,zvK]<;>rfl
def zrM (K:Frag):V->Option Int->Option Int->Hp->VK->Prop:=fun x lo hi H Q=>∃a xs,x=.ref a/\zX K H a xs/\∀p,H p=none->Q (.ref p) (upd H p (.lst (Ln xs lo hi)))
theorem zqW:SlR X (zrM X.K):=by
 intro pins s σ H x v vl vu lo hi sl Q I rx hs pl pu h
 obtain⟨a,xs,rfl,hx,q⟩:=h
 cases rx
 obtain⟨its,r,ht,hz⟩:=I.list hx
 have hlen:=r.length
 refine⟨"list", _,slot_list_getitem.lookup,ht.isList.typeIs,?_⟩
 refine wpAny_getItem_list_slice ht.isList hs pl pu .none (by simp) ?_ (by rw[zvK]<;>omega)
 rw[zcL,<-hlen]
 refine⟨.ref s.heap.objs.size,_,I.laid (t':=s.toks) (o:=.lst (Ln xs lo hi)) (fun b ob q=>zvG _ q) (zvQ _) ?_,rfl,q _ (I.hok.fresh (zvQ _))⟩
 exact⟨zvV (zaq xs lo hi) hz,_,0,(r.drop (HT.Yb xs.length 0 lo)).take (HT.Yb xs.length xs.length hi-HT.Yb xs.length 0 lo),zvU _ rfl⟩
def vG:V->Bool
 | .non=>true
 | .bl _=>true
 | .int _=>true
 | .str _=>true
 | _=>false
def eqV:V->V->Bool
 | .non,.non=>true
 | .bl a,.bl b=>a==b
 | .bl a,.int b=>(if a then 1 else 0)==b
 | .int a,.bl b=>a==(if b then 1 else 0)
 | .int a,.int b=>a==b
 | .str a,.str b=>a==b
 | _,_=>false
theorem zj8 {A:Around}{s:Shared}{y x:V}{u v:Value}(ry:RelV y u)(rx:RelV x v)(fy:vG y=true)(fx:vG x=true):SeqAt.EqAt A s u v (eqV y x):=by
 cases y with
 | non =>
  cases ry
  cases x with
  | non=>cases rx;exact SeqAt.EqAt.same _
  | bl b=>cases rx;exact SeqAt.EqAt.none_bool b
  | int b=>obtain⟨t,rfl⟩:=rx;exact SeqAt.EqAt.none_int b t
  | str b=>obtain⟨t,rfl⟩:=rx;exact SeqAt.EqAt.none_str b t
  | _=>exact absurd (show false=true from fx) zvE
 | bl a =>
  cases ry
  cases x with
  | non=>cases rx;exact SeqAt.EqAt.bool_none a
  | bl b=>cases rx;exact SeqAt.EqAt.bool_bool a b
  | int b=>obtain⟨t,rfl⟩:=rx;exact SeqAt.EqAt.bool_int a b t
  | str b=>obtain⟨t,rfl⟩:=rx;exact SeqAt.EqAt.bool_str a b t
  | _=>exact absurd (show false=true from fx) zvE
 | int a =>
  obtain⟨t',rfl⟩:=ry
  cases x with
  | non=>cases rx;exact SeqAt.EqAt.int_none a t'
  | bl b=>cases rx;exact SeqAt.EqAt.int_bool a t' b
  | int b=>obtain⟨t,rfl⟩:=rx;exact SeqAt.EqAt.int_int a t' b t
  | str b=>obtain⟨t,rfl⟩:=rx;exact SeqAt.EqAt.int_str a t' b t
  | _=>exact absurd (show false=true from fx) zvE
 | str a =>
  obtain⟨t',rfl⟩:=ry
  cases x with
  | non=>cases rx;exact SeqAt.EqAt.str_none a t'
  | bl b=>cases rx;exact SeqAt.EqAt.str_bool a t' b
  | int b=>obtain⟨t,rfl⟩:=rx;exact SeqAt.EqAt.str_int a t' b t
  | str b=>obtain⟨t,rfl⟩:=rx;exact SeqAt.EqAt.str_str a t' b t
  | _=>exact absurd (show false=true from fx) zvE
 | _=>exact absurd (show false=true from fy) zvE
def eqU (x:V)(u:Value):Bool:=match u with
 | .none=>eqV .non x
 | .bool b=>eqV (.bl b) x
 | .int i _=>eqV (.int i) x
 | .str z _=>eqV (.str z) x
 | _=>false
theorem zea {x y:V}{u:Value}(r:RelV y u)(f:vG y=true):eqU x u=eqV y x:=by
 cases y with
 | non=>cases r;rfl
 | bl b=>cases r;rfl
 | int i=>obtain⟨t,rfl⟩:=r;rfl
 | str z=>obtain⟨t,rfl⟩:=r;rfl
 | _=>exact absurd (show false=true from f) zvE
theorem Lp {x:V}:∀{xs:List V} {us:List Value},Vals xs us->xs.all vG=true->us.any (eqU x)=xs.any fun y=>eqV y x
 | _,_,.nil,_=>rfl
 | y::xs,u::us,.cons r t,f=>by
  rw[List.all_cons,zv1] at f
  rw[List.any_cons,List.any_cons,zea r f.1,Lp t f.2]
theorem Ut {A:Around}{s:Shared}{x:V}{v:Value}(rx:RelV x v)(fx:vG x=true):∀{xs:List V} {us:List Value},Vals xs us->xs.all vG=true->∀u∈us,SeqAt.EqAt A s u v (eqU x u)
 | _,_,.nil,_=>fun u hu=>by cases hu
 | y::xs,u::us,.cons r t,f=>fun u' hu=>by
  rw[List.all_cons,zv1] at f
  rcases List.mem_cons.mp hu with rfl | hu
  ·rw[zea r f.1];exact zj8 r rx f.1 fx
  ·exact Ut rx fx t f.2 u' hu
def inV (x:V)(xs:List V):Bool:=xs.any fun y=>eqV y x
def rIn (K:Frag)(neg:Bool):R2:=fun x y H Q=>∃p xs,y=.ref p/\(zX K H p xs\/vO K H p xs)/\vG x=true/\xs.all vG=true/\Q (.bl (if neg then !inV x xs else inV x xs)) H
theorem Q6:Vp X (compareOp .In) (rIn X.K false):=by
 intro pins s σ H x y v u Q I rx ry h
 obtain⟨p,xs,rfl,hq,fx,fs,q⟩:=h
 cases ry
 rcases hq with hq | hq
 ·obtain⟨its,r,pl,hz⟩:=I.list hq
  refine SeqAt.in_listAt (eqU x) pl.isList (fun w hw=>Ut rx fx r fs w (by simpa using hw)) ⟨.bl _,H,I,rfl,?_⟩
  rw[show its.toArray.any (eqU x)=its.any (eqU x) by simp,Lp r fs]
  exact q
 ·obtain⟨its,r,pl,hz⟩:=I.tuple hq
  refine SeqAt.in_tupleAt (eqU x) pl (fun w hw=>Ut rx fx r fs w (by simpa using hw)) ⟨.bl _,H,I,rfl,?_⟩
  rw[show its.toArray.any (eqU x)=its.any (eqU x) by simp,Lp r fs]
  exact q
theorem zeb:Vp X (compareOp .NotIn) (rIn X.K true):=by
 intro pins s σ H x y v u Q I rx ry h
 obtain⟨p,xs,rfl,hq,fx,fs,q⟩:=h
 cases ry
 rcases hq with hq | hq
 ·obtain⟨its,r,pl,hz⟩:=I.list hq
  refine SeqAt.notIn_listAt (eqU x) pl.isList (fun w hw=>Ut rx fx r fs w (by simpa using hw)) ⟨.bl _,H,I,rfl,?_⟩
  rw[show its.toArray.any (eqU x)=its.any (eqU x) by simp,Lp r fs]
  exact q
 ·obtain⟨its,r,pl,hz⟩:=I.tuple hq
  refine SeqAt.notIn_tupleAt (eqU x) pl (fun w hw=>Ut rx fx r fs w (by simpa using hw)) ⟨.bl _,H,I,rfl,?_⟩
  rw[show its.toArray.any (eqU x)=its.any (eqU x) by simp,Lp r fs]
  exact q
theorem zM:WR X (.builtin "len") (fun xs H Q=>∃p ys,xs=[.ref p]/\(zX X.K H p ys\/vO X.K H p ys)/\Q (.int ys.length) H):=by
 intro pins s σ H xs us Q I r h
 obtain⟨p,ys,rfl,hq,q⟩:=h
 obtain⟨u,rfl,rx⟩:=vals1 r
 cases rx
 have hn:=RZ
 rcases hq with hq | hq
 ·obtain⟨its,r',pl,hz⟩:=I.list hq
  have hlen:=r'.length
  exact Calls.call_len_list pl.isList (by simp only[zvK]<;>omega) ⟨.int ys.length,H,I.tok _,⟨s.toks+1,by rw[zvK,hlen]⟩,q⟩
 ·obtain⟨its,r',pl,hz⟩:=I.tuple hq
  have hlen:=r'.length
  exact len_tuple pl (by simp only[zvK]<;>omega) ⟨.int ys.length,H,I.tok _,⟨s.toks+1,by rw[zvK,hlen]⟩,q⟩
theorem Lq:WR X (.type "list") (fun xs H Q=>∃p ys,xs=[.ref p]/\(zX X.K H p ys\/vO X.K H p ys)/\∀l,H l=none->Q (.ref l) (upd H l (.lst ys))):=by
 intro pins s σ H xs us Q I r h
 obtain⟨p,ys,rfl,hq,q⟩:=h
 obtain⟨u,rfl,rx⟩:=vals1 r
 cases rx
 have fin:∀(its:List Value),Vals ys its->ys.length<=sizeLine->∀(h':Heap) (c':Nat),(∀b o',s.heap.get? b=some o'->h'.get? b=some o') ->
   h'.get? s.heap.objs.size=some { cls:=.type "list", dict:=none,data:=.seq its.toArray c',slots:=#[] }->EP X pins σ Q (.ref s.heap.objs.size) { s with heap:=h' }:=fun its r' hz h' c' kp e =>
  ⟨.ref s.heap.objs.size,_,I.laid (t':=s.toks) kp (zvQ _) (show wF X.prog X.w _ h' _ (.lst ys) from ⟨hz,its,c',r',e⟩),rfl,q _ (I.hok.fresh (zvQ _))⟩
 rcases hq with hq | hq
 ·obtain⟨its,r',pl,hz⟩:=I.list hq
  have hlen:=r'.length
  obtain⟨o,ho,hc,n,hd⟩:=pl.isList
  exact call_list_seq p (.inl rfl) ho hc hd (fun h' c' kp e=>fin its r' hz h' c' kp e) (by simp only[zvK]<;>omega)
 ·obtain⟨its,r',pl,hz⟩:=I.tuple hq
  have hlen:=r'.length
  obtain⟨o,ho,hc,n,hd⟩:=pl
  exact call_list_seq p (.inr rfl) ho hc hd (fun h' c' kp e=>fin its r' hz h' c' kp e) (by simp only[zvK]<;>omega)
def tyV (K:Frag)(T:String)(x:V)(H:Hp):Prop:=match x with
 | .str _=>T="str"
 | .int _=>T="int"
 | .ref p=>(T="list" /\ ∃xs,zX K H p xs)\/(T="tuple" /\ ∃o,K.lookup p=some o/\o.cls=.type "tuple" /\ o.dict=none) \/
   (T="dict" /\ ((∃kvs,H p=some (.dK kvs))\/∃kvs,H p=some (.dT kvs)))\/(T="set" /\ ∃S n,H p=some (.set S n))
 | _=>False
theorem zg4 {pins:List (Addr×Obj)}{σ:St}{H:Hp}{s:Shared}{T:String}{x:V}{v:Value}(I:Inv X pins σ H s)(r:RelV x v)(ty:tyV X.K T x H) :
  s.TypeIs v T/\∀a,v=.ref a->∃ob,s.heap.get? a=some ob/\ob.dict=none:=by
 cases x with
 | str z =>
  obtain⟨t,rfl⟩:=r
  cases (show T="str" from ty)
  exact⟨typeIs_str s z t,fun _ e=>nomatch e⟩
 | int i =>
  obtain⟨t,rfl⟩:=r
  cases (show T="int" from ty)
  exact⟨typeIs_int s i t,fun _ e=>nomatch e⟩
 | ref p =>
  cases r
  rcases ty with ⟨rfl,xs,hq⟩ | ⟨rfl,o,hk,hc,hd⟩ | ⟨rfl,hk⟩ | ⟨rfl,S,n,hk⟩
  ·obtain⟨its,_,pl,_⟩:=I.list hq
   refine⟨pl.isList.typeIs,fun a e=>?_⟩
   cases e
   obtain⟨o,n,e,c,hd,_⟩:=pl
   exact⟨o,e,hd⟩
  ·refine⟨⟨o,I.PX p o hk,hc⟩,fun a e=>?_⟩
   cases e
   exact⟨o,I.PX _ o hk,hd⟩
  ·have z:∃o,s.heap.get? p=some o/\o.ExactDict:=by
    rcases hk with ⟨kvs,hk⟩ | ⟨kvs,hk⟩
    ·obtain⟨_,_,_,_,o,_,_,e,ex,_⟩:=I.hok p _ hk
     exact⟨o,e,ex⟩
    ·obtain⟨_,_,_,_,o,_,_,e,ex,_⟩:=I.hok p _ hk
     exact⟨o,e,ex⟩
   obtain⟨o,e,ex⟩:=z
   refine⟨⟨o,e,ex.1⟩,fun a e2=>?_⟩
   cases e2
   exact⟨o,e,ex.2.1⟩
  ·obtain⟨o,_,_,_,e,ex,_⟩:=I.hok p _ hk
   refine⟨⟨o,e,ex.1⟩,fun a e2=>?_⟩
   cases e2
   exact⟨o,e,ex.2.1⟩
 | _=>exact False.elim ty
def zrP (K:Frag)(T:String)(r:V->List V->Hp->VK->Prop)(to:TE):TE:=fun σ H Q=>to σ H fun x H1=>tyV K T x H1/\r x [] H1 Q
def tBM (K:Frag)(T:String)(r:V->List V->Hp->VK->Prop)(to:TE)(t:TA):TE:=fun σ H Q=>to σ H fun x H1=>tyV K T x H1/\t σ H1 fun xs H2=>r x xs H2 Q
variable {o e:Expr}{es:List Expr}{to:TE}{t:TA}{name:Str}{apos cpos:Pos}{T id:String}{r:V->List V->Hp->VK->Prop}
theorem zn3 (pa:PlainAttrs T)(slot:Slot T name id)(hty:typeOf (.builtin id)=pure (.type "method_descriptor"))(hm:MtR X id r)(ho:PE X o to)
  (hbase:attributeBase o name X.env (eval o X.env)=eval o X.env:=by rfl)(hline:(apos.endLine==cpos.line)=true:=by rfl):PE X (.Call (.Attribute o name apos) [] [] cpos) (zrP X.K T r to):=by
 intro pins s σ H Q I h
 refine wpAny_Call_method0_late hbase hline (vo (ho pins s σ H _ I h) fun v s1 ⟨x,H1,I1,r1,ty,q1⟩=>?_)
 obtain⟨h1,h2⟩:=zg4 I1 r1 ty
 exact⟨T,id,pa,slot,hty,h1,h2,Calls.callWith_builtin rfl (PySem.evalArgs_none (hm pins s1 σ H1 x [] v [] Q I1 r1 .nil q1))⟩
theorem Zv (pa:PlainAttrs T)(slot:Slot T name id)(hty:typeOf (.builtin id)=pure (.type "method_descriptor"))(hm:MtR X id r)(ho:PE X o to)(ha:PA X (e::es) t)
  (hbase:attributeBase o name X.env (eval o X.env)=eval o X.env:=by rfl)
  (hfew:((backTo cpos (starEach (e::es) X.env)).all (fun x=>!x.1)&&(backToKw cpos (keywordEach [] X.env)).all (fun x=>x.1.isSome)
   && decide ((e::es).length+([]:List Keyword).length+(if ([]:List Keyword).isEmpty then 0 else 1)<30))=true:=by rfl)
  (hline:(apos.endLine==cpos.line)=true:=by rfl)(hs:starEach (e::es) X.env=(false,eval e X.env)::starEach es X.env:=by rfl)(hplain:(backTo cpos (starEach es X.env)).any (·.1)=false:=by rfl) :
  PE X (.Call (.Attribute o name apos) (e::es) [] cpos) (tBM X.K T r to t):=by
 intro pins s σ H Q I h
 refine wpAny_Call_method_late hbase hfew hline rfl (vo (ho pins s σ H _ I h) fun v s1 ⟨x,H1,I1,r1,ty,q1⟩=>?_)
 obtain⟨h1,h2⟩:=zg4 I1 r1 ty
 refine⟨T,id,pa,slot,hty,h1,h2,?_⟩
 have hA:=ha cpos pins s1 σ H1 _ I1 q1
 rw[hs] at hA ⊢
 refine Calls.callWith_builtin (by show(false||(backTo cpos (starEach es X.env)).any (·.1))=false;rw[hplain]<;>rfl) (Calls.evalArgs_plain ?_)
 exact vo hA fun us s2 ⟨vs,H2,I2,r2,q2⟩=>hm pins s2 σ H2 x vs v us Q I2 r1 r2 q2
end
def MtM (X:Cx)(id:String)(r:V->List V->Hp->VK->Prop):Prop :=
 ∀(pins:List (Addr×Obj)) (s:Shared) (σ:St) (H:Hp) (x:V) (xs:List V) (v:Value) (us:List Value) (Q:VK),Inv X pins σ H s->RelV x v->Vals xs us->r x xs H Q ->
  wpAny (model X.prog X.w) X.A (call (.builtin id) (v::us)) (EP X pins σ Q) X.xe s
theorem Vals.one:∀{x:V} {us:List Value},Vals [x] us->∃u,us=[u]/\RelV x u
 | _,_,.cons r .nil=>⟨_,rfl,r⟩
theorem Vals.two:∀{x y:V} {us:List Value},Vals [x,y] us->∃u v,us=[u,v]/\RelV x u/\RelV y v
 | _,_,_,.cons r (.cons q .nil)=>⟨_,_,rfl,r,q⟩
theorem Vals.zero:∀{us:List Value},Vals [] us->us=[]
 | _,.nil=>rfl
theorem Vals.dropLast {xs:List V}{us:List Value}(h:Vals xs us):Vals xs.dropLast us.dropLast:=by
 induction h with
 | nil=>exact .nil
 | cons r t ih =>
  cases t with
  | nil=>exact .nil
  | cons q t'=>exact .cons r ih
theorem zg5 {α:Type}(l:List α):l.eraseIdx (l.length-1)=l.dropLast:=by
 induction l with
 | nil=>rfl
 | cons a r ih =>
  cases r with
  | nil=>rfl
  | cons b r =>
   have e:(a::b::r).length-1=((b::r).length-1)+1:=by
    have h1:(a::b::r).length=r.length+2:=rfl
    have h2:(b::r).length=r.length+1:=rfl
    omega
   rw[e,List.eraseIdx_cons_succ,ih]
   all_goals rfl
section
variable {X:Cx}{pins:List (Addr×Obj)}{σ:St}{H:Hp}{s:Shared}{l b:Addr}{xs ys zs:List V}
theorem Inv.zj9 {its its':List Value}{n:Nat}{f:Array Value->Array Value}{t':Nat}(I:Inv X pins σ H s)(hH:H l=some (.lst xs))
  (e:s.heap.get? l=some { cls:=.type "list", data:=.seq its.toArray n })(hf:f its.toArray=its'.toArray)(hv:Vals ys its')(hz:ys.length<=sizeLine) :
  Inv X pins σ (upd H l (.lst ys)) { s with heap:=s.heap.update l (Obj.mapSeq f),toks:=t' }:=by
 have q:=PySem.IsL.update e f
 rw[hf] at q
 refine I.write (x:=l) (e:=l) (by rw[hH];exact trivial) (.inl rfl) (fun b' u hb hu=>(Heap.get?_update_other s.heap (Obj.mapSeq f) (Ne.symm hb)).trans hu) ⟨_,q⟩ ?_
 exact⟨hz,its',_,hv,q⟩
theorem Inv.fresh (I:Inv X pins σ H s):H s.heap.objs.size=none:=I.hok.fresh (zvQ _)
theorem Inv.zg6 (I:Inv X pins σ H s)(hH:H l=some (.lst xs)):xs.length<=sizeLine/\∃(its:List Value) (n:Nat),Vals xs its/\xs.length=its.length/\s.heap.get? l=some { cls:=.type "list", data:=.seq its.toArray n }:=by
 obtain⟨z,its,n,r,e⟩:=I.hok l _ hH
 exact⟨z,its,n,r,r.length,e⟩
theorem zfm {n:Nat}(h:n<=sizeLine):Builtin.List.listTooLong n=false:=by
 unfold Builtin.List.listTooLong
 exact decide_eq_false (by omega)
end
section
variable {X:Cx}
def zlP:V->List V->Hp->VK->Prop:=fun x vs H Q=>∃l xs y,x=.ref l/\vs=[y]/\H l=some (.lst xs)/\xs.length<sizeLine/\Q .non (upd H l (.lst (xs++[y])))
theorem uN:MtM X "list.append" zlP:=by
 intro pins s σ H x vs v us Q I rx rv h
 obtain⟨l,xs,y,rfl,rfl,hH,hz,q⟩:=h
 cases rx
 obtain⟨u,rfl,ru⟩:=rv.one
 obtain⟨z,its,n,r,hl,e⟩:=I.zg6 hH
 refine call_meets F.slot_list_append ⟨_,e,rfl⟩ F.entry_list_append (F.args_list_append_2 _ _) (PySem.list_append l its.toArray n u (by rw[zvK];omega)) ⟨e,?_⟩
 refine⟨.non,_,I.zj9 (its':=its++[u]) hH e (by simp) (r.append (.cons ru .nil)) ?_,rfl,q⟩
 rw[zvI,zv7]
 omega
def zlQ:V->List V->Hp->VK->Prop:=fun x vs H Q=>∃l b xs zs,x=.ref l/\vs=[.ref b]/\H l=some (.lst xs)/\H b=some (.lst zs)/\xs.length+zs.length<=sizeLine/\Q .non (upd H l (.lst (xs++zs)))
theorem zds:MtM X "list.extend" zlQ:=by
 intro pins s σ H x vs v us Q I rx rv h
 obtain⟨l,b,xs,zs,rfl,rfl,hH,hB,hz,q⟩:=h
 cases rx
 obtain⟨u,rfl,ru⟩:=rv.one
 cases ru
 obtain⟨z,its,n,r,hl,e⟩:=I.zg6 hH
 obtain⟨z2,its2,n2,r2,hl2,e2⟩:=I.zg6 hB
 have hsz:its.toArray.size+its2.toArray.size<=sizeLine:=by rw[zvK,zvK];omega
 have zka:¬(!its.toArray.isEmpty&&Builtin.List.listTooLong (its.toArray.size+its2.toArray.size))=true:=by
  rw[zfm hsz,Bool.and_false]
  exact zvE
 refine call_meets F.slot_list_extend ⟨_,e,rfl⟩ F.entry_list_extend (F.args_list_extend_2 _ _)
  (AutoSeq1.list_extend_list_list_0 l its.toArray n b its2.toArray n2 zka (by rw[zvK];omega) (by omega)) ⟨e,e2,?_⟩
 refine⟨.non,_,I.zj9 (its':=its++its2) hH e (by simp) (r.append r2) ?_,rfl,q⟩
 rw[zvI]
 omega
def zrQ:V->List V->Hp->VK->Prop:=fun x vs H Q=>∃l xs y,x=.ref l/\vs=[]/\H l=some (.lst xs)/\xs[xs.length-1]?=some y/\Q y (upd H l (.lst xs.dropLast))
theorem zn4:MtM X "list.pop" zrQ:=by
 intro pins s σ H x vs v us Q I rx rv h
 obtain⟨l,xs,y,rfl,rfl,hH,hy,q⟩:=h
 cases rx
 have hus:=rv.zero
 subst hus
 obtain⟨z,its,n,r,hl,e⟩:=I.zg6 hH
 obtain⟨u,hu,ru⟩:=r.get hy
 have hy':its.toArray[its.toArray.size-1]?=some u:=by
  show its.toArray[its.length-1]?=some u
  rw[<-Array.getElem?_toList,<-hl]
  exact hu
 refine call_meets F.slot_list_pop ⟨_,e,rfl⟩ F.entry_list_pop (F.args_list_pop_1 _) (MeetsSeq.list_pop_last l its.toArray n u hy' (by rw[zvK];omega)) ⟨e,?_⟩
 refine⟨y,_,I.zj9 (its':=its.dropLast) hH e ?_ r.dropLast ?_,ru,q⟩
 ·show its.toArray.eraseIdxIfInBounds (its.toArray.size-1)=its.dropLast.toArray
  rw[zvK,List.eraseIdxIfInBounds_toArray,zg5]
 ·rw[List.length_dropLast]
  omega
end
end L2
namespace Att
open PySem PySem.W PySem.Calls PyProof.Rows
theorem zaS {P:Params}{h:Heap}:∀(ns:List Int) (vs:List Value),WellAll P h vs (ns.map WData.int)->IntsAre vs ns:=by
 intro ns
 induction ns with
 | nil =>
  intro vs w
  rw[List.map_nil] at w
  cases w
  exact .nil
 | cons n ns ih =>
  intro vs w
  rw[zvY] at w
  cases w with
  | cons a b =>
   cases a
   exact .cons _ _ (ih _ b)
theorem zi0 {l:OpenLaw}{n:Nat}(hn:l.most=some n){P:Params}{h:Heap}{args:List WData}{vals:List Value}
  (hpre:l.row.toRowW.claim.pre args=true)(hwl:WellAll P h vals args) :
  ∃a vs ns,vals=[Value.ref a]/\args=[WData.list (ns.map WData.int)]/\h.get? a=some { cls:=.type "list", data:=.seq vs.toArray }/\IntsAre vs ns/\ns.length<=n:=by
 have hsh:WShape.hasAll [] args [.list .int]=true:=(pre_splitW hpre).1
 have hc:l.pre.holds [] { args:=args }=true:=(pre_splitW hpre).2
 obtain⟨d,r,rfl,h1,h2⟩:=hasAllW_cons hsh
 obtain rfl:=hasAllW_nil h2
 obtain⟨xs,rfl,h3⟩:=hasW_list h1
 obtain⟨ns,rfl⟩:=items_int h3
 have hlen:ns.length<=n:=by
  unfold OpenLaw.pre at hc
  have h4:(WTm.not (.lt (.lit (.int (n:Int))) (.len (.arg 0)))).holds [] { args:=[.list (ns.map .int)] }=true:=by
   have h4:=(holds_andW hc).1
   rw[hn] at h4
   exact h4
  have h5:=condW_of h4 (w_not (w_lt w_lit (w_len_list (w_arg rfl))))
  rw[zvA] at h5
  refine Nat.le_of_not_lt fun q=>?_
  have q':(n:Int)<((ns.length:Nat):Int):=by omega
  first
   | (rw[decide_eq_true q'] at h5;exact absurd h5 (by decide))
   | (simp at h5;omega)
 cases hwl with
 | cons w1 w2 =>
  cases w2
  cases w1 with
  | list ho hall=>exact⟨_,_,ns,rfl,rfl,ho,zaS ns _ hall,hlen⟩
theorem zi1 (l:OpenLaw)(args:List WData):l.row.toRowW.claim.post args (.bool true) args=true :=
 postW_of (r:=l.row.toRowW) (X:=(true==true))
  (show WShape.has [] (.bool true) .bool=true by first | rfl | decide | simp[WShape.has,WShape.arms,WShape.armsAll])
  (show(WTm.eq .res (.lit (.bool true))).value [] { args:=args,res:=some (.bool true),after:=args }=some (.bool (true==true)) from w_eq_bool (w_res rfl) w_lit) rfl
theorem zfn {l:OpenLaw}{n:Nat}{q:Program}{loose:List Str}{XP:(Str->Option Value)->Heap->Prop}{YP:World->Heap->Prop}{d:DefRec}
  (hn:l.most=some n)(hdf:d.params.defaults=[])
  (call:∀(w:World) (s₀ s₁:Shared) (mg mb:Str->Option Value) (fa:Addr) (o:Obj) (pm cd doc:Value) (a:Addr) (vs:List Value) (ns:List Int),
   Ground q loose [] XP w s₀ mg mb s₁.heap->YP w s₁.heap ->
   s₁.heap.get? fa=some o->o.data=.func (docDef d.name d.params d.body d.scope pm cd doc)->s₁.heap.CodeRec cd d.name->mg d.name=some (.ref fa) ->
   s₁.heap.get? a=some { cls:=.type "list", data:=.seq vs.toArray }->IntsAre vs ns->ns.length<=n->s₁.gens=#[] ->
   codeAny (model l.prog w) callerA (.call (.ref fa) ⟨[.ref a],[]⟩) (fun r s'=>r=.ok (.ret (.bool true))/\OldK s₁.heap s'.heap/\s'.os=s₁.os/\AllBare s'.gens) s₁) :
  WalkO q loose XP YP l.row.toRowW d [] (fun f vs=>PySem.call f vs):=by
 intro w s₀ s₁ mg mb G Y fa o pm cd doc dV kV ho hd hcd hD hmg hg args vals as hpre hlay hrd hwl hlo
 obtain rfl:dV=.none:=Dflts.none hD hdf
 obtain rfl:kV=.none:=Dflts.noKw hD
 obtain⟨a,vs,ns,rfl,rfl,hobj,hints,hlen⟩:=zi0 hn hpre hwl
 refine enter_call (codeAny_mono (call w s₀ s₁ mg mb fa o pm cd doc a vs ns G Y ho (fd_plain hd) hcd hmg hobj hints hlen hg) fun r s' hq=>?_)
 obtain⟨rfl,h2,h3,h4⟩:=hq
 exact⟨.inl ⟨.bool true,.bool true,[],rfl,fun _=>rfl,.bool true,zi1 l _,fun _=>⟨List.Pairwise.nil,fun _ hm=>(nomatch hm)⟩⟩,h2,h3,h4⟩
end Att
namespace L2
open PySem PySem.Spec PyProof.Rows
theorem Jv:∀{vs:List Value} {ns:List Int},IntsAre vs ns->Vals (ns.map V.int) vs
 | _,_,.nil=>.nil
 | _,_,.cons n t h=>.cons ⟨t,rfl⟩ (Jv h)
def Only (H:Hp):Prop:=∀b,H b=none\/∃o xs,H b=some (.frz o (.lst xs))
theorem zkb {P:Program}{w:World}{K:Frag}{mg mb:Str->Option Value}{CX:CXT}{k:Nat}{fa a:Addr}{fd:FuncData}{x:Str}{sp:Sp}{s₁:Shared}{vs:List Value}{ns:List Int}
  (KX:K.In s₁.heap)(hns:s₁.heap.Ns mainGlobals mg)(hb:s₁.heap.Ns builtinsNs mb)(hbb:∀x:Str,x ≠ "__name__" -> mb x=bootBuiltins x)(hlim:s₁.heap.NoLimit)(hg:s₁.gens=#[])
  (ha:s₁.heap.get? a=some { cls:=.type "list", data:=.seq vs.toArray })(hi:IntsAre vs ns)(hl:ns.length<=sizeLine)(hr:uJ k callerA)
  (F:∀base:Heap,K.In base->base.Ns mainGlobals mg->zB P w K mg base CX k fa fd [x] sp)(hbind:∀(s:Shared) (u:Value),BindsTo s fd ⟨[u],[]⟩ [(x,u)])
  (hsp:∀H:Hp,Only H->zX K H a (ns.map V.int)->sp [.ref a] H (fun v _=>v=.bl true) fun _ _ _=>False)
  (hCX:∀H e s',CX [] H s₁ (fun _ _ _=>False) e s'->False) :
  codeAny (model P w) callerA (.call (.ref fa) ⟨[.ref a],[]⟩) (fun r s'=>r=.ok (.ret (.bool true))/\OldK s₁.heap s'.heap/\s'.os=s₁.os/\AllBare s'.gens) s₁:=by
 have rv:=Jv hi
 have lenV:=hi.length
 have core:∀H:Hp,Only H->zX K H a (ns.map V.int)->Rv P w H s₁.heap->(∀b,H b≠none->b=a)->(H a≠none->K.lookup a=none) ->
   codeAny (model P w) callerA (.call (.ref fa) ⟨[.ref a],[]⟩) (fun r s'=>r=.ok (.ret (.bool true))/\OldK s₁.heap s'.heap/\s'.os=s₁.os/\AllBare s'.gens) s₁:=by
  intro H hO hS hok hA hK
  have zic:∀{b:Addr} {o:Obj},s₁.heap.get? b=some o->H b=none->(zd1 s₁.heap H).get? b=some o:=fun e n=>zjW e n
  have noA:∀{b:Addr} {o:Obj} {es:Array DictEntry} {ep:Nat},s₁.heap.get? b=some o->o.data=.dict es ep->H b=none:=fun {b o es ep} e d=>by
   cases q:H b with
   | none=>rfl
   | some u =>
    have e':b=a:=hA b (by rw[q];simp)
    subst e'
    rw[ha] at e;cases e
    have d':Data.seq vs.toArray _=Data.dict es ep:=d
    cases d'
  have nsK:∀{b:Addr} {m:Str->Option Value},s₁.heap.Ns b m->(zd1 s₁.heap H).Ns b m:=fun {b m} ⟨o,es,ep,e,d,r⟩=>⟨o,es,ep,zic e (noA e d),d,r⟩
  have hKb:K.In (zd1 s₁.heap H):=fun b o e=>zic (KX b o e) (by
   cases q:H b with
   | none=>rfl
   | some u =>
    have e':b=a:=hA b (by rw[q];simp)
    subst e'
    rw[hK (by rw[q];simp)] at e;cases e)
  have hM:Mod K mg (zd1 s₁.heap H):=⟨hKb,nsK hns,⟨mb,nsK hb,hbb⟩,let ⟨mc,h1,h2⟩:=hlim;⟨mc,nsK h1,h2⟩⟩
  have e0:zd7 P w K mg (zd1 s₁.heap H) callerA [] s₁ H:=⟨rfl,hM,fun b o e=>zlE e,Nat.le_of_eq (ziQ _ _),trivial,fun b hb=>absurd (show b∈([]:List Addr) from hb) (by simp),hok,.of_eq hg⟩
  refine codeAny_mono ((F _ hKb (nsK hns)).run callerA [] s₁ H ⟨[.ref a],[]⟩ [.ref a] [.ref a] _ _ hr e0 (hbind s₁ (.ref a)) (.cons rfl .nil) (hsp H hO hS)) fun r s' h=>?_
  cases r with
  | error e=>exact(hCX H e s' h).elim
  | ok fl =>
   cases fl with
   | next=>exact False.elim h
   | brk=>exact False.elim h
   | cont=>exact False.elim h
   | ret u =>
    obtain⟨v,H',os,bare,un,hok',r',q⟩:=h
    have q':v=.bl true:=q
    subst q'
    obtain rfl:u=Value.bool true:=r'
    refine⟨rfl,OldK.of_keep fun b o e=>?_,os,bare⟩
    cases q:H b with
    | none=>exact un.keep b o e q (by intro z;exact absurd (show b∈([]:List Addr) from z) (by simp)) (by simp)
    | some u =>
     rcases hO b with z | ⟨ob,xs,z⟩
     ·rw[q] at z;cases z
     ·have z2:=un.Le b ob _ z
      obtain⟨e1,_⟩:=hok b _ z
      obtain⟨e2,_⟩:=hok' b _ z2
      rw[e] at e1;cases e1
      exact e2
 cases hk:K.lookup a with
 | some o =>
  have e:=KX a o hk
  rw[ha] at e
  cases e
  refine core (fun _=>none) (fun _=>.inl rfl) (.inr ⟨_,vs.toArray,_,hk,rfl,rfl,rfl,by rw[zvK,lenV];exact hl,by simpa using rv⟩) (fun b u z=>by have z':(none:Option HO)=some u:=z;cases z') (fun b z=>absurd rfl z) fun z=>absurd rfl z
 | none =>
  refine core (fun b=>if b=a then some (.frz { cls:=.type "list", data:=.seq vs.toArray } (.lst (ns.map V.int))) else none) (fun b=>?_) (.inl (.inr ⟨{ cls:=.type "list", data:=.seq vs.toArray },if_pos rfl⟩)) (fun b u z=>?_) (fun b z=>?_) fun _=>hk
  ·by_cases hb:b=a
   ·exact .inr ⟨_,_,if_pos hb⟩
   ·exact .inl (if_neg hb)
  ·by_cases hb:b=a
   ·have z':=(if_pos hb).symm.trans z
    cases z'
    subst hb
    exact⟨ha,by rw[zvA];exact hl,vs,_,rv,ha⟩
   ·have z':=(if_neg hb).symm.trans z
    cases z'
  ·by_cases hb:b=a
   ·exact hb
   ·exact absurd (if_neg hb) z
abbrev KOf {K:Frag}{h:Heap}(_:K.In h):Frag:=K
theorem zlR {l:PySem.W.OpenLaw}{n k:Nat}{q:Program}{loose:List Str}{XP:(Str->Option Value)->Heap->Prop}{YP:World->Heap->Prop}{d:DefRec}{K:Params->Frag}{CX:World->CXT}{sp:World->Sp}{x:Str}
  (hn:l.most=some n)(hn2:n<=sizeLine)(hdf:d.params.defaults=[])(hr:uJ k callerA)
  (hY:∀(w:World) (h:Heap),YP w h->(K w.params).In h)
  (F:∀(w:World) (mg:Str->Option Value) (fa:Addr) (h:Heap),(K w.params).In h->h.Ns mainGlobals mg->mg d.name=some (.ref fa) ->
   ∃fd:FuncData,(∀(s:Shared) (u:Value),BindsTo s fd ⟨[u],[]⟩ [(x,u)]) /\
    ∀base:Heap,(K w.params).In base->base.Ns mainGlobals mg->zB l.prog w (K w.params) mg base (CX w) k fa fd [x] (sp w))
  (hsp:∀(w:World) (H:Hp) (a:Addr) (ns:List Int),ns.length<=n->Only H->zX (K w.params) H a (ns.map V.int)->sp w [.ref a] H (fun v _=>v=.bl true) fun _ _ _=>False)
  (hCX:∀(w:World) (H:Hp) (s:Shared) (e:Value) (s':Shared),CX w [] H s (fun _ _ _=>False) e s'->False) :
  PySem.W.WalkO q loose XP YP l.row.toRowW d [] (fun f vs=>PySem.call f vs):=by
 refine Att.zfn hn hdf fun w s₀ s₁ mg mb fa o pm cd doc a vs ns G Y ho hd hcd hmg hobj hints hlen hg=>?_
 have KX:=hY w _ Y
 obtain⟨fd,hb,hF⟩:=F w mg fa _ KX G.T.g hmg
 exact zkb KX G.T.g G.T.b G.T.builtins G.T.nolimit hg hobj hints (zvV hlen hn2) hr hF hb (fun H hO hS=>hsp w H a ns hlen hO hS) fun H e s'=>hCX w H s₁ e s'
theorem zkc {l:PySem.W.OpenLaw}{n k:Nat}{q:Program}{loose:List Str}{XP:(Str->Option Value)->Heap->Prop}{YP:World->Heap->Prop}{d:DefRec}{K:Params->Frag}{CX:CXT}{sp:Frag->Sp}{x:Str}
  (hn:l.most=some n)(hn2:n<=sizeLine)(hdf:d.params.defaults=[])(hr:uJ k callerA)
  (hY:∀(w:World) (h:Heap),YP w h->(K w.params).In h)
  (F:∀(w:World) (mg:Str->Option Value) (fa:Addr) (h:Heap),(K w.params).In h->h.Ns mainGlobals mg->mg d.name=some (.ref fa) ->
   ∃fd:FuncData,(∀(s:Shared) (u:Value),BindsTo s fd ⟨[u],[]⟩ [(x,u)]) /\
    ∀base:Heap,(K w.params).In base->base.Ns mainGlobals mg->zB l.prog w (K w.params) mg base CX k fa fd [x] (sp (K w.params)))
  (hsp:∀(K:Frag) (H:Hp) (a:Addr) (ns:List Int),ns.length<=n->Only H->zX K H a (ns.map V.int)->sp K [.ref a] H (fun v _=>v=.bl true) fun _ _ _=>False)
  (hCX:∀(H:Hp) (s:Shared) (e:Value) (s':Shared),CX [] H s (fun _ _ _=>False) e s'->False) :
  PySem.W.WalkO q loose XP YP l.row.toRowW d [] (fun f vs=>PySem.call f vs) :=
 zlR (K:=K) (CX:=fun _=>CX) (sp:=fun w=>sp (K w.params)) hn hn2 hdf hr hY F (fun w H a ns h1 h2 h3=>hsp (K w.params) H a ns h1 h2 h3) fun _ H s e s'=>hCX H s e s'
def inClass (s:Stmt)(j:Nat):Stmt:=match s with
 | .ClassDef _ _ _ body _ _ _ _ _ _ _=>body.getD j (.Pass ⟨0,0,0,0⟩)
 | _=>.Pass ⟨0,0,0,0⟩
def Y0 (s:Stmt):Arguments:=match s with
 | .FunctionDef _ a _ _ _ _ _ _ _ _=>a
 | _=>{ posonlyargs:=[],args:=[],vararg:=none,kwonlyargs:=[],kw_defaults:=[],kwarg:=none,defaults:=[] }
def vV (s:Stmt):List Stmt:=match s with
 | .FunctionDef _ _ b _ _ _ _ _ _ _=>b
 | _=>[]
def zA (s:Stmt):Scope:=match s with
 | .FunctionDef _ _ _ _ _ _ sc _ _ _=>sc
 | _=>{ kind:=.function,names:=[],isGenerator:=false,isCoroutine:=false }
abbrev yd:CXT:=fun _ _ _ _ _ _=>False
abbrev E0:XK:=fun _ _ _=>False
theorem zid {X:Cx}:Passes yd X E0:=fun _ _ _ _ _ _ _ h=>h.elim
structure Fun (K:Frag)(x qual:Str)(st:Stmt)(f:Addr)(fd:FuncData):Prop where
 ex:∃(oc:Value) (od:Option Addr) (kV doc pm:Value) (an:Option Addr) (cdv ct:Value) (osl:Array (Option Value)),
  fd=PySem.W.fnOf x qual (Y0 st) (vV st) (zA st) .none kV doc pm an cdv ct/\K.lookup f=some ⟨oc,od,.func fd,osl⟩/\PySem.W.codeIn K cdv qual=true
 kp:PySem.W.keepIn K (.ref f)=true
section
variable {P:Program}{w:World}{K:Frag}{mg:Str->Option Value}{base:Heap}
theorem Fun.ok {x qual:Str}{st:Stmt}{f:Addr}{fd:FuncData}{N ps:List Str}{k:Nat}{sp:Sp}(F:Fun K x qual st f fd)(S:zP N ps (zA st))(len:∀vs H Q E,sp vs H Q E->vs.length=ps.length)
  (hbody:∀(cdv:Value) (A:Around) (outer:List Env) (s:Shared) (H:Hp) (vs:List V) (Q:VK) (E:XK),uJ k (A.deeper (envOfC qual (zA st) s.heap.objs.size f cdv))->sp vs H Q E ->
   ∃t,PSs (Jt yd P w K mg base N qual (zA st) f cdv A outer s H E).nox (vV st) t/\t { nx:=fun _ H'=>Q .non H',rt:=Q } (start N vs) H):zB P w K mg base yd (k+1) f fd ps sp:=by
 obtain⟨oc,od,kV,doc,pm,an,cdv,ct,osl,rfl,lk,hcd⟩:=F.ex
 refine znf lk hcd S len fun A outer s H vs Q E hr hsp=>?_
 obtain⟨t,h,q⟩:=hbody cdv A outer s H vs Q E hr hsp
 exact⟨t,h.nox,q⟩
theorem Fun.binds {x qual:Str}{st:Stmt}{f:Addr}{fd:FuncData}{ps:List Str}(F:Fun K x qual st f fd)
  (h:∀(kV doc pm:Value) (an:Option Addr) (cdv ct:Value) (us:List Value),us.length=ps.length->bindArgs (PySem.W.fnOf x qual (Y0 st) (vV st) (zA st) .none kV doc pm an cdv ct) ⟨us,[]⟩=pure (ps.zip us)):Binds K fd ps []:=by
 obtain⟨oc,od,kV,doc,pm,an,cdv,ct,osl,rfl,lk,hcd⟩:=F.ex
 exact .all (h kV doc pm an cdv ct)
theorem zec {x qual:Str}{st:Stmt}{f:Addr}{oc:Value}{od an:Option Addr}{osl:Array (Option Value)}{kV doc pm cdv ct:Value}(l:K.lookup f=some ⟨oc,od,.func (PySem.W.fnOf x qual (Y0 st) (vV st) (zA st) .none kV doc pm an cdv ct),osl⟩)
  (c:PySem.W.codeIn K cdv qual=true)(k:PySem.W.keepIn K (.ref f)=true):Fun K x qual st f (PySem.W.fnOf x qual (Y0 st) (vV st) (zA st) .none kV doc pm an cdv ct):=⟨⟨oc,od,kV,doc,pm,an,cdv,ct,osl,rfl,l,c⟩,k⟩
end
theorem zar {A:Around}{k:Nat}(hr:uJ k A):A.units+1<cLine:=Nat.lt_of_le_of_lt (Nat.add_le_add_left (by decide:1<=64) _) hr.units
theorem yc {n:Nat}(h:n<=1000):n<sizeLine:=Nat.lt_of_le_of_lt h (by decide)
section
variable {X:Cx}
theorem pv (i:Nat){x:Str}{pos:Pos}(hN:X.N[i]?=some x:=by rfl)(hv:Vis X.env.scope x:=by first | exact Or.inl rfl | exact Or.inr (Or.inl rfl) | exact Or.inr (Or.inr rfl))(hd:(x==("__debug__" : Str))=false:=by decide)
  (hcd:(x==("__classdict__" : Str))=false:=by decide):PE X (.Name x pos) (Lf i):=znJ hN hv hd hcd
end
theorem tD {A B:Prop}(h:B):if false=true then A else B:=by
 rw[if_neg zvE]
 exact h
theorem uY {A B:Prop}(h:A):if true=true then A else B:=by
 rw[if_pos rfl]
 exact h
theorem yG {c A B:Prop}[Decidable c](h1:c->A)(h2:¬c->B):if c then A else B:=by
 by_cases h:c
 ·rw[if_pos h]
  exact h1 h
 ·rw[if_neg h]
  exact h2 h
def Same (H H':Hp):Prop:=∀b o,H b=some o->H' b=some o
theorem Same.refl (H:Hp):Same H H:=fun _ _ h=>h
theorem Same.trans {H H1 H2:Hp}(a:Same H H1)(b:Same H1 H2):Same H H2:=fun c o h=>b c o (a c o h)
theorem Same.free {H H':Hp}(e:Same H H'){l:Addr}(h:H' l=Option.none):H l=Option.none:=by
 cases q:H l with
 | none=>rfl
 | some o =>
  rw[e l o q] at h
  cases h
theorem Same.seq {K:Frag}{H H':Hp}{a:Addr}{xs:List V}(e:Same H H')(h:zX K H a xs):zX K H' a xs:=by
 rcases h with (h | ⟨o,h⟩) | h
 ·exact .inl (.inl (e _ _ h))
 ·exact .inl (.inr ⟨o,e _ _ h⟩)
 ·exact .inr h
end L2
set_option maxHeartbeats 8000000
namespace L2
open PySem PySem.Spec PyProof.Rows
section
variable {X:Cx}{pins:List (Addr×Obj)}{σ:St}{H:Hp}{s:Shared}
theorem Rv.track {P:Program}{w:World}{H:Hp}{h:Heap}{a:Addr}{o:HO}(x:Rv P w H h)(hn:H a=none)(new:wF P w (upd H a o) h a o):Rv P w (upd H a o) h:=fun b u e=>by
 by_cases hb:b=a
 ·subst hb
  rw[zu] at e
  cases e
  exact new
 ·rw[zJ hb] at e
  refine(x b u e).stay (fun _ _ _ q=>q) (fun c q=>?_) fun c xs q=>?_
  ·rw[zJ (zF q hn)];exact q
  ·rw[zJ (zF q hn)];exact q
theorem Inv.track {a:Addr}{o:HO}(I:Inv X pins σ H s)(hn:H a=none)(hL:a≠X.env.locals)(h0:X.s₀.heap.objs.size<=a)(hc:∀x c,X.env.cells.lookup x=some c->c≠a)(hp:∀p∈X.pn++pins,p.1≠a)
  (new:wF X.prog X.w (upd H a o) s.heap a o):Inv X pins σ (upd H a o) s:=by
 have old:∀b ob,X.s₀.heap.get? b=some ob->b≠a:=fun b ob e=>zvP (zvJ (zvH e) h0)
 refine⟨I.ok,I.os,I.bare,⟨fun b ob e n=>I.base.keep b ob e n,fun b ob e n=>I.base.slot b ob e n,fun b ob e n hx=>?_,fun b ob e hx=>I.base.there b ob e hx,fun b xs e=>?_,fun b ob u e=>?_,fun b ps e=>?_⟩,I.loc,I.cell,?_,fun x c e=>?_,fun p hm=>?_,I.hok.track hn new,I.len⟩
 ·rw[zJ (old b ob e)];exact I.base.free b ob e n hx
 ·have q:=I.base.tups b xs e
  rw[zJ (zF q hn)];exact q
 ·have q:=I.base.Le b ob u e
  rw[zJ (zF q hn)];exact q
 ·obtain⟨mo,q⟩:=I.base.Jq b ps e
  exact⟨mo,by rw[zJ (zF q hn)];exact q⟩
 ·rw[zJ (Ne.symm hL)];exact I.free
 ·rw[zJ (hc x c e)];exact I.Xq x c e
 ·obtain⟨z1,z2,z3⟩:=I.pin p hm
  exact⟨z1,by rw[zJ (hp p hm)];exact z2,z3⟩
end
def clo:List (Str×NameKind)->List (Str×Addr)->List (Str×Addr)->List (Str×Addr)
 | [],_,acc=>acc
 | (n,k)::r,cells,acc=>clo r cells (if k==.free then (match cells.lookup n with | some c=>(n,c)::acc | none=>acc) else acc)
theorem Uu (cells:List (Str×Addr)):∀(names:List (Str×NameKind)) (acc:List (Str×Addr)),(∀y c,acc.lookup y=some c->cells.lookup y=some c)->∀y c,(clo names cells acc).lookup y=some c->cells.lookup y=some c
 | [],acc,h=>h
 | (n,k)::r,acc,h=>by
  refine Uu cells r _ fun y c e=>?_
  cases hk:k==NameKind.free with
  | false=>rw[hk] at e;exact h y c e
  | true =>
   rw[hk,if_pos rfl] at e
   cases hc:cells.lookup n with
   | none=>rw[hc] at e;exact h y c e
   | some a =>
    rw[hc] at e
    have e':(((n,a)::acc).lookup y)=some c:=e
    rw[zvZ] at e'
    cases hy:y==n with
    | true =>
     rw[hy] at e'
     have z:y=n:=by simpa using hy
     subst z
     rw[hc];exact e'
    | false=>rw[hy] at e';exact h y c e'
theorem zdu (cells:List (Str×Addr)):∀(names:List (Str×NameKind)) (acc:List (Str×Addr)) (y:Str),(acc.lookup y).isSome=true->((clo names cells acc).lookup y).isSome=true
 | [],_,_,h=>h
 | (n,k)::r,acc,y,h=>by
  refine zdu cells r _ y ?_
  cases hk:k==NameKind.free with
  | false=>exact h
  | true =>
   rw[if_pos rfl]
   cases hc:cells.lookup n with
   | none=>exact h
   | some a =>
    show(((n,a)::acc).lookup y).isSome=true
    rw[zvZ]
    cases hy:y==n with
    | true=>rfl
    | false=>exact h
theorem zed (cells:List (Str×Addr)):∀(names:List (Str×NameKind)) (acc:List (Str×Addr)) (y:Str),(y,NameKind.free)∈names->(cells.lookup y).isSome=true->((clo names cells acc).lookup y).isSome=true
 | [],_,_,h,_=>by cases h
 | (n,k)::r,acc,y,h,hs=>by
  rcases List.mem_cons.mp h with e | h
  ·cases e
   refine zdu cells r _ n ?_
   show(((match cells.lookup n with | some c=>(n,c)::acc | none=>acc)).lookup n).isSome=true
   cases hc:cells.lookup n with
   | none=>rw[hc] at hs;cases hs
   | some a =>
    show(((n,a)::acc).lookup n).isSome=true
    rw[zvZ]
    simp
  ·exact zed cells r _ y h hs
theorem zie {env:Env}:∀(names:List (Str×NameKind)) (acc:List (Str×Addr)),(∀y,(y,NameKind.free)∈names->(env.cells.lookup y).isSome=true) ->
  (forIn names acc fun(x:Str×NameKind) (cs:List (Str×Addr))=>if (x.2==NameKind.free)=true then do let c <-cellOf env x.1;pure (ForInStep.yield ((x.1,c)::cs)) else pure (ForInStep.yield cs):Sem (List (Str×Addr)))=pure (clo names env.cells acc)
 | [],acc,_=>rfl
 | (n,k)::r,acc,h=>by
  have ih:=fun acc'=>zie (env:=env) r acc' fun y hy=>h y (zvL _ hy)
  rw[List.forIn_cons]
  cases hk:k==NameKind.free with
  | false =>
   show((pure (ForInStep.yield acc):Sem _)>>=_)=_
   rw[pure_bind]
   show(forIn r acc _:Sem _)=_
   rw[ih acc]
   show pure (clo r env.cells acc)=pure (clo r env.cells (if (k==NameKind.free)=true then (match env.cells.lookup n with | some c=>(n,c)::acc | none=>acc) else acc))
   rw[hk];rfl
  | true =>
   have hkf:k=NameKind.free:=by simpa using hk
   subst hkf
   have hs:=h n zvT
   cases hc:env.cells.lookup n with
   | none=>rw[hc] at hs;cases hs
   | some a =>
    have hcell:cellOf env n=pure a:=by unfold cellOf;rw[hc]
    show((cellOf env n>>=fun c=>(pure (ForInStep.yield ((n,c)::acc)):Sem _))>>=_)=_
    rw[hcell,pure_bind,pure_bind]
    show(forIn r ((n,a)::acc) _:Sem _)=_
    rw[ih]
    show pure (clo r env.cells ((n,a)::acc))=pure (clo r env.cells (match env.cells.lookup n with | some c=>(n,c)::acc | none=>acc))
    rw[hc]
theorem zg7 {sc:Scope}{env:Env}(h:∀y,(y,NameKind.free)∈sc.names->(env.cells.lookup y).isSome=true):closureFor sc env=pure (clo sc.names env.cells []):=by
 unfold closureFor
 have:=zie (env:=env) sc.names [] h
 simpa using this
structure Z6 (uZ sc:Scope)(x:Str)(fv:List Str):Prop where
 kind:sc.kind=.function
 Ma:∀y∈sc.names,y.2≠.cell
 names:∀y∈sc.names,y.2=.local->sc.names.lookup y.1=some .local
 hx:sc.names.lookup x=some .local
 fr:∀y∈sc.names,y.2=.free->uZ.names.lookup y.1=some .cell\/uZ.names.lookup y.1=some .free
 fvs:∀y∈fv,sc.names.lookup y=some .free/\(uZ.names.lookup y=some .cell\/uZ.names.lookup y=some .free)
 nd:(x::fv).Nodup
abbrev Cx.blk (X:Cx)(sc:Scope)(cl:List (Str×Addr))(C:Addr)(N:List Str)(s:Shared)(H:Hp)(fp:List Addr):Cx :=
 {X with N:=N,s₀:=s,H₀:=H,env:=compEnvC sc cl C X.env,outer:=X.stack,ex:=fp,fn:=fun _=>false,pn:=[],xe:=fun _ _=>False }
abbrev lcN (X:Cx)(x:Str)(js:List Nat):List Str:=x::js.map fun j=>X.N.getD j ""
abbrev Wn (σ:St)(js:List Nat)(x:Option V):St:=x::js.map fun j=>σ.getD j none
theorem XS {env:Env}:∀{names:List (Str×NameKind)} {y:Str} {k:NameKind},(names.map fun(n,k)=>if (k==NameKind.free&&env.scope.kind==.function&&env.kindOf n==some .cell) then (n,NameKind.cell) else (n,k)).lookup y=some k->(k=.cell\/k=.free)->(∀z∈names,z.2≠.cell)->(y,NameKind.free)∈names
 | [],_,_,h,_,_=>by simp at h
 | (n,k')::r,y,k,h,hk,hn=>by
  by_cases hc:(k'==NameKind.free&&env.scope.kind==.function&&env.kindOf n==some .cell)=true
  ·have hk':k'=NameKind.free:=by
    rw[zv1,zv1] at hc
    simpa using hc.1.1
   subst hk'
   rw[zvY] at h
   cases hy:y==n with
   | true =>
    have z:y=n:=by simpa using hy
    subst z
    exact zvT
   | false =>
    have h':List.lookup y ((if (NameKind.free==NameKind.free&&env.scope.kind==.function&&env.kindOf n==some .cell)=true then (n,NameKind.cell) else (n,NameKind.free))::(r.map fun(n,k)=>if (k==NameKind.free&&env.scope.kind==.function&&env.kindOf n==some .cell) then (n,NameKind.cell) else (n,k)))=some k:=h
    rw[if_pos hc,zvZ,hy] at h'
    exact zvL _ (XS h' hk fun z hz=>hn z (zvL _ hz))
  ·have h':List.lookup y ((if (k'==NameKind.free&&env.scope.kind==.function&&env.kindOf n==some .cell)=true then (n,NameKind.cell) else (n,k'))::(r.map fun(n,k)=>if (k==NameKind.free&&env.scope.kind==.function&&env.kindOf n==some .cell) then (n,NameKind.cell) else (n,k)))=some k:=h
   rw[if_neg hc,zvZ] at h'
   cases hy:y==n with
   | true =>
    rw[hy] at h'
    cases h'
    have z:y=n:=by simpa using hy
    subst z
    rcases hk with e | e
    ·exact absurd e (hn _ zvT)
    ·subst e;exact zvT
   | false =>
    rw[hy] at h'
    exact zvL _ (XS h' hk fun z hz=>hn z (zvL _ hz))
theorem zbA {env:Env}:∀{names:List (Str×NameKind)} {y:Str},names.lookup y=some .free->(names.map fun(n,k)=>if (k==NameKind.free&&env.scope.kind==.function&&env.kindOf n==some .cell) then (n,NameKind.cell) else (n,k)).lookup y=some .cell\/(names.map fun(n,k)=>if (k==NameKind.free&&env.scope.kind==.function&&env.kindOf n==some .cell) then (n,NameKind.cell) else (n,k)).lookup y=some .free
 | [],_,h=>by simp at h
 | (n,k')::r,y,h=>by
  rw[zvZ] at h
  rw[zvY]
  cases hy:y==n with
  | true =>
   rw[hy] at h
   cases h
   by_cases hc:(NameKind.free==NameKind.free&&env.scope.kind==.function&&env.kindOf n==some .cell)=true
   ·refine .inl ?_
    show List.lookup y ((if (NameKind.free==NameKind.free&&env.scope.kind==.function&&env.kindOf n==some .cell)=true then (n,NameKind.cell) else (n,NameKind.free))::_)=_
    rw[if_pos hc,zvZ,hy]
   ·refine .inr ?_
    show List.lookup y ((if (NameKind.free==NameKind.free&&env.scope.kind==.function&&env.kindOf n==some .cell)=true then (n,NameKind.cell) else (n,NameKind.free))::_)=_
    rw[if_neg hc,zvZ,hy]
  | false =>
   rw[hy] at h
   have ih:=zbA (env:=env) h
   by_cases hc:(k'==NameKind.free&&env.scope.kind==.function&&env.kindOf n==some .cell)=true
   ·show List.lookup y ((if (k'==NameKind.free&&env.scope.kind==.function&&env.kindOf n==some .cell)=true then (n,NameKind.cell) else (n,k'))::_)=_\/List.lookup y ((if (k'==NameKind.free&&env.scope.kind==.function&&env.kindOf n==some .cell)=true then (n,NameKind.cell) else (n,k'))::_)=_
    rw[if_pos hc,zvZ,hy]
    exact ih
   ·show List.lookup y ((if (k'==NameKind.free&&env.scope.kind==.function&&env.kindOf n==some .cell)=true then (n,NameKind.cell) else (n,k'))::_)=_\/List.lookup y ((if (k'==NameKind.free&&env.scope.kind==.function&&env.kindOf n==some .cell)=true then (n,NameKind.cell) else (n,k'))::_)=_
    rw[if_neg hc,zvZ,hy]
    exact ih
abbrev uT (its:List Value)(n:Nat):Obj:={ cls:=.type "list", data:=.seq its.toArray n }
abbrev Y4 (ifs:List Expr)(env:Env):Sem Bool :=
 forIn ifs true fun c r=>if r=true then do let ok <-isTrue c env (eval c env);pure (ForInStep.yield ok) else pure (ForInStep.yield r)
def tLC (wi:TI)(js:List Nat)(tt:TT)(te:TE):TE:=fun σ H Q=>wi σ H fun J H1=>∃W:Nat->Nat->List V->Hp->Prop,(∃m,W 0 m [] H1)/\∀i m ys H,W i m ys H ->
 (J.stop i H/\∀p,H p=none->Q (.ref p) (upd H p (.lst ys))) \/
 (J.go i H/\ys.length<sizeLine/\∀x H',J.yld i H x H'->tt (Wn σ js (some x)) H' fun b H2 =>
  if b=true then te (Wn σ js (some x)) H2 fun v H3=>∃m',m'<m/\W (i+1) m' (ys++[v]) H3 else ∃m',m'<m/\W (i+1) m' ys H2)
section
variable {X:Cx}{sc uZ:Scope}{x:Str}{js:List Nat}{elt iter:Expr}{px pos:Pos}{ifs:List Expr}{wi:TI}{tt:TT}{te:TE}
theorem zlS {P:Program}{w:World}{A:Around}{R:Result->Shared->Prop}{st:Shared}{tg it acc}{cenv:Env}(Iv:Nat->Shared->Prop)
  (step:∀k st,Iv k st->wpAny (model P w) A (pyNext it) (fun got s1=>match got with
   | none=>R (.ok .next) s1
   | some v=>wpAny (model P w) A (letOwnedTupleGo tg it v) (fun _ s2=>wpAny (model P w) A (assign tg cenv v) (fun _ s3 =>
     wpAny (model P w) A (Y4 ifs cenv) (fun ok s4=>if ok=true then wpAny (model P w) A (eval elt cenv) (fun y s5 =>
       wpAny (model P w) A (call (.builtin "list.append") [acc,y]) (fun _ s6=>∃k',k'<k/\Iv k' s6) (notedBy (model P w) A cenv fun e z=>R (.error e) z) s5) (notedBy (model P w) A cenv fun e z=>R (.error e) z) s4
      else ∃k',k'<k/\Iv k' s4) (notedBy (model P w) A cenv fun e z=>R (.error e) z) s3) (notedBy (model P w) A cenv fun e z=>R (.error e) z) s2) (notedBy (model P w) A cenv fun e z=>R (.error e) z) s1)
   (notedBy (model P w) A cenv fun e z=>R (.error e) z) st)(k0:Nat)(h0:Iv k0 st) :
  codeAny (model P w) A (.compLoop (.ListComp elt [⟨tg,iter,ifs,0⟩] sc pos) 0 it acc cenv) R st:=by
 refine codeAny_loop rfl Iv (fun k st hk=>?_) k0 h0
 show wpAny _ A ((compTurn (.ListComp elt [⟨tg,iter,ifs,0⟩] sc pos) 0 it acc cenv).onRaise (fun e=>do noteFrame e cenv;theTreesLotGoes e)) _ _ st
 refine wpAny_noted ?_
 rw[compTurn_list]
 refine wpAny_bind (wpAny_standAt (wpAny_bind (wpAny_mono (step k st hk) (fun got s1 h1=>?_) fun _ _ z=>z)))
 cases got with
 | none=>exact wpAny_pure h1
 | some v =>
  refine wpAny_bind (wpAny_mono h1 (fun _ s2 h2=>?_) fun _ _ z=>z)
  refine wpAny_bind (wpAny_mono h2 (fun _ s3 h3=>wpAny_bind (wpAny_mono h3 (fun ok s4 h4=>?_) fun _ _ z=>z)) fun _ _ z=>z)
  cases ok with
  | false=>exact wpAny_pure ⟨rfl,h4⟩
  | true=>exact wpAny_bind (wpAny_bind (wpAny_mono h4 (fun y s5 h5=>wpAny_bind (wpAny_mono h5 (fun _ s6 h6=>wpAny_pure (wpAny_pure ⟨rfl,h6⟩)) fun _ _ z=>z)) fun _ _ z=>z))
structure Own (X:Cx)(pins:List (Addr×Obj))(H:Hp)(a:Addr):Prop where
 free:H a=none
 loc:a≠X.env.locals
 new:X.s₀.heap.objs.size<=a
 cel:∀x c,X.env.cells.lookup x=some c->c≠a
 pin:∀p∈X.pn++pins,p.1≠a
 fs:a∉X.fs
end
structure zif (uZ sc:Scope)(xs:List Str)(fv:List Str):Prop where
 kind:sc.kind=.function
 Ma:∀y∈sc.names,y.2≠.cell
 names:∀y∈sc.names,y.2=.local->sc.names.lookup y.1=some .local
 fr:∀y∈sc.names,y.2=.free->uZ.names.lookup y.1=some .cell\/uZ.names.lookup y.1=some .free
 fvs:∀y∈fv,sc.names.lookup y=some .free/\(uZ.names.lookup y=some .cell\/uZ.names.lookup y=some .free)
abbrev Lr (X:Cx)(xs:List Str)(js:List Nat):List Str:=xs++js.map fun j=>X.N.getD j ""
abbrev lcT (σ:St)(js:List Nat)(os:List (Option V)):St:=os++js.map fun j=>σ.getD j none
def zpx (wi:TI)(xs:List Str)(js:List Nat)(g:TG)(tt:TT)(te:TE):TE:=fun σ H Q=>wi σ H fun J H1=>∃W:Nat->Nat->List V->Hp->Prop,(∃m,W 0 m [] H1)/\∀i m ys H,W i m ys H ->
 (J.stop i H/\∀p,H p=none->Q (.ref p) (upd H p (.lst ys))) \/
 (J.go i H/\ys.length<sizeLine/\∀x H',J.yld i H x H'->∀o0:List (Option V),o0.length=xs.length->g x (lcT σ js o0) H' fun σ2 H1=>∃o1,σ2=lcT σ js o1/\o1.length=xs.length/\tt σ2 H1 fun b H2 =>
  if b=true then te σ2 H2 fun v H3=>∃m',m'<m/\W (i+1) m' (ys++[v]) H3 else ∃m',m'<m/\W (i+1) m' ys H2)
section
variable {X:Cx}{sc uZ:Scope}{xs:List Str}{js:List Nat}
theorem zlT {pins:List (Addr×Obj)}{σ:St}{H:Hp}{s:Shared}{fp:List Addr}{C:Addr}(I:Inv X pins σ H s)(TY:X.env.scope=uZ)(L:zif uZ sc xs (js.map fun j=>X.N.getD j ""))
  (f2:∀b∈fp,zcK X pins H b)(lt:∀b∈fp,b<s.heap.objs.size)(hC:s.heap.objs.size<=C):(X.blk sc (clo sc.names X.env.cells []) C (Lr X xs js) s H fp).Ok where
 mod:=I.ok.mod
 kind:=L.kind
 glob:=I.ok.glob
 blt:=I.ok.blt
 above:=hC
 inj:=fun y z c h1 h2=>I.ok.inj y z c (Uu _ _ [] (fun _ _ e=>by simp at e) y c h1) (Uu _ _ [] (fun _ _ e=>by simp at e) z c h2)
 has:=fun y hy=>by
  have hy':(relabel sc X.env).names.lookup y=some .cell\/(relabel sc X.env).names.lookup y=some .free:=hy
  have hm:(y,NameKind.free)∈sc.names:=by
   rcases hy' with e | e
   ·exact XS e (.inl rfl) L.Ma
   ·exact XS e (.inr rfl) L.Ma
  have ho:X.env.kindOf y=some .cell\/X.env.kindOf y=some .free:=by
   show X.env.scope.names.lookup y=_\/X.env.scope.names.lookup y=_
   rw[TY]
   exact L.fr _ hm rfl
  obtain⟨c,e⟩:=I.ok.has y ho
  exact Option.isSome_iff_exists.mp (zed _ _ [] y hm (by rw[e];rfl))
 cab:=fun y c h=>by cases h
 hd:=I.ok.hd
 frames:=I.ok.frames
 stk:=.inl rfl
 exf:=fun b hb=>⟨zvP (zvJ (lt b hb) hC),fun y c e=>(f2 b hb).2.2.2.2.1 y c (Uu _ _ [] (fun _ _ e=>by simp at e) y c e)⟩
 bs:=I.bs
 bsz:=zvV I.ok.bsz I.sz
 zfd:=fun b o e hb=>by
  rcases (f2 b hb).2.2.2.1 with z | z
  ·exact I.ok.zfd b o e z
  ·exact absurd (zvJ (zvH (I.ok.bs b o e).1) z) (Nat.lt_irrefl _)
 zfe:=fun b hb hm=>by
  rcases List.mem_cons.mp (I.zbr b hm) with z | z
  ·exact(f2 b hb).2.1 z
  ·exact(f2 b hb).2.2.1 z
 PN:=I.stack
 frf:=I.za7
end
section
variable {X:Cx}{sc uZ:Scope}{xs:List Str}{js:List Nat}{tg:Expr}{g:TG}{elt iter:Expr}{px pos:Pos}{ifs:List Expr}{wi:TI}{tt:TT}{te:TE}
theorem zke {cl:List (Str×Addr)}{C D:Addr}{s₂:Shared}{H₂:Hp}{fp:List Addr}{pl:List (Addr×Obj)}{σ0:St}{H:Hp}{s:Shared}{u:Value}{v:V}{its:List Value}{n:Nat}{o0:List (Option V)}{E:Value->Shared->Prop}
  {Ny:V->Hp->Prop}{Nn:Hp->Prop}
  (hg:PG (X.blk sc cl C (Lr X xs js) s₂ H₂ fp) tg g)
  (I:Inv (X.blk sc cl C (Lr X xs js) s₂ H₂ fp) ((D,uT its n)::pl) (lcT σ0 js o0) H s)(ru:RelV v u)
  (ht:∀(pins:List (Addr×Obj)) (s':Shared) (σ':St) (H':Hp) (Q:Bool->Hp->Prop),Inv (X.blk sc cl C (Lr X xs js) s₂ H₂ fp) pins σ' H' s'->tt σ' H' Q ->
   wpAny (model X.prog X.w) X.A (Y4 ifs (compEnvC sc cl C X.env)) (TP (X.blk sc cl C (Lr X xs js) s₂ H₂ fp) pins σ' Q) (fun _ _=>False) s')
  (he:PE (X.blk sc cl C (Lr X xs js) s₂ H₂ fp) elt te)
  (hlen:its.length<sizeLine)(hD0:s₂.heap.objs.size<=D)(hDC:D≠C)(hDc:∀y c,cl.lookup y=some c->c≠D)(hDp:∀p∈pl,p.1≠D)
  (h:g v (lcT σ0 js o0) H fun σ2 H1=>∃o1,σ2=lcT σ0 js o1/\o1.length=xs.length/\tt σ2 H1 fun b H2=>if b=true then te σ2 H2 Ny else Nn H2) :
  wpAny (model X.prog X.w) X.A (assign tg (compEnvC sc cl C X.env) u) (fun _ s2 =>
   wpAny (model X.prog X.w) X.A (Y4 ifs (compEnvC sc cl C X.env)) (fun ok s3 =>
    if ok=true then wpAny (model X.prog X.w) X.A (eval elt (compEnvC sc cl C X.env)) (fun y s4 =>
     wpAny (model X.prog X.w) X.A (call (.builtin "list.append") [.ref D,y]) (fun _ s5=>∃z y' H5 o1,o1.length=xs.length/\Ny z H5/\RelV z y'/\Inv (X.blk sc cl C (Lr X xs js) s₂ H₂ fp) ((D,uT (its++[y']) (n+1))::pl) (lcT σ0 js o1) H5 s5) E s4) E s3
    else ∃H5 o1,o1.length=xs.length/\Nn H5/\Inv (X.blk sc cl C (Lr X xs js) s₂ H₂ fp) ((D,uT its n)::pl) (lcT σ0 js o1) H5 s3) E s2) E s:=by
 refine wpAny_mono (hg _ s _ H v u _ I ru h) (fun _ s2 ⟨σ6,H6,I6,o1,e1,l1,h6⟩=>?_) fun _ _ z=>False.elim z
 subst e1
 refine wpAny_mono (ht _ s2 _ _ _ I6 h6) (fun ok s3 ⟨H7,I7,q7⟩=>?_) fun _ _ z=>False.elim z
 cases ok with
 | false =>
  rw[if_neg zvE] at q7 ⊢
  exact⟨H7,o1,l1,q7,I7⟩
 | true =>
  rw[if_pos rfl] at q7 ⊢
  refine wpAny_mono (he _ s3 _ H7 _ I7 q7) (fun y s4 ⟨z,H8,I8,r8,q8⟩=>?_) fun _ _ z=>False.elim z
  obtain⟨p1,p2,p3,p4,p5⟩:=I8.pin (D,uT its n) (zvR _ zvT)
  have p1':s4.heap.get? D=some { cls:=.type "list", data:=.seq its.toArray n }:=p1
  refine call_meets F.slot_list_append ⟨_,p1',rfl⟩ F.entry_list_append (F.args_list_append_2 _ _) (PySem.list_append D its.toArray n y (by rw[zvK];omega)) ⟨p1',?_⟩
  have q:=PySem.IsL.update p1' (fun a=>a.push y)
  have sz:((its.toArray.push y).size==its.toArray.size)=false:=by simp
  have e3:(s4.heap.update D (Obj.mapSeq fun a=>a.push y)).get? D=some (uT (its++[y]) (n+1)):=by
   have q':(s4.heap.update D (Obj.mapSeq fun a=>a.push y)).get? D=some { cls:=.type "list", data:=.seq (its.toArray.push y) (if ((its.toArray.push y).size==its.toArray.size)=true then n else n+1) }:=q
   rw[q',sz,if_neg zvE]
   simp
  have I9:Inv (X.blk sc cl C (Lr X xs js) s₂ H₂ fp) pl (lcT σ0 js o1) H8 s4:=I8.TJ fun p hp=>I8.pin p (zvR _ (zvL _ hp))
  have oth:∀b o,b≠D->s4.heap.get? b=some o->(s4.heap.update D (Obj.mapSeq fun a=>a.push y)).get? b=some o:=fun b o hb e=>(Heap.get?_update_other _ _ (Ne.symm hb)).trans e
  have I10:=I9.turned (t':=s4.toks) (h':=s4.heap.update D (Obj.mapSeq fun a=>a.push y)) (it:=D) oth p2 hDC (.inr hD0) hDc (fun p hp=>hDp p hp)
  refine⟨z,y,H8,o1,l1,q8,r8,I10.TJ fun p hp=>?_⟩
  rcases List.mem_cons.mp hp with e | e
  ·subst e
   exact⟨e3,p2,p3,p4,fun w hw=>by cases hw⟩
  ·exact I10.pin p (zvR _ e)
theorem zfo {use:Option (Value->Sem Unit)}{QQ:Value->Shared->Prop}{Fin:List V->Hp->Prop}{pins:List (Addr×Obj)}{s:Shared}{σ:St}{H:Hp}(TY:X.env.scope=uZ)(L:zif uZ sc xs (js.map fun j=>X.N.getD j "")){rd:Cx->Prop}(hc:∀sc cl C N s H fp,rd (X.blk sc cl C N s H fp))(hi:PIr rd X tg iter wi)(hg:∀(cl:List (Str×Addr)) (C:Addr) (s₂:Shared) (H₂:Hp) (fp:List Addr),PG (X.blk sc cl C (Lr X xs js) s₂ H₂ fp) tg g)(hjs:∀j∈js,j<X.N.length)
  (ht:∀(cl:List (Str×Addr)) (C:Addr) (s₂:Shared) (H₂:Hp) (fp:List Addr) (pins:List (Addr×Obj)) (s':Shared) (σ':St) (H':Hp) (Q:Bool->Hp->Prop),Inv (X.blk sc cl C (Lr X xs js) s₂ H₂ fp) pins σ' H' s'->tt σ' H' Q ->
   wpAny (model X.prog X.w) X.A (Y4 ifs (compEnvC sc cl C X.env)) (TP (X.blk sc cl C (Lr X xs js) s₂ H₂ fp) pins σ' Q) (fun _ _=>False) s')
  (he:∀(cl:List (Str×Addr)) (C:Addr) (s₂:Shared) (H₂:Hp) (fp:List Addr),PE (X.blk sc cl C (Lr X xs js) s₂ H₂ fp) elt te)
  (hs:∀x,foldedSetIterable iter X.env x=pure x)(I:Inv X pins σ H s)
  (h:wi σ H fun J H1=>∃W:Nat->Nat->List V->Hp->Prop,(∃m,W 0 m [] H1)/\∀i m ys H,W i m ys H->(J.stop i H/\Fin ys H) \/
   (J.go i H/\ys.length<sizeLine/\∀x H',J.yld i H x H'->∀o0:List (Option V),o0.length=xs.length->g x (lcT σ js o0) H' fun σ2 H1=>∃o1,σ2=lcT σ js o1/\o1.length=xs.length/\tt σ2 H1 fun b H2 =>
    if b=true then te σ2 H2 fun v H3=>∃m',m'<m/\W (i+1) m' (ys++[v]) H3 else ∃m',m'<m/\W (i+1) m' ys H2))
  (hfin:∀(D C:Addr) (s5:Shared) (H5:Hp) (ys:List V) (its:List Value) (k:Nat) (m5:Str->Option Value),Inv X pins σ H5 s5->Own X pins H5 D->Own X pins H5 C->D≠C->s5.heap.get? D=some (uT its k)->Vals ys its->ys.length<=sizeLine->s5.heap.Ns C m5->Fin ys H5 ->
   compPost (model X.prog X.w) X.A X.xe use QQ (.ref D) C (.ok .next) s5) :
  wpAny (model X.prog X.w) X.A (comprehension (.ListComp elt [⟨tg,iter,ifs,0⟩] sc pos) sc X.env (firstIterPos [⟨tg,iter,ifs,0⟩] pos) (newList []) false (eval iter X.env) use) QQ X.xe s:=by
 have hcl:closureFor sc X.env=pure (clo sc.names X.env.cells []):=zg7 fun y hy=>by
  have ho:X.env.kindOf y=some .cell\/X.env.kindOf y=some .free:=by
   show X.env.scope.names.lookup y=_\/X.env.scope.names.lookup y=_
   rw[TY]
   exact L.fr _ hy rfl
  obtain⟨c,e⟩:=I.ok.has y ho
  rw[e];rfl
 refine wpAny_comprehension_free (use:=use) rfl hs hcl L.kind L.names (vo (hi pins s σ H _ I h) fun v s1 h1=>vo h1 fun itv s2 h2=>?_)
 obtain⟨it,fp,tn,J,H2,e,I2,T,st2,f2,W,⟨m0,w0⟩,turn⟩:=h2
 subst e
 refine wpAny_newObj_type (wpAny_newFunctionEnv L.Ma (by intro y hy;simp at hy) (fun h₁ hns₁ hsb₁=>?_) L.kind)
 dsimp only at hns₁ hsb₁ ⊢
 generalize hG:s2.heap.push { cls:=.type "list", dict:=none,data:=.seq ([]:List Value).toArray }=G at hns₁ hsb₁ ⊢
 have hGs:G.objs.size=s2.heap.objs.size+1:=by rw[<-hG,Heap.size_push]
 have hCle:s2.heap.objs.size<=G.objs.size:=by rw[hGs];exact Nat.le_succ _
 have hDC:s2.heap.objs.size≠G.objs.size:=by rw[hGs];exact zvP (Nat.lt_succ_self _)
 have old:∀b o,s2.heap.get? b=some o->h₁.get? b=some o:=fun b o e=>by
  have lt:=zvH e
  refine hsb₁.extBut b o (zvP (zvJ lt hCle)) (zvG _ ?_)
  rw[<-hG]
  exact zvG _ e
 have hacc:h₁.get? s2.heap.objs.size=some (uT [] 0):=by
  refine hsb₁.extBut _ _ hDC (zvG _ ?_)
  rw[<-hG]
  exact zvU _ rfl
 have lt:∀b∈fp,b<s2.heap.objs.size:=fun b hb=>by
  obtain⟨o,e,_⟩:=T.obj _ _ st2 b hb
  exact zvH e
 have clS:∀y c,(clo sc.names X.env.cells []).lookup y=some c->X.env.cells.lookup y=some c:=Uu _ _ [] (fun _ _ e=>by simp at e)
 have zrR:∀y c,(clo sc.names X.env.cells []).lookup y=some c->c<s2.heap.objs.size:=fun y c e=>by
  obtain⟨v,o,q,_⟩:=I2.cell y c (clS y c e)
  exact zvH q
 have Bok:(X.blk sc (clo sc.names X.env.cells []) G.objs.size (Lr X xs js) s2 H2 fp).Ok:=zlT I2 TY L f2 lt hCle
 have fresh:∀a,s2.heap.objs.size<=a->H2 a=none:=fun a ha=>I2.hok.fresh ha
 have zn5:∀b∈frs X.stack,b<s2.heap.objs.size:=fun b hb=>by
  rcases List.mem_cons.mp (I2.zbr b hb) with z | z
  ·rw[z];exact I2.lt
  ·refine Nat.lt_of_not_le fun q=>I2.znI q z
 have B0:Inv (X.blk sc (clo sc.names X.env.cells []) G.objs.size (Lr X xs js) s2 H2 fp) [(s2.heap.objs.size,uT [] 0)] (lcT σ js (List.replicate xs.length none)) H2 { s2 with heap:=h₁,toks:=s2.toks+([]:List (Str×Value)).length }:=by
  refine⟨Bok,rfl,I2.bare,Un.kept old,⟨_,hns₁,fun i y v e1 e2 e3=>?_⟩,fun y c e=>?_,fresh _ hCle,fun y c e=>I2.Xq y c (clS y c e),fun p hp=>?_,I2.hok.kept old,?_⟩
  ·by_cases hlt:i<xs.length
   ·exfalso
    have e2'':(List.replicate xs.length (none:Option V)++js.map fun j=>σ.getD j none)[i]?=some (some v):=e2
    rw[zv6 (by rw[List.length_replicate];exact hlt),List.getElem?_replicate,if_pos hlt] at e2''
    cases e2''
   ·have e1':(js.map fun j=>X.N.getD j "")[i-xs.length]?=some y:=by
     have z:(xs++js.map fun j=>X.N.getD j "")[i]?=some y:=e1
     rw[List.getElem?_append_right (by omega)] at z
     exact z
    have e2':(js.map fun j=>σ.getD j none)[i-xs.length]?=some (some v):=by
     have z:(List.replicate xs.length (none:Option V)++js.map fun j=>σ.getD j none)[i]?=some (some v):=e2
     rw[List.getElem?_append_right (by rw[List.length_replicate];omega),List.length_replicate] at z
     exact z
    have e1s:=e1'
    rw[zvC] at e1' e2'
    cases hj:js[i-xs.length]? with
    | none=>rw[hj] at e1';cases e1'
    | some j =>
     rw[hj] at e1' e2'
     have e4:X.N.getD j ""=y:=zv4 e1'
     have e5:σ.getD j none=some v:=zv4 e2'
     have hjl:=hjs j (zvF hj)
     have e6:X.N[j]?=some y:=by
      rw[zvN,zvB hjl] at e4
      rw[zvB hjl]
      exact congrArg some e4
     have e7:σ[j]?=some (some v):=by
      rw[zvN] at e5
      cases hq:σ[j]? with
      | none=>rw[hq] at e5;cases e5
      | some w=>rw[hq] at e5;exact congrArg some e5
     obtain⟨hm0,hk⟩:=L.fvs y (zvF e1s)
     have hm:(y,NameKind.free)∈sc.names:=PySem.mem_of_lookup hm0
     have hk':X.env.kindOf y=some .cell\/X.env.kindOf y=some .free:=by
      show X.env.scope.names.lookup y=_\/X.env.scope.names.lookup y=_
      rw[TY];exact hk
     have hv:Vis X.env.scope y:=by rcases hk' with z | z;exact .inr (.inl z);exact .inr (.inr z)
     obtain⟨m,hn,hl⟩:=I2.loc
     obtain⟨u,r,l⟩:=hl j y v e6 e7 hv
     refine⟨u,r,.inr ?_⟩
     rcases l with ⟨z,_⟩ | ⟨_,c,hc1,hc2⟩
     ·rw[z] at hk';rcases hk' with q | q<;>cases q
     ·have hs2:((clo sc.names X.env.cells []).lookup y).isSome=true:=zed _ _ [] y hm (by rw[hc1];rfl)
      obtain⟨c',hc'⟩:=Option.isSome_iff_exists.mp hs2
      have hcc:c'=c:=by have:=clS y c' hc';rw[hc1] at this;exact(zv4 this).symm
      subst hcc
      obtain⟨o,ho,hd⟩:=hc2
      exact⟨zbA hm0,c',hc',o,old _ o ho,hd⟩
  ·obtain⟨v,o,q,d⟩:=I2.cell y c (clS y c e)
   exact⟨v,o,old _ o q,d⟩
  ·have e:p=(s2.heap.objs.size,uT [] 0):=by simpa using hp
   subst e
   exact⟨hacc,fresh _ (zvQ _),hDC,fun z=>Nat.lt_irrefl _ (zn5 _ z),fun w hw=>by cases hw⟩
  ·show _=(Lr X xs js).length
   simp
 have stat:∀{H':Hp} {pl:List (Addr×Obj)},(∀b∈fp,H' b=none)->(∀p∈pl,p.1=s2.heap.objs.size)->∀b∈fp,zcK (X.blk sc (clo sc.names X.env.cells []) G.objs.size (Lr X xs js) s2 H2 fp) pl H' b:=fun hn hp b hb =>
  ⟨hn b hb,(Bok.exf b hb).1,Bok.zfe b hb,.inl hb,(Bok.exf b hb).2,fun p hm=>by
   rw[hp p (by simpa using hm)]
   exact Ne.symm (zvP (lt b hb))⟩
 have loop:∀s3:Shared,s3={ s2 with heap:=h₁,toks:=s2.toks+([]:List (Str×Value)).length } ->
   codeAny (model X.prog X.w) X.A (.compLoop (.ListComp elt [⟨tg,iter,ifs,0⟩] sc pos) 0 (.ref it) (.ref s2.heap.objs.size) (compEnvC sc (clo sc.names X.env.cells []) G.objs.size X.env))
    (compPost (model X.prog X.w) X.A X.xe use QQ (.ref s2.heap.objs.size) G.objs.size) s3:=by
  rintro s3 rfl
  refine zlS (fun n s'=>∃i ys its k o0 H',o0.length=xs.length/\Inv (X.blk sc (clo sc.names X.env.cells []) G.objs.size (Lr X xs js) s2 H2 fp) [(s2.heap.objs.size,uT its k)] (lcT σ js o0) H' s'/\tn i s'.heap/\(∀b∈fp,H' b=none)/\Vals ys its/\ys.length<=sizeLine/\W i n ys H') ?_ m0
   ⟨0,[],[],0,List.replicate xs.length none,H2,List.length_replicate,B0,T.keep _ _ _ st2 fun b _ o e=>old b o e,fun b hb=>(f2 b hb).1,.nil,zvW _,w0⟩
  rintro n s4 ⟨i,ys,its,k,o0,H4,lo0,I4,st4,fr4,vs4,z4,w4⟩
  have one:∀p∈[(s2.heap.objs.size,uT its k)],p.1=s2.heap.objs.size:=fun p hp=>by
   have e:p=(s2.heap.objs.size,uT its k):=by simpa using hp
   rw[e]
  rcases turn i n ys H4 w4 with ⟨stop,qn⟩ | ⟨go,zl,step⟩
  ·refine vo (T.done (X.blk sc (clo sc.names X.env.cells []) G.objs.size (Lr X xs js) s2 H2 fp) rfl rfl rfl (hc _ _ _ _ _ _ _) i _ s4 _ H4 _ I4 (stat fr4 one) st4 stop) fun r s5 ⟨hr,I5⟩=>?_
   subst hr
   obtain⟨m5,hn5,_⟩:=I5.loc
   obtain⟨p1,p2,p3,p4,p5⟩:=I5.pin (s2.heap.objs.size,uT its k) (by simp)
   have ch:∀b∈fp,(b∈X.ex\/X.s₀.heap.objs.size<=b)/\b≠X.env.locals/\(∀x c,X.env.cells.lookup x=some c->c≠b)/\∀p∈X.pn++pins,p.1≠b:=fun b hb =>
    ⟨(f2 b hb).2.2.2.1,(f2 b hb).2.1,(f2 b hb).2.2.2.2.1,(f2 b hb).2.2.2.2.2⟩
   have J1:Inv X pins σ H4 s5:=I2.call' I5.os I5.base I5.hok I5.bare ch
   have ltp:∀p∈X.pn++pins,p.1<s2.heap.objs.size:=fun p hp=>zvH (I2.pin p hp).1
   have ltc:∀y c,X.env.cells.lookup y=some c->c<s2.heap.objs.size:=fun y c e=>by
    obtain⟨v,o,q,_⟩:=I2.cell y c e
    exact zvH q
   have s0:X.s₀.heap.objs.size<=s2.heap.objs.size:=I2.sz
   have own:∀a,s2.heap.objs.size<=a->H4 a=none->Own X pins H4 a:=fun a ha hn=>⟨hn,Ne.symm (zvP (zvJ I2.lt ha)),zvV s0 ha,fun y c e=>zvP (zvJ (ltc y c e) ha),
    fun p hp=>zvP (zvJ (ltp p hp) ha),I2.znI ha⟩
   exact hfin _ _ s5 H4 ys its k m5 J1 (own _ (zvQ _) p2) (own _ hCle I5.free) hDC p1 vs4 z4 hn5 qn
  ·refine vo (T.item (X.blk sc (clo sc.names X.env.cells []) G.objs.size (Lr X xs js) s2 H2 fp) rfl rfl rfl (hc _ _ _ _ _ _ _) i _ s4 _ H4 _ I4 (stat fr4 one) st4 go) fun r s5 ⟨u,hr,h5⟩=>?_
   subst hr
   refine wpAny_mono h5 (fun _ s5' ⟨v,H6,I6,r6,y6,st6,fr6⟩=>?_) fun _ _ z=>z
   have I7:=I6.pinned (stat fr6 one) (T.obj _ _ st6)
   have zrU:∀p∈N7 fp s5'.heap,p.1≠s2.heap.objs.size:=fun p hp=>zvP (lt _ (zdj hp).1)
   have ztO:=vs4.length
   have back:∀{its':List Value} {k':Nat} {H7:Hp} {s7:Shared} {ys':List V} {m':Nat} {o1:List (Option V)},o1.length=xs.length->Inv (X.blk sc (clo sc.names X.env.cells []) G.objs.size (Lr X xs js) s2 H2 fp) ((s2.heap.objs.size,uT its' k')::N7 fp s5'.heap) (lcT σ js o1) H7 s7 ->
     Vals ys' its'->ys'.length<=sizeLine->m'<n->W (i+1) m' ys' H7->∃m,m<n/\∃i ys its k o0 H',o0.length=xs.length/\Inv (X.blk sc (clo sc.names X.env.cells []) G.objs.size (Lr X xs js) s2 H2 fp) [(s2.heap.objs.size,uT its k)] (lcT σ js o0) H' s7/\tn i s7.heap/\(∀b∈fp,H' b=none)/\Vals ys its/\ys.length<=sizeLine/\W i m ys H':=by
    intro its' k' H7 s7 ys' m' o1 l1 J vs' z' hm w'
    refine⟨m',hm,i+1,ys',its',k',o1,H7,l1,J.TJ fun p hp=>J.pin p (zvR _ (by simp at hp;simp[hp])),?_,?_,vs',z',w'⟩
    ·exact T.keep _ _ _ st6 fun b hb o e=>(J.pin (b,o) (zvR _ (zvL _ (TX hb e)))).1
    ·intro b hb
     obtain⟨o,e,_⟩:=T.obj _ _ st6 b hb
     exact(J.pin (b,o) (zvR _ (zvL _ (TX hb e)))).2.1
   refine wpAny_mono (zke (X:=X) (sc:=sc) (xs:=xs) (js:=js) (tg:=tg) (g:=g) (elt:=elt) (ifs:=ifs) (tt:=tt) (te:=te) (D:=s2.heap.objs.size) (its:=its) (n:=k) (pl:=N7 fp s5'.heap)
    (hg _ _ _ _ _) I7 r6 (ht _ _ _ _ _) (he _ _ _ _ _) (by omega) (zvQ _) hDC (fun y c e=>zvP (zrR y c e)) zrU (step v H6 y6 o0 lo0)) (fun _ s6 h6=>?_) fun _ _ z=>z
   refine wpAny_mono h6 (fun ok s7 h7=>?_) fun _ _ z=>z
   cases ok with
   | false =>
    rw[if_neg zvE] at h7 ⊢
    obtain⟨H7,o1,l1,⟨m',hm,w'⟩,J⟩:=h7
    exact back l1 J vs4 z4 hm w'
   | true =>
    rw[if_pos rfl] at h7 ⊢
    refine wpAny_mono h7 (fun y s8 h8=>?_) fun _ _ z=>z
    refine wpAny_mono h8 (fun _ s9 h9=>?_) fun _ _ z=>z
    obtain⟨z,y',H9,o1,l1,⟨m',hm,w'⟩,rz,J⟩:=h9
    refine back l1 J (vs4.append (.cons rz .nil)) ?_ hm w'
    rw[zvI,zv7]
    omega
 exact codeAny_compStart_list (loop _ rfl) (T.self _ 0 _ _ _ (T.keep _ _ _ st2 fun b _ o e=>old b o e) (loop _ rfl))
end
section
variable {X:Cx}{sc uZ:Scope}{x:Str}{js:List Nat}{elt iter:Expr}{px pos:Pos}{ifs:List Expr}{wi:TI}{tt:TT}{te:TE}
theorem zig {use:Option (Value->Sem Unit)}{QQ:Value->Shared->Prop}{Fin:List V->Hp->Prop}{pins:List (Addr×Obj)}{s:Shared}{σ:St}{H:Hp}(TY:X.env.scope=uZ)(L:Z6 uZ sc x (js.map fun j=>X.N.getD j "")){rd:Cx->Prop}(hc:∀sc cl C N s H fp,rd (X.blk sc cl C N s H fp))(hi:PIr rd X (.Name x px) iter wi)(hjs:∀j∈js,j<X.N.length)
  (ht:∀(cl:List (Str×Addr)) (C:Addr) (s₂:Shared) (H₂:Hp) (fp:List Addr) (pins:List (Addr×Obj)) (s':Shared) (σ':St) (H':Hp) (Q:Bool->Hp->Prop),Inv (X.blk sc cl C (lcN X x js) s₂ H₂ fp) pins σ' H' s'->tt σ' H' Q ->
   wpAny (model X.prog X.w) X.A (Y4 ifs (compEnvC sc cl C X.env)) (TP (X.blk sc cl C (lcN X x js) s₂ H₂ fp) pins σ' Q) (fun _ _=>False) s')
  (he:∀(cl:List (Str×Addr)) (C:Addr) (s₂:Shared) (H₂:Hp) (fp:List Addr),PE (X.blk sc cl C (lcN X x js) s₂ H₂ fp) elt te)
  (hs:∀x,foldedSetIterable iter X.env x=pure x)(I:Inv X pins σ H s)
  (h:wi σ H fun J H1=>∃W:Nat->Nat->List V->Hp->Prop,(∃m,W 0 m [] H1)/\∀i m ys H,W i m ys H->(J.stop i H/\Fin ys H) \/
   (J.go i H/\ys.length<sizeLine/\∀x H',J.yld i H x H'->tt (Wn σ js (some x)) H' fun b H2 =>
    if b=true then te (Wn σ js (some x)) H2 fun v H3=>∃m',m'<m/\W (i+1) m' (ys++[v]) H3 else ∃m',m'<m/\W (i+1) m' ys H2))
  (hfin:∀(D C:Addr) (s5:Shared) (H5:Hp) (ys:List V) (its:List Value) (k:Nat) (m5:Str->Option Value),Inv X pins σ H5 s5->Own X pins H5 D->Own X pins H5 C->D≠C->s5.heap.get? D=some (uT its k)->Vals ys its->ys.length<=sizeLine->s5.heap.Ns C m5->Fin ys H5 ->
   compPost (model X.prog X.w) X.A X.xe use QQ (.ref D) C (.ok .next) s5) :
  wpAny (model X.prog X.w) X.A (comprehension (.ListComp elt [⟨.Name x px,iter,ifs,0⟩] sc pos) sc X.env (firstIterPos [⟨.Name x px,iter,ifs,0⟩] pos) (newList []) false (eval iter X.env) use) QQ X.xe s:=by
 have e:(fun(J:It) (H1:Hp)=>∃W:Nat->Nat->List V->Hp->Prop,(∃m,W 0 m [] H1)/\∀i m ys H,W i m ys H->(J.stop i H/\Fin ys H) \/
   (J.go i H/\ys.length<sizeLine/\∀x H',J.yld i H x H'->tt (Wn σ js (some x)) H' fun b H2 =>
    if b=true then te (Wn σ js (some x)) H2 fun v H3=>∃m',m'<m/\W (i+1) m' (ys++[v]) H3 else ∃m',m'<m/\W (i+1) m' ys H2)) =
   (fun(J:It) (H1:Hp)=>∃W:Nat->Nat->List V->Hp->Prop,(∃m,W 0 m [] H1)/\∀i m ys H,W i m ys H->(J.stop i H/\Fin ys H) \/
   (J.go i H/\ys.length<sizeLine/\∀y H',J.yld i H y H'->∀o0:List (Option V),o0.length=[x].length->Rw 0 y (lcT σ js o0) H' fun σ2 H1=>∃o1,σ2=lcT σ js o1/\o1.length=[x].length/\tt σ2 H1 fun b H2 =>
    if b=true then te σ2 H2 fun v H3=>∃m',m'<m/\W (i+1) m' (ys++[v]) H3 else ∃m',m'<m/\W (i+1) m' ys H2)):=by
  funext J H1
  refine propext ⟨fun⟨W,w0,w1⟩=>⟨W,w0,fun i m ys H hw=>?_⟩,fun⟨W,w0,w1⟩=>⟨W,w0,fun i m ys H hw=>?_⟩⟩
  ·rcases w1 i m ys H hw with a | ⟨a,b,c⟩
   ·exact .inl a
   ·refine .inr ⟨a,b,fun y H' hy o0 ho=>?_⟩
    match o0,ho with
    | [o],_=>exact⟨[some y],rfl,rfl,c y H' hy⟩
  ·rcases w1 i m ys H hw with a | ⟨a,b,c⟩
   ·exact .inl a
   ·refine .inr ⟨a,b,fun y H' hy=>?_⟩
    obtain⟨o1,e1,e2,e3⟩:=c y H' hy [none] rfl
    exact e3
 rw[e] at h
 exact zfo (xs:=[x]) (g:=Rw 0) TY ⟨L.kind,L.Ma,L.names,L.fr,L.fvs⟩ hc hi (fun cl C s₂ H₂ fp=>wA (X:=X.blk sc cl C (Lr X [x] js) s₂ H₂ fp) L.nd rfl (.inl (lookup_relabel_local L.hx)) (.inr (lookup_relabel_local L.hx))) hjs ht he hs I h hfin
theorem zih (TY:X.env.scope=uZ)(L:Z6 uZ sc x (js.map fun j=>X.N.getD j "")){rd:Cx->Prop}(hc:∀sc cl C N s H fp,rd (X.blk sc cl C N s H fp))(hi:PIr rd X (.Name x px) iter wi)(hjs:∀j∈js,j<X.N.length)
  (ht:∀(cl:List (Str×Addr)) (C:Addr) (s₂:Shared) (H₂:Hp) (fp:List Addr) (pins:List (Addr×Obj)) (s':Shared) (σ':St) (H':Hp) (Q:Bool->Hp->Prop),Inv (X.blk sc cl C (lcN X x js) s₂ H₂ fp) pins σ' H' s'->tt σ' H' Q ->
   wpAny (model X.prog X.w) X.A (Y4 ifs (compEnvC sc cl C X.env)) (TP (X.blk sc cl C (lcN X x js) s₂ H₂ fp) pins σ' Q) (fun _ _=>False) s')
  (he:∀(cl:List (Str×Addr)) (C:Addr) (s₂:Shared) (H₂:Hp) (fp:List Addr),PE (X.blk sc cl C (lcN X x js) s₂ H₂ fp) elt te)
  (hs:∀x,foldedSetIterable iter X.env x=pure x:=by intro _;rfl) :
  PE X (.ListComp elt [⟨.Name x px,iter,ifs,0⟩] sc pos) (tLC wi js tt te):=by
 intro pins s σ H Q I h
 rw[eval_ListComp]
 refine zig (use:=none) (Fin:=fun ys H=>∀p,H p=none->Q (.ref p) (upd H p (.lst ys))) TY L hc hi hjs ht he hs I h fun D C s5 H5 ys its k m5 J oD oC hDC p1 vs z hn fin=>?_
 refine⟨m5,hn,fun h' hsb=>?_⟩
 have J2:Inv X pins σ H5 { s5 with heap:=h',toks:=s5.toks }:=J.turned (it:=C) (fun b o hb e=>hsb.extBut b o hb e) oC.free oC.loc (.inr oC.new) oC.cel oC.pin
 have p1':h'.get? D=some (uT its k):=hsb.extBut _ _ hDC p1
 have J3:Inv X pins σ (upd H5 D (.lst ys)) { s5 with heap:=h',toks:=s5.toks }:=J2.track oD.free oD.loc oD.new oD.cel oD.pin ⟨z,its,k,vs,p1'⟩
 exact⟨.ref D,_,J3,rfl,fin D oD.free⟩
theorem zn6 (TY:X.env.scope=uZ)(L:Z6 uZ sc x (js.map fun j=>X.N.getD j ""))(hc:X.calm=true)(hi:PI X (.Name x px) iter wi)(hjs:∀j∈js,j<X.N.length)
  (ht:∀(cl:List (Str×Addr)) (C:Addr) (s₂:Shared) (H₂:Hp) (fp:List Addr) (pins:List (Addr×Obj)) (s':Shared) (σ':St) (H':Hp) (Q:Bool->Hp->Prop),Inv (X.blk sc cl C (lcN X x js) s₂ H₂ fp) pins σ' H' s'->tt σ' H' Q ->
   wpAny (model X.prog X.w) X.A (Y4 ifs (compEnvC sc cl C X.env)) (TP (X.blk sc cl C (lcN X x js) s₂ H₂ fp) pins σ' Q) (fun _ _=>False) s')
  (he:∀(cl:List (Str×Addr)) (C:Addr) (s₂:Shared) (H₂:Hp) (fp:List Addr),PE (X.blk sc cl C (lcN X x js) s₂ H₂ fp) elt te)
  (hs:∀x,foldedSetIterable iter X.env x=pure x:=by intro _;rfl) :
  PE X (.ListComp elt [⟨.Name x px,iter,ifs,0⟩] sc pos) (tLC wi js tt te) :=
 zih TY L (rd:=Calm) (fun _ _ _ _ _ _ _=>hc) hi hjs ht he hs
def sLC (i:Nat)(wi:TI)(js:List Nat)(tt:TT)(te:TE):TS:=fun D σ H=>tLC wi js tt te σ H fun v H1=>D.nx (σ.set i (some v)) H1
theorem zbB {i:Nat}{y:Str}{py spos:Pos}(hN:X.N.Nodup)(hy:X.N[i]?=some y)(hl:Loc X.env.scope y)(hf:X.fn y=true\/X.env.scope.names.lookup y=some .local)
  (TY:X.env.scope=uZ)(L:Z6 uZ sc x (js.map fun j=>X.N.getD j ""))(hc:X.calm=true)(hi:PI X (.Name x px) iter wi)(hjs:∀j∈js,j<X.N.length)
  (ht:∀(cl:List (Str×Addr)) (C:Addr) (s₂:Shared) (H₂:Hp) (fp:List Addr) (pins:List (Addr×Obj)) (s':Shared) (σ':St) (H':Hp) (Q:Bool->Hp->Prop),Inv (X.blk sc cl C (lcN X x js) s₂ H₂ fp) pins σ' H' s'->tt σ' H' Q ->
   wpAny (model X.prog X.w) X.A (Y4 ifs (compEnvC sc cl C X.env)) (TP (X.blk sc cl C (lcN X x js) s₂ H₂ fp) pins σ' Q) (fun _ _=>False) s')
  (he:∀(cl:List (Str×Addr)) (C:Addr) (s₂:Shared) (H₂:Hp) (fp:List Addr),PE (X.blk sc cl C (lcN X x js) s₂ H₂ fp) elt te)
  (hsw:swapsWith (.ListComp elt [⟨.Name x px,iter,ifs,0⟩] sc pos) (some (.Name y py)) spos.line X.env=pure true)(hs:∀x,foldedSetIterable iter X.env x=pure x:=by intro _;rfl) :
  PS X (.Assign [.Name y py] (.ListComp elt [⟨.Name x px,iter,ifs,0⟩] sc pos) spos) (sLC i wi js tt te):=by
 intro pins s σ H D I h
 rw[exec_Assign_Name_used _ _ _ _ hsw]
 refine wpAny_bind (wpAny_standAt (wpAny_bind ?_))
 show wpAny _ _ (do let _ <-comprehension (.ListComp elt [⟨.Name x px,iter,ifs,0⟩] sc pos) sc X.env _ (newList []) false (eval iter X.env) (some (assign (.Name y py) X.env))) _ _ s
 have pg:=wA (X:=X) (i:=i) (x:=y) (pos:=py) hN hy hl hf
 refine wpAny_bind (wpAny_mono (zig (use:=some (assign (.Name y py) X.env)) (QQ:=fun _ z=>SP X pins D .next z) (Fin:=fun ys H=>∀p,H p=none->D.nx (σ.set i (some (.ref p))) (upd H p (.lst ys))) TY L (rd:=Calm) (fun _ _ _ _ _ _ _=>hc) hi hjs ht he hs I h fun A C s5 H5 ys its k m5 J oD oC hDC p1 vs z hn fin=>?_) (fun _ z hq=>wpAny_pure (wpAny_pure hq)) fun _ _ e=>e)
 have J1:Inv X pins σ (upd H5 A (.lst ys)) s5:=J.track oD.free oD.loc oD.new oD.cel oD.pin ⟨z,its,k,vs,p1⟩
 obtain⟨oc,es,ep,hC,hd,hr⟩:=hn
 have Ma:∀v,oc.data≠.cell v:=fun v q=>by rw[hd] at q;cases q
 have hCA:C≠A:=Ne.symm hDC
 have fC:(upd H5 A (.lst ys)) C=none:=by rw[zJ hCA];exact oC.free
 have J2:Inv X (pins++[(C,oc)]) σ (upd H5 A (.lst ys)) s5:=J1.TJ fun p hp=>(List.mem_append.mp hp).elim (fun q=>J1.pin p (zvR _ q)) fun q=>by
  have e:p=(C,oc):=by simpa using q
  subst e
  exact⟨hC,fC,oC.loc,oC.fs,Ma⟩
 refine wpAny_mono (pg _ s5 σ _ (.ref A) (.ref A) (fun σ6 H6=>σ6=σ.set i (some (.ref A))/\H6=upd H5 A (.lst ys)) J2 rfl ⟨rfl,rfl⟩) (fun _ s6 ⟨σ6,H6,I6,e1,e2⟩=>?_) fun _ _ e=>e
 subst e1 e2
 obtain⟨c1,c2,_⟩:=I6.pin (C,oc) (zvR _ (zvR _ (by simp)))
 refine⟨m5,⟨oc,es,ep,c1,hd,hr⟩,fun h' hsb=>?_⟩
 have J3:Inv X pins (σ.set i (some (.ref A))) (upd H5 A (.lst ys)) s6:=I6.TJ fun p hp=>I6.pin p (zvR _ (List.mem_append_left _ hp))
 have J4:Inv X pins (σ.set i (some (.ref A))) (upd H5 A (.lst ys)) { s6 with heap:=h',toks:=s6.toks }:=J3.turned (it:=C) (fun b o hb e=>hsb.extBut b o hb e) c2 oC.loc (.inr oC.new) oC.cel oC.pin
 exact⟨_,_,J4,fin A oD.free⟩
end
section
variable {X:Cx}
def Jw:TT:=fun _ H Q=>Q true H
theorem vX {sc uZ:Scope}{x:Str}{js:List Nat}{elt iter:Expr}{px pos:Pos}{wi:TI}{te:TE}(TY:X.env.scope=uZ)(L:Z6 uZ sc x (js.map fun j=>X.N.getD j ""))(hc:X.calm=true)(hi:PI X (.Name x px) iter wi)(hjs:∀j∈js,j<X.N.length)
  (he:∀(cl:List (Str×Addr)) (C:Addr) (s₂:Shared) (H₂:Hp) (fp:List Addr),PE (X.blk sc cl C (lcN X x js) s₂ H₂ fp) elt te)
  (hs:∀x,foldedSetIterable iter X.env x=pure x:=by intro _;rfl) :
  PE X (.ListComp elt [⟨.Name x px,iter,[],0⟩] sc pos) (tLC wi js Jw te) :=
 zn6 TY L hc hi hjs (fun cl C s₂ H₂ fp pins s' σ' H' Q I h=>wpAny_pure ⟨H',I,h⟩) he hs
theorem Ls {K:Frag}{a:Addr}{xs:List V}{σ:St}{js:List Nat}{tt:TT}{te:TE}{H:Hp}{Qf:Addr->Hp->List V->Prop}(Pv:Nat->List V->Hp->Prop)(h0:Pv 0 [] H)(hz:xs.length<=sizeLine)
  (hl:∀i ys H,i<=xs.length->Pv i ys H->zX K H a xs/\ys.length<=i)
  (hs:∀i x ys H,xs[i]?=some x->Pv i ys H->tt (Wn σ js (some x)) H fun b H2=>if b=true then te (Wn σ js (some x)) H2 fun v H3=>Pv (i+1) (ys++[v]) H3 else Pv (i+1) ys H2)
  (mt:∀ σ H Q Q',(∀b H1,Q b H1->Q' b H1)->tt σ H Q->tt σ H Q')(me:∀ σ H Q Q',(∀v H1,Q v H1->Q' v H1)->te σ H Q->te σ H Q')
  (hd:∀ys H p,Pv xs.length ys H->H p=none->Qf p H ys) :
  ∃W:Nat->Nat->List V->Hp->Prop,(∃m,W 0 m [] H)/\∀i m ys H,W i m ys H ->
   ((Itl K a).stop i H/\∀p,H p=none->Qf p H ys) \/
   ((Itl K a).go i H/\ys.length<sizeLine/\∀x H',(Itl K a).yld i H x H'->tt (Wn σ js (some x)) H' fun b H2 =>
    if b=true then te (Wn σ js (some x)) H2 fun v H3=>∃m',m'<m/\W (i+1) m' (ys++[v]) H3 else ∃m',m'<m/\W (i+1) m' ys H2):=by
 refine⟨fun i m ys H=>m=xs.length-i/\i<=xs.length/\Pv i ys H,⟨xs.length,by simp,zvW _,h0⟩,?_⟩
 rintro i m ys H ⟨rfl,hi,p⟩
 obtain⟨q,hy⟩:=hl i ys H hi p
 by_cases hlt:i<xs.length
 ·refine .inr ⟨⟨xs,xs[i],q,by simp[hlt]⟩,by omega,fun x H' y=>?_⟩
  obtain⟨e,y⟩:=y
  subst e
  refine mt _ _ _ _ (fun b H2 h2=>?_) (hs i x ys _ (y xs q) p)
  cases b with
  | true =>
   rw[if_pos rfl] at h2 ⊢
   exact me _ _ _ _ (fun v H3 h3=>⟨_,by omega,rfl,hlt,h3⟩) h2
  | false =>
   rw[if_neg zvE] at h2 ⊢
   exact⟨_,by omega,rfl,hlt,h2⟩
 ·have e:i=xs.length:=by omega
  subst e
  exact .inl ⟨⟨xs,q,zvQ _⟩,fun pp hp=>hd ys H pp p hp⟩
theorem zkf {K:Frag}{a:Addr}{xs:List V}{σ:St}{js:List Nat}{tt:TT}{te:TE}{H:Hp}{Qf:Addr->Hp->List V->Prop}(Pv:Nat->List V->Hp->Prop)(h0:Pv 0 [] H)(hz:xs.length<=sizeLine)
  (hl:∀i ys H,i<=xs.length->Pv i ys H->vO K H a xs/\ys.length<=i)
  (hs:∀i x ys H,xs[i]?=some x->Pv i ys H->tt (Wn σ js (some x)) H fun b H2=>if b=true then te (Wn σ js (some x)) H2 fun v H3=>Pv (i+1) (ys++[v]) H3 else Pv (i+1) ys H2)
  (mt:∀ σ H Q Q',(∀b H1,Q b H1->Q' b H1)->tt σ H Q->tt σ H Q')(me:∀ σ H Q Q',(∀v H1,Q v H1->Q' v H1)->te σ H Q->te σ H Q')
  (hd:∀ys H p,Pv xs.length ys H->H p=none->Qf p H ys) :
  ∃W:Nat->Nat->List V->Hp->Prop,(∃m,W 0 m [] H)/\∀i m ys H,W i m ys H ->
   ((Itt K a).stop i H/\∀p,H p=none->Qf p H ys) \/
   ((Itt K a).go i H/\ys.length<sizeLine/\∀x H',(Itt K a).yld i H x H'->tt (Wn σ js (some x)) H' fun b H2 =>
    if b=true then te (Wn σ js (some x)) H2 fun v H3=>∃m',m'<m/\W (i+1) m' (ys++[v]) H3 else ∃m',m'<m/\W (i+1) m' ys H2):=by
 refine⟨fun i m ys H=>m=xs.length-i/\i<=xs.length/\Pv i ys H,⟨xs.length,by simp,zvW _,h0⟩,?_⟩
 rintro i m ys H ⟨rfl,hi,p⟩
 obtain⟨q,hy⟩:=hl i ys H hi p
 by_cases hlt:i<xs.length
 ·refine .inr ⟨⟨xs,xs[i],q,by simp[hlt]⟩,by omega,fun x H' y=>?_⟩
  obtain⟨e,y⟩:=y
  subst e
  refine mt _ _ _ _ (fun b H2 h2=>?_) (hs i x ys _ (y xs q) p)
  cases b with
  | true =>
   rw[if_pos rfl] at h2 ⊢
   exact me _ _ _ _ (fun v H3 h3=>⟨_,by omega,rfl,hlt,h3⟩) h2
  | false =>
   rw[if_neg zvE] at h2 ⊢
   exact⟨_,by omega,rfl,hlt,h2⟩
 ·have e:i=xs.length:=by omega
  subst e
  exact .inl ⟨⟨xs,q,zvQ _⟩,fun pp hp=>hd ys H pp p hp⟩
theorem zkg {lo:Int}{n:Nat}{σ:St}{js:List Nat}{tt:TT}{te:TE}{H:Hp}{Qf:Addr->Hp->List V->Prop}(Pv:Nat->List V->Hp->Prop)(h0:Pv 0 [] H)(hz:n<=sizeLine)
  (hl:∀i ys H,i<=n->Pv i ys H->ys.length<=i)
  (hs:∀i ys H,i<n->Pv i ys H->tt (Wn σ js (some (.int (lo+i)))) H fun b H2=>if b=true then te (Wn σ js (some (.int (lo+i)))) H2 fun v H3=>Pv (i+1) (ys++[v]) H3 else Pv (i+1) ys H2)
  (mt:∀ σ H Q Q',(∀b H1,Q b H1->Q' b H1)->tt σ H Q->tt σ H Q')(me:∀ σ H Q Q',(∀v H1,Q v H1->Q' v H1)->te σ H Q->te σ H Q')
  (hd:∀ys H p,Pv n ys H->H p=none->Qf p H ys) :
  ∃W:Nat->Nat->List V->Hp->Prop,(∃m,W 0 m [] H)/\∀i m ys H,W i m ys H ->
   ((Itr lo n).stop i H/\∀p,H p=none->Qf p H ys) \/
   ((Itr lo n).go i H/\ys.length<sizeLine/\∀x H',(Itr lo n).yld i H x H'->tt (Wn σ js (some x)) H' fun b H2 =>
    if b=true then te (Wn σ js (some x)) H2 fun v H3=>∃m',m'<m/\W (i+1) m' (ys++[v]) H3 else ∃m',m'<m/\W (i+1) m' ys H2):=by
 refine⟨fun i m ys H=>m=n-i/\i<=n/\Pv i ys H,⟨n,by simp,zvW _,h0⟩,?_⟩
 rintro i m ys H ⟨rfl,hi,p⟩
 have hy:=hl i ys H hi p
 by_cases hlt:i<n
 ·refine .inr ⟨hlt,by omega,fun x H' y=>?_⟩
  obtain⟨e,y⟩:=y
  subst e y
  refine mt _ _ _ _ (fun b H2 h2=>?_) (hs i ys _ hlt p)
  cases b with
  | true =>
   rw[if_pos rfl] at h2 ⊢
   exact me _ _ _ _ (fun v H3 h3=>⟨_,by omega,rfl,hlt,h3⟩) h2
  | false =>
   rw[if_neg zvE] at h2 ⊢
   exact⟨_,by omega,rfl,hlt,h2⟩
 ·have e:i=n:=by omega
  subst e
  exact .inl ⟨zvQ _,fun pp hp=>hd ys H pp p hp⟩
theorem zbC {x:V}:∀{xs:List V} {us:List Value},Vals xs us->xs.all vG=true->∀{j:Nat},xs.findIdx? (fun y=>eqV y x)=some j ->
  ∃hj:j<us.length,eqU x us[j]=true/\∀m (hm:m<us.length),m<j->eqU x us[m]=false
 | _,_,.nil,_,j,h=>by simp at h
 | y::xs,u::us,.cons r t,f,j,h=>by
  rw[List.all_cons,zv1] at f
  rw[List.findIdx?_cons] at h
  by_cases hy:eqV y x=true
  ·rw[if_pos hy] at h
   cases h
   refine⟨by simp,?_,fun m hm hlt=>absurd hlt (Nat.not_lt_zero _)⟩
   show eqU x u=true
   rw[zea r f.1];exact hy
  ·rw[if_neg hy] at h
   cases hq:xs.findIdx? (fun y=>eqV y x) with
   | none=>rw[hq] at h;cases h
   | some k =>
    rw[hq] at h
    have e:k+1=j:=zv4 h
    subst e
    obtain⟨hk,h1,h2⟩:=zbC t f.2 hq
    refine⟨by rw[zvM];omega,h1,fun m hm hlt=>?_⟩
    cases m with
    | zero =>
     show eqU x u=false
     rw[zea r f.1];exact Bool.eq_false_iff.mpr hy
    | succ m=>exact h2 m (by rw[zvM] at hm;omega) (by omega)
def zn7 (K:Frag):V->List V->Hp->VK->Prop:=fun x vs H Q=>∃l xs y j,x=.ref l/\vs=[y]/\zX K H l xs/\vG y=true/\xs.all vG=true/\xs.findIdx? (fun z=>eqV z y)=some j/\Q (.int (j:Nat)) H
theorem Lw:MtM X "list.index" (zn7 X.K):=by
 intro pins s σ H x vs v us Q I rx rv h
 obtain⟨l,xs,y,j,rfl,rfl,hq,fy,fs,hj,q⟩:=h
 cases rx
 obtain⟨u,rfl,ru⟩:=rv.one
 obtain⟨its,r,⟨o,n,e,hc,hd,hdat⟩,hz⟩:=I.list hq
 obtain⟨cls,dd,dt,sl⟩:=o
 have hc':cls=.type "list" := hc
 have hdat':dt=.seq its.toArray n:=hdat
 subst hc' hdat'
 obtain⟨h1,h2,h3⟩:=zbC r fs hj
 have hl:=r.length
 have hn:=RZ
 refine call_meets F.slot_list_index ⟨_,e,rfl⟩ F.entry_list_index (F.args_list_index_2 _ _) (SeqAt.list_indexAt l its.toArray n dd sl u (eqU y) j (by simpa using h1) (by omega) (by simpa using h2) (fun m hm hlt=>by simpa using h3 m (by simpa using hm) hlt)) ⟨e,fun w hw=>Ut ru fy r fs w (by simpa using hw),?_⟩
 exact⟨.int (j:Nat),H,I.tok _,⟨_,rfl⟩,q⟩
def zlU:V->List V->Hp->VK->Prop:=fun x vs H Q=>∃l xs i y,x=.ref l/\vs=[.int i,y]/\H l=some (.lst xs)/\0<=i/\i<=(xs.length:Int)/\xs.length<sizeLine/\Q .non (upd H l (.lst (xs.take i.toNat++y::xs.drop i.toNat)))
theorem zg8 {A:Around}{s:Shared}{P:Program}{w:World}{E:Value->Shared->Prop}{Q:Value->Shared->Prop}{l:Addr}{its:List Value}{n:Nat}{i:Int}{t:Tok}{u:Value}(e:s.heap.get? l=some { cls:=.type "list", data:=.seq its.toArray n })(h0:0<=i)(h1:i<=(its.length:Int))(hz:its.length<=sizeLine)
  (h:∀f:Array Value->Array Value,f its.toArray=(its.take i.toNat++u::its.drop i.toNat).toArray->Q .none { s with heap:=s.heap.update l (Obj.mapSeq f),toks:=s.toks }):wpAny (model P w) A (call (.builtin "list.insert") [.ref l,.int i t,u]) Q E s:=by
 have hn:=RZ
 have fit:¬(!Builtin.List.listFitsIndex i)=true:=by
  rw[fitsIndex_both (k:=i) (Int.le_trans (by decide) h0) (by omega)]
  exact zvE
 have hs3:its.toArray.size<=sizeLine:=by rw[zvK];exact hz
 have M:=AutoSeq1.list_insert_list_int_val_1 l its.toArray n i t u fit hs3
 refine call_meets F.slot_list_insert ⟨_,e,rfl⟩ F.entry_list_insert (F.args_list_insert_3 _ _ _) M ⟨e,?_⟩
 refine h _ ?_
 have hk:(if i<0 then (i+(its.toArray.size:Int)).toNat else min i.toNat its.toArray.size)=i.toNat:=by
  rw[if_neg (by omega),zvK]
  omega
 show(its.toArray.extract 0 (if i<0 then (i+(its.toArray.size:Int)).toNat else min i.toNat its.toArray.size)).push u++its.toArray.extract (if i<0 then (i+(its.toArray.size:Int)).toNat else min i.toNat its.toArray.size)=_
 rw[hk]
 apply Array.toList_inj.mp
 simp[List.take_of_length_le]
theorem zi3:MtM X "list.insert" zlU:=by
 intro pins s σ H x vs v us Q I rx rv h
 obtain⟨l,xs,i,y,rfl,rfl,hH,h0,h1,hz,q⟩:=h
 cases rx
 obtain⟨u,w,rfl,⟨t,rfl⟩,rw'⟩:=rv.two
 obtain⟨z,its,n,r,hl,e⟩:=I.zg6 hH
 refine zg8 e h0 (by rw[<-hl];exact h1) (by omega) fun f hf=>?_
 refine⟨.non,_,I.zj9 (its':=its.take i.toNat++w::its.drop i.toNat) hH e hf ((r.take i.toNat).append (.cons rw' (r.drop i.toNat))) ?_,rfl,q⟩
 rw[zvI,zvM,zvX,List.length_drop]
 omega
def zkh (K:Frag):V->List V->Hp->VK->Prop:=fun x vs H Q=>∃l b xs zs,x=.ref l/\vs=[.ref b]/\H l=some (.lst xs)/\vO K H b zs/\xs.length+zs.length<=sizeLine/\Q .non (upd H l (.lst (xs++zs)))
theorem Jx (l:Addr)(its:Array Value)(n:Nat)(b:Addr)(its2:Array Value)(n2:Nat)(dd:Option Addr)(sl:Array (Option Value))(h0:¬(!its.isEmpty&&Builtin.List.listTooLong (its.size+its2.size))=true)(h1:its.size<=sizeLine)(h2:its.size+its2.size<=sizeLine+1) :
  Meets (Builtin.«list.extend» ⟨[.ref l,.ref b],[]⟩) (fun _ R s=>s.heap.get? l=some { cls:=.type "list", data:=.seq its n }/\s.heap.get? b=some { cls:=.type "tuple", dict:=dd,data:=.seq its2 n2,slots:=sl } /\
   R (.ok (.ret Value.none)) { s with heap:=s.heap.update l (Obj.mapSeq fun x=>x++its2),toks:=s.toks }) :=
 .of_wp fun prog w A R s h=>by
  obtain⟨hp,g,d,tk,os⟩:=s
  obtain⟨hl,hb,h⟩:=h
  have g1:=AutoSeq1.idx_int
  have g2:=AutoSeq1.sub_tuple_tuple
  have g3:=AutoSeq1.sub_list_list
  have g4:=AutoSeq1.sub_tuple_list
  have g5:=AutoSeq1.sub_list_tuple
  have hz:(its++its2).size<=sizeLine+1:=by rw[Array.size_append];exact h2
  wp_walk using (wpAny_updateSeq hl rfl (hz:=h1) (_hz':=hz)),AutoSeq1.wpAny_loadPart' hl,AutoSeq1.wpAny_loadPart' hb
  exact⟨_,rfl,h⟩
theorem zbD:MtM X "list.extend" (zkh X.K):=by
 intro pins s σ H x vs v us Q I rx rv h
 obtain⟨l,b,xs,zs,rfl,rfl,hH,hB,hz,q⟩:=h
 cases rx
 obtain⟨u,rfl,ru⟩:=rv.one
 cases ru
 obtain⟨z,its,n,r,hl,e⟩:=I.zg6 hH
 obtain⟨its2,r2,⟨o,e2,hc,n2,hd⟩,z2⟩:=I.tuple hB
 obtain⟨cls,dd,dt,sl⟩:=o
 have hc':cls=.type "tuple" := hc
 have hd':dt=.seq its2.toArray n2:=hd
 subst hc' hd'
 have hl2:=r2.length
 have hsz:its.toArray.size+its2.toArray.size<=sizeLine:=by rw[zvK,zvK];omega
 have zka:¬(!its.toArray.isEmpty&&Builtin.List.listTooLong (its.toArray.size+its2.toArray.size))=true:=by
  rw[zfm hsz,Bool.and_false]
  exact zvE
 refine call_meets F.slot_list_extend ⟨_,e,rfl⟩ F.entry_list_extend (F.args_list_extend_2 _ _)
  (Jx l its.toArray n b its2.toArray n2 dd sl zka (by rw[zvK];omega) (by omega)) ⟨e,e2,?_⟩
 refine⟨.non,_,I.zj9 (its':=its++its2) hH e (by simp) (r.append r2) ?_,rfl,q⟩
 rw[zvI]
 omega
theorem zcN (bs:List Bool):((List.range bs.length).all fun i=>(bs[i]?).getD true)=bs.all id:=by
 rw[zwd,zv3,zv3]
 constructor
 ·intro h b hb
  obtain⟨i,hi,e⟩:=zwe hb
  have q:=h i (List.mem_range.mpr hi)
  rw[zvB hi,Option.getD_some,e] at q
  exact q
 ·intro h i hi
  have hi':=List.mem_range.mp hi
  rw[zvB hi',Option.getD_some]
  exact h _ (List.getElem_mem hi')
theorem vY (hc:X.calm=true):WR X (.builtin "all") (fun xs H Q=>∃(p:Addr) (bs:List Bool),xs=[.ref p]/\zX X.K H p (bs.map V.bl)/\Q (.bl (bs.all id)) H):=by
 intro pins s σ H xs us Q I r h
 obtain⟨p,bs,rfl,hq,q⟩:=h
 obtain⟨u,rfl,rx⟩:=vals1 r
 cases rx
 obtain⟨its,r',pl,hz⟩:=I.list hq
 have hlen:bs.length=its.length:=by have:=r'.length;rw[zvA] at this;exact this
 have hlt:p<s.heap.objs.size:=by obtain⟨_,e,_⟩:=pl.isList;exact zvH e
 refine call_all_walk (wpAny_pyIter_list pl.isList ?_)
 refine⟨s.heap.objs.size,[s.heap.objs.size,p],[s.heap.objs.size],its.toArray.size,_,_,fun i=>(bs[i]?).getD true,rfl,Walks.list (A:=X.A.in1) (I.ok.hd hc) _ p (zvP hlt) its.toArray,
  ⟨⟨_,zvU _ rfl,rfl,rfl⟩,pl.isList.push _⟩,fun i v s' Q' E' hP hQ=>?_,fun h' tk hk=>?_⟩
 ·have hP':its[i]?=some v:=by simpa using hP
  have hi:i<bs.length:=by
   have:=(zvD.mp hP').1
   omega
  obtain⟨w,hw,rw'⟩:=r'.get (i:=i) (x:=.bl bs[i]) (by rw[zvC,zvB hi];rfl)
  rw[hP'] at hw
  cases hw
  cases rw'
  simp only[zvB hi,Option.getD_some] at hQ
  exact wpAny_truthy_bool hQ
 ·have kp:∀b o,s.heap.get? b=some o->h'.get? b=some o:=fun b o e=>hk b o (fun hm=>by
   rw[List.mem_singleton.mp hm] at e
   exact Nat.lt_irrefl _ (zvH e)) (zvG _ e)
  refine⟨.bl _,H,I.kept kp,rfl,?_⟩
  rw[zvK,<-hlen,zcN]
  exact q
theorem zbE (hc:X.calm=true):WR X (.builtin "sum") (fun xs H Q=>∃(p:Addr) (ns:List Int),xs=[.ref p]/\zX X.K H p (ns.map V.int)/\Q (.int ns.sum) H):=by
 intro pins s σ H xs us Q I r h
 obtain⟨p,ns,rfl,hq,q⟩:=h
 obtain⟨u,rfl,rx⟩:=vals1 r
 cases rx
 obtain⟨its,r',pl,hz⟩:=I.list hq
 have hi:IntsAre its ns:=intsAre_of r'
 obtain⟨zs,hx⟩:=hi.allInts.items
 have hl':s.heap.IsList p (intItems zs):=hx ▸ pl.isList
 refine sum_intListG (I.ok.hd hc) hl' fun h' tk t' hk=>?_
 have e1:ns=zs.toList.map (·.1):=by
  rw[<-nums_intItems,<-hx]
  exact(show numsOf its.toArray.toList=ns from hi.numsOf).symm
 have e2:preSum (numAt zs) zs.size=ns.sum:=by
  rw[preSum_eq,List.take_of_length_le (by simp),e1]
 rw[e2]
 exact⟨.int ns.sum,H,I.kept hk,⟨_,rfl⟩,q⟩
theorem R4:WR X (.builtin "isinstance") (fun xs H Q=>∃x T t b,xs=[x,.ty T]/\Li X.K H x t/\PySem.W.kitOne X.K t (.type T)=some b/\Q (.bl b) H):=by
 intro pins s σ H xs us Q I r h
 obtain⟨x,T,t,b,rfl,ty,e,q⟩:=h
 obtain⟨u,w',rfl,rx,ry⟩:=vals2 r
 cases ry
 exact ziZ I rx ty e fun tk=>⟨.bl b,H,I.tok _,rfl,q⟩
end
def met (acc:List Str)(x:Str):List Str:=if acc.any (·==x) then acc else acc++[x]
def dd (xs:List Str):List Str:=xs.foldl met []
theorem zii (xs:List Str)(x:Str):dd (xs++[x])=met (dd xs) x:=by
 unfold dd
 rw[List.foldl_append]
 rfl
theorem zbd (acc:List Str)(x k:Str):(met acc x).any (·==k)=(acc.any (·==k)||decide (k=x)):=by
 unfold met
 by_cases h:acc.any (·==x)=true
 ·rw[if_pos h]
  by_cases e:k=x
  ·subst e;rw[h];simp
  ·simp[e]
 ·rw[if_neg h,List.any_append]
  by_cases e:k=x
  ·subst e;simp
  ·have hb:(x==k)=false:=by simpa [beq_iff_eq] using (fun z:x=k=>e z.symm)
   simp[hb,e]
theorem Vw (acc:List Str)(x:Str):(met acc x).length=if acc.any (·==x)=true then acc.length else acc.length+1:=by
 unfold met
 split<;>simp
theorem zpB (xs:List Str):(dd xs).length<=xs.length:=by
 suffices h:∀acc:List Str,(xs.foldl met acc).length<=acc.length+xs.length by have:=h [];unfold dd;simpa using this
 induction xs with
 | nil=>intro acc;simp
 | cons x r ih =>
  intro acc
  rw[List.foldl_cons]
  have h1:=ih (met acc x)
  have h2:=Vw acc x
  rw[zvM]
  split at h2<;>omega
theorem zki {xs:List Str}(h:xs.Nodup):(dd xs).length=xs.length:=by
 suffices g:∀acc:List Str,(∀x∈xs,acc.any (·==x)=false)->(xs.foldl met acc).length=acc.length+xs.length by have:=g [] (fun _ _=>rfl);unfold dd;simpa using this
 induction xs with
 | nil=>intro acc _;simp
 | cons x r ih =>
  intro acc ha
  obtain⟨hx,hr⟩:=List.nodup_cons.mp h
  rw[List.foldl_cons,ih hr (met acc x) (fun y hy=>?_),Vw,ha x zvT]
  ·simp;omega
  ·rw[zbd,ha y (zvL _ hy)]
   have:y≠x:=fun e=>hx (e ▸ hy)
   simp[this]
theorem zn8 {xs:List Str}(h:¬xs.Nodup):(dd xs).length<xs.length:=by
 suffices g:∀acc:List Str,¬xs.Nodup->(xs.foldl met acc).length<acc.length+xs.length by have:=g [] h;unfold dd;simpa using this
 clear h
 have le:∀(ys acc:List Str),(ys.foldl met acc).length<=acc.length+ys.length:=fun ys=>by
  induction ys with
  | nil=>intro acc;simp
  | cons x r ih =>
   intro acc
   rw[List.foldl_cons]
   have h1:=ih (met acc x)
   have h2:=Vw acc x
   rw[zvM]
   split at h2<;>omega
 have mem:∀(ys acc:List Str) (x:Str),x∈ys->acc.any (·==x)=true->(ys.foldl met acc).length<acc.length+ys.length:=fun ys=>by
  induction ys with
  | nil=>intro acc x hx _;cases hx
  | cons y r ih =>
   intro acc x hx ha
   rw[List.foldl_cons,zvM]
   rcases List.mem_cons.mp hx with e | hx
   ·subst e
    have h1:=le r (met acc x)
    have h2:=Vw acc x
    rw[if_pos ha] at h2
    omega
   ·have h1:=ih (met acc y) x hx (by rw[zbd,ha];rfl)
    have h2:=Vw acc y
    split at h2<;>omega
 induction xs with
 | nil=>intro acc h;exact absurd List.nodup_nil h
 | cons x r ih =>
  intro acc h
  rw[List.foldl_cons,zvM]
  by_cases hx:x∈r
  ·have h1:=mem r (met acc x) x hx (by rw[zbd];simp)
   have h2:=Vw acc x
   split at h2<;>omega
  ·have h1:=ih (met acc x) (fun hr=>h (List.nodup_cons.mpr ⟨hx,hr⟩))
   have h2:=Vw acc x
   split at h2<;>omega
abbrev zbF (led:Bool):Obj:={ cls:=.type "set", dict:=none,data:=.set #[] 0 (.fresh 0 0 led) }
section
variable {P:Program}{w:World}{A:Around}{R:Result->Shared->Prop}{E:Value->Shared->Prop}{s:Shared}
theorem zkj {I:Addr}{fp wr:List Addr}{G:Array GenState->Array GenState->Prop}{n:Nat}{Pv:Nat->Value->Prop}{St:Nat->Shared->Prop}(W:WalksS P w A.in1 I fp wr G n Pv St)(S:Addr)(hS:S∉fp)(xs:List Str)(hn:xs.length=n)
  (hv:∀i v,Pv i v->∃t,v=.str (xs.getD i "") t)(hb:n+1<scanBound) :
  ∀(k i:Nat) (z:Shared),n-i=k->i<=n->St i z->z.heap.SetOf (strKind P w) S (fun q=>(dd (xs.take i)).any (·==q)) (dd (xs.take i)).length ->
   (∀z',Moved (S::wr) G z z'->z'.heap.SetOf (strKind P w) S (fun q=>(dd xs).any (·==q)) (dd xs).length->R (.ok (.ret .none)) z') ->
   codeAny (model P w) A (.builtin "set.update.loop" ⟨[.ref S,.ref I],[]⟩) R z:=by
 have zpC:S∉wr:=fun h=>hS (W.sub _ h)
 have more:∀b∈wr,b∈S::wr:=fun b h=>zvL _ h
 intro k
 induction k with
 | zero =>
  intro i z hk hi st zlV fin
  have ei:i=n:=by omega
  subst ei
  refine codeAny_builtin PyProof.Rows.F.entry_set_update_loop ?_
  rw[Around.under_plainId PyProof.Rows.F.plain_set_update_loop _]
  show wpAny _ A.in1 (pyNext (.ref I)>>=_) _ _ z
  refine wpAny_bind (W.done z _ _ st fun z' mv=>?_)
  show wpAny _ A.in1 (ret Value.none) _ _ z'
  refine wpAny_pure (fin z' (mv.mono more) ?_)
  rw[<-hn,zv2] at zlV
  obtain⟨o,es,ep,t,ho,more'⟩:=zlV
  exact⟨o,es,ep,t,mv.heap S _ zpC ho,more'⟩
 | succ k ih =>
  intro i z hk hi st zlV fin
  have il:i<n:=by omega
  refine codeAny_builtin PyProof.Rows.F.entry_set_update_loop ?_
  rw[Around.under_plainId PyProof.Rows.F.plain_set_update_loop _]
  show wpAny _ A.in1 (pyNext (.ref I)>>=_) _ _ z
  refine wpAny_bind (W.item i z _ _ il st fun v z' pv st' mv=>?_)
  obtain⟨t,rfl⟩:=hv i v pv
  have hset':z'.heap.SetOf (strKind P w) S (fun q=>(dd (xs.take i)).any (·==q)) (dd (xs.take i)).length:=by
   obtain⟨o,es,ep,tb,ho,more'⟩:=zlV
   exact⟨o,es,ep,tb,mv.heap S _ zpC ho,more'⟩
  show wpAny _ A.in1 (holding [Value.str (xs.getD i "") t] (setAdd S (.str (xs.getD i "") t))>>=_) _ _ z'
  refine wpAny_bind (wpAny_holding ?_)
  unfold setAdd
  refine wpAny_holding ?_
  refine wpAny_bind ((strKind P w).pyHash (k:=xs.getD i "") (strKind_is _ _ _ _) ?_)
  have hroom:(dd (xs.take i)).length+1<scanBound:=by
   have:=zpB (xs.take i)
   rw[zvX] at this
   omega
  have et:xs.take (i+1)=xs.take i++[xs.getD i ""]:=by
   rw[List.take_succ,zvN,zvB (by omega)]
   rfl
  refine wpAny_setAddHashed_of (knd:=strKind P w) (s:={ z' with toks:=z'.toks+1 }) (strKind_is _ _ _ _) rfl hset' hroom fun h' sb s2=>?_
  have zpD:h'.SetOf (strKind P w) S (fun q=>(dd (xs.take (i+1))).any (·==q)) (dd (xs.take (i+1))).length :=
   SetOf_congr s2 (fun q=>by rw[et,zii,zbd]) (by rw[et,zii,Vw])
  refine wpAny_pure ⟨plainId_quiet PyProof.Rows.F.plain_set_update_loop _,ih (i+1) _ (by omega) il (W.frame _ z' _ _ st' (Nat.le_succ _) fun b hb' o e=>?_) zpD fun z'' mv2 s3=>?_⟩
  ·rw[sb.2 b (fun h:b=S=>hS (by rw[<-h];exact hb'))];exact e
  ·refine fin z'' (Moved.trans W.gtrans ((mv.mono more).then_heap (Nat.le_succ _) fun b o hb' e=>?_) mv2) s3
   rw[sb.2 b (fun h:b=S=>hb' (by rw[h];exact zvT))];exact e
theorem zlW {xs:List Str}:∀{us:List Value},Vals (xs.map V.str) us->∀(i:Nat) (v:Value),us[i]?=some v->∃t,v=.str (xs.getD i "") t:=by
 intro us r i v h
 have hl:=r.length
 rw[zvA] at hl
 have hi:i<xs.length:=by have:=(zvD.mp h).1;omega
 obtain⟨u,hu,t,e⟩:=r.get (i:=i) (x:=.str xs[i]) (by rw[zvC,zvB hi];rfl)
 rw[h] at hu
 cases hu
 refine⟨t,?_⟩
 rw[e,zvN,zvB hi]
 rfl
set_option maxHeartbeats 8000000 in
theorem zkk {l:Addr}{us:List Value}{xs:List Str}{Q:Value->Shared->Prop}(hh:A.handled=none)(hl:s.heap.IsList l us.toArray)(r:Vals (xs.map V.str) us)(hb:xs.length+1<scanBound)
  (h:∀(h':Heap) (tk:Nat),h'.SetOf (strKind P w) s.heap.objs.size (fun q=>(dd xs).any (·==q)) (dd xs).length->(∀b o,s.heap.get? b=some o->h'.get? b=some o)->Q (.ref s.heap.objs.size) { s with heap:=h',toks:=tk }) :
  wpAny (model P w) A (call (.type "set") [.ref l]) Q E s:=by
 have hlen:xs.length=us.toArray.size:=by have:=r.length;rw[zvA] at this;simpa using this
 obtain⟨cc,tl,hmro⟩:=F.called_set.mro
 have made:=F.called_set.made
 have sub:=F.called_set.sub
 refine wpAny_call (codeAny_of_tree ?_)
 show wpAny _ _ (callAny (.type "set") _) _ _ _
 refine wpAny_pure ⟨Code.quiet_builtin _ (by decide +kernel),codeAny_builtin F.entry_type_call ?_⟩
 rw[Around.under_plain (weight_type_call_type "set" [.ref l] []) rfl]
 have a1:=F.called_set.notType
 have a2:=F.called_set.canCreate
 have a3:=F.typeCall_set_1 (.ref l)
 repeat (any_goals (first | assumption | wp_step))
 refine codeAny_mono (code_set_new_1 (.ref l) (E:=E) (Q₁:=fun ob z=>∃led:Bool,ob=.ref s.heap.objs.size/\z={ s with heap:=s.heap.push { cls:=.type "set", dict:=none,data:=.set #[] 0 (.fresh 0 0 led) } }) fun led=>⟨led,rfl,rfl⟩) fun res z hres=>?_
 cases res with
 | error e=>exact hres
 | ok fl =>
  cases fl with
  | ret ob =>
   obtain⟨led,rfl,rfl⟩:=hres
   have gS:(s.heap.push (zbF led)).get? s.heap.objs.size=some (zbF led):=zvU _ rfl
   have tS:Shared.TypeIs { s with heap:=s.heap.push (zbF led) } (.ref s.heap.objs.size) "set" := ⟨_,gS,rfl⟩
   have b1:=F.called_set.init.lookup
   have b2:=F.called_set.init.bind (.ref s.heap.objs.size)
   repeat (any_goals (first | assumption | wp_step))
   refine codeAny_mono (codeAny_call_builtin (R:=wants (fun v z=>v=.none/\∃h' tk,z={ s with heap:=h',toks:=tk }/\h'.SetOf (strKind P w) s.heap.objs.size (fun q=>(dd xs).any (·==q)) (dd xs).length/\(∀b o,s.heap.get? b=some o->h'.get? b=some o)) E)
    F.called_set.init.plain F.entry_set_init (check_set_init_1 tS ?_)) fun res2 z2 zkl=>?_
   ·obtain⟨ol,gl,cl,nl,dl⟩:=hl
    obtain⟨ocls,odict,odata,oslots⟩:=ol
    have cl':ocls=.type "list" := cl
    have dl':odata=.seq us.toArray nl:=dl
    subst cl' dl'
    have gl':(s.heap.push (zbF led)).get? l=some { cls:=.type "list", dict:=odict,data:=.seq us.toArray nl,slots:=oslots }:=zvG _ gl
    have c1:=F.sub_list_set
    have c2:=F.sub_list_frozenset
    have c3:(Value.type "list" == Value.type "dict")=false:=by decide
    have isl:(s.heap.push (zbF led)).IsList l us.toArray:=⟨_,gl',rfl,nl,rfl⟩
    unfold Builtin.«set.__init__» noKeywords Builtin.Frozenset.updateFrom
    generalize hit:pyIter=itf
    wp_walk
    subst hit
    refine wpAny_pyIter_list isl ?_
    refine wpAny_bind (wpAny_runValue ?_)
    have ltl:l<s.heap.objs.size:=zvH gl
    have hd3:A.in1.in1.in1.handled=none:=by simp[hh]
    have sz1:(s.heap.push (zbF led)).objs.size=s.heap.objs.size+1:=Heap.size_push ..
    have nel:l≠(s.heap.push (zbF led)).objs.size:=by rw[sz1];exact zvP (Nat.lt_succ_of_lt ltl)
    have nin:s.heap.objs.size∉[(s.heap.push (zbF led)).objs.size,l]:=by
     rw[sz1]
     simp only[List.mem_cons,zv0,or_false,not_or]
     exact⟨zvP (Nat.lt_succ_self _),Nat.ne_of_gt ltl⟩
    refine zkj ((Walks.list hd3 _ l nel us.toArray).toS) s.heap.objs.size nin xs hlen (fun i v hv=>zlW r i v (by simpa using hv)) (by rw[<-hlen];exact hb) (us.toArray.size-0) 0 _ (by omega) (zvW _)
     ⟨⟨_,zvU _ rfl,rfl,rfl⟩,isl.push _⟩ ?s0 ?fin
    case s0 =>
     have gg:((s.heap.push (zbF led)).push { cls:=.type "list_iterator", data:=.fields #[.ref l,.int 0 0] }).get? s.heap.objs.size=some (zbF led):=zvG _ gS
     exact SetOf_congr ((setObjOf_fresh (knd:=strKind P w) led).setOf gg (by unfold scanBound;omega)) (fun _=>rfl) rfl
    case fin =>
     intro z mv sz
     obtain⟨h',g',d',tk',os'⟩:=z
     have e1:g'=s.gens:=mv.gens
     have e2:d'=s.drawn:=mv.drawn
     have e3:os'=s.os:=mv.os
     subst e1 e2 e3
     show wpAny _ _ _ _ _ _
     refine wpAny_pure ?_
     show wpAny _ _ (ret Value.none) _ _ _
     refine wpAny_pure ⟨rfl,h',tk',rfl,sz,fun b o e=>?_⟩
     have lb:=zvH e
     have n1:b≠s.heap.objs.size:=zvP lb
     have n2:b≠(s.heap.push (zbF led)).objs.size:=by rw[sz1];exact zvP (Nat.lt_succ_of_lt lb)
     exact mv.heap b o (by simp only[List.mem_cons,zv0,or_false,not_or];exact⟨n1,n2⟩) (zvG _ (zvG _ e))
   ·cases res2 with
    | error e=>exact zkl
    | ok fl2 =>
     cases fl2 with
     | ret v =>
      obtain⟨rfl,h',tk,rfl,sS,kk⟩:=zkl
      repeat (any_goals (first | assumption | wp_step))
      exact h _ _ sS kk
     | _=>exact zkl.elim
  | _=>exact hres.elim
end
section
variable {X:Cx}
def zlX (P:Program)(w:World)(a:Addr)(n:Nat):HO:=.ext fun h=>∃S,h.SetOf (strKind P w) a S n
theorem zkm (hc:X.calm=true):WR X (.type "set") (fun xs H Q=>∃(p:Addr) (ts:List Str),xs=[.ref p]/\zX X.K H p (ts.map V.str)/\ts.length<=100/\∀q,H q=none->Q (.ref q) (upd H q (zlX X.prog X.w q (dd ts).length))):=by
 intro pins s σ H xs us Q I r h
 obtain⟨p,ts,rfl,hq,h100,q⟩:=h
 obtain⟨u,rfl,rx⟩:=vals1 r
 cases rx
 obtain⟨its,r',pl,hz⟩:=I.list hq
 refine zkk (I.ok.hd hc) pl.isList r' (Nat.lt_of_le_of_lt (Nat.add_le_add_right h100 1) (by decide)) fun h' tk hS hk=>?_
 refine⟨.ref s.heap.objs.size,_,I.laid hk (zvQ _) (o:=zlX X.prog X.w s.heap.objs.size (dd ts).length) ?_,rfl,q _ (I.hok.fresh (zvQ _))⟩
 refine⟨⟨_,hS⟩,?_,?_⟩
 ·obtain⟨o,es,ep,t,ho,_⟩:=hS
  exact⟨o,ho⟩
 ·rintro h1 h2 ⟨S,o,es,ep,t,ho,rest⟩ k
  exact⟨S,o,es,ep,t,k o ho,rest⟩
theorem call_len_set':WR X (.builtin "len") (fun xs H Q=>∃(p:Addr) (n:Nat),xs=[.ref p]/\H p=some (zlX X.prog X.w p n)/\Q (.int n) H):=by
 intro pins s σ H xs us Q I r h
 obtain⟨p,n,rfl,hp,q⟩:=h
 obtain⟨u,rfl,rx⟩:=vals1 r
 cases rx
 obtain⟨⟨S,o,es,ep,t,ho,hex,hd,_,_,hb,hf,hn⟩,_⟩:=I.hok p _ hp
 have h63:(es.size:Int)<2^63:=by
  have h1:scanBound<2^63:=by decide
  omega
 refine call_len_set ho hex hd hf h63 ⟨.int n,H,I.tok _,⟨s.toks+1,?_⟩,q⟩
 rw[hn]
def zlY (K:Frag)(P:Program)(w:World)(a:Addr)(kvs:List (Str×Value)):Prop:=(a==sysModules)=false/\∃o,K.lookup a=some o/\o.IsDictOf (strKind P w) kvs
theorem zee {a:Addr}{kvs:List (Str×Value)}(hd:zlY X.K X.prog X.w a kvs):IxR X (fun x y H Q=>∃k u v,x=.ref a/\y=.str k/\valueAt kvs k=some u/\RelV v u/\Q v H):=by
 intro value slice pins s σ H x y v u Q I rx ry h hs
 obtain⟨k,z,vv,rfl,rfl,hv,rv,q⟩:=h
 cases rx
 obtain⟨t,rfl⟩:=ry
 obtain⟨_,o,hk,hdd⟩:=hd
 have D:s.heap.DictOf (strKind X.prog X.w) a kvs:=Heap.dictOf_iff.mpr ⟨o,I.PX a o hk,hdd⟩
 exact tail_any D.typeIs slot_dict_getitem.lookup (wpAny_getItem_of (strKind_is _ _ k t) D.mapOf hv ⟨vv,H,I.tok _,rv,q⟩) hs
theorem zcO {a:Addr}{kvs:List (Str×Value)}(hd:zlY X.K X.prog X.w a kvs):Vp X (compareOp .NotIn) (fun x y H Q=>∃k,x=.str k/\y=.ref a/\Q (.bl (!(valueAt kvs k).isSome)) H):=by
 intro pins s σ H x y v u Q I rx ry h
 obtain⟨k,rfl,rfl,q⟩:=h
 cases ry
 obtain⟨t,rfl⟩:=rx
 obtain⟨hs,o,hk,hdd⟩:=hd
 have D:s.heap.DictOf (strKind X.prog X.w) a kvs:=Heap.dictOf_iff.mpr ⟨o,I.PX a o hk,hdd⟩
 exact wpAny_notIn_of (strKind_is _ _ k t) hs D.mapOf ⟨.bl _,H,I.tok _,rfl,q⟩
theorem Inv.zij {pins:List (Addr×Obj)}{σ:St}{H:Hp}{s:Shared}{h':Heap}{t':Nat}{fp:List Addr}(I:Inv X pins σ H s)(k:∀b o,b∉fp->s.heap.get? b=some o->h'.get? b=some o)(ex:∀b∈fp,∃o,h'.get? b=some o)(hf:∀b∈fp,zcK X pins H b) :
  Inv X pins σ H { s with heap:=h',toks:=t' }:=by
 have nit:∀b u,H b=some u->b∉fp:=fun b u e z=>by rw[(hf b z).1] at e;cases e
 refine I.step (g':=s.gens) (d':=s.drawn) (ch:=fp) (fun b hb=>⟨(hf b hb).2.2.2.1,(hf b hb).2.1,(hf b hb).2.2.2.2.1,(hf b hb).2.2.2.2.2⟩) (fun b o _ _ hc e _=>k b o hc e) (fun b o _ _ hc e _=>⟨o.slots,k b o hc e⟩) (fun _ _ _ _ n=>n)
  (fun b o hc e=>⟨o,k b o hc e⟩) (fun _ _ e=>e) (fun _ _ _ e=>e) (fun b ps e=>⟨#[],by rw[e];simp⟩) (fun m hm=>?_) (fun b u e=>?_) I.bare
 ·obtain⟨o,es,ep,ho,r⟩:=hm
  exact⟨o,es,ep,k _ o (fun z=>(hf _ z).2.1 rfl) ho,r⟩
 ·refine(I.hok b u e).stay (fun c v hc q=>k c v ?_ q) (fun _ q=>q) fun _ _ q=>q
  rcases hc with z | z
  ·rw[z];exact nit b u e
  ·exact nit c _ z
def Ite (K:Frag)(a:Addr):It :=
 ⟨fun i H=>∃xs x,zX K H a xs/\xs[i]?=some x,fun i H x H'=>∃p y,(∀xs,zX K H a xs->xs[i]?=some y)/\x=.ref p/\H p=none/\H'=upd H p (.tup [.int (i:Nat),y]),fun i H=>∃xs,zX K H a xs/\xs.length<=i⟩
theorem zi4 {P:Program}{w:World}{K:Frag}{els:List Expr}{x1}{pt:Pos}(a e it:Addr)(hne:e≠it):Turn P w K (.Tuple els x1 pt) (Ite K a) [e,it] e (fun i h=>(∃old,IsEnum h e it (i:Nat) old)/\h.IsListIter it a i) where
 mem:=by simp
 obj:=fun i h st b hb=>by
  rcases List.mem_cons.mp hb with z | z
  ·obtain⟨⟨old,q⟩,_⟩:=st
   rw[z]
   exact⟨_,q,fun v hv=>by cases hv⟩
  ·have z':b=it:=by simpa using z
   obtain⟨_,o,q,c,d⟩:=st
   rw[z']
   exact⟨o,q,fun v hv=>by rw[d] at hv;cases hv⟩
 keep:=fun i h h' st k=>by
  obtain⟨⟨old,q⟩,q2⟩:=st
  exact⟨⟨old,k e (by simp) _ q⟩,q2.at fun o z=>k it (by simp) o z⟩
 item:=by
  intro X hP hw hK hc i pins s σ H E I hf st hg
  subst hP hw hK
  obtain⟨xs,x,hq,hx⟩:=hg
  obtain⟨⟨old,he⟩,hit⟩:=st
  obtain⟨its,rv,pl,hz⟩:=I.list hq
  obtain⟨u,hu,ru⟩:=rv.get hx
  refine wpAny_pyNext_enum_item he hit pl.isList (x:=u) (by simpa using hu) hne fun h1 out hit1 tup sz k1=>?_
  refine⟨.ref s.heap.objs.size,rfl,wpAny_letOwnedTupleGo_enum out fun h2 he2 sb=>?_⟩
  have lte:=zvH he
  have k2:∀b o,b∉[e,it]->s.heap.get? b=some o->h2.get? b=some o:=fun b o hb q=>by
   have hb':b≠e/\b≠it:=by simpa using hb
   exact(sb.2 b hb'.1).trans (k1 b o hb'.1 hb'.2 q)
  have hit2:h2.IsListIter it a (i+1):=hit1.at fun o z=>(sb.2 it (Ne.symm hne)).trans z
  have J1:Inv X pins σ H { s with heap:=h2,toks:=s.toks+1 }:=I.zij (fp:=[e,it]) k2 (fun b hb=>by
   rcases List.mem_cons.mp hb with z | z
   ·rw[z];exact⟨_,he2⟩
   ·have z':b=it:=by simpa using z
    obtain⟨o,q,_⟩:=hit2
    rw[z'];exact⟨o,q⟩) hf
  have zn9:h2.get? s.heap.objs.size=some { cls:=.type "tuple", data:=.seq #[.int i s.toks,u] }:=(sb.2 _ (Nat.ne_of_gt lte)).trans tup
  have ltc:∀y c,X.env.cells.lookup y=some c->c≠s.heap.objs.size:=fun y c q=>by
   obtain⟨v,o,z,_⟩:=I.cell y c q
   exact zvP (zvH z)
  have ltp:∀p∈X.pn++pins,p.1≠s.heap.objs.size:=fun p hp=>zvP (zvH (I.pin p hp).1)
  have J2:=J1.track (a:=s.heap.objs.size) (o:=.tup [.int (i:Nat),x]) I.fresh (Ne.symm (zvP I.lt)) I.sz ltc ltp ⟨by show 2<=sizeLine;decide,[.int i s.toks,u],.cons ⟨_,rfl⟩ (.cons ru .nil),⟨_,zn9,rfl,_,rfl⟩⟩
  refine⟨.ref s.heap.objs.size,_,J2,rfl,⟨_,x,fun ys hy=>by rw[I.WM hy hq];exact hx,rfl,I.fresh,rfl⟩,⟨⟨u,?_⟩,hit2⟩,fun b hb=>?_⟩
  ·have:=he2
   simpa using this
  ·have lb:b<s.heap.objs.size:=by
    rcases List.mem_cons.mp hb with z | z
    ·rw[z];exact lte
    ·have z':b=it:=by simpa using z
     obtain⟨o,q,_⟩:=hit
     rw[z'];exact zvH q
   rw[zJ (zvP lb)]
   exact(hf b hb).1
 done:=by
  intro X hP hw hK hc i pins s σ H E I hf st hg
  subst hP hw hK
  obtain⟨xs,hq,hx⟩:=hg
  obtain⟨⟨old,he⟩,hit⟩:=st
  obtain⟨its,rv,pl,hz⟩:=I.list hq
  have hl:=rv.length
  obtain⟨f0,f1,f2,f3,f4,f5⟩:=hf it (by simp)
  exact wpAny_pyNext_enum_end (I.ok.hd hc) he hit pl.isList (by simp;omega) fun h' eb=>⟨rfl,I.turned (t':=s.toks) (fun b o hb q=>eb b o hb q) f0 f1 f3 f4 f5⟩
 self:=fun _ _ _ _ _ st h=>let ⟨⟨_,he⟩,_⟩:=st;wpAny_pyIter_enum he h
def zpF (K:Frag)(ta:TA):TI:=fun σ H R=>ta σ H fun vs H1=>∃a xs,vs=[.ref a]/\zX K H1 a xs/\R (Ite K a) H1
theorem boot_enumerate:bootBuiltins "enumerate"=some (.type "enumerate"):=by decide +kernel
theorem zlZ {l:Expr}{ta:TA}{p pos:Pos}{els:List Expr}{x1}{pt:Pos}(hg:Gl X "enumerate")(hm:X.mg "enumerate"=none)(ha:PA X [l] ta)(hs:starEach [l] X.env=[(false,eval l X.env)]:=by rfl) :
  PI X (.Tuple els x1 pt) (.Call (.Name "enumerate" p) [l] [] pos) (zpF X.K ta):=by
 intro pins s σ H R I h
 refine Call_ (V7 I hg hm boot_enumerate (PyProof.Rows.callWith_type1 (vo (ha pos pins s σ H _ I h) fun us s1 ⟨vs,H1,I1,r1,q1⟩=>?_) hs rfl))
 obtain⟨a,xs,e,hq,q⟩:=q1
 subst e
 obtain⟨u,rfl,ru⟩:=vals1 r1
 cases ru
 obtain⟨its,rv,pl,hz⟩:=I1.list hq
 refine call_enumerate_list pl.isList fun h' he hit hsz hk=>?_
 have J:Inv X pins σ H1 { s1 with heap:=h',toks:=s1.toks }:=I1.kept hk
 refine wpAny_pyIter_enum he ?_
 refine⟨s1.heap.objs.size+1,[s1.heap.objs.size+1,s1.heap.objs.size],_,_,H1,rfl,J,zi4 a _ _ (Nat.ne_of_gt (Nat.lt_succ_self _)),⟨⟨_,he⟩,hit⟩,fun b hb=>?_,q⟩
 have gb:s1.heap.objs.size<=b:=by
  rcases List.mem_cons.mp hb with z | z
  ·rw[z];exact Nat.le_succ _
  ·have z':b=s1.heap.objs.size:=by simpa using z
   rw[z'];exact zvQ _
 exact I1.ziT gb (I1.hok.fresh gb)
theorem zkn {K:Frag}{a:Addr}{xs:List V}{g:TG}{tb:TS}{D:Ends}{σ:St}{H:Hp}(Pv:Nat->St->Hp->Prop)(h0:Pv 0 σ H)(hl:∀i σ H,i<=xs.length->Pv i σ H->zX K H a xs)
  (hs:∀i x σ H p,xs[i]?=some x->Pv i σ H->H p=none->g (.ref p) σ (upd H p (.tup [.int (i:Nat),x])) fun σ2 H2=>tb { D with nx:=Pv (i+1),ct:=Pv (i+1),bk:=D.nx } σ2 H2)(hd:∀ σ H,Pv xs.length σ H->D.nx σ H) :
  ∃W:Nat->Nat->St->Hp->Prop,(∃m,W 0 m σ H)/\∀i m σ H,W i m σ H ->
   ((Ite K a).stop i H/\D.nx σ H)\/((Ite K a).go i H/\∃N:St->Hp->Prop,(∀ σ' H',N σ' H'->∃m',m'<m/\W (i+1) m' σ' H')/\∀x H',(Ite K a).yld i H x H'->g x σ H' fun σ2 H2=>tb { D with nx:=N,ct:=N,bk:=D.nx } σ2 H2):=by
 refine⟨fun i m σ H=>m=xs.length-i/\i<=xs.length/\Pv i σ H,⟨xs.length,by simp,zvW _,h0⟩,?_⟩
 rintro i m σ H ⟨rfl,hi,p⟩
 have q:=hl i σ H hi p
 by_cases hlt:i<xs.length
 ·refine .inr ⟨⟨xs,xs[i],q,by simp[hlt]⟩,Pv (i+1),fun σ' H' p'=>⟨xs.length-(i+1),by omega,rfl,hlt,p'⟩,fun x H' y=>?_⟩
  obtain⟨pp,z,q1,rfl,q3,rfl⟩:=y
  exact hs i z σ H pp (q1 xs q) p q3
 ·have e:i=xs.length:=by omega
  subst e
  exact .inl ⟨⟨xs,q,zvQ _⟩,hd σ H p⟩
end
theorem yw:bootBuiltins "len"=some (.builtin "len"):=by decide +kernel
theorem YC:bootBuiltins "all"=some (.builtin "all"):=by decide +kernel
theorem zef:bootBuiltins "sum"=some (.builtin "sum"):=by decide +kernel
theorem yK:bootBuiltins "isinstance"=some (.builtin "isinstance"):=by decide +kernel
theorem zoa:bootBuiltins "str"=some (.type "str"):=by decide +kernel
theorem zfp:bootBuiltins "tuple"=some (.type "tuple"):=by decide +kernel
theorem zeg:bootBuiltins "list"=some (.type "list"):=by decide +kernel
theorem zob:bootBuiltins "set"=some (.type "set"):=by decide +kernel
theorem zg9 {v:V}{u:Value}(h:zcJ u=some v):RelV v u:=by
 cases u<;>simp only[zcJ,Option.some.injEq,reduceCtorEq] at h<;>subst h<;>first | exact rfl | exact⟨_,rfl⟩
theorem zas:∀{us:List Value} {xs:List V},us.map zcJ=xs.map some->Vals xs us
 | [],[],_=>.nil
 | u::us,x::xs,h=>by
  rw[zvY,zvY] at h
  injection h with h1 h2
  exact .cons (zg9 h1) (zas h2)
 | [],_::_,h=>by cases h
 | _::_,[],h=>by cases h
theorem znh {K:Frag}{H:Hp}{p:Addr}{od:Option Addr}{it:Array Value}{n:Nat}{sl:Array (Option Value)}{xs:List V}(l:K.lookup p=some ⟨.type "tuple", od,.seq it n,sl⟩)(v:it.toList.map zcJ=xs.map some)(hz:xs.length<=1000):vO K H p xs:=by
 have r:=zas v
 refine .inr ⟨_,it,n,l,rfl,rfl,?_,r⟩
 have e:xs.length=it.size:=by have:=r.length;simpa using this
 rw[<-e]
 exact zvS (yc hz)
theorem zoc {P:Program}{w:World}:Pairs (strKind P w) [] []/\∀e∈([]:List DictEntry),∃k,(strKind P w).is k e.key=true/\e.hash=(strKind P w).hash k:=⟨.nil,fun _ h=>nomatch h⟩
theorem zl0 {P:Program}{w:World}{k:Str}{t:Tok}{v:Value}{es:List DictEntry}{kvs:List (Str×Value)}(h:Pairs (strKind P w) es kvs/\∀e∈es,∃k,(strKind P w).is k e.key=true/\e.hash=(strKind P w).hash k) :
  Pairs (strKind P w) (⟨hashStr w k,.str k t,v⟩::es) ((k,v)::kvs)/\∀e∈(⟨hashStr w k,.str k t,v⟩::es:List DictEntry),∃k,(strKind P w).is k e.key=true/\e.hash=(strKind P w).hash k:=by
 refine⟨.cons (strKind_is _ _ k t) rfl h.1,fun e he=>?_⟩
 rcases List.mem_cons.mp he with z | z
 ·subst z;exact⟨k,strKind_is _ _ k t,rfl⟩
 ·exact h.2 e z
theorem zl1 {P:Program}{w:World}{K:Frag}{p:Addr}{es:Array DictEntry}{ep:Nat}{el:List DictEntry}{kvs:List (Str×Value)}(l:K.lookup p=some ⟨.type "dict", none,.dict es ep,#[]⟩)(e:es.toList=el)(s:(p==sysModules)=false)
  (h:Pairs (strKind P w) el kvs/\∀e∈el,∃k,(strKind P w).is k e.key=true/\e.hash=(strKind P w).hash k)(nd:(kvs.map (·.1)).Nodup):zlY K P w p kvs:=by
 subst e
 exact⟨s,_,l,es,ep,⟨rfl,rfl,rfl⟩,rfl,fun x hx=>h.2 x (by simpa using hx),h.1,nd⟩
end L2
namespace WX
open PySem
inductive Sn where
 | c0 (y:Bool)
 | mk (x:Str)
 | nt (s:Sn)
 | b2 (o:Fin 4) (s t:Sn)
 | q1 (o:Bool) (x:Str) (s:Sn)
def w2:Fin 4->Str
 | 0 => "and"
 | 1 => "or"
 | 2 => "either"
 | 3 => "if"
namespace Sn
def word:Sn->Str
 | c0 true => "yes"
 | c0 false => "no"
 | mk _ => "mark"
 | nt _ => "not"
 | b2 o _ _=>w2 o
 | q1 true _ _ => "some"
 | q1 false _ _ => "each"
def letters:Sn->List Str
 | mk x=>[x]
 | q1 _ x _=>[x]
 | _=>[]
def parts:Sn->List Sn
 | nt s=>[s]
 | b2 _ s t=>[s,t]
 | q1 _ _ s=>[s]
 | _=>[]
def count:Sn->Nat
 | nt s=>1+s.count
 | b2 _ s t=>1+(s.count+t.count)
 | q1 _ _ s=>1+s.count
 | _=>1
def depth:Sn->Nat
 | nt s=>1+s.depth
 | b2 _ s t=>1+max s.depth t.depth
 | q1 _ _ s=>1+s.depth
 | _=>1
def Jp (os:List Str):Sn->Prop
 | c0 _=>True
 | mk x=>x∈os
 | nt s=>s.Jp os
 | b2 _ s t=>s.Jp os/\t.Jp os
 | q1 _ x s=>x∈os/\s.Jp os
def op2:Fin 4->Bool->Bool->Bool
 | 0,a,b=>a&&b
 | 1,a,b=>a||b
 | 2,a,b=>a != b
 | 3,a,b=>!a||b
def val:Sn->(Str->Bool)->Bool
 | c0 y,_=>y
 | mk x,e=>e x
 | nt s,e=>!s.val e
 | b2 o s t,e=>op2 o (s.val e) (t.val e)
 | q1 true x s,e=>s.val (fun y=>if y=x then true else e y)||s.val (fun y=>if y=x then false else e y)
 | q1 false x s,e=>s.val (fun y=>if y=x then true else e y)&&s.val (fun y=>if y=x then false else e y)
theorem val_congr {os:List Str}:∀(s:Sn) {e e':Str->Bool},s.Jp os->(∀x∈os,e x=e' x)->s.val e=s.val e'
 | c0 _,_,_,_,_=>rfl
 | mk x,_,_,h,q=>q x h
 | nt s,_,_,h,q=>by unfold val;rw[val_congr s h q]
 | b2 o s t,_,_,h,q=>by unfold val;rw[val_congr s h.1 q,val_congr t h.2 q]
 | q1 o x s,e,e',h,q=>by
  have k:∀b:Bool,s.val (fun y=>if y=x then b else e y)=s.val (fun y=>if y=x then b else e' y):=fun b=>val_congr s h.2 fun y hy=>by
   by_cases hx:y=x
   ·rw[if_pos hx,if_pos hx]
   ·rw[if_neg hx,if_neg hx,q y hy]
  cases o<;>(unfold val;rw[k,k])
theorem Jy:∀s:Sn,1<=s.depth
 | c0 _=>zvQ _
 | mk _=>zvQ _
 | nt _=>by unfold depth;omega
 | b2 _ _ _=>by unfold depth;omega
 | q1 _ _ _=>by unfold depth;omega
theorem zat:∀s:Sn,s.count=1+(s.parts.map count).sum
 | c0 _=>rfl
 | mk _=>rfl
 | nt _=>by simp[count,parts]
 | b2 _ _ _=>by simp[count,parts]
 | q1 _ _ _=>by simp[count,parts]
theorem R5:∀(s:Sn),∀t∈s.parts,t.depth+1<=s.depth
 | c0 _,t,h=>by simp[parts] at h
 | mk _,t,h=>by simp[parts] at h
 | nt s,t,h=>by simp[parts] at h;subst h;show t.depth+1<=1+t.depth;omega
 | b2 _ s u,t,h=>by
  simp[parts] at h
  rcases h with h | h
  ·subst h;show t.depth+1<=1+max t.depth u.depth;omega
  ·subst h;show t.depth+1<=1+max s.depth t.depth;omega
 | q1 _ _ s,t,h=>by simp[parts] at h;subst h;show t.depth+1<=1+t.depth;omega
theorem zdv {os:List Str}:∀(s:Sn),s.Jp os->∀t∈s.parts,t.Jp os
 | c0 _,_,t,h=>by simp[parts] at h
 | mk _,_,t,h=>by simp[parts] at h
 | nt s,q,t,h=>by simp[parts] at h;subst h;exact q
 | b2 _ s u,q,t,h=>by
  simp[parts] at h
  rcases h with h | h<;>subst h
  ·exact q.1
  ·exact q.2
 | q1 _ _ s,q,t,h=>by simp[parts] at h;subst h;exact q.2
theorem zfq {os:List Str}:∀(s:Sn),s.Jp os->∀x∈s.letters,x∈os
 | c0 _,_,t,h=>by simp[letters] at h
 | mk _,q,t,h=>by simp[letters] at h;subst h;exact q
 | nt s,q,t,h=>by simp[letters] at h
 | b2 _ s u,q,t,h=>by simp[letters] at h
 | q1 _ _ s,q,t,h=>by simp[letters] at h;subst h;exact q.1
end Sn
theorem ur (b p:Nat):(b+2^p).testBit p=!b.testBit p:=by rw[Nat.add_comm];exact Nat.testBit_two_pow_add_eq b p
theorem Q7 {b p j:Nat}(h:j<p):(b+2^p).testBit j=b.testBit j:=by rw[Nat.add_comm];exact Nat.testBit_two_pow_add_gt h b
theorem zko {b p:Nat}(h:b.testBit p=false):b%2^(p+1)<2^p:=by
 have e:b%2^(p+1)=b%2^p+2^p*(b / 2^p%2):=by
  rw[Nat.pow_succ];exact Nat.mod_mul
 have z:b / 2^p%2=0:=by
  rw[Nat.testBit_eq_decide_div_mod_eq] at h
  have:=of_decide_eq_false h
  omega
 rw[e,z,Nat.mul_zero,Nat.add_zero]
 exact Nat.mod_lt b (Nat.two_pow_pos p)
theorem zkp (x i j:Nat):x.testBit (i+j)=(x / 2^i).testBit j:=by
 rw[Nat.testBit_div_two_pow,Nat.add_comm]
theorem zdw {b p j:Nat}(h:p<j)(h0:b.testBit p=false):(b+2^p).testBit j=b.testBit j:=by
 obtain⟨k,rfl⟩:∃k,j=(p+1)+k:=⟨j-(p+1),by omega⟩
 rw[zkp,zkp]
 have hm:=zko h0
 have e:(b+2^p) / 2^(p+1)=b / 2^(p+1):=by
  have hp:2^(p+1)=2^p+2^p:=by rw[Nat.pow_succ];omega
  have d:=Nat.div_add_mod b (2^(p+1))
  have pos:=Nat.two_pow_pos (p+1)
  rw[Nat.div_eq_iff pos]
  have c:b / 2^(p+1)*2^(p+1)=2^(p+1)*(b / 2^(p+1)):=Nat.mul_comm _ _
  rw[c]
  omega
 rw[e]
def yt (b p:Nat)(v:Bool):Nat:=if b.testBit p=v then b else if v then b+2^p else b-2^p
theorem zdx {b p:Nat}(h:b.testBit p=true):2^p<=b:=Nat.ge_two_pow_of_testBit h
theorem yE (b p j:Nat)(v:Bool):(yt b p v).testBit j=if j=p then v else b.testBit j:=by
 unfold yt
 by_cases h:b.testBit p=v
 ·rw[if_pos h]
  by_cases hj:j=p
  ·rw[if_pos hj,hj,h]
  ·rw[if_neg hj]
 ·rw[if_neg h]
  cases v with
  | true =>
   have h0:b.testBit p=false:=by simpa using h
   rw[if_pos rfl]
   by_cases hj:j=p
   ·subst hj;rw[if_pos rfl,ur,h0];rfl
   ·rw[if_neg hj]
    rcases Nat.lt_or_gt_of_ne hj with q | q
    ·exact Q7 q
    ·exact zdw q h0
  | false =>
   have h1:b.testBit p=true:=by simpa using h
   rw[if_neg zvE]
   have ge:=zdx h1
   obtain⟨c,hc⟩:∃c,b=c+2^p:=⟨b-2^p,by omega⟩
   have h0:c.testBit p=false:=by
    rw[hc,ur] at h1
    simpa using h1
   have e:b-2^p=c:=by omega
   rw[e,hc]
   by_cases hj:j=p
   ·subst hj;rw[if_pos rfl,h0]
   ·rw[if_neg hj]
    rcases Nat.lt_or_gt_of_ne hj with q | q
    ·exact(Q7 q).symm
    ·exact(zdw q h0).symm
theorem xq {b p n:Nat}{v:Bool}(hb:b<2^n)(hp:p<n):yt b p v<2^n:=by
 refine Nat.lt_pow_two_of_testBit _ fun i hi=>?_
 rw[yE,if_neg (by omega)]
 exact Nat.testBit_lt_two_pow (zvJ hb (zv5 (by decide) hi))
def xM (n:Nat)(N:Nat)(f:Nat->Bool):Prop:=∀b,N.testBit b=(decide (b<2^n)&&f b)
theorem zbe (n:Nat):xM n (2^2^n-1) (fun _=>true):=fun b=>by
 rw[Nat.testBit_two_pow_sub_one,Bool.and_true]
theorem zfr (n:Nat):xM n 0 (fun _=>false):=fun b=>by simp
theorem Q8 {n N M:Nat}{f g:Nat->Bool}(h:xM n N f)(k:xM n M g):xM n (N ^^^ M) (fun b=>f b != g b):=fun b=>by
 rw[Nat.testBit_xor,h b,k b]
 show _=(decide (b<2^n)&&(f b != g b))
 cases decide (b<2^n)<;>cases f b<;>cases g b<;>rfl
theorem Lx {n N M:Nat}{f g:Nat->Bool}(h:xM n N f)(k:xM n M g):xM n (N&&&M) (fun b=>f b&&g b):=fun b=>by
 rw[Nat.testBit_and,h b,k b]
 show _=(decide (b<2^n)&&(f b&&g b))
 cases decide (b<2^n)<;>cases f b<;>cases g b<;>rfl
theorem zbG {n N M:Nat}{f g:Nat->Bool}(h:xM n N f)(k:xM n M g):xM n (N|||M) (fun b=>f b||g b):=fun b=>by
 rw[Nat.testBit_or,h b,k b]
 show _=(decide (b<2^n)&&(f b||g b))
 cases decide (b<2^n)<;>cases f b<;>cases g b<;>rfl
theorem uO {n N:Nat}{f g:Nat->Bool}(h:xM n N f)(e:∀b,b<2^n->f b=g b):xM n N g:=fun b=>by
 rw[h b]
 by_cases hb:b<2^n
 ·rw[e b hb]
 ·rw[decide_eq_false hb];rfl
theorem zkq {n N:Nat}{f:Nat->Bool}(h:xM n N f):N<2^2^n:=Nat.lt_pow_two_of_testBit _ fun i hi=>by
 rw[h i,decide_eq_false (by omega)];rfl
theorem zi5 (p:Nat):xM (p+1) ((2^2^p-1)*2^2^p) (fun b=>b.testBit p):=fun b=>by
 rw[Nat.testBit_mul_two_pow,Nat.testBit_two_pow_sub_one]
 show _=(decide (b<2^(p+1))&&b.testBit p)
 have hp:2^(p+1)=2^p+2^p:=by rw[Nat.pow_succ];omega
 by_cases h1:2^p<=b
 ·by_cases h2:b<2^(p+1)
  ·have e:b.testBit p=true:=by
    obtain⟨c,rfl⟩:∃c,b=c+2^p:=⟨b-2^p,by omega⟩
    rw[ur,Nat.testBit_lt_two_pow (by omega)]
    rfl
   rw[e]
   simp[h1,h2]
   omega
  ·simp[h2]
   intro _
   omega
 ·have e:b.testBit p=false:=Nat.testBit_lt_two_pow (by omega)
  rw[e]
  simp[h1]
theorem zha {p m N:Nat}(hp:p<m)(h:xM m N (fun b=>b.testBit p)):xM (m+1) (N|||N*2^2^m) (fun b=>b.testBit p):=fun b=>by
 rw[Nat.testBit_or,Nat.testBit_mul_two_pow,h b,h (b-2^m)]
 show(_||(_&&(_&&(b-2^m).testBit p)))=(decide (b<2^(m+1))&&b.testBit p)
 have hm:2^(m+1)=2^m+2^m:=by rw[Nat.pow_succ];omega
 by_cases h1:b<2^m
 ·have h2:b<2^(m+1):=by omega
  have h3:¬ 2^m<=b:=by omega
  simp[h1,h2,h3]
 ·have h3:2^m<=b:=by omega
  have e:(b-2^m).testBit p=b.testBit p:=by
   obtain⟨c,rfl⟩:∃c,b=c+2^m:=⟨b-2^m,by omega⟩
   rw[Q7 hp,Nat.add_sub_cancel]
  rw[e]
  by_cases h2:b<2^(m+1)
  ·have h4:b-2^m<2^m:=by omega
   simp[h1,h2,h3,h4]
  ·have h4:¬b-2^m<2^m:=by omega
   simp[h1,h2,h3,h4]
theorem zkr {n p N R:Nat}{f:Nat->Bool}(hp:p<n)(h:xM n N f)(r:xM n R (fun b=>b.testBit p)) :
  xM n ((N&&&R) / 2^2^p|||(N ^^^ (N&&&R))*2^2^p) (fun b=>f (yt b p (!b.testBit p))):=fun b=>by
 have o:=Lx h r
 have z:=Q8 h o
 have pp:=Nat.two_pow_pos p
 rw[Nat.testBit_or,Nat.testBit_mul_two_pow,Nat.testBit_div_two_pow,o,z]
 dsimp only
 by_cases hb:b<2^n
 ·cases hbit:b.testBit p with
  | false =>
   have e:yt b p (!false)=b+2^p:=by
    unfold yt
    rw[hbit,if_neg (by decide),if_pos (by decide)]
   have lt:b+2^p<2^n:=by rw[<-e];exact xq hb hp
   rw[e,ur,hbit]
   by_cases h1:2^p<=b
   ·have e2:(b-2^p).testBit p=true:=by
     obtain⟨c,rfl⟩:∃c,b=c+2^p:=⟨b-2^p,by omega⟩
     rw[ur] at hbit
     rw[Nat.add_sub_cancel]
     simpa using hbit
    rw[e2]
    have h4:b-2^p<2^n:=by omega
    simp[hb,lt,h1,h4]
   ·simp[hb,lt,h1]
  | true =>
   have ge:=zdx hbit
   have e:yt b p (!true)=b-2^p:=by
    unfold yt
    rw[hbit,if_neg (by decide),if_neg (by decide)]
   have e2:(b-2^p).testBit p=false:=by
    obtain⟨c,rfl⟩:∃c,b=c+2^p:=⟨b-2^p,by omega⟩
    rw[ur] at hbit
    rw[Nat.add_sub_cancel]
    simpa using hbit
   rw[e,ur,hbit,e2]
   have h4:b-2^p<2^n:=by omega
   simp[hb,ge,h4]
 ·have h3:¬b+2^p<2^n:=by omega
  have h5:(decide (2^p<=b)&&(decide (b-2^p<2^n)&&(f (b-2^p) != (f (b-2^p)&&(b-2^p).testBit p))))=false:=by
   by_cases h1:2^p<=b
   ·by_cases h4:b-2^p<2^n
    ·
     have e:(b-2^p).testBit p=true:=by
      cases q:(b-2^p).testBit p with
      | true=>rfl
      | false =>
       exfalso
       have l:=xq (v:=true) h4 hp
       unfold yt at l
       rw[q,if_neg (by decide),if_pos rfl] at l
       omega
     rw[e]
     cases f (b-2^p)<;>simp
    ·simp[h4]
   ·simp[h1]
  rw[h5]
  simp[hb,h3]
theorem Nk (a:Nat):a%2=(a.testBit 0).toNat:=by
 rw[Nat.testBit_zero]
 have:=Nat.mod_two_eq_zero_or_one a
 rcases this with h | h<;>rw[h]<;>rfl
theorem zik:∀(n a b:Nat),a<=n->(a ^^^ b)+2*(a&&&b)=a+b
 | 0,a,b,h=>by
  have:a=0:=by omega
  subst this;simp
 | n+1,a,b,h=>by
  by_cases h0:a=0
  ·subst h0;simp
  ·have ih:=zik n (a / 2) (b / 2) (by omega)
   have e1:(a ^^^ b) / 2=a / 2 ^^^ b / 2:=Nat.xor_div_two
   have e2:(a&&&b) / 2=a / 2&&&b / 2:=Nat.and_div_two
   have d1:=Nat.div_add_mod (a ^^^ b) 2
   have d2:=Nat.div_add_mod (a&&&b) 2
   have d3:=Nat.div_add_mod a 2
   have d4:=Nat.div_add_mod b 2
   rw[e1] at d1
   rw[e2] at d2
   cases ha:a.testBit 0<;>cases hb:b.testBit 0
   ·have m1:(a ^^^ b)%2=0:=by rw[Nk,Nat.testBit_xor,ha,hb];rfl
    have m2:(a&&&b)%2=0:=by rw[Nk,Nat.testBit_and,ha,hb];rfl
    have m3:a%2=0:=by rw[Nk,ha];rfl
    have m4:b%2=0:=by rw[Nk,hb];rfl
    omega
   ·have m1:(a ^^^ b)%2=1:=by rw[Nk,Nat.testBit_xor,ha,hb];rfl
    have m2:(a&&&b)%2=0:=by rw[Nk,Nat.testBit_and,ha,hb];rfl
    have m3:a%2=0:=by rw[Nk,ha];rfl
    have m4:b%2=1:=by rw[Nk,hb];rfl
    omega
   ·have m1:(a ^^^ b)%2=1:=by rw[Nk,Nat.testBit_xor,ha,hb];rfl
    have m2:(a&&&b)%2=0:=by rw[Nk,Nat.testBit_and,ha,hb];rfl
    have m3:a%2=1:=by rw[Nk,ha];rfl
    have m4:b%2=0:=by rw[Nk,hb];rfl
    omega
   ·have m1:(a ^^^ b)%2=0:=by rw[Nk,Nat.testBit_xor,ha,hb];rfl
    have m2:(a&&&b)%2=1:=by rw[Nk,Nat.testBit_and,ha,hb];rfl
    have m3:a%2=1:=by rw[Nk,ha];rfl
    have m4:b%2=1:=by rw[Nk,hb];rfl
    omega
theorem zks:∀(n a b:Nat),a<=n->(a|||b)+(a&&&b)=a+b
 | 0,a,b,h=>by
  have:a=0:=by omega
  subst this;simp
 | n+1,a,b,h=>by
  by_cases h0:a=0
  ·subst h0;simp
  ·have ih:=zks n (a / 2) (b / 2) (by omega)
   have e1:(a|||b) / 2=a / 2|||b / 2:=Nat.or_div_two
   have e2:(a&&&b) / 2=a / 2&&&b / 2:=Nat.and_div_two
   have d1:=Nat.div_add_mod (a|||b) 2
   have d2:=Nat.div_add_mod (a&&&b) 2
   have d3:=Nat.div_add_mod a 2
   have d4:=Nat.div_add_mod b 2
   rw[e1] at d1
   rw[e2] at d2
   cases ha:a.testBit 0<;>cases hb:b.testBit 0
   ·have m1:(a|||b)%2=0:=by rw[Nk,Nat.testBit_or,ha,hb];rfl
    have m2:(a&&&b)%2=0:=by rw[Nk,Nat.testBit_and,ha,hb];rfl
    have m3:a%2=0:=by rw[Nk,ha];rfl
    have m4:b%2=0:=by rw[Nk,hb];rfl
    omega
   ·have m1:(a|||b)%2=1:=by rw[Nk,Nat.testBit_or,ha,hb];rfl
    have m2:(a&&&b)%2=0:=by rw[Nk,Nat.testBit_and,ha,hb];rfl
    have m3:a%2=0:=by rw[Nk,ha];rfl
    have m4:b%2=1:=by rw[Nk,hb];rfl
    omega
   ·have m1:(a|||b)%2=1:=by rw[Nk,Nat.testBit_or,ha,hb];rfl
    have m2:(a&&&b)%2=0:=by rw[Nk,Nat.testBit_and,ha,hb];rfl
    have m3:a%2=1:=by rw[Nk,ha];rfl
    have m4:b%2=0:=by rw[Nk,hb];rfl
    omega
   ·have m1:(a|||b)%2=1:=by rw[Nk,Nat.testBit_or,ha,hb];rfl
    have m2:(a&&&b)%2=1:=by rw[Nk,Nat.testBit_and,ha,hb];rfl
    have m3:a%2=1:=by rw[Nk,ha];rfl
    have m4:b%2=1:=by rw[Nk,hb];rfl
    omega
theorem zod (a b:Nat):Builtin.bitAnd (a:Int) (b:Int)=((a&&&b:Nat):Int):=by
 unfold Builtin.bitAnd
 rw[decide_eq_true (Int.natCast_nonneg a),decide_eq_true (Int.natCast_nonneg b)]
 simp
theorem orI (a b:Nat):Builtin.bitOr (a:Int) (b:Int)=((a|||b:Nat):Int):=by
 rw[PyProof.Rows.bitOr_and,zod]
 have:=zks a a b (zvQ _)
 omega
theorem zrX (a b:Nat):Builtin.bitXor (a:Int) (b:Int)=((a ^^^ b:Nat):Int):=by
 rw[PyProof.Rows.bitXor_and,zod]
 have:=zik a a b (zvQ _)
 omega
theorem zpG (n:Nat):(2:Int)^n=((2^n:Nat):Int):=by simp
end WX
namespace L2
open PySem PySem.Spec PyProof.Rows WX
section
variable {X:Cx}
def zpH:R2:=fun x y H Q=>∃a n:Nat,x=.int a/\y=.int n/\a<2^10000/\n<=10000/\Q (.int (a*2^n:Nat)) H
theorem Y5:Vp X (binaryOp .LShift) zpH:=by
 intro pins s σ H x y v u Q I rx ry h
 obtain⟨a,n,rfl,rfl,ha,hn,q⟩:=h
 obtain⟨t,rfl⟩:=rx
 obtain⟨t',rfl⟩:=ry
 have hb:Builtin.Int.intBits (a:Int)<=10000:=intBits_le (by simpa using ha)
 refine lshift_int (Int.natCast_nonneg n) ?_ ?_
 ·have e:(2:Int)^27=134217728:=by decide
  rw[e];omega
 ·rw[zwb]
  have e:(a:Int)*2^n=((a*2^n:Nat):Int):=by rw[zpG,Int.natCast_mul]
  rw[e]
  exact⟨.int (a*2^n:Nat),H,I.tok _,⟨_,rfl⟩,q⟩
def zpI:R2:=fun x y H Q=>∃a n:Nat,x=.int a/\y=.int n/\Q (.int (a / 2^n:Nat)) H
theorem zl2:Vp X (binaryOp .RShift) zpI:=by
 intro pins s σ H x y v u Q I rx ry h
 obtain⟨a,n,rfl,rfl,q⟩:=h
 refine znQ pins s σ H _ _ v u Q I rx ry ⟨_,_,rfl,rfl,Int.natCast_nonneg n,?_⟩
 show Q (.int ((a:Int) / 2^(n:Int).toNat)) H
 rw[zwb,zpG,<-Int.natCast_ediv]
 exact q
def rN2 (g:Nat->Nat->Nat):R2:=fun x y H Q=>∃a b:Nat,x=.int a/\y=.int b/\Q (.int (g a b:Nat)) H
theorem zbf:Vp X (binaryOp .BitAnd) (rN2 (·&&&·)):=by
 intro pins s σ H x y v u Q I rx ry h
 obtain⟨a,b,rfl,rfl,q⟩:=h
 exact znR pins s σ H _ _ v u Q I rx ry ⟨_,_,rfl,rfl,by show Q (.int (Builtin.bitAnd a b)) H;rw[zod];exact q⟩
theorem Jz:Vp X (binaryOp .BitOr) (rN2 (·|||·)):=by
 intro pins s σ H x y v u Q I rx ry h
 obtain⟨a,b,rfl,rfl,q⟩:=h
 exact zpo pins s σ H _ _ v u Q I rx ry ⟨_,_,rfl,rfl,by show Q (.int (Builtin.bitOr a b)) H;rw[orI];exact q⟩
theorem Ly:Vp X (binaryOp .BitXor) (rN2 (· ^^^ ·)):=by
 intro pins s σ H x y v u Q I rx ry h
 obtain⟨a,b,rfl,rfl,q⟩:=h
 exact znS pins s σ H _ _ v u Q I rx ry ⟨_,_,rfl,rfl,by show Q (.int (Builtin.bitXor a b)) H;rw[zrX];exact q⟩
end
end L2
namespace L2
open PySem PySem.Spec PyProof.Rows
def strsOf:List Expr->Option (List Str)
 | []=>some []
 | .Constant (.str x) _ _::r=>(strsOf r).map (x::·)
 | _=>none
theorem zfs {e:Expr}{r:List Expr}{xs:List Str}(h:strsOf (e::r)=some xs):∃x j p ys,e=.Constant (.str x) j p/\strsOf r=some ys/\xs=x::ys:=by
 cases e with
 | Constant c j p =>
  cases c with
  | str x =>
   have h':(strsOf r).map (x::·)=some xs:=h
   cases hr:strsOf r with
   | none=>rw[hr] at h';cases h'
   | some ys =>
    rw[hr] at h'
    exact⟨x,j,p,ys,rfl,rfl,(zv4 h').symm⟩
  | _=>cases h
 | _=>cases h
def zpJ (xs:List Str):TA:=fun _ H Q=>Q (xs.map V.str) H
def zni (xs:List Str):TE:=fun _ H Q=>xs.length<=sizeLine/\∀p,H p=none->Q (.ref p) (upd H p (.lst (xs.map V.str)))
section
variable {X:Cx}
theorem zl3 {es:List Expr}:∀{xs:List Str},strsOf es=some xs->PA X es (zpJ xs):=by
 induction es with
 | nil =>
  intro xs h
  cases h
  exact fun pos pins s σ H Q I q=>zc pos pins s σ H Q I q
 | cons e r ih =>
  intro xs h
  obtain⟨x,j,p,ys,rfl,hr,rfl⟩:=zfs h
  exact fun pos pins s σ H Q I q=>za (xH (x:=x) (j:=j) (pos:=p)) (ih hr) rfl pos pins s σ H Q I q
theorem zbg {es:List Expr}{pos:Pos}{xs:List Str}(h:strsOf es=some xs):PE X (.List es pos) (zni xs):=by
 intro pins s σ H Q I q
 refine yh (zl3 h) pins s σ H Q I ⟨?_,q.2⟩
 rw[zvA];exact q.1
def zeh:Stmt->Option (Str×List Str)
 | .Assign [.Name x _] (.List es _) _=>(strsOf es).map (x,·)
 | _=>none
theorem zei {st:Stmt}{x:Str}{xs:List Str}(h:zeh st=some (x,xs)):∃p es q r,st=.Assign [.Name x p] (.List es q) r/\strsOf es=some xs:=by
 unfold zeh at h
 split at h
 ·rename_i y p es q r
  cases hs:strsOf es with
  | none=>rw[hs] at h;cases h
  | some ys =>
   rw[hs] at h
   cases h
   exact⟨_,_,_,_,rfl,hs⟩
 ·cases h
theorem zl4 {i:Nat}{x:Str}{xs:List Str}{st:Stmt}(h:zeh st=some (x,xs))(hN:X.N.Nodup)(hi:X.N[i]?=some x)(hx:Loc X.env.scope x)(hf:X.fn x=true\/X.env.scope.names.lookup x=some .local):PS X st (znL (zni xs) (Rw i)):=by
 obtain⟨p,es,q,r,rfl,hs⟩:=zei h
 exact Z9 hN hi hx (zbg hs) rfl hf
end
end L2
set_option exponentiation.threshold 20000
namespace WX
open PySem L2
section
variable {K:Frag}
theorem zft {a k:Nat}(h:a<2^k)(hk:k<=10000):a<2^10000:=zvJ h (zv5 (by decide) hk)
theorem zi6 {n:Nat}(hn:n<=8):2^n<=256:=zv5 (n:=2) (by decide) hn
inductive Wo (vs:List V)(H:Hp)(Q:VK)(E9:XK):Prop
 | mk (n:Nat) (_:vs=[.int n]) (_:n<=8) (_:Q (.int ((2^2^n-1:Nat):Int)) H):Wo vs H Q E9
inductive ZQ (vs:List V)(H:Hp)(Q:VK)(E9:XK):Prop
 | mk (p n:Nat) (_:vs=[.int p,.int n]) (_:p<n) (_:n<=8) (_:∀R:Nat,xM n R (fun b=>b.testBit p)->Q (.int R) H):ZQ vs H Q E9
inductive Wq (vs:List V)(H:Hp)(Q:VK)(E9:XK):Prop
 | mk (N p n:Nat) (f:Nat->Bool) (_:vs=[.int N,.int p,.int n]) (_:p<n) (_:n<=8) (_:xM n N f) (_:∀R:Nat,xM n R (fun b=>f (yt b p (!b.testBit p)))->Q (.int R) H):Wq vs H Q E9
abbrev vH (r:List Bool):List V:=r.map fun b=>V.int (b.toNat:Nat)
theorem R6 {H:Hp}{p:Addr}(h:H p=none)(o:HO):Same H (upd H p o):=fun b u q=>by rw[zJ (zF q h)];exact q
inductive Lz (K:Frag)(vs:List V)(H:Hp)(Q:VK)(E9:XK):Prop
 | mk (l:Addr) (ns:List Int) (i:Int) (_:vs=[.ref l,.int i]) (_:zX K H l (ns.map V.int)) (_:0<=i) (_:∀v:Int,Q (.int v) H):Lz K vs H Q E9
inductive Mf (vs:List V)(H:Hp)(Q:VK)(E9:XK):Prop
 | mk (c:Int) (k:Nat) (b:Int) (_:vs=[.int c,.int k,.int b]) (_:k<=40) (_:0<b) (_:b<1073741824) (_:∀r:Int,0<=r->r<b->Q (.int r) H):Mf vs H Q E9
def uU:List Str:=["a", "b", "c", "d", "e", "f", "g", "h"]
structure zau (os:List Str):Prop where
 nd:os.Nodup
 mem:∀x∈os,x∈uU
 pos:0<os.length
theorem zfu {α:Type}[DecidableEq α]:∀{xs ys:List α},xs.Nodup->(∀x∈xs,x∈ys)->xs.length<=ys.length
 | [],_,_,_=>zvW _
 | x::xs,ys,nd,h=>by
  obtain⟨h1,h2⟩:=List.nodup_cons.mp nd
  have hx:=h x zvT
  have ih:=zfu (xs:=xs) (ys:=ys.erase x) h2 fun y hy=>(List.mem_erase_of_ne (fun e:y=x=>h1 (by rw[<-e];exact hy))).mpr (h y (zvL _ hy))
  rw[List.length_erase_of_mem hx] at ih
  have:=List.length_pos_of_mem hx
  rw[zvM]
  omega
theorem zl5 {i:Nat}(h:i<8):∃c,atI (Str.ofString "abcdefgh").cps.toList (i:Int)=some c/\uU[i]?=some ⟨#[c]⟩:=by
 match i,h with
 | 0,_=>exact⟨97,by decide +kernel,by decide +kernel⟩
 | 1,_=>exact⟨98,by decide +kernel,by decide +kernel⟩
 | 2,_=>exact⟨99,by decide +kernel,by decide +kernel⟩
 | 3,_=>exact⟨100,by decide +kernel,by decide +kernel⟩
 | 4,_=>exact⟨101,by decide +kernel,by decide +kernel⟩
 | 5,_=>exact⟨102,by decide +kernel,by decide +kernel⟩
 | 6,_=>exact⟨103,by decide +kernel,by decide +kernel⟩
 | 7,_=>exact⟨104,by decide +kernel,by decide +kernel⟩
theorem zfv:uU.Nodup:=by decide +kernel
theorem zkt {i:Nat}{y:Str}(h:uU[i]?=some y):y∉uU.take i:=fun hm=>by
 obtain⟨j,hj⟩:=List.getElem?_of_mem hm
 have hlt:j<i:=by
  have:=(zvD.mp hj).1
  rw[zvX] at this
  omega
 rw[List.getElem?_take_of_lt hlt] at hj
 have h1:=(zvD.mp hj)
 have h2:=(zvD.mp h)
 obtain⟨l1,e1⟩:=h1
 obtain⟨l2,e2⟩:=h2
 have:=(List.getElem_inj zfv).mp (e1.trans e2.symm)
 omega
theorem zau.le {os:List Str}(h:zau os):os.length<=8:=zfu h.nd h.mem
inductive zej (vs:List V)(H:Hp)(Q:VK)(E9:XK):Prop
 | mk (c:Int) (n:Nat) (_:vs=[.int c,.int n]) (_:0<n) (_:n<=8) (_:∀(l:Addr) (H':Hp) (os:List Str),Same H H'->H' l=some (.lst (os.map V.str))->zau os->os.length<=n->Q (.ref l) H'):zej vs H Q E9
def P0 (H:Hp):Sn->Addr->Prop
 | .c0 y,p=>H p=some (.tup [.str (Sn.word (.c0 y))])
 | .mk x,p=>H p=some (.tup [.str "mark", .str x])
 | .nt s,p=>∃q,H p=some (.tup [.str "not", .ref q])/\P0 H s q
 | .b2 o s t,p=>∃q r,H p=some (.tup [.str (w2 o),.ref q,.ref r])/\P0 H s q/\P0 H t r
 | .q1 o x s,p=>∃q,H p=some (.tup [.str (if o then "some" else "each"),.str x,.ref q])/\P0 H s q
def xO (H H':Hp):Prop:=∀b xs,H b=some (.tup xs)->H' b=some (.tup xs)
theorem xO.trans {H H1 H2:Hp}(a:xO H H1)(b:xO H1 H2):xO H H2:=fun c o h=>b c o (a c o h)
theorem xO.of {H H':Hp}(g:Same H H'):xO H H':=fun b xs h=>g b _ h
theorem xO.new {H:Hp}{p:Addr}(h:H p=none)(o:HO):xO H (upd H p o):=fun b u q=>by rw[zJ (zF q h)];exact q
theorem xO.lst {H:Hp}{p:Addr}{xs:List V}(h:H p=some (.lst xs))(o:HO):xO H (upd H p o):=fun b u q=>by rw[zJ (Vv q h (fun z=>nomatch z))];exact q
theorem P0.mono {H H':Hp}(g:xO H H'):∀{s:Sn} {p:Addr},P0 H s p->P0 H' s p
 | .c0 y,p,h=>g _ _ h
 | .mk x,p,h=>g _ _ h
 | .nt s,p,⟨q,h,k⟩=>⟨q,g _ _ h,k.mono g⟩
 | .b2 o s t,p,⟨q,r,h,k,l⟩=>⟨q,r,g _ _ h,k.mono g,l.mono g⟩
 | .q1 o x s,p,⟨q,h,k⟩=>⟨q,g _ _ h,k.mono g⟩
theorem zl6 (o:Bool)(x:Str)(s:Sn):Sn.word (.q1 o x s)=if o then Str.ofString "some" else Str.ofString "each" := by cases o<;>rfl
theorem P0.shape {H:Hp}:∀{s:Sn} {p:Addr},P0 H s p->∃qs:List Addr,H p=some (.tup (.str s.word::(s.letters.map V.str++qs.map V.ref)))/\Paired (P0 H) s.parts qs
 | .c0 y,p,h=>⟨[],h,.nil⟩
 | .mk x,p,h=>⟨[],h,.nil⟩
 | .nt s,p,⟨q,h,k⟩=>⟨[q],h,.cons k .nil⟩
 | .b2 o s t,p,⟨q,r,h,k,l⟩=>⟨[q,r],h,.cons k (.cons l .nil)⟩
 | .q1 o x s,p,⟨q,h,k⟩=>⟨[q],by rw[zl6];exact h,.cons k .nil⟩
theorem Pa {α:Type}{xs:List α}{i:Int}(h0:-(xs.length:Int)<=i)(h1:i<xs.length):∃(j:Nat) (v:α),atI xs i=some v/\xs[j]?=some v:=by
 by_cases h:0<=i
 ·have hj:i.toNat<xs.length:=by omega
  have q:=vU (xs:=xs) (j:=i.toNat) (zvB hj)
  have e:((i.toNat:Nat):Int)=i:=by omega
  rw[e] at q
  exact⟨_,_,q,zvB hj⟩
 ·have hj:(i+xs.length).toNat<xs.length:=by omega
  refine⟨_,_,?_,zvB hj⟩
  unfold atI ixN
  rw[if_neg h,if_pos h0]
  show xs[(i+xs.length).toNat]?=_
  exact zvB hj
def Mg:List Str:=["mark", "mark", "not", "and", "or", "either", "if", "and", "or", "some", "each", "yes", "no", "mark"]
structure Made (H0 H:Hp)(os:List Str)(m kd:Addr)(ps:List Addr)(d:Nat):Prop where
 old:Same H0 H
 mad:H m=some (.lst (ps.map V.ref))
 kin:H kd=some (.lst (Mg.map V.str))
 ne:ps≠[]
 all:∀p∈ps,∃s,P0 H s p/\s.Jp os/\s.depth<=d
theorem Made.push {H0 H:Hp}{os:List Str}{m kd p:Addr}{ps:List Addr}{d:Nat}{xs:List V}(M:Made H0 H os m kd ps d)(fm:H0 m=none)(hp:H p=none){s:Sn}(hs:P0 (upd H p (.tup xs)) s p)(ho:s.Jp os)(hd:s.depth<=d+1)(hk:m≠kd) :
  Made H0 (upd (upd H p (.tup xs)) m (.lst ((ps++[p]).map V.ref))) os m kd (ps++[p]) (d+1):=by
 have hm:m≠p:=zF M.mad hp
 have hkp:kd≠p:=zF M.kin hp
 have mad':(upd H p (.tup xs)) m=some (.lst (ps.map V.ref)):=by rw[zJ hm];exact M.mad
 have t1:xO H (upd H p (.tup xs)):=xO.new hp _
 have t2:xO (upd H p (.tup xs)) (upd (upd H p (.tup xs)) m (.lst ((ps++[p]).map V.ref))):=xO.lst mad' _
 refine⟨fun b o h=>?_,zu,?_,by simp,fun q hq=>?_⟩
 ·have h1:=M.old b o h
  rw[zJ (zF h fm),zJ (zF h1 hp)]
  exact h1
 ·rw[zJ (Ne.symm hk),zJ hkp];exact M.kin
 ·rcases List.mem_append.mp hq with z | z
  ·obtain⟨s',q1,q2,q3⟩:=M.all q z
   exact⟨s',(q1.mono t1).mono t2,q2,by omega⟩
  ·have z':q=p:=by simpa using z
   subst z'
   exact⟨s,hs.mono t2,ho,hd⟩
inductive Mh (K:Frag)(vs:List V)(H:Hp)(Q:VK)(E9:XK):Prop
 | mk (sc ol:Addr) (ns:List Int) (t m:Nat) (os:List Str) (_:vs=[.ref sc,.int t,.int m,.ref ol]) (_:zX K H sc (ns.map V.int)) (_:zX K H ol (os.map V.str)) (_:0<os.length) (_:os.length<=8) (_:0<m) (_:m<=40) (_:t<=60) (_:∀(p:Addr) (H':Hp) (s:Sn),Same H H'->P0 H' s p->s.Jp os->s.depth<=m->Q (.ref p) H'):Mh K vs H Q E9
theorem zav {os:List Str}(h0:0<os.length)(r:Int):∃x,x∈os/\atI (os.map V.str) (r%((os.map V.str).length:Nat))=some (.str x):=by
 have e:(os.map V.str).length=os.length:=zvA _
 have m0:0<=r%((os.map V.str).length:Nat):=zwf _ (by omega)
 have m1:r%((os.map V.str).length:Nat)<((os.map V.str).length:Nat):=zwc _ (by omega)
 obtain⟨j,v,q1,q2⟩:=Pa (xs:=os.map V.str) (i:=r%((os.map V.str).length:Nat)) (by omega) m1
 rw[zvC] at q2
 cases hx:os[j]? with
 | none=>rw[hx] at q2;cases q2
 | some x =>
  rw[hx] at q2
  cases q2
  exact⟨x,zvF hx,q1⟩
theorem JB {ps:List Addr}{i:Int}(h0:-(ps.length:Int)<=i)(h1:i<ps.length):∃p,p∈ps/\atI (ps.map V.ref) i=some (.ref p):=by
 have e:(ps.map V.ref).length=ps.length:=zvA _
 obtain⟨j,v,q1,q2⟩:=Pa (xs:=ps.map V.ref) (i:=i) (by omega) (by omega)
 rw[zvC] at q2
 cases hx:ps[j]? with
 | none=>rw[hx] at q2;cases q2
 | some x =>
  rw[hx] at q2
  cases q2
  exact⟨x,zvF hx,q1⟩
end
end WX
namespace L2
open PySem
section
variable {α β:Type}{R S:α->β->Prop}
theorem WY:∀{xs ys:List α} {us ws:List β},Paired R xs us->Paired R ys ws->Paired R (xs++ys) (us++ws)
 | _,_,_,_,.nil,s=>s
 | _,_,_,_,.cons r t,s=>.cons r (WY t s)
theorem vA (f:∀a b,R a b->S a b):∀{xs:List α} {us:List β},Paired R xs us->Paired S xs us
 | _,_,.nil=>.nil
 | _,_,.cons r t=>.cons (f _ _ r) (vA f t)
theorem yJ:∀{xs:List α} {us:List β},Paired R xs us->xs.length=us.length
 | _,_,.nil=>rfl
 | _,_,.cons _ t=>by rw[zvM,zvM,yJ t]
theorem Yc:∀{xs:List α} {us:List β} {i:Nat} {x:α},Paired R xs us->xs[i]?=some x->∃u,us[i]?=some u/\R x u
 | _,_,_,_,.nil,e=>by simp at e
 | _,_,0,_,.cons r _,e=>by simp at e;subst e;exact⟨_,rfl,r⟩
 | _,_,i+1,x,.cons _ t,e=>by
  obtain⟨u,h1,h2⟩:=Yc (i:=i) (x:=x) t (by simpa using e)
  exact⟨u,by simpa using h1,h2⟩
theorem Nm:∀{xs:List α} {us:List β} {i:Nat} {u:β},Paired R xs us->us[i]?=some u->∃x,xs[i]?=some x/\R x u
 | _,_,_,_,.nil,e=>by simp at e
 | _,_,0,_,.cons r _,e=>by simp at e;subst e;exact⟨_,rfl,r⟩
 | _,_,i+1,x,.cons _ t,e=>by
  obtain⟨u,h1,h2⟩:=Nm (i:=i) (u:=x) t (by simpa using e)
  exact⟨u,by simpa using h1,h2⟩
theorem vZ {α:Type}{xs:List α}{i:Nat}{x:α}(h:xs[i]?=some x):xs.take (i+1)=xs.take i++[x]:=by
 rw[List.take_succ,h]
 rfl
theorem Same.zpK {K:Frag}{H H':Hp}{a:Addr}{xs:List V}(e:Same H H')(h:vO K H a xs):vO K H' a xs:=by
 rcases h with (h | ⟨o,h⟩) | h
 ·exact .inl (.inl (e _ _ h))
 ·exact .inl (.inr ⟨o,e _ _ h⟩)
 ·exact .inr h
theorem Same.new {H:Hp}{p:Addr}(h:H p=none)(o:HO):Same H (upd H p o):=fun b u q=>by rw[zJ (zF q h)];exact q
theorem Same.over {H H':Hp}{p:Addr}(g:Same H H')(h:H p=none)(o:HO):Same H (upd H' p o):=fun b u q=>by rw[zJ (zF q h)];exact g b u q
theorem at0 {α:Type}{x:α}{xs:List α}:atI (x::xs) 0=some x:=vU (j:=0) rfl
theorem at1 {α:Type}{x y:α}{xs:List α}:atI (x::y::xs) 1=some y:=vU (j:=1) rfl
end
section
variable {K:Frag}{a:Addr}{xs:List V}{σ:St}{js:List Nat}{te:TE}{H:Hp}{Qf:Addr->Hp->List V->Prop}
theorem zek (R:V->V->Prop)(hq:zX K H a xs)(hz:xs.length<=sizeLine)
  (hs:∀(i:Nat) x H',xs[i]?=some x->Same H H'->te (Wn σ js (some x)) H' fun v H3=>R x v/\Same H H3)
  (me:∀ σ H Q Q',(∀v H1,Q v H1->Q' v H1)->te σ H Q->te σ H Q')
  (hd:∀ys H' p,Paired R xs ys->Same H H'->H' p=none->Qf p H' ys) :
  ∃W:Nat->Nat->List V->Hp->Prop,(∃m,W 0 m [] H)/\∀i m ys H,W i m ys H ->
   ((Itl K a).stop i H/\∀p,H p=none->Qf p H ys) \/
   ((Itl K a).go i H/\ys.length<sizeLine/\∀x H',(Itl K a).yld i H x H'->Jw (Wn σ js (some x)) H' fun b H2 =>
    if b=true then te (Wn σ js (some x)) H2 fun v H3=>∃m',m'<m/\W (i+1) m' (ys++[v]) H3 else ∃m',m'<m/\W (i+1) m' ys H2):=by
 refine Ls (fun i ys H'=>Same H H'/\Paired R (xs.take i) ys) ⟨Same.refl _,.nil⟩ hz ?_ ?_ (fun _ _ _ _ h q=>h _ _ q) me ?_
 ·rintro i ys H' hi ⟨g,r⟩
  have:=yJ r
  rw[zvX] at this
  exact⟨g.seq hq,by omega⟩
 ·rintro i x ys H' hx ⟨g,r⟩
  show te (Wn σ js (some x)) H' fun v H3=>Same H H3/\Paired R (xs.take (i+1)) (ys++[v])
  refine me _ _ _ _ (fun v H3 h3=>⟨h3.2,?_⟩) (hs i x H' hx g)
  rw[vZ hx]
  exact WY r (.cons h3.1 .nil)
 ·rintro ys H' p ⟨g,r⟩ hp
  rw[zv2] at r
  exact hd ys H' p r g hp
theorem zil (R:V->V->Prop)(hq:vO K H a xs)(hz:xs.length<=sizeLine)
  (hs:∀(i:Nat) x H',xs[i]?=some x->Same H H'->te (Wn σ js (some x)) H' fun v H3=>R x v/\Same H H3)
  (me:∀ σ H Q Q',(∀v H1,Q v H1->Q' v H1)->te σ H Q->te σ H Q')
  (hd:∀ys H' p,Paired R xs ys->Same H H'->H' p=none->Qf p H' ys) :
  ∃W:Nat->Nat->List V->Hp->Prop,(∃m,W 0 m [] H)/\∀i m ys H,W i m ys H ->
   ((Itt K a).stop i H/\∀p,H p=none->Qf p H ys) \/
   ((Itt K a).go i H/\ys.length<sizeLine/\∀x H',(Itt K a).yld i H x H'->Jw (Wn σ js (some x)) H' fun b H2 =>
    if b=true then te (Wn σ js (some x)) H2 fun v H3=>∃m',m'<m/\W (i+1) m' (ys++[v]) H3 else ∃m',m'<m/\W (i+1) m' ys H2):=by
 refine zkf (fun i ys H'=>Same H H'/\Paired R (xs.take i) ys) ⟨Same.refl _,.nil⟩ hz ?_ ?_ (fun _ _ _ _ h q=>h _ _ q) me ?_
 ·rintro i ys H' hi ⟨g,r⟩
  have:=yJ r
  rw[zvX] at this
  exact⟨g.zpK hq,by omega⟩
 ·rintro i x ys H' hx ⟨g,r⟩
  show te (Wn σ js (some x)) H' fun v H3=>Same H H3/\Paired R (xs.take (i+1)) (ys++[v])
  refine me _ _ _ _ (fun v H3 h3=>⟨h3.2,?_⟩) (hs i x H' hx g)
  rw[vZ hx]
  exact WY r (.cons h3.1 .nil)
 ·rintro ys H' p ⟨g,r⟩ hp
  rw[zv2] at r
  exact hd ys H' p r g hp
theorem JC {f:V->V}:∀{xs ys:List V},Paired (fun x v=>v=f x) xs ys->ys=xs.map f
 | _,_,.nil=>rfl
 | _,_,.cons r t=>by rw[zvY,r,JC t]
end
section
variable {X:Cx}{K:Frag}{a:Expr}{ta:TE}
theorem zoe (h:X.K=K):Vp X (compareOp .In) (rIn K false):=by subst h;exact Q6
theorem zel (h:X.K=K):WR X (.builtin "isinstance") (fun xs H Q=>∃x T t b,xs=[x,.ty T]/\Li K H x t/\PySem.W.kitOne K t (.type T)=some b/\Q (.bl b) H):=by subst h;exact R4
theorem zfw (h:X.K=K):IxR X (zpv K):=by subst h;exact yC
theorem X3 (h:X.K=K):IxR X (zn1 K):=by subst h;exact wD
theorem zdy (h:X.K=K)(ha:PE X a ta)(he:∀whole,isTrue a X.env whole=(do let v <-whole;standAt a.pos;holding [v] (truthy v))):PT X a (fun σ H Q=>ta σ H fun x H'=>∃k,znU K x H' k/\Q k H'):=by subst h;exact yM ha he
def R7 (sp:Sp):Prop:=∀vs H Q Q' E,(∀v H1,Q v H1->Q' v H1)->sp vs H Q E->sp vs H Q' E
theorem zfx {sp:Sp}(m:R7 sp):∀ σ H Q Q',(∀v H1,Q v H1->Q' v H1)->Lj sp [] E0 (Rx (Lf 0) Vq) σ H Q->Lj sp [] E0 (Rx (Lf 0) Vq) σ H Q' :=
 fun σ H Q Q' h ⟨v,e,q⟩=>⟨v,e,m _ _ _ _ _ h q⟩
theorem zfy (x:Str)(ts:List Str):inV (.str x) (ts.map V.str)=decide (x∈ts):=by
 induction ts with
 | nil=>rfl
 | cons t r ih =>
  have e:inV (.str x) ((t::r).map V.str)=((t==x)||inV (.str x) (r.map V.str)):=rfl
  rw[e,ih]
  by_cases h:t=x
  ·subst h;simp
  ·have h':¬x=t:=fun z=>h z.symm
   simp[h,h']
theorem Uv (ts:List Str):(ts.map V.str).all vG=true:=by
 rw[List.all_map,zv3]
 exact fun _ _=>rfl
theorem zku {w:V}{rest:List V}{m n:Nat}(h:rest.length=m+n):Ln (w::rest) (some 1) (some (1+(m:Int)))=rest.take m:=by
 have e1:HT.Yb (w::rest).length 0 (some 1)=min 1 (w::rest).length:=HT.zbb _ _ 1
 have e2:HT.Yb (w::rest).length (w::rest).length (some (1+(m:Int)))=min (1+m) (w::rest).length:=by
  have z:(1:Int)+(m:Int)=((1+m:Nat):Int):=by omega
  rw[z];exact HT.zbb _ _ _
 have l:(w::rest).length=m+n+1:=by rw[zvM,h]
 unfold Ln
 rw[e1,e2,l,Nat.min_eq_left (by omega),Nat.min_eq_left (by omega),List.drop_one,List.tail_cons]
 congr 1
 omega
theorem zkv {w:V}{rest:List V}{m n:Nat}(h:rest.length=m+n):Ln (w::rest) (some (1+(m:Int))) none=rest.drop m:=by
 have e2:HT.Yb (w::rest).length 0 (some (1+(m:Int)))=min (1+m) (w::rest).length:=by
  have z:(1:Int)+(m:Int)=((1+m:Nat):Int):=by omega
  rw[z];exact HT.zbb _ _ _
 have l:(w::rest).length=m+n+1:=by rw[zvM,h]
 unfold Ln
 rw[e2,HT.zj6,l,Nat.min_eq_left (by omega),Nat.add_comm 1 m,List.drop_succ_cons,List.take_of_length_le]
 rw[List.length_drop,h]
 omega
theorem zbH {w:V}{rest:List V}{i:Int}{o:Option Int}(h:1<=i):¬(HT.Yb (w::rest).length 0 (some i)=0/\HT.Yb (w::rest).length (w::rest).length o=(w::rest).length):=by
 rintro⟨h1,_⟩
 have e:HT.Yb (w::rest).length 0 (some i)=min i.toNat (w::rest).length:=by
  have z:=HT.zbb (w::rest).length 0 i.toNat
  have z2:((i.toNat:Nat):Int)=i:=by omega
  rw[z2] at z
  exact z
 rw[e,zvM] at h1
 omega
end
end L2
namespace WX
open PySem L2
section
variable {K:Frag}
def Sn.all:Sn->List Str
 | .c0 _=>[]
 | .mk x=>[x]
 | .nt s=>s.all
 | .b2 _ s t=>s.all++t.all
 | .q1 _ x s=>x::s.all
theorem Sn.zem:∀(s:Sn) (x:Str),x∈s.all↔x∈s.letters\/∃t∈s.parts,x∈t.all
 | .c0 _,x=>by simp[Sn.all,Sn.letters,Sn.parts]
 | .mk y,x=>by simp[Sn.all,Sn.letters,Sn.parts]
 | .nt s,x=>by simp[Sn.all,Sn.letters,Sn.parts]
 | .b2 _ s t,x=>by simp[Sn.all,Sn.letters,Sn.parts]
 | .q1 _ y s,x=>by simp[Sn.all,Sn.letters,Sn.parts]
theorem Sn.T3 {os:List Str}:∀(s:Sn),s.Jp os↔∀x∈s.all,x∈os
 | .c0 _=>by simp[Sn.all,Sn.Jp]
 | .mk y=>by simp[Sn.all,Sn.Jp]
 | .nt s=>by simp only[Sn.all,Sn.Jp];exact Sn.T3 s
 | .b2 _ s t=>by
  simp only[Sn.all,Sn.Jp,List.mem_append]
  rw[Sn.T3 s,Sn.T3 t]
  exact⟨fun h x hx=>hx.elim (h.1 x) (h.2 x),fun h=>⟨fun x hx=>h x (.inl hx),fun x hx=>h x (.inr hx)⟩⟩
 | .q1 _ y s=>by
  simp only[Sn.all,Sn.Jp,List.mem_cons]
  rw[Sn.T3 s]
  exact⟨fun h x hx=>hx.elim (fun e=>by rw[e];exact h.1) (h.2 x),fun h=>⟨h y (.inl rfl),fun x hx=>h x (.inr hx)⟩⟩
theorem Sn.LC:∀s:Sn,s.parts.length<=2
 | .c0 _=>by simp[Sn.parts]
 | .mk _=>by simp[Sn.parts]
 | .nt _=>by simp[Sn.parts]
 | .b2 _ _ _=>by simp[Sn.parts]
 | .q1 _ _ _=>by simp[Sn.parts]
theorem Sn.zbI:∀s:Sn,s.letters.length<=1
 | .c0 _=>by simp[Sn.letters]
 | .mk _=>by simp[Sn.letters]
 | .nt _=>by simp[Sn.letters]
 | .b2 _ _ _=>by simp[Sn.letters]
 | .q1 _ _ _=>by simp[Sn.letters]
def cnt (ss:List Sn):Nat:=(ss.map Sn.count).sum
theorem cnt_cons (s:Sn)(ss:List Sn):cnt (s::ss)=s.count+cnt ss:=rfl
theorem zl7 (ss ts:List Sn):cnt (ss++ts)=cnt ss+cnt ts:=by
 unfold cnt;rw[zvO,List.sum_append]
theorem Pb:∀ss:List Sn,cnt ss=ss.length+cnt (ss.flatMap Sn.parts)
 | []=>rfl
 | s::ss=>by
  rw[cnt_cons,List.flatMap_cons,zl7,Pb ss,Sn.zat s,zvM]
  show 1+cnt s.parts+_=_
  omega
theorem zim (ss:List Sn):ss.length<=cnt ss:=by rw[Pb];omega
theorem JD {ss:List Sn}{t:Sn}:t∈ss.flatMap Sn.parts↔∃s∈ss,t∈s.parts:=List.mem_flatMap
inductive Uw (vs:List V)(H:Hp)(Q:VK)(E9:XK):Prop
 | mk (x:Str) (_:vs=[.str x]) (_:Q (.bl (decide (x∈uU))) H):Uw vs H Q E9
theorem zaw:R7 Uw:=fun vs H Q Q' E h ⟨x,e,q⟩=>⟨x,e,h _ _ q⟩
def zen (os:List Str):Bool:=decide (0<os.length)&&(os.all (fun x=>decide (x∈uU))&&decide os.Nodup)
theorem zl8 {os:List Str}(h:zau os):zen os=true:=by
 unfold zen
 rw[decide_eq_true h.pos,decide_eq_true h.nd,zv3.mpr fun x hx=>decide_eq_true (h.mem x hx)]
 rfl
inductive JF (K:Frag)(vs:List V)(H:Hp)(Q:VK)(E9:XK):Prop
 | mk (l:Addr) (os:List Str) (_:vs=[.ref l]) (_:zX K H l (os.map V.str)) (_:os.length<=100) (_:∀H',Same H H'->Q (.bl (zen os)) H'):JF K vs H Q E9
def RL (n:Nat)(ns:List Int):Bool:=decide (ns.length=n)&&ns.all (fun i=>i==0||i==1)
inductive LK (K:Frag)(vs:List V)(H:Hp)(Q:VK)(E9:XK):Prop
 | mk (l r:Addr) (xs:List V) (ns:List Int) (_:vs=[.ref l,.ref r]) (_:zX K H l xs) (_:zX K H r (ns.map V.int)) (_:ns.length<=1000) (_:∀H',Same H H'->Q (.bl (RL xs.length ns)) H'):LK K vs H Q E9
def wI:List (Str×Int×Int):=[("yes", 0,0),("no", 0,0),("mark", 1,0),("not", 0,1),("and", 0,2),("or", 0,2),("either", 0,2),("if", 0,2),("some", 1,1),("each", 1,1)]
theorem Yd (s:Sn):(s.word,((s.letters.length:Nat):Int),((s.parts.length:Nat):Int))∈wI:=by
 cases s with
 | c0 y =>
  cases y
  ·show((Str.ofString "no", (0:Int),(0:Int)):Str×Int×Int)∈wI
   decide +kernel
  ·show((Str.ofString "yes", (0:Int),(0:Int)):Str×Int×Int)∈wI
   decide +kernel
 | mk x =>
  show((Str.ofString "mark", (1:Int),(0:Int)):Str×Int×Int)∈wI
  decide +kernel
 | nt s =>
  show((Str.ofString "not", (0:Int),(1:Int)):Str×Int×Int)∈wI
  decide +kernel
 | b2 o s t =>
  show((w2 o,(0:Int),(2:Int)):Str×Int×Int)∈wI
  revert o
  decide +kernel
 | q1 o x s =>
  cases o
  ·show((Str.ofString "each", (1:Int),(1:Int)):Str×Int×Int)∈wI
   decide +kernel
  ·show((Str.ofString "some", (1:Int),(1:Int)):Str×Int×Int)∈wI
   decide +kernel
inductive Xr (vs:List V)(H:Hp)(Q:VK)(E9:XK):Prop
 | mk (p:Addr) (x:Str) (m n:Nat) (rest:List V) (_:vs=[.ref p]) (_:H p=some (.tup (.str x::rest))) (_:(x,(m:Int),(n:Int))∈wI) (_:rest.length=m+n) (_:∀q,H q=none->Q (.ref q) (upd H q (.tup (rest.take m)))):Xr vs H Q E9
inductive YD (vs:List V)(H:Hp)(Q:VK)(E9:XK):Prop
 | mk (p:Addr) (x:Str) (m n:Nat) (rest:List V) (_:vs=[.ref p]) (_:H p=some (.tup (.str x::rest))) (_:(x,(m:Int),(n:Int))∈wI) (_:rest.length=m+n) (_:∀q,H q=none->Q (.ref q) (upd H q (.tup (rest.drop m)))):YD vs H Q E9
theorem LQ {H:Hp}{s:Sn}{p:Addr}(h:P0 H s p):∃qs:List Addr,H p=some (.tup (.str s.word::(s.letters.map V.str++qs.map V.ref)))/\Paired (P0 H) s.parts qs /\
  (s.letters.map V.str++qs.map V.ref).length=s.letters.length+s.parts.length/\(s.letters.map V.str++qs.map V.ref).take s.letters.length=s.letters.map V.str/\(s.letters.map V.str++qs.map V.ref).drop s.letters.length=qs.map V.ref:=by
 obtain⟨qs,h1,h2⟩:=h.shape
 have l:=yJ h2
 refine⟨qs,h1,h2,by simp[l],?_,?_⟩
 ·rw[List.take_append_of_le_length (by simp),List.take_of_length_le (by simp)]
 ·rw[List.drop_append_of_le_length (by simp),List.drop_of_length_le (by simp)]
  rfl
inductive X4 (K:Frag)(vs:List V)(H:Hp)(Q:VK)(E9:XK):Prop
 | mk (l:Addr) (ss:List Sn) (ps:List Addr) (_:vs=[.ref l]) (_:zX K H l (ps.map V.ref)) (_:Paired (P0 H) ss ps) (_:ss.length<=400) (_:∀(l':Addr) (H':Hp) (ps':List Addr),Same H H'->H l'=none->H' l'=some (.lst (ps'.map V.ref))->Paired (P0 H') (ss.flatMap Sn.parts) ps'->Q (.ref l') H'):X4 K vs H Q E9
inductive LR (vs:List V)(H:Hp)(Q:VK)(E9:XK):Prop
 | mk (p:Addr) (s:Sn) (_:vs=[.ref p]) (_:P0 H s p) (_:(∀x∈s.letters,x∈uU)) (_:∀H',Same H H'->Q (.bl true) H'):LR vs H Q E9
theorem zfz:R7 LR:=fun vs H Q Q' E h ⟨p,s,e,h1,h2,q⟩=>⟨p,s,e,h1,h2,fun H' g=>h _ _ (q H' g)⟩
abbrev VC (sn:Sn)(zs:List Addr):List V:=V.str sn.word::(sn.letters.map V.str++zs.map V.ref)
inductive zeo (vs:List V)(H:Hp)(Q:VK)(E9:XK):Prop
 | mk (p:Addr) (s:Sn) (_:vs=[.ref p]) (_:P0 H s p) (_:s.Jp uU) (_:s.count<=200) (_:s.depth<=24) (_:∀H',Same H H'->Q (.bl true) H'):zeo vs H Q E9
inductive R8 (K:Frag)(vs:List V)(H:Hp)(Q:VK)(E9:XK):Prop
 | mk (l:Addr) (os:List Str) (_:vs=[.ref l]) (_:zX K H l (os.map V.str)) (_:zau os) (_:∀H',Same H H'->Q .non H'):R8 K vs H Q E9
inductive JG (vs:List V)(H:Hp)(Q:VK)(E9:XK):Prop
 | mk (p:Addr) (s:Sn) (_:vs=[.ref p]) (_:P0 H s p) (_:s.Jp uU) (_:s.count<=200) (_:s.depth<=24) (_:∀H',Same H H'->Q .non H'):JG vs H Q E9
inductive JH (K:Frag)(vs:List V)(H:Hp)(Q:VK)(E9:XK):Prop
 | mk (l r:Addr) (xs:List V) (ns:List Int) (_:vs=[.ref l,.ref r]) (_:zX K H l xs) (_:zX K H r (ns.map V.int)) (_:ns.length<=1000) (_:RL xs.length ns=true) (_:∀H',Same H H'->Q .non H'):JH K vs H Q E9
inductive Mi (vs:List V)(H:Hp)(Q:VK)(E9:XK):Prop
 | mk (p:Addr) (s:Sn) (_:vs=[.ref p]) (_:P0 H s p) (_:s.count<=400) (_:∀(l:Addr) (H':Hp) (ts:List Sn) (ps:List Addr),Same H H'->H l=none->H' l=some (.lst (ps.map V.ref))->Paired (P0 H') ts ps->ts.length=s.count->(∀x,(∃t∈ts,x∈t.letters)↔x∈s.all)->Q (.ref l) H'):Mi vs H Q E9
inductive R9 (vs:List V)(H:Hp)(Q:VK)(E9:XK):Prop
 | mk (p:Addr) (s:Sn) (_:vs=[.ref p]) (_:P0 H s p) (_:s.count<=400) (_:∀(l:Addr) (H':Hp) (xs:List Str),Same H H'->H l=none->H' l=some (.lst (xs.map V.str))->(∀x,x∈xs↔x∈s.all)->xs.length<=400->Q (.ref l) H'):R9 vs H Q E9
inductive T4 (K:Frag)(vs:List V)(H:Hp)(Q:VK)(E9:XK):Prop
 | mk (l:Addr) (x:Str) (os:List Str) (_:vs=[.ref l,.str x]) (_:zX K H l (os.map V.str)) (_:x∈os) (_:Q .non H):T4 K vs H Q E9
inductive Qa (K:Frag)(vs:List V)(H:Hp)(Q:VK)(E9:XK):Prop
 | mk (l p:Addr) (os:List Str) (s:Sn) (_:vs=[.ref l,.ref p]) (_:zX K H l (os.map V.str)) (_:P0 H s p) (_:s.count<=400) (_:s.Jp os) (_:∀H',Same H H'->Q .non H'):Qa K vs H Q E9
end
end WX
namespace L2
open PySem
section
variable {K:Frag}{a:Addr}{xs:List V}{σ:St}{js:List Nat}{te:TE}{H:Hp}{Qf:Addr->Hp->List V->Prop}
theorem zep (R:Nat->V->Prop)(hq:vO K H a xs)(hz:xs.length<=sizeLine)
  (hs:∀(i:Nat) x H',xs[i]?=some x->Same H H'->te (Wn σ js (some x)) H' fun v H3=>R i v/\Same H H3)
  (me:∀ σ H Q Q',(∀v H1,Q v H1->Q' v H1)->te σ H Q->te σ H Q')
  (hd:∀ys H' p,ys.length=xs.length->(∀(j:Nat) v,ys[j]?=some v->R j v)->Same H H'->H' p=none->Qf p H' ys) :
  ∃W:Nat->Nat->List V->Hp->Prop,(∃m,W 0 m [] H)/\∀i m ys H,W i m ys H ->
   ((Itt K a).stop i H/\∀p,H p=none->Qf p H ys) \/
   ((Itt K a).go i H/\ys.length<sizeLine/\∀x H',(Itt K a).yld i H x H'->Jw (Wn σ js (some x)) H' fun b H2 =>
    if b=true then te (Wn σ js (some x)) H2 fun v H3=>∃m',m'<m/\W (i+1) m' (ys++[v]) H3 else ∃m',m'<m/\W (i+1) m' ys H2):=by
 refine zkf (fun i ys H'=>Same H H'/\ys.length=i/\∀(j:Nat) v,ys[j]?=some v->R j v) ⟨Same.refl _,rfl,fun j v h=>by simp at h⟩ hz ?_ ?_ (fun _ _ _ _ h q=>h _ _ q) me ?_
 ·rintro i ys H' hi ⟨g,e,r⟩
  exact⟨g.zpK hq,by omega⟩
 ·rintro i x ys H' hx ⟨g,e,r⟩
  show te (Wn σ js (some x)) H' fun v H3=>Same H H3/\(ys++[v]).length=i+1/\∀(j:Nat) u,(ys++[v])[j]?=some u->R j u
  refine me _ _ _ _ (fun v H3 h3=>⟨h3.2,by rw[zvI,e];rfl,fun j u hj=>?_⟩) (hs i x H' hx g)
  by_cases hlt:j<ys.length
  ·rw[zv6 hlt] at hj
   exact r j u hj
  ·rw[List.getElem?_append_right (by omega)] at hj
   have hj0:j-ys.length=0:=by
    have:=(zvD.mp hj).1
    rw[zv7] at this
    omega
   rw[hj0] at hj
   have ev:v=u:=zv4 hj
   have ej:j=i:=by omega
   rw[<-ev,ej]
   exact h3.1
 ·rintro ys H' p ⟨g,e,r⟩ hp
  exact hd ys H' p e r g hp
theorem znj {sp:Sp}(m:R7 sp):∀ σ H Q Q',(∀v H1,Q v H1->Q' v H1)->Lj sp [] E0 (Rx (Lf 0) (Rx (Lf 1) Vq)) σ H Q->Lj sp [] E0 (Rx (Lf 0) (Rx (Lf 1) Vq)) σ H Q' :=
 fun σ H Q Q' h ⟨v,e,u,e',q⟩=>⟨v,e,u,e',m _ _ _ _ _ h q⟩
theorem ne_str {x y:Str}(h:x≠y):¬decide (V.str x=V.str y)=true:=fun z=>h (by have:=of_decide_eq_true z;injection this)
theorem len1 {α:Type}{ys:List α}(h:ys.length=1):∃v,ys=[v]:=by
 match ys,h with
 | [v],_=>exact⟨v,rfl⟩
theorem len2 {α:Type}{ys:List α}(h:ys.length=2):∃v u,ys=[v,u]:=by
 match ys,h with
 | [v,u],_=>exact⟨v,u,rfl⟩
end
end L2
namespace WX
open PySem L2
section
variable {K:Frag}
def ix (os:List Str)(x:Str):Nat:=os.findIdx (·==x)
theorem Pg:∀{os:List Str} {x:Str},x∈os->(os.map V.str).findIdx? (fun z=>eqV z (.str x))=some (ix os x)/\ix os x<os.length/\os[ix os x]?=some x
 | t::r,x,h=>by
  unfold ix
  rw[zvY,List.findIdx?_cons,List.findIdx_cons]
  show(if (t==x)=true then some 0 else _)=_/\_
  by_cases e:t=x
  ·subst e
   simp
  ·have hb:(t==x)=false:=by simpa using e
   have hr:x∈r:=by
    rcases List.mem_cons.mp h with z | z
    ·exact absurd z.symm e
    ·exact z
   obtain⟨h1,h2,h3⟩:=Pg hr
   rw[hb,h1]
   unfold ix at h2 h3 ⊢
   refine⟨rfl,?_,?_⟩
   ·show(r.findIdx (·==x))+1<(t::r).length
    rw[zvM];omega
   ·show(t::r)[(r.findIdx (·==x))+1]?=some x
    rw[List.getElem?_cons_succ];exact h3
theorem zkw {os:List Str}{x y:Str}(hx:x∈os)(hy:y∈os):ix os y=ix os x↔y=x:=by
 constructor
 ·intro e
  have h1:=(Pg hx).2.2
  have h2:=(Pg hy).2.2
  rw[e,h1] at h2
  exact(zv4 h2).symm
 ·intro e;rw[e]
def Nb (os:List Str)(b:Nat):Str->Bool:=fun x=>b.testBit (ix os x)
theorem zbh {os:List Str}{s:Sn}{x:Str}(hs:s.Jp os)(hx:x∈os)(b:Nat)(v:Bool):s.val (fun y=>if y=x then v else Nb os b y)=s.val (Nb os (yt b (ix os x) v)):=by
 refine Sn.val_congr s hs fun y hy=>?_
 show _=(yt b (ix os x) v).testBit (ix os y)
 rw[yE]
 by_cases e:y=x
 ·rw[if_pos e,if_pos ((zkw hx hy).mpr e)]
 ·rw[if_neg e,if_neg (fun z=>e ((zkw hx hy).mp z))]
  rfl
theorem wY (b p:Nat):yt b p (b.testBit p)=b:=by unfold yt;rw[if_pos rfl]
theorem zkx {os:List Str}{s:Sn}{x:Str}(hs:s.Jp os)(hx:x∈os)(b:Nat):(Sn.q1 true x s).val (Nb os b)=(s.val (Nb os b)||s.val (Nb os (yt b (ix os x) (!b.testBit (ix os x))))):=by
 show(s.val (fun y=>if y=x then true else Nb os b y)||s.val (fun y=>if y=x then false else Nb os b y))=_
 rw[zbh hs hx,zbh hs hx]
 have z:=wY b (ix os x)
 cases hb:b.testBit (ix os x)
 ·rw[hb] at z;rw[z];exact Bool.or_comm _ _
 ·rw[hb] at z;rw[z];rfl
theorem zky {os:List Str}{s:Sn}{x:Str}(hs:s.Jp os)(hx:x∈os)(b:Nat):(Sn.q1 false x s).val (Nb os b)=(s.val (Nb os b)&&s.val (Nb os (yt b (ix os x) (!b.testBit (ix os x))))):=by
 show(s.val (fun y=>if y=x then true else Nb os b y)&&s.val (fun y=>if y=x then false else Nb os b y))=_
 rw[zbh hs hx,zbh hs hx]
 have z:=wY b (ix os x)
 cases hb:b.testBit (ix os x)
 ·rw[hb] at z;rw[z];exact Bool.and_comm _ _
 ·rw[hb] at z;rw[z];rfl
def TabOf (os:List Str)(s:Sn)(N:Nat):Prop:=xM os.length N (fun b=>s.val (Nb os b))
theorem zpL:∀o,w2 o≠Str.ofString "no" := by decide +kernel
theorem zof:∀o,w2 o≠Str.ofString "yes" := by decide +kernel
theorem zl9:∀o,w2 o≠Str.ofString "mark" := by decide +kernel
theorem zog:∀o,w2 o≠Str.ofString "not" := by decide +kernel
theorem zma:∀o,w2 o≠Str.ofString "some" := by decide +kernel
theorem zmb:∀o,w2 o≠Str.ofString "each" := by decide +kernel
theorem zrZ (o:Fin 4):o=0\/o=1\/o=2\/o=3:=by
 match o with
 | 0=>exact .inl rfl
 | 1=>exact .inr (.inl rfl)
 | 2=>exact .inr (.inr (.inl rfl))
 | 3=>exact .inr (.inr (.inr rfl))
inductive zfA (vs:List V)(H:Hp)(Q:VK)(E9:XK):Prop
 | mk (o:Fin 4) (N M n:Nat) (f g:Nat->Bool) (_:vs=[.str (w2 o),.int N,.int M,.int ((2^2^n-1:Nat):Int)]) (_:xM n N f) (_:xM n M g) (_:∀R:Nat,xM n R (fun b=>Sn.op2 o (f b) (g b))->Q (.int R) H):zfA vs H Q E9
inductive T5 (K:Frag)(d:Nat)(vs:List V)(H:Hp)(Q:VK)(E9:XK):Prop
 | mk (p l:Addr) (s:Sn) (os:List Str) (_:vs=[.ref p,.ref l]) (_:P0 H s p) (_:zX K H l (os.map V.str)) (_:s.Jp os) (_:os.length<=8) (_:s.depth<=d) (_:∀(N:Nat) (H':Hp),Same H H'->TabOf os s N->Q (.int N) H'):T5 K d vs H Q E9
theorem zhb (d:Nat):R7 (T5 K d):=fun vs H Q Q' E h ⟨p,l,s,os,e,h1,h2,h3,h4,h5,q⟩=>⟨p,l,s,os,e,h1,h2,h3,h4,h5,fun N H' g z=>h _ _ (q N H' g z)⟩
theorem zdz (r:List Bool):vH r=(r.map fun b=>((b.toNat:Nat):Int)).map V.int:=by rw[zwa];rfl
theorem zhc (r:List Bool){n:Nat}(h:r.length=n):RL n (r.map fun b=>((b.toNat:Nat):Int))=true:=by
 unfold RL
 rw[zvA,decide_eq_true h,List.all_map,Bool.true_and,zv3]
 intro b _
 cases b<;>rfl
inductive zin (K:Frag)(vs:List V)(H:Hp)(Q:VK)(E9:XK):Prop
 | mk (a:Addr) (ns:List Int) (_:vs=[.ref a]) (_:zX K H a (ns.map V.int)) (_:ns.length<=63) (_:∀H',Q (.bl true) H'):zin K vs H Q E9
end
end WX
namespace L2
open PySem PySem.Spec PyProof.Rows
theorem Nf {α:Type}{us:List α}(h:us.length=0):us=[]:=List.length_eq_zero_iff.mp h
theorem Ka {α:Type}{us:List α}{n:Nat}(h:us.length=n+1):∃a vs,us=a::vs/\vs.length=n:=by
 cases us with
 | nil=>cases h
 | cons a vs=>exact⟨a,vs,rfl,by simpa using h⟩
def zpM (N P:List Str)(sc:Scope):Bool:=(match sc.kind with | .function=>true | _=>false)&&!sc.isCoroutine&&!sc.isGenerator&&decide N.Nodup&&decide (N.take P.length=P)&&P.all (fun x=>decide (sc.names.lookup x=some .local\/sc.names.lookup x=some .cell))&&sc.names.all (fun y=>decide (y.2≠.free))
theorem fsc {N P:List Str}{sc:Scope}(h:zpM N P sc=true):zP N P sc:=by
 unfold zpM at h
 simp only[zv1,Bool.not_eq_true',decide_eq_true_eq,zv3] at h
 obtain⟨⟨⟨⟨⟨⟨h1,h2⟩,h3⟩,h4⟩,h5⟩,h6⟩,h7⟩:=h
 refine⟨?_,h2,h3,h4,h5,h6,h7⟩
 revert h1
 cases sc.kind<;>simp
structure Df (K:Frag)(mg:Str->Option Value)(x:Str)(st:Stmt)(f:Addr)(d:FuncData)(ps:List Str):Prop where
 F:Fun K x x st f d
 b:Binds K d ps []
 m:mg x=some (.ref f)
structure Dm (K:Frag)(C:Addr)(x q:Str)(st:Stmt)(f:Addr)(d:FuncData)(ps:List Str):Prop where
 F:Fun K x q st f d
 b:Binds K d ps []
 e:Meth K C x f
section
variable {K:Frag}{h:Heap}{mg:Str->Option Value}{x q:Str}{st:Stmt}{f C:Addr}{oc:Value}{od an:Option Addr}{osl:Array (Option Value)}{kV doc pm cdv ct:Value}{ps:List Str}
theorem dfm (X:K.In h)(G:h.Ns mainGlobals mg)(n:nsIn K mainGlobals x=some (some (.ref f)))(l:K.lookup f=some ⟨oc,od,.func (PySem.W.fnOf x x (Y0 st) (vV st) (zA st) .none kV doc pm an cdv ct),osl⟩)
  (c:PySem.W.codeIn K cdv x=true)(k:PySem.W.keepIn K (.ref f)=true)
  (b:∀(kV doc pm:Value) (an:Option Addr) (cdv ct:Value) (us:List Value),us.length=ps.length->bindArgs (PySem.W.fnOf x x (Y0 st) (vV st) (zA st) .none kV doc pm an cdv ct) ⟨us,[]⟩=pure (ps.zip us)) :
  Df K mg x st f (PySem.W.fnOf x x (Y0 st) (vV st) (zA st) .none kV doc pm an cdv ct) ps:=⟨zec l c k,(zec l c k).binds b,mg_of X G n⟩
theorem dmm (n:findIn K (.ref C) x=some (some (.ref f)))(i:PySem.W.isFn K (.ref f)=true)(l:K.lookup f=some ⟨oc,od,.func (PySem.W.fnOf x q (Y0 st) (vV st) (zA st) .none kV doc pm an cdv ct),osl⟩)
  (c:PySem.W.codeIn K cdv q=true)(k:PySem.W.keepIn K (.ref f)=true)
  (b:∀(kV doc pm:Value) (an:Option Addr) (cdv ct:Value) (us:List Value),us.length=ps.length->bindArgs (PySem.W.fnOf x q (Y0 st) (vV st) (zA st) .none kV doc pm an cdv ct) ⟨us,[]⟩=pure (ps.zip us)) :
  Dm K C x q st f (PySem.W.fnOf x q (Y0 st) (vV st) (zA st) .none kV doc pm an cdv ct) ps:=⟨zec l c k,(zec l c k).binds b,⟨n,i,k⟩⟩
theorem zmc {p:Addr}{it:Array Value}{n:Nat}{od:Option Addr}{sl:Array (Option Value)}{xs:List V}(l:K.lookup p=some ⟨.type "tuple", od,.seq it n,sl⟩)(v:it.toList.map zcJ=xs.map some)(h:xs.length<=1000):∀H,vO K H p xs:=fun H=>znh l v h
end
section
variable {X:Cx}{CX:CXT}{k:Nat}{f C:Addr}{fd:FuncData}{ps:List Str}{sp:Sp}{st:Stmt}{x q m:Str}{p pos apos:Pos}{e o:Expr}{es:List Expr}{t:TA}{ta:TE}{E:XK}
theorem zE (F:zB X.prog X.w X.K X.mg X.base yd k f fd ps sp)(hr:uJ k X.A)(D:Df X.K X.mg x st f fd ps)(ha:PA X (e::es) t)(hg:Gl X x:=by rfl)(hdb:(x==("__debug__" : Str))=false:=by decide)(he:starEach (e::es) X.env=(false,eval e X.env)::starEach es X.env:=by rfl)(hpl:(backTo pos (starEach es X.env)).any (·.1)=false:=by rfl) :
  PE X (.Call (.Name x p) (e::es) [] pos) (Lj sp [] E0 t):=zh7 F hr hg D.m D.F.2 D.b .nil zid ha hdb he hpl
theorem yH (hx:Passes CX X E)(F:zB X.prog X.w X.K X.mg X.base CX k f fd ps sp)(hr:uJ k X.A)(D:Df X.K X.mg x st f fd ps)(ha:PA X (e::es) t)(hg:Gl X x:=by rfl)(hdb:(x==("__debug__" : Str))=false:=by decide)(he:starEach (e::es) X.env=(false,eval e X.env)::starEach es X.env:=by rfl)(hpl:(backTo pos (starEach es X.env)).any (·.1)=false:=by rfl) :
  PE X (.Call (.Name x p) (e::es) [] pos) (Lj sp [] E t):=zh7 F hr hg D.m D.F.2 D.b .nil hx ha hdb he hpl
theorem yW {pl:Sem Bool}(he:PE X o ta)(c:Cls X.K C)(D:Dm X.K C m q st f fd ps)(F:zB X.prog X.w X.K X.mg X.base yd k f fd ps sp)(hr:uJ k X.A)(ha:PA X (e::es) t)
  (hst:starEach (e::es) X.env=(false,eval e X.env)::starEach es X.env:=by rfl)(hpl:(backTo pos (starEach es X.env)).any (·.1)=false:=by rfl)
  (ht:eval (.Call (.Attribute o m apos) (e::es) [] pos) X.env=(do
   let ov <-eval o X.env
   standAt apos.atName
   let (f,first) <-holding [ov] (getMethod ov m pl)
   callWith pos f first (backTo pos (starEach (e::es) X.env)) (backToKw pos (keywordEach [] X.env))):=by rfl) :
  PE X (.Call (.Attribute o m apos) (e::es) [] pos) (zdl C m sp [] E0 ta t):=zh8 he c D.e F hr D.b .nil zid ha hst hpl ht
theorem wj (hx:Passes CX X E){pl:Sem Bool}(he:PE X o ta)(c:Cls X.K C)(D:Dm X.K C m q st f fd ps)(F:zB X.prog X.w X.K X.mg X.base CX k f fd ps sp)(hr:uJ k X.A)(ha:PA X (e::es) t)
  (hst:starEach (e::es) X.env=(false,eval e X.env)::starEach es X.env:=by rfl)(hpl:(backTo pos (starEach es X.env)).any (·.1)=false:=by rfl)
  (ht:eval (.Call (.Attribute o m apos) (e::es) [] pos) X.env=(do
   let ov <-eval o X.env
   standAt apos.atName
   let (f,first) <-holding [ov] (getMethod ov m pl)
   callWith pos f first (backTo pos (starEach (e::es) X.env)) (backToKw pos (keywordEach [] X.env))):=by rfl) :
  PE X (.Call (.Attribute o m apos) (e::es) [] pos) (zdl C m sp [] E ta t):=zh8 he c D.e F hr D.b .nil hx ha hst hpl ht
theorem Wr {pl:Sem Bool}(he:PE X o ta)(c:Cls X.K C)(D:Dm X.K C m q st f fd ps)(F:zB X.prog X.w X.K X.mg X.base yd k f fd ps sp)(hr:uJ k X.A)
  (ht:eval (.Call (.Attribute o m apos) [] [] pos) X.env=(do
   let ov <-eval o X.env
   standAt apos.atName
   let (f,first) <-holding [ov] (getMethod ov m pl)
   callWith pos f first (backTo pos (starEach [] X.env)) (backToKw pos (keywordEach [] X.env))):=by rfl) :
  PE X (.Call (.Attribute o m apos) [] [] pos) (zdl C m sp [] E0 ta Vq):=zfk he c D.e F hr D.b .nil zid ht
theorem zbJ (hx:Passes CX X E){pl:Sem Bool}(he:PE X o ta)(c:Cls X.K C)(D:Dm X.K C m q st f fd ps)(F:zB X.prog X.w X.K X.mg X.base CX k f fd ps sp)(hr:uJ k X.A)
  (ht:eval (.Call (.Attribute o m apos) [] [] pos) X.env=(do
   let ov <-eval o X.env
   standAt apos.atName
   let (f,first) <-holding [ov] (getMethod ov m pl)
   callWith pos f first (backTo pos (starEach [] X.env)) (backToKw pos (keywordEach [] X.env))):=by rfl) :
  PE X (.Call (.Attribute o m apos) [] [] pos) (zdl C m sp [] E ta Vq):=zfk he c D.e F hr D.b .nil hx ht
end
inductive Ent (K:Frag)(w:World):List DictEntry->List (Str×Int×Int)->List (Str×Value)->Prop
 | nil:Ent K w [] [] []
 | cons {k:Str} {tk:Tok} {p:Addr} {m n:Int} {od:Option Addr} {it:Array Value} {z:Nat} {sl:Array (Option Value)} {es:List DictEntry} {tb:List (Str×Int×Int)} {kvs:List (Str×Value)} (l:K.lookup p=some ⟨.type "tuple", od,.seq it z,sl⟩) (v:it.toList.map zcJ=[V.int m,V.int n].map some) (t:Ent K w es tb kvs) :
   Ent K w (⟨hashStr w k,.str k tk,.ref p⟩::es) ((k,m,n)::tb) ((k,.ref p)::kvs)
structure Shp (K:Frag)(P:Program)(w:World)(a:Addr)(kvs:List (Str×Value))(tb:List (Str×Int×Int)):Prop where
 d:zlY K P w a kvs
 y:∀k m n,(k,m,n)∈tb->∃p,valueAt kvs k=some (.ref p)/\∀H,vO K H p [.int m,.int n]
 z:∀k,(∀e∈tb,e.1≠k)->valueAt kvs k=none
theorem Ent.keys {K:Frag}{w:World}{es:List DictEntry}{tb:List (Str×Int×Int)}{kvs:List (Str×Value)}(h:Ent K w es tb kvs):kvs.map (·.1)=tb.map (·.1):=by
 induction h with
 | nil=>rfl
 | cons _ _ _ ih=>rw[zvY,zvY,ih]
theorem zoh {K:Frag}{P:Program}{w:World}{a:Addr}{es:Array DictEntry}{ep:Nat}{kvs:List (Str×Value)}{tb:List (Str×Int×Int)}(l:K.lookup a=some ⟨.type "dict", none,.dict es ep,#[]⟩)(s:(a==sysModules)=false)(nd:decide (tb.map (·.1)).Nodup=true)(h:Ent K w es.toList tb kvs):Shp K P w a kvs tb:=by
 have nk:(kvs.map (·.1)).Nodup:=by rw[h.keys];exact of_decide_eq_true nd
 obtain⟨el,hel⟩:∃el,es.toList=el:=⟨_,rfl⟩
 rw[hel] at h
 refine⟨zl1 l hel s ?_ nk,?_,?_⟩
 ·clear nd nk l s hel
  induction h with
  | nil=>exact zoc
  | cons _ _ _ ih=>exact zl0 ih
 ·clear nd l s hel
  induction h with
  | nil=>intro k m n hm;cases hm
  | @cons k0 tk p m0 n0 od it z sl es tb kvs l v t ih =>
   intro k m n hm
   rw[zvY,List.nodup_cons] at nk
   rcases List.mem_cons.mp hm with e | e
   ·cases e
    refine⟨p,?_,fun H=>znh l v (by show 2<=1000;decide)⟩
    simp[valueAt]
   ·obtain⟨q,hq,sq⟩:=ih nk.2 k m n e
    refine⟨q,?_,sq⟩
    have ne:k0≠k:=fun z=>nk.1 (by rw[z,t.keys];exact List.mem_map.mpr ⟨_,e,rfl⟩)
    simp[valueAt,ne] at hq ⊢
    exact hq
 ·clear nd nk l s hel
  induction h with
  | nil=>intro k _;rfl
  | @cons k0 tk p m0 n0 od it z sl es tb kvs l v t ih =>
   intro k hk
   have ne:=hk (k0,m0,n0) (zvT ..)
   have:=ih k fun e he=>hk e (zvL _ he)
   simp[valueAt] at this ⊢
   exact⟨ne,this⟩
theorem zN {X:Cx}{pos:Pos}(i:Nat){x:Str}{e:Expr}{te:TE}{pos':Pos}(hN:X.N.Nodup)(he:PE X e te)(hi:X.N[i]?=some x:=by rfl)(hx:Loc X.env.scope x:=by exact Or.inl rfl)(hs:swapsWith e (some (.Name x pos')) pos.line X.env=pure false:=by rfl)(hf:X.fn x=true\/X.env.scope.names.lookup x=some .local:=by first | exact .inl rfl | exact .inr rfl | assumption) :
  PS X (.Assign [.Name x pos'] e pos) (znL te (Rw i)):=Z9 hN hi hx he hs hf
def lcB (uZ sc:Scope)(x:Str)(fv:List Str):Bool:=(match sc.kind with | .function=>true | _=>false)&&sc.names.all (fun y=>decide (y.2≠.cell))&&sc.names.all (fun y=>decide (y.2=.local->sc.names.lookup y.1=some .local))&&decide (sc.names.lookup x=some .local)&&sc.names.all (fun y=>decide (y.2=.free->uZ.names.lookup y.1=some .cell\/uZ.names.lookup y.1=some .free))&&fv.all (fun y=>decide (sc.names.lookup y=some .free/\(uZ.names.lookup y=some .cell\/uZ.names.lookup y=some .free)))&&decide (x::fv).Nodup
theorem lco {uZ sc:Scope}{x:Str}{fv:List Str}(h:lcB uZ sc x fv=true):Z6 uZ sc x fv:=by
 unfold lcB at h
 simp only[zv1,decide_eq_true_eq,zv3] at h
 obtain⟨⟨⟨⟨⟨⟨h1,h2⟩,h3⟩,h4⟩,h5⟩,h6⟩,h7⟩:=h
 refine⟨?_,h2,h3,h4,h5,h6,h7⟩
 revert h1
 cases sc.kind<;>simp
section
variable {κ:Type}[DecidableEq κ]
def Vr (kvs:List (κ×V))(k:κ):Option V:=(kvs.find? fun kv=>decide (kv.1=k)).map (·.2)
def putK (kvs:List (κ×V))(k:κ)(v:V):List (κ×V) :=
 if (kvs.any fun kv=>decide (kv.1=k))=true then kvs.map (fun kv=>if kv.1=k then (kv.1,v) else kv) else kvs++[(k,v)]
theorem tE {p:κ×V}{r:List (κ×V)}{k:κ}(e:p.1=k):Vr (p::r) k=some p.2:=by simp[Vr,List.find?_cons,e]
theorem tG {p:κ×V}{r:List (κ×V)}{k:κ}(e:¬p.1=k):Vr (p::r) k=Vr r k:=by simp[Vr,List.find?_cons,e]
theorem Kc (k:κ):∀kvs:List (κ×V),(kvs.any fun kv=>decide (kv.1=k))=(Vr kvs k).isSome
 | []=>rfl
 | p::r=>by
  rw[List.any_cons]
  by_cases e:p.1=k
  ·simp only[tE e,decide_eq_true e,Bool.true_or,Option.isSome_some]
  ·rw[tG e,decide_eq_false e,Bool.false_or];exact Kc k r
theorem zfB (k j:κ)(y:V):∀kvs:List (κ×V),Vr (kvs.map fun kv=>if kv.1=k then (kv.1,y) else kv) j=(Vr kvs j).map fun x=>if j=k then y else x
 | []=>rfl
 | p::r=>by
  have ih:=zfB k j y r
  rw[zvY]
  by_cases h:p.1=k
  ·rw[if_pos h]
   by_cases e:p.1=j
   ·rw[tE (p:=(p.1,y)) e,tE e,Option.map_some,if_pos (e.symm.trans h)]
   ·rw[tG (p:=(p.1,y)) e,tG e,ih]
  ·rw[if_neg h]
   by_cases e:p.1=j
   ·rw[tE (p:=p) e,tE e,Option.map_some,if_neg (fun z=>h (e.trans z))]
   ·rw[tG (p:=p) e,tG e,ih]
theorem zdA (k j:κ)(y:V):∀kvs:List (κ×V),Vr kvs k=none->Vr (kvs++[(k,y)]) j=if j=k then some y else Vr kvs j
 | [],_=>by
  by_cases e:k=j
  ·rw[if_pos e.symm];exact tE (p:=(k,y)) e
  ·rw[if_neg (fun z=>e z.symm)];exact tG (p:=(k,y)) e
 | p::r,hn=>by
  rw[List.cons_append]
  have hk:¬p.1=k:=fun z=>by rw[tE z] at hn;cases hn
  rw[tG hk] at hn
  have ih:=zdA k j y r hn
  by_cases e:p.1=j
  ·rw[tE e,tE e,if_neg (fun z=>hk (e.trans z))]
  ·rw[tG e,tG e,ih]
theorem zbK (kvs:List (κ×V))(k j:κ)(y:V):Vr (putK kvs k y) j=if j=k then some y else Vr kvs j:=by
 unfold putK
 by_cases a:(kvs.any fun kv=>decide (kv.1=k))=true
 ·rw[if_pos a,zfB]
  rw[Kc] at a
  by_cases e:j=k
  ·obtain⟨x,hx⟩:=Option.isSome_iff_exists.mp a
   rw[if_pos e,e,hx,Option.map_some,if_pos rfl]
  ·rw[if_neg e]
   cases Vr kvs j with
   | none=>rfl
   | some x=>rw[Option.map_some,if_neg e]
 ·rw[if_neg a]
  refine zdA k j y kvs ?_
  rw[Kc] at a
  cases q:Vr kvs k with
  | none=>rfl
  | some x=>rw[q] at a;exact(a rfl).elim
theorem Z5 (kvs:List (κ×V))(k:κ)(v:V):(putK kvs k v).length<=kvs.length+1:=by
 unfold putK
 split
 ·rw[zvA];omega
 ·rw[zvI,zvM,List.length_nil];omega
theorem PL.JK {o:Option V}{u:Option Value}(r:PL o u):o.isSome=u.isSome:=by
 cases o with
 | none=>cases u with
  | none=>rfl
  | some _=>exact(show False from r).elim
 | some _=>cases u with
  | none=>exact(show False from r).elim
  | some _=>rfl
theorem KV.val {kvs:List (κ×V)}{vs:List (κ×Value)}(r:KV kvs vs)(k:κ):PL (Vr kvs k) (valueAt vs k):=by
 unfold KV at r
 induction r with
 | nil=>exact True.intro
 | @cons p q ps qs h t ih =>
  obtain⟨h1,h2⟩:=h
  by_cases e:p.1=k
  ·have e':q.1=k:=h1.symm.trans e
   have b:valueAt (q::qs) k=some q.2:=by simp[valueAt,List.find?_cons,e']
   rw[tE e,b];exact h2
  ·have e':¬q.1=k:=fun z=>e (h1.trans z)
   have b:valueAt (q::qs) k=valueAt qs k:=by simp[valueAt,List.find?_cons,e']
   rw[tG e,b];exact ih
theorem KV.any {kvs:List (κ×V)}{vs:List (κ×Value)}(r:KV kvs vs)(k:κ):(kvs.any fun kv=>decide (kv.1=k))=vs.any fun kv=>decide (kv.1=k):=by
 unfold KV at r
 induction r with
 | nil=>rfl
 | cons h t ih=>rw[List.any_cons,List.any_cons,ih,h.1]
theorem KV.repl {kvs:List (κ×V)}{vs:List (κ×Value)}(r:KV kvs vs)(k:κ){y:V}{u:Value}(ry:RelV y u) :
  KV (kvs.map fun kv=>if kv.1=k then (kv.1,y) else kv) (vs.map fun kv=>if kv.1=k then (kv.1,u) else kv):=by
 unfold KV at r ⊢
 induction r with
 | nil=>exact .nil
 | @cons p q ps qs h t ih =>
  rw[zvY,zvY]
  refine .cons ?_ ih
  obtain⟨h1,h2⟩:=h
  by_cases e:p.1=k
  ·rw[if_pos e,if_pos (h1.symm.trans e)];exact⟨h1,ry⟩
  ·rw[if_neg e,if_neg (fun z=>e (h1.trans z))];exact⟨h1,h2⟩
theorem KV.put {kvs:List (κ×V)}{vs:List (κ×Value)}(r:KV kvs vs)(k:κ){y:V}{u:Value}(ry:RelV y u):KV (putK kvs k y) (stored vs k u):=by
 unfold putK stored
 rw[r.any k]
 by_cases e:(vs.any fun kv=>decide (kv.1=k))=true
 ·rw[if_pos e,if_pos e];exact r.repl k ry
 ·rw[if_neg e,if_neg e];exact Paired.snoc r ⟨rfl,ry⟩
theorem KV.length {kvs:List (κ×V)}{vs:List (κ×Value)}(r:KV kvs vs):kvs.length=vs.length:=Paired.length r
end
theorem zdB {P:Program}{w:World}{k:Key}{u:Value}(r:RelV (kV k) u):(yS P w).is k u=true:=by
 cases k with
 | inl i=>obtain⟨t,e⟩:=(show ∃t,u=Value.int i t from r);subst e;exact zfb P w i t
 | inr x=>obtain⟨t,e⟩:=(show ∃t,u=Value.str x t from r);subst e;exact zfc P w x t
theorem zdC {P:Program}{w:World}:∀{ks:List Key} {us:List Value},Vals (ks.map kV) us->ItemsAre (yS P w) ks us
 | [],_,r=>by rw[List.map_nil] at r;cases r;exact .nil
 | k::ks,_,r=>by
  rw[zvY] at r
  cases r with
  | cons h t=>exact .cons (zdB h) (zdC t)
abbrev KT (H:Hp):List (List Key×V)->List (List Key×Addr×Value)->Prop:=Paired fun p q=>p.1=q.1/\H q.2.1=some (.tup (p.1.map kV))/\RelV p.2 q.2.2
theorem KT.val {H:Hp}{kvs:List (List Key×V)}{xs:List (List Key×Addr×Value)}(r:KT H kvs xs)(k:List Key):PL (Vr kvs k) ((atKey xs k).map (·.2)):=by
 induction r with
 | nil=>exact True.intro
 | @cons p q ps qs h t ih =>
  obtain⟨h1,_,h2⟩:=h
  by_cases e:p.1=k
  ·have e':q.1=k:=h1.symm.trans e
   have b:atKey (q::qs) k=some q.2:=by simp[atKey,List.find?_cons,e']
   rw[tE e,b];exact h2
  ·have e':¬q.1=k:=fun z=>e (h1.trans z)
   have b:atKey (q::qs) k=atKey qs k:=by simp[atKey,List.find?_cons,e']
   rw[tG e,b];exact ih
theorem KT.repl {H:Hp}{kvs:List (List Key×V)}{xs:List (List Key×Addr×Value)}(r:KT H kvs xs)(k:List Key){y:V}{u:Value}(ry:RelV y u) :
  KT H (kvs.map fun kv=>if kv.1=k then (kv.1,y) else kv) (xs.map (putAt k u)):=by
 induction r with
 | nil=>exact .nil
 | @cons p q ps qs h t ih =>
  rw[zvY,zvY]
  refine .cons ?_ ih
  obtain⟨h1,h2,h3⟩:=h
  unfold putAt
  by_cases e:p.1=k
  ·rw[if_pos e,if_pos (h1.symm.trans e)];exact⟨h1,h2,ry⟩
  ·rw[if_neg e,if_neg (fun z=>e (h1.trans z))];exact⟨h1,h2,h3⟩
theorem KT.put {H:Hp}{kvs:List (List Key×V)}{xs:List (List Key×Addr×Value)}(r:KT H kvs xs)(k:List Key){b:Addr}{y:V}{u:Value}(hb:H b=some (.tup (k.map kV)))(ry:RelV y u) :
  KT H (putK kvs k y) (storedH xs k b u):=by
 have e:(kvs.any fun kv=>decide (kv.1=k))=(atKey xs k).isSome:=by
  rw[Kc,(r.val k).JK,Option.isSome_map]
 unfold putK storedH
 rw[e]
 by_cases q:(atKey xs k).isSome=true
 ·rw[if_pos q,if_pos q];exact r.repl k ry
 ·rw[if_neg q,if_neg q];exact Paired.snoc r ⟨rfl,hb,ry⟩
theorem KT.keeps {H H':Hp}{kvs:List (List Key×V)}{xs:List (List Key×Addr×Value)}(r:KT H kvs xs)(ht:∀b ys,H b=some (.tup ys)->H' b=some (.tup ys)):KT H' kvs xs :=
 Paired.znG r fun _ _ z=>⟨z.1,ht _ _ z.2.1,z.2.2⟩
section
variable {P:Program}{w:World}{H:Hp}{h:Heap}{a:Addr}
theorem znk {u:HO}(ok:Rv P w H h)(e:Rd H a u):wF P w H h a u:=e.ok ok
theorem zio {kvs:List (Key×V)}(ok:Rv P w H h)(e:Rd H a (.dK kvs)):kvs.length<=sizeLine/\(a==sysModules)=false/\∃vs,KV kvs vs/\h.DictOf (yS P w) a vs :=
 show wF P w H h a (.dK kvs) from znk ok e
theorem znl {kvs:List (Key×V)}(ok:Rv P w H h)(e:H a=some (.dK kvs)):kvs.length<=sizeLine/\(a==sysModules)=false/\∃vs,KV kvs vs/\h.DictOf (yS P w) a vs:=zio ok (.inl e)
theorem zeq {ks:List Key}(ok:Rv P w H h)(e:H a=some (.tup (ks.map kV))):(tupleKind (yS P w)).is h ks a:=by
 obtain⟨_,its,r,o,h1,h2,n,h3⟩:=(show wF P w H h a (.tup (ks.map kV)) from ok a _ e)
 exact⟨o,its.toArray,n,h1,h2,h3,by simpa using zdC r⟩
theorem ziq {kvs:List (List Key×V)}(ok:Rv P w H h)(e:Rd H a (.dT kvs)):kvs.length<=sizeLine/\(a==sysModules)=false /\
  ∃xs,KT H kvs xs/\h.DictOfH (tupleKind (yS P w)) a xs:=by
 obtain⟨z,y,xs,r,o,es,ep,h1,h2,h3,h4,h5⟩:=(show wF P w H h a (.dT kvs) from znk ok e)
 refine⟨z,y,xs,r,o,es,ep,h1,h2,h3,h4,fun x hx=>?_,h5⟩
 have all:∀{l:List (List Key×V)} {m:List (List Key×Addr×Value)},KT H l m->∀x∈m,(tupleKind (yS P w)).is h x.1 x.2.1:=by
  intro l m q
  induction q with
  | nil=>intro x hx;exact nomatch hx
  | @cons p q ps qs hq t ih =>
   intro x hx
   rcases List.mem_cons.mp hx with e | hx
   ·subst e
    exact zeq ok (by rw[<-hq.1];exact hq.2.1)
   ·exact ih x hx
 exact all r x hx
theorem zpN {kvs:List (List Key×V)}(ok:Rv P w H h)(e:H a=some (.dT kvs)):kvs.length<=sizeLine/\(a==sysModules)=false /\
  ∃xs,KT H kvs xs/\h.DictOfH (tupleKind (yS P w)) a xs:=ziq ok (.inl e)
end
def zbL (H:Hp)(a:Addr)(y:V)(r:Option V):Prop :=
 (∃kvs k,Rd H a (.dK kvs)/\y=kV k/\r=Vr kvs k)\/∃kvs k b,Rd H a (.dT kvs)/\y=.ref b/\H b=some (.tup (k.map kV))/\r=Vr kvs k
def zfC (H:Hp)(a:Addr)(y v:V)(H':Hp):Prop :=
 (∃kvs k,H a=some (.dK kvs)/\y=kV k/\kvs.length<sizeLine/\H'=upd H a (.dK (putK kvs k v))) \/
 ∃kvs k b,H a=some (.dT kvs)/\y=.ref b/\H b=some (.tup (k.map kV))/\kvs.length<sizeLine/\H'=upd H a (.dT (putK kvs k v))
theorem zbL.k {H:Hp}{a:Addr}{kvs:List (Key×V)}{k:Key}(e:H a=some (.dK kvs)):zbL H a (kV k) (Vr kvs k):=.inl ⟨kvs,k,.inl e,rfl,rfl⟩
theorem zfC.k {H:Hp}{a:Addr}{kvs:List (Key×V)}{k:Key}{v:V}(e:H a=some (.dK kvs))(hl:kvs.length<sizeLine):zfC H a (kV k) v (upd H a (.dK (putK kvs k v))):=.inl ⟨kvs,k,e,rfl,hl,rfl⟩
section
variable {X:Cx}{pins:List (Addr×Obj)}{σ:St}{H:Hp}{s:Shared}{a:Addr}{y v:V}{u r:Value}{o:Option V}{A:Around}{E:Value->Shared->Prop}
theorem Inv.big (I:Inv X pins σ H s):sysModules<s.heap.objs.size:=by
 have h:mainGlobals<s.heap.objs.size:=(I.mod.glob.keeps I.bk).lt
 exact Nat.lt_trans (by decide) h
theorem zi7 {Q:Value->Shared->Prop}(hu:A.units+1<cLine)(I:Inv X pins σ H s)(g:zbL H a y (some v))(ry:RelV y u)(h:∀w' s',Inv X pins σ H s'->RelV v w'->Q w' s') :
  wpAny (model X.prog X.w) A (getItem (.ref a) u) Q E s:=by
 rcases g with ⟨kvs,k,e,ey,l⟩ | ⟨kvs,k,b,e,ey,eb,l⟩
 ·subst ey
  obtain⟨z,hd,vs,rel,dd⟩:=zio I.hok e
  obtain⟨w',hw,rw'⟩:=PL.some_of (v:=v) (o:=valueAt vs k) (by rw[l];exact rel.val k)
  exact wpAny_getItem_of (zdB ry) dd.mapOf hw (h w' _ (I.tok _) rw')
 ·subst ey
  cases (show u=Value.ref b from ry)
  obtain⟨z,hd,xs,rel,dd⟩:=ziq I.hok e
  obtain⟨w',hw,rw'⟩:=PL.some_of (v:=v) (o:=(atKey xs k).map (·.2)) (by rw[l];exact rel.val k)
  obtain⟨p,hp,hp2⟩:=Option.map_eq_some_iff.mp hw
  refine wpAny_getItem_heap (tupleKind_room_in1 hu) (zeq I.hok eb) dd hp ?_
  rw[hp2]
  exact h w' _ (I.tok _) rw'
theorem zmd {Q:Value->Shared->Prop}(hu:A.units+1<cLine)(I:Inv X pins σ H s)(g:zbL H a y o)(ry:RelV y u)(h:∀s',Inv X pins σ H s'->Q (.bool (!o.isSome)) s') :
  wpAny (model X.prog X.w) A (compareOp .NotIn u (.ref a)) Q E s:=by
 rcases g with ⟨kvs,k,e,ey,l⟩ | ⟨kvs,k,b,e,ey,eb,l⟩
 ·subst ey
  obtain⟨z,hd,vs,rel,dd⟩:=zio I.hok e
  refine wpAny_notIn_of (zdB ry) hd dd.mapOf ?_
  rw[<-(rel.val k).JK,<-l]
  exact h _ (I.tok _)
 ·subst ey
  cases (show u=Value.ref b from ry)
  obtain⟨z,hd,xs,rel,dd⟩:=ziq I.hok e
  refine wpAny_notIn_heap (tupleKind_room_in1 hu) (zeq I.hok eb) hd dd ?_
  have q:=(rel.val k).JK
  rw[Option.isSome_map] at q
  rw[<-q,<-l]
  exact h _ (I.tok _)
theorem zer {h':Heap}{t':Nat}{ob:HO}(I:Inv X pins σ H s)(mu:Mut (H a))(hs:Heap.SameBut a s.heap h')(he:∃q,h'.get? a=some q)(new:wF X.prog X.w (upd H a ob) h' a ob) :
  Inv X pins σ (upd H a ob) { s with heap:=h',toks:=t' } :=
 I.write (x:=a) (e:=a) mu (.inl rfl) (fun b q hb z=>(hs.2 b hb).trans z) he new
theorem zhd {P:Program}{w:World}{H':Hp}{h':Heap}{kvs:List (Key×V)}{vs:List (Key×Value)}(z:kvs.length<=sizeLine)(hd:(a==sysModules)=false)(rel:KV kvs vs)(dd:h'.DictOf (yS P w) a vs) :
  wF P w H' h' a (.dK kvs):=⟨z,hd,vs,rel,dd⟩
theorem zi8 {H':Hp}{Q:Unit->Shared->Prop}(hu:A.units+1<cLine)(I:Inv X pins σ H s)(g:zfC H a y v H')(ry:RelV y u)(rv:RelV v r)(h:∀s',Inv X pins σ H' s'->Q () s') :
  wpAny (model X.prog X.w) A (setItem (.ref a) u r) Q E s:=by
 rcases g with ⟨kvs,k,e,ey,l,eH⟩ | ⟨kvs,k,b,e,ey,eb,l,eH⟩
 ·subst ey eH
  obtain⟨z,hd,vs,rel,dd⟩:=znl I.hok e
  have hz:vs.length<=sizeLine:=by rw[<-rel.length];exact z
  have hl:(putK kvs k v).length<=sizeLine:=by have:=Z5 kvs k v;omega
  refine wpAny_setItem_pairs (hsz:=hz) (zdB ry) dd fun h' dd' hs=>h _ ?_
  have he:∃q,h'.get? a=some q:=let ⟨q,_,_,hq,_⟩:=dd';⟨q,hq⟩
  exact zer I (by rw[e];exact True.intro) hs he (zhd hl hd (rel.put k rv) dd')
 ·subst ey eH
  cases (show u=Value.ref b from ry)
  obtain⟨z,hd,xs,rel,dd⟩:=zpN I.hok e
  have hz:xs.length<=sizeLine:=by rw[<-Paired.length rel];exact z
  have hl:(putK kvs k v).length<=sizeLine:=by have:=Z5 kvs k v;omega
  refine wpAny_setItem_heap (hsz:=hz) (tupleKind_room_in1 hu) (zeq I.hok eb) dd fun h' dd' hs=>h _ ?_
  obtain⟨q,es,ep,hq,h2,h3,h4,_,h5⟩:=dd'
  refine zer I (by rw[e];exact True.intro) hs ⟨q,hq⟩ ⟨hl,hd,_,(rel.put k eb rv).keeps fun c ys ec=>?_,q,es,ep,hq,h2,h3,h4,h5⟩
  rw[zJ (Vv ec e (fun z=>nomatch z))]
  exact ec
end
def zpO (i:Expr):Prop:=∀ov iv,subscripted i false ov iv=operate [ov,iv] (getItem ov iv)
theorem zme {prog:Program}{w:World}{A:Around}{E:Value->Shared->Prop}{s:Shared}{env:Env}{value slice:Expr}{pos:Pos}{T id:String}{Q:Value->Shared->Prop}
  (hl:typeLookup (.type T) "__getitem__"=pure (some (.builtin id)))(hs:zpO slice)
  (h:wpAny (model prog w) A (eval value env) (fun o s₁=>wpAny (model prog w) A (eval slice env) (fun i s₂=>s₂.TypeIs o T/\wpAny (model prog w) A (getItem o i) Q E s₂) E s₁) E s) :
  wpAny (model prog w) A (eval (.Subscript value slice pos) env) Q E s:=by
 refine Subscript_ (wpAny_mono h (fun o s₁ h₁=>wpAny_mono h₁ (fun i s₂ h₂=>?_) fun _ _ x=>x) fun _ _ x=>x)
 obtain⟨hT,h₂⟩:=h₂
 unfold subscriptTail
 refine wpAny_bind ?_
 rw[getitemInPython_of_ne hT.not_modules]
 refine wpAny_bind (wpAny_specialOf hT hl ?_)
 have fin:wpAny (model prog w) A (subscripted slice false o i) (fun r s₃=>wpAny (model prog w) A (letTemporaryGo value o r>>=fun _=>pure r) Q E s₃) E s₂:=by
  rw[hs o i]
  exact wpAny_operating (wpAny_mono h₂ (fun r s₃ h₃=>wpAny_bind (wpAny_letTemporaryGo (wpAny_pure h₃))) fun _ _ x=>x)
 first
  | exact wpAny_pure (wpAny_bind fin)
  | exact wpAny_bind (wpAny_pure (wpAny_bind fin))
  | exact wpAny_bind fin
theorem zfD {X:Cx}{pins:List (Addr×Obj)}{σ:St}{H:Hp}{s:Shared}{a:Addr}{y:V}{o:Option V}(I:Inv X pins σ H s)(g:zbL H a y o):s.TypeIs (.ref a) "dict" := by
 rcases g with ⟨kvs,k,e,_,_⟩ | ⟨kvs,k,b,e,_,_,_⟩
 ·obtain⟨_,_,vs,_,dd⟩:=zio I.hok e
  exact dd.typeIs
 ·obtain⟨_,_,xs,_,dd⟩:=ziq I.hok e
  exact dd.typeIs
def zpP (td ty:TE):TE:=fun σ H Q=>td σ H fun x H1=>ty σ H1 fun y H2=>∃a v,x=.ref a/\zbL H2 a y (some v)/\Q v H2
def zmf (ty td:TE):TE:=fun σ H Q=>ty σ H fun y H1=>td σ H1 fun x H2=>∃a o,x=.ref a/\zbL H2 a y o/\Q (.bl (!o.isSome)) H2
def zpQ (td ty tv:TE):TS:=fun D σ H=>tv σ H fun v H1=>td σ H1 fun x H2=>ty σ H2 fun y H3=>∃a H4,x=.ref a/\zfC H3 a y v H4/\D.nx σ H4
section
variable {X:Cx}{o i e value:Expr}{pos pos' tpos:Pos}{td ty tv:TE}
theorem zmg (hu:X.A.units+1<cLine)(ho:PE X o td)(hi:PE X i ty)(hs:zpO i):PE X (.Subscript o i pos) (zpP td ty):=by
 intro pins s σ H Q I h
 refine zme PySem.F.slot_dict_getitem.lookup hs (vo (ho pins s σ H _ I h) fun u s1 ⟨x,H1,I1,rx,q1⟩=>vo (hi pins s1 σ H1 _ I1 q1) fun iv s2 ⟨y,H2,I2,ry,a,v,ex,g,q2⟩=>?_)
 subst ex
 obtain rfl:u=Value.ref a:=rx
 exact⟨zfD I2 g,zi7 hu I2 g ry fun w' s3 I3 rw'=>⟨v,H2,I3,rw',q2⟩⟩
theorem zdD (hu:X.A.units+1<cLine)(hi:PE X i ty)(ho:PE X o td):PC X .NotIn i o (zmf ty td):=by
 intro pins s σ H Q I h
 refine vo (hi pins s σ H _ I h) fun iv s1 ⟨y,H1,I1,ry,q1⟩=>vo (ho pins s1 σ H1 _ I1 q1) fun u s2 ⟨x,H2,I2,rx,a,ov,ex,g,q2⟩=>?_
 subst ex
 obtain rfl:u=Value.ref a:=rx
 exact zmd hu I2 g ry fun s3 I3=>⟨.bl (!ov.isSome),H2,I3,rfl,q2⟩
theorem Kd (hu:X.A.units+1<cLine)(ho:PE X o td)(hi:PE X i ty)(hv:PE X value tv)(hs:swapsWith value (some (.Subscript o i pos')) pos.line X.env=pure false) :
  PS X (.Assign [.Subscript o i pos'] value pos) (zpQ td ty tv):=by
 intro pins s σ H D I h
 refine wpAny_Assign_Subscript (vo (hv pins s σ H _ I h) fun r s1 ⟨v,H1,I1,rv,q1⟩=>vo (ho pins s1 σ H1 _ I1 q1) fun u s2 ⟨x,H2,I2,rx,q2⟩=>vo (hi pins s2 σ H2 _ I2 q2) fun iv s3 ⟨y,H3,I3,ry,a,H4,ex,g,q3⟩=>?_) hs
 subst ex
 obtain rfl:u=Value.ref a:=rx
 exact zi8 hu I3 g ry rv fun s4 I4=>⟨σ,H4,I4,q3⟩
end
theorem zfE {P:Program}{w:World}{H:Hp}(h:Heap)(hb:sysModules<h.objs.size):wF P w H (h.push { cls:=.type "dict", data:=.dict #[] }) h.objs.size (.dK []) :=
 ⟨zvW _,beq_eq_false_iff_ne.mpr (Ne.symm (zvP hb)),[],.nil,Heap.DictOf.new h⟩
def zoi:TE:=fun _ H Q=>∀p,H p=none->Q (.ref p) (upd H p (.dK []))
section
variable {X:Cx}{pos:Pos}
theorem Ke:PE X (.Dict [] [] pos) zoi:=fun pins s σ H Q I h =>
 wpAny_Dict_empty ⟨.ref s.heap.objs.size,_,I.laid (a:=s.heap.objs.size) (o:=.dK []) (t':=s.toks) (fun _ _ q=>zvG _ q) (zvQ _) (zfE s.heap I.big),rfl,h _ (I.hok.fresh (zvQ _))⟩
end
def zhe:List (TE×TE)->St->Hp->(List (V×V)->Hp->Prop)->Prop
 | [],_,H,Q=>Q [] H
 | (tk,tv)::r,σ,H,Q=>tk σ H fun x H1=>tv σ H1 fun y H2=>zhe r σ H2 fun ps H3=>Q ((x,y)::ps) H3
abbrev VV:List (V×V)->List (Value×Value)->Prop:=Paired fun p q=>RelV p.1 q.1/\RelV p.2 q.2
def PPs (X:Cx)(pos:Pos)(keys:List (Option Expr))(values:List Expr)(trs:List (TE×TE)):Prop :=
 ∀(pins:List (Addr×Obj)) (s:Shared) (σ:St) (H:Hp) (Q:List (V×V)->Hp->Prop),Inv X pins σ H s->zhe trs σ H Q ->
  wpAny (model X.prog X.w) X.A (evalPairs (pairTrees keys values X.env pos)) (fun vs s'=>∃ps H',Inv X pins σ H' s'/\VV ps vs/\Q ps H') X.xe s
theorem zmi {X:Cx}{pos:Pos}:PPs X pos [] [] []:=fun pins s σ H Q I h=>pairTrees_nil_walk ⟨[],H,I,.nil,h⟩
theorem zfF {X:Cx}{pos:Pos}{k v:Expr}{ks:List (Option Expr)}{vs:List Expr}{tk tv:TE}{trs:List (TE×TE)}(hk:PE X k tk)(hv:PE X v tv)(hr:PPs X pos ks vs trs) :
  PPs X pos (some k::ks) (v::vs) ((tk,tv)::trs):=fun pins s σ H Q I h =>
 pairTrees_cons_walk (vo (hk pins s σ H _ I h) fun u s1 ⟨x,H1,I1,rx,q1⟩=>vo (hv pins s1 σ H1 _ I1 q1) fun w2 s2 ⟨y,H2,I2,ry,q2⟩ =>
  vo (hr pins s2 σ H2 _ I2 q2) fun ws s3 ⟨ps,H3,I3,rel,q3⟩=>⟨(x,y)::ps,H3,I3,.cons ⟨rx,ry⟩ rel,q3⟩)
def XD (kvs more:List (Key×V)):List (Key×V):=more.foldl (fun acc kv=>putK acc kv.1 kv.2) kvs
theorem KV.merge:∀{more:List (Key×V)} {rs:List (Key×Value)} {kvs:List (Key×V)} {vs:List (Key×Value)},KV more rs->KV kvs vs->KV (XD kvs more) (merged vs rs):=by
 intro more rs kvs vs r
 unfold KV at r
 induction r generalizing kvs vs with
 | nil=>intro q;exact q
 | @cons p q ps qs h t ih =>
  intro r0
  have e:KV (putK kvs p.1 p.2) (stored vs q.1 q.2):=by
   have:=r0.put p.1 h.2
   rw[<-h.1];exact this
  exact ih e
theorem V8:∀(more kvs:List (Key×V)),(XD kvs more).length<=kvs.length+more.length
 | [],kvs=>by show kvs.length<=kvs.length+0;omega
 | p::r,kvs=>by
  have h1:=V8 r (putK kvs p.1 p.2)
  have h2:=Z5 kvs p.1 p.2
  show(XD (putK kvs p.1 p.2) r).length<=_
  rw[zvM];omega
theorem zbM {P:Program}{w:World}:∀{kvs:List (Key×V)} {ws:List (Value×Value)},VV (kvs.map fun kv=>(kV kv.1,kv.2)) ws->∃rs,Carries (yS P w) ws rs/\KV kvs rs
 | [],_,r=>by rw[List.map_nil] at r;cases r;exact⟨[],True.intro,.nil⟩
 | p::kvs,_,r=>by
  rw[zvY] at r
  cases r with
  | @cons a b as bs h t =>
   obtain⟨rs,c,q⟩:=zbM (P:=P) (w:=w) t
   obtain⟨b1,b2⟩:=b
   exact⟨(p.1,b2)::rs,⟨zdB h.1,rfl,c⟩,.cons ⟨rfl,h.2⟩ q⟩
def zpR (trs:List (TE×TE)):TE:=fun σ H Q=>∀p,H p=none->zhe trs σ (upd H p (.dK [])) fun ps H2=>H2 p=some (.dK [])/\∃kvs:List (Key×V),ps=kvs.map (fun kv=>(kV kv.1,kv.2))/\kvs.length<=15/\Q (.ref p) (upd H2 p (.dK (XD [] kvs)))
theorem zmj {X:Cx}{pos:Pos}{keys:List (Option Expr)}{values:List Expr}{trs:List (TE×TE)}(h:PPs X pos keys values trs)(hall:keys.all (·.isSome)=true)(hl:keys.length=values.length)(h0:keys≠[])
  (h15:keys.length<=15):PE X (.Dict keys values pos) (zpR trs):=by
 intro pins s σ H Q I q
 have hn:=I.hok.fresh (zvQ s.heap.objs.size)
 have I1:=I.laid (a:=s.heap.objs.size) (o:=.dK []) (h':=s.heap.push { cls:=.type "dict", data:=.dict #[] }) (t':=s.toks) (fun _ _ q=>zvG _ q) (zvQ _) (zfE s.heap I.big)
 refine wpAny_Dict_walk (knd:=yS X.prog X.w) hall hl h0 h15 (vo (h pins _ σ _ _ I1 (q _ hn)) fun ws s2 ⟨ps,H2,I2,rel,e,kvs,ep,lk,q2⟩=>?_)
 subst ep
 obtain⟨rs,c,rk⟩:=zbM (P:=X.prog) (w:=X.w) rel
 obtain⟨z,hd,vs0,r0,dd⟩:=znl I2.hok e
 cases r0
 refine⟨rs,c,dd,fun h' dd' hs=>⟨.ref s.heap.objs.size,_,?_,rfl,q2⟩⟩
 have hz:(XD [] kvs).length<=sizeLine:=by
  have h1:=V8 kvs []
  rw[List.length_nil] at h1
  rw[sizeLine_eq];omega
 have he:∃q,h'.get? s.heap.objs.size=some q:=let ⟨q,_,_,hq,_⟩:=dd';⟨q,hq⟩
 exact zer I2 (by rw[e];exact True.intro) hs he (zhd hz hd (rk.merge .nil) dd')
inductive Ph (K:Frag)(H:Hp):Nat->V->V->Bool->Prop
 | flat {n:Nat} {x y:V} (fx:vG x=true) (fy:vG y=true):Ph K H n x y (eqV x y)
 | tt {n:Nat} {p q:Addr} {xs ys:List V} {e:Nat->Bool} (hp:vO K H p xs) (hq:vO K H q ys) (h:∀(j:Nat) x y,xs[j]?=some x->ys[j]?=some y->Ph K H n x y (e j)) :
   Ph K H (n+1) (.ref p) (.ref q) ((List.range (min xs.length ys.length)).all e&&xs.length==ys.length)
 | ll {n:Nat} {p q:Addr} {xs ys:List V} {e:Nat->Bool} (hp:zX K H p xs) (hq:zX K H q ys) (hl:xs.length=ys.length) (h:∀(j:Nat) x y,xs[j]?=some x->ys[j]?=some y->Ph K H n x y (e j)) :
   Ph K H (n+1) (.ref p) (.ref q) ((List.range xs.length).all e)
 | ln {n:Nat} {p q:Addr} {xs ys:List V} (hp:zX K H p xs) (hq:zX K H q ys) (hl:xs.length≠ys.length):Ph K H (n+1) (.ref p) (.ref q) false
 | lt {n:Nat} {p q:Addr} {xs ys:List V} (hp:zX K H p xs) (hq:vO K H q ys):Ph K H (n+1) (.ref p) (.ref q) false
 | tl {n:Nat} {p q:Addr} {xs ys:List V} (hp:vO K H p xs) (hq:zX K H q ys):Ph K H (n+1) (.ref p) (.ref q) false
 | lf {n:Nat} {p:Addr} {xs:List V} {y:V} (hp:zX K H p xs) (fy:vG y=true):Ph K H (n+1) (.ref p) y false
 | fl {n:Nat} {p:Addr} {xs:List V} {y:V} (hp:zX K H p xs) (fy:vG y=true):Ph K H (n+1) y (.ref p) false
 | tf {n:Nat} {p:Addr} {xs:List V} {y:V} (hp:vO K H p xs) (fy:vG y=true):Ph K H (n+1) (.ref p) y false
 | ft {n:Nat} {p:Addr} {xs:List V} {y:V} (hp:vO K H p xs) (fy:vG y=true):Ph K H (n+1) y (.ref p) false
section
variable {X:Cx}{pins:List (Addr×Obj)}{σ:St}{H:Hp}{s:Shared}
theorem zbN {x:V}(f:vG x=true):eqV x x=true:=by
 cases x<;>first | rfl | (simp[eqV];done) | exact absurd (show false=true from f) zvE
theorem Qc (I:Inv X pins σ H s){p:Addr}{xs ys:List V}(h:zX X.K H p xs)(k:vO X.K H p ys):False:=by
 obtain⟨_,_,⟨o,n,e,c,_⟩,_⟩:=I.list h
 obtain⟨_,_,⟨o',e',c',_⟩,_⟩:=I.tuple k
 rw[e] at e'
 cases e'
 rw[c] at c'
 injection c' with z
 exact absurd z (by decide)
theorem Ph.refl (I:Inv X pins σ H s){n:Nat}{x y:V}{b:Bool}(h:Ph X.K H n x y b):x=y->b=true:=by
 induction h with
 | flat fx fy=>intro e;subst e;exact zbN fx
 | tt hp hq h ih =>
  intro e
  cases e
  have ee:=I.zdh hp hq
  subst ee
  rw[Nat.min_self,beq_self_eq_true,Bool.and_true,zv3]
  intro j hj
  have hj':=List.mem_range.mp hj
  exact ih j _ _ (zvB hj') (zvB hj') rfl
 | ll hp hq hl h ih =>
  intro e
  cases e
  have ee:=I.WM hp hq
  subst ee
  rw[zv3]
  intro j hj
  have hj':=List.mem_range.mp hj
  exact ih j _ _ (zvB hj') (zvB hj') rfl
 | ln hp hq hl =>
  intro e
  cases e
  exact absurd (congrArg List.length (I.WM hp hq)) hl
 | lt hp hq=>intro e;cases e;exact(Qc I hp hq).elim
 | tl hp hq=>intro e;cases e;exact(Qc I hq hp).elim
 | lf hp fy=>intro e;subst e;exact absurd (show false=true from fy) zvE
 | fl hp fy=>intro e;subst e;exact absurd (show false=true from fy) zvE
 | tf hp fy=>intro e;subst e;exact absurd (show false=true from fy) zvE
 | ft hp fy=>intro e;subst e;exact absurd (show false=true from fy) zvE
theorem Pj {A:Around}{u:Value}{y:V}{p:Addr}{its:Array Value}(hl:s.heap.IsList p its)(fy:vG y=true)(ry:RelV y u)(hu:A.units<cLine):SeqAt.RcAt A s (.ref p) u false/\SeqAt.EqAt A s (.ref p) u false/\SeqAt.RcAt A s u (.ref p) false/\SeqAt.EqAt A s u (.ref p) false/\SeqAt.RcNeAt A s (.ref p) u true/\SeqAt.RcNeAt A s u (.ref p) true:=by
 cases y with
 | non=>cases ry;exact⟨.list_none hl hu,.list_none hl hu,.none_list hl hu,.none_list hl hu,.list_none hl hu,.none_list hl hu⟩
 | bl b=>cases ry;exact⟨.list_bool b hl hu,.list_bool b hl hu,.bool_list b hl hu,.bool_list b hl hu,.list_bool b hl hu,.bool_list b hl hu⟩
 | int i=>obtain⟨t,rfl⟩:=ry;exact⟨.list_int i t hl hu,.list_int i t hl hu,.int_list i t hl hu,.int_list i t hl hu,.list_int i t hl hu,.int_list i t hl hu⟩
 | str i=>obtain⟨t,rfl⟩:=ry;exact⟨.list_str i t hl hu,.list_str i t hl hu,.str_list i t hl hu,.str_list i t hl hu,.list_str i t hl hu,.str_list i t hl hu⟩
 | _=>exact absurd (show false=true from fy) zvE
theorem T6 {A:Around}{u:Value}{y:V}{p:Addr}{its:Array Value}(hl:s.heap.IsTuple p its)(fy:vG y=true)(ry:RelV y u)(hu:A.units<cLine):SeqAt.RcAt A s (.ref p) u false/\SeqAt.EqAt A s (.ref p) u false/\SeqAt.RcAt A s u (.ref p) false/\SeqAt.EqAt A s u (.ref p) false/\SeqAt.RcNeAt A s (.ref p) u true/\SeqAt.RcNeAt A s u (.ref p) true:=by
 cases y with
 | non=>cases ry;exact⟨.tuple_none hl hu,.tuple_none hl hu,.none_tuple hl hu,.none_tuple hl hu,.tuple_none hl hu,.none_tuple hl hu⟩
 | bl b=>cases ry;exact⟨.tuple_bool b hl hu,.tuple_bool b hl hu,.bool_tuple b hl hu,.bool_tuple b hl hu,.tuple_bool b hl hu,.bool_tuple b hl hu⟩
 | int i=>obtain⟨t,rfl⟩:=ry;exact⟨.tuple_int i t hl hu,.tuple_int i t hl hu,.int_tuple i t hl hu,.int_tuple i t hl hu,.tuple_int i t hl hu,.int_tuple i t hl hu⟩
 | str i=>obtain⟨t,rfl⟩:=ry;exact⟨.tuple_str i t hl hu,.tuple_str i t hl hu,.str_tuple i t hl hu,.str_tuple i t hl hu,.tuple_str i t hl hu,.str_tuple i t hl hu⟩
 | _=>exact absurd (show false=true from fy) zvE
theorem item_at {xs:List V}{us:List Value}(r:Vals xs us){j:Nat}(h:j<us.toArray.size):∃x,xs[j]?=some x/\RelV x us.toArray[j]:=by
 have hl:=r.length
 have hj:j<xs.length:=by simp at h;omega
 obtain⟨u,hu,ru⟩:=r.get (zvB hj)
 refine⟨xs[j],zvB hj,?_⟩
 have e:us.toArray[j]=u:=by
  have:=(zvD.mp hu).2
  simpa using this
 rw[e];exact ru
theorem Ph.at {n:Nat}{x y:V}{b:Bool}(h:Ph X.K H n x y b)(I:Inv X pins σ H s):∀{A:Around} {u v:Value},RelV x u->RelV y v->A.units+n<cLine->SeqAt.EqAt A s u v b:=by
 induction h with
 | flat fx fy=>intro A u v rx ry _;exact zj8 rx ry fx fy
 | @tt n p q xs ys e hp hq h ih =>
  intro A u v rx ry hu
  cases rx
  cases ry
  obtain⟨us,r1,t1,_⟩:=I.tuple hp
  obtain⟨ws,r2,t2,_⟩:=I.tuple hq
  have l1:=r1.length
  have l2:=r2.length
  by_cases hne:p=q
  ·subst hne
   have z:=(Ph.tt hp hq h).refl I rfl
   rw[z]
   exact SeqAt.EqAt.same _
  ·refine SeqAt.EqAt.of_refs hne ?_
   have z:=SeqAt.RcAt.tuples (A:=A) (e:=e) t1 t2 (by omega) fun j h1 h2=>by
    obtain⟨x,hx,rx⟩:=item_at r1 h1
    obtain⟨y,hy,ry⟩:=item_at r2 h2
    exact ih j x y hx hy rx ry (by show A.units+1+n<cLine;omega)
   rw[zvK,zvK,<-l1,<-l2] at z
   exact z
 | @ll n p q xs ys e hp hq hl h ih =>
  intro A u v rx ry hu
  cases rx
  cases ry
  obtain⟨us,r1,t1,_⟩:=I.list hp
  obtain⟨ws,r2,t2,_⟩:=I.list hq
  have l1:=r1.length
  have l2:=r2.length
  by_cases hne:p=q
  ·subst hne
   have z:=(Ph.ll hp hq hl h).refl I rfl
   rw[z]
   exact SeqAt.EqAt.same _
  ·refine SeqAt.EqAt.of_refs hne ?_
   have z:=SeqAt.RcAt.lists (A:=A) (e:=e) t1.isList t2.isList (by simp;omega) (by omega) fun j h1 h2=>by
    obtain⟨x,hx,rx⟩:=item_at r1 h1
    obtain⟨y,hy,ry⟩:=item_at r2 h2
    exact ih j x y hx hy rx ry (by show A.units+1+n<cLine;omega)
   rw[zvK,<-l1] at z
   exact z
 | @ln n p q xs ys hp hq hl =>
  intro A u v rx ry hu
  cases rx
  cases ry
  obtain⟨us,r1,t1,_⟩:=I.list hp
  obtain⟨ws,r2,t2,_⟩:=I.list hq
  have l1:=r1.length
  have l2:=r2.length
  have hne:p≠q:=fun e=>by subst e;exact hl (congrArg List.length (I.WM hp hq))
  exact SeqAt.EqAt.of_refs hne (SeqAt.RcAt.lists_lengths t1.isList t2.isList (by simp;omega) (by omega))
 | lt hp hq =>
  intro A u v rx ry hu
  cases rx
  cases ry
  obtain⟨us,r1,t1,_⟩:=I.list hp
  obtain⟨ws,r2,t2,_⟩:=I.tuple hq
  exact SeqAt.EqAt.list_tuple t1.isList t2 (by omega)
 | tl hp hq =>
  intro A u v rx ry hu
  cases rx
  cases ry
  obtain⟨us,r1,t1,_⟩:=I.tuple hp
  obtain⟨ws,r2,t2,_⟩:=I.list hq
  exact SeqAt.EqAt.tuple_list t1 t2.isList (by omega)
 | lf hp fy =>
  intro A u v rx ry hu
  cases rx
  obtain⟨us,r1,t1,_⟩:=I.list hp
  exact(Pj t1.isList fy ry (by omega)).2.1
 | fl hp fy =>
  intro A u v rx ry hu
  cases ry
  obtain⟨us,r1,t1,_⟩:=I.list hp
  exact(Pj t1.isList fy rx (by omega)).2.2.2.1
 | tf hp fy =>
  intro A u v rx ry hu
  cases rx
  obtain⟨us,r1,t1,_⟩:=I.tuple hp
  exact(T6 t1 fy ry (by omega)).2.1
 | ft hp fy =>
  intro A u v rx ry hu
  cases ry
  obtain⟨us,r1,t1,_⟩:=I.tuple hp
  exact(T6 t1 fy rx (by omega)).2.2.2.1
theorem Ph.rc {n:Nat}{x y:V}{b:Bool}(h:Ph X.K H n x y b)(I:Inv X pins σ H s)(hn:¬(vG x=true/\vG y=true)){A:Around}{u v:Value}(rx:RelV x u)(ry:RelV y v)(hu:A.units+n<cLine):SeqAt.RcAt A s u v b/\SeqAt.RcNeAt A s u v (!b):=by
 cases h with
 | flat fx fy=>exact absurd ⟨fx,fy⟩ hn
 | @tt n p q xs ys e hp hq h =>
  cases rx
  cases ry
  obtain⟨us,r1,t1,_⟩:=I.tuple hp
  obtain⟨ws,r2,t2,_⟩:=I.tuple hq
  have l1:=r1.length
  have l2:=r2.length
  have he:∀j (h1:j<us.toArray.size) (h2:j<ws.toArray.size),SeqAt.EqAt A.in1 s us.toArray[j] ws.toArray[j] (e j):=fun j h1 h2=>by
   obtain⟨x,hx,rx⟩:=item_at r1 h1
   obtain⟨y,hy,ry⟩:=item_at r2 h2
   exact(h j x y hx hy).at I rx ry (by show A.units+1+n<cLine;omega)
  have z:=SeqAt.RcAt.tuples (A:=A) (e:=e) t1 t2 (by omega) he
  have z2:=SeqAt.RcNeAt.tuples (A:=A) (e:=e) t1 t2 (by omega) he
  rw[zvK,zvK,<-l1,<-l2] at z z2
  exact⟨z,z2⟩
 | @ll n p q xs ys e hp hq hl h =>
  cases rx
  cases ry
  obtain⟨us,r1,t1,_⟩:=I.list hp
  obtain⟨ws,r2,t2,_⟩:=I.list hq
  have l1:=r1.length
  have l2:=r2.length
  have he:∀j (h1:j<us.toArray.size) (h2:j<ws.toArray.size),SeqAt.EqAt A.in1 s us.toArray[j] ws.toArray[j] (e j):=fun j h1 h2=>by
   obtain⟨x,hx,rx⟩:=item_at r1 h1
   obtain⟨y,hy,ry⟩:=item_at r2 h2
   exact(h j x y hx hy).at I rx ry (by show A.units+1+n<cLine;omega)
  have z:=SeqAt.RcAt.lists (A:=A) (e:=e) t1.isList t2.isList (by simp;omega) (by omega) he
  have z2:=SeqAt.RcNeAt.lists (A:=A) (e:=e) t1.isList t2.isList (by simp;omega) (by omega) he
  rw[zvK,<-l1] at z z2
  exact⟨z,z2⟩
 | @ln n p q xs ys hp hq hl =>
  cases rx
  cases ry
  obtain⟨us,r1,t1,_⟩:=I.list hp
  obtain⟨ws,r2,t2,_⟩:=I.list hq
  have l1:=r1.length
  have l2:=r2.length
  exact⟨SeqAt.RcAt.lists_lengths t1.isList t2.isList (by simp;omega) (by omega),SeqAt.RcNeAt.lists_lengths t1.isList t2.isList (by simp;omega) (by omega)⟩
 | lt hp hq =>
  cases rx
  cases ry
  obtain⟨us,r1,t1,_⟩:=I.list hp
  obtain⟨ws,r2,t2,_⟩:=I.tuple hq
  exact⟨SeqAt.RcAt.list_tuple t1.isList t2 (by omega),SeqAt.RcNeAt.list_tuple t1.isList t2 (by omega)⟩
 | tl hp hq =>
  cases rx
  cases ry
  obtain⟨us,r1,t1,_⟩:=I.tuple hp
  obtain⟨ws,r2,t2,_⟩:=I.list hq
  exact⟨SeqAt.RcAt.tuple_list t1 t2.isList (by omega),SeqAt.RcNeAt.tuple_list t1 t2.isList (by omega)⟩
 | lf hp fy =>
  cases rx
  obtain⟨us,r1,t1,_⟩:=I.list hp
  have z:=Pj (A:=A) t1.isList fy ry (by omega)
  exact⟨z.1,z.2.2.2.2.1⟩
 | fl hp fy =>
  cases ry
  obtain⟨us,r1,t1,_⟩:=I.list hp
  have z:=Pj (A:=A) t1.isList fy rx (by omega)
  exact⟨z.2.2.1,z.2.2.2.2.2⟩
 | tf hp fy =>
  cases rx
  obtain⟨us,r1,t1,_⟩:=I.tuple hp
  have z:=T6 (A:=A) t1 fy ry (by omega)
  exact⟨z.1,z.2.2.2.2.1⟩
 | ft hp fy =>
  cases ry
  obtain⟨us,r1,t1,_⟩:=I.tuple hp
  have z:=T6 (A:=A) t1 fy rx (by omega)
  exact⟨z.2.2.1,z.2.2.2.2.2⟩
end
section
variable {X:Cx}
theorem zhf {K:Frag}(hK:X.K=K)(hu:X.A.units+8<cLine):Vp X (compareOp .Eq) (fun x y H Q=>∃b,¬(vG x=true/\vG y=true)/\Ph K H 8 x y b/\Q (.bl b) H):=by
 subst hK
 intro pins s σ H x y v u Q I rx ry h
 obtain⟨b,hn,he,q⟩:=h
 exact(he.rc I hn rx ry hu).1 X.prog X.w X.xe _ ⟨.bl b,H,I,rfl,q⟩
theorem zoj {K:Frag}(hK:X.K=K)(hu:X.A.units+8<cLine):Vp X (compareOp .NotEq) (fun x y H Q=>∃b,¬(vG x=true/\vG y=true)/\Ph K H 8 x y b/\Q (.bl (!b)) H):=by
 subst hK
 intro pins s σ H x y v u Q I rx ry h
 obtain⟨b,hn,he,q⟩:=h
 exact(he.rc I hn rx ry hu).2 X.prog X.w X.xe _ ⟨.bl (!b),H,I,rfl,q⟩
theorem hu8 {A:Around}{k:Nat}(hr:uJ k A):A.units+8<cLine:=by have:=hr.units;omega
theorem zok {K:Frag}{H:Hp}{x:V}{n:Nat}{e:V->Bool}:∀{xs:List V} {us:List Value},Vals xs us->(∀y∈xs,Ph K H n y x (e y))->∃f:Value->Bool,(∀(i:Nat) y u,xs[i]?=some y->us[i]?=some u->f u=e y)/\us.any f=xs.any e:=by
 intro xs us r h
 refine⟨fun u=>match zcJ u with | some y=>e y | none=>false,fun i y u hy hu=>?_,?_⟩
 ·obtain⟨u',hu',ru⟩:=r.get hy
  rw[hu] at hu'
  cases hu'
  show(match zcJ u with | some y=>e y | none=>false)=e y
  rw[ru.abs]
 ·clear h
  induction r with
  | nil=>rfl
  | cons r t ih =>
   rw[List.any_cons,List.any_cons,ih]
   congr 1
   show(match zcJ _ with | some y=>e y | none=>false)=_
   rw[r.abs]
theorem zfG:∀{xs:List V} {us:List Value},xs.length=us.length->(∀(j:Nat) u,us[j]?=some u->∃x,xs[j]?=some x/\RelV x u)->Vals xs us
 | [],[],_,_=>.nil
 | [],_::_,h,_=>by simp at h
 | _::_,[],h,_=>by simp at h
 | x::xs,u::us,hl,h=>by
  obtain⟨x',e,r⟩:=h 0 u rfl
  cases e
  refine .cons r (zfG (by simpa using hl) fun j v hv=>?_)
  obtain⟨y,e,r⟩:=h (j+1) v (by simpa using hv)
  exact⟨y,by simpa using e,r⟩
theorem JL (hc:X.calm=true):WR X (.builtin "sorted") (fun xs H Q=>∃(p:Addr) (kvs:List (Key×V)) (ns:List Int),xs=[.ref p]/\H p=some (.dK kvs)/\kvs.map (·.1)=ns.map Sum.inl/\ns.length<64/\∀(l:Addr) (ms:List Int),H l=none->ms.Perm ns->ms.Pairwise (·<=·)->Q (.ref l) (upd H l (.lst (ms.map V.int)))):=by
 intro pins s σ H xs us Q I r h
 obtain⟨p,kvs,ns,rfl,hp,hns,h64,q⟩:=h
 obtain⟨u,rfl,rx⟩:=vals1 r
 cases rx
 obtain⟨hz,lo,vs,rv,hD⟩:=(show kvs.length<=sizeLine/\(p==sysModules)=false/\∃vs,KV kvs vs/\s.heap.DictOf (yS X.prog X.w) p vs from I.hok p _ hp)
 obtain⟨ep,hat⟩:=hD.dictAt
 have hl:kvs.length=vs.length:=Paired.length rv
 have hnl:kvs.length=ns.length:=by have:=congrArg List.length hns;rw[zvA,zvA] at this;exact this
 refine Calls.call_function_entry kind_sorted plain_sorted entry_sorted (args_sorted1 _) ?_
 unfold Builtin.«sorted»
 refine wpAny_bind (m:=checkCount "sorted" 1 1 _) (wpAny_pure ?_)
 refine wpAny_bind (PySem.W.kdu_collect (PySem.W.kdl_dict (knd:=yS X.prog X.w) (kvs:=vs) (ep:=ep) lo) (I.ok.hd hc) hat (by omega) fun h' tk acc hk hacc=>?_)
 have hoL:(h'.push (seqObj "list" acc.toList.toArray 0)).get? h'.objs.size=some (seqObj "list" acc.toList.toArray 0):=zvU _ rfl
 have hv:Vals (ns.map V.int) acc.toList:=by
  refine zfG (by rw[zvA];have:=hacc.1;simp;omega) fun j v hv=>?_
  obtain⟨k,x,hx,hkv⟩:=hacc.2 j v (by rw[<-Array.getElem?_toList];exact hv)
  obtain⟨y,hy,e1,_⟩:=Nm rv hx
  have e2:(ns.map (Sum.inl:Int->Key))[j]?=some y.1:=by rw[<-hns,zvC,hy];rfl
  rw[zvC] at e2
  cases hj:ns[j]? with
  | none=>rw[hj] at e2;cases e2
  | some i =>
   rw[hj] at e2
   have e3:(Sum.inl i:Key)=y.1:=zv4 e2
   refine⟨.int i,by rw[zvC,hj];rfl,?_⟩
   have e1':y.1=k:=e1
   rw[<-e1',<-e3] at hkv
   rcases wC (k:=(Sum.inl i:Key)) (v:=v) hkv with ⟨i',t,e4,rfl⟩ | ⟨z,t,e4,rfl⟩
   ·cases e4;exact⟨_,rfl⟩
   ·cases e4
 have hi:IntsAre acc.toList ns:=intsAre_of hv
 have hal:acc.toList.length=ns.length:=hi.length
 refine wpAny_bind (wpAny_newList ?_ (hsz:=by rw[hal];exact zvS (yc (by omega))))
 show wpAny _ _ _ _ _ { s with heap:=h'.push (seqObj "list" acc.toList.toArray 0),toks:=tk }
 refine wpAny_bind (wpAny_holding (wpAny_call_entry slot_list_sort ⟨_,hoL,rfl⟩ entry_list_sort (list_sort_tree hoL hi (by omega) fun out ms a1 a2 a3=>⟨_,rfl,?_⟩) (args_list_sort _)))
 refine wpAny_pure ⟨_,rfl,?_⟩
 have I1:Inv X pins σ H { s with heap:=h',toks:=tk }:=I.kept hk
 obtain⟨e,he⟩:=sortedHeap_at (vs:=acc.toList) (out:=out) hoL
 have hf:H h'.objs.size=none:=I1.hok.fresh (zvQ _)
 have hlm:=a2.length_eq
 have s64:=yc (n:=ms.length) (by omega)
 refine⟨.ref h'.objs.size,_,I1.laid (o:=.lst (ms.map V.int)) (fun b o e=>?_) (zvQ _) ?_,rfl,q _ ms hf a2 a3⟩
 ·have lb:=zvH e
  rw[sortedHeap_old (zvP lb) (by rw[size_push'];exact Nat.lt_succ_of_lt lb)]
  exact zvG _ e
 ·refine⟨by rw[zvA];exact zvS s64,out.toList,e,Jv a1,?_⟩
  simpa using he
end
end L2
namespace zZ
abbrev Rm:=Option (Nat×Nat×Nat)
def RM (n:Nat)(rs:List Rm)(k:Nat):Nat:=match rs[k]? with
 | some (some (i,_,_))=>i
 | _=>n
structure Bk (n:Nat)(rs:List Rm):Prop where
 h0:rs[0]?=some none
 h1:rs[1]?=some none
 rm:∀k,2<=k->k<rs.length->∃i lo hi,rs[k]?=some (some (i,lo,hi))/\i<n/\lo<k/\hi<k/\lo≠hi/\i<RM n rs lo/\i<RM n rs hi
 uq:∀(k l:Nat) (x:Nat×Nat×Nat),rs[k]?=some (some x)->rs[l]?=some (some x)->k=l
abbrev Row:=Nat->Bool
def put (r:Row)(i:Nat)(v:Bool):Row:=fun j=>if j=i then v else r j
def lead (rs:List Rm)(r:Row):Nat->Nat->Nat
 | 0,k=>k
 | f+1,k=>match rs[k]? with
  | some (some (i,lo,hi))=>lead rs r f (if r i then hi else lo)
  | _=>k
theorem zdE {n:Nat}{rs:List Rm}(B:Bk n rs)(r:Row):∀(f g k:Nat),k<=f->k<=g->k<rs.length->lead rs r f k=lead rs r g k
 | 0,0,k,_,_,_=>rfl
 | 0,g+1,k,h,_,_=>by
  have e:k=0:=by omega
  subst e
  show 0=lead rs r (g+1) 0
  unfold lead
  rw[B.h0]
 | f+1,0,k,_,h,_=>by
  have e:k=0:=by omega
  subst e
  show lead rs r (f+1) 0=0
  unfold lead
  rw[B.h0]
 | f+1,g+1,k,hf,hg,hk=>by
  by_cases h2:2<=k
  ·obtain⟨i,lo,hi,e,_,hlo,hhi,_⟩:=B.rm k h2 hk
   unfold lead
   rw[e]
   show lead rs r f (if r i then hi else lo)=lead rs r g (if r i then hi else lo)
   refine zdE B r f g _ ?_ ?_ ?_<;>(split<;>omega)
  ·have:k=0\/k=1:=by omega
   rcases this with e | e<;>subst e<;>unfold lead
   ·rw[B.h0]
   ·rw[B.h1]
def yes (rs:List Rm)(k:Nat)(r:Row):Bool:=lead rs r k k==1
section
variable {n:Nat}{rs:List Rm}(B:Bk n rs)
include B
theorem len2:2<=rs.length:=by
 have:=(zvD.mp B.h1).1
 omega
theorem zkz (r:Row):yes rs 0 r=false:=rfl
theorem Y6 (r:Row):yes rs 1 r=true:=by
 unfold yes lead
 rw[B.h1]
 rfl
theorem zi9 {k i lo hi:Nat}(e:rs[k]?=some (some (i,lo,hi)))(r:Row):lead rs r k k=lead rs r (if r i then hi else lo) (if r i then hi else lo):=by
 have hk:=(zvD.mp e).1
 have k2:2<=k:=by
  by_cases h:2<=k
  ·exact h
  ·exfalso
   have:k=0\/k=1:=by omega
   rcases this with z | z<;>subst z
   ·rw[B.h0] at e;cases e
   ·rw[B.h1] at e;cases e
 obtain⟨i',lo',hi',e',_,hlo,hhi,_⟩:=B.rm k k2 hk
 rw[e] at e'
 cases e'
 obtain⟨m,rfl⟩:∃m,k=m+1:=⟨k-1,by omega⟩
 show(match rs[m+1]? with | some (some (i,lo,hi))=>lead rs r m (if r i then hi else lo) | _=>m+1)=_
 rw[e]
 show lead rs r m (if r i then hi else lo)=_
 refine zdE B r _ _ _ ?_ (zvQ _) ?_<;>(split<;>omega)
theorem Ux {k i lo hi:Nat}(e:rs[k]?=some (some (i,lo,hi)))(r:Row):yes rs k r=if r i then yes rs hi r else yes rs lo r:=by
 unfold yes
 rw[zi9 B e r]
 split<;>rfl
theorem YF {k i lo hi:Nat}(e:rs[k]?=some (some (i,lo,hi))):RM n rs k=i:=by unfold RM;rw[e]
theorem zbO:RM n rs 0=n:=by unfold RM;rw[B.h0]
theorem Kf:RM n rs 1=n:=by unfold RM;rw[B.h1]
theorem Pk:∀(m k:Nat),k<=m->k<rs.length->∀{r r':Row},(∀i,RM n rs k<=i->i<n->r i=r' i)->yes rs k r=yes rs k r'
 | m,k,hm,hk,r,r',h=>by
  by_cases h2:2<=k
  ·obtain⟨i,lo,hi,e,hin,hlo,hhi,_,l1,l2⟩:=B.rm k h2 hk
   have lk:=YF B e
   rw[Ux B e,Ux B e,h i (by omega) hin]
   match m,hm with
   | 0,hm=>omega
   | m+1,hm =>
    rw[Pk m hi (by omega) (by omega) fun j hj hjn=>h j (by omega) hjn,Pk m lo (by omega) (by omega) fun j hj hjn=>h j (by omega) hjn]
  ·have:k=0\/k=1:=by omega
   rcases this with z | z<;>subst z
   ·rfl
   ·rw[Y6 B,Y6 B]
theorem Ye {k i:Nat}(hk:k<rs.length)(h:i<RM n rs k)(r:Row)(v:Bool):yes rs k (put r i v)=yes rs k r:=by
 refine Pk B k k (zvQ _) hk fun j hj _=>?_
 unfold put
 rw[if_neg (by omega)]
theorem T7 {k i lo hi:Nat}(e:rs[k]?=some (some (i,lo,hi)))(hk:k<rs.length)(r:Row):yes rs k (put r i false)=yes rs lo r/\yes rs k (put r i true)=yes rs hi r:=by
 have k2:2<=k:=by
  by_cases h:2<=k
  ·exact h
  ·exfalso
   have:k=0\/k=1:=by omega
   rcases this with z | z<;>subst z
   ·rw[B.h0] at e;cases e
   ·rw[B.h1] at e;cases e
 obtain⟨i',lo',hi',e',_,hlo,hhi,_,l1,l2⟩:=B.rm k k2 hk
 rw[e] at e'
 cases e'
 constructor
 ·rw[Ux B e]
  have z:put r i false i=false:=by unfold put;rw[if_pos rfl]
  rw[z,if_neg zvE]
  exact Ye B (by omega) l1 r false
 ·rw[Ux B e]
  have z:put r i true i=true:=by unfold put;rw[if_pos rfl]
  rw[z,if_pos rfl]
  exact Ye B (by omega) l2 r true
theorem Xu:∀(m k l:Nat),(k<=m/\l<=m)->k<rs.length->l<rs.length->(∀r,yes rs k r=yes rs l r)->k=l
 | m,k,l,hm,hk,hl,h=>by
  by_cases k2:2<=k
  ·obtain⟨i,lo,hi,e,hin,hlo,hhi,hne,l1,l2⟩:=B.rm k k2 hk
   by_cases l2':2<=l
   ·obtain⟨j,lo',hi',e',hjn,hlo',hhi',hne',l1',l2''⟩:=B.rm l l2' hl
    match m,hm with
    | 0,hm=>omega
    | m+1,hm =>
     rcases Nat.lt_trichotomy i j with q | q | q
     ·exfalso
      refine hne (Xu m lo hi (by omega) (by omega) (by omega) fun r=>?_)
      have z:=T7 B e hk r
      rw[<-z.1,<-z.2,h,h,Ye B hl (by rw[YF B e'];exact q),Ye B hl (by rw[YF B e'];exact q)]
     ·subst q
      have a1:lo=lo':=Xu m lo lo' (by omega) (by omega) (by omega) fun r=>by rw[<-(T7 B e hk r).1,<-(T7 B e' hl r).1,h]
      have a2:hi=hi':=Xu m hi hi' (by omega) (by omega) (by omega) fun r=>by rw[<-(T7 B e hk r).2,<-(T7 B e' hl r).2,h]
      subst a1 a2
      exact B.uq k l _ e e'
     ·exfalso
      refine hne' (Xu m lo' hi' (by omega) (by omega) (by omega) fun r=>?_)
      have z:=T7 B e' hl r
      rw[<-z.1,<-z.2,<-h,<-h,Ye B hk (by rw[YF B e];exact q),Ye B hk (by rw[YF B e];exact q)]
   ·exfalso
    match m,hm with
    | 0,hm=>omega
    | m+1,hm =>
     have ll:RM n rs l=n:=by
      have:l=0\/l=1:=by omega
      rcases this with z | z<;>subst z
      ·exact zbO B
      ·exact Kf B
     refine hne (Xu m lo hi (by omega) (by omega) (by omega) fun r=>?_)
     have z:=T7 B e hk r
     rw[<-z.1,<-z.2,h,h,Ye B hl (by omega),Ye B hl (by omega)]
  ·by_cases l2':2<=l
   ·exfalso
    obtain⟨j,lo',hi',e',hjn,hlo',hhi',hne',l1',l2''⟩:=B.rm l l2' hl
    match m,hm with
    | 0,hm=>omega
    | m+1,hm =>
     have ll:RM n rs k=n:=by
      have:k=0\/k=1:=by omega
      rcases this with z | z<;>subst z
      ·exact zbO B
      ·exact Kf B
     refine hne' (Xu m lo' hi' (by omega) (by omega) (by omega) fun r=>?_)
     have z:=T7 B e' hl r
     rw[<-z.1,<-z.2,<-h,<-h,Ye B hk (by omega),Ye B hk (by omega)]
   ·have a:k=0\/k=1:=by omega
    have b:l=0\/l=1:=by omega
    have z:=h fun _=>false
    rcases a with a | a<;>rcases b with b | b<;>subst a<;>subst b
    ·rfl
    ·rw[zkz B,Y6 B] at z;cases z
    ·rw[zkz B,Y6 B] at z;cases z
    ·rfl
end
theorem Yg {rs:List Rm}{x:Rm}{k:Nat}(h:k<rs.length):(rs++[x])[k]?=rs[k]?:=zv6 h
theorem Qd {n:Nat}{rs:List Rm}{x:Rm}{k:Nat}(h:k<rs.length):RM n (rs++[x]) k=RM n rs k:=by
 unfold RM;rw[Yg h]
theorem Bk.snoc {n:Nat}{rs:List Rm}(B:Bk n rs){i lo hi:Nat}(hin:i<n)(hlo:lo<rs.length)(hhi:hi<rs.length)(hne:lo≠hi)(l1:i<RM n rs lo)(l2:i<RM n rs hi)(new:some (i,lo,hi)∉rs):Bk n (rs++[some (i,lo,hi)]) where
 h0:=by rw[Yg (by have:=len2 B;omega)];exact B.h0
 h1:=by rw[Yg (by have:=len2 B;omega)];exact B.h1
 rm:=fun k h2 hk=>by
  rw[zvI,zv7] at hk
  by_cases hlt:k<rs.length
  ·obtain⟨i',lo',hi',e,a1,a2,a3,a4,a5,a6⟩:=B.rm k h2 hlt
   exact⟨i',lo',hi',by rw[Yg hlt];exact e,a1,a2,a3,a4,by rw[Qd (by omega)];exact a5,by rw[Qd (by omega)];exact a6⟩
  ·have e:k=rs.length:=by omega
   subst e
   exact⟨i,lo,hi,by simp,hin,hlo,hhi,hne,by rw[Qd hlo];exact l1,by rw[Qd hhi];exact l2⟩
 uq:=fun k l x hk hl=>by
  have lk:=(zvD.mp hk).1
  have ll:=(zvD.mp hl).1
  rw[zvI,zv7] at lk ll
  have last:∀m,m=rs.length->(rs++[some (i,lo,hi)])[m]?=some (some x)->x=(i,lo,hi):=fun m hm h=>by
   subst hm
   simp at h
   exact h.symm
  by_cases h1:k<rs.length
  ·by_cases h2:l<rs.length
   ·rw[Yg h1] at hk
    rw[Yg h2] at hl
    exact B.uq k l x hk hl
   ·exfalso
    have e:=last l (by omega) hl
    subst e
    rw[Yg h1] at hk
    exact new (zvF hk)
  ·by_cases h2:l<rs.length
   ·exfalso
    have e:=last k (by omega) hk
    subst e
    rw[Yg h2] at hl
    exact new (zvF hl)
   ·omega
theorem zdF {n:Nat}{rs:List Rm}(B:Bk n rs){x:Rm}(r:Row):∀(f k:Nat),k<rs.length->lead (rs++[x]) r f k=lead rs r f k
 | 0,_,_=>rfl
 | f+1,k,hk=>by
  unfold lead
  rw[Yg hk]
  by_cases h2:2<=k
  ·obtain⟨i,lo,hi,e,_,hlo,hhi,_⟩:=B.rm k h2 hk
   rw[e]
   show lead (rs++[x]) r f (if r i then hi else lo)=lead rs r f (if r i then hi else lo)
   exact zdF B r f _ (by split<;>omega)
  ·have:k=0\/k=1:=by omega
   rcases this with z | z<;>subst z
   ·rw[B.h0]
   ·rw[B.h1]
theorem zfH {n:Nat}{rs:List Rm}(B:Bk n rs){x:Rm}{k:Nat}(hk:k<rs.length)(r:Row):yes (rs++[x]) k r=yes rs k r:=by
 unfold yes;rw[zdF B r k k hk]
def tH (rs rs':List Rm):Prop:=∃xs,rs'=rs++xs
theorem tH.refl (rs:List Rm):tH rs rs:=⟨[],by simp⟩
theorem tH.trans {a b c:List Rm}(h:tH a b)(k:tH b c):tH a c:=by
 obtain⟨x,rfl⟩:=h
 obtain⟨y,rfl⟩:=k
 exact⟨x++y,by rw[List.append_assoc]⟩
theorem tH.len {a b:List Rm}(h:tH a b):a.length<=b.length:=by
 obtain⟨x,rfl⟩:=h
 rw[zvI];omega
theorem tH.get {a b:List Rm}(h:tH a b){k:Nat}(hk:k<a.length):b[k]?=a[k]?:=by
 obtain⟨x,rfl⟩:=h
 exact zv6 hk
theorem tH.snoc (rs:List Rm)(x:Rm):tH rs (rs++[x]):=⟨[x],rfl⟩
theorem tH.RM {n:Nat}{a b:List Rm}(h:tH a b){k:Nat}(hk:k<a.length):RM n b k=RM n a k:=by
 unfold zZ.RM;rw[h.get hk]
theorem tH.lead {n:Nat}{a b:List Rm}(B:Bk n a)(h:tH a b)(r:Row):∀(f k:Nat),k<a.length->lead b r f k=lead a r f k
 | 0,_,_=>rfl
 | f+1,k,hk=>by
  unfold zZ.lead
  rw[h.get hk]
  by_cases h2:2<=k
  ·obtain⟨i,lo,hi,e,_,hlo,hhi,_⟩:=B.rm k h2 hk
   rw[e]
   show zZ.lead b r f (if r i then hi else lo)=zZ.lead a r f (if r i then hi else lo)
   exact tH.lead B h r f _ (by split<;>omega)
  ·have:k=0\/k=1:=by omega
   rcases this with z | z<;>subst z
   ·rw[B.h0]
   ·rw[B.h1]
theorem tH.yes {n:Nat}{a b:List Rm}(B:Bk n a)(h:tH a b){k:Nat}(hk:k<a.length)(r:Row):yes b k r=yes a k r:=by
 unfold zZ.yes;rw[tH.lead B h r k k hk]
end zZ
namespace L2
theorem hu9 {A:PySem.Around}{k:Nat}(hr:uJ k A):A.units+9<PySem.cLine:=by have:=hr.units;omega
end L2
namespace WX
open PySem L2 zZ
abbrev xW:=Addr->Prop
def zol (F:xW)(H H':Hp):Prop:=∀x o,H x=some o->¬F x->H' x=some o
def zpS (H:Hp)(F F':xW):Prop:=∀x,F' x->F x\/H x=none
def zdG:List Str:=["room", "size", "order", "enter", "worth_at", "below"]
structure Kg (C:Addr)(B:Hp->Addr->List Str->List Rm->xW->Prop):Prop where
 ins:∀{H b os rs F},B H b os rs F->∃dx fs,H b=some (.ins C dx fs)/\∀m∈zdG,fs.lookup m=none
 frame:∀{H H' b os rs F},B H b os rs F->(∀x o,H x=some o->F x->H' x=some o)->xO H H'->B H' b os rs F
 there:∀{H b os rs F x},B H b os rs F->F x->H x≠none
 bk:∀{H b os rs F},B H b os rs F->Bk os.length rs
 ord:∀{H b os rs F},B H b os rs F->zau os
theorem Kg.same {C:Addr}{B:Hp->Addr->List Str->List Rm->xW->Prop}(L:Kg C B){H H':Hp}{b:Addr}{os:List Str}{rs:List Rm}{F:xW}(h:B H b os rs F)(g:Same H H'):B H' b os rs F :=
 L.frame h (fun x o e _=>g x o e) (xO.of g)
def zr0 (os:List Str)(r:Row):Str->Bool:=fun x=>r (ix os x)
section
variable (B:Hp->Addr->List Str->List Rm->xW->Prop)(K:Frag)(C:Addr)
inductive Mj (vs:List V)(H:Hp)(Q:VK)(E9:XK):Prop
 | mk (b dx l:Addr) (os:List Str) (_:vs=[.ref b,.ref l]) (_:H b=some (.ins C dx [])) (_:b≠dx) (_:zX K H l (os.map V.str)) (_:zau os) (_:∀(H':Hp) (F:xW),(∀x o,H x=some o->x≠b->H' x=some o)->B H' b os [none,none] F->(∀x,F x->x=b\/x=dx\/H x=none)->Q .non H'):Mj vs H Q E9
inductive T8 (vs:List V)(H:Hp)(Q:VK)(E9:XK):Prop
 | mk (b:Addr) (os:List Str) (rs:List Rm) (F:xW) (_:vs=[.ref b]) (_:B H b os rs F) (_:∀H',Same H H'->Q (.int (rs.length:Nat)) H'):T8 vs H Q E9
inductive vI (vs:List V)(H:Hp)(Q:VK)(E9:XK):Prop
 | mk (b:Addr) (os:List Str) (rs:List Rm) (F:xW) (_:vs=[.ref b]) (_:B H b os rs F) (_:∀(l:Addr) (H':Hp),Same H H'->H l=none->H' l=some (.lst (os.map V.str))->Q (.ref l) H'):vI vs H Q E9
def zr1 (b:Addr)(os:List Str)(H:Hp)(rs:List Rm)(F:xW)(n:Nat)(f:Row->Bool)(Q:VK):Prop:=∀(k:Nat) (rs':List Rm) (F':xW) (H':Hp),zol F H H'->xO H H'->B H' b os rs' F'->zpS H F F'->tH rs rs'->k<rs'.length->(∀r,yes rs' k r=f r)->rs'.length<=rs.length+n->Q (.int (k:Nat)) H'
inductive Qe (vs:List V)(H:Hp)(Q:VK)(E9:XK):Prop
 | mk (b p:Addr) (os:List Str) (rs:List Rm) (F:xW) (s:Sn) (_:vs=[.ref b,.ref p]) (_:B H b os rs F) (_:rs.length<=8000000) (_:P0 H s p) (_:s.Jp os) (_:s.count<=200) (_:s.depth<=24) (_:zr1 B b os H rs F 200000 (fun r=>s.val (zr0 os r)) Q):Qe vs H Q E9
end
end WX
namespace L2
open PySem PySem.Spec PyProof.Rows
theorem zja:bootBuiltins "sorted"=some (.builtin "sorted"):=by decide +kernel
end L2
namespace L2
open PySem
theorem V9 {X:Cx}{all rest:List Stmt}{D:Ends}{Tf:TS->TS}{Pre:St->Hp->Prop}(Mid:St->Hp->Prop)(h1:∀t,PSs X rest t->PSs X all (Tf t))(h:∀u:TS,(∀ σ H,Mid σ H->u D σ H)->∀ σ H,Pre σ H->Tf u D σ H)
  (hr:∃t,PSs X rest t/\∀ σ H,Mid σ H->t D σ H):∃t,PSs X all t/\∀ σ H,Pre σ H->t D σ H :=
 let ⟨t,a,b⟩:=hr
 ⟨Tf t,h1 t a,h t b⟩
theorem zpT {X:Cx}{all:List Stmt}{D:Ends}{σ:St}{H:Hp}(h:∃t,PSs X all t/\∀ σ' H',(σ'=σ/\H'=H)->t D σ' H'):∃t,PSs X all t/\t D σ H :=
 let ⟨t,a,b⟩:=h
 ⟨t,a,b _ _ ⟨rfl,rfl⟩⟩
end L2
namespace WX
open PySem L2 zZ
section
variable (B:Hp->Addr->List Str->List Rm->xW->Prop)
structure Led (H0:Hp)(b:Addr)(os:List Str)(n:Nat)(H:Hp)(rs:List Rm)(F:xW):Prop where
 same:Same H0 H
 away:∀x,F x->H0 x=none
 bk:B H b os rs F
 len:rs.length<=n
end
section
variable {B:Hp->Addr->List Str->List Rm->xW->Prop}{C:Addr}{H0:Hp}{b:Addr}{os:List Str}{n:Nat}{H:Hp}{rs:List Rm}{F:xW}
theorem Led.new (L:Kg C B)(h:Led B H0 b os n H rs F){H':Hp}(g:Same H H'):Led B H0 b os n H' rs F:=⟨h.same.trans g,h.away,L.same h.bk g,h.len⟩
theorem Led.grow (h:Led B H0 b os n H rs F){m:Nat}{H':Hp}{rs':List Rm}{F':xW}(aw:zol F H H')(hB:B H' b os rs' F')(nf:zpS H F F')(hl:rs'.length<=rs.length+m):Led B H0 b os (n+m) H' rs' F' :=
 ⟨fun x o e=>aw x o (h.same _ _ e) fun z=>(by have:=h.away x z;rw[this] at e;cases e),fun x hx=>(nf x hx).elim (h.away x) (fun z=>h.same.free z),hB,zvV hl (Nat.add_le_add_right h.len _)⟩
end
end WX
namespace zZ
open WX
def zcP (b:Nat):Row:=fun i=>b.testBit i
def bits (r:Row):Nat->Nat
 | 0=>0
 | n+1=>if r n then bits r n+2^n else bits r n
theorem ZG (r:Row):∀n,bits r n<2^n
 | 0=>Nat.zero_lt_one
 | n+1=>by
  have ih:=ZG r n
  unfold bits
  rw[Nat.pow_succ]
  split<;>omega
theorem Xv (r:Row):∀{n i:Nat},i<n->(bits r n).testBit i=r i
 | 0,i,h=>by omega
 | n+1,i,h=>by
  have lt:=ZG r n
  have z:(bits r n).testBit n=false:=Nat.testBit_lt_two_pow lt
  unfold bits
  by_cases e:i=n
  ·subst e
   cases hr:r i
   ·rw[if_neg zvE];exact z
   ·rw[if_pos rfl,ur,z];rfl
  ·have hi:i<n:=by omega
   split
   ·rw[Q7 hi];exact Xv r hi
   ·exact Xv r hi
theorem T9 {n a b:Nat}(ha:a<2^n)(hb:b<2^n)(h:∀i,i<n->a.testBit i=b.testBit i):a=b :=
 Nat.eq_of_testBit_eq fun i=>by
  by_cases hi:i<n
  ·exact h i hi
  ·have:2^n<=2^i:=zv5 (by decide) (by omega)
   rw[Nat.testBit_lt_two_pow (by omega),Nat.testBit_lt_two_pow (by omega)]
theorem zfI {r:Row}{n i:Nat}(hi:i<n)(v:Bool):bits (put r i v) n=yt (bits r n) i v:=by
 refine T9 (ZG _ _) (xq (ZG _ _) hi) fun j hj=>?_
 rw[Xv _ hj,yE,Xv _ hj]
 rfl
theorem Pn {n b:Nat}(h:b<2^n):bits (zcP b) n=b:=T9 (ZG _ _) h fun i hi=>by rw[Xv _ hi];rfl
theorem zkA {n:Nat}{rs:List Rm}(B:Bk n rs){k:Nat}(hk:k<rs.length)(r:Row):yes rs k (zcP (bits r n))=yes rs k r :=
 Pk B k k (zvQ _) hk fun i _ hi=>Xv r hi
theorem zir {n N M:Nat}{f g:Nat->Bool}(h:xM n N f)(k:xM n M g)(e:∀b,b<2^n->f b=g b):N=M :=
 Nat.eq_of_testBit_eq fun i=>by
  rw[h i,k i]
  by_cases hi:i<2^n
  ·rw[e i hi]
  ·rw[decide_eq_false hi];rfl
theorem zbj {n N:Nat}{f:Nat->Bool}(h:xM n N f){b:Nat}(hb:b<2^n):N.testBit b=f b:=by rw[h b,decide_eq_true hb];rfl
def Free (n:Nat)(f:Nat->Bool)(p:Nat):Prop:=∀b,b<2^n->∀v,f (yt b p v)=f b
theorem wY (b p:Nat):yt b p (b.testBit p)=b:=by unfold yt;rw[if_pos rfl]
theorem Free.zmk {n p:Nat}{f:Nat->Bool}(h:∀b,b<2^n->f (yt b p (!b.testBit p))=f b):Free n f p:=fun b hb v=>by
 by_cases e:v=b.testBit p
 ·rw[e,wY]
 ·have:v=!b.testBit p:=by cases v<;>cases hh:b.testBit p<;>simp_all
  rw[this];exact h b hb
theorem zcQ {n:Nat}{f:Nat->Bool}(h:∀p,p<n->Free n f p):∀b,b<2^n->f b=f 0:=by
 have key:∀m b,m<=n->b<2^n->(∀i,m<=i->i<n->b.testBit i=false)->f b=f 0:=by
  intro m
  induction m with
  | zero =>
   intro b _ hb hz
   have:b=0:=T9 hb (Nat.two_pow_pos n) fun i hi=>by rw[hz i (zvW _) hi,Nat.zero_testBit]
   rw[this]
  | succ m ih =>
   intro b hm hb hz
   rw[<-h m (by omega) b hb false]
   refine ih _ (by omega) (xq hb (by omega)) fun i hi hin=>?_
   rw[yE]
   by_cases e:i=m
   ·rw[if_pos e]
   ·rw[if_neg e];exact hz i (by omega) hin
 exact fun b hb=>key n b (zvQ _) hb fun i hi hin=>by omega
theorem zom {n:Nat}{rs:List Rm}(B:Bk n rs){k p:Nat}(hk:k<rs.length)(hp:p<n)(h:∀i,i<=p->∀r v,yes rs k (put r i v)=yes rs k r):p<RM n rs k:=by
 by_cases k2:2<=k
 ·obtain⟨i,lo,hi,e,hin,hlo,hhi,hne,l1,l2⟩:=B.rm k k2 hk
  rw[YF B e]
  by_cases hip:i<=p
  ·exfalso
   refine hne (Xu B (max lo hi) lo hi ⟨Nat.le_max_left _ _,Nat.le_max_right _ _⟩ (by omega) (by omega) fun r=>?_)
   have z:=T7 B e hk r
   rw[<-z.1,<-z.2,h i hip,h i hip]
  ·omega
 ·have:k=0\/k=1:=by omega
  rcases this with z | z<;>subst z
  ·rw[zbO B];exact hp
  ·rw[Kf B];exact hp
theorem zkB {n m p k0 k1:Nat}{rs:List Rm}{f:Nat->Bool}(B:Bk n rs)(hp:p<n)(m0:k0<rs.length)(m1:k1<rs.length)
  (y0:∀r,yes rs k0 r=f (yt (bits r n) p false))(y1:∀r,yes rs k1 r=f (yt (bits r n) p true))(fr:∀i,i<p->Free n f i)
  (dep:∃b,b<2^n/\f (yt b p false)≠f (yt b p true))(old:∀j,j<m->¬∀r,yes rs j r=f (bits r n))(hl:∀j,m<=j->j<rs.length->p<RM n rs j) :
  Bk n (rs++[some (p,k0,k1)])/\∀r,yes (rs++[some (p,k0,k1)]) rs.length r=f (bits r n):=by
 have pb:∀(r:Row) v,yt (bits r n) p v<2^n:=fun r v=>xq (ZG _ _) hp
 have low:∀(k:Nat) (w:Bool),k<rs.length->(∀r,yes rs k r=f (yt (bits r n) p w))->p<RM n rs k:=fun k w hk hy=>zom B hk hp fun i hi r v=>by
  rw[hy,hy,zfI (by omega)]
  by_cases e:i=p
  ·subst e
   congr 1
   refine T9 (xq (xq (ZG _ _) hp) hp) (pb r w) fun j _=>?_
   rw[yE,yE,yE]
   by_cases e:j=i
   ·rw[if_pos e,if_pos e]
   ·rw[if_neg e,if_neg e,if_neg e]
  ·rw[<-fr i (by omega) _ (pb r w) v]
   congr 1
   refine T9 (xq (xq (ZG _ _) (by omega)) hp) (xq (pb r w) (by omega)) fun j _=>?_
   rw[yE,yE,yE,yE]
   by_cases e1:j=p
   ·rw[if_pos e1,if_pos e1,if_neg (by omega)]
   ·rw[if_neg e1,if_neg e1]
 have ne:k0≠k1:=fun e=>by
  subst e
  obtain⟨b,hb,hne⟩:=dep
  refine hne ?_
  have a:=y0 (zcP b)
  have c:=y1 (zcP b)
  rw[Pn hb] at a c
  exact a.symm.trans c
 have fin:∀(R:List Rm) (k:Nat),Bk n R->R[k]?=some (some (p,k0,k1))->(∀j,j<rs.length->∀r,yes R j r=yes rs j r)->∀r,yes R k r=f (bits r n):=fun R k BR e same r=>by
  rw[Ux BR e,same _ m1,same _ m0,y0,y1]
  have hb:=Xv r hp
  cases hr:r p
  ·rw[if_neg zvE]
   rw[hr] at hb
   conv=>rhs;rw[<-wY (bits r n) p,hb]
  ·rw[if_pos rfl]
   rw[hr] at hb
   conv=>rhs;rw[<-wY (bits r n) p,hb]
 have new:some (p,k0,k1)∉rs:=fun h=>by
  obtain⟨j,hj,e⟩:=zwe h
  have e':rs[j]?=some (some (p,k0,k1)):=by rw[zvB hj,e]
  by_cases hm:j<m
  ·exact old j hm (fin rs j B e' fun _ _ _=>rfl)
  ·have:=hl j (by omega) hj
   rw[YF B e'] at this
   omega
 have B':=B.snoc hp m0 m1 ne (low k0 false m0 y0) (low k1 true m1 y1) new
 refine⟨B',fin _ _ B' (by simp) fun j hj r=>?_⟩
 exact zfH B hj r
structure zfJ (n:Nat)(rs:List Rm)(ts:List Nat):Prop where
 len:ts.length=rs.length
 tab:∀(j t:Nat),ts[j]?=some t->xM n t (fun b=>yes rs j (zcP b))
theorem zfJ.snoc {n:Nat}{rs:List Rm}(B:Bk n rs){ts:List Nat}{x:Rm}{t:Nat}(h:zfJ n rs ts)(k:xM n t (fun b=>yes (rs++[x]) rs.length (zcP b))):zfJ n (rs++[x]) (ts++[t]):=by
 refine⟨by rw[zvI,zvI,h.len];rfl,fun j u e=>?_⟩
 by_cases hj:j<ts.length
 ·rw[zv6 hj] at e
  refine uO (h.tab j u e) fun b _=>?_
  rw[zfH B (by rw[<-h.len];exact hj)]
 ·have lt:=(zvD.mp e).1
  rw[zvI,zv7] at lt
  have ej:j=ts.length:=by omega
  subst ej
  simp at e
  subst e
  rw[h.len]
  exact k
theorem zfJ.find {n:Nat}{rs:List Rm}(B:Bk n rs){ts:List Nat}(h:zfJ n rs ts){j t:Nat}{f:Nat->Bool}(e:ts[j]?=some t)(tb:xM n t f)(r:Row):yes rs j r=f (bits r n):=by
 have hj:j<rs.length:=by rw[<-h.len];exact(zvD.mp e).1
 rw[<-zkA B hj,<-zbj tb (ZG r n),zbj (h.tab j t e) (ZG r n)]
theorem zfJ.same {n:Nat}{rs:List Rm}{ts:List Nat}(h:zfJ n rs ts){j t:Nat}{f:Nat->Bool}(hj:j<rs.length)(tb:xM n t f)(hy:∀r,yes rs j r=f (bits r n)):ts[j]?=some t:=by
 have lt:j<ts.length:=by rw[h.len];exact hj
 rw[zvB lt]
 congr 1
 refine zir (h.tab j _ (zvB lt)) tb fun b hb=>?_
 show yes rs j (zcP b)=f b
 rw[hy,Pn hb]
end zZ
namespace WX
open PySem L2 zZ
structure Nums (ts:List Nat)(kvs:List (Key×V)):Prop where
 get:∀(j t:Nat),ts[j]?=some t->Vr kvs (Sum.inl (t:Int))=some (.int (j:Nat))
 non:∀t:Nat,t∉ts->Vr kvs (Sum.inl (t:Int))=none
 len:kvs.length<=ts.length
theorem Nums.snoc {ts:List Nat}{kvs:List (Key×V)}(h:Nums ts kvs){t:Nat}(ht:t∉ts):Nums (ts++[t]) (putK kvs (Sum.inl (t:Int)) (.int (ts.length:Nat))):=by
 refine⟨fun j u e=>?_,fun u hu=>?_,?_⟩
 ·rw[zbK]
  by_cases hj:j<ts.length
  ·rw[zv6 hj] at e
   have hm:=zvF e
   rw[if_neg fun z=>?_]
   ·exact h.get j u e
   ·have:(u:Int)=(t:Int):=Sum.inl.inj z
    have:u=t:=by omega
    exact ht (this ▸ hm)
  ·have lt:=(zvD.mp e).1
   rw[zvI,zv7] at lt
   have ej:j=ts.length:=by omega
   subst ej
   simp at e
   subst e
   rw[if_pos rfl]
 ·rw[zbK,if_neg fun z=>?_]
  ·exact h.non u fun z=>hu (List.mem_append_left _ z)
  ·have:(u:Int)=(t:Int):=Sum.inl.inj z
   have:u=t:=by omega
   exact hu (this ▸ zvR _ zvT)
 ·have:=Z5 kvs (Sum.inl (t:Int)) (.int (ts.length:Nat))
  have:=h.len
  rw[zvI,zv7]
  omega
def zpU (n j:Nat):Rm->List V
 | none=>[.int (n:Nat),.int (j:Nat),.int (j:Nat)]
 | some (i,lo,hi)=>[.int (i:Nat),.int (lo:Nat),.int (hi:Nat)]
def zhg (j:Nat)(x:Rm)(v:Bool):Nat:=match x with
 | none=>j
 | some (_,lo,hi)=>if v then hi else lo
def JM (ml rl tl nd:Addr):List (Str×V):=[("marks", .ref ml),("rooms", .ref rl),("tables", .ref tl),("numbers", .ref nd)]
structure Parts (C:Addr)(H:Hp)(b:Addr)(os:List Str)(rs:List Rm)(F:xW)(dx ml rl tl nd:Addr)(rv:List V)(ts:List Nat)(kvs:List (Key×V)):Prop where
 hb:H b=some (.ins C dx (JM ml rl tl nd))
 hm:H ml=some (.lst (os.map V.str))
 hr:H rl=some (.lst rv)
 ht:H tl=some (.lst (ts.map fun t=>V.int (t:Nat)))
 hd:H nd=some (.dK kvs)
 mr:ml≠rl
 mt:ml≠tl
 rt:rl≠tl
 ord:zau os
 bk:Bk os.length rs
 len:rv.length=rs.length
 rm:∀(j:Nat) x,rs[j]?=some x->∃p,rv[j]?=some (.ref p)/\H p=some (.tup (zpU os.length j x))
 tabs:zfJ os.length rs ts
 nums:Nums ts kvs
 ft:∀x,F x↔(x=b\/x=ml\/x=rl\/x=tl\/x=nd)
def yp (C:Addr)(H:Hp)(b:Addr)(os:List Str)(rs:List Rm)(F:xW):Prop:=∃dx ml rl tl nd rv ts kvs,Parts C H b os rs F dx ml rl tl nd rv ts kvs
theorem Parts.frame {C:Addr}{H H':Hp}{b:Addr}{os:List Str}{rs:List Rm}{F:xW}{dx ml rl tl nd:Addr}{rv:List V}{ts:List Nat}{kvs:List (Key×V)}(h:Parts C H b os rs F dx ml rl tl nd rv ts kvs)
  (s:∀x o,H x=some o->F x->H' x=some o)(t:xO H H'):Parts C H' b os rs F dx ml rl tl nd rv ts kvs :=
 {h with
  hb:=s _ _ h.hb ((h.ft _).mpr (.inl rfl))
  hm:=s _ _ h.hm ((h.ft _).mpr (.inr (.inl rfl)))
  hr:=s _ _ h.hr ((h.ft _).mpr (.inr (.inr (.inl rfl))))
  ht:=s _ _ h.ht ((h.ft _).mpr (.inr (.inr (.inr (.inl rfl)))))
  hd:=s _ _ h.hd ((h.ft _).mpr (.inr (.inr (.inr (.inr rfl)))))
  rm:=fun j x e=>let ⟨p,a,c⟩:=h.rm j x e;⟨p,a,t _ _ c⟩ }
theorem z9 (C:Addr):Kg C (yp C) where
 ins:=fun⟨dx,ml,rl,tl,nd,rv,ts,kvs,h⟩=>⟨dx,_,h.hb,fun m hm=>by
  simp only[zdG,List.mem_cons,zv0,or_false] at hm
  rcases hm with z | z | z | z | z | z<;>subst z<;>rfl⟩
 frame:=fun⟨dx,ml,rl,tl,nd,rv,ts,kvs,h⟩ s t=>⟨dx,ml,rl,tl,nd,rv,ts,kvs,h.frame s t⟩
 there:=fun⟨dx,ml,rl,tl,nd,rv,ts,kvs,h⟩ hx=>by
  rcases (h.ft _).mp hx with z | z | z | z | z<;>subst z
  ·rw[h.hb];exact fun z=>by cases z
  ·rw[h.hm];exact fun z=>by cases z
  ·rw[h.hr];exact fun z=>by cases z
  ·rw[h.ht];exact fun z=>by cases z
  ·rw[h.hd];exact fun z=>by cases z
 bk:=fun⟨_,_,_,_,_,_,_,_,h⟩=>h.bk
 ord:=fun⟨_,_,_,_,_,_,_,_,h⟩=>h.ord
theorem Parts.more {C:Addr}{H H':Hp}{b:Addr}{os:List Str}{rs:List Rm}{F:xW}{dx ml rl tl nd:Addr}{rv:List V}{ts:List Nat}{kvs:List (Key×V)}(h:Parts C H b os rs F dx ml rl tl nd rv ts kvs)
  {i lo hi t:Nat}{q:Addr}(t':xO H H')(hb:H' b=H b)(hm:H' ml=H ml)(hr:H' rl=some (.lst (rv++[.ref q])))(ht:H' tl=some (.lst (ts.map (fun t=>V.int (t:Nat))++[.int (t:Nat)])))
  (hd:H' nd=some (.dK (putK kvs (Sum.inl (t:Int)) (.int (rs.length:Nat)))))(hq:H' q=some (.tup [.int (i:Nat),.int (lo:Nat),.int (hi:Nat)]))(B':Bk os.length (rs++[some (i,lo,hi)]))(hn:t∉ts)(tb:xM os.length t (fun b=>yes (rs++[some (i,lo,hi)]) rs.length (zcP b))) :
  Parts C H' b os (rs++[some (i,lo,hi)]) F dx ml rl tl nd (rv++[.ref q]) (ts++[t]) (putK kvs (Sum.inl (t:Int)) (.int (rs.length:Nat))) :=
 {hb:=by rw[hb];exact h.hb
  hm:=by rw[hm];exact h.hm
  hr:=hr
  ht:=by rw[ht,zvO];rfl
  hd:=hd
  mr:=h.mr
  mt:=h.mt
  rt:=h.rt
  ord:=h.ord
  bk:=B'
  len:=by rw[zvI,zvI,h.len];rfl
  rm:=fun j x e=>by
   by_cases hj:j<rs.length
   ·rw[zv6 hj] at e
    obtain⟨p,a,c⟩:=h.rm j x e
    exact⟨p,by rw[zv6 (by rw[h.len];exact hj)];exact a,t' _ _ c⟩
   ·have lt:=(zvD.mp e).1
    rw[zvI,zv7] at lt
    have ej:j=rs.length:=by omega
    subst ej
    simp at e
    subst e
    exact⟨q,by rw[<-h.len];simp,hq⟩
  tabs:=h.tabs.snoc h.bk tb
  nums:=by
   have z:=h.nums.snoc hn
   rw[h.tabs.len] at z
   exact z
  ft:=h.ft }
inductive Kh (vs:List V)(H:Hp)(Q:VK)(E9:XK):Prop
 | mk (N p n:Nat) (v:Bool) (f:Nat->Bool) (_:vs=[.int N,.int p,.int (v.toNat:Nat),.int n]) (_:p<n) (_:n<=8) (_:xM n N f) (_:∀R:Nat,xM n R (fun b=>f (yt b p v))->Q (.int R) H):Kh vs H Q E9
inductive zbk (vs:List V)(H:Hp)(Q:VK)(E9:XK):Prop
 | mk (N n:Nat) (f:Nat->Bool) (_:vs=[.int N,.int n]) (_:n<=8) (_:xM n N f) (_:∀p:Nat,p<=n->(∀i,i<p->Free n f i)->(p<n->∃b,b<2^n/\f (yt b p false)≠f (yt b p true))->Q (.int p) H):zbk vs H Q E9
inductive xJ (C:Addr)(vs:List V)(H:Hp)(Q:VK)(E9:XK):Prop
 | mk (b:Addr) (os:List Str) (rs:List Rm) (F:xW) (k:Nat) (_:vs=[.ref b,.int k]) (_:yp C H b os rs F) (_:k<rs.length) (_:Q .non H):xJ C vs H Q E9
inductive Pq (C:Addr)(vs:List V)(H:Hp)(Q:VK)(E9:XK):Prop
 | mk (b:Addr) (os:List Str) (rs:List Rm) (F:xW) (k:Nat) (_:vs=[.ref b,.int k]) (_:yp C H b os rs F) (_:k<rs.length) (_:Q (.int (RM os.length rs k:Nat)) H):Pq C vs H Q E9
inductive Kl (C:Addr)(vs:List V)(H:Hp)(Q:VK)(E9:XK):Prop
 | mk (b:Addr) (os:List Str) (rs:List Rm) (F:xW) (k:Nat) (x:Rm) (v:Bool) (_:vs=[.ref b,.int k,.int (v.toNat:Nat)]) (_:yp C H b os rs F) (_:rs[k]?=some x) (_:Q (.int (zhg k x v:Nat)) H):Kl C vs H Q E9
inductive W0 (C:Addr)(d:Nat)(vs:List V)(H:Hp)(Q:VK)(E9:XK):Prop
 | mk (b:Addr) (os:List Str) (rs:List Rm) (F:xW) (t u:Nat) (f:Nat->Bool) (_:vs=[.ref b,.int t]) (_:yp C H b os rs F) (_:rs.length+2^d<=9000000) (_:u<=os.length) (_:os.length+1<=u+d) (_:xM os.length t f) (_:(∀i,i<u->Free os.length f i)) (_:∀(k:Nat) (rs':List Rm) (H':Hp),zol F H H'->xO H H'->yp C H' b os rs' F->tH rs rs'->k<rs'.length->(∀r,yes rs' k r=f (bits r os.length))->rs'.length+1<=rs.length+2^d->(∀j,rs.length<=j->j<rs'.length->u<=RM os.length rs' j)->Q (.int (k:Nat)) H'):W0 C d vs H Q E9
inductive zes (vs:List V)(H:Hp)(Q:VK)(E9:XK):Prop
 | mk (N p n:Nat) (f:Nat->Bool) (_:vs=[.int N,.int p,.int n]) (_:p<n) (_:n<=8) (_:xM n N f) (_:∀b:Bool,(b=false->Free n f p)->(b=true->∃c,c<2^n/\f (yt c p false)≠f (yt c p true))->Q (.bl b) H):zes vs H Q E9
end WX
namespace zZ
open WX
def allR:Nat->List (List Bool)
 | 0=>[[]]
 | n+1=>(allR n).flatMap fun r=>[r++[false],r++[true]]
def tK (r:List Bool):Row:=fun i=>r.getD i false
theorem Uy:∀(n:Nat) (r:List Bool),r∈allR n->r.length=n
 | 0,r,h=>by
  have:r=[]:=by simpa [allR] using h
  rw[this];rfl
 | n+1,r,h=>by
  obtain⟨x,hx,hr⟩:=List.mem_flatMap.mp h
  have ih:=Uy n x hx
  simp at hr
  rcases hr with z | z<;>rw[z,zvI,ih]<;>rfl
theorem Uz {α β:Type}(f:α->List β)(h:∀a,(f a).length=2):∀l:List α,(l.flatMap f).length=2*l.length
 | []=>rfl
 | a::l=>by rw[List.flatMap_cons,zvI,h a,Uz f h l,zvM];omega
theorem JN:∀n,(allR n).length=2^n
 | 0=>rfl
 | n+1=>by
  show((allR n).flatMap _).length=_
  rw[Uz _ (fun _=>rfl),JN n,Nat.pow_succ];omega
def ZR (rs:List Rm)(k p:Nat)(v:Bool):Nat:=match rs[k]? with
 | some (some (i,lo,hi))=>if i=p then (if v then hi else lo) else k
 | _=>k
def wk (rs:List Rm)(k:Nat)(r:Row):Nat->Nat
 | 0=>k
 | i+1=>ZR rs (wk rs k r i) i (r i)
section
variable {n:Nat}{rs:List Rm}(B:Bk n rs)
include B
theorem zbP {k p:Nat}{v:Bool}(h:k<=1):ZR rs k p v=k:=by
 unfold ZR
 have:k=0\/k=1:=by omega
 rcases this with z | z<;>subst z
 ·rw[B.h0]
 ·rw[B.h1]
theorem zet {m i:Nat}{r:Row}(hm:m<rs.length)(hi:i<n)(hl:i<=RM n rs m):ZR rs m i (r i)<rs.length/\i+1<=RM n rs (ZR rs m i (r i))/\yes rs (ZR rs m i (r i)) r=yes rs m r:=by
 by_cases h2:2<=m
 ·obtain⟨j,lo,hi',e,hjn,hlo,hhi,hne,l1,l2⟩:=B.rm m h2 hm
  have lk:=YF B e
  have ys:=Ux B e r
  unfold ZR
  rw[e]
  by_cases ej:j=i
  ·subst ej
   show(if j=j then (if r j then hi' else lo) else m)<rs.length/\j+1<=RM n rs (if j=j then (if r j then hi' else lo) else m)/\yes rs (if j=j then (if r j then hi' else lo) else m) r=yes rs m r
   rw[if_pos rfl]
   cases hr:r j
   ·rw[hr] at ys
    exact⟨by show lo<rs.length;omega,l1,ys.symm⟩
   ·rw[hr] at ys
    exact⟨by show hi'<rs.length;omega,l2,ys.symm⟩
  ·show(if j=i then (if r i then hi' else lo) else m)<rs.length/\i+1<=RM n rs (if j=i then (if r i then hi' else lo) else m)/\yes rs (if j=i then (if r i then hi' else lo) else m) r=yes rs m r
   rw[if_neg ej]
   exact⟨hm,by omega,rfl⟩
 ·rw[zbP B (by omega)]
  refine⟨hm,?_,rfl⟩
  have:m=0\/m=1:=by omega
  rcases this with z | z<;>subst z
  ·rw[zbO B];exact hi
  ·rw[Kf B];exact hi
theorem zeu {k:Nat}(hk:k<rs.length)(r:Row):∀i,i<=n->wk rs k r i<rs.length/\i<=RM n rs (wk rs k r i)/\yes rs (wk rs k r i) r=yes rs k r
 | 0,_=>⟨hk,zvW _,rfl⟩
 | i+1,hi=>by
  obtain⟨a,b,c⟩:=zeu hk r i (by omega)
  obtain⟨a',b',c'⟩:=zet B (r:=r) a hi b
  exact⟨a',b',c'.trans c⟩
theorem zkC {k:Nat}(hk:k<rs.length)(r:Row):(wk rs k r n != 0)=yes rs k r:=by
 obtain⟨a,b,c⟩:=zeu B hk r n (zvQ _)
 rw[<-c]
 by_cases h2:2<=wk rs k r n
 ·exfalso
  obtain⟨j,lo,hi,e,hjn,_⟩:=B.rm _ h2 a
  rw[YF B e] at b
  omega
 ·have:wk rs k r n=0\/wk rs k r n=1:=by omega
  rcases this with z | z<;>rw[z]
  ·rfl
  ·rw[Y6 B];rfl
end
theorem zfK {rs:List Rm}{k:Nat}{r r':Row}:∀i,(∀j,j<i->r j=r' j)->wk rs k r i=wk rs k r' i
 | 0,_=>rfl
 | i+1,h=>by
  show ZR rs (wk rs k r i) i (r i)=ZR rs (wk rs k r' i) i (r' i)
  rw[zfK i fun j hj=>h j (by omega),h i (by omega)]
theorem zkD {r:List Bool}{v:Bool}{j:Nat}(h:j<r.length):tK (r++[v]) j=tK r j:=by
 unfold tK
 rw[zvN,zvN,zv6 h]
theorem zjb {r:List Bool}{v:Bool}:tK (r++[v]) r.length=v:=by
 unfold tK
 rw[zvN]
 simp
abbrev Ent:=List Bool×Nat
def Yx (rs:List Rm)(i:Nat)(e:Ent):List Ent:=[(e.1++[false],ZR rs e.2 i false),(e.1++[true],ZR rs e.2 i true)]
def ne0 (e:Ent):Bool:=e.2 != 0
def Lv (rs:List Rm)(k:Nat):Nat->List Ent
 | 0=>[([],k)]
 | i+1=>((Lv rs k i).flatMap (Yx rs i)).filter ne0
theorem zis (rs:List Rm)(k:Nat):∀i,(Lv rs k i).length<=2^i
 | 0=>zvQ _
 | i+1=>by
  have h1:=List.length_filter_le ne0 ((Lv rs k i).flatMap (Yx rs i))
  rw[Uz (Yx rs i) (fun _=>rfl)] at h1
  have h2:=zis rs k i
  rw[Nat.pow_succ]
  show(List.filter ne0 _).length<=_
  omega
def Av (rs:List Rm)(k i:Nat):List Ent:=(allR i).map fun r=>(r,wk rs k (tK r) i)
theorem JQ {n:Nat}{rs:List Rm}(B:Bk n rs)(i:Nat):∀l:List Ent,(l.flatMap (Yx rs i)).filter ne0=((l.filter ne0).flatMap (Yx rs i)).filter ne0
 | []=>rfl
 | e::l=>by
  rw[List.flatMap_cons,List.filter_append,JQ B i l]
  cases h:ne0 e
  ·rw[List.filter_cons_of_neg (by rw[h];exact zvE)]
   have e0:e.2=0:=by
    unfold ne0 at h
    simpa using h
   have:(Yx rs i e).filter ne0=[]:=by
    unfold Yx
    rw[e0,zbP B (zvW _),zbP B (zvW _)]
    rfl
   rw[this,List.nil_append]
  ·rw[List.filter_cons_of_pos h,List.flatMap_cons,List.filter_append]
theorem zml (rs:List Rm)(k i:Nat):Av rs k (i+1)=(Av rs k i).flatMap (Yx rs i):=by
 unfold Av
 show((allR i).flatMap fun r=>[r++[false],r++[true]]).map _=_
 rw[List.map_flatMap,List.flatMap_map]
 rw[List.flatMap_def,List.flatMap_def]
 congr 1
 refine List.map_congr_left fun r hr=>?_
 have hl:=Uy i r hr
 have key:∀v,wk rs k (tK (r++[v])) (i+1)=ZR rs (wk rs k (tK r) i) i v:=fun v=>by
  show ZR rs (wk rs k (tK (r++[v])) i) i (tK (r++[v]) i)=_
  rw[zfK i fun j hj=>zkD (v:=v) (by omega)]
  conv=>lhs;rw[<-hl,zjb]
  rw[hl]
 show [(r++[false],wk rs k (tK (r++[false])) (i+1)),(r++[true],wk rs k (tK (r++[true])) (i+1))]=Yx rs i (r,wk rs k (tK r) i)
 rw[key,key]
 rfl
theorem zit {n:Nat}{rs:List Rm}(B:Bk n rs)(k:Nat):∀i,(Lv rs k i).filter ne0=(Av rs k i).filter ne0
 | 0=>rfl
 | i+1=>by
  rw[zml,JQ B i (Av rs k i),<-zit B k i,<-JQ B i]
  show List.filter ne0 (List.filter ne0 _)=_
  rw[List.filter_filter]
  congr 1
  funext e
  exact Bool.and_self _
theorem W2 (f:List Bool->Nat):∀l:List (List Bool),((l.map fun r=>(r,f r)).filter ne0).map (·.1)=l.filter fun r=>f r != 0
 | []=>rfl
 | r::l=>by
  rw[zvY]
  have e:ne0 (r,f r)=(f r != 0):=rfl
  cases h:(f r != 0)
  ·rw[List.filter_cons_of_neg (by rw[e,h];exact zvE),List.filter_cons_of_neg (by rw[h];exact zvE)]
   exact W2 f l
  ·rw[List.filter_cons_of_pos (by rw[e,h]),List.filter_cons_of_pos (p:=fun r=>f r != 0) h,zvY,W2 f l]
def xP (n:Nat)(rs:List Rm)(k:Nat):List (List Bool):=(allR n).filter fun r=>yes rs k (tK r)
theorem zmm {n:Nat}{rs:List Rm}(B:Bk n rs){k:Nat}(hk:k<rs.length)(hn:0<n):(Lv rs k n).map (·.1)=xP n rs k:=by
 have e1:Lv rs k n=(Lv rs k n).filter ne0:=by
  obtain⟨m,rfl⟩:∃m,n=m+1:=⟨n-1,by omega⟩
  show List.filter ne0 _=List.filter ne0 (List.filter ne0 _)
  rw[List.filter_filter]
  congr 1
  funext e
  exact(Bool.and_self _).symm
 rw[e1,zit B,Av,W2]
 unfold xP
 refine List.filter_congr fun r _=>?_
 exact zkC B hk _
theorem Pr (n:Nat)(rs:List Rm)(k:Nat):(xP n rs k).length<=2^n:=by
 rw[<-JN]
 exact List.length_filter_le _ _
theorem UG {n:Nat}{rs:List Rm}{k:Nat}{r:List Bool}(h:r∈xP n rs k):r.length=n:=Uy n r (List.mem_filter.mp h).1
end zZ
namespace L2
open PySem PySem.Spec PyProof.Rows
section
variable {X:Cx}{sc uZ:Scope}{xs:List Str}{js:List Nat}{tg:Expr}{g:TG}{elt iter:Expr}{px pos:Pos}{ifs:List Expr}{wi:TI}{tt:TT}{te:TE}
theorem zon (TY:X.env.scope=uZ)(L:zif uZ sc xs (js.map fun j=>X.N.getD j ""))(hc:X.calm=true)(hi:PI X tg iter wi)(hg:∀(cl:List (Str×Addr)) (C:Addr) (s₂:Shared) (H₂:Hp) (fp:List Addr),PG (X.blk sc cl C (Lr X xs js) s₂ H₂ fp) tg g)(hjs:∀j∈js,j<X.N.length)
  (ht:∀(cl:List (Str×Addr)) (C:Addr) (s₂:Shared) (H₂:Hp) (fp:List Addr) (pins:List (Addr×Obj)) (s':Shared) (σ':St) (H':Hp) (Q:Bool->Hp->Prop),Inv (X.blk sc cl C (Lr X xs js) s₂ H₂ fp) pins σ' H' s'->tt σ' H' Q ->
   wpAny (model X.prog X.w) X.A (Y4 ifs (compEnvC sc cl C X.env)) (TP (X.blk sc cl C (Lr X xs js) s₂ H₂ fp) pins σ' Q) (fun _ _=>False) s')
  (he:∀(cl:List (Str×Addr)) (C:Addr) (s₂:Shared) (H₂:Hp) (fp:List Addr),PE (X.blk sc cl C (Lr X xs js) s₂ H₂ fp) elt te)
  (hs:∀x,foldedSetIterable iter X.env x=pure x:=by intro _;rfl) :
  PE X (.ListComp elt [⟨tg,iter,ifs,0⟩] sc pos) (zpx wi xs js g tt te):=by
 intro pins s σ H Q I h
 rw[eval_ListComp]
 refine zfo (use:=none) (Fin:=fun ys H=>∀p,H p=none->Q (.ref p) (upd H p (.lst ys))) TY L (rd:=Calm) (fun _ _ _ _ _ _ _=>hc) hi hg hjs ht he hs I h fun D C s5 H5 ys its k m5 J oD oC hDC p1 vs z hn fin=>?_
 refine⟨m5,hn,fun h' hsb=>?_⟩
 have J2:Inv X pins σ H5 { s5 with heap:=h',toks:=s5.toks }:=J.turned (it:=C) (fun b o hb e=>hsb.extBut b o hb e) oC.free oC.loc (.inr oC.new) oC.cel oC.pin
 have p1':h'.get? D=some (uT its k):=hsb.extBut _ _ hDC p1
 have J3:Inv X pins σ (upd H5 D (.lst ys)) { s5 with heap:=h',toks:=s5.toks }:=J2.track oD.free oD.loc oD.new oD.cel oD.pin ⟨z,its,k,vs,p1'⟩
 exact⟨.ref D,_,J3,rfl,fin D oD.free⟩
end
theorem Inv.zmn {X:Cx}{pins:List (Addr×Obj)}{σ:St}{H:Hp}{s:Shared}{h':Heap}{t':Nat}{fp:List Addr}(I:Inv X pins σ H s)(k:∀b o,b∉fp->s.heap.get? b=some o->h'.get? b=some o)(hf:∀b∈fp,zcK X pins H b) :
  Inv X pins σ H { s with heap:=h',toks:=t' }:=by
 have nit:∀b u,H b=some u->b∉fp:=fun b u e z=>by rw[(hf b z).1] at e;cases e
 refine I.step (g':=s.gens) (d':=s.drawn) (ch:=fp) (fun b hb=>⟨(hf b hb).2.2.2.1,(hf b hb).2.1,(hf b hb).2.2.2.2.1,(hf b hb).2.2.2.2.2⟩) (fun b o _ _ hc e _=>k b o hc e) (fun b o _ _ hc e _=>⟨o.slots,k b o hc e⟩) (fun _ _ _ _ n=>n)
  (fun b o hc e=>⟨o,k b o hc e⟩) (fun _ _ e=>e) (fun _ _ _ e=>e) (fun b ps e=>⟨#[],by rw[e];simp⟩) (fun m hm=>?_) (fun b u e=>?_) I.bare
 ·obtain⟨o,es,ep,ho,r⟩:=hm
  exact⟨o,es,ep,k _ o (fun z=>(hf _ z).2.1 rfl) ho,r⟩
 ·refine(I.hok b u e).stay (fun c v hc q=>k c v ?_ q) (fun _ q=>q) fun _ _ q=>q
  rcases hc with z | z
  ·rw[z];exact nit b u e
  ·exact nit c _ z
def Itz (K:Frag)(a b:Addr):It :=
 {go:=fun i H=>∃xs ys x y,zX K H a xs/\zX K H b ys/\xs[i]?=some x/\ys[i]?=some y
  yld:=fun i H v H'=>∃q x y,(∀xs,zX K H a xs->xs[i]?=some x)/\(∀ys,zX K H b ys->ys[i]?=some y)/\v=.ref q/\H q=none/\H'=upd H q (.tup [x,y])
  stop:=fun i H=>∃xs ys,zX K H a xs/\zX K H b ys/\(xs.length<=i\/ys.length<=i) }
theorem zkE {P:Program}{w:World}{K:Frag}{els:List Expr}{x1}{pt:Pos}(a b z ti to i1 i2:Addr)(D:ZipApart z ti to i1 i2 a b):Turn P w K (.Tuple els x1 pt) (Itz K a b) [z,ti,to,i1,i2] z
  (fun i h=>IsZip h z ti to .none/\IsPair h ti (.ref i1) (.ref i2)/\(∃u v,IsPair h to u v)/\h.IsListIter i1 a i/\h.IsListIter i2 b i) where
 mem:=by simp
 obj:=fun i h st c hc=>by
  obtain⟨q1,q2,⟨u,v,q3⟩,⟨o4,q4,c4,d4⟩,⟨o5,q5,c5,d5⟩⟩:=st
  simp only[List.mem_cons,zv0,or_false] at hc
  rcases hc with e | e | e | e | e<;>subst e
  ·exact⟨_,q1,fun v hv=>by cases hv⟩
  ·exact⟨_,q2,fun v hv=>by cases hv⟩
  ·exact⟨_,q3,fun v hv=>by cases hv⟩
  ·exact⟨_,q4,fun v hv=>by rw[d4] at hv;cases hv⟩
  ·exact⟨_,q5,fun v hv=>by rw[d5] at hv;cases hv⟩
 keep:=fun i h h' st k=>by
  obtain⟨q1,q2,⟨u,v,q3⟩,q4,q5⟩:=st
  exact⟨k z (by simp) _ q1,k ti (by simp) _ q2,⟨u,v,k to (by simp) _ q3⟩,q4.at fun o e=>k i1 (by simp) o e,q5.at fun o e=>k i2 (by simp) o e⟩
 item:=by
  intro X hP hw hK hc i pins s σ H E I hf st hg
  subst hP hw hK
  obtain⟨xs,ys,x,y,hq1,hq2,hx,hy⟩:=hg
  obtain⟨q1,q2,⟨u0,v0,q3⟩,q4,q5⟩:=st
  obtain⟨zhh,rv1,pl1,hz1⟩:=I.list hq1
  obtain⟨its2,rv2,pl2,hz2⟩:=I.list hq2
  obtain⟨u,hu,ru⟩:=rv1.get hx
  obtain⟨v,hv,rv⟩:=rv2.get hy
  refine wpAny_pyNext_zip_item D q1 q2 q3 q4 q5 pl1.isList pl2.isList (x:=u) (y:=v) (by simpa using hu) (by simpa using hv) fun h1 out pto it1 it2 tup sz k1=>?_
  refine⟨.ref s.heap.objs.size,rfl,wpAny_letOwnedTupleGo_zip out fun h2 he2 sb=>?_⟩
  have ltz:=zvH q1
  have ltf:∀c∈[z,ti,to,i1,i2],c<s.heap.objs.size:=fun c hc=>by
   simp only[List.mem_cons,zv0,or_false] at hc
   rcases hc with e | e | e | e | e<;>subst e
   ·exact ltz
   ·exact zvH q2
   ·exact zvH q3
   ·obtain⟨o,e,_⟩:=q4;exact zvH e
   ·obtain⟨o,e,_⟩:=q5;exact zvH e
  have k2:∀c o,c∉[z,ti,to,i1,i2]->s.heap.get? c=some o->h2.get? c=some o:=fun c o hc q=>by
   simp only[List.mem_cons,zv0,or_false,not_or] at hc
   obtain⟨c1,c2,c3,c4,c5⟩:=hc
   exact(sb.2 c c1).trans (k1 c o c1 c3 c4 c5 q)
  have it1':h2.IsListIter i1 a (i+1):=it1.at fun o e=>(sb.2 i1 D.i1z).trans e
  have it2':h2.IsListIter i2 b (i+1):=it2.at fun o e=>(sb.2 i2 D.i2z).trans e
  have hti:IsPair h2 ti (.ref i1) (.ref i2):=(sb.2 ti D.TIz).trans (k1 ti _ D.TIz D.TITO D.TIi1 D.TIi2 q2)
  have hto:IsPair h2 to u v:=(sb.2 to D.TOz).trans pto
  have J1:Inv X pins σ H { s with heap:=h2,toks:=s.toks }:=I.zij (fp:=[z,ti,to,i1,i2]) k2 (fun c hc=>by
   simp only[List.mem_cons,zv0,or_false] at hc
   rcases hc with e | e | e | e | e<;>subst e
   ·exact⟨_,he2⟩
   ·exact⟨_,hti⟩
   ·exact⟨_,hto⟩
   ·obtain⟨o,e,_⟩:=it1';exact⟨o,e⟩
   ·obtain⟨o,e,_⟩:=it2';exact⟨o,e⟩) hf
  have zn9:h2.get? s.heap.objs.size=some { cls:=.type "tuple", data:=.seq #[u,v] }:=(sb.2 _ (Nat.ne_of_gt ltz)).trans tup
  have ltc:∀y c,X.env.cells.lookup y=some c->c≠s.heap.objs.size:=fun y c q=>by
   obtain⟨v,o,z,_⟩:=I.cell y c q
   exact zvP (zvH z)
  have ltp:∀p∈X.pn++pins,p.1≠s.heap.objs.size:=fun p hp=>zvP (zvH (I.pin p hp).1)
  have J2:=J1.track (a:=s.heap.objs.size) (o:=.tup [x,y]) I.fresh (Ne.symm (zvP I.lt)) I.sz ltc ltp ⟨by show 2<=sizeLine;decide,[u,v],.cons ru (.cons rv .nil),⟨_,zn9,rfl,_,rfl⟩⟩
  refine⟨.ref s.heap.objs.size,_,J2,rfl,⟨_,x,y,fun zs hzs=>by rw[I.WM hzs hq1];exact hx,fun zs hzs=>by rw[I.WM hzs hq2];exact hy,rfl,I.fresh,rfl⟩,⟨he2,hti,⟨u,v,hto⟩,it1',it2'⟩,fun c hc=>?_⟩
  rw[zJ (zvP (ltf c hc))]
  exact(hf c hc).1
 done:=by
  intro X hP hw hK hc i pins s σ H E I hf st hg
  subst hP hw hK
  obtain⟨xs,ys,hq1,hq2,hx⟩:=hg
  obtain⟨q1,q2,⟨u0,v0,q3⟩,q4,q5⟩:=st
  obtain⟨zhh,rv1,pl1,hz1⟩:=I.list hq1
  obtain⟨its2,rv2,pl2,hz2⟩:=I.list hq2
  have l1:=rv1.length
  have l2:=rv2.length
  refine wpAny_pyNext_zip_end (I.ok.hd hc) D q1 q2 q3 q4 q5 pl1.isList pl2.isList (by
   rcases hx with e | e
   ·left;simp;omega
   ·right;simp;omega) fun h' k=>⟨rfl,?_⟩
  refine I.zmn (t':=s.toks) (fp:=[z,to,i1,i2]) (fun c o hc e=>?_) fun c hc=>hf c (by simp only[List.mem_cons,zv0,or_false] at hc ⊢;rcases hc with e | e | e | e<;>simp[e])
  simp only[List.mem_cons,zv0,or_false,not_or] at hc
  exact k c o hc.1 hc.2.1 hc.2.2.1 hc.2.2.2 e
 self:=fun _ _ _ _ _ st h=>wpAny_pyIter_zip st.1 h
section
variable {X:Cx}
def zr4 (K:Frag)(ta:TA):TI:=fun σ H R=>ta σ H fun vs H1=>∃a b xs ys,vs=[.ref a,.ref b]/\zX K H1 a xs/\zX K H1 b ys/\R (Itz K a b) H1
theorem zkF {l m:Expr}{ta:TA}{p pos:Pos}{els:List Expr}{x1}{pt:Pos}(hg:Gl X "zip")(hm:X.mg "zip"=none)(ha:PA X [l,m] ta)(hs:starEach [l,m] X.env=[(false,eval l X.env),(false,eval m X.env)]:=by rfl)(hs2:starEach [m] X.env=[(false,eval m X.env)]:=by rfl) :
  PI X (.Tuple els x1 pt) (.Call (.Name "zip" p) [l,m] [] pos) (zr4 X.K ta):=by
 intro pins s σ H R I h
 refine Call_ (V7 I hg hm boot_zip (PyProof.Rows.callWith_type1 (vo (ha pos pins s σ H _ I h) fun us s1 ⟨vs,H1,I1,r1,q1⟩=>?_) (by rw[hs,hs2]) (by rw[hs2];rfl)))
 obtain⟨a,b,xs,ys,e,hq1,hq2,q⟩:=q1
 subst e
 obtain⟨u,v,rfl,ru,rv⟩:=vals2 r1
 cases ru
 cases rv
 obtain⟨zhh,rv1,pl1,hz1⟩:=I1.list hq1
 obtain⟨its2,rv2,pl2,hz2⟩:=I1.list hq2
 obtain⟨o1,e1,_⟩:=id pl1.isList
 obtain⟨o2,e2,_⟩:=id pl2.isList
 refine call_zip_2 pl1.isList pl2.isList fun h' hz hti hto it1 it2 hsz hk=>?_
 have J:Inv X pins σ H1 { s1 with heap:=h',toks:=s1.toks }:=I1.kept hk
 refine wpAny_pyIter_zip hz ?_
 refine⟨s1.heap.objs.size+4,[s1.heap.objs.size+4,s1.heap.objs.size+2,s1.heap.objs.size+3,s1.heap.objs.size,s1.heap.objs.size+1],_,_,H1,rfl,J,zkE a b _ _ _ _ _ (zipApart_new (zvH e1) (zvH e2)),⟨hz,hti,⟨_,_,hto⟩,it1,it2⟩,fun c hc=>?_,q⟩
 have gc:s1.heap.objs.size<=c:=by
  simp only[List.mem_cons,zv0,or_false] at hc
  rcases hc with z | z | z | z | z<;>rw[z]<;>omega
 exact I1.ziT gc (I1.hok.fresh gc)
end
theorem zkG {K:Frag}{a b:Addr}{xs ys:List V}{σ:St}{js:List Nat}{te:TE}{H:Hp}{Qf:Addr->Hp->List V->Prop}{x y:Str}(R:V->V->V->Prop)(hq1:zX K H a xs)(hq2:zX K H b ys)(hl:xs.length=ys.length)(hz:xs.length<=sizeLine)
  (hs:∀(i:Nat) u v H',xs[i]?=some u->ys[i]?=some v->Same H H'->te (lcT σ js [some u,some v]) H' fun z H3=>R u v z/\Same H H3)
  (me:∀ σ H Q Q',(∀v H1,Q v H1->Q' v H1)->te σ H Q->te σ H Q')
  (hd:∀zs H' p,zs.length=xs.length->(∀(i:Nat) u v z,xs[i]?=some u->ys[i]?=some v->zs[i]?=some z->R u v z)->Same H H'->H' p=none->Qf p H' zs) :
  ∃W:Nat->Nat->List V->Hp->Prop,(∃m,W 0 m [] H)/\∀i m zs H,W i m zs H ->
   ((Itz K a b).stop i H/\∀p,H p=none->Qf p H zs) \/
   ((Itz K a b).go i H/\zs.length<sizeLine/\∀v H',(Itz K a b).yld i H v H'->∀o0:List (Option V),o0.length=[x,y].length->zlG K 2 (zbt (Rw 0) (zbt (Rw 1) zlF)) v (lcT σ js o0) H' fun σ2 H1=>∃o1,σ2=lcT σ js o1/\o1.length=[x,y].length/\Jw σ2 H1 fun b H2 =>
    if b=true then te σ2 H2 fun v H3=>∃m',m'<m/\W (i+1) m' (zs++[v]) H3 else ∃m',m'<m/\W (i+1) m' zs H2):=by
 refine⟨fun i m zs H'=>m=xs.length-i/\i<=xs.length/\zs.length=i/\Same H H'/\∀(j:Nat) u v z,xs[j]?=some u->ys[j]?=some v->zs[j]?=some z->R u v z,⟨_,rfl,zvW _,rfl,Same.refl _,fun j u v z _ _ e=>by simp at e⟩,?_⟩
 rintro i m zs H1 ⟨rfl,hi,hzl,g,r⟩
 by_cases hlt:i<xs.length
 ·have ex:=zvB hlt
  have ey:=zvB (l:=ys) (i:=i) (by omega)
  refine .inr ⟨⟨xs,ys,_,_,g.seq hq1,g.seq hq2,ex,ey⟩,by omega,fun w H' y o0 l0=>?_⟩
  obtain⟨q,u,v,hu,hv,rfl,hn,rfl⟩:=y
  have eu:=hu xs (g.seq hq1)
  have ev:=hv ys (g.seq hq2)
  have eσ:((lcT σ js o0).set 0 (some u)).set 1 (some v)=lcT σ js [some u,some v]:=by
   match o0,l0 with
   | [a0,a1],_=>rfl
  refine⟨q,[u,v],rfl,vO.of zu,rfl,u,[v],rfl,v,[],rfl,rfl,[some u,some v],eσ,rfl,?_⟩
  ·show te (((lcT σ js o0).set 0 (some u)).set 1 (some v)) _ _
   rw[eσ]
   refine me _ _ _ _ (fun z H3 h3=>⟨_,by omega,rfl,hlt,by rw[zvI,hzl];rfl,h3.2,fun j u' v' z' e1 e2 e3=>?_⟩) (hs i u v _ eu ev (g.trans (Same.new hn _)))
   by_cases hj:j<zs.length
   ·rw[zv6 hj] at e3
    exact r j u' v' z' e1 e2 e3
   ·have lt:=(zvD.mp e3).1
    rw[zvI,zv7] at lt
    have ej:j=zs.length:=by omega
    subst ej
    simp at e3
    subst e3
    rw[hzl] at e1 e2
    rw[eu] at e1
    rw[ev] at e2
    cases e1
    cases e2
    exact h3.1
 ·have e:i=xs.length:=by omega
  subst e
  exact .inl ⟨⟨xs,ys,g.seq hq1,g.seq hq2,.inl (zvQ _)⟩,fun p hp=>hd zs H1 p hzl r g hp⟩
section
variable {X:Cx}
def zpW:R2:=fun x y H Q=>∃a b:Nat,x=.int a/\y=.int b/\0<b/\b<2^9000/\Q (.int (a / b:Nat)) H
theorem ziv:Vp X (binaryOp .FloorDiv) zpW:=by
 intro pins s σ H x y v u Q I rx ry h
 obtain⟨a,b,rfl,rfl,hb,hlt,q⟩:=h
 obtain⟨t,rfl⟩:=rx
 obtain⟨t',rfl⟩:=ry
 refine floordiv_int (by omega) ?_ (.inl (PyProof.noPylong_of_log2 ?_))
 ·refine⟨.int (a / b:Nat),H,I.tok _,⟨s.toks,?_⟩,q⟩
  rw[Int.fdiv_eq_ediv_of_nonneg _ (Int.natCast_nonneg b),<-Int.natCast_ediv]
 ·rw[Int.natAbs_natCast]
  exact(Nat.log2_lt (by omega)).mpr hlt
def zpX:R2:=fun x y H Q=>∃a b:Nat,x=.int a/\y=.int b/\0<b/\Q (.int (a%b:Nat)) H
theorem zmp:Vp X (binaryOp .Mod) zpX:=by
 intro pins s σ H x y v u Q I rx ry h
 obtain⟨a,b,rfl,rfl,hb,q⟩:=h
 refine Yz pins s σ H _ _ v u Q I rx ry ⟨_,_,rfl,rfl,by omega,?_⟩
 show Q (.int ((a:Int)%(b:Int))) H
 rw[<-Int.natCast_emod]
 exact q
def zkH (K:Frag):R2:=fun x y H Q=>∃p q xs ys,x=.ref p/\y=.ref q/\zX K H p xs/\zX K H q ys/\xs.length+ys.length<=sizeLine/\∀l,H l=none->Q (.ref l) (upd H l (.lst (xs++ys)))
theorem Za:Vp X (binaryOp .Add) (zkH X.K):=by
 intro pins s σ H x y v u Q I rx ry h
 obtain⟨p,q,xs,ys,rfl,rfl,hp,hq,hz,h⟩:=h
 cases rx
 cases ry
 obtain⟨zhh,rv1,pl1,hz1⟩:=I.list hp
 obtain⟨its2,rv2,pl2,hz2⟩:=I.list hq
 obtain⟨⟨cls,dd,data,sl⟩,ho,hc,n,hd⟩:=id pl1.isList
 obtain⟨⟨cls2,dd2,data2,sl2⟩,ho2,hc2,n2,hd2⟩:=id pl2.isList
 simp only at hc hd hc2 hd2
 subst hc hd hc2 hd2
 have l1:=rv1.length
 have l2:=rv2.length
 have e:zhh.toArray++its2.toArray=(zhh++its2).toArray:=by simp
 refine concat_meets ⟨_,ho,rfl⟩ ⟨_,ho2,rfl⟩ noFill_list_add seq_list_add PySem.F.slot_list_add PySem.F.entry_list_add (PySem.F.args_list_add_2 _ _) (list_addW p q zhh.toArray its2.toArray n n2 dd dd2 sl sl2 (by simp;omega)) ⟨ho,ho2,?_⟩
 rw[e]
 refine⟨.ref s.heap.objs.size,_,I.laid (t':=s.toks) (o:=.lst (xs++ys)) (fun b o e=>zvG _ e) (zvQ _) ?_,rfl,h _ (I.hok.fresh (zvQ _))⟩
 exact⟨by rw[zvI];exact hz,zhh++its2,0,rv1.append rv2,zvU _ rfl⟩
end
end L2
namespace L2
open PySem
section
variable {K:Frag}{a:Addr}{xs:List V}{σ:St}{js:List Nat}{te:TE}{H:Hp}{Qf:Addr->Hp->List V->Prop}
theorem Km (R:Nat->V->Prop)(hq:zX K H a xs)(hz:xs.length<=sizeLine)
  (hs:∀(i:Nat) x H',xs[i]?=some x->Same H H'->te (Wn σ js (some x)) H' fun v H3=>R i v/\Same H H3)
  (me:∀ σ H Q Q',(∀v H1,Q v H1->Q' v H1)->te σ H Q->te σ H Q')
  (hd:∀ys H' p,ys.length=xs.length->(∀(i:Nat) y,ys[i]?=some y->R i y)->Same H H'->H' p=none->Qf p H' ys) :
  ∃W:Nat->Nat->List V->Hp->Prop,(∃m,W 0 m [] H)/\∀i m ys H,W i m ys H ->
   ((Itl K a).stop i H/\∀p,H p=none->Qf p H ys) \/
   ((Itl K a).go i H/\ys.length<sizeLine/\∀x H',(Itl K a).yld i H x H'->Jw (Wn σ js (some x)) H' fun b H2 =>
    if b=true then te (Wn σ js (some x)) H2 fun v H3=>∃m',m'<m/\W (i+1) m' (ys++[v]) H3 else ∃m',m'<m/\W (i+1) m' ys H2):=by
 refine Ls (fun i ys H'=>Same H H'/\ys.length=i/\∀(j:Nat) y,ys[j]?=some y->R j y) ⟨Same.refl _,rfl,fun j y e=>by simp at e⟩ hz ?_ ?_ (fun _ _ _ _ h q=>h _ _ q) me ?_
 ·rintro i ys H' hi ⟨g,e,r⟩
  exact⟨g.seq hq,by omega⟩
 ·rintro i x ys H' hx ⟨g,e,r⟩
  show te (Wn σ js (some x)) H' fun v H3=>Same H H3/\(ys++[v]).length=i+1/\∀(j:Nat) y,(ys++[v])[j]?=some y->R j y
  refine me _ _ _ _ (fun v H3 h3=>⟨h3.2,by rw[zvI,e];rfl,fun j y ey=>?_⟩) (hs i x H' hx g)
  by_cases hj:j<ys.length
  ·rw[zv6 hj] at ey
   exact r j y ey
  ·have lt:=(zvD.mp ey).1
   rw[zvI,zv7] at lt
   have ej:j=ys.length:=by omega
   subst ej
   simp at ey
   subst ey
   rw[e]
   exact h3.1
 ·rintro ys H' p ⟨g,e,r⟩ hp
  exact hd ys H' p e r g hp
end
section
variable {X:Cx}{K:Frag}
theorem zdH (h:X.K=K)(hc:X.calm=true):WR X (.builtin "sum") (fun xs H Q=>∃(p:Addr) (ns:List Int),xs=[.ref p]/\zX K H p (ns.map V.int)/\Q (.int ns.sum) H):=by subst h;exact zbE hc
end
end L2
namespace zZ
abbrev Sh:=Nat×Nat
def zax (l:List Nat):Nat:=l.foldl (·*·) 1
theorem Ml (l:List Nat)(x:Nat):zax (l++[x])=zax l*x:=by unfold zax;rw[List.foldl_append];rfl
def w1 (s:Sh)(v:Bool):Nat:=if v then s.1 else s.2-s.1
def wl (sh:List Sh)(r:List Bool):List Nat:=(r.zip sh).map fun p=>w1 p.2 p.1
def wt (sh:List Sh)(r:List Bool):Nat:=zax (wl sh r)
def Ko (sh:List Sh):Nat:=zax (sh.map (·.2))
theorem ziw {sh:List Sh}{s:Sh}{r:List Bool}{v:Bool}(h:r.length=sh.length):wt (sh++[s]) (r++[v])=wt sh r*w1 s v:=by
 unfold wt wl
 rw[List.zip_append h,zvO,<-Ml]
 rfl
theorem zdI (sh:List Sh)(s:Sh):Ko (sh++[s])=Ko sh*s.2:=by unfold Ko;rw[zvO,<-Ml];rfl
theorem zfL {α β:Type}(f:α->List β)(g:β->Nat):∀l:List α,((l.flatMap f).map g).sum=(l.map fun a=>((f a).map g).sum).sum
 | []=>rfl
 | a::l=>by rw[List.flatMap_cons,zvO,List.sum_append,zvY,List.sum_cons,zfL f g l]
theorem zfM {α:Type}(g:α->Nat)(c:Nat):∀l:List α,(l.map fun a=>g a*c).sum=(l.map g).sum*c
 | []=>(Nat.zero_mul c).symm
 | a::l=>by rw[zvY,List.sum_cons,zvY,List.sum_cons,zfM g c l,Nat.add_mul]
def zkI (s:Sh):Prop:=s.1<=s.2/\1<=s.2/\s.2<=1000
theorem total:∀(n:Nat) (sh:List Sh),sh.length=n->(∀s∈sh,zkI s)->((allR n).map (wt sh)).sum=Ko sh
 | 0,sh,h,_=>by
  have:sh=[]:=List.length_eq_zero_iff.mp h
  subst this
  rfl
 | n+1,sh,h,ok=>by
  obtain⟨sh',s,rfl⟩:∃sh' s,sh=sh'++[s]:=⟨sh.dropLast,sh.getLast (List.ne_nil_of_length_pos (by omega)),(List.dropLast_concat_getLast _).symm⟩
  rw[zvI,zv7] at h
  have hs:=ok s (zvR _ zvT)
  show(((allR n).flatMap _).map _).sum=_
  rw[zfL,zdI,<-total n sh' (by omega) (fun t ht=>ok t (List.mem_append_left _ ht)),<-zfM]
  congr 1
  refine List.map_congr_left fun r hr=>?_
  have hl:=Uy n r hr
  show(wt (sh'++[s]) (r++[false])+(wt (sh'++[s]) (r++[true])+0))=wt sh' r*s.2
  rw[ziw (by omega),ziw (by omega),Nat.add_zero,<-Nat.mul_add]
  congr 1
  show s.2-s.1+s.1=s.2
  have:=hs.1
  omega
def zkJ (n:Nat)(sh:List Sh)(f:List Bool->Bool):Nat:=(((allR n).filter f).map (wt sh)).sum
theorem zbQ:∀(n:Nat) (sh:List Sh),sh.length=n->(∀s∈sh,zkI s)->0<Ko sh/\Ko sh<=1000^n
 | 0,sh,h,_=>by
  have:sh=[]:=List.length_eq_zero_iff.mp h
  subst this
  exact⟨by decide,zvQ _⟩
 | n+1,sh,h,ok=>by
  obtain⟨sh',s,rfl⟩:∃sh' s,sh=sh'++[s]:=⟨sh.dropLast,sh.getLast (List.ne_nil_of_length_pos (by omega)),(List.dropLast_concat_getLast _).symm⟩
  rw[zvI,zv7] at h
  have hs:=ok s (zvR _ zvT)
  obtain⟨a,b⟩:=zbQ n sh' (by omega) (fun t ht=>ok t (List.mem_append_left _ ht))
  rw[zdI,Nat.pow_succ]
  exact⟨Nat.mul_pos a hs.2.1,Nat.mul_le_mul b hs.2.2⟩
end zZ
namespace WX
open PySem L2 zZ
theorem znp {n:Nat}{rs:List Rm}(B:Bk n rs){k:Nat}(hk:k<rs.length):∀i,i<=n->∀e∈Lv rs k i,e.2<rs.length/\i<=RM n rs e.2/\e.1.length=i
 | 0,_,e,he=>by
  have:e=([],k):=by simpa [Lv] using he
  rw[this]
  exact⟨hk,zvW _,rfl⟩
 | i+1,hi,e,he=>by
  obtain⟨x,hx,hs⟩:=List.mem_flatMap.mp (List.mem_filter.mp he).1
  obtain⟨a,b,c⟩:=znp B hk i (by omega) x hx
  have f:=zet B (r:=fun _=>false) a hi b
  have t:=zet B (r:=fun _=>true) a hi b
  simp only[Yx,List.mem_cons,zv0,or_false] at hs
  rcases hs with z | z<;>rw[z]
  ·exact⟨f.1,f.2.1,by rw[zvI,c];rfl⟩
  ·exact⟨t.1,t.2.1,by rw[zvI,c];rfl⟩
inductive zix (C:Addr)(vs:List V)(H:Hp)(Q:VK)(E9:XK):Prop
 | mk (b:Addr) (os:List Str) (rs:List Rm) (F:xW) (k p:Nat) (v:Bool) (_:vs=[.ref b,.int k,.int p,.int (v.toNat:Nat)]) (_:yp C H b os rs F) (_:k<rs.length) (_:p<os.length) (_:Q (.int (ZR rs k p v:Nat)) H):zix C vs H Q E9
def zhi (H0 H:Hp)(p:Addr)(e:Ent):Prop:=∃q,H0 q=none/\H p=some (.tup [.ref q,.int (e.2:Nat)])/\H q=some (.lst (vH e.1))
theorem zhi.mono {H0 H H':Hp}{p:Addr}{e:Ent}(h:zhi H0 H p e)(g:Same H H'):zhi H0 H' p e:=let ⟨q,a,b,c⟩:=h;⟨q,a,g _ _ b,g _ _ c⟩
theorem zjc {H0 H H':Hp}{ps:List Addr}{es:List Ent}(h:Paired (zhi H0 H) ps es)(g:Same H H'):Paired (zhi H0 H') ps es:=vA (fun _ _ r=>r.mono g) h
def zoo (H0 H:Hp)(p:Addr)(r:List Bool):Prop:=H0 p=none/\H p=some (.lst (vH r))
inductive Zb (C:Addr)(vs:List V)(H:Hp)(Q:VK)(E9:XK):Prop
 | mk (b:Addr) (os:List Str) (rs:List Rm) (F:xW) (k:Nat) (_:vs=[.ref b,.int k]) (_:yp C H b os rs F) (_:k<rs.length) (_:∀(l:Addr) (H':Hp) (ps:List Addr),Same H H'->H l=none->H' l=some (.lst (ps.map V.ref))->Paired (zoo H H') ps (xP os.length rs k)->Q (.ref l) H'):Zb C vs H Q E9
inductive JR (C:Addr)(vs:List V)(H:Hp)(Q:VK)(E9:XK):Prop
 | mk (b:Addr) (os:List Str) (rs:List Rm) (F:xW) (k:Nat) (_:vs=[.ref b,.int k]) (_:yp C H b os rs F) (_:k<rs.length) (_:∀H',Same H H'->Q (.int ((xP os.length rs k).length:Nat)) H'):JR C vs H Q E9
inductive UJ (K:Frag)(vs:List V)(H:Hp)(Q:VK)(E9:XK):Prop
 | mk (l:Addr) (ns:List Nat) (_:vs=[.ref l]) (_:zX K H l (ns.map fun n=>V.int (n:Nat))) (_:(∀x∈ns,x<=1000)) (_:Q (.int (zax ns:Nat)) H):UJ K vs H Q E9
inductive Kp (vs:List V)(H:Hp)(Q:VK)(E9:XK):Prop
 | mk (a b:Nat) (_:vs=[.int a,.int b]) (_:Q (.int (Nat.gcd a b:Nat)) H):Kp vs H Q E9
def zkK (H:Hp)(p:Addr)(s:Sh):Prop:=H p=some (.tup [.int (s.1:Nat),.int (s.2:Nat)])
theorem zkL {H H':Hp}{ps:List Addr}{sh:List Sh}(h:Paired (zkK H) ps sh)(g:xO H H'):Paired (zkK H') ps sh:=vA (fun _ _ r=>g _ _ r) h
inductive UL (vs:List V)(H:Hp)(Q:VK)(E9:XK):Prop
 | mk (p:Addr) (s:Sh) (_:vs=[.ref p]) (_:zkK H p s) (_:zkI s) (_:Q (.bl true) H):UL vs H Q E9
theorem zew:R7 UL:=fun vs H Q Q' E h ⟨p,s,e,h1,h2,q⟩=>⟨p,s,e,h1,h2,h _ _ q⟩
structure Qg (K:Frag)(H:Hp)(l:Addr)(ps:List Addr)(sh:List Sh)(n:Nat):Prop where
 lst:zX K H l (ps.map V.ref)
 at_:Paired (zkK H) ps sh
 len:sh.length=n
 ok:∀s∈sh,zkI s
theorem Qg.mono {K:Frag}{H H':Hp}{l:Addr}{ps:List Addr}{sh:List Sh}{n:Nat}(h:Qg K H l ps sh n)(g:Same H H'):Qg K H' l ps sh n:=⟨g.seq h.lst,zkL h.at_ (xO.of g),h.len,h.ok⟩
inductive Sd (C:Addr)(K:Frag)(vs:List V)(H:Hp)(Q:VK)(E9:XK):Prop
 | mk (b l:Addr) (os:List Str) (rs:List Rm) (F:xW) (ps:List Addr) (sh:List Sh) (_:vs=[.ref b,.ref l]) (_:yp C H b os rs F) (_:Qg K H l ps sh os.length) (_:∀H',Same H H'->Q .non H'):Sd C K vs H Q E9
inductive Kq (K:Frag)(vs:List V)(H:Hp)(Q:VK)(E9:XK):Prop
 | mk (rl l:Addr) (r:List Bool) (ps:List Addr) (sh:List Sh) (n:Nat) (_:vs=[.ref rl,.ref l]) (_:zX K H rl (vH r)) (_:r.length=n) (_:n<=8) (_:Qg K H l ps sh n) (_:∀H',Same H H'->Q (.int (zZ.wt sh r:Nat)) H'):Kq K vs H Q E9
theorem zfN {K:Frag}:R7 (Kq K):=fun vs H Q Q' E h ⟨rl,l,r,ps,sh,n,e,h1,h2,h3,h4,q⟩=>⟨rl,l,r,ps,sh,n,e,h1,h2,h3,h4,fun H' g=>h _ _ (q H' g)⟩
def lowest (a b:Nat):Nat×Nat:=(a / Nat.gcd a b,b / Nat.gcd a b)
inductive zbR (C:Addr)(K:Frag)(vs:List V)(H:Hp)(Q:VK)(E9:XK):Prop
 | mk (b l:Addr) (os:List Str) (rs:List Rm) (F:xW) (k:Nat) (ps:List Addr) (sh:List Sh) (_:vs=[.ref b,.int k,.ref l]) (_:yp C H b os rs F) (_:k<rs.length) (_:Qg K H l ps sh os.length) (_:∀(q:Addr) (H':Hp),Same H H'->H q=none->H' q=some (.tup [.int ((lowest (zkJ os.length sh fun r=>yes rs k (tK r)) (Ko sh)).1:Nat),.int ((lowest (zkJ os.length sh fun r=>yes rs k (tK r)) (Ko sh)).2:Nat)])->Q (.ref q) H'):zbR C K vs H Q E9
def zcR (x:Addr)(H0 H:Hp)(p:Addr)(e:Ent):Prop:=∃q,H0 q=none/\q≠x/\H p=some (.tup [.ref q,.int (e.2:Nat)])/\H q=some (.lst (vH e.1))
theorem zcR.mono {x:Addr}{H0 H H':Hp}{p:Addr}{e:Ent}(h:zcR x H0 H p e)(g:Same H H'):zcR x H0 H' p e:=let ⟨q,a,n,b,c⟩:=h;⟨q,a,n,g _ _ b,g _ _ c⟩
theorem zbS {x:Addr}{H0 H H':Hp}{ps:List Addr}{es:List Ent}(h:Paired (zcR x H0 H) ps es)(g:Same H H'):Paired (zcR x H0 H') ps es:=vA (fun _ _ r=>r.mono g) h
theorem zdJ {x:Addr}{H0 H:Hp}{ps:List Addr}{es:List Ent}{zs:List V}{o:HO}(hx:H x=some (.lst zs))(h:Paired (zcR x H0 H) ps es):Paired (zcR x H0 (upd H x o)) ps es:=vA (fun p e ⟨q,a,n,b,c⟩=>⟨q,a,n,by rw[zJ (Vv b hx (by intro z;cases z))];exact b,by rw[zJ n];exact c⟩) h
end WX
namespace zZ
theorem zop {sh:List Sh}{r:List Bool}(h:r.length=sh.length):(wl sh r).length=r.length:=by
 unfold wl
 rw[zvA,List.length_zip,h,Nat.min_self]
theorem zpY {sh:List Sh}{r:List Bool}{i:Nat}{b:Bool}{s:Sh}(h1:r[i]?=some b)(h2:sh[i]?=some s):(wl sh r)[i]?=some (w1 s b):=by
 unfold wl
 rw[zvC]
 have:(r.zip sh)[i]?=some (b,s):=by
  rw[List.getElem?_zip_eq_some]
  exact⟨h1,h2⟩
 rw[this]
 rfl
theorem zpZ {sh:List Sh}{r:List Bool}(ok:∀s∈sh,zkI s):∀x∈wl sh r,x<=1000:=fun x hx=>by
 obtain⟨p,hp,e⟩:=List.mem_map.mp hx
 have hm:=(List.of_mem_zip (a:=p.1) (b:=p.2) hp).2
 obtain⟨a1,a2,a3⟩:=ok _ hm
 rw[<-e]
 unfold w1
 split<;>omega
end zZ
namespace L2
open PySem
theorem zmq {X:Cx}{x y:Str}{px py pt:Pos}{x1:Nat}(hc:X.calm=true)(hN:X.N.Nodup)(h0:X.N[0]?=some x)(h1:X.N[1]?=some y)(hx:X.env.scope.names.lookup x=some .local)(hy:X.env.scope.names.lookup y=some .local):PG X (.Tuple [.Name x px,.Name y py] x1 pt) (zlG X.K 2 (zbt (Rw 0) (zbt (Rw 1) zlF))) :=
 zgO hc (Ur (wA hN h0 (.inl hx) (.inr hx)) (Ur (wA hN h1 (.inl hy) (.inr hy)) zd3))
end L2
namespace L2
open PySem PySem.Spec PyProof.Rows
structure zfO (uZ sc:Scope)(x y:Str)(fv:List Str):Prop where
 g:zif uZ sc [x,y] fv
 hx:sc.names.lookup x=some .local
 hy:sc.names.lookup y=some .local
 nd:([x,y]++fv).Nodup
theorem zex {X:Cx}{sc uZ:Scope}{x y:Str}{js:List Nat}{elt iter:Expr}{px py pt pos:Pos}{x1:Nat}{wi:TI}{te:TE}(TY:X.env.scope=uZ)(L:zfO uZ sc x y (js.map fun j=>X.N.getD j ""))(hc:X.calm=true)(hi:PI X (.Tuple [.Name x px,.Name y py] x1 pt) iter wi)(hjs:∀j∈js,j<X.N.length)
  (he:∀(cl:List (Str×Addr)) (C:Addr) (s₂:Shared) (H₂:Hp) (fp:List Addr),PE (X.blk sc cl C (Lr X [x,y] js) s₂ H₂ fp) elt te)
  (hs:∀x,foldedSetIterable iter X.env x=pure x:=by intro _;rfl) :
  PE X (.ListComp elt [⟨.Tuple [.Name x px,.Name y py] x1 pt,iter,[],0⟩] sc pos) (zpx wi [x,y] js (zlG X.K 2 (zbt (Rw 0) (zbt (Rw 1) zlF))) Jw te) :=
 zon TY L.g hc hi (fun cl C s₂ H₂ fp=>zmq (X:=X.blk sc cl C (Lr X [x,y] js) s₂ H₂ fp) hc L.nd rfl rfl (lookup_relabel_local L.hx) (lookup_relabel_local L.hy)) hjs (fun cl C s₂ H₂ fp pins s' σ' H' Q I h=>wpAny_pure ⟨H',I,h⟩) he hs
section
variable {X:Cx}{K:Frag}
theorem zfP {α:Type}(u:α):∀(n:Nat) (acc:Array α),List.foldl (fun x1 x2=>x1++x2) acc (List.replicate n #[u])=acc++(List.replicate n u).toArray
 | 0,acc=>by simp
 | n+1,acc=>by
  rw[List.replicate_succ,List.foldl_cons,zfP u n,List.replicate_succ]
  apply Array.ext'
  simp
theorem zjd {prog:Program}{w:World}{A:Around}{E:Value->Shared->Prop}{s:Shared}{l:Addr}{items:Array Value}{k:Nat}{x:Int}{u:Tok}{Q:Value->Shared->Prop}
  (hl:s.heap.get? l=some { cls:=.type "list", dict:=none,data:=.seq items k,slots:=#[] })
  (hlo:-(2^63:Int)<=x)(hhi:x<2^63)(hsz:items.size*x.toNat<=2^24)
  (h:Q (.ref s.heap.objs.size) { s with heap:=s.heap.push { cls:=.type "list", data:=.seq (List.foldl (fun x1 x2=>x1++x2) #[] (List.replicate (if items.isEmpty=true then 0 else x.toNat) items)) } }) :
  wpAny (model prog w) A (binaryOp .Mult (.ref l) (.int x u)) Q E s :=
 wpAny_binaryOp_repeat_ref (T := "list") (U := "int") (by decide) ⟨_,hl,rfl⟩ (fun s'=>typeIs_int s' x u) noFill_list_mul PySem.F.fills_int_mul PySem.F.slot_int_rmul repeat_list PySem.F.slot_int_index.lookup
  (call_meets PySem.F.slot_int_rmul (typeIs_int s x u) PySem.F.entry_int_rmul (PySem.F.args_int_rmul_2 _ _) (int___rmul___int_list x u l items k)
   ⟨hl,rfl,⟨_,hl,rfl⟩,call_meets PySem.F.slot_list_mul ⟨_,hl,rfl⟩ PySem.F.entry_list_mul (PySem.F.args_list_mul_2 _ _)
    (AutoListH.list___mul___list_int_3 l items k x u (by simp[Builtin.List.listFitsIndex];omega) (by omega) (by simp[Builtin.List.listTooLong,sizeLine];omega))
    ⟨hl,h⟩⟩)
def zkM:R2:=fun x y H Q=>∃(p:Addr) (v:V) (n:Nat),x=.ref p/\y=.int n/\H p=some (.lst [v])/\n<=1000/\∀l,H l=none->Q (.ref l) (upd H l (.lst (List.replicate n v)))
theorem uz:Vp X (binaryOp .Mult) zkM:=by
 intro pins s σ H x y vx vy Q I rx ry h
 obtain⟨p,v,n,rfl,rfl,hp,hn,q⟩:=h
 cases rx
 obtain⟨t,rfl⟩:=ry
 obtain⟨z,its,k,r,hl,e⟩:=I.zg6 hp
 obtain⟨u,rfl,ru⟩:=vals1 r
 have hsz:[u].toArray.size=1:=rfl
 refine zjd e (by omega) (by omega) (by rw[hsz];omega) ?_
 have e2:List.foldl (fun x1 x2=>x1++x2) #[] (List.replicate (if [u].toArray.isEmpty=true then 0 else (n:Int).toNat) [u].toArray)=(List.replicate n u).toArray:=by
  have e3:(if [u].toArray.isEmpty=true then 0 else (n:Int).toNat)=n:=by simp
  rw[e3]
  have:=zfP u n #[]
  simpa using this
 rw[e2]
 refine⟨.ref s.heap.objs.size,_,I.laid (t':=s.toks) (o:=.lst (List.replicate n v)) (fun b o e=>zvG _ e) (zvQ _) ?_,rfl,q _ (I.hok.fresh (zvQ _))⟩
 refine⟨by rw[List.length_replicate];exact zvS (yc hn),List.replicate n u,0,?_,zvU _ rfl⟩
 clear e2 q hn
 induction n with
 | zero=>exact .nil
 | succ n ih=>exact .cons ru ih
end
end L2
namespace WX
open PySem L2 zZ
def W3 (ns:List Int)(i:Nat):Int:=(ns[i]?).getD 0
inductive zbl (K:Frag)(vs:List V)(H:Hp)(Q:VK)(E9:XK):Prop
 | mk (l:Addr) (ns:List Int) (i:Nat) (_:vs=[.ref l,.int i]) (_:zX K H l (ns.map V.int)) (_:Q (.int (W3 ns i)) H):zbl K vs H Q E9
end WX
namespace L2
theorem zp0 {σ:St}{H:Hp}{Q:Bool->Hp->Prop}(h:Q true H):Jw σ H Q:=h
end L2
namespace L2
open PySem PySem.Spec PyProof.Rows
section
variable {X:Cx}
def zkN (K:Frag):V->List V->Hp->VK->Prop:=fun x vs H Q=>∃(l:Addr) (ns:List Int) (y:Int),x=.ref l/\vs=[.int y]/\zX K H l (ns.map V.int)/\Q (.int (ns.count y:Nat)) H
theorem zkO {K:Frag}(hK:X.K=K):MtM X "list.count" (zkN K):=by
 subst hK
 intro pins s σ H x vs v us Q I rx rv h
 obtain⟨l,ns,y,rfl,rfl,hq,q⟩:=h
 cases rx
 obtain⟨u,rfl,ru⟩:=rv.one
 obtain⟨t,rfl⟩:=ru
 obtain⟨its,r',pl,hz⟩:=I.list hq
 exact count_list_ints pl.isList (intsAre_of r') ⟨.int (ns.count y:Nat),H,I.tok _,⟨s.toks,rfl⟩,q⟩
end
end L2
namespace zZ
def ones (r:List Bool):Nat:=r.count true
theorem zfQ:∀r:List Bool,(r.map fun b=>((b.toNat:Nat):Int)).sum=((ones r:Nat):Int)
 | []=>rfl
 | v::r=>by
  have ih:=zfQ r
  rw[zvY,List.sum_cons,ih]
  unfold ones
  rw[List.count_cons]
  cases v
  ·show(0:Int)+_=_
   simp
  ·show(1:Int)+_=_
   simp
   omega
def zmr (L:List (List Bool))(m:Nat):Nat:=(L.filter fun r=>ones r==m).length
theorem zbT (m:Nat):∀L:List (List Bool),((L.map fun r=>((ones r:Nat):Int))).count ((m:Nat):Int)=zmr L m
 | []=>rfl
 | r::L=>by
  have ih:=zbT m L
  rw[zvY,List.count_cons,ih]
  unfold zmr
  rw[List.filter_cons]
  by_cases e:ones r=m
  ·rw[if_pos (by rw[e];exact beq_self_eq_true _),if_pos (by rw[e];exact beq_self_eq_true _)]
   rfl
  ·rw[if_neg (by simp;omega),if_neg (by simp;exact e)]
   rfl
end zZ
namespace WX
open PySem L2 zZ
inductive JT (C:Addr)(vs:List V)(H:Hp)(Q:VK)(E9:XK):Prop
 | mk (b:Addr) (os:List Str) (rs:List Rm) (F:xW) (k:Nat) (_:vs=[.ref b,.int k]) (_:yp C H b os rs F) (_:k<rs.length) (_:∀(l:Addr) (H':Hp),Same H H'->H l=none->H' l=some (.lst ((List.range (os.length+1)).map fun m=>V.int (zmr (xP os.length rs k) m:Nat)))->Q (.ref l) H'):JT C vs H Q E9
theorem Sn.zfR:∀s:Sn,s.count+1<=2^s.depth:=by
 have key:∀(d:Nat) (s:Sn),s.depth<=d->s.count+1<=2^d:=by
  intro d
  induction d with
  | zero=>intro s h;have:=Sn.Jy s;omega
  | succ d ih =>
   intro s h
   have hp:=Sn.zat s
   have hl:=Sn.LC s
   have hd:=Sn.R5 s
   have hc:∀t∈s.parts,t.count+1<=2^d:=fun t ht=>ih t (by have:=hd t ht;omega)
   have p1:1<=2^d:=Nat.one_le_two_pow
   rw[Nat.pow_succ,hp]
   match hs:s.parts,hl with
   | [],_=>simp;omega
   | [a],_ =>
    have:=hc a (by rw[hs];simp)
    simp;omega
   | [a,b],_ =>
    have h1:=hc a (by rw[hs];simp)
    have h2:=hc b (by rw[hs];simp)
    simp;omega
   | a::b::c::r,h=>simp at h
 exact fun s=>key _ s (zvQ _)
end WX
namespace L2
open PySem
theorem zoq:bootBuiltins "min"=some (.builtin "min"):=by decide +kernel
end L2
namespace PySem.SeqAt
open AutoSeq1 (wpAny_loadPart')
open MeetsSeq MeetsSeq2 MeetsSeq3 SeqRoads2
def zaT (A:Around)(s:Shared)(y x:Value)(b:Bool):Prop :=
 ∀(prog:Program) (w:World) (E:Value->Shared->Prop) (Q:Value->Shared->Prop),Q (.bool b) s->wpAny (model prog w) A (richCompare .Lt y x) Q E s
def Kr (e f:Nat->Bool)(m n:Nat):Nat->Nat->Bool
 | 0,_=>decide (m<n)
 | k+1,i=>if e i then Kr e f m n k (i+1) else f i
theorem zje (l b:Addr)(items items2:Array Value)(n n2:Nat)(dd dd2:Option Addr)(sl sl2:Array (Option Value))(e f:Nat->Bool)(k:Nat) :
  ∀i:Nat,min items.size items2.size-i=k->Meets (Builtin.«list.__eq__.loop» ⟨[.ref l,.ref b,rawInt i,rawInt 0],[]⟩)
   (fun A R s=>s.heap.get? l=some { cls:=.type "list", dict:=dd,data:=.seq items n,slots:=sl }/\s.heap.get? b=some { cls:=.type "list", dict:=dd2,data:=.seq items2 n2,slots:=sl2 } /\
    (∀j (h1:j<items.size) (h2:j<items2.size),EqAt A.in1 s items[j] items2[j] (e j))/\(∀j (h1:j<items.size) (h2:j<items2.size),e j=false->zaT A.in1 s items[j] items2[j] (f j)) /\
    R (.ok (.ret (.bool (Kr e f items.size items2.size k i)))) s):=by
 induction k with
 | zero =>
  intro i hk prog w A R s h
  obtain⟨hp,g,d,tk,os⟩:=s;obtain⟨hl,hb,he,hf,h⟩:=h
  wp_walk using wpAny_loadPart' hl,wpAny_loadPart' hb
  by_cases h1:i<items.size
  ·have hi1:items[((i:Nat):Int).toNat]?=some items[i]:=by simp[h1]
   have hi2:items2[((i:Nat):Int).toNat]?=none:=by simp;omega
   rw[hi1,hi2]
   wp_walk using wpAny_loadPart' hl,wpAny_loadPart' hb
   exact h
  ·have hi1:items[((i:Nat):Int).toNat]?=none:=by simp;omega
   rw[hi1]
   wp_walk using wpAny_loadPart' hl,wpAny_loadPart' hb
   exact h
 | succ k ih =>
  intro i hk prog w A R s h
  obtain⟨hp,g,d,tk,os⟩:=s;obtain⟨hl,hb,he,hf,h⟩:=h
  wp_walk using wpAny_loadPart' hl,wpAny_loadPart' hb
  have hlt:i<items.size:=by omega
  have hlt2:i<items2.size:=by omega
  have hi1:items[((i:Nat):Int).toNat]?=some items[i]:=by simp[hlt]
  have hi2:items2[((i:Nat):Int).toNat]?=some items2[i]:=by simp[hlt2]
  have hc:((i:Int)+1)=((i+1:Nat):Int):=by push_cast;rfl
  rw[Kr] at h
  rw[hi1,hi2]
  refine wpAny_bind (he i hlt hlt2 prog w _ _ ?_)
  cases hb':e i with
  | true =>
   rw[hb',if_pos rfl] at h
   wp_walk
   rw[hc]
   exact⟨plainId_quiet plain_eq_loop _,codeAny_builtin entry_eq_loop (by
    rw[Around.under_plainId plain_eq_loop _]
    exact ih (i+1) (by omega) prog w A R _ ⟨hl,hb,he,hf,h⟩)⟩
  | false =>
   rw[hb',if_neg zvE] at h
   wp_walk using wpAny_loadPart' hl,wpAny_loadPart' hb
   rw[hi1,hi2]
   refine wpAny_bind (hf i hlt hlt2 hb' prog w _ _ ?_)
   wp_walk
   exact h
theorem zjf (l b:Addr)(items items2:Array Value)(n n2:Nat)(dd dd2:Option Addr)(sl sl2:Array (Option Value))(e f:Nat->Bool) :
  Meets (Builtin.«list.__lt__» ⟨[.ref l,.ref b],[]⟩)
   (fun A R s=>s.heap.get? l=some { cls:=.type "list", dict:=dd,data:=.seq items n,slots:=sl }/\s.heap.get? b=some { cls:=.type "list", dict:=dd2,data:=.seq items2 n2,slots:=sl2 } /\
    (∀j (h1:j<items.size) (h2:j<items2.size),EqAt A.in1 s items[j] items2[j] (e j))/\(∀j (h1:j<items.size) (h2:j<items2.size),e j=false->zaT A.in1 s items[j] items2[j] (f j)) /\
    R (.ok (.ret (.bool (Kr e f items.size items2.size (min items.size items2.size) 0)))) s):=by
 intro prog w A R s h
 obtain⟨hp,g,d,tk,os⟩:=s;obtain⟨hl,hb,he,hf,h⟩:=h
 have f3:=AutoSeq1.sub_list_list
 wp_walk using wpAny_loadPart' hl,wpAny_loadPart' hb
 exact⟨plainId_quiet plain_eq_loop _,codeAny_builtin entry_eq_loop (by
  rw[Around.under_plainId plain_eq_loop _]
  exact zje l b items items2 n n2 dd dd2 sl sl2 e f _ 0 rfl prog w A R _ ⟨hl,hb,he,hf,h⟩)⟩
theorem zhj (l b:Addr)(items items2:Array Value)(n n2:Nat)(dd dd2:Option Addr)(sl sl2:Array (Option Value))(e f:Nat->Bool) :
  Meets (Builtin.«tuple.__lt__» ⟨[.ref l,.ref b],[]⟩)
   (fun A R s=>s.heap.get? l=some { cls:=.type "tuple", dict:=dd,data:=.seq items n,slots:=sl }/\s.heap.get? b=some { cls:=.type "tuple", dict:=dd2,data:=.seq items2 n2,slots:=sl2 } /\
    (∀j (h1:j<items.size) (h2:j<items2.size),EqAt A.in1 s items[j] items2[j] (e j))/\(∀j (h1:j<items.size) (h2:j<items2.size),e j=false->zaT A.in1 s items[j] items2[j] (f j)) /\
    R (.ok (.ret (.bool (Kr e f items.size items2.size (min items.size items2.size) 0)))) s) :=
 .of_wp fun prog w A R s h=>by
  obtain⟨hp,g,d,tk,os⟩:=s;obtain⟨hl,hb,he,hf,h⟩:=h
  have f2:=AutoSeq1.sub_tuple_tuple
  have hZ:(items.toList.zip items2.toList).length=min items.size items2.size:=by simp
  wp_walk using wpAny_loadPart' hl,wpAny_loadPart' hb,wpAny_forIn_list _ (fun rest b s'=>b.1=none/\s'=⟨hp,g,d,tk,os⟩/\∃i,rest=(items.toList.zip items2.toList).drop i /\
   R (.ok (.ret (.bool (Kr e f items.size items2.size (min items.size items2.size-i) i)))) ⟨hp,g,d,tk,os⟩) _
  case turn =>
   rintro⟨y,x⟩ rest b s' ⟨hb',rfl,i,hz,hR⟩
   have hlt:i<(items.toList.zip items2.toList).length:=by
    rcases Nat.lt_or_ge i (items.toList.zip items2.toList).length with h' | h'
    ·exact h'
    ·rw[List.drop_of_length_le h'] at hz;cases hz
   have hm:i<min items.size items2.size:=hZ ▸ hlt
   have h1:i<items.size:=zvJ hm (Nat.min_le_left _ _)
   have h2:i<items2.size:=zvJ hm (Nat.min_le_right _ _)
   rw[List.drop_eq_getElem_cons hlt] at hz
   injection hz with hyx hrest
   have hy:y=items[i]:=by have:=congrArg Prod.fst hyx;simpa using this
   have hx:x=items2[i]:=by have:=congrArg Prod.snd hyx;simpa using this
   subst hy hx
   have hk:min items.size items2.size-i=(min items.size items2.size-(i+1))+1:=by omega
   rw[hk,Kr] at hR
   refine wpAny_bind (he i h1 h2 prog w _ _ ?_)
   cases hy:e i with
   | true =>
    rw[hy,if_pos rfl] at hR
    wp_walk
    exact⟨rfl,rfl,i+1,hrest,hR⟩
   | false =>
    rw[hy,if_neg zvE] at hR
    rw[if_pos (by rfl)]
    refine wpAny_bind (wpAny_rule (wpAny_bind (hf i h1 h2 hy prog w _ _ ?_)))
    wp_walk
    exact⟨_,rfl,hR⟩
  case fin =>
   rintro⟨b1,b2⟩ s' ⟨hb',rfl,i,hz,hR⟩
   simp only at hb'
   subst hb'
   have hge:min items.size items2.size<=i:=by
    rcases Nat.lt_or_ge i (items.toList.zip items2.toList).length with h' | h'
    ·rw[List.drop_eq_getElem_cons h'] at hz;cases hz
    ·exact hZ ▸ h'
   rw[Nat.sub_eq_zero_of_le hge,Kr] at hR
   wp_walk
   exact⟨_,rfl,by simpa [Builtin.Tuple.tupleCompareSizes] using hR⟩
  case h =>
   exact⟨rfl,rfl,0,rfl,h⟩
section
variable {A:Around}{s:Shared}
theorem zaT.lists {l b:Addr}{items items2:Array Value}{e f:Nat->Bool}(hl:s.heap.IsList l items)(hb:s.heap.IsList b items2)(hu:A.units<cLine)
  (he:∀j (h1:j<items.size) (h2:j<items2.size),EqAt A.in1 s items[j] items2[j] (e j))(hf:∀j (h1:j<items.size) (h2:j<items2.size),e j=false->zaT A.in1 s items[j] items2[j] (f j)) :
  zaT A s (.ref l) (.ref b) (Kr e f items.size items2.size (min items.size items2.size) 0):=fun prog w E Q h=>by
 obtain⟨⟨cls,dd,data,sl⟩,ho,hc,n,hd⟩:=id hl
 obtain⟨⟨cls2,dd2,data2,sl2⟩,ho2,hc2,n2,hd2⟩:=id hb
 simp only at hc hd hc2 hd2
 subst hc hd hc2 hd2
 exact richCompare_meets_room (op:=.Lt) ⟨_,ho,rfl⟩ ⟨_,ho2,rfl⟩ F.slot_list_lt F.entry_list_lt (F.args_list_lt_2 _ _) (zjf l b items items2 n n2 dd dd2 sl sl2 e f)
  ⟨ho,ho2,he,hf,show Value.bool _≠Value.notImplemented/\Q (.bool _) s from ⟨(fun x=>nomatch x),h⟩⟩ hu
theorem zaT.tuples {l b:Addr}{items items2:Array Value}{e f:Nat->Bool}(hl:s.heap.IsTuple l items)(hb:s.heap.IsTuple b items2)(hu:A.units<cLine)
  (he:∀j (h1:j<items.size) (h2:j<items2.size),EqAt A.in1 s items[j] items2[j] (e j))(hf:∀j (h1:j<items.size) (h2:j<items2.size),e j=false->zaT A.in1 s items[j] items2[j] (f j)) :
  zaT A s (.ref l) (.ref b) (Kr e f items.size items2.size (min items.size items2.size) 0):=fun prog w E Q h=>by
 obtain⟨⟨cls,dd,data,sl⟩,ho,hc,n,hd⟩:=id hl
 obtain⟨⟨cls2,dd2,data2,sl2⟩,ho2,hc2,n2,hd2⟩:=id hb
 simp only at hc hd hc2 hd2
 subst hc hd hc2 hd2
 exact richCompare_meets_room (op:=.Lt) ⟨_,ho,rfl⟩ ⟨_,ho2,rfl⟩ F.slot_tuple_lt F.entry_tuple_lt (F.args_tuple_lt_2 _ _) (zhj l b items items2 n n2 dd dd2 sl sl2 e f)
  ⟨ho,ho2,he,hf,show Value.bool _≠Value.notImplemented/\Q (.bool _) s from ⟨(fun x=>nomatch x),h⟩⟩ hu
end
end PySem.SeqAt
namespace L2
open PySem PySem.Spec PyProof.Rows
inductive LtD (K:Frag)(H:Hp):Nat->V->V->Bool->Prop
 | int {n:Nat} {i j:Int}:LtD K H n (.int i) (.int j) (decide (i<j))
 | ll {n:Nat} {p q:Addr} {xs ys:List V} {e f:Nat->Bool} (hp:zX K H p xs) (hq:zX K H q ys) (he:∀(j:Nat) x y,xs[j]?=some x->ys[j]?=some y->Ph K H n x y (e j))
   (hf:∀(j:Nat) x y,xs[j]?=some x->ys[j]?=some y->e j=false->LtD K H n x y (f j)):LtD K H (n+1) (.ref p) (.ref q) (SeqAt.Kr e f xs.length ys.length (min xs.length ys.length) 0)
 | tt {n:Nat} {p q:Addr} {xs ys:List V} {e f:Nat->Bool} (hp:vO K H p xs) (hq:vO K H q ys) (he:∀(j:Nat) x y,xs[j]?=some x->ys[j]?=some y->Ph K H n x y (e j))
   (hf:∀(j:Nat) x y,xs[j]?=some x->ys[j]?=some y->e j=false->LtD K H n x y (f j)):LtD K H (n+1) (.ref p) (.ref q) (SeqAt.Kr e f xs.length ys.length (min xs.length ys.length) 0)
section
variable {X:Cx}{pins:List (Addr×Obj)}{σ:St}{H:Hp}{s:Shared}
theorem LtD.at {n:Nat}{x y:V}{b:Bool}(h:LtD X.K H n x y b)(I:Inv X pins σ H s):∀{A:Around} {u v:Value},RelV x u->RelV y v->A.units+n<cLine->SeqAt.zaT A s u v b:=by
 induction h with
 | int =>
  intro A u v rx ry _ prog w E Q hq
  obtain⟨t,rfl⟩:=rx
  obtain⟨t2,rfl⟩:=ry
  exact CmpOf.ints_lt (prog:=prog) (w:=w) (A:=A) (P:=fun k v=>∃t,v=.int (if k=0 then _ else _) t) _ (fun _ _ z=>z) 0 1 _ _ s Q E ⟨t,rfl⟩ ⟨t2,rfl⟩ hq
 | @ll n p q xs ys e f hp hq he hf ih =>
  intro A u v rx ry hu
  cases rx
  cases ry
  obtain⟨us,r1,t1,_⟩:=I.list hp
  obtain⟨ws,r2,t2,_⟩:=I.list hq
  have l1:=r1.length
  have l2:=r2.length
  have z:=SeqAt.zaT.lists (A:=A) (e:=e) (f:=f) t1.isList t2.isList (by omega) (fun j h1 h2=>by
    obtain⟨x,hx,rx⟩:=item_at r1 h1
    obtain⟨y,hy,ry⟩:=item_at r2 h2
    exact(he j x y hx hy).at I rx ry (by show A.units+1+n<cLine;omega)) (fun j h1 h2 hn=>by
    obtain⟨x,hx,rx⟩:=item_at r1 h1
    obtain⟨y,hy,ry⟩:=item_at r2 h2
    exact ih j x y hx hy hn rx ry (by show A.units+1+n<cLine;omega))
  rw[zvK,zvK,<-l1,<-l2] at z
  exact z
 | @tt n p q xs ys e f hp hq he hf ih =>
  intro A u v rx ry hu
  cases rx
  cases ry
  obtain⟨us,r1,t1,_⟩:=I.tuple hp
  obtain⟨ws,r2,t2,_⟩:=I.tuple hq
  have l1:=r1.length
  have l2:=r2.length
  have z:=SeqAt.zaT.tuples (A:=A) (e:=e) (f:=f) t1 t2 (by omega) (fun j h1 h2=>by
    obtain⟨x,hx,rx⟩:=item_at r1 h1
    obtain⟨y,hy,ry⟩:=item_at r2 h2
    exact(he j x y hx hy).at I rx ry (by show A.units+1+n<cLine;omega)) (fun j h1 h2 hn=>by
    obtain⟨x,hx,rx⟩:=item_at r1 h1
    obtain⟨y,hy,ry⟩:=item_at r2 h2
    exact ih j x y hx hy hn rx ry (by show A.units+1+n<cLine;omega))
  rw[zvK,zvK,<-l1,<-l2] at z
  exact z
end
def znq (P:Program)(w:World)(A:Around)(G:Shared->Prop)(V:Nat->Value->Prop)(bt:Nat->Nat->Bool):Prop :=
 ∀i j vi vj (s:Shared) (Q:Value->Shared->Prop) (E:Value->Shared->Prop),V i vi->V j vj->G s->Q (.bool (bt i j)) s->wpAny (model P w) A (richCompare .Lt vi vj) Q E s
section
variable {prog:Program}{w:World}{A:Around}{R:Result->Shared->Prop}{I:Addr}{fp wr:List Addr}{n:Nat}{V:Nat->Value->Prop}{St:Nat->Heap->Prop}{G:Shared->Prop}{kw:List (Str×Value)}
theorem zjg (W:Walks prog w A.in1 I fp wr n V St)(bt:Nat->Nat->Bool)(S:Addr)(hcmp:znq prog w A.in1 G V bt)(hG:∀(s:Shared) (h':Heap) (tk:Tok),(∀b o,b∉wr->b≠S->s.heap.get? b=some o->h'.get? b=some o)->G s->G { s with heap:=h',toks:=tk })(hSf:S∉fp) :
  ∀(k j:Nat) (s:Shared) (vb:Value) (c:Nat),n-(j+1)=k->j+1<=n->St (j+1) s.heap->G s->V (argBest bt j) vb ->
  s.heap.get? S=some { cls:=.type "list", dict:=none,data:=.seq #[vb,vb] c,slots:=#[] } ->
  (∀v h' tk,V (argBest bt (n-1)) v->(∀b o,b∉wr->b≠S->s.heap.get? b=some o->h'.get? b=some o)->R (.ok (.ret v)) { s with heap:=h',toks:=tk }) ->
  codeAny (model prog w) A (.builtin "min.loop" ⟨[.ref I,.none,.ref S],kw⟩) R s:=by
 have hSw:S∉wr:=fun h=>hSf (W.sub _ h)
 have hname:(toString "min" ++ toString ".loop" : String)="min.loop" := by decide
 intro k
 induction k with
 | zero =>
  intro j s vb c hk hj hst hg hPb hS hR
  have hin:j+1=n:=by omega
  refine codeAny_builtin F.entry_min_loop ?_
  rw[Around.under_plainId F.plain_min_loop _]
  show wpAny _ A.in1 (seqItems? (.ref S)>>=_) _ _ s
  refine wpAny_bind (wpAny_seqItems hS rfl ?_)
  show wpAny _ A.in1 (tryCatch (pyNext (.ref I)) _>>=_) _ _ s
  refine wpAny_bind (wpAny_tryCatch (W.done s _ _ (hin ▸ hst) fun h' tk hk'=>?_))
  have hS':=hk' S _ hSw hS
  show wpAny _ A.in1 (updateSeq S (fun _=>#[])>>=_) _ _ _
  refine wpAny_bind ?_
  refine wpAny_updateSeq hS' rfl (wpAny_bind (wpAny_letGo (wpAny_pure ?_)))
  refine hR vb _ tk (by rw[<-hin];exact hPb) fun b o hbw hbS e=>(Heap.get?_update_other _ _ (Ne.symm hbS)).trans (hk' b o hbw e)
 | succ k ih =>
  intro j s vb c hk hj hst hg hPb hS hR
  have hlt:j+1<n:=by omega
  refine codeAny_builtin F.entry_min_loop ?_
  rw[Around.under_plainId F.plain_min_loop _]
  show wpAny _ A.in1 (seqItems? (.ref S)>>=_) _ _ s
  refine wpAny_bind (wpAny_seqItems hS rfl ?_)
  show wpAny _ A.in1 (tryCatch (pyNext (.ref I)) _>>=_) _ _ s
  refine wpAny_bind (wpAny_tryCatch (W.item (j+1) s _ _ hlt hst fun v h' tk hP hst' hk'=>?_))
  have hS':=hk' S _ hSw hS
  have hg':G { s with heap:=h',toks:=tk }:=hG _ _ _ (fun b o hbw _ e=>hk' b o hbw e) hg
  show wpAny _ A.in1 (tryCatch (holding [v,v] (richCompare .Lt v vb>>=_)) _>>=_) _ _ _
  refine wpAny_bind (wpAny_tryCatch (wpAny_holding (wpAny_bind (hcmp (j+1) (argBest bt j) v vb _ _ _ hP hPb hg' ?_))))
  refine wpAny_bind (wpAny_holding (wpAny_truthy_bool ?_))
  refine wpAny_bind (wpAny_letGo (wpAny_pure ?_))
  cases hb:bt (j+1) (argBest bt j) with
  | true =>
   simp only[if_true]
   refine wpAny_bind ?_
   refine wpAny_updateSeq hS' rfl (wpAny_bind (wpAny_letGo ?_))
   rw[hname]
   refine wpAny_pure ⟨plainId_quiet F.plain_min_loop _,ih (j+1) _ v _ (by omega) hlt (W.frame _ _ _ hst' fun b hbf o e=>?_) (hG _ _ _ (fun b o _ hbS e=>(Heap.get?_update_other _ _ (Ne.symm hbS)).trans e) hg') (by simp only[argBest,hb,if_true];exact hP) (Heap.get?_update_self _ hS' rfl)
    fun v' h'' tk'' hP' hk''=>?_⟩
   ·exact(Heap.get?_update_other _ _ (fun h:S=b=>hSf (by rw[h];exact hbf))).trans e
   ·exact hR v' h'' tk'' hP' fun b o hbw hbS e=>hk'' b o hbw hbS ((Heap.get?_update_other _ _ (Ne.symm hbS)).trans (hk' b o hbw e))
  | false =>
   simp only[Bool.false_eq_true,if_false]
   refine wpAny_bind (wpAny_letGo ?_)
   rw[hname]
   refine wpAny_pure ⟨plainId_quiet F.plain_min_loop _,ih (j+1) _ vb c (by omega) hlt hst' hg' (by simp only[argBest,hb,Bool.false_eq_true,if_false];exact hPb) hS' fun v' h'' tk'' hP' hk''=>?_⟩
   exact hR v' h'' tk'' hP' fun b o hbw hbS e=>hk'' b o hbw hbS (hk' b o hbw e)
theorem zhl (W:Walks prog w A.in1 I fp wr n V St)(bt:Nat->Nat->Bool)(S:Addr)(hcmp:znq prog w A.in1 G V bt)(hG:∀(s:Shared) (h':Heap) (tk:Tok),(∀b o,b∉wr->b≠S->s.heap.get? b=some o->h'.get? b=some o)->G s->G { s with heap:=h',toks:=tk })(hSf:S∉fp)(hn:0<n){s:Shared}{c:Nat}(hst:St 0 s.heap)(hg:G s)
  (hS:s.heap.get? S=some { cls:=.type "list", dict:=none,data:=.seq #[] c,slots:=#[] })
  (hR:∀v h' tk,V (argBest bt (n-1)) v->(∀b o,b∉wr->b≠S->s.heap.get? b=some o->h'.get? b=some o)->R (.ok (.ret v)) { s with heap:=h',toks:=tk }) :
  codeAny (model prog w) A (.builtin "min.loop" ⟨[.ref I,.none,.ref S],kw⟩) R s:=by
 have hSw:S∉wr:=fun h=>hSf (W.sub _ h)
 have hname:(toString "min" ++ toString ".loop" : String)="min.loop" := by decide
 refine codeAny_builtin F.entry_min_loop ?_
 rw[Around.under_plainId F.plain_min_loop _]
 show wpAny _ A.in1 (seqItems? (.ref S)>>=_) _ _ s
 refine wpAny_bind (wpAny_seqItems hS rfl ?_)
 show wpAny _ A.in1 (tryCatch (pyNext (.ref I)) _>>=_) _ _ s
 refine wpAny_bind (wpAny_tryCatch (W.item 0 s _ _ hn hst fun v h' tk hP hst' hk'=>?_))
 have hS':=hk' S _ hSw hS
 have hg':G { s with heap:=h',toks:=tk }:=hG _ _ _ (fun b o hbw _ e=>hk' b o hbw e) hg
 show wpAny _ A.in1 (updateSeq S (fun _=>#[v,v])>>=_) _ _ _
 refine wpAny_bind ?_
 refine wpAny_updateSeq hS' rfl ?_
 rw[hname]
 refine wpAny_pure ⟨plainId_quiet F.plain_min_loop _,zjg W bt S hcmp hG hSf _ 0 _ v _ rfl hn (W.frame _ _ _ hst' fun b hbf o e=>?_) (hG _ _ _ (fun b o _ hbS e=>(Heap.get?_update_other _ _ (Ne.symm hbS)).trans e) hg') hP (Heap.get?_update_self _ hS' rfl) fun v' h'' tk'' hP' hk''=>?_⟩
 ·exact(Heap.get?_update_other _ _ (fun h:S=b=>hSf (by rw[h];exact hbf))).trans e
 ·exact hR v' h'' tk'' hP' fun b o hbw hbS e=>hk'' b o hbw hbS ((Heap.get?_update_other _ _ (Ne.symm hbS)).trans (hk' b o hbw e))
theorem zkP (W:Walks prog w A.in1 I fp wr 0 V St)(S:Addr)(hSf:S∉fp){s:Shared}{c:Nat}{d:Value}(hst:St 0 s.heap)
  (hS:s.heap.get? S=some { cls:=.type "list", dict:=none,data:=.seq #[] c,slots:=#[] })
  (hR:∀h' tk,(∀b o,b∉wr->s.heap.get? b=some o->h'.get? b=some o)->R (.ok (.ret d)) { s with heap:=h',toks:=tk }) :
  codeAny (model prog w) A (.builtin "min.loop" ⟨[.ref I,.none,.ref S],[(Str.ofString "default", d)]⟩) R s:=by
 refine codeAny_builtin F.entry_min_loop ?_
 rw[Around.under_plainId F.plain_min_loop _]
 show wpAny _ A.in1 (seqItems? (.ref S)>>=_) _ _ s
 refine wpAny_bind (wpAny_seqItems hS rfl ?_)
 show wpAny _ A.in1 (tryCatch (pyNext (.ref I)) _>>=_) _ _ s
 refine wpAny_bind (wpAny_tryCatch (W.done s _ _ hst fun h' tk hk'=>?_))
 exact wpAny_bind (wpAny_rule (wpAny_pure (hR h' tk hk')))
end
theorem Ks (a v:Value):argsOk "min" ⟨[a],[(Str.ofString "default", v)]⟩:=by unfold argsOk;kernel_rfl
section
variable {X:Cx}{pins:List (Addr×Obj)}{σ:St}{H:Hp}{s:Shared}
theorem min_list {p:Addr}{ys:List V}{bt:Nat->Nat->Bool}{kw:List (Str×Value)}{Q:VK}{E:Value->Shared->Prop}(I:Inv X pins σ H s)(hc:X.calm=true)(hu:X.A.units+9<cLine)(hkw:kw=[]\/∃d,kw=[(Str.ofString "default", d)])(hq:zX X.K H p ys)(h0:0<ys.length)
  (hcmp:∀(i j:Nat) x y,ys[i]?=some x->ys[j]?=some y->LtD X.K H 8 x y (bt i j))(q:∀v,ys[argBest bt (ys.length-1)]?=some v->Q v H) :
  wpAny (model X.prog X.w) X.A (call (.builtin "min") [.ref p] kw) (EP X pins σ Q) E s:=by
 have hname:(toString "min" ++ toString ".loop" : String)="min.loop" := by decide
 obtain⟨its,r',pl,hz⟩:=I.list hq
 have hlen:=r'.length
 have hlt:p<s.heap.objs.size:=by obtain⟨_,e,_⟩:=pl.isList;exact zvH e
 have ha:argsOk "min" ⟨[.ref p],kw⟩:=by
  rcases hkw with rfl | ⟨d,rfl⟩
  ·exact F.args_min1 _
  ·exact Ks _ _
 have hb:∃d,Builtin.Builtins.bindParams "min" ["key", "default"] 0 ⟨[],kw⟩=pure [none,d]/\(d.toList.map fun d=>(Str.ofString "default", d))=kw:=by
  rcases hkw with rfl | ⟨d,rfl⟩
  ·exact⟨none,rfl,rfl⟩
  ·exact⟨some d,rfl,rfl⟩
 obtain⟨d,hb,ekw⟩:=hb
 refine kmk_tree F.kind_min F.plain_min F.entry_min ha ?_
 show wpAny _ X.A.in1 (Builtin.Builtins.bindParams "min" ["key", "default"] 0 ⟨[],kw⟩>>=_) _ _ s
 refine wpAny_bind (wpAny_of_eq hb ?_)
 refine wpAny_bind (wpAny_pure ?_)
 refine wpAny_bind (wpAny_pyIter_list pl.isList ?_)
 refine wpAny_bind (wpAny_newObj_type ?_)
 rw[hname]
 refine wpAny_pure ⟨plainId_quiet F.plain_min_loop _,?_⟩
 show codeAny _ _ (.builtin "min.loop" ⟨[.ref s.heap.objs.size,.none,.ref _],d.toList.map fun d=>(Str.ofString "default", d)⟩) _ _
 rw[ekw]
 have szI:(s.heap.push { cls:=.type "list_iterator", data:=.fields #[.ref p,.int 0 0] }).objs.size=s.heap.objs.size+1:=Heap.size_push _ _
 have back:∀(i:Nat) (v:Value),its.toArray[i]?=some v->∃x,ys[i]?=some x/\RelV x v:=fun i v e=>by
  obtain⟨hi,e'⟩:=Array.getElem?_eq_some_iff.mp e
  obtain⟨x,hx,rx⟩:=item_at r' hi
  rw[e'] at rx
  exact⟨x,hx,rx⟩
 have kpS:∀b o,s.heap.get? b=some o->b≠s.heap.objs.size/\b≠s.heap.objs.size+1:=fun b o e=>by
  have:=zvH e
  exact⟨fun z=>by rw[z] at this;exact Nat.lt_irrefl _ this,fun z=>by rw[z] at this;exact Nat.lt_irrefl _ (Nat.lt_of_succ_lt this)⟩
 refine zhl (G:=fun s'=>∃h tk,s'={ s with heap:=h,toks:=tk }/\∀b o,s.heap.get? b=some o->h.get? b=some o) (Walks.list (A:=X.A.in1) (I.ok.hd hc) s.heap.objs.size p (zvP hlt) its.toArray) bt _ ?_ ?_ ?_ ?_ ⟨?_,?_⟩ ?_ (zvU _ rfl) ?_
 ·rintro i j vi vj s' Q' E' hi hj ⟨h,tk,rfl,kp⟩ hQ
  obtain⟨x,hx,rx⟩:=back i vi hi
  obtain⟨y,hy,ry⟩:=back j vj hj
  exact(hcmp i j x y hx hy).at (I.kept (t':=tk) kp) rx ry (by show X.A.units+1+8<cLine;omega) _ _ _ _ hQ
 ·rintro s' h' tk hk ⟨h,tk2,rfl,kp⟩
  refine⟨h',tk,rfl,fun b o e=>hk b o ?_ ?_ (kp b o e)⟩
  ·rw[List.mem_singleton];exact(kpS b o e).1
  ·intro z
   rw[z] at e
   have:=zvH e
   rw[szI] at this
   exact Nat.lt_irrefl _ (Nat.lt_of_succ_lt this)
 ·intro hm
  have z:(s.heap.push { cls:=.type "list_iterator", data:=.fields #[.ref p,.int 0 0] }).objs.size=s.heap.objs.size\/(s.heap.push { cls:=.type "list_iterator", data:=.fields #[.ref p,.int 0 0] }).objs.size=p:=by simpa using hm
  rw[szI] at z
  rcases z with z | z
  ·exact absurd z (Nat.succ_ne_self _)
  ·rw[<-z] at hlt;exact Nat.lt_irrefl _ (Nat.lt_of_succ_lt hlt)
 ·rw[zvK];omega
 ·exact⟨_,zvG _ (zvU _ rfl),rfl,rfl⟩
 ·exact(pl.isList.push _).push _
 ·exact⟨_,_,rfl,fun b o e=>zvG _ (zvG _ e)⟩
 ·intro v h' tk hP hk
  obtain⟨x,hx,rx⟩:=back _ v hP
  have kp:∀b o,s.heap.get? b=some o->h'.get? b=some o:=fun b o e=>hk b o (by rw[List.mem_singleton];exact(kpS b o e).1) (fun z=>by
   rw[z] at e
   have:=zvH e
   rw[szI] at this
   exact Nat.lt_irrefl _ (Nat.lt_of_succ_lt this)) (zvG _ (zvG _ e))
  rw[zvK,<-hlen] at hx
  exact⟨x,H,I.kept kp,rx,q x hx⟩
theorem zjh {p:Addr}{d:Value}{dv:V}{Q:VK}{E:Value->Shared->Prop}(I:Inv X pins σ H s)(hc:X.calm=true)(hq:zX X.K H p [])(rd:RelV dv d)(q:Q dv H) :
  wpAny (model X.prog X.w) X.A (call (.builtin "min") [.ref p] [(Str.ofString "default", d)]) (EP X pins σ Q) E s:=by
 have hname:(toString "min" ++ toString ".loop" : String)="min.loop" := by decide
 obtain⟨its,r',pl,hz⟩:=I.list hq
 have hits:its=[]:=List.length_eq_zero_iff.mp r'.length.symm
 subst hits
 have hlt:p<s.heap.objs.size:=by obtain⟨_,e,_⟩:=pl.isList;exact zvH e
 refine kmk_tree F.kind_min F.plain_min F.entry_min (Ks _ _) ?_
 show wpAny _ X.A.in1 (Builtin.Builtins.bindParams "min" ["key", "default"] 0 ⟨[],[(Str.ofString "default", d)]⟩>>=_) _ _ s
 refine wpAny_bind (wpAny_of_eq (show Builtin.Builtins.bindParams "min" ["key", "default"] 0 ⟨[],[(Str.ofString "default", d)]⟩=pure [none,some d] from rfl) ?_)
 refine wpAny_bind (wpAny_pure ?_)
 refine wpAny_bind (wpAny_pyIter_list pl.isList ?_)
 refine wpAny_bind (wpAny_newObj_type ?_)
 rw[hname]
 refine wpAny_pure ⟨plainId_quiet F.plain_min_loop _,?_⟩
 have szI:(s.heap.push { cls:=.type "list_iterator", data:=.fields #[.ref p,.int 0 0] }).objs.size=s.heap.objs.size+1:=Heap.size_push _ _
 refine zkP (Walks.list (A:=X.A.in1) (I.ok.hd hc) s.heap.objs.size p (zvP hlt) ([]:List Value).toArray) _ ?_ ⟨?_,?_⟩ (zvU _ rfl) ?_
 ·intro hm
  have z:(s.heap.push { cls:=.type "list_iterator", data:=.fields #[.ref p,.int 0 0] }).objs.size=s.heap.objs.size\/(s.heap.push { cls:=.type "list_iterator", data:=.fields #[.ref p,.int 0 0] }).objs.size=p:=by simpa using hm
  rw[szI] at z
  rcases z with z | z
  ·exact absurd z (Nat.succ_ne_self _)
  ·rw[<-z] at hlt;exact Nat.lt_irrefl _ (Nat.lt_of_succ_lt hlt)
 ·exact⟨_,zvG _ (zvU _ rfl),rfl,rfl⟩
 ·exact(pl.isList.push _).push _
 ·intro h' tk hk
  have kp:∀b o,s.heap.get? b=some o->h'.get? b=some o:=fun b o e=>hk b o (fun hm=>by
   rw[List.mem_singleton.mp hm] at e
   exact Nat.lt_irrefl _ (zvH e)) (zvG _ (zvG _ e))
  exact⟨dv,H,I.kept kp,rd,q⟩
end
def zms (K:Frag)(t:TA)(td:TE):TE:=fun σ H Q=>t σ H fun xs H1=>Rx td Vq σ H1 fun zs H2=>∃(p:Addr) (ys:List V) (dv:V),xs=[.ref p]/\zs=[dv]/\zX K H2 p ys /\
 ((ys=[]/\Q dv H2)\/∃bt:Nat->Nat->Bool,0<ys.length/\(∀(i j:Nat) x y,ys[i]?=some x->ys[j]?=some y->LtD K H2 8 x y (bt i j))/\∀v,ys[argBest bt (ys.length-1)]?=some v->Q v H2)
section
variable {X:Cx}{x:Str}{p pos kpos:Pos}{e d:Expr}{t:TA}{td:TE}
theorem zji {K:Frag}(hK:X.K=K)(hc:X.calm=true)(hu:X.A.units+9<cLine)(hg:Gl X x)(hm:X.mg x=none)(hv:bootBuiltins x=some (.builtin "min"))(ha:PA X [e] t)(hd:PE X d td)(hn:x ≠ "__name__" := by decide)(hdb:(x==("__debug__" : Str))=false:=by decide)
  (he:backTo pos (starEach [e] X.env)=(false,eval e X.env)::backTo pos (starEach [] X.env):=by rfl)(hpl:(backTo pos (starEach [e] X.env)).any (·.1)=false:=by rfl)
  (hks:(backToKw pos (keywordEach [⟨some "default", d,kpos⟩] X.env)).filterMap (·.1)=[Str.ofString "default"]:=by rfl) :
  PE X (.Call (.Name x p) [e] [⟨some "default", d,kpos⟩] pos) (zms K t td):=by
 subst hK
 intro pins s σ H Q I h
 refine wpAny_Call_Name_kw (V7 I hg hm hv ?_ hn hdb)
 refine callWith_kw (vo (ha pos pins s σ H _ I h) fun us s1 ⟨vs,H1,I1,r1,q1⟩=>?_) he hpl
 refine vo ((zlL (nm:=some "default") (kpos:=kpos) hd znW) pos pins s1 σ H1 _ I1 q1) fun ws s2 ⟨zs,H2,I2,rz,q2⟩=>?_
 rw[hks]
 obtain⟨pp,ys,dv,rfl,rfl,hq,hh⟩:=q2
 obtain⟨u,rfl,rx⟩:=vals1 r1
 cases rx
 obtain⟨z,rfl,rz'⟩:=vals1 rz
 rcases hh with ⟨rfl,qd⟩ | ⟨bt,h0,hcmp,q⟩
 ·exact zjh I2 hc hq rz' qd
 ·exact min_list I2 hc hu (.inr ⟨z,rfl⟩) hq h0 hcmp q
end
end L2
namespace zZ
open PySem
theorem Np {w:Nat->Int}{bt:Nat->Nat->Bool}{n:Nat}(h:∀i j,j<i->i<n->bt i j=decide (w i<w j)):∀k,k<n->argBest bt k<=k/\(∀i,i<=k->w (argBest bt k)<=w i)/\∀i,i<argBest bt k->w (argBest bt k)<w i
 | 0,_=>by
  refine⟨zvQ _,fun i hi=>?_,fun i hi=>absurd hi (Nat.not_lt_zero _)⟩
  have e:i=0:=by omega
  rw[e]
  exact Int.le_refl _
 | k+1,hk=>by
  obtain⟨a1,a2,a3⟩:=Np h k (by omega)
  have hb:=h (k+1) (argBest bt k) (by omega) hk
  by_cases hw:w (k+1)<w (argBest bt k)
  ·have e:argBest bt (k+1)=k+1:=by
    show(if bt (k+1) (argBest bt k)=true then k+1 else argBest bt k)=k+1
    rw[hb,decide_eq_true hw,if_pos rfl]
   rw[e]
   refine⟨zvQ _,fun i hi=>?_,fun i hi=>?_⟩
   ·by_cases hik:i=k+1
    ·subst hik;exact Int.le_refl _
    ·have:=a2 i (by omega);omega
   ·have:=a2 i (by omega);omega
  ·have e:argBest bt (k+1)=argBest bt k:=by
    show(if bt (k+1) (argBest bt k)=true then k+1 else argBest bt k)=argBest bt k
    rw[hb,decide_eq_false hw,if_neg zvE]
   rw[e]
   refine⟨by omega,fun i hi=>?_,a3⟩
   by_cases hik:i=k+1
   ·subst hik;omega
   ·exact a2 i (by omega)
abbrev Wg:=Int×Int
def w2 (s:Wg)(v:Bool):Int:=if v then s.2 else s.1
def wgl (ws:List Wg)(r:List Bool):List Int:=(r.zip ws).map fun p=>w2 p.2 p.1
def wg (ws:List Wg)(r:List Bool):Int:=(wgl ws r).sum
def tL:List Bool->List Bool->Bool
 | a::r,b::t=>if a==b then tL r t else !a&&b
 | [],_::_=>true
 | _,[]=>false
theorem zbU:∀{r t:List Bool},r.length=t.length->tL r t=true->∀u v,tL (r++[u]) (t++[v])=true
 | [],[],_,h,_,_=>by cases h
 | a::r,b::t,hl,h,u,v=>by
  show(if a==b then tL (r++[u]) (t++[v]) else !a&&b)=true
  have h':(if a==b then tL r t else !a&&b)=true:=h
  cases hab:a==b with
  | true =>
   rw[hab] at h'
   simp only[if_true] at h' ⊢
   exact zbU (by simpa using hl) h' u v
  | false =>
   rw[hab] at h'
   exact h'
theorem zbV:∀(r:List Bool),tL (r++[false]) (r++[true])=true
 | []=>rfl
 | a::r=>by
  show(if a==a then tL (r++[false]) (r++[true]) else !a&&a)=true
  rw[beq_self_eq_true,if_pos rfl]
  exact zbV r
theorem zdK:∀(l:List (List Bool)),(∀r∈l,∀t∈l,r.length=t.length)->l.Pairwise (fun r t=>tL r t=true)->(l.flatMap fun r=>[r++[false],r++[true]]).Pairwise (fun r t=>tL r t=true)
 | [],_,_=>List.Pairwise.nil
 | r::l,hl,h=>by
  rw[List.pairwise_cons] at h
  rw[List.flatMap_cons,List.pairwise_append]
  refine⟨List.pairwise_cons.mpr ⟨fun t ht=>?_,List.pairwise_cons.mpr ⟨fun t ht=>by simp at ht,List.Pairwise.nil⟩⟩,zdK l (fun a ha b hb=>hl a (zvL _ ha) b (zvL _ hb)) h.2,fun a ha b hb=>?_⟩
  ·have e:t=r++[true]:=by simpa using ht
   rw[e]
   exact zbV r
  ·obtain⟨t,ht,hb'⟩:=List.mem_flatMap.mp hb
   have hrt:=h.1 t ht
   have hlen:=hl r zvT t (zvL _ ht)
   have ea:a=r++[false]\/a=r++[true]:=by simpa using ha
   have eb:b=t++[false]\/b=t++[true]:=by simpa using hb'
   rcases ea with ea | ea<;>rcases eb with eb | eb<;>rw[ea,eb]<;>exact zbU hlen hrt _ _
theorem zdL:∀n,(allR n).Pairwise (fun r t=>tL r t=true)
 | 0=>List.pairwise_cons.mpr ⟨fun t ht=>by simp at ht,List.Pairwise.nil⟩
 | n+1=>zdK _ (fun r hr t ht=>(Uy n r hr).trans (Uy n t ht).symm) (zdL n)
theorem zdM (n:Nat)(rs:List Rm)(k:Nat):(xP n rs k).Pairwise (fun r t=>tL r t=true):=(zdL n).filter _
theorem Mp:∀{r t:List Bool},tL r t=true->tL t r=false
 | [],[],h=>by cases h
 | [],_::_,_=>rfl
 | _::_,[],h=>by cases h
 | a::r,b::t,h=>by
  have h':(if a==b then tL r t else !a&&b)=true:=h
  show(if b==a then tL t r else !b&&a)=false
  cases a<;>cases b
  ·exact Mp (r:=r) (t:=t) h'
  ·rfl
  ·cases h'
  ·exact Mp (r:=r) (t:=t) h'
end zZ
namespace WX
open PySem L2 zZ
theorem zey (a b:Int):eqV (.int a) (.int b)=decide (a=b):=by
 by_cases h:a=b
 ·subst h;rw[decide_eq_true rfl];simp[eqV]
 ·rw[decide_eq_false h];simp[eqV,h]
theorem zdN {r t:List Bool}(hl:r.length=t.length):∀(k i:Nat),k+i=r.length->SeqAt.Kr (fun j=>r.getD j false==t.getD j false) (fun j=>!r.getD j false&&t.getD j false) r.length t.length k i=tL (r.drop i) (t.drop i)
 | 0,i,h=>by
  rw[List.drop_of_length_le (by omega),List.drop_of_length_le (by omega)]
  show decide (r.length<t.length)=false
  rw[decide_eq_false (by omega)]
 | k+1,i,h=>by
  have h1:i<r.length:=by omega
  have h2:i<t.length:=by omega
  rw[List.drop_eq_getElem_cons h1,List.drop_eq_getElem_cons h2]
  show(if (r.getD i false==t.getD i false)=true then SeqAt.Kr _ _ _ _ k (i+1) else _)=(if r[i]==t[i] then tL (r.drop (i+1)) (t.drop (i+1)) else !r[i]&&t[i])
  rw[zdN hl k (i+1) (by omega)]
  have e1:r.getD i false=r[i]:=by rw[zvN,zvB h1];rfl
  have e2:t.getD i false=t[i]:=by rw[zvN,zvB h2];rfl
  dsimp only
  rw[e1,e2]
theorem zmt {K:Frag}{H:Hp}{n:Nat}{p q:Addr}{r t:List Bool}(hp:zX K H p (vH r))(hq:zX K H q (vH t))(hl:r.length=t.length):LtD K H (n+1) (.ref p) (.ref q) (tL r t):=by
 have at_:∀{r:List Bool} {j:Nat} {x:V},(vH r)[j]?=some x->x=.int ((r.getD j false).toNat:Nat):=fun {r j x} h=>by
  rw[zvC] at h
  cases hj:r[j]? with
  | none=>rw[hj] at h;cases h
  | some b=>rw[hj] at h;rw[zvN,hj];exact(zv4 h).symm
 have z:=LtD.ll (n:=n) (e:=fun j=>r.getD j false==t.getD j false) (f:=fun j=>!r.getD j false&&t.getD j false) hp hq (fun j x y hx hy=>by
  rw[at_ hx,at_ hy]
  have w:=Ph.flat (K:=K) (H:=H) (n:=n) (x:=.int ((r.getD j false).toNat:Nat)) (y:=.int ((t.getD j false).toNat:Nat)) rfl rfl
  rw[zey] at w
  have e:decide (((r.getD j false).toNat:Int)=((t.getD j false).toNat:Int))=(r.getD j false==t.getD j false):=by cases r.getD j false<;>cases t.getD j false<;>rfl
  rw[e] at w
  exact w) (fun j x y hx hy he=>by
  rw[at_ hx,at_ hy]
  have w:=LtD.int (K:=K) (H:=H) (n:=n) (i:=((r.getD j false).toNat:Nat)) (j:=((t.getD j false).toNat:Nat))
  have e:decide (((r.getD j false).toNat:Int)<((t.getD j false).toNat:Int))=(!r.getD j false&&t.getD j false):=by cases r.getD j false<;>cases t.getD j false<;>rfl
  rw[e] at w
  exact w)
 rw[zvA,zvA,<-hl,Nat.min_self] at z
 have w:=zdN hl r.length 0 (by omega)
 rw[<-hl] at w
 rw[w] at z
 exact z
def JV (r t:List Bool):Bool:=(List.range r.length).all fun j=>r.getD j false==t.getD j false
theorem ziy {K:Frag}{H:Hp}{n:Nat}{p q:Addr}{r t:List Bool}(hp:zX K H p (vH r))(hq:zX K H q (vH t))(hl:r.length=t.length):Ph K H (n+1) (.ref p) (.ref q) (JV r t):=by
 have at_:∀{r:List Bool} {j:Nat} {x:V},(vH r)[j]?=some x->x=.int ((r.getD j false).toNat:Nat):=fun {r j x} h=>by
  rw[zvC] at h
  cases hj:r[j]? with
  | none=>rw[hj] at h;cases h
  | some b=>rw[hj] at h;rw[zvN,hj];exact(zv4 h).symm
 have z:=Ph.ll (n:=n) (e:=fun j=>r.getD j false==t.getD j false) hp hq (by rw[zvA,zvA,hl]) (fun j x y hx hy=>by
  rw[at_ hx,at_ hy]
  have w:=Ph.flat (K:=K) (H:=H) (n:=n) (x:=.int ((r.getD j false).toNat:Nat)) (y:=.int ((t.getD j false).toNat:Nat)) rfl rfl
  rw[zey] at w
  have e:decide (((r.getD j false).toNat:Int)=((t.getD j false).toNat:Int))=(r.getD j false==t.getD j false):=by cases r.getD j false<;>cases t.getD j false<;>rfl
  rw[e] at w
  exact w)
 rw[zvA] at z
 exact z
def zbW (a b:Int)(r t:List Bool):Bool:=if decide (a=b)=true then (if JV r t=true then decide (2<2) else tL r t) else decide (a<b)
theorem zfS {a b:Int}{r t:List Bool}(hn:tL r t=false):zbW a b r t=decide (a<b):=by
 unfold zbW
 rw[hn]
 by_cases hab:a=b
 ·rw[decide_eq_true hab,if_pos rfl,decide_eq_false (show ¬a<b by omega)]
  cases JV r t<;>rfl
 ·rw[decide_eq_false hab,if_neg zvE]
theorem zmu {K:Frag}{H:Hp}{p q rp rq:Addr}{a b:Int}{r t:List Bool}(hp:vO K H p [.int a,.ref rp])(hq:vO K H q [.int b,.ref rq])(hr:zX K H rp (vH r))(ht:zX K H rq (vH t))(hl:r.length=t.length) :
  LtD K H 8 (.ref p) (.ref q) (zbW a b r t) :=
 LtD.tt (n:=7) (e:=fun j=>match j with | 0=>decide (a=b) | _=>JV r t) (f:=fun j=>match j with | 0=>decide (a<b) | _=>tL r t) hp hq (fun j x y hx hy=>by
  match j,hx,hy with
  | 0,hx,hy =>
   cases hx
   cases hy
   have w:=Ph.flat (K:=K) (H:=H) (n:=7) (x:=.int a) (y:=.int b) rfl rfl
   rw[zey] at w
   exact w
  | 1,hx,hy=>cases hx;cases hy;exact ziy hr ht hl) (fun j x y hx hy _=>by
  match j,hx,hy with
  | 0,hx,hy=>cases hx;cases hy;exact LtD.int
  | 1,hx,hy=>cases hx;cases hy;exact zmt hr ht hl)
end WX
namespace L2
open PySem
theorem zkQ:bootBuiltins "abs"=some (.builtin "abs"):=by decide +kernel
end L2
namespace WX
open PySem L2 zZ
def zaU (H:Hp)(p:Addr)(s:Wg):Prop:=H p=some (.tup [.int s.1,.int s.2])
def zp2 (s:Wg):Prop:=(-1000000<=s.1/\s.1<=1000000)/\(-1000000<=s.2/\s.2<=1000000)
structure Y7 (K:Frag)(H:Hp)(l:Addr)(ps:List Addr)(ws:List Wg)(n:Nat):Prop where
 lst:zX K H l (ps.map V.ref)
 at_:Paired (zaU H) ps ws
 len:ws.length=n
 ok:∀s∈ws,zp2 s
theorem Y7.mono {K:Frag}{H H':Hp}{l:Addr}{ps:List Addr}{ws:List Wg}{n:Nat}(h:Y7 K H l ps ws n)(g:Same H H'):Y7 K H' l ps ws n:=⟨g.seq h.lst,vA (fun _ _ r=>xO.of g _ _ r) h.at_,h.len,h.ok⟩
inductive Yh (vs:List V)(H:Hp)(Q:VK)(E9:XK):Prop
 | mk (p:Addr) (s:Wg) (_:vs=[.ref p]) (_:zaU H p s) (_:zp2 s) (_:∀H',Same H H'->Q (.bl true) H'):Yh vs H Q E9
theorem zaV:R7 Yh:=fun vs H Q Q' E h ⟨p,s,e,h1,h2,q⟩=>⟨p,s,e,h1,h2,fun H' g=>h _ _ (q H' g)⟩
inductive Zw (C:Addr)(K:Frag)(vs:List V)(H:Hp)(Q:VK)(E9:XK):Prop
 | mk (b l:Addr) (os:List Str) (rs:List Rm) (F:xW) (ps:List Addr) (ws:List Wg) (_:vs=[.ref b,.ref l]) (_:yp C H b os rs F) (_:Y7 K H l ps ws os.length) (_:∀H',Same H H'->Q .non H'):Zw C K vs H Q E9
inductive Sg (K:Frag)(vs:List V)(H:Hp)(Q:VK)(E9:XK):Prop
 | mk (rl l:Addr) (r:List Bool) (ps:List Addr) (ws:List Wg) (n:Nat) (_:vs=[.ref rl,.ref l]) (_:zX K H rl (vH r)) (_:r.length=n) (_:n<=8) (_:Y7 K H l ps ws n) (_:∀H',Same H H'->Q (.int (wg ws r)) H'):Sg K vs H Q E9
def zkR (ws:List Wg)(L:List (List Bool))(r:List Bool):Prop:=∃i:Nat,L[i]?=some r/\(∀(j:Nat) t,L[j]?=some t->wg ws r<=wg ws t)/\∀(j:Nat) t,j<i->L[j]?=some t->wg ws r<wg ws t
inductive Mq (C:Addr)(K:Frag)(vs:List V)(H:Hp)(Q:VK)(E9:XK):Prop
 | mk (b l:Addr) (os:List Str) (rs:List Rm) (F:xW) (k:Nat) (ps:List Addr) (ws:List Wg) (_:vs=[.ref b,.int k,.ref l]) (_:yp C H b os rs F) (_:k<rs.length) (_:Y7 K H l ps ws os.length) (_:(∀H',Same H H'->xP os.length rs k=[]->Q .non H')) (_:∀(q rl:Addr) (H':Hp) (r:List Bool),Same H H'->H q=none->H rl=none->zkR ws (xP os.length rs k) r->H' q=some (.tup [.int (wg ws r),.ref rl])->H' rl=some (.lst (vH r))->Q (.ref q) H'):Mq C K vs H Q E9
theorem zmv {ws:List Wg}{r:List Bool}(h:r.length=ws.length):(wgl ws r).length=r.length:=by
 unfold wgl
 rw[zvA,List.length_zip,h,Nat.min_self]
theorem zos {ws:List Wg}{r:List Bool}{i:Nat}{b:Bool}{s:Wg}(h1:r[i]?=some b)(h2:ws[i]?=some s):(wgl ws r)[i]?=some (zZ.w2 s b):=by
 unfold wgl
 have e:(r.zip ws)[i]?=some (b,s):=List.getElem?_zip_eq_some.mpr ⟨h1,h2⟩
 rw[zvC,e]
 rfl
end WX
namespace L2
open PySem PySem.Spec PyProof.Rows
theorem zp3 {x:V}{p q:Prop}(h:q):if (!decide (x=x))=true then p else q:=by
 rw[decide_eq_true rfl]
 exact h
theorem zot {x y:V}{p q:Prop}(e:x=y)(h:q):if (!decide (x=y))=true then p else q:=by
 subst e
 exact zp3 h
section
variable {X:Cx}
def zmw (K:Frag):V->List V->Hp->VK->Prop:=fun x vs H Q=>∃(l:Addr) (xs:List V) (y:V) (e:V->Bool) (j:Nat),x=.ref l/\vs=[y]/\zX K H l xs/\(∀z∈xs,Ph K H 8 z y (e z))/\xs.findIdx? e=some j/\Q (.int (j:Nat)) H
theorem zjj {K:Frag}(hK:X.K=K)(hu:X.A.units+9<cLine):MtM X "list.index" (zmw K):=by
 subst hK
 intro pins s σ H x vs v us Q I rx rv h
 obtain⟨l,xs,y,e,j,rfl,rfl,hq,he,hj,q⟩:=h
 cases rx
 obtain⟨u,rfl,ru⟩:=rv.one
 obtain⟨its,r,⟨o,n,e0,hc,hd,hdat⟩,hz⟩:=I.list hq
 obtain⟨cls,dd,dt,sl⟩:=o
 have hc':cls=.type "list" := hc
 have hdat':dt=.seq its.toArray n:=hdat
 subst hc' hdat'
 obtain⟨f,f1,f2⟩:=zok r he
 have hl:=r.length
 have hn:=RZ
 obtain⟨h1,h2,h3⟩:=List.findIdx?_eq_some_iff_getElem.mp hj
 have at_:∀m (hm:m<its.length),f its[m]=e (xs[m]'(by omega)):=fun m hm=>f1 m _ _ (zvB (by omega)) (zvB hm)
 refine call_meets F.slot_list_index ⟨_,e0,rfl⟩ F.entry_list_index (F.args_list_index_2 _ _) (SeqAt.list_indexAt l its.toArray n dd sl u f j (by simp;omega) (by omega) (by simp only[List.getElem_toArray];rw[at_];exact h2) (fun m hm hlt=>?_)) ⟨e0,fun w hw=>?_,?_⟩
 ·have hm':m<its.length:=by simpa using hm
  simp only[List.getElem_toArray]
  rw[at_ m hm']
  exact Bool.eq_false_iff.mpr (h3 m hlt)
 ·have hw':w∈its:=by simpa using hw
  obtain⟨i,hi,ew⟩:=zwe hw'
  have hx:i<xs.length:=by omega
  obtain⟨w',hw2,rw'⟩:=r.get (zvB hx)
  rw[zvB hi,ew] at hw2
  cases hw2
  have z:=at_ i hi
  rw[ew] at z
  rw[z]
  exact(he _ (List.getElem_mem hx)).at I rw' ru (by show X.A.units+1+8<cLine;omega)
 exact⟨.int (j:Nat),H,I.tok _,⟨_,rfl⟩,q⟩
end
end L2
namespace zZ
open WX
theorem zdO:∀r:List Bool,tL r r=false
 | []=>rfl
 | a::r=>by
  show(if a==a then tL r r else !a&&a)=false
  rw[beq_self_eq_true,if_pos rfl]
  exact zdO r
theorem zhm (n:Nat)(rs:List Rm)(k:Nat):(xP n rs k).Nodup:=(zdM n rs k).imp fun {a b} h e=>by rw[e,zdO] at h;cases h
theorem Nq {α:Type}[BEq α][LawfulBEq α]:∀{l:List α} {i:Nat} {x:α},l.Nodup->l[i]?=some x->l.findIdx? (fun y=>y==x)=some i
 | [],i,x,_,h=>by cases h
 | y::l,0,x,_,h=>by
  cases h
  rw[List.findIdx?_cons,beq_self_eq_true]
  rfl
 | y::l,i+1,x,nd,h=>by
  rw[List.nodup_cons] at nd
  have hx:l[i]?=some x:=h
  have ne:(y==x)=false:=by
   rw[beq_eq_false_iff_ne]
   intro e
   exact nd.1 (e ▸ zvF hx)
  rw[List.findIdx?_cons,ne,Nq nd.2 hx]
  rfl
end zZ
namespace WX
open PySem L2 zZ
theorem zhn {r t:List Bool}(hl:r.length=t.length):JV r t=(r==t):=by
 rw[zwd,beq_iff_eq]
 unfold JV
 rw[zv3]
 constructor
 ·intro h
  refine List.ext_getElem? fun j=>?_
  by_cases hj:j<r.length
  ·have z:=h j (List.mem_range.mpr hj)
   rw[beq_iff_eq,zvN,zvN,zvB hj,zvB (by omega)] at z
   rw[zvB hj,zvB (by omega)]
   exact congrArg some z
  ·rw[zv8 (by omega),zv8 (by omega)]
 ·intro e j _
  rw[e]
  exact beq_self_eq_true _
theorem zkS {r t:List Bool}(h:vH r=vH t):r=t:=by
 unfold vH at h
 refine List.map_inj_right (f:=fun b:Bool=>V.int (b.toNat:Nat)) (fun a b e=>?_) |>.mp h
 cases a<;>cases b<;>first | rfl | (injection e with e;cases e)
theorem zfT (r t:List Bool):decide (vH r=vH t)=(r==t):=by
 rw[zwd,decide_eq_true_iff,beq_iff_eq]
 exact⟨zkS,fun e=>by rw[e]⟩
theorem zmx {α β:Type}{R:α->β->Prop}{e:α->Bool}{f:β->Bool}(h:∀a b,R a b->e a=f b):∀{as:List α} {bs:List β},Paired R as bs->as.findIdx? e=bs.findIdx? f:=by
 intro as bs p
 induction p with
 | nil=>rfl
 | cons r t ih=>rw[List.findIdx?_cons,List.findIdx?_cons,h _ _ r,ih]
section
variable (C:Addr)(K:Frag)
inductive Qh (vs:List V)(H:Hp)(Q:VK)(E9:XK):Prop
 | mk (b rl:Addr) (os:List Str) (rs:List Rm) (F:xW) (k:Nat) (r:List Bool) (_:vs=[.ref b,.int (k:Nat),.ref rl]) (_:yp C H b os rs F) (_:k<rs.length) (_:zX K H rl (vH r)) (_:r.length=os.length) (_:∀H',Same H H'->Q (.int ((yes rs k (tK r)).toNat:Nat)) H'):Qh vs H Q E9
inductive zez (vs:List V)(H:Hp)(Q:VK)(E9:XK):Prop
 | mk (b:Addr) (os:List Str) (rs:List Rm) (F:xW) (k m:Nat) (r:List Bool) (_:vs=[.ref b,.int (k:Nat),.int (m:Nat)]) (_:yp C H b os rs F) (_:k<rs.length) (_:(xP os.length rs k)[m]?=some r) (_:∀(l:Addr) (H':Hp),Same H H'->H l=none->H' l=some (.lst (vH r))->Q (.ref l) H'):zez vs H Q E9
inductive Qi (vs:List V)(H:Hp)(Q:VK)(E9:XK):Prop
 | mk (b rl:Addr) (os:List Str) (rs:List Rm) (F:xW) (k m:Nat) (r:List Bool) (_:vs=[.ref b,.int (k:Nat),.ref rl]) (_:yp C H b os rs F) (_:k<rs.length) (_:zX K H rl (vH r)) (_:(xP os.length rs k)[m]?=some r) (_:∀H',Same H H'->Q (.int (m:Nat)) H'):Qi vs H Q E9
end
end WX
namespace L2
open PySem PySem.Spec PyProof.Rows PySem.W
theorem zfU {α:Type}{f:α->V}{g:α->Value}:∀{ts:List α},(∀t∈ts,RelV (f t) (g t))->Vals (ts.map f) (ts.map g)
 | [],_=>.nil
 | t::ts,h=>.cons (h t zvT) (zfU fun u hu=>h u (zvL _ hu))
theorem zkT {X:Cx}{c:Expr}{t:TT}{pins:List (Addr×Obj)}{s:Shared}{σ:St}{H:Hp}{Q:Bool->Hp->Prop}(I:Inv X pins σ H s)(h:t σ H Q)(hp:PT X c t):wpAny (model X.prog X.w) X.A (Y4 [c] X.env) (TP X pins σ Q) X.xe s:=wpAny_tests_one (hp pins s σ H Q I h)
end L2
namespace zZ
open PySem L2
theorem Nr (R:Row):∀n,(List.range n).map R∈allR n
 | 0=>by simp[allR]
 | n+1=>by
  rw[List.range_succ,zvO,List.map_singleton]
  refine List.mem_flatMap.mpr ⟨_,Nr R n,?_⟩
  cases R n<;>simp
end zZ
namespace L2
open PySem PySem.Spec PyProof.Rows
def itO (f0:Value)(fl:Bool)(d:Addr)(i n ep:Nat)(u0 u1:Value):Obj:={ cls:=.type "dict_itemiterator", dict:=none,data:=.fields #[f0,.bool fl,.ref d,.int i 0,.int n 0,.int ep 0,u0,u1],slots:=#[] }
section
variable {prog:Program}{w:World}{κ:Type}[DecidableEq κ]{knd:KeyKind prog w κ}{A:Around}{E:Value->Shared->Prop}{s:Shared}
theorem zkU {a:Addr}{Q:Option Obj->Shared->Prop}(h:Q (s.heap.get? a) s):wpAny (model prog w) A (loadIfAlive a) Q E s:=fun _ _ _=>h
theorem zjk {it dd a0:Addr}{i ep:Nat}{fl:Bool}{oA:Obj}{kvs:List (κ×Value)}{k:κ}{v u0 u1:Value}{Q:Option Value->Shared->Prop}
  (hit:s.heap.get? it=some (itO (rawInt a0) fl dd i kvs.length ep u0 u1))(hA:s.heap.get? a0=some oA)(hne:a0≠it)(hm:s.heap.DictAt knd dd kvs ep)(hx:kvs[i]?=some (k,v))
  (hQ:∀key h',knd.is k key=true->h'.get? it=some (itO (rawInt a0) true dd (i+1) kvs.length ep u0 u1)->h'.get? s.heap.objs.size=some { cls:=.type "tuple", data:=.seq #[key,v] }->h'.objs.size=s.heap.objs.size+1 ->
   (∀b o,b≠it->s.heap.get? b=some o->h'.get? b=some o)->Q (some (.ref s.heap.objs.size)) { s with heap:=h' }):wpAny (model prog w) A (pyNext (.ref it)) Q E s:=by
 obtain⟨hp,gg,dr,tk,os⟩:=s
 obtain⟨od,es,hod,hcd,hdd,hk,hpr,hn⟩:=hm
 have hT:Shared.TypeIs ⟨hp,gg,dr,tk,os⟩ (.ref it) "dict_itemiterator" := ⟨_,hit,rfl⟩
 unfold pyNext;refine wpAny_bind (wpAny_attempt (wpAny_callSpecial?_slot (name:=Str.ofString "__next__") hT F.slot_dict_itemiterator_next (wpAny_call_entry F.slot_dict_itemiterator_next hT F.entry_dict_itemiterator_next ?_ (F.args_dict_itemiterator_next_1 _))))
 refine wpAny_bind (wpAny_pure (wpAny_bind (wpAny_bind ?_)))
 first | refine wpAny_bind (wpAny_typeNameOfWhole_itemiter hT (wpAny_pure (wpAny_bind (wpAny_fieldsOf hit rfl ?_)))) | refine wpAny_bind (wpAny_typeNameOf_itemiter hT (wpAny_pure (wpAny_bind (wpAny_fieldsOf hit rfl ?_))))
 have own:Builtin.Dict_items.ownsTuple "dict_itemiterator"=true:=by decide
 simp only[own,if_true];show wpAny _ _ (if (Value.ref dd==Value.none)=true then _ else _) _ _ _
 rw[if_neg (show ¬((Value.ref dd==Value.none)=true) from zvE)]
 refine wpAny_bind (wpAny_pure (wpAny_bind (wpAny_dictEntries hod hdd ?_)))
 have sz:es.size=kvs.length:=by rw[<-hpr.length];simp
 rw[if_neg (by rw[sz];simp)];refine wpAny_bind (wpAny_pure (wpAny_bind (wpAny_dictEpoch hod hdd ?_)))
 rw[if_neg (by simp)];refine wpAny_pure ?_
 have lt:i<es.size:=by rw[sz];exact(zvD.mp hx).1
 obtain⟨hkey,hval⟩:=hpr.get? (e:=es[i]) (by simp[lt]) hx
 simp only[show ¬((i:Int)<0) from by omega,if_false,zwb,Array.getElem?_eq_getElem lt]
 refine wpAny_bind ?_
 first | refine wpAny_bind (wpAny_typeNameOfWhole_itemiter hT (wpAny_pure (wpAny_bind (wpAny_isOneOf_itemiter hT ?_)))) | refine wpAny_bind (wpAny_typeNameOf_itemiter hT (wpAny_pure (wpAny_bind (wpAny_isOneOf_itemiter hT ?_))))
 show wpAny _ _ (setField (.ref it) 3 (rawInt ((i:Int)+1))>>=_) _ _ ⟨hp,gg,dr,tk,os⟩
 refine wpAny_bind (wpAny_setField_rec hit (by simp) fun h1 he1 hs1=>?_)
 replace hs1:Heap.SameBut it hp h1:=hs1
 replace he1:h1.get? it=some (itO (rawInt a0) fl dd (i+1) kvs.length ep u0 u1):=by
  have e:((i+1:Nat):Int)=(i:Int)+1:=by omega
  unfold itO;rw[e];simpa [rawInt,itO] using he1
 have hT1:Shared.TypeIs ⟨h1,gg,dr,tk,os⟩ (.ref it) "dict_itemiterator" := ⟨_,he1,rfl⟩
 refine wpAny_bind (wpAny_holding (wpAny_bind (wpAny_isOneOf_itemiter hT1 (wpAny_bind (wpAny_isOneOf_itemiter hT1 ?_)))))
 show wpAny _ _ (Builtin.Dict_items.pairFromOwner (.ref it) 6 es[i].key es[i].val) _ _ ⟨h1,gg,dr,tk,os⟩
 unfold Builtin.Dict_items.pairFromOwner;refine wpAny_bind (wpAny_newTuple ?_)
 have he2:(h1.push { cls:=.type "tuple", data:=.seq #[es[i].key,es[i].val] }).get? it=some (itO (rawInt a0) fl dd (i+1) kvs.length ep u0 u1):=zvG _ he1
 have hz1:h1.objs.size=hp.objs.size:=hs1.1
 have hil:it<hp.objs.size:=zvH hit
 have ht2:(h1.push { cls:=.type "tuple", data:=.seq #[es[i].key,es[i].val] }).get? hp.objs.size=some { cls:=.type "tuple", data:=.seq #[es[i].key,es[i].val] }:=by rw[<-hz1];exact zvU _ rfl
 have hz2:(h1.push { cls:=.type "tuple", data:=.seq #[es[i].key,es[i].val] }).objs.size=hp.objs.size+1:=by rw[Heap.size_push,hz1]
 have hk2:∀b o,b≠it->hp.get? b=some o->(h1.push { cls:=.type "tuple", data:=.seq #[es[i].key,es[i].val] }).get? b=some o:=fun b o hb e=>zvG _ (hs1.extBut b o hb e)
 show wpAny _ _ (Builtin.Dict_items.ownedTupleIsFree (.ref it)>>=_) _ _ ⟨h1.push { cls:=.type "tuple", data:=.seq #[es[i].key,es[i].val] },gg,dr,tk,os⟩
 rw[hz1]
 generalize h1.push { cls:=.type "tuple", data:=.seq #[es[i].key,es[i].val] }=h2 at he2 ht2 hz2 hk2
 clear he1 hs1 hT1 hz1 h1
 refine wpAny_bind ?_
 unfold Builtin.Dict_items.ownedTupleIsFree
 refine wpAny_bind (wpAny_field he2 rfl (x:=rawInt a0) rfl ?_)
 show wpAny _ _ (loadIfAlive ((a0:Nat):Int).toNat>>=_) _ _ _
 rw[zwb]
 refine wpAny_bind (zkU ?_)
 show wpAny _ _ (if (h2.get? a0).isNone=true then _ else _) _ _ _
 rw[hk2 a0 oA hne hA,if_neg (by simp)]
 refine wpAny_bind (wpAny_field he2 rfl (x:=.bool fl) rfl ?_)
 have fin:∀h3:Heap,h3.get? it=some (itO (rawInt a0) true dd (i+1) kvs.length ep u0 u1)->h3.get? hp.objs.size=some { cls:=.type "tuple", data:=.seq #[es[i].key,es[i].val] }->h3.objs.size=hp.objs.size+1->(∀b o,b≠it->hp.get? b=some o->h3.get? b=some o)->Q (some (.ref hp.objs.size)) ⟨h3,gg,dr,tk,os⟩:=fun h3 e1 e2 e3 e4=>hQ es[i].key h3 hkey e1 (by rw[<-hval];exact e2) e3 e4
 cases fl with
 | true=>exact wpAny_pure (wpAny_pure (wpAny_pure ⟨_,rfl,wpAny_pure (fin h2 he2 ht2 hz2 hk2)⟩))
 | false =>
  refine wpAny_bind (wpAny_setField_rec he2 (by simp) fun h3 he3 hs3=>?_)
  replace hs3:Heap.SameBut it h2 h3:=hs3
  exact wpAny_pure (wpAny_pure (wpAny_pure ⟨_,rfl,wpAny_pure (fin h3 he3 (hs3.extBut _ _ (Nat.ne_of_gt hil) ht2) (hs3.1.trans hz2) fun b o hb e=>hs3.extBut b o hb (hk2 b o hb e))⟩))
theorem zdQ {it dd:Addr}{f0:Value}{fl:Bool}{i ep:Nat}{kvs:List (κ×Value)}{u0 u1:Value}{Q:Option Value->Shared->Prop}(hh:A.handled=none)(hit:s.heap.get? it=some (itO f0 fl dd i kvs.length ep u0 u1))
  (hm:s.heap.DictAt knd dd kvs ep)(hx:kvs[i]?=none)(hQ:∀h',Heap.ExtBut it s.heap h'->Q none { s with heap:=h' }):wpAny (model prog w) A (pyNext (.ref it)) Q E s:=by
 obtain⟨od,es,hod,hcd,hdd,hk,hpr,hn⟩:=hm
 have hT:s.TypeIs (.ref it) "dict_itemiterator" := ⟨_,hit,rfl⟩
 unfold pyNext;refine wpAny_bind (wpAny_attempt (wpAny_callSpecial?_slot (name:=Str.ofString "__next__") hT F.slot_dict_itemiterator_next (wpAny_call_entry F.slot_dict_itemiterator_next hT F.entry_dict_itemiterator_next ?_ (F.args_dict_itemiterator_next_1 _))))
 refine wpAny_bind (wpAny_pure (wpAny_bind (wpAny_bind ?_)))
 first | refine wpAny_bind (wpAny_typeNameOfWhole_itemiter hT (wpAny_pure (wpAny_bind (wpAny_fieldsOf hit rfl ?_)))) | refine wpAny_bind (wpAny_typeNameOf_itemiter hT (wpAny_pure (wpAny_bind (wpAny_fieldsOf hit rfl ?_))))
 have own:Builtin.Dict_items.ownsTuple "dict_itemiterator"=true:=by decide
 simp only[own,if_true];show wpAny _ _ (if (Value.ref dd==Value.none)=true then _ else _) _ _ _
 rw[if_neg (show ¬((Value.ref dd==Value.none)=true) from zvE)]
 refine wpAny_bind (wpAny_pure (wpAny_bind (wpAny_dictEntries hod hdd ?_)))
 have sz:es.size=kvs.length:=by rw[<-hpr.length];simp
 rw[if_neg (by rw[sz];simp)];refine wpAny_bind (wpAny_pure (wpAny_bind (wpAny_dictEpoch hod hdd ?_)))
 rw[if_neg (by simp)];refine wpAny_pure ?_
 have ge:es.size<=i:=by rw[sz];simpa using hx
 simp only[show ¬((i:Int)<0) from by omega,if_false,zwb,Array.getElem?_eq_none ge]
 refine wpAny_bind ?_
 first | refine wpAny_bind (wpAny_typeNameOfWhole_itemiter hT (wpAny_pure ?_)) | refine wpAny_bind (wpAny_typeNameOf_itemiter hT (wpAny_pure ?_))
 show wpAny _ _ (setField (.ref it) 2 .none>>=_) _ _ _
 refine wpAny_bind (wpAny_setField hit rfl (by simp) ?_);show wpAny _ _ (newExc (.type "StopIteration") []>>=_) _ _ _
 refine wpAny_bind ?_
 simp only[newExc,newTuple];refine wpAny_bind (wpAny_newObj_type ?_ (by size_fits))
 refine wpAny_bind (m:=firstArgMember _ _) (wpAny_of_eq (a:=Value.none) (by first | rfl | (simp only[firstArgMember];rfl)) (wpAny_newObj_type ?_ (by size_fits)))
 simp only[raiseNew];refine wpAny_bind (wpAny_handled ?_)
 rw[show A.in1.handled=none from hh];refine wpAny_bind (wpAny_pure (wpAny_throw ?_))
 refine wpAny_bind (wpAny_isInstance (T := "StopIteration") (b:=true) ⟨_,zvU _ rfl,rfl⟩ isSubtype_stop ?_)
 exact wpAny_pure (hQ _ (((Heap.SameBut.update ..).extBut.push _).push _))
end
structure Itm {prog:Program}{w:World}{κ:Type}[DecidableEq κ](knd:KeyKind prog w κ)(kvs:List (κ×Value))(d it base ep i:Nat)(h:Heap):Prop where
 dict:h.DictAt knd d kvs ep
 size:h.objs.size=base+i
 tups:∀j,j<i->∃k v key,kvs[j]?=some (k,v)/\knd.is k key=true/\h.get? (base+j)=some { cls:=.type "tuple", data:=.seq #[key,v] }
 here:(i=0/\∃u0 u1,h.get? it=some (itO .none false d 0 kvs.length ep u0 u1))\/∃fl u0 u1,0<i/\h.get? it=some (itO (rawInt base) fl d i kvs.length ep u0 u1)
def zp4 (acc:Array Value)(base i:Nat):Prop:=acc=((List.range i).map fun j=>Value.ref (base+j)).toArray
section
variable {prog:Program}{w:World}{κ:Type}[DecidableEq κ]{knd:KeyKind prog w κ}{A:Around}{E:Value->Shared->Prop}{s:Shared}
theorem zkV {d it base ep i:Nat}{kvs:List (κ×Value)}{Q:Option Value->Shared->Prop}(I:Itm knd kvs d it base ep i s.heap)(hi:i<kvs.length)(hb:it<base)(hd:d≠it)
  (hQ:∀h',Itm knd kvs d it base ep (i+1) h'->(∀b o,b≠it->s.heap.get? b=some o->h'.get? b=some o)->Q (some (.ref (base+i))) { s with heap:=h' }):wpAny (model prog w) A (pyNext (.ref it)) Q E s:=by
 obtain⟨⟨k,v⟩,hx⟩:∃x,kvs[i]?=some x:=⟨_,zvB hi⟩
 have go:∀key (h':Heap),knd.is k key=true->(∃fl u0 u1,h'.get? it=some (itO (rawInt base) fl d (i+1) kvs.length ep u0 u1))->h'.get? s.heap.objs.size=some { cls:=.type "tuple", data:=.seq #[key,v] }->h'.objs.size=s.heap.objs.size+1->(∀b o,b≠it->s.heap.get? b=some o->h'.get? b=some o)->Q (some (.ref s.heap.objs.size)) { s with heap:=h' }:=fun key h' hk ⟨fl,u0,u1,e1⟩ e2 e3 e4=>by
  rw[I.size]
  refine hQ h' ⟨?_,by rw[e3,I.size,Nat.add_assoc],fun j hj=>?_,.inr ⟨fl,u0,u1,Nat.succ_pos _,e1⟩⟩ e4
  ·obtain⟨o,es,a1,a2⟩:=I.dict
   exact⟨o,es,e4 d o hd a1,a2⟩
  ·rcases Nat.lt_or_ge j i with z | z
   ·obtain⟨k2,v2,key2,b1,b2,b3⟩:=I.tups j z
    exact⟨k2,v2,key2,b1,b2,e4 (base+j) _ (show base+j≠it by omega) b3⟩
   ·obtain rfl:j=i:=by omega
    exact⟨k,v,key,hx,hk,by rw[<-I.size];exact e2⟩
 rcases I.here with ⟨rfl,u0,u1,e⟩ | ⟨fl,u0,u1,ip,e⟩
 ·refine wpAny_pyNext_items_item (ok:=u0) (ov:=u1) e I.dict hx fun key h' a1 a2 a3 a4 a5=>go key h' a1 ⟨false,key,v,?_⟩ a3 a4 a5
  have:s.heap.objs.size=base:=I.size
  rw[this] at a2
  exact a2
 ·obtain⟨_,_,_,_,_,hA⟩:=I.tups 0 ip
  exact zjk (a0:=base) e hA (Nat.ne_of_gt hb) I.dict hx fun key h' a1 a2 a3 a4 a5=>go key h' a1 ⟨true,u0,u1,a2⟩ a3 a4 a5
theorem zkW {d it base ep:Nat}{kvs:List (κ×Value)}{Q:Option Value->Shared->Prop}(hh:A.handled=none)(I:Itm knd kvs d it base ep kvs.length s.heap)(hQ:∀h',Heap.ExtBut it s.heap h'->Q none { s with heap:=h' }):wpAny (model prog w) A (pyNext (.ref it)) Q E s:=by
 have hx:kvs[kvs.length]?=none:=zv8 (zvQ _)
 rcases I.here with ⟨z,u0,u1,e⟩ | ⟨fl,u0,u1,ip,e⟩
 ·refine zdQ (u0:=u0) (u1:=u1) (f0:=.none) (fl:=false) (i:=kvs.length) hh ?_ I.dict hx hQ
  rw[z];rw[z] at e;exact e
 ·exact zdQ hh e I.dict hx hQ
theorem zho {R:Result->Shared->Prop}{S d it base ep:Nat}{kvs:List (κ×Value)}{res:Value}(hh:A.handled=none)(hn:kvs.length<=sizeLine)(hS:S<base)(hit:it<base)(hSi:S≠it)(hSd:S≠d)(hd:d≠it):∀(m i:Nat) (s:Shared) (acc:Array Value) (c:Nat),kvs.length-i=m->i<=kvs.length->Itm knd kvs d it base ep i s.heap ->
  s.heap.get? S=some { cls:=.type "list", dict:=none,data:=.seq acc c,slots:=#[] }->zp4 acc base i ->
  (∀h' c',(∀b o,b≠S->b≠it->s.heap.get? b=some o->h'.get? b=some o)->(∀j,j<kvs.length->∃k v key,kvs[j]?=some (k,v)/\knd.is k key=true/\h'.get? (base+j)=some { cls:=.type "tuple", data:=.seq #[key,v] }) ->
   h'.get? S=some { cls:=.type "list", dict:=none,data:=.seq ((List.range kvs.length).map fun j=>Value.ref (base+j)).toArray c',slots:=#[] }->R (.ok (.ret res)) { s with heap:=h' }) ->
  codeAny (model prog w) A (.builtin "list.extend.loop" ⟨[.ref S,.ref it,res],[]⟩) R s:=by
 intro m
 induction m with
 | zero =>
  intro i s acc c hk hi I hL hacc hR
  obtain rfl:i=kvs.length:=by omega
  refine codeAny_builtin F.entry_extend_loop ?_
  rw[Around.under_plainId F.plain_extend_loop _];show wpAny _ A.in1 (pyNext (.ref it)>>=_) _ _ s
  refine wpAny_bind (zkW hh I fun h' e=>?_)
  refine wpAny_pure (hR h' c (fun b o _ hb z=>e b o hb z) (fun j hj=>?_) ?_)
  ·obtain⟨k,v,key,b1,b2,b3⟩:=I.tups j hj
   exact⟨k,v,key,b1,b2,e (base+j) _ (show base+j≠it by omega) b3⟩
  ·have:=e S _ hSi hL
   rw[hacc] at this
   exact this
 | succ m ih =>
  intro i s acc c hk hi I hL hacc hR
  have hlt:i<kvs.length:=by omega
  refine codeAny_builtin F.entry_extend_loop ?_
  rw[Around.under_plainId F.plain_extend_loop _];show wpAny _ A.in1 (pyNext (.ref it)>>=_) _ _ s
  refine wpAny_bind (zkV I hlt hit hd fun h' I' e=>?_)
  have hL':=e S _ hSi hL
  have ac:acc.size=i:=by rw[hacc];simp
  show wpAny _ A.in1 (updateSeq S (·.push (.ref (base+i)))>>=_) _ _ _
  refine wpAny_bind ?_
  have oth:∀b o,b≠S->h'.get? b=some o->(h'.update S (Obj.mapSeq (·.push (.ref (base+i))))).get? b=some o:=fun b o hb z=>(Heap.get?_update_other _ _ (Ne.symm hb)).trans z
  refine wpAny_updateSeq hL' rfl (wpAny_pure ⟨plainId_quiet F.plain_extend_loop _,ih (i+1) _ (acc.push (.ref (base+i))) _ (by omega) hlt ?_ (Heap.get?_update_self _ hL' rfl) ?_ fun h2 c2 e2 t2 l2=>?_⟩) (by omega) (by show(acc.push _).size<=sizeLine+1;rw[Array.size_push];omega)
  ·refine⟨?_,by rw[Heap.size_update];exact I'.size,fun j hj=>?_,?_⟩
   ·obtain⟨o,es,a1,a2⟩:=I'.dict
    exact⟨o,es,oth d o (Ne.symm hSd) a1,a2⟩
   ·obtain⟨k,v,key,b1,b2,b3⟩:=I'.tups j hj
    exact⟨k,v,key,b1,b2,oth (base+j) _ (show base+j≠S by omega) b3⟩
   ·rcases I'.here with ⟨z,u0,u1,e⟩ | ⟨fl,u0,u1,ip,e⟩
    ·exact .inl ⟨z,u0,u1,oth it _ (Ne.symm hSi) e⟩
    ·exact .inr ⟨fl,u0,u1,ip,oth it _ (Ne.symm hSi) e⟩
  ·show acc.push _=_
   rw[hacc,List.range_succ,zvO]
   simp
  ·exact hR h2 c2 (fun b o hb hb2 z=>e2 b o hb hb2 (oth b o hb (e b o hb2 z))) t2 l2
theorem zhp {r:Addr}{Q:Bool->Shared->Prop}(hT:s.TypeIs (.ref r) "dict_items")(h:Q false s):wpAny (model prog w) A (Builtin.List.listLengthHint (.ref r)) Q E s:=by
 unfold Builtin.List.listLengthHint;refine wpAny_bind (wpAny_specialOf hT PySem.F.slot_dict_items_len.lookup ?_)
 generalize hid:("dict_items.__len__" : String)=id0
 wp_delta
 rw[show splitId id0=some ("dict_items", "__len__") from by subst hid;decide +kernel]
 subst hid
 refine wpAny_bind (wpAny_isInstance (T := "dict_items") (b:=true) hT (by rw[isSubtype_type];kernel_rfl) (wpAny_ite_split (fun hab=>absurd hab (by decide)) (fun _=>wpAny_ite_split (fun _=>?_) (fun hab=>absurd (by decide +kernel) hab))))
 exact wpAny_bind (wpAny_typeOf hT (wpAny_pure h))
theorem zeA {R:Result->Shared->Prop}{S r d ep c0:Nat}{kvs:List (κ×Value)}{res:Value}(hh:A.handled=none)(hn:kvs.length<=sizeLine)(hv:s.heap.IsItemsView r d)(hm:s.heap.DictAt knd d kvs ep)(hSr:S≠r)(hSd:S≠d)
  (hS:s.heap.get? S=some { cls:=.type "list", data:=.seq #[] c0 })
  (hR:∀h' c' base,s.heap.objs.size<base->(∀b o,b≠S->s.heap.get? b=some o->h'.get? b=some o)->(∀j,j<kvs.length->∃k v key,kvs[j]?=some (k,v)/\knd.is k key=true/\h'.get? (base+j)=some { cls:=.type "tuple", data:=.seq #[key,v] }) ->
   h'.get? S=some { cls:=.type "list", dict:=none,data:=.seq ((List.range kvs.length).map fun j=>Value.ref (base+j)).toArray c',slots:=#[] }->R (.ok (.ret res)) { s with heap:=h' }) :
  wpAny (model prog w) A.in1 (Builtin.List.listExtendWith (.ref S) (.ref r) res)
   (fun fin s'=>match fin with | .done f=>R (.ok f) s' | .again c'=>c'.quiet=true/\codeAny (model prog w) A c' R s') (fun e s'=>R (.error e) s') s:=by
 have zS:S<s.heap.objs.size:=zvH hS
 obtain⟨od,es,ho,rest⟩:=id hm
 have zd:d<s.heap.objs.size:=zvH ho
 unfold Builtin.List.listExtendWith;refine wpAny_bind (wpAny_typeOf (T := "dict_items") hv.typeIs ?_)
 have h1:Builtin.List.listSameRef (.ref S) (.ref r)=false:=by simp[Builtin.List.listSameRef,hSr]
 simp only[h1,show(Value.type "dict_items" == Value.type "list")=false from rfl,show(Value.type "dict_items" == Value.type "tuple")=false from rfl,Bool.or_false,Bool.false_eq_true,if_false]
 refine wpAny_bind (wpAny_pyIter_items hv hm ?_)
 have itx:(s.heap.push (itO .none false d 0 kvs.length ep .none .none)).get? s.heap.objs.size=some (itO .none false d 0 kvs.length ep .none .none):=zvU _ rfl
 have hL:=zvG (itO .none false d 0 kvs.length ep .none .none) hS
 have keep:∀b o,s.heap.get? b=some o->(s.heap.push (itO .none false d 0 kvs.length ep .none .none)).get? b=some o:=fun b o e=>zvG _ e
 have sz:(s.heap.push (itO .none false d 0 kvs.length ep .none .none)).objs.size=s.heap.objs.size+1:=Heap.size_push ..
 have hv1:(s.heap.push (itO .none false d 0 kvs.length ep .none .none)).IsItemsView r d:=by
  obtain⟨o,e1,e2⟩:=hv
  exact⟨o,keep _ _ e1,e2⟩
 show wpAny _ _ _ _ _ { s with heap:=s.heap.push (itO .none false d 0 kvs.length ep .none .none) }
 have hm1:(s.heap.push (itO .none false d 0 kvs.length ep .none .none)).DictAt knd d kvs ep:=⟨od,es,keep _ _ ho,rest⟩
 generalize s.heap.push (itO .none false d 0 kvs.length ep .none .none)=h2 at itx hL keep sz hv1 hm1
 have key:∀(h:Heap) (c1:Nat),h.objs.size=s.heap.objs.size+1->(∀b o,b≠S->h2.get? b=some o->h.get? b=some o)->h.get? S=some { cls:=.type "list", data:=.seq #[] c1 }->codeAny (model prog w) A (.builtin "list.extend.loop" ⟨[.ref S,.ref s.heap.objs.size,res],[]⟩) R { s with heap:=h }:=fun h c1 hz hk hS1=>by
  refine zho (knd:=knd) (d:=d) (base:=s.heap.objs.size+1) (ep:=ep) hh hn (Nat.lt_succ_of_lt zS) (Nat.lt_succ_self _) (zvP zS) hSd (zvP zd) kvs.length 0 _ #[] c1 rfl (zvW _) ⟨?_,hz,fun j hj=>absurd hj (Nat.not_lt_zero _),.inl ⟨rfl,.none,.none,hk _ _ (Nat.ne_of_gt zS) itx⟩⟩ hS1 rfl fun h' c' e t l=>?_
  ·obtain⟨o,es',a1,a2⟩:=hm1
   exact⟨o,es',hk d o (Ne.symm hSd) a1,a2⟩
  ·exact hR h' c' (s.heap.objs.size+1) (Nat.lt_succ_self _) (fun b o hb z=>e b o hb (zvP (zvH z)) (hk b o hb (keep b o z))) t l
 refine wpAny_bind (wpAny_holding (zhp (s:={ s with heap:=h2 }) hv1.typeIs (wpAny_ite_split (fun _=>?_) (fun _=>wpAny_pure ⟨plainId_quiet PySem.F.plain_extend_loop _,key h2 c0 sz (fun b o _ e=>e) hL⟩))))
 refine wpAny_bind (wpAny_rule (wpAny_bind ?_))
 show wpAny _ _ (updateSeq S (·.push .none)>>=fun _=>updateSeq S (·.pop)) _ _ _
 refine wpAny_bind (wpAny_updateSeq hL rfl ?_)
 have hS2:=Heap.get?_update_self (Obj.mapSeq (·.push Value.none)) hL rfl
 refine wpAny_updateSeq (hz:=by seq_fits) hS2 rfl ?_
 have hS3:=Heap.get?_update_self (Obj.mapSeq (·.pop)) hS2 rfl
 refine wpAny_pure ⟨plainId_quiet PySem.F.plain_extend_loop _,key _ _ ?_ (fun b o hb e=>?_) hS3⟩
 ·rw[Heap.size_update,Heap.size_update];exact sz
 ·exact(Heap.get?_update_other _ _ (Ne.symm hb)).trans ((Heap.get?_update_other _ _ (Ne.symm hb)).trans e)
theorem zhq {Q:Value->Shared->Prop}{r d ep:Nat}{kvs:List (κ×Value)}(hh:A.handled=none)(hn:kvs.length<=sizeLine)(hv:s.heap.IsItemsView r d)(hm:s.heap.DictAt knd d kvs ep)
  (hQ:∀h' c' base,s.heap.objs.size<base->(∀b o,s.heap.get? b=some o->h'.get? b=some o)->(∀j,j<kvs.length->∃k v key,kvs[j]?=some (k,v)/\knd.is k key=true/\h'.get? (base+j)=some { cls:=.type "tuple", data:=.seq #[key,v] }) ->
   h'.get? s.heap.objs.size=some { cls:=.type "list", dict:=none,data:=.seq ((List.range kvs.length).map fun j=>Value.ref (base+j)).toArray c',slots:=#[] }->Q (.ref s.heap.objs.size) { s with heap:=h' }) :
  wpAny (model prog w) A (call (.type "list") [.ref r]) Q E s:=by
 refine callType_codes (Q₁:=fun obj s₁=>obj=.ref s.heap.objs.size/\s₁={ s with heap:=s.heap.push { cls:=.type "list", data:=.seq #[] } }) PySem.F.called_list (PySem.F.typeCall_list_1 _) PySem.F.entry_list_init (code_list_new _ ⟨rfl,rfl⟩) fun obj s₁ h₁=>?_
 obtain⟨rfl,rfl⟩:=h₁
 have hL:(s.heap.push { cls:=.type "list", data:=.seq #[] }).get? s.heap.objs.size=some { cls:=.type "list", data:=.seq #[] }:=zvU _ rfl
 have keep:∀b o,s.heap.get? b=some o->(s.heap.push { cls:=.type "list", data:=.seq #[] }).get? b=some o:=fun b o e=>zvG _ e
 obtain⟨ov,hov,rv⟩:=hv
 obtain⟨od,es,hod,rd⟩:=hm
 have zr:r<s.heap.objs.size:=zvH hov
 have zd:d<s.heap.objs.size:=zvH hod
 refine⟨⟨_,hL,rfl⟩,PySem.F.args_list_init_2 _ _,?_⟩
 show wpAny _ _ (do let old <-Builtin.List.listItems (.ref s.heap.objs.size);Builtin.List.listUpdate (.ref s.heap.objs.size) (fun _=>#[]);letGo old.toList.reverse;Builtin.List.listExtendWith (.ref s.heap.objs.size) (.ref r) .none) _ _ _
 refine wpAny_bind ?_
 unfold Builtin.List.listItems;refine wpAny_bind (wpAny_seqItems hL rfl (wpAny_pure ?_))
 show wpAny _ _ (updateSeq s.heap.objs.size (fun _=>#[])>>=fun _=>letGo (#[]:Array Value).toList.reverse>>=fun _=>Builtin.List.listExtendWith (.ref s.heap.objs.size) (.ref r) .none) _ _ _
 refine wpAny_bind (wpAny_updateSeq hL rfl ?_)
 have hS2:=Heap.get?_update_self (Obj.mapSeq (fun _=>(#[]:Array Value))) hL rfl
 have oth:∀b o,s.heap.get? b=some o->((s.heap.push { cls:=.type "list", data:=.seq #[] }).update s.heap.objs.size (Obj.mapSeq (fun _=>(#[]:Array Value)))).get? b=some o:=fun b o e=>(Heap.get?_update_other _ _ (Nat.ne_of_gt (zvH e))).trans (keep b o e)
 refine wpAny_bind (wpAny_letGo ?_)
 refine zeA (A:=A.in1) (knd:=knd) (d:=d) (ep:=ep) hh hn ⟨ov,oth _ _ hov,rv⟩ ⟨od,es,oth _ _ hod,rd⟩ (Nat.ne_of_gt zr) (Nat.ne_of_gt zd) hS2 (fun h' c' base hb e t l=>?_)
 exact⟨rfl,hQ h' c' base (by rw[Heap.size_update,Heap.size_push] at hb;omega) (fun b o z=>e b o (zvP (zvH z)) (oth b o z)) t l⟩
end
theorem zmA {P:Program}{w:World}{k:Key}{u:Value}(h:(yS P w).is k u=true):RelV (kV k) u:=by
 rw[zgL] at h
 rcases wC h with ⟨i,t,rfl,rfl⟩ | ⟨x,t,rfl,rfl⟩
 ·exact⟨t,rfl⟩
 ·exact⟨t,rfl⟩
theorem zhr {α β:Type}{R:α->β->Prop}:∀{xs:List α} {ys:List β},xs.length=ys.length->(∀(j:Nat) x y,xs[j]?=some x->ys[j]?=some y->R x y)->Paired R xs ys
 | [],[],_,_=>.nil
 | [],_::_,e,_=>by cases e
 | _::_,[],e,_=>by cases e
 | x::xs,y::ys,e,h=>.cons (h 0 x y rfl rfl) (zhr (Nat.succ.inj e) fun j a b h1 h2=>h (j+1) a b h1 h2)
section
variable {X:Cx}
theorem Inv.many {pins:List (Addr×Obj)}{σ:St}{H H':Hp}{s:Shared}{h':Heap}(I:Inv X pins σ H s)(k:∀b u,s.heap.get? b=some u->h'.get? b=some u)(old:∀b,b<s.heap.objs.size->H' b=H b)(new:∀a o,s.heap.objs.size<=a->H' a=some o->wF X.prog X.w H' h' a o) :
  Inv X pins σ H' { s with heap:=h' }:=by
 have sm:∀a o,H a=some o->H' a=some o:=fun a o e=>by rw[old a (I.hok.lt e)];exact e
 refine I.un (t':=s.toks) ⟨fun b u q _ _ _=>k b u q,fun b u q _ _ _=>⟨u.slots,k b u q⟩,fun b u q n _=>by rw[old b (zvH q)];exact n,fun b u q _=>⟨u,k b u q⟩,fun b xs q=>sm _ _ q,fun b u xs q=>sm _ _ q,fun b ps q=>⟨#[],by rw[sm _ _ q];simp⟩⟩ fun b u e=>?_
 rcases Nat.lt_or_ge b s.heap.objs.size with z | z
 ·rw[old b z] at e
  exact(I.hok b u e).stay (fun c v _ q=>k c v q) (fun c q=>sm _ _ q) fun c xs q=>sm _ _ q
 ·exact new b u z e
def tLI (to:TE):TE:=fun σ H Q=>to σ H fun x H1=>∃(d:Addr) (kvs:List (Key×V)),x=.ref d/\H1 d=some (.dK kvs)/\∀(l:Addr) (ts:List Addr) (H2:Hp),Same H1 H2->H1 l=none->Paired (fun t (kv:Key×V)=>H1 t=none/\H2 t=some (.tup [kV kv.1,kv.2])) ts kvs->H2 l=some (.lst (ts.map V.ref))->Q (.ref l) H2
theorem Ku {o:Expr}{to:TE}{p apos cpos pos:Pos}(hc:X.calm=true)(hg:Gl X "list")(hm:X.mg "list"=none)(ho:PE X o to)
  (hbase:attributeBase o "items" X.env (eval o X.env)=eval o X.env:=by rfl)(hline:(apos.endLine==cpos.line)=true:=by rfl)
  (hs2:starEach [.Call (.Attribute o "items" apos) [] [] cpos] X.env=[(false,eval (.Call (.Attribute o "items" apos) [] [] cpos) X.env)]:=by rfl) :
  PE X (.Call (.Name "list" p) [.Call (.Attribute o "items" apos) [] [] cpos] [] pos) (tLI to):=by
 intro pins s σ H Q I h
 refine wpAny_Call_Name_kw (V7 I hg hm zeg ?_ (by decide) (by decide))
 refine PyProof.Rows.callWith_type1 ?_ hs2 rfl
 rw[hs2]
 show wpAny _ _ (spliced ((false,eval (.Call (.Attribute o "items" apos) [] [] cpos) X.env)::[])) _ _ s
 refine Calls.spliced_cons ?_
 refine wpAny_Call_method0_late hbase hline (vo (ho pins s σ H _ I h) fun v s1 ⟨x,H1,I1,r1,q1⟩=>?_)
 obtain⟨d,kvs,rfl,hd,q⟩:=q1
 obtain⟨h1,h2⟩:=zg4 (T := "dict") I1 r1 (.inr (.inr (.inl ⟨rfl,.inl ⟨kvs,hd⟩⟩)))
 cases r1
 obtain⟨hz,lo,vs,rv,hD⟩:=(show kvs.length<=sizeLine/\(d==sysModules)=false/\∃vs,KV kvs vs/\s1.heap.DictOf (yS X.prog X.w) d vs from I1.hok d _ hd)
 refine⟨"dict", "dict.items", PySem.F.plainAttrs_dict,PySem.F.slot_dict_items,PySem.F.type_dict_items,h1,h2,Calls.callWith_builtin rfl (PySem.evalArgs_none ?_)⟩
 refine call_meetsIn PySem.F.slot_dict_items hD.typeIs PySem.F.entry_dict_items (PySem.F.args_dict_items_1 _) (meets_dict_items (yS X.prog X.w) d lo) ⟨⟨vs,hD⟩,Calls.spliced_nil ?_⟩
 have I2:=I1.kept (t':=s1.toks) (h':=s1.heap.push { cls:=.type "dict_items", data:=.fields #[.ref d] }) fun b o e=>zvG _ e
 obtain⟨hz2,lo2,vs2,rv2,hD2⟩:=(show kvs.length<=sizeLine/\(d==sysModules)=false/\∃vs,KV kvs vs/\(s1.heap.push { cls:=.type "dict_items", data:=.fields #[.ref d] }).DictOf (yS X.prog X.w) d vs from I2.hok d _ hd)
 obtain⟨ep2,zp5⟩:=hD2.dictAt
 have hl2:kvs.length=vs2.length:=Paired.length rv2
 have hv2:(s1.heap.push { cls:=.type "dict_items", data:=.fields #[.ref d] }).IsItemsView s1.heap.objs.size d:=⟨_,zvU _ rfl,rfl,rfl⟩
 show wpAny _ _ _ _ _ { s1 with heap:=s1.heap.push { cls:=.type "dict_items", data:=.fields #[.ref d] } }
 have sz2:s1.heap.objs.size<(s1.heap.push { cls:=.type "dict_items", data:=.fields #[.ref d] }).objs.size:=by rw[Heap.size_push];exact Nat.lt_succ_self _
 have hI2:Inv X pins σ H1 { s1 with heap:=s1.heap.push { cls:=.type "dict_items", data:=.fields #[.ref d] } }:=I2
 generalize s1.heap.push { cls:=.type "dict_items", data:=.fields #[.ref d] }=hp2 at hI2 zp5 hv2 hD2 sz2
 refine zhq (s:={ s1 with heap:=hp2 }) (knd:=yS X.prog X.w) (I1.ok.hd hc) (by omega) hv2 zp5 fun h' c' base hb kp tu hL=>?_
 have hb':hp2.objs.size<base:=hb
 let H2:Hp:=fun a=>if a=hp2.objs.size then some (.lst (((List.range kvs.length).map (base+·)).map V.ref)) else if base<=a then (match kvs[a-base]? with | some kv=>some (.tup [kV kv.1,kv.2]) | none=>H1 a) else H1 a
 have hl:H2 hp2.objs.size=some (.lst (((List.range kvs.length).map (base+·)).map V.ref)):=if_pos rfl
 have ht:∀j kv,kvs[j]?=some kv->H2 (base+j)=some (.tup [kV kv.1,kv.2]):=fun j kv e=>by
  show(if base+j=hp2.objs.size then _ else _)=_
  rw[if_neg (by omega),if_pos (zv9 _ _),show base+j-base=j by omega,e]
 have old:∀b,b<hp2.objs.size->H2 b=H1 b:=fun b hb2=>by
  show(if b=hp2.objs.size then _ else _)=_
  rw[if_neg (zvP hb2),if_neg (by omega)]
 have fr:∀a,hp2.objs.size<=a->H1 a=none:=fun a ha=>hI2.hok.fresh ha
 refine⟨.ref hp2.objs.size,H2,hI2.many kp old fun a o ha e=>?_,rfl,q _ ((List.range kvs.length).map (base+·)) H2 (fun a o e=>by rw[old a (hI2.hok.lt e)];exact e) (fr _ (zvQ _)) ?_ hl⟩
 ·have e':(if a=hp2.objs.size then some (HO.lst (((List.range kvs.length).map (base+·)).map V.ref)) else if base<=a then (match kvs[a-base]? with | some kv=>some (.tup [kV kv.1,kv.2]) | none=>H1 a) else H1 a)=some o:=e
  by_cases z:a=hp2.objs.size
  ·rw[if_pos z] at e'
   cases e'
   subst z
   refine⟨by simp;exact hz,(List.range kvs.length).map fun j=>Value.ref (base+j),c',?_,by rw[hl2];exact hL⟩
   rw[zwa]
   exact zfU fun j _=>rfl
  ·rw[if_neg z] at e'
   by_cases z2:base<=a
   ·rw[if_pos z2] at e'
    cases hx:kvs[a-base]? with
    | none=>rw[hx] at e';rw[show H1 a=none from fr a ha] at e';cases e'
    | some kv =>
     rw[hx] at e'
     cases e'
     obtain⟨k,v,key,b1,b2,b3⟩:=tu (a-base) (by rw[<-hl2];exact(zvD.mp hx).1)
     obtain⟨y,hy,e1,e2⟩:=Nm rv2 b1
     rw[hx] at hy
     cases hy
     rw[show base+(a-base)=a by omega] at b3
     refine⟨by show 2<=sizeLine;decide,[key,v],.cons (by rw[e1];exact zmA b2) (.cons e2 .nil),?_⟩
     exact⟨_,b3,rfl,_,rfl⟩
   ·rw[if_neg z2] at e'
    rw[show H1 a=none from fr a ha] at e'
    cases e'
 ·refine zhr (by simp) fun j x y h1 h2=>?_
  rw[zvC] at h1
  cases hr:(List.range kvs.length)[j]? with
  | none=>rw[hr] at h1;cases h1
  | some m =>
   rw[hr] at h1
   cases h1
   obtain rfl:m=j:=by have:=zvD.mp hr;obtain⟨_,e⟩:=this;rw[List.getElem_range] at e;exact e.symm
   exact⟨fr (base+m) (show hp2.objs.size<=base+m by omega),ht m y h2⟩
end
end L2
namespace PySem
open Sem (wp)
theorem zeB:typeLookup (.type "list") "keys"=pure none:=by rw[typeLookup_type,builtinLookup_eq_fast];kernel_rfl
theorem JW:isSubtype (.type "AttributeError") (.type "AttributeError")=pure true:=by rw[isSubtype_type];kernel_rfl
theorem zjl (v:Value):ownMembersOf (Value.type "AttributeError") [v]=#[unsetMember,unsetMember]:=rfl
theorem zjm:((Manifest.find? "AttributeError").elim false fun t=>t.mro.contains "StopIteration" || t.mro.contains "SystemExit")=false:=by
 rw[find?_eq_fast];kernel_rfl
section
variable {prog:Program}{w:World}{A:Around}{E:Value->Shared->Prop}{h:Heap}{g:Array GenState}{d:Drawn}{t:Nat}{os:OsState}{a:Addr}{its:Array Value}{n:Nat}{sl:Array (Option Value)}
theorem zhs {α:Type}{o:Value}{name msg:Str}{Q:α->Shared->Prop}(hh:A.handled=none)(zm:msg.length<=sizeLine)(zn:name.length<=sizeLine)
  (hE:∀e h' t',(∀b o,h.get? b=some o->h'.get? b=some o)->Shared.TypeIs ⟨h',g,d,t',os⟩ (.ref e) "AttributeError" -> E (.ref e) ⟨h',g,d,t',os⟩) :
  wpAny (model prog w) A (raiseAttrError o name msg) Q E ⟨h,g,d,t,os⟩:=by
 unfold raiseAttrError
 refine wpAny_bind (wpAny_mkStr ?_ zm)
 refine wpAny_bind ?_
 simp only[newExc,newTuple]
 refine wpAny_bind (wpAny_newObj_type ?_ (by size_fits))
 refine wpAny_bind (m:=firstArgMember _ _) (wpAny_of_eq (a:=Value.none) (by simp only[firstArgMember,zjm];rfl) ?_)
 rw[zjl]
 refine wpAny_newObj_type ?_ (by size_fits)
 dsimp only
 have kp:∀b o,h.get? b=some o->((h.push { cls:=.type "tuple", data:=.seq #[Value.str msg t] }).push { cls:=.type "AttributeError", data:=.fields (#[.ref h.objs.size,.none,.none,.none,.bool false,.none] ++ #[unsetMember,unsetMember]) }).get? b=some o:=fun b o e=>zvG _ (zvG _ e)
 have ex:((h.push { cls:=.type "tuple", data:=.seq #[Value.str msg t] }).push { cls:=.type "AttributeError", data:=.fields (#[.ref h.objs.size,.none,.none,.none,.bool false,.none] ++ #[unsetMember,unsetMember]) }).get? (h.push { cls:=.type "tuple", data:=.seq #[Value.str msg t] }).objs.size=some { cls:=.type "AttributeError", data:=.fields (#[.ref h.objs.size,.none,.none,.none,.bool false,.none] ++ #[unsetMember,unsetMember]) }:=zvU _ rfl
 have lt:∀b o,h.get? b=some o->b≠(h.push { cls:=.type "tuple", data:=.seq #[Value.str msg t] }).objs.size:=fun b o e=>zvP (zvJ (zvH e) (by rw[Heap.size_push];exact Nat.le_succ _))
 generalize hs:(h.push { cls:=.type "tuple", data:=.seq #[Value.str msg t] }).objs.size=e at ex lt
 generalize ((h.push { cls:=.type "tuple", data:=.seq #[Value.str msg t] }).push { cls:=.type "AttributeError", data:=.fields (#[.ref h.objs.size,.none,.none,.none,.bool false,.none] ++ #[unsetMember,unsetMember]) })=h2 at kp ex
 refine wpAny_bind (wpAny_mkText ?_)
 have ty:Shared.TypeIs ⟨h2,g,d,t+1+1,os⟩ (.ref e) "AttributeError" := ⟨_,ex,rfl⟩
 refine wpAny_bind ?_
 unfold noteAttr lacksNameAndObj
 refine wpAny_bind (wpAny_bind (wpAny_isInstance ty JW (wpAny_bind (wpAny_load ex (wpAny_pure ?_)))))
 refine wpAny_bind (wpAny_rule (wpAny_bind (wpAny_typeOf ty ?_)))
 show wpAny _ _ (layMembers e 6 #[Value.str name (t+1),o]) _ _ _
 unfold layMembers
 refine wpAny_bind (wpAny_load ex (wpAny_update ex ?_))
 have ex3:=Heap.get?_update_self (Obj.mapFields fun vs=>vs.extract 0 6 ++ #[Value.str name (t+1),o]) ex rfl
 have kp3:∀b o',h.get? b=some o'->(h2.update e (Obj.mapFields fun vs=>vs.extract 0 6 ++ #[Value.str name (t+1),o])).get? b=some o':=fun b o' z=>(Heap.get?_update_other _ _ (Ne.symm (lt b o' z))).trans (kp b o' z)
 simp only[raiseNew]
 refine wpAny_bind (wpAny_handled ?_)
 rw[hh]
 refine wpAny_bind (wpAny_pure (wpAny_throw ?_))
 exact hE e _ _ kp3 ⟨_,ex3,rfl⟩
theorem zaW (hh:A.handled=none){tk:Tok}{Q:Fin->Shared->Prop}(hx:h.get? a=some { cls:=.type "list", dict:=none,data:=.seq its n,slots:=sl })
  (hE:∀e h' t',(∀b o,h.get? b=some o->h'.get? b=some o)->Shared.TypeIs ⟨h',g,d,t',os⟩ (.ref e) "AttributeError" -> E (.ref e) ⟨h',g,d,t',os⟩) :
  wpAny (model prog w) A (Builtin.«object.__getattribute__» ⟨[.ref a,.str "keys" tk],[]⟩) Q E ⟨h,g,d,t,os⟩:=by
 have hT:(⟨h,g,d,t,os⟩:Shared).TypeIs (.ref a) "list" := ⟨_,hx,rfl⟩
 have f4:=zeB
 repeat (any_goals (first | assumption | wp_step))
 have em:(Manifest.find? "list").elim "list" (fun x=>x.tpName)="list" := by rw[find?_eq_fast];kernel_rfl
 rw[em]
 exact zhs hh (by decide +kernel) (by decide +kernel) hE
theorem zbX (hh:A.handled=none){tk:Tok}{R:Result->Shared->Prop}(hx:h.get? a=some { cls:=.type "list", dict:=none,data:=.seq its n,slots:=sl })
  (hE:∀e h' t',(∀b o,h.get? b=some o->h'.get? b=some o)->Shared.TypeIs ⟨h',g,d,t',os⟩ (.ref e) "AttributeError" -> R (.error (.ref e)) ⟨h',g,d,t',os⟩) :
  codeAny (model prog w) A (.call (.builtin "list.__getattribute__") ⟨[.ref a,.str "keys" tk],[]⟩) R ⟨h,g,d,t,os⟩ :=
 codeAny_call_builtin F.slot_list_getattribute.plain F.entry_list_ga (F.slot_list_getattribute.check _ _ _ _ _ _ _ _ (show(⟨h,g,d,t,os⟩:Shared).TypeIs (.ref a) "list" from ⟨_,hx,rfl⟩) (F.args_list_getattribute_2 _ _) (zaW (A:=A.in1) hh hx hE))
theorem zeC (hh:A.handled=none){tk:Tok}{Q:Value->Shared->Prop}(hx:h.get? a=some { cls:=.type "list", dict:=none,data:=.seq its n,slots:=sl })
  (hE:∀e h' t',(∀b o,h.get? b=some o->h'.get? b=some o)->Shared.TypeIs ⟨h',g,d,t',os⟩ (.ref e) "AttributeError" -> E (.ref e) ⟨h',g,d,t',os⟩):wpAny (model prog w) A (getAttrBy (.ref a) (.str "keys" tk) false) Q E ⟨h,g,d,t,os⟩:=by
 have hT:(⟨h,g,d,t,os⟩:Shared).TypeIs (.ref a) "list" := ⟨_,hx,rfl⟩
 have f2:=F.slot_list_getattribute.lookup
 have f3:=F.slot_list_getattribute.bind (.ref a)
 repeat (any_goals (first | assumption | wp_step))
 refine zbX hh hx fun e h' t' k ty=>?_
 show wpAny _ _ (getattributeRaised (Value.ref a) (Value.str (Str.ofString "keys") tk) (Value.type "list") (.ref e) none false false) _ _ _
 unfold getattributeRaised
 refine wpAny_bind (wpAny_isInstance ty JW ?_)
 rw[if_pos rfl]
 have lk:hookBehind (.type "list") none=pure none:=by
  unfold hookBehind
  rw[if_neg (by decide),typeLookup_type,builtinLookup_eq_fast]
  kernel_rfl
 rw[lk]
 refine wpAny_bind (wpAny_pure ?_)
 show wpAny _ _ (attributeErrorLeaves _ _ _ false false) _ _ _
 unfold attributeErrorLeaves
 exact wpAny_bind (wpAny_throw (hE e h' t' k ty))
theorem zbY (hh:A.handled=none){Q:Option Value->Shared->Prop}(hx:h.get? a=some { cls:=.type "list", dict:=none,data:=.seq its n,slots:=sl })
  (hQ:∀h' t',(∀b o,h.get? b=some o->h'.get? b=some o)->Q none ⟨h',g,d,t',os⟩):wpAny (model prog w) A (getAttr? (.ref a) "keys") Q E ⟨h,g,d,t,os⟩:=by
 unfold getAttr? getAttrBy?
 refine wpAny_bind (wpAny_mkText ?_)
 refine wpAny_bind (wpAny_attempt (zeC hh hx fun e h' t' k ty=>?_))
 refine wpAny_bind (wpAny_isInstance ty JW ?_)
 exact wpAny_pure (hQ h' t' k)
end
theorem Qj:entryFor table "dict.update.loop"=some Builtin.«dict.update.loop»:=entryFor_of_tree (by kernel_rfl)
theorem Yi:plainId "dict.update.loop"=true:=by decide +kernel
section
variable {prog:Program}{w:World}{κ:Type}[DecidableEq κ]{knd:KeyKind prog w κ}{A:Around}{E:Value->Shared->Prop}
theorem zkX {R:Result->Shared->Prop}{res:Value}{D it l:Addr}{items:Array Value}{ps:List (κ×Value)}(hh:A.handled=none)(hl:ps.length=items.size)(z:ps.length<=sizeLine)(nDi:D≠it)(nDl:D≠l)(nli:l≠it) :
  ∀(m i:Nat) (s:Shared) (kvs:List (κ×Value)),ps.length-i=m->i<=ps.length->s.heap.IsListIter it l i->s.heap.IsList l items->s.heap.DictOf knd D kvs->kvs.length<=i ->
  (∀(j:Nat) k v,ps[j]?=some (k,v)->∃t key,items[j]?=some (.ref t)/\t≠D/\t≠it/\knd.is k key=true/\PyProof.Rows.IsTup s.heap t #[key,v]) ->
  (∀h' tk,h'.DictOf knd D ((ps.drop i).foldl (fun acc kv=>stored acc kv.1 kv.2) kvs)->(∀b o,b≠D->b≠it->s.heap.get? b=some o->h'.get? b=some o)->R (.ok (.ret res)) { s with heap:=h',toks:=tk }) ->
  codeAny (model prog w) A (.builtin "dict.update.loop" ⟨[.ref D,.ref it,.int (i:Nat) 0,res],[]⟩) R s:=by
 intro m
 induction m with
 | zero =>
  intro i s kvs hk hi hit hL hD hz hp hR
  obtain rfl:i=ps.length:=by omega
  refine codeAny_builtin Qj ?_
  rw[Around.under_plainId Yi _];show wpAny _ A.in1 (pyNext (.ref it)>>=_) _ _ s
  refine wpAny_bind (wpAny_pyNext_list_end hh hit hL (by rw[hl];simp) fun h' e=>?_)
  show wpAny _ _ (Builtin.Dict.addKeywords D []>>=_) _ _ _
  refine wpAny_bind (wpAny_pure (wpAny_pure (hR h' s.toks ?_ fun b o _ hb q=>e b o hb q)))
  rw[List.drop_length]
  obtain⟨o,es,ep,h1,h2⟩:=hD
  exact⟨o,es,ep,e D o nDi h1,h2⟩
 | succ m ih =>
  intro i s kvs hk hi hit hL hD hz hp hR
  have lt:i<ps.length:=by omega
  obtain⟨⟨k,v⟩,hx⟩:∃x,ps[i]?=some x:=⟨_,zvB lt⟩
  obtain⟨t,key,h1,h2,h3,h4,h5⟩:=hp i k v hx
  refine codeAny_builtin Qj ?_
  rw[Around.under_plainId Yi _];show wpAny _ A.in1 (pyNext (.ref it)>>=_) _ _ s
  refine wpAny_bind (wpAny_pyNext_list_item hit hL h1 fun h' hit' hs=>?_)
  have kp:∀b o,b≠it->s.heap.get? b=some o->h'.get? b=some o:=fun b o hb e=>hs.extBut b o hb e
  obtain⟨ot,t1,t2,nt,t3⟩:=h5
  have t1':=kp t ot h3 t1
  refine wpAny_bind (wpAny_holding (wpAny_bind (wpAny_tryCatch ?_)))
  unfold Builtin.Dict.pairItems
  refine wpAny_bind (wpAny_typeOf (T := "tuple") ⟨ot,t1',t2⟩ ?_)
  rw[if_pos (by decide)]
  refine wpAny_bind ?_
  unfold seqItems?
  refine wpAny_bind (wpAny_load t1' ?_)
  rw[t3]
  refine wpAny_pure (wpAny_pure ?_)
  have hD':h'.DictOf knd D kvs:=by
   obtain⟨o,es,ep,a1,a2⟩:=hD
   exact⟨o,es,ep,kp D o nDi a1,a2⟩
  show wpAny _ _ (holding [key,v] (dictSet D key v)) _ _ _
  refine wpAny_holding (wpAny_dictSet_pairs (s:={ s with heap:=h' }) h4 hD' (fun h2' hD2 hs2=>?_) (by omega))
  refine wpAny_pure ⟨plainId_quiet Yi _,?_⟩
  have kp2:∀b o,b≠D->b≠it->s.heap.get? b=some o->h2'.get? b=some o:=fun b o hb hb2 e=>hs2.extBut b o hb (kp b o hb2 e)
  have nx:((i:Nat):Int)+1=((i+1:Nat):Int):=by omega
  show codeAny _ A (.builtin "dict.update.loop" ⟨[.ref D,.ref it,.int (((i:Nat):Int)+1) 0,res],[]⟩) R _
  rw[nx]
  refine ih (i+1) _ (stored kvs k v) (by omega) lt ?_ ?_ hD2 ?_ (fun j k' v' hj=>?_) (fun h3' tk hD3 kp3=>?_)
  ·obtain⟨o,a1,a2⟩:=hit'
   exact⟨o,hs2.extBut it o (Ne.symm nDi) a1,a2⟩
  ·obtain⟨o,a1,a2⟩:=hL
   exact⟨o,kp2 l o (Ne.symm nDl) nli a1,a2⟩
  ·unfold stored
   split
   ·rw[zvA];omega
   ·rw[zvI];simp;omega
  ·obtain⟨t',key',b1,b2,b3,b4,o',b5,b6⟩:=hp j k' v' hj
   exact⟨t',key',b1,b2,b3,b4,o',kp2 t' o' b2 b3 b5,b6⟩
  ·refine hR h3' tk ?_ fun b o hb hb2 e=>kp3 b o hb hb2 (kp2 b o hb hb2 e)
   rw[List.drop_eq_getElem_cons lt]
   obtain⟨_,e⟩:=zvD.mp hx
   rw[e]
   exact hD3
end
end PySem
namespace L2
open PySem PySem.Spec PyProof.Rows
theorem ziz:bootBuiltins "dict"=some (.type "dict"):=by decide +kernel
section
variable {X:Cx}
theorem Ry (hc:X.calm=true):WR X (.type "dict") (fun xs H Q=>∃(p:Addr) (ts:List Addr) (kvs:List (Key×V)),xs=[.ref p]/\H p=some (.lst (ts.map V.ref))/\Paired (fun t (kv:Key×V)=>H t=some (.tup [kV kv.1,kv.2])) ts kvs/\∀d,H d=none->Q (.ref d) (upd H d (.dK (XD [] kvs)))):=by
 intro pins s σ H xs us Q I r h
 obtain⟨p,ts,kvs,rfl,hp,hts,q⟩:=h
 obtain⟨u,rfl,rx⟩:=vals1 r
 cases rx
 obtain⟨hz,its,c,rv,hl⟩:=(show wF X.prog X.w H s.heap p (.lst (ts.map V.ref)) from I.hok p _ hp)
 have lt:=yJ hts
 have lv:=rv.length
 rw[zvA] at lv hz
 have pr:∃rs:List (Key×Value),KV kvs rs/\∀(j:Nat) k v,rs[j]?=some (k,v)->∃t key,its.toArray[j]?=some (.ref t)/\t<s.heap.objs.size/\(yS X.prog X.w).is k key=true/\IsTup s.heap t #[key,v]:=by
  clear hp q hl hz c lt lv
  induction hts generalizing its with
  | nil=>exact⟨[],.nil,fun j k v e=>by cases e⟩
  | @cons t kv ts kvs ht _ ih =>
   cases rv with
   | @cons _ u _ us ru rv' =>
    cases ru
    obtain⟨rs,r1,r2⟩:=ih us rv'
    obtain⟨_,ys,ry,hT⟩:=(show wF X.prog X.w H s.heap t (.tup [kV kv.1,kv.2]) from I.hok t _ ht)
    cases ry with
    | @cons _ y1 _ _ e1 ry =>
     cases ry with
     | @cons _ y2 _ _ e2 ry =>
      cases ry
      refine⟨(kv.1,y2)::rs,.cons ⟨rfl,e2⟩ r1,fun j k v e=>?_⟩
      cases j with
      | zero =>
       cases e
       obtain⟨o,a1,a2⟩:=id hT
       exact⟨t,y1,rfl,zvH a1,zdB e1,hT⟩
      | succ j =>
       obtain⟨t',key,b1,b2⟩:=r2 j k v e
       exact⟨t',key,by simpa using b1,b2⟩
 obtain⟨rs,r1,r2⟩:=pr
 have lr:kvs.length=rs.length:=Paired.length r1
 have hbig:(s.heap.objs.size==sysModules)=false:=beq_eq_false_iff_ne.mpr (Ne.symm (zvP I.big))
 refine callType_codes (Q₁:=fun obj s₁=>obj=.ref s.heap.objs.size/\s₁={ s with heap:=s.heap.push { cls:=.type "dict", data:=.dict #[] } }) F.kt_called_dict (F.kt_typeCall_dict_1 _) F.entry_dict_init (kt_code_dict_new _ ⟨rfl,rfl⟩) ?_
 rintro obj s₁ ⟨rfl,rfl⟩
 have hnew:(s.heap.push { cls:=.type "dict", data:=.dict #[] }).DictOf (yS X.prog X.w) s.heap.objs.size []:=Heap.DictOf.new s.heap
 have kp:∀b o,s.heap.get? b=some o->(s.heap.push { cls:=.type "dict", data:=.dict #[] }).get? b=some o:=fun b o e=>zvG _ e
 have sz:(s.heap.push { cls:=.type "dict", data:=.dict #[] }).objs.size=s.heap.objs.size+1:=Heap.size_push ..
 refine⟨hnew.typeIs,F.args_dict_init_2 _ _,?_⟩
 unfold Builtin.«dict.__init__»;refine wpAny_bind ?_
 unfold Builtin.Dict.selfAndRest;refine wpAny_bind (wpAny_notOrdered_dict hnew.typeIs ?_)
 show wpAny _ _ (pure (s.heap.objs.size,[Value.ref p])) _ _ _
 refine wpAny_pure ?_
 show wpAny _ _ (Builtin.Dict.updateFrom "dict.__init__" s.heap.objs.size (.ref p) [] .none) _ _ { s with heap:=s.heap.push { cls:=.type "dict", data:=.dict #[] } }
 generalize s.heap.push { cls:=.type "dict", data:=.dict #[] }=h1 at hnew kp sz
 have hl1:=kp p _ hl
 unfold Builtin.Dict.updateFrom;refine wpAny_bind (wpAny_typeOf (T := "list") ⟨_,hl1,rfl⟩ ?_)
 rw[if_pos (by decide)]
 refine wpAny_bind (zbY (A:=X.A.in1.in1) (h:=h1) (g:=s.gens) (d:=s.drawn) (t:=s.toks) (os:=s.os) (I.ok.hd hc) hl1 fun h2 t2 k2=>?_)
 refine wpAny_bind (m:=rule _) (wpAny_rule ?_)
 have hl2:=k2 p _ hl1
 refine wpAny_bind (wpAny_pyIter_list (s:=⟨h2,s.gens,s.drawn,t2,s.os⟩) (items:=its.toArray) ⟨_,hl2,rfl,_,rfl⟩ ?_)
 have k3:∀b o,h2.get? b=some o->(h2.push { cls:=.type "list_iterator", data:=.fields #[.ref p,.int 0 0] }).get? b=some o:=fun b o e=>zvG _ e
 have it3:(h2.push { cls:=.type "list_iterator", data:=.fields #[.ref p,.int 0 0] }).IsListIter h2.objs.size p 0:=⟨_,zvU _ rfl,rfl,rfl⟩
 have z2:s.heap.objs.size<h2.objs.size:=by
  obtain⟨o,es,ep,a1,_⟩:=hnew
  exact zvH (k2 _ _ a1)
 generalize hh3:h2.push { cls:=.type "list_iterator", data:=.fields #[.ref p,.int 0 0] }=h3 at k3 it3
 have k13:∀b o,s.heap.get? b=some o->h3.get? b=some o:=fun b o e=>k3 _ _ (k2 _ _ (kp _ _ e))
 have zp:p<s.heap.objs.size:=zvH hl
 refine wpAny_pure ⟨plainId_quiet Yi _,?_⟩
 obtain⟨oD,esD,epD,aD,bD⟩:=hnew
 refine zkX (A:=X.A.in1) (knd:=yS X.prog X.w) (D:=s.heap.objs.size) (it:=h2.objs.size) (l:=p) (items:=its.toArray) (ps:=rs) (I.ok.hd hc) (by simp;omega) (by omega) (zvP z2) (Nat.ne_of_gt zp) (zvP (Nat.lt_trans zp z2)) rs.length 0 _ [] rfl (zvW _) it3 ⟨_,k13 _ _ hl,rfl,_,rfl⟩ ⟨oD,esD,epD,k3 _ _ (k2 _ _ aD),bD⟩ (zvW _) (fun j k v e=>?_) (fun h' tk hD kp'=>?_)
 ·obtain⟨t,key,b1,b2,b3,o,b4,b5⟩:=r2 j k v e
  exact⟨t,key,b1,zvP b2,zvP (Nat.lt_trans b2 z2),b3,o,k13 _ _ b4,b5⟩
 ·refine⟨rfl,.ref s.heap.objs.size,_,I.laid (a:=s.heap.objs.size) (o:=.dK (XD [] kvs)) (t':=tk) (fun b o e=>kp' b o (zvP (zvH e)) (zvP (Nat.lt_trans (zvH e) z2)) (k13 b o e)) (zvQ _) ?_,rfl,q _ (I.hok.fresh (zvQ _))⟩
  have lm:=V8 kvs []
  exact zhd (by simp at lm;omega) hbig (KV.merge r1 .nil) hD
end
end L2
namespace WX
open PySem L2 zZ
def iK (m:Int):Key:=Sum.inl m
end WX
namespace L2
open PySem PySem.Spec PyProof.Rows
def JX (h:Heap)(e:Addr)(cls:Value):Prop:=∃oe vs,h.get? e=some oe/\oe.cls=cls/\oe.dict=none/\oe.data=.fields vs/\vs[2]?=some .none/\(vs[1]?=some .none\/∃T oT ts,vs[1]?=some (.ref T)/\T≠e/\h.get? T=some oT/\oT.data=.fields ts/\ts[3]?=some .none)
structure ziA (l:List Env)(e:Addr)(cls:Value)(h h':Heap):Prop where
 keep:∀b o,h.get? b=some o->b∉frs l->b≠e->h'.get? b=some o
 slot:∀b o,h.get? b=some o->b∈frs l->b≠e->∃sl,h'.get? b=some { o with slots:=sl }
 exc:JX h' e cls
section
variable {M:Model}{A:Around}{E:Value->Shared->Prop}{s:Shared}
theorem zbZ (f:Array Value->Array Value)(o:Obj):(Obj.mapFields f o).dict=o.dict:=by
 obtain⟨c,dd,dt,sl⟩:=o
 cases dt<;>rfl
theorem zdR {base:Heap}{env:Env}{outer:List Env}{L e:Addr}{oe:Obj}{vs:Array Value}{head:Value}{hadNext:Bool}{Q:Unit->Shared->Prop}(hfr:A.frames=some (env::outer))(hl:s.heap.FunFrames base (env::outer))(hf:env.frame=some L)
  (he:s.heap.get? e=some oe)(hdn:oe.dict=none)(hd:oe.data=.fields vs)(h2:vs[2]?=some .none)(sz:1<vs.size)(h:∀h',ziA (env::outer) e oe.cls s.heap h'->Q () { s with heap:=h' }) :
  wpAny M A (do let a <-frameOf env;let pl <-entryPlaceOf L hadNext;let b <-EntryCells.newEntry head a .none (rawInt L) .none pl;setField (.ref e) 1 b) (fun _ s'=>wpAny M A (setFlight (.ref e) none) Q E s') E s:=by
 have ne:e∉frs (env::outer):=fun hm=>by
  obtain⟨_,o,ho,hnf⟩:=hl.mem hm
  rw[he] at ho;injection ho with ho;subst ho;exact hnf vs hd
 refine wpAny_bind (wpAny_frameOf_fun hfr hl hf fun h1 hs1=>wpAny_bind (wpAny_entryPlaceOf fun pl hpl=>?_))
 unfold EntryCells.newEntry newFields;refine wpAny_bind (wpAny_newObj_type ?_ (hpl.sizeOk5 _ _ _ _ _))
 have he1:h1.get? e=some oe:=(hs1.2.1 e ne).trans he
 have he2:=zvG (h:=h1) { cls:=.type "traceback", dict:=none,data:=.fields ([head,.ref L,.none,rawInt L,.none]++(if pl.isEmpty then List.replicate 6 Value.none else pl)).toArray } he1
 refine wpAny_setField he2 hd sz ?_
 have nT:h1.objs.size≠e:=Nat.ne_of_gt (zvH he1)
 have hd3:=Obj.data_mapFields hd (·.setIfInBounds 1 (Value.ref h1.objs.size))
 have he3:=Heap.get?_update_self (Obj.mapFields (·.setIfInBounds 1 (Value.ref h1.objs.size))) he2 (Obj.isFreed_of_fields hd3)
 have hT3:=(Heap.get?_update_other (h1.push { cls:=.type "traceback", dict:=none,data:=.fields ([head,.ref L,.none,rawInt L,.none]++(if pl.isEmpty then List.replicate 6 Value.none else pl)).toArray }) (Obj.mapFields (·.setIfInBounds 1 (Value.ref h1.objs.size))) (Ne.symm nT)).trans (zvU h1 rfl)
 unfold setFlight;refine wpAny_bind (wpAny_field he3 hd3 (x:=.ref h1.objs.size) (by simp[sz]) ?_)
 rw[if_pos (show(Value.ref h1.objs.size != Value.none)=true from by simp)]
 refine wpAny_setField hT3 rfl (by simp only[zvK,zvI,zvM,List.length_nil]<;>omega) (h _ ?_)
 have keep:∀b o,b≠e->h1.get? b=some o->(((h1.push { cls:=.type "traceback", dict:=none,data:=.fields ([head,.ref L,.none,rawInt L,.none]++(if pl.isEmpty then List.replicate 6 Value.none else pl)).toArray }).update e (Obj.mapFields (·.setIfInBounds 1 (Value.ref h1.objs.size)))).update h1.objs.size (Obj.mapFields (·.setIfInBounds 3 ((none:Option Addr).elim Value.none fun f=>rawInt f)))).get? b=some o:=fun b o hbe hb=>by
  have hbT:h1.objs.size≠b:=Nat.ne_of_gt (zvH hb)
  rw[Heap.get?_update_other _ _ hbT,Heap.get?_update_other _ _ (Ne.symm hbe)];exact zvG _ hb
 refine⟨fun b o hb hnf hbe=>keep b o hbe ((hs1.2.1 b hnf).trans hb),fun b o hb _ hbe=>?_,?_⟩
 ·obtain⟨sl,hs⟩:=hs1.2.2 b o hb
  exact⟨sl,keep b _ hbe hs⟩
 ·refine⟨_,_,?_,Obj.cls_mapFields _ _,(by rw[zbZ];exact hdn),hd3,(by rw[Array.getElem?_setIfInBounds_ne (by decide)];exact h2),.inr ⟨h1.objs.size,_,_,by simp[sz],nT,Heap.get?_update_self _ hT3 (Obj.isFreed_of_fields (Obj.data_mapFields rfl _)),Obj.data_mapFields rfl _,by first | (simp;done) | (rcases hpl with rfl | ⟨_,_,_,_,_,_,_,rfl⟩<;>simp)⟩⟩
  rw[Heap.get?_update_other _ _ nT];exact he3
theorem zkY {base:Heap}{env:Env}{outer:List Env}{L e:Addr}{cls:Value}{Q:Unit->Shared->Prop}(hfr:A.frames=some (env::outer))(hl:s.heap.FunFrames base (env::outer))(hf:env.frame=some L)(hx:JX s.heap e cls)
  (h:∀h',ziA (env::outer) e cls s.heap h'->Q () { s with heap:=h' }):wpAny M A (noteFrame (.ref e) env) (fun _ s1=>wpAny M A (setFlight (.ref e) none) Q E s1) E s:=by
 obtain⟨oe,vs,he,rfl,hdn,hd,h2,h1 | ⟨T,oT,ts,h1,nT,hT,hdT,h3⟩⟩:=hx
 ·unfold noteFrame
  simp only[hf];refine wpAny_bind (wpAny_field he hd h1 ?_)
  rw[if_neg (by decide)]
  exact zdR hfr hl hf he hdn hd h2 (Array.getElem?_eq_some_iff.mp h1).1 h
 ·unfold noteFrame
  simp only[hf];refine wpAny_bind (wpAny_field he hd h1 ?_)
  rw[if_pos (show(Value.ref T != Value.none)=true from by simp)];refine wpAny_bind (wpAny_field hT hdT h3 ?_)
  rw[if_neg (show ¬((Value.none==rawInt L)=true) from by simp[rawInt])];refine wpAny_bind (wpAny_setField hT hdT (Array.getElem?_eq_some_iff.mp h3).1 ?_)
  have same:∀b,(s.heap.update T (Obj.mapFields (·.setIfInBounds 3 Value.none))).get? b=s.heap.get? b:=fun b=>by
   by_cases z:b=T
   ·subst z
    rw[Heap.get?_update_self _ hT (Obj.isFreed_of_fields (Obj.data_mapFields hdT _)),hT]
    have et:ts.setIfInBounds 3 Value.none=ts:=by
     obtain⟨q1,q2⟩:=Array.getElem?_eq_some_iff.mp h3
     rw[Array.setIfInBounds,dif_pos q1]
     rw[<-q2]
     exact Array.set_getElem_self ..
    obtain⟨c,dd,dt,sl⟩:=oT
    cases hdT
    show some _=some _
    refine congrArg some ?_
    show Obj.mapFields _ _=_
    simp only[Obj.mapFields,et]
   ·exact Heap.get?_update_other _ _ (Ne.symm z)
  refine zdR (base:=base) (s:={ s with heap:=s.heap.update T (Obj.mapFields (·.setIfInBounds 3 Value.none)) }) hfr (hl.of_keeps fun b o hb hnf=>⟨o,(same b).trans hb,rfl⟩) hf ((same e).trans he) hdn hd h2 (Array.getElem?_eq_some_iff.mp h1).1 fun h' x=>h h' ⟨fun b o hb=>x.keep b o ((same b).trans hb),fun b o hb=>x.slot b o ((same b).trans hb),x.exc⟩
theorem zmB {base:Heap}{env:Env}{outer:List Env}{L e:Addr}{cls:Value}{Q:Unit->Shared->Prop}(hfr:A.frames=some (env::outer))(hl:s.heap.FunFrames base (env::outer))(hf:env.frame=some L)(hx:JX s.heap e cls)
  (h:∀h',ziA (env::outer) e cls s.heap h'->Q () { s with heap:=h' }):wpAny M A (leaving env (.ref e)) Q E s:=by
 unfold leaving
 exact wpAny_bind (zkY hfr hl hf hx h)
theorem zou {e:Addr}{cls:Value}{Q:Unit->Shared->Prop}(hx:JX s.heap e cls)(h:∀h',(∀b,h'.get? b=s.heap.get? b)->Q () { s with heap:=h' }):wpAny M A (setFlight (.ref e) none) Q E s:=by
 obtain⟨oe,vs,he,rfl,hdn,hd,h2,h1 | ⟨T,oT,ts,h1,nT,hT,hdT,h3⟩⟩:=hx
 ·unfold setFlight
  refine wpAny_bind (wpAny_field he hd h1 ?_)
  rw[if_neg (by decide)]
  exact wpAny_pure (h s.heap fun _=>rfl)
 ·unfold setFlight
  refine wpAny_bind (wpAny_field he hd h1 ?_)
  rw[if_pos (show(Value.ref T != Value.none)=true from by simp)]
  refine wpAny_setField hT hdT (Array.getElem?_eq_some_iff.mp h3).1 (h _ fun b=>?_)
  by_cases z:b=T
  ·subst z
   rw[Heap.get?_update_self _ hT (Obj.isFreed_of_fields (Obj.data_mapFields hdT _)),hT]
   have et:ts.setIfInBounds 3 Value.none=ts:=by
    obtain⟨q1,q2⟩:=Array.getElem?_eq_some_iff.mp h3
    rw[Array.setIfInBounds,dif_pos q1]
    rw[<-q2]
    exact Array.set_getElem_self ..
   obtain⟨c,dd,dt,sl⟩:=oT
   cases hdT
   refine congrArg some ?_
   show Obj.mapFields _ _=_
   simp only[Obj.mapFields,Option.elim,et]
  ·exact Heap.get?_update_other _ _ (Ne.symm z)
theorem JX.same {h h':Heap}{e:Addr}{cls:Value}(x:JX h e cls)(k:∀b,h'.get? b=h.get? b):JX h' e cls:=by
 obtain⟨oe,vs,he,hc,hdn,hd,h2,h1 | ⟨T,oT,ts,h1,nT,hT,hdT,h3⟩⟩:=x
 ·exact⟨oe,vs,(k e).trans he,hc,hdn,hd,h2,.inl h1⟩
 ·exact⟨oe,vs,(k e).trans he,hc,hdn,hd,h2,.inr ⟨T,oT,ts,h1,nT,(k T).trans hT,hdT,h3⟩⟩
end
theorem Inv.fresh0 {X:Cx}{pins:List (Addr×Obj)}{σ:St}{H:Hp}{s:Shared}{a:Addr}(I:Inv X pins σ H s)(hex:X.ex=[])(hn:s.heap.get? a=none):X.s₀.heap.get? a=none:=by
 cases q:X.s₀.heap.get? a with
 | none=>rfl
 | some o =>
  obtain⟨o',e⟩:=I.base.there a o q (by rw[hex];simp)
  rw[hn] at e;cases e
def wJ (P:Program)(w:World):CXT:=fun outer H s E e s'=>∃(a:Addr) (cls:Value) (H':Hp),e=.ref a/\s'.os=s.os/\AllBare s'.gens/\Un (frs outer) [] H H' s.heap s'.heap/\Rv P w H' s'.heap/\s.heap.get? a=none/\H' a=none/\JX s'.heap a cls/\E cls none H'
section
variable {P:Program}{w:World}{K:Frag}{mg:Str->Option Value}{base:Heap}{N:List Str}{qual:Str}{scope:Scope}{f:Addr}{cd:Value}{A:Around}{outer:List Env}{s0:Shared}{H0:Hp}{E:XK}
theorem zns {pins:List (Addr×Obj)}{σ:St}{H:Hp}{s:Shared}{a:Addr}{cls:Value}(I:Inv (Jt (wJ P w) P w K mg base N qual scope f cd A outer s0 H0 E) pins σ H s)(hx:JX s.heap a cls)(ha:s0.heap.get? a=none)(hn:H a=none)(hE:E cls none H) :
  (Jt (wJ P w) P w K mg base N qual scope f cd A outer s0 H0 E).xe (.ref a) s:=by
 show wpAny (model P w) (A.deeper (envOfC qual scope s0.heap.objs.size f cd)) (leaving (envOfC qual scope s0.heap.objs.size f cd) (.ref a)) _ _ s
 refine zmB (base:=base) (outer:=outer) (L:=s0.heap.objs.size) I.ok.frames I.stack rfl hx fun h' lf=>?_
 have fr:∀b,b∈frs (envOfC qual scope s0.heap.objs.size f cd::outer)->b=s0.heap.objs.size\/b∈frs outer:=fun b hb=>List.mem_cons.mp hb
 have nfr:∀b,b<s0.heap.objs.size->b∉frs outer->b∉frs (envOfC qual scope s0.heap.objs.size f cd::outer):=fun b hb hn z=>(fr b z).elim (zvP hb) hn
 have trk:∀b u,H b=some u->b∉frs (envOfC qual scope s0.heap.objs.size f cd::outer)/\b≠a:=fun b u e=>⟨(fun z=>by rw[I.za7 b z] at e;cases e),(fun z=>by rw[z,hn] at e;cases e)⟩
 refine⟨a,cls,H,rfl,I.os,I.bare,⟨fun b o q n hb hx=>?_,fun b o q n hb hx=>?_,I.base.free,fun b o q hx=>?_,I.base.tups,I.base.Le,I.base.Jq⟩,fun b u e=>?_,ha,hn,lf.exc,hE⟩
 ·exact lf.keep b o (I.base.keep b o q n hb hx) (nfr b (zvH q) hb) (fun z=>by rw[z,ha] at q;cases q)
 ·obtain⟨sl,e1⟩:=I.base.slot b o q n hb hx
  obtain⟨sl2,e2⟩:=lf.slot b _ e1 (zvL _ hb) (fun z=>by rw[z,ha] at q;cases q)
  exact⟨sl2,e2⟩
 ·obtain⟨o',e1⟩:=I.base.there b o q hx
  have ne:b≠a:=fun z=>by rw[z,ha] at q;cases q
  by_cases z:b∈frs (envOfC qual scope s0.heap.objs.size f cd::outer)
  ·obtain⟨sl,e2⟩:=lf.slot b o' e1 z ne
   exact⟨_,e2⟩
  ·exact⟨_,lf.keep b o' e1 z ne⟩
 ·refine(I.hok b u e).stay (fun c v hc q=>?_) (fun c q=>q) fun c xs q=>q
  rcases hc with rfl | hc
  ·exact lf.keep _ v q (trk _ u e).1 (trk _ u e).2
  ·exact lf.keep _ v q (trk _ _ hc).1 (trk _ _ hc).2
theorem xR:Passes (wJ P w) (Jt (wJ P w) P w K mg base N qual scope f cd A outer s0 H0 E) E:=by
 intro pins σ H s e s' I h
 obtain⟨a,cls,H',rfl,os,bare,un,hok,ha,hn,hx,hE⟩:=h
 have I':=I.call' (s':=s') (ch:=[]) os un hok bare (fun b z=>absurd z (by simp))
 exact zns I' hx (I.fresh0 rfl ha) hn hE
end
theorem zB.lift {P:Program}{w:World}{K:Frag}{mg:Str->Option Value}{base:Heap}{CX:CXT}{k:Nat}{f:Addr}{fd:FuncData}{ps:List Str}{sp:Sp}(F:zB P w K mg base yd k f fd ps sp):zB P w K mg base CX k f fd ps sp :=
 ⟨F.len,fun A outer s H args us vs Q E hr e0 hb r h=>codeAny_mono (F.run A outer s H args us vs Q E hr e0 hb r h) fun r s' hq=>by
  cases r with
  | error e=>exact hq.elim
  | ok fl =>
   cases fl with
   | ret u=>exact hq
   | next=>exact hq
   | brk=>exact hq
   | cont=>exact hq⟩
theorem zB.orE {P:Program}{w:World}{K:Frag}{mg:Str->Option Value}{base:Heap}{CX:CXT}{k:Nat}{f:Addr}{fd:FuncData}{ps:List Str}{sp sp':Sp}(F:zB P w K mg base CX k f fd ps sp)(G:zB P w K mg base CX k f fd ps sp'):zB P w K mg base CX k f fd ps (fun vs H Q E=>sp vs H Q E\/sp' vs H Q E) :=
 ⟨fun vs H Q E h=>h.elim (F.len vs H Q E) (G.len vs H Q E),fun A outer s H args us vs Q E hr e0 hb r h=>h.elim (F.run A outer s H args us vs Q E hr e0 hb r) (G.run A outer s H args us vs Q E hr e0 hb r)⟩
section
variable {P:Program}{w:World}{K:Frag}{mg:Str->Option Value}{base:Heap}
theorem Fun.okE {x qual:Str}{st:Stmt}{f:Addr}{fd:FuncData}{N ps:List Str}{k:Nat}{sp:Sp}(F:Fun K x qual st f fd)(S:zP N ps (zA st))(len:∀vs H Q E,sp vs H Q E->vs.length=ps.length)
  (hbody:∀(cdv:Value) (A:Around) (outer:List Env) (s:Shared) (H:Hp) (vs:List V) (Q:VK) (E:XK),uJ k (A.deeper (envOfC qual (zA st) s.heap.objs.size f cdv))->sp vs H Q E ->
   ∃t,PSs (Jt (wJ P w) P w K mg base N qual (zA st) f cdv A outer s H E) (vV st) t/\t { nx:=fun _ H'=>Q .non H',rt:=Q } (start N vs) H):zB P w K mg base (wJ P w) (k+1) f fd ps sp:=by
 obtain⟨oc,od,kV,doc,pm,an,cdv,ct,osl,rfl,lk,hcd⟩:=F.ex
 exact znf lk hcd S len fun A outer s H vs Q E hr hsp=>hbody cdv A outer s H vs Q E hr hsp
end
end L2
namespace WX
open PySem L2 zZ
theorem list_range (r:List Bool):(List.range r.length).map (tK r)=r:=by
 refine List.ext_getElem? fun i=>?_
 rw[zvC]
 rcases Nat.lt_or_ge i r.length with z | z
 ·rw[List.getElem?_range z,zvB z]
  show some (r.getD i false)=_
  rw[zvN,zvB z]
  rfl
 ·rw[zv8 (by rw[List.length_range];exact z),zv8 z]
  rfl
theorem zkZ (r:List Bool):r∈allR r.length:=by
 have:=Nr (tK r) r.length
 rwa [list_range] at this
end WX
namespace L2
open PySem
section
variable {K:Frag}{σ:St}{js:List Nat}{tt:TT}{te:TE}{H:Hp}{Qf:Addr->Hp->List V->Prop}
open WX
theorem Kv {a:Addr}{xs:List V}(Pv:Nat->List V->Hp->Prop)(h0:Pv 0 [] H)(hz:xs.length<=sizeLine)
  (hl:∀i ys H,i<=xs.length->Pv i ys H->zX K H a xs/\ys.length<=i)
  (hs:∀i x ys H (Q:V->Hp->Prop),xs[i]?=some x->Pv i ys H->(∀v H3,Pv (i+1) (ys++[v]) H3->Q v H3)->te (Wn σ js (some x)) H Q)
  (hd:∀ys H p,Pv xs.length ys H->H p=none->Qf p H ys) :
  ∃W:Nat->Nat->List V->Hp->Prop,(∃m,W 0 m [] H)/\∀i m ys H,W i m ys H ->
   ((Itl K a).stop i H/\∀p,H p=none->Qf p H ys) \/
   ((Itl K a).go i H/\ys.length<sizeLine/\∀x H',(Itl K a).yld i H x H'->Jw (Wn σ js (some x)) H' fun b H2 =>
    if b=true then te (Wn σ js (some x)) H2 fun v H3=>∃m',m'<m/\W (i+1) m' (ys++[v]) H3 else ∃m',m'<m/\W (i+1) m' ys H2):=by
 refine⟨fun i m ys H=>m=xs.length-i/\i<=xs.length/\Pv i ys H,⟨xs.length,by simp,zvW _,h0⟩,?_⟩
 rintro i m ys H ⟨rfl,hi,p⟩
 obtain⟨q,hy⟩:=hl i ys H hi p
 by_cases hlt:i<xs.length
 ·refine .inr ⟨⟨xs,xs[i],q,by simp[hlt]⟩,by omega,fun x H' y=>?_⟩
  obtain⟨e,y⟩:=y
  subst e
  show te (Wn σ js (some x)) H' fun v H3=>∃m',m'<xs.length-i/\(m'=xs.length-(i+1)/\i+1<=xs.length/\Pv (i+1) (ys++[v]) H3)
  exact hs i x ys _ _ (y xs q) p fun v H3 h3=>⟨_,Nat.sub_lt_sub_left hlt (Nat.lt_succ_self i),rfl,hlt,h3⟩
 ·have e:i=xs.length:=by omega
  subst e
  exact .inl ⟨⟨xs,q,zvQ _⟩,fun pp hp=>hd ys H pp p hp⟩
end
theorem zmC {σ:St}{js:List Nat}{te:TE}{H:Hp}{Qf:Addr->Hp->List V->Prop}{n:Nat}(Pv:Nat->List V->Hp->Prop)(h0:Pv 0 [] H)(hz:n<=sizeLine)(hl:∀i ys H,i<=n->Pv i ys H->ys.length<=i)
  (hs:∀(i:Nat) ys H (Q:V->Hp->Prop),i<n->Pv i ys H->(∀v H3,Pv (i+1) (ys++[v]) H3->Q v H3)->te (Wn σ js (some (.int ((0:Int)+i)))) H Q)
  (hd:∀ys H p,Pv n ys H->H p=none->Qf p H ys) :
  ∃W:Nat->Nat->List V->Hp->Prop,(∃m,W 0 m [] H)/\∀i m ys H,W i m ys H ->
   ((Itr 0 n).stop i H/\∀p,H p=none->Qf p H ys) \/
   ((Itr 0 n).go i H/\ys.length<sizeLine/\∀x H',(Itr 0 n).yld i H x H'->Jw (Wn σ js (some x)) H' fun b H2 =>
    if b=true then te (Wn σ js (some x)) H2 fun v H3=>∃m',m'<m/\W (i+1) m' (ys++[v]) H3 else ∃m',m'<m/\W (i+1) m' ys H2):=by
 refine⟨fun i m ys H=>m=n-i/\i<=n/\Pv i ys H,⟨n,by simp,zvW _,h0⟩,?_⟩
 rintro i m ys H ⟨rfl,hi,p⟩
 have hy:=hl i ys H hi p
 by_cases hlt:i<n
 ·refine .inr ⟨hlt,by omega,fun x H' y=>?_⟩
  obtain⟨e,y⟩:=y
  subst e y
  exact hs i ys _ _ hlt p fun v H3 h3=>⟨_,Nat.sub_lt_sub_left hlt (Nat.lt_succ_self i),rfl,hlt,h3⟩
 ·have e:i=n:=by omega
  subst e
  exact .inl ⟨zvQ _,fun pp hp=>hd ys H pp p hp⟩
end L2
namespace L2
open PySem PySem.Spec PyProof.Rows
structure zfV (K:Frag)(D:Addr):Prop where
 ga:findIn K (.ref D) "__getattribute__"=some (some (.builtin "BaseException.__getattribute__"))
 gt:findIn K (.ref D) "__getattr__"=some none
 ca:findIn K (.ref D) "__class__"=some (some (.builtin "object.__class__"))
 bx:PySem.W.mroIn K D (.type "BaseException")=some true
 ob:PySem.W.mroIn K D (.type "object")=some true
 cl:(PySem.W.clsIn K D).isSome=true
theorem Kw:Slot "BaseException" "__getattribute__" "BaseException.__getattribute__" :=
 .of (owner := "BaseException") (n := "__getattribute__") (by rw[typeLookup_type,builtinLookup_eq_fast];kernel_rfl) (by decide +kernel) (by decide +kernel) (by decide +kernel)
  (by first | exact .inl (by decide +kernel) | exact .inr (by decide +kernel)) (by rw[isSubtype_type];kernel_rfl)
section
variable {prog:Program}{w:World}{A:Around}{E:Value->Shared->Prop}{h:Heap}{g:Array GenState}{d:Drawn}{t:Nat}{os:OsState}{a D:Addr}{o:Obj}{K:Frag}
theorem zaY {tk:Tok}{Q:Fin->Shared->Prop}(X:K.In h)(c:zfV K D)(I:PySem.W.InstAt h a o D none)(hq:Q (.done (.ret (.ref D))) ⟨h,g,d,t,os⟩) :
  wpAny (model prog w) A (Builtin.«object.__getattribute__» ⟨[.ref a,.str "__class__" tk],[]⟩) Q E ⟨h,g,d,t,os⟩:=by
 have hT5:(⟨h,g,d,t,os⟩:Shared).TypeIs (.builtin "object.__class__") "getset_descriptor" := F.typeOf_object_class
 have f5:=F.typeOf_object_class
 have f6:=F.slot_gs_get.lookup
 have f7:=F.slot_gs_set.lookup
 have hx:=I.at_
 have hc:=I.cls
 have L1:=PySem.W.looks_findIn (M:=model prog w) X c.ca
 repeat (any_goals (first | assumption | (with_reducible refine wpAny_loadPart_at hx ?_;rw[hc]) | with_reducible refine L1.at ?_ | wp_step))
 refine PySem.W.class_get (s:=⟨h,g,d,t,os⟩) X I c.ob ?_
 repeat (any_goals (first | assumption | wp_step))
theorem zeD {M:Model}{nameV:Value}{Q:Unit->Shared->Prop}(X:K.In h)(c:zfV K D)(I:PySem.W.InstAt h a o D none)(hq:Q () ⟨h,g,d,t,os⟩):wpAny M A (checkBuiltinCall "BaseException.__getattribute__" ⟨[.ref a,nameV],[]⟩) Q E ⟨h,g,d,t,os⟩:=by
 have hk:builtinKind "BaseException.__getattribute__"=some .slot:=by decide +kernel
 have hsplit:splitId "BaseException.__getattribute__"=some ("BaseException", "__getattribute__"):=by decide +kernel
 have ha:=F.args_bexc_ga (.ref a) nameV
 have hx:=I.at_
 have hc:=I.cls
 have L1:=PySem.W.looks_mroIn (M:=M) X c.bx
 simp only[checkBuiltinCall,hk,hsplit]
 refine wpAny_bind ?_
 ·unfold isInstance
  repeat (first | (with_reducible refine wpAny_loadPart_at hx ?_;rw[hc]) | with_reducible refine L1.at ?_ | wp_step)
  exact hq
theorem zb0 {tk:Tok}{R:Result->Shared->Prop}(X:K.In h)(c:zfV K D)(I:PySem.W.InstAt h a o D none)(hq:R (.ok (.ret (.ref D))) ⟨h,g,d,t,os⟩) :
  codeAny (model prog w) A (.call (.builtin "BaseException.__getattribute__") ⟨[.ref a,.str "__class__" tk],[]⟩) R ⟨h,g,d,t,os⟩ :=
 codeAny_call_builtin Kw.plain F.entry_bexc_ga (zeD X c I (zaY X c I hq))
theorem zeE {tk:Tok}{Q:Value->Shared->Prop}(X:K.In h)(c:zfV K D)(I:PySem.W.InstAt h a o D none)(hq:Q (.ref D) ⟨h,g,d,t,os⟩):wpAny (model prog w) A (getAttrBy (.ref a) (.str "__class__" tk) false) Q E ⟨h,g,d,t,os⟩:=by
 have f3:=Kw.bind (.ref a)
 have hx2:(Value.builtin "BaseException.__getattribute__" == Value.builtin "object.__getattribute__")=false:=by decide +kernel
 have hx1:(onTheHeap (Value.ref D)&&Value.builtin "BaseException.__getattribute__" == Value.builtin "object.__getattribute__")=false:=by rw[hx2];rfl
 have hx:=I.at_
 have hc:=I.cls
 have L1:=PySem.W.looks_findIn (M:=model prog w) X c.ga
 have L2:=PySem.W.looks_findIn (M:=model prog w) X c.gt
 repeat (any_goals (first | assumption | (with_reducible refine wpAny_loadPart_at hx ?_;rw[hc]) | with_reducible refine L1.at ?_ | with_reducible refine L2.at ?_ | wp_step))
 refine zb0 X c I ?_
 repeat (any_goals (first | assumption | wp_step))
theorem zb1 {Q:Option Value->Shared->Prop}(X:K.In h)(c:zfV K D)(I:PySem.W.InstAt h a o D none)(hq:Q (some (.ref D)) ⟨h,g,d,t+1,os⟩):wpAny (model prog w) A (getAttr? (.ref a) "__class__") Q E ⟨h,g,d,t,os⟩:=by
 unfold getAttr? getAttrBy?
 repeat (any_goals (first | assumption | with_reducible apply zeE X c I | wp_step))
end
theorem zk0 {K:Frag}{a D:Addr}(c:zfV K D):PySem.W.KitX K (.ref a) (.ref D) (fun h=>∃o,PySem.W.InstAt h a o D none) where
 ty:=fun _ _ _ ⟨_,I⟩=>I.type
 it:=fun _ _ X _=>by
  obtain⟨cdD,hcD⟩:=Option.isSome_iff_exists.mp c.cl
  unfold PySem.W.clsIn at hcD
  split at hcD
  ·rename_i c' d' cd' sl' ho
   intro A' Q' E' s' k q
   unfold isType loadHead
   exact wpAny_bind (wpAny_loadPart (k _ _ (X _ _ ho)) (wpAny_pure q))
  ·cases hcD
 ne:=fun h tp dd its n sl X htp=>by
  obtain⟨cdD,hcD⟩:=Option.isSome_iff_exists.mp c.cl
  refine Bool.eq_false_iff.mpr fun q=>?_
  have e:D=tp:=Value.ref.inj (beq_iff_eq.mp q)
  subst e
  unfold PySem.W.clsIn at hcD
  split at hcD
  ·rename_i c' d' cd' sl' ho
   have z:=(X _ _ ho).symm.trans htp
   cases z
  ·cases hcD
 ca:=fun {_ _ _ _ _ s} X ⟨o,I⟩ k=>by
  obtain⟨h,g,d,t,os⟩:=s
  exact zb1 X c I k
def zcS (a D:Addr):HO:=.ext fun h=>∃o vs,PySem.W.InstAt h a o D none/\o.data=.fields vs/\vs[2]?=some .none
theorem InstAt.none_ {h:Heap}{a D:Addr}{o:Obj}(e:h.get? a=some o)(hc:o.cls=.ref D)(hd:o.dict=none)(hn:PySem.W.notCls o=true):PySem.W.InstAt h a o D none :=
 ⟨e,hc,hn,by rw[hd];trivial⟩
theorem zmD {P:Program}{w:World}{H:Hp}{h:Heap}{a D:Addr}(hx:JX h a (.ref D)):wF P w H h a (zcS a D):=by
 obtain⟨oe,vs,he,hc,hdn,hd,h2,_⟩:=hx
 refine⟨⟨oe,vs,InstAt.none_ he hc hdn ?_,hd,h2⟩,⟨_,he⟩,fun h1 h2 ⟨o,vs,I,q1,q2⟩ k=>⟨o,vs,⟨k o I.at_,I.cls,I.no,?_⟩,q1,q2⟩⟩
 ·obtain⟨c,dd,dt,sl⟩:=oe
  cases hd
  rfl
 ·have:=I.dict
  revert this
  cases o.dict<;>exact fun z=>z
theorem Rd.exc {P:Program}{w:World}{H:Hp}{h:Heap}{a D:Addr}(ok:Rv P w H h)(e:H a=some (zcS a D)):∃o vs,PySem.W.InstAt h a o D none/\o.data=.fields vs/\vs[2]?=some .none:=(ok a _ e).1
structure Fly (X:Cx)(pins:List (Addr×Obj))(H:Hp)(s:Shared)(a:Addr)(cls:Value):Prop where
 exc:JX s.heap a cls
 hn:H a=none
 s0:X.s₀.heap.get? a=none
 loc:a≠X.env.locals
 cell:∀x c,X.env.cells.lookup x=some c->c≠a
 pin:∀p∈X.pn++pins,p.1≠a
 st:a∉frs X.stack
section
variable {X:Cx}{pins:List (Addr×Obj)}{σ:St}{H H':Hp}{s s':Shared}{a:Addr}{cls:Value}
theorem Inv.fly (I:Inv X pins σ H s)(hex:X.ex=[])(hn:s.heap.get? a=none)(hn':H' a=none)(hx:JX s'.heap a cls):Fly X pins H' s' a cls where
 exc:=hx
 hn:=hn'
 s0:=I.fresh0 hex hn
 loc:=fun z=>by
  obtain⟨m,⟨o,_,_,ho,_⟩,_⟩:=I.loc
  rw[<-z,hn] at ho;cases ho
 cell:=fun x c e z=>by
  obtain⟨v,o,ho,_⟩:=I.cell x c e
  rw[z,hn] at ho;cases ho
 pin:=fun p hp z=>by
  have:=(I.pin p hp).1
  rw[z,hn] at this;cases this
 st:=fun z=>by
  obtain⟨_,o,ho,_⟩:=I.stack.mem z
  rw[hn] at ho;cases ho
theorem Inv.left {h':Heap}(I:Inv X pins σ H s)(f:Fly X pins H s a cls)(lf:ziA X.stack a cls s.heap h'):Inv X pins σ H { s with heap:=h' }:=by
 have nst:∀b,b≠X.env.locals->b∉X.fs->b∉frs X.stack:=fun b h1 h2 z=>(List.mem_cons.mp (I.zbr b z)).elim h1 h2
 have upto:∀b o,s.heap.get? b=some o->b≠a->∃sl,h'.get? b=some { o with slots:=sl }:=fun b o e ne=>by
  by_cases z:b∈frs X.stack
  ·exact lf.slot b o e z ne
  ·exact⟨o.slots,lf.keep b o e z ne⟩
 have cellK:∀x c,X.env.cells.lookup x=some c->∀v,s.heap.IsCell c v->h'.IsCell c v:=fun x c e v ⟨o,ho,hd⟩=>by
  obtain⟨sl,q⟩:=upto c o ho (f.cell x c e)
  exact⟨_,q,hd⟩
 have ne0:∀b o,X.s₀.heap.get? b=some o->b≠a:=fun b o e z=>by rw[z,f.s0] at e;cases e
 refine⟨I.ok,I.os,I.bare,⟨fun b o e n hb hx=>?_,fun b o e n hb hx=>?_,I.base.free,fun b o e hx=>?_,I.base.tups,I.base.Le,I.base.Jq⟩,?_,fun x c e=>?_,I.free,I.Xq,fun p hp=>?_,fun b u e=>?_,I.len⟩
 ·exact lf.keep b o (I.base.keep b o e n hb hx) (nst b (zvP (zvJ (zvH e) I.ok.above)) hb) (ne0 b o e)
 ·obtain⟨sl,e1⟩:=I.base.slot b o e n hb hx
  obtain⟨sl2,e2⟩:=upto b _ e1 (ne0 b o e)
  exact⟨sl2,e2⟩
 ·obtain⟨o',e1⟩:=I.base.there b o e hx
  obtain⟨sl2,e2⟩:=upto b _ e1 (ne0 b o e)
  exact⟨_,e2⟩
 ·obtain⟨m,⟨o,es,ep,ho,r⟩,hl⟩:=I.loc
  obtain⟨sl,q⟩:=upto _ o ho (Ne.symm f.loc)
  refine⟨m,⟨_,es,ep,q,r⟩,fun i x v e1 e2 e3=>?_⟩
  obtain⟨u,r,l⟩:=hl i x v e1 e2 e3
  refine⟨u,r,?_⟩
  rcases l with l | ⟨k,c,e,z⟩
  ·exact .inl l
  ·exact .inr ⟨k,c,e,cellK x c e _ z⟩
 ·obtain⟨v,z⟩:=I.cell x c e
  exact⟨v,cellK x c e v z⟩
 ·obtain⟨e,n,ne,nf,d⟩:=I.pin p hp
  exact⟨lf.keep p.1 p.2 e (nst p.1 ne nf) (f.pin p hp),n,ne,nf,d⟩
 ·have tr:∀b u,H b=some u->b∉frs X.stack/\b≠a:=fun b u e=>⟨(fun z=>by rw[I.za7 b z] at e;cases e),(fun z=>by rw[z,f.hn] at e;cases e)⟩
  refine(I.hok b u e).stay (fun c v hc q=>?_) (fun c q=>q) fun c xs q=>q
  rcases hc with rfl | hc
  ·exact lf.keep _ v q (tr _ u e).1 (tr _ u e).2
  ·exact lf.keep _ v q (tr _ _ hc).1 (tr _ _ hc).2
theorem Inv.zov {D:Addr}(I:Inv X pins σ H s)(f:Fly X pins H s a (.ref D)):Inv X pins σ (upd H a (zcS a D)) s:=by
 have ne0:∀b o,X.s₀.heap.get? b=some o->b≠a:=fun b o e z=>by rw[z,f.s0] at e;cases e
 have neH:∀b u,H b=some u->b≠a:=fun b u e z=>by rw[z,f.hn] at e;cases e
 refine⟨I.ok,I.os,I.bare,⟨I.base.keep,I.base.slot,fun b o e n hx=>?_,I.base.there,fun b xs e=>?_,fun b o u e=>?_,fun b ps e=>?_⟩,I.loc,I.cell,?_,fun x c e=>?_,fun p hp=>?_,fun b u e=>?_,I.len⟩
 ·rw[zJ (ne0 b o e)];exact I.base.free b o e n hx
 ·have:=I.base.tups b xs e
  rw[zJ (neH b _ this)];exact this
 ·have:=I.base.Le b o u e
  rw[zJ (neH b _ this)];exact this
 ·obtain⟨m,this⟩:=I.base.Jq b ps e
  exact⟨m,by rw[zJ (neH b _ this)];exact this⟩
 ·rw[zJ (Ne.symm f.loc)];exact I.free
 ·rw[zJ (f.cell x c e)];exact I.Xq x c e
 ·obtain⟨e,n,ne,nf,d⟩:=I.pin p hp
  exact⟨e,by rw[zJ (f.pin p hp)];exact n,ne,nf,d⟩
 ·by_cases z:b=a
  ·subst z
   rw[zu] at e;cases e
   exact zmD f.exc
  ·rw[zJ z] at e
   refine(I.hok b u e).stay (fun c v _ q=>q) (fun c q=>?_) fun c xs q=>?_
   ·rw[zJ (neH c _ q)];exact q
   ·rw[zJ (neH c _ q)];exact q
end
abbrev XR:=Value->St->Hp->Prop
def XP (X:Cx)(pins:List (Addr×Obj))(R:XR)(e:Value)(s':Shared):Prop:=∃a cls σ H',e=.ref a/\Inv X pins σ H' s'/\Fly X pins H' s' a cls/\R cls σ H'
abbrev TEx:=St->Hp->VK->(Value->Hp->Prop)->Prop
abbrev TSx:=Ends->XR->St->Hp->Prop
def PEx (X:Cx)(e:Expr)(t:TEx):Prop :=
 ∀(pins:List (Addr×Obj)) (s:Shared) (σ:St) (H:Hp) (Q:VK) (R:Value->Hp->Prop),Inv X pins σ H s->t σ H Q R->wpAny (model X.prog X.w) X.A (eval e X.env) (EP X pins σ Q) (XP X pins fun cls σ' H'=>σ'=σ/\R cls H') s
def zp7 (X:Cx)(st:Stmt)(t:TSx):Prop :=
 ∀(pins:List (Addr×Obj)) (s:Shared) (σ:St) (H:Hp) (D:Ends) (R:XR),Inv X pins σ H s->t D R σ H->wpAny (model X.prog X.w) X.A (exec st X.env) (SP X pins D) (XP X pins R) s
def PSx (X:Cx)(st:List Stmt)(t:TSx):Prop :=
 ∀(pins:List (Addr×Obj)) (s:Shared) (σ:St) (H:Hp) (D:Ends) (R:XR),Inv X pins σ H s->t D R σ H->wpAny (model X.prog X.w) X.A (execs st X.env) (SP X pins D) (XP X pins R) s
section
variable {X:Cx}{e:Expr}{te:TE}{tx:TEx}{st:Stmt}{rest:List Stmt}{ts:TS}{t u:TSx}{pos pos':Pos}
def zp8 (tx:TEx):TSx:=fun D R σ H=>tx σ H (fun _ H1=>D.nx σ H1) fun cls H'=>R cls σ H'
theorem zk1 (he:PEx X e tx)(hs:swapsWith e none pos.line X.env=pure false:=by rfl):zp7 X (.Expr e pos) (zp8 tx):=by
 intro pins s σ H D R I h
 refine wpAny_Expr_any (wpAny_mono (he pins s σ H _ _ I h) (fun v s1 ⟨x,H1,I1,r1,q1⟩=>⟨σ,H1,I1,q1⟩) fun v s1 ⟨a,cls,σ',H',e1,I1,f,e2,q⟩=>?_) I.quiet hs
 subst e2
 exact⟨a,cls,_,H',e1,I1,f,q⟩
theorem zk2 (h1:zp7 X st t):PSx X [st] t:=by
 intro pins s σ H D R I h
 refine wpAny_execs_cons (vo (h1 pins s σ H D R I h) fun f s1 q=>?_)
 cases f with
 | next=>exact wpAny_execs_nil q
 | ret v=>exact q
 | brk=>exact q
 | cont=>exact q
end
section
variable {X:Cx}{k:Nat}{f C:Addr}{fd:FuncData}{ps:List Str}{sp:Sp}{R3:List V}{ds:List Value}{x m:Str}{p pos apos:Pos}{e o:Expr}{es:List Expr}{ta:TE}{t:TA}
theorem zp9 {pins:List (Addr×Obj)}{σ:St}{H:Hp}{s s':Shared}{ev:Value}{R:Value->Hp->Prop}(hex:X.ex=[])(I:Inv X pins σ H s)(h:wJ X.prog X.w X.stack H s (fun cls _ H'=>R cls H') ev s') :
  XP X pins (fun cls σ' H'=>σ'=σ/\R cls H') ev s':=by
 obtain⟨a,cls,H',rfl,os,bare,un,hok,ha,hn,hx,hE⟩:=h
 exact⟨a,cls,σ,H',rfl,I.call' (s':=s') (ch:=[]) os un hok bare (fun b z=>absurd z (by simp)),I.fly hex ha hn hx,rfl,hE⟩
theorem zmE {pins:List (Addr×Obj)}{σ:St}{H:Hp}{s:Shared}{Q:VK}{R:Value->Hp->Prop}{us:List Value}{vs:List V}(F:zB X.prog X.w X.K X.mg X.base (wJ X.prog X.w) k f fd ps sp)(hr:uJ k X.A)(hb:Binds X.K fd ps ds)(hd:Vals R3 ds)(hex:X.ex=[])
  (I:Inv X pins σ H s)(r:Vals vs us)(h:sp (vs++R3) H Q fun cls _ H'=>R cls H'):wpAny (model X.prog X.w) X.A (call (.ref f) us) (EP X pins σ Q) (XP X pins fun cls σ' H'=>σ'=σ/\R cls H') s:=by
 have r2:Vals (vs++R3) (us++ds):=r.append hd
 have hl:(us++ds).length=ps.length:=by rw[<-r2.length];exact F.len _ _ _ _ h
 refine wpAny_call (codeAny_mono (F.run X.A X.stack s H ⟨us,[]⟩ (us++ds) (vs++R3) Q _ hr I.env0 (hb s us I.PX hl) r2 h) fun r s' hq=>?_)
 cases r with
 | error e=>exact zp9 hex I hq
 | ok fl =>
  cases fl with
  | ret u=>exact I.after hq
  | next=>exact False.elim hq
  | brk=>exact False.elim hq
  | cont=>exact False.elim hq
def zqa (sp:Sp)(R3:List V)(t:TA):TEx:=fun σ H Q R=>t σ H fun vs H1=>sp (vs++R3) H1 Q fun cls _ H'=>R cls H'
theorem zk3 {α:Type}{pins:List (Addr×Obj)}{σ:St}{H:Hp}{s:Shared}{Qn:List V->Hp->Prop}{Q:List Value->Shared->Prop}{E:Value->Shared->Prop}{cpos:Pos}(ha:PA X.nox es t)(I:Inv X pins σ H s)(h:t σ H Qn)
  (hf:∀us s1 vs H1,Inv X pins σ H1 s1->Vals vs us->Qn vs H1->Q us s1):wpAny (model X.prog X.w) X.A (spliced (backTo cpos (starEach es X.env))) Q E s :=
 wpAny_mono (ha cpos pins s σ H Qn (I.wish _) h) (fun us s1 ⟨vs,H1,I1,r,q⟩=>hf us s1 vs H1 I1.TV r q) fun _ _ z=>False.elim z
theorem zk4 (F:zB X.prog X.w X.K X.mg X.base (wJ X.prog X.w) k f fd ps sp)(hr:uJ k X.A)(hg:Gl X x)(hm:X.mg x=some (.ref f))(hk:PySem.W.keepIn X.K (.ref f)=true)(hb:Binds X.K fd ps ds)(hd:Vals R3 ds)(hex:X.ex=[])
  (ha:PA X.nox (e::es) t)(hdb:(x==("__debug__" : Str))=false:=by decide)(he:starEach (e::es) X.env=(false,eval e X.env)::starEach es X.env:=by rfl)(hpl:(backTo pos (starEach es X.env)).any (·.1)=false:=by rfl) :
  PEx X (.Call (.Name x p) (e::es) [] pos) (zqa sp R3 t):=by
 intro pins s σ H Q R I h
 refine wpAny_Call_Name_kw (TQ I hg hm ?_ hdb)
 refine PySem.W.callWith_K (h₀:=X.base) I.ok.mod.kin hk (zk3 (α:=Unit) ha I h fun us s1 vs H1 I1 r q=>⟨I1.PX,?_⟩) he hpl
 exact zmE F hr hb hd hex I1 r q
end
abbrev Cx.suite (X:Cx)(a:Addr):Cx:={ X with A:=X.A.mark (some (.ref a)),calm:=false,xe:=fun _ _=>False }
section
variable {X:Cx}{pins:List (Addr×Obj)}{σ:St}{H:Hp}{s:Shared}{a:Addr}
theorem Inv.suite (I:Inv X pins σ H s)(a:Addr):Inv (X.suite a) pins σ H s :=
 ⟨⟨I.ok.mod,I.ok.kind,I.ok.glob,I.ok.blt,I.ok.above,I.ok.inj,I.ok.has,I.ok.cab,(fun z=>nomatch z),I.ok.frames,I.ok.stk,I.ok.exf,I.ok.bs,I.ok.bsz,I.ok.zfd,I.ok.zfe,I.ok.PN,I.ok.frf⟩,I.os,I.bare,I.base,I.loc,I.cell,I.free,I.Xq,I.pin,I.hok,I.len⟩
theorem Inv.zmF (ok:X.Ok)(I:Inv (X.suite a) pins σ H s):Inv X pins σ H s :=
 ⟨ok,I.os,I.bare,I.base,I.loc,I.cell,I.free,I.Xq,I.pin,I.hok,I.len⟩
theorem zmG {M:Model}{A:Around}{E:Value->Shared->Prop}{i:Nat}{n:Str}{pos:Pos}{Q:Unit->Shared->Prop}(I:Inv X pins σ H s)(hN:X.N.Nodup)(hi:X.N[i]?=some n)(hk:X.env.kindOf n=some .local)
  (h:∀s',Inv X pins (σ.set i none) H s'->Q () s'):wpAny M A (do bindName X.env n .none;unbindBehindTheSuite X.env n pos) Q E s:=by
 obtain⟨m,hn,hl⟩:=id I.loc
 have hcls:(X.env.scope.kind==.class||(X.env.scope.kind==.module&&X.env.locals != X.env.globals))=false:=by rw[I.ok.kind];rfl
 have hiσ:i < σ.length:=by rw[I.len];exact(zvD.mp hi).1
 have cne:=I.cne
 refine wpAny_nameGoes_keeps hk hn hcls fun h' v hn' hs=>?_
 obtain⟨oL,_,_,hoL,_⟩:=id hn
 have hok:Rv X.prog X.w H h':=fun b ob e=>by
  refine(I.hok b ob e).stay (fun c w' hc q=>(hs.2 c ?_).trans q) (fun _ q=>q) fun _ _ q=>q
  rintro rfl
  rcases hc with z | hc
  ·rw[<-z,I.free] at e;cases e
  ·rw[I.free] at hc;cases hc
 refine h _ ⟨I.ok,I.os,I.bare,⟨fun b o e n hb hx=>?_,fun b o e n hb hx=>?_,I.base.free,fun b o e hx=>?_,I.base.tups,I.base.Le,I.base.Jq⟩,⟨_,hn',fun j y v' e1 e2 e3=>?_⟩,fun y c e=>?_,I.free,I.Xq,fun p hp=>?_,hok,by simpa using I.len⟩
 ·exact(hs.2 b (zvP (zvJ (zvH e) I.ok.above))).trans (I.base.keep b o e n hb hx)
 ·obtain⟨sl,e1⟩:=I.base.slot b o e n hb hx
  exact⟨sl,(hs.2 b (zvP (zvJ (zvH e) I.ok.above))).trans e1⟩
 ·obtain⟨o',e1⟩:=I.base.there b o e hx
  exact⟨o',(hs.2 b (zvP (zvJ (zvH e) I.ok.above))).trans e1⟩
 ·by_cases hj:j=i
  ·subst hj
   rw[List.getElem?_set_self hiσ] at e2
   cases e2
  ·rw[List.getElem?_set_ne (Ne.symm hj)] at e2
   obtain⟨u',r',q⟩:=hl j y v' e1 e2 e3
   refine⟨u',r',?_⟩
   rcases q with ⟨k,e⟩ | ⟨k,c,e,z⟩
   ·refine .inl ⟨k,?_⟩
    have:y≠n:=fun e=>hj (zbs hN e1 (e ▸ hi))
    simp[this,e]
   ·exact .inr ⟨k,c,e,z.sameBut hs (cne y c e)⟩
 ·obtain⟨w',z⟩:=I.cell y c e
  exact⟨w',z.sameBut hs (cne y c e)⟩
 ·obtain⟨e,n,ne,nf,d⟩:=I.pin p hp
  exact⟨(hs.2 p.1 ne).trans e,n,ne,nf,d⟩
end
def zr8 (K:Frag)(B:Addr)(i:Nat)(tb:TSx)(ts:Addr->TS):TS:=fun D σ H=>tb D (fun cls σ' H'=>∃C,cls=.ref C/\PySem.W.exmOne K (.ref C) (.ref B)=some true/\∀a,H' a=none ->
 ts a { nx:=fun σ2 H2=>D.nx (σ2.set i none) H2,rt:=D.rt,bk:=fun σ2 H2=>D.bk (σ2.set i none) H2,ct:=fun σ2 H2=>D.ct (σ2.set i none) H2 } (σ'.set i (some (.ref a))) (upd H' a (zcS a C))) σ H
section
variable {X:Cx}{i:Nat}{n y:Str}{B:Addr}{body suite:List Stmt}{b₀:Stmt}{tb:TSx}{ts:Addr->TS}{np hp pos:Pos}
theorem zow {pins:List (Addr×Obj)}{σ:St}{H:Hp}{s:Shared}{D:Ends}{R:XR}{ev:Value}(hst:X.stack=X.env::X.outer)(hfr:X.env.frame=some X.env.locals)(hs:∀a,PSs (X.suite a) (b₀::suite) (ts a))(hg:Gl X y)(hm:X.mg y=some (.ref B))
  (hN:X.N.Nodup)(hi:X.N[i]?=some n)(hk:X.env.kindOf n=some .local)
  (hx:XP X pins (fun cls σ' H'=>∃C,cls=.ref C/\PySem.W.exmOne X.K (.ref C) (.ref B)=some true/\∀a,H' a=none ->
   ts a { nx:=fun σ2 H2=>D.nx (σ2.set i none) H2,rt:=D.rt,bk:=fun σ2 H2=>D.bk (σ2.set i none) H2,ct:=fun σ2 H2=>D.ct (σ2.set i none) H2 } (σ'.set i (some (.ref a))) (upd H' a (zcS a C))) ev s)
  (hdb:(y==("__debug__" : Str))=false:=by decide) :
  wpAny (model X.prog X.w) X.A (noteFrame ev X.env) (fun _ s₂=>wpAny (model X.prog X.w) X.A (setFlight ev none) (fun _ s₃=>wpAny (model X.prog X.w) X.A (handleBy ev X.env [.ExceptHandler (some (.Name y np)) (some n) (b₀::suite) hp]) (SP X pins D) X.xe s₃) X.xe s₂) X.xe s:=by
 obtain⟨a,cls,σ,H,rfl,I,fl,C,rfl,hex,hq⟩:=hx
 refine zkY (base:=X.base) (outer:=X.outer) (L:=X.env.locals) (by rw[<-hst];exact I.ok.frames) (by rw[<-hst];exact I.stack) hfr fl.exc fun h' lf=>?_
 rw[<-hst] at lf
 have I1:=I.left fl lf
 have fl1:Fly X pins H { s with heap:=h' } a (.ref C):=⟨lf.exc,fl.hn,fl.s0,fl.loc,fl.cell,fl.pin,fl.st⟩
 refine wpAny_handleBy_cons (codeAny_handlers_test (TQ (X:=X.suite a) (I1.suite a) hg hm ?_ hdb)) (by intro q;cases q)
 have LT:PySem.W.Looks (model X.prog X.w) h' (typeOf (.ref a)) (.ref C):=by
  obtain⟨oe,vs,he,hc,_⟩:=lf.exc
  exact hc ▸ (PySem.W.Looks.ld he).andThen .now
 refine(PySem.W.exm_one I1.PX LT hex) _ _ _ _ (fun _ _ e=>e) ?_
 refine codeAny_handlers_suite_as ?_
 refine zou fl1.exc fun h2 k2=>?_
 have I2:Inv X pins σ H { s with heap:=h2 }:=I1.kept (t':=s.toks) fun b u q=>(k2 b).trans q
 have fl2:Fly X pins H { s with heap:=h2 } a (.ref C):=⟨fl1.exc.same k2,fl.hn,fl.s0,fl.loc,fl.cell,fl.pin,fl.st⟩
 have I3:=(I2.zov fl2).suite a
 refine WD (X:=X.suite a) (v:=.ref a) I3 hN hi (.inl hk) rfl (fun s4 I4=>?_) (.inr hk)
 refine wpAny_mono (hs a pins s4 _ _ _ I4 (hq a fl.hn)) (fun f s5 hf=>?_) fun _ _ z=>False.elim z
 have fin:∀{σ2:St} {H2:Hp},Inv (X.suite a) pins σ2 H2 s5->∀Q:Unit->Shared->Prop,(∀s',Inv X pins (σ2.set i none) H2 s'->Q () s')->wpAny (model X.prog X.w) X.A (do bindName X.env n .none;unbindBehindTheSuite X.env n hp) Q X.xe s5 :=
  fun J Q hQ=>zmG (J.zmF I.ok) hN hi hk hQ
 cases f with
 | next=>obtain⟨σ2,H2,J,q⟩:=hf;exact fin J _ fun s' I'=>⟨_,_,I',q⟩
 | brk=>obtain⟨σ2,H2,J,q⟩:=hf;exact fin J _ fun s' I'=>⟨_,_,I',q⟩
 | cont=>obtain⟨σ2,H2,J,q⟩:=hf;exact fin J _ fun s' I'=>⟨_,_,I',q⟩
 | ret u=>obtain⟨v,σ2,H2,J,r,q⟩:=hf;exact fin J _ fun s' I'=>⟨v,_,_,I',r,q⟩
theorem zox (hst:X.stack=X.env::X.outer)(hfr:X.env.frame=some X.env.locals)(hb:PSx X body tb)(hs:∀a,PSs (X.suite a) (b₀::suite) (ts a))(hg:Gl X y)(hm:X.mg y=some (.ref B))
  (hN:X.N.Nodup)(hi:X.N[i]?=some n)(hk:X.env.kindOf n=some .local)(hdb:(y==("__debug__" : Str))=false:=by decide) :
  PS X (.Try body [.ExceptHandler (some (.Name y np)) (some n) (b₀::suite) hp] [] [] pos) (zr8 X.K B i tb ts):=by
 intro pins s σ H D I h
 refine wpAny_Try_except (wpAny_mono (hb pins s σ H _ _ I h) (fun f s1 q=>?_) fun e s1 q=>zow (σ:=σ) (H:=H) (R:=fun _ _ _=>True) hst hfr hs hg hm hN hi hk q hdb)
 cases f with
 | next=>exact wpAny_execs_nil q
 | ret v=>exact q
 | brk=>exact q
 | cont=>exact q
end
abbrev zjn:List Value:=[.type "ValueError", .type "Exception", .type "BaseException", .type "object"]
def znt (K:Frag)(C:Addr):Prop:=PySem.W.excIn K C zjn "ValueError.__new__"=true
theorem zmH {K:Frag}{h:Heap}{C:Addr}{bmB:List Value}{newId:String}(X:K.In h)(q:PySem.W.excIn K C bmB newId=true):∃bm N nm q bs hdct sn sub ab col dd k0 k1 k2 k3 k5 mN,h.get? C=some (excClassObj nm q C N bs bm hdct sn sub ab col dd k0 k1 k2 k3 k5 newId)/\h.Ns N mN/\mN "__init__"=none/\OwnTail h bmB bm:=by
 unfold PySem.W.excIn at q
 split at q
 ·rename_i dd cd sl ho
  split at q
  ·rename_i C' bm k0 k1 k2 k3 n k5 hm hs
   simp only[zv1,beq_iff_eq,Bool.not_eq_true'] at q
   obtain⟨⟨⟨⟨⟨rfl,rfl⟩,hdel⟩,ht⟩,hok⟩,hni⟩:=q
   obtain⟨nm,bs,mro,ns,qn,hd,sn,sub,ab,col,del⟩:=cd
   dsimp only at hm hdel hok hni
   subst hm hdel
   have hsl:sl=#[k0,k1,k2,k3,some (.builtin n),k5]:=by
    obtain⟨l⟩:=sl
    simp only at hs
    rw[hs]
   subst hsl
   exact⟨bm,ns,nm,qn,bs,hd,sn,sub,ab,col,dd,k0,k1,k2,k3,k5,_,X _ _ ho,.of_isNs (PySem.W.isNs_of_in X hok),PySem.W.nsMap_none_of_in X hok hni,PySem.W.tail_of_in X ht⟩
  ·cases q
 ·cases q
theorem wF.get {P:Program}{w:World}{H:Hp}{h:Heap}{a:Addr}{o:HO}(x:wF P w H h a o):∃ob,h.get? a=some ob:=by
 cases o with
 | lst xs=>obtain⟨_,_,_,_,e⟩:=x;exact⟨_,e⟩
 | tup xs=>obtain⟨_,_,_,ob,e,_⟩:=x;exact⟨_,e⟩
 | dK kvs=>obtain⟨_,_,_,_,o,_,_,e,_⟩:=x;exact⟨_,e⟩
 | dT kvs=>obtain⟨_,_,_,_,o,_,_,e,_⟩:=x;exact⟨_,e⟩
 | set S n=>obtain⟨o,_,_,_,e,_⟩:=x;exact⟨_,e⟩
 | ins C dx fs=>obtain⟨_,_,_,e,_⟩:=x;exact⟨_,e⟩
 | own y=>obtain⟨_,e⟩:=x;exact⟨_,e⟩
 | xd fs=>obtain⟨_,⟨_,_,_,e,_⟩,_⟩:=x;exact⟨_,e⟩
 | rng lo hi=>obtain⟨_,_,_,e⟩:=x;exact⟨_,e⟩
 | frz ob u=>obtain⟨e,_⟩:=x;exact⟨_,e⟩
 | tbl ps=>exact⟨_,(show h.get? a=some _ from x)⟩
 | met f y=>exact⟨_,(show h.get? a=some _ from x)⟩
 | ext φ=>obtain⟨_,⟨_,e⟩,_⟩:=x;exact⟨_,e⟩
theorem Rv.off {P:Program}{w:World}{H:Hp}{h:Heap}{a:Addr}(x:Rv P w H h)(e:h.get? a=none):H a=none:=by
 cases q:H a with
 | none=>rfl
 | some u =>
  obtain⟨ob,z⟩:=(x a u q).get
  rw[e] at z;cases z
def Raises (X:Cx)(E:XK):Prop:=∀(pins:List (Addr×Obj)) (σ:St) (H:Hp) (s:Shared) (a:Addr) (cls:Value),Inv X pins σ H s->JX s.heap a cls->X.s₀.heap.get? a=none->H a=none->E cls none H->X.xe (.ref a) s
def zoy (C:Addr)(E:XK)(t:TA):TS:=fun _ σ H=>t σ H fun vs H1=>vs.length<=sizeLine/\E (.ref C) none H1
theorem Pu {P:Program}{w:World}{K:Frag}{mg:Str->Option Value}{base:Heap}{N:List Str}{qual:Str}{scope:Scope}{f:Addr}{cd:Value}{A:Around}{outer:List Env}{s0:Shared}{H0:Hp}{E:XK} :
  Raises (Jt (wJ P w) P w K mg base N qual scope f cd A outer s0 H0 E) E:=fun pins σ H s a cls I hx ha hn hE=>zns I hx ha hn hE
section
variable {X:Cx}{C:Addr}{E:XK}{x:Str}{e₀:Expr}{rest:List Expr}{t:TA}{np cpos pos:Pos}
theorem UW (hc:X.calm=true)(hex:X.ex=[])(own:znt X.K C)(hg:Gl X x)(hm:X.mg x=some (.ref C))(hE:Raises X E)(ha:PA X (e₀::rest) t)
  (hd:(x==("__debug__" : Str))=false:=by decide)(he:starEach (e₀::rest) X.env=(false,eval e₀ X.env)::starEach rest X.env:=by rfl)(hplain:(backTo cpos (starEach rest X.env)).any (·.1)=false:=by rfl) :
  PS X (.Raise (some (.Call (.Name x np) (e₀::rest) [] cpos)) none pos) (zoy C E t):=by
 intro pins s σ H D I h
 obtain⟨tl,N,nm,q,bs,hdct,sn,sub,ab,col,dd,k0,k1,k2,k3,k5,mN,hC,hN,hni,T⟩:=zmH I.mod.kin own
 have FB:=PySem.F.excBase_ValueError
 refine wpAny_Raise_call_subT (C:=C) (nm:=nm) (q:=q) (N:=N) (bs:=bs) (bm:=tl) (hdct:=hdct) (sn:=sn) (sub:=sub) (ab:=ab) (col:=col) (dd:=dd) (k0:=k0) (k1:=k1) (k2:=k2) (k3:=k3) (k5:=k5)
  FB (mN:=mN) (T.hasType FB.hasBase) (I.ok.hd hc) (by rw[he];show(false||(backTo cpos (starEach rest X.env)).any (·.1))=false;rw[hplain];rfl) hni (TQ I hg hm ⟨rfl,?_⟩ hd)
 have hA:=vo (ha cpos pins s σ H _ I h) (Q':=fun us s2=>us.length<=sizeLine/\(∀b o,X.base.get? b=some o->s2.heap.get? b=some o)/\∀h' e,Heap.MadeExcOf s2.heap h' e (.ref C) us->X.xe (.ref e) { s2 with heap:=h' }) fun us s2 ⟨vs,H1,I1,r,hl,hq⟩=>by
  refine⟨by rw[<-r.length];exact hl,I1.bk,fun h' e mk=>?_⟩
  obtain⟨t,h1,h2,h3⟩:=mk.there
  have hn:=I1.hok.off mk.new
  exact hE pins σ H1 _ e (.ref C) (I1.kept (t':=s2.toks) mk.keeps) ⟨_,_,h1,rfl,rfl,rfl,by rfl,.inl (by rfl)⟩ (I1.fresh0 hex mk.new) hn hq
 rw[he] at hA ⊢
 exact Calls.evalArgs_plain (wpAny_mono hA (fun vs s₂ h₂=>⟨rfl,h₂.1,h₂.2.1 _ _ hC,hN.keeps h₂.2.1,T.keeps h₂.2.1,h₂.2.2⟩) fun _ _ y=>y)
end
theorem zcT:entryFor table "proto.unchain"=some Builtin.«proto.unchain»:=entryFor_of_tree (by kernel_rfl)
section
variable {prog:Program}{w:World}{A:Around}{E:Value->Shared->Prop}{s:Shared}
theorem zht {it e:Addr}{oe:Obj}{vs:Array Value}{x left step:Int}{Q:Option Value->Shared->Prop}(hh:A.handled=some (.ref e))(he:s.heap.get? e=some oe)(hd:oe.data=.fields vs)(h2:vs[2]?=some .none)
  (hit:IsRangeIter s.heap it x left step)(hleft:left<=0)(hQ:∀h',Heap.ExtBut it s.heap h'->Q none { s with heap:=h' }):wpAny (model prog w) A (pyNext (.ref it)) Q E s:=by
 have hT:s.TypeIs (.ref it) "range_iterator" := ⟨_,hit,rfl⟩
 unfold pyNext
 refine wpAny_bind (wpAny_attempt (wpAny_callSpecial?_slot (name:=Str.ofString "__next__") hT F.slot_range_iterator_next
  (wpAny_call_entry F.slot_range_iterator_next hT F.entry_range_iterator_next ?_ (F.args_range_iterator_next_1 _))))
 show wpAny _ _ (field (.ref it) 0>>=_) _ _ s
 refine wpAny_bind (wpAny_field hit rfl (x:=rawInt x) rfl ?_)
 show wpAny _ _ (field (.ref it) 1>>=_) _ _ s
 refine wpAny_bind (wpAny_field hit rfl (x:=rawInt left) rfl ?_)
 show wpAny _ _ (field (.ref it) 2>>=_) _ _ s
 refine wpAny_bind (wpAny_field hit rfl (x:=rawInt step) rfl ?_)
 show wpAny _ _ (if left<=0 then _ else _) _ _ s
 rw[if_pos hleft]
 refine wpAny_bind (wpAny_rule ?_)
 refine wpAny_bind ?_
 show wpAny _ _ (newExc (.type "StopIteration") []>>=_) _ _ _
 refine wpAny_bind ?_
 simp only[newExc,newTuple]
 refine wpAny_bind (wpAny_newObj_type ?_ (by size_fits))
 refine wpAny_bind (m:=firstArgMember _ _) (wpAny_of_eq (a:=Value.none) (by first | rfl | (simp only[firstArgMember];rfl)) ?_)
 refine wpAny_newObj_type ?_ (by size_fits)
 simp only[raiseNew]
 refine wpAny_bind (wpAny_handled ?_)
 rw[show A.in1.handled=some (.ref e) from hh]
 dsimp only
 have lt:e<s.heap.objs.size:=zvH he
 have ne:(Value.ref e != Value.ref (s.heap.push { cls:=.type "tuple", data:=.seq #[] }).objs.size)=true:=by
  have:e≠(s.heap.push { cls:=.type "tuple", data:=.seq #[] }).objs.size:=by rw[Heap.size_push];exact zvP (Nat.lt_succ_of_lt lt)
  simpa using this
 rw[if_pos ne]
 refine wpAny_bind (wpAny_holding (wpAny_runValue (codeAny_builtin zcT ?_)))
 show wpAny _ _ (field (.ref e) 2>>=_) _ _ _
 refine wpAny_bind (wpAny_field (zvG _ (zvG _ he)) hd h2 ?_)
 rw[if_pos (by rfl)]
 refine wpAny_bind (wpAny_pure (wpAny_pure ?_))
 refine wpAny_bind (show wpAny _ _ (setField (.ref _) 2 (.ref e)) _ _ _ from wpAny_setField (zvU _ rfl) rfl (by simp;omega) ?_)
 refine wpAny_throw ?_
 refine wpAny_bind (wpAny_isInstance (T := "StopIteration") (b:=true) ⟨_,Heap.get?_update_self _ (zvU _ rfl) (by rfl),rfl⟩ isSubtype_stop ?_)
 refine wpAny_pure (hQ _ fun b o hb q=>?_)
 have hb2:b≠(s.heap.push { cls:=.type "tuple", data:=.seq #[] }).objs.size:=by
  rw[Heap.size_push];exact zvP (Nat.lt_succ_of_lt (zvH q))
 rw[Heap.get?_update_other _ _ (Ne.symm hb2)]
 exact zvG _ (zvG _ q)
end
abbrev ziB (e:Addr)(X:Cx):Prop:=X.A.handled=some (.ref e)
def zjo (e:Addr)(lo:Int)(n:Nat):It:=⟨fun i _=>i<n,fun i H x H'=>H'=H/\x=.int (lo+i),fun i H=>n<=i/\∃D,H e=some (zcS e D)⟩
theorem zfW {P:Program}{w:World}{K:Frag}{tg:Expr}(e it:Addr)(lo:Int)(n:Nat):Turn P w K tg (zjo e lo n) [it] it (fun i h=>IsRangeIter h it (lo+(i:Nat)*1) ((n:Int)-(i:Nat)) 1) (ziB e) where
 mem:=by simp
 obj:=fun i h st b hb=>by
  have e:b=it:=by simpa using hb
  subst e
  exact⟨_,st,fun v z=>by
   have z':Data.fields _=Data.cell v:=z
   cases z'⟩
 keep:=fun i h h' st k=>k it (by simp) _ st
 item:=by
  intro X hP hw hK hc i pins s σ H E I hf st hg
  subst hP hw hK
  obtain⟨f0,f1,f2,f3,f4,f5⟩:=hf it (by simp)
  refine wpAny_pyNext_range_item st (by have:i<n:=hg;omega) fun h' hit' hs'=>?_
  have I1:Inv X pins σ H { s with heap:=h',toks:=s.toks+1 }:=I.turned (fun b o hb e=>hs'.extBut b o hb e) f0 f1 f3 f4 f5
  have st':IsRangeIter h' it (lo+((i+1:Nat):Int)*1) ((n:Int)-((i+1:Nat):Int)) 1:=by
   have e1:lo+((i+1:Nat):Int)*1=lo+(i:Int)*1+1:=by push_cast;omega
   have e2:(n:Int)-((i+1:Nat):Int)=(n:Int)-(i:Int)-1:=by push_cast;omega
   rw[e1,e2];exact hit'
  refine⟨_,rfl,zh1 (s:={ s with heap:=h',toks:=s.toks+1 }) (n := "range_iterator") st' rfl rfl (by decide) ⟨.int (lo+i),H,I1,⟨s.toks,?_⟩,⟨rfl,rfl⟩,st',fun b hb=>(hf b hb).1⟩⟩
  rw[Int.mul_one]
 done:=by
  intro X hP hw hK hc i pins s σ H E I hf st hg
  subst hP hw hK
  obtain⟨f0,f1,f2,f3,f4,f5⟩:=hf it (by simp)
  obtain⟨hn,D,hD⟩:=hg
  obtain⟨oe,vs,J,hd,h2⟩:=Rd.exc I.hok hD
  exact zht hc J.at_ hd h2 st (by omega) fun h' eb=>⟨rfl,I.turned (t':=s.toks) (fun b o hb e=>eb b o hb e) f0 f1 f3 f4 f5⟩
 self:=fun _ _ _ _ _ st h=>wpAny_pyIter_rangeiter st h
section
variable {X:Cx}{tg:Expr}{e:Addr}
theorem zjp {pins:List (Addr×Obj)}{σ:St}{H:Hp}{s:Shared}{R:It->Hp->Prop}{E:Value->Shared->Prop}{lo hi:Int}{t u v:Tok}{tk:Nat}(I:Inv X pins σ H s)(h1:-(2^62)<=lo)(h2:lo<2^62)(h3:-(2^62)<=hi)(h4:hi<2^62)
  (q:R (zjo e lo (hi-lo).toNat) H):wpAny (model X.prog X.w) X.A (pyIter (.ref s.heap.objs.size)) (znN (ziB e) X pins σ tg R) E { s with heap:=s.heap.push { cls:=.type "range", data:=.fields #[.int lo t,.int hi u,.int 1 v] },toks:=tk }:=by
 refine wpAny_pyIter_range (IsRange.new ..) (small_one h1 h2 h3 h4) ?_
 have I1:Inv X pins σ H { s with heap:=s.heap.push { cls:=.type "range", data:=.fields #[.int lo t,.int hi u,.int 1 v] },toks:=tk }:=I.kept fun b o e=>zvG _ e
 refine⟨(s.heap.push { cls:=.type "range", data:=.fields #[.int lo t,.int hi u,.int 1 v] }).objs.size,[(s.heap.push { cls:=.type "range", data:=.fields #[.int lo t,.int hi u,.int 1 v] }).objs.size],_,_,H,rfl,
  I1.kept (t':=tk) fun b o e=>zvG _ e,zfW e _ lo (hi-lo).toNat,?_,fun b hb=>?_,q⟩
 ·have e1:lo+((0:Nat):Int)*1=lo:=by simp
  have e2:(((hi-lo).toNat:Nat):Int)-((0:Nat):Int)=Builtin.Range.rangeSize lo hi 1:=by rw[rangeSize_one];split<;>omega
  show IsRangeIter _ _ (lo+((0:Nat):Int)*1) ((((hi-lo).toNat:Nat):Int)-((0:Nat):Int)) 1
  rw[e1,e2]
  exact zvU _ rfl
 ·have e:b=(s.heap.push { cls:=.type "range", data:=.fields #[.int lo t,.int hi u,.int 1 v] }).objs.size:=by simpa using hb
  subst e
  exact I1.ziT (zvQ _) (I1.hok.fresh (zvQ _))
def zoz (e:Addr)(ta:TA):TI:=fun σ H R=>ta σ H fun vs H1=>∃j:Int,vs=[.int j]/\-(2^62)<=j/\j<2^62/\R (zjo e 0 j.toNat) H1
theorem zhu {a:Expr}{ta:TA}{p pos:Pos}(hg:Gl X "range")(hm:X.mg "range"=none)(ha:PA X [a] ta)(hs:starEach [a] X.env=[(false,eval a X.env)]:=by rfl):PIr (ziB e) X tg (.Call (.Name "range" p) [a] [] pos) (zoz e ta):=by
 intro pins s σ H R I h
 refine Call_ (V7 I hg hm boot_range (PyProof.Rows.callWith_type1 (vo (ha pos pins s σ H _ I h) fun us s1 ⟨vs,H1,I1,r1,q1⟩=>?_) hs rfl))
 obtain⟨j,e,q1,q2,q⟩:=q1
 subst e
 cases r1 with
 | cons r rr =>
  cases rr
  obtain⟨t,rfl⟩:=r
  exact call_range_1 (zjp I1 (by omega) (by omega) q1 q2 (by simpa using q))
def zqb:V->Value
 | .ref a=>.ref a
 | .ty n=>.type n
 | _=>.none
def zr9:V->Bool
 | .ref _=>true
 | .ty _=>true
 | _=>false
theorem uP {K:Frag}(hK:X.K=K):WR X (.builtin "isinstance") (fun xs H Q=>∃a D c b,xs=[.ref a,c]/\H a=some (zcS a D)/\zfV K D/\zr9 c=true/\PySem.W.kitOne K (.ref D) (zqb c)=some b/\Q (.bl b) H):=by
 subst hK
 rintro pins s σ H xs us Q I r ⟨a,D,c,b,rfl,ha,cl,ic,ek,q⟩
 cases r with
 | cons r1 r2 =>
  cases r2 with
  | cons r3 r4 =>
   cases r4
   rename_i u1 u2
   obtain⟨o,vs,J,_⟩:=Rd.exc I.hok ha
   have eu1:u1=Value.ref a:=r1
   subst eu1
   have eu:u2=zqb c:=by
    cases c with
    | ref a=>exact r3
    | ty n=>exact r3
    | _=>cases ic
   subst eu
   exact PySem.W.kia_one (zk0 cl) I.PX ⟨o,J⟩ ek (fun z=>nomatch z) fun tk=>⟨.bl b,H,I.tok _,rfl,q⟩
end
structure zay (k:Nat)(A:Around):Prop where
 gd:A.guards=some []
 dp:A.depth+3*k+5<recursionLimit
 un:A.units+16*k+200<cLine
theorem zay.of {k:Nat}{A:Around}(r:uJ k A)(v:Option Value):zay k (A.mark v):=⟨r.gd,r.dp,r.un⟩
structure zdS (P:Program)(w:World)(K:Frag)(mg:Str->Option Value)(base:Heap)(ex:Addr)(k:Nat)(f:Addr)(fd:FuncData)(ps:List Str)(sp:Sp):Prop where
 len:∀vs H Q E,sp vs H Q E->vs.length=ps.length
 run:∀(A:Around) (outer:List Env) (s:Shared) (H:Hp) (args:Args) (us:List Value) (vs:List V) (Q:VK) (E:XK),zay k A->A.handled=some (.ref ex)->zd7 P w K mg base A outer s H->BindsTo s fd args (ps.zip us)->Vals vs us->sp vs H Q E ->
  codeAny (model P w) A (.call (.ref f) args) (CR yd outer P w H s Q E) s
abbrev ziC (P:Program)(w:World)(K:Frag)(mg:Str->Option Value)(base:Heap)(N:List Str)(qual:Str)(scope:Scope)(f:Addr)(cd:Value)(A:Around)(outer:List Env)(s:Shared)(H:Hp)(E:XK):Cx :=
 {Jt yd P w K mg base N qual scope f cd A outer s H E with calm:=false }
theorem zoA {P:Program}{w:World}{K:Frag}{mg:Str->Option Value}{base:Heap}{ex:Addr}{k:Nat}{f:Addr}{name qual:Str}{params:Arguments}{body:List Stmt}{scope:Scope}{dV kV doc pm cdv ct oc:Value}{an od:Option Addr}
  {osl:Array (Option Value)}{N ps:List Str}{sp:Sp}(lk:K.lookup f=some ⟨oc,od,.func (PySem.W.fnOf name qual params body scope dV kV doc pm an cdv ct),osl⟩)(hcd:PySem.W.codeIn K cdv qual=true)(S:zP N ps scope)
  (len:∀vs H Q E,sp vs H Q E->vs.length=ps.length)
  (hbody:∀(A:Around) (outer:List Env) (s:Shared) (H:Hp) (vs:List V) (Q:VK) (E:XK),zay k (A.deeper (envOfC qual scope s.heap.objs.size f cdv))->A.handled=some (.ref ex)->sp vs H Q E ->
   ∃t,PSs (ziC P w K mg base N qual scope f cdv A outer s H E) body t/\t { nx:=fun _ H'=>Q .non H',rt:=Q } (start N vs) H) :
  zdS P w K mg base ex (k+1) f (PySem.W.fnOf name qual params body scope dV kV doc pm an cdv ct) ps sp:=by
 refine⟨len,fun A outer s H args us vs Q E hr hh e0 hb r hsp=>?_⟩
 have hl:=len _ _ _ _ hsp
 have KX:K.In s.heap:=e0.mod.kin.keeps fun b o e=>(e0.bs b o e).1
 have lim:s.heap.NoLimit:=e0.mod.nolimit.keeps fun b o e=>(e0.bs b o e).1
 have hkind:∀y∈ps.zip us,scope.names.lookup y.1=some .local\/(scope.names.lookup y.1=some .cell/\((cellsFrom (s.heap.objs.size+1) scope.names []).lookup y.1).isSome=true):=fun⟨n,v⟩ hy=>by
  rcases S.par n (List.of_mem_zip hy).1 with q | q
  ·exact .inl q
  ·exact .inr ⟨q,PySem.W.cellsFrom_some _ _ _ (.inl q)⟩
 refine codeAny_call_function (by have:=hr.dp;omega) (KX _ _ lk) rfl S.co S.gen rfl (PySem.W.codeRec_of KX hcd) (hb _ _ _ _ ?_)
 refine wpAny_newFunctionEnv_cells S.kind hkind fun env he s1 x=>?_
 subst he
 refine⟨lim.keeps x.toInCall.keep,codeAny_func ?_⟩
 have hrd:zay k (A.deeper (envOfC qual scope s.heap.objs.size f cdv)):=⟨hr.gd,by have:=hr.dp;show A.depth+1+3*k+5<_;omega,by have:=hr.un;show A.units+3+16*k+200<_;omega⟩
 obtain⟨t,ht,hq⟩:=hbody A outer s H vs Q E hrd hh hsp
 have e1:zd7 P w K mg base { A with handled:=none } outer s H:=⟨e0.frames,e0.mod,e0.bs,e0.bsz,e0.PN,e0.frf,e0.hok,e0.bare⟩
 have I0:Inv (Jt yd P w K mg base N qual scope f cdv { A with handled:=none } outer s H E) [] (start N vs) H s1:=zdq S rfl e1 hl r x
 have I:Inv (ziC P w K mg base N qual scope f cdv A outer s H E) [] (start N vs) H s1 :=
  ⟨⟨I0.ok.mod,I0.ok.kind,I0.ok.glob,I0.ok.blt,I0.ok.above,I0.ok.inj,I0.ok.has,I0.ok.cab,(fun z=>nomatch z),I0.ok.frames,I0.ok.stk,I0.ok.exf,I0.ok.bs,I0.ok.bsz,I0.ok.zfd,I0.ok.zfe,I0.ok.PN,I0.ok.frf⟩,I0.os,I0.bare,I0.base,I0.loc,I0.cell,I0.free,I0.Xq,I0.pin,I0.hok,I0.len⟩
 refine wpAny_mono (ht [] s1 (start N vs) H _ I hq) (fun fl s' hs=>?_) fun e s' hs=>hs
 have fin:∀{σ':St} {H':Hp} {v:V} {u:Value},Inv (ziC P w K mg base N qual scope f cdv A outer s H E) [] σ' H' s'->RelV v u->Q v H'->CE outer P w H s Q u s' :=
  fun {σ' H' v u} J rv q=>⟨v,H',J.os,J.bare,J.base,J.hok,rv,q⟩
 cases fl with
 | ret u =>
  obtain⟨v,σ',H',J,rv,q⟩:=hs
  exact fin J rv q
 | next =>
  obtain⟨σ',H',J,q⟩:=hs
  exact fin (v:=V.non) (u:=Value.none) J rfl q
 | brk =>
  obtain⟨_,_,_,q⟩:=hs
  exact False.elim q
 | cont =>
  obtain⟨_,_,_,q⟩:=hs
  exact False.elim q
theorem Fun.okH {P:Program}{w:World}{K:Frag}{mg:Str->Option Value}{base:Heap}{ex:Addr}{x qual:Str}{st:Stmt}{f:Addr}{fd:FuncData}{N ps:List Str}{k:Nat}{sp:Sp}(F:Fun K x qual st f fd)(S:zP N ps (zA st))(len:∀vs H Q E,sp vs H Q E->vs.length=ps.length)
  (hbody:∀(cdv:Value) (A:Around) (outer:List Env) (s:Shared) (H:Hp) (vs:List V) (Q:VK) (E:XK),zay k (A.deeper (envOfC qual (zA st) s.heap.objs.size f cdv))->A.handled=some (.ref ex)->sp vs H Q E ->
   ∃t,PSs (ziC P w K mg base N qual (zA st) f cdv A outer s H E) (vV st) t/\t { nx:=fun _ H'=>Q .non H',rt:=Q } (start N vs) H):zdS P w K mg base ex (k+1) f fd ps sp:=by
 obtain⟨oc,od,kV,doc,pm,an,cdv,ct,osl,rfl,lk,hcd⟩:=F.ex
 exact zoA lk hcd S len fun A outer s H vs Q E hr hh hsp=>hbody cdv A outer s H vs Q E hr hh hsp
section
variable {X:Cx}{k:Nat}{f ex:Addr}{fd:FuncData}{ps:List Str}{sp:Sp}{R3:List V}{ds:List Value}{x:Str}{p pos:Pos}{e:Expr}{es:List Expr}{t:TA}{E:XK}
theorem zk5 (F:zdS X.prog X.w X.K X.mg X.base ex k f fd ps sp)(hr:zay k X.A)(hh:X.A.handled=some (.ref ex))(hg:Gl X x)(hm:X.mg x=some (.ref f))(hk:PySem.W.keepIn X.K (.ref f)=true)(hb:Binds X.K fd ps ds)(hd:Vals R3 ds)
  (ha:PA X (e::es) t)(hdb:(x==("__debug__" : Str))=false:=by decide)(he:starEach (e::es) X.env=(false,eval e X.env)::starEach es X.env:=by rfl)(hpl:(backTo pos (starEach es X.env)).any (·.1)=false:=by rfl) :
  PE X (.Call (.Name x p) (e::es) [] pos) (Lj sp R3 E t):=by
 intro pins s σ H Q I h
 refine wpAny_Call_Name_kw (TQ I hg hm ?_ hdb)
 refine PySem.W.callWith_K (h₀:=X.base) I.ok.mod.kin hk (vo (ha pos pins s σ H _ I h) fun us s1 ⟨vs,H1,I1,r,q⟩=>⟨I1.PX,?_⟩) he hpl
 have r2:Vals (vs++R3) (us++ds):=r.append hd
 have hl:(us++ds).length=ps.length:=by rw[<-r2.length];exact F.len _ _ _ _ q
 refine wpAny_call (codeAny_mono (F.run X.A X.stack s1 H1 ⟨us,[]⟩ (us++ds) (vs++R3) Q E hr hh I1.env0 (hb s1 us I1.PX hl) r2 q) fun r s' hq=>?_)
 cases r with
 | error e=>exact hq.elim
 | ok fl =>
  cases fl with
  | ret u=>exact I1.after hq
  | next=>exact False.elim hq
  | brk=>exact False.elim hq
  | cont=>exact False.elim hq
end
abbrev TF:=St->Hp->(Hp->Prop)->Prop
def PF (X:Cx)(e:Expr)(t:TF):Prop :=
 ∀(pins:List (Addr×Obj)) (s:Shared) (σ:St) (H:Hp) (Q:Hp->Prop),Inv X pins σ H s->t σ H Q->wpAny (model X.prog X.w) X.A (eval e X.env) (fun v s1=>∃y tk H1,v=.str y tk/\y.length<=3000/\Inv X pins σ H1 s1/\Q H1) X.xe s
def PFs (X:Cx)(es:List Expr)(t:TF):Prop :=
 ∀(acc:Str) (n:Nat) (pins:List (Addr×Obj)) (s:Shared) (σ:St) (H:Hp) (Q:Hp->Prop),acc.length<=3000*n->n+es.length<=100->Inv X pins σ H s->t σ H Q ->
  Joins (model X.prog X.w) X.A X.xe (evalEach es X.env) acc (fun out s1=>out.length<=sizeLine/\∃H1,Inv X pins σ H1 s1/\Q H1) s
section
variable {X:Cx}{e v₁ v₂:Expr}{es rest:List Expr}{t u:TF}{te:TE}{pos:Pos}
def zsa:TF:=fun _ H Q=>Q H
theorem zk6 {x:Str}{j pos}(hx:x.length<=3000:=by decide):PF X (.Constant (.str x) j pos) zsa:=fun _ _ _ H _ I h=>Calls.Constant_str ⟨x,_,H,rfl,hx,I.tok _,h⟩
def zsb (te:TE):TF:=fun σ H Q=>te σ H fun v H1=>∃i:Int,v=.int i/\i.natAbs.log2<1920/\Q H1
theorem zk7 (he:PE X e te):PF X (.FormattedValue e (-1) none pos) (zsb te):=by
 intro pins s σ H Q I h
 refine wpAny_FormattedValue_plain (vo (he pins s σ H _ I h) fun v s1 ⟨x,H1,I1,r,i,ex,hi,q⟩=>?_)
 subst ex
 obtain⟨tk,rfl⟩:=(show ∃t,v=Value.int i t from r)
 refine wpAny_formatField_int hi ⟨_,_,H1,rfl,?_,I1.tok _,q⟩
 have e:=int_text_length_le (k:=1920) (by decide) hi
 rw[PySem.ofString_length];omega
def zsc:TF:=fun _ H Q=>Q H
def zqc (t u:TF):TF:=fun σ H Q=>t σ H fun H1=>u σ H1 Q
theorem ziD:PFs X [] zsc:=fun acc n pins s σ H Q ha hn I h=>⟨by rw[sizeLine_eq];have:n<=100:=hn;omega,H,I,h⟩
theorem Ky (h1:PF X e t)(h2:PFs X es u):PFs X (e::es) (zqc t u):=by
 intro acc n pins s σ H Q ha hn I h
 show wpAny _ _ (eval e X.env) _ _ s
 refine vo (h1 pins s σ H _ I h) fun v s1 ⟨y,tk,H1,ev,hy,I1,q⟩=>⟨y,tk,ev,?_,?_⟩
 ·rw[strLen_append,sizeLine_eq]
  have:n+(es.length+1)<=100:=hn
  omega
 ·refine h2 (acc++y) (n+1) pins s1 σ H1 Q ?_ ?_ I1 q
  ·rw[strLen_append];omega
  ·have:n+(es.length+1)<=100:=hn
   omega
def zsd (t:TF):TE:=fun σ H Q=>t σ H fun H1=>∀x:Str,Q (.str x) H1
theorem zk8 (h:PFs X (v₁::v₂::rest) t)(hn:rest.length<=90:=by decide):PE X (.JoinedStr (v₁::v₂::rest) pos) (zsd t):=by
 intro pins s σ H Q I hq
 refine wpAny_JoinedStr ?_
 have:=h Str.empty 0 pins s σ H _ (by decide) (by show 0+(rest.length+1+1)<=100;omega) I hq
 refine zb2 _ _ this fun out s1 ⟨hz,H1,I1,q⟩=>⟨hz,.str out,H1,I1.tok _,⟨_,rfl⟩,q out⟩
where
 zb2 {M:Model} {A:Around} {E:Value->Shared->Prop} {Q Q':Str->Shared->Prop}:∀(l:List (Sem Value)) (acc:Str) {s:Shared},Joins M A E l acc Q s->(∀o s,Q o s->Q' o s)->Joins M A E l acc Q' s
  | [],_,_,h,k=>k _ _ h
  | _::r,acc,_,h,k=>wpAny_mono h (fun _ _ ⟨y,t,e,z,q⟩=>⟨y,t,e,z,zb2 r (acc++y) q k⟩) fun _ _ z=>z
end
theorem zcU:bootBuiltins "ValueError"=some (.type "ValueError"):=by decide +kernel
structure Kz (K:Frag)(C:Addr):Prop where
 cl:(PySem.W.clsIn K C).isSome=true
 ty:PySem.W.typeIn K (.ref C)=some (.type "type")
structure zoB (K:Frag)(B:Addr):Prop where
 cl:(PySem.W.clsIn K B).isSome=true
 ty:PySem.W.typeIn K (.ref B)=some (.type "type")
 bx:PySem.W.mroIn K B (.type "BaseException")=some true
structure RN (K:Frag)(B D:Addr):Prop where
 own:znt K D
 ga:findIn K (.ref D) "__getattribute__"=some (some (.builtin "BaseException.__getattribute__"))
 gt:findIn K (.ref D) "__getattr__"=some none
 ca:findIn K (.ref D) "__class__"=some (some (.builtin "object.__class__"))
 mro:(PySem.W.clsIn K D).map (·.mro)=some (.ref D::.ref B::zjn)
section
variable {K:Frag}{B C D:Addr}
theorem RN.mroIn (x:RN K B D)(v:Value):PySem.W.mroIn K D v=some ((Value.ref D::.ref B::zjn).contains v):=by
 have m:=x.mro
 unfold PySem.W.mroIn
 cases h:PySem.W.clsIn K D with
 | none=>rw[h] at m;cases m
 | some cd =>
  rw[h] at m
  have e:cd.mro=.ref D::.ref B::zjn:=zv4 m
  show(if cd.mro.isEmpty=true then none else some (cd.mro.contains v))=_
  rw[e]
  rfl
theorem RN.zse (x:RN K B D):zfV K D:=⟨x.ga,x.gt,x.ca,by rw[x.mroIn];rfl,by rw[x.mroIn];rfl,by
 have m:=x.mro
 cases h:PySem.W.clsIn K D with
 | none=>rw[h] at m;cases m
 | some cd=>rfl⟩
theorem zb3 (q:Kz K C)(t:Value):PySem.W.kitCls K t (.ref C)=PySem.W.subIn K t (.ref C):=by
 show(if ((PySem.W.clsIn K C).isSome&&PySem.W.typeIn K (.ref C)==some (.type "type"))=true then PySem.W.subIn K t (.ref C) else none)=_
 rw[if_pos (by rw[q.cl,q.ty];rfl)]
theorem zk9:PySem.W.kitOne K (.ref D) (.ref D)=some true:=by
 unfold PySem.W.kitOne
 rw[if_pos (by simp)]
theorem zoC (x:RN K B D)(q:Kz K C)(h1:D≠C)(h2:B≠C):PySem.W.kitOne K (.ref D) (.ref C)=some false:=by
 unfold PySem.W.kitOne
 rw[if_neg (by simpa using h1),zb3 q]
 show PySem.W.mroIn K D (.ref C)=some false
 rw[x.mroIn]
 have e1:(Value.ref C==Value.ref D)=false:=by simpa using Ne.symm h1
 have e2:(Value.ref C==Value.ref B)=false:=by simpa using Ne.symm h2
 rw[List.contains_cons,List.contains_cons,e1,e2]
 rfl
theorem Sq (x:RN K B D)(q:Kz K C)(h2:B≠C):PySem.W.kitOne K (.ref D) (.ref C)=some (decide (D=C)):=by
 by_cases z:D=C
 ·subst z;rw[zk9];simp
 ·rw[zoC x q z h2];simp[z]
theorem zoD (x:RN K B D):PySem.W.kitOne K (.ref D) (.type "ValueError")=some true:=by
 unfold PySem.W.kitOne
 rw[if_neg (by simp)]
 unfold PySem.W.kitCls
 have h:PySem.W.kitMeta "ValueError"=true:=by decide +kernel
 show(if PySem.W.kitMeta "ValueError"=true then PySem.W.subIn K (.ref D) (.type "ValueError") else none)=_
 rw[if_pos h]
 show PySem.W.mroIn K D (.type "ValueError")=_
 rw[x.mroIn]
 rfl
theorem zb4 (b:zoB K B)(x:RN K B D):PySem.W.exmOne K (.ref D) (.ref B)=some true:=by
 unfold PySem.W.exmOne
 have e:PySem.W.subIn K (.ref B) (.type "BaseException")=some true:=b.bx
 rw[e,if_pos (by rfl),zb3 ⟨b.cl,b.ty⟩]
 show PySem.W.mroIn K D (.ref B)=_
 rw[x.mroIn]
 simp
end
theorem zmI {K:Frag}{C:Addr}(cl:PySem.W.isClsIn K C=true)(ty:PySem.W.typeIn K (.ref C)=some (.type "type")):Kz K C:=⟨cl,ty⟩
theorem zmJ {K:Frag}{C:Addr}(cl:PySem.W.isClsIn K C=true)(ty:PySem.W.typeIn K (.ref C)=some (.type "type"))(bx:PySem.W.mroIn K C (.type "BaseException")=some true):zoB K C:=⟨cl,ty,bx⟩
theorem zmK {K:Frag}{B C:Addr}(ow:PySem.W.excIn K C zjn "ValueError.__new__"=true)(ga:findIn K (.ref C) "__getattribute__"=some (some (.builtin "BaseException.__getattribute__")))(gt:findIn K (.ref C) "__getattr__"=some none)(ca:findIn K (.ref C) "__class__"=some (some (.builtin "object.__class__")))(mr:(PySem.W.clsIn K C).map (·.mro)=some (.ref C::.ref B::zjn)):RN K B C:=⟨ow,ga,gt,ca,mr⟩
end L2
namespace WX
open PySem L2 zZ
def zmL:Sp:=fun _ _ _ _=>False
theorem _root_.L2.zB.no {P:Program}{w:World}{K:Frag}{mg:Str->Option Value}{base:Heap}{CX:CXT}{k:Nat}{f:Addr}{fd:FuncData}{ps:List Str}:zB P w K mg base CX k f fd ps zmL :=
 ⟨fun _ _ _ _ h=>h.elim,fun _ _ _ _ _ _ _ _ _ _ _ _ _ h=>h.elim⟩
abbrev Small (i:Int):Prop:=i.natAbs.log2<1920
def Bad (n:Nat)(i:Int):Prop:=i<0\/(n:Int)<=i
inductive Zc (C D:Addr)(vs:List V)(H:Hp)(Q9:VK)(E:XK):Prop
 | mk (b:Addr) (os:List Str) (rs:List Rm) (F:xW) (i:Int) (_:vs=[.ref b,.int i]) (_:yp C H b os rs F) (_:Bad rs.length i) (_:Small i) (_:E (.ref D) none H):Zc C D vs H Q9 E
def zeF (C D:Addr):Sp:=fun vs H Q E=>xJ C vs H Q E\/Zc C D vs H Q E
theorem zmM {n:Nat}{i:Int}(h:¬Bad n i):∃k:Nat,i=(k:Nat)/\k<n:=by
 unfold Bad at h
 exact⟨i.toNat,by omega,by omega⟩
theorem zfX {i:Int}(h:i.natAbs<2^1000):Small i:=by
 unfold Small
 by_cases z:i.natAbs=0
 ·rw[z];decide
 ·exact zvJ ((Nat.log2_lt z).mpr h) (by decide)
inductive zhv (D:Addr)(K:Frag)(vs:List V)(H:Hp)(Q9:VK)(E:XK):Prop
 | mk (l r:Addr) (xs:List V) (ns:List Int) (_:vs=[.ref l,.ref r]) (_:zX K H l xs) (_:zX K H r (ns.map V.int)) (_:ns.length<=1000) (_:RL xs.length ns=false) (_:∀H',Same H H'->E (.ref D) none H'):zhv D K vs H Q9 E
inductive Qk (C Dr Dw:Addr)(K:Frag)(vs:List V)(H:Hp)(Q9:VK)(E:XK):Prop
 | mk (b r:Addr) (os:List Str) (rs:List Rm) (F:xW) (i:Int) (ns:List Int) (_:vs=[.ref b,.int i,.ref r]) (_:yp C H b os rs F) (_:Small i) (_:zX K H r (ns.map V.int)) (_:ns.length<=1000) (_:((Bad rs.length i/\∀H',Same H H'->E (.ref Dr) none H')\/(¬Bad rs.length i/\RL os.length ns=false/\∀H',Same H H'->E (.ref Dw) none H'))):Qk C Dr Dw K vs H Q9 E
end WX
namespace L2
open PySem PySem.Spec PyProof.Rows
theorem zmN {ex:Addr}{n:Nat}{σ:St}{js:List Nat}{tt:TT}{te:TE}{H:Hp}{Qf:Addr->Hp->List V->Prop}(Pv:Nat->List V->Hp->Prop)(h0:Pv 0 [] H)(hz:n<=sizeLine)(hl:∀i ys H,i<=n->Pv i ys H->ys.length<=i)
  (hx:∀ys H,Pv n ys H->∃D,H ex=some (zcS ex D))
  (hs:∀(i:Nat) ys H (N1:V->Hp->Prop) (N2:Hp->Prop),i<n->Pv i ys H->(∀v H3,Pv (i+1) (ys++[v]) H3->N1 v H3)->(∀H2,Pv (i+1) ys H2->N2 H2) ->
   tt (Wn σ js (some (.int ((0:Int)+i)))) H fun b H2=>if b=true then te (Wn σ js (some (.int ((0:Int)+i)))) H2 N1 else N2 H2)
  (hd:∀ys H p,Pv n ys H->H p=none->Qf p H ys) :
  ∃W:Nat->Nat->List V->Hp->Prop,(∃m,W 0 m [] H)/\∀i m ys H,W i m ys H ->
   ((zjo ex 0 n).stop i H/\∀p,H p=none->Qf p H ys) \/
   ((zjo ex 0 n).go i H/\ys.length<sizeLine/\∀x H',(zjo ex 0 n).yld i H x H'->tt (Wn σ js (some x)) H' fun b H2 =>
    if b=true then te (Wn σ js (some x)) H2 fun v H3=>∃m',m'<m/\W (i+1) m' (ys++[v]) H3 else ∃m',m'<m/\W (i+1) m' ys H2):=by
 refine⟨fun i m ys H=>m=n-i/\i<=n/\Pv i ys H,⟨n,by simp,zvW _,h0⟩,?_⟩
 rintro i m ys H ⟨rfl,hi,p⟩
 have hy:=hl i ys H hi p
 by_cases hlt:i<n
 ·refine .inr ⟨hlt,by omega,fun x H' y=>?_⟩
  obtain⟨e,y⟩:=y
  subst e y
  exact hs i ys _ _ _ hlt p (fun v H3 p3=>⟨_,Nat.sub_lt_sub_left hlt (Nat.lt_succ_self i),rfl,hlt,p3⟩) (fun H2 p2=>⟨_,Nat.sub_lt_sub_left hlt (Nat.lt_succ_self i),rfl,hlt,p2⟩)
 ·have e:i=n:=by omega
  subst e
  exact .inl ⟨⟨zvQ _,hx ys H p⟩,fun q hq=>hd ys H q p hq⟩
end L2
namespace WX
open PySem L2 zZ
def XF:List Str:=["order", "mark", "room", "row", "number", "weights", "shares", "cover", "great"]
inductive KC (K:Frag)(B:Addr)(cs:List Addr)(e:Addr)(vs:List V)(H:Hp)(Q:VK)(E9:XK):Prop
 | mk (D:Addr) (n:Nat) (_:vs=[.ref e]) (_:H e=some (zcS e D)) (_:RN K B D) (_:n<9) (_:cs.map (fun C=>decide (D=C))=(List.range 9).map (fun i=>decide (i=n))) (_:∀(t l:Addr) (H':Hp),Same H H'->H' t=some (.tup [.str "refused", .ref l])->H' l=some (.lst [.str (XF.getD n "")])->Q (.ref t) H'):KC K B cs e vs H Q E9
inductive ziE (K:Frag)(vs:List V)(H:Hp)(Q:VK)(E9:XK):Prop
 | mk (t l:Addr) (x:Str) (_:vs=[.ref t,.str x]) (_:H t=some (.tup [.str "refused", .ref l])) (_:zX K H l [.str x]) (_:∀H',Same H H'->Q (.bl true) H'):ziE K vs H Q E9
inductive zb5 (C D:Addr)(vs:List V)(H:Hp)(Q9:VK)(E:XK):Prop
 | mk (b:Addr) (os:List Str) (rs:List Rm) (F:xW) (k:Nat) (m:Int) (_:vs=[.ref b,.int (k:Nat),.int m]) (_:yp C H b os rs F) (_:k<rs.length) (_:Bad (xP os.length rs k).length m) (_:Small m) (_:∀H',Same H H'->E (.ref D) none H'):zb5 C D vs H Q9 E
def zeG (x:Int):Int:=if x<0 then -x else x
def wgB (s:Wg):Bool:=[decide (zeG s.1<=1000000),decide (zeG s.2<=1000000)].all id
inductive Y8 (vs:List V)(H:Hp)(Q:VK)(E9:XK):Prop
 | mk (p:Addr) (s:Wg) (_:vs=[.ref p]) (_:zaU H p s) (_:∀H',Same H H'->Q (.bl (wgB s)) H'):Y8 vs H Q E9
inductive tM (C D:Addr)(K:Frag)(vs:List V)(H:Hp)(Q9:VK)(E:XK):Prop
 | mk (b l:Addr) (os:List Str) (rs:List Rm) (F:xW) (ps:List Addr) (ws:List Wg) (_:vs=[.ref b,.ref l]) (_:yp C H b os rs F) (_:zX K H l (ps.map V.ref)) (_:Paired (zaU H) ps ws) (_:ws.length<=20) (_:(ws.length≠os.length\/∃s∈ws,wgB s=false)) (_:∀H',Same H H'->E (.ref D) none H'):tM C D K vs H Q9 E
def shB (s:Wg):Bool:=decide (0<=s.1)&&decide (s.1<=s.2)&&decide (1<=s.2)&&decide (s.2<=1000)
inductive Ss (vs:List V)(H:Hp)(Q:VK)(E9:XK):Prop
 | mk (p:Addr) (s:Wg) (_:vs=[.ref p]) (_:zaU H p s) (_:Q (.bl (shB s)) H):Ss vs H Q E9
inductive Ua (C D:Addr)(K:Frag)(vs:List V)(H:Hp)(Q9:VK)(E:XK):Prop
 | mk (b l:Addr) (os:List Str) (rs:List Rm) (F:xW) (ps:List Addr) (ws:List Wg) (_:vs=[.ref b,.ref l]) (_:yp C H b os rs F) (_:zX K H l (ps.map V.ref)) (_:Paired (zaU H) ps ws) (_:ws.length<=20) (_:(ws.length≠os.length\/∃s∈ws,shB s=false)) (_:∀H',Same H H'->E (.ref D) none H'):Ua C D K vs H Q9 E
inductive xZ (C D:Addr)(n:Nat)(vs:List V)(H:Hp)(Q9:VK)(E:XK):Prop
 | mk (b:Addr) (os:List Str) (rs:List Rm) (F:xW) (i:Int) (xs:List V) (_:vs=.ref b::.int i::xs) (_:xs.length=n) (_:yp C H b os rs F) (_:Bad rs.length i) (_:Small i) (_:∀H',Same H H'->E (.ref D) none H'):xZ C D n vs H Q9 E
inductive zeH (C D:Addr)(K:Frag)(ok:Wg->Bool)(n:Nat)(vs:List V)(H:Hp)(Q9:VK)(E:XK):Prop
 | mk (b l:Addr) (os:List Str) (rs:List Rm) (F:xW) (k:Nat) (ps:List Addr) (ws:List Wg) (xs:List V) (_:vs=.ref b::.int (k:Nat)::.ref l::xs) (_:xs.length=n) (_:yp C H b os rs F) (_:k<rs.length) (_:zX K H l (ps.map V.ref)) (_:Paired (zaU H) ps ws) (_:ws.length<=20) (_:(ws.length≠os.length\/∃s∈ws,ok s=false)) (_:∀H',Same H H'->E (.ref D) none H'):zeH C D K ok n vs H Q9 E
inductive KD (C D:Addr)(K:Frag)(vs:List V)(H:Hp)(Q9:VK)(E:XK):Prop
 | mk (b l:Addr) (os:List Str) (rs:List Rm) (F:xW) (i:Int) (_:vs=[.ref b,.int i,.ref l]) (_:yp C H b os rs F) (_:zX K H l []) (_:Bad rs.length i) (_:Small i) (_:∀H',Same H H'->E (.ref D) none H'):KD C D K vs H Q9 E
end WX
namespace L2
open PySem PySem.Spec PyProof.Rows
section
variable {X:Cx}
theorem zoE {K:Frag}(hK:X.K=K)(hu:X.A.units+8<cLine):Vp X (compareOp .NotEq) (fun x y H Q=>rNe x y H Q\/∃b,¬(vG x=true/\vG y=true)/\Ph K H 8 x y b/\Q (.bl (!b)) H):=Vp.or Lg (zoj hK hu)
end
def zqd (i j l:Nat)(ta:TA):TS:=fun D σ H=>ta σ H fun vs H1=>∃v w y,vs=[v,w,y]/\D.nx (((σ.set i (some v)).set j (some w)).set l (some y)) H1
theorem zmO {X:Cx}{pos:Pos}{i j l:Nat}{x y z:Str}{a b c:Expr}{ta:TA}{px py pz pt:Pos}{kt k2 pt2}(hc:X.calm=true)(hN:X.N.Nodup)(hi:X.N[i]?=some x)(hj:X.N[j]?=some y)(hl:X.N[l]?=some z)(hij:i≠j)(hil:i≠l)(hjl:j≠l)
  (hx:X.env.scope.names.lookup x=some .local)(hy:X.env.scope.names.lookup y=some .local)(hz:X.env.scope.names.lookup z=some .local)(ha:PA X [a,b,c] ta)
  (hw:swappedStores [.Tuple [.Name x px,.Name y py,.Name z pz] kt pt] (.Tuple [a,b,c] k2 pt2) X.env=pure (some [x,y,z]))
  (hs:swapsWithSole [.Tuple [.Name x px,.Name y py,.Name z pz] kt pt] (.Tuple [a,b,c] k2 pt2) pos.line X.env=pure false:=by rfl) :
  PS X (.Assign [.Tuple [.Name x px,.Name y py,.Name z pz] kt pt] (.Tuple [a,b,c] k2 pt2) pos) (zqd i j l ta):=by
 intro pins s σ H D I h
 rw[exec_Assign_arm]
 refine wpAny_bind (wpAny_standAt ?_)
 rw[hs]
 refine wpAny_bind (wpAny_pure ?_)
 rw[if_neg (by decide)]
 refine wpAny_bind (Tuple_ (vo (ha _ pins s σ H _ I h) fun us s1 ⟨vs,H1,I1,r1,q1⟩=>?_))
 obtain⟨v,w,y',e1,q1⟩:=q1
 subst e1
 obtain⟨u1,u2,u3,rfl,rv,rw',ry⟩:∃u1 u2 u3,us=[u1,u2,u3]/\RelV v u1/\RelV w u2/\RelV y' u3:=by
  cases r1 with
  | cons p q =>
   cases q with
   | cons p' q' =>
    cases q' with
    | cons p'' q'' =>
     cases q''
     exact⟨_,_,_,rfl,p,p',p''⟩
 refine wpAny_newObj_type ?_ (by show 3<=sizeLine;decide)
 have I2:Inv X pins σ H1 { s1 with heap:=s1.heap.push { cls:=.type "tuple", data:=.seq [u1,u2,u3].toArray } }:=I1.kept (t':=s1.toks) fun b o e=>zvG _ e
 rw[hw]
 refine wpAny_bind (wpAny_pure ?_)
 show wpAny (model X.prog X.w) X.A (do rule "assign.swapped-stores";let items <-unpackItems (.ref s1.heap.objs.size) 3 none;assignInOrder [fun v=>bindName X.env z v,fun v=>bindName X.env y v,fun v=>bindName X.env x v] items.reverse;pure Flow.next) _ _ _
 refine wpAny_bind (wpAny_rule (wpAny_bind (unpackItems_tuple (items:=#[u1,u2,u3]) (I.ok.hd hc) (IsTup.new s1.heap _) fun h' hx'=>?_)))
 have I3:=I2.kept (h':=h') (t':=s1.toks) fun b o e=>hx' b o (zvP (zvH e)) e
 show wpAny _ _ (assignInOrder [fun v=>bindName X.env z v,fun v=>bindName X.env y v,fun v=>bindName X.env x v] [u3,u2,u1]>>=fun _=>pure Flow.next) _ _ _
 refine wpAny_bind (assignInOrder_cons (wpAny_bindName (WD I3 hN hl (.inl hz) ry (fun s2 I4=>?_) (.inr hz))))
 refine assignInOrder_cons (wpAny_bindName (WD I4 hN hj (.inl hy) rw' (fun s3 I5=>?_) (.inr hy)))
 refine assignInOrder_cons (wpAny_bindName (WD I5 hN hi (.inl hx) rv (fun s4 I6=>assignInOrder_nil (wpAny_pure ?_)) (.inr hx)))
 rw[List.set_comm _ _ (Ne.symm hij),List.set_comm _ _ (Ne.symm hil),List.set_comm _ _ (Ne.symm hjl)] at I6
 exact⟨_,H1,I6,q1⟩
theorem ifN {i j:Int}{A B:Prop}(n:i≠j)(h:B):if decide (V.int i=V.int j)=true then A else B:=by
 rw[if_neg]
 ·exact h
 ·intro c
  injection of_decide_eq_true c with e
  exact n e
theorem ifY {i:Int}{A B:Prop}(h:A):if decide (V.int i=V.int i)=true then A else B:=by
 rw[if_pos (decide_eq_true rfl)]
 exact h
end L2
namespace WX
open PySem L2 zZ
structure zcV (C:Addr)(K:Frag)(H:Hp)(b rl wl hl:Addr)(i m:Int)(z0 z1 z2 z3 z4:Bool)(os:List Str)(rs:List Rm)(F:xW):Prop where
 bk:yp C H b os rs F
 n5:os.length<=5
 si:Small i
 sm:Small m
 r1:z0=true->Bad rs.length i
 r0:z0=false->i=((1:Nat):Int)
 row:∃ns:List Int,zX K H rl (ns.map V.int)/\ns.length<=1000/\(z1=true->RL os.length ns=false)/\(z1=false->ns=List.replicate os.length 0)
 n1:z2=true->Bad (xP os.length rs 1).length m
 n0:z2=false->m=((0:Nat):Int)
 w1:z3=true->∃(ps:List Addr) (ws:List Wg),zX K H wl (ps.map V.ref)/\Paired (zaU H) ps ws/\ws.length<=20/\(ws.length≠os.length\/∃s∈ws,wgB s=false)
 w0:z3=false->∃(ps:List Addr) (ws:List Wg),Y7 K H wl ps ws os.length
 s1:z4=true->∃(ps:List Addr) (ws:List Wg),zX K H hl (ps.map V.ref)/\Paired (zaU H) ps ws/\ws.length<=20/\(ws.length≠os.length\/∃s∈ws,shB s=false)
 s0:z4=false->∃(ps:List Addr) (ws:List Sh),Qg K H hl ps ws os.length
theorem zcV.mono {C:Addr}{K:Frag}{H H':Hp}{b rl wl hl:Addr}{i m:Int}{z0 z1 z2 z3 z4:Bool}{os:List Str}{rs:List Rm}{F:xW}(h:zcV C K H b rl wl hl i m z0 z1 z2 z3 z4 os rs F)(g:Same H H'):zcV C K H' b rl wl hl i m z0 z1 z2 z3 z4 os rs F where
 bk:=(z9 C).same h.bk g
 n5:=h.n5
 si:=h.si
 sm:=h.sm
 r1:=h.r1
 r0:=h.r0
 row:=let ⟨ns,a,c⟩:=h.row;⟨ns,g.seq a,c⟩
 n1:=h.n1
 n0:=h.n0
 w1:=fun z=>let ⟨ps,ws,a,c,d⟩:=h.w1 z;⟨ps,ws,g.seq a,vA (fun _ _ r=>xO.of g _ _ r) c,d⟩
 w0:=fun z=>let ⟨ps,ws,a⟩:=h.w0 z;⟨ps,ws,a.mono g⟩
 s1:=fun z=>let ⟨ps,ws,a,c,d⟩:=h.s1 z;⟨ps,ws,g.seq a,vA (fun _ _ r=>xO.of g _ _ r) c,d⟩
 s0:=fun z=>let ⟨ps,ws,a⟩:=h.s0 z;⟨ps,ws,a.mono g⟩
def Nt (c:Nat)(z0 z1 z2 z3 z4:Bool):Option Nat:=if z0 then some 2 else match c with
 | 2=>if z2 then some 4 else none
 | 3=>if z1 then some 3 else none
 | 6 | 7 | 8=>if z3 then some 5 else none
 | 9=>if z4 then some 6 else none
 | _=>none
def JZ (cs:List Addr)(d:Option Nat)(H:Hp)(Q:VK)(E:XK):Prop:=match d with
 | none=>∀H',Same H H'->∀v,Q v H'
 | some n=>∀H',Same H H'->E (.ref (cs.getD n 0)) none H'
inductive F40 (C:Addr)(K:Frag)(cs:List Addr)(c:Nat)(nl:Bool)(ar:V->V->V->V->V->V->V->List V)(vs:List V)(H:Hp)(Q:VK)(E:XK):Prop
 | mk (b rl wl hl l:Addr) (i m:Int) (z0 z1 z2 z3 z4:Bool) (os:List Str) (rs:List Rm) (F:xW) (_:vs=ar (.ref b) (.int i) (.ref rl) (.int m) (.ref wl) (.ref hl) (.ref l)) (_:zcV C K H b rl wl hl i m z0 z1 z2 z3 z4 os rs F) (_:(nl=true->H l=some (.lst []))) (_:JZ cs (Nt c z0 z1 z2 z3 z4) H Q E):F40 C K cs c nl ar vs H Q E
def Zt (C:Addr)(K:Frag)(cs:List Addr)(c:Nat)(nl:Bool)(ar:V->V->V->V->V->V->V->List V):Sp:=F40 C K cs c nl ar
inductive ziF (C:Addr)(K:Frag)(cs:List Addr)(vs:List V)(H:Hp)(Q:VK)(E:XK):Prop
 | mk (c:Nat) (b rl wl hl:Addr) (i m:Int) (z0 z1 z2 z3 z4:Bool) (os:List Str) (rs:List Rm) (F:xW) (_:vs=[.int c,.ref b,.int i,.ref rl,.int m,.ref wl,.ref hl]) (_:c<10) (_:zcV C K H b rl wl hl i m z0 z1 z2 z3 z4 os rs F) (_:JZ cs (Nt c z0 z1 z2 z3 z4) H Q E):ziF C K cs vs H Q E
def zdT (C:Addr)(K:Frag)(cs:List Addr):Sp:=ziF C K cs
inductive znu (C:Addr)(K:Frag)(vs:List V)(H:Hp)(Q:VK)(E:XK):Prop
 | mk (c:Nat) (b rl wl hl:Addr) (i m:Int) (z0 z1 z2 z3 z4:Bool) (os:List Str) (rs:List Rm) (F:xW) (_:vs=[.int c,.ref b,.int i,.ref rl,.int m,.ref wl,.ref hl]) (_:c<10) (_:zcV C K H b rl wl hl i m z0 z1 z2 z3 z4 os rs F) (_:(Nt c z0 z1 z2 z3 z4=none->∀H',Same H H'->Q (.str "nothing") H')) (_:∀n,Nt c z0 z1 z2 z3 z4=some n->∀(t l:Addr) (H':Hp),Same H H'->H' t=some (.tup [.str "refused", .ref l])->H' l=some (.lst [.str (XF.getD n "")])->Q (.ref t) H'):znu C K vs H Q E
def ziG (C:Addr)(K:Frag):Sp:=znu C K
theorem zcV.hk {C:Addr}{K:Frag}{H:Hp}{b rl wl hl:Addr}{i m:Int}{z0 z1 z2 z3 z4:Bool}{os:List Str}{rs:List Rm}{F:xW}(h:zcV C K H b rl wl hl i m z0 z1 z2 z3 z4 os rs F):1<rs.length:=len2 ((z9 C).bk h.bk)
inductive Ql (C:Addr)(vs:List V)(H:Hp)(Q:VK)(E9:XK):Prop
 | mk (b:Addr) (os:List Str) (rs:List Rm) (F:xW) (_:vs=[.ref b,.int ((1:Nat):Int)]) (_:yp C H b os rs F) (_:∀(l:Addr) (H':Hp),Same H H'->H l=none->H' l=some (.lst [.int ((1:Nat):Int)])->Q (.ref l) H'):Ql C vs H Q E9
inductive zb6 (n:Nat)(vs:List V)(H:Hp)(Q:VK)(E9:XK):Prop
 | mk (x:V) (ys:List V) (_:vs=x::.int ((1:Nat):Int)::ys) (_:ys.length=n) (_:∀i H',Same H H'->Q (.int i) H'):zb6 n vs H Q E9
inductive J0 (C:Addr)(vs:List V)(H:Hp)(Q:VK)(E9:XK):Prop
 | mk (b:Addr) (os:List Str) (rs:List Rm) (F:xW) (_:vs=[.ref b,.int ((1:Nat):Int)]) (_:yp C H b os rs F) (_:∀v H',Same H H'->Q v H'):J0 C vs H Q E9
inductive zb7 (C:Addr)(K:Frag)(vs:List V)(H:Hp)(Q:VK)(E9:XK):Prop
 | mk (b l:Addr) (os:List Str) (rs:List Rm) (F:xW) (ps:List Addr) (ws:List Wg) (_:vs=[.ref b,.int ((1:Nat):Int),.ref l]) (_:yp C H b os rs F) (_:Y7 K H l ps ws os.length) (_:∀v H',Same H H'->Q v H'):zb7 C K vs H Q E9
def WL (H:Hp)(l:Addr)(ws:List Wg):Prop:=∃ps:List Addr,H l=some (.lst (ps.map V.ref))/\Paired (zaU H) ps ws
theorem WL.mono {H H':Hp}{l:Addr}{ws:List Wg}(h:WL H l ws)(g:Same H H'):WL H' l ws:=let ⟨ps,a,c⟩:=h;⟨ps,g _ _ a,vA (fun _ _ r=>xO.of g _ _ r) c⟩
theorem zla {α β:Type}{R:α->β->Prop}{x:α}{y:β}(h:R x y):∀n:Nat,Paired R (List.replicate n x) (List.replicate n y)
 | 0=>.nil
 | n+1=>.cons h (zla h n)
theorem WL.one {H:Hp}{t l:Addr}{x y:Int}(ht:H t=none)(hl:upd H t (.tup [.int x,.int y]) l=none):Same H (upd (upd H t (.tup [.int x,.int y])) l (.lst [.ref t]))/\WL (upd (upd H t (.tup [.int x,.int y])) l (.lst [.ref t])) l [(x,y)]:=by
 have g1:=Same.new ht (.tup [.int x,.int y])
 have g2:=Same.new hl (.lst [.ref t])
 exact⟨g1.trans g2,[t],zu,.cons (g2 _ _ zu) .nil⟩
theorem WL.add {K:Frag}{H:Hp}{p q:Addr}{ws us:List Wg}{Q:VK}(h1:WL H p ws)(h2:WL H q us)(n:ws.length+us.length<=900)(h:∀l H1,Same H H1->WL H1 l (ws++us)->Q (.ref l) H1):zkH K (.ref p) (.ref q) H Q:=by
 obtain⟨ps,a1,c1⟩:=h1
 obtain⟨qs,a2,c2⟩:=h2
 refine⟨p,q,_,_,rfl,rfl,zX.of a1,zX.of a2,?_,fun l hl=>?_⟩
 ·rw[zvA,zvA,yJ c1,yJ c2]
  exact zvS (yc (by omega))
 ·rw[<-zvO]
  have g:=Same.new hl (.lst ((ps++qs).map V.ref))
  exact h l _ g ⟨_,zu,WY (vA (fun _ _ r=>xO.of g _ _ r) c1) (vA (fun _ _ r=>xO.of g _ _ r) c2)⟩
theorem WL.mul {H:Hp}{p:Addr}{x:Wg}{j:Int}{n:Nat}{Q:VK}(h1:WL H p [x])(e:j=(n:Nat))(hn:n<=1000)(h:∀l H1,Same H H1->WL H1 l (List.replicate n x)->Q (.ref l) H1):zkM (.ref p) (.int j) H Q:=by
 obtain⟨ps,a1,c1⟩:=h1
 cases c1 with
 | @cons y _ _ _ r t =>
  cases t
  refine⟨p,_,n,rfl,by rw[e],a1,hn,fun l hl=>?_⟩
  have g:=Same.new hl (.lst (List.replicate n (V.ref y)))
  refine h l _ g ⟨_,?_,zla (R:=zaU _) (xO.of g _ _ r) n⟩
  rw[zu,List.map_replicate]
def IL (H:Hp)(l:Addr)(ns:List Int):Prop:=H l=some (.lst (ns.map V.int))
theorem IL.mono {H H':Hp}{l:Addr}{ws:List Int}(h:IL H l ws)(g:Same H H'):IL H' l ws:=g _ _ h
theorem IL.one {H:Hp}{l:Addr}{x:Int}(hl:H l=none):Same H (upd H l (.lst [.int x]))/\IL (upd H l (.lst [.int x])) l [x]:=⟨Same.new hl _,zu⟩
theorem IL.add {K:Frag}{H:Hp}{p q:Addr}{ws us:List Int}{Q:VK}(h1:IL H p ws)(h2:IL H q us)(n:ws.length+us.length<=900)(h:∀l H1,Same H H1->IL H1 l (ws++us)->Q (.ref l) H1):zkH K (.ref p) (.ref q) H Q:=by
 refine⟨p,q,_,_,rfl,rfl,zX.of h1,zX.of h2,?_,fun l hl=>?_⟩
 ·rw[zvA,zvA]
  exact zvS (yc (by omega))
 ·rw[<-zvO]
  exact h l _ (Same.new hl _) zu
theorem IL.mul {H:Hp}{p:Addr}{x j:Int}{n:Nat}{Q:VK}(h1:IL H p [x])(e:j=(n:Nat))(hn:n<=1000)(h:∀l H1,Same H H1->IL H1 l (List.replicate n x)->Q (.ref l) H1):zkM (.ref p) (.int j) H Q:=by
 refine⟨p,_,n,rfl,by rw[e],h1,hn,fun l hl=>h l _ (Same.new hl _) ?_⟩
 unfold IL
 rw[zu,List.map_replicate]
def RP (ok:Wg->Bool)(n:Nat)(H:Hp)(l:Addr):Prop:=∃ws,WL H l ws/\ws.length<=20/\(ws.length≠n\/∃s∈ws,ok s=false)
theorem RP.mono {ok:Wg->Bool}{n:Nat}{H H':Hp}{l:Addr}(h:RP ok n H l)(g:Same H H'):RP ok n H' l:=let ⟨ws,a,c⟩:=h;⟨ws,a.mono g,c⟩
def zlb (n:Nat)(H:Hp)(l:Addr):Prop:=∃ns,IL H l ns/\ns.length<=1000/\RL n ns=false
theorem zlb.mono {n:Nat}{H H':Hp}{l:Addr}(h:zlb n H l)(g:Same H H'):zlb n H' l:=let ⟨ws,a,c⟩:=h;⟨ws,a.mono g,c⟩
theorem zbn {x y:Int}(h:1000001<=x.natAbs\/1000001<=y.natAbs):wgB (x,y)=false:=by
 unfold wgB zeG
 simp only[List.all_cons,List.all_nil,id_eq,Bool.and_true,Bool.and_eq_false_iff,decide_eq_false_iff_not]
 rcases h with h | h
 ·left
  split<;>omega
 ·right
  split<;>omega
theorem zfY {n:Nat}{ns:List Int}(h:ns.length≠n):RL n ns=false:=by
 unfold RL
 rw[decide_eq_false h]
 rfl
theorem zfZ {n:Nat}{ns:List Int}{x:Int}(h:x∈ns)(e:x≠0/\x≠1):RL n ns=false:=by
 unfold RL
 rw[Bool.and_eq_false_iff]
 right
 rw[List.all_eq_false]
 exact⟨x,h,by simp[e]⟩
inductive zeI (vs:List V)(H:Hp)(Q:VK)(E9:XK):Prop
 | mk (c:Int) (n:Nat) (_:vs=[.int c,.int (n:Nat)]) (_:1<=n) (_:n<=5) (_:∀(t rl wl hl:Addr) (ns:List Int) (ws us:List Wg) (H':Hp),Same H H'->H' t=some (.tup [.ref rl,.ref wl,.ref hl])->IL H' rl ns->ns.length<=1000->RL n ns=false->WL H' wl ws->ws.length<=20->(ws.length≠n\/∃s∈ws,wgB s=false)->WL H' hl us->us.length<=20->(us.length≠n\/∃s∈us,shB s=false)->Q (.ref t) H'):zeI vs H Q E9
def Sv:List Str:=["room", "room", "number", "row", "room", "room", "weights", "weights", "weights", "shares"]
def zb8:List Str:=["room", "row", "number", "weights", "shares"]
def zjq:List Nat:=[0,0,2,1,0,0,3,3,3,4]
def zoF (d:Option Nat):Str:=match d with
 | none => "nothing"
 | some n=>XF.getD n ""
theorem zhw:∀c:Fin 10,∀z0 z1 z2 z3 z4:Bool,zoF (Nt c z0 z1 z2 z3 z4)=(if z0 then Str.ofString "room" else if [z0,z1,z2,z3,z4].getD (zjq.getD c 0) false then Sv.getD c "" else Str.ofString "nothing"):=by decide +kernel
theorem zjr:∀c:Fin 10,(zb8.map V.str).findIdx? (fun z=>eqV z (.str (Sv.getD c "")))=some (zjq.getD c 0):=by decide +kernel
theorem zmR:∀c:Fin 10,zjq.getD c 0<5:=by decide
theorem zqe {K:Frag}{H:Hp}{l:Addr}{n:Nat}(h:WL H l (List.replicate n (1,2))):∃(ps:List Addr) (ws:List Sh),Qg K H l ps ws n:=by
 obtain⟨ps,a,c⟩:=h
 refine⟨ps,List.replicate n (1,2),zX.of a,?_,List.length_replicate,fun s hs=>?_⟩
 ·refine zhr (by have:=yJ c;rw[List.length_replicate] at this ⊢;exact this) fun j x y h1 h2=>?_
  obtain⟨z,h3,h4⟩:=Yc c h1
  have ez:=(List.mem_replicate.mp (zvF h3)).2
  have ey:=(List.mem_replicate.mp (zvF h2)).2
  subst ez ey
  exact h4
 ·have:=(List.mem_replicate.mp hs).2
  subst this
  exact⟨by decide,by decide,by decide⟩
theorem zqf {K:Frag}{H:Hp}{l:Addr}{n:Nat}(h:WL H l (List.replicate n (1,-1))):∃(ps:List Addr) (ws:List Wg),Y7 K H l ps ws n:=by
 obtain⟨ps,a,c⟩:=h
 refine⟨ps,List.replicate n (1,-1),zX.of a,c,List.length_replicate,fun s hs=>?_⟩
 have:=(List.mem_replicate.mp hs).2
 subst this
 exact⟨by decide,by decide⟩
theorem zf0 {n:Nat}{rs:List Rm}{k:Nat}(my:∀r,yes rs k r=true):xP n rs k=allR n:=List.filter_eq_self.mpr fun _ _=>my _
section
variable {P:Program}{w:World}{K:Frag}{mg:Str->Option Value}{base:Heap}{k:Nat}{f:Addr}{fd:FuncData}{ps:List Str}{C D D':Addr}{cs:List Addr}
theorem zqg (e:cs.getD 2 0=D)(S:zB P w K mg base yd k f fd ps (JR C))(R:zB P w K mg base (wJ P w) k f fd ps (xZ C D 0)):zB P w K mg base (wJ P w) k f fd ps (Zt C K cs 0 false fun b i _ _ _ _ _=>[b,i]):=(S.lift.orE R).imp fun vs H Q E h=>by
 obtain⟨b,rl,wl,hl,l,i,m,z0,z1,z2,z3,z4,os,rs,F,rfl,h,_,q⟩:=h
 subst e
 cases z0 with
 | true=>exact .inr ⟨b,os,rs,F,i,[],rfl,rfl,h.bk,h.r1 rfl,h.si,q⟩
 | false =>
  have e:=h.r0 rfl
  subst e
  exact .inl ⟨b,os,rs,F,1,rfl,h.bk,h.hk,fun H' g=>q H' g _⟩
theorem zqh (e:cs.getD 2 0=D)(S:zB P w K mg base yd k f fd ps (JT C))(R:zB P w K mg base (wJ P w) k f fd ps (xZ C D 0)):zB P w K mg base (wJ P w) k f fd ps (Zt C K cs 1 false fun b i _ _ _ _ _=>[b,i]):=(S.lift.orE R).imp fun vs H Q E h=>by
 obtain⟨b,rl,wl,hl,l,i,m,z0,z1,z2,z3,z4,os,rs,F,rfl,h,_,q⟩:=h
 subst e
 cases z0 with
 | true=>exact .inr ⟨b,os,rs,F,i,[],rfl,rfl,h.bk,h.r1 rfl,h.si,q⟩
 | false =>
  have e:=h.r0 rfl
  subst e
  exact .inl ⟨b,os,rs,F,1,rfl,h.bk,h.hk,fun l H' g _ _=>q H' g _⟩
theorem zqi (e:cs.getD 2 0=D)(e':cs.getD 4 0=D')(S:zB P w K mg base yd k f fd ps (zez C))(R:zB P w K mg base (wJ P w) k f fd ps (xZ C D 1))(N:zB P w K mg base (wJ P w) k f fd ps (zb5 C D')):zB P w K mg base (wJ P w) k f fd ps (Zt C K cs 2 false fun b i _ m _ _ _=>[b,i,m]):=((S.lift.orE N).orE R).imp fun vs H Q E h=>by
 obtain⟨b,rl,wl,hl,l,i,m,z0,z1,z2,z3,z4,os,rs,F,rfl,h,_,q⟩:=h
 subst e e'
 cases z0 with
 | true=>exact .inr ⟨b,os,rs,F,i,[_],rfl,rfl,h.bk,h.r1 rfl,h.si,q⟩
 | false =>
  have e:=h.r0 rfl
  subst e
  cases z2 with
  | true=>exact .inl (.inr ⟨b,os,rs,F,1,m,rfl,h.bk,h.hk,h.n1 rfl,h.sm,q⟩)
  | false =>
   have e:=h.n0 rfl
   subst e
   have z:∃r,(xP os.length rs 1)[0]?=some r:=by
    rw[zf0 (Y6 ((z9 C).bk h.bk))]
    have l:=JN os.length
    have p:0<2^os.length:=Nat.pos_of_ne_zero (by simp)
    exact⟨_,zvB (by rw[l];exact p)⟩
   obtain⟨r,z⟩:=z
   exact .inl (.inl ⟨b,os,rs,F,1,0,r,rfl,h.bk,h.hk,z,fun l H' g _ _=>q H' g _⟩)
theorem zqj (e:cs.getD 2 0=D)(e':cs.getD 3 0=D')(S:zB P w K mg base yd k f fd ps (Qi C K))(R:zB P w K mg base (wJ P w) k f fd ps (Qk C D D' K)):zB P w K mg base (wJ P w) k f fd ps (Zt C K cs 3 false fun b i r _ _ _ _=>[b,i,r]):=(S.lift.orE R).imp fun vs H Q E h=>by
 obtain⟨b,rl,wl,hl,l,i,m,z0,z1,z2,z3,z4,os,rs,F,rfl,h,_,q⟩:=h
 subst e e'
 obtain⟨ns,hr,l1,b1,b0⟩:=h.row
 cases z0 with
 | true=>exact .inr ⟨b,rl,os,rs,F,i,ns,rfl,h.bk,h.si,hr,l1,.inl ⟨h.r1 rfl,q⟩⟩
 | false =>
  have e:=h.r0 rfl
  subst e
  have nb:¬Bad rs.length ((1:Nat):Int):=by
   have:=h.hk
   rintro (z | z)<;>omega
  cases z1 with
  | true=>exact .inr ⟨b,rl,os,rs,F,_,ns,rfl,h.bk,h.si,hr,l1,.inr ⟨nb,b1 rfl,q⟩⟩
  | false =>
   have e:=b0 rfl
   subst e
   have mem:List.replicate os.length false∈xP os.length rs 1:=by
    rw[zf0 (Y6 ((z9 C).bk h.bk))]
    have z:=zkZ (List.replicate os.length false)
    rwa [List.length_replicate] at z
   obtain⟨j,hj⟩:=List.mem_iff_getElem?.mp mem
   have er:(List.replicate os.length (0:Int)).map V.int=vH (List.replicate os.length false):=by
    unfold vH
    rw[List.map_replicate,List.map_replicate]
    rfl
   rw[er] at hr
   exact .inl ⟨b,rl,os,rs,F,1,j,_,rfl,h.bk,h.hk,hr,hj,fun H' g=>q H' g _⟩
theorem zqk (e:cs.getD 2 0=D)(S:zB P w K mg base yd k f fd ps (J0 C))(R:zB P w K mg base (wJ P w) k f fd ps (xZ C D 0)):zB P w K mg base (wJ P w) k f fd ps (Zt C K cs 4 false fun b i _ _ _ _ _=>[b,i]):=(S.lift.orE R).imp fun vs H Q E h=>by
 obtain⟨b,rl,wl,hl,l,i,m,z0,z1,z2,z3,z4,os,rs,F,rfl,h,_,q⟩:=h
 subst e
 cases z0 with
 | true=>exact .inr ⟨b,os,rs,F,i,[],rfl,rfl,h.bk,h.r1 rfl,h.si,q⟩
 | false =>
  have e:=h.r0 rfl
  subst e
  exact .inl ⟨b,os,rs,F,rfl,h.bk,fun v H' g=>q H' g v⟩
inductive YG (C:Addr)(vs:List V)(H:Hp)(Q:VK)(E9:XK):Prop
 | mk (b l:Addr) (os:List Str) (rs:List Rm) (F:xW) (_:vs=[.ref b,.int ((1:Nat):Int),.ref l]) (_:yp C H b os rs F) (_:H l=some (.lst [])) (_:∀H',Same H H'->Q (.bl false) H'):YG C vs H Q E9
theorem zql (e:cs.getD 2 0=D)(S:zB P w K mg base yd k f fd ps (YG C))(R:zB P w K mg base (wJ P w) k f fd ps (KD C D K)):zB P w K mg base (wJ P w) k f fd ps (Zt C K cs 5 true fun b i _ _ _ _ l=>[b,i,l]):=(S.lift.orE R).imp fun vs H Q E h=>by
 obtain⟨b,rl,wl,hl,l,i,m,z0,z1,z2,z3,z4,os,rs,F,rfl,h,n,q⟩:=h
 subst e
 cases z0 with
 | true=>exact .inr ⟨b,l,os,rs,F,i,rfl,h.bk,zX.of (n rfl),h.r1 rfl,h.si,q⟩
 | false =>
  have e:=h.r0 rfl
  subst e
  exact .inl ⟨b,l,os,rs,F,rfl,h.bk,n rfl,fun H' g=>q H' g _⟩
theorem zqm (e:cs.getD 2 0=D)(e':cs.getD 5 0=D')(S:zB P w K mg base yd k f fd ps (Mq C K))(R:zB P w K mg base (wJ P w) k f fd ps (xZ C D 1))(N:zB P w K mg base (wJ P w) k f fd ps (zeH C D' K wgB 0)):zB P w K mg base (wJ P w) k f fd ps (Zt C K cs 6 false fun b i _ _ w _ _=>[b,i,w]):=((S.lift.orE N).orE R).imp fun vs H Q E h=>by
 obtain⟨b,rl,wl,hl,l,i,m,z0,z1,z2,z3,z4,os,rs,F,rfl,h,_,q⟩:=h
 subst e e'
 cases z0 with
 | true=>exact .inr ⟨b,os,rs,F,i,[_],rfl,rfl,h.bk,h.r1 rfl,h.si,q⟩
 | false =>
  have e:=h.r0 rfl
  subst e
  cases z3 with
  | true =>
   obtain⟨ps,ws,a1,a2,a3,a4⟩:=h.w1 rfl
   exact .inl (.inr ⟨b,wl,os,rs,F,1,ps,ws,[],rfl,rfl,h.bk,h.hk,a1,a2,a3,a4,q⟩)
  | false =>
   obtain⟨ps,ws,a⟩:=h.w0 rfl
   exact .inl (.inl ⟨b,wl,os,rs,F,1,ps,ws,rfl,h.bk,h.hk,a,fun H' g _=>q H' g _,fun _ _ H' _ g _ _ _ _ _=>q H' g _⟩)
theorem zqn (e:cs.getD 2 0=D)(e':cs.getD 5 0=D')(S:zB P w K mg base yd k f fd ps (zb7 C K))(R:zB P w K mg base (wJ P w) k f fd ps (xZ C D 1))(N:zB P w K mg base (wJ P w) k f fd ps (zeH C D' K wgB 0)):zB P w K mg base (wJ P w) k f fd ps (Zt C K cs 7 false fun b i _ _ w _ _=>[b,i,w]):=((S.lift.orE N).orE R).imp fun vs H Q E h=>by
 obtain⟨b,rl,wl,hl,l,i,m,z0,z1,z2,z3,z4,os,rs,F,rfl,h,_,q⟩:=h
 subst e e'
 cases z0 with
 | true=>exact .inr ⟨b,os,rs,F,i,[_],rfl,rfl,h.bk,h.r1 rfl,h.si,q⟩
 | false =>
  have e:=h.r0 rfl
  subst e
  cases z3 with
  | true =>
   obtain⟨ps,ws,a1,a2,a3,a4⟩:=h.w1 rfl
   exact .inl (.inr ⟨b,wl,os,rs,F,1,ps,ws,[],rfl,rfl,h.bk,h.hk,a1,a2,a3,a4,q⟩)
  | false =>
   obtain⟨ps,ws,a⟩:=h.w0 rfl
   exact .inl (.inl ⟨b,wl,os,rs,F,ps,ws,rfl,h.bk,a,fun v H' g=>q H' g v⟩)
inductive Sw (C:Addr)(K:Frag)(vs:List V)(H:Hp)(Q:VK)(E9:XK):Prop
 | mk (b wl l:Addr) (os:List Str) (rs:List Rm) (F:xW) (ps:List Addr) (ws:List Wg) (_:vs=[.ref b,.int ((1:Nat):Int),.ref wl,.ref l]) (_:yp C H b os rs F) (_:Y7 K H wl ps ws os.length) (_:H l=some (.lst [])) (_:∀H',Same H H'->Q (.bl false) H'):Sw C K vs H Q E9
theorem zqo (e:cs.getD 2 0=D)(e':cs.getD 5 0=D')(S:zB P w K mg base yd k f fd ps (Sw C K))(R:zB P w K mg base (wJ P w) k f fd ps (xZ C D 2))(N:zB P w K mg base (wJ P w) k f fd ps (zeH C D' K wgB 1)):zB P w K mg base (wJ P w) k f fd ps (Zt C K cs 8 true fun b i _ _ w _ l=>[b,i,w,l]):=((S.lift.orE N).orE R).imp fun vs H Q E h=>by
 obtain⟨b,rl,wl,hl,l,i,m,z0,z1,z2,z3,z4,os,rs,F,rfl,h,n,q⟩:=h
 subst e e'
 cases z0 with
 | true=>exact .inr ⟨b,os,rs,F,i,[_,_],rfl,rfl,h.bk,h.r1 rfl,h.si,q⟩
 | false =>
  have e:=h.r0 rfl
  subst e
  cases z3 with
  | true =>
   obtain⟨ps,ws,a1,a2,a3,a4⟩:=h.w1 rfl
   exact .inl (.inr ⟨b,wl,os,rs,F,1,ps,ws,[_],rfl,rfl,h.bk,h.hk,a1,a2,a3,a4,q⟩)
  | false =>
   obtain⟨ps,ws,a⟩:=h.w0 rfl
   exact .inl (.inl ⟨b,wl,l,os,rs,F,ps,ws,rfl,h.bk,a,n rfl,fun H' g=>q H' g _⟩)
theorem zqp (e:cs.getD 2 0=D)(e':cs.getD 6 0=D')(S:zB P w K mg base yd k f fd ps (zbR C K))(R:zB P w K mg base (wJ P w) k f fd ps (xZ C D 1))(N:zB P w K mg base (wJ P w) k f fd ps (zeH C D' K shB 0)):zB P w K mg base (wJ P w) k f fd ps (Zt C K cs 9 false fun b i _ _ _ h _=>[b,i,h]):=((S.lift.orE N).orE R).imp fun vs H Q E h=>by
 obtain⟨b,rl,wl,hl,l,i,m,z0,z1,z2,z3,z4,os,rs,F,rfl,h,_,q⟩:=h
 subst e e'
 cases z0 with
 | true=>exact .inr ⟨b,os,rs,F,i,[_],rfl,rfl,h.bk,h.r1 rfl,h.si,q⟩
 | false =>
  have e:=h.r0 rfl
  subst e
  cases z4 with
  | true =>
   obtain⟨ps,ws,a1,a2,a3,a4⟩:=h.s1 rfl
   exact .inl (.inr ⟨b,hl,os,rs,F,1,ps,ws,[],rfl,rfl,h.bk,h.hk,a1,a2,a3,a4,q⟩)
  | false =>
   obtain⟨ps,ws,a⟩:=h.s0 rfl
   exact .inl (.inl ⟨b,hl,os,rs,F,1,ps,ws,rfl,h.bk,h.hk,a,fun _ H' g _ _=>q H' g _⟩)
end
inductive Mr (p:Addr->Addr->List Str->List Rm->xW->Prop):Prop
 | mk ol bk os rs F (_:p ol bk os rs F):Mr p
inductive J5 (p:Int->Addr->Bool->Bool->Bool->Bool->Bool->Prop):Prop
 | mk c bl z0 z1 z2 z3 z4 (_:p c bl z0 z1 z2 z3 z4):J5 p
inductive zb9 (p:Addr->Addr->Addr->Prop):Prop
 | mk rl wl hl (_:p rl wl hl):zb9 p
abbrev B40 (C:Addr)(H:Hp)(bk:Addr)(os:List Str)(rs:List Rm)(F:xW)(R:Prop):Prop:=yp C H bk os rs F/\os.length<=5/\rs.length<=200002/\R
abbrev L40 (H:Hp)(bl:Addr)(z0 z1 z2 z3 z4:Bool):Prop:=H bl=some (.lst [.bl z0,.bl z1,.bl z2,.bl z3,.bl z4])
abbrev T40 (H:Hp)(sp rl wl hl:Addr)(os:List Str):Prop:=H sp=some (.tup [.ref rl,.ref wl,.ref hl])/\zlb os.length H rl/\RP wgB os.length H wl/\RP shB os.length H hl
abbrev N40 (z:Bool)(n:Nat)(i j:Int):Prop:=Small i/\(z=true->Bad n i)/\(z=false->i=j)
abbrev R40 (H:Hp)(rl:Addr)(z:Bool)(os:List Str):Prop:=∃ns:List Int,IL H rl ns/\ns.length<=1000/\(z=true->RL os.length ns=false)/\(z=false->ns=List.replicate os.length 0)
abbrev W40 (H:Hp)(wl:Addr)(os:List Str):Prop:=WL H wl (List.replicate os.length (1,-1))
abbrev H40 (H:Hp)(wl:Addr)(os:List Str):Prop:=WL H wl (List.replicate os.length (1,2))
abbrev X40 (z:Bool)(A B:Prop):Prop:=(z=true->A)/\(z=false->B)
abbrev s40 (sc ol:Addr)(os:List Str)(bk:Addr)(i:Int)(r:St):St:=some (.ref sc)::some (.ref ol)::some (.int (os.length:Nat))::some (.ref bk)::some (.int i)::r
abbrev t40 (c:Int)(bl:Addr)(rs:List Rm)(r:St):St:=some (.int c)::some (.ref bl)::some (.int (rs.length:Nat))::r
abbrev u40 (m:Int)(sp:Addr)(far:Int)(r:St):St:=some (.int m)::some (.ref sp)::some (.int far)::r
abbrev v40 (a b c:Addr)(r:St):St:=some (.ref a)::some (.ref b)::some (.ref c)::r
abbrev zjs (n:Nat)(G H:Hp)(far:Int)(fr:Addr)(R:Prop):Prop:=Same G H/\1000001<=far/\WL H fr (List.replicate (n-1) (0,0))/\R
abbrev zeJ (p:Nat->Hp->Addr->Prop)(n m:Nat)(H:Hp)(l:Addr)(ws:List Addr):Prop:=ws.length=m/\H l=some (.lst (ws.map V.ref))/\∀l∈ws,p n H l
abbrev q40 (c:Int)(n:Nat)(far:Int)(fr:Addr)(r:St):St:=some (.int c)::some (.int (n:Nat))::some (.int far)::some (.ref fr)::r
theorem F40.go {C:Addr}{K:Frag}{H:Hp}{b rl wl hl l:Addr}{i m:Int}{z0 z1 z2 z3 z4:Bool}{os:List Str}{rs:List Rm}{F:xW}{cs:List Addr}{c:Nat}{nl:Bool}{ar:V->V->V->V->V->V->V->List V}{Q:VK}{E:XK}(h:zcV C K H b rl wl hl i m z0 z1 z2 z3 z4 os rs F)(n:nl=true->H l=some (.lst []))(t:JZ cs (Nt c z0 z1 z2 z3 z4) H Q E):Zt C K cs c nl ar (ar (.ref b) (.int i) (.ref rl) (.int m) (.ref wl) (.ref hl) (.ref l)) H Q E:=⟨b,rl,wl,hl,l,i,m,z0,z1,z2,z3,z4,os,rs,F,rfl,h,n,t⟩
theorem zf1 {l:List Addr}(h:l.Nodup){n:Nat}{c:Addr}(e:l[n]?=some c):l.map (fun C=>decide (c=C))=(List.range l.length).map (fun i=>decide (i=n)):=by
 obtain⟨hn,rfl⟩:=zvD.mp e
 have p:=List.pairwise_iff_getElem.mp h
 refine List.ext_getElem (by rw[zvA,zvA,List.length_range]) fun i h1 h2=>?_
 rw[zvA] at h1
 rw[List.getElem_map,List.getElem_map,List.getElem_range]
 rcases Nat.lt_trichotomy i n with z | z | z
 ·rw[decide_eq_false (Ne.symm (p i n h1 hn z)),decide_eq_false (zvP z)]
 ·subst z;rw[decide_eq_true rfl,decide_eq_true rfl]
 ·rw[decide_eq_false (p n i hn h1 z),decide_eq_false (Nat.ne_of_gt z)]
end WX
namespace K40
open PySem L2
def top (i:Nat):Stmt:=PySem.Challenge.pw_decidebook_k40_counting_refused.main.body.getD i (.Pass ⟨0,0,0,0⟩)
abbrev Sx:Stmt:=top 14
abbrev xT:List Str:=["book", "room"]
theorem uw:zP ["book", "room", "level", "place", "longer", "row", "here"] xT (zA Sx):=fsc (by decide +kernel)
abbrev zca:Stmt:=top 15
abbrev W4:List Str:=["book", "room"]
theorem zaz:zP ["book", "room"] W4 (zA zca):=fsc (by decide +kernel)
abbrev W5:Stmt:=top 16
abbrev W6:List Str:=["book", "room"]
theorem Vx:zP ["book", "room", "found"] W6 (zA W5):=fsc (by decide +kernel)
abbrev zf2:Stmt:=top 17
abbrev U0:List Str:=["book", "room", "number"]
theorem Ws:zP ["book", "room", "number", "found"] U0 (zA zf2):=fsc (by decide +kernel)
abbrev KH:Stmt:=top 18
abbrev Yj:List Str:=["book", "room", "row"]
theorem Nu:zP ["book", "room", "row"] Yj (zA KH):=fsc (by decide +kernel)
abbrev zf3:Stmt:=top 19
abbrev Qm:List Str:=["book", "room"]
theorem Wt:zP ["book", "room", "known", "number"] Qm (zA zf3):=fsc (by decide +kernel)
abbrev Y9:Stmt:=top 20
abbrev Zx:List Str:=["book", "room", "told"]
theorem W7:zP ["book", "room", "told", "known"] Zx (zA Y9):=fsc (by decide +kernel)
abbrev vW:Stmt:=top 21
abbrev yX:List Str:=["book", "room", "told"]
theorem Xw:zP ["book", "room", "told"] yX (zA vW):=fsc (by decide +kernel)
abbrev zcb:Stmt:=top 22
abbrev ZS:List Str:=["book", "number", "known"]
theorem zf4:zP ["book", "number", "known"] ZS (zA zcb):=fsc (by decide +kernel)
abbrev zjt:Stmt:=top 23
abbrev zju:List Str:=["book", "number", "going", "known"]
abbrev zcc:Stmt:=top 25
abbrev ZV:List Str:=["marks"]
theorem zf5:zP ["marks"] ZV (zA zcc):=fsc (by decide +kernel)
abbrev zaA:Stmt:=top 26
abbrev ux:List Str:=["place", "marks"]
theorem Yk:zP ["place", "marks", "half", "table", "further"] ux (zA zaA):=fsc (by decide +kernel)
abbrev zdU:Stmt:=top 27
abbrev YH:List Str:=["table", "place", "marks"]
theorem Ms:zP ["table", "place", "marks", "ones", "noughts"] YH (zA zdU):=fsc (by decide +kernel)
abbrev zdV:Stmt:=top 28
abbrev U3:List Str:=["table", "place", "value", "marks"]
theorem Mt:zP ["table", "place", "value", "marks", "ones", "kept"] U3 (zA zdV):=fsc (by decide +kernel)
abbrev zcd:Stmt:=top 29
abbrev Sy:List Str:=["table", "place", "marks"]
theorem zf6:zP ["table", "place", "marks"] Sy (zA zcd):=fsc (by decide +kernel)
abbrev Nv:Stmt:=top 30
abbrev Zy:List Str:=["table", "marks"]
theorem W8:zP ["table", "marks", "place"] Zy (zA Nv):=fsc (by decide +kernel)
abbrev zdW:Stmt:=top 36
abbrev Wu:List Str:=["letter"]
theorem zhy:zP ["letter"] Wu (zA zdW):=fsc (by decide +kernel)
abbrev Mu:Stmt:=top 37
abbrev SJ:List Str:=["order"]
theorem zf7:zP ["order"] SJ (zA Mu):=fsc (by decide +kernel)
abbrev zce:Stmt:=top 38
abbrev U4:List Str:=["order", "row"]
theorem zjv:zP ["order", "row"] U4 (zA zce):=fsc (by decide +kernel)
abbrev KJ:Stmt:=top 39
abbrev Zd:List Str:=["sentence"]
theorem zcW:zP ["sentence"] Zd (zA KJ):=fsc (by decide +kernel)
abbrev zcf:Stmt:=top 40
abbrev tO:List Str:=["sentence"]
theorem zf8:zP ["sentence"] tO (zA zcf):=fsc (by decide +kernel)
abbrev Qo:Stmt:=top 41
abbrev tQ:List Str:=["level"]
theorem XH:zP ["level", "found", "sentence"] tQ (zA Qo):=fsc (by decide +kernel)
abbrev Vy:Stmt:=top 42
abbrev Vz:List Str:=["some"]
theorem KN:zP ["some", "shape"] Vz (zA Vy):=fsc (by decide +kernel)
abbrev Ub:Stmt:=top 43
abbrev Xa:List Str:=["some"]
theorem vp:zP ["some", "level", "deep", "tuples"] Xa (zA Ub):=fsc (by decide +kernel)
abbrev Rz:Stmt:=top 44
abbrev ZJ:List Str:=["order"]
theorem J6:zP ["order"] ZJ (zA Rz):=fsc (by decide +kernel)
abbrev W9:Stmt:=top 45
abbrev uD:List Str:=["some"]
theorem Ng:zP ["some"] uD (zA W9):=fsc (by decide +kernel)
abbrev U5:Stmt:=top 46
abbrev v7:List Str:=["order", "letter"]
theorem KQ:zP ["order", "letter"] v7 (zA U5):=fsc (by decide +kernel)
abbrev VB:Stmt:=top 47
abbrev uV:List Str:=["order", "sentence"]
theorem Va:zP ["order", "sentence", "letter"] uV (zA VB):=fsc (by decide +kernel)
abbrev Nx:Stmt:=top 48
abbrev uQ:List Str:=["order", "row"]
theorem Qp:zP ["order", "row"] uQ (zA Nx):=fsc (by decide +kernel)
abbrev zaB:Stmt:=top 49
abbrev VD:List Str:=["sentence"]
theorem X5:zP ["sentence", "found", "level"] VD (zA zaB):=fsc (by decide +kernel)
abbrev KR:Stmt:=top 50
abbrev X6:List Str:=["sentence"]
theorem Uc:zP ["sentence", "found", "part"] X6 (zA KR):=fsc (by decide +kernel)
abbrev Mv:Stmt:=top 51
abbrev YJ:List Str:=["sentence", "order"]
theorem VF:zP ["sentence", "order", "word", "marks", "tables"] YJ (zA Mv):=fsc (by decide +kernel)
abbrev Qq:Stmt:=top 52
abbrev v8:List Str:=["word", "one", "other", "every"]
theorem zaZ:zP ["word", "one", "other", "every"] v8 (zA Qq):=fsc (by decide +kernel)
abbrev zaC:Stmt:=inClass (top 54) 0
abbrev VG:List Str:=["self", "order"]
theorem KY:zP ["self", "order", "marks"] VG (zA zaC):=fsc (by decide +kernel)
abbrev KZ:Stmt:=inClass (top 54) 1
abbrev wB:List Str:=["self"]
theorem zcX:zP ["self"] wB (zA KZ):=fsc (by decide +kernel)
abbrev zaD:Stmt:=inClass (top 54) 2
abbrev Xx:List Str:=["self"]
theorem zeK:zP ["self"] Xx (zA zaD):=fsc (by decide +kernel)
abbrev K1:Stmt:=inClass (top 54) 3
abbrev X7:List Str:=["self", "sentence"]
theorem zcY:zP ["self", "sentence"] X7 (zA K1):=fsc (by decide +kernel)
abbrev zf9:Stmt:=inClass (top 54) 4
abbrev zga:List Str:=["self", "number"]
abbrev RB:Stmt:=inClass (top 54) 5
abbrev wK:List Str:=["self", "number", "row"]
theorem vf:zP ["self", "number", "row", "place", "value"] wK (zA RB):=fsc (by decide +kernel)
abbrev K3:Stmt:=inClass (top 54) 6
abbrev wR:List Str:=["self", "number"]
theorem Zz:zP ["self", "number", "found", "waiting", "here"] wR (zA K3):=fsc (by decide +kernel)
abbrev XQ:Stmt:=inClass (top 54) 7
abbrev zH:List Str:=["self", "number"]
theorem Xy:zP ["self", "number"] zH (zA XQ):=fsc (by decide +kernel)
abbrev RD:Stmt:=inClass (top 54) 8
abbrev uK:List Str:=["self", "number"]
theorem J7:zP ["self", "number"] uK (zA RD):=fsc (by decide +kernel)
abbrev K4:Stmt:=inClass (top 54) 9
abbrev Ze:List Str:=["self", "number", "value"]
theorem zcZ:zP ["self", "number", "value"] Ze (zA K4):=fsc (by decide +kernel)
abbrev zcg:Stmt:=inClass (top 54) 10
abbrev Vb:List Str:=["self", "number", "place", "value"]
theorem zgb:zP ["self", "number", "place", "value"] Vb (zA zcg):=fsc (by decide +kernel)
abbrev U6:Stmt:=inClass (top 54) 12
abbrev vg:List Str:=["self", "table"]
theorem vJ:zP ["self", "table", "marks", "place", "low", "high"] vg (zA U6):=fsc (by decide +kernel)
abbrev uW:Stmt:=top 58
abbrev yF:List Str:=["book", "weights"]
theorem Vc:zP ["book", "weights"] yF (zA uW):=fsc (by decide +kernel)
abbrev Xb:Stmt:=top 59
abbrev wZ:List Str:=["entry"]
theorem Qs:zP ["entry"] wZ (zA Xb):=fsc (by decide +kernel)
abbrev Zf:Stmt:=top 60
abbrev vh:List Str:=["book", "shares"]
theorem VH:zP ["book", "shares"] vh (zA Zf):=fsc (by decide +kernel)
abbrev zch:Stmt:=top 61
abbrev tR:List Str:=["entry"]
theorem zaE:zP ["entry"] tR (zA zch):=fsc (by decide +kernel)
abbrev Mw:Stmt:=top 62
abbrev YK:List Str:=["book", "room", "weights"]
theorem Qt:zP ["book", "room", "weights"] YK (zA Mw):=fsc (by decide +kernel)
abbrev VJ:Stmt:=top 63
abbrev Xz:List Str:=["row", "weights"]
theorem zeL:zP ["row", "weights"] Xz (zA VJ):=fsc (by decide +kernel)
abbrev ziH:Stmt:=top 64
abbrev Px:List Str:=["book", "room", "weights"]
theorem Qu:zP ["book", "room", "weights", "known", "number"] Px (zA ziH):=fsc (by decide +kernel)
abbrev X8:Stmt:=top 65
abbrev Zg:List Str:=["book", "room", "weights", "told"]
theorem Xc:zP ["book", "room", "weights", "told", "known"] Zg (zA X8):=fsc (by decide +kernel)
abbrev zdX:Stmt:=top 66
abbrev Wv:List Str:=["book", "number", "weights", "known"]
theorem zhz:zP ["book", "number", "weights", "known", "ways"] Wv (zA zdX):=fsc (by decide +kernel)
abbrev zci:Stmt:=top 67
abbrev zcj:List Str:=["book", "number", "value", "weights", "known"]
abbrev K5:Stmt:=top 68
abbrev U7:List Str:=["book", "room", "shares"]
theorem Ww:zP ["book", "room", "shares", "top", "bottom", "common"] U7 (zA K5):=fsc (by decide +kernel)
abbrev Py:Stmt:=top 69
abbrev Pz:List Str:=["row", "shares"]
theorem zhA:zP ["row", "shares"] Pz (zA Py):=fsc (by decide +kernel)
abbrev zdY:Stmt:=top 70
abbrev Wx:List Str:=["numbers"]
theorem SM:zP ["numbers", "made", "number"] Wx (zA zdY):=fsc (by decide +kernel)
abbrev U8:Stmt:=top 71
abbrev v9:List Str:=["one", "other"]
theorem uX:zP ["one", "other", "rest"] v9 (zA U8):=fsc (by decide +kernel)
abbrev RG:Stmt:=top 73
abbrev xX:List Str:=["script", "k"]
theorem U9:zP ["script", "k"] xX (zA RG):=fsc (by decide +kernel)
abbrev K6:Stmt:=top 74
abbrev vK:List Str:=["cell", "k", "bound"]
theorem uR:zP ["cell", "k", "bound", "stir", "left", "j"] vK (zA K6):=fsc (by decide +kernel)
abbrev Nz:Stmt:=top 75
abbrev Xd:List Str:=["cell", "limit"]
theorem Vd:zP ["cell", "limit", "found", "k"] Xd (zA Nz):=fsc (by decide +kernel)
abbrev uc:Stmt:=top 76
abbrev Zh:List Str:=["script", "at", "many", "order"]
theorem yN:zP ["script", "at", "many", "order", "kinds", "made", "k", "cell", "kind", "one", "other", "letter"] Zh (zA uc):=fsc (by decide +kernel)
abbrev Ud:Stmt:=top 77
abbrev ZC:List Str:=["e"]
theorem Yl:zP ["e", "kinds", "terms"] ZC (zA Ud):=fsc (by decide +kernel)
abbrev zck:Stmt:=top 78
abbrev Ve:List Str:=["told", "word"]
theorem zgc:zP ["told", "word"] Ve (zA zck):=fsc (by decide +kernel)
abbrev NK:Stmt:=top 79
abbrev Xe:List Str:=["call", "book", "room", "row", "number", "weights", "shares"]
theorem zcl:zP ["call", "book", "room", "row", "number", "weights", "shares"] Xe (zA NK):=fsc (by decide +kernel)
abbrev zaF:Stmt:=top 80
abbrev VL:List Str:=["call", "book", "room", "row", "number", "weights", "shares"]
theorem Wa:zP ["call", "book", "room", "row", "number", "weights", "shares", "told", "e"] VL (zA zaF):=fsc (by decide +kernel)
abbrev zaG:Stmt:=top 81
abbrev VN:List Str:=["cell", "size"]
theorem vL:zP ["cell", "size", "far", "free", "weights", "shares", "rows"] VN (zA zaG):=fsc (by decide +kernel)
abbrev S_law:Stmt:=top 82
abbrev p_law:List Str:=["script"]
theorem sc_law:zP ["script", "order", "size", "book", "room", "cell", "bad", "here", "number", "spoilt", "far", "terms", "call", "row", "weights", "shares", "told", "due"] p_law (zA S_law):=fsc (by decide +kernel)
def wI:List (Str×Int×Int):=[("yes", 0,0),("no", 0,0),("mark", 1,0),("not", 0,1),("and", 0,2),("or", 0,2),("either", 0,2),("if", 0,2),("some", 1,1),("each", 1,1)]
set_option genInjectivity false in
set_option genSizeOf false in
structure Ad where
 wu:Addr
 wz:FuncData
 SN:Addr
 SQ:FuncData
 SX:Addr
 S5:FuncData
 Qv:Addr
 Qw:FuncData
 Wb:Addr
 Wc:FuncData
 K7:Addr
 K8:FuncData
 Xf:Addr
 Xg:FuncData
 xU:Addr
 xV:FuncData
 YL:Addr
 YM:FuncData
 zjw:Addr
 zjx:FuncData
 YQ:Addr
 YS:FuncData
 tU:Addr
 tV:FuncData
 Wy:Addr
 Wz:FuncData
 PB:Addr
 PJ:FuncData
 Mx:Addr
 Mz:FuncData
 Xh:Addr
 Xi:FuncData
 Tc:Addr
 Td:FuncData
 MF:Addr
 MJ:FuncData
 Qx:Addr
 Qy:FuncData
 Ym:Addr
 Yn:FuncData
 ZW:Addr
 ZX:FuncData
 Yo:Addr
 Yp:FuncData
 Qz:Addr
 QB:FuncData
 Ue:Addr
 Ug:FuncData
 XJ:Addr
 XM:FuncData
 Z0:Addr
 Z1:FuncData
 Zi:Addr
 Zj:FuncData
 Yq:Addr
 Yr:FuncData
 ZD:Addr
 ZF:FuncData
 QC:Addr
 QD:FuncData
 S6:Addr
 S7:FuncData
 Vf:Addr
 Vg:FuncData
 tW:Addr
 tX:FuncData
 VP:Addr
 QF:FuncData
 wU:Addr
 wV:FuncData
 VR:Addr
 V0:FuncData
 S8:Addr
 S9:FuncData
 zgd:Addr
 zge:FuncData
 vB:Addr
 vC:FuncData
 vM:Addr
 vN:FuncData
 zK:Addr
 zL:FuncData
 ZK:Addr
 ZL:FuncData
 Ys:Addr
 Yt:FuncData
 Ra:Addr
 Rb:FuncData
 ud:Addr
 uf:FuncData
 yO:Addr
 yP:FuncData
 vP:Addr
 vQ:FuncData
 ug:Addr
 uh:FuncData
 Z2:Addr
 Z4:FuncData
 Vh:Addr
 Vi:FuncData
 V1:Addr
 V2:FuncData
 K9:Addr
 Ja:FuncData
 Yu:Addr
 Yv:FuncData
 Te:Addr
 Tg:FuncData
 zcm:Addr
 zcn:FuncData
 QG:Addr
 QJ:FuncData
 J8:Addr
 J9:FuncData
 Ti:Addr
 Tj:FuncData
 Zk:Addr
 Zm:FuncData
 wL:Addr
 wM:FuncData
 uE:Addr
 uF:FuncData
 Uh:Addr
 Ui:FuncData
 YT:Addr
 YW:FuncData
 Xj:Addr
 Xk:FuncData
 Rf:Addr
 Rg:FuncData
 Uj:Addr
 Uk:FuncData
 QK:Addr
 QL:FuncData
 QM:Addr
 QS:FuncData
 a_law:Addr
 d_law:FuncData
 zj:Addr
 yQ:Addr
 vm:Addr
 Wd:Addr
 uo:Addr
 zW:Addr
 wW:Addr
 xK:Addr
 yj:Addr
 yR:Addr
 vD:Addr
 tY:Addr
 zbo:Addr
 zc0:Tok
 zgf:Tok
 Tn:Addr
 zjy:List (Str×Value)
 zc1:Tok
 zc2:Tok
structure Txt (P:Program)(w:World)(K:Frag)(mg:Str->Option Value)(a:Ad):Prop where
 zoH:mg "Book"=some (.ref a.zj)
 zgg:mg "BookError"=some (.ref a.yQ)
 zjz:mg "NoOrder"=some (.ref a.vm)
 zmS:mg "NoSentence"=some (.ref a.Wd)
 zld:mg "NoMark"=some (.ref a.uo)
 zgh:mg "NoRoom"=some (.ref a.zW)
 ziI:mg "NoRow"=some (.ref a.wW)
 MK:mg "NoNumber"=some (.ref a.xK)
 zaH:mg "NoWeights"=some (.ref a.yj)
 zco:mg "NoShares"=some (.ref a.yR)
 zjA:mg "NoCover"=some (.ref a.vD)
 zhB:mg "TooGreat"=some (.ref a.tY)
 wN:Df K mg "yes_rows" Sx a.wu a.wz xT
 MN:Df K mg "how_many" zca a.SN a.SQ W4
 MP:Df K mg "by_yeses" W5 a.SX a.S5 W6
 Jb:Df K mg "row_at" zf2 a.Qv a.Qw U0
 Rh:Df K mg "row_number" KH a.Wb a.Wc Yj
 zcp:Df K mg "counts" zf3 a.K7 a.K8 Qm
 Ul:Df K mg "counts_hold" Y9 a.Xf a.Xg Zx
 wO:Df K mg "is_of_rooms_below" vW a.xU a.xV yX
 Ri:Df K mg "count_by" zcb a.YL a.YM ZS
 zo4:Df K mg "doubled" zjt a.zjw a.zjx zju
 YX:Df K mg "all_rows" zcc a.YQ a.YS ZV
 V3:Df K mg "rows_with" zaA a.tU a.tV ux
 Tp:Df K mg "flipped" zdU a.Wy a.Wz YH
 zaa:Df K mg "held_at" zdV a.PB a.PJ U3
 zcq:Df K mg "hangs_on" zcd a.Mx a.Mz Sy
 NP:Df K mg "first_place" Nv a.Xh a.Xi Zy
 zab:Df K mg "is_mark" zdW a.Tc a.Td Wu
 zcr:Df K mg "is_order" Mu a.MF a.MJ SJ
 zcs:Df K mg "is_row" zce a.Qx a.Qy U4
 Rj:Df K mg "letters_of" KJ a.Ym a.Yn Zd
 Rk:Df K mg "parts_of" zcf a.ZW a.ZX tO
 Vj:Df K mg "parts_of_all" Qo a.Yo a.Yp tQ
 zaI:Df K mg "is_shaped" Vy a.Qz a.QB Vz
 NQ:Df K mg "is_sentence" Ub a.Ue a.Ug Xa
 RJ:Df K mg "must_be_order" Rz a.XJ a.XM ZJ
 Vk:Df K mg "must_be_sentence" W9 a.Z0 a.Z1 uD
 Tq:Df K mg "must_have_mark" U5 a.Zi a.Zj v7
 V4:Df K mg "must_have_marks" VB a.Yq a.Yr uV
 Xl:Df K mg "must_be_row" Nx a.ZD a.ZF uQ
 zaJ:Df K mg "tuples_in" zaB a.QC a.QD VD
 Jc:Df K mg "letters_in" KR a.S6 a.S7 X6
 M4:Df K mg "table_of" Mv a.Vf a.Vg YJ
 QT:Df K mg "table_of_two" Qq a.tW a.tX v8
 xg:Df K mg "must_be_weights" uW a.yO a.yP yF
 Xm:Df K mg "is_weighing" Xb a.vP a.vQ wZ
 Zn:Df K mg "must_be_shares" Zf a.ug a.uh vh
 Rn:Df K mg "is_share" zch a.Z2 a.Z4 tR
 Ro:Df K mg "lightest" Mw a.Vh a.Vi YK
 zaK:Df K mg "weight_of" VJ a.V1 a.V2 Xz
 zbp:Df K mg "loads" ziH a.K9 a.Ja Px
 Wf:Df K mg "loads_hold" X8 a.Yu a.Yv Zg
 zac:Df K mg "load_by" zdX a.Te a.Tg Wv
 zle:Df K mg "load_through" zci a.zcm a.zcn zcj
 Jd:Df K mg "chance" K5 a.QG a.QJ U7
 zdZ:Df K mg "part_of" Py a.J8 a.J9 Pz
 zad:Df K mg "product" zdY a.Ti a.Tj Wx
 Tr:Df K mg "common_measure" U8 a.Zk a.Zm v9
 xu:Df K mg "_law_cell_at" RG a.wL a.wM xX
 yD:Df K mg "_law_draw" K6 a.uE a.uF vK
 NT:Df K mg "_law_order" Nz a.Uh a.Ui Xd
 Tt:Df K mg "_law_sentence" uc a.YT a.YW Zh
 Xn:Df K mg "_law_which" Ud a.Xj a.Xk ZC
 zct:Df K mg "_law_is" zck a.Rf a.Rg Ve
 Xo:Df K mg "_law_asked" NK a.Uj a.Uk Xe
 zaL:Df K mg "_law_met" zaF a.QK a.QL VL
 zaM:Df K mg "_law_bad" zaG a.QM a.QS VN
 f_law:Df K mg "law" S_law a.a_law a.d_law p_law
 zaN:Dm K a.zj "__init__" "Book.__init__" zaC a.VP a.QF VG
 uG:Dm K a.zj "order" "Book.order" KZ a.wU a.wV wB
 QV:Dm K a.zj "size" "Book.size" zaD a.VR a.V0 Xx
 Je:Dm K a.zj "enter" "Book.enter" K1 a.S8 a.S9 X7
 znw:Dm K a.zj "room" "Book.room" zf9 a.zgd a.zge zga
 uL:Dm K a.zj "worth_at" "Book.worth_at" RB a.vB a.vC wK
 uH:Dm K a.zj "below" "Book.below" K3 a.vM a.vN wR
 zO:Dm K a.zj "must_be_room" "Book.must_be_room" XQ a.zK a.zL zH
 RK:Dm K a.zj "place_of" "Book.place_of" RD a.ZK a.ZL uK
 Wh:Dm K a.zj "going" "Book.going" K4 a.Ys a.Yt Ze
 Rp:Dm K a.zj "led" "Book.led" zcg a.Ra a.Rb Vb
 Zo:Dm K a.zj "room_with" "Book.room_with" U6 a.ud a.uf vg
 zY:Cls K a.zj
 zmT:Mk K a.zj a.VP
 vR:WW K a.zj "marks"
 vd:WW K a.zj "rooms"
 QW:WW K a.zj "tables"
 uM:WW K a.zj "numbers"
 zhC:Kz K a.vm
 zlz:Kz K a.Wd
 zjB:Kz K a.uo
 zjC:Kz K a.zW
 zlf:Kz K a.wW
 zgi:Kz K a.xK
 zeM:Kz K a.yj
 zgj:Kz K a.yR
 zhD:Kz K a.vD
 zgk:Kz K a.tY
 zoI:RN K a.yQ a.vm
 zlA:RN K a.yQ a.Wd
 zo5:RN K a.yQ a.uo
 zae:RN K a.yQ a.zW
 zcu:RN K a.yQ a.wW
 V5:RN K a.yQ a.xK
 Rq:RN K a.yQ a.yj
 QX:RN K a.yQ a.yR
 xb:zoB K a.yQ
 xd:[a.yQ,a.vm,a.Wd,a.uo,a.zW,a.wW,a.xK,a.yj,a.yR,a.vD,a.tY].Nodup
 zeN:mg "ValueError"=none
 zmU:mg "MARKS"=some (.ref a.zbo)
 zmV:∀H,vO K H a.zbo ((["a", "b", "c", "d", "e", "f", "g", "h"]:List Str).map V.str)
 zc3:mg "MOST_TUPLES"=some (.int 200 a.zc0)
 zgl:mg "MOST_DEEP"=some (.int 24 a.zgf)
 Jf:mg "SHAPES"=some (.ref a.Tn)
 Vl:Shp K P w a.Tn a.zjy wI
 NZ:mg "MOST_WEIGHT"=some (.int 1000000 a.zc1)
 N5:mg "MOST_BOTTOM"=some (.int 1000 a.zc2)
 znx:mg "abs"=none
 Tv:mg "all"=none
 zlg:mg "dict"=none
 zgm:mg "enumerate"=none
 yV:mg "isinstance"=none
 xr:mg "len"=none
 zeO:mg "list"=none
 zqs:mg "min"=none
 Wi:mg "range"=none
 zqt:mg "set"=none
 zlh:mg "sorted"=none
 zqu:mg "str"=none
 ziJ:mg "sum"=none
 ziK:mg "tuple"=none
 zny:mg "zip"=none
theorem x_law {K:Frag}{mg:Str->Option Value}{f:Addr}{d:FuncData}(F:Df K mg "law" S_law f d p_law):∀(s:Shared) (u:Value),BindsTo s d ⟨[u],[]⟩ [("script", u)]:=by
 obtain⟨_,_,_,_,_,_,_,_,_,rfl,_,_⟩:=F.F.ex
 exact fun s u=>.of_eq rfl
theorem zqv {P:Program}{w:World}{K:Frag}{mg:Str->Option Value}{x0 x2 x4 x6 x8 x10 x12 x14 x16 x18 x20 x22 x24 x26 x28 x30 x32 x34 x36 x38 x40 x42 x44 x46 x48 x50 x52 x54 x56 x58 x60 x62 x64 x66 x68 x70 x72 x74 x76 x78 x80 x82 x84 x86 x88 x90 x92 x94 x96 x98 x100 x102 x104 x106 x108 x110 x112 x114 x116 x118 x120 x122 x124 x126 x128 x130 x132 x134 x136 x138 x139 x140 x141 x142 x143 x144 x145 x146 x147 x148 x149 x150 x153:Addr}{x1 x3 x5 x7 x9 x11 x13 x15 x17 x19 x21 x23 x25 x27 x29 x31 x33 x35 x37 x39 x41 x43 x45 x47 x49 x51 x53 x55 x57 x59 x61 x63 x65 x67 x69 x71 x73 x75 x77 x79 x81 x83 x85 x87 x89 x91 x93 x95 x97 x99 x101 x103 x105 x107 x109 x111 x113 x115 x117 x119 x121 x123 x125 x127 x129 x131 x133 x135 x137:FuncData}{x151 x152 x155 x156:Tok}{x154:List (Str×Value)}(t:Txt P w K mg ⟨x0,x1,x2,x3,x4,x5,x6,x7,x8,x9,x10,x11,x12,x13,x14,x15,x16,x17,x18,x19,x20,x21,x22,x23,x24,x25,x26,x27,x28,x29,x30,x31,x32,x33,x34,x35,x36,x37,x38,x39,x40,x41,x42,x43,x44,x45,x46,x47,x48,x49,x50,x51,x52,x53,x54,x55,x56,x57,x58,x59,x60,x61,x62,x63,x64,x65,x66,x67,x68,x69,x70,x71,x72,x73,x74,x75,x76,x77,x78,x79,x80,x81,x82,x83,x84,x85,x86,x87,x88,x89,x90,x91,x92,x93,x94,x95,x96,x97,x98,x99,x100,x101,x102,x103,x104,x105,x106,x107,x108,x109,x110,x111,x112,x113,x114,x115,x116,x117,x118,x119,x120,x121,x122,x123,x124,x125,x126,x127,x128,x129,x130,x131,x132,x133,x134,x135,x136,x137,x138,x139,x140,x141,x142,x143,x144,x145,x146,x147,x148,x149,x150,x151,x152,x153,x154,x155,x156⟩):∃a,Txt P w K mg a:=⟨_,t⟩
end K40
namespace K40
open PySem L2 WX
section
variable {P:Program}{w:World}{K:Frag}{mg:Str->Option Value}{base:Heap}{a:Ad}{k:Nat}
theorem zgn (T:Txt P w K mg a):zB P w K mg base yd (k+1) a.YQ a.YS ZV Wo:=by
 refine T.YX.F.ok zf5 (fun vs H Q E h=>?_) (fun cdv A outer s H vs Q E hr h=>?_)
 ·obtain⟨n,rfl,_⟩:=h
  rfl
 obtain⟨n,rfl,hn,q⟩:=h
 refine⟨_,(zx (zR (zQ Yy (zQ Y5 zq (zQ Y5 zq (pv 0))) zq))),?_⟩
 have h1:=zi6 hn
 have one:1<2^10000:=zft (k:=1) (by decide) (by decide)
 refine⟨_,rfl,1,n,rfl,rfl,one,by omega,1,1*2^n,rfl,rfl,one,by omega,_,1,rfl,rfl,?_⟩
 have e:(((1*2^(1*2^n):Nat):Int)-1)=((2^2^n-1:Nat):Int):=by
  rw[Nat.one_mul,Nat.one_mul]
  have:=Nat.two_pow_pos (2^n)
  omega
 show Q (.int (((1*2^(1*2^n):Nat):Int)-1)) H
 rw[e]
 exact q
theorem zeP (T:Txt P w K mg a):zB P w K mg base yd (k+1) a.tU a.tV ux ZQ:=by
 refine T.V3.F.ok Yk (fun vs H Q E h=>?_) (fun cdv A outer s H vs Q E hr h=>?_)
 ·obtain⟨p,n,rfl,_⟩:=h
  rfl
 obtain⟨p,n,rfl,hp,hn,q⟩:=h
 refine⟨_,(zf (zN 2 Yk.nd (zQ Y5 zq (pv 0)))
   (zf (zN 3 Yk.nd (zQ Y5 (zQ Yy (zQ Y5 zq (pv 2)) zq) (pv 2)))
   (zf (ZP PassesOwn.never rfl (zdi rfl T.Wi (za (zQ vq (pv 0) zq) (za (pv 1) zc))) (wA (i:=4) Yk.nd rfl (Or.inl rfl)) (zx (zN 3 Yk.nd (zQ Jz (pv 3) (zQ Y5 (pv 3) (zQ Y5 zq (pv 4)))))))
   (zx (zR (pv 3)))))),?_⟩
 have one:1<2^10000:=zft (k:=1) (by decide) (by decide)
 have h1:=zi6 (n:=p) (by omega)
 have hh:2^p<2^10000:=Nat.pow_lt_pow_right (by decide) (by omega)
 have pp:=Nat.two_pow_pos (2^p)
 have e1:((1*2^(1*2^p):Nat):Int)-1=((2^2^p-1:Nat):Int):=by
  rw[Nat.one_mul,Nat.one_mul]
  omega
 have lt1:2^2^p-1<2^10000:=zvJ (Nat.sub_lt pp (by decide)) (zv5 (by decide) (by omega))
 refine⟨_,rfl,1,p,rfl,rfl,one,by omega,?_⟩
 refine⟨_,rfl,1,1*2^p,rfl,rfl,one,by omega,_,1,rfl,rfl,_,rfl,2^2^p-1,1*2^p,congrArg V.int e1,rfl,lt1,by omega,?_⟩
 refine⟨_,rfl,_,1,rfl,rfl,_,rfl,(p:Int)+1,(n:Int),rfl,⟨by omega,by omega,by omega,by omega⟩,?_⟩
 refine Wm (fun i σ H'=>H'=H/\∃(N:Nat) (f:Option V),σ=[some (.int p),some (.int n),some (.int ((1*2^p:Nat):Int)),some (.int N),f]/\xM (p+1+i) N (fun b=>b.testBit p)) ⟨rfl,_,_,rfl,?_⟩ ?_ ?_
 ·rw[Nat.one_mul]
  exact zi5 p
 ·rintro i σ H' hi ⟨rfl,N,f,rfl,tb⟩
  have hi':p+1+i<n:=by omega
  have h2:=zi6 (n:=p+1+i) (by omega)
  have e2:V.int ((p:Int)+1+(i:Nat))=V.int ((p+1+i:Nat):Int):=congrArg V.int (by omega)
  have lt2:N<2^10000:=zft (zkq tb) (zvV h2 (by decide))
  refine⟨_,rfl,_,rfl,_,rfl,1,p+1+i,rfl,e2,one,by omega,N,1*2^(p+1+i),rfl,rfl,lt2,by omega,N,N*2^(1*2^(p+1+i)),rfl,rfl,?_⟩
  refine⟨rfl,_,_,rfl,?_⟩
  rw[Nat.one_mul]
  exact zha (m:=p+1+i) (by omega) tb
 ·rintro σ H' ⟨rfl,N,f,rfl,tb⟩
  have e3:p+1+((n:Int)-((p:Int)+1)).toNat=n:=by omega
  rw[e3] at tb
  exact⟨_,rfl,q N tb⟩
theorem zhE (T:Txt P w K mg a)(uy:zB P w K mg base yd k a.tU a.tV ux ZQ):zB P w K mg base yd (k+1) a.Wy a.Wz YH Wq:=by
 refine T.Tp.F.ok Ms (fun vs H Q E h=>?_) (fun cdv A outer s H vs Q E hr h=>?_)
 ·obtain⟨N,p,n,f,rfl,_⟩:=h
  rfl
 obtain⟨N,p,n,f,rfl,hp,hn,tb,q⟩:=h
 refine⟨_,(zf (zN 3 Ms.nd (zQ zbf (pv 0) (zE uy hr T.V3 (za (pv 1) (za (pv 2) zc)))))
   (zf (zN 4 Ms.nd (zQ Ly (pv 0) (pv 3)))
   (zx (zR (zQ Jz (zQ zl2 (pv 3) (zQ Y5 zq (pv 1))) (zQ Y5 (pv 4) (zQ Y5 zq (pv 1)))))))),?_⟩
 have one:1<2^10000:=zft (k:=1) (by decide) (by decide)
 have h1:=zi6 (n:=p) (by omega)
 have h2:=zi6 (n:=n) (by omega)
 refine⟨_,rfl,_,rfl,_,rfl,p,n,rfl,hp,hn,fun R tr=>?_⟩
 refine⟨N,R,rfl,rfl,?_⟩
 refine⟨_,rfl,_,rfl,N,N&&&R,rfl,rfl,?_⟩
 have o:=Lx tb tr
 have z:=Q8 tb o
 have lt2:N ^^^ (N&&&R)<2^10000:=zft (zkq z) (zvV h2 (by decide))
 refine⟨_,rfl,_,rfl,1,p,rfl,rfl,one,by omega,N&&&R,1*2^p,rfl,rfl,_,rfl,_,rfl,1,p,rfl,rfl,one,by omega,N ^^^ (N&&&R),1*2^p,rfl,rfl,lt2,by omega,_,_,rfl,rfl,?_⟩
 refine q _ ?_
 rw[Nat.one_mul]
 exact zkr hp tb tr
theorem zhF (T:Txt P w K mg a):zB P w K mg base yd (k+1) a.wL a.wM xX (Lz K):=by
 refine T.xu.F.ok U9 (fun vs H Q E h=>?_) (fun cdv A outer s H vs Q E hr h=>?_)
 ·obtain⟨l,ns,i,rfl,_⟩:=h
  rfl
 obtain⟨l,ns,i,rfl,hS,h0,q⟩:=h
 refine⟨_,(zf (yr (zT zbw (pv 1) (zG zM rfl T.xr yw (za (pv 0) zc)) (zU _)) (zx (zR (yg yC (pv 0) (pv 1) (fun _ _=>rfl)))) z8)
   (zx (zR zq))),?_⟩
 refine⟨_,rfl,_,rfl,l,_,rfl,.inl hS,_,_,rfl,rfl,_,rfl,?_⟩
 refine yG (fun c=>?_) (fun c=>?_)
 ·have c':i<(((ns.map V.int).length:Nat):Int):=of_decide_eq_true c
  rw[zvA] at c'
  have hi:i.toNat<ns.length:=by omega
  have e:atI (ns.map V.int) i=some (.int ns[i.toNat]):=by
   have q:=vU (xs:=ns.map V.int) (j:=i.toNat) (v:=.int ns[i.toNat]) (by rw[zvC,zvB hi];rfl)
   have ei:((i.toNat:Nat):Int)=i:=by omega
   rw[ei] at q
   exact q
  exact⟨_,rfl,_,rfl,l,_,i,_,rfl,rfl,hS,e,q _⟩
 ·exact q 0
theorem zmW (T:Txt P w K mg a):zB P w K mg base yd (k+1) a.uE a.uF vK Mf:=by
 refine T.yD.F.ok uR (fun vs H Q E h=>?_) (fun cdv A outer s H vs Q E hr h=>?_)
 ·obtain⟨c,m,b,rfl,_⟩:=h
  rfl
 obtain⟨c,m,b,rfl,hm,b0,b1,q⟩:=h
 refine⟨_,(zf (yr (zT zfi (pv 0) (zQ zgT zq zq) (zU _)) (zf (zN 4 uR.nd (pv 0))
   (zf (ZP PassesOwn.never rfl (Wk rfl T.Wi (za (pv 1) zc)) (wA (i:=5) uR.nd rfl (Or.inl rfl)) (zx (zN 4 uR.nd (zQ zh3 (pv 4) (pv 2)))))
   (zx (zR (zQ Yz (pv 4) (pv 2)))))) z8)
   (zf (zN 3 uR.nd (zQ Yz (zQ Jr (zQ vq (zQ vq (zQ Yz (pv 0) zq) (zQ Jr zq (pv 1))) zq) zq) zq))
   (zf (zN 3 uR.nd (zQ Yz (zQ vq (zQ vq (zQ Jr (pv 3) (pv 3)) (zQ Jr zq (pv 1))) zq) zq))
   (zx (zR (zQ Yz (zQ zh3 (zQ Yz (zQ Jr (pv 3) zq) zq) zq) (pv 2))))))),?_⟩
 refine⟨_,rfl,10,18,rfl,rfl,⟨by decide,by decide,by decide⟩,_,_,rfl,rfl,_,rfl,?_⟩
 refine yG (fun _=>?_) (fun _=>?_)
 ·refine⟨_,rfl,?_⟩
  refine⟨_,rfl,(m:Int),rfl,by omega,by omega,?_⟩
  refine Wm (fun i σ H'=>H'=H/\∃(x:Int) (f1 f2:Option V),σ=[some (.int c),some (.int m),some (.int b),f1,some (.int x),f2]) ⟨rfl,c,_,_,rfl⟩ ?_ ?_
  ·rintro i σ H' hi ⟨rfl,x,f1,f2,rfl⟩
   refine⟨_,rfl,_,rfl,x,b,rfl,rfl,⟨b0,b1⟩,?_⟩
   exact⟨rfl,x / b,_,_,rfl⟩
  ·rintro σ H' ⟨rfl,x,f1,f2,rfl⟩
   refine⟨_,rfl,_,rfl,x,b,rfl,rfl,b0,?_⟩
   exact q _ (zwf _ (by omega)) (zwc _ b0)
 ·have p1:(0:Int)<1000000007:=by decide
  have p2:(0:Int)<2147483647:=by decide
  have p3:(0:Int)<2147483629:=by decide
  refine⟨_,rfl,c,1000000007,rfl,rfl,p1,_,rfl,1009,(m:Int),rfl,rfl,.inl ⟨by decide,by decide⟩,_,_,rfl,rfl,_,17,rfl,rfl,_,69621,rfl,rfl,.inr ⟨by decide,by decide⟩,_,2147483647,rfl,rfl,p2,?_⟩
  have z0:0<=(c%1000000007+1009*(m:Int)+17)*69621%2147483647:=zwf _ (by decide)
  have z1:(c%1000000007+1009*(m:Int)+17)*69621%2147483647<2147483647:=zwc _ p2
  refine⟨_,rfl,_,rfl,_,_,rfl,rfl,.inl ⟨Int.lt_of_lt_of_le (by decide) z0,Int.lt_trans z1 (by decide)⟩,_,rfl,40503,(m:Int),rfl,rfl,.inl ⟨by decide,by decide⟩,_,_,rfl,rfl,_,5,rfl,rfl,_,2147483629,rfl,rfl,p3,?_⟩
  refine⟨_,rfl,_,48271,rfl,rfl,.inr ⟨by decide,by decide⟩,_,2147483647,rfl,rfl,p2,_,32,rfl,rfl,⟨by decide,by decide⟩,_,rfl,_,b,rfl,rfl,b0,?_⟩
  exact q _ (zwf _ (by omega)) (zwc _ b0)
theorem zli (T:Txt P w K mg a)(yq:zB P w K mg base yd k a.uE a.uF vK Mf):zB P w K mg base yd (k+1) a.Uh a.Ui Xd zej:=by
 refine T.NT.F.ok Vd (fun vs H Q E h=>?_) (fun cdv A outer s H vs Q E hr h=>?_)
 ·obtain⟨c,n,rfl,_⟩:=h
  rfl
 obtain⟨c,n,rfl,hn,h8,q⟩:=h
 refine⟨_,(zf (zN 2 Vd.nd (yh zc))
   (zf (ZP PassesOwn.never rfl (Wk rfl T.Wi (za (zQ vq zq (zE yq hr T.yD (za (pv 0) (za zq (za (pv 1) zc))))) zc)) (wA (i:=3) Vd.nd rfl (Or.inl rfl)) (zx (zV (Zv PySem.F.plainAttrs_list PySem.F.slot_list_insert PySem.F.type_list_insert zi3 (pv 2) (za (zQ Yz (zE yq hr T.yD (za (pv 0) (za (zQ vq zq (pv 3)) (za zq zc)))) (zQ vq (pv 3) zq)) (za (yg zn2 xH (pv 3) (fun _ _=>rfl)) zc))))))
   (zx (zR (pv 2))))),?_⟩
 refine⟨by show 0<=sizeLine;decide,fun l hl=>?_⟩
 refine⟨_,rfl,_,rfl,c,0,(n:Int),rfl,by decide,by omega,by omega,fun r r0 r1=>?_⟩
 refine⟨1,r,rfl,rfl,1+r,rfl,by omega,by omega,?_⟩
 refine Wm (fun i σ H'=>∃(os:List Str) (f1:Option V),Same H H'/\H' l=some (.lst (os.map V.str))/\os.Nodup/\os.length=i/\(∀x∈os,x∈uU.take i)/\σ=[some (.int c),some (.int n),some (.ref l),f1])
  ⟨[],_,R6 hl _,zu,List.nodup_nil,rfl,(fun _ h=>nomatch h),rfl⟩ ?_ ?_
 ·rintro i σ H' hi ⟨os,f1,g,hl',nd,le,mem,rfl⟩
  have i8:i<8:=by omega
  obtain⟨ch,hc1,hc2⟩:=zl5 i8
  have e1:(1:Int)+(0+(i:Nat))=((1+i:Nat):Int):=by omega
  have e2:(0:Int)+(i:Nat)=((i:Nat):Int):=by omega
  refine⟨_,rfl,.inl ⟨rfl,_,zX.of hl'⟩,?_⟩
  refine⟨_,rfl,_,rfl,1,_,rfl,rfl,c,1+i,5040,congrArg (fun z=>[V.int c,V.int z,V.int 5040]) e1,by omega,by decide,by decide,fun r' s0 s1=>?_⟩
  refine⟨_,rfl,_,1,rfl,rfl,r',_,rfl,rfl,by show(0:Int)<0+(i:Nat)+1;omega,?_⟩
  refine⟨_,rfl,_,(i:Int),ch,rfl,congrArg V.int e2,by show(Str.ofString "abcdefgh").length<=sizeLine;decide,hc1,?_⟩
  have m0:0<=r'%(0+(i:Nat)+1):=zwf _ (by omega)
  have m1:r'%(0+(i:Nat)+1)<0+(i:Nat)+1:=zwc _ (by omega)
  generalize hj:r'%(0+((i:Nat):Int)+1)=j at m0 m1
  refine⟨l,os.map V.str,j,_,rfl,by rw[<-hj],hl',m0,by rw[zvA];omega,by rw[zvA];exact zvJ (show os.length<9 by omega) (by decide),?_⟩
  have nm:(⟨#[ch]⟩:Str)∉os:=fun hm=>zkt hc2 (mem _ hm)
  have ml:∀x∈uU.take i,x∈uU.take (i+1):=fun x hx=>by
   rw[List.take_succ]
   exact List.mem_append_left _ hx
  have mn:(⟨#[ch]⟩:Str)∈uU.take (i+1):=by
   rw[List.take_succ,hc2]
   exact zvR _ (by simp)
  refine⟨os.take j.toNat++(⟨#[ch]⟩:Str)::os.drop j.toNat,_,?_,?_,?_,?_,?_,rfl⟩
  ·exact fun b o hb=>by rw[zJ (zF hb hl)];exact g b o hb
  ·rw[zu]
   simp
  ·refine List.perm_middle.nodup_iff.mpr (List.nodup_cons.mpr ⟨?_,?_⟩)
   ·rw[List.take_append_drop];exact nm
   ·rw[List.take_append_drop];exact nd
  ·rw[zvI,zvM,zvX,List.length_drop]
   omega
  ·intro x hx
   rcases List.mem_append.mp hx with z | z
   ·exact ml x (mem x (List.mem_of_mem_take z))
   ·rcases List.mem_cons.mp z with z | z
    ·rw[z];exact mn
    ·exact ml x (mem x (List.mem_of_mem_drop z))
 ·rintro σ H' ⟨os,f1,g,hl',nd,le,mem,rfl⟩
  refine⟨_,rfl,q l H' os g hl' ⟨nd,fun x hx=>List.mem_of_mem_take (mem x hx),by omega⟩ (by omega)⟩
theorem zgo (T:Txt P w K mg a)(xY:zB P w K mg base yd k a.wL a.wM xX (Lz K))(yq:zB P w K mg base yd k a.uE a.uF vK Mf) :
  zB P w K mg base yd (k+1) a.YT a.YW Zh (Mh K):=by
 refine T.Tt.F.ok yN (fun vs H Q E h=>?_) (fun cdv A outer s H vs Q E hr h=>?_)
 ·obtain⟨sc,ol,ns,t,m,os,rfl,_⟩:=h
  rfl
 obtain⟨sc,ol,ns,t,m,os,rfl,hS,hO,o0,o8,m0,m40,t60,q⟩:=h
 obtain⟨st0,h0⟩:∃st0,st0=(vV uc).headD (.Pass ⟨0,0,0,0⟩):=⟨_,rfl⟩
 have hb:vV uc=st0::(vV uc).tail:=by rw[h0];rfl
 rw[hb]
 have hk:zeh st0=some (Str.ofString "kinds", Mg):=by rw[h0];rfl
 refine⟨_,zf (zl4 (i:=4) hk yN.nd rfl (Or.inl rfl) (.inl rfl)) (zf (zN 5 yN.nd (yh (za (yL (za xH (za (yg yC (pv 3) (zQ Yz (zE yq hr T.yD (za (zE xY hr T.xu (za (pv 0) (za (pv 1) zc))) (za zq (za zq zc)))) (zG zM rfl T.xr yw (za (pv 3) zc))) (fun _ _=>rfl)) zc))) zc)))
   (zf (ZP PassesOwn.never rfl (zdi rfl T.Wi (za zq (za (pv 2) zc))) (wA (i:=6) yN.nd rfl (Or.inl rfl)) (zf (zN 7 yN.nd (zE xY hr T.xu (za (pv 0) (za (zQ vq (pv 1) (pv 6)) zc))))
   (zf (zN 8 yN.nd (yg yC (pv 4) (zE yq hr T.yD (za (pv 7) (za zq (za zq zc)))) (fun _ _=>rfl)))
   (zf (zN 9 yN.nd (yg yC (pv 5) (zQ Yy (RX WT zq) (zQ Yz (zE yq hr T.yD (za (pv 7) (za zq (za zq zc)))) (zG zM rfl T.xr yw (za (pv 5) zc)))) (fun _ _=>rfl)))
   (zf (zN 10 yN.nd (yg yC (pv 5) (zQ Yz (zE yq hr T.yD (za (pv 7) (za zq (za zq zc)))) (zG zM rfl T.xr yw (za (pv 5) zc))) (fun _ _=>rfl)))
   (zf (zN 11 yN.nd (yg yC (pv 3) (zQ Yz (zE yq hr T.yD (za (pv 7) (za zq (za zq zc)))) (zG zM rfl T.xr yw (za (pv 3) zc))) (fun _ _=>rfl)))
   (zx (yr (PW.pt (Uq (zT xG (pv 8) xH (zU _)) (XC (zT xG (pv 8) xH (zU _))))) (zx (zV (Zv PySem.F.plainAttrs_list PySem.F.slot_list_append PySem.F.type_list_append uN (pv 5) (za (yL (za (pv 8) zc)) zc)))) (zx (yr (zT xG (pv 8) xH (zU _)) (zx (zV (Zv PySem.F.plainAttrs_list PySem.F.slot_list_append PySem.F.type_list_append uN (pv 5) (za (yL (za xH (za (pv 11) zc))) zc)))) (zx (yr (zT xG (pv 8) xH (zU _)) (zx (zV (Zv PySem.F.plainAttrs_list PySem.F.slot_list_append PySem.F.type_list_append uN (pv 5) (za (yL (za xH (za (pv 9) zc))) zc)))) (zx (yr (PW.pt (Uq (zT xG (pv 8) xH (zU _)) (XC (zT xG (pv 8) xH (zU _))))) (zx (zV (Zv PySem.F.plainAttrs_list PySem.F.slot_list_append PySem.F.type_list_append uN (pv 5) (za (yL (za (pv 8) (za (pv 11) (za (pv 9) zc)))) zc)))) (zx (zV (Zv PySem.F.plainAttrs_list PySem.F.slot_list_append PySem.F.type_list_append uN (pv 5) (za (yL (za (pv 8) (za (pv 10) (za (pv 9) zc)))) zc))))))))))))))))))
   (zx (zR (yg yC (pv 5) (RX WT zq) (fun _ _=>rfl)))))),?_⟩
 refine⟨by show 14<=sizeLine;decide,fun kd hkd=>?_⟩
 have g1:=R6 hkd (.lst (Mg.map V.str))
 have hS1:=g1.seq hS
 have hO1:=g1.seq hO
 refine⟨_,rfl,_,rfl,_,rfl,sc,ns,(t:Int),rfl,hS1,by omega,fun c0=>?_⟩
 refine⟨c0,3,40320,rfl,by decide,by decide,by decide,fun r0 _ _=>?_⟩
 obtain⟨x0,hx0,hx0'⟩:=zav o0 r0
 have pl:(0:Int)<((os.map V.str).length:Nat):=by rw[zvA];omega
 refine⟨_,rfl,ol,_,rfl,.inl hO1,_,_,rfl,rfl,pl,ol,_,_,.str x0,rfl,rfl,hO1,hx0',by show 2<=sizeLine;decide,fun p0 hp0=>?_⟩
 refine⟨by show 1<=sizeLine;decide,fun md hmd=>?_⟩
 have g2:=R6 hp0 (.tup [.str "mark", .str x0])
 have g3:=R6 hmd (.lst [.ref p0])
 have f0:H md=none:=(g1.trans g2).free hmd
 have nk:md≠kd:=Ne.symm (zF (g2 _ _ zu) hmd)
 have M0:Made H (upd (upd (upd H kd (.lst (Mg.map V.str))) p0 (.tup [.str "mark", .str x0])) md (.lst [.ref p0])) os md kd [p0] 1:=by
  refine⟨g1.trans (g2.trans g3),zu,g3 _ _ (g2 _ _ zu),by simp,fun p hp=>?_⟩
  have e:p=p0:=by simpa using hp
  subst e
  exact⟨.mk x0,g3 _ _ zu,hx0,zvQ _⟩
 refine⟨_,rfl,1,(m:Int),rfl,⟨by omega,by omega,by omega,by omega⟩,?_⟩
 refine Wm (fun i σ H'=>∃(ps:List Addr) (f1 f2 f3 f4 f5 f6:Option V),Made H H' os md kd ps (i+1)/\ps.length=i+1/\σ=[some (.ref sc),some (.int t),some (.int m),some (.ref ol),some (.ref kd),some (.ref md),f1,f2,f3,f4,f5,f6])
  ⟨[p0],_,_,_,_,_,_,M0,rfl,rfl⟩ ?_ ?_
 ·rintro i σ H' hi ⟨ps,f1,f2,f3,f4,f5,f6,M,lp,rfl⟩
  have hS2:=M.old.seq hS
  have hO2:=M.old.seq hO
  have e1:(t:Int)+(1+(i:Nat))=((t+(1+i):Nat):Int):=by omega
  refine⟨_,rfl,_,rfl,_,rfl,_,_,rfl,rfl,sc,ns,_,rfl,hS2,by omega,fun c=>?_⟩
  refine⟨_,rfl,_,rfl,c,0,14,rfl,by decide,by decide,by decide,fun d d0 d1=>?_⟩
  obtain⟨jk,vk,qk1,qk2⟩:=Pa (xs:=Mg.map V.str) (i:=d) (by show -((14:Nat):Int)<=d;omega) (by show d<((14:Nat):Int);omega)
  obtain⟨kind,hkm,hkv⟩:∃kind,kind∈Mg/\vk=.str kind:=by
   rw[zvC] at qk2
   cases hx:Mg[jk]? with
   | none=>rw[hx] at qk2;cases qk2
   | some x=>rw[hx] at qk2;cases qk2;exact⟨x,zvF hx,rfl⟩
  subst hkv
  refine⟨kd,_,_,_,rfl,rfl,zX.of M.kin,qk1,?_⟩
  have lm:((ps.map V.ref).length:Nat)=i+1:=by rw[zvA];exact lp
  have pm:(0:Int)<((ps.map V.ref).length:Nat):=by rw[lm];omega
  refine⟨_,rfl,1,rfl,_,rfl,c,1,2,rfl,by decide,by decide,by decide,fun d2 _ _=>?_⟩
  refine⟨_,rfl,md,_,rfl,.inl (zX.of M.mad),_,_,rfl,rfl,pm,_,_,rfl,rfl,?_⟩
  have a0:=zwf d2 (show((ps.map V.ref).length:Int)≠0 by omega)
  have a1:=zwc d2 pm
  obtain⟨q1,hq1,hq1'⟩:=JB (ps:=ps) (i:=-1-d2%((ps.map V.ref).length:Nat)) (by rw[lm] at a0 a1 ⊢;omega) (by rw[lm] at a0 a1 ⊢;omega)
  refine⟨md,_,_,_,rfl,rfl,zX.of M.mad,hq1',?_⟩
  refine⟨_,rfl,_,rfl,c,2,60,rfl,by decide,by decide,by decide,fun d3 _ _=>?_⟩
  refine⟨_,rfl,md,_,rfl,.inl (zX.of M.mad),_,_,rfl,rfl,pm,?_⟩
  have b0:=zwf d3 (show((ps.map V.ref).length:Int)≠0 by omega)
  have b1:=zwc d3 pm
  obtain⟨q2,hq2,hq2'⟩:=JB (ps:=ps) (i:=d3%((ps.map V.ref).length:Nat)) (by rw[lm] at b0 b1 ⊢;omega) (by rw[lm] at b0 b1 ⊢;omega)
  refine⟨md,_,_,_,rfl,rfl,zX.of M.mad,hq2',?_⟩
  refine⟨_,rfl,_,rfl,c,3,40320,rfl,by decide,by decide,by decide,fun d4 _ _=>?_⟩
  obtain⟨x,hx,hx'⟩:=zav o0 d4
  refine⟨_,rfl,ol,_,rfl,.inl hO2,_,_,rfl,rfl,pl,ol,_,_,.str x,rfl,rfl,hO2,hx',?_⟩
  obtain⟨s1,s1i,s1o,s1d⟩:=M.all q1 hq1
  obtain⟨s2,s2i,s2o,s2d⟩:=M.all q2 hq2
  have big:ps.length<sizeLine:=Nat.lt_of_le_of_lt (show ps.length<=100 by omega) (by decide)
  have zhG:(ps.map V.ref).length<sizeLine:=by rw[zvA];exact big
  have mdu:∀(p:Addr) (o:HO),H' p=none->(upd H' p o) md=some (.lst (ps.map V.ref)):=fun p o hp=>by rw[zJ (zF M.mad hp)];exact M.mad
  have fin:∀(p:Addr) (xs:List V) (s':Sn),H' p=none->P0 (upd H' p (.tup xs)) s' p->s'.Jp os->s'.depth<=i+1+1 ->
    ∃(ps':List Addr) (f1 f2 f3 f4 f5 f6:Option V),Made H (upd (upd H' p (.tup xs)) md (.lst (ps.map V.ref++[.ref p]))) os md kd ps' (i+1+1)/\ps'.length=i+1+1 /\
     [some (.ref sc),some (.int t),some (.int m),some (.ref ol),some (.ref kd),some (.ref md),some (.int (1+(i:Nat))),some (.int c),some (.str kind),some (.ref q1),some (.ref q2),some (.str x)]=[some (.ref sc),some (.int t),some (.int m),some (.ref ol),some (.ref kd),some (.ref md),f1,f2,f3,f4,f5,f6]:=fun p xs s' hp hs ho hd=>by
   have:=M.push f0 hp hs ho hd nk
   rw[zvO] at this
   exact⟨ps++[p],_,_,_,_,_,_,this,by simp[lp],rfl⟩
  refine⟨_,rfl,rfl,_,rfl,yG (fun c1=>?_) (fun c1=>?_)⟩
  ·have ek:kind="yes" := by have:=of_decide_eq_true c1;cases this;rfl
   subst ek
   refine uY ⟨_,rfl,.inl ⟨rfl,_,zX.of M.mad⟩,_,rfl,by show 1<=sizeLine;decide,fun p hp=>⟨md,_,_,rfl,rfl,mdu p _ hp,zhG,?_⟩⟩
   exact fin p _ (.c0 true) hp zu trivial (by show 1<=_;omega)
  have n1:kind ≠ "yes" := fun e=>c1 (decide_eq_true (by rw[e]))
  refine⟨_,rfl,rfl,_,rfl,yG (fun c2=>?_) (fun c2=>?_)⟩
  ·have ek:kind="no" := by have:=of_decide_eq_true c2;cases this;rfl
   subst ek
   refine⟨_,rfl,.inl ⟨rfl,_,zX.of M.mad⟩,_,rfl,by show 1<=sizeLine;decide,fun p hp=>⟨md,_,_,rfl,rfl,mdu p _ hp,zhG,?_⟩⟩
   exact fin p _ (.c0 false) hp zu trivial (by show 1<=_;omega)
  have n2:kind ≠ "no" := fun e=>c2 (decide_eq_true (by rw[e]))
  refine⟨_,rfl,rfl,_,rfl,yG (fun c3=>?_) (fun c3=>?_)⟩
  ·have ek:kind="mark" := by have:=of_decide_eq_true c3;cases this;rfl
   subst ek
   refine⟨_,rfl,.inl ⟨rfl,_,zX.of M.mad⟩,_,rfl,by show 2<=sizeLine;decide,fun p hp=>⟨md,_,_,rfl,rfl,mdu p _ hp,zhG,?_⟩⟩
   exact fin p _ (.mk x) hp zu hx (by show 1<=_;omega)
  have n3:kind ≠ "mark" := fun e=>c3 (decide_eq_true (by rw[e]))
  refine⟨_,rfl,rfl,_,rfl,yG (fun c4=>?_) (fun c4=>?_)⟩
  ·have ek:kind="not" := by have:=of_decide_eq_true c4;cases this;rfl
   subst ek
   refine⟨_,rfl,.inl ⟨rfl,_,zX.of M.mad⟩,_,rfl,by show 2<=sizeLine;decide,fun p hp=>⟨md,_,_,rfl,rfl,mdu p _ hp,zhG,?_⟩⟩
   exact fin p _ (.nt s1) hp ⟨q1,zu,s1i.mono (xO.new hp _)⟩ s1o (by show 1+s1.depth<=_;omega)
  have n4:kind ≠ "not" := fun e=>c4 (decide_eq_true (by rw[e]))
  refine⟨_,rfl,rfl,_,rfl,yG (fun c5=>?_) (fun c5=>?_)⟩
  ·have ek:kind="some" := by have:=of_decide_eq_true c5;cases this;rfl
   subst ek
   refine uY ⟨_,rfl,.inl ⟨rfl,_,zX.of M.mad⟩,_,rfl,_,rfl,_,rfl,by show 3<=sizeLine;decide,fun p hp=>⟨md,_,_,rfl,rfl,mdu p _ hp,zhG,?_⟩⟩
   exact fin p _ (.q1 true x s1) hp ⟨q1,zu,s1i.mono (xO.new hp _)⟩ ⟨hx,s1o⟩ (by show 1+s1.depth<=_;omega)
  have n5:kind ≠ "some" := fun e=>c5 (decide_eq_true (by rw[e]))
  refine⟨_,rfl,rfl,_,rfl,yG (fun c6=>?_) (fun c6=>?_)⟩
  ·have ek:kind="each" := by have:=of_decide_eq_true c6;cases this;rfl
   subst ek
   refine⟨_,rfl,.inl ⟨rfl,_,zX.of M.mad⟩,_,rfl,_,rfl,_,rfl,by show 3<=sizeLine;decide,fun p hp=>⟨md,_,_,rfl,rfl,mdu p _ hp,zhG,?_⟩⟩
   exact fin p _ (.q1 false x s1) hp ⟨q1,zu,s1i.mono (xO.new hp _)⟩ ⟨hx,s1o⟩ (by show 1+s1.depth<=_;omega)
  have n6:kind ≠ "each" := fun e=>c6 (decide_eq_true (by rw[e]))
  obtain⟨o,ho⟩:∃o:Fin 4,kind=w2 o:=by
   have:kind∈([Str.ofString "mark", Str.ofString "mark", Str.ofString "not", Str.ofString "and", Str.ofString "or", Str.ofString "either", Str.ofString "if", Str.ofString "and", Str.ofString "or", Str.ofString "some", Str.ofString "each", Str.ofString "yes", Str.ofString "no", Str.ofString "mark"]:List Str):=hkm
   simp only[List.mem_cons,zv0,or_false] at this
   rcases this with h | h | h | h | h | h | h | h | h | h | h | h | h | h<;>first | exact absurd h n1 | exact absurd h n2 | exact absurd h n3 | exact absurd h n4 | exact absurd h n5 | exact absurd h n6 | exact⟨0,h⟩ | exact⟨1,h⟩ | exact⟨2,h⟩ | exact⟨3,h⟩
  subst ho
  refine⟨_,rfl,.inl ⟨rfl,_,zX.of M.mad⟩,_,rfl,_,rfl,_,rfl,by show 3<=sizeLine;decide,fun p hp=>⟨md,_,_,rfl,rfl,mdu p _ hp,zhG,?_⟩⟩
  exact fin p _ (.b2 o s2 s1) hp ⟨q2,q1,zu,s2i.mono (xO.new hp _),s1i.mono (xO.new hp _)⟩ ⟨s2o,s1o⟩ (by show 1+max s2.depth s1.depth<=_;omega)
 ·rintro σ H' ⟨ps,f1,f2,f3,f4,f5,f6,M,lp,rfl⟩
  obtain⟨p,hp,hp'⟩:=JB (ps:=ps) (i:=-1) (by omega) (by omega)
  obtain⟨s',z1,z2,z3⟩:=M.all p hp
  have e:((m:Int)-1).toNat+1=m:=by omega
  rw[e] at z3
  exact⟨_,rfl,1,rfl,md,_,-1,_,rfl,rfl,zX.of M.mad,hp',q p H' s' M.old z1 z2 z3⟩
theorem zhH (T:Txt P w K mg a):zB P w K mg base yd (k+1) a.Tc a.Td Wu Uw:=by
 refine T.zab.F.ok zhy (fun vs H Q E h=>?_) (fun cdv A outer s H vs Q E hr h=>?_)
 ·obtain⟨x,rfl,_⟩:=h
  rfl
 obtain⟨x,rfl,q⟩:=h
 refine⟨_,(zx (zR (wH Q6 (pv 0) (wG (v:=.ref a.zbo) rfl T.zmU rfl) (by with_unfolding_all rfl)))),?_⟩
 refine⟨_,rfl,a.zbo,uU.map V.str,rfl,.inr (T.zmV H),rfl,Uv _,?_⟩
 show Q (.bl (inV (.str x) (uU.map V.str))) H
 rw[zfy]
 exact q
theorem zgp (T:Txt P w K mg a)(zaf:zB P w K mg base yd k a.Tc a.Td Wu Uw):zB P w K mg base yd (k+1) a.MF a.MJ SJ (JF K):=by
 refine T.zcr.F.ok zf7 (fun vs H Q E h=>?_) (fun cdv A outer s H vs Q E hr h=>?_)
 ·obtain⟨l,os,rfl,_⟩:=h
  rfl
 obtain⟨l,os,rfl,hq,h100,q⟩:=h
 refine⟨_,(zx (zR (WK (wH zdk (zG zM rfl T.xr yw (za (pv 0) zc)) zq (zU _)) (WK (zG (vY rfl) rfl T.Tv YC (za (vX (uZ:=zA Mu) (js:=[]) rfl (by show Z6 _ _ "letter" [];exact lco (by decide +kernel)) rfl (yZ (pv 0)) (by show ∀j∈([]:List Nat),j<1;decide) (fun cl C s₂ H₂ fp=>(zE zaf hr T.zab (za (pv 0) zc)))) zc)) (N6 (wH xG (zG call_len_set' rfl T.xr yw (za (Us (zkm rfl) rfl T.zqt zob (za (pv 0) zc)) zc)) (zG zM rfl T.xr yw (za (pv 0) zc)) (zU _))))))),?_⟩
 have hlen:(os.map V.str).length=os.length:=zvA _
 refine⟨_,rfl,l,_,rfl,.inl hq,_,_,rfl,rfl,_,rfl,yG (fun c=>?_) (fun c=>?_)⟩
 ·have c':0<os.length:=by have:=of_decide_eq_true c;rw[hlen] at this;omega
  refine⟨_,rfl,l,rfl,⟨_,hq⟩,zek (fun x v=>v=(match x with | .str y=>.bl (decide (y∈uU)) | _=>.non)) hq (by rw[hlen];exact zvS (yc (by omega))) ?_ (zfx zaw) ?_⟩
  ·intro i x H' hx g
   rw[zvC] at hx
   cases ho:os[i]? with
   | none=>rw[ho] at hx;cases hx
   | some y =>
    rw[ho] at hx
    cases hx
    exact⟨_,rfl,y,rfl,rfl,g⟩
  ·intro ys H' p hr' g hp
   have e:=JC (f:=fun x=>match x with | .str y=>.bl (decide (y∈uU)) | _=>.non) hr'
   rw[zwa] at e
   have e2:ys=(os.map fun y=>decide (y∈uU)).map V.bl:=by rw[e,zwa];rfl
   subst e2
   have g1:=Same.new hp (.lst ((os.map fun y=>decide (y∈uU)).map V.bl))
   refine⟨p,_,rfl,zX.of zu,_,rfl,yG (fun c2=>?_) (fun c2=>?_)⟩
   ·have hq2:=(g.trans g1).seq hq
    refine⟨_,rfl,l,os,rfl,hq2,h100,fun z hz=>⟨z,_,rfl,zu,?_⟩⟩
    have g2:=Same.new hz (zlX P w z (dd os).length)
    refine⟨_,rfl,l,_,rfl,.inl (g2.seq hq2),rfl,?_⟩
    have e3:decide (V.int ((dd os).length:Nat)=V.int ((os.map V.str).length:Nat))=zen os:=by
     unfold zen
     have c2':os.all (fun x=>decide (x∈uU))=true:=by rw[List.all_map] at c2;exact c2
     rw[decide_eq_true c',c2',hlen]
     by_cases nd:os.Nodup
     ·rw[decide_eq_true nd,zki nd];simp
     ·have:=zn8 nd
      rw[decide_eq_false nd,decide_eq_false (fun z=>by injection z with z;omega)];rfl
    rw[e3]
    exact q _ ((g.trans g1).trans g2)
   ·have e4:zen os=false:=by
     unfold zen
     have c2':os.all (fun x=>decide (x∈uU))=false:=by
      rw[List.all_map] at c2
      exact Bool.eq_false_iff.mpr c2
     rw[c2',Bool.false_and,Bool.and_false]
    rw[<-e4]
    exact q _ (g.trans g1)
 ·have e4:zen os=false:=by
   unfold zen
   rw[decide_eq_false (fun z=>c (decide_eq_true (by rw[hlen];omega))),Bool.false_and]
  rw[<-e4]
  exact q _ (Same.refl _)
theorem zc4 (T:Txt P w K mg a):zB P w K mg base yd (k+1) a.Ym a.Yn Zd Xr:=by
 refine T.Rj.F.ok zcW (fun vs H Q E h=>?_) (fun cdv A outer s H vs Q E hr h=>?_)
 ·obtain⟨p,x,m,n,rest,rfl,_⟩:=h
  rfl
 obtain⟨p,x,m,n,rest,rfl,hp,hm,hl,q⟩:=h
 refine⟨_,(zx (zR (zbz zg3 (pv 0) (zbc zq) (zbc (zQ vq zq (yg wD (yg (zee T.Vl.d) (wG (v:=.ref a.Tn) rfl T.Jf rfl) (yg wD (pv 0) zq (fun _ _=>rfl)) (fun _ _=>rfl)) zq (fun _ _=>rfl))))))),?_⟩
 obtain⟨pt,hv,hpt⟩:=T.Vl.y x m n hm
 refine⟨_,rfl,1,rfl,_,rfl,p,_,0,_,rfl,rfl,vO.of hp,at0,x,.ref pt,.ref pt,rfl,rfl,hv,rfl,pt,_,0,_,rfl,rfl,hpt H,at0,1,(m:Int),rfl,rfl,_,rfl,p,_,rfl,vO.of hp,zbH (by decide),fun z hz=>?_⟩
 rw[zku hl]
 exact q z hz
theorem zgq (T:Txt P w K mg a):zB P w K mg base yd (k+1) a.ZW a.ZX tO YD:=by
 refine T.Rk.F.ok zf8 (fun vs H Q E h=>?_) (fun cdv A outer s H vs Q E hr h=>?_)
 ·obtain⟨p,x,m,n,rest,rfl,_⟩:=h
  rfl
 obtain⟨p,x,m,n,rest,rfl,hp,hm,hl,q⟩:=h
 refine⟨_,(zx (zR (zbz zg3 (pv 0) (zbc (zQ vq zq (yg wD (yg (zee T.Vl.d) (wG (v:=.ref a.Tn) rfl T.Jf rfl) (yg wD (pv 0) zq (fun _ _=>rfl)) (fun _ _=>rfl)) zq (fun _ _=>rfl)))) zib))),?_⟩
 obtain⟨pt,hv,hpt⟩:=T.Vl.y x m n hm
 refine⟨_,rfl,_,rfl,p,_,0,_,rfl,rfl,vO.of hp,at0,x,.ref pt,.ref pt,rfl,rfl,hv,rfl,pt,_,0,_,rfl,rfl,hpt H,at0,1,(m:Int),rfl,rfl,_,rfl,p,_,rfl,vO.of hp,zbH (by omega),fun z hz=>?_⟩
 rw[zkv hl]
 exact q z hz
theorem za0 (T:Txt P w K mg a)(tZ:zB P w K mg base yd k a.ZW a.ZX tO YD):zB P w K mg base yd (k+1) a.Yo a.Yp tQ (X4 K):=by
 refine T.Vj.F.ok XH (fun vs H Q E h=>?_) (fun cdv A outer s H vs Q E hr h=>?_)
 ·obtain⟨l,ss,ps,rfl,_⟩:=h
  rfl
 obtain⟨l,ss,ps,rfl,hl,hp,hz,q⟩:=h
 refine⟨_,(zf (zN 1 XH.nd (yh zc))
   (zf (ZP PassesOwn.never rfl (yZ (pv 0)) (wA (i:=2) XH.nd rfl (Or.inl rfl)) (zx (zV (Zv PySem.F.plainAttrs_list PySem.F.slot_list_extend PySem.F.type_list_extend zbD (pv 1) (za (zE tZ hr T.Rk (za (pv 2) zc)) zc)))))
   (zx (zR (pv 1))))),?_⟩
 have pl:=yJ hp
 refine⟨by show 0<=sizeLine;decide,fun f hf=>?_⟩
 have g0:=Same.new hf (.lst [])
 refine⟨_,rfl,l,rfl,⟨_,g0.seq hl⟩,?_⟩
 refine WQ (xs:=ps.map V.ref) (fun i σ H'=>∃(qs:List Addr) (f1:Option V),Same H H'/\H' f=some (.lst (qs.map V.ref))/\Paired (P0 H') ((ss.take i).flatMap Sn.parts) qs/\qs.length<=2*i/\i<=ss.length/\σ=[some (.ref l),some (.ref f),f1])
  ⟨[],_,g0,zu,.nil,by simp,zvW _,rfl⟩ ?_ ?_ ?_
 ·rintro i σ H' _ ⟨qs,f1,g,_⟩
  exact g.seq hl
 ·rintro i x σ H' hx ⟨qs,f1,g,hf',hqs,lq,li,rfl⟩
  rw[zvC] at hx
  cases ho:ps[i]? with
  | none=>rw[ho] at hx;cases hx
  | some p =>
   rw[ho] at hx
   cases hx
   obtain⟨sn,hsn,isp⟩:=Nm hp ho
   have hlt:=(zvD.mp hsn).1
   obtain⟨zs,c1,c2,c3,c4,c5⟩:=LQ (isp.mono (xO.of g))
   have lz:=yJ c2
   have lp2:=Sn.LC sn
   refine⟨_,rfl,.inl ⟨rfl,_,zX.of hf'⟩,_,rfl,p,sn.word,sn.letters.length,sn.parts.length,_,rfl,c1,Yd sn,c3,fun b hb=>?_⟩
   rw[c5]
   have nfb:f≠b:=zF hf' hb
   have hf2:(upd H' b (.tup (zs.map V.ref))) f=some (.lst (qs.map V.ref)):=by rw[zJ nfb];exact hf'
   refine⟨f,b,qs.map V.ref,zs.map V.ref,rfl,rfl,hf2,?_,?_,?_⟩
   ·exact vO.of zu
   ·rw[zvA,zvA]
    exact zvS (yc (by omega))
   ·refine⟨qs++zs,_,(g.trans (Same.new hb _)).over hf _,by rw[zu,zvO],?_,?_,hlt,rfl⟩
    ·rw[vZ hsn,List.flatMap_append,List.flatMap_singleton]
     have t1:xO H' (upd (upd H' b (.tup (zs.map V.ref))) f (.lst (qs.map V.ref++zs.map V.ref))):=(xO.new hb _).trans (xO.lst hf2 _)
     exact WY (vA (fun _ _ z=>z.mono t1) hqs) (vA (fun _ _ z=>z.mono t1) c2)
    ·rw[zvI];omega
 ·rintro σ H' ⟨qs,f1,g,hf',hqs,lq,li,rfl⟩
  rw[zvA,<-pl,zv2] at hqs
  exact⟨_,rfl,q f H' qs g hf hf' hqs⟩
theorem zeQ (T:Txt P w K mg a)(zaf:zB P w K mg base yd k a.Tc a.Td Wu Uw)(Rr:zB P w K mg base yd k a.Ym a.Yn Zd Xr)(tZ:zB P w K mg base yd k a.ZW a.ZX tO YD) :
  zB P w K mg base yd (k+1) a.Qz a.QB Vz LR:=by
 refine T.zaI.F.ok KN (fun vs H Q E h=>?_) (fun cdv A outer s H vs Q E hr h=>?_)
 ·obtain⟨p,s,rfl,_⟩:=h
  rfl
 obtain⟨p,sn,rfl,isp,hle,q⟩:=h
 refine⟨_,(zf (yr (PW.pt (Uq (zT xG (zG zM rfl T.xr yw (za (pv 0) zc)) zq (zU _)) (Uq (Zu (yM (zG R4 rfl T.yV yK (za (yg wD (pv 0) zq (fun _ _=>rfl)) (za (za8 (v:=.ty "str") rfl T.zqu zoa rfl) zc))) (fun _=>rfl))) (XC (zT (zcO T.Vl.d) (yg wD (pv 0) zq (fun _ _=>rfl)) (wG (v:=.ref a.Tn) rfl T.Jf rfl) (by with_unfolding_all rfl)))))) (zx (zR RV)) z8)
   (zf (zN 1 KN.nd (yg (zee T.Vl.d) (wG (v:=.ref a.Tn) rfl T.Jf rfl) (yg wD (pv 0) zq (fun _ _=>rfl)) (fun _ _=>rfl)))
   (zf (yr (zT Lg (zG zM rfl T.xr yw (za (pv 0) zc)) (zQ vq (zQ vq zq (yg wD (pv 1) zq (fun _ _=>rfl))) (yg wD (pv 1) zq (fun _ _=>rfl))) (zU _)) (zx (zR RV)) z8)
   (zf (yr (Zu (yM (zG (vY rfl) rfl T.Tv YC (za (vX (uZ:=zA Vy) (js:=[]) rfl (by show Z6 _ _ "letter" [];exact lco (by decide +kernel)) rfl (zbu (zE Rr hr T.Rj (za (pv 0) zc))) (by show ∀j∈([]:List Nat),j<2;decide) (fun cl C s₂ H₂ fp=>(zE zaf hr T.zab (za (pv 0) zc)))) zc)) (fun _=>rfl))) (zx (zR RV)) z8)
   (zx (zR (zG (vY rfl) rfl T.Tv YC (za (vX (uZ:=zA Vy) (js:=[]) rfl (by show Z6 _ _ "part" [];exact lco (by decide +kernel)) rfl (zbu (zE tZ hr T.Rk (za (pv 0) zc))) (by show ∀j∈([]:List Nat),j<2;decide) (fun cl C s₂ H₂ fp=>(zG (zel (K:=K) rfl) rfl T.yV yK (za (pv 0) (za (za8 (v:=.ty "tuple") rfl T.ziK zfp rfl) zc))))) zc)))))))),?_⟩
 obtain⟨zs,c1,c2,c3,c4,c5⟩:=LQ isp
 have lz:=yJ c2
 obtain⟨pt,hv,hpt⟩:=T.Vl.y _ _ _ (Yd sn)
 have lp2:=Sn.LC sn
 have ll1:=Sn.zbI sn
 refine⟨_,rfl,p,_,rfl,.inr (vO.of c1),rfl,_,rfl,yG (fun c=>?_) (fun _=>?_)⟩
 ·exfalso
  have:=of_decide_eq_true c
  injection this with this
  rw[zvM] at this
  omega
 refine⟨_,rfl,p,_,0,_,rfl,rfl,vO.of c1,at0,_,_,_,true,rfl,.str sn.word,rfl,_,rfl,tD ?_⟩
 refine⟨_,rfl,p,_,0,_,rfl,rfl,vO.of c1,at0,sn.word,rfl,rfl,_,rfl,?_⟩
 rw[hv]
 refine tD ?_
 refine⟨_,rfl,p,_,0,_,rfl,rfl,vO.of c1,at0,sn.word,.ref pt,.ref pt,rfl,rfl,hv,rfl,?_⟩
 refine⟨_,rfl,p,_,rfl,.inr (vO.of c1),_,rfl,pt,_,0,_,rfl,rfl,hpt H,at0,1,_,rfl,rfl,_,rfl,pt,_,1,_,rfl,rfl,hpt H,at1,_,_,rfl,rfl,rfl,_,rfl,yG (fun c=>?_) (fun _=>?_)⟩
 ·exfalso
  have z:V.int ((VC sn zs).length:Nat)=V.int (1+((sn.letters.length:Nat):Int)+((sn.parts.length:Nat):Int)):=by
   congr 1
   show(((V.str sn.word::(sn.letters.map V.str++zs.map V.ref)).length:Nat):Int)=_
   rw[zvM,c3]
   omega
  have c':(!decide (V.int ((VC sn zs).length:Nat)=V.int (1+((sn.letters.length:Nat):Int)+((sn.parts.length:Nat):Int))))=true:=c
  rw[decide_eq_true z] at c'
  cases c'
 refine⟨_,rfl,p,sn.word,sn.letters.length,sn.parts.length,_,rfl,c1,Yd sn,c3,fun b hb=>?_⟩
 rw[c4]
 have g1:=Same.new hb (.tup (sn.letters.map V.str))
 refine⟨b,rfl,⟨_,vO.of zu⟩,zil (xs:=sn.letters.map V.str) (fun _ v=>v=.bl true) (vO.of zu) (by rw[zvA];exact zvS (yc (by omega))) ?_ (zfx zaw) ?_⟩
 ·intro i x H' hx g
  rw[zvC] at hx
  cases ho:sn.letters[i]? with
  | none=>rw[ho] at hx;cases hx
  | some y =>
   rw[ho] at hx
   cases hx
   refine⟨_,rfl,y,rfl,?_,g⟩
   rw[decide_eq_true (hle y (zvF ho))]
 intro ys H' p2 hr' g hp2
 have e:=JC (f:=fun _=>.bl true) hr'
 have e2:ys=(sn.letters.map fun _=>true).map V.bl:=by rw[e,zwa,zwa];rfl
 subst e2
 have g2:=Same.new hp2 (.lst ((sn.letters.map fun _=>true).map V.bl))
 have ea:(sn.letters.map fun _=>true).all id=true:=by rw[List.all_map,zv3];exact fun _ _=>rfl
 refine⟨p2,_,rfl,zX.of zu,_,rfl,?_⟩
 rw[ea]
 refine tD ?_
 have gg:=(g1.trans g).trans g2
 have c1':=gg _ _ c1
 refine⟨_,rfl,p,sn.word,sn.letters.length,sn.parts.length,_,rfl,c1',Yd sn,c3,fun b3 hb3=>?_⟩
 rw[c5]
 have g3:=Same.new hb3 (.tup (zs.map V.ref))
 refine⟨b3,rfl,⟨_,vO.of zu⟩,zil (xs:=zs.map V.ref) (fun _ v=>v=.bl true) (vO.of zu) (by rw[zvA];exact zvS (yc (by omega))) ?_ ?_ ?_⟩
 ·intro i x H4 hx g4
  rw[zvC] at hx
  cases ho:zs[i]? with
  | none=>rw[ho] at hx;cases hx
  | some y =>
   rw[ho] at hx
   cases hx
   obtain⟨sy,_,iy⟩:=Nm c2 ho
   obtain⟨ws,d1,_⟩:=LQ iy
   have d1':=((gg.trans g3).trans g4) _ _ d1
   exact⟨_,rfl,_,_,_,true,rfl,.tup d1',rfl,rfl,g4⟩
 ·rintro σ' H' Q1 Q2 hQ ⟨v,e,x,T',t,b',h1,h2,h3,h4⟩
  exact⟨v,e,x,T',t,b',h1,h2,h3,hQ _ _ h4⟩
 ·intro ys H4 p4 hr4 g4 hp4
  have e:=JC (f:=fun _=>.bl true) hr4
  have e2:ys=(zs.map fun _=>true).map V.bl:=by rw[e,zwa,zwa];rfl
  subst e2
  have ea:(zs.map fun _=>true).all id=true:=by rw[List.all_map,zv3];exact fun _ _=>rfl
  refine⟨p4,_,rfl,zX.of zu,?_⟩
  rw[ea]
  exact q _ (((gg.trans g3).trans g4).trans (Same.new hp4 _))
theorem zcv (T:Txt P w K mg a)(zgr:zB P w K mg base yd k a.Qz a.QB Vz LR)(Vm:zB P w K mg base yd k a.Yo a.Yp tQ (X4 K)) :
  zB P w K mg base yd (k+1) a.Ue a.Ug Xa zeo:=by
 refine T.NQ.F.ok vp (fun vs H Q E h=>?_) (fun cdv A outer s H vs Q E hr h=>?_)
 ·obtain⟨p,s,rfl,_⟩:=h
  rfl
 obtain⟨p,sn,rfl,isp,hin,hc,hd,q⟩:=h
 refine⟨_,(zf (zN 1 vp.nd (yh (za (pv 0) zc)))
   (zf (zN 2 vp.nd zq)
   (zf (zN 3 vp.nd zq)
   (zf (RW PassesOwn.never (zT zdk (zG zM rfl T.xr yw (za (pv 1) zc)) zq (zU _)) (zf (zgP (i:=2) vp.nd rfl (Or.inl rfl) zq zd4)
   (zf (zgP (i:=3) vp.nd rfl (Or.inl rfl) (zG zM rfl T.xr yw (za (pv 1) zc)) zd4)
   (zf (yr (PW.pt (Uq (zT zdk (pv 2) (wG (v:=.int 24) rfl T.zgl ⟨_,rfl⟩) (zU _)) (XC (zT zdk (pv 3) (wG (v:=.int 200) rfl T.zc3 ⟨_,rfl⟩) (zU _))))) (zx (zR RV)) z8)
   (zf (yr (Zu (yM (zG (vY rfl) rfl T.Tv YC (za (vX (uZ:=zA Ub) (js:=[]) rfl (by show Z6 _ _ "part" [];exact lco (by decide +kernel)) rfl (yZ (pv 1)) (by show ∀j∈([]:List Nat),j<4;decide) (fun cl C s₂ H₂ fp=>(zE zgr hr T.zaI (za (pv 0) zc)))) zc)) (fun _=>rfl))) (zx (zR RV)) z8)
   (zx (zN 1 vp.nd (zE Vm hr T.Vj (za (pv 1) zc)))))))))
   (zx (zR RV)))))),?_⟩
 refine⟨_,rfl,by show 1<=sizeLine;decide,fun l0 hl0=>?_⟩
 have g0:=Same.new hl0 (.lst [.ref p])
 refine⟨fun m σ H'=>∃(ss:List Sn) (ps:List Addr) (l:Addr) (d t:Nat),m=cnt ss/\Same H H'/\H' l=some (.lst (ps.map V.ref))/\Paired (P0 H') ss ps/\(∀u∈ss,u.Jp uU/\d+u.depth<=24)/\t+cnt ss<=200/\σ=[some (.ref p),some (.ref l),some (.int d),some (.int t)],
  ⟨_,[sn],[p],l0,0,0,rfl,g0,zu,.cons (isp.mono (xO.of g0)) .nil,?_,?_,rfl⟩,?_⟩
 ·intro u hu
  have e:u=sn:=by simpa using hu
  subst e
  exact⟨hin,by omega⟩
 ·show 0+(sn.count+0)<=200
  omega
 rintro m σ H' ⟨ss,ps,l,d,t,rfl,g,hl,hp,hi,ht,rfl⟩
 have lp:=yJ hp
 have le:(ps.map V.ref).length=ss.length:=by rw[zvA];exact lp.symm
 have cl:=zim ss
 refine⟨_,rfl,l,_,rfl,.inl (zX.of hl),_,_,rfl,rfl,_,rfl,yG (fun c=>?_) (fun c=>?_)⟩
 ·have c':0<ss.length:=by have:=of_decide_eq_true c;rw[le] at this;omega
  have hd1:d+1<=24:=by
   have hm:ss[0]∈ss:=List.getElem_mem c'
   have:=(hi _ hm).2
   have:=Sn.Jy ss[0]
   omega
  refine⟨_,fun σ' H2 h=>h,?_⟩
  refine⟨_,rfl,(d:Int),1,rfl,rfl,?_⟩
  refine⟨_,rfl,_,rfl,l,_,rfl,.inl (zX.of hl),(t:Int),_,rfl,rfl,?_⟩
  refine⟨_,rfl,_,_,rfl,rfl,_,rfl,yG (fun c2=>?_) (fun _=>?_)⟩
  ·exfalso
   have:=of_decide_eq_true c2
   omega
  refine⟨_,rfl,_,_,rfl,rfl,_,rfl,yG (fun c2=>?_) (fun _=>?_)⟩
  ·exfalso
   have:=of_decide_eq_true c2
   rw[le] at this
   omega
  refine⟨_,rfl,l,rfl,⟨_,zX.of hl⟩,zek (fun _ v=>v=.bl true) (zX.of hl) (by rw[le];exact zvS (yc (by omega))) ?_ (zfx zfz) ?_⟩
  ·intro i x H2 hx g2
   rw[zvC] at hx
   cases ho:ps[i]? with
   | none=>rw[ho] at hx;cases hx
   | some y =>
    rw[ho] at hx
    cases hx
    obtain⟨sy,hsy,iy⟩:=Nm hp ho
    exact⟨_,rfl,y,sy,rfl,iy.mono (xO.of g2),Sn.zfq sy (hi sy (zvF hsy)).1,fun H3 g3=>⟨rfl,g2.trans g3⟩⟩
  intro ys H2 p2 hr' g2 hp2
  have e:=JC (f:=fun _=>.bl true) hr'
  have e2:ys=(ps.map fun _=>true).map V.bl:=by rw[e,zwa,zwa];rfl
  subst e2
  have g3:=Same.new hp2 (.lst ((ps.map fun _=>true).map V.bl))
  have ea:(ps.map fun _=>true).all id=true:=by rw[List.all_map,zv3];exact fun _ _=>rfl
  refine⟨p2,_,rfl,zX.of zu,_,rfl,?_⟩
  rw[ea]
  refine tD ?_
  have gg:=g2.trans g3
  refine⟨_,rfl,l,ss,ps,rfl,gg.seq (zX.of hl),vA (fun _ _ z=>z.mono (xO.of gg)) hp,by omega,fun l' H4 ps' g4 hn hl' hp'=>?_⟩
  have cp:=Pb ss
  refine⟨cnt (ss.flatMap Sn.parts),by omega,ss.flatMap Sn.parts,ps',l',d+1,t+(ps.map V.ref).length,rfl,(g.trans gg).trans g4,hl',hp',?_,by omega,rfl⟩
  intro u hu
  obtain⟨s',hs',hu'⟩:=JD.mp hu
  obtain⟨i1,i2⟩:=hi s' hs'
  have:=Sn.R5 s' u hu'
  exact⟨Sn.zdv s' i1 u hu',by omega⟩
 ·exact q _ g
theorem zag (T:Txt P w K mg a)(zhI:zB P w K mg base yd k a.MF a.MJ SJ (JF K)):zB P w K mg base yd (k+1) a.XJ a.XM ZJ (R8 K):=by
 refine T.RJ.F.ok J6 (fun vs H Q E h=>?_) (fun cdv A outer s H vs Q E hr h=>?_)
 ·obtain⟨l,os,rfl,_⟩:=h
  rfl
 obtain⟨l,os,rfl,hq,ho,q⟩:=h
 refine⟨_,(zx (yr (Zu (yM (zE zhI hr T.zcr (za (pv 0) zc)) (fun _=>rfl))) (zx Z8) z8)),?_⟩
 refine⟨_,rfl,l,os,rfl,hq,zvV ho.le (by decide),fun H' g=>⟨_,rfl,?_⟩⟩
 rw[zl8 ho]
 exact tD (q H' g)
theorem Nh (T:Txt P w K mg a)(zc5:zB P w K mg base yd k a.Ue a.Ug Xa zeo):zB P w K mg base yd (k+1) a.Z0 a.Z1 uD JG:=by
 refine T.Vk.F.ok Ng (fun vs H Q E h=>?_) (fun cdv A outer s H vs Q E hr h=>?_)
 ·obtain⟨p,s,rfl,_⟩:=h
  rfl
 obtain⟨p,sn,rfl,h1,h2,h3,h4,q⟩:=h
 refine⟨_,(zx (yr (Zu (yM (zE zc5 hr T.NQ (za (pv 0) zc)) (fun _=>rfl))) (zx Z8) z8)),?_⟩
 exact⟨_,rfl,p,sn,rfl,h1,h2,h3,h4,fun H' g=>⟨_,rfl,tD (q H' g)⟩⟩
theorem zeR (T:Txt P w K mg a)(Vm:zB P w K mg base yd k a.Yo a.Yp tQ (X4 K)):zB P w K mg base yd (k+1) a.QC a.QD VD Mi:=by
 refine T.zaJ.F.ok X5 (fun vs H Q E h=>?_) (fun cdv A outer s H vs Q E hr h=>?_)
 ·obtain⟨p,s,rfl,_⟩:=h
  rfl
 obtain⟨p,sn,rfl,isp,hc,q⟩:=h
 refine⟨_,(zf (zN 1 X5.nd (yh zc))
   (zf (zN 2 X5.nd (yh (za (pv 0) zc)))
   (zf (RW PassesOwn.never (zT zdk (zG zM rfl T.xr yw (za (pv 2) zc)) zq (zU _)) (zf (zV (Zv PySem.F.plainAttrs_list PySem.F.slot_list_extend PySem.F.type_list_extend zds (pv 1) (za (pv 2) zc)))
   (zx (zN 2 X5.nd (zE Vm hr T.Vj (za (pv 2) zc))))))
   (zx (zR (pv 1)))))),?_⟩
 refine⟨by show 0<=sizeLine;decide,fun f hf=>?_⟩
 refine⟨_,rfl,by show 1<=sizeLine;decide,fun l0 hl0=>?_⟩
 have g0:=(Same.new hf (.lst [])).trans (Same.new hl0 (.lst [.ref p]))
 have nfl:f≠l0:=zF zu hl0
 refine⟨fun m σ H'=>∃(ts ss:List Sn) (qs ps:List Addr) (l:Addr),m=cnt ss/\Same H H'/\H' f=some (.lst (qs.map V.ref))/\H' l=some (.lst (ps.map V.ref))/\f≠l/\Paired (P0 H') ts qs/\Paired (P0 H') ss ps/\ts.length+cnt ss=sn.count /\
   (∀x,((∃t∈ts,x∈t.letters)\/∃u∈ss,x∈u.all)↔x∈sn.all)/\σ=[some (.ref p),some (.ref f),some (.ref l)],
  ⟨_,[],[sn],[],[p],l0,rfl,g0,by rw[zJ nfl];exact zu,zu,nfl,.nil,.cons (isp.mono (xO.of g0)) .nil,?_,?_,rfl⟩,?_⟩
 ·show 0+(sn.count+0)=sn.count
  omega
 ·intro x
  simp
 rintro m σ H' ⟨ts,ss,qs,ps,l,rfl,g,hf',hl,nfl,hts,hss,hcn,hle,rfl⟩
 have lt:=yJ hts
 have lp:=yJ hss
 have cl:=zim ss
 have le:(ps.map V.ref).length=ss.length:=by rw[zvA];exact lp.symm
 refine⟨_,rfl,l,_,rfl,.inl (zX.of hl),_,_,rfl,rfl,_,rfl,yG (fun c=>?_) (fun c=>?_)⟩
 ·have c':0<ss.length:=by have:=of_decide_eq_true c;rw[le] at this;omega
  refine⟨_,fun σ' H2 h=>h,?_⟩
  refine⟨_,rfl,.inl ⟨rfl,_,zX.of hf'⟩,_,rfl,f,l,_,_,rfl,rfl,hf',hl,by rw[zvA,zvA];exact zvS (yc (by omega)),?_⟩
  have t1:xO H' (upd H' f (.lst (qs.map V.ref++ps.map V.ref))):=xO.lst hf' _
  have g1:Same H (upd H' f (.lst (qs.map V.ref++ps.map V.ref))):=g.over hf _
  have hl1:(upd H' f (.lst (qs.map V.ref++ps.map V.ref))) l=some (.lst (ps.map V.ref)):=by rw[zJ (Ne.symm nfl)];exact hl
  refine⟨_,rfl,l,ss,ps,rfl,zX.of hl1,vA (fun _ _ z=>z.mono t1) hss,by omega,fun l' H3 ps' g3 hn hl' hp'=>?_⟩
  have cp:=Pb ss
  have t3:=t1.trans (xO.of g3)
  refine⟨cnt (ss.flatMap Sn.parts),by omega,ts++ss,ss.flatMap Sn.parts,qs++ps,ps',l',rfl,g1.trans g3,by rw[zvO];exact g3 _ _ zu,hl',zF zu hn,
   WY (vA (fun _ _ z=>z.mono t3) hts) (vA (fun _ _ z=>z.mono t3) hss),hp',by rw[zvI];omega,fun x=>?_,rfl⟩
  rw[<-hle x]
  constructor
  ·rintro (⟨t,ht,hx⟩ | ⟨u,hu,hx⟩)
   ·rcases List.mem_append.mp ht with z | z
    ·exact .inl ⟨t,z,hx⟩
    ·exact .inr ⟨t,z,(Sn.zem t x).mpr (.inl hx)⟩
   ·obtain⟨s',hs',hu'⟩:=JD.mp hu
    exact .inr ⟨s',hs',(Sn.zem s' x).mpr (.inr ⟨u,hu',hx⟩)⟩
  ·rintro (⟨t,ht,hx⟩ | ⟨u,hu,hx⟩)
   ·exact .inl ⟨t,List.mem_append_left _ ht,hx⟩
   ·rcases (Sn.zem u x).mp hx with z | ⟨v,hv,z⟩
    ·exact .inl ⟨u,zvR _ hu,z⟩
    ·exact .inr ⟨v,JD.mpr ⟨u,hu,hv⟩,z⟩
 ·have c':ss=[]:=by
   have:¬ 0<ss.length:=fun z=>c (decide_eq_true (by rw[le];omega))
   exact List.length_eq_zero_iff.mp (by omega)
  subst c'
  refine⟨_,rfl,q f H' ts qs g hf hf' hts ?_ fun x=>?_⟩
  ·have:cnt []=0:=rfl
   omega
  ·rw[<-hle x]
   constructor
   ·exact fun z=>.inl z
   ·rintro (z | ⟨u,hu,_⟩)
    ·exact z
    ·cases hu
theorem zc6 (T:Txt P w K mg a)(zgs:zB P w K mg base yd k a.QC a.QD VD Mi)(Rr:zB P w K mg base yd k a.Ym a.Yn Zd Xr):zB P w K mg base yd (k+1) a.S6 a.S7 X6 R9:=by
 refine T.Jc.F.ok Uc (fun vs H Q E h=>?_) (fun cdv A outer s H vs Q E hr h=>?_)
 ·obtain⟨p,s,rfl,_⟩:=h
  rfl
 obtain⟨p,sn,rfl,isp,hc,q⟩:=h
 refine⟨_,(zf (zN 1 Uc.nd (yh zc))
   (zf (ZP PassesOwn.never rfl (yZ (zE zgs hr T.zaJ (za (pv 0) zc))) (wA (i:=2) Uc.nd rfl (Or.inl rfl)) (zx (zV (Zv PySem.F.plainAttrs_list PySem.F.slot_list_extend PySem.F.type_list_extend zbD (pv 1) (za (zE Rr hr T.Rj (za (pv 2) zc)) zc)))))
   (zx (zR (pv 1))))),?_⟩
 refine⟨by show 0<=sizeLine;decide,fun f hf=>?_⟩
 have g0:=Same.new hf (.lst [])
 refine⟨_,rfl,p,sn,rfl,isp.mono (xO.of g0),hc,fun l H1 ts ps g1 hn hl hts htl hle=>?_⟩
 have nfl:f≠l:=zF zu hn
 have lt:=yJ hts
 refine⟨l,rfl,⟨_,zX.of hl⟩,?_⟩
 refine WQ (xs:=ps.map V.ref) (fun i σ H'=>∃(f1:Option V),Same H H'/\H' f=some (.lst (((ts.take i).flatMap Sn.letters).map V.str))/\H' l=some (.lst (ps.map V.ref))/\Paired (P0 H') ts ps/\((ts.take i).flatMap Sn.letters).length<=i/\i<=ts.length/\σ=[some (.ref p),some (.ref f),f1])
  ⟨_,g0.trans g1,g1 _ _ zu,hl,hts,by simp,zvW _,rfl⟩ ?_ ?_ ?_
 ·rintro i σ H' _ ⟨f1,g,hf',hl',_⟩
  exact zX.of hl'
 ·rintro i x σ H' hx ⟨f1,g,hf',hl',hts',lq,li,rfl⟩
  rw[zvC] at hx
  cases ho:ps[i]? with
  | none=>rw[ho] at hx;cases hx
  | some pp =>
   rw[ho] at hx
   cases hx
   obtain⟨sy,hsy,iy⟩:=Nm hts' ho
   have hlt:=(zvD.mp hsy).1
   obtain⟨zs,c1,c2,c3,c4,c5⟩:=LQ iy
   have l1:=Sn.zbI sy
   refine⟨_,rfl,.inl ⟨rfl,_,zX.of hf'⟩,_,rfl,pp,sy.word,sy.letters.length,sy.parts.length,_,rfl,c1,Yd sy,c3,fun b hb=>?_⟩
   rw[c4]
   have hf2:(upd H' b (.tup (sy.letters.map V.str))) f=some (.lst (((ts.take i).flatMap Sn.letters).map V.str)):=by rw[zJ (zF hf' hb)];exact hf'
   refine⟨f,b,_,sy.letters.map V.str,rfl,rfl,hf2,vO.of zu,?_,?_⟩
   ·rw[zvA,zvA]
    exact zvS (yc (by omega))
   ·have t1:xO H' (upd (upd H' b (.tup (sy.letters.map V.str))) f (.lst (((ts.take i).flatMap Sn.letters).map V.str++sy.letters.map V.str))):=(xO.new hb _).trans (xO.lst hf2 _)
    have e:(ts.take (i+1)).flatMap Sn.letters=(ts.take i).flatMap Sn.letters++sy.letters:=by rw[vZ hsy,List.flatMap_append,List.flatMap_singleton]
    refine⟨_,(g.trans (Same.new hb _)).over hf _,by rw[zu,e,zvO],?_,vA (fun _ _ z=>z.mono t1) hts',by rw[e,zvI];omega,hlt,rfl⟩
    rw[zJ (Ne.symm nfl),zJ (zF hl' hb)]
    exact hl'
 ·rintro σ H' ⟨f1,g,hf',hl',hts',lq,li,rfl⟩
  rw[zvA,<-lt,zv2] at hf' lq
  refine⟨_,rfl,q f H' _ g hf hf' (fun x=>?_) (by omega)⟩
  rw[<-hle x,List.mem_flatMap]
theorem Jg (T:Txt P w K mg a):zB P w K mg base yd (k+1) a.Zi a.Zj v7 (T4 K):=by
 refine T.Tq.F.ok KQ (fun vs H Q E h=>?_) (fun cdv A outer s H vs Q E hr h=>?_)
 ·obtain⟨l,x,os,rfl,_⟩:=h
  rfl
 obtain⟨l,x,os,rfl,hO,hx,q⟩:=h
 refine⟨_,(zx (yr (zT zeb (pv 1) (pv 0) (by with_unfolding_all rfl)) (zx Z8) z8)),?_⟩
 refine⟨_,rfl,_,rfl,l,_,rfl,.inl hO,rfl,Uv _,_,rfl,?_⟩
 have e:(if true=true then !inV (.str x) (os.map V.str) else inV (.str x) (os.map V.str))=false:=by
  rw[if_pos rfl,zfy,decide_eq_true hx];rfl
 rw[e]
 exact tD q
theorem M5 (T:Txt P w K mg a)(zeS:zB P w K mg base yd k a.S6 a.S7 X6 R9)(zah:zB P w K mg base yd k a.Zi a.Zj v7 (T4 K)):zB P w K mg base yd (k+1) a.Yq a.Yr uV (Qa K):=by
 refine T.V4.F.ok Va (fun vs H Q E h=>?_) (fun cdv A outer s H vs Q E hr h=>?_)
 ·obtain⟨l,p,os,s,rfl,_⟩:=h
  rfl
 obtain⟨l,p,os,sn,rfl,hO,isp,hc,hin,q⟩:=h
 refine⟨_,(zx (ZP PassesOwn.never rfl (yZ (zE zeS hr T.Jc (za (pv 1) zc))) (wA (i:=2) Va.nd rfl (Or.inl rfl)) (zx (zV (zE zah hr T.Tq (za (pv 0) (za (pv 2) zc))))))),?_⟩
 refine⟨_,rfl,p,sn,rfl,isp,hc,fun f H1 xs g1 hn hl hmem hxl=>?_⟩
 refine⟨f,rfl,⟨_,zX.of hl⟩,?_⟩
 refine WQ (xs:=xs.map V.str) (fun i σ H'=>∃f1:Option V,H'=H1/\σ=[some (.ref l),some (.ref p),f1]) ⟨_,rfl,rfl⟩ ?_ ?_ ?_
 ·rintro i σ H' _ ⟨f1,rfl,_⟩
  exact zX.of hl
 ·rintro i x σ H' hx ⟨f1,rfl,rfl⟩
  rw[zvC] at hx
  cases ho:xs[i]? with
  | none=>rw[ho] at hx;cases hx
  | some y =>
   rw[ho] at hx
   cases hx
   have hy:y∈os:=(Sn.T3 sn).mp hin y ((hmem y).mp (zvF ho))
   exact⟨_,rfl,_,rfl,l,y,os,rfl,g1.seq hO,hy,_,rfl,rfl⟩
 ·rintro σ H' ⟨f1,rfl,rfl⟩
  exact q _ g1
theorem za1 (T:Txt P w K mg a):zB P w K mg base yd (k+1) a.tW a.tX v8 zfA:=by
 refine T.QT.F.ok zaZ (fun vs H Q E h=>?_) (fun cdv A outer s H vs Q E hr h=>?_)
 ·obtain⟨o,N,M,n,f,g,rfl,_⟩:=h
  rfl
 obtain⟨o,N,M,n,f,g,rfl,hN,hM,q⟩:=h
 refine⟨_,(zf (yr (zT xG (pv 0) xH (zU _)) (zx (zR (zQ zbf (pv 1) (pv 2)))) z8)
   (zf (yr (zT xG (pv 0) xH (zU _)) (zx (zR (zQ Jz (pv 1) (pv 2)))) z8)
   (zf (yr (zT xG (pv 0) xH (zU _)) (zx (zR (zQ Ly (pv 1) (pv 2)))) z8)
   (zx (zR (zQ Jz (zQ Ly (pv 3) (pv 1)) (pv 2))))))),?_⟩
 rcases zrZ o with e | e | e | e
 ·subst e
  exact⟨_,rfl,rfl,_,rfl,yG (fun _=>⟨_,rfl,_,rfl,N,M,rfl,rfl,q _ (Lx hN hM)⟩) (fun c=>absurd (decide_eq_true rfl) c)⟩
 ·subst e
  refine⟨_,rfl,rfl,_,rfl,yG (fun c=>absurd c (ne_str (show Str.ofString "or" ≠ Str.ofString "and" by decide +kernel))) (fun _=>?_)⟩
  exact⟨_,rfl,rfl,_,rfl,yG (fun _=>⟨_,rfl,_,rfl,N,M,rfl,rfl,q _ (zbG hN hM)⟩) (fun c=>absurd (decide_eq_true rfl) c)⟩
 ·subst e
  refine⟨_,rfl,rfl,_,rfl,yG (fun c=>absurd c (ne_str (show Str.ofString "either" ≠ Str.ofString "and" by decide +kernel))) (fun _=>?_)⟩
  refine⟨_,rfl,rfl,_,rfl,yG (fun c=>absurd c (ne_str (show Str.ofString "either" ≠ Str.ofString "or" by decide +kernel))) (fun _=>?_)⟩
  exact⟨_,rfl,rfl,_,rfl,yG (fun _=>⟨_,rfl,_,rfl,N,M,rfl,rfl,q _ (Q8 hN hM)⟩) (fun c=>absurd (decide_eq_true rfl) c)⟩
 ·subst e
  refine⟨_,rfl,rfl,_,rfl,yG (fun c=>absurd c (ne_str (show Str.ofString "if" ≠ Str.ofString "and" by decide +kernel))) (fun _=>?_)⟩
  refine⟨_,rfl,rfl,_,rfl,yG (fun c=>absurd c (ne_str (show Str.ofString "if" ≠ Str.ofString "or" by decide +kernel))) (fun _=>?_)⟩
  refine⟨_,rfl,rfl,_,rfl,yG (fun c=>absurd c (ne_str (show Str.ofString "if" ≠ Str.ofString "either" by decide +kernel))) (fun _=>?_)⟩
  refine⟨_,rfl,_,rfl,_,N,rfl,rfl,_,rfl,_,M,rfl,rfl,q _ (uO (zbG (Q8 (zbe n) hN) hM) fun b _=>?_)⟩
  show((true != f b)||g b)=(!f b||g b)
  cases f b<;>rfl
theorem zc7 {d:Nat}(T:Txt P w K mg a)(uI:zB P w K mg base yd k a.YQ a.YS ZV Wo)(uy:zB P w K mg base yd k a.tU a.tV ux ZQ)
  (Zq:zB P w K mg base yd k a.Wy a.Wz YH Wq)(tZ:zB P w K mg base yd k a.ZW a.ZX tO YD)
  (Yw:zB P w K mg base yd k a.tW a.tX v8 zfA)
  (M6:zB P w K mg base yd k a.Vf a.Vg YJ (T5 K d)):zB P w K mg base yd (k+1) a.Vf a.Vg YJ (T5 K (d+1)):=by
 refine T.M4.F.ok VF (fun vs H Q E h=>?_) (fun cdv A outer s H vs Q E hr h=>?_)
 ·obtain⟨p,l,sn,os,rfl,_⟩:=h
  rfl
 obtain⟨p,l,sn,os,rfl,isp,hO,hin,h8,hd,q⟩:=h
 refine⟨_,(zf (zN 2 VF.nd (yg wD (pv 0) zq (fun _ _=>rfl)))
   (zf (zN 3 VF.nd (zG zM rfl T.xr yw (za (pv 1) zc)))
   (zf (yr (zT xG (pv 2) xH (zU _)) (zx (zR zq)) z8)
   (zf (yr (zT xG (pv 2) xH (zU _)) (zx (zR (zE uI hr T.YX (za (pv 3) zc)))) z8)
   (zf (yr (zT xG (pv 2) xH (zU _)) (zx (zR (zE uy hr T.V3 (za (Zv PySem.F.plainAttrs_list PySem.F.slot_list_index PySem.F.type_list_index Lw (pv 1) (za (yg wD (pv 0) zq (fun _ _=>rfl)) zc)) (za (pv 3) zc))))) z8)
   (zf (zbB (tt:=Jw) (i:=4) VF.nd rfl (Or.inl rfl) (.inl rfl) (uZ:=zA Mv) (js:=[1]) rfl (by show Z6 _ _ "part" ["order"];exact lco (by decide +kernel)) rfl (zbu (zE tZ hr T.Rk (za (pv 0) zc))) (by show ∀j∈([1]:List Nat),j<5;decide) (fun cl C s₂ H₂ fp pins s' σ' H' Q I h=>wpAny_pure ⟨H',I,h⟩) (fun cl C s₂ H₂ fp=>(zE M6 hr T.M4 (za (pv 0) (za (pv 1) zc)))) rfl)
   (zf (yr (zT xG (pv 2) xH (zU _)) (zx (zR (zQ Ly (zE uI hr T.YX (za (pv 3) zc)) (yg yC (pv 4) zq (fun _ _=>rfl))))) z8)
   (zf (yr (zT xG (pv 2) xH (zU _)) (zx (zR (zQ Jz (yg yC (pv 4) zq (fun _ _=>rfl)) (zE Zq hr T.Tp (za (yg yC (pv 4) zq (fun _ _=>rfl)) (za (Zv PySem.F.plainAttrs_list PySem.F.slot_list_index PySem.F.type_list_index Lw (pv 1) (za (yg wD (pv 0) zq (fun _ _=>rfl)) zc)) (za (pv 3) zc))))))) z8)
   (zf (yr (zT xG (pv 2) xH (zU _)) (zx (zR (zQ zbf (yg yC (pv 4) zq (fun _ _=>rfl)) (zE Zq hr T.Tp (za (yg yC (pv 4) zq (fun _ _=>rfl)) (za (Zv PySem.F.plainAttrs_list PySem.F.slot_list_index PySem.F.type_list_index Lw (pv 1) (za (yg wD (pv 0) zq (fun _ _=>rfl)) zc)) (za (pv 3) zc))))))) z8)
   (zx (zR (zE Yw hr T.QT (za (pv 2) (za (yg yC (pv 4) zq (fun _ _=>rfl)) (za (yg yC (pv 4) zq (fun _ _=>rfl)) (za (zE uI hr T.YX (za (pv 3) zc)) zc)))))))))))))))),?_⟩
 have hlen:(os.map V.str).length=os.length:=zvA _
 obtain⟨zs,c1,c2,c3,c4,c5⟩:=LQ isp
 have lz:=yJ c2
 have lp2:=Sn.LC sn
 refine⟨_,rfl,p,_,0,_,rfl,rfl,vO.of c1,at0,?_⟩
 refine⟨_,rfl,l,_,rfl,.inl hO,?_⟩
 rw[hlen]
 have comp:∀{σ:St} {Q2:Addr->Hp->List V->Prop},σ.getD 1 none=some (.ref l)->(∀(b:Addr) (ys:List V) (H':Hp),Same H H'->H' b=none->ys.length=sn.parts.length->(∀(j:Nat) v,ys[j]?=some v->∃t N,sn.parts[j]?=some t/\v=.int (N:Nat)/\TabOf os t N)->Q2 b H' ys) ->
   ∀b0,H b0=none->∃W:Nat->Nat->List V->Hp->Prop,(∃m,W 0 m [] (upd H b0 (.tup (zs.map V.ref))))/\∀i m ys H,W i m ys H ->
    ((Itt K b0).stop i H/\∀p,H p=none->Q2 p H ys) \/
    ((Itt K b0).go i H/\ys.length<sizeLine/\∀x H',(Itt K b0).yld i H x H'->Jw (Wn σ [1] (some x)) H' fun b H2 =>
     if b=true then Lj (T5 K d) [] E0 (Rx (Lf 0) (Rx (Lf 1) Vq)) (Wn σ [1] (some x)) H2 fun v H3=>∃m',m'<m/\W (i+1) m' (ys++[v]) H3 else ∃m',m'<m/\W (i+1) m' ys H2):=by
  intro σ Q2 hσ hQ2 b0 hb0
  have g0:=Same.new hb0 (.tup (zs.map V.ref))
  refine zep (fun j v=>∃t N,sn.parts[j]?=some t/\v=.int ((N:Nat):Int)/\TabOf os t N) (vO.of zu) (by rw[zvA];exact zvS (yc (by omega))) ?_ (znj (zhb d)) ?_
  ·intro i x H' hx g
   rw[zvC] at hx
   cases ho:zs[i]? with
   | none=>rw[ho] at hx;cases hx
   | some y =>
    rw[ho] at hx
    cases hx
    obtain⟨t,ht,it⟩:=Nm c2 ho
    have htm:=zvF ht
    have dp:=Sn.R5 sn t htm
    refine⟨_,rfl,.ref l,?_,y,l,t,os,rfl,it.mono (xO.of (g0.trans g)),(g0.trans g).seq hO,Sn.zdv sn hin t htm,h8,by omega,fun N H3 g3 hN=>⟨⟨t,N,ht,rfl,hN⟩,g.trans g3⟩⟩
    show some (σ.getD 1 none)=_
    rw[hσ]
  ·intro ys H' pp hl hy g hpp
   exact hQ2 pp ys H' (g0.trans g) hpp (by rw[hl,zvA];exact lz.symm) hy
 cases sn with
 | c0 y =>
  cases y with
  | false=>exact⟨_,rfl,rfl,_,rfl,yG (fun _=>q 0 _ (Same.refl _) (zfr _)) (fun c=>absurd (decide_eq_true rfl) c)⟩
  | true =>
   refine⟨_,rfl,rfl,_,rfl,yG (fun c=>absurd c (ne_str (show Str.ofString "yes" ≠ Str.ofString "no" by decide +kernel))) (fun _=>?_)⟩
   exact⟨_,rfl,rfl,_,rfl,yG (fun _=>⟨_,rfl,os.length,rfl,h8,q _ _ (Same.refl _) (zbe _)⟩) (fun c=>absurd (decide_eq_true rfl) c)⟩
 | mk x =>
  refine⟨_,rfl,rfl,_,rfl,yG (fun c=>absurd c (ne_str (show Str.ofString "mark" ≠ Str.ofString "no" by decide +kernel))) (fun _=>?_)⟩
  refine⟨_,rfl,rfl,_,rfl,yG (fun c=>absurd c (ne_str (show Str.ofString "mark" ≠ Str.ofString "yes" by decide +kernel))) (fun _=>?_)⟩
  obtain⟨i1,i2,i3⟩:=Pg (show x∈os from hin)
  have isp':H p=some (.tup [.str "mark", .str x]):=isp
  exact⟨_,rfl,rfl,_,rfl,yG (fun _=>⟨_,rfl,.inl ⟨rfl,_,hO⟩,_,rfl,p,_,1,_,rfl,rfl,vO.of isp',at1,l,_,.str x,_,rfl,rfl,hO,rfl,Uv _,i1,_,rfl,ix os x,os.length,rfl,i2,h8,fun R hR=>q R _ (Same.refl _) hR⟩) (fun c=>absurd (decide_eq_true rfl) c)⟩
 | nt s1 =>
  refine⟨_,rfl,rfl,_,rfl,yG (fun c=>absurd c (ne_str (show Str.ofString "not" ≠ Str.ofString "no" by decide +kernel))) (fun _=>?_)⟩
  refine⟨_,rfl,rfl,_,rfl,yG (fun c=>absurd c (ne_str (show Str.ofString "not" ≠ Str.ofString "yes" by decide +kernel))) (fun _=>?_)⟩
  refine⟨_,rfl,rfl,_,rfl,yG (fun c=>absurd c (ne_str (show Str.ofString "not" ≠ Str.ofString "mark" by decide +kernel))) (fun _=>?_)⟩
  refine⟨_,rfl,p,_,_,_,_,rfl,c1,Yd (.nt s1),c3,fun b0 hb0=>?_⟩
  rw[c5]
  refine⟨b0,rfl,⟨_,vO.of zu⟩,comp rfl (fun b ys H0 g0 hb0' hyl hy=>?_) b0 hb0⟩
  have hb:=zu (H:=H0) (a:=b) (o:=.lst ys)
  have g:=g0.trans (Same.new hb0' (.lst ys))
  obtain⟨v,rfl⟩:=len1 hyl
  obtain⟨t,N,ht,rfl,hN⟩:=hy 0 v rfl
  cases ht
  refine⟨_,rfl,rfl,_,rfl,yG (fun _=>⟨_,rfl,os.length,rfl,h8,_,rfl,b,_,0,_,rfl,rfl,zX.of hb,at0,_,N,rfl,rfl,q _ _ g (uO (Q8 (zbe _) hN) fun z _=>?_)⟩) (fun c=>absurd (decide_eq_true rfl) c)⟩
  show(true != s1.val (Nb os z))=!s1.val (Nb os z)
  cases s1.val (Nb os z)<;>rfl
 | b2 o s1 s2 =>
  have w1:w2 o≠Str.ofString "no" := zpL o
  have w2':w2 o≠Str.ofString "yes" := zof o
  have w3:w2 o≠Str.ofString "mark" := zl9 o
  have w4:w2 o≠Str.ofString "not" := zog o
  have w5:w2 o≠Str.ofString "some" := zma o
  have w6:w2 o≠Str.ofString "each" := zmb o
  refine⟨_,rfl,rfl,_,rfl,yG (fun c=>absurd c (ne_str w1)) (fun _=>?_)⟩
  refine⟨_,rfl,rfl,_,rfl,yG (fun c=>absurd c (ne_str w2')) (fun _=>?_)⟩
  refine⟨_,rfl,rfl,_,rfl,yG (fun c=>absurd c (ne_str w3)) (fun _=>?_)⟩
  refine⟨_,rfl,p,_,_,_,_,rfl,c1,Yd (.b2 o s1 s2),c3,fun b0 hb0=>?_⟩
  rw[c5]
  refine⟨b0,rfl,⟨_,vO.of zu⟩,comp rfl (fun b ys H0 g0 hb0' hyl hy=>?_) b0 hb0⟩
  have hb:=zu (H:=H0) (a:=b) (o:=.lst ys)
  have g:=g0.trans (Same.new hb0' (.lst ys))
  obtain⟨v,u,rfl⟩:=len2 hyl
  obtain⟨t,N,ht,rfl,hN⟩:=hy 0 v rfl
  obtain⟨t',M,ht',rfl,hM⟩:=hy 1 u rfl
  cases ht
  cases ht'
  refine⟨_,rfl,rfl,_,rfl,yG (fun c=>absurd c (ne_str w4)) (fun _=>?_)⟩
  refine⟨_,rfl,rfl,_,rfl,yG (fun c=>absurd c (ne_str w5)) (fun _=>?_)⟩
  refine⟨_,rfl,rfl,_,rfl,yG (fun c=>absurd c (ne_str w6)) (fun _=>?_)⟩
  exact⟨_,rfl,_,rfl,b,_,0,_,rfl,rfl,zX.of hb,at0,_,rfl,b,_,1,_,rfl,rfl,zX.of hb,at1,_,rfl,os.length,rfl,h8,o,N,M,os.length,_,_,rfl,hN,hM,fun R hR=>q R _ g hR⟩
 | q1 o x s1 =>
  obtain⟨hx,hs1⟩:=hin
  obtain⟨i1,i2,i3⟩:=Pg hx
  cases o with
  | true =>
   refine⟨_,rfl,rfl,_,rfl,yG (fun c=>absurd c (ne_str (show Str.ofString "some" ≠ Str.ofString "no" by decide +kernel))) (fun _=>?_)⟩
   refine⟨_,rfl,rfl,_,rfl,yG (fun c=>absurd c (ne_str (show Str.ofString "some" ≠ Str.ofString "yes" by decide +kernel))) (fun _=>?_)⟩
   refine⟨_,rfl,rfl,_,rfl,yG (fun c=>absurd c (ne_str (show Str.ofString "some" ≠ Str.ofString "mark" by decide +kernel))) (fun _=>?_)⟩
   refine⟨_,rfl,p,_,_,_,_,rfl,c1,Yd (.q1 true x s1),c3,fun b0 hb0=>?_⟩
   rw[c5]
   refine⟨b0,rfl,⟨_,vO.of zu⟩,comp rfl (fun b ys H0 g0 hb0' hyl hy=>?_) b0 hb0⟩
   have hb:=zu (H:=H0) (a:=b) (o:=.lst ys)
   have g:=g0.trans (Same.new hb0' (.lst ys))
   obtain⟨v,rfl⟩:=len1 hyl
   obtain⟨t,N,ht,rfl,hN⟩:=hy 0 v rfl
   cases ht
   have c1':=g _ _ c1
   refine⟨_,rfl,rfl,_,rfl,yG (fun c=>absurd c (ne_str (show Str.ofString "some" ≠ Str.ofString "not" by decide +kernel))) (fun _=>?_)⟩
   refine⟨_,rfl,rfl,_,rfl,yG (fun _=>?_) (fun c=>absurd (decide_eq_true rfl) c)⟩
   refine⟨_,rfl,b,_,0,_,rfl,rfl,zX.of hb,at0,_,rfl,b,_,0,_,rfl,rfl,zX.of hb,at0,_,rfl,.inl ⟨rfl,_,g.seq hO⟩,_,rfl,p,_,1,_,rfl,rfl,vO.of c1',at1,l,_,.str x,_,rfl,rfl,g.seq hO,rfl,Uv _,i1,_,rfl,N,ix os x,os.length,_,rfl,i2,h8,hN,fun R hR=>⟨N,R,rfl,rfl,q _ _ g (uO (zbG hN hR) fun z _=>?_)⟩⟩
   exact(zkx hs1 hx z).symm
  | false =>
   refine⟨_,rfl,rfl,_,rfl,yG (fun c=>absurd c (ne_str (show Str.ofString "each" ≠ Str.ofString "no" by decide +kernel))) (fun _=>?_)⟩
   refine⟨_,rfl,rfl,_,rfl,yG (fun c=>absurd c (ne_str (show Str.ofString "each" ≠ Str.ofString "yes" by decide +kernel))) (fun _=>?_)⟩
   refine⟨_,rfl,rfl,_,rfl,yG (fun c=>absurd c (ne_str (show Str.ofString "each" ≠ Str.ofString "mark" by decide +kernel))) (fun _=>?_)⟩
   refine⟨_,rfl,p,_,_,_,_,rfl,c1,Yd (.q1 false x s1),c3,fun b0 hb0=>?_⟩
   rw[c5]
   refine⟨b0,rfl,⟨_,vO.of zu⟩,comp rfl (fun b ys H0 g0 hb0' hyl hy=>?_) b0 hb0⟩
   have hb:=zu (H:=H0) (a:=b) (o:=.lst ys)
   have g:=g0.trans (Same.new hb0' (.lst ys))
   obtain⟨v,rfl⟩:=len1 hyl
   obtain⟨t,N,ht,rfl,hN⟩:=hy 0 v rfl
   cases ht
   have c1':=g _ _ c1
   refine⟨_,rfl,rfl,_,rfl,yG (fun c=>absurd c (ne_str (show Str.ofString "each" ≠ Str.ofString "not" by decide +kernel))) (fun _=>?_)⟩
   refine⟨_,rfl,rfl,_,rfl,yG (fun c=>absurd c (ne_str (show Str.ofString "each" ≠ Str.ofString "some" by decide +kernel))) (fun _=>?_)⟩
   refine⟨_,rfl,rfl,_,rfl,yG (fun _=>?_) (fun c=>absurd (decide_eq_true rfl) c)⟩
   refine⟨_,rfl,b,_,0,_,rfl,rfl,zX.of hb,at0,_,rfl,b,_,0,_,rfl,rfl,zX.of hb,at0,_,rfl,.inl ⟨rfl,_,g.seq hO⟩,_,rfl,p,_,1,_,rfl,rfl,vO.of c1',at1,l,_,.str x,_,rfl,rfl,g.seq hO,rfl,Uv _,i1,_,rfl,N,ix os x,os.length,_,rfl,i2,h8,hN,fun R hR=>⟨N,R,rfl,rfl,q _ _ g (uO (Lx hN hR) fun z _=>?_)⟩⟩
   exact(zky hs1 hx z).symm
theorem zaO (T:Txt P w K mg a)(uI:zB P w K mg base yd k a.YQ a.YS ZV Wo)(uy:zB P w K mg base yd k a.tU a.tV ux ZQ)
  (Zq:zB P w K mg base yd k a.Wy a.Wz YH Wq)(tZ:zB P w K mg base yd k a.ZW a.ZX tO YD)
  (Yw:zB P w K mg base yd k a.tW a.tX v8 zfA):∀d:Nat,zB P w K mg base yd (k+d) a.Vf a.Vg YJ (T5 K d)
 | 0=>by
  refine⟨fun vs H Q E h=>?_,fun A outer s H args us vs Q E _ _ _ _ h=>?_⟩
  ·obtain⟨p,l,sn,os,rfl,_⟩:=h
   rfl
  ·obtain⟨p,l,sn,os,_,_,_,_,_,hd,_⟩:=h
   have:=Sn.Jy sn
   omega
 | d+1=>zc7 T (uI.mono (zv9 _ _)) (uy.mono (zv9 _ _)) (Zq.mono (zv9 _ _)) (tZ.mono (zv9 _ _)) (Yw.mono (zv9 _ _)) (zaO T uI uy Zq tZ Yw d)
theorem zhJ (T:Txt P w K mg a)(uy:zB P w K mg base yd k a.tU a.tV ux ZQ)(Zq:zB P w K mg base yd k a.Wy a.Wz YH Wq):zB P w K mg base yd (k+1) a.PB a.PJ U3 Kh:=by
 refine T.zaa.F.ok Mt (fun vs H Q E h=>?_) (fun cdv A outer s H vs Q E hr h=>?_)
 ·obtain⟨N,p,n,v,f,rfl,_⟩:=h
  rfl
 obtain⟨N,p,n,v,f,rfl,hp,hn,tb,q⟩:=h
 refine⟨_,(zf (zN 4 Mt.nd (zQ zbf (pv 0) (zE uy hr T.V3 (za (pv 1) (za (pv 3) zc)))))
   (zf (zN 5 Mt.nd (zff (zT xG (pv 2) zq (zU _)) (pv 4) (zQ Ly (pv 0) (pv 4))))
   (zx (zR (zQ Jz (pv 5) (zE Zq hr T.Tp (za (pv 5) (za (pv 1) (za (pv 3) zc))))))))),?_⟩
 refine⟨_,rfl,_,rfl,_,rfl,p,n,rfl,hp,hn,fun R tr=>?_⟩
 refine⟨N,R,rfl,rfl,?_⟩
 have o:=WX.Lx tb tr
 refine⟨_,rfl,rfl,_,rfl,?_⟩
 cases v with
 | true =>
  refine yG (fun _=>?_) (fun c=>absurd (decide_eq_true rfl) c)
  refine⟨_,rfl,?_⟩
  refine⟨_,rfl,_,rfl,_,rfl,_,rfl,N&&&R,p,n,_,rfl,hp,hn,o,fun R2 t2=>?_⟩
  refine⟨_,_,rfl,rfl,q _ (uO (WX.zbG o t2) fun b hb=>?_)⟩
  show((f b&&b.testBit p)||(f (yt b p (!b.testBit p))&&(yt b p (!b.testBit p)).testBit p))=f (yt b p true)
  rw[yE,if_pos rfl]
  cases e:b.testBit p
  ·simp
  ·rw[<-e,zZ.wY,e];simp
 | false =>
  refine yG (fun c=>absurd (of_decide_eq_true c) (fun z=>by injection z with z;revert z;decide)) (fun _=>?_)
  have z:=WX.Q8 tb o
  refine⟨_,rfl,_,rfl,N,N&&&R,rfl,rfl,?_⟩
  refine⟨_,rfl,_,rfl,_,rfl,_,rfl,N ^^^ (N&&&R),p,n,_,rfl,hp,hn,z,fun R2 t2=>?_⟩
  refine⟨_,_,rfl,rfl,q _ (uO (WX.zbG z t2) fun b hb=>?_)⟩
  show((f b != (f b&&b.testBit p))||(f (yt b p (!b.testBit p)) != (f (yt b p (!b.testBit p))&&(yt b p (!b.testBit p)).testBit p)))=f (yt b p false)
  rw[yE,if_pos rfl]
  cases e:b.testBit p
  ·rw[<-e,zZ.wY,e];simp
  ·simp
theorem zgt (T:Txt P w K mg a)(Zq:zB P w K mg base yd k a.Wy a.Wz YH Wq):zB P w K mg base yd (k+1) a.Mx a.Mz Sy zes:=by
 refine T.zcq.F.ok zf6 (fun vs H Q E h=>?_) (fun cdv A outer s H vs Q E hr h=>?_)
 ·obtain⟨N,p,n,f,rfl,_⟩:=h
  rfl
 obtain⟨N,p,n,f,rfl,hp,hn,tb,q⟩:=h
 refine⟨_,(zx (zR (wH Lg (zE Zq hr T.Tp (za (pv 0) (za (pv 1) (za (pv 2) zc)))) (pv 0) (zU _)))),?_⟩
 refine⟨_,rfl,_,rfl,_,rfl,N,p,n,f,rfl,hp,hn,tb,fun R tr=>?_⟩
 refine⟨_,rfl,rfl,?_⟩
 refine q _ (fun e=>?_) (fun e=>?_)
 ·have e1:R=N:=by
   have z:V.int (R:Nat)=V.int (N:Nat):=of_decide_eq_true (by simpa using e)
   injection z with z
   omega
  subst e1
  refine zZ.Free.zmk fun b hb=>?_
  rw[<-zZ.zbj tr hb,zZ.zbj tb hb]
 ·refine Classical.byContradiction fun no=>?_
  have e1:R=N:=zZ.zir tr tb fun b hb=>by
   refine Classical.byContradiction fun ne=>no ⟨b,hb,fun z=>ne ?_⟩
   show f (yt b p (!b.testBit p))=f b
   cases e:b.testBit p
   ·rw[Bool.not_false,<-z,<-e,zZ.wY]
   ·rw[Bool.not_true,z,<-e,zZ.wY]
  subst e1
  rw[decide_eq_true rfl] at e
  cases e
theorem zcw (T:Txt P w K mg a)(zhK:zB P w K mg base yd k a.Mx a.Mz Sy zes):zB P w K mg base yd (k+1) a.Xh a.Xi Zy zbk:=by
 refine T.NP.F.ok W8 (fun vs H Q E h=>?_) (fun cdv A outer s H vs Q E hr h=>?_)
 ·obtain⟨N,n,f,rfl,_⟩:=h
  rfl
 obtain⟨N,n,f,rfl,hn,tb,q⟩:=h
 refine⟨_,(zf (zN 2 W8.nd zq)
   (zf (RW PassesOwn.never (PW.pt (zgN (zT zbw (pv 2) (pv 1) (zU _)) (zd2 (Zu (yM (zE zhK hr T.zcq (za (pv 0) (za (pv 2) (za (pv 1) zc)))) (fun _=>rfl)))))) (zx (zgP (i:=2) W8.nd rfl (Or.inl rfl) zq zd4)))
   (zx (zR (pv 2))))),?_⟩
 refine⟨fun m σ H'=>∃p:Nat,m=n-p/\H'=H/\p<=n/\(∀i,i<p->zZ.Free n f i)/\σ=[some (.int N),some (.int n),some (.int p)],⟨_,0,rfl,rfl,zvW _,fun i hi=>absurd hi (Nat.not_lt_zero _),rfl⟩,?_⟩
 rintro m σ H' ⟨p,rfl,rfl,hp,fr,rfl⟩
 refine⟨_,rfl,_,rfl,_,_,rfl,rfl,_,rfl,yG (fun c=>?_) (fun c=>?_)⟩
 ·have hpn:p<n:=by have:=of_decide_eq_true c;omega
  refine⟨_,rfl,_,rfl,_,rfl,N,p,n,f,rfl,hpn,hn,tb,fun b hf ht=>?_⟩
  cases b with
  | false =>
   refine⟨_,rfl,yG (fun c2=>?_) (fun c2=>absurd rfl c2)⟩
   refine⟨_,fun σ' H2 h=>h,?_⟩
   refine⟨_,rfl,_,_,rfl,rfl,n-(p+1),by omega,p+1,rfl,rfl,hpn,fun i hi=>?_,rfl⟩
   by_cases e:i=p
   ·subst e
    exact hf rfl
   ·exact fr i (by omega)
  | true =>
   refine⟨_,rfl,yG (fun c2=>absurd c2 zvE) (fun c2=>?_)⟩
   exact⟨_,rfl,q p hp fr fun _=>ht rfl⟩
 ·refine⟨_,rfl,q p hp fr fun h=>absurd (decide_eq_true (by omega)) c⟩
theorem Jh {d:Nat}(T:Txt P w K mg a)(Xp:zB P w K mg base yd k a.Xh a.Xi Zy zbk)(Tw:zB P w K mg base yd k a.PB a.PJ U3 Kh)
  (Zr:zB P w K mg base yd k a.ud a.uf vg (W0 a.zj d)):zB P w K mg base yd (k+1) a.ud a.uf vg (W0 a.zj (d+1)):=by
 refine T.Zo.F.ok vJ (fun vs H Q E h=>?_) (fun cdv A outer s H vs Q E hr h=>?_)
 ·obtain⟨b,os,rs,F,t,u,f,rfl,_⟩:=h
  rfl
 obtain⟨b,os,rs,F,t,u,f,rfl,hB,hlen,hu,hd,tb,fr,q⟩:=h
 refine⟨_,(zf (yr (zj0 (zdD (zar hr) (pv 1) (u9 (pv 0) rfl))) (zf (zN 2 vJ.nd (zG zM rfl T.xr yw (za (u9 (pv 0) rfl) zc)))
   (zf (zN 3 vJ.nd (zE Xp hr T.NP (za (pv 1) (za (pv 2) zc))))
   (zf (zN 4 vJ.nd (yW (pv 0) T.zY T.Zo Zr hr (za (zE Tw hr T.zaa (za (pv 1) (za (pv 3) (za zq (za (pv 2) zc))))) zc)))
   (zf (zN 5 vJ.nd (yW (pv 0) T.zY T.Zo Zr hr (za (zE Tw hr T.zaa (za (pv 1) (za (pv 3) (za zq (za (pv 2) zc))))) zc)))
   (zf (Kd (zar hr) (u9 (pv 0) rfl) (pv 1) (zG zM rfl T.xr yw (za (u9 (pv 0) rfl) zc)) rfl)
   (zf (zV (Zv PySem.F.plainAttrs_list PySem.F.slot_list_append PySem.F.type_list_append uN (u9 (pv 0) rfl) (za (yL (za (pv 3) (za (pv 4) (za (pv 5) zc)))) zc)))
   (zx (zV (Zv PySem.F.plainAttrs_list PySem.F.slot_list_append PySem.F.type_list_append uN (u9 (pv 0) rfl) (za (pv 1) zc)))))))))) z8)
   (zx (zR (zmg (zar hr) (u9 (pv 0) rfl) (pv 1) (fun _ _=>rfl))))),?_⟩
 have Tz:=hB
 obtain⟨dx,ml,rl,tl,nd,rv,ts,kvs,h⟩:=hB
 have n8:os.length<=8:=h.ord.le
 have hml:(os.map V.str).length=os.length:=zvA _
 have pw:2^(d+1)=2^d+2^d:=by rw[Nat.pow_succ];omega
 have pd:1<=2^d:=Nat.one_le_two_pow
 have pn:2^os.length<=256:=WX.zi6 n8
 refine⟨_,rfl,_,rfl,b,a.zj,dx,_,_,rfl,h.hb,T.zY,T.uM,rfl,nd,_,rfl,zbL.k (k:=.inl (t:Int)) h.hd,?_⟩
 by_cases hm:t∈ts
 ·obtain⟨j,hj,ej⟩:=zwe hm
  have ej':ts[j]?=some t:=by rw[zvB hj,ej]
  have ev:=h.nums.get j t ej'
  have z:=zbL.k (k:=.inl (t:Int)) h.hd
  rw[ev] at z
  rw[ev]
  refine⟨_,rfl,tD ?_⟩
  refine⟨_,rfl,b,a.zj,dx,_,_,rfl,h.hb,T.zY,T.uM,rfl,_,rfl,nd,_,rfl,z,?_⟩
  refine q j rs H (fun x o e _=>e) (fun _ _ e=>e) Tz (.refl _) (by rw[<-h.tabs.len];exact hj) (h.tabs.find h.bk ej' tb) (by omega) fun j h1 h2=>by omega
 ·have ev:=h.nums.non t hm
  rw[ev]
  refine⟨_,rfl,uY ?_⟩
  refine⟨_,rfl,b,a.zj,dx,_,_,rfl,h.hb,T.zY,T.vR,rfl,ml,_,rfl,.inl (zX.of h.hm),?_⟩
  rw[hml]
  refine⟨_,rfl,_,rfl,t,os.length,f,rfl,n8,tb,fun p hp0 frp dep=>?_⟩
  have hp:p<os.length:=by
   refine Nat.lt_of_le_of_ne hp0 fun e=>hm ?_
   subst e
   have cs:=zZ.zcQ frp
   have two:=zZ.len2 h.bk
   cases hf:f 0 with
   | false=>exact zvF (h.tabs.same (j:=0) (by omega) tb fun r=>by rw[cs _ (zZ.ZG _ _),hf];rfl)
   | true=>exact zvF (h.tabs.same (j:=1) (by omega) tb fun r=>by rw[cs _ (zZ.ZG _ _),hf];exact zZ.Y6 h.bk r)
  have hup:u<=p:=by
   refine Nat.le_of_not_lt fun hlt=>?_
   obtain⟨c,hc,hne⟩:=dep hp
   exact hne (by rw[fr p hlt c hc,fr p hlt c hc])
  have fre:∀(v:Bool) i,i<p+1->zZ.Free os.length (fun c=>f (yt c p v)) i:=fun v i hi c hc v'=>by
   show f (yt (yt c i v') p v)=f (yt c p v)
   by_cases e:i=p
   ·subst e
    congr 1
    refine zZ.T9 (xq (xq hc hp) hp) (xq hc hp) fun j _=>?_
    rw[yE,yE,yE]
    by_cases e:j=i
    ·rw[if_pos e,if_pos e]
    ·rw[if_neg e,if_neg e,if_neg e]
   ·rw[<-frp i (by omega) _ (xq (v:=v) hc hp) v']
    congr 1
    refine zZ.T9 (xq (xq hc (by omega)) hp) (xq (xq hc hp) (by omega)) fun j _=>?_
    rw[yE,yE,yE,yE]
    by_cases e1:j=p
    ·rw[if_pos e1,if_pos e1,if_neg (by omega)]
    ·rw[if_neg e1,if_neg e1]
  refine⟨_,rfl,b,dx,_,rfl,h.hb,rfl,_,rfl,_,rfl,_,rfl,t,p,os.length,false,f,rfl,hp,n8,tb,fun R0 tr0=>?_⟩
  refine⟨b,os,rs,F,R0,p+1,_,rfl,Tz,by omega,hp,by omega,tr0,fre false,fun k0 rs1 H1 aw1 tu1 hB1 gr1 lt1 y1 ln1 lv1=>?_⟩
  have hB1':=hB1
  obtain⟨dx1,ml1,rl1,tl1,nd1,rv1,ts1,zul,h1⟩:=hB1
  refine⟨_,rfl,b,dx1,_,rfl,h1.hb,rfl,_,rfl,_,rfl,_,rfl,t,p,os.length,true,f,rfl,hp,n8,tb,fun R1 tr1=>?_⟩
  refine⟨b,os,rs1,F,R1,p+1,_,rfl,hB1',by omega,hp,by omega,tr1,fre true,fun k1 rs2 H2 aw2 tu2 hB2 gr2 lt2 y2 ln2 lv2=>?_⟩
  obtain⟨dx2,ml2,rl2,tl2,Ji,rv2,ts2,zqy,h2⟩:=hB2
  have lt1':k0<rs2.length:=zvJ lt1 gr2.len
  have y1':∀r,zZ.yes rs2 k0 r=f (yt (zZ.bits r os.length) p false):=fun r=>by rw[gr2.yes h1.bk lt1];exact y1 r
  have g02:=gr1.trans gr2
  have lrs:=g02.len
  have lvs:∀j,rs.length<=j->j<rs2.length->p<zZ.RM os.length rs2 j:=fun j a1 a2=>by
   by_cases hj:j<rs1.length
   ·rw[gr2.RM hj];exact lv1 j a1 hj
   ·exact lv2 j (by omega) a2
  have old:∀j,j<rs.length->¬∀r,zZ.yes rs2 j r=f (zZ.bits r os.length):=fun j hj hy=>hm (zvF (h.tabs.same hj tb fun r=>by rw[<-g02.yes h.bk hj];exact hy r))
  obtain⟨B',yn⟩:=zZ.zkB h2.bk hp lt1' lt2 y1' y2 frp (dep hp) old lvs
  have hn2:t∉ts2:=fun hm2=>by
   obtain⟨j,hj,ej⟩:=zwe hm2
   have ej':ts2[j]?=some t:=by rw[zvB hj,ej]
   have hjr:j<rs2.length:=by rw[<-h2.tabs.len];exact hj
   have hy:=h2.tabs.find h2.bk ej' tb
   by_cases hjo:j<rs.length
   ·exact old j hjo hy
   ·obtain⟨c,hc,hne⟩:=dep hp
    have lv:=lvs j (by omega) hjr
    refine hne ?_
    have a1:=hy (zZ.put (zZ.zcP c) p false)
    have a2:=hy (zZ.put (zZ.zcP c) p true)
    rw[zZ.Ye h2.bk hjr lv,zZ.zfI hp,zZ.Pn hc] at a1 a2
    exact a1.symm.trans a2
  have l2:=h2.len
  have s2:rs2.length<sizeLine:=zvJ (show rs2.length<9000001 by omega) (by decide)
  refine⟨_,rfl,b,a.zj,dx2,_,_,rfl,h2.hb,T.zY,T.vd,rfl,rl2,_,rfl,.inl (zX.of h2.hr),?_⟩
  rw[l2]
  refine⟨_,rfl,b,a.zj,dx2,_,_,rfl,h2.hb,T.zY,T.uM,rfl,_,rfl,Ji,_,rfl,zfC.k (k:=.inl (t:Int)) h2.hd (by have:=h2.nums.len;have:=h2.tabs.len;omega),?_⟩
  have nb:Ji≠b:=Vv h2.hd h2.hb (by intro z;cases z)
  have nm:Ji≠ml2:=Vv h2.hd h2.hm (by intro z;cases z)
  have nr:Ji≠rl2:=Vv h2.hd h2.hr (by intro z;cases z)
  have nt:Ji≠tl2:=Vv h2.hd h2.ht (by intro z;cases z)
  have br:b≠rl2:=Vv h2.hb h2.hr (by intro z;cases z)
  have bt:b≠tl2:=Vv h2.hb h2.ht (by intro z;cases z)
  generalize hO3:HO.dK (putK zqy (Sum.inl (t:Int)) (V.int (rs2.length:Nat)))=o3
  have b3:upd H2 Ji o3 b=some (.ins a.zj dx2 (JM ml2 rl2 tl2 Ji)):=by rw[zJ (Ne.symm nb)];exact h2.hb
  have r3:upd H2 Ji o3 rl2=some (.lst rv2):=by rw[zJ (Ne.symm nr)];exact h2.hr
  refine⟨_,rfl,b,a.zj,dx2,_,_,rfl,b3,T.zY,T.vd,rfl,.inl ⟨rfl,_,zX.of r3⟩,?_⟩
  refine⟨_,rfl,_,rfl,_,rfl,by show 3<=sizeLine;decide,fun q4 hq4=>?_⟩
  generalize hO4:HO.tup [V.int (p:Nat),V.int (k0:Nat),V.int (k1:Nat)]=o4
  have r4:upd (upd H2 Ji o3) q4 o4 rl2=some (.lst rv2):=by rw[zJ (zF r3 hq4)];exact r3
  refine⟨rl2,_,_,rfl,rfl,r4,by rw[l2];exact s2,?_⟩
  have b4:upd (upd H2 Ji o3) q4 o4 b=some (.ins a.zj dx2 (JM ml2 rl2 tl2 Ji)):=by rw[zJ (zF b3 hq4)];exact b3
  have t3:upd H2 Ji o3 tl2=some (.lst (ts2.map fun t=>V.int (t:Nat))):=by rw[zJ (Ne.symm nt)];exact h2.ht
  have t4:upd (upd H2 Ji o3) q4 o4 tl2=some (.lst (ts2.map fun t=>V.int (t:Nat))):=by rw[zJ (zF t3 hq4)];exact t3
  have m3:upd H2 Ji o3 ml2=some (.lst (os.map V.str)):=by rw[zJ (Ne.symm nm)];exact h2.hm
  have m4:upd (upd H2 Ji o3) q4 o4 ml2=some (.lst (os.map V.str)):=by rw[zJ (zF m3 hq4)];exact m3
  have n3:upd H2 Ji o3 Ji=some o3:=zu
  have n4:upd (upd H2 Ji o3) q4 o4 Ji=some o3:=by rw[zJ (zF n3 hq4)];exact n3
  have qr:q4≠rl2:=Ne.symm (zF r3 hq4)
  have qt:q4≠tl2:=Ne.symm (zF t3 hq4)
  have q4':upd (upd H2 Ji o3) q4 o4 q4=some o4:=zu
  have tu4:xO H2 (upd (upd H2 Ji o3) q4 o4):=fun x xs e=>by
   have e3:upd H2 Ji o3 x=some (.tup xs):=by rw[zJ (Vv e h2.hd (by intro z;cases z))];exact e
   rw[zJ (zF e3 hq4)];exact e3
  have aw4:∀x o,H2 x=some o->¬F x->upd (upd H2 Ji o3) q4 o4 x=some o:=fun x o e nf=>by
   have e3:upd H2 Ji o3 x=some o:=by rw[zJ (fun z=>nf ((h2.ft x).mpr (.inr (.inr (.inr (.inr z))))))];exact e
   rw[zJ (zF e3 hq4)];exact e3
  generalize upd (upd H2 Ji o3) q4 o4=H4 at b4 t4 m4 n4 r4 q4' tu4 aw4
  generalize hO5:HO.lst (rv2++[V.ref q4])=o5
  have b5:upd H4 rl2 o5 b=some (.ins a.zj dx2 (JM ml2 rl2 tl2 Ji)):=by rw[zJ br];exact b4
  have t5:upd H4 rl2 o5 tl2=some (.lst (ts2.map fun t=>V.int (t:Nat))):=by rw[zJ (Ne.symm h2.rt)];exact t4
  refine⟨_,rfl,b,a.zj,dx2,_,_,rfl,b5,T.zY,T.QW,rfl,.inl ⟨rfl,_,zX.of t5⟩,_,rfl,tl2,_,_,rfl,rfl,t5,by rw[zvA,h2.tabs.len];exact s2,?_⟩
  generalize hO6:HO.lst (ts2.map (fun t=>V.int (t:Nat))++[V.int (t:Nat)])=o6
  have b6:upd (upd H4 rl2 o5) tl2 o6 b=some (.ins a.zj dx2 (JM ml2 rl2 tl2 Ji)):=by rw[zJ bt];exact b5
  have n6:upd (upd H4 rl2 o5) tl2 o6 Ji=some (.dK (putK zqy (Sum.inl (t:Int)) (V.int (rs2.length:Nat)))):=by rw[zJ nt,zJ nr,n4,hO3]
  have z:=zbL.k (k:=.inl (t:Int)) n6
  rw[zbK,if_pos rfl] at z
  refine⟨_,rfl,b,a.zj,dx2,_,_,rfl,b6,T.zY,T.uM,rfl,_,rfl,Ji,_,rfl,z,?_⟩
  have tu6:xO H4 (upd (upd H4 rl2 o5) tl2 o6):=fun x xs e=>by
   rw[zJ (Vv e t4 (by intro z;cases z)),zJ (Vv e r4 (by intro z;cases z))];exact e
  have parts:=h2.more (H':=upd (upd H4 rl2 o5) tl2 o6) (i:=p) (lo:=k0) (hi:=k1) (t:=t) (q:=q4) (fun x xs e=>tu6 _ _ (tu4 _ _ e)) (b6.trans h2.hb.symm)
   (by rw[zJ h2.mt,zJ h2.mr,m4,h2.hm]) (by rw[zJ h2.rt,zu,hO5]) (by rw[zu,hO6]) n6
   (by rw[zJ qt,zJ qr,q4',hO4]) B' hn2 (uO tb fun c hc=>by rw[yn,zZ.Pn hc])
  refine q rs2.length _ _ (fun x o e nf=>?_) (fun x xs e=>tu6 _ _ (tu4 _ _ (tu2 _ _ (tu1 _ _ e)))) ⟨_,_,_,_,_,_,_,_,parts⟩ (g02.trans (zZ.tH.snoc _ _)) (by simp) yn (by rw[zvI,zv7];omega) fun j a1 a2=>?_
  ·have e2:=aw2 x o (aw1 x o e nf) nf
   rw[zJ (fun z=>nf ((h2.ft x).mpr (.inr (.inr (.inr (.inl z)))))),zJ (fun z=>nf ((h2.ft x).mpr (.inr (.inr (.inl z)))))]
   exact aw4 x o e2 nf
  ·rw[zvI,zv7] at a2
   by_cases hj:j<rs2.length
   ·rw[zZ.Qd hj]
    have:=lvs j a1 hj
    omega
   ·have:j=rs2.length:=by omega
    subst this
    rw[zZ.YF B' (i:=p) (lo:=k0) (hi:=k1) (by simp)]
    exact hup
theorem V6 (T:Txt P w K mg a)(Xp:zB P w K mg base yd k a.Xh a.Xi Zy zbk)(Tw:zB P w K mg base yd k a.PB a.PJ U3 Kh) :
  ∀d:Nat,zB P w K mg base yd (k+d) a.ud a.uf vg (W0 a.zj d)
 | 0=>by
  refine⟨fun vs H Q E h=>?_,fun A outer s H args us vs Q E _ _ _ _ h=>?_⟩
  ·obtain⟨b,os,rs,F,t,u,f,rfl,_⟩:=h
   rfl
  ·obtain⟨b,os,rs,F,t,u,f,_,_,_,hu,hd,_⟩:=h
   omega
 | d+1=>Jh T (Xp.mono (zv9 _ _)) (Tw.mono (zv9 _ _)) (V6 T Xp Tw d)
theorem zc8 (T:Txt P w K mg a)(M7:zB P w K mg base yd k a.Z0 a.Z1 uD JG)(Jj:zB P w K mg base yd k a.Yq a.Yr uV (Qa K))
  (M6:zB P w K mg base yd k a.Vf a.Vg YJ (T5 K 24))(Zr:zB P w K mg base yd k a.ud a.uf vg (W0 a.zj 9)) :
  zB P w K mg base yd (k+1) a.S8 a.S9 X7 (Qe (yp a.zj)):=by
 refine T.Je.F.ok zcY (fun vs H Q E h=>?_) (fun cdv A outer s H vs Q E hr h=>?_)
 ·obtain⟨b,p,os,rs,F,sn,rfl,_⟩:=h
  rfl
 obtain⟨b,p,os,rs,F,sn,rfl,hB,hlen,isp,hin,hc,hd,q⟩:=h
 refine⟨_,(zf (zV (zE M7 hr T.Vk (za (pv 1) zc)))
   (zf (zV (zE Jj hr T.V4 (za (u9 (pv 0) rfl) (za (pv 1) zc))))
   (zx (zR (yW (pv 0) T.zY T.Zo Zr hr (za (zE M6 hr T.M4 (za (pv 1) (za (u9 (pv 0) rfl) zc))) zc)))))),?_⟩
 have L:=z9 a.zj
 have ho:=L.ord hB
 have hlt:sn.Jp uU:=(Sn.T3 sn).mpr fun x hx=>ho.mem x ((Sn.T3 sn).mp hin x hx)
 refine⟨_,rfl,p,sn,rfl,isp,hlt,hc,hd,fun H1 g1=>?_⟩
 have hB1:=L.same hB g1
 obtain⟨dx,ml,rl,tl,nd,rv,ts,kvs,h1⟩:=hB1
 refine⟨_,rfl,b,a.zj,dx,_,_,rfl,h1.hb,T.zY,T.vR,rfl,_,rfl,ml,p,os,sn,rfl,zX.of h1.hm,isp.mono (xO.of g1),by omega,hin,fun H2 g2=>?_⟩
 have g12:=g1.trans g2
 have h2:=h1.frame (fun x o e _=>g2 x o e) (xO.of g2)
 refine⟨_,rfl,b,dx,_,rfl,h2.hb,rfl,_,rfl,_,rfl,b,a.zj,dx,_,_,rfl,h2.hb,T.zY,T.vR,rfl,p,ml,sn,os,rfl,isp.mono (xO.of g12),zX.of h2.hm,hin,ho.le,hd,fun N H3 g3 hN=>?_⟩
 have g13:=g12.trans g3
 have hB3:=L.same hB g13
 refine⟨b,os,rs,F,N,0,_,rfl,hB3,by show rs.length+512<=9000000;omega,zvW _,by have:=ho.le;omega,hN,fun i hi=>absurd hi (Nat.not_lt_zero _),fun j rs' H' aw tu hB' gr lt y ln _=>?_⟩
 refine q j rs' F H' (fun x o e nf=>aw x o (g13 _ _ e) nf) (fun x xs e=>tu _ _ (g13 _ _ e)) hB' (fun x hx=>.inl hx) gr lt (fun r=>?_) (by have:rs'.length+1<=rs.length+512:=ln;omega)
 rw[y]
 refine Sn.val_congr sn hin fun x hx=>?_
 show(zZ.bits r os.length).testBit (ix os x)=r (ix os x)
 exact zZ.Xv r (Pg hx).2.1
theorem zeU (T:Txt P w K mg a)(za2:zB P w K mg base yd k a.XJ a.XM ZJ (R8 K))(uI:zB P w K mg base yd k a.YQ a.YS ZV Wo) :
  zB P w K mg base yd (k+1) a.VP a.QF VG (Mj (yp a.zj) K a.zj):=by
 refine T.zaN.F.ok KY (fun vs H Q E h=>?_) (fun cdv A outer s H vs Q E hr h=>?_)
 ·obtain⟨b,dx,l,os,rfl,_⟩:=h
  rfl
 obtain⟨b,dx,l,os,rfl,hb,bd,hl,ho,q⟩:=h
 refine⟨_,(zf (zV (zE za2 hr T.RJ (za (pv 1) zc)))
   (zf (zN 2 KY.nd (zG zM rfl T.xr yw (za (pv 1) zc)))
   (zf (zd5 (pv 0) (Us Lq rfl T.zeO zeg (za (pv 1) zc)) rfl)
   (zf (zd5 (pv 0) (yh (za (yL (za (pv 2) (za zq (za zq zc)))) (za (yL (za (pv 2) (za zq (za zq zc)))) zc))) rfl)
   (zf (zd5 (pv 0) (yh (za zq (za (zE uI hr T.YX (za (pv 2) zc)) zc))) rfl)
   (zx (zd5 (pv 0) (zmj (zfF zq zq (zfF (zE uI hr T.YX (za (pv 2) zc)) zq zmi)) rfl rfl (List.cons_ne_nil _ _) (Nat.le_of_ble_eq_true rfl)) rfl))))))),?_⟩
 have n8:=ho.le
 have hml:(os.map V.str).length=os.length:=zvA _
 refine⟨_,rfl,l,os,rfl,hl,ho,fun H1 g1=>?_⟩
 have hl1:=g1.seq hl
 refine⟨_,rfl,l,_,rfl,.inl hl1,?_⟩
 rw[hml]
 have b1:=g1 _ _ hb
 refine⟨_,rfl,l,_,rfl,.inl hl1,fun ml hm1=>?_⟩
 have bm:b≠ml:=zF b1 hm1
 have b2:upd H1 ml (.lst (os.map V.str)) b=some (.ins a.zj dx []):=by rw[zJ bm];exact b1
 refine⟨_,rfl,b,a.zj,dx,_,rfl,b2,T.zY,T.vR,by decide,?_⟩
 have s2:∀x o,H x=some o->x≠b->upd (upd H1 ml (.lst (os.map V.str))) b (.ins a.zj dx (YB "marks" (.ref ml) [])) x=some o:=fun x o e nb=>by
  rw[zJ nb,zJ (zF (g1 _ _ e) hm1)];exact g1 _ _ e
 have hm2:upd (upd H1 ml (.lst (os.map V.str))) b (.ins a.zj dx (YB "marks" (.ref ml) [])) ml=some (.lst (os.map V.str)):=by rw[zJ (Ne.symm bm)];exact zu
 have f2:∀x,upd (upd H1 ml (.lst (os.map V.str))) b (.ins a.zj dx (YB "marks" (.ref ml) [])) x=none->H x=none:=fun x e=>by
  have nb:x≠b:=fun z=>by rw[z,zu] at e;cases e
  cases hx:H x with
  | none=>rfl
  | some o=>rw[s2 x o hx nb] at e;cases e
 have fm:H ml=none:=g1.free hm1
 have b2':upd (upd H1 ml (.lst (os.map V.str))) b (.ins a.zj dx (YB "marks" (.ref ml) [])) b=some (.ins a.zj dx (YB "marks" (.ref ml) [])):=zu
 generalize upd (upd H1 ml (.lst (os.map V.str))) b (.ins a.zj dx (YB "marks" (.ref ml) []))=H2 at s2 hm2 f2 b2'
 refine⟨_,rfl,by show 3<=sizeLine;decide,fun p0 hp0=>?_⟩
 refine⟨_,rfl,by show 3<=sizeLine;decide,fun p1 hp1=>?_⟩
 refine⟨by show 2<=sizeLine;decide,fun rl hrl=>?_⟩
 have g2:=((Same.new hp0 (.tup [.int (os.length:Nat),.int 0,.int 0])).trans (Same.new hp1 (.tup [.int (os.length:Nat),.int 1,.int 1]))).trans (Same.new hrl (.lst [.ref p0,.ref p1]))
 have hp0':=((Same.new hp1 (.tup [.int (os.length:Nat),.int 1,.int 1])).trans (Same.new hrl (.lst [.ref p0,.ref p1]))) p0 (.tup [.int (os.length:Nat),.int 0,.int 0]) zu
 have hp1':=(Same.new hrl (.lst [.ref p0,.ref p1])) p1 (.tup [.int (os.length:Nat),.int 1,.int 1]) zu
 have hr3:upd (upd (upd H2 p0 (.tup [.int (os.length:Nat),.int 0,.int 0])) p1 (.tup [.int (os.length:Nat),.int 1,.int 1])) rl (.lst [.ref p0,.ref p1]) rl=some (.lst [.ref p0,.ref p1]):=zu
 have frl:H2 rl=none:=((Same.new hp0 _).trans (Same.new hp1 _)).free hrl
 have brl:b≠rl:=zF b2' frl
 have mr:ml≠rl:=zF hm2 frl
 have b0:b≠p0:=zF b2' hp0
 have b1':b≠p1:=zF b2' ((Same.new hp0 _).free hp1)
 generalize upd (upd (upd H2 p0 (.tup [.int (os.length:Nat),.int 0,.int 0])) p1 (.tup [.int (os.length:Nat),.int 1,.int 1])) rl (.lst [.ref p0,.ref p1])=H3 at g2 hp0' hp1' hr3
 refine⟨_,rfl,b,a.zj,dx,_,rfl,g2 _ _ b2',T.zY,T.vd,by show 1<1000;decide,?_⟩
 generalize hfs:YB "rooms" (V.ref rl) (YB "marks" (V.ref ml) [])=fs3
 have u3:∀x,x≠b->upd H3 b (.ins a.zj dx fs3) x=H3 x:=fun x nb=>zJ nb
 have b3:upd H3 b (.ins a.zj dx fs3) b=some (.ins a.zj dx fs3):=zu
 generalize upd H3 b (.ins a.zj dx fs3)=H4 at u3 b3
 refine⟨_,rfl,os.length,rfl,n8,by show 2<=sizeLine;decide,fun tl htl=>?_⟩
 have btl:b≠tl:=zF b3 htl
 have g4:=Same.new htl (.lst [.int 0,.int ((2^2^os.length-1:Nat):Int)])
 have ht5:upd H4 tl (.lst [.int 0,.int ((2^2^os.length-1:Nat):Int)]) tl=some (.lst [.int 0,.int ((2^2^os.length-1:Nat):Int)]):=zu
 generalize upd H4 tl (.lst [.int 0,.int ((2^2^os.length-1:Nat):Int)])=H5 at g4 ht5
 refine⟨_,rfl,b,a.zj,dx,_,rfl,g4 _ _ b3,T.zY,T.QW,by rw[<-hfs];show 2<1000;decide,?_⟩
 generalize zqA:YB "tables" (V.ref tl) fs3=fs4
 have u5:∀x,x≠b->upd H5 b (.ins a.zj dx fs4) x=H5 x:=fun x nb=>zJ nb
 have b5:upd H5 b (.ins a.zj dx fs4) b=some (.ins a.zj dx fs4):=zu
 generalize upd H5 b (.ins a.zj dx fs4)=H6 at u5 b5
 refine fun nd hnd=>?_
 have bnd:b≠nd:=zF b5 hnd
 have g6:=Same.new hnd (.dK [])
 refine⟨_,rfl,os.length,rfl,n8,zu,[(Sum.inl 0,.int 0),(Sum.inl ((2^2^os.length-1:Nat):Int),.int 1)],rfl,(by show 2<=15;decide),?_⟩
 rw[zlC]
 have g7:=Same.new hnd (.dK (XD [] [(Sum.inl 0,.int 0),(Sum.inl ((2^2^os.length-1:Nat):Int),.int 1)]))
 have hn7:upd H6 nd (.dK (XD [] [(Sum.inl 0,.int 0),(Sum.inl ((2^2^os.length-1:Nat):Int),.int 1)])) nd=some (.dK (XD [] [(Sum.inl 0,.int 0),(Sum.inl ((2^2^os.length-1:Nat):Int),.int 1)])):=zu
 generalize upd H6 nd (.dK (XD [] [(Sum.inl 0,.int 0),(Sum.inl ((2^2^os.length-1:Nat):Int),.int 1)]))=H7 at g7 hn7
 refine⟨_,rfl,b,a.zj,dx,_,rfl,g7 _ _ b5,T.zY,T.uM,by rw[<-zqA,<-hfs];show 3<1000;decide,?_⟩
 have big:2^2^os.length-1≠0:=by
  have:2^1<=2^2^os.length:=zv5 (by decide) Nat.one_le_two_pow
  omega
 have to7:∀x o,H3 x=some o->x≠b->upd H7 b (.ins a.zj dx (YB "numbers" (.ref nd) fs4)) x=some o:=fun x o e nb=>by
  rw[zJ nb]
  refine g7 _ _ ?_
  rw[u5 x nb]
  refine g4 _ _ ?_
  rw[u3 x nb]
  exact e
 have tl6:H6 tl=some (.lst [.int 0,.int ((2^2^os.length-1:Nat):Int)]):=by rw[u5 tl (Ne.symm btl)];exact ht5
 have efs:YB "numbers" (.ref nd) fs4=JM ml rl tl nd:=by rw[<-zqA,<-hfs];rfl
 have up:∀x o,H3 x=some o->x≠b->H4 x=some o:=fun x o e nb=>by rw[u3 x nb];exact e
 have mt:ml≠tl:=zF (up _ _ (g2 _ _ hm2) (Ne.symm bm)) htl
 have rt:rl≠tl:=zF (up _ _ hr3 (Ne.symm brl)) htl
 have fr4:∀x,H4 x=none->H x=none:=fun x e=>f2 x (by
  cases hx:H2 x with
  | none=>rfl
  | some o =>
   by_cases nb:x=b
   ·rw[nb,b3] at e;cases e
   ·rw[up x o (g2 _ _ hx) nb] at e;cases e)
 have fr6:∀x,H6 x=none->H x=none:=fun x e=>by
  have nb:x≠b:=fun z=>by rw[z,b5] at e;cases e
  rw[u5 x nb] at e
  exact fr4 x (g4.free e)
 have two:∀{j:Nat},j<2->j=0\/j=1:=fun h=>by omega
 have bk0:zZ.Bk os.length [none,none]:=⟨rfl,rfl,fun k h1 h2=>by simp at h2;omega,fun i j x e _=>by
  have:=(zvD.mp e).1
  rcases two (by simpa using this) with z | z<;>subst z<;>cases e⟩
 refine q _ (fun x=>x=b\/x=ml\/x=rl\/x=tl\/x=nd) (fun x o e nb=>to7 x o (g2 _ _ (s2 x o e nb)) nb) ⟨dx,ml,rl,tl,nd,[.ref p0,.ref p1],[0,2^2^os.length-1],XD [] [(Sum.inl 0,.int 0),(Sum.inl ((2^2^os.length-1:Nat):Int),.int 1)],?_⟩ (fun x hx=>?_)
 ·refine { hb:=by rw[zu,efs],hm:=to7 _ _ (g2 _ _ hm2) (Ne.symm bm),hr:=to7 _ _ hr3 (Ne.symm brl),ht:=by rw[zJ (Ne.symm btl)];exact g7 _ _ tl6,hd:=by rw[zJ (Ne.symm bnd)];exact hn7,mr:=mr,mt:=mt,rt:=rt,ord:=ho,bk:=bk0,len:=rfl,rm:=?_,tabs:=?_,nums:=?_,ft:=fun x=>Iff.rfl }
  ·intro j x e
   have:=(zvD.mp e).1
   rcases two (by simpa using this) with z | z<;>subst z<;>cases e
   ·exact⟨p0,rfl,to7 _ _ hp0' (Ne.symm b0)⟩
   ·exact⟨p1,rfl,to7 _ _ hp1' (Ne.symm b1')⟩
  ·refine⟨rfl,fun j t e=>?_⟩
   have:=(zvD.mp e).1
   rcases two (by simpa using this) with z | z<;>subst z<;>cases e
   ·exact uO (zfr _) fun b _=>rfl
   ·exact uO (zbe _) fun b _=>(zZ.Y6 bk0 _).symm
  ·have z0:Nums [] []:=⟨fun j t e=>by simp at e,fun t _=>rfl,zvQ _⟩
   have z1:=z0.snoc (t:=0) (by simp)
   exact z1.snoc (t:=2^2^os.length-1) (fun hm=>by simp at hm;omega)
 ·rcases hx with z | z | z | z | z<;>subst z
  ·exact .inl rfl
  ·exact .inr (.inr fm)
  ·exact .inr (.inr (f2 _ frl))
  ·exact .inr (.inr (fr4 _ htl))
  ·exact .inr (.inr (fr6 _ hnd))
theorem zjE (T:Txt P w K mg a):zB P w K mg base yd (k+1) a.wL a.wM xX (zbl K):=by
 refine T.xu.F.ok U9 (fun vs H Q E h=>?_) (fun cdv A outer s H vs Q E hr h=>?_)
 ·obtain⟨l,ns,i,rfl,_⟩:=h
  rfl
 obtain⟨l,ns,i,rfl,hS,q⟩:=h
 refine⟨_,(zf (yr (zT zbw (pv 1) (zG zM rfl T.xr yw (za (pv 0) zc)) (zU _)) (zx (zR (yg yC (pv 0) (pv 1) (fun _ _=>rfl)))) z8)
   (zx (zR zq))),?_⟩
 refine⟨_,rfl,_,rfl,l,_,rfl,.inl hS,_,_,rfl,rfl,_,rfl,?_⟩
 refine yG (fun c=>?_) (fun c=>?_)
 ·have c':(i:Int)<(((ns.map V.int).length:Nat):Int):=of_decide_eq_true c
  rw[zvA] at c'
  have hi:i<ns.length:=by omega
  have ec:W3 ns i=ns[i]:=by unfold W3;rw[zvB hi];rfl
  rw[ec] at q
  exact⟨_,rfl,_,rfl,l,_,i,_,rfl,rfl,hS,vU (by rw[zvC,zvB hi];rfl),q⟩
 ·have hi:ns.length<=i:=by
   refine Nat.le_of_not_lt fun hlt=>c (decide_eq_true ?_)
   rw[zvA];omega
  have ec:W3 ns i=0:=by unfold W3;rw[zv8 hi];rfl
  rw[ec] at q
  exact q
theorem QZ (T:Txt P w K mg a):zB P w K mg base yd (k+1) a.zK a.zL zH (xJ a.zj):=by
 refine T.zO.F.ok Xy (fun vs H Q E h=>?_) (fun cdv A outer s H vs Q E hr h=>?_)
 ·obtain⟨b,os,rs,F,j,rfl,_⟩:=h
  rfl
 obtain⟨b,os,rs,F,j,rfl,⟨dx,ml,rl,tl,nd,rv,ts,kvs,h⟩,hk,q⟩:=h
 refine⟨_,(zx (yr (PW.pt (Uq (zT zbw (pv 1) zq (zU _)) (XC (zT zfi (pv 1) (zG zM rfl T.xr yw (za (u9 (pv 0) rfl) zc)) (zU _))))) (zx Z8) z8)),?_⟩
 have hl:=h.len
 refine⟨_,rfl,_,_,rfl,rfl,_,rfl,yG (fun c=>absurd (of_decide_eq_true c) (by omega)) (fun _=>?_)⟩
 refine⟨_,rfl,_,rfl,b,a.zj,dx,_,_,rfl,h.hb,T.zY,T.vd,rfl,rl,_,rfl,.inl (zX.of h.hr),_,_,rfl,rfl,_,rfl,yG (fun c=>absurd (of_decide_eq_true c) (by omega)) (fun _=>?_)⟩
 exact q
theorem zai (T:Txt P w K mg a):zB P w K mg base yd (k+1) a.ZK a.ZL uK (Pq a.zj):=by
 refine T.RK.F.ok J7 (fun vs H Q E h=>?_) (fun cdv A outer s H vs Q E hr h=>?_)
 ·obtain⟨b,os,rs,F,j,rfl,_⟩:=h
  rfl
 obtain⟨b,os,rs,F,j,rfl,⟨dx,ml,rl,tl,nd,rv,ts,kvs,h⟩,hk,q⟩:=h
 refine⟨_,(zx (zR (yg wD (yg yC (u9 (pv 0) rfl) (pv 1) (fun _ _=>rfl)) zq (fun _ _=>rfl)))),?_⟩
 have ex:=zvB hk
 obtain⟨p,e1,e2⟩:=h.rm j _ ex
 refine⟨_,rfl,b,a.zj,dx,_,_,rfl,h.hb,T.zY,T.vd,rfl,_,rfl,rl,_,_,_,rfl,rfl,zX.of h.hr,vU e1,?_⟩
 refine⟨p,_,0,.int (zZ.RM os.length rs j:Nat),rfl,rfl,vO.of e2,?_,q⟩
 unfold zZ.RM
 rw[ex]
 cases rs[j] with
 | none=>rfl
 | some t=>rfl
theorem zc9 (T:Txt P w K mg a):zB P w K mg base yd (k+1) a.Ys a.Yt Ze (Kl a.zj):=by
 refine T.Wh.F.ok zcZ (fun vs H Q E h=>?_) (fun cdv A outer s H vs Q E hr h=>?_)
 ·obtain⟨b,os,rs,F,j,x,v,rfl,_⟩:=h
  rfl
 obtain⟨b,os,rs,F,j,x,v,rfl,⟨dx,ml,rl,tl,nd,rv,ts,kvs,h⟩,ex,q⟩:=h
 refine⟨_,(zx (zR (yg wD (yg yC (u9 (pv 0) rfl) (pv 1) (fun _ _=>rfl)) (zQ vq zq (pv 2)) (fun _ _=>rfl)))),?_⟩
 obtain⟨p,e1,e2⟩:=h.rm j _ ex
 refine⟨_,rfl,b,a.zj,dx,_,_,rfl,h.hb,T.zY,T.vd,rfl,_,rfl,rl,_,_,_,rfl,rfl,zX.of h.hr,vU e1,?_⟩
 refine⟨_,rfl,_,_,rfl,rfl,p,_,_,.int (zhg j x v:Nat),rfl,rfl,vO.of e2,?_,q⟩
 cases v<;>cases x<;>rfl
theorem zda (T:Txt P w K mg a):zB P w K mg base yd (k+1) a.wU a.wV wB (vI (yp a.zj)):=by
 refine T.uG.F.ok zcX (fun vs H Q E h=>?_) (fun cdv A outer s H vs Q E hr h=>?_)
 ·obtain⟨b,os,rs,F,rfl,_⟩:=h
  rfl
 obtain⟨b,os,rs,F,rfl,⟨dx,ml,rl,tl,nd,rv,ts,kvs,h⟩,q⟩:=h
 refine⟨_,(zx (zR (Us Lq rfl T.zeO zeg (za (u9 (pv 0) rfl) zc)))),?_⟩
 exact⟨_,rfl,b,a.zj,dx,_,_,rfl,h.hb,T.zY,T.vR,rfl,ml,_,rfl,.inl (zX.of h.hm),fun l hl=>q l _ (Same.new hl _) hl zu⟩
theorem zeV (T:Txt P w K mg a):zB P w K mg base yd (k+1) a.VR a.V0 Xx (T8 (yp a.zj)):=by
 refine T.QV.F.ok zeK (fun vs H Q E h=>?_) (fun cdv A outer s H vs Q E hr h=>?_)
 ·obtain⟨b,os,rs,F,rfl,_⟩:=h
  rfl
 obtain⟨b,os,rs,F,rfl,⟨dx,ml,rl,tl,nd,rv,ts,kvs,h⟩,q⟩:=h
 refine⟨_,(zx (zR (zG zM rfl T.xr yw (za (u9 (pv 0) rfl) zc)))),?_⟩
 refine⟨_,rfl,b,a.zj,dx,_,_,rfl,h.hb,T.zY,T.vd,rfl,rl,_,rfl,.inl (zX.of h.hr),?_⟩
 rw[h.len]
 exact q H (Same.refl _)
theorem zgv (T:Txt P w K mg a)
  (za3:zB P w K mg base yd k a.ZK a.ZL uK (Pq a.zj))
  (Wj:zB P w K mg base yd k a.Ys a.Yt Ze (Kl a.zj)):zB P w K mg base yd (k+1) a.Ra a.Rb Vb (zix a.zj):=by
 refine T.Rp.F.ok zgb (fun vs H Q E h=>?_) (fun cdv A outer s H vs Q E hr h=>?_)
 ·obtain⟨b,os,rs,F,j,p,v,rfl,_⟩:=h
  rfl
 obtain⟨b,os,rs,F,j,p,v,rfl,hB,hj,hp,q⟩:=h
 refine⟨_,(zf (yr (zT xG (yW (pv 0) T.zY T.RK za3 hr (za (pv 1) zc)) (pv 2) (zU _)) (zx (zR (yW (pv 0) T.zY T.Wh Wj hr (za (pv 1) (za (pv 3) zc))))) z8)
   (zx (zR (pv 1)))),?_⟩
 have BK:=(z9 a.zj).bk hB
 have Tz:=hB
 obtain⟨dx,ml,rl,tl,nd,rv,ts,kvs,h⟩:=hB
 refine⟨_,rfl,b,dx,_,rfl,h.hb,rfl,_,rfl,b,os,rs,F,j,rfl,Tz,hj,_,rfl,rfl,_,rfl,yG (fun c=>?_) (fun c=>?_)⟩
 ·have el:zZ.RM os.length rs j=p:=by
   have:=of_decide_eq_true c
   injection this with this
   omega
  have j2:2<=j:=by
   refine Nat.le_of_not_lt fun h2=>?_
   have:j=0\/j=1:=by omega
   rcases this with z | z<;>subst z
   ·rw[zZ.zbO BK] at el;omega
   ·rw[zZ.Kf BK] at el;omega
  obtain⟨i,lo,hi,e,_⟩:=BK.rm j j2 hj
  rw[zZ.YF BK e] at el
  subst el
  refine⟨_,rfl,b,dx,_,rfl,h.hb,rfl,_,rfl,_,rfl,b,os,rs,F,j,_,v,rfl,Tz,e,?_⟩
  have:zZ.ZR rs j i v=zhg j (some (i,lo,hi)) v:=by
   unfold zZ.ZR
   rw[e]
   exact if_pos rfl
  rw[<-this]
  exact q
 ·have el:zZ.ZR rs j p v=j:=by
   unfold zZ.ZR
   cases e:rs[j]? with
   | none=>rfl
   | some x =>
    cases x with
    | none=>rfl
    | some t =>
     obtain⟨i,lo,hi⟩:=t
     refine if_neg fun z=>c (decide_eq_true ?_)
     rw[zZ.YF BK e,z]
  rw[el] at q
  exact⟨_,rfl,q⟩
theorem zgw (T:Txt P w K mg a)
  (zy:zB P w K mg base yd k a.zK a.zL zH (xJ a.zj))
  (yI:zB P w K mg base yd k a.wU a.wV wB (vI (yp a.zj)))
  (Rt:zB P w K mg base yd k a.Ra a.Rb Vb (zix a.zj)):zB P w K mg base yd (k+1) a.wu a.wz xT (Zb a.zj):=by
 refine T.wN.F.ok uw (fun vs H Q E h=>?_) (fun cdv A outer s H vs Q E hr h=>?_)
 ·obtain⟨b,os,rs,F,j,rfl,_⟩:=h
  rfl
 obtain⟨b,os,rs,F,j,rfl,hB,hj,q⟩:=h
 refine⟨_,(zf (zV (yW (pv 0) T.zY T.zO zy hr (za (pv 1) zc)))
   (zf (zN 2 uw.nd (yh (za (yL (za (yh zc) (za (pv 1) zc))) zc)))
   (zf (ZP PassesOwn.never rfl (Wk rfl T.Wi (za (zG zM rfl T.xr yw (za (Wr (pv 0) T.zY T.uG yI hr) zc)) zc)) (wA (i:=3) uw.nd rfl (Or.inl rfl)) (zf (zN 4 uw.nd (yh zc))
   (zf (ZP PassesOwn.never rfl (yZ (pv 2)) (zgO rfl (Ur (wA (i:=5) uw.nd rfl (Or.inl rfl)) (Ur (wA (i:=6) uw.nd rfl (Or.inl rfl)) zd3))) (zf (zV (Zv PySem.F.plainAttrs_list PySem.F.slot_list_append PySem.F.type_list_append uN (pv 4) (za (yL (za (zQ Za (pv 5) (yh (za zq zc))) (za (yW (pv 0) T.zY T.Rp Rt hr (za (pv 6) (za (pv 3) (za zq zc)))) zc))) zc)))
   (zx (zV (Zv PySem.F.plainAttrs_list PySem.F.slot_list_append PySem.F.type_list_append uN (pv 4) (za (yL (za (zQ Za (pv 5) (yh (za zq zc))) (za (yW (pv 0) T.zY T.Rp Rt hr (za (pv 6) (za (pv 3) (za zq zc)))) zc))) zc))))))
   (zx (zbB (i:=2) uw.nd rfl (Or.inl rfl) (.inl rfl) (uZ:=zA Sx) (js:=[]) rfl (by show Z6 _ _ "entry" [];exact lco (by decide +kernel)) rfl (yZ (pv 4)) (by show ∀j∈([]:List Nat),j<7;decide) (fun cl C s₂ H₂ fp pins s' σ' H' Q I h=>wpAny_tests_one ((zT Lg (yg (X3 (K:=K) rfl) (pv 0) zq (fun _ _=>rfl)) zq (zU _)) pins s' σ' H' Q I h)) (fun cl C s₂ H₂ fp=>(pv 0)) rfl)))))
   (zx (zR (vX (uZ:=zA Sx) (js:=[]) rfl (by show Z6 _ _ "entry" [];exact lco (by decide +kernel)) rfl (yZ (pv 2)) (by show ∀j∈([]:List Nat),j<7;decide) (fun cl C s₂ H₂ fp=>(yg (X3 (K:=K) rfl) (pv 0) zq (fun _ _=>rfl))))))))),?_⟩
 have L:=z9 a.zj
 have BK:=L.bk hB
 have ho:=L.ord hB
 have n8:=ho.le
 have n1:0<os.length:=ho.pos
 have Tz:=hB
 have p256:∀i,i<=os.length->(zZ.Lv rs j i).length<=256:=fun i hi=>zvV (zZ.zis rs j i) (zvV (zv5 (n:=2) (by decide) (show i<=8 by omega)) (by decide))
 obtain⟨dx,ml,rl,tl,nd,rv,ts,kvs,h⟩:=hB
 refine⟨_,rfl,b,dx,_,rfl,h.hb,rfl,_,rfl,b,os,rs,F,j,rfl,Tz,hj,?_⟩
 refine⟨by show 0<=sizeLine;decide,fun q0 hq0=>⟨_,rfl,by show 2<=sizeLine;decide,fun p0 hp0=>⟨by show 1<=sizeLine;decide,fun l0 hl0=>?_⟩⟩⟩
 have g0:=((Same.new hq0 (.lst [])).trans (Same.new hp0 (.tup [.ref q0,.int j]))).trans (Same.new hl0 (.lst [.ref p0]))
 have e0:upd (upd (upd H q0 (.lst [])) p0 (.tup [.ref q0,.int j])) l0 (.lst [.ref p0]) l0=some (.lst [.ref p0]):=zu
 have e1:=(Same.new hl0 (.lst [.ref p0])) p0 (.tup [.ref q0,.int j]) zu
 have e2:=((Same.new hp0 (.tup [.ref q0,.int j])).trans (Same.new hl0 (.lst [.ref p0]))) q0 (.lst []) zu
 have fl0:H l0=none:=((Same.new hq0 _).trans (Same.new hp0 _)).free hl0
 generalize upd (upd (upd H q0 (.lst [])) p0 (.tup [.ref q0,.int j])) l0 (.lst [.ref p0])=H0 at g0 e0 e1 e2
 refine⟨_,rfl,b,dx,_,rfl,g0 _ _ h.hb,rfl,b,os,rs,F,rfl,L.same Tz g0,fun ol H1 g1 hol hol'=>?_⟩
 refine⟨ol,_,rfl,.inl (zX.of hol'),(os.length:Int),by rw[zvA],by omega,by omega,?_⟩
 rw[zwb]
 refine Wm (fun i σ H'=>∃(l:Addr) (es:List Addr) (f3 f4 f5 f6:Option V),Same H H'/\H l=none/\H' l=some (.lst (es.map V.ref))/\Paired (zhi H H') es (zZ.Lv rs j i)/\σ=[some (.ref b),some (.int j),some (.ref l),f3,f4,f5,f6])
  ⟨l0,[p0],_,_,_,_,g0.trans g1,fl0,g1 _ _ e0,.cons ⟨q0,hq0,g1 _ _ e1,g1 _ _ e2⟩ .nil,rfl⟩ ?_ ?_
 ·rintro i σ H2 hi ⟨l,es,f3,f4,f5,f6,g2,fl,hl,he,rfl⟩
  have el:=yJ he
  have lt:=p256 i (by omega)
  refine⟨by show 0<=sizeLine;decide,fun lg hlg=>?_⟩
  have nl:l≠lg:=zF hl hlg
  have g3:=Same.new hlg (.lst [])
  have flg:H lg=none:=g2.free hlg
  refine⟨_,rfl,l,rfl,⟨_,zX.of (g3 _ _ hl)⟩,?_⟩
  refine WQ (xs:=es.map V.ref) (fun m σ H'=>∃(us:List Addr) (f5 f6:Option V),Same H2 H'/\H' lg=some (.lst (us.map V.ref))/\Paired (zcR lg H H') us (((zZ.Lv rs j i).take m).flatMap (zZ.Yx rs i))/\σ=[some (.ref b),some (.int j),some (.ref l),some (.int (0+(i:Nat))),some (.ref lg),f5,f6])
   ⟨[],_,_,g3,zu,.nil,rfl⟩ ?_ ?_ ?_
  ·rintro m σ H' _ ⟨us,f5,f6,g,_⟩
   exact zX.of (g _ _ hl)
  ·rintro m x σ H3 hx ⟨us,f5,f6,g,hL,hu,rfl⟩
   rw[zvC] at hx
   cases hp:es[m]? with
   | none=>rw[hp] at hx;cases hx
   | some p =>
    rw[hp] at hx
    cases hx
    obtain⟨e,hee,q2,fq,hpt,hq2⟩:=Yc he hp
    have zsm:=g _ _ hpt
    have hq3:=g _ _ hq2
    obtain⟨em,elv,eln⟩:=znp BK hj i (by omega) e (zvF hee)
    have ul:=yJ hu
    rw[zZ.Uz (zZ.Yx rs i) (fun _=>rfl),zvX] at ul
    have ez:V.int (0+(i:Nat))=V.int (i:Nat):=congrArg V.int (by omega)
    refine⟨p,_,rfl,vO.of zsm,rfl,_,_,rfl,_,_,rfl,rfl,?_⟩
    refine⟨_,rfl,.inl ⟨rfl,_,zX.of hL⟩,_,rfl,by show 1<=sizeLine;decide,fun a0 ha0=>?_⟩
    have ka0:=Same.new ha0 (.lst [.int 0])
    refine⟨q2,a0,_,_,rfl,rfl,zX.of (ka0 _ _ hq3),zX.of zu,by rw[zvA,eln];exact zvV (show i+1<=9 by omega) (by decide),fun r0 hr0=>?_⟩
    have nr0:r0≠lg:=Ne.symm (zF (ka0 _ _ hL) hr0)
    have fr0:H r0=none:=(g2.trans (g.trans ka0)).free hr0
    have kb0:=ka0.trans (Same.new hr0 (.lst (vH e.1++[.int 0])))
    have er0:upd (upd H3 a0 (.lst [.int 0])) r0 (.lst (vH e.1++[.int 0])) r0=some (.lst (vH (e.1++[false]))):=by rw[zu];unfold vH;rw[zvO];rfl
    generalize upd (upd H3 a0 (.lst [.int 0])) r0 (.lst (vH e.1++[.int 0]))=Hb0 at kb0 er0
    have gb0:=g2.trans (g.trans kb0)
    refine⟨_,rfl,b,dx,_,rfl,gb0 _ _ h.hb,rfl,_,rfl,_,rfl,b,os,rs,F,e.2,i,false,by rw[ez];rfl,L.same Tz gb0,em,by omega,?_⟩
    refine⟨by show 2<=sizeLine;decide,fun t0 ht0=>?_⟩
    have kt0:=Same.new ht0 (.tup [.ref r0,.int (zZ.ZR rs e.2 i false:Nat)])
    have kc0:=kb0.trans kt0
    have et0:upd Hb0 t0 (.tup [.ref r0,.int (zZ.ZR rs e.2 i false:Nat)]) t0=some (.tup [.ref r0,.int (zZ.ZR rs e.2 i false:Nat)]):=zu
    have es0:=kt0 _ _ er0
    generalize upd Hb0 t0 (.tup [.ref r0,.int (zZ.ZR rs e.2 i false:Nat)])=Hc0 at kt0 kc0 et0 es0
    have zoN:=kc0 _ _ hL
    refine⟨lg,_,_,rfl,rfl,zoN,by rw[zvA];(try simp only[zvI,zv7]);exact yc (by omega),?_⟩
    have gd0:Same H2 (upd Hc0 lg (.lst ((us).map V.ref++[.ref t0]))):=(g.trans kc0).over hlg _
    have zmZ:upd Hc0 lg (.lst ((us).map V.ref++[.ref t0])) lg=some (.lst ((us++[t0]).map V.ref)):=by rw[zu];simp
    have zqE:=gd0 _ _ hq2
    have zqF:Paired (zcR lg H (upd Hc0 lg (.lst ((us).map V.ref++[.ref t0])))) (us++[t0]) (((zZ.Lv rs j i).take m).flatMap (zZ.Yx rs i)++[(e.1++[false],zZ.ZR rs e.2 i false)]) :=
     WY (zdJ zoN (zbS hu kc0)) (.cons ⟨r0,fr0,nr0,by rw[zJ (Vv et0 zoN (by intro z;cases z))];exact et0,by rw[zJ nr0];exact es0⟩ .nil)
    generalize upd Hc0 lg (.lst ((us).map V.ref++[.ref t0]))=Hd0 at gd0 zmZ zqE zqF
    refine⟨_,rfl,.inl ⟨rfl,_,zX.of zmZ⟩,_,rfl,by show 1<=sizeLine;decide,fun a1 ha1=>?_⟩
    have ka1:=Same.new ha1 (.lst [.int 1])
    refine⟨q2,a1,_,_,rfl,rfl,zX.of (ka1 _ _ zqE),zX.of zu,by rw[zvA,eln];exact zvV (show i+1<=9 by omega) (by decide),fun r1 hr1=>?_⟩
    have nr1:r1≠lg:=Ne.symm (zF (ka1 _ _ zmZ) hr1)
    have fr1:H r1=none:=(g2.trans (gd0.trans ka1)).free hr1
    have kb1:=ka1.trans (Same.new hr1 (.lst (vH e.1++[.int 1])))
    have er1:upd (upd Hd0 a1 (.lst [.int 1])) r1 (.lst (vH e.1++[.int 1])) r1=some (.lst (vH (e.1++[true]))):=by rw[zu];unfold vH;rw[zvO];rfl
    generalize upd (upd Hd0 a1 (.lst [.int 1])) r1 (.lst (vH e.1++[.int 1]))=Hb1 at kb1 er1
    have gb1:=g2.trans (gd0.trans kb1)
    refine⟨_,rfl,b,dx,_,rfl,gb1 _ _ h.hb,rfl,_,rfl,_,rfl,b,os,rs,F,e.2,i,true,by rw[ez];rfl,L.same Tz gb1,em,by omega,?_⟩
    refine⟨by show 2<=sizeLine;decide,fun t1 ht1=>?_⟩
    have kt1:=Same.new ht1 (.tup [.ref r1,.int (zZ.ZR rs e.2 i true:Nat)])
    have kc1:=kb1.trans kt1
    have et1:upd Hb1 t1 (.tup [.ref r1,.int (zZ.ZR rs e.2 i true:Nat)]) t1=some (.tup [.ref r1,.int (zZ.ZR rs e.2 i true:Nat)]):=zu
    have es1:=kt1 _ _ er1
    generalize upd Hb1 t1 (.tup [.ref r1,.int (zZ.ZR rs e.2 i true:Nat)])=Hc1 at kt1 kc1 et1 es1
    have zoO:=kc1 _ _ zmZ
    refine⟨lg,_,_,rfl,rfl,zoO,by rw[zvA];(try simp only[zvI,zv7]);exact yc (by omega),?_⟩
    have gd1:Same H2 (upd Hc1 lg (.lst (((us++[t0])).map V.ref++[.ref t1]))):=(gd0.trans kc1).over hlg _
    have zqG:upd Hc1 lg (.lst (((us++[t0])).map V.ref++[.ref t1])) lg=some (.lst (((us++[t0])++[t1]).map V.ref)):=by rw[zu];simp
    have zss:=gd1 _ _ hq2
    have zqH:Paired (zcR lg H (upd Hc1 lg (.lst (((us++[t0])).map V.ref++[.ref t1])))) ((us++[t0])++[t1]) ((((zZ.Lv rs j i).take m).flatMap (zZ.Yx rs i)++[(e.1++[false],zZ.ZR rs e.2 i false)])++[(e.1++[true],zZ.ZR rs e.2 i true)]) :=
     WY (zdJ zoO (zbS zqF kc1)) (.cons ⟨r1,fr1,nr1,by rw[zJ (Vv et1 zoO (by intro z;cases z))];exact et1,by rw[zJ nr1];exact es1⟩ .nil)
    generalize upd Hc1 lg (.lst (((us++[t0])).map V.ref++[.ref t1]))=Hd1 at gd1 zqG zss zqH
    refine⟨us++[t0]++[t1],_,_,gd1,zqG,?_,rfl⟩
    rw[vZ hee,List.flatMap_append]
    have ee:[e].flatMap (zZ.Yx rs i)=[(e.1++[false],zZ.ZR rs e.2 i false)]++[(e.1++[true],zZ.ZR rs e.2 i true)]:=rfl
    rw[ee,<-List.append_assoc]
    exact zqH
  ·rintro σ H3 ⟨us,f5,f6,g,hL,hu,rfl⟩
   have hml:(es.map V.ref).length=(zZ.Lv rs j i).length:=by rw[zvA];exact el
   rw[hml,zv2] at hu
   have ul:=yJ hu
   have hfl:=zZ.Uz (zZ.Yx rs i) (fun _=>rfl) (zZ.Lv rs j i)
   refine⟨_,rfl,lg,rfl,⟨_,zX.of hL⟩,?_⟩
   refine Ls (xs:=us.map V.ref) (fun m ys H'=>Same H3 H'/\∃ws:List Addr,ys=ws.map V.ref/\Paired (zhi H H') ws ((((zZ.Lv rs j i).flatMap (zZ.Yx rs i)).take m).filter zZ.ne0)) ⟨Same.refl _,[],rfl,.nil⟩ (by rw[zvA];exact zvS (yc (by omega))) ?_ ?_ ?_ ?_ ?_
   ·rintro m ys H' hm ⟨gg,ws,rfl,hw⟩
    have:=yJ hw
    have:=List.length_filter_le zZ.ne0 (((zZ.Lv rs j i).flatMap (zZ.Yx rs i)).take m)
    rw[zvX] at this
    exact⟨zX.of (gg _ _ hL),by rw[zvA];omega⟩
   ·rintro m x ys H' hx ⟨gg,ws,rfl,hw⟩
    rw[zvC] at hx
    cases hp:us[m]? with
    | none=>rw[hp] at hx;cases hx
    | some p =>
     rw[hp] at hx
     cases hx
     obtain⟨e,hee,q2,fq,nq,hpt,hq2⟩:=Yc hu hp
     have hpt':=gg _ _ hpt
     refine⟨_,rfl,p,_,_,_,rfl,rfl,vO.of hpt',rfl,rfl,_,rfl,?_⟩
     have ed:(!decide (V.int (e.2:Nat)=V.int 0))=zZ.ne0 e:=by
      unfold zZ.ne0
      by_cases z:e.2=0
      ·rw[z];rfl
      ·have h1:¬V.int (e.2:Nat)=V.int 0:=fun y=>by injection y with y;omega
       rw[decide_eq_false h1]
       cases hh:(e.2 != 0)
       ·simp at hh;exact absurd hh z
       ·rfl
     rw[ed,vZ hee,List.filter_append]
     cases hn:zZ.ne0 e
     ·refine tD ⟨gg,ws,rfl,?_⟩
      rw[List.filter_cons_of_neg (by rw[hn];exact zvE)]
      rw[List.filter_nil,List.append_nil]
      exact hw
     ·refine uY ⟨_,rfl,gg,ws++[p],by rw[zvO];rfl,?_⟩
      rw[List.filter_cons_of_pos hn]
      exact WY hw (.cons ⟨q2,fq,hpt',gg _ _ hq2⟩ .nil)
   ·rintro σ' H' Q1 Q2 hQ ⟨v,e1,p,xs',i',v',z1,z2,z3,z4,z5,b',z6,z7⟩
    exact⟨v,e1,p,xs',i',v',z1,z2,z3,z4,z5,b',z6,hQ _ _ z7⟩
   ·rintro σ' H' Q1 Q2 hQ ⟨v,e1,z⟩
    exact⟨v,e1,hQ _ _ z⟩
   ·rintro ys H' p ⟨gg,ws,rfl,hw⟩ hp
    rw[zvA,ul,zv2] at hw
    have gn:=Same.new hp (.lst (ws.map V.ref))
    have zst:=g2.trans (g.trans (gg.trans gn))
    exact⟨p,ws,_,_,_,_,zst,(g2.trans (g.trans gg)).free hp,zu,zjc hw gn,rfl⟩
 ·rintro σ H2 ⟨l,es,f3,f4,f5,f6,g2,fl,hl,he,rfl⟩
  have el:=yJ he
  have lt:=p256 os.length (zvQ _)
  refine⟨_,rfl,l,rfl,⟨_,zX.of hl⟩,?_⟩
  refine Ls (xs:=es.map V.ref) (fun m ys H'=>Same H2 H'/\∃ws:List Addr,ys=ws.map V.ref/\Paired (zoo H H') ws (((zZ.Lv rs j os.length).take m).map (·.1))) ⟨Same.refl _,[],rfl,.nil⟩ (by rw[zvA];exact zvS (yc (by omega))) ?_ ?_ ?_ ?_ ?_
  ·rintro m ys H' hm ⟨gg,ws,rfl,hw⟩
   have:=yJ hw
   rw[zvA,zvX] at this
   exact⟨zX.of (gg _ _ hl),by rw[zvA];omega⟩
  ·rintro m x ys H' hx ⟨gg,ws,rfl,hw⟩
   rw[zvC] at hx
   cases hp:es[m]? with
   | none=>rw[hp] at hx;cases hx
   | some p =>
    rw[hp] at hx
    cases hx
    obtain⟨e,hee,q2,fq,hpt,hq2⟩:=Yc he hp
    show tOp (zn1 K) (Lf 0) (tC (V.int 0)) (Wn [some (V.ref b),some (V.int (j:Nat)),some (V.ref l),f3,f4,f5,f6] [] (some (V.ref p))) H' _
    refine⟨_,rfl,p,_,_,_,rfl,rfl,vO.of (gg _ _ hpt),rfl,gg,ws++[q2],by rw[zvO];rfl,?_⟩
    rw[vZ hee,zvO]
    exact WY hw (.cons ⟨fq,gg _ _ hq2⟩ .nil)
  ·exact fun _ _ _ _ h q=>h _ _ q
  ·rintro σ' H' Q1 Q2 hQ ⟨v,e1,p,xs',i',v',z1,z2,z3,z4,z5⟩
   exact⟨v,e1,p,xs',i',v',z1,z2,z3,z4,hQ _ _ z5⟩
  ·rintro ys H' p ⟨gg,ws,rfl,hw⟩ hp
   rw[zvA,el,zv2,zZ.zmm BK hj n1] at hw
   have gn:=Same.new hp (.lst (ws.map V.ref))
   exact q p _ ws (g2.trans (gg.trans gn)) ((g2.trans gg).free hp) zu (vA (fun _ _ r=>⟨r.1,gn _ _ r.2⟩) hw)
theorem zgx (T:Txt P w K mg a)
  (yx:zB P w K mg base yd k a.wu a.wz xT (Zb a.zj)):zB P w K mg base yd (k+1) a.SN a.SQ W4 (JR a.zj):=by
 refine T.MN.F.ok zaz (fun vs H Q E h=>?_) (fun cdv A outer s H vs Q E hr h=>?_)
 ·obtain⟨b,os,rs,F,j,rfl,_⟩:=h
  rfl
 obtain⟨b,os,rs,F,j,rfl,hB,hj,q⟩:=h
 refine⟨_,(zx (zR (zG zM rfl T.xr yw (za (zE yx hr T.wN (za (pv 0) (za (pv 1) zc))) zc)))),?_⟩
 refine⟨_,rfl,_,rfl,b,os,rs,F,j,rfl,hB,hj,fun l H1 ps g1 fl hl hp=>?_⟩
 refine⟨l,_,rfl,.inl (zX.of hl),?_⟩
 rw[zvA,yJ hp]
 exact q H1 g1
theorem zjF (T:Txt P w K mg a):zB P w K mg base yd (k+1) a.Qx a.Qy U4 (LK K):=by
 refine T.zcs.F.ok zjv (fun vs H Q E h=>?_) (fun cdv A outer s H vs Q E hr h=>?_)
 ·obtain⟨l,r,xs,ns,rfl,_⟩:=h
  rfl
 obtain⟨l,r,xs,ns,rfl,hl,hq,hz,q⟩:=h
 refine⟨_,(zx (zR (WK (wH xG (zG zM rfl T.xr yw (za (pv 1) zc)) (zG zM rfl T.xr yw (za (pv 0) zc)) (zU _)) (N6 (zG (vY rfl) rfl T.Tv YC (za (vX (uZ:=zA zce) (js:=[]) rfl (by show Z6 _ _ "value" [];exact lco (by decide +kernel)) rfl (yZ (pv 1)) (by show ∀j∈([]:List Nat),j<2;decide) (fun cl C s₂ H₂ fp=>(wH (zoe (K:=K) rfl) (pv 0) (yL (za zq (za zq zc))) (by with_unfolding_all rfl)))) zc)))))),?_⟩
 have hlen:(ns.map V.int).length=ns.length:=zvA _
 refine⟨_,rfl,r,_,rfl,.inl hq,_,rfl,l,_,rfl,.inl hl,rfl,_,rfl,yG (fun c=>?_) (fun c=>?_)⟩
 ·have c':ns.length=xs.length:=by
   have:=of_decide_eq_true c
   injection this with this
   rw[hlen] at this;omega
  refine⟨_,rfl,r,rfl,⟨_,hq⟩,zek (fun x v=>v=(match x with | .int i=>.bl (i==0||i==1) | _=>.non)) hq (by rw[hlen];exact zvS (yc hz)) ?_ ?_ ?_⟩
  ·intro i x H' hx g
   rw[zvC] at hx
   cases ho:ns[i]? with
   | none=>rw[ho] at hx;cases hx
   | some y =>
    rw[ho] at hx
    cases hx
    refine⟨_,rfl,by show 2<=sizeLine;decide,fun p hp=>⟨p,_,rfl,.inr (vO.of zu),rfl,rfl,?_,g.trans (Same.new hp _)⟩⟩
    show V.bl ((0==y)||((1==y)||false))=V.bl (y==0||y==1)
    have e0:((0:Int)==y)=(y==0):=by rw[zwd];simp;exact eq_comm
    have e1:((1:Int)==y)=(y==1):=by rw[zwd];simp;exact eq_comm
    rw[e0,e1,Bool.or_false]
  ·rintro σ' H' Q1 Q2 hQ ⟨v,e,z,h2⟩
   exact⟨v,e,z,fun p hp=>let ⟨a1,a2,a3,a4,a5,a6,a7⟩:=h2 p hp;⟨a1,a2,a3,a4,a5,a6,hQ _ _ a7⟩⟩
  ·intro ys H' p hr' g hp
   have e:=JC (f:=fun x=>match x with | .int i=>.bl (i==0||i==1) | _=>.non) hr'
   have e2:ys=(ns.map fun i=>(i==0||i==1)).map V.bl:=by rw[e,zwa,zwa];rfl
   subst e2
   refine⟨p,_,rfl,zX.of zu,?_⟩
   have e4:(ns.map fun i=>(i==0||i==1)).all id=RL xs.length ns:=by
    unfold RL
    rw[decide_eq_true c',Bool.true_and,List.all_map]
    rfl
   rw[e4]
   exact q _ (g.trans (Same.new hp _))
 ·have e4:RL xs.length ns=false:=by
   unfold RL
   rw[decide_eq_false (fun z=>c (decide_eq_true (by rw[hlen,z]))),Bool.false_and]
  rw[<-e4]
  exact q _ (Same.refl _)
theorem zcx (T:Txt P w K mg a)(Q5:zB P w K mg base yd k a.Qx a.Qy U4 (LK K)):zB P w K mg base yd (k+1) a.ZD a.ZF uQ (JH K):=by
 refine T.Xl.F.ok Qp (fun vs H Q E h=>?_) (fun cdv A outer s H vs Q E hr h=>?_)
 ·obtain⟨l,r,xs,ns,rfl,_⟩:=h
  rfl
 obtain⟨l,r,xs,ns,rfl,h1,h2,h3,h4,q⟩:=h
 refine⟨_,(zx (yr (Zu (yM (zE Q5 hr T.zcs (za (pv 0) (za (pv 1) zc))) (fun _=>rfl))) (zx Z8) z8)),?_⟩
 refine⟨_,rfl,_,rfl,l,r,xs,ns,rfl,h1,h2,h3,fun H' g=>⟨_,rfl,?_⟩⟩
 rw[h4]
 exact tD (q H' g)
theorem zaj (T:Txt P w K mg a)
  (zy:zB P w K mg base yd k a.zK a.zL zH (xJ a.zj))
  (Um:zB P w K mg base yd k a.ZD a.ZF uQ (JH K))
  (Rt:zB P w K mg base yd k a.Ra a.Rb Vb (zix a.zj)):zB P w K mg base yd (k+1) a.vB a.vC wK (Qh a.zj K):=by
 refine T.uL.F.ok vf (fun vs H Q E h=>?_) (fun cdv A outer s H vs Q E hr h=>?_)
 ·obtain⟨b,rl,os,rs,F,j,r,rfl,_⟩:=h
  rfl
 obtain⟨b,rl,os,rs,F,j,r,rfl,hB,hj,hR,hl,q⟩:=h
 refine⟨_,(zf (zV (yW (pv 0) T.zY T.zO zy hr (za (pv 1) zc)))
   (zf (zV (zE Um hr T.Xl (za (u9 (pv 0) rfl) (za (pv 2) zc))))
   (zf (ZP PassesOwn.never rfl (zlZ rfl T.zgm (za (pv 2) zc)) (zgO rfl (Ur (wA (i:=3) vf.nd rfl (Or.inl rfl)) (Ur (wA (i:=4) vf.nd rfl (Or.inl rfl)) zd3))) (zx (zN 1 vf.nd (yW (pv 0) T.zY T.Rp Rt hr (za (pv 1) (za (pv 3) (za (pv 4) zc)))))))
   (zx (zR (pv 1)))))),?_⟩
 have L:=z9 a.zj
 have BK:=L.bk hB
 have ho:=L.ord hB
 have Tz:=hB
 have hlen:(os.map V.str).length=os.length:=zvA _
 obtain⟨dx,ml,rml,tl,nd,rv,ts,kvs,h⟩:=hB
 refine⟨_,rfl,b,dx,_,rfl,h.hb,rfl,_,rfl,b,os,rs,F,j,rfl,Tz,hj,?_⟩
 have hR':=hR
 rw[zdz] at hR'
 refine⟨_,rfl,b,a.zj,dx,_,_,rfl,h.hb,T.zY,T.vR,rfl,_,rfl,ml,rl,_,_,rfl,zX.of h.hm,hR',by rw[zvA,hl];exact zvV ho.le (by decide),by rw[hlen];exact zhc r hl,fun H1 g1=>?_⟩
 refine⟨_,rfl,rl,vH r,rfl,g1.seq hR,?_⟩
 have len:(vH r).length=r.length:=zvA _
 refine zkn (xs:=vH r) (fun i σ H'=>Same H H'/\∃(f3 f4:Option V),σ=[some (.ref b),some (.int (zZ.wk rs j (zZ.tK r) i:Nat)),some (.ref rl),f3,f4]) ⟨g1,_,_,rfl⟩ ?_ ?_ ?_
 ·rintro i σ H' _ ⟨g,_⟩
  exact g.seq hR
 ·rintro i x σ H' p hx ⟨g,f3,f4,rfl⟩ hp
  have hi:i<r.length:=by
   have:=(zvD.mp hx).1
   rw[len] at this;exact this
  have ex:x=V.int ((zZ.tK r i).toNat:Nat):=by
   unfold vH at hx
   rw[zvC,zvB hi] at hx
   unfold zZ.tK
   rw[zvN,zvB hi]
   exact(zv4 hx).symm
  subst ex
  refine⟨p,_,rfl,vO.of zu,rfl,_,_,rfl,_,_,rfl,rfl,?_⟩
  have g2:=g.trans (R6 hp (.tup [.int (i:Nat),.int ((zZ.tK r i).toNat:Nat)]))
  obtain⟨w1,w2,w3⟩:=zZ.zeu BK hj (zZ.tK r) i (by omega)
  refine⟨_,rfl,b,dx,_,rfl,g2 _ _ h.hb,rfl,_,rfl,_,rfl,_,rfl,b,os,rs,F,_,i,zZ.tK r i,rfl,L.same Tz g2,w1,by omega,?_⟩
  exact⟨g2,_,_,rfl⟩
 ·rintro σ H' ⟨g,f3,f4,rfl⟩
  refine⟨_,rfl,?_⟩
  rw[len,hl]
  have e:=zZ.zkC BK hj (zZ.tK r)
  obtain⟨w1,w2,w3⟩:=zZ.zeu BK hj (zZ.tK r) os.length (zvQ _)
  have e2:zZ.wk rs j (zZ.tK r) os.length=(zZ.yes rs j (zZ.tK r)).toNat:=by
   rw[<-e]
   by_cases h2:2<=zZ.wk rs j (zZ.tK r) os.length
   ·exfalso
    obtain⟨i,lo,hi,e,hin,_⟩:=BK.rm _ h2 w1
    rw[zZ.YF BK e] at w2
    omega
   ·have:zZ.wk rs j (zZ.tK r) os.length=0\/zZ.wk rs j (zZ.tK r) os.length=1:=by omega
    rcases this with z | z<;>rw[z]<;>rfl
  rw[e2]
  exact q H' g
theorem zjG (T:Txt P w K mg a)
  (yx:zB P w K mg base yd k a.wu a.wz xT (Zb a.zj)):zB P w K mg base yd (k+1) a.Qv a.Qw U0 (zez a.zj):=by
 refine T.Jb.F.ok Ws (fun vs H Q E h=>?_) (fun cdv A outer s H vs Q E hr h=>?_)
 ·obtain⟨b,os,rs,F,j,m,r,rfl,_⟩:=h
  rfl
 obtain⟨b,os,rs,F,j,m,r,rfl,hB,hj,hm,q⟩:=h
 refine⟨_,(zf (zN 3 Ws.nd (zE yx hr T.wN (za (pv 0) (za (pv 1) zc))))
   (zf (yr (PW.pt (Uq (zT zbw (pv 2) zq (zU _)) (XC (zT zfi (pv 2) (zG zM rfl T.xr yw (za (pv 3) zc)) (zU _))))) (zx Z8) z8)
   (zx (zR (yg yC (pv 3) (pv 2) (fun _ _=>rfl)))))),?_⟩
 refine⟨_,rfl,_,rfl,b,os,rs,F,j,rfl,hB,hj,fun l H1 ps g1 fl hl hp=>?_⟩
 have el:=yJ hp
 obtain⟨lm,em⟩:=zvD.mp hm
 have lps:(ps.map V.ref).length=(zZ.xP os.length rs j).length:=by rw[zvA,el]
 refine⟨_,rfl,_,_,rfl,rfl,_,rfl,yG (fun c=>absurd (of_decide_eq_true c) (by omega)) (fun _=>?_)⟩
 refine⟨_,rfl,_,rfl,l,_,rfl,.inl (zX.of hl),_,_,rfl,rfl,_,rfl,yG (fun c=>absurd (of_decide_eq_true c) (by omega)) (fun _=>?_)⟩
 have hpm:m<ps.length:=by omega
 have hps:ps[m]?=some ps[m]:=zvB hpm
 obtain⟨r',hr',f1,f2⟩:=Yc hp hps
 rw[hm] at hr'
 cases hr'
 refine⟨_,rfl,_,rfl,l,_,_,_,rfl,rfl,zX.of hl,?_,q _ H1 g1 f1 f2⟩
 exact vU (by rw[zvC,hps];rfl)
theorem zdb (T:Txt P w K mg a)
  (ZM:zB P w K mg base yd k a.vB a.vC wK (Qh a.zj K))
  (yx:zB P w K mg base yd k a.wu a.wz xT (Zb a.zj)):zB P w K mg base yd (k+1) a.Wb a.Wc Yj (Qi a.zj K):=by
 refine T.Rh.F.ok Nu (fun vs H Q E h=>?_) (fun cdv A outer s H vs Q E hr h=>?_)
 ·obtain⟨b,rl,os,rs,F,j,m,r,rfl,_⟩:=h
  rfl
 obtain⟨b,rl,os,rs,F,j,m,r,rfl,hB,hj,hR,hm,q⟩:=h
 refine⟨_,(zf (yr (zT xG (yW (pv 0) T.zY T.uL ZM hr (za (pv 1) (za (pv 2) zc))) zq (zU _)) (zx Z8) z8)
   (zx (zR (Zv PySem.F.plainAttrs_list PySem.F.slot_list_index PySem.F.type_list_index (zjj (K:=K) rfl (hu9 hr)) (zE yx hr T.wN (za (pv 0) (za (pv 1) zc))) (za (pv 2) zc))))),?_⟩
 have L:=z9 a.zj
 have mem:=zvF hm
 have hl:=zZ.UG mem
 have hy:zZ.yes rs j (zZ.tK r)=true:=(List.mem_filter.mp mem).2
 obtain⟨dx,fs,M8,hmt⟩:=L.ins hB
 refine⟨_,rfl,b,dx,_,rfl,M8,hmt _ (by decide +kernel),_,rfl,_,rfl,b,rl,os,rs,F,j,r,rfl,hB,hj,hR,hl,fun H1 g1=>?_⟩
 rw[hy]
 refine⟨rfl,_,rfl,tD ?_⟩
 refine⟨_,rfl,_,rfl,b,os,rs,F,j,rfl,L.same hB g1,hj,fun l H2 ps g2 fl hl2 hp=>?_⟩
 have el:=yJ hp
 obtain⟨lm,em⟩:=zvD.mp hm
 refine⟨.inl ⟨rfl,_,zX.of hl2⟩,?_⟩
 have R2:=(g1.trans g2).seq hR
 refine⟨_,rfl,l,_,_,fun z=>match z with | .ref p=>(match H2 p with | some (.lst ys)=>decide (ys=vH r) | _=>false) | _=>false,m,rfl,rfl,zX.of hl2,fun z hz=>?_,?_,q H2 (g1.trans g2)⟩
 ·obtain⟨p,hpm,rfl⟩:=List.mem_map.mp hz
  obtain⟨i,hi,ei⟩:=zwe hpm
  obtain⟨r',hr',f1,f2⟩:=Yc hp (show ps[i]?=some p by rw[zvB hi,ei])
  have hl':=zZ.UG (zvF hr')
  have z:=ziy (n:=7) (zX.of f2) R2 (hl'.trans hl.symm)
  rw[zhn (hl'.trans hl.symm)] at z
  have e1:(match H2 p with | some (.lst ys)=>decide (ys=vH r) | _=>false)=(r'==r):=by
   rw[f2]
   exact zfT r' r
  show Ph K H2 8 (.ref p) (.ref rl) (match H2 p with | some (.lst ys)=>decide (ys=vH r) | _=>false)
  rw[e1]
  exact z
 ·rw[List.findIdx?_map]
  rw[<-zZ.Nq (zZ.zhm os.length rs j) hm]
  exact zmx (fun p r' ⟨f1,f2⟩=>by
   show(match H2 p with | some (.lst ys)=>decide (ys=vH r) | _=>false)=(r'==r)
   rw[f2]
   exact zfT r' r) hp
theorem zgy (T:Txt P w K mg a)
  (yx:zB P w K mg base yd k a.wu a.wz xT (Zb a.zj))
  (yI:zB P w K mg base yd k a.wU a.wV wB (vI (yp a.zj))):zB P w K mg base yd (k+1) a.SX a.S5 W6 (JT a.zj):=by
 refine T.MP.F.ok Vx (fun vs H Q E h=>?_) (fun cdv A outer s H vs Q E hr h=>?_)
 ·obtain⟨b,os,rs,F,j,rfl,_⟩:=h
  rfl
 obtain⟨b,os,rs,F,j,rfl,hB,hj,q⟩:=h
 refine⟨_,(zf (Z9 (i:=2) Vx.nd rfl (Or.inr rfl) (vX (uZ:=zA W5) (js:=[]) rfl (by show Z6 _ _ "row" [];exact lco (by decide +kernel)) rfl (yZ (zE yx hr T.wN (za (pv 0) (za (pv 1) zc)))) (by show ∀j∈([]:List Nat),j<3;decide) (fun cl C s₂ H₂ fp=>(zG (zdH (K:=K) rfl rfl) rfl T.ziJ zef (za (pv 0) zc)))))
   (zx (zR (vX (uZ:=zA W5) (js:=[2]) rfl (by show Z6 _ _ "many" ["found"];exact lco (by decide +kernel)) rfl (Wk rfl T.Wi (za (zQ vq (zG zM rfl T.xr yw (za (Wr (pv 0) T.zY T.uG yI hr) zc)) zq) zc)) (by show ∀j∈([2]:List Nat),j<3;decide) (fun cl C s₂ H₂ fp=>(show PE _ _ (tBM K "list" (zkN K) (Lf 1) (Rx (Lf 0) Vq)) from (Zv PySem.F.plainAttrs_list PySem.F.slot_list_count PySem.F.type_list_count (zkO (K:=K) rfl) (pv 1) (za (pv 0) zc)))))))),?_⟩
 have L:=z9 a.zj
 have ho:=L.ord hB
 have n8:=ho.le
 have Tz:=hB
 obtain⟨dx,ml,rl,tl,nd,rv,ts,kvs,h⟩:=hB
 refine⟨_,rfl,_,rfl,b,os,rs,F,j,rfl,Tz,hj,fun yl H2 ys g2 fyl hyl hys=>?_⟩
 have ly:=yJ hys
 have zqI:(zZ.xP os.length rs j).length<=256:=zvV (zZ.Pr _ _ _) (zvV (zv5 (n:=2) (by decide) n8) (by decide))
 refine⟨yl,rfl,⟨_,zX.of hyl⟩,Km (fun i v=>∃r,(zZ.xP os.length rs j)[i]?=some r/\v=.int ((zZ.ones r:Nat):Int)) (zX.of hyl) (by rw[zvA];exact zvS (yc (by omega))) ?_ ?_ ?_⟩
 ·intro i x H' hx g
  rw[zvC] at hx
  cases hp:ys[i]? with
  | none=>rw[hp] at hx;cases hx
  | some p =>
   rw[hp] at hx
   cases hx
   obtain⟨r,hr',fr,ar⟩:=Yc hys hp
   have ar':=g _ _ ar
   rw[zdz] at ar'
   exact⟨_,rfl,p,_,rfl,zX.of ar',⟨r,hr',by rw[zZ.zfQ]⟩,g⟩
 ·rintro σ' H' Q1 Q2 hQ ⟨v,e,p,ns,z1,z2,z3⟩
  exact⟨v,e,p,ns,z1,z2,hQ _ _ z3⟩
 ·intro vs H3 fl hvl hv g3 hfl
  have e:vs=((zZ.xP os.length rs j).map fun r=>((zZ.ones r:Nat):Int)).map V.int:=by
   refine List.ext_getElem? fun i=>?_
   rw[zvA] at hvl
   by_cases hi:i<vs.length
   ·obtain⟨r,hr',ev⟩:=hv i _ (zvB hi)
    rw[zvB hi,zvC,zvC,hr']
    exact congrArg some ev
   ·rw[zv8 (by omega),zv8 (by rw[zvA,zvA];omega)]
  have g23:=(g2.trans g3).trans (Same.new hfl (.lst vs))
  have zqK:upd H3 fl (.lst vs) fl=some (.lst (((zZ.xP os.length rs j).map fun r=>((zZ.ones r:Nat):Int)).map V.int)):=by rw[zu,<-e]
  generalize upd H3 fl (.lst vs)=H4 at g23 zqK
  refine⟨_,rfl,b,dx,_,rfl,g23 _ _ h.hb,rfl,b,os,rs,F,rfl,L.same Tz g23,fun ol H5 g5 hol hol'=>?_⟩
  refine⟨ol,_,rfl,.inl (zX.of hol'),_,1,rfl,rfl,((os.length+1:Nat):Int),?_,by omega,by omega,?_⟩
  ·rw[zvA];rfl
  rw[zwb]
  refine zkg (lo:=0) (n:=os.length+1) (fun i zs H'=>Same H5 H'/\zs=(List.range i).map fun m=>V.int (zZ.zmr (zZ.xP os.length rs j) m:Nat)) ⟨Same.refl _,rfl⟩ (zvS (yc (by omega))) ?_ ?_ (fun _ _ _ _ h q=>h _ _ q) ?_ ?_
  ·rintro i zs H' hi ⟨g,rfl⟩
   rw[zvA,List.length_range];exact zvQ _
  ·rintro i zs H' hi ⟨g,rfl⟩
   refine zp0 (uY ?_)
   have zqL:=g _ _ (g5 _ _ zqK)
   refine⟨_,rfl,.inl ⟨rfl,_,zX.of zqL⟩,_,rfl,fl,_,0+(i:Nat),rfl,rfl,zX.of zqL,g,?_⟩
   rw[show(0:Int)+((i:Nat):Int)=((i:Nat):Int) by omega,zZ.zbT,List.range_succ,zvO]
   rfl
  ·rintro σ' H' Q1 Q2 hQ ⟨v,e1,z0,v2,e2,l2,ns2,y2,z1,z2,z3,z4⟩
   exact⟨v,e1,z0,v2,e2,l2,ns2,y2,z1,z2,z3,hQ _ _ z4⟩
  ·rintro zs H' p ⟨g,rfl⟩ hp
   exact q p _ ((g23.trans (g5.trans g)).trans (Same.new hp _)) ((g23.trans (g5.trans g)).free hp) zu
theorem zcy (T:Txt P w K mg a):zB P w K mg base yd (k+1) a.vP a.vQ wZ Yh:=by
 refine T.Xm.F.ok Qs (fun vs H Q E h=>?_) (fun cdv A outer s H vs Q E hr h=>?_)
 ·obtain⟨p,sh,rfl,_⟩:=h
  rfl
 obtain⟨p,sh,rfl,hs,ok,q⟩:=h
 refine⟨_,(zx (zR (WK (wH xG (zG zM rfl T.xr yw (za (pv 0) zc)) zq (zU _)) (N6 (zG (vY rfl) rfl T.Tv YC (za (vX (uZ:=zA Xb) (js:=[]) rfl (by show Z6 _ _ "weight" [];exact lco (by decide +kernel)) rfl (zbu (pv 0)) (by show ∀j∈([]:List Nat),j<1;decide) (fun cl C s₂ H₂ fp=>(wH Nj (zG zfj rfl T.znx zkQ (za (pv 0) zc)) (wG (v:=.int 1000000) rfl T.NZ ⟨_,rfl⟩) (zU _)))) zc)))))),?_⟩
 have hT:=vO.of (K:=K) hs
 obtain⟨⟨o1,o2⟩,o3,o4⟩:=ok
 refine⟨_,rfl,p,_,rfl,.inr hT,rfl,true,rfl,uY ?_⟩
 have ab:∀{x:Int},-1000000<=x->x<=1000000->(if x<0 then -x else x)<=1000000:=fun h1 h2=>by split<;>omega
 refine⟨_,rfl,p,rfl,⟨_,hT⟩,zep (fun i v=>v=.bl true) hT (by show 2<=sizeLine;decide) ?_ ?_ ?_⟩
 ·intro j x H' hx g
  match j,hx with
  | 0,hx =>
   cases hx
   refine⟨_,rfl,_,rfl,_,_,rfl,rfl,?_,g⟩
   show V.bl (decide _)=V.bl true
   rw[decide_eq_true (ab o1 o2)]
  | 1,hx =>
   cases hx
   refine⟨_,rfl,_,rfl,_,_,rfl,rfl,?_,g⟩
   show V.bl (decide _)=V.bl true
   rw[decide_eq_true (ab o3 o4)]
 ·rintro σ' H' Q1 Q2 hQ ⟨v,e,i',z1,i1,i2,z2,z3,z4⟩
  exact⟨v,e,i',z1,i1,i2,z2,z3,hQ _ _ z4⟩
 ·intro us H5 p5 hul hu g5 hp5
  have eu:us=([true,true]:List Bool).map V.bl:=by
   match us,hul,hu with
   | [u1,u2],_,hu=>rw[hu 0 u1 rfl,hu 1 u2 rfl];rfl
  subst eu
  exact⟨p5,[true,true],rfl,zX.of zu,q _ (g5.trans (Same.new hp5 _))⟩
theorem M9 (T:Txt P w K mg a)
  (yI:zB P w K mg base yd k a.wU a.wV wB (vI (yp a.zj)))
  (Uo:zB P w K mg base yd k a.vP a.vQ wZ Yh):zB P w K mg base yd (k+1) a.yO a.yP yF (Zw a.zj K):=by
 refine T.xg.F.ok Vc (fun vs H Q E h=>?_) (fun cdv A outer s H vs Q E hr h=>?_)
 ·obtain⟨b,l,os,rs,F,ps,sh,rfl,_⟩:=h
  rfl
 obtain⟨b,l,os,rs,F,ps,sh,rfl,hB,hS,q⟩:=h
 refine⟨_,(zx (yr (PW.pt (Uq (zT Lg (zG zM rfl T.xr yw (za (pv 1) zc)) (zG zM rfl T.xr yw (za (Wr (pv 0) T.zY T.uG yI hr) zc)) (zU _)) (XC (Zu (yM (zG (vY rfl) rfl T.Tv YC (za (vX (uZ:=zA uW) (js:=[]) rfl (by show Z6 _ _ "entry" [];exact lco (by decide +kernel)) rfl (yZ (pv 1)) (by show ∀j∈([]:List Nat),j<2;decide) (fun cl C s₂ H₂ fp=>(zE Uo hr T.Xm (za (pv 0) zc)))) zc)) (fun _=>rfl)))))) (zx Z8) z8)),?_⟩
 have L:=z9 a.zj
 have ho:=L.ord hB
 have Tz:=hB
 obtain⟨dx,ml,rl,tl,nd,rv,ts,kvs,h⟩:=hB
 have lp:=yJ hS.at_
 refine⟨_,rfl,l,_,rfl,.inl hS.lst,?_⟩
 refine⟨_,rfl,b,dx,_,rfl,h.hb,rfl,b,os,rs,F,rfl,Tz,fun ol H1 g1 hol hol'=>?_⟩
 refine⟨ol,_,rfl,.inl (zX.of hol'),rfl,_,rfl,?_⟩
 have e1:(!decide (V.int ((ps.map V.ref).length:Nat)=V.int ((os.map V.str).length:Nat)))=false:=by
  rw[zvA,zvA,lp,hS.len,decide_eq_true rfl];rfl
 rw[e1]
 refine tD ?_
 have hS1:=hS.mono g1
 have zlj:ps.length<=1000:=by rw[lp,hS.len];exact zvV ho.le (by decide)
 refine⟨_,rfl,l,rfl,⟨_,hS1.lst⟩,Km (fun _ v=>v=.bl true) hS1.lst (by rw[zvA];exact zvS (yc zlj)) ?_ (zfx zaV) ?_⟩
 ·intro i x H' hx g
  rw[zvC] at hx
  cases hp:ps[i]? with
  | none=>rw[hp] at hx;cases hx
  | some p =>
   rw[hp] at hx
   cases hx
   obtain⟨s',hs',as'⟩:=Yc hS1.at_ hp
   exact⟨_,rfl,p,s',rfl,xO.of g _ _ as',hS.ok s' (zvF hs'),fun H9 g9=>⟨rfl,g.trans g9⟩⟩
 ·intro ys H' p hl hy g hp
  have e2:ys=(List.replicate ys.length true).map V.bl:=by
   refine List.ext_getElem? fun i=>?_
   by_cases hi:i<ys.length
   ·rw[zvC,List.getElem?_replicate,if_pos hi,zvB hi]
    exact congrArg some (hy i _ (zvB hi))
   ·rw[zv8 (by omega),zv8 (by rw[zvA,List.length_replicate];omega)]
  refine⟨p,List.replicate ys.length true,rfl,zX.of (by rw[zu,<-e2]),_,rfl,?_⟩
  have e3:(List.replicate ys.length true).all id=true:=by simp
  rw[e3]
  exact tD (q _ (g1.trans (g.trans (Same.new hp _))))
theorem zeW (T:Txt P w K mg a):zB P w K mg base yd (k+1) a.V1 a.V2 Xz (Sg K):=by
 refine T.zaK.F.ok zeL (fun vs H Q E h=>?_) (fun cdv A outer s H vs Q E hr h=>?_)
 ·obtain⟨rl,l,r,ps,sh,n,rfl,_⟩:=h
  rfl
 obtain⟨rl,l,r,ps,sh,n,rfl,hr0,hrl,n8,hS,q⟩:=h
 refine⟨_,(zx (zR (zG (zbE rfl) rfl T.ziJ zef (za (zex (uZ:=zA VJ) (js:=[]) rfl (by show zfO (zA VJ) _ "value" "entry" [];exact⟨⟨rfl,by decide +kernel,by decide +kernel,by decide +kernel,by decide +kernel⟩,by decide +kernel,by decide +kernel,by decide +kernel⟩) rfl (zkF rfl T.zny (za (pv 0) (za (pv 1) zc))) (by show ∀j∈([]:List Nat),j<2;decide) (fun cl C s₂ H₂ fp=>(yg (X3 (K:=K) rfl) (pv 1) (pv 0) (fun _ _=>rfl)))) zc)))),?_⟩
 have lp:=yJ hS.at_
 have hls:=hS.len
 refine⟨_,rfl,_,rfl,rl,l,_,_,rfl,hr0,hS.lst,zkG (fun u v z=>∀(bb:Bool) (p:Addr) (s':zZ.Wg),u=.int (bb.toNat:Nat)->v=.ref p->zaU H p s'->z=.int (zZ.w2 s' bb)) hr0 hS.lst (by rw[zvA,zvA];omega) (by rw[zvA];exact zvS (yc (by omega))) ?_ ?_ ?_⟩
 ·intro i u v H' hu hv g
  rw[zvC] at hu hv
  cases hb:r[i]? with
  | none=>rw[hb] at hu;cases hu
  | some bb =>
   rw[hb] at hu
   cases hu
   cases hp:ps[i]? with
   | none=>rw[hp] at hv;cases hv
   | some p =>
    rw[hp] at hv
    cases hv
    obtain⟨s',hs',as'⟩:=Yc hS.at_ hp
    have hT:=vO.of (K:=K) (xO.of g _ _ as')
    refine⟨_,rfl,_,rfl,p,_,_,.int (zZ.w2 s' bb),rfl,rfl,hT,by cases bb<;>rfl,fun b2 p2 s2 e1 e2 e3=>?_,g⟩
    have eb:b2=bb:=by
     injection e1 with e1
     cases b2<;>cases bb<;>first | rfl | (revert e1;decide)
    subst eb
    cases e2
    have z:=as'.symm.trans e3
    injection z with z
    injection z with z
    injection z with z1 z2
    injection z1 with z1
    injection z2 with z2
    injection z2 with z2
    have es:s'=s2:=Prod.ext z1 z2
    rw[es]
 ·rintro σ' H' Q1 Q2 hQ ⟨v1,e1,v2,e2,a1,a2,a3,a4,a5,a6,a7,a8,a9⟩
  exact⟨v1,e1,v2,e2,a1,a2,a3,a4,a5,a6,a7,a8,hQ _ _ a9⟩
 ·intro zs H' p hzl hz g hp
  have e:zs=(zZ.wgl sh r).map V.int:=by
   refine List.ext_getElem? fun i=>?_
   rw[zvA] at hzl
   by_cases hi:i<r.length
   ·have hb:=zvB hi
    have hs:=zvB (l:=sh) (i:=i) (by omega)
    obtain⟨p2,hp2,as2⟩:=Nm hS.at_ hs
    rw[zvC,zos hb hs,zvB (by omega)]
    refine congrArg some ?_
    exact hz i _ _ _ (by rw[zvC,hb];rfl) (by rw[zvC,hp2];rfl) (zvB (by omega)) _ p2 _ rfl rfl as2
   ·rw[zv8 (by omega),zv8 (by rw[zvA,zmv (by omega)];omega)]
  exact⟨p,zZ.wgl sh r,rfl,zX.of (by rw[zu,e]),q _ (g.trans (Same.new hp _))⟩
theorem zgz (T:Txt P w K mg a)
  (zy:zB P w K mg base yd k a.zK a.zL zH (xJ a.zj))
  (yu:zB P w K mg base yd k a.yO a.yP yF (Zw a.zj K))
  (yx:zB P w K mg base yd k a.wu a.wz xT (Zb a.zj))
  (zgA:zB P w K mg base yd k a.V1 a.V2 Xz (Sg K)):zB P w K mg base yd (k+1) a.Vh a.Vi YK (Mq a.zj K):=by
 refine T.Ro.F.ok Qt (fun vs H Q E h=>?_) (fun cdv A outer s H vs Q E hr h=>?_)
 ·obtain⟨b,l,os,rs,F,j,ps,sh,rfl,_⟩:=h
  rfl
 obtain⟨b,l,os,rs,F,j,ps,sh,rfl,hB,hj,hS,q0,q⟩:=h
 refine⟨_,(zf (zV (yW (pv 0) T.zY T.zO zy hr (za (pv 1) zc)))
   (zf (zV (zE yu hr T.xg (za (pv 0) (za (pv 2) zc))))
   (zx (zR (zji (K:=K) rfl rfl (hu9 hr) rfl T.zqs zoq (za (vX (uZ:=zA Mw) (js:=[2]) rfl (by show Z6 _ _ "row" ["weights"];exact lco (by decide +kernel)) rfl (yZ (zE yx hr T.wN (za (pv 0) (za (pv 1) zc)))) (by show ∀j∈([2]:List Nat),j<3;decide) (fun cl C s₂ H₂ fp=>(yL (za (zE zgA hr T.zaK (za (pv 0) (za (pv 1) zc))) (za (pv 0) zc))))) zc) zjZ))))),?_⟩
 have L:=z9 a.zj
 have ho:=L.ord hB
 have n8:=ho.le
 have Tz:=hB
 obtain⟨dx,ml,rl,tl,nd,rv,ts,kvs,h⟩:=hB
 refine⟨_,rfl,b,dx,_,rfl,h.hb,rfl,_,rfl,b,os,rs,F,j,rfl,Tz,hj,?_⟩
 refine⟨_,rfl,_,rfl,b,l,os,rs,F,ps,sh,rfl,Tz,hS,fun H1 g1=>?_⟩
 refine⟨_,rfl,_,rfl,b,os,rs,F,j,rfl,L.same Tz g1,hj,fun yl H2 ys g2 fyl hyl hys=>?_⟩
 have g12:=g1.trans g2
 have hS2:=hS.mono g12
 have ly:=yJ hys
 have zqI:(zZ.xP os.length rs j).length<=256:=zvV (zZ.Pr _ _ _) (zvV (zv5 (n:=2) (by decide) n8) (by decide))
 refine⟨yl,rfl,⟨_,zX.of hyl⟩,?_⟩
 refine Ls (xs:=ys.map V.ref) (fun m zs H'=>Same H2 H'/\∃qs:List Addr,zs=qs.map V.ref/\Paired (fun(q:Addr) (pr:Addr×List Bool)=>H2 q=none/\H' q=some (.tup [.int (zZ.wg sh pr.2),.ref pr.1])) qs ((ys.zip (zZ.xP os.length rs j)).take m)) ⟨Same.refl _,[],rfl,.nil⟩ (by rw[zvA];exact zvS (yc (by omega))) ?_ ?_ (fun _ _ _ _ h q=>h _ _ q) ?_ ?_
 ·rintro m zs H' hm ⟨g,qs,rfl,hq⟩
  have e:=yJ hq
  rw[zvX] at e
  exact⟨zX.of (g _ _ hyl),by rw[zvA];omega⟩
 ·rintro m x zs H' hx ⟨g,qs,rfl,hq⟩
  rw[zvC] at hx
  cases hp:ys[m]? with
  | none=>rw[hp] at hx;cases hx
  | some rp =>
   rw[hp] at hx
   cases hx
   obtain⟨r,hr',fr,ar⟩:=Yc hys hp
   have hz:(ys.zip (zZ.xP os.length rs j))[m]?=some (rp,r):=List.getElem?_zip_eq_some.mpr ⟨hp,hr'⟩
   refine zp0 (uY ?_)
   refine⟨_,rfl,_,rfl,rp,l,r,ps,sh,os.length,rfl,zX.of (g _ _ ar),zZ.UG (zvF hr'),n8,hS2.mono g,fun H3 g3=>?_⟩
   refine⟨_,rfl,by show 2<=sizeLine;decide,fun t ht=>?_⟩
   have g4:=Same.new ht (.tup [.int (zZ.wg sh r),.ref rp])
   refine⟨g.trans (g3.trans g4),qs++[t],by rw[zvO];rfl,?_⟩
   rw[vZ hz]
   exact WY (vA (fun _ _ z=>⟨z.1,g4 _ _ (g3 _ _ z.2)⟩) hq) (.cons ⟨(g.trans g3).free ht,zu⟩ .nil)
 ·rintro σ' H' Q1 Q2 hQ ⟨v1,e1,v2,e2,a1,a2,a3,a4,a5,a6,b1,b2,b3,b4,b5,b6⟩
  refine⟨v1,e1,v2,e2,a1,a2,a3,a4,a5,a6,b1,b2,b3,b4,b5,fun H3 g3=>?_⟩
  obtain⟨v3,e3,c1,c2⟩:=b6 H3 g3
  exact⟨v3,e3,c1,fun t ht=>hQ _ _ (c2 t ht)⟩
 ·rintro zs H' zl ⟨g,qs,rfl,hq⟩ hzl
  have lz:(ys.zip (zZ.xP os.length rs j)).length=ys.length:=by rw[List.length_zip];omega
  rw[zvA,<-lz,zv2] at hq
  have g5:=Same.new hzl (.lst (qs.map V.ref))
  have lq:=yJ hq
  have gA:=g12.trans (g.trans g5)
  have zqO:(upd H' zl (.lst (qs.map V.ref))) zl=some (.lst (qs.map V.ref)):=zu
  have hq5:Paired (fun(q:Addr) (pr:Addr×List Bool)=>H2 q=none/\(upd H' zl (.lst (qs.map V.ref))) q=some (.tup [.int (zZ.wg sh pr.2),.ref pr.1])) qs (ys.zip (zZ.xP os.length rs j)):=vA (fun _ _ z=>⟨z.1,g5 _ _ z.2⟩) hq
  have zqP:Paired (zoo H1 (upd H' zl (.lst (qs.map V.ref)))) ys (zZ.xP os.length rs j):=vA (fun _ _ z=>⟨z.1,g5 _ _ (g _ _ z.2)⟩) hys
  generalize upd H' zl (.lst (qs.map V.ref))=H5 at gA zqO hq5 zqP
  refine⟨zl,qs.map V.ref,.non,rfl,rfl,zX.of zqO,?_⟩
  have item:∀(i:Nat) (x:V),(qs.map V.ref)[i]?=some x->∃(qa ra:Addr) (r:List Bool),x=.ref qa/\H2 qa=none/\H5 qa=some (.tup [.int (zZ.wg sh r),.ref ra])/\(zZ.xP os.length rs j)[i]?=some r/\H1 ra=none/\H5 ra=some (.lst (vH r)):=fun i x hx=>by
   rw[zvC] at hx
   cases hp:qs[i]? with
   | none=>rw[hp] at hx;cases hx
   | some qa =>
    rw[hp] at hx
    cases hx
    obtain⟨⟨ra,r⟩,hz,f1,f2⟩:=Yc hq5 hp
    obtain⟨h1,h2⟩:=List.getElem?_zip_eq_some.mp hz
    obtain⟨r',hr',f3,f4⟩:=Yc zqP h1
    have er:r'=r:=zv4 (hr'.symm.trans h2)
    subst er
    exact⟨qa,ra,r',rfl,f1,f2,hr',f3,f4⟩
  cases hL:zZ.xP os.length rs j with
  | nil =>
   refine .inl ⟨?_,q0 _ gA hL⟩
   have:qs.length=0:=by rw[lq,lz,ly,hL];rfl
   rw[List.length_eq_zero_iff.mp this]
   rfl
  | cons r0 rest =>
   have hpos:0<(zZ.xP os.length rs j).length:=by rw[hL];exact Nat.succ_pos _
   rw[<-hL] at *
   have lql:(qs.map V.ref).length=(zZ.xP os.length rs j).length:=by rw[zvA,lq,lz,ly]
   have gd:∀{i:Nat} {r:List Bool},(zZ.xP os.length rs j)[i]?=some r->(zZ.xP os.length rs j).getD i []=r:=fun h=>by rw[zvN,h];rfl
   refine .inr ⟨fun i i2=>zbW (zZ.wg sh ((zZ.xP os.length rs j).getD i [])) (zZ.wg sh ((zZ.xP os.length rs j).getD i2 [])) ((zZ.xP os.length rs j).getD i []) ((zZ.xP os.length rs j).getD i2 []),by omega,fun i i2 x y hx hy=>?_,fun v hv=>?_⟩
   ·obtain⟨qa,ra,r,rfl,f1,f2,f3,f4,f5⟩:=item i x hx
    obtain⟨qb,rb,t,rfl,e1,e2,e3,e4,e5⟩:=item i2 y hy
    dsimp only
    rw[gd f3,gd e3]
    exact zmu (vO.of f2) (vO.of e2) (zX.of f5) (zX.of e5) ((zZ.UG (zvF f3)).trans (zZ.UG (zvF e3)).symm)
   ·obtain⟨qa,ra,r,rfl,f1,f2,f3,f4,f5⟩:=item _ v hv
    have rise:=List.pairwise_iff_getElem.mp (zZ.zdM os.length rs j)
    obtain⟨b1,b2,b3⟩:=zZ.Np (w:=fun i=>zZ.wg sh ((zZ.xP os.length rs j).getD i [])) (n:=(zZ.xP os.length rs j).length) (bt:=fun i i2=>zbW (zZ.wg sh ((zZ.xP os.length rs j).getD i [])) (zZ.wg sh ((zZ.xP os.length rs j).getD i2 [])) ((zZ.xP os.length rs j).getD i []) ((zZ.xP os.length rs j).getD i2 [])) (fun i i2 h1 h2=>by
     have r1:=rise i2 i (by omega) h2 h1
     have x1:=gd (zvB h2)
     have x2:=gd (zvB (show i2<(zZ.xP os.length rs j).length by omega))
     rw[x1,x2]
     exact zfS (zZ.Mp r1)) ((zZ.xP os.length rs j).length-1) (by omega)
    rw[lql] at f3
    refine q qa ra H5 r gA (g12.free f1) (g1.free f4) ⟨_,f3,fun i t ht=>?_,fun i t hi ht=>?_⟩ f2 f5
    ·have hi:=(zvD.mp ht).1
     have w:=b2 i (by omega)
     rw[gd f3,gd ht] at w
     exact w
    ·have w:=b3 i hi
     rw[gd f3,gd ht] at w
     exact w
theorem zhL (T:Txt P w K mg a):zB P w K mg base yd (k+1) a.Ti a.Tj Wx (UJ K):=by
 refine T.zad.F.ok SM (fun vs H Q E h=>?_) (fun cdv A outer s H vs Q E hr h=>?_)
 ·obtain⟨l,ns,rfl,_⟩:=h
  rfl
 obtain⟨l,ns,rfl,hl,hn,q⟩:=h
 refine⟨_,(zf (zN 1 SM.nd zq)
   (zf (ZP PassesOwn.never rfl (yZ (pv 0)) (wA (i:=2) SM.nd rfl (Or.inl rfl)) (zx (zN 1 SM.nd (zQ Jr (pv 1) (pv 2)))))
   (zx (zR (pv 1))))),?_⟩
 refine⟨_,rfl,l,rfl,⟨_,hl⟩,?_⟩
 refine WQ (xs:=ns.map fun n=>V.int (n:Nat)) (fun i σ H'=>H'=H/\∃f2:Option V,σ=[some (.ref l),some (.int (zZ.zax (ns.take i):Nat)),f2]) ⟨rfl,_,rfl⟩ ?_ ?_ ?_
 ·rintro i σ H' _ ⟨rfl,_⟩
  exact hl
 ·rintro i x σ H' hx ⟨rfl,f2,rfl⟩
  rw[zvC] at hx
  cases ho:ns[i]? with
  | none=>rw[ho] at hx;cases hx
  | some y =>
   rw[ho] at hx
   cases hx
   have hy:=hn y (zvF ho)
   refine⟨_,rfl,_,rfl,_,_,rfl,rfl,.inr ⟨by omega,by omega⟩,rfl,some (.int (y:Nat)),?_⟩
   rw[vZ ho,zZ.Ml]
   show [some (V.ref l),some (V.int ((zZ.zax (ns.take i):Nat)*(y:Nat))),some (V.int (y:Nat))]=_
   rw[Int.natCast_mul]
 ·rintro σ H' ⟨rfl,f2,rfl⟩
  rw[zvA,zv2]
  exact⟨_,rfl,q⟩
theorem Jk (T:Txt P w K mg a):zB P w K mg base yd (k+1) a.Zk a.Zm v9 Kp:=by
 refine T.Tr.F.ok uX (fun vs H Q E h=>?_) (fun cdv A outer s H vs Q E hr h=>?_)
 ·obtain⟨a,b,rfl,_⟩:=h
  rfl
 obtain⟨a,b,rfl,q⟩:=h
 refine⟨_,(zf (RW PassesOwn.never (zT Lg (pv 1) zq (zU _)) (zf (zN 2 uX.nd (zQ zmp (pv 0) (pv 1)))
   (zf (zN 0 uX.nd (pv 1))
   (zx (zN 1 uX.nd (pv 2))))))
   (zx (zR (pv 0)))),?_⟩
 refine⟨fun m σ H'=>H'=H/\∃(x y:Nat) (f2:Option V),m=y/\Nat.gcd x y=Nat.gcd a b/\σ=[some (.int x),some (.int y),f2],⟨_,rfl,a,b,none,rfl,rfl,rfl⟩,?_⟩
 rintro m σ H' ⟨rfl,x,y,f2,rfl,hg,rfl⟩
 refine⟨_,rfl,rfl,_,rfl,?_⟩
 by_cases hy:m=0
 ·subst hy
  refine yG (fun c=>absurd c (by decide)) (fun _=>?_)
  rw[Nat.gcd_zero_right] at hg
  rw[<-hg] at q
  exact⟨_,rfl,q⟩
 ·refine yG (fun _=>?_) (fun c=>absurd ?_ c)
  ·refine⟨_,fun σ' H2 h=>h,?_⟩
   refine⟨_,rfl,_,rfl,x,m,rfl,rfl,by omega,?_⟩
   refine⟨_,rfl,_,rfl,x%m,Nat.mod_lt _ (by omega),rfl,m,x%m,_,rfl,?_,rfl⟩
   rw[<-hg,Nat.gcd_comm x m,Nat.gcd_rec m x,Nat.gcd_comm]
  ·have:¬V.int (m:Nat)=V.int 0:=fun z=>by injection z with z;omega
   rw[decide_eq_false this];rfl
theorem zgB (T:Txt P w K mg a):zB P w K mg base yd (k+1) a.Z2 a.Z4 tR UL:=by
 refine T.Rn.F.ok zaE (fun vs H Q E h=>?_) (fun cdv A outer s H vs Q E hr h=>?_)
 ·obtain⟨p,sh,rfl,_⟩:=h
  rfl
 obtain⟨p,sh,rfl,hs,ok,q⟩:=h
 refine⟨_,(zx (zR (WK (wH xG (zG zM rfl T.xr yw (za (pv 0) zc)) zq (zU _)) (WK (Lh Nj Nj zq (yg wD (pv 0) zq (fun _ _=>rfl)) (yg wD (pv 0) zq (fun _ _=>rfl))) (N6 (Lh Nj Nj zq (yg wD (pv 0) zq (fun _ _=>rfl)) (wG (v:=.int 1000) rfl T.N5 ⟨_,rfl⟩))))))),?_⟩
 have hT:=vO.of (K:=K) hs
 obtain⟨o1,o2,o3⟩:=ok
 refine⟨_,rfl,p,_,rfl,.inr hT,rfl,_,rfl,yG (fun _=>?_) (fun c=>absurd (decide_eq_true rfl) c)⟩
 refine⟨_,rfl,p,_,_,_,rfl,rfl,hT,rfl,_,_,rfl,rfl,_,rfl,yG (fun _=>?_) (fun c=>absurd (decide_eq_true (by omega)) c)⟩
 refine⟨_,rfl,p,_,_,_,rfl,rfl,hT,rfl,_,_,rfl,rfl,_,rfl,?_⟩
 refine yG (fun _=>?_) (fun c=>absurd (decide_eq_true (by omega)) c)
 refine⟨_,rfl,p,_,_,_,rfl,rfl,hT,rfl,_,_,rfl,rfl,_,rfl,yG (fun _=>?_) (fun c=>absurd (decide_eq_true (by omega)) c)⟩
 refine⟨_,_,rfl,rfl,?_⟩
 show Q (.bl (decide ((sh.2:Int)<=1000))) H
 rw[decide_eq_true (by omega)]
 exact q
theorem Jl (T:Txt P w K mg a)
  (yI:zB P w K mg base yd k a.wU a.wV wB (vI (yp a.zj)))
  (La:zB P w K mg base yd k a.Z2 a.Z4 tR UL):zB P w K mg base yd (k+1) a.ug a.uh vh (Sd a.zj K):=by
 refine T.Zn.F.ok VH (fun vs H Q E h=>?_) (fun cdv A outer s H vs Q E hr h=>?_)
 ·obtain⟨b,l,os,rs,F,ps,sh,rfl,_⟩:=h
  rfl
 obtain⟨b,l,os,rs,F,ps,sh,rfl,hB,hS,q⟩:=h
 refine⟨_,(zx (yr (PW.pt (Uq (zT Lg (zG zM rfl T.xr yw (za (pv 1) zc)) (zG zM rfl T.xr yw (za (Wr (pv 0) T.zY T.uG yI hr) zc)) (zU _)) (XC (Zu (yM (zG (vY rfl) rfl T.Tv YC (za (vX (uZ:=zA Zf) (js:=[]) rfl (by show Z6 _ _ "entry" [];exact lco (by decide +kernel)) rfl (yZ (pv 1)) (by show ∀j∈([]:List Nat),j<2;decide) (fun cl C s₂ H₂ fp=>(zE La hr T.Rn (za (pv 0) zc)))) zc)) (fun _=>rfl)))))) (zx Z8) z8)),?_⟩
 have L:=z9 a.zj
 have ho:=L.ord hB
 have Tz:=hB
 obtain⟨dx,ml,rl,tl,nd,rv,ts,kvs,h⟩:=hB
 have lp:=yJ hS.at_
 refine⟨_,rfl,l,_,rfl,.inl hS.lst,?_⟩
 refine⟨_,rfl,b,dx,_,rfl,h.hb,rfl,b,os,rs,F,rfl,Tz,fun ol H1 g1 hol hol'=>?_⟩
 refine⟨ol,_,rfl,.inl (zX.of hol'),rfl,_,rfl,?_⟩
 have e1:(!decide (V.int ((ps.map V.ref).length:Nat)=V.int ((os.map V.str).length:Nat)))=false:=by
  rw[zvA,zvA,lp,hS.len,decide_eq_true rfl];rfl
 rw[e1]
 refine tD ?_
 have hS1:=hS.mono g1
 have zlj:ps.length<=1000:=by rw[lp,hS.len];exact zvV ho.le (by decide)
 refine⟨_,rfl,l,rfl,⟨_,hS1.lst⟩,Km (fun _ v=>v=.bl true) hS1.lst (by rw[zvA];exact zvS (yc zlj)) ?_ (zfx zew) ?_⟩
 ·intro i x H' hx g
  rw[zvC] at hx
  cases hp:ps[i]? with
  | none=>rw[hp] at hx;cases hx
  | some p =>
   rw[hp] at hx
   cases hx
   obtain⟨s',hs',as'⟩:=Yc hS1.at_ hp
   exact⟨_,rfl,p,s',rfl,xO.of g _ _ as',hS.ok s' (zvF hs'),rfl,g⟩
 ·intro ys H' p hl hy g hp
  have e2:ys=(List.replicate ys.length true).map V.bl:=by
   refine List.ext_getElem? fun i=>?_
   by_cases hi:i<ys.length
   ·rw[zvC,List.getElem?_replicate,if_pos hi,zvB hi]
    exact congrArg some (hy i _ (zvB hi))
   ·rw[zv8 (by omega),zv8 (by rw[zvA,List.length_replicate];omega)]
  refine⟨p,List.replicate ys.length true,rfl,zX.of (by rw[zu,<-e2]),_,rfl,?_⟩
  have e3:(List.replicate ys.length true).all id=true:=by simp
  rw[e3]
  exact tD (q _ (g1.trans (g.trans (Same.new hp _))))
theorem zhM (T:Txt P w K mg a)
  (zak:zB P w K mg base yd k a.Ti a.Tj Wx (UJ K)):zB P w K mg base yd (k+1) a.J8 a.J9 Pz (Kq K):=by
 refine T.zdZ.F.ok zhA (fun vs H Q E h=>?_) (fun cdv A outer s H vs Q E hr h=>?_)
 ·obtain⟨rl,l,r,ps,sh,n,rfl,_⟩:=h
  rfl
 obtain⟨rl,l,r,ps,sh,n,rfl,hr0,hrl,n8,hS,q⟩:=h
 refine⟨_,(zx (zR (zE zak hr T.zad (za (zex (uZ:=zA Py) (js:=[]) rfl (by show zfO (zA Py) _ "value" "entry" [];exact⟨⟨rfl,by decide +kernel,by decide +kernel,by decide +kernel,by decide +kernel⟩,by decide +kernel,by decide +kernel,by decide +kernel⟩) rfl (zkF rfl T.zny (za (pv 0) (za (pv 1) zc))) (by show ∀j∈([]:List Nat),j<2;decide) (fun cl C s₂ H₂ fp=>(zff (zT xG (pv 0) zq (zU _)) (yg (X3 (K:=K) rfl) (pv 1) zq (fun _ _=>rfl)) (zQ Yy (yg (X3 (K:=K) rfl) (pv 1) zq (fun _ _=>rfl)) (yg (X3 (K:=K) rfl) (pv 1) zq (fun _ _=>rfl)))))) zc)))),?_⟩
 have lp:=yJ hS.at_
 have hls:=hS.len
 refine⟨_,rfl,_,rfl,rl,l,_,_,rfl,hr0,hS.lst,zkG (fun u v z=>∀(bb:Bool) (p:Addr) (s':zZ.Sh),u=.int (bb.toNat:Nat)->v=.ref p->zkK H p s'->s'.1<=s'.2->z=.int (zZ.w1 s' bb:Nat)) hr0 hS.lst (by rw[zvA,zvA];omega) (by rw[zvA];exact zvS (yc (by omega))) ?_ ?_ ?_⟩
 ·intro i u v H' hu hv g
  rw[zvC] at hu hv
  cases hb:r[i]? with
  | none=>rw[hb] at hu;cases hu
  | some bb =>
   rw[hb] at hu
   cases hu
   cases hp:ps[i]? with
   | none=>rw[hp] at hv;cases hv
   | some p =>
    rw[hp] at hv
    cases hv
    obtain⟨s',hs',as'⟩:=Yc hS.at_ hp
    have hT:=vO.of (K:=K) (xO.of g _ _ as')
    have ok:=hS.ok s' (zvF hs')
    refine⟨_,rfl,rfl,_,rfl,?_⟩
    cases bb with
    | true =>
     refine yG (fun _=>?_) (fun c=>absurd (decide_eq_true rfl) c)
     refine⟨_,rfl,p,_,_,_,rfl,rfl,hT,rfl,fun b2 p2 s2 e1 e2 e3 _=>?_,g⟩
     have:b2=true:=by cases b2 with | true=>rfl | false=>injection e1 with e1;revert e1;decide
     subst this
     cases e2
     have z:=as'.symm.trans e3
     injection z with z
     injection z with z
     injection z with z1 z2
    | false =>
     refine yG (fun c=>absurd (of_decide_eq_true c) (fun z=>by injection z with z;revert z;decide)) (fun _=>?_)
     refine⟨_,rfl,p,_,_,_,rfl,rfl,hT,rfl,_,rfl,p,_,_,_,rfl,rfl,hT,rfl,_,_,rfl,rfl,fun b2 p2 s2 e1 e2 e3 e4=>?_,g⟩
     have:b2=false:=by cases b2 with | false=>rfl | true=>injection e1 with e1;revert e1;decide
     subst this
     cases e2
     have z:=as'.symm.trans e3
     injection z with z
     injection z with z
     injection z with z1 z2
     injection z1 with z1
     injection z2 with z2
     injection z2 with z2
     show V.int ((s'.2:Int)-(s'.1:Int))=V.int ((s2.2-s2.1:Nat):Int)
     congr 1
     omega
 ·rintro σ' H' Q1 Q2 hQ ⟨v,e,z,k2,e2,h2⟩
  refine⟨v,e,z,k2,e2,?_⟩
  revert h2
  cases k2
  ·intro h2
   refine tD ?_
   revert h2
   rw[if_neg zvE]
   rintro⟨a1,a2,a3,a4,a5,a6,a7,a8,a9,a10,c1,c2,c3,c4,c5,c6,c7,c8,c9,c10,d1,d2,d3,d4,d5⟩
   exact⟨a1,a2,a3,a4,a5,a6,a7,a8,a9,a10,c1,c2,c3,c4,c5,c6,c7,c8,c9,c10,d1,d2,d3,d4,hQ _ _ d5⟩
  ·intro h2
   refine uY ?_
   revert h2
   rw[if_pos rfl]
   rintro⟨a1,a2,a3,a4,a5,a6,a7,a8,a9,a10,d5⟩
   exact⟨a1,a2,a3,a4,a5,a6,a7,a8,a9,a10,hQ _ _ d5⟩
 ·intro zs H' p hzl hz g hp
  have e:zs=(zZ.wl sh r).map fun n=>V.int (n:Nat):=by
   refine List.ext_getElem? fun i=>?_
   rw[zvA] at hzl
   by_cases hi:i<r.length
   ·have hb:=zvB hi
    have hs:=zvB (l:=sh) (i:=i) (by omega)
    obtain⟨p2,hp2,as2⟩:=Nm hS.at_ hs
    rw[zvC,zZ.zpY hb hs,zvB (by omega)]
    refine congrArg some ?_
    exact hz i _ _ _ (by rw[zvC,hb];rfl) (by rw[zvC,hp2];rfl) (zvB (by omega)) _ p2 _ rfl rfl as2 (hS.ok _ (zvF hs)).1
   ·rw[zv8 (by omega),zv8 (by rw[zvA,zZ.zop (by omega)];omega)]
  exact⟨p,zZ.wl sh r,rfl,zX.of (by rw[zu,e]),zZ.zpZ hS.ok,q _ (g.trans (Same.new hp _))⟩
theorem zjH (T:Txt P w K mg a)
  (zy:zB P w K mg base yd k a.zK a.zL zH (xJ a.zj))
  (YZ:zB P w K mg base yd k a.ug a.uh vh (Sd a.zj K))
  (yx:zB P w K mg base yd k a.wu a.wz xT (Zb a.zj))
  (zjI:zB P w K mg base yd k a.J8 a.J9 Pz (Kq K))
  (zak:zB P w K mg base yd k a.Ti a.Tj Wx (UJ K))
  (zal:zB P w K mg base yd k a.Zk a.Zm v9 Kp):zB P w K mg base yd (k+1) a.QG a.QJ U7 (zbR a.zj K):=by
 refine T.Jd.F.ok Ww (fun vs H Q E h=>?_) (fun cdv A outer s H vs Q E hr h=>?_)
 ·obtain⟨b,l,os,rs,F,j,ps,sh,rfl,_⟩:=h
  rfl
 obtain⟨b,l,os,rs,F,j,ps,sh,rfl,hB,hj,hS,q⟩:=h
 refine⟨_,(zf (zV (yW (pv 0) T.zY T.zO zy hr (za (pv 1) zc)))
   (zf (zV (zE YZ hr T.Zn (za (pv 0) (za (pv 2) zc))))
   (zf (zN 3 Ww.nd (zG (zbE rfl) rfl T.ziJ zef (za (vX (uZ:=zA K5) (js:=[2]) rfl (by show Z6 _ _ "row" ["shares"];exact lco (by decide +kernel)) rfl (yZ (zE yx hr T.wN (za (pv 0) (za (pv 1) zc)))) (by show ∀j∈([2]:List Nat),j<6;decide) (fun cl C s₂ H₂ fp=>(zE zjI hr T.zdZ (za (pv 0) (za (pv 1) zc))))) zc)))
   (zf (zN 4 Ww.nd (zE zak hr T.zad (za (vX (uZ:=zA K5) (js:=[]) rfl (by show Z6 _ _ "entry" [];exact lco (by decide +kernel)) rfl (yZ (pv 2)) (by show ∀j∈([]:List Nat),j<6;decide) (fun cl C s₂ H₂ fp=>(yg (X3 (K:=K) rfl) (pv 0) zq (fun _ _=>rfl)))) zc)))
   (zf (zN 5 Ww.nd (zE zal hr T.Tr (za (pv 3) (za (pv 4) zc))))
   (zx (zR (yL (za (zQ ziv (pv 3) (pv 5)) (za (zQ ziv (pv 4) (pv 5)) zc)))))))))),?_⟩
 have L:=z9 a.zj
 have ho:=L.ord hB
 have n8:=ho.le
 have Tz:=hB
 obtain⟨dx,ml,rl,tl,nd,rv,ts,kvs,h⟩:=hB
 refine⟨_,rfl,b,dx,_,rfl,h.hb,rfl,_,rfl,b,os,rs,F,j,rfl,Tz,hj,?_⟩
 refine⟨_,rfl,_,rfl,b,l,os,rs,F,ps,sh,rfl,Tz,hS,fun H1 g1=>?_⟩
 refine⟨_,rfl,_,rfl,b,os,rs,F,j,rfl,L.same Tz g1,hj,fun yl H2 ys g2 fyl hyl hys=>?_⟩
 have g12:=g1.trans g2
 have hS2:=hS.mono g12
 have ly:=yJ hys
 have zqI:(zZ.xP os.length rs j).length<=256:=zvV (zZ.Pr _ _ _) (zvV (zv5 (n:=2) (by decide) n8) (by decide))
 refine⟨yl,rfl,⟨_,zX.of hyl⟩,Km (fun i v=>∃r,(zZ.xP os.length rs j)[i]?=some r/\v=.int (zZ.wt sh r:Nat)) (zX.of hyl) (by rw[zvA];exact zvS (yc (by omega))) ?_ (znj zfN) ?_⟩
 ·intro i x H' hx g
  rw[zvC] at hx
  cases hp:ys[i]? with
  | none=>rw[hp] at hx;cases hx
  | some p =>
   rw[hp] at hx
   cases hx
   obtain⟨r,hr',fr,ar⟩:=Yc hys hp
   exact⟨_,rfl,_,rfl,p,l,r,ps,sh,os.length,rfl,zX.of (g _ _ ar),zZ.UG (zvF hr'),n8,hS2.mono g,fun H3 g3=>⟨⟨r,hr',rfl⟩,g.trans g3⟩⟩
 ·intro vs H3 p hvl hv g3 hp
  have e:vs=((zZ.xP os.length rs j).map (zZ.wt sh)).map (fun n=>V.int (n:Nat)):=by
   refine List.ext_getElem? fun i=>?_
   rw[zvA] at hvl
   by_cases hi:i<vs.length
   ·obtain⟨r,hr',ev⟩:=hv i _ (zvB hi)
    rw[zvB hi,zvC,zvC,hr']
    exact congrArg some ev
   ·rw[zv8 (by omega),zv8 (by rw[zvA,zvA];omega)]
  have e':vs=(((zZ.xP os.length rs j).map (zZ.wt sh)).map (fun n=>((n:Nat):Int))).map V.int:=by rw[e,zwa,zwa,zwa];rfl
  have zoP:=(g12.trans g3).trans (Same.new hp (.lst vs))
  refine⟨p,((zZ.xP os.length rs j).map (zZ.wt sh)).map (fun n=>((n:Nat):Int)),rfl,zX.of (by rw[zu,<-e']),?_⟩
  have es:(((zZ.xP os.length rs j).map (zZ.wt sh)).map (fun n=>((n:Nat):Int))).sum=((zZ.zkJ os.length sh fun r=>zZ.yes rs j (zZ.tK r):Nat):Int):=by
   unfold zZ.zkJ zZ.xP
   generalize (List.map (zZ.wt sh) _)=zs
   induction zs with
   | nil=>rfl
   | cons z zs ih=>rw[zvY,List.sum_cons,List.sum_cons,ih];omega
  rw[es]
  generalize hA:zZ.zkJ os.length sh (fun r=>zZ.yes rs j (zZ.tK r))=A at *
  have hS3:=hS.mono zoP
  have lp:=yJ hS.at_
  generalize upd H3 p (.lst vs)=H4 at zoP hS3
  have hls:=hS.len
  refine⟨_,rfl,l,rfl,⟨_,hS3.lst⟩,Km (fun i v=>∃s',sh[i]?=some s'/\v=.int (s'.2:Nat)) hS3.lst (by rw[zvA];exact zvS (yc (by omega))) ?_ ?_ ?_⟩
  ·intro i x H' hx g
   rw[zvC] at hx
   cases hp:ps[i]? with
   | none=>rw[hp] at hx;cases hx
   | some p2 =>
    rw[hp] at hx
    cases hx
    obtain⟨s',hs',as'⟩:=Yc hS3.at_ hp
    exact⟨_,rfl,p2,_,_,_,rfl,rfl,vO.of (xO.of g _ _ as'),rfl,⟨s',hs',rfl⟩,g⟩
  ·rintro σ' H' Q1 Q2 hQ ⟨v,e1,p3,xs',i',v',z1,z2,z3,z4,z5⟩
   exact⟨v,e1,p3,xs',i',v',z1,z2,z3,z4,hQ _ _ z5⟩
  ·intro us H5 p5 hul hu g5 hp5
   have eu:us=(sh.map (·.2)).map (fun n=>V.int (n:Nat)):=by
    refine List.ext_getElem? fun i=>?_
    rw[zvA] at hul
    by_cases hi:i<us.length
    ·obtain⟨s',hs',ev⟩:=hu i _ (zvB hi)
     rw[zvB hi,zvC,zvC,hs']
     exact congrArg some ev
    ·rw[zv8 (by omega),zv8 (by rw[zvA,zvA];omega)]
   refine⟨p5,sh.map (·.2),rfl,zX.of (by rw[zu,eu]),fun x hx=>?_,?_⟩
   ·obtain⟨s',hs',rfl⟩:=List.mem_map.mp hx
    exact(hS.ok s' hs').2.2
   have g15:=zoP.trans (g5.trans (Same.new hp5 (.lst us)))
   generalize upd H5 p5 (.lst us)=H6 at g15
   obtain⟨b0,b1⟩:=zZ.zbQ os.length sh hls hS.ok
   refine⟨_,rfl,_,rfl,A,zZ.Ko sh,rfl,?_⟩
   have gp:0<Nat.gcd A (zZ.Ko sh):=Nat.gcd_pos_of_pos_right _ b0
   have gl:Nat.gcd A (zZ.Ko sh)<2^9000:=by
    refine Nat.lt_of_le_of_lt (zvV (Nat.gcd_le_right _ b0) b1) ?_
    refine Nat.lt_of_le_of_lt (zv5 (by decide) n8) ?_
    exact zvJ (show 1000^8<2^80 by decide) (zv5 (by decide) (by decide))
   refine⟨_,rfl,_,rfl,A,Nat.gcd A (zZ.Ko sh),rfl,rfl,gp,gl,?_⟩
   refine⟨_,rfl,_,rfl,zZ.Ko sh,Nat.gcd A (zZ.Ko sh),rfl,rfl,gp,gl,?_⟩
   refine⟨by show 2<=sizeLine;decide,fun r hr9=>?_⟩
   exact q r _ (g15.trans (Same.new hr9 _)) (g15.free hr9) zu
theorem zcz (T:Txt P w K mg a)(zy:zB P w K mg base yd k a.zK a.zL zH (xJ a.zj))(Wj:zB P w K mg base yd k a.Ys a.Yt Ze (Kl a.zj)) :
  zB P w K mg base yd (k+1) a.vM a.vN wR (Ql a.zj):=by
 refine T.uH.F.ok Zz (fun vs H Q E h=>?_) (fun cdv A outer s H vs Q E hr h=>?_)
 ·obtain⟨b,os,rs,F,rfl,_⟩:=h
  rfl
 obtain⟨b,os,rs,F,rfl,hB,q⟩:=h
 refine⟨_,(zf (zV (yW (pv 0) T.zY T.zO zy hr (za (pv 1) zc)))
   (zf (zN 2 Zz.nd Ke)
   (zf (zN 3 Zz.nd (yh (za (pv 1) zc)))
   (zf (RW PassesOwn.never (zT zdk (zG zM rfl T.xr yw (za (pv 3) zc)) zq (zU _)) (zf (zN 4 Zz.nd (zn3 PySem.F.plainAttrs_list PySem.F.slot_list_pop PySem.F.type_list_pop zn4 (pv 3)))
   (zx (yr (zj0 (zdD (zar hr) (pv 4) (pv 2))) (zf (Kd (zar hr) (pv 2) (pv 4) RV rfl)
   (zx (zV (Zv PySem.F.plainAttrs_list PySem.F.slot_list_extend PySem.F.type_list_extend zds (pv 3) (za (yh (za (yW (pv 0) T.zY T.Wh Wj hr (za (pv 4) (za zq zc))) (za (yW (pv 0) T.zY T.Wh Wj hr (za (pv 4) (za zq zc))) zc))) zc))))) z8))))
   (zx (zR (zG (JL rfl) rfl T.zlh zja (za (pv 2) zc)))))))),?_⟩
 have L:=z9 a.zj
 have BK:=L.bk hB
 obtain⟨dx,ml,rl,tl,nd,rv,tbs,zsv,h⟩:=id hB
 refine⟨_,rfl,b,dx,_,rfl,h.hb,rfl,_,rfl,b,os,rs,F,1,rfl,hB,zZ.len2 BK,?_⟩
 refine fun f hf=>?_
 refine⟨_,rfl,by show 1<=sizeLine;decide,fun t ht=>?_⟩
 have nft:f≠t:=zF zu ht
 have g0:=(Same.new hf (.dK [])).trans (Same.new ht (.lst [.int ((1:Nat):Int)]))
 refine⟨fun m σ H'=>∃(n:Nat) (kvs:List (Key×V)) (f4:Option V),(kvs=[]/\n=1/\m=9\/kvs=[(.inl (1:Int),.bl true)]/\n<=2/\m=n)/\Same H H'/\H' f=some (.dK kvs)/\H' t=some (.lst (List.replicate n (V.int ((1:Nat):Int))))/\σ=[some (.ref b),some (.int ((1:Nat):Int)),some (.ref f),some (.ref t),f4],
  ⟨_,1,[],none,.inl ⟨rfl,rfl,rfl⟩,g0,by rw[zJ nft];exact zu,zu,rfl⟩,?_⟩
 rintro m σ H' ⟨n,kvs,f4,hc,g,hf',ht',rfl⟩
 refine⟨_,rfl,t,_,rfl,.inl (zX.of ht'),_,_,rfl,rfl,_,rfl,?_⟩
 rw[List.length_replicate]
 cases n with
 | zero =>
  rcases hc with ⟨_,z,_⟩ | ⟨rfl,_,_⟩
  ·cases z
  refine tD ⟨_,rfl,f,_,[(1:Int)],rfl,hf',rfl,by decide,fun l ms hl pm up=>?_⟩
  have em:ms=[(1:Int)]:=List.perm_singleton.mp pm
  subst em
  exact q l _ (g.trans (Same.new hl _)) (g.free hl) zu
 | succ n =>
  rw[decide_eq_true (by omega)]
  refine uY ⟨_,fun σ' H2 h=>h,?_⟩
  have e1:(List.replicate (n+1) (V.int ((1:Nat):Int)))[(List.replicate (n+1) (V.int ((1:Nat):Int))).length-1]?=some (.int ((1:Nat):Int)):=by
   rw[List.length_replicate,List.getElem?_replicate,if_pos (by omega)]
  refine⟨_,rfl,.inl ⟨rfl,_,zX.of ht'⟩,t,_,_,rfl,rfl,ht',e1,?_⟩
  rw[List.dropLast_replicate,Nat.add_sub_cancel]
  have g1:Same H (upd H' t (.lst (List.replicate n (V.int ((1:Nat):Int))))):=g.over ((Same.new hf _).free ht) _
  have hf1:(upd H' t (.lst (List.replicate n (V.int ((1:Nat):Int))))) f=some (.dK kvs):=by rw[zJ nft];exact hf'
  have ht1:(upd H' t (.lst (List.replicate n (V.int ((1:Nat):Int))))) t=some (.lst (List.replicate n (V.int ((1:Nat):Int)))):=zu
  generalize upd H' t _=H1 at g1 hf1 ht1 ⊢
  refine⟨_,rfl,_,rfl,f,_,rfl,zbL.k (k:=.inl (1:Int)) hf1,?_⟩
  rcases hc with ⟨rfl,z,rfl⟩ | ⟨rfl,z,rfl⟩
  ·obtain rfl:n=0:=by omega
   refine⟨_,rfl,uY ?_⟩
   refine⟨_,rfl,_,rfl,f,_,rfl,zfC.k (k:=.inl (1:Int)) hf1 (by decide),?_⟩
   have g2:=g1.over hf (.dK (putK [] (.inl (1:Int)) (.bl true)))
   have b2:=g2 _ _ h.hb
   have t2:(upd H1 f (.dK (putK [] (.inl (1:Int)) (.bl true)))) t=some (.lst []):=by rw[zJ (Ne.symm nft)];exact ht1
   have f2:(upd H1 f (.dK (putK [] (.inl (1:Int)) (.bl true)))) f=some (.dK (putK [] (.inl (1:Int)) (.bl true))):=zu
   generalize upd H1 f (.dK (putK [] (.inl (1:Int)) (.bl true)))=H2 at g2 b2 t2 f2
   have hB2:=L.same hB g2
   refine⟨_,rfl,.inl ⟨rfl,_,zX.of t2⟩,?_⟩
   refine⟨_,rfl,b,dx,_,rfl,b2,rfl,_,rfl,b,os,rs,F,1,none,false,rfl,hB2,BK.h1,?_⟩
   refine⟨_,rfl,b,dx,_,rfl,b2,rfl,_,rfl,b,os,rs,F,1,none,true,rfl,hB2,BK.h1,?_⟩
   refine⟨by show 2<=sizeLine;decide,fun l6 hl6=>?_⟩
   have g6:=Same.new hl6 (.lst [.int ((1:Nat):Int),.int ((1:Nat):Int)])
   refine⟨t,l6,_,_,rfl,rfl,g6 _ _ t2,zu,by show 2<=sizeLine;decide,?_⟩
   exact⟨2,by decide,2,_,_,.inr ⟨rfl,zvQ _,rfl⟩,(g2.trans g6).over ((Same.new hf _).free ht) _,by rw[zJ nft];exact g6 _ _ f2,zu,rfl⟩
  ·exact⟨_,rfl,tD ⟨n,Nat.lt_succ_self _,n,_,_,.inr ⟨rfl,Nat.le_of_succ_le z,rfl⟩,g1,hf1,ht1,rfl⟩⟩
theorem zeX (T:Txt P w K mg a):zB P w K mg base yd (k+1) a.YL a.YM ZS (zb6 1):=by
 refine T.Ri.F.ok zf4 (fun vs H Q E h=>?_) (fun cdv A outer s H vs Q E hr h=>?_)
 ·obtain⟨x,ys,rfl,l,_⟩:=h
  show ys.length+2=_
  rw[l]
  rfl
 obtain⟨x,ys,rfl,l,q⟩:=h
 match ys,l with
 | [y],_ =>
 refine⟨_,(zf (yr (zT Q6 (pv 1) (yL (za zq (za zq zc))) (by with_unfolding_all rfl)) (zx (zR (pv 1))) z8)
   yU),?_⟩
 exact⟨_,rfl,by show 2<=sizeLine;decide,fun p hp=>⟨p,_,rfl,.inr (vO.of zu),rfl,rfl,_,rfl,uY ⟨_,rfl,q _ _ (Same.new hp _)⟩⟩⟩
theorem zgC (T:Txt P w K mg a):zB P w K mg base yd (k+1) a.Te a.Tg Wv (zb6 2):=by
 refine T.zac.F.ok zhz (fun vs H Q E h=>?_) (fun cdv A outer s H vs Q E hr h=>?_)
 ·obtain⟨x,ys,rfl,l,_⟩:=h
  show ys.length+2=_
  rw[l]
  rfl
 obtain⟨x,ys,rfl,l,q⟩:=h
 match ys,l with
 | [y,z],_ =>
 refine⟨_,(zf (yr (zT xG (pv 1) zq (zU _)) (zx (zR zjZ)) z8)
   (zf (yr (zT xG (pv 1) zq (zU _)) (zx (zR zq)) z8)
   yU)),?_⟩
 exact⟨_,rfl,rfl,_,rfl,tD ⟨_,rfl,rfl,_,rfl,uY (q _ _ (Same.refl _))⟩⟩
theorem zhN (T:Txt P w K mg a)(wX:zB P w K mg base yd k a.vM a.vN wR (Ql a.zj))(Vn:zB P w K mg base yd k a.YL a.YM ZS (zb6 1)):zB P w K mg base yd (k+1) a.K7 a.K8 Qm (J0 a.zj):=by
 refine T.zcp.F.ok Wt (fun vs H Q E h=>?_) (fun cdv A outer s H vs Q E hr h=>?_)
 ·obtain⟨b,os,rs,F,rfl,_⟩:=h
  rfl
 obtain⟨b,os,rs,F,rfl,hB,q⟩:=h
 refine⟨_,(zf (zN 2 Wt.nd Ke)
   (zf (ZP PassesOwn.never rfl (yZ (yW (pv 0) T.zY T.uH wX hr (za (pv 1) zc))) (wA (i:=3) Wt.nd rfl (Or.inl rfl)) (zx (Kd (zar hr) (pv 2) (pv 3) (zE Vn hr T.Ri (za (pv 0) (za (pv 3) (za (pv 2) zc)))) rfl)))
   (zx (zR (Ku rfl rfl T.zeO (pv 2)))))),?_⟩
 have L:=z9 a.zj
 refine fun d hd=>?_
 have g0:=Same.new hd (.dK [])
 have Tz:=L.same hB g0
 obtain⟨dx,fs,M8,hm⟩:=L.ins Tz
 refine⟨_,rfl,b,dx,fs,rfl,M8,hm _ (by decide +kernel),_,rfl,b,os,rs,F,rfl,Tz,fun bl H1 g1 fbl Vo=>?_⟩
 have hd1:=g1 _ _ (show upd H d (.dK []) d=some (.dK []) from zu)
 have hdn:d≠bl:=zF zu fbl
 refine⟨bl,rfl,⟨_,zX.of Vo⟩,?_⟩
 refine WQ (xs:=[V.int ((1:Nat):Int)]) (fun i σ H'=>∃(f3:Option V) (kvs:List (Key×V)),Same H H'/\H' bl=some (.lst [.int ((1:Nat):Int)])/\H' d=some (.dK kvs)/\kvs.length<=i/\σ=[some (.ref b),some (.int ((1:Nat):Int)),some (.ref d),f3]) ⟨_,_,g0.trans g1,Vo,hd1,zvQ _,rfl⟩ (fun i σ H' _ ⟨_,_,g,hb',_⟩=>zX.of hb') ?_ ?_
 ·rintro i x σ H' hx ⟨f3,kvs,g,hb',hd',lk,rfl⟩
  obtain⟨z,ex⟩:=zvD.mp hx
  obtain rfl:i=0:=Nat.lt_one_iff.mp z
  subst ex
  refine⟨_,rfl,_,rfl,_,rfl,_,_,rfl,rfl,fun j H2 g2=>?_⟩
  refine⟨_,rfl,_,rfl,d,_,rfl,zfC.k (k:=iK (1:Int)) (g2 _ _ hd') (yc (by omega)),?_⟩
  refine⟨_,_,(g.trans g2).over hd _,?_,zu,zvV (Z5 _ _ _) (Nat.succ_le_succ lk),rfl⟩
  rw[zJ (Ne.symm hdn)];exact g2 _ _ hb'
 ·rintro σ H' ⟨f3,kvs,g,hb',hd',lk,rfl⟩
  exact⟨_,rfl,d,_,rfl,hd',fun l ts H2 g2 fl hp hl=>q _ H2 (g.trans g2)⟩
theorem zjJ (T:Txt P w K mg a)(zy:zB P w K mg base yd k a.zK a.zL zH (xJ a.zj))(yu:zB P w K mg base yd k a.yO a.yP yF (Zw a.zj K))(wX:zB P w K mg base yd k a.vM a.vN wR (Ql a.zj))(zam:zB P w K mg base yd k a.Te a.Tg Wv (zb6 2)):zB P w K mg base yd (k+1) a.K9 a.Ja Px (zb7 a.zj K):=by
 refine T.zbp.F.ok Qu (fun vs H Q E h=>?_) (fun cdv A outer s H vs Q E hr h=>?_)
 ·obtain⟨b,wl,os,rs,F,ps,ws,rfl,_⟩:=h
  rfl
 obtain⟨b,wl,os,rs,F,ps,ws,rfl,Tz,hw,q⟩:=h
 refine⟨_,(zf (zV (yW (pv 0) T.zY T.zO zy hr (za (pv 1) zc)))
   (zf (zV (zE yu hr T.xg (za (pv 0) (za (pv 2) zc))))
   (zf (zN 3 Qu.nd Ke)
   (zf (ZP PassesOwn.never rfl (yZ (yW (pv 0) T.zY T.uH wX hr (za (pv 1) zc))) (wA (i:=4) Qu.nd rfl (Or.inl rfl)) (zx (Kd (zar hr) (pv 3) (pv 4) (zE zam hr T.zac (za (pv 0) (za (pv 4) (za (pv 2) (za (pv 3) zc))))) rfl)))
   (zx (zR (Ku rfl rfl T.zeO (pv 3)))))))),?_⟩
 obtain⟨dx,ml,rl,tl,nd,rv,ts0,zsv,h⟩:=id Tz
 refine⟨_,rfl,b,dx,_,rfl,h.hb,rfl,_,rfl,b,os,rs,F,1,rfl,Tz,zZ.len2 ((z9 a.zj).bk Tz),?_⟩
 refine⟨_,rfl,_,rfl,b,wl,os,rs,F,ps,ws,rfl,Tz,hw,fun HH gH=>?_⟩
 have hB:=(z9 a.zj).same Tz gH
 have L:=z9 a.zj
 refine fun d hd=>?_
 have g0:=Same.new hd (.dK [])
 have Tz:=L.same hB g0
 obtain⟨dx,fs,M8,hm⟩:=L.ins Tz
 refine⟨_,rfl,b,dx,fs,rfl,M8,hm _ (by decide +kernel),_,rfl,b,os,rs,F,rfl,Tz,fun bl H1 g1 fbl Vo=>?_⟩
 have hd1:=g1 _ _ (show upd HH d (.dK []) d=some (.dK []) from zu)
 have hdn:d≠bl:=zF zu fbl
 refine⟨bl,rfl,⟨_,zX.of Vo⟩,?_⟩
 refine WQ (xs:=[V.int ((1:Nat):Int)]) (fun i σ H'=>∃(f3:Option V) (kvs:List (Key×V)),Same HH H'/\H' bl=some (.lst [.int ((1:Nat):Int)])/\H' d=some (.dK kvs)/\kvs.length<=i/\σ=[some (.ref b),some (.int ((1:Nat):Int)),some (.ref wl),some (.ref d),f3]) ⟨_,_,g0.trans g1,Vo,hd1,zvQ _,rfl⟩ (fun i σ H' _ ⟨_,_,g,hb',_⟩=>zX.of hb') ?_ ?_
 ·rintro i x σ H' hx ⟨f3,kvs,g,hb',hd',lk,rfl⟩
  obtain⟨z,ex⟩:=zvD.mp hx
  obtain rfl:i=0:=Nat.lt_one_iff.mp z
  subst ex
  refine⟨_,rfl,_,rfl,_,rfl,_,rfl,_,_,rfl,rfl,fun j H2 g2=>?_⟩
  refine⟨_,rfl,_,rfl,d,_,rfl,zfC.k (k:=iK (1:Int)) (g2 _ _ hd') (yc (by omega)),?_⟩
  refine⟨_,_,(g.trans g2).over hd _,?_,zu,zvV (Z5 _ _ _) (Nat.succ_le_succ lk),rfl⟩
  rw[zJ (Ne.symm hdn)];exact g2 _ _ hb'
 ·rintro σ H' ⟨f3,kvs,g,hb',hd',lk,rfl⟩
  exact⟨_,rfl,d,_,rfl,hd',fun l ts H2 g2 fl hp hl=>q _ H2 (gH.trans (g.trans g2))⟩
theorem zeY (T:Txt P w K mg a)(wX:zB P w K mg base yd k a.vM a.vN wR (Ql a.zj)):zB P w K mg base yd (k+1) a.xU a.xV yX (YG a.zj):=by
 refine T.wO.F.ok Xw (fun vs H Q E h=>?_) (fun cdv A outer s H vs Q E hr h=>?_)
 ·obtain⟨b,l,os,rs,F,rfl,_⟩:=h
  rfl
 obtain⟨b,l,os,rs,F,rfl,hB,hl,q⟩:=h
 refine⟨_,(zx (zR (wH (zhf rfl (hu8 hr)) (vX (uZ:=zA vW) (js:=[]) rfl (by show Z6 _ _ "entry" [];exact lco (by decide +kernel)) rfl (yZ (pv 2)) (by show ∀j∈([]:List Nat),j<3;decide) (fun cl C s₂ H₂ fp=>(yg (X3 (K:=K) rfl) (pv 0) zq (fun _ _=>rfl)))) (yW (pv 0) T.zY T.uH wX hr (za (pv 1) zc)) (zU _)))),?_⟩
 have L:=z9 a.zj
 refine⟨_,rfl,l,rfl,⟨_,zX.of hl⟩,?_⟩
 refine Kv (xs:=[]) (fun i ys H'=>Same H H'/\ys=[]) ⟨Same.refl _,rfl⟩ (by decide) (fun i ys H' hi ⟨g,e⟩=>⟨zX.of (g _ _ hl),by rw[e];exact zvW _⟩) (fun i x ys H' Q0 hx=>absurd hx (by simp)) (fun ys H' p ⟨g,e⟩ hp=>?_)
 subst e
 have g2:=g.trans (Same.new hp (.lst []))
 obtain⟨dx1,fs1,zgD,hm1⟩:=L.ins (L.same hB g2)
 refine⟨_,rfl,b,dx1,fs1,rfl,zgD,hm1 _ (by decide +kernel),_,rfl,b,os,rs,F,rfl,L.same hB g2,fun l2 H2 g3 f2 h2=>?_⟩
 exact⟨false,fun z=>absurd z.1 zvE,.ln (zX.of (g3 _ _ zu)) (zX.of h2) (by decide),q _ (g2.trans g3)⟩
theorem zcA (T:Txt P w K mg a)
  (wQ:zB P w K mg base yd k a.xU a.xV yX (YG a.zj))
  (Vn:zB P w K mg base yd k a.YL a.YM ZS zmL):zB P w K mg base yd (k+1) a.Xf a.Xg Zx (YG a.zj):=by
 refine T.Ul.F.ok W7 (fun vs H Q E h=>?_) (fun cdv A outer s H vs Q E hr h=>?_)
 ·obtain⟨b,l,os,rs,F,rfl,_⟩:=h
  rfl
 obtain⟨b,l,os,rs,F,rfl,hB,hl,q⟩:=h
 refine⟨_,(zf (yr (Zu (yM (zE wQ hr T.wO (za (pv 0) (za (pv 1) (za (pv 2) zc)))) (fun _=>rfl))) (zx (zR RV)) z8)
   (zf (Z9 (i:=3) W7.nd rfl (Or.inr rfl) (Us (Ry rfl) rfl T.zlg ziz (za (pv 2) zc)))
   (zx (zR (zG (vY rfl) rfl T.Tv YC (za (zex (uZ:=zA Y9) (js:=[0,3]) rfl (by show zfO (zA Y9) _ "number" "count" ["book", "known"];exact⟨⟨rfl,by decide +kernel,by decide +kernel,by decide +kernel,by decide +kernel⟩,by decide +kernel,by decide +kernel,by decide +kernel⟩) rfl (yZ (pv 2)) (by show ∀j∈([0,3]:List Nat),j<4;decide) (fun cl C s₂ H₂ fp=>(wH xG (pv 1) (zE Vn hr T.Ri (za (pv 2) (za (pv 0) (za (pv 3) zc)))) (zU _)))) zc)))))),?_⟩
 exact⟨_,rfl,_,rfl,_,rfl,b,l,os,rs,F,rfl,hB,hl,fun H1 g1=>⟨_,rfl,uY (q H1 g1)⟩⟩
theorem zeZ (T:Txt P w K mg a)(ex:Addr):zdS P w K mg base ex (k+1) a.Xj a.Xk ZC (KC K a.yQ [a.vm,a.uo,a.zW,a.wW,a.xK,a.yj,a.yR,a.vD,a.tY] ex):=by
 refine T.Xn.F.okH Yl (fun vs H Q E h=>?_) (fun cdv A outer s H vs Q E hr hh h=>?_)
 ·obtain⟨D,n,rfl,_⟩:=h
  rfl
 obtain⟨D,n,rfl,he,xc,hn9,hcs,q⟩:=h
 refine⟨_,(zf (Z9 (i:=1) Yl.nd rfl (Or.inr rfl) (yh (za (zG (uP (K:=K) rfl) rfl T.yV yK (za (pv 0) (za (wG (v:=.ref a.vm) rfl T.zjz rfl) zc))) (za (zG (uP (K:=K) rfl) rfl T.yV yK (za (pv 0) (za (wG (v:=.ref a.uo) rfl T.zld rfl) zc))) (za (zG (uP (K:=K) rfl) rfl T.yV yK (za (pv 0) (za (wG (v:=.ref a.zW) rfl T.zgh rfl) zc))) (za (zG (uP (K:=K) rfl) rfl T.yV yK (za (pv 0) (za (wG (v:=.ref a.wW) rfl T.ziI rfl) zc))) zc))))))
   (zf (Z9 (i:=1) Yl.nd rfl (Or.inr rfl) (zQ Za (pv 1) (yh (za (zG (uP (K:=K) rfl) rfl T.yV yK (za (pv 0) (za (wG (v:=.ref a.xK) rfl T.MK rfl) zc))) (za (zG (uP (K:=K) rfl) rfl T.yV yK (za (pv 0) (za (wG (v:=.ref a.yj) rfl T.zaH rfl) zc))) (za (zG (uP (K:=K) rfl) rfl T.yV yK (za (pv 0) (za (wG (v:=.ref a.yR) rfl T.zco rfl) zc))) (za (zG (uP (K:=K) rfl) rfl T.yV yK (za (pv 0) (za (wG (v:=.ref a.vD) rfl T.zjA rfl) zc))) zc)))))))
   (zf (zV (Zv PySem.F.plainAttrs_list PySem.F.slot_list_append PySem.F.type_list_append uN (pv 1) (za (zG (uP (K:=K) rfl) rfl T.yV yK (za (pv 0) (za (wG (v:=.ref a.tY) rfl T.zhB rfl) zc))) zc)))
   (zf (Z9 (i:=2) Yl.nd rfl (Or.inr rfl) (zbg (xs:=["order", "mark", "room", "row", "number", "weights", "shares", "cover", "great"]) (by rfl)))
   (zx (zR (yL (za xH (za (zih (rd:=ziB ex) (uZ:=zA Ud) (js:=[2,1,0]) rfl (by show Z6 _ _ "k" ["terms", "kinds", "e"];exact lco (by decide +kernel)) (fun _ _ _ _ _ _ _=>hh) (zhu rfl T.Wi (za zq zc)) (by show ∀j∈([2,1,0]:List Nat),j<3;decide) (fun cl C s₂ H₂ fp pins s' σ' H' Q I h=>zkT I h (PW.pt (zgN (zdy (K:=K) rfl (yg (zfw (K:=K) rfl) (pv 2) (pv 0) (fun _ _=>rfl)) (fun _=>rfl)) (zd2 (zdy (K:=K) rfl (zG (uP (K:=K) rfl) rfl T.yV yK (za (pv 3) (za (za8 (v:=.ty "ValueError") rfl T.zeN zcU rfl) zc))) (fun _=>rfl)))))) (fun cl C s₂ H₂ fp=>(yg (zfw (K:=K) rfl) (pv 1) (pv 0) (fun _ _=>rfl)))) zc))))))))),?_⟩
 have nb:=T.xd
 simp only[List.nodup_cons,List.mem_cons,zv0,or_false,not_or] at nb
 have nb:=nb.1
 have cl:=xc.zse
 have s1:∀{H':Hp},Same H H'->H' ex=some (zcS ex D):=fun g=>g _ _ he
 have ne:∀C,C∈[a.vm,a.uo,a.zW,a.wW,a.xK,a.yj,a.yR,a.vD,a.tY]->a.yQ≠C:=by
  intro C hC
  simp only[List.mem_cons,zv0,or_false] at hC
  rcases hC with rfl | rfl | rfl | rfl | rfl | rfl | rfl | rfl | rfl<;>simp[nb]
 refine⟨_,rfl,ex,D,_,_,rfl,he,cl,rfl,Sq xc T.zhC (ne _ (by simp)),_,rfl,ex,D,_,_,rfl,he,cl,rfl,Sq xc T.zjB (ne _ (by simp)),_,rfl,ex,D,_,_,rfl,he,cl,rfl,Sq xc T.zjC (ne _ (by simp)),_,rfl,ex,D,_,_,rfl,he,cl,rfl,Sq xc T.zlf (ne _ (by simp)),by show 4<=sizeLine;decide,fun l1 h1=>?_⟩
 have g1:=Same.new h1 (.lst [.bl (decide (D=a.vm)),.bl (decide (D=a.uo)),.bl (decide (D=a.zW)),.bl (decide (D=a.wW))])
 have e1:=s1 g1
 have f1:upd H l1 (.lst [.bl (decide (D=a.vm)),.bl (decide (D=a.uo)),.bl (decide (D=a.zW)),.bl (decide (D=a.wW))]) l1=some _:=zu
 generalize upd H l1 _=H1 at g1 e1 f1
 refine⟨_,rfl,_,rfl,ex,D,_,_,rfl,e1,cl,rfl,Sq xc T.zgi (ne _ (by simp)),_,rfl,ex,D,_,_,rfl,e1,cl,rfl,Sq xc T.zeM (ne _ (by simp)),_,rfl,ex,D,_,_,rfl,e1,cl,rfl,Sq xc T.zgj (ne _ (by simp)),_,rfl,ex,D,_,_,rfl,e1,cl,rfl,Sq xc T.zhD (ne _ (by simp)),by show 4<=sizeLine;decide,fun l2 h2=>?_⟩
 have g2:=Same.new h2 (.lst [.bl (decide (D=a.xK)),.bl (decide (D=a.yj)),.bl (decide (D=a.yR)),.bl (decide (D=a.vD))])
 have f2:upd H1 l2 (.lst [.bl (decide (D=a.xK)),.bl (decide (D=a.yj)),.bl (decide (D=a.yR)),.bl (decide (D=a.vD))]) l2=some _:=zu
 generalize upd H1 l2 _=H2 at g2 f2
 refine⟨l1,l2,_,_,rfl,rfl,zX.of (g2 _ _ f1),zX.of f2,by show 8<=sizeLine;decide,fun l3 h3=>?_⟩
 have n3:H l3=none:=(g1.trans g2).free h3
 have g3:=Same.new h3 (.lst ([.bl (decide (D=a.vm)),.bl (decide (D=a.uo)),.bl (decide (D=a.zW)),.bl (decide (D=a.wW))]++[.bl (decide (D=a.xK)),.bl (decide (D=a.yj)),.bl (decide (D=a.yR)),.bl (decide (D=a.vD))]))
 have f3:upd H2 l3 (.lst ([.bl (decide (D=a.vm)),.bl (decide (D=a.uo)),.bl (decide (D=a.zW)),.bl (decide (D=a.wW))]++[.bl (decide (D=a.xK)),.bl (decide (D=a.yj)),.bl (decide (D=a.yR)),.bl (decide (D=a.vD))])) l3=some _:=zu
 generalize upd H2 l3 _=H3 at g3 f3
 have g03:=(g1.trans g2).trans g3
 refine⟨_,rfl,.inl ⟨rfl,_,zX.of f3⟩,_,rfl,ex,D,_,_,rfl,s1 g03,cl,rfl,Sq xc T.zgk (ne _ (by simp)),l3,_,_,rfl,rfl,f3,by show 8<sizeLine;decide,?_⟩
 refine⟨by show 9<=sizeLine;decide,fun l4 h4=>?_⟩
 have ev:([.bl (decide (D=a.vm)),.bl (decide (D=a.uo)),.bl (decide (D=a.zW)),.bl (decide (D=a.wW))]++[.bl (decide (D=a.xK)),.bl (decide (D=a.yj)),.bl (decide (D=a.yR)),.bl (decide (D=a.vD))]++[V.bl (decide (D=a.tY))]:List V)=((List.range 9).map (fun i=>decide (i=n))).map V.bl:=by
  rw[<-hcs];rfl
 rw[ev] at h4 ⊢
 have g4:Same H (upd H3 l3 (.lst (((List.range 9).map (fun i=>decide (i=n))).map V.bl))):=g03.over n3 _
 have f4:upd H3 l3 (.lst (((List.range 9).map (fun i=>decide (i=n))).map V.bl)) l3=some _:=zu
 generalize upd H3 l3 _=H4 at h4 g4 f4 ⊢
 have g5:=g4.trans (Same.new h4 (.lst (XF.map V.str)))
 have f5:upd H4 l4 (.lst (XF.map V.str)) l4=some _:=zu
 have f4':=(Same.new h4 (.lst (XF.map V.str))) _ _ f4
 refine⟨9,rfl,by decide,by decide,?_⟩
 have key:∀i:Nat,i<9->(((List.range 9).map (fun i=>decide (i=n))).map V.bl)[i]?=some (.bl (decide (i=n))):=fun i hi=>by
  rw[zvC,zvC,List.getElem?_range hi]
  rfl
 have kt:∀i:Nat,i<9->(XF.map V.str)[i]?=some (.str (XF.getD i "")):=fun i hi=>by
  have:i<XF.length:=hi
  rw[zvC,zvN,zvB this]
  rfl
 refine zmN (n:=9) (fun i ys H'=>Same (upd H4 l4 (.lst (XF.map V.str))) H'/\ys=if n<i then [.str (XF.getD n "")] else []) ⟨Same.refl _,by rw[if_neg (Nat.not_lt_zero _)]⟩ (by decide) ?_ ?_ ?_ ?_
 ·rintro i ys H' _ ⟨_,rfl⟩
  split
  ·show 1<=i
   omega
  ·exact zvW _
 ·rintro ys H' ⟨g,_⟩
  exact⟨D,s1 (g5.trans g)⟩
 ·rintro i ys H' N1 N2 hi ⟨g,rfl⟩ h1 h2
  have ei:(0:Int)+(i:Int)=(i:Int):=by omega
  refine⟨_,rfl,_,rfl,l3,_,_,.bl (decide (i=n)),rfl,rfl,zX.of (g _ _ f4'),by rw[ei];exact vU (key i hi),_,rfl,?_⟩
  by_cases z:i=n
  ·subst z
   rw[decide_eq_true rfl]
   refine uY ⟨_,rfl,ex,D,_,_,rfl,s1 (g5.trans g),cl,rfl,zoD xc,_,rfl,uY ?_⟩
   refine⟨_,rfl,_,rfl,l4,_,_,_,rfl,rfl,zX.of (g _ _ f5),by rw[ei];exact vU (kt i hi),h1 _ _ ⟨g,?_⟩⟩
   rw[if_neg (Nat.lt_irrefl _),if_pos (Nat.lt_succ_self _)]
   rfl
  ·rw[decide_eq_false z]
   refine tD (tD (h2 _ ⟨g,?_⟩))
   by_cases y:n<i
   ·rw[if_pos y,if_pos (by omega)]
   ·rw[if_neg y,if_neg (by omega)]
 ·rintro ys H' p ⟨g,rfl⟩ hp
  rw[if_pos hn9]
  refine⟨by show 2<=sizeLine;decide,fun t ht=>?_⟩
  have g7:=Same.new hp (.lst [.str (XF.getD n "")])
  have g8:=Same.new ht (.tup [.str "refused", .ref p])
  exact q t p _ (((g5.trans g).trans g7).trans g8) zu (g8 _ _ zu)
theorem RQ (T:Txt P w K mg a):zB P w K mg base (wJ P w) (k+1) a.zK a.zL zH (Zc a.zj a.zW):=by
 refine T.zO.F.okE Xy (fun vs H Q E h=>?_) (fun cdv A outer s H vs Q E hr h=>?_)
 ·obtain⟨b,os,rs,F,j,rfl,_⟩:=h
  rfl
 obtain⟨b,os,rs,F,j,rfl,⟨dx,ml,rl,tl,nd,rv,ts,kvs,h⟩,hk,hi,q⟩:=h
 refine⟨_,(zx (yr (PW.pt (Uq (zT zbw (pv 1) zq (zU _)) (XC (zT zfi (pv 1) (zG zM rfl T.xr yw (za (u9 (pv 0) rfl) zc)) (zU _))))) (zx (UW rfl rfl T.zae.own rfl T.zgh Pu (za (zk8 (Ky zk6 (Ky (zk7 (pv 1)) ziD))) zc))) z8)),?_⟩
 have hl:=h.len
 refine⟨_,rfl,_,_,rfl,rfl,_,rfl,yG (fun c=>?_) (fun c=>?_)⟩
 ·exact⟨.int j,rfl,j,rfl,hi,fun x=>⟨by show 1<=sizeLine;decide,q⟩⟩
 refine⟨_,rfl,_,rfl,b,a.zj,dx,_,_,rfl,h.hb,T.zY,T.vd,rfl,rl,_,rfl,.inl (zX.of h.hr),_,_,rfl,rfl,_,rfl,yG (fun _=>?_) (fun c2=>?_)⟩
 ·exact⟨.int j,rfl,j,rfl,hi,fun x=>⟨by show 1<=sizeLine;decide,q⟩⟩
 ·refine absurd hk ?_
  have c:=of_decide_eq_false (Bool.eq_false_iff.mpr c)
  have c2:=of_decide_eq_false (Bool.eq_false_iff.mpr c2)
  rintro (z | z)<;>omega
theorem zcB (T:Txt P w K mg a)
  (zy:zB P w K mg base (wJ P w) k a.zK a.zL zH (zeF a.zj a.zW)):zB P w K mg base (wJ P w) (k+1) a.vM a.vN wR (Zc a.zj a.zW):=by
 refine T.uH.F.okE Zz (fun vs H Q E h=>?_) (fun cdv A outer s H vs Q E hr h=>?_)
 ·obtain⟨b,os,rs,F,i,rfl,_⟩:=h
  rfl
 obtain⟨b,os,rs,F,i,rfl,hB,bi,si,q⟩:=h
 refine⟨_,(zf (zV (wj xR (pv 0) T.zY T.zO zy hr (za (pv 1) zc)))
   yU),?_⟩
 obtain⟨dx,_,_,_,_,_,_,_,h1⟩:=id hB
 exact⟨_,rfl,b,dx,_,rfl,h1.hb,rfl,_,rfl,.inr ⟨b,os,rs,F,i,rfl,hB,bi,si,q⟩⟩
theorem ze0 (T:Txt P w K mg a)
  (zy:zB P w K mg base (wJ P w) k a.zK a.zL zH (Zc a.zj a.zW)):zB P w K mg base (wJ P w) (k+1) a.wu a.wz xT (xZ a.zj a.zW 0):=by
 refine T.wN.F.okE uw (fun vs H Q E h=>?_) (fun cdv A outer s H vs Q E hr h=>?_)
 ·obtain⟨b,os,rs,F,i,xs,rfl,lx,_⟩:=h
  show xs.length+1+1=_
  rw[lx]
  rfl
 obtain⟨b,os,rs,F,i,xs,rfl,lx,hB,bi,si,q⟩:=h
 match xs,lx with
 | [],_ =>
 have L:=z9 a.zj
 refine⟨_,(zf (zV (wj xR (pv 0) T.zY T.zO zy hr (za (pv 1) zc)))
   yU),?_⟩
 obtain⟨dx,_,_,_,_,_,_,_,h1⟩:=id hB
 exact⟨_,rfl,b,dx,_,rfl,h1.hb,rfl,_,rfl,b,os,rs,F,i,rfl,hB,bi,si,q _ (Same.refl _)⟩
theorem Jm (T:Txt P w K mg a)
  (zy:zB P w K mg base (wJ P w) k a.zK a.zL zH (Zc a.zj a.zW)):zB P w K mg base (wJ P w) (k+1) a.vB a.vC wK (xZ a.zj a.zW 1):=by
 refine T.uL.F.okE vf (fun vs H Q E h=>?_) (fun cdv A outer s H vs Q E hr h=>?_)
 ·obtain⟨b,os,rs,F,i,xs,rfl,lx,_⟩:=h
  show xs.length+1+1=_
  rw[lx]
  rfl
 obtain⟨b,os,rs,F,i,xs,rfl,lx,hB,bi,si,q⟩:=h
 match xs,lx with
 | [v0],_ =>
 have L:=z9 a.zj
 refine⟨_,(zf (zV (wj xR (pv 0) T.zY T.zO zy hr (za (pv 1) zc)))
   yU),?_⟩
 obtain⟨dx,_,_,_,_,_,_,_,h1⟩:=id hB
 exact⟨_,rfl,b,dx,_,rfl,h1.hb,rfl,_,rfl,b,os,rs,F,i,rfl,hB,bi,si,q _ (Same.refl _)⟩
theorem ze1 (T:Txt P w K mg a)
  (zy:zB P w K mg base (wJ P w) k a.zK a.zL zH (Zc a.zj a.zW)):zB P w K mg base (wJ P w) (k+1) a.Vh a.Vi YK (xZ a.zj a.zW 1):=by
 refine T.Ro.F.okE Qt (fun vs H Q E h=>?_) (fun cdv A outer s H vs Q E hr h=>?_)
 ·obtain⟨b,os,rs,F,i,xs,rfl,lx,_⟩:=h
  show xs.length+1+1=_
  rw[lx]
  rfl
 obtain⟨b,os,rs,F,i,xs,rfl,lx,hB,bi,si,q⟩:=h
 match xs,lx with
 | [v0],_ =>
 have L:=z9 a.zj
 refine⟨_,(zf (zV (wj xR (pv 0) T.zY T.zO zy hr (za (pv 1) zc)))
   yU),?_⟩
 obtain⟨dx,_,_,_,_,_,_,_,h1⟩:=id hB
 exact⟨_,rfl,b,dx,_,rfl,h1.hb,rfl,_,rfl,b,os,rs,F,i,rfl,hB,bi,si,q _ (Same.refl _)⟩
theorem zjK (T:Txt P w K mg a)
  (zy:zB P w K mg base (wJ P w) k a.zK a.zL zH (Zc a.zj a.zW)):zB P w K mg base (wJ P w) (k+1) a.K9 a.Ja Px (xZ a.zj a.zW 1):=by
 refine T.zbp.F.okE Qu (fun vs H Q E h=>?_) (fun cdv A outer s H vs Q E hr h=>?_)
 ·obtain⟨b,os,rs,F,i,xs,rfl,lx,_⟩:=h
  show xs.length+1+1=_
  rw[lx]
  rfl
 obtain⟨b,os,rs,F,i,xs,rfl,lx,hB,bi,si,q⟩:=h
 match xs,lx with
 | [v0],_ =>
 have L:=z9 a.zj
 refine⟨_,(zf (zV (wj xR (pv 0) T.zY T.zO zy hr (za (pv 1) zc)))
   yU),?_⟩
 obtain⟨dx,_,_,_,_,_,_,_,h1⟩:=id hB
 exact⟨_,rfl,b,dx,_,rfl,h1.hb,rfl,_,rfl,b,os,rs,F,i,rfl,hB,bi,si,q _ (Same.refl _)⟩
theorem zcC (T:Txt P w K mg a)
  (zy:zB P w K mg base (wJ P w) k a.zK a.zL zH (Zc a.zj a.zW)):zB P w K mg base (wJ P w) (k+1) a.Yu a.Yv Zg (xZ a.zj a.zW 2):=by
 refine T.Wf.F.okE Xc (fun vs H Q E h=>?_) (fun cdv A outer s H vs Q E hr h=>?_)
 ·obtain⟨b,os,rs,F,i,xs,rfl,lx,_⟩:=h
  show xs.length+1+1=_
  rw[lx]
  rfl
 obtain⟨b,os,rs,F,i,xs,rfl,lx,hB,bi,si,q⟩:=h
 match xs,lx with
 | [v0,v1],_ =>
 have L:=z9 a.zj
 refine⟨_,(zf (zV (wj xR (pv 0) T.zY T.zO zy hr (za (pv 1) zc)))
   yU),?_⟩
 obtain⟨dx,_,_,_,_,_,_,_,h1⟩:=id hB
 exact⟨_,rfl,b,dx,_,rfl,h1.hb,rfl,_,rfl,b,os,rs,F,i,rfl,hB,bi,si,q _ (Same.refl _)⟩
theorem zhO (T:Txt P w K mg a)
  (zy:zB P w K mg base (wJ P w) k a.zK a.zL zH (Zc a.zj a.zW)):zB P w K mg base (wJ P w) (k+1) a.QG a.QJ U7 (xZ a.zj a.zW 1):=by
 refine T.Jd.F.okE Ww (fun vs H Q E h=>?_) (fun cdv A outer s H vs Q E hr h=>?_)
 ·obtain⟨b,os,rs,F,i,xs,rfl,lx,_⟩:=h
  show xs.length+1+1=_
  rw[lx]
  rfl
 obtain⟨b,os,rs,F,i,xs,rfl,lx,hB,bi,si,q⟩:=h
 match xs,lx with
 | [v0],_ =>
 have L:=z9 a.zj
 refine⟨_,(zf (zV (wj xR (pv 0) T.zY T.zO zy hr (za (pv 1) zc)))
   yU),?_⟩
 obtain⟨dx,_,_,_,_,_,_,_,h1⟩:=id hB
 exact⟨_,rfl,b,dx,_,rfl,h1.hb,rfl,_,rfl,b,os,rs,F,i,rfl,hB,bi,si,q _ (Same.refl _)⟩
theorem ze2 (T:Txt P w K mg a)
  (yx:zB P w K mg base (wJ P w) k a.wu a.wz xT (xZ a.zj a.zW 0)):zB P w K mg base (wJ P w) (k+1) a.SN a.SQ W4 (xZ a.zj a.zW 0):=by
 refine T.MN.F.okE zaz (fun vs H Q E h=>?_) (fun cdv A outer s H vs Q E hr h=>?_)
 ·obtain⟨b,os,rs,F,i,xs,rfl,lx,_⟩:=h
  show xs.length+1+1=_
  rw[lx]
  rfl
 obtain⟨b,os,rs,F,i,xs,rfl,lx,hB,bi,si,q⟩:=h
 match xs,lx with
 | [],_ =>
 have L:=z9 a.zj
 refine⟨_,(zx (zR (zG zM rfl T.xr yw (za (yH xR yx hr T.wN (za (pv 0) (za (pv 1) zc))) zc)))),?_⟩
 exact⟨_,rfl,_,rfl,b,os,rs,F,i,[],rfl,rfl,hB,bi,si,q⟩
theorem ze3 (T:Txt P w K mg a)
  (yx:zB P w K mg base (wJ P w) k a.wu a.wz xT (xZ a.zj a.zW 0)):zB P w K mg base (wJ P w) (k+1) a.SX a.S5 W6 (xZ a.zj a.zW 0):=by
 refine T.MP.F.okE Vx (fun vs H Q E h=>?_) (fun cdv A outer s H vs Q E hr h=>?_)
 ·obtain⟨b,os,rs,F,i,xs,rfl,lx,_⟩:=h
  show xs.length+1+1=_
  rw[lx]
  rfl
 obtain⟨b,os,rs,F,i,xs,rfl,lx,hB,bi,si,q⟩:=h
 match xs,lx with
 | [],_ =>
 have L:=z9 a.zj
 refine⟨_,(zf (Z9 (i:=2) Vx.nd rfl (Or.inr rfl) (vX (uZ:=zA W5) (js:=[]) rfl (by show Z6 _ _ "row" [];exact lco (by decide +kernel)) rfl (yZ (yH xR yx hr T.wN (za (pv 0) (za (pv 1) zc)))) (by show ∀j∈([]:List Nat),j<3;decide) (fun cl C s₂ H₂ fp=>(zG (zdH (K:=K) rfl rfl) rfl T.ziJ zef (za (pv 0) zc)))))
   yU),?_⟩
 exact⟨_,rfl,_,rfl,b,os,rs,F,i,[],rfl,rfl,hB,bi,si,q⟩
theorem zhP (T:Txt P w K mg a)
  (yx:zB P w K mg base (wJ P w) k a.wu a.wz xT (xZ a.zj a.zW 0)):zB P w K mg base (wJ P w) (k+1) a.Qv a.Qw U0 (xZ a.zj a.zW 1):=by
 refine T.Jb.F.okE Ws (fun vs H Q E h=>?_) (fun cdv A outer s H vs Q E hr h=>?_)
 ·obtain⟨b,os,rs,F,i,xs,rfl,lx,_⟩:=h
  show xs.length+1+1=_
  rw[lx]
  rfl
 obtain⟨b,os,rs,F,i,xs,rfl,lx,hB,bi,si,q⟩:=h
 match xs,lx with
 | [v0],_ =>
 have L:=z9 a.zj
 refine⟨_,(zf (Z9 (i:=3) Ws.nd rfl (Or.inl rfl) (yH xR yx hr T.wN (za (pv 0) (za (pv 1) zc))))
   yU),?_⟩
 exact⟨_,rfl,_,rfl,b,os,rs,F,i,[],rfl,rfl,hB,bi,si,q⟩
theorem zhQ (T:Txt P w K mg a)
  (wX:zB P w K mg base (wJ P w) k a.vM a.vN wR (Zc a.zj a.zW))
  (Vn:zB P w K mg base (wJ P w) k a.YL a.YM ZS zmL):zB P w K mg base (wJ P w) (k+1) a.K7 a.K8 Qm (xZ a.zj a.zW 0):=by
 refine T.zcp.F.okE Wt (fun vs H Q E h=>?_) (fun cdv A outer s H vs Q E hr h=>?_)
 ·obtain⟨b,os,rs,F,i,xs,rfl,lx,_⟩:=h
  show xs.length+1+1=_
  rw[lx]
  rfl
 obtain⟨b,os,rs,F,i,xs,rfl,lx,hB,bi,si,q⟩:=h
 match xs,lx with
 | [],_ =>
 have L:=z9 a.zj
 refine⟨_,(zf (Z9 (i:=2) Wt.nd rfl (Or.inl rfl) Ke)
   (zf (ZP PassesOwn.leaving rfl (yZ (wj xR (pv 0) T.zY T.uH wX hr (za (pv 1) zc))) (wA (i:=3) Wt.nd rfl (Or.inl rfl)) (zx (Kd (zar hr) (pv 2) (pv 3) (yH xR Vn hr T.Ri (za (pv 0) (za (pv 3) (za (pv 2) zc)))) rfl)))
   yU)),?_⟩
 refine fun d hd=>?_
 have g:=Same.new hd (.dK [])
 obtain⟨dx1,fs1,zgD,hm1⟩:=L.ins (L.same hB g)
 exact⟨_,rfl,b,dx1,fs1,rfl,zgD,hm1 _ (by decide +kernel),_,rfl,b,os,rs,F,i,rfl,L.same hB g,bi,si,q _ g⟩
theorem za4 (T:Txt P w K mg a)(Q5:zB P w K mg base yd k a.Qx a.Qy U4 (LK K)):zB P w K mg base (wJ P w) (k+1) a.ZD a.ZF uQ (zhv a.wW K):=by
 refine T.Xl.F.okE Qp (fun vs H Q E h=>?_) (fun cdv A outer s H vs Q E hr h=>?_)
 ·obtain⟨l,r,xs,ns,rfl,_⟩:=h
  rfl
 obtain⟨l,r,xs,ns,rfl,h1,h2,h3,h4,q⟩:=h
 have Q5:=Q5.lift (CX:=wJ P w)
 refine⟨_,(zx (yr (Zu (yM (yH xR Q5 hr T.zcs (za (pv 0) (za (pv 1) zc))) (fun _=>rfl))) (zx (UW rfl rfl T.zcu.own rfl T.ziI Pu (za xH zc))) z8)),?_⟩
 refine⟨_,rfl,_,rfl,l,r,xs,ns,rfl,h1,h2,h3,fun H' g=>⟨_,rfl,?_⟩⟩
 rw[h4]
 exact uY ⟨by show 1<=sizeLine;decide,q H' g⟩
theorem Jo (T:Txt P w K mg a)
  (zy:zB P w K mg base (wJ P w) k a.zK a.zL zH (zeF a.zj a.zW))
  (Um:zB P w K mg base (wJ P w) k a.ZD a.ZF uQ (zhv a.wW K)):zB P w K mg base (wJ P w) (k+1) a.vB a.vC wK (Qk a.zj a.zW a.wW K):=by
 refine T.uL.F.okE vf (fun vs H Q E h=>?_) (fun cdv A outer s H vs Q E hr h=>?_)
 ·obtain⟨b,r,os,rs,F,i,ns,rfl,_⟩:=h
  rfl
 obtain⟨b,r,os,rs,F,i,ns,rfl,hB,si,hr',hz,h⟩:=h
 refine⟨_,(zf (zV (wj xR (pv 0) T.zY T.zO zy hr (za (pv 1) zc)))
   (zf (zV (yH xR Um hr T.Xl (za (u9 (pv 0) rfl) (za (pv 2) zc))))
   yU)),?_⟩
 obtain⟨dx,ml,_,_,_,_,_,_,h1⟩:=id hB
 rcases h with ⟨bi,q⟩ | ⟨bi,hw,q⟩
 ·exact⟨_,rfl,b,dx,_,rfl,h1.hb,rfl,_,rfl,.inr ⟨b,os,rs,F,i,rfl,hB,bi,si,q H (Same.refl _)⟩⟩
 ·obtain⟨k1,rfl,hk1⟩:=zmM bi
  refine⟨_,rfl,b,dx,_,rfl,h1.hb,rfl,_,rfl,.inl ⟨b,os,rs,F,k1,rfl,hB,hk1,?_⟩⟩
  exact⟨_,rfl,b,a.zj,dx,_,_,rfl,h1.hb,T.zY,T.vR,rfl,_,rfl,ml,r,os.map V.str,ns,rfl,zX.of h1.hm,hr',hz,by rw[zvA];exact hw,q⟩
theorem zcD (T:Txt P w K mg a)
  (ZM:zB P w K mg base (wJ P w) k a.vB a.vC wK (Qk a.zj a.zW a.wW K)):zB P w K mg base (wJ P w) (k+1) a.Wb a.Wc Yj (Qk a.zj a.zW a.wW K):=by
 refine T.Rh.F.okE Nu (fun vs H Q E h=>?_) (fun cdv A outer s H vs Q E hr h=>?_)
 ·exact ZM.len vs H Q E h
 obtain⟨b,u1,os,rs,F,i,ms,rfl,hB,r1,r2,r3,r4⟩:=h
 refine⟨_,(zf (yr (zT xG (wj xR (pv 0) T.zY T.uL ZM hr (za (pv 1) (za (pv 2) zc))) zq (zU _)) (zx (UW rfl rfl T.V5.own rfl T.MK Pu (za xH zc))) z8)
   yU),?_⟩
 obtain⟨dx,_,_,_,_,_,_,_,h1⟩:=id hB
 exact⟨_,rfl,b,dx,_,rfl,h1.hb,rfl,_,rfl,_,rfl,b,u1,os,rs,F,i,ms,rfl,hB,r1,r2,r3,r4⟩
theorem zhR (T:Txt P w K mg a)
  (yx:zB P w K mg base yd k a.wu a.wz xT (Zb a.zj)):zB P w K mg base (wJ P w) (k+1) a.Qv a.Qw U0 (zb5 a.zj a.xK):=by
 refine T.Jb.F.okE Ws (fun vs H Q E h=>?_) (fun cdv A outer s H vs Q E hr h=>?_)
 ·obtain⟨b,os,rs,F,j,m,rfl,_⟩:=h
  rfl
 obtain⟨b,os,rs,F,j,m,rfl,hB,hj,hm,sm,q⟩:=h
 have yx:=yx.lift (CX:=wJ P w)
 refine⟨_,(zf (Z9 (i:=3) Ws.nd rfl (Or.inl rfl) (yH xR yx hr T.wN (za (pv 0) (za (pv 1) zc))))
   (zf (yr (PW.pt (Uq (zT zbw (pv 2) zq (zU _)) (XC (zT zfi (pv 2) (zG zM rfl T.xr yw (za (pv 3) zc)) (zU _))))) (zx (UW rfl rfl T.V5.own rfl T.MK Pu (za (zk8 (Ky zk6 (Ky (zk7 (pv 2)) ziD))) zc))) z8)
   (zx (zR (yg yC (pv 3) (pv 2) (fun _ _=>rfl)))))),?_⟩
 refine⟨_,rfl,_,rfl,b,os,rs,F,j,rfl,hB,hj,fun l H1 ps g1 fl hl hp=>?_⟩
 have el:=yJ hp
 have lps:(ps.map V.ref).length=(zZ.xP os.length rs j).length:=by rw[zvA,el]
 refine⟨_,rfl,_,_,rfl,rfl,_,rfl,yG (fun c=>?_) (fun c=>?_)⟩
 ·exact⟨.int m,rfl,m,rfl,sm,fun x=>⟨by show 1<=sizeLine;decide,q H1 g1⟩⟩
 refine⟨_,rfl,_,rfl,l,_,rfl,.inl (zX.of hl),_,_,rfl,rfl,_,rfl,yG (fun c2=>?_) (fun c2=>?_)⟩
 ·exact⟨.int m,rfl,m,rfl,sm,fun x=>⟨by show 1<=sizeLine;decide,q H1 g1⟩⟩
 ·refine absurd hm ?_
  have c:=of_decide_eq_false (Bool.eq_false_iff.mpr c)
  have c2:=of_decide_eq_false (Bool.eq_false_iff.mpr c2)
  rintro (z | z)<;>omega
theorem za5 (T:Txt P w K mg a):zB P w K mg base yd (k+1) a.vP a.vQ wZ Y8:=by
 refine T.Xm.F.ok Qs (fun vs H Q E h=>?_) (fun cdv A outer s H vs Q E hr h=>?_)
 ·obtain⟨p,sh,rfl,_⟩:=h
  rfl
 obtain⟨p,sh,rfl,hs,q⟩:=h
 refine⟨_,(zx (zR (WK (wH xG (zG zM rfl T.xr yw (za (pv 0) zc)) zq (zU _)) (N6 (zG (vY rfl) rfl T.Tv YC (za (vX (uZ:=zA Xb) (js:=[]) rfl (by show Z6 _ _ "weight" [];exact lco (by decide +kernel)) rfl (zbu (pv 0)) (by show ∀j∈([]:List Nat),j<1;decide) (fun cl C s₂ H₂ fp=>(wH Nj (zG zfj rfl T.znx zkQ (za (pv 0) zc)) (wG (v:=.int 1000000) rfl T.NZ ⟨_,rfl⟩) (zU _)))) zc)))))),?_⟩
 have hT:=vO.of (K:=K) hs
 refine⟨_,rfl,p,_,rfl,.inr hT,rfl,true,rfl,uY ?_⟩
 refine⟨_,rfl,p,rfl,⟨_,hT⟩,zep (fun i v=>v=.bl (if i=0 then decide (zeG sh.1<=1000000) else decide (zeG sh.2<=1000000))) hT (by show 2<=sizeLine;decide) ?_ ?_ ?_⟩
 ·intro j x H' hx g
  match j,hx with
  | 0,hx =>
   cases hx
   exact⟨_,rfl,_,rfl,_,_,rfl,rfl,rfl,g⟩
  | 1,hx =>
   cases hx
   exact⟨_,rfl,_,rfl,_,_,rfl,rfl,rfl,g⟩
 ·rintro σ' H' Q1 Q2 hQ ⟨v,e,i',z1,i1,i2,z2,z3,z4⟩
  exact⟨v,e,i',z1,i1,i2,z2,z3,hQ _ _ z4⟩
 ·intro us H5 p5 hul hu g5 hp5
  have eu:us=([decide (zeG sh.1<=1000000),decide (zeG sh.2<=1000000)]:List Bool).map V.bl:=by
   match us,hul,hu with
   | [u1,u2],_,hu=>rw[hu 0 u1 rfl,hu 1 u2 rfl];rfl
  subst eu
  exact⟨p5,[decide (zeG sh.1<=1000000),decide (zeG sh.2<=1000000)],rfl,zX.of zu,q _ (g5.trans (Same.new hp5 _))⟩
theorem Ni (T:Txt P w K mg a)
  (yI:zB P w K mg base yd k a.wU a.wV wB (vI (yp a.zj)))
  (Uo:zB P w K mg base yd k a.vP a.vQ wZ Y8):zB P w K mg base (wJ P w) (k+1) a.yO a.yP yF (tM a.zj a.yj K):=by
 refine T.xg.F.okE Vc (fun vs H Q E h=>?_) (fun cdv A outer s H vs Q E hr h=>?_)
 ·obtain⟨b,l,os,rs,F,ps,sh,rfl,_⟩:=h
  rfl
 obtain⟨b,l,os,rs,F,ps,sh,rfl,hB,hl,hp,l20,bad,q⟩:=h
 have yI:=yI.lift (CX:=wJ P w)
 refine⟨_,(zx (yr (PW.pt (Uq (zT Lg (zG zM rfl T.xr yw (za (pv 1) zc)) (zG zM rfl T.xr yw (za (zbJ xR (pv 0) T.zY T.uG yI hr) zc)) (zU _)) (XC (Zu (yM (zG (vY rfl) rfl T.Tv YC (za (vX (uZ:=zA uW) (js:=[]) rfl (by show Z6 _ _ "entry" [];exact lco (by decide +kernel)) rfl (yZ (pv 1)) (by show ∀j∈([]:List Nat),j<2;decide) (fun cl C s₂ H₂ fp=>(zE Uo hr T.Xm (za (pv 0) zc)))) zc)) (fun _=>rfl)))))) (zx (UW rfl rfl T.Rq.own rfl T.zaH Pu (za xH zc))) z8)),?_⟩
 have L:=z9 a.zj
 have lp:=yJ hp
 obtain⟨dx,fs,M8,hm⟩:=L.ins hB
 refine⟨_,rfl,l,_,rfl,.inl hl,?_⟩
 refine⟨_,rfl,b,dx,_,rfl,M8,hm _ (by decide +kernel),b,os,rs,F,rfl,hB,fun ol H1 g1 _ hol'=>?_⟩
 refine⟨ol,_,rfl,.inl (zX.of hol'),rfl,_,rfl,?_⟩
 rw[zvA,zvA,lp]
 by_cases hn:sh.length=os.length
 ·rw[hn,decide_eq_true rfl]
  refine tD ?_
  have hl1:=g1.seq hl
  refine⟨_,rfl,l,rfl,⟨_,hl1⟩,?_⟩
  refine Kv (xs:=ps.map V.ref) (fun i ys H'=>Same H1 H'/\ys=((sh.take i).map wgB).map V.bl) ⟨Same.refl _,rfl⟩ (by rw[zvA];exact zvS (yc (by omega))) (fun i ys H' hi ⟨g,e⟩=>⟨g.seq hl1,by rw[e,zvA,zvA,zvX];omega⟩) (fun i x ys H' Q0 hx hP hQ=>?_) (fun ys H' p hP hp0=>?_)
  ·obtain⟨g,rfl⟩:=hP
   rw[zvC] at hx
   cases hpi:ps[i]? with
   | none=>rw[hpi] at hx;cases hx
   | some r =>
    rw[hpi] at hx
    cases hx
    obtain⟨s',hs',as'⟩:=Yc hp hpi
    refine⟨_,rfl,r,s',rfl,(g1.trans g) _ _ as',fun H9 g9=>hQ _ _ ⟨g.trans g9,?_⟩⟩
    rw[vZ hs',zvO,zvO]
    rfl
  ·obtain⟨g,rfl⟩:=hP
   rw[zvA,lp,zv2]
   refine⟨p,_,rfl,zX.of zu,_,rfl,?_⟩
   have e3:(sh.map wgB).all id=false:=by
    rcases bad with z | ⟨s',hs',z⟩
    ·exact absurd hn z
    ·rw[<-Bool.not_eq_true,zv3]
     exact fun y=>by have:=y (wgB s') (List.mem_map.mpr ⟨s',hs',rfl⟩);rw[id,z] at this;cases this
   rw[e3]
   exact uY ⟨by show 1<=sizeLine;decide,q _ (g1.trans (g.trans (Same.new hp0 _)))⟩
 ·have e1:decide (V.int ((sh.length:Nat):Int)=V.int ((os.length:Nat):Int))=false:=decide_eq_false (fun z=>hn (by injection z with z;omega))
  rw[e1]
  exact uY (uY ⟨by show 1<=sizeLine;decide,q _ g1⟩)
theorem ze4 (T:Txt P w K mg a):zB P w K mg base yd (k+1) a.Z2 a.Z4 tR Ss:=by
 refine T.Rn.F.ok zaE (fun vs H Q E h=>?_) (fun cdv A outer s H vs Q E hr h=>?_)
 ·obtain⟨p,sh,rfl,_⟩:=h
  rfl
 obtain⟨p,sh,rfl,hs,q⟩:=h
 refine⟨_,(zx (zR (WK (wH xG (zG zM rfl T.xr yw (za (pv 0) zc)) zq (zU _)) (WK (Lh Nj Nj zq (yg wD (pv 0) zq (fun _ _=>rfl)) (yg wD (pv 0) zq (fun _ _=>rfl))) (N6 (Lh Nj Nj zq (yg wD (pv 0) zq (fun _ _=>rfl)) (wG (v:=.int 1000) rfl T.N5 ⟨_,rfl⟩))))))),?_⟩
 have hT:=vO.of (K:=K) hs
 unfold shB at q
 refine⟨_,rfl,p,_,rfl,.inr hT,rfl,_,rfl,yG (fun _=>?_) (fun c=>absurd (decide_eq_true rfl) c)⟩
 refine⟨_,rfl,p,_,_,_,rfl,rfl,hT,rfl,_,_,rfl,rfl,_,rfl,yG (fun c1=>?_) (fun c1=>?_)⟩
 ·rw[c1,Bool.true_and] at q
  refine⟨_,rfl,p,_,_,_,rfl,rfl,hT,rfl,_,_,rfl,rfl,_,rfl,?_⟩
  refine yG (fun c2=>?_) (fun c2=>?_)
  ·rw[c2,Bool.true_and] at q
   refine⟨_,rfl,p,_,_,_,rfl,rfl,hT,rfl,_,_,rfl,rfl,_,rfl,yG (fun c3=>?_) (fun c3=>?_)⟩
   ·rw[c3,Bool.true_and] at q
    exact⟨_,_,rfl,rfl,q⟩
   ·rw[Bool.eq_false_iff.mpr c3,Bool.false_and] at q
    exact q
  ·rw[Bool.eq_false_iff.mpr c2,Bool.false_and,Bool.false_and] at q
   exact q
 ·rw[Bool.eq_false_iff.mpr c1,Bool.false_and,Bool.false_and,Bool.false_and] at q
  exact⟨_,rfl,tD q⟩
theorem Lb (T:Txt P w K mg a)
  (yI:zB P w K mg base yd k a.wU a.wV wB (vI (yp a.zj)))
  (La:zB P w K mg base yd k a.Z2 a.Z4 tR Ss):zB P w K mg base (wJ P w) (k+1) a.ug a.uh vh (Ua a.zj a.yR K):=by
 refine T.Zn.F.okE VH (fun vs H Q E h=>?_) (fun cdv A outer s H vs Q E hr h=>?_)
 ·obtain⟨b,l,os,rs,F,ps,sh,rfl,_⟩:=h
  rfl
 obtain⟨b,l,os,rs,F,ps,sh,rfl,hB,hl,hp,l20,bad,q⟩:=h
 have yI:=yI.lift (CX:=wJ P w)
 refine⟨_,(zx (yr (PW.pt (Uq (zT Lg (zG zM rfl T.xr yw (za (pv 1) zc)) (zG zM rfl T.xr yw (za (zbJ xR (pv 0) T.zY T.uG yI hr) zc)) (zU _)) (XC (Zu (yM (zG (vY rfl) rfl T.Tv YC (za (vX (uZ:=zA Zf) (js:=[]) rfl (by show Z6 _ _ "entry" [];exact lco (by decide +kernel)) rfl (yZ (pv 1)) (by show ∀j∈([]:List Nat),j<2;decide) (fun cl C s₂ H₂ fp=>(zE La hr T.Rn (za (pv 0) zc)))) zc)) (fun _=>rfl)))))) (zx (UW rfl rfl T.QX.own rfl T.zco Pu (za xH zc))) z8)),?_⟩
 have L:=z9 a.zj
 have lp:=yJ hp
 obtain⟨dx,fs,M8,hm⟩:=L.ins hB
 refine⟨_,rfl,l,_,rfl,.inl hl,?_⟩
 refine⟨_,rfl,b,dx,_,rfl,M8,hm _ (by decide +kernel),b,os,rs,F,rfl,hB,fun ol H1 g1 _ hol'=>?_⟩
 refine⟨ol,_,rfl,.inl (zX.of hol'),rfl,_,rfl,?_⟩
 rw[zvA,zvA,lp]
 by_cases hn:sh.length=os.length
 ·rw[hn,decide_eq_true rfl]
  refine tD ?_
  have hl1:=g1.seq hl
  refine⟨_,rfl,l,rfl,⟨_,hl1⟩,?_⟩
  refine Kv (xs:=ps.map V.ref) (fun i ys H'=>Same H1 H'/\ys=((sh.take i).map shB).map V.bl) ⟨Same.refl _,rfl⟩ (by rw[zvA];exact zvS (yc (by omega))) (fun i ys H' hi ⟨g,e⟩=>⟨g.seq hl1,by rw[e,zvA,zvA,zvX];omega⟩) (fun i x ys H' Q0 hx hP hQ=>?_) (fun ys H' p hP hp0=>?_)
  ·obtain⟨g,rfl⟩:=hP
   rw[zvC] at hx
   cases hpi:ps[i]? with
   | none=>rw[hpi] at hx;cases hx
   | some r =>
    rw[hpi] at hx
    cases hx
    obtain⟨s',hs',as'⟩:=Yc hp hpi
    refine⟨_,rfl,r,s',rfl,(g1.trans g) _ _ as',hQ _ _ ⟨g,?_⟩⟩
    rw[vZ hs',zvO,zvO]
    rfl
  ·obtain⟨g,rfl⟩:=hP
   rw[zvA,lp,zv2]
   refine⟨p,_,rfl,zX.of zu,_,rfl,?_⟩
   have e3:(sh.map shB).all id=false:=by
    rcases bad with z | ⟨s',hs',z⟩
    ·exact absurd hn z
    ·rw[<-Bool.not_eq_true,zv3]
     exact fun y=>by have:=y (shB s') (List.mem_map.mpr ⟨s',hs',rfl⟩);rw[id,z] at this;cases this
   rw[e3]
   exact uY ⟨by show 1<=sizeLine;decide,q _ (g1.trans (g.trans (Same.new hp0 _)))⟩
 ·have e1:decide (V.int ((sh.length:Nat):Int)=V.int ((os.length:Nat):Int))=false:=decide_eq_false (fun z=>hn (by injection z with z;omega))
  rw[e1]
  exact uY (uY ⟨by show 1<=sizeLine;decide,q _ g1⟩)
theorem ze5 (T:Txt P w K mg a)
  (zy:zB P w K mg base yd k a.zK a.zL zH (xJ a.zj))
  (yu:zB P w K mg base (wJ P w) k a.yO a.yP yF (tM a.zj a.yj K)):zB P w K mg base (wJ P w) (k+1) a.Vh a.Vi YK (zeH a.zj a.yj K wgB 0):=by
 refine T.Ro.F.okE Qt (fun vs H Q E h=>?_) (fun cdv A outer s H vs Q E hr h=>?_)
 ·obtain⟨b,l,os,rs,F,j,ps,ws,xs,rfl,lx,_⟩:=h
  show xs.length+1+1+1=_
  rw[lx]
  rfl
 obtain⟨b,l,os,rs,F,j,ps,ws,xs,rfl,lx,hB,hj,hl,hp,l20,bad,q⟩:=h
 have zy:=zy.lift (CX:=wJ P w)
 match xs,lx with
 | [],_ =>
 have L:=z9 a.zj
 refine⟨_,(zf (zV (wj xR (pv 0) T.zY T.zO zy hr (za (pv 1) zc)))
   (zf (zV (yH xR yu hr T.xg (za (pv 0) (za (pv 2) zc))))
   yU)),?_⟩
 obtain⟨dx,_,_,_,_,_,_,_,h1⟩:=id hB
 refine⟨_,rfl,b,dx,_,rfl,h1.hb,rfl,_,rfl,b,os,rs,F,j,rfl,hB,hj,?_⟩
 exact⟨_,rfl,_,rfl,b,l,os,rs,F,ps,ws,rfl,hB,hl,hp,l20,bad,q⟩
theorem zjL (T:Txt P w K mg a)
  (zy:zB P w K mg base yd k a.zK a.zL zH (xJ a.zj))
  (yu:zB P w K mg base (wJ P w) k a.yO a.yP yF (tM a.zj a.yj K)):zB P w K mg base (wJ P w) (k+1) a.K9 a.Ja Px (zeH a.zj a.yj K wgB 0):=by
 refine T.zbp.F.okE Qu (fun vs H Q E h=>?_) (fun cdv A outer s H vs Q E hr h=>?_)
 ·obtain⟨b,l,os,rs,F,j,ps,ws,xs,rfl,lx,_⟩:=h
  show xs.length+1+1+1=_
  rw[lx]
  rfl
 obtain⟨b,l,os,rs,F,j,ps,ws,xs,rfl,lx,hB,hj,hl,hp,l20,bad,q⟩:=h
 have zy:=zy.lift (CX:=wJ P w)
 match xs,lx with
 | [],_ =>
 have L:=z9 a.zj
 refine⟨_,(zf (zV (wj xR (pv 0) T.zY T.zO zy hr (za (pv 1) zc)))
   (zf (zV (yH xR yu hr T.xg (za (pv 0) (za (pv 2) zc))))
   yU)),?_⟩
 obtain⟨dx,_,_,_,_,_,_,_,h1⟩:=id hB
 refine⟨_,rfl,b,dx,_,rfl,h1.hb,rfl,_,rfl,b,os,rs,F,j,rfl,hB,hj,?_⟩
 exact⟨_,rfl,_,rfl,b,l,os,rs,F,ps,ws,rfl,hB,hl,hp,l20,bad,q⟩
theorem zcE (T:Txt P w K mg a)
  (zy:zB P w K mg base yd k a.zK a.zL zH (xJ a.zj))
  (yu:zB P w K mg base (wJ P w) k a.yO a.yP yF (tM a.zj a.yj K)):zB P w K mg base (wJ P w) (k+1) a.Yu a.Yv Zg (zeH a.zj a.yj K wgB 1):=by
 refine T.Wf.F.okE Xc (fun vs H Q E h=>?_) (fun cdv A outer s H vs Q E hr h=>?_)
 ·obtain⟨b,l,os,rs,F,j,ps,ws,xs,rfl,lx,_⟩:=h
  show xs.length+1+1+1=_
  rw[lx]
  rfl
 obtain⟨b,l,os,rs,F,j,ps,ws,xs,rfl,lx,hB,hj,hl,hp,l20,bad,q⟩:=h
 have zy:=zy.lift (CX:=wJ P w)
 match xs,lx with
 | [v0],_ =>
 have L:=z9 a.zj
 refine⟨_,(zf (zV (wj xR (pv 0) T.zY T.zO zy hr (za (pv 1) zc)))
   (zf (zV (yH xR yu hr T.xg (za (pv 0) (za (pv 2) zc))))
   yU)),?_⟩
 obtain⟨dx,_,_,_,_,_,_,_,h1⟩:=id hB
 refine⟨_,rfl,b,dx,_,rfl,h1.hb,rfl,_,rfl,b,os,rs,F,j,rfl,hB,hj,?_⟩
 exact⟨_,rfl,_,rfl,b,l,os,rs,F,ps,ws,rfl,hB,hl,hp,l20,bad,q⟩
theorem zhS (T:Txt P w K mg a)
  (zy:zB P w K mg base yd k a.zK a.zL zH (xJ a.zj))
  (YZ:zB P w K mg base (wJ P w) k a.ug a.uh vh (Ua a.zj a.yR K)):zB P w K mg base (wJ P w) (k+1) a.QG a.QJ U7 (zeH a.zj a.yR K shB 0):=by
 refine T.Jd.F.okE Ww (fun vs H Q E h=>?_) (fun cdv A outer s H vs Q E hr h=>?_)
 ·obtain⟨b,l,os,rs,F,j,ps,ws,xs,rfl,lx,_⟩:=h
  show xs.length+1+1+1=_
  rw[lx]
  rfl
 obtain⟨b,l,os,rs,F,j,ps,ws,xs,rfl,lx,hB,hj,hl,hp,l20,bad,q⟩:=h
 have zy:=zy.lift (CX:=wJ P w)
 match xs,lx with
 | [],_ =>
 have L:=z9 a.zj
 refine⟨_,(zf (zV (wj xR (pv 0) T.zY T.zO zy hr (za (pv 1) zc)))
   (zf (zV (yH xR YZ hr T.Zn (za (pv 0) (za (pv 2) zc))))
   yU)),?_⟩
 obtain⟨dx,_,_,_,_,_,_,_,h1⟩:=id hB
 refine⟨_,rfl,b,dx,_,rfl,h1.hb,rfl,_,rfl,b,os,rs,F,j,rfl,hB,hj,?_⟩
 exact⟨_,rfl,_,rfl,b,l,os,rs,F,ps,ws,rfl,hB,hl,hp,l20,bad,q⟩
theorem RT (T:Txt P w K mg a)
  (wX:zB P w K mg base (wJ P w) k a.vM a.vN wR (Zc a.zj a.zW)):zB P w K mg base (wJ P w) (k+1) a.xU a.xV yX (KD a.zj a.zW K):=by
 refine T.wO.F.okE Xw (fun vs H Q E h=>?_) (fun cdv A outer s H vs Q E hr h=>?_)
 ·obtain⟨b,l,os,rs,F,i,rfl,_⟩:=h
  rfl
 obtain⟨b,l,os,rs,F,i,rfl,hB,hl,bi,si,q⟩:=h
 have L:=z9 a.zj
 refine⟨_,(zx (zR (wH (zhf rfl (hu8 hr)) (vX (uZ:=zA vW) (js:=[]) rfl (by show Z6 _ _ "entry" [];exact lco (by decide +kernel)) rfl (yZ (pv 2)) (by show ∀j∈([]:List Nat),j<3;decide) (fun cl C s₂ H₂ fp=>(yg (X3 (K:=K) rfl) (pv 0) zq (fun _ _=>rfl)))) (wj xR (pv 0) T.zY T.uH wX hr (za (pv 1) zc)) (zU _)))),?_⟩
 refine⟨_,rfl,l,rfl,⟨_,hl⟩,?_⟩
 refine Kv (xs:=[]) (fun i ys H'=>Same H H'/\ys=[]) ⟨Same.refl _,rfl⟩ (by decide) (fun i ys H' hi ⟨g,e⟩=>⟨g.seq hl,by rw[e];exact zvW _⟩) (fun i x ys H' Q0 hx=>absurd hx (by simp)) (fun ys H' p ⟨g,_⟩ hp=>?_)
 ·have g2:=g.trans (Same.new hp (.lst ys))
  obtain⟨dx1,fs1,zgD,hm1⟩:=L.ins (L.same hB g2)
  exact⟨_,rfl,b,dx1,fs1,rfl,zgD,hm1 _ (by decide +kernel),_,rfl,b,os,rs,F,i,rfl,L.same hB g2,bi,si,q _ g2⟩
theorem za6 (T:Txt P w K mg a)
  (wQ:zB P w K mg base (wJ P w) k a.xU a.xV yX (KD a.zj a.zW K)):zB P w K mg base (wJ P w) (k+1) a.Xf a.Xg Zx (KD a.zj a.zW K):=by
 refine T.Ul.F.okE W7 (fun vs H Q E h=>?_) (fun cdv A outer s H vs Q E hr h=>?_)
 ·obtain⟨b,l,os,rs,F,i,rfl,_⟩:=h
  rfl
 obtain⟨b,l,os,rs,F,i,rfl,hB,hl,bi,si,q⟩:=h
 refine⟨_,(zf (yr (Zu (yM (yH xR wQ hr T.wO (za (pv 0) (za (pv 1) (za (pv 2) zc)))) (fun _=>rfl))) (zx (zR RV)) z8)
   yU),?_⟩
 exact⟨_,rfl,_,rfl,_,rfl,b,l,os,rs,F,i,rfl,hB,hl,bi,si,q⟩
end
abbrev cs9 (a:Ad):List Addr:=[a.vm,a.uo,a.zW,a.wW,a.xK,a.yj,a.yR,a.vD,a.tY]
section
variable {P:Program}{w:World}{K:Frag}{mg:Str->Option Value}{base:Heap}{a:Ad}{k:Nat}
theorem zjM (T:Txt P w K mg a):zB P w K mg base yd (k+1) a.Rf a.Rg Ve (ziE K):=by
 refine T.zct.F.ok zgc (fun vs H Q E h=>?_) (fun cdv A outer s H vs Q E hr h=>?_)
 ·obtain⟨t,l,x,rfl,_⟩:=h
  rfl
 obtain⟨t,l,x,rfl,ht,hl,q⟩:=h
 refine⟨_,(zx (zR (WK (zG R4 rfl T.yV yK (za (pv 0) (za (za8 (v:=.ty "tuple") rfl T.ziK zfp rfl) zc))) (WK (wH (zhf rfl (hu8 hr)) (zbz zg3 (pv 0) zib (zbc zq)) (yL (za xH zc)) (zU _)) (N6 (wH Q6 (pv 1) (yg wD (pv 0) zq (fun _ _=>rfl)) (by with_unfolding_all rfl))))))),?_⟩
 refine⟨_,rfl,_,_,_,true,rfl,.tup ht,rfl,true,rfl,uY ?_⟩
 refine⟨_,rfl,1,rfl,t,_,rfl,vO.of ht,fun z=>absurd (show(1:Nat)=2 from z.2) (by decide),fun p hp=>?_⟩
 refine⟨by show 1<=sizeLine;decide,fun p2 hp2=>?_⟩
 have g1:=Same.new hp (.tup (Ln [V.str "refused", V.ref l] none (some 1)))
 have g2:=Same.new hp2 (.tup [V.str "refused"])
 have f1:=g2 _ _ (show upd H p (.tup (Ln [V.str "refused", V.ref l] none (some 1))) p=some (.tup [V.str "refused"]) from zu)
 have f2:upd (upd H p (.tup (Ln [V.str "refused", V.ref l] none (some 1)))) p2 (.tup [V.str "refused"]) p2=some _:=zu
 have g:=g1.trans g2
 refine⟨_,fun z=>absurd z.1 zvE,.tt (e:=fun _=>true) (vO.of f1) (vO.of f2) (fun j x y hx hy=>?_),true,rfl,uY ?_⟩
 ·have e:x=y:=zv4 (hx.symm.trans hy)
  subst e
  have hj:x=.str "refused" := by
   cases j with
   | zero=>exact(zv4 hx).symm
   | succ j=>exact absurd hx (by simp)
  subst hj
  have:=Ph.flat (K:=K) (H:=upd (upd H p (.tup (Ln [V.str "refused", V.ref l] none (some 1)))) p2 (.tup [V.str "refused"])) (n:=7) (x:=V.str "refused") (y:=.str "refused") rfl rfl
  rw[zbN rfl] at this
  exact this
 refine⟨_,rfl,_,rfl,t,_,1,.ref l,rfl,rfl,vO.of (g _ _ ht),rfl,l,_,rfl,.inl (g.seq hl),rfl,rfl,?_⟩
 have:inV (V.str x) [V.str x]=true:=by
  show(eqV (.str x) (.str x)||false)=true
  rw[zbN rfl];rfl
 rw[this]
 exact q _ g
theorem zdc (T:Txt P w K mg a)
  (zy:zB P w K mg base yd k a.zK a.zL zH (xJ a.zj))
  (yu:zB P w K mg base yd k a.yO a.yP yF (Zw a.zj K))
  (wQ:zB P w K mg base yd k a.xU a.xV yX (YG a.zj))
  (zam:zB P w K mg base yd k a.Te a.Tg Wv zmL):zB P w K mg base yd (k+1) a.Yu a.Yv Zg (Sw a.zj K):=by
 refine T.Wf.F.ok Xc (fun vs H Q E h=>?_) (fun cdv A outer s H vs Q E hr h=>?_)
 ·obtain⟨b,wl,l,os,rs,F,ps,ws,rfl,_⟩:=h
  rfl
 obtain⟨b,wl,l,os,rs,F,ps,ws,rfl,hB,hw,hl,q⟩:=h
 refine⟨_,(zf (zV (yW (pv 0) T.zY T.zO zy hr (za (pv 1) zc)))
   (zf (zV (zE yu hr T.xg (za (pv 0) (za (pv 2) zc))))
   (zf (yr (Zu (yM (zE wQ hr T.wO (za (pv 0) (za (pv 1) (za (pv 3) zc)))) (fun _=>rfl))) (zx (zR RV)) z8)
   (zf (Z9 (i:=4) Xc.nd rfl (Or.inr rfl) (Us (Ry rfl) rfl T.zlg ziz (za (pv 3) zc)))
   (zx (zR (zG (vY rfl) rfl T.Tv YC (za (zex (uZ:=zA X8) (js:=[0,2,4]) rfl (by show zfO (zA X8) _ "number" "load" ["book", "weights", "known"];exact⟨⟨rfl,by decide +kernel,by decide +kernel,by decide +kernel,by decide +kernel⟩,by decide +kernel,by decide +kernel,by decide +kernel⟩) rfl (yZ (pv 3)) (by show ∀j∈([0,2,4]:List Nat),j<5;decide) (fun cl C s₂ H₂ fp=>(wH xG (pv 1) (zE zam hr T.zac (za (pv 2) (za (pv 0) (za (pv 3) (za (pv 4) zc))))) (zU _)))) zc)))))))),?_⟩
 obtain⟨dx,_,_,_,_,_,_,_,h1⟩:=id hB
 refine⟨_,rfl,b,dx,_,rfl,h1.hb,rfl,_,rfl,b,os,rs,F,1,rfl,hB,zZ.len2 ((z9 a.zj).bk hB),?_⟩
 refine⟨_,rfl,_,rfl,b,wl,os,rs,F,ps,ws,rfl,hB,hw,fun H1 g1=>?_⟩
 exact⟨_,rfl,_,rfl,_,rfl,b,l,os,rs,F,rfl,(z9 a.zj).same hB g1,g1 _ _ hl,fun H2 g2=>⟨_,rfl,uY (q H2 (g1.trans g2))⟩⟩
theorem ze6 (T:Txt P w K mg a)
  (zhT:zB P w K mg base (wJ P w) k a.SN a.SQ W4 (Zt a.zj K (cs9 a) 0 false fun b i _ _ _ _ _=>[b,i]))
  (zhU:zB P w K mg base (wJ P w) k a.SX a.S5 W6 (Zt a.zj K (cs9 a) 1 false fun b i _ _ _ _ _=>[b,i]))
  (zlk:zB P w K mg base (wJ P w) k a.Qv a.Qw U0 (Zt a.zj K (cs9 a) 2 false fun b i _ m _ _ _=>[b,i,m]))
  (ze7:zB P w K mg base (wJ P w) k a.Wb a.Wc Yj (Zt a.zj K (cs9 a) 3 false fun b i r _ _ _ _=>[b,i,r]))
  (zll:zB P w K mg base (wJ P w) k a.K7 a.K8 Qm (Zt a.zj K (cs9 a) 4 false fun b i _ _ _ _ _=>[b,i]))
  (zdd:zB P w K mg base (wJ P w) k a.Xf a.Xg Zx (Zt a.zj K (cs9 a) 5 true fun b i _ _ _ _ l=>[b,i,l]))
  (zhV:zB P w K mg base (wJ P w) k a.Vh a.Vi YK (Zt a.zj K (cs9 a) 6 false fun b i _ _ w _ _=>[b,i,w]))
  (zm1:zB P w K mg base (wJ P w) k a.K9 a.Ja Px (Zt a.zj K (cs9 a) 7 false fun b i _ _ w _ _=>[b,i,w]))
  (ze8:zB P w K mg base (wJ P w) k a.Yu a.Yv Zg (Zt a.zj K (cs9 a) 8 true fun b i _ _ w _ l=>[b,i,w,l]))
  (zlm:zB P w K mg base (wJ P w) k a.QG a.QJ U7 (Zt a.zj K (cs9 a) 9 false fun b i _ _ _ h _=>[b,i,h])):zB P w K mg base (wJ P w) (k+1) a.Uj a.Uk Xe (zdT a.zj K (cs9 a)):=by
 refine T.Xo.F.okE zcl (fun vs H Q E h=>?_) (fun cdv A outer s H vs Q E hr h=>?_)
 ·obtain⟨c,b,rl,wl,hl,i,m,z0,z1,z2,z3,z4,os,rs,F,rfl,_⟩:=h
  rfl
 obtain⟨c,b,rl,wl,hl,i,m,z0,z1,z2,z3,z4,os,rs,F,rfl,hc,h,q⟩:=h
 refine⟨_,(zx (yr (zT xG (pv 0) zq (zU _)) (zx (zV (yH xR zhT hr T.MN (za (pv 1) (za (pv 2) zc))))) (zx (yr (zT xG (pv 0) zq (zU _)) (zx (zV (yH xR zhU hr T.MP (za (pv 1) (za (pv 2) zc))))) (zx (yr (zT xG (pv 0) zq (zU _)) (zx (zV (yH xR zlk hr T.Jb (za (pv 1) (za (pv 2) (za (pv 4) zc)))))) (zx (yr (zT xG (pv 0) zq (zU _)) (zx (zV (yH xR ze7 hr T.Rh (za (pv 1) (za (pv 2) (za (pv 3) zc)))))) (zx (yr (zT xG (pv 0) zq (zU _)) (zx (zV (yH xR zll hr T.zcp (za (pv 1) (za (pv 2) zc))))) (zx (yr (zT xG (pv 0) zq (zU _)) (zx (zV (yH xR zdd hr T.Ul (za (pv 1) (za (pv 2) (za (yh zc) zc)))))) (zx (yr (zT xG (pv 0) zq (zU _)) (zx (zV (yH xR zhV hr T.Ro (za (pv 1) (za (pv 2) (za (pv 5) zc)))))) (zx (yr (zT xG (pv 0) zq (zU _)) (zx (zV (yH xR zm1 hr T.zbp (za (pv 1) (za (pv 2) (za (pv 5) zc)))))) (zx (yr (zT xG (pv 0) zq (zU _)) (zx (zV (yH xR ze8 hr T.Wf (za (pv 1) (za (pv 2) (za (pv 5) (za (yh zc) zc))))))) (zx (zV (yH xR zlm hr T.Jd (za (pv 1) (za (pv 2) (za (pv 6) zc)))))))))))))))))))))))),?_⟩
 have w:∀{d:Option Nat} {H1:Hp} {Q':VK},Same H H1->JZ (cs9 a) d H Q E->(∀H',Q .non H'->∀v,Q' v H')->JZ (cs9 a) d H1 Q' E:=fun {d H1 Q'} g t f=>by
  cases d with
  | none=>exact fun H' g' v=>f H' (t H' (g.trans g') .non) v
  | some n=>exact fun H' g'=>t H' (g.trans g')
 have o:∀{c ar} {Q':VK},JZ (cs9 a) (Nt c z0 z1 z2 z3 z4) H Q' E->Zt a.zj K (cs9 a) c false ar (ar (.ref b) (.int i) (.ref rl) (.int m) (.ref wl) (.ref hl) (.ref b)) H Q' E:=fun t=>F40.go h (fun z=>absurd z (by decide)) t
 by_cases e0:c=0
 ·subst e0
  exact⟨_,rfl,rfl,_,rfl,ifY ⟨_,rfl,_,rfl,by unfold Vq;apply o;exact w (Same.refl _) q fun _ z _=>z⟩⟩
 refine⟨_,rfl,rfl,_,rfl,ifN (by omega) ?_⟩
 by_cases e1:c=1
 ·subst e1
  exact⟨_,rfl,rfl,_,rfl,ifY ⟨_,rfl,_,rfl,by unfold Vq;apply o;exact w (Same.refl _) q fun _ z _=>z⟩⟩
 refine⟨_,rfl,rfl,_,rfl,ifN (by omega) ?_⟩
 by_cases e2:c=2
 ·subst e2
  exact⟨_,rfl,rfl,_,rfl,ifY ⟨_,rfl,_,rfl,_,rfl,by unfold Vq;apply o;exact w (Same.refl _) q fun _ z _=>z⟩⟩
 refine⟨_,rfl,rfl,_,rfl,ifN (by omega) ?_⟩
 by_cases e3:c=3
 ·subst e3
  exact⟨_,rfl,rfl,_,rfl,ifY ⟨_,rfl,_,rfl,_,rfl,by unfold Vq;apply o;exact w (Same.refl _) q fun _ z _=>z⟩⟩
 refine⟨_,rfl,rfl,_,rfl,ifN (by omega) ?_⟩
 by_cases e4:c=4
 ·subst e4
  exact⟨_,rfl,rfl,_,rfl,ifY ⟨_,rfl,_,rfl,by unfold Vq;apply o;exact w (Same.refl _) q fun _ z _=>z⟩⟩
 refine⟨_,rfl,rfl,_,rfl,ifN (by omega) ?_⟩
 by_cases e5:c=5
 ·subst e5
  exact⟨_,rfl,rfl,_,rfl,ifY ⟨_,rfl,_,rfl,by show 0<=sizeLine;decide,fun l hl0=>by unfold Vq;apply F40.go (h.mono (Same.new hl0 _)) (fun _=>zu);exact w (Same.new hl0 _) q fun _ z _=>z⟩⟩
 refine⟨_,rfl,rfl,_,rfl,ifN (by omega) ?_⟩
 by_cases e6:c=6
 ·subst e6
  exact⟨_,rfl,rfl,_,rfl,ifY ⟨_,rfl,_,rfl,_,rfl,by unfold Vq;apply o;exact w (Same.refl _) q fun _ z _=>z⟩⟩
 refine⟨_,rfl,rfl,_,rfl,ifN (by omega) ?_⟩
 by_cases e7:c=7
 ·subst e7
  exact⟨_,rfl,rfl,_,rfl,ifY ⟨_,rfl,_,rfl,_,rfl,by unfold Vq;apply o;exact w (Same.refl _) q fun _ z _=>z⟩⟩
 refine⟨_,rfl,rfl,_,rfl,ifN (by omega) ?_⟩
 by_cases e8:c=8
 ·subst e8
  exact⟨_,rfl,rfl,_,rfl,ifY ⟨_,rfl,_,rfl,_,rfl,by show 0<=sizeLine;decide,fun l hl0=>by unfold Vq;apply F40.go (h.mono (Same.new hl0 _)) (fun _=>zu);exact w (Same.new hl0 _) q fun _ z _=>z⟩⟩
 refine⟨_,rfl,rfl,_,rfl,ifN (by omega) ?_⟩
 have e9:c=9:=by omega
 subst e9
 exact⟨_,rfl,_,rfl,_,rfl,by unfold Vq;apply o;exact w (Same.refl _) q fun _ z _=>z⟩
theorem zhW (T:Txt P w K mg a)
  (zde:zB P w K mg base (wJ P w) k a.Uj a.Uk Xe (zdT a.zj K (cs9 a)))
  (zdf:∀ex,zdS P w K mg base ex k a.Xj a.Xk ZC (KC K a.yQ (cs9 a) ex)):zB P w K mg base yd (k+1) a.QK a.QL VL (ziG a.zj K):=by
 refine T.zaL.F.ok Wa (fun vs H Q E h=>?_) (fun cdv A outer s H vs Q E hr h=>?_)
 ·obtain⟨c,b,rl,wl,hl,i,m,z0,z1,z2,z3,z4,os,rs,F,rfl,_⟩:=h
  rfl
 obtain⟨c,b,rl,wl,hl,i,m,z0,z1,z2,z3,z4,os,rs,F,rfl,hc,h,q0,q1⟩:=h
 refine⟨_,(zf (zN 7 Wa.nd xH)
   (zf (zox (i:=8) rfl rfl (zk2 (zk1 (zk4 zde hr rfl T.Xo.m T.Xo.F.2 T.Xo.b .nil rfl (za (pv 0) (za (pv 1) (za (pv 2) (za (pv 3) (za (pv 4) (za (pv 5) (za (pv 6) zc)))))))))) (fun ex=>(zx (Z9 (i:=7) Wa.nd rfl (Or.inl rfl) (zk5 (zdf ex) (zay.of hr _) rfl rfl T.Xn.m T.Xn.F.2 T.Xn.b .nil (za (pv 8) zc) (E:=E0))))) rfl T.zgg Wa.nd rfl rfl)
   (zx (zR (pv 7))))),?_⟩
 have nc:(cs9 a).Nodup:=T.xd.sublist (.cons _ (.cons₂ _ (.cons _ (List.Sublist.refl _))))
 refine⟨_,rfl,_,rfl,_,rfl,_,rfl,_,rfl,_,rfl,_,rfl,c,b,rl,wl,hl,i,m,z0,z1,z2,z3,z4,os,rs,F,rfl,hc,h,?_⟩
 cases e:Nt c z0 z1 z2 z3 z4 with
 | none=>exact fun H' g v=>⟨_,rfl,q0 e H' g⟩
 | some n =>
  have k0:n=2\/n=3\/n=4\/n=5\/n=6:=by
   clear h q0 q1
   revert e
   unfold Nt
   cases z0
   ·rw[if_neg zvE]
    split
    ·cases z2<;>simp<;>omega
    ·cases z1<;>simp<;>omega
    ·cases z3<;>simp<;>omega
    ·cases z3<;>simp<;>omega
    ·cases z3<;>simp<;>omega
    ·cases z4<;>simp<;>omega
    ·simp
   ·rw[if_pos rfl];simp;omega
  rcases k0 with rfl | rfl | rfl | rfl | rfl
  ·exact fun H' g=>⟨a.zW,rfl,zb4 T.xb T.zae,fun e' he=>⟨_,rfl,_,2,rfl,zu,T.zae,by decide,zf1 nc rfl,fun t l H'' g'' ht hl'=>⟨_,rfl,q1 _ e t l H'' ((g.trans (Same.new he _)).trans g'') ht hl'⟩⟩⟩
  ·exact fun H' g=>⟨a.wW,rfl,zb4 T.xb T.zcu,fun e' he=>⟨_,rfl,_,3,rfl,zu,T.zcu,by decide,zf1 nc rfl,fun t l H'' g'' ht hl'=>⟨_,rfl,q1 _ e t l H'' ((g.trans (Same.new he _)).trans g'') ht hl'⟩⟩⟩
  ·exact fun H' g=>⟨a.xK,rfl,zb4 T.xb T.V5,fun e' he=>⟨_,rfl,_,4,rfl,zu,T.V5,by decide,zf1 nc rfl,fun t l H'' g'' ht hl'=>⟨_,rfl,q1 _ e t l H'' ((g.trans (Same.new he _)).trans g'') ht hl'⟩⟩⟩
  ·exact fun H' g=>⟨a.yj,rfl,zb4 T.xb T.Rq,fun e' he=>⟨_,rfl,_,5,rfl,zu,T.Rq,by decide,zf1 nc rfl,fun t l H'' g'' ht hl'=>⟨_,rfl,q1 _ e t l H'' ((g.trans (Same.new he _)).trans g'') ht hl'⟩⟩⟩
  ·exact fun H' g=>⟨a.yR,rfl,zb4 T.xb T.QX,fun e' he=>⟨_,rfl,_,6,rfl,zu,T.QX,by decide,zf1 nc rfl,fun t l H'' g'' ht hl'=>⟨_,rfl,q1 _ e t l H'' ((g.trans (Same.new he _)).trans g'') ht hl'⟩⟩⟩
theorem zhX (T:Txt P w K mg a)
  (yq:zB P w K mg base yd k a.uE a.uF vK Mf):zB P w K mg base yd (k+1) a.QM a.QS VN zeI:=by
 refine T.zaM.F.ok vL (fun vs H Q E h=>?_) (fun cdv A outer s H vs Q E hr h=>?_)
 ·obtain⟨c,n,rfl,_⟩:=h
  rfl
 obtain⟨c,n,rfl,n1,n5,q⟩:=h
 have em:(n:Int)-1=((n-1:Nat):Int):=by omega
 have ep:(n:Int)+1=((n+1:Nat):Int):=by omega
 have H0e:∃H0:Hp,H0=H:=⟨H,rfl⟩
 obtain⟨H0,eH0⟩:=H0e
 refine zpT ?_
 refine V9 (fun σ H=>∃(far:Int) (f3 f4 f5 f6:Option V),Same H0 H/\(1000001<=far)/\σ=[some (.int c),some (.int (n:Nat)),some (.int far),f3,f4,f5,f6]) (fun t z=>(zf (zN 2 vL.nd (zQ vq zq (zE yq hr T.yD (za (pv 0) (za zq (za (zQ zgT zq zq) zc))))))
   z)) ?_ ?_
 ·rintro u hu σ H ⟨rfl,rfl⟩
  refine⟨_,rfl,_,_,rfl,rfl,⟨by decide,by decide,by decide⟩,c,5,_,rfl,by decide,by decide,by decide,fun r r0 r1=>?_⟩
  refine⟨_,_,rfl,rfl,hu _ _ ⟨_,_,_,_,_,eH0 ▸ Same.refl _,by show(1000001:Int)<=1000001+r;omega,rfl⟩⟩
 refine V9 (fun σ H=>∃(far:Int) (fr:Addr) (f4 f5 f6:Option V),zjs n H0 H far fr <| σ=q40 c n far fr [f4,f5,f6]) (fun t z=>(zf (zN 3 vL.nd (zQ uz (yh (za (yL (za zq (za zq zc))) zc)) (zQ Yy (pv 1) zq)))
   z)) ?_ ?_
 ·rintro u hu σ H ⟨far,f3,f4,f5,f6,g,Z7,rfl⟩
  refine⟨by show 2<=sizeLine;decide,fun t1 ht1=>⟨by show 1<=sizeLine;decide,fun l1 hl1=>?_⟩⟩
  obtain⟨g1,w1⟩:=WL.one ht1 hl1
  generalize upd (upd H t1 _) l1 _=H1 at g1 w1 ⊢
  refine⟨_,rfl,_,_,rfl,rfl,WL.mul w1 em (by omega) fun a2 H2 g2 w2=>?_⟩
  exact hu _ _ ⟨far,a2,_,_,_,(g.trans g1).trans g2,Z7,w2,rfl⟩
 refine V9 (fun σ H=>∃(far:Int) (fr:Addr) (wl:Addr) (ws:List Addr) (f5 f6:Option V),zjs n H0 H far fr <| zeJ (RP wgB) n 4 H wl ws/\σ=q40 c n far fr [some (.ref wl),f5,f6]) (fun t z=>(zf (zN 4 vL.nd (yh (za (zQ Za (yh (za (yL (za (pv 2) (za zq zc))) zc)) (pv 3)) (za (zQ Za (pv 3) (yh (za (yL (za zq (za (RX WT (pv 2)) zc))) zc))) (za (zQ uz (yh (za (yL (za zq (za zq zc))) zc)) (zQ vq (pv 1) zq)) (za (pv 3) zc))))))
   z)) ?_ ?_
 ·rintro u hu σ H ⟨far,fr,f4,f5,f6,g,Z7,wf,rfl⟩
  refine⟨_,rfl,by show 2<=sizeLine;decide,fun t1 ht1=>⟨by show 1<=sizeLine;decide,fun l1 hl1=>?_⟩⟩
  obtain⟨g1,w1⟩:=WL.one ht1 hl1
  generalize upd (upd H t1 _) l1 _=H1 at g1 w1 ⊢
  refine⟨_,rfl,WL.add w1 (wf.mono g1) (by simp<;>omega) fun a2 H2 g2 v1=>?_⟩
  refine⟨_,rfl,_,rfl,_,rfl,by show 2<=sizeLine;decide,fun t3 ht3=>⟨by show 1<=sizeLine;decide,fun l3 hl3=>?_⟩⟩
  obtain⟨g3,w2⟩:=WL.one ht3 hl3
  generalize upd (upd H2 t3 _) l3 _=H3 at g3 w2 ⊢
  refine WL.add (wf.mono ((g1.trans g2).trans g3)) w2 (by simp<;>omega) fun a4 H4 g4 v2=>?_
  refine⟨by show 2<=sizeLine;decide,fun t5 ht5=>⟨by show 1<=sizeLine;decide,fun l5 hl5=>?_⟩⟩
  obtain⟨g5,w3⟩:=WL.one ht5 hl5
  generalize upd (upd H4 t5 _) l5 _=H5 at g5 w3 ⊢
  refine⟨_,rfl,_,_,rfl,rfl,WL.mul w3 ep (by omega) fun a6 H6 g6 v3=>?_⟩
  refine⟨_,rfl,by show 4<=sizeLine;decide,fun lz hz=>?_⟩
  have gz:=Same.new hz (.lst [.ref a2,.ref a4,.ref a6,.ref fr])
  have gg:=((((((g1.trans g2).trans g3).trans g4).trans g5).trans g6).trans gz)
  refine hu _ _ ⟨far,fr,lz,[a2,a4,a6,fr],_,_,g.trans gg,Z7,wf.mono gg,⟨rfl,zu,fun l hl=>?_⟩,rfl⟩
  simp only[List.mem_cons,zv0,or_false] at hl
  rcases hl with rfl | rfl | rfl | rfl
  ·exact⟨_,(v1.mono ((((g3.trans g4).trans g5).trans g6).trans gz)),by simp<;>omega,.inr ⟨(far,0),by simp,zbn (.inl (by omega))⟩⟩
  ·exact⟨_,(v2.mono ((g5.trans g6).trans gz)),by simp<;>omega,.inr ⟨(0,-far),by simp,zbn (.inr (by omega))⟩⟩
  ·exact⟨_,(v3.mono gz),by simp<;>omega,.inl (by simp<;>omega)⟩
  ·exact⟨_,(wf.mono ((((((g1.trans g2).trans g3).trans g4).trans g5).trans g6).trans gz)),by simp<;>omega,.inl (by simp<;>omega)⟩
 refine V9 (fun σ H=>∃(far:Int) (fr:Addr) (wl:Addr) (ws:List Addr) (f5 f6:Option V),zjs n H0 H far fr <| zeJ (RP wgB) n 6 H wl ws/\σ=q40 c n far fr [some (.ref wl),f5,f6]) (fun t z=>(zf (zN 4 vL.nd (zQ Za (pv 4) (yh (za (zQ Za (yh (za (yL (za zq (za (pv 2) zc))) zc)) (pv 3)) (za (zQ Za (pv 3) (yh (za (yL (za (RX WT (pv 2)) (za zq zc))) zc))) zc)))))
   z)) ?_ ?_
 ·rintro u hu σ H ⟨far,fr,wl,ws,f5,f6,g,Z7,wf,⟨wn,wh,wb⟩,rfl⟩
  refine⟨_,rfl,_,rfl,by show 2<=sizeLine;decide,fun t1 ht1=>⟨by show 1<=sizeLine;decide,fun l1 hl1=>?_⟩⟩
  obtain⟨g1,w1⟩:=WL.one ht1 hl1
  generalize upd (upd H t1 _) l1 _=H1 at g1 w1 ⊢
  refine⟨_,rfl,WL.add w1 (wf.mono g1) (by simp<;>omega) fun a2 H2 g2 v1=>?_⟩
  refine⟨_,rfl,_,rfl,_,rfl,by show 2<=sizeLine;decide,fun t3 ht3=>⟨by show 1<=sizeLine;decide,fun l3 hl3=>?_⟩⟩
  obtain⟨g3,w2⟩:=WL.one ht3 hl3
  generalize upd (upd H2 t3 _) l3 _=H3 at g3 w2 ⊢
  refine WL.add (wf.mono ((g1.trans g2).trans g3)) w2 (by simp<;>omega) fun a4 H4 g4 v2=>?_
  refine⟨by show 2<=sizeLine;decide,fun ly hy=>?_⟩
  have gy:=Same.new hy (.lst [.ref a2,.ref a4])
  have ey:upd H4 ly (.lst [.ref a2,.ref a4]) ly=some _:=zu
  generalize upd H4 ly _=Hy at gy ey ⊢
  refine⟨wl,ly,ws.map V.ref,[.ref a2,.ref a4],rfl,rfl,zX.of (gy _ _ ((((g1.trans g2).trans g3).trans g4) _ _ wh)),zX.of ey,by rw[zvA,wn];show 6<=sizeLine;decide,fun lz hz=>?_⟩
  have gz:=gy.trans (Same.new hz (.lst (ws.map V.ref++[.ref a2,.ref a4])))
  have gg:=((((g1.trans g2).trans g3).trans g4).trans gz)
  refine hu _ _ ⟨far,fr,lz,ws++[a2,a4],_,_,g.trans gg,Z7,wf.mono gg,⟨by rw[zvI,wn];rfl,by rw[zu,zvO];rfl,fun l hl=>?_⟩,rfl⟩
  rcases List.mem_append.mp hl with hl | hl
  ·exact(wb l hl).mono ((((g1.trans g2).trans g3).trans g4).trans gz)
  simp only[List.mem_cons,zv0,or_false] at hl
  rcases hl with rfl | rfl
  ·exact⟨_,(v1.mono ((g3.trans g4).trans gz)),by simp<;>omega,.inr ⟨(0,far),by simp,zbn (.inr (by omega))⟩⟩
  ·exact⟨_,(v2.mono gz),by simp<;>omega,.inr ⟨(-far,0),by simp,zbn (.inl (by omega))⟩⟩
 refine V9 (fun σ H=>∃(far:Int) (fr:Addr) (wl:Addr) (ws:List Addr) (sl:Addr) (ss:List Addr) (f6:Option V),zjs n H0 H far fr <| zeJ (RP wgB) n 6 H wl ws/\zeJ (RP shB) n 3 H sl ss/\σ=q40 c n far fr [some (.ref wl),some (.ref sl),f6]) (fun t z=>(zf (zN 5 vL.nd (yh (za (zQ Za (yh (za (yL (za zq (za zq zc))) zc)) (zQ uz (yh (za (yL (za zq (za zq zc))) zc)) (zQ Yy (pv 1) zq))) (za (zQ Za (zQ uz (yh (za (yL (za zq (za zq zc))) zc)) (zQ Yy (pv 1) zq)) (yh (za (yL (za zq (za zq zc))) zc))) (za (zQ uz (yh (za (yL (za zq (za zq zc))) zc)) (pv 1)) zc)))))
   z)) ?_ ?_
 ·rintro u hu σ H ⟨far,fr,wl,ws,f5,f6,g,Z7,wf,⟨wn,wh,wb⟩,rfl⟩
  refine⟨by show 2<=sizeLine;decide,fun t1 ht1=>⟨by show 1<=sizeLine;decide,fun l1 hl1=>?_⟩⟩
  obtain⟨g1,w1⟩:=WL.one ht1 hl1
  generalize upd (upd H t1 _) l1 _=H1 at g1 w1 ⊢
  refine⟨by show 2<=sizeLine;decide,fun t2 ht2=>⟨by show 1<=sizeLine;decide,fun l2 hl2=>?_⟩⟩
  obtain⟨g2,w2⟩:=WL.one ht2 hl2
  generalize upd (upd H1 t2 _) l2 _=H2 at g2 w2 ⊢
  refine⟨_,rfl,_,_,rfl,rfl,WL.mul w2 em (by omega) fun a3 H3 g3 u2=>?_⟩
  refine WL.add (w1.mono (g2.trans g3)) u2 (by simp<;>omega) fun a4 H4 g4 v1=>?_
  refine⟨by show 2<=sizeLine;decide,fun t5 ht5=>⟨by show 1<=sizeLine;decide,fun l5 hl5=>?_⟩⟩
  obtain⟨g5,w3⟩:=WL.one ht5 hl5
  generalize upd (upd H4 t5 _) l5 _=H5 at g5 w3 ⊢
  refine⟨_,rfl,_,_,rfl,rfl,WL.mul w3 em (by omega) fun a6 H6 g6 u3=>?_⟩
  refine⟨by show 2<=sizeLine;decide,fun t7 ht7=>⟨by show 1<=sizeLine;decide,fun l7 hl7=>?_⟩⟩
  obtain⟨g7,w4⟩:=WL.one ht7 hl7
  generalize upd (upd H6 t7 _) l7 _=H7 at g7 w4 ⊢
  refine WL.add (u3.mono g7) w4 (by simp<;>omega) fun a8 H8 g8 v2=>?_
  refine⟨by show 2<=sizeLine;decide,fun t9 ht9=>⟨by show 1<=sizeLine;decide,fun l9 hl9=>?_⟩⟩
  obtain⟨g9,w5⟩:=WL.one ht9 hl9
  generalize upd (upd H8 t9 _) l9 _=H9 at g9 w5 ⊢
  refine⟨_,rfl,WL.mul w5 rfl (by omega) fun a10 H10 g10 v3=>?_⟩
  refine⟨by show 3<=sizeLine;decide,fun lz hz=>?_⟩
  have gz:=Same.new hz (.lst [.ref a4,.ref a8,.ref a10])
  have gg:=((((((((((g1.trans g2).trans g3).trans g4).trans g5).trans g6).trans g7).trans g8).trans g9).trans g10).trans gz)
  refine hu _ _ ⟨far,fr,wl,ws,lz,[a4,a8,a10],_,g.trans gg,Z7,wf.mono gg,⟨wn,gg _ _ wh,fun l hl=>(wb l hl).mono gg⟩,⟨rfl,zu,fun l hl=>?_⟩,rfl⟩
  simp only[List.mem_cons,zv0,or_false] at hl
  rcases hl with rfl | rfl | rfl
  ·exact⟨_,(v1.mono ((((((g5.trans g6).trans g7).trans g8).trans g9).trans g10).trans gz)),by simp<;>omega,.inr ⟨(2,1),by simp,by decide⟩⟩
  ·exact⟨_,(v2.mono ((g9.trans g10).trans gz)),by simp<;>omega,.inr ⟨(0,0),by simp,by decide⟩⟩
  ·exact⟨_,(v3.mono gz),by simp<;>omega,.inr ⟨(1,1001),List.mem_replicate.mpr ⟨by omega,rfl⟩,by decide⟩⟩
 refine V9 (fun σ H=>∃(far:Int) (fr:Addr) (wl:Addr) (ws:List Addr) (sl:Addr) (ss:List Addr) (f6:Option V),zjs n H0 H far fr <| zeJ (RP wgB) n 6 H wl ws/\zeJ (RP shB) n 6 H sl ss/\σ=q40 c n far fr [some (.ref wl),some (.ref sl),f6]) (fun t z=>(zf (zN 5 vL.nd (zQ Za (pv 5) (yh (za (zQ uz (yh (za (yL (za (RX WT zq) (za zq zc))) zc)) (pv 1)) (za (zQ uz (yh (za (yL (za zq (za zq zc))) zc)) (zQ vq (pv 1) zq)) (za (zQ uz (yh (za (yL (za zq (za zq zc))) zc)) (zQ Yy (pv 1) zq)) zc))))))
   z)) ?_ ?_
 ·rintro u hu σ H ⟨far,fr,wl,ws,sl,ss,f6,g,Z7,wf,⟨wn,wh,wb⟩,⟨sn,sh,sb⟩,rfl⟩
  refine⟨_,rfl,_,rfl,by show 2<=sizeLine;decide,fun t1 ht1=>⟨by show 1<=sizeLine;decide,fun l1 hl1=>?_⟩⟩
  obtain⟨g1,w1⟩:=WL.one ht1 hl1
  generalize upd (upd H t1 _) l1 _=H1 at g1 w1 ⊢
  refine⟨_,rfl,WL.mul w1 rfl (by omega) fun a2 H2 g2 v1=>?_⟩
  refine⟨by show 2<=sizeLine;decide,fun t3 ht3=>⟨by show 1<=sizeLine;decide,fun l3 hl3=>?_⟩⟩
  obtain⟨g3,w2⟩:=WL.one ht3 hl3
  generalize upd (upd H2 t3 _) l3 _=H3 at g3 w2 ⊢
  refine⟨_,rfl,_,_,rfl,rfl,WL.mul w2 ep (by omega) fun a4 H4 g4 v2=>?_⟩
  refine⟨by show 2<=sizeLine;decide,fun t5 ht5=>⟨by show 1<=sizeLine;decide,fun l5 hl5=>?_⟩⟩
  obtain⟨g5,w3⟩:=WL.one ht5 hl5
  generalize upd (upd H4 t5 _) l5 _=H5 at g5 w3 ⊢
  refine⟨_,rfl,_,_,rfl,rfl,WL.mul w3 em (by omega) fun a6 H6 g6 v3=>?_⟩
  refine⟨by show 3<=sizeLine;decide,fun ly hy=>?_⟩
  have gy:=Same.new hy (.lst [.ref a2,.ref a4,.ref a6])
  have ey:upd H6 ly (.lst [.ref a2,.ref a4,.ref a6]) ly=some _:=zu
  generalize upd H6 ly _=Hy at gy ey ⊢
  refine⟨sl,ly,ss.map V.ref,[.ref a2,.ref a4,.ref a6],rfl,rfl,zX.of (gy _ _ ((((((g1.trans g2).trans g3).trans g4).trans g5).trans g6) _ _ sh)),zX.of ey,by rw[zvA,sn];show 6<=sizeLine;decide,fun lz hz=>?_⟩
  have gz:=gy.trans (Same.new hz (.lst (ss.map V.ref++[.ref a2,.ref a4,.ref a6])))
  have gg:=((((((g1.trans g2).trans g3).trans g4).trans g5).trans g6).trans gz)
  refine hu _ _ ⟨far,fr,wl,ws,lz,ss++[a2,a4,a6],_,g.trans gg,Z7,wf.mono gg,⟨wn,gg _ _ wh,fun l hl=>(wb l hl).mono gg⟩,⟨by rw[zvI,sn];rfl,by rw[zu,zvO];rfl,fun l hl=>?_⟩,rfl⟩
  rcases List.mem_append.mp hl with hl | hl
  ·exact(sb l hl).mono ((((((g1.trans g2).trans g3).trans g4).trans g5).trans g6).trans gz)
  simp only[List.mem_cons,zv0,or_false] at hl
  rcases hl with rfl | rfl | rfl
  ·exact⟨_,(v1.mono ((((g3.trans g4).trans g5).trans g6).trans gz)),by simp<;>omega,.inr ⟨(-1,2),List.mem_replicate.mpr ⟨by omega,rfl⟩,by decide⟩⟩
  ·exact⟨_,(v2.mono ((g5.trans g6).trans gz)),by simp<;>omega,.inl (by simp<;>omega)⟩
  ·exact⟨_,(v3.mono gz),by simp<;>omega,.inl (by simp<;>omega)⟩
 refine V9 (fun σ H=>∃(far:Int) (fr:Addr) (wl:Addr) (ws:List Addr) (sl:Addr) (ss:List Addr) (rl:Addr) (rs:List Addr),zjs n H0 H far fr <| zeJ (RP wgB) n 6 H wl ws/\zeJ (RP shB) n 6 H sl ss/\zeJ zlb n 4 H rl rs/\σ=q40 c n far fr [some (.ref wl),some (.ref sl),some (.ref rl)]) (fun t z=>(zf (zN 6 vL.nd (yh (za (zQ uz (yh (za zq zc)) (zQ vq (pv 1) zq)) (za (zQ uz (yh (za zq zc)) (zQ Yy (pv 1) zq)) (za (zQ Za (zQ uz (yh (za zq zc)) (zQ Yy (pv 1) zq)) (yh (za zq zc))) (za (zQ Za (yh (za (RX WT zq) zc)) (zQ uz (yh (za zq zc)) (zQ Yy (pv 1) zq))) zc))))))
   z)) ?_ ?_
 ·rintro u hu σ H ⟨far,fr,wl,ws,sl,ss,f6,g,Z7,wf,⟨wn,wh,wb⟩,⟨sn,sh,sb⟩,rfl⟩
  refine⟨by show 1<=sizeLine;decide,fun l1 hl1=>?_⟩
  obtain⟨g1,w1⟩:=IL.one hl1
  generalize upd H l1 _=H1 at g1 w1 ⊢
  refine⟨_,rfl,_,_,rfl,rfl,IL.mul w1 ep (by omega) fun a2 H2 g2 v1=>?_⟩
  refine⟨by show 1<=sizeLine;decide,fun l3 hl3=>?_⟩
  obtain⟨g3,w2⟩:=IL.one hl3
  generalize upd H2 l3 _=H3 at g3 w2 ⊢
  refine⟨_,rfl,_,_,rfl,rfl,IL.mul w2 em (by omega) fun a4 H4 g4 v2=>?_⟩
  refine⟨by show 1<=sizeLine;decide,fun l5 hl5=>?_⟩
  obtain⟨g5,w3⟩:=IL.one hl5
  generalize upd H4 l5 _=H5 at g5 w3 ⊢
  refine⟨_,rfl,_,_,rfl,rfl,IL.mul w3 em (by omega) fun a6 H6 g6 u3=>?_⟩
  refine⟨by show 1<=sizeLine;decide,fun l7 hl7=>?_⟩
  obtain⟨g7,w4⟩:=IL.one hl7
  generalize upd H6 l7 _=H7 at g7 w4 ⊢
  refine IL.add (u3.mono g7) w4 (by simp<;>omega) fun a8 H8 g8 v3=>?_
  refine⟨_,rfl,by show 1<=sizeLine;decide,fun l9 hl9=>?_⟩
  obtain⟨g9,w5⟩:=IL.one hl9
  generalize upd H8 l9 _=H9 at g9 w5 ⊢
  refine⟨by show 1<=sizeLine;decide,fun l10 zsx=>?_⟩
  obtain⟨g10,w6⟩:=IL.one zsx
  generalize upd H9 l10 _=H10 at g10 w6 ⊢
  refine⟨_,rfl,_,_,rfl,rfl,IL.mul w6 em (by omega) fun a11 H11 g11 u6=>?_⟩
  refine IL.add (w5.mono (g10.trans g11)) u6 (by simp<;>omega) fun a12 H12 g12 v4=>?_
  refine⟨by show 4<=sizeLine;decide,fun lz hz=>?_⟩
  have gz:=Same.new hz (.lst [.ref a2,.ref a4,.ref a8,.ref a12])
  have gg:=((((((((((((g1.trans g2).trans g3).trans g4).trans g5).trans g6).trans g7).trans g8).trans g9).trans g10).trans g11).trans g12).trans gz)
  refine hu _ _ ⟨far,fr,wl,ws,sl,ss,lz,[a2,a4,a8,a12],g.trans gg,Z7,wf.mono gg,⟨wn,gg _ _ wh,fun l hl=>(wb l hl).mono gg⟩,⟨sn,gg _ _ sh,fun l hl=>(sb l hl).mono gg⟩,⟨rfl,zu,fun l hl=>?_⟩,rfl⟩
  simp only[List.mem_cons,zv0,or_false] at hl
  rcases hl with rfl | rfl | rfl | rfl
  ·exact⟨_,(v1.mono ((((((((((g3.trans g4).trans g5).trans g6).trans g7).trans g8).trans g9).trans g10).trans g11).trans g12).trans gz)),by simp<;>omega,zfY (by simp<;>omega)⟩
  ·exact⟨_,(v2.mono ((((((((g5.trans g6).trans g7).trans g8).trans g9).trans g10).trans g11).trans g12).trans gz)),by simp<;>omega,zfY (by simp<;>omega)⟩
  ·exact⟨_,(v3.mono ((((g9.trans g10).trans g11).trans g12).trans gz)),by simp<;>omega,zfZ (x:=2) (by simp) (by decide)⟩
  ·exact⟨_,(v4.mono gz),by simp<;>omega,zfZ (x:=-1) (by simp) (by decide)⟩
 refine⟨_,(zx (zR (yL (za (yg yC (pv 6) (zE yq hr T.yD (za (pv 0) (za zq (za zq zc)))) (fun _ _=>rfl)) (za (yg yC (pv 4) (zE yq hr T.yD (za (pv 0) (za zq (za zq zc)))) (fun _ _=>rfl)) (za (yg yC (pv 5) (zE yq hr T.yD (za (pv 0) (za zq (za zq zc)))) (fun _ _=>rfl)) zc)))))),?_⟩
 rintro σ H ⟨far,fr,wl,ws,sl,ss,rl,rs,g,Z7,wf,⟨wn,wh,wb⟩,⟨sn,sh,sb⟩,⟨rn,rh,rb⟩,rfl⟩
 have pk:∀{ls:List Addr} {r:Int} {m:Nat},ls.length=m->0<=r->r<m->∃l∈ls,atI (ls.map V.ref) r=some (.ref l):=fun {ls r m} e r0 r1=>by
  obtain⟨j,v,hv,hj⟩:=Pa (xs:=ls.map V.ref) (i:=r) (by omega) (by rw[zvA];omega)
  obtain⟨x,hx,rfl⟩:=List.mem_map.mp (zvF hj)
  exact⟨x,hx,hv⟩
 refine⟨_,rfl,_,rfl,c,6,4,rfl,by decide,by decide,by decide,fun r r0 r1=>?_⟩
 obtain⟨l1,m1,x1⟩:=pk rn r0 r1
 refine⟨rl,_,_,_,rfl,rfl,zX.of rh,x1,?_⟩
 refine⟨_,rfl,_,rfl,c,7,6,rfl,by decide,by decide,by decide,fun r' r0' r1'=>?_⟩
 obtain⟨l2,m2,x2⟩:=pk wn r0' r1'
 refine⟨wl,_,_,_,rfl,rfl,zX.of wh,x2,?_⟩
 refine⟨_,rfl,_,rfl,c,8,6,rfl,by decide,by decide,by decide,fun r'' r0'' r1''=>?_⟩
 obtain⟨l3,m3,x3⟩:=pk sn r0'' r1''
 refine⟨sl,_,_,_,rfl,rfl,zX.of sh,x3,?_⟩
 refine⟨by show 3<=sizeLine;decide,fun tz hz=>?_⟩
 have gz:=Same.new hz (.tup [.ref l1,.ref l2,.ref l3])
 obtain⟨n1',a1,b1,c1⟩:=(rb l1 m1).mono gz
 obtain⟨n2',a2,b2,c2⟩:=(wb l2 m2).mono gz
 obtain⟨n3',a3,b3,c3⟩:=(sb l3 m3).mono gz
 exact q tz l1 l2 l3 n1' n2' n3' _ (eH0 ▸ g.trans gz) zu a1 b1 c1 a2 b2 c2 a3 b3 c3
theorem ok_law (T:Txt P w K mg a)
  (xY:zB P w K mg base yd (k+1) a.wL a.wM xX (zbl K))
  (yq:zB P w K mg base yd (k+1) a.uE a.uF vK Mf)
  (zdg:zB P w K mg base yd (k+1) a.Uh a.Ui Xd zej)
  (zan:zB P w K mg base yd (k+1) a.YT a.YW Zh (Mh K))
  (zgE:zB P w K mg base yd k a.VP a.QF VG (Mj (yp a.zj) K a.zj))
  (ze9:zB P w K mg base yd (k+1) a.S8 a.S9 X7 (Qe (yp a.zj)))
  (zaP:zB P w K mg base yd (k+1) a.VR a.V0 Xx (T8 (yp a.zj)))
  (zgF:zB P w K mg base yd (k+1) a.QM a.QS VN zeI)
  (zgG:zB P w K mg base yd (k+1) a.QK a.QL VL (ziG a.zj K))
  (zhY:zB P w K mg base yd (k+1) a.Rf a.Rg Ve (ziE K)) :
  zB P w K mg base yd (k+2) a.a_law a.d_law p_law (zin K):=by
 refine T.f_law.F.ok sc_law (fun vs H Q E h=>?_) (fun cdv A outer s H vs Q E hr h=>?_)
 ·obtain⟨a,ns,rfl,_⟩:=h
  rfl
 obtain⟨sc,ns,rfl,hS,h63,q⟩:=h
 have L:=z9 a.zj
 refine zpT ?_
 refine V9 (fun σ H=>Mr fun ol bk os rs F=>∃f5 f6 f7 f8 f9 f10 f11 Vs f13 f14 f15 Vt Vu,B40 a.zj H bk os rs F <| (zX K H sc (ns.map V.int))/\σ=s40 sc ol os bk ((1:Nat):Int) [f5,f6,f7,f8,f9,f10,f11,Vs,f13,f14,f15,Vt,Vu]) (fun t z=>(zf (zN 1 sc_law.nd (zE zdg hr T.NT (za (zE xY hr T.xu (za (pv 0) (za zq zc))) (za zq zc))))
   (zf (zN 2 sc_law.nd (zG zM rfl T.xr yw (za (pv 1) zc)))
   (zf (zN 3 sc_law.nd (zlK T.zmT zgE hr rfl T.zoH T.zaN.b .nil zid (za (pv 1) zc)))
   (zf (zN 4 sc_law.nd (yW (pv 3) T.zY T.Je ze9 hr (za (yL (za xH (za (zE zan hr T.Tt (za (pv 0) (za zq (za (zQ vq zq (zQ Yz (zE xY hr T.xu (za (pv 0) (za zq zc))) zq)) (za (pv 1) zc))))) (za (yL (za xH zc)) zc)))) zc)))
   z))))) ?_ ?_
 ·rintro u hu σ H ⟨rfl,rfl⟩
  refine⟨_,rfl,sc,ns,0,rfl,hS,W3 ns 0,5,rfl,by decide,by decide,fun ol H0 os g0 zlq ho o5=>?_⟩
  have o8:=ho.le
  refine⟨_,rfl,ol,_,rfl,.inl (zX.of zlq),?_⟩
  rw[zvA]
  refine⟨_,rfl,fun bk dx hbk hdx hne=>⟨bk,dx,ol,os,rfl,zu,Ne.symm hne,?_,ho,fun H3 F0 keep hB hF=>⟨rfl,?_⟩⟩⟩
  ·refine zX.of ?_
   rw[zJ (zF zlq hbk),zJ (zF zlq hdx)]
   exact zlq
  have g13:Same H0 H3:=fun x o e=>keep x o (by rw[zJ (zF e hbk),zJ (zF e hdx)];exact e) (zF e hbk)
  have hF1:∀x,F0 x->H0 x=none:=fun x hx=>by
   rcases hF x hx with z | z | z
   ·rw[z];exact hbk
   ·rw[z];exact hdx
   ·by_cases e1:x=bk
    ·rw[e1] at z;rw[zu] at z;cases z
    ·by_cases e2:x=dx
     ·rw[e2,zJ hne,zu] at z;cases z
     ·rw[zJ e1,zJ e2] at z;exact z
  have L0:Led (yp a.zj) H0 bk os 2 H3 [none,none] F0:=⟨g13,hF1,hB,zvQ _⟩
  clear keep hF hF1
  have hS3:=(g0.trans g13).seq hS
  have m0:0<=W3 ns 1%7:=zwf _ (by decide)
  have m1:W3 ns 1%7<7:=zwc _ (by decide)
  have em:(1:Int)+W3 ns 1%7=(((1+W3 ns 1%7).toNat:Nat):Int):=by omega
  have zoS:∀{s:Sn} {m:Nat},s.depth<=m->m<=7->s.count+2<=200:=fun {s m} h1 h2=>by
   have h3:=Sn.zfR s
   have h4:2^s.depth<=2^7:=zv5 (by decide) (by omega)
   have h5:2^7=128:=rfl
   omega
  obtain⟨dx0,fs,M8,hm⟩:=L.ins L0.bk
  refine⟨_,rfl,bk,dx0,fs,rfl,M8,hm _ (by decide +kernel),_,rfl,_,rfl,sc,ns,1,rfl,hS3,?_⟩
  refine⟨W3 ns 1,7,rfl,rfl,(show(0:Int)<7 by decide),1,_,rfl,rfl,_,rfl,sc,ol,ns,2,(1+W3 ns 1%7).toNat,os,?_,hS3,zX.of (g13 _ _ zlq),ho.pos,o8,by omega,by omega,by decide,fun p1 H4 s1 g4 is1 in1 d1=>?_⟩
  ·show [V.ref sc,V.int 2,V.int (1+W3 ns 1%7),V.ref ol]=_
   rw[em];rfl
  refine⟨by show 1<=sizeLine;decide,fun t1 ht1=>?_⟩
  have e5:=Same.new ht1 (.tup [.str "yes"])
  have y5:upd H4 t1 (.tup [.str "yes"]) t1=some _:=zu
  generalize upd H4 t1 _=H5 at e5 y5 ⊢
  refine⟨by show 3<=sizeLine;decide,fun t2 ht2=>?_⟩
  have e6:=Same.new ht2 (.tup [.str "or", .ref p1,.ref t1])
  have y6:upd H5 t2 (.tup [.str "or", .ref p1,.ref t1]) t2=some _:=zu
  generalize upd H5 t2 _=H6 at e6 y6 ⊢
  have g46:=(g4.trans e5).trans e6
  have is6:P0 H6 (.b2 1 s1 (.c0 true)) t2:=⟨p1,t1,y6,is1.mono (xO.of (e5.trans e6)),e6 _ _ y5⟩
  have L6:=L0.new L g46
  refine⟨bk,t2,os,[none,none],F0,.b2 1 s1 (.c0 true),rfl,L6.bk,by decide,is6,⟨in1,trivial⟩,?_,?_,fun k1 rs1 F1 Hs1 aw tu hB1 nf gr hk hy hbd=>?_⟩
  ·show 1+(s1.count+1)<=200
   have:=zoS d1 (by omega)
   omega
  ·show 1+max s1.depth 1<=24
   omega
  have L1:=L6.grow aw hB1 nf hbd
  have e1:k1=1:=zZ.Xu (L.bk L1.bk) (k1+1) k1 1 ⟨Nat.le_succ _,Nat.succ_le_succ (zvW _)⟩ hk (zZ.len2 (L.bk L1.bk)) fun r=>by
   rw[zZ.Y6 (L.bk L1.bk),hy]
   exact Bool.or_true _
  subst e1
  exact hu _ _ ⟨ol,bk,os,rs1,F1,_,_,_,_,_,_,_,_,_,_,_,_,_,L1.bk,o5,L1.len,L1.same.seq ((g0).seq hS),rfl⟩
 refine V9 (fun σ H=>Mr fun ol bk os rs F=>∃(c:Int) (f6 f7 f8 f9 f10 f11 Vs f13 f14 f15 Vt Vu:Option V),B40 a.zj H bk os rs F <| (zX K H sc (ns.map V.int))/\σ=s40 sc ol os bk ((1:Nat):Int) [some (.int c),f6,f7,f8,f9,f10,f11,Vs,f13,f14,f15,Vt,Vu]) (fun t z=>(zf (Z9 (i:=5) sc_law.nd rfl (Or.inr rfl) (zE xY hr T.xu (za (pv 0) (za zq zc))))
   z)) ?_ ?_
 ·rintro u hu σ H ⟨ol,bk,os,rs,F,f5,f6,f7,f8,f9,f10,f11,Vs,f13,f14,f15,Vt,Vu,hB,n5,Ld,hS,rfl⟩
  refine⟨_,rfl,sc,ns,10,rfl,hS,hu _ _ ⟨ol,bk,os,rs,F,_,_,_,_,_,_,_,_,_,_,_,_,_,hB,n5,Ld,hS,rfl⟩⟩
 refine V9 (fun σ H=>Mr fun ol bk os rs F=>J5 fun c bl z0 z1 z2 z3 z4=>∃f7 f8 f9 f10 f11 Vs f13 f14 f15 Vt Vu,B40 a.zj H bk os rs F <| (zX K H sc (ns.map V.int))/\L40 H bl z0 z1 z2 z3 z4/\σ=s40 sc ol os bk ((1:Nat):Int) [some (.int c),some (.ref bl),f7,f8,f9,f10,f11,Vs,f13,f14,f15,Vt,Vu]) (fun t z=>(zf (zbB (tt:=Jw) (i:=6) sc_law.nd rfl (Or.inl rfl) (.inl rfl) (uZ:=zA S_law) (js:=[5]) rfl (by show Z6 _ _ "k" ["cell"];exact lco (by decide +kernel)) rfl (Wk rfl T.Wi (za zq zc)) (by show ∀j∈([5]:List Nat),j<18;decide) (fun cl C s₂ H₂ fp pins s' σ' H' Q I h=>wpAny_pure ⟨H',I,h⟩) (fun cl C s₂ H₂ fp=>(wH xG (zE yq hr T.yD (za (pv 1) (za (pv 0) (za zq zc)))) zq (zU _))) rfl)
   z)) ?_ ?_
 ·rintro u hu σ H ⟨ol,bk,os,rs,F,c,f6,f7,f8,f9,f10,f11,Vs,f13,f14,f15,Vt,Vu,hB,n5,Ld,hS,rfl⟩
  refine⟨5,rfl,by decide,by decide,?_⟩
  refine zmC (n:=5) (fun i ys H'=>Same H H'/\∃zs:List Bool,ys=zs.map V.bl/\zs.length=i) ⟨Same.refl _,[],rfl,rfl⟩ (by decide) ?_ ?_ ?_
  ·rintro i ys H' _ ⟨_,zs,rfl,e⟩
   rw[zvA,e];exact zvQ _
  ·rintro i ys H' Q0 hi ⟨g,zs,rfl,e⟩ hn
   refine⟨_,rfl,_,rfl,c,0+i,2,?_,by omega,by decide,by decide,fun r r0 r1=>⟨rfl,hn _ _ ⟨g,zs++[decide (V.int r=V.int 1)],by rw[zvO];rfl,by rw[zvI,e];rfl⟩⟩⟩
   show [V.int c,V.int ((0:Int)+(i:Int)),V.int 2]=_
   rw[Int.zero_add,Nat.zero_add]
  ·rintro ys H' p ⟨g,zs,rfl,e⟩ hp
   match zs,e with
   | [z0,z1,z2,z3,z4],_ =>
   have g2:=g.trans (Same.new hp (.lst [.bl z0,.bl z1,.bl z2,.bl z3,.bl z4]))
   exact hu _ _ ⟨ol,bk,os,rs,F,c,p,z0,z1,z2,z3,z4,_,_,_,_,_,_,_,_,_,_,_,L.same hB (g2),n5,Ld,g2.seq hS,zu,rfl⟩
 refine V9 (fun σ H=>Mr fun ol bk os rs F=>J5 fun c bl z0 z1 z2 z3 z4=>∃f8 f9 f10 f11 Vs f13 f14 f15 Vt Vu,B40 a.zj H bk os rs F <| (zX K H sc (ns.map V.int))/\L40 H bl z0 z1 z2 z3 z4/\σ=s40 sc ol os bk ((1:Nat):Int) (t40 c bl rs [f8,f9,f10,f11,Vs,f13,f14,f15,Vt,Vu])) (fun t z=>(zf (zN 7 sc_law.nd (Wr (pv 3) T.zY T.QV zaP hr))
   z)) ?_ ?_
 ·rintro u hu σ H ⟨ol,bk,os,rs,F,c,bl,z0,z1,z2,z3,z4,f7,f8,f9,f10,f11,Vs,f13,f14,f15,Vt,Vu,hB,n5,Ld,hS,Vo,rfl⟩
  obtain⟨dx0,fs,M8,hm0⟩:=L.ins hB
  refine⟨_,rfl,bk,dx0,fs,rfl,M8,hm0 _ (by decide +kernel),bk,os,rs,F,rfl,hB,fun H2 g2=>hu _ _ ⟨ol,bk,os,rs,F,c,bl,z0,z1,z2,z3,z4,_,_,_,_,_,_,_,_,_,_,L.same hB (g2),n5,Ld,g2.seq hS,g2 _ _ Vo,rfl⟩⟩
 refine V9 (fun σ H=>Mr fun ol bk os rs F=>J5 fun c bl z0 z1 z2 z3 z4=>zb9 fun rl wl hl=>∃f8 f9 f10 f11 Vs Vt Vu,B40 a.zj H bk os rs F <| (zX K H sc (ns.map V.int))/\L40 H bl z0 z1 z2 z3 z4/\(IL H rl (List.replicate os.length 0))/\W40 H wl os/\H40 H hl os/\σ=s40 sc ol os bk ((1:Nat):Int) (t40 c bl rs (f8::f9::f10::f11::Vs::(v40 rl wl hl [Vt,Vu])))) (fun t z=>(zf (zmO (i:=13) (j:=14) (l:=15) rfl sc_law.nd rfl rfl rfl (by decide) (by decide) (by decide) rfl rfl rfl (za (zQ uz (yh (za zq zc)) (pv 2)) (za (zQ uz (yh (za (yL (za zq (za (RX WT zq) zc))) zc)) (pv 2)) (za (zQ uz (yh (za (yL (za zq (za zq zc))) zc)) (pv 2)) zc))) rfl)
   z)) ?_ ?_
 ·rintro u hu σ H ⟨ol,bk,os,rs,F,c,bl,z0,z1,z2,z3,z4,f8,f9,f10,f11,Vs,f13,f14,f15,Vt,Vu,hB,n5,Ld,hS,Vo,rfl⟩
  refine⟨by show 1<=sizeLine;decide,fun l1 hl1=>?_⟩
  obtain⟨g1,w1⟩:=IL.one hl1
  generalize upd H l1 _=H1 at g1 w1 ⊢
  refine⟨_,rfl,IL.mul w1 rfl (by omega) fun a1 H2 g2 v1=>?_⟩
  refine⟨_,rfl,by show 2<=sizeLine;decide,fun t2 ht2=>⟨by show 1<=sizeLine;decide,fun l2 hl2=>?_⟩⟩
  obtain⟨g3,w3⟩:=WL.one ht2 hl2
  generalize upd (upd H2 t2 _) l2 _=H3 at g3 w3 ⊢
  refine⟨_,rfl,WL.mul w3 rfl (by omega) fun a2 H4 g4 v2=>?_⟩
  refine⟨by show 2<=sizeLine;decide,fun t3 ht3=>⟨by show 1<=sizeLine;decide,fun l3 hl3=>?_⟩⟩
  obtain⟨g5,w5⟩:=WL.one ht3 hl3
  generalize upd (upd H4 t3 _) l3 _=H5 at g5 w5 ⊢
  refine⟨_,rfl,WL.mul w5 rfl (by omega) fun a3 H6 g6 v3=>?_⟩
  have g7:=Same.refl H6
  have gg:=((((((g1.trans g2).trans g3).trans g4).trans g5).trans g6).trans g7)
  refine⟨_,_,_,rfl,hu _ _ ⟨ol,bk,os,rs,F,c,bl,z0,z1,z2,z3,z4,a1,a2,a3,_,_,_,_,_,_,_,L.same hB (gg),n5,Ld,gg.seq hS,gg _ _ Vo,v1.mono ((((g3.trans g4).trans g5).trans g6).trans g7),v2.mono ((g5.trans g6).trans g7),v3.mono g7,rfl⟩⟩
 refine V9 (fun σ H=>Mr fun ol bk os rs F=>J5 fun c bl z0 z1 z2 z3 z4=>zb9 fun rl wl hl=>∃f9 f10 f11 Vs Vt Vu,B40 a.zj H bk os rs F <| (zX K H sc (ns.map V.int))/\L40 H bl z0 z1 z2 z3 z4/\(IL H rl (List.replicate os.length 0))/\W40 H wl os/\H40 H hl os/\σ=s40 sc ol os bk ((1:Nat):Int) (t40 c bl rs (some (.int ((0:Nat):Int))::f9::f10::f11::Vs::(v40 rl wl hl [Vt,Vu])))) (fun t z=>(zf (zN 8 sc_law.nd zq)
   z)) ?_ ?_
 ·rintro u hu σ H ⟨ol,bk,os,rs,F,c,bl,z0,z1,z2,z3,z4,rl,wl,hl,f8,f9,f10,f11,Vs,Vt,Vu,hB,n5,Ld,hS,Vo,hrl,hwl,hhl,rfl⟩
  exact hu _ _ ⟨ol,bk,os,rs,F,c,bl,z0,z1,z2,z3,z4,rl,wl,hl,_,_,_,_,_,_,hB,n5,Ld,hS,Vo,hrl,hwl,hhl,rfl⟩
 refine V9 (fun σ H=>Mr fun ol bk os rs F=>J5 fun c bl z0 z1 z2 z3 z4=>zb9 fun rl wl hl=>∃(sp rl' wl' hl':Addr) (f10 f11 Vs Vt Vu:Option V),B40 a.zj H bk os rs F <| (zX K H sc (ns.map V.int))/\L40 H bl z0 z1 z2 z3 z4/\(IL H rl (List.replicate os.length 0))/\W40 H wl os/\H40 H hl os/\T40 H sp rl' wl' hl' os/\σ=s40 sc ol os bk ((1:Nat):Int) (t40 c bl rs (some (.int ((0:Nat):Int))::some (.ref sp)::f10::f11::Vs::(v40 rl wl hl [Vt,Vu])))) (fun t z=>(zf (zN 9 sc_law.nd (zE zgF hr T.zaM (za (zE xY hr T.xu (za (pv 0) (za zq zc))) (za (pv 2) zc))))
   z)) ?_ ?_
 ·rintro u hu σ H ⟨ol,bk,os,rs,F,c,bl,z0,z1,z2,z3,z4,rl,wl,hl,f9,f10,f11,Vs,Vt,Vu,hB,n5,Ld,hS,Vo,hrl,hwl,hhl,rfl⟩
  have o1:=(L.ord hB).pos
  refine⟨_,rfl,sc,ns,11,rfl,hS,_,rfl,_,os.length,rfl,o1,n5,fun t rl2 wl2 hl2 us ws1 ws2 H2 g2 ht i1 i2 i3 j1 j2 j3 k1' k2 k3=>hu _ _ ⟨ol,bk,os,rs,F,c,bl,z0,z1,z2,z3,z4,rl,wl,hl,t,rl2,wl2,hl2,_,_,_,_,_,L.same hB (g2),n5,Ld,g2.seq hS,g2 _ _ Vo,hrl.mono g2,hwl.mono g2,hhl.mono g2,⟨ht,⟨_,i1,i2,i3⟩,⟨_,j1,j2,j3⟩,⟨_,k1',k2,k3⟩⟩,rfl⟩⟩
 refine V9 (fun σ H=>Mr fun ol bk os rs F=>J5 fun c bl z0 z1 z2 z3 z4=>zb9 fun rl wl hl=>∃(sp rl' wl' hl':Addr) (far:Int) (f11 Vs Vt Vu:Option V),B40 a.zj H bk os rs F <| L40 H bl z0 z1 z2 z3 z4/\(IL H rl (List.replicate os.length 0))/\W40 H wl os/\H40 H hl os/\T40 H sp rl' wl' hl' os/\(0<=far/\far<10^9)/\σ=s40 sc ol os bk ((1:Nat):Int) (t40 c bl rs (u40 ((0:Nat):Int) sp far (f11::Vs::(v40 rl wl hl [Vt,Vu]))))) (fun t z=>(zf (zN 10 sc_law.nd (zE yq hr T.yD (za (zE xY hr T.xu (za (pv 0) (za zq zc))) (za zq (za (zQ zgT zq zq) zc)))))
   z)) ?_ ?_
 ·rintro u hu σ H ⟨ol,bk,os,rs,F,c,bl,z0,z1,z2,z3,z4,rl,wl,hl,sp,rl',wl',hl',f10,f11,Vs,Vt,Vu,hB,n5,Ld,hS,Vo,hrl,hwl,hhl,⟨hsp,br,bw,bh⟩,rfl⟩
  refine⟨_,rfl,sc,ns,11,rfl,hS,_,_,rfl,rfl,⟨by decide,by decide,by decide⟩,_,9,_,rfl,by decide,by decide,by decide,fun r r0 r1=>hu _ _ ⟨ol,bk,os,rs,F,c,bl,z0,z1,z2,z3,z4,rl,wl,hl,sp,rl',wl',hl',r,_,_,_,_,hB,n5,Ld,Vo,hrl,hwl,hhl,⟨hsp,br,bw,bh⟩,⟨r0,r1⟩,rfl⟩⟩
 refine V9 (fun σ H=>Mr fun ol bk os rs F=>J5 fun c bl z0 z1 z2 z3 z4=>zb9 fun rl wl hl=>∃(sp rl' wl' hl':Addr) (far:Int) (i:Int) (f11 Vs Vt Vu:Option V),B40 a.zj H bk os rs F <| L40 H bl z0 z1 z2 z3 z4/\(IL H rl (List.replicate os.length 0))/\W40 H wl os/\H40 H hl os/\T40 H sp rl' wl' hl' os/\(0<=far/\far<10^9)/\N40 z0 rs.length i ((1:Nat):Int)/\σ=s40 sc ol os bk i (t40 c bl rs (u40 ((0:Nat):Int) sp far (f11::Vs::(v40 rl wl hl [Vt,Vu]))))) (fun t z=>(zf (yr (yM (yg yC (pv 6) zq (fun _ _=>rfl)) (fun _=>rfl)) (zx (zN 4 sc_law.nd (yg yC (yh (za (RX WT zq) (za (pv 7) (za (zQ Yy (RX WT zq) (pv 10)) (za (zQ vq (pv 7) (pv 10)) zc))))) (zE yq hr T.yD (za (pv 5) (za zq (za zq zc)))) (fun _ _=>rfl)))) z8)
   z)) ?_ ?_
 ·rintro u hu σ H ⟨ol,bk,os,rs,F,c,bl,z0,z1,z2,z3,z4,rl,wl,hl,sp,rl',wl',hl',far,f11,Vs,Vt,Vu,hB,n5,Ld,Vo,hrl,hwl,hhl,⟨hsp,br,bw,bh⟩,Z7,rfl⟩
  have p9:(10:Int)^9=1000000000:=by decide
  have sml:∀x:Int,x.natAbs<=2000000000->Small x:=fun x h=>zfX (Nat.lt_of_le_of_lt h (by decide))
  cases z0 with
  | true =>
   refine⟨_,rfl,bl,_,_,.bl true,rfl,rfl,zX.of Vo,rfl,_,rfl,uY ?_⟩
   refine⟨_,rfl,_,rfl,_,rfl,_,rfl,_,_,rfl,rfl,_,rfl,_,rfl,_,_,rfl,rfl,by show 4<=sizeLine;decide,fun l hn0=>?_⟩
   have g1:=Same.new hn0 (.lst [V.int (-1),.int (rs.length:Nat),.int (-1-far),.int ((rs.length:Nat)+far)])
   have e1:upd H l (.lst [V.int (-1),.int (rs.length:Nat),.int (-1-far),.int ((rs.length:Nat)+far)]) l=some _:=zu
   generalize upd H l _=H1 at g1 e1 ⊢
   refine⟨_,rfl,c,9,4,rfl,by decide,by decide,by decide,fun r r0 r1=>?_⟩
   obtain⟨j,v,hv,hj⟩:=Pa (xs:=[V.int (-1),.int (rs.length:Nat),.int (-1-far),.int ((rs.length:Nat)+far)]) (i:=r) (by show -(4:Int)<=r;omega) r1
   have hx:=zvF hj
   have:∃x:Int,v=.int x/\Bad rs.length x/\Small x:=by
    simp only[List.mem_cons,zv0,or_false] at hx
    rcases hx with rfl | rfl | rfl | rfl
    ·exact⟨_,rfl,.inl (by decide),by decide⟩
    ·exact⟨_,rfl,.inr (Int.le_refl _),sml _ (by omega)⟩
    ·exact⟨_,rfl,.inl (by omega),sml _ (by omega)⟩
    ·exact⟨_,rfl,.inr (by omega),sml _ (by omega)⟩
   obtain⟨x,rfl,bx,sx⟩:=this
   exact⟨l,_,_,_,rfl,rfl,zX.of e1,hv,hu _ _ ⟨ol,bk,os,rs,F,c,bl,true,z1,z2,z3,z4,rl,wl,hl,sp,rl',wl',hl',far,x,_,_,_,_,L.same hB (g1),n5,Ld,g1 _ _ Vo,hrl.mono g1,hwl.mono g1,hhl.mono g1,⟨g1 _ _ hsp,br.mono g1,bw.mono g1,bh.mono g1⟩,Z7,⟨sx,fun _=>bx,fun z=>absurd z (by decide)⟩,rfl⟩⟩
  | false =>
   refine⟨_,rfl,bl,_,_,.bl false,rfl,rfl,zX.of Vo,rfl,_,rfl,tD ?_⟩
   exact hu _ _ ⟨ol,bk,os,rs,F,c,bl,false,z1,z2,z3,z4,rl,wl,hl,sp,rl',wl',hl',far,_,_,_,_,_,hB,n5,Ld,Vo,hrl,hwl,hhl,⟨hsp,br,bw,bh⟩,Z7,⟨sml _ (by omega),fun z=>absurd z (by decide),fun _=>rfl⟩,rfl⟩
 refine V9 (fun σ H=>Mr fun ol bk os rs F=>J5 fun c bl z0 z1 z2 z3 z4=>zb9 fun rl wl hl=>∃(sp rl' wl' hl':Addr) (far:Int) (i:Int) (f11 Vs Vt Vu:Option V),B40 a.zj H bk os rs F <| L40 H bl z0 z1 z2 z3 z4/\R40 H rl z1 os/\W40 H wl os/\H40 H hl os/\T40 H sp rl' wl' hl' os/\(0<=far/\far<10^9)/\N40 z0 rs.length i ((1:Nat):Int)/\σ=s40 sc ol os bk i (t40 c bl rs (u40 ((0:Nat):Int) sp far (f11::Vs::(v40 rl wl hl [Vt,Vu]))))) (fun t z=>(zf (yr (yM (yg yC (pv 6) zq (fun _ _=>rfl)) (fun _=>rfl)) (zx (zN 13 sc_law.nd (yg wD (pv 9) zq (fun _ _=>rfl)))) z8)
   z)) ?_ ?_
 ·rintro u hu σ H ⟨ol,bk,os,rs,F,c,bl,z0,z1,z2,z3,z4,rl,wl,hl,sp,rl',wl',hl',far,i,f11,Vs,Vt,Vu,hB,n5,Ld,Vo,hrl,hwl,hhl,⟨hsp,br,bw,bh⟩,Z7,hi,rfl⟩
  cases z1 with
  | true =>
   refine⟨_,rfl,bl,_,_,.bl true,rfl,rfl,zX.of Vo,rfl,_,rfl,uY ⟨_,rfl,sp,_,_,_,rfl,rfl,vO.of hsp,rfl,?_⟩⟩
   obtain⟨us,u1,u2,u3⟩:=id br
   exact hu _ _ ⟨ol,bk,os,rs,F,c,bl,z0,true,z2,z3,z4,rl',wl,hl,sp,rl',wl',hl',far,i,_,_,_,_,hB,n5,Ld,Vo,⟨us,u1,u2,fun _=>u3,fun z=>absurd z (by decide)⟩,hwl,hhl,⟨hsp,br,bw,bh⟩,Z7,hi,rfl⟩
  | false =>
   refine⟨_,rfl,bl,_,_,.bl false,rfl,rfl,zX.of Vo,rfl,_,rfl,tD ?_⟩
   exact hu _ _ ⟨ol,bk,os,rs,F,c,bl,z0,false,z2,z3,z4,rl,wl,hl,sp,rl',wl',hl',far,i,_,_,_,_,hB,n5,Ld,Vo,⟨_,hrl,by rw[List.length_replicate];omega,fun z=>absurd z (by decide),fun _=>rfl⟩,hwl,hhl,⟨hsp,br,bw,bh⟩,Z7,hi,rfl⟩
 refine V9 (fun σ H=>Mr fun ol bk os rs F=>J5 fun c bl z0 z1 z2 z3 z4=>zb9 fun rl wl hl=>∃(sp rl' wl' hl':Addr) (far:Int) (i:Int) (m:Int) (f11 Vs Vt Vu:Option V),B40 a.zj H bk os rs F <| L40 H bl z0 z1 z2 z3 z4/\R40 H rl z1 os/\W40 H wl os/\H40 H hl os/\T40 H sp rl' wl' hl' os/\(0<=far/\far<10^9)/\N40 z0 rs.length i ((1:Nat):Int)/\N40 z2 (zZ.xP os.length rs 1).length m ((0:Nat):Int)/\σ=s40 sc ol os bk i (t40 c bl rs (u40 m sp far (f11::Vs::(v40 rl wl hl [Vt,Vu]))))) (fun t z=>(zf (yr (yM (yg yC (pv 6) zq (fun _ _=>rfl)) (fun _=>rfl)) (zx (zN 8 sc_law.nd (yg yC (yh (za (RX WT zq) (za zq (za (zQ Yy (RX WT zq) (pv 10)) (za (zQ vq zq (pv 10)) zc))))) (zE yq hr T.yD (za (pv 5) (za zq (za zq zc)))) (fun _ _=>rfl)))) z8)
   z)) ?_ ?_
 ·rintro u hu σ H ⟨ol,bk,os,rs,F,c,bl,z0,z1,z2,z3,z4,rl,wl,hl,sp,rl',wl',hl',far,i,f11,Vs,Vt,Vu,hB,n5,Ld,Vo,hrl,hwl,hhl,⟨hsp,br,bw,bh⟩,Z7,hi,rfl⟩
  have p9:(10:Int)^9=1000000000:=by decide
  have sml:∀x:Int,x.natAbs<=2000000000->Small x:=fun x h=>zfX (Nat.lt_of_le_of_lt h (by decide))
  have y32:(zZ.xP os.length rs 1).length<=32:=zvV (zZ.Pr _ _ _) (zvV (zv5 (n:=2) (by decide) n5) (by decide))
  cases z2 with
  | true =>
   refine⟨_,rfl,bl,_,_,.bl true,rfl,rfl,zX.of Vo,rfl,_,rfl,uY ?_⟩
   refine⟨_,rfl,_,rfl,_,rfl,_,_,rfl,rfl,_,rfl,_,_,rfl,rfl,by show 4<=sizeLine;decide,fun l hn0=>?_⟩
   have g1:=Same.new hn0 (.lst [V.int (-1),.int 32,.int (-1-far),.int (32+far)])
   have e1:upd H l (.lst [V.int (-1),.int 32,.int (-1-far),.int (32+far)]) l=some _:=zu
   generalize upd H l _=H1 at g1 e1 ⊢
   refine⟨_,rfl,c,10,4,rfl,by decide,by decide,by decide,fun r r0 r1=>?_⟩
   obtain⟨j,v,hv,hj⟩:=Pa (xs:=[V.int (-1),.int 32,.int (-1-far),.int (32+far)]) (i:=r) (by show -(4:Int)<=r;omega) r1
   have hx:=zvF hj
   have:∃x:Int,v=.int x/\Bad (zZ.xP os.length rs 1).length x/\Small x:=by
    simp only[List.mem_cons,zv0,or_false] at hx
    rcases hx with rfl | rfl | rfl | rfl
    ·exact⟨_,rfl,.inl (by decide),by decide⟩
    ·exact⟨_,rfl,.inr (by omega),by decide⟩
    ·exact⟨_,rfl,.inl (by omega),sml _ (by omega)⟩
    ·exact⟨_,rfl,.inr (by omega),sml _ (by omega)⟩
   obtain⟨x,rfl,bx,sx⟩:=this
   exact⟨l,_,_,_,rfl,rfl,zX.of e1,hv,hu _ _ ⟨ol,bk,os,rs,F,c,bl,z0,z1,true,z3,z4,rl,wl,hl,sp,rl',wl',hl',far,i,x,_,_,_,_,L.same hB (g1),n5,Ld,g1 _ _ Vo,(let ⟨us,u1,u2⟩:=hrl;⟨us,u1.mono g1,u2⟩),hwl.mono g1,hhl.mono g1,⟨g1 _ _ hsp,br.mono g1,bw.mono g1,bh.mono g1⟩,Z7,hi,⟨sx,fun _=>bx,fun z=>absurd z (by decide)⟩,rfl⟩⟩
  | false =>
   refine⟨_,rfl,bl,_,_,.bl false,rfl,rfl,zX.of Vo,rfl,_,rfl,tD ?_⟩
   exact hu _ _ ⟨ol,bk,os,rs,F,c,bl,z0,z1,false,z3,z4,rl,wl,hl,sp,rl',wl',hl',far,i,_,_,_,_,_,hB,n5,Ld,Vo,hrl,hwl,hhl,⟨hsp,br,bw,bh⟩,Z7,hi,⟨by decide,fun z=>absurd z (by decide),fun _=>rfl⟩,rfl⟩
 refine V9 (fun σ H=>Mr fun ol bk os rs F=>J5 fun c bl z0 z1 z2 z3 z4=>zb9 fun rl wl hl=>∃(sp rl' wl' hl':Addr) (far:Int) (i:Int) (m:Int) (f11 Vs Vt Vu:Option V),B40 a.zj H bk os rs F <| L40 H bl z0 z1 z2 z3 z4/\R40 H rl z1 os/\X40 z3 (RP wgB os.length H wl) (W40 H wl os)/\H40 H hl os/\T40 H sp rl' wl' hl' os/\(0<=far/\far<10^9)/\N40 z0 rs.length i ((1:Nat):Int)/\N40 z2 (zZ.xP os.length rs 1).length m ((0:Nat):Int)/\σ=s40 sc ol os bk i (t40 c bl rs (u40 m sp far (f11::Vs::(v40 rl wl hl [Vt,Vu]))))) (fun t z=>(zf (yr (yM (yg yC (pv 6) zq (fun _ _=>rfl)) (fun _=>rfl)) (zx (zN 14 sc_law.nd (yg wD (pv 9) zq (fun _ _=>rfl)))) z8)
   z)) ?_ ?_
 ·rintro u hu σ H ⟨ol,bk,os,rs,F,c,bl,z0,z1,z2,z3,z4,rl,wl,hl,sp,rl',wl',hl',far,i,m,f11,Vs,Vt,Vu,hB,n5,Ld,Vo,hrl,hwl,hhl,⟨hsp,br,bw,bh⟩,Z7,hi,hm,rfl⟩
  cases z3 with
  | true =>
   refine⟨_,rfl,bl,_,_,.bl true,rfl,rfl,zX.of Vo,rfl,_,rfl,uY ⟨_,rfl,sp,_,_,_,rfl,rfl,vO.of hsp,rfl,?_⟩⟩
   exact hu _ _ ⟨ol,bk,os,rs,F,c,bl,z0,z1,z2,true,z4,rl,wl',hl,sp,rl',wl',hl',far,i,m,_,_,_,_,hB,n5,Ld,Vo,hrl,⟨fun _=>bw,fun z=>absurd z (by decide)⟩,hhl,⟨hsp,br,bw,bh⟩,Z7,hi,hm,rfl⟩
  | false =>
   refine⟨_,rfl,bl,_,_,.bl false,rfl,rfl,zX.of Vo,rfl,_,rfl,tD ?_⟩
   exact hu _ _ ⟨ol,bk,os,rs,F,c,bl,z0,z1,z2,false,z4,rl,wl,hl,sp,rl',wl',hl',far,i,m,_,_,_,_,hB,n5,Ld,Vo,hrl,⟨fun z=>absurd z (by decide),fun _=>hwl⟩,hhl,⟨hsp,br,bw,bh⟩,Z7,hi,hm,rfl⟩
 refine V9 (fun σ H=>Mr fun ol bk os rs F=>J5 fun c bl z0 z1 z2 z3 z4=>zb9 fun rl wl hl=>∃(sp rl' wl' hl':Addr) (far:Int) (i:Int) (m:Int) (f11 Vs Vt Vu:Option V),B40 a.zj H bk os rs F <| L40 H bl z0 z1 z2 z3 z4/\R40 H rl z1 os/\X40 z3 (RP wgB os.length H wl) (W40 H wl os)/\X40 z4 (RP shB os.length H hl) (H40 H hl os)/\T40 H sp rl' wl' hl' os/\(0<=far/\far<10^9)/\N40 z0 rs.length i ((1:Nat):Int)/\N40 z2 (zZ.xP os.length rs 1).length m ((0:Nat):Int)/\σ=s40 sc ol os bk i (t40 c bl rs (u40 m sp far (f11::Vs::(v40 rl wl hl [Vt,Vu]))))) (fun t z=>(zf (yr (yM (yg yC (pv 6) zq (fun _ _=>rfl)) (fun _=>rfl)) (zx (zN 15 sc_law.nd (yg wD (pv 9) zq (fun _ _=>rfl)))) z8)
   z)) ?_ ?_
 ·rintro u hu σ H ⟨ol,bk,os,rs,F,c,bl,z0,z1,z2,z3,z4,rl,wl,hl,sp,rl',wl',hl',far,i,m,f11,Vs,Vt,Vu,hB,n5,Ld,Vo,hrl,hwl,hhl,⟨hsp,br,bw,bh⟩,Z7,hi,hm,rfl⟩
  cases z4 with
  | true =>
   refine⟨_,rfl,bl,_,_,.bl true,rfl,rfl,zX.of Vo,rfl,_,rfl,uY ⟨_,rfl,sp,_,_,_,rfl,rfl,vO.of hsp,rfl,?_⟩⟩
   exact hu _ _ ⟨ol,bk,os,rs,F,c,bl,z0,z1,z2,z3,true,rl,wl,hl',sp,rl',wl',hl',far,i,m,_,_,_,_,hB,n5,Ld,Vo,hrl,hwl,⟨fun _=>bh,fun z=>absurd z (by decide)⟩,⟨hsp,br,bw,bh⟩,Z7,hi,hm,rfl⟩
  | false =>
   refine⟨_,rfl,bl,_,_,.bl false,rfl,rfl,zX.of Vo,rfl,_,rfl,tD ?_⟩
   exact hu _ _ ⟨ol,bk,os,rs,F,c,bl,z0,z1,z2,z3,false,rl,wl,hl,sp,rl',wl',hl',far,i,m,_,_,_,_,hB,n5,Ld,Vo,hrl,hwl,⟨fun z=>absurd z (by decide),fun _=>hhl⟩,⟨hsp,br,bw,bh⟩,Z7,hi,hm,rfl⟩
 refine V9 (fun σ H=>Mr fun ol bk os rs F=>J5 fun c bl z0 z1 z2 z3 z4=>zb9 fun rl wl hl=>∃(sp:Addr) (far:Int) (i:Int) (m:Int) (tl:Addr) (Vs Vt Vu:Option V),B40 a.zj H bk os rs F <| L40 H bl z0 z1 z2 z3 z4/\R40 H rl z1 os/\X40 z3 (RP wgB os.length H wl) (W40 H wl os)/\X40 z4 (RP shB os.length H hl) (H40 H hl os)/\(0<=far/\far<10^9)/\N40 z0 rs.length i ((1:Nat):Int)/\N40 z2 (zZ.xP os.length rs 1).length m ((0:Nat):Int)/\(H tl=some (.lst (Sv.map V.str)))/\σ=s40 sc ol os bk i (t40 c bl rs (u40 m sp far (some (.ref tl)::Vs::(v40 rl wl hl [Vt,Vu]))))) (fun t z=>(zf (zN 11 sc_law.nd (zbg (xs:=["room", "room", "number", "row", "room", "room", "weights", "weights", "weights", "shares"]) (by rfl)))
   z)) ?_ ?_
 ·rintro u hu σ H ⟨ol,bk,os,rs,F,c,bl,z0,z1,z2,z3,z4,rl,wl,hl,sp,rl',wl',hl',far,i,m,f11,Vs,Vt,Vu,hB,n5,Ld,Vo,hrl,hwl,hhl,⟨hsp,br,bw,bh⟩,Z7,hi,hm,rfl⟩
  refine⟨by show 10<=sizeLine;decide,fun l hn0=>?_⟩
  have g1:=Same.new hn0 (.lst (Sv.map V.str))
  exact hu _ _ ⟨ol,bk,os,rs,F,c,bl,z0,z1,z2,z3,z4,rl,wl,hl,sp,far,i,m,l,_,_,_,L.same hB (g1),n5,Ld,g1 _ _ Vo,(let ⟨us,u1,u2⟩:=hrl;⟨us,u1.mono g1,u2⟩),⟨fun z=>(hwl.1 z).mono g1,fun z=>(hwl.2 z).mono g1⟩,⟨fun z=>(hhl.1 z).mono g1,fun z=>(hhl.2 z).mono g1⟩,Z7,hi,hm,zu,rfl⟩
 refine⟨_,(zf (ZP PassesOwn.never rfl (Wk rfl T.Wi (za zq zc)) (wA (i:=12) sc_law.nd rfl (Or.inl rfl)) (zf (zN 16 sc_law.nd (zE zgG hr T.zaL (za (pv 12) (za (pv 3) (za (pv 4) (za (pv 13) (za (pv 8) (za (pv 14) (za (pv 15) zc)))))))))
   (zf (zN 17 sc_law.nd xH)
   (zf (yr (yM (yg yC (pv 6) (Zv PySem.F.plainAttrs_list PySem.F.slot_list_index PySem.F.type_list_index Lw (zbg (xs:=["room", "row", "number", "weights", "shares"]) (by rfl)) (za (yg yC (pv 11) (pv 12) (fun _ _=>rfl)) zc)) (fun _ _=>rfl)) (fun _=>rfl)) (zx (zN 17 sc_law.nd (yg yC (pv 11) (pv 12) (fun _ _=>rfl)))) z8)
   (zf (yr (yM (yg yC (pv 6) zq (fun _ _=>rfl)) (fun _=>rfl)) (zx (zN 17 sc_law.nd xH)) z8)
   (zx (yr (PW.pt (zgN (zT (zoE rfl (hu8 hr)) (pv 16) (pv 17) (zU _)) (zd2 (Zu (yM (zE zhY hr T.zct (za (pv 16) (za (pv 17) zc))) (fun _=>rfl)))))) (zx (zR RV)) z8)))))))
   (zx (zR (wH xG (Wr (pv 3) T.zY T.QV zaP hr) (pv 7) (zU _))))),?_⟩
 rintro σ H ⟨ol,bk,os,rs,F,c,bl,z0,z1,z2,z3,z4,rl,wl,hl,sp,far,i,m,tl,Vs,Vt,Vu,hB,n5,Ld,Vo,hrl,hwl,hhl,Z7,hi,hm,htl,rfl⟩
 have J:zcV a.zj K H bk rl wl hl i m z0 z1 z2 z3 z4 os rs F:={
  bk:=hB
  n5:=n5
  si:=hi.1
  sm:=hm.1
  r1:=hi.2.1
  r0:=hi.2.2
  row:=let ⟨us,u1,u2⟩:=hrl;⟨us,zX.of u1,u2⟩
  n1:=hm.2.1
  n0:=hm.2.2
  w1:=fun z=>let ⟨ws,⟨ps,x1,x2⟩,x3,x4⟩:=hwl.1 z;⟨ps,ws,zX.of x1,x2,x3,x4⟩
  w0:=fun z=>zqf (hwl.2 z)
  s1:=fun z=>let ⟨ws,⟨ps,x1,x2⟩,x3,x4⟩:=hhl.1 z;⟨ps,ws,zX.of x1,x2,x3,x4⟩
  s0:=fun z=>zqe (hhl.2 z) }
 clear hrl hwl hhl hi hm
 refine⟨10,rfl,by decide,by decide,?_⟩
 refine Wm (lo:=0) (n:=10) (fun _ σ H'=>Same H H'/\∃Vs Vt Vu:Option V,σ=s40 sc ol os bk i (t40 c bl rs (u40 m sp far (some (.ref tl)::Vs::(v40 rl wl hl [Vt,Vu]))))) ⟨Same.refl _,_,_,_,rfl⟩ ?_ ?_
 ·rintro j σ H1 hj ⟨g,Vs,Vt,Vu,rfl⟩
  have ej:(0:Int)+(j:Int)=(j:Int):=by omega
  rw[ej]
  have dw:=zhw ⟨j,hj⟩ z0 z1 z2 z3 z4
  have fa:=zjr ⟨j,hj⟩
  have fl:=zmR ⟨j,hj⟩
  dsimp only at dw fa fl
  have hz:∃z,[z0,z1,z2,z3,z4].getD (zjq.getD j 0) false=z/\[V.bl z0,.bl z1,.bl z2,.bl z3,.bl z4][zjq.getD j 0]?=some (.bl z):=by
   generalize zjq.getD j 0=n at fl
   match n,fl with
   | 0,_=>exact⟨_,rfl,rfl⟩
   | 1,_=>exact⟨_,rfl,rfl⟩
   | 2,_=>exact⟨_,rfl,rfl⟩
   | 3,_=>exact⟨_,rfl,rfl⟩
   | 4,_=>exact⟨_,rfl,rfl⟩
  obtain⟨zz,ez,hz⟩:=hz
  rw[ez] at dw
  have zm2:(Sv.map V.str)[j]?=some (.str (Sv.getD j "")):=by
   have:j<Sv.length:=hj
   rw[zvC,zvN,zvB this]
   rfl
  cases e:Nt j z0 z1 z2 z3 z4 with
  | none =>
   refine⟨_,rfl,_,rfl,_,rfl,_,rfl,_,rfl,_,rfl,_,rfl,j,bk,rl,wl,hl,i,m,z0,z1,z2,z3,z4,os,rs,F,rfl,hj,J.mono g,fun _ H2 g2=>?_,fun n e'=>absurd (e.symm.trans e') (by simp)⟩
   rw[e] at dw
   have gA:=g.trans g2
   have tl2:=gA _ _ htl
   refine⟨_,rfl,by show 5<=sizeLine;decide,fun l5 h5=>?_⟩
   have g5:=Same.new h5 (.lst (zb8.map V.str))
   have e5:upd H2 l5 (.lst (zb8.map V.str)) l5=some _:=zu
   have gB:=gA.trans g5
   refine⟨.inl ⟨rfl,_,zX.of e5⟩,_,rfl,_,rfl,tl,_,_,_,rfl,rfl,zX.of (gB _ _ htl),vU zm2,l5,_,_,_,rfl,rfl,zX.of e5,rfl,rfl,fa,bl,_,_,_,rfl,rfl,zX.of (gB _ _ Vo),vU hz,_,rfl,?_⟩
   cases zz<;>first | refine tD ?_ | refine uY ⟨_,rfl,_,rfl,tl,_,_,_,rfl,rfl,zX.of (gB _ _ htl),vU zm2,?_⟩
   all_goals cases z0<;>refine⟨_,rfl,bl,_,_,.bl _,rfl,rfl,zX.of (gB _ _ Vo),rfl,_,rfl,?_⟩<;>first | refine uY ?_ | refine tD ?_
   all_goals exact⟨_,rfl,_,rfl,.inl ⟨rfl,_,rfl,zot (congrArg V.str dw) (tD ⟨gB,_,_,_,rfl⟩)⟩⟩
  | some n =>
   refine⟨_,rfl,_,rfl,_,rfl,_,rfl,_,rfl,_,rfl,_,rfl,j,bk,rl,wl,hl,i,m,z0,z1,z2,z3,z4,os,rs,F,rfl,hj,J.mono g,fun e'=>absurd (e.symm.trans e') (by simp),fun n' e' t l H2 g2 ht hl'=>?_⟩
   obtain rfl:=zv4 (e.symm.trans e')
   rw[e] at dw
   have gA:=g.trans g2
   have tl2:=gA _ _ htl
   refine⟨_,rfl,by show 5<=sizeLine;decide,fun l5 h5=>?_⟩
   have g5:=Same.new h5 (.lst (zb8.map V.str))
   have e5:upd H2 l5 (.lst (zb8.map V.str)) l5=some _:=zu
   have gB:=gA.trans g5
   refine⟨.inl ⟨rfl,_,zX.of e5⟩,_,rfl,_,rfl,tl,_,_,_,rfl,rfl,zX.of (gB _ _ htl),vU zm2,l5,_,_,_,rfl,rfl,zX.of e5,rfl,rfl,fa,bl,_,_,_,rfl,rfl,zX.of (gB _ _ Vo),vU hz,_,rfl,?_⟩
   cases zz<;>first | refine tD ?_ | refine uY ⟨_,rfl,_,rfl,tl,_,_,_,rfl,rfl,zX.of (gB _ _ htl),vU zm2,?_⟩
   all_goals cases z0<;>refine⟨_,rfl,bl,_,_,.bl _,rfl,rfl,zX.of (gB _ _ Vo),rfl,_,rfl,?_⟩<;>first | refine uY ?_ | refine tD ?_
   all_goals exact⟨_,rfl,_,rfl,.inr ⟨false,fun z=>absurd z.1 zvE,.tf (vO.of (g5 _ _ ht)) rfl,_,rfl,uY ⟨_,rfl,_,rfl,t,l,_,rfl,g5 _ _ ht,zX.of ((g5 _ _ hl').trans (congrArg (fun s=>some (HO.lst [V.str s])) dw)),fun H3 g3=>⟨_,rfl,tD ⟨gB.trans g3,_,_,_,rfl⟩⟩⟩⟩⟩
 ·rintro σ H1 ⟨g,Vs,Vt,Vu,rfl⟩
  obtain⟨dx0,fs,M8,hm0⟩:=L.ins (L.same hB g)
  refine⟨_,rfl,bk,dx0,fs,rfl,M8,hm0 _ (by decide +kernel),bk,os,rs,F,rfl,L.same hB g,fun H2 g2=>⟨_,rfl,rfl,?_⟩⟩
  rw[decide_eq_true rfl]
  exact q H2
theorem zm3 (T:Txt P w K mg a)(base:Heap):zB P w K mg base yd 60 a.a_law a.d_law p_law (zin K):=by
 have cell:zB P w K mg base yd 1 a.wL a.wM xX (Lz K):=zhF (k:=0) T
 have draw:zB P w K mg base yd 1 a.uE a.uF vK Mf:=zmW (k:=0) T
 have order:=zli (k:=1) T draw
 have sentence:=zgo (k:=1) T cell draw
 have ziM:zB P w K mg base yd 2 a.YQ a.YS ZV Wo:=zgn (k:=1) T
 have zcF:zB P w K mg base yd 1 a.tU a.tV ux ZQ:=zeP (k:=0) T
 have flipped:=zhE (k:=1) T zcF
 have zlr:zB P w K mg base yd 1 a.Tc a.Td Wu Uw:=zhH (k:=0) T
 have zm4:=zgp (k:=1) T zlr
 have lettersOf:zB P w K mg base yd 1 a.Ym a.Yn Zd Xr:=zc4 (k:=0) T
 have partsOf:zB P w K mg base yd 1 a.ZW a.ZX tO YD:=zgq (k:=0) T
 have zcG:=za0 (k:=1) T partsOf
 have shaped:=zeQ (k:=1) T zlr lettersOf partsOf
 have zqS:=zcv (k:=2) T shaped zcG
 have zjN:=zag (k:=2) T zm4
 have zm5:=Nh (k:=3) T zqS
 have zls:=zeR (k:=2) T zcG
 have zjO:=zc6 (k:=3) T zls (lettersOf.mono (by decide))
 have zlt:zB P w K mg base yd 1 a.Zi a.Zj v7 (T4 K):=Jg (k:=0) T
 have zjP:=M5 (k:=4) T zjO (zlt.mono (by decide))
 have two:zB P w K mg base yd 2 a.tW a.tX v8 zfA:=za1 (k:=1) T
 have table:=zaO (k:=2) T ziM (zcF.mono (by decide)) flipped (partsOf.mono (by decide)) two 24
 have zoU:=zhJ (k:=2) T (zcF.mono (by decide)) flipped
 have hangs:=zgt (k:=2) T flipped
 have first:=zcw (k:=3) T hangs
 have zlu:=V6 (k:=4) T first (zoU.mono (by decide)) 9
 have enter:=zc8 (k:=26) T (zm5.mono (by decide)) (zjP.mono (by decide)) table (zlu.mono (by decide))
 have init:=zeU (k:=3) T zjN (ziM.mono (by decide))
 have mbr:zB P w K mg base yd 1 a.zK a.zL zH (xJ a.zj):=QZ (k:=0) T
 have zjQ:zB P w K mg base yd 1 a.wU a.wV wB (vI (yp a.zj)):=zda (k:=0) T
 have plc:zB P w K mg base yd 1 a.ZK a.ZL uK (Pq a.zj):=zai (k:=0) T
 have goi:zB P w K mg base yd 1 a.Ys a.Yt Ze (Kl a.zj):=zc9 (k:=0) T
 have size:zB P w K mg base yd 1 a.VR a.V0 Xx (T8 (yp a.zj)):=zeV (k:=0) T
 have zhZ:=zcz (k:=1) T mbr goi
 have led:=zgv (k:=1) T plc goi
 have Ru:=zgw (k:=2) T (mbr.mono (by decide)) (zjQ.mono (by decide)) led
 have howMany:=zgx (k:=3) T Ru
 have byY:=zgy (k:=3) T Ru (zjQ.mono (by decide))
 have znA:zB P w K mg base yd 1 a.Qx a.Qy U4 (LK K):=zjF (k:=0) T
 have zm6:=zcx (k:=1) T znA
 have zm7:=zaj (k:=2) T (mbr.mono (by decide)) zm6 led
 have rowAt:=zjG (k:=3) T Ru
 have zoV:=zdb (k:=3) T zm7 Ru
 have zm8:zB P w K mg base yd 1 a.YL a.YM ZS (zb6 1):=zeX (k:=0) T
 have zm9:=zhN (k:=3) T (zhZ.mono (by decide)) (zm8.mono (by decide))
 have ziN:=zeY (k:=2) T zhZ
 have zqT:=zcA (k:=3) T ziN zB.no
 have isW:zB P w K mg base yd 1 a.vP a.vQ wZ Yh:=zcy (k:=0) T
 have mW:=M9 (k:=1) T zjQ isW
 have wOf:zB P w K mg base yd 1 a.V1 a.V2 Xz (Sg K):=zeW (k:=0) T
 have light:=zgz (k:=3) T (mbr.mono (by decide)) (mW.mono (by decide)) Ru (wOf.mono (by decide))
 have lBy:zB P w K mg base yd 1 a.Te a.Tg Wv (zb6 2):=zgC (k:=0) T
 have zoW:=zjJ (k:=3) (K:=K) T (mbr.mono (by decide)) (mW.mono (by decide)) (zhZ.mono (by decide)) (lBy.mono (by decide))
 have zoX:=zdc (k:=3) (K:=K) T (mbr.mono (by decide)) (mW.mono (by decide)) ziN zB.no
 have prod:zB P w K mg base yd 1 a.Ti a.Tj Wx (UJ K):=zhL (k:=0) T
 have comm:zB P w K mg base yd 1 a.Zk a.Zm v9 Kp:=Jk (k:=0) T
 have zna:zB P w K mg base yd 1 a.Z2 a.Z4 tR UL:=zgB (k:=0) T
 have znb:=Jl (k:=1) T zjQ zna
 have zoY:=zhM (k:=1) T prod
 have chan:=zjH (k:=3) T (mbr.mono (by decide)) (znb.mono (by decide)) Ru (zoY.mono (by decide)) (prod.mono (by decide)) (comm.mono (by decide))
 have zcH:zB P w K mg base (wJ P w) 1 a.zK a.zL zH (Zc a.zj a.zW):=RQ (k:=0) T
 have znB:zB P w K mg base (wJ P w) 1 a.zK a.zL zH (zeF a.zj a.zW):=(mbr.lift (CX:=wJ P w)).orE zcH
 have zlv:=zcB (k:=1) T znB
 have yrS:=ze0 (k:=1) T zcH
 have waS:=Jm (k:=1) T zcH
 have hmS:=ze2 (k:=2) T yrS
 have byS:=ze3 (k:=2) T yrS
 have raS:=zhP (k:=2) T yrS
 have raR:=zhR (k:=3) T Ru
 have mrR:=za4 (k:=1) T znA
 have waR:=Jo (k:=2) T (znB.mono (by decide)) mrR
 have rnN:=zcD (k:=3) T waR
 have coS:=zhQ (k:=2) T zlv zB.no
 have ofS:=RT (k:=2) T zlv
 have chS:=za6 (k:=3) T ofS
 have liS:=ze1 (k:=1) T zcH
 have loS:=zjK (k:=1) T zcH
 have lhS:=zcC (k:=1) T zcH
 have caS:=zhO (k:=1) T zcH
 have zsz:zB P w K mg base yd 1 a.vP a.vQ wZ Y8:=za5 (k:=0) T
 have zsA:zB P w K mg base yd 1 a.Z2 a.Z4 tR Ss:=ze4 (k:=0) T
 have mwR:=Ni (k:=1) T zjQ zsz
 have msR:=Lb (k:=1) T zjQ zsA
 have liW:=ze5 (k:=2) T (mbr.mono (by decide)) mwR
 have loW:=zjL (k:=2) T (mbr.mono (by decide)) mwR
 have lhW:=zcE (k:=2) T (mbr.mono (by decide)) mwR
 have caW:=zhS (k:=2) T (mbr.mono (by decide)) msR
 have which:∀ex,zdS P w K mg base ex 58 a.Xj a.Xk ZC (KC K a.yQ (cs9 a) ex):=fun ex=>zeZ (k:=57) T ex
 have isB:zB P w K mg base yd 1 a.Rf a.Rg Ve (ziE K):=zjM (k:=0) T
 have asked:=ze6 (k:=57) T
  (zqg rfl (howMany.mono (by decide)) (hmS.mono (by decide)))
  (zqh rfl (byY.mono (by decide)) (byS.mono (by decide)))
  (zqi rfl rfl (rowAt.mono (by decide)) (raS.mono (by decide)) (raR.mono (by decide)))
  (zqj rfl rfl (zoV.mono (by decide)) (rnN.mono (by decide)))
  (zqk rfl (zm9.mono (by decide)) (coS.mono (by decide)))
  (zql rfl (zqT.mono (by decide)) (chS.mono (by decide)))
  (zqm rfl rfl (light.mono (by decide)) (liS.mono (by decide)) (liW.mono (by decide)))
  (zqn rfl rfl (zoW.mono (by decide)) (loS.mono (by decide)) (loW.mono (by decide)))
  (zqo rfl rfl (zoX.mono (by decide)) (lhS.mono (by decide)) (lhW.mono (by decide)))
  (zqp rfl rfl (chan.mono (by decide)) (caS.mono (by decide)) (caW.mono (by decide)))
 have met:=zhW (k:=58) T asked which
 have zsC:=zhX (k:=1) T draw
 have W3:zB P w K mg base yd 1 a.wL a.wM xX (zbl K):=zjE (k:=0) T
 exact ok_law (k:=58) T (W3.mono (by decide)) (draw.mono (by decide)) (order.mono (by decide)) (sentence.mono (by decide)) (init.mono (by decide)) (enter.mono (by decide)) (size.mono (by decide)) (zsC.mono (by decide)) met (isB.mono (by decide))
end
end K40
namespace PySem.W.Fast
def tw11974116180118429652:Nat:=0
def tw10867798522626493550:Nat:=0
def tw14755227054764051060:Nat:=0
def tw4587665313171536672:Nat:=0
def tw2867888310031692098:Nat:=0
def tw2680129551536543180:Nat:=0
def tw15817525946317197942:Nat:=0
def tw526364375799817206:Nat:=0
def tw14092349097871947568:Nat:=0
def tw10710832406606394865:Nat:=0
def tw3456428849595368801:Nat:=0
def tw11319688936205540844:Nat:=0
def tw6840502203152063475:Nat:=0
def tw1317278187015384391:Nat:=0
def tw3534861696087653227:Nat:=0
def tw7389818449650705329:Nat:=0
def tw17175110825829979054:Nat:=0
def tw14643314202498493842:Nat:=0
def tw678029018905746700:Nat:=0
def tw2713084985337132425:Nat:=0
def tw18060572685937802565:Nat:=0
def tw12056186354309469001:Nat:=0
def tw15358378988136122418:Nat:=0
def tw1598640622014375345:Nat:=0
def tw6036263364319569064:Nat:=0
def tw8298092024640556027:Nat:=0
def tw12745707825530370532:Nat:=0
def tw14754418629117401118:Nat:=0
def tw10262471948794340344:Nat:=0
def tw7546647594190496594:Nat:=0
def tw10002554773200093121:Nat:=0
def tw1856444945096768654:Nat:=0
def tw6049329085761310510:Nat:=0
def tw16488892065076663541:Nat:=0
def tw5856453286237328731:Nat:=0
def tw9253833295320356668:Nat:=0
def tw817892195521581128:Nat:=0
def tw8444922896778288103:Nat:=0
def tw9356469061192925552:Nat:=0
def tw1084653965872048226:Nat:=0
def tw4256055055044112641:Nat:=0
def tw13072597447432718462:Nat:=0
def tw11972877905144615676:Nat:=0
def tw12172823507290117222:Nat:=0
def tw13923074318884286603:Nat:=0
def tw5939886609749620605:Nat:=0
def tw7195756080618280341:Nat:=0
def tw386067806374976905:Nat:=0
def tw5382537342870025818:Nat:=0
def tw13830022235095843060:Nat:=0
def tw8203673261736584279:Nat:=0
def tw10777195690803954064:Nat:=0
def tw3752034189271980119:Nat:=0
def tw4529004273312627569:Nat:=0
def tw17783240383255972872:Nat:=0
def tw515345111290903573:Nat:=0
def tw17714404299946269382:Nat:=0
def tw8643043470886170927:Nat:=0
def tw3519042765434157102:Nat:=0
def tw1560815395183604544:Nat:=0
def tw7902650170907918416:Nat:=0
def tw3958921232100411783:Nat:=0
def tw9623432456923410459:Nat:=0
def tw17917674094518620170:Nat:=0
def tw7562955152738749092:Nat:=0
def tw11803330609731076320:Nat:=0
def tw14642304993674302085:Nat:=0
def tw13549918608972848602:Nat:=0
def tw6255260519556776513:Nat:=0
def tw5776898127213585289:Nat:=0
def tw10813702414641685752:Nat:=0
def tw4372679306371913815:Nat:=0
def tw16240000786260056009:Nat:=0
def tw11425196481432193786:Nat:=0
def tw814451163680453177:Nat:=0
def tw5036024353795295806:Nat:=0
def tw10702938615350034407:Nat:=0
def tw8424071733632515874:Nat:=0
def tw3064682729710966266:Nat:=0
def tw11060926049146991945:Nat:=0
def tw16197181058480749538:Nat:=0
def tw16284793283716194945:Nat:=0
def tw4883052489626310796:Nat:=0
def tw11651381273583159516:Nat:=0
def tw3934501834012067954:Nat:=0
def tw17102715816998003122:Nat:=0
def tw7351427052033282199:Nat:=0
def tw9571358731320050013:Nat:=0
def tw8961932554292774374:Nat:=0
def tw7509748738188935312:Nat:=0
def tw15189589561505438303:Nat:=0
def tw2018498276697488894:Nat:=0
def tw15352334122626778226:Nat:=0
def tw11446855008787108927:Nat:=0
def tw16409386310953970176:Nat:=0
def tw9591881036312526913:Nat:=0
def tw6454311551283645442:Nat:=0
def tw138737030457397625:Nat:=0
def tw9110944399471607351:Nat:=0
def tw4800069864807728667:Nat:=0
def tw13637962236171801297:Nat:=0
def tw17987266789730251107:Nat:=0
def tw15217454923396888181:Nat:=0
def tw18292516105601251696:Nat:=0
def tw4538544212246565355:Nat:=0
def tw7319773276377673965:Nat:=0
def tw2370587048418636974:Nat:=0
def tw10546288684286694364:Nat:=0
def tw9376101134683771740:Nat:=0
def tw6762048004091334770:Nat:=0
def tw10259131900074368141:Nat:=0
def tw827303612694305894:Nat:=0
def tw15529618929678492555:Nat:=0
def tw15715619144659730233:Nat:=0
def tw1645435614026611944:Nat:=0
def tw9711640390537161997:Nat:=0
def tw1534132296059396209:Nat:=0
def tw16839622459543458307:Nat:=0
def tw610280452086380151:Nat:=0
def tw18098953617443678467:Nat:=0
def tw18044690305854271531:Nat:=0
def tw7309254953209771100:Nat:=0
def tw5707719241275497687:Nat:=0
def tw4098479599421682135:Nat:=0
def tw15075206871196225180:Nat:=0
def tw14742645389331572967:Nat:=0
def tw16326339990420567821:Nat:=0
def tw10661648626567492095:Nat:=0
def tw17163334237952336575:Nat:=0
def tw14389445402311878738:Nat:=0
def tw2313995524713504306:Nat:=0
def tw1097026032854112731:Nat:=0
def tw14871537942468371607:Nat:=0
def tw18353641709374951354:Nat:=0
def tw6119065308648085201:Nat:=0
def tw13826507082012975030:Nat:=0
def tw13138844627606313350:Nat:=0
def tw15098536573679185621:Nat:=0
def tw937843269097035792:Nat:=0
def tw17554431928022330544:Nat:=0
def tw17281999341195202449:Nat:=0
def tw17155873940164019406:Nat:=0
def tw10293616041488141656:Nat:=0
def tw1972676345580603712:Nat:=0
def tw2249872750298735461:Nat:=0
def tw14830237703077163203:Nat:=0
def tw10924842566671276161:Nat:=0
def tw7832740427934497536:Nat:=0
def tw964568280250379720:Nat:=0
def tw11442631801882730731:Nat:=0
def tw17853093324051079099:Nat:=0
def tw7219718880860473559:Nat:=0
def tw15491072074404639185:Nat:=0
def tw12442971091044298661:Nat:=0
def tw16245698306773409303:Nat:=0
def tw5315089893545715830:Nat:=0
def tw155851824361092747:Nat:=0
def tw14329669598077518135:Nat:=0
def tw6727275227404854464:Nat:=0
def tw12987999014958655421:Nat:=0
def tw12938402804545825552:Nat:=0
def tw17515685883235868278:Nat:=0
def tw14022794344926406086:Nat:=0
def tw12522401004607858975:Nat:=0
def tw16101175859619929287:Nat:=0
def tw3934238203224826558:Nat:=0
def tw13938276890623594177:Nat:=0
def tw7711730854307588749:Nat:=0
def tw4642415390840272557:Nat:=0
def tw15388789786899938974:Nat:=0
def tw2655887525665047976:Nat:=0
def tw14311743848771847387:Nat:=0
def tw3716704470318102790:Nat:=0
def tw4545638977769306804:Nat:=0
def tw13034617134273129505:Nat:=0
def tw16920899208879654507:Nat:=0
def tw2598057367346621638:Nat:=0
def tw5355246939909983838:Nat:=0
def tw4478477233751355891:Nat:=0
def tw9043102169902727217:Nat:=0
def tw14864575874960577600:Nat:=0
def tw10546077408121532852:Nat:=0
def tw12581861724734456430:Nat:=0
def tw7081101995745365227:Nat:=0
def tw15019765428188619398:Nat:=0
def tw354610756598675109:Nat:=0
def tw1282504839321964961:Nat:=0
def tw8278712479380922244:Nat:=0
def tw576756304205973676:Nat:=0
def tw9263926898567169342:Nat:=0
def tw13369268836132887503:Nat:=0
def tw7375977469901418919:Nat:=0
def tw16578362960172650493:Nat:=0
def tw1596618485456861301:Nat:=0
def tw14985413796003962195:Nat:=0
def tw16383447818742697046:Nat:=0
def tw12989774319460975364:Nat:=0
def tw10674550769291691688:Nat:=0
def tw5354094441844664404:Nat:=0
def tw15140786395332613609:Nat:=0
def tw12893069030256145552:Nat:=0
def tw6168709643900592850:Nat:=0
def tw1121612556376372505:Nat:=0
def tw15934498117920639001:Nat:=0
def tw8444083926159243938:Nat:=0
def tw7209464413260592474:Nat:=0
def tw10627847427576238027:Nat:=0
def tw16264889584657879903:Nat:=0
def tw13788873798589045913:Nat:=0
def tw6372394909923692935:Nat:=0
def tw7026410288136081836:Nat:=0
def tw13131506230155708697:Nat:=0
def tw6644653540310132993:Nat:=0
def tw4543057215446927493:Nat:=0
def tw9122150655304418029:Nat:=0
def tw7494681263514243538:Nat:=0
def tw14299529238912999387:Nat:=0
def tw17537897126152074300:Nat:=0
def tw5046109946397292232:Nat:=0
def tw15822850004386990114:Nat:=0
def tw8410398826744185398:Nat:=0
def tw2492039585370721697:Nat:=0
def tw4894653540153798660:Nat:=0
def tw2298151515949405399:Nat:=0
def tw11797555037369261895:Nat:=0
def tw4999601584320247312:Nat:=0
end PySem.W.Fast
open PySem PySem.W PyProof.Rows
set_option maxRecDepth 100000 in
set_option maxHeartbeats 0 in
theorem PySem.Challenge.cw_decidebook_k40_counting_refused_holds : PySem.Challenge.rw_decidebook_k40_counting_refused.Holds := by
  w_on;o_law;k_head;(case hw => w_witness2)
  k_fill
  refine L2.zkc (l := PySem.Challenge.rw_decidebook_k40_counting_refused) (n := 63) (k := 60) (x := "script") (CX := L2.yd) (sp := WX.zin) rfl (by decide) rfl (by first | exact⟨rfl, by decide, by decide⟩ | exact⟨rfl, rfl, by decide, by decide⟩) (fun w h Y => PySem.W.kIn_of Y) ?F ?S ?C
  case F =>
    intro w mg fa h KX G hmg
    have T : ∃a, K40.Txt PySem.Challenge.rw_decidebook_k40_counting_refused.prog w (L2.KOf KX) mg a := by
      dsimp only[L2.KOf]
      apply K40.zqv
      constructor
      iterate 12 ((try dsimp only);apply mg_of KX G;k_is)
      iterate 57 ((try dsimp only);apply L2.dfm KX G;k_is;k_is;k_is;k_is;intro _ _ _ _ _ _ us hl;first|(have z:=L2.Nf hl;subst z;rfl)|(obtain⟨_,us,e,hm⟩:=L2.Ka hl;clear hl;subst e;have hl:=hm;clear hm;first|(have z:=L2.Nf hl;subst z;rfl)|(obtain⟨_,us,e,hm⟩:=L2.Ka hl;clear hl;subst e;have hl:=hm;clear hm;first|(have z:=L2.Nf hl;subst z;rfl)|(obtain⟨_,us,e,hm⟩:=L2.Ka hl;clear hl;subst e;have hl:=hm;clear hm;first|(have z:=L2.Nf hl;subst z;rfl)|(obtain⟨_,us,e,hm⟩:=L2.Ka hl;clear hl;subst e;have hl:=hm;clear hm;first|(have z:=L2.Nf hl;subst z;rfl)|(obtain⟨_,us,e,hm⟩:=L2.Ka hl;clear hl;subst e;have hl:=hm;clear hm;first|(have z:=L2.Nf hl;subst z;rfl)|(obtain⟨_,us,e,hm⟩:=L2.Ka hl;clear hl;subst e;have hl:=hm;clear hm;first|(have z:=L2.Nf hl;subst z;rfl)|(obtain⟨_,us,e,hm⟩:=L2.Ka hl;clear hl;subst e;have hl:=hm;clear hm;(have z:=L2.Nf hl;subst z;rfl)))))))))
      iterate 12 ((try dsimp only);apply L2.dmm;k_is;k_is;k_is;k_is;k_is;intro _ _ _ _ _ _ us hl;first|(have z:=L2.Nf hl;subst z;rfl)|(obtain⟨_,us,e,hm⟩:=L2.Ka hl;clear hl;subst e;have hl:=hm;clear hm;first|(have z:=L2.Nf hl;subst z;rfl)|(obtain⟨_,us,e,hm⟩:=L2.Ka hl;clear hl;subst e;have hl:=hm;clear hm;first|(have z:=L2.Nf hl;subst z;rfl)|(obtain⟨_,us,e,hm⟩:=L2.Ka hl;clear hl;subst e;have hl:=hm;clear hm;first|(have z:=L2.Nf hl;subst z;rfl)|(obtain⟨_,us,e,hm⟩:=L2.Ka hl;clear hl;subst e;have hl:=hm;clear hm;first|(have z:=L2.Nf hl;subst z;rfl)|(obtain⟨_,us,e,hm⟩:=L2.Ka hl;clear hl;subst e;have hl:=hm;clear hm;first|(have z:=L2.Nf hl;subst z;rfl)|(obtain⟨_,us,e,hm⟩:=L2.Ka hl;clear hl;subst e;have hl:=hm;clear hm;first|(have z:=L2.Nf hl;subst z;rfl)|(obtain⟨_,us,e,hm⟩:=L2.Ka hl;clear hl;subst e;have hl:=hm;clear hm;(have z:=L2.Nf hl;subst z;rfl)))))))))
      iterate 2 ((try dsimp only);constructor;k_is;k_is;k_is;k_is)
      iterate 4 ((try dsimp only);unfold L2.WW;k_is)
      iterate 10 ((try dsimp only);apply L2.zmI;k_is;k_is)
      iterate 8 ((try dsimp only);apply L2.zmK;k_exc;k_is;k_is;k_is;rfl)
      (try dsimp only);apply L2.zmJ;k_is;k_is;k_is
      (try dsimp only);refine of_decide_eq_true ?_;rfl
      (try dsimp only);apply mg_none_of KX G;k_is
      (try dsimp only);apply mg_of KX G;k_is
      (try dsimp only);apply L2.zmc;k_is;rfl;decide
      iterate 3 ((try dsimp only);apply mg_of KX G;k_is)
      (try dsimp only);apply L2.zoh;k_is;rfl;(unfold K40.wI;decide +kernel);(unfold K40.wI;iterate 10 (apply L2.Ent.cons;k_is;rfl));apply L2.Ent.nil
      iterate 2 ((try dsimp only);apply mg_of KX G;k_is)
      iterate 15 ((try dsimp only);apply mg_none_of KX G;k_is)
    obtain⟨a, T⟩ := T
    have e0 := hmg.symm.trans T.f_law.m
    cases e0
    exact⟨_, K40.x_law T.f_law, fun base kb nb => K40.zm3 T base⟩
  case S => exact fun K H a ns hl hO hS => ⟨a, ns, rfl, hS, hl, fun _ => rfl⟩
  case C => exact fun _ _ _ _ h => h
