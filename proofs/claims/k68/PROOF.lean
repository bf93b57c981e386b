import PyProof.Rows.All
import Wide.All
import OpenK.AllK
import Wide.FinOn
import Lean
import PyProof.EqAt
import PyProof.EqKinds
import PyProof.TupleCall
import KE.KRevIter
import OpenK.KOwn
import PyProof.Draws
import PyProof.EnumMake
import PyProof.StrBlockI
import PyProof.StrBlock2
import PyProof.DictValues
import PyProof.DictWalks
import PySem.Challenge.RW_decidebook_k68_covers_refused
open PySem.W (Frag nsIn mg_of findIn mg_none_of)
def zti:=@List.length_map
def ztj:=@List.getElem?_eq_getElem
def ztk:=@List.getElem?_map
def ztl:=@List.getElem?_eq_some_iff
def ztm:=@Bool.false_ne_true
def ztn:=@List.mem_of_getElem?
def zto:=@PySem.Heap.get?_push_of_some
def ztp:=@PySem.Heap.lt_size
def ztq:=@List.length_append
def ztr:=@Nat.lt_of_lt_of_le
def zts:=@List.size_toArray
def ztt:=@List.mem_cons_of_mem
def ztu:=@List.length_cons
def ztv:=@List.getD_eq_getElem?_getD
def ztw:=@List.map_append
def ztx:=@Nat.ne_of_lt
def zty:=@Nat.le_refl
def ztz:=@List.mem_append_right
def ztA:=@List.length_range
def ztB:=@Nat.le_of_lt
def ztC:=@List.mem_cons_self
def ztD:=@PySem.Heap.get?_push_size
def ztE:=@Nat.le_trans
def ztF:=@Nat.zero_le
def ztG:=@List.length_take
def ztH:=@List.map_cons
def ztI:=@List.lookup_cons
def ztJ:=@List.not_mem_nil
def ztK:=@Bool.and_eq_true
def ztL:=@List.take_length
def ztM:=@List.all_eq_true
def ztN:=@Option.some.inj
def ztO:=@Nat.pow_le_pow_right
def ztP:=@List.getElem?_append_left
def ztQ:=@List.length_singleton
def ztR:=@List.length_filter_le
def ztS:=@Nat.le_add_right
def ztT:=@List.map_map
def ztU:=@List.filter_append
def ztV:=@Int.emod_lt_of_pos
def ztW:=@Bool.eq_iff_iff
def ztX:=@List.getElem_of_mem
def ztY:=@Int.emod_nonneg
set_option Elab.async false
set_option linter.all false
set_option maxRecDepth 100000
namespace L2
open PySem PySem.Spec PyProof.Rows
abbrev Key:=Sum Int Str
def zb1:Key->Value->Bool
 | .inl k,v=>Value.isInt k v
 | .inr x,v=>Value.isStrOf x v
def zpu (w:World):Key->Int
 | .inl k=>hashInt k
 | .inr x=>hashStr w x
theorem xH:∀{k:Key} {v:Value},zb1 k v=true->(∃i t,k=Sum.inl i/\v=Value.int i t)\/(∃x t,k=Sum.inr x/\v=Value.str x t)
 | .inl i,v,h=>by
  obtain⟨t,e⟩:=Value.isInt_shape (k:=i) (v:=v) h
  exact .inl ⟨i,t,rfl,e⟩
 | .inr x,v,h=>by
  obtain⟨t,e⟩:=Value.isStrOf_shape (x:=x) (v:=v) h
  exact .inr ⟨x,t,rfl,e⟩
theorem zhy (i:Int)(t:Tok):zb1 (.inl i) (.int i t)=true:=by simp[zb1,Value.isInt]
theorem zhz (x:Str)(t:Tok):zb1 (.inr x) (.str x t)=true:=by simp[zb1,Value.isStrOf]
theorem zl3 (a b:Int):decide ((Sum.inl a:Key)=Sum.inl b)=(a==b):=by
 by_cases e:a=b
 ·subst e;simp
 ·have h:¬(Sum.inl a:Key)=Sum.inl b:=fun q=>e (Sum.inl.inj q)
  rw[decide_eq_false h]
  exact(beq_eq_false_iff_ne.mpr e).symm
theorem zl4 (a b:Str):decide ((Sum.inr a:Key)=Sum.inr b)=decide (a=b):=by
 by_cases e:a=b
 ·subst e;simp
 ·have h:¬(Sum.inr a:Key)=Sum.inr b:=fun q=>e (Sum.inr.inj q)
  rw[decide_eq_false h,decide_eq_false e]
theorem zl5 (a:Int)(b:Str):decide ((Sum.inl a:Key)=Sum.inr b)=false:=decide_eq_false (fun q=>nomatch q)
theorem zl6 (a:Str)(b:Int):decide ((Sum.inr a:Key)=Sum.inl b)=false:=decide_eq_false (fun q=>nomatch q)
def yp (prog:Program)(w:World):PySem.KeyKind prog w Key where
 is:=zb1
 hash:=zpu w
 inj:=fun v a b ha hb=>by
  rcases xH ha with ⟨i,t,rfl,rfl⟩ | ⟨x,t,rfl,rfl⟩
  ·rcases xH hb with ⟨j,u,rfl,e⟩ | ⟨y,u,rfl,e⟩
   ·injection e with e1 _;rw[e1]
   ·exact nomatch e
  ·rcases xH hb with ⟨j,u,rfl,e⟩ | ⟨y,u,rfl,e⟩
   ·exact nomatch e
   ·injection e with e1 _;rw[e1]
 byValue:=fun k v h=>by
  rcases xH h with ⟨i,t,rfl,rfl⟩ | ⟨x,t,rfl,rfl⟩<;>rfl
 pyHash:=fun hv h=>by
  rcases xH hv with ⟨i,t,rfl,rfl⟩ | ⟨x,t,rfl,rfl⟩
  ·exact wpAny_pyHash_int h
  ·exact wpAny_pyHash_str h
 eqBool:=fun hu hv h=>by
  rcases xH hu with ⟨i,t,rfl,rfl⟩ | ⟨x,t,rfl,rfl⟩
  ·rcases xH hv with ⟨j,u,rfl,rfl⟩ | ⟨y,u,rfl,rfl⟩
   ·rw[zl3] at h;exact wpAny_eqBool_int h
   ·rw[zl5] at h;exact SeqAt.EqAt.int_str i t y u _ _ _ _ h
  ·rcases xH hv with ⟨j,u,rfl,rfl⟩ | ⟨y,u,rfl,rfl⟩
   ·rw[zl6] at h;exact SeqAt.EqAt.str_int x t j u _ _ _ _ h
   ·rw[zl4] at h;exact wpAny_eqBool_str h
 «strs»:=fun k x t v h=>by
  rcases xH h with ⟨i,u,rfl,e⟩ | ⟨y,u,rfl,e⟩
  ·exact nomatch e
  ·injection e with e1 _
   subst e1
   cases v<;>rfl
theorem zdQ (prog:Program)(w:World)(i:Int)(t:Tok):(yp prog w).is (.inl i) (.int i t)=true:=zhy i t
theorem zdR (prog:Program)(w:World)(x:Str)(t:Tok):(yp prog w).is (.inr x) (.str x t)=true:=zhz x t
inductive V where
 | non | bl (b:Bool) | int (i:Int) | str (x:Str) | byt (b:Array UInt8) | flt (b:UInt64) | ref (a:Addr) | ty (n:String)
 deriving DecidableEq
def RelV:V->Value->Prop
 | .non,u=>u=Value.none
 | .bl b,u=>u=Value.bool b
 | .int i,u=>∃t,u=Value.int i t
 | .str x,u=>∃t,u=Value.str x t
 | .byt b,u=>∃t,u=Value.bytes b t
 | .flt b,u=>∃t,u=Value.float b t
 | .ref a,u=>u=Value.ref a
 | .ty n,u=>u=Value.type n
abbrev Vals:List V->List Value->Prop:=Paired RelV
theorem Vals.length {xs:List V}{us:List Value}(r:Vals xs us):xs.length=us.length:=Paired.length r
theorem Vals.get:∀{xs:List V} {us:List Value} {i:Nat} {x:V},Vals xs us->xs[i]?=some x->∃u,us[i]?=some u/\RelV x u
 | _,_,_,_,.nil,e=>by simp at e
 | _,_,0,_,.cons r _,e=>by simp at e;subst e;exact⟨_,rfl,r⟩
 | _,_,i+1,x,.cons _ t,e=>by
  obtain⟨u,h1,h2⟩:=Vals.get (i:=i) (x:=x) t (by simpa using e)
  exact⟨u,by simpa using h1,h2⟩
theorem Vals.set {x:V}{u:Value}(r:RelV x u):∀{xs:List V} {us:List Value} (i:Nat),Vals xs us->Vals (xs.set i x) (us.set i u)
 | _,_,_,.nil=>.nil
 | _,_,0,.cons _ t=>.cons r t
 | _,_,i+1,.cons q t=>.cons q (Vals.set r i t)
theorem Vals.append:∀{xs ys:List V} {us ws:List Value},Vals xs us->Vals ys ws->Vals (xs++ys) (us++ws)
 | _,_,_,_,.nil,s=>s
 | _,_,_,_,.cons r t,s=>.cons r (Vals.append t s)
theorem Vals.take:∀{xs:List V} {us:List Value} (n:Nat),Vals xs us->Vals (xs.take n) (us.take n)
 | _,_,0,_=>.nil
 | _,_,_+1,.nil=>.nil
 | _,_,n+1,.cons r t=>.cons r (Vals.take n t)
theorem Vals.drop:∀{xs:List V} {us:List Value} (n:Nat),Vals xs us->Vals (xs.drop n) (us.drop n)
 | _,_,0,r=>r
 | _,_,_+1,.nil=>.nil
 | _,_,n+1,.cons _ t=>Vals.drop n t
def Ss:Option V->Option Value->Prop
 | some v,some u=>RelV v u
 | none,none=>True
 | _,_=>False
def KV {κ:Type}:List (κ×V)->List (κ×Value)->Prop:=Paired fun(p:κ×V) (q:κ×Value)=>p.1=q.1/\RelV p.2 q.2
def kV:Key->V
 | .inl i=>.int i
 | .inr x=>.str x
inductive HO where
 | lst (xs:List V)
 | tup (xs:List V)
 | dK (kvs:List (Key×V)) | dT (kvs:List (List Key×V))
 | set (S:Int->Bool) (n:Nat)
 | ins (C dx:Addr) (fs:List (Str×V))
 | own (x:Addr)
 | xd (fs:List (Str×V))
 | met (f x:Addr)
 | rng (lo hi:Int)
 | frz (o:Obj) (u:HO)
 | tbl (ps:Array Value)
 | ext (φ:Heap->Prop)
abbrev Hp:=Addr->Option HO
def upd (H:Hp)(a:Addr)(o:HO):Hp:=fun b=>if b=a then some o else H b
theorem zj {H:Hp}{a:Addr}{o:HO}:upd H a o a=some o:=by unfold upd;rw[if_pos rfl]
theorem zE {H:Hp}{a b:Addr}{o:HO}(h:b≠a):upd H a o b=H b:=by unfold upd;rw[if_neg h]
theorem zj2 {H:Hp}{a:Addr}{o u:HO}:upd (upd H a o) a u=upd H a u:=by
 funext b;unfold upd;split<;>rfl
theorem Sv {H:Hp}{a b:Addr}{o u:HO}(h:H a=some o)(h':H b=some u)(d:o≠u):a≠b:=by
 intro e;subst e;rw[h] at h';exact d (ztN h')
theorem zB {H:Hp}{a b:Addr}{o:HO}(h:H a=some o)(h':H b=none):a≠b:=by
 intro e;subst e;rw[h] at h';cases h'
section
variable (P:Program)(w:World)
def wH (H:Hp)(h:Heap)(a:Addr):HO->Prop
 | .lst xs=>xs.length<=sizeLine/\∃(its:List Value) (n:Nat),Vals xs its/\h.get? a=some { cls:=.type "list", data:=.seq its.toArray n }
 | .tup xs=>xs.length<=sizeLine/\∃its:List Value,Vals xs its/\IsTup h a its.toArray
 | .dK kvs=>kvs.length<=sizeLine/\(a==sysModules)=false/\∃vs,KV kvs vs/\h.DictOf (yp P w) a vs
 | .dT kvs=>kvs.length<=sizeLine/\(a==sysModules)=false/\∃xs:List (List Key×Addr×Value),
   Paired (fun(p:List Key×V) (q:List Key×Addr×Value)=>p.1=q.1/\H q.2.1=some (.tup (p.1.map kV))/\RelV p.2 q.2.2) kvs xs /\
   ∃o es ep,h.get? a=some o/\o.ExactDict/\o.data=.dict es ep/\es.toList=xs.map (entryOfKey (tupleKind (yp P w)))/\(xs.map (·.1)).Nodup
 | .set S n=>h.SetOf (intKind P w) a S n
 | .ins C dx fs=>H dx=some (.own a)/\fs.length<=1000/\dx≠a/\h.get? a=some (PySem.W.instObj C dx) /\
   ∃mA,h.Ns1 dx mA/\(∀f,Ss (fs.lookup f) (mA f))/\PySem.Within mA (fs.map (·.1))
 | .own _=>∃o,h.get? a=some o
 | .xd fs=>∃mA,h.Ns1 a mA/\∀f,Ss (fs.lookup f) (mA f)
 | .rng lo hi=>∃t u v,h.get? a=some { cls:=.type "range", data:=.fields #[.int lo t,.int hi u,.int 1 v] }
 | .frz o u=>h.get? a=some o/\wH H h a u
 | .tbl ps=>h.get? a=some { cls:=.none,data:=.fields ps }
 | .met f x=>h.get? a=some (PySem.W.methodObj (.ref f) (.ref x))
 | .ext φ=>φ h/\(∃o,h.get? a=some o)/\∀h1 h2:Heap,φ h1->(∀o,h1.get? a=some o->h2.get? a=some o)->φ h2
def TX (H:Hp)(h:Heap):Prop:=∀a o,H a=some o->wH P w H h a o
end
section
variable {P:Program}{w:World}{H H':Hp}{h h':Heap}{a:Addr}{o:HO}
theorem wH.lt (x:wH P w H h a o):a<h.objs.size:=by
 cases o with
 | lst xs=>obtain⟨_,_,_,_,e⟩:=x;exact ztp e
 | tup xs=>obtain⟨_,_,_,p⟩:=x;exact p.lt
 | dK kvs=>obtain⟨_,_,_,_,o,_,_,e,_⟩:=x;exact ztp e
 | dT kvs=>obtain⟨_,_,_,_,o,_,_,e,_⟩:=x;exact ztp e
 | set S n=>obtain⟨o,_,_,_,e,_⟩:=x;exact ztp e
 | ins C dx fs=>obtain⟨_,_,_,e,_⟩:=x;exact ztp e
 | own y=>obtain⟨_,e⟩:=x;exact ztp e
 | xd fs=>obtain⟨_,⟨_,_,_,e,_⟩,_⟩:=x;exact ztp e
 | rng lo hi=>obtain⟨_,_,_,e⟩:=x;exact ztp e
 | frz ob u=>obtain⟨e,_⟩:=x;exact ztp e
 | tbl ps=>exact ztp (show h.get? a=some _ from x)
 | met f y=>exact ztp (show h.get? a=some _ from x)
 | ext φ=>obtain⟨_,⟨_,e⟩,_⟩:=x;exact ztp e
theorem Paired.zl7 {α β:Type}{F G:α->β->Prop}:∀{l₁:List α} {l₂:List β},Paired F l₁ l₂->(∀a b,F a b->G a b)->Paired G l₁ l₂
 | _,_,.nil,_=>.nil
 | _,_,.cons r t,f=>.cons (f _ _ r) (Paired.zl7 t f)
theorem wH.stay (x:wH P w H h a o)(k:∀b u,(b=a\/H b=some (.own a))->h.get? b=some u->h'.get? b=some u)
  (ho:∀b,H b=some (.own a)->H' b=some (.own a))(ht:∀b xs,H b=some (.tup xs)->H' b=some (.tup xs)):wH P w H' h' a o:=by
 induction o with
 | lst xs=>obtain⟨z,its,n,r,e⟩:=x;exact⟨z,its,n,r,k _ _ (.inl rfl) e⟩
 | tup xs=>obtain⟨z,its,r,ob,e,c⟩:=x;exact⟨z,its,r,ob,k _ _ (.inl rfl) e,c⟩
 | dK kvs=>obtain⟨z,y,vs,r,ob,es,ep,e,c⟩:=x;exact⟨z,y,vs,r,ob,es,ep,k _ _ (.inl rfl) e,c⟩
 | dT kvs =>
  obtain⟨z,y,xs,r,ob,es,ep,e,c⟩:=x
  exact⟨z,y,xs,Paired.zl7 r fun p q z=>⟨z.1,ht _ _ z.2.1,z.2.2⟩,ob,es,ep,k _ _ (.inl rfl) e,c⟩
 | set S n=>obtain⟨ob,es,ep,t,e,c⟩:=x;exact⟨ob,es,ep,t,k _ _ (.inl rfl) e,c⟩
 | ins C dx fs =>
  obtain⟨d,z,ne,e,mA,⟨od,es,ep,e2,c⟩,r⟩:=x
  exact⟨ho _ d,z,ne,k _ _ (.inl rfl) e,mA,⟨od,es,ep,k _ _ (.inr d) e2,c⟩,r⟩
 | own y=>obtain⟨ob,e⟩:=x;exact⟨ob,k _ _ (.inl rfl) e⟩
 | xd fs=>obtain⟨mA,⟨od,es,ep,e,c⟩,r⟩:=x;exact⟨mA,⟨od,es,ep,k _ _ (.inl rfl) e,c⟩,r⟩
 | rng lo hi=>obtain⟨t,u,v,e⟩:=x;exact⟨t,u,v,k _ _ (.inl rfl) e⟩
 | frz ob u ih=>obtain⟨e,q⟩:=x;exact⟨k _ _ (.inl rfl) e,ih q⟩
 | tbl ps =>
  have e:h.get? a=some { cls:=.none,data:=.fields ps }:=x
  show h'.get? a=some { cls:=.none,data:=.fields ps }
  exact k a _ (.inl rfl) e
 | met f y =>
  have e:h.get? a=some (PySem.W.methodObj (.ref f) (.ref y)):=x
  show h'.get? a=some (PySem.W.methodObj (.ref f) (.ref y))
  exact k a _ (.inl rfl) e
 | ext φ=>obtain⟨p,⟨o,e⟩,st⟩:=x;exact⟨st _ _ p fun o q=>k _ _ (.inl rfl) q,⟨o,k _ _ (.inl rfl) e⟩,st⟩
theorem TX.lt (x:TX P w H h)(e:H a=some o):a<h.objs.size:=(x a o e).lt
theorem TX.fresh (x:TX P w H h)(e:h.objs.size<=a):H a=none:=by
 cases q:H a with
 | none=>rfl
 | some u=>exact absurd (ztr (x.lt q) e) (Nat.lt_irrefl _)
theorem TX.kept (x:TX P w H h)(k:∀b u,h.get? b=some u->h'.get? b=some u):TX P w H h':=fun a o e =>
 (x a o e).stay (fun b u _ q=>k b u q) (fun _ q=>q) fun _ _ q=>q
theorem TX.laid (x:TX P w H h)(k:∀b u,h.get? b=some u->h'.get? b=some u)(hp:h.objs.size<=a)(new:wH P w (upd H a o) h' a o):TX P w (upd H a o) h':=fun b u e=>by
 have hn:=x.fresh hp
 by_cases hb:b=a
 ·subst hb;rw[zj] at e;cases e;exact new
 ·rw[zE hb] at e
  exact(x b u e).stay (fun c v _ q=>k c v q) (fun c q=>by rw[zE (zB q hn)];exact q) fun c xs q=>by rw[zE (zB q hn)];exact q
end
def Rd (H:Hp)(a:Addr)(u:HO):Prop:=H a=some u\/∃o,H a=some (.frz o u)
theorem Rd.ok {P:Program}{w:World}{H:Hp}{h:Heap}{a:Addr}{u:HO}(r:Rd H a u)(x:TX P w H h):wH P w H h a u:=by
 rcases r with r | ⟨o,r⟩
 ·exact x a u r
 ·obtain⟨_,q⟩:=x a _ r
  exact q
def Mut:Option HO->Prop
 | some (.lst _)=>True
 | some (.dK _)=>True
 | some (.dT _)=>True
 | some (.set _ _)=>True
 | some (.ins _ _ _)=>True
 | some (.ext _)=>True
 | _=>False
section
variable {P:Program}{w:World}{H:Hp}{h h':Heap}{x e:Addr}{o':HO}
theorem TX.write (ok:TX P w H h)(mu:Mut (H x))(he:e=x\/H e=some (.own x))(k:∀b u,b≠e->h.get? b=some u->h'.get? b=some u)(heo:∃u,h'.get? e=some u)
  (new:wH P w (upd H x o') h' x o'):TX P w (upd H x o') h':=fun b u q=>by
 have znG:∀c y,H c=some (.own y)->c≠x:=fun c y r z=>by subst z;rw[r] at mu;exact mu
 have zpv:∀c xs,H c=some (.tup xs)->c≠x:=fun c xs r z=>by subst z;rw[r] at mu;exact mu
 by_cases hb:b=x
 ·subst hb;rw[zj] at q;cases q;exact new
 ·rw[zE hb] at q
  by_cases hbe:b=e
  ·have q':H b=some (.own x):=by
    rcases he with z | z
    ·exact absurd (hbe.trans z) hb
    ·rw[hbe];exact z
   rw[q] at q';cases q'
   obtain⟨v,hv⟩:=heo
   exact⟨v,by rw[hbe];exact hv⟩
  ·refine(ok b u q).stay (fun c v hc r=>k c v ?_ r) (fun c r=>by rw[zE (znG c b r)];exact r) fun c xs r=>by rw[zE (zpv c xs r)];exact r
   rcases hc with rfl | hc
   ·exact hbe
   ·rintro rfl
    rcases he with z | z
    ·exact znG c b hc z
    ·rw[hc] at z;cases z;exact hb rfl
end
structure Un (fs ex:List Addr)(H H':Hp)(h h':Heap):Prop where
 keep:∀b o,h.get? b=some o->H b=none->b∉fs->b∉ex->h'.get? b=some o
 slot:∀b o,h.get? b=some o->H b=none->b∈fs->b∉ex->∃sl,h'.get? b=some { o with slots:=sl }
 free:∀b o,h.get? b=some o->H b=none->b∉ex->H' b=none
 there:∀b o,h.get? b=some o->b∉ex->∃o',h'.get? b=some o'
 tups:∀b xs,H b=some (.tup xs)->H' b=some (.tup xs)
 Nm:∀b o u,H b=some (.frz o u)->H' b=some (.frz o u)
 Kd:∀b ps,H b=some (.tbl ps)->∃more,H' b=some (.tbl (ps++more))
section
variable {fs fs' ex ex':List Addr}{H H1 H2:Hp}{h h1 h2 h':Heap}{a x e:Addr}{o:HO}
theorem Un.any (u:Un fs ex H H1 h h1){b:Addr}{ob:Obj}(q:h.get? b=some ob)(n:H b=none)(hx:b∉ex):∃sl,h1.get? b=some { ob with slots:=sl }:=by
 by_cases hb:b∈fs
 ·exact u.slot b ob q n hb hx
 ·exact⟨ob.slots,u.keep b ob q n hb hx⟩
theorem Un.kept (k:∀b u,h.get? b=some u->h'.get? b=some u):Un fs ex H H h h' :=
 ⟨fun b ob q _ _ _=>k b ob q,fun b ob q _ _ _=>⟨ob.slots,k b ob q⟩,fun _ _ _ n _=>n,fun b ob q _=>⟨ob,k b ob q⟩,fun _ _ q=>q,fun _ _ _ q=>q,fun _ ps q=>⟨#[],by rw[q];simp⟩⟩
theorem Un.refl:Un fs ex H H h h:=Un.kept fun _ _ q=>q
theorem Un.laid (k:∀b u,h.get? b=some u->h'.get? b=some u)(hp:h.objs.size<=a)(hn:H a=none):Un fs ex H (upd H a o) h h' where
 keep:=fun b u q _ _ _=>k b u q
 slot:=fun b u q _ _ _=>⟨u.slots,k b u q⟩
 free:=fun b u q n _=>by rw[zE (ztx (ztr (ztp q) hp))];exact n
 there:=fun b u q _=>⟨u,k b u q⟩
 tups:=fun b xs q=>by rw[zE (zB q hn)];exact q
 Nm:=fun b u xs q=>by rw[zE (zB q hn)];exact q
 Kd:=fun b ps q=>⟨#[],by rw[zE (zB q hn),q];simp⟩
theorem Un.write (mu:Mut (H x))(he:e=x\/H e=some (.own x))(k:∀b u,b≠e->h.get? b=some u->h'.get? b=some u)(heo:∃u,h'.get? e=some u):Un fs ex H (upd H x o) h h':=by
 have hx:∀b,H b=none->b≠x:=fun b n z=>by subst z;rw[n] at mu;exact mu
 have hb:∀b,H b=none->b≠e:=fun b n z=>by
  subst z
  rcases he with r | r
  ·exact hx b n r
  ·rw[n] at r;cases r
 have hm:∀b u,H b=some u->¬Mut (some u)->b≠x:=fun b u q nm z=>by subst z;rw[q] at mu;exact nm mu
 refine⟨fun b u q n _ _=>k b u (hb b n) q,fun b u q n _ _=>⟨u.slots,k b u (hb b n) q⟩,fun b u q n _=>by rw[zE (hx b n)];exact n,fun b u q _=>?_,
  fun b xs q=>by rw[zE (hm b _ q fun z=>z)];exact q,fun b u xs q=>by rw[zE (hm b _ q fun z=>z)];exact q,fun b ps q=>⟨#[],by rw[zE (hm b _ q fun z=>z),q];simp⟩⟩
 by_cases hbe:b=e
 ·subst hbe;exact heo
 ·exact⟨u,k b u hbe q⟩
end
def trk (h:Heap)(H:Hp):List Addr:=(List.range h.objs.size).filter fun a=>(H a).isSome
def zcJ (h:Heap)(H:Hp):Heap:=PySem.W.hideAll h (trk h H)
theorem zhA (h:Heap)(H:Hp):(zcJ h H).objs.size=h.objs.size:=PySem.W.hideAll_size _ _
theorem zio {h:Heap}{H:Hp}{b:Addr}{o:Obj}(e:h.get? b=some o)(n:H b=none):(zcJ h H).get? b=some o :=
 PySem.W.hideAll_get _ e fun hm=>by
  have q:(H b).isSome=true:=(List.mem_filter.mp hm).2
  rw[n] at q;simp at q
theorem zj4 {h:Heap}{H:Hp}{b:Addr}{o:Obj}(e:(zcJ h H).get? b=some o):h.get? b=some o/\H b=none:=by
 have e':h.get? b=some o:=PySem.W.of_hideAll (trk h H) e
 refine⟨e',?_⟩
 cases q:H b with
 | none=>rfl
 | some x =>
  have hm:b∈trk h H:=List.mem_filter.mpr ⟨List.mem_range.mpr (ztp e'),by simp[q]⟩
  have z:(zcJ h H).get? b=none:=PySem.W.hideAll_none (trk h H) hm
  rw[z] at e;cases e
structure Mod (K:Frag)(mg:Str->Option Value)(base:Heap):Prop where
 kin:K.In base
 glob:base.Ns mainGlobals mg
 blt:∃mb,base.Ns builtinsNs mb/\∀x:Str,x ≠ "__name__" -> mb x=bootBuiltins x
 nolimit:base.NoLimit
structure Cx where
 prog:Program
 w:World
 K:Frag
 mg:Str->Option Value
 base:Heap
 A:Around
 N:List Str
 s₀:Shared
 H₀:Hp
 env:Env
 outer:List Env
 stack:List Env
 ex:List Addr
 fn:Str->Bool
 calm:Bool
 pn:List (Addr×Obj)
 xe:Value->Shared->Prop
def frs (l:List Env):List Addr:=l.filterMap (·.frame)
abbrev Cx.fs (X:Cx):List Addr:=frs X.outer
def Vis (sc:Scope)(x:Str):Prop:=sc.names.lookup x=some .local\/sc.names.lookup x=some .cell\/sc.names.lookup x=some .free
def Loc (sc:Scope)(x:Str):Prop:=sc.names.lookup x=some .local\/sc.names.lookup x=some .cell
def Look (env:Env)(h:Heap)(m:Str->Option Value)(x:Str)(u:Value):Prop :=
 (env.kindOf x=some .local/\m x=some u)\/((env.kindOf x=some .cell\/env.kindOf x=some .free)/\∃c,env.cells.lookup x=some c/\h.IsCell c (some u))
structure Cx.Ok (X:Cx):Prop where
 mod:Mod X.K X.mg X.base
 kind:X.env.scope.kind=.function
 glob:X.env.globals=mainGlobals
 blt:X.env.builtins=builtinsNs
 above:X.s₀.heap.objs.size<=X.env.locals
 inj:∀x y c,X.env.cells.lookup x=some c->X.env.cells.lookup y=some c->x=y
 has:∀x,(X.env.kindOf x=some .cell\/X.env.kindOf x=some .free)->∃c,X.env.cells.lookup x=some c
 cab:∀x c,X.fn x=true->X.env.cells.lookup x=some c->X.s₀.heap.objs.size<=c
 hd:X.calm=true->X.A.handled=none
 frames:X.A.frames=some X.stack
 stk:X.stack=X.outer\/(X.stack=X.env::X.outer/\X.env.frame=some X.env.locals)
 exf:∀b∈X.ex,b≠X.env.locals/\∀x c,X.env.cells.lookup x=some c->c≠b
 bs:∀b o,X.base.get? b=some o->X.s₀.heap.get? b=some o/\X.H₀ b=none
 bsz:X.base.objs.size<=X.s₀.heap.objs.size
 zdS:∀b o,X.base.get? b=some o->b∉X.ex
 zdT:∀b∈X.ex,b∉X.fs
 Qp:X.s₀.heap.FunFrames X.base X.outer
 frf:∀b∈X.fs,X.H₀ b=none
structure Inv (X:Cx)(pins:List (Addr×Obj))(σ:List (Option V))(H:Hp)(s:Shared):Prop where
 ok:X.Ok
 os:s.os=X.s₀.os
 bare:AllBare s.gens
 base:Un X.fs X.ex X.H₀ H X.s₀.heap s.heap
 loc:∃m,s.heap.Ns X.env.locals m/\∀(i:Nat) (x:Str) (v:V),X.N[i]?=some x->σ[i]?=some (some v)->Vis X.env.scope x->∃u,RelV v u/\Look X.env s.heap m x u
 cell:∀x c,X.env.cells.lookup x=some c->∃v,s.heap.IsCell c v
 free:H X.env.locals=none
 Y4:∀x c,X.env.cells.lookup x=some c->H c=none
 pin:∀p∈X.pn++pins,s.heap.get? p.1=some p.2/\H p.1=none/\p.1≠X.env.locals/\p.1∉X.fs/\∀v,p.2.data≠.cell v
 hok:TX X.prog X.w H s.heap
 len:σ.length=X.N.length
section
variable {X:Cx}{pins:List (Addr×Obj)}{σ:List (Option V)}{H H':Hp}{s:Shared}{h':Heap}
theorem Cx.Ok.zpw (ok:X.Ok){b:Addr}{o:Obj}(e:X.base.get? b=some o):b∉X.fs:=fun hb=>by
 have:=(ok.Qp.mem hb).1
 rw[e] at this;cases this
theorem Inv.bs (I:Inv X pins σ H s):∀b o,X.base.get? b=some o->s.heap.get? b=some o/\H b=none:=fun b o e =>
 ⟨I.base.keep b o (I.ok.bs b o e).1 (I.ok.bs b o e).2 (I.ok.zpw e) (I.ok.zdS b o e),I.base.free b o (I.ok.bs b o e).1 (I.ok.bs b o e).2 (I.ok.zdS b o e)⟩
theorem Inv.bk (I:Inv X pins σ H s):∀b o,X.base.get? b=some o->s.heap.get? b=some o:=fun b o e=>(I.bs b o e).1
theorem Inv.mod (I:Inv X pins σ H s):Mod X.K X.mg X.base:=I.ok.mod
theorem Inv.Qq (I:Inv X pins σ H s):X.K.In s.heap:=I.ok.mod.kin.keeps I.bk
theorem Inv.lt (I:Inv X pins σ H s):X.env.locals<s.heap.objs.size:=let ⟨_,hn,_⟩:=I.loc;hn.lt
theorem Inv.sz (I:Inv X pins σ H s):X.s₀.heap.objs.size<=s.heap.objs.size:=ztE I.ok.above (ztB I.lt)
theorem Inv.zl9 (I:Inv X pins σ H s){a:Addr}(h:s.heap.objs.size<=a):a∉X.fs:=fun hb=>by
 obtain⟨_,o,ho,_⟩:=I.ok.Qp.mem hb
 exact absurd (ztr (ztp ho) (ztE I.sz h)) (Nat.lt_irrefl _)
theorem Inv.cne (I:Inv X pins σ H s):∀x c,X.env.cells.lookup x=some c->c≠X.env.locals:=fun x c e z=>by
 obtain⟨v,o,ho,hd⟩:=I.cell x c e
 obtain⟨m,⟨o',es,ep,ho',hd',_⟩,_⟩:=I.loc
 rw[z,ho'] at ho;cases ho;rw[hd'] at hd;cases hd
theorem Inv.Qp (I:Inv X pins σ H s):s.heap.FunFrames X.base X.outer:=by
 have all:∀(l:List Env),(∀b∈frs l,b∈X.fs)->X.s₀.heap.FunFrames X.base l->s.heap.FunFrames X.base l:=by
  intro l
  induction l with
  | nil=>intro _ _;trivial
  | cons env r ih =>
   intro hs hl
   obtain⟨hk,⟨L,o,hf,hn,ho,hd⟩,hr⟩:=hl
   have hL:L∈X.fs:=hs L (by unfold frs;rw[List.filterMap_cons,hf];exact ztC)
   obtain⟨sl,e⟩:=I.base.slot L o ho (I.ok.frf L hL) hL fun z=>I.ok.zdT L z hL
   exact⟨hk,⟨L,_,hf,hn,e,hd⟩,ih (fun b hb=>hs b (by unfold frs;rw[List.filterMap_cons,hf];exact ztt _ hb)) hr⟩
 exact all X.outer (fun _ hb=>hb) I.ok.Qp
theorem Inv.stack (I:Inv X pins σ H s):s.heap.FunFrames X.base X.stack:=by
 rcases I.ok.stk with e | ⟨e,hf⟩
 ·rw[e];exact I.Qp
 ·rw[e]
  obtain⟨m,hn,_⟩:=I.loc
  refine .cons (by rw[I.ok.kind];decide) hf hn ?_ I.Qp
  exact Heap.get?_none_of_le (ztE I.ok.bsz I.ok.above)
theorem Inv.zay (I:Inv X pins σ H s):∀b∈frs X.stack,b∈X.env.locals::X.fs:=fun b hb=>by
 rcases I.ok.stk with e | ⟨e,hf⟩
 ·rw[e] at hb;exact ztt _ hb
 ·rw[e] at hb
  unfold frs at hb
  rw[List.filterMap_cons,hf] at hb
  exact hb
theorem Inv.zae (I:Inv X pins σ H s):∀b∈frs X.stack,H b=none:=fun b hb=>by
 rcases List.mem_cons.mp (I.zay b hb) with e | hb
 ·rw[e];exact I.free
 ·obtain⟨_,o,ho,_⟩:=I.ok.Qp.mem hb
  exact I.base.free b o ho (I.ok.frf b hb) fun z=>I.ok.zdT b z hb
theorem Inv.step {g':Array GenState}{t':Nat}{d':Drawn}{ch:List Addr}(I:Inv X pins σ H s)
  (hch:∀b∈ch,(b∈X.ex\/X.s₀.heap.objs.size<=b)/\b≠X.env.locals/\(∀x c,X.env.cells.lookup x=some c->c≠b)/\∀p∈X.pn++pins,p.1≠b)
  (keep:∀b o,b≠X.env.locals->b∉X.fs->b∉ch->s.heap.get? b=some o->H b=none->h'.get? b=some o)
  (slot:∀b o,b≠X.env.locals->b∈X.fs->b∉ch->s.heap.get? b=some o->H b=none->∃sl,h'.get? b=some { o with slots:=sl })(free:∀b o,b∉ch->s.heap.get? b=some o->H b=none->H' b=none)
  (there:∀b o,b∉ch->s.heap.get? b=some o->∃o',h'.get? b=some o')
  (tups:∀b xs,H b=some (.tup xs)->H' b=some (.tup xs))(Nm:∀b o u,H b=some (.frz o u)->H' b=some (.frz o u))(Kd:∀b ps,H b=some (.tbl ps)->∃more,H' b=some (.tbl (ps++more)))
  (ns:∀m,s.heap.Ns X.env.locals m->h'.Ns X.env.locals m)(hok:TX X.prog X.w H' h')(hg:AllBare g') :
  Inv X pins σ H' { s with heap:=h',gens:=g',drawn:=d',toks:=t' }:=by
 have neL:∀b o,X.s₀.heap.get? b=some o->b≠X.env.locals:=fun b o e=>ztx (ztr (ztp e) I.ok.above)
 have neC:∀b o,X.s₀.heap.get? b=some o->b∉X.ex->b∉ch:=fun b o e hx hb=>by
  rcases (hch b hb).1 with z | z
  ·exact hx z
  ·exact absurd (ztr (ztp e) z) (Nat.lt_irrefl _)
 have cellK:∀x c,X.env.cells.lookup x=some c->∀v,s.heap.IsCell c v->h'.IsCell c v:=fun x c e v ⟨o,ho,hd⟩=>by
  have nch:c∉ch:=fun z=>(hch c z).2.2.1 x c e rfl
  by_cases hc:c∈X.fs
  ·obtain⟨sl,q⟩:=slot c o (I.cne x c e) hc nch ho (I.Y4 x c e)
   exact⟨_,q,hd⟩
  ·exact⟨o,keep c o (I.cne x c e) hc nch ho (I.Y4 x c e),hd⟩
 refine⟨I.ok,I.os,hg,⟨fun b o e n hb hx=>?_,fun b o e n hb hx=>?_,fun b o e n hx=>?_,fun b o e hx=>?_,fun b xs e=>tups b xs (I.base.tups b xs e),fun b o xs e=>Nm b o xs (I.base.Nm b o xs e),fun b ps e=>?_⟩,?_,fun x c e=>?_,?_,fun x c e=>?_,fun p hp=>?_,hok,I.len⟩
 ·exact keep b o (neL b o e) hb (neC b o e hx) (I.base.keep b o e n hb hx) (I.base.free b o e n hx)
 ·obtain⟨sl,e1⟩:=I.base.slot b o e n hb hx
  obtain⟨sl',e2⟩:=slot b _ (neL b o e) hb (neC b o e hx) e1 (I.base.free b o e n hx)
  exact⟨sl',e2⟩
 ·obtain⟨o',e1⟩:=I.base.there b o e hx
  exact free b o' (neC b o e hx) e1 (I.base.free b o e n hx)
 ·obtain⟨o',e1⟩:=I.base.there b o e hx
  exact there b o' (neC b o e hx) e1
 ·obtain⟨m1,e1⟩:=I.base.Kd b ps e
  obtain⟨m2,e2⟩:=Kd b _ e1
  exact⟨m1++m2,by rw[e2,Array.append_assoc]⟩
 ·obtain⟨m,hn,hl⟩:=I.loc
  refine⟨m,ns m hn,fun i x v e1 e2 e3=>?_⟩
  obtain⟨u,r,l⟩:=hl i x v e1 e2 e3
  refine⟨u,r,?_⟩
  rcases l with l | ⟨k,c,e,z⟩
  ·exact .inl l
  ·exact .inr ⟨k,c,e,cellK x c e _ z⟩
 ·obtain⟨v,z⟩:=I.cell x c e
  exact⟨v,cellK x c e v z⟩
 ·obtain⟨m,⟨o,_,_,ho,_⟩,_⟩:=I.loc
  exact free _ o (fun z=>(hch _ z).2.1 rfl) ho I.free
 ·obtain⟨v,o,ho,hd⟩:=I.cell x c e
  exact free c o (fun z=>(hch c z).2.2.1 x c e rfl) ho (I.Y4 x c e)
 ·obtain⟨e,n,ne,nf,d⟩:=I.pin p hp
  have nch:p.1∉ch:=fun z=>(hch p.1 z).2.2.2 p hp rfl
  exact⟨keep p.1 p.2 ne nf nch e n,free p.1 p.2 nch e n,ne,nf,d⟩
theorem Inv.un {t':Nat}(I:Inv X pins σ H s)(u:Un X.fs [] H H' s.heap h')(hok:TX X.prog X.w H' h'):Inv X pins σ H' { s with heap:=h',toks:=t' }:=by
 obtain⟨m,⟨o,es,ep,ho,r⟩,_⟩:=id I.loc
 obtain⟨sl,hL⟩:=u.any ho I.free (by simp)
 exact I.step (g':=s.gens) (d':=s.drawn) (ch:=[]) (fun _ z=>nomatch z) (fun b o _ hb _ e n=>u.keep b o e n hb (by simp)) (fun b o _ hb _ e n=>u.slot b o e n hb (by simp)) (fun b o _ e n=>u.free b o e n (by simp)) (fun b o _ e=>u.there b o e (by simp)) u.tups u.Nm u.Kd (fun m' hm=>by
  obtain⟨o',es',ep',ho',r'⟩:=hm
  rw[ho] at ho';cases ho'
  exact⟨_,es',ep',hL,r'⟩) hok I.bare
theorem Inv.call {g':Array GenState}{t':Nat}{d':Drawn}{ch:List Addr}(I:Inv X pins σ H s)(u:Un (frs X.stack) ch H H' s.heap h')(hok:TX X.prog X.w H' h')(hg:AllBare g')
  (hch:∀b∈ch,(b∈X.ex\/X.s₀.heap.objs.size<=b)/\b≠X.env.locals/\(∀x c,X.env.cells.lookup x=some c->c≠b)/\∀p∈X.pn++pins,p.1≠b) :
  Inv X pins σ H' { s with heap:=h',gens:=g',drawn:=d',toks:=t' }:=by
 obtain⟨m,⟨o,es,ep,ho,r⟩,_⟩:=id I.loc
 obtain⟨sl,hL⟩:=u.any ho I.free fun z=>(hch _ z).2.1 rfl
 exact I.step (ch:=ch) hch (fun b o hL hb hc e n=>u.keep b o e n (fun z=>(List.mem_cons.mp (I.zay b z)).elim hL hb) hc) (fun b o _ _ hc e n=>u.any e n hc) (fun b o hc e n=>u.free b o e n hc) (fun b o hc e=>u.there b o e hc) u.tups u.Nm u.Kd (fun m' hm=>by
  obtain⟨o',es',ep',ho',r'⟩:=hm
  rw[ho] at ho';cases ho'
  exact⟨_,es',ep',hL,r'⟩) hok hg
theorem Inv.turned {t':Nat}{it:Addr}(I:Inv X pins σ H s)(k:∀b o,b≠it->s.heap.get? b=some o->h'.get? b=some o)(hn:H it=none)(hL:it≠X.env.locals)
  (h1:it∈X.ex\/X.s₀.heap.objs.size<=it)(h2:∀x c,X.env.cells.lookup x=some c->c≠it)(h3:∀p∈X.pn++pins,p.1≠it):Inv X pins σ H { s with heap:=h',toks:=t' }:=by
 have nit:∀b u,H b=some u->b≠it:=fun b u e z=>by rw[z,hn] at e;cases e
 refine I.step (g':=s.gens) (d':=s.drawn) (ch:=[it]) (fun b hb=>?_) (fun b o _ _ hc e _=>k b o (fun z=>hc (by simp[z])) e) (fun b o _ _ hc e _=>⟨o.slots,k b o (fun z=>hc (by simp[z])) e⟩) (fun _ _ _ _ n=>n)
  (fun b o hc e=>⟨o,k b o (fun z=>hc (by simp[z])) e⟩) (fun _ _ e=>e) (fun _ _ _ e=>e) (fun b ps e=>⟨#[],by rw[e];simp⟩) (fun m hm=>?_) (fun b u e=>?_) I.bare
 ·have e:b=it:=by simpa using hb
  subst e
  exact⟨h1,hL,h2,h3⟩
 ·obtain⟨o,es,ep,ho,r⟩:=hm
  exact⟨o,es,ep,k _ o (Ne.symm hL) ho,r⟩
 ·refine(I.hok b u e).stay (fun c v hc q=>k c v ?_ q) (fun _ q=>q) fun _ _ q=>q
  rcases hc with z | z
  ·rw[z];exact nit b u e
  ·exact nit c _ z
theorem Inv.tok (I:Inv X pins σ H s)(t:Nat):Inv X pins σ H { s with toks:=t }:=I.un (h':=s.heap) (t':=t) Un.refl I.hok
theorem Inv.kept {t':Nat}(I:Inv X pins σ H s)(k:∀b u,s.heap.get? b=some u->h'.get? b=some u):Inv X pins σ H { s with heap:=h',toks:=t' }:=I.un (Un.kept k) (I.hok.kept k)
theorem Inv.laid {a:Addr}{o:HO}{t':Nat}(I:Inv X pins σ H s)(k:∀b u,s.heap.get? b=some u->h'.get? b=some u)(hp:s.heap.objs.size<=a)(new:wH X.prog X.w (upd H a o) h' a o) :
  Inv X pins σ (upd H a o) { s with heap:=h',toks:=t' }:=I.un (Un.laid k hp (I.hok.fresh hp)) (I.hok.laid k hp new)
theorem Inv.write {x e:Addr}{o:HO}{t':Nat}(I:Inv X pins σ H s)(mu:Mut (H x))(he:e=x\/H e=some (.own x))(k:∀b u,b≠e->s.heap.get? b=some u->h'.get? b=some u)(heo:∃u,h'.get? e=some u)
  (new:wH X.prog X.w (upd H x o) h' x o):Inv X pins σ (upd H x o) { s with heap:=h',toks:=t' }:=I.un (Un.write mu he k heo) (I.hok.write mu he k heo new)
theorem Inv.Xn {pins':List (Addr×Obj)}(I:Inv X pins σ H s)(h:∀p∈pins',s.heap.get? p.1=some p.2/\H p.1=none/\p.1≠X.env.locals/\p.1∉X.fs/\∀v,p.2.data≠.cell v):Inv X pins' σ H s :=
 ⟨I.ok,I.os,I.bare,I.base,I.loc,I.cell,I.free,I.Y4,fun p hp=>(List.mem_append.mp hp).elim (fun z=>I.pin p (List.mem_append_left _ z)) (h p),I.hok,I.len⟩
theorem zaz {N:List Str}(hN:N.Nodup){i j:Nat}{x:Str}(a:N[i]?=some x)(b:N[j]?=some x):i=j:=by
 obtain⟨h1,e1⟩:=ztl.mp a
 obtain⟨h2,e2⟩:=ztl.mp b
 exact(List.getElem_inj hN).mp (e1.trans e2.symm)
theorem zhC {M:Model}{A:Around}{E:Value->Shared->Prop}{i:Nat}{x:Str}{v:V}{u:Value}{Q:Unit->Shared->Prop}(I:Inv X pins σ H s)(hN:X.N.Nodup)(hi:X.N[i]?=some x)(hx:Loc X.env.scope x)(r:RelV v u)
  (h:∀s',Inv X pins (σ.set i (some v)) H s'->(∃a,Heap.SameBut a s.heap s'.heap/\(a=X.env.locals\/X.env.cells.lookup x=some a))->Q () s')(hf:X.fn x=true\/X.env.scope.names.lookup x=some .local:=by first | exact .inl rfl | exact .inr rfl | assumption):wpAny M A (storeName X.env x u) Q E s:=by
 obtain⟨m,hn,hl⟩:=id I.loc
 have hcls:(X.env.scope.kind==.class||(X.env.scope.kind==.module&&X.env.locals != X.env.globals))=false:=by rw[I.ok.kind];rfl
 have hiσ:i < σ.length:=by rw[I.len];exact(ztl.mp hi).1
 have cne:=I.cne
 have tracked:∀{a:Addr} {h':Heap},(∃o,s.heap.get? a=some o/\H a=none)->Heap.SameBut a s.heap h'->TX X.prog X.w H h':=fun {a h'} ha hs b ob e=>by
  obtain⟨_,_,hfree⟩:=ha
  refine(I.hok b ob e).stay (fun c w' hc q=>(hs.2 c ?_).trans q) (fun _ q=>q) fun _ _ q=>q
  rintro rfl
  rcases hc with rfl | hc
  ·rw[hfree] at e;cases e
  ·rw[hfree] at hc;cases hc
 rcases hx with hk | hk
 ·refine wpAny_storeName_local hk hn (fun h' hn' hs=>?_) hcls
  obtain⟨oL,_,_,hoL,_⟩:=id hn
  refine h _ ⟨I.ok,I.os,I.bare,⟨fun b o e n hb hx=>?_,fun b o e n hb hx=>?_,I.base.free,fun b o e hx=>?_,I.base.tups,I.base.Nm,I.base.Kd⟩,⟨_,hn',fun j y v' e1 e2 e3=>?_⟩,fun y c e=>?_,I.free,I.Y4,fun p hp=>?_,tracked ⟨oL,hoL,I.free⟩ hs,by simpa using I.len⟩ ⟨_,hs,.inl rfl⟩
  ·exact(hs.2 b (ztx (ztr (ztp e) I.ok.above))).trans (I.base.keep b o e n hb hx)
  ·obtain⟨sl,e1⟩:=I.base.slot b o e n hb hx
   exact⟨sl,(hs.2 b (ztx (ztr (ztp e) I.ok.above))).trans e1⟩
  ·obtain⟨o',e1⟩:=I.base.there b o e hx
   exact⟨o',(hs.2 b (ztx (ztr (ztp e) I.ok.above))).trans e1⟩
  ·by_cases hj:j=i
   ·subst hj
    rw[hi] at e1;cases e1
    rw[List.getElem?_set_self hiσ] at e2
    cases e2
    exact⟨u,r,.inl ⟨hk,by simp⟩⟩
   ·rw[List.getElem?_set_ne (Ne.symm hj)] at e2
    obtain⟨u',r',q⟩:=hl j y v' e1 e2 e3
    refine⟨u',r',?_⟩
    rcases q with ⟨k,e⟩ | ⟨k,c,e,z⟩
    ·refine .inl ⟨k,?_⟩
     have:y≠x:=fun e=>hj (zaz hN e1 (e ▸ hi))
     simp[this,e]
    ·exact .inr ⟨k,c,e,z.sameBut hs (cne y c e)⟩
  ·obtain⟨w',z⟩:=I.cell y c e
   exact⟨w',z.sameBut hs (cne y c e)⟩
  ·obtain⟨e,n,ne,nf,d⟩:=I.pin p hp
   exact⟨(hs.2 p.1 ne).trans e,n,ne,nf,d⟩
 ·have hfn:X.fn x=true:=by
   rcases hf with z | z
   ·exact z
   ·rw[z] at hk;cases hk
  obtain⟨c,hc⟩:=I.ok.has x (.inl hk)
  obtain⟨w',z⟩:=I.cell x c hc
  refine wpAny_storeName_cell I.ok.kind hk hc z (fun h' hc' hs=>?_)
  obtain⟨oc,hoc,zpx⟩:=id z
  refine h { s with heap:=h' } ⟨I.ok,I.os,I.bare,⟨fun b o e n hb hx=>?_,fun b o e n hb hx=>?_,I.base.free,fun b o e hx=>?_,I.base.tups,I.base.Nm,I.base.Kd⟩,⟨m,hn.sameBut hs (Ne.symm (cne x c hc)),fun j y v' e1 e2 e3=>?_⟩,fun y c' e=>?_,I.free,I.Y4,fun p hp=>?_,tracked ⟨oc,hoc,I.Y4 x c hc⟩ hs,by simpa using I.len⟩ ⟨c,hs,.inr hc⟩
  ·exact(hs.2 b (ztx (ztr (ztp e) (I.ok.cab x c hfn hc)))).trans (I.base.keep b o e n hb hx)
  ·obtain⟨sl,e1⟩:=I.base.slot b o e n hb hx
   exact⟨sl,(hs.2 b (ztx (ztr (ztp e) (I.ok.cab x c hfn hc)))).trans e1⟩
  ·obtain⟨o',e1⟩:=I.base.there b o e hx
   exact⟨o',(hs.2 b (ztx (ztr (ztp e) (I.ok.cab x c hfn hc)))).trans e1⟩
  ·by_cases hj:j=i
   ·subst hj
    rw[hi] at e1;cases e1
    rw[List.getElem?_set_self hiσ] at e2
    cases e2
    exact⟨u,r,.inr ⟨.inl hk,c,hc,hc'⟩⟩
   ·rw[List.getElem?_set_ne (Ne.symm hj)] at e2
    obtain⟨u',r',q⟩:=hl j y v' e1 e2 e3
    refine⟨u',r',?_⟩
    rcases q with q | ⟨k,c',e,z'⟩
    ·exact .inl q
    ·refine .inr ⟨k,c',e,z'.sameBut hs ?_⟩
     rintro rfl
     exact hj (zaz hN e1 (I.ok.inj _ _ _ e hc ▸ hi))
  ·by_cases hcc:c'=c
   ·subst hcc;exact⟨_,hc'⟩
   ·obtain⟨w2,z2⟩:=I.cell y c' e
    exact⟨w2,z2.sameBut hs hcc⟩
  ·obtain⟨e,n,ne,nf,d⟩:=I.pin p hp
   refine⟨(hs.2 p.1 ?_).trans e,n,ne,nf,d⟩
   intro q
   rw[q,hoc] at e
   have q':oc=p.2:=ztN e
   exact d w' (by rw[<-q'];exact zpx)
theorem Np {M:Model}{A:Around}{E:Value->Shared->Prop}{i:Nat}{x:Str}{v:V}{u:Value}{Q:Unit->Shared->Prop}(I:Inv X pins σ H s)(hN:X.N.Nodup)(hi:X.N[i]?=some x)(hx:Loc X.env.scope x)(r:RelV v u)
  (h:∀s',Inv X pins (σ.set i (some v)) H s'->Q () s')(hf:X.fn x=true\/X.env.scope.names.lookup x=some .local:=by first | exact .inl rfl | exact .inr rfl | assumption):wpAny M A (storeName X.env x u) Q E s :=
 zhC I hN hi hx r (fun s' I' _=>h s' I') hf
theorem Inv.call' {s':Shared}{ch:List Addr}(I:Inv X pins σ H s)(ho:s'.os=s.os)(u:Un (frs X.stack) ch H H' s.heap s'.heap)(hok:TX X.prog X.w H' s'.heap)(hg:AllBare s'.gens)
  (hch:∀b∈ch,(b∈X.ex\/X.s₀.heap.objs.size<=b)/\b≠X.env.locals/\(∀x c,X.env.cells.lookup x=some c->c≠b)/\∀p∈X.pn++pins,p.1≠b):Inv X pins σ H' s':=by
 obtain⟨h',g',d',t',o'⟩:=s'
 have e:o'=s.os:=ho
 subst e
 exact I.call (g':=g') (t':=t') (d':=d') u hok hg hch
end
abbrev XK:=Value->Option Addr->Hp->Prop
abbrev St:=List (Option V)
abbrev VK:=V->Hp->Prop
abbrev TE:=St->Hp->VK->Prop
abbrev TT:=St->Hp->(Bool->Hp->Prop)->Prop
abbrev TA:=St->Hp->(List V->Hp->Prop)->Prop
structure Ends where
 nx:St->Hp->Prop
 rt:VK
 bk:St->Hp->Prop:=fun _ _=>False
 ct:St->Hp->Prop:=fun _ _=>False
abbrev TS:=Ends->St->Hp->Prop
def EP (X:Cx)(pins:List (Addr×Obj))(σ:St)(Q:VK)(u:Value)(s':Shared):Prop:=∃v H',Inv X pins σ H' s'/\RelV v u/\Q v H'
def TP (X:Cx)(pins:List (Addr×Obj))(σ:St)(Q:Bool->Hp->Prop)(b:Bool)(s':Shared):Prop:=∃H',Inv X pins σ H' s'/\Q b H'
def AP (X:Cx)(pins:List (Addr×Obj))(σ:St)(Q:List V->Hp->Prop)(us:List Value)(s':Shared):Prop:=∃vs H',Inv X pins σ H' s'/\Vals vs us/\Q vs H'
def SP (X:Cx)(pins:List (Addr×Obj))(D:Ends)(f:Flow)(s':Shared):Prop :=
 match f with
 | .next=>∃ σ' H',Inv X pins σ' H' s'/\D.nx σ' H'
 | .brk=>∃ σ' H',Inv X pins σ' H' s'/\D.bk σ' H'
 | .cont=>∃ σ' H',Inv X pins σ' H' s'/\D.ct σ' H'
 | .ret u=>∃v σ' H',Inv X pins σ' H' s'/\RelV v u/\D.rt v H'
def PE (X:Cx)(e:Expr)(t:TE):Prop :=
 ∀(pins:List (Addr×Obj)) (s:Shared) (σ:St) (H:Hp) (Q:VK),Inv X pins σ H s->t σ H Q->wpAny (model X.prog X.w) X.A (eval e X.env) (EP X pins σ Q) X.xe s
def PT (X:Cx)(e:Expr)(t:TT):Prop :=
 ∀(pins:List (Addr×Obj)) (s:Shared) (σ:St) (H:Hp) (Q:Bool->Hp->Prop),Inv X pins σ H s->t σ H Q->wpAny (model X.prog X.w) X.A (isTrue e X.env (eval e X.env)) (TP X pins σ Q) X.xe s
def PW (X:Cx)(e:Expr)(t:TT):Prop :=
 ∀(whole:Sem Value) (pins:List (Addr×Obj)) (s:Shared) (σ:St) (H:Hp) (Q:Bool->Hp->Prop),Inv X pins σ H s->t σ H Q->wpAny (model X.prog X.w) X.A (isTrue e X.env whole) (TP X pins σ Q) X.xe s
theorem PW.pt {X:Cx}{e:Expr}{t:TT}(h:PW X e t):PT X e t:=h _
def PA (X:Cx)(es:List Expr)(t:TA):Prop :=
 ∀(pos:Pos) (pins:List (Addr×Obj)) (s:Shared) (σ:St) (H:Hp) (Q:List V->Hp->Prop),Inv X pins σ H s->t σ H Q->wpAny (model X.prog X.w) X.A (spliced (backTo pos (starEach es X.env))) (AP X pins σ Q) X.xe s
def PS (X:Cx)(st:Stmt)(t:TS):Prop :=
 ∀(pins:List (Addr×Obj)) (s:Shared) (σ:St) (H:Hp) (D:Ends),Inv X pins σ H s->t D σ H->wpAny (model X.prog X.w) X.A (exec st X.env) (SP X pins D) X.xe s
def JK (X:Cx)(st:List Stmt)(t:TS):Prop :=
 ∀(pins:List (Addr×Obj)) (s:Shared) (σ:St) (H:Hp) (D:Ends),Inv X pins σ H s->t D σ H->wpAny (model X.prog X.w) X.A (execs st X.env) (SP X pins D) X.xe s
theorem wI {α:Type}{t:Sem α}{Q Q':α->Shared->Prop}{M:Model}{A:Around}{E:Value->Shared->Prop}{s:Shared}(h:wpAny M A t Q E s)(hQ:∀a s,Q a s->Q' a s):wpAny M A t Q' E s:=wpAny_mono h hQ fun _ _ x=>x
section
variable {X:Cx}
theorem bin {a b:Expr}{ta tb:TE}(ha:PE X a ta)(hb:PE X b tb){pins:List (Addr×Obj)}{s:Shared}{σ:St}{H:Hp}{R:V->V->Hp->Prop}(I:Inv X pins σ H s)(h:ta σ H fun x H1=>tb σ H1 fun y H2=>R x y H2)
  {α:Type}{Q:α->Shared->Prop}{f:Value->Value->Sem α}
  (hf:∀v u s2 x y H2,Inv X pins σ H2 s2->RelV x v->RelV y u->R x y H2->wpAny (model X.prog X.w) X.A (f v u) Q X.xe s2) :
  wpAny (model X.prog X.w) X.A (eval a X.env) (fun v s₁=>wpAny (model X.prog X.w) X.A (eval b X.env) (fun u s₂=>wpAny (model X.prog X.w) X.A (f v u) Q X.xe s₂) X.xe s₁) X.xe s:=by
 refine wI (ha pins s σ H _ I h) fun v s1 ⟨x,H1,I1,r1,q1⟩=>?_
 refine wI (hb pins s1 σ H1 _ I1 q1) fun u s2 ⟨y,H2,I2,r2,q2⟩=>?_
 exact hf v u s2 x y H2 I2 r1 r2 q2
inductive zaA (i:Nat)(σ:St)(H:Hp)(Q:V->Hp->Prop):Prop
 | mk (v:V) (_:σ[i]?=some (some v)) (_:Q v H):zaA i σ H Q
def tC (v:V):TE:=fun _ H Q=>Q v H
theorem zma {i:Nat}{x:Str}{pos:Pos}(hN:X.N[i]?=some x)(hv:Vis X.env.scope x)(hd:(x==("__debug__" : Str))=false:=by decide)(hcd:(x==("__classdict__" : Str))=false:=by decide):PE X (.Name x pos) (zaA i):=by
 intro pins s σ H Q I h
 obtain⟨v,e,h⟩:=h
 obtain⟨m,hn,hl⟩:=I.loc
 obtain⟨u,r,l⟩:=hl i x v hN e hv
 have fin:EP X pins σ Q u s:=⟨v,H,I,r,h⟩
 rcases l with ⟨hk,hm⟩ | ⟨hk,c,hc,hcell⟩
 ·exact wpAny_Name (wpAny_loadName_local I.ok.kind hk hn hm fin) hd
 ·rcases hk with hk | hk
  ·exact wpAny_Name (wpAny_loadName_cell I.ok.kind hk hc hcell fin) hd
  ·exact wpAny_Name (wpAny_loadName_free I.ok.kind hk hc hcell fin hcd) hd
theorem zq {i j pos}:PE X (.Constant (.int i) j pos) (tC (.int i)):=fun _ _ _ H _ I h=>wpAny_Constant_int ⟨.int i,H,I.tok _,⟨_,rfl⟩,h⟩
theorem TY {b j pos}:PE X (.Constant (.bool b) j pos) (tC (.bl b)):=fun _ _ _ H _ I h=>Constant_bool ⟨.bl b,H,I,rfl,h⟩
theorem yt {x j pos}:PE X (.Constant (.str x) j pos) (tC (.str x)):=fun _ _ _ H _ I h=>Calls.Constant_str ⟨.str x,H,I.tok _,⟨_,rfl⟩,h⟩
def Gl (X:Cx)(x:Str):Prop:=X.env.kindOf x=some .globalImplicit
theorem Ut {E:Value->Shared->Prop}{pins:List (Addr×Obj)}{s:Shared}{σ:St}{H:Hp}{x:Str}{u:Value}{pos:Pos}{Q:Value->Shared->Prop}(I:Inv X pins σ H s)(hg:Gl X x)(hm:X.mg x=some u)(h:Q u s)
  (hd:(x==("__debug__" : Str))=false:=by decide):wpAny (model X.prog X.w) X.A (eval (.Name x pos) X.env) Q E s :=
 Calls.Name_function_global I.ok.kind hg (Calls.loadGlobal_global (by rw[I.ok.glob];exact I.mod.glob.keeps I.bk) hm h) hd
theorem Wd {E:Value->Shared->Prop}{pins:List (Addr×Obj)}{s:Shared}{σ:St}{H:Hp}{x:Str}{u:Value}{pos:Pos}{Q:Value->Shared->Prop}(I:Inv X pins σ H s)(hg:Gl X x)(hm:X.mg x=none)(hv:bootBuiltins x=some u)(h:Q u s)
  (hn:x ≠ "__name__" := by decide)(hd:(x==("__debug__" : Str))=false:=by decide):wpAny (model X.prog X.w) X.A (eval (.Name x pos) X.env) Q E s:=by
 obtain⟨mb,h1,h2⟩:=I.mod.blt
 exact Calls.Name_function_global I.ok.kind hg (Calls.loadGlobal_builtin (by rw[I.ok.glob];exact I.mod.glob.keeps I.bk) hm (by rw[I.ok.blt];exact h1.keeps I.bk) ((h2 x hn).trans hv) h) hd
theorem wW {x:Str}{v:V}{u:Value}{pos:Pos}(hg:Gl X x)(hm:X.mg x=some u)(r:RelV v u)(hd:(x==("__debug__" : Str))=false:=by decide):PE X (.Name x pos) (tC v) :=
 fun _ _ _ H _ I h=>Ut I hg hm ⟨v,H,I,r,h⟩ hd
theorem zaf {x:Str}{v:V}{u:Value}{pos:Pos}(hg:Gl X x)(hm:X.mg x=none)(hv:bootBuiltins x=some u)(r:RelV v u)(hn:x ≠ "__name__" := by decide)(hd:(x==("__debug__" : Str))=false:=by decide):PE X (.Name x pos) (tC v) :=
 fun _ _ _ H _ I h=>Wd I hg hm hv ⟨v,H,I,r,h⟩ hn hd
variable {a b:Expr}{ta tb:TE}{pos:Pos}
def PC (X:Cx)(op:CmpOp)(a b:Expr)(t:TE):Prop :=
 ∀(pins:List (Addr×Obj)) (s:Shared) (σ:St) (H:Hp) (Q:VK),Inv X pins σ H s->t σ H Q ->
  wpAny (model X.prog X.w) X.A (eval a X.env) (fun v s₁=>wpAny (model X.prog X.w) X.A (eval b X.env) (fun u s₂=>wpAny (model X.prog X.w) X.A (compareOp op v u) (EP X pins σ Q) X.xe s₂) X.xe s₁) X.xe s
def tB (t:TE):TT:=fun σ H Q=>t σ H fun x H1=>∃c,x=.bl c/\Q c H1
theorem zis {op:CmpOp}{t:TE}(h:PC X op a b t)(h1:behindInMarks op b=false:=by first | exact znJ _ (by decide) (by decide) | rfl):PT X (.Compare a [op] [b] pos) (tB t):=by
 intro pins s σ H Q I hw
 refine wpAny_isTrue_Compare1 (wI (h pins s σ H _ I hw) fun v s1 h1=>wI h1 fun u s2 h2=>wI h2 fun c s3 ⟨x,H1,I1,r1,q1⟩=>?_) h1
 obtain⟨d,rfl,q⟩:=q1
 cases r1
 exact wpAny_truthy_bool ⟨H1,I1,q⟩
variable {tA tB':TT}{rest:List Expr}
def zpy (t u:TT):TT:=fun σ H Q=>t σ H fun c H1=>if c=true then u σ H1 Q else Q false H1
def tOr (t u:TT):TT:=fun σ H Q=>t σ H fun c H1=>if c=true then Q true H1 else u σ H1 Q
def zpz (t:TT):TT:=fun σ H Q=>t σ H fun c H1=>Q (!c) H1
theorem Nq (ha:PT X a tA):PW X (.BoolOp .And [a] pos) tA:=by
 intro wh pins s σ H Q I h
 refine isTrue_and (wI (ha pins s σ H Q I h) fun c s1 e=>?_)
 cases c with
 | true=>exact isTrue_and_nil e
 | false=>exact e
theorem Vi (ha:PT X a tA):PW X (.BoolOp .Or [a] pos) tA:=by
 intro wh pins s σ H Q I h
 refine isTrue_or (wI (ha pins s σ H Q I h) fun c s1 e=>?_)
 cases c with
 | false=>exact isTrue_or_nil e
 | true=>exact e
theorem zaB (ha:PT X a tA)(hb:PW X (.BoolOp .And (b::rest) pos) tB'):PW X (.BoolOp .And (a::b::rest) pos) (zpy tA tB'):=by
 intro wh pins s σ H Q I h
 refine isTrue_and (wI (ha pins s σ H _ I h) fun c s1 ⟨H1,I1,q1⟩=>?_)
 cases c with
 | true=>exact hb wh pins s1 σ H1 Q I1 q1
 | false=>exact⟨H1,I1,q1⟩
theorem Sw (ha:PT X a tA)(hb:PW X (.BoolOp .Or (b::rest) pos) tB'):PW X (.BoolOp .Or (a::b::rest) pos) (tOr tA tB'):=by
 intro wh pins s σ H Q I h
 refine isTrue_or (wI (ha pins s σ H _ I h) fun c s1 ⟨H1,I1,q1⟩=>?_)
 cases c with
 | true=>exact⟨H1,I1,q1⟩
 | false=>exact hb wh pins s1 σ H1 Q I1 q1
theorem Ye (ha:PT X a tA):PT X (.UnaryOp .Not a pos) (zpz tA):=by
 intro pins s σ H Q I h
 exact isTrue_not (ha pins s σ H (fun c H1=>Q (!c) H1) I h)
def znK (ta tb:TE):TE:=fun σ H Q=>ta σ H fun x H1=>∃c,x=.bl c/\if c=true then tb σ H1 Q else Q (.bl false) H1
def znL (ta:TE):TE:=fun σ H Q=>ta σ H fun x H1=>∃c,x=.bl c/\Q (.bl (!c)) H1
theorem Ke {op}{t:TE}(h:PE X a t):PE X (.BoolOp op [a] pos) t:=fun pins s σ H Q I hw=>BoolOp_one (h pins s σ H Q I hw)
theorem Sx (ha:PE X a ta)(hb:PE X (.BoolOp .And (b::rest) pos) tb):PE X (.BoolOp .And (a::b::rest) pos) (znK ta tb):=by
 intro pins s σ H Q I h
 refine BoolOp_and (wI (ha pins s σ H _ I h) fun v s1 ⟨x,H1,I1,r1,q1⟩=>?_)
 obtain⟨c,rfl,q1⟩:=q1
 cases r1
 refine wpAny_truthy_bool ?_
 cases c with
 | true=>exact hb pins s1 σ H1 Q I1 q1
 | false=>exact⟨.bl false,H1,I1,rfl,q1⟩
theorem zfq (ha:PE X a ta):PE X (.UnaryOp .Not a pos) (znL ta):=by
 intro pins s σ H Q I h
 refine UnaryOp_ (wI (ha pins s σ H _ I h) fun v s1 ⟨x,H1,I1,r1,q1⟩=>?_)
 obtain⟨c,rfl,q1⟩:=q1
 cases r1
 exact not_of (wpAny_truthy_bool ⟨.bl (!c),H1,I1,rfl,q1⟩)
def tIf (t:TT)(ta tb:TE):TE:=fun σ H Q=>t σ H fun c H1=>if c=true then ta σ H1 Q else tb σ H1 Q
theorem zaC {c:Expr}(hc:PT X c tA)(ha:PE X a ta)(hb:PE X b tb):PE X (.IfExp c a b pos) (tIf tA ta tb):=by
 intro pins s σ H Q I h
 refine wpAny_IfExp (wI (hc pins s σ H _ I h) fun d s1 ⟨H1,I1,q1⟩=>?_)
 cases d with
 | true=>exact ha pins s1 σ H1 Q I1 q1
 | false=>exact hb pins s1 σ H1 Q I1 q1
end
def z6 (K:Frag)(H:Hp)(a:Addr)(xs:List V):Prop :=
 Rd H a (.lst xs) \/
  ∃(o:Obj) (its:Array Value) (n:Nat),K.lookup a=some o/\o.cls=.type "list" /\ o.dict=none/\o.data=.seq its n/\its.size<=sizeLine/\Vals xs its.toList
def vQ (K:Frag)(H:Hp)(a:Addr)(xs:List V):Prop :=
 Rd H a (.tup xs) \/
  ∃(o:Obj) (its:Array Value) (n:Nat),K.lookup a=some o/\o.cls=.type "tuple" /\ o.data=.seq its n/\its.size<=sizeLine/\Vals xs its.toList
def zfr:Value->Option V
 | .none=>some .non
 | .bool b=>some (.bl b)
 | .int i _=>some (.int i)
 | .str x _=>some (.str x)
 | .bytes b _=>some (.byt b)
 | .float b _=>some (.flt b)
 | .ref a=>some (.ref a)
 | .type n=>some (.ty n)
 | _=>none
theorem RelV.abs {x:V}{u:Value}(r:RelV x u):zfr u=some x:=by
 cases x with
 | non=>cases r;rfl
 | bl _=>cases r;rfl
 | int _=>obtain⟨t,rfl⟩:=r;rfl
 | str _=>obtain⟨t,rfl⟩:=r;rfl
 | byt _=>obtain⟨t,rfl⟩:=r;rfl
 | flt _=>obtain⟨t,rfl⟩:=r;rfl
 | ref _=>cases r;rfl
 | ty _=>cases r;rfl
theorem RelV.inj {x y:V}{u:Value}(r:RelV x u)(q:RelV y u):x=y:=ztN (r.abs.symm.trans q.abs)
theorem Vals.inj:∀{xs ys:List V} {us:List Value},Vals xs us->Vals ys us->xs=ys
 | _,_,_,.nil,.nil=>rfl
 | _,_,_,.cons r t,.cons r' t'=>by rw[r.inj r',Vals.inj t t']
section
variable {X:Cx}{pins:List (Addr×Obj)}{σ:St}{H:Hp}{s:Shared}{a:Addr}{xs ys:List V}
theorem z6.of {K:Frag}(h:H a=some (.lst xs)):z6 K H a xs:=.inl (.inl h)
theorem vQ.of {K:Frag}(h:H a=some (.tup xs)):vQ K H a xs:=.inl (.inl h)
theorem Inv.list (I:Inv X pins σ H s)(h:z6 X.K H a xs):∃its:List Value,Vals xs its/\PlainL s.heap a its.toArray/\xs.length<=sizeLine:=by
 rcases h with h | ⟨o,its,n,hk,hc,hd,hs,hz,r⟩
 ·obtain⟨z,its,n,r,e⟩:=h.ok I.hok
  exact⟨its,r,⟨_,n,e,rfl,rfl,rfl⟩,z⟩
 ·refine⟨its.toList,r,⟨o,n,I.Qq a o hk,hc,hd,by simpa using hs⟩,?_⟩
  have e:=r.length
  simp only[Array.length_toList] at e
  omega
theorem Inv.tuple (I:Inv X pins σ H s)(h:vQ X.K H a xs):∃its:List Value,Vals xs its/\IsTup s.heap a its.toArray/\xs.length<=sizeLine:=by
 rcases h with h | ⟨o,its,n,hk,hc,hs,hz,r⟩
 ·obtain⟨z,its,r,p⟩:=h.ok I.hok
  exact⟨its,r,p,z⟩
 ·refine⟨its.toList,r,⟨o,I.Qq a o hk,hc,n,by simpa using hs⟩,?_⟩
  have e:=r.length
  simp only[Array.length_toList] at e
  omega
theorem Inv.VG (I:Inv X pins σ H s)(h:z6 X.K H a xs)(h':z6 X.K H a ys):xs=ys:=by
 obtain⟨its,r,⟨o,n,e,_,_,d⟩,_⟩:=I.list h
 obtain⟨its',r',⟨o',n',e',_,_,d'⟩,_⟩:=I.list h'
 rw[e] at e';cases e'
 rw[d] at d'
 injection d' with d1 _
 have:its=its':=by simpa using congrArg Array.toList d1
 subst this
 exact r.inj r'
theorem Inv.zb2 (I:Inv X pins σ H s)(h:vQ X.K H a xs)(h':vQ X.K H a ys):xs=ys:=by
 obtain⟨its,r,⟨o,e,_,n,d⟩,_⟩:=I.tuple h
 obtain⟨its',r',⟨o',e',_,n',d'⟩,_⟩:=I.tuple h'
 rw[e] at e';cases e'
 rw[d] at d'
 injection d' with d1 _
 have:its=its':=by simpa using congrArg Array.toList d1
 subst this
 exact r.inj r'
end
abbrev Cx.wish (X:Cx)(E:Value->Shared->Prop):Cx:={ X with xe:=E }
abbrev Cx.nox (X:Cx):Cx:=X.wish fun _ _=>False
theorem Cx.Ok.wish {X:Cx}(ok:X.Ok)(E:Value->Shared->Prop):(X.wish E).Ok :=
 ⟨ok.mod,ok.kind,ok.glob,ok.blt,ok.above,ok.inj,ok.has,ok.cab,ok.hd,ok.frames,ok.stk,ok.exf,ok.bs,ok.bsz,ok.zdS,ok.zdT,ok.Qp,ok.frf⟩
theorem Cx.Ok.Uu {X:Cx}{E:Value->Shared->Prop}(ok:(X.wish E).Ok):X.Ok :=
 ⟨ok.mod,ok.kind,ok.glob,ok.blt,ok.above,ok.inj,ok.has,ok.cab,ok.hd,ok.frames,ok.stk,ok.exf,ok.bs,ok.bsz,ok.zdS,ok.zdT,ok.Qp,ok.frf⟩
section
variable {X:Cx}{pins:List (Addr×Obj)}{σ:St}{H:Hp}{s:Shared}{E:Value->Shared->Prop}
theorem Inv.wish (I:Inv X pins σ H s)(E:Value->Shared->Prop):Inv (X.wish E) pins σ H s:=⟨I.ok.wish E,I.os,I.bare,I.base,I.loc,I.cell,I.free,I.Y4,I.pin,I.hok,I.len⟩
theorem Inv.Uu (I:Inv (X.wish E) pins σ H s):Inv X pins σ H s:=⟨I.ok.Uu,I.os,I.bare,I.base,I.loc,I.cell,I.free,I.Y4,I.pin,I.hok,I.len⟩
theorem SP.Uu {D:Ends}{f:Flow}{s':Shared}(h:SP (X.wish E) pins D f s'):SP X pins D f s':=by
 cases f with
 | next=>obtain⟨σ',H',I,q⟩:=h;exact⟨σ',H',I.Uu,q⟩
 | brk=>obtain⟨σ',H',I,q⟩:=h;exact⟨σ',H',I.Uu,q⟩
 | cont=>obtain⟨σ',H',I,q⟩:=h;exact⟨σ',H',I.Uu,q⟩
 | ret u=>obtain⟨v,σ',H',I,r,q⟩:=h;exact⟨v,σ',H',I.Uu,r,q⟩
theorem JK.nox {st:List Stmt}{t:TS}(h:JK X.nox st t):JK X st t:=fun pins s σ H D I hw =>
 wpAny_mono (h pins s σ H D (I.wish _) hw) (fun _ _ q=>q.Uu) fun _ _ z=>False.elim z
end
section
variable {X:Cx}{st:Stmt}{rest:List Stmt}{t u:TS}{e:Expr}{te:TE}{pos:Pos}
def znM:TS:=fun D σ H=>D.nx σ H
def znN (t u:TS):TS:=fun D σ H=>t { D with nx:=u D } σ H
theorem zY:JK X [] znM:=fun _ _ σ H _ I h=>wpAny_execs_nil ⟨σ,H,I,h⟩
theorem zf (h1:PS X st t)(h2:JK X rest u):JK X (st::rest) (znN t u):=by
 intro pins s σ H D I h
 refine wpAny_execs_cons (wI (h1 pins s σ H { D with nx:=u D } I h) fun f s1 q=>?_)
 cases f with
 | next =>
  obtain⟨σ',H',I',q⟩:=q
  exact h2 pins s1 σ' H' D I' q
 | ret v=>exact q
 | brk=>exact q
 | cont=>exact q
theorem zm (h1:PS X st t):JK X [st] t:=by
 intro pins s σ H D I h
 refine wpAny_execs_cons (wI (h1 pins s σ H D I h) fun f s1 q=>?_)
 cases f with
 | next=>exact wpAny_execs_nil q
 | ret v=>exact q
 | brk=>exact q
 | cont=>exact q
theorem Inv.quiet {pins:List (Addr×Obj)}{σ:St}{H:Hp}{s:Shared}(I:Inv X pins σ H s):interactive X.env=false:=by simp[interactive,I.ok.kind]
def znO (te:TE):TS:=fun D σ H=>te σ H fun _ H1=>D.nx σ H1
theorem zV (he:PE X e te)(hs:swapsWith e none pos.line X.env=pure false:=by rfl):PS X (.Expr e pos) (znO te):=by
 intro pins s σ H D I h
 exact wpAny_Expr_any (wI (he pins s σ H _ I h) fun v s1 ⟨x,H1,I1,r1,q1⟩=>⟨σ,H1,I1,q1⟩) I.quiet hs
def zpA (te:TE):TS:=fun D σ H=>te σ H D.rt
theorem zL (he:PE X e te):PS X (.Return (some e) pos) (zpA te):=by
 intro pins s σ H D I h
 exact wpAny_Return_some (wI (he pins s σ H _ I h) fun v s1 ⟨x,H1,I1,r1,q1⟩=>⟨x,σ,H1,I1,r1,q1⟩)
def zpB (c:TT)(t u:TS):TS:=fun D σ H=>c σ H fun b H1=>if b=true then t D σ H1 else u D σ H1
theorem yr {c:Expr}{a b:List Stmt}{tc:TT}(hc:PT X c tc)(ha:JK X a t)(hb:JK X b u):PS X (.If c a b pos) (zpB tc t u):=by
 intro pins s σ H D I h
 refine wpAny_If (wI (hc pins s σ H _ I h) fun d s1 ⟨H1,I1,q1⟩=>?_)
 cases d with
 | true=>exact ha pins s1 σ H1 D I1 q1
 | false=>exact hb pins s1 σ H1 D I1 q1
def zit:TS:=fun _ _ _=>False
theorem Sy:PS X st zit:=fun _ _ _ _ _ _ h=>h.elim
theorem vq {sts:List Stmt}:JK X sts zit:=fun _ _ _ _ _ _ h=>h.elim
end
abbrev TG:=V->St->Hp->(St->Hp->Prop)->Prop
abbrev TGs:=List V->St->Hp->(St->Hp->Prop)->Prop
def PG (X:Cx)(target:Expr)(t:TG):Prop :=
 ∀(pins:List (Addr×Obj)) (s:Shared) (σ:St) (H:Hp) (v:V) (u:Value) (Q:St->Hp->Prop),Inv X pins σ H s->RelV v u->t v σ H Q ->
  wpAny (model X.prog X.w) X.A (assign target X.env u) (fun _ s'=>∃ σ' H',Inv X pins σ' H' s'/\Q σ' H') X.xe s
def PGs (X:Cx)(ts:List Expr)(t:TGs):Prop :=
 ∀(pins:List (Addr×Obj)) (s:Shared) (σ:St) (H:Hp) (vs:List V) (us:List Value) (Q:St->Hp->Prop),Inv X pins σ H s->Vals vs us->t vs σ H Q ->
  wpAny (model X.prog X.w) X.A (assignInOrder ((assignEach ts X.env).map (·.2)) us) (fun _ s'=>∃ σ' H',Inv X pins σ' H' s'/\Q σ' H') X.xe s
abbrev zmc:=V->V->V->Hp->(Hp->Prop)->Prop
def znP (X:Cx)(t:zmc):Prop :=
 ∀(pins:List (Addr×Obj)) (s:Shared) (σ:St) (H:Hp) (o i v:V) (ov iv u:Value) (Q:Hp->Prop),Inv X pins σ H s->RelV o ov->RelV i iv->RelV v u->t o i v H Q ->
  wpAny (model X.prog X.w) X.A (setItem ov iv u) (fun _ s'=>∃H',Inv X pins σ H' s'/\Q H') X.xe s
abbrev TIp:=V->V->Hp->VK->Prop
def PIp (X:Cx)(op:Operator)(t:TIp):Prop :=
 ∀(pins:List (Addr×Obj)) (s:Shared) (σ:St) (H:Hp) (x y:V) (v u:Value) (Q:VK),Inv X pins σ H s->RelV x v->RelV y u->t x y H Q ->
  wpAny (model X.prog X.w) X.A (inplaceOp op v u) (EP X pins σ Q) X.xe s
section
variable {X:Cx}{pos:Pos}
def W0 (i:Nat):TG:=fun v σ H Q=>Q (σ.set i (some v)) H
theorem yO {i:Nat}{x:Str}(hN:X.N.Nodup)(hi:X.N[i]?=some x)(hx:Loc X.env.scope x)(hf:X.fn x=true\/X.env.scope.names.lookup x=some .local:=by first | exact .inl rfl | exact .inr rfl | assumption):PG X (.Name x pos) (W0 i):=by
 intro pins s σ H v u Q I r h
 exact wpAny_assign_Name (Np I hN hi hx r (fun s' I'=>⟨_,H,I',h⟩) hf)
def ziu:TGs:=fun vs σ H Q=>vs=[]/\Q σ H
def Nr (t:TG)(u:TGs):TGs:=fun vs σ H Q=>∃v r,vs=v::r/\t v σ H fun σ' H'=>u r σ' H' Q
theorem zgF:PGs X [] ziu:=by
 intro pins s σ H vs us Q I r h
 obtain⟨e,h⟩:=h
 subst e
 cases r
 exact assignInOrder_nil ⟨σ,H,I,h⟩
theorem Nt {e:Expr}{es:List Expr}{t:TG}{u:TGs}(h1:PG X e t)(h2:PGs X es u)
  (hs:(assignEach (e::es) X.env).map (·.2)=assign e X.env::(assignEach es X.env).map (·.2):=by rfl):PGs X (e::es) (Nr t u):=by
 intro pins s σ H vs us Q I r h
 obtain⟨v,vr,e1,h⟩:=h
 subst e1
 cases r with
 | cons r rr =>
  rw[hs]
  refine assignInOrder_cons (wI (h1 pins s σ H _ _ _ I r h) fun _ s1 ⟨σ1,H1,I1,q1⟩=>?_)
  exact h2 pins s1 σ1 H1 _ _ Q I1 rr q1
def ziv (K:Frag)(n:Nat)(t:TGs):TG:=fun v σ H Q=>∃a xs,v=.ref a/\vQ K H a xs/\xs.length=n/\t xs σ H Q
theorem ziw {es:List Expr}{k:Nat}{t:TGs}{n:Nat}(hc:X.calm=true)(h:PGs X es t)
  (hn:(assignEach es X.env).length=n:=by rfl)(hst:(assignEach es X.env).findIdx? (·.1)=none:=by rfl):PG X (.Tuple es k pos) (ziv X.K n t):=by
 intro pins s σ H v u Q I r hw
 obtain⟨a,xs,e1,hq,hl,hw⟩:=hw
 subst e1
 cases r
 obtain⟨its,rv,ht,hz⟩:=I.tuple hq
 refine assign_Tuple_tuple (I.ok.hd hc) ht (by simp[hn,<-hl,rv.length]) hst fun h' hx=>?_
 have I1:Inv X pins σ H { s with heap:=h' }:=I.kept (t':=s.toks) fun b o e=>hx b o (ztx (ztp e)) e
 exact h pins _ σ H xs _ Q I1 (by simpa using rv) hw
def zpD (to ti:TE)(t:zmc):TG:=fun v σ H Q=>to σ H fun o H1=>ti σ H1 fun i H2=>t o i v H2 fun H3=>Q σ H3
theorem zmd {o i:Expr}{to ti:TE}{t:zmc}(ho:PE X o to)(hi:PE X i ti)(hs:znP X t)
  (ha:∀v,assign (.Subscript o i pos) X.env v=(do
   let ov <-holding [v] (eval o X.env)
   let iv <-holding [v,ov] (eval i X.env)
   standAt pos
   holding [v,ov,iv] (setItem ov iv v)
   release [v,ov,iv] []):=by intro _;rfl):PG X (.Subscript o i pos) (zpD to ti t):=by
 intro pins s σ H v u Q I r h
 rw[ha]
 refine wpAny_bind (wpAny_holding (wI (ho pins s σ H _ I h) fun ov s1 ⟨x,H1,I1,r1,q1⟩=>?_))
 refine wpAny_bind (wpAny_holding (wI (hi pins s1 σ H1 _ I1 q1) fun iv s2 ⟨y,H2,I2,r2,q2⟩=>?_))
 refine wpAny_bind (wpAny_standAt (wpAny_bind (wpAny_holding (wI (hs pins s2 σ H2 x y v ov iv u _ I2 r1 r2 r q2) fun _ s3 ⟨H3,I3,q3⟩=>?_))))
 exact wpAny_release ⟨σ,H3,I3,q3⟩
def zj5 (te:TE)(g:TG):TS:=fun D σ H=>te σ H fun x H1=>g x σ H1 D.nx
theorem zme {tg e:Expr}{te:TE}{g:TG}(he:PE X e te)(hg:PG X tg g)(hs:swapsWithSole [tg] e pos.line X.env=pure false:=by rfl)(hw:swappedStores [tg] e X.env=pure none:=by rfl)
  (h1:(assignEach [tg] X.env).map (·.2)=[assign tg X.env]:=by rfl):PS X (.Assign [tg] e pos) (zj5 te g):=by
 intro pins s σ H D I h
 refine wpAny_Assign_stores (wI (he pins s σ H _ I h) fun v s1 ⟨x,H1,I1,r1,q1⟩=>?_) hs hw
 rw[h1]
 exact wI (hg pins s1 σ H1 x v _ I1 r1 q1) fun _ s2 q=>q
theorem Yg {i:Nat}{x:Str}{e:Expr}{te:TE}{pos':Pos}(hN:X.N.Nodup)(hi:X.N[i]?=some x)(hx:Loc X.env.scope x)(he:PE X e te)(hs:swapsWith e (some (.Name x pos')) pos.line X.env=pure false:=by rfl)(hf:X.fn x=true\/X.env.scope.names.lookup x=some .local:=by first | exact .inl rfl | exact .inr rfl | assumption) :
  PS X (.Assign [.Name x pos'] e pos) (zj5 te (W0 i)):=by
 intro pins s σ H D I h
 refine wpAny_Assign_Name (wI (he pins s σ H _ I h) fun v s1 ⟨y,H1,I1,r1,q1⟩=>?_) hs
 exact Np I1 hN hi hx r1 (fun s2 I2=>⟨_,H1,I2,q1⟩) hf
def zpE (i:Nat)(te:TE)(ti:TIp):TS:=fun D σ H=>∃x,σ[i]?=some (some x)/\te σ H fun y H1=>ti x y H1 fun z H2=>D.nx (σ.set i (some z)) H2
theorem zfs {i:Nat}{x:Str}{e:Expr}{te:TE}{op:Operator}{ti:TIp}{pos':Pos}(hN:X.N.Nodup)(hi:X.N[i]?=some x)(hx:Loc X.env.scope x)(he:PE X e te)(ho:PIp X op ti)(hf:X.fn x=true\/X.env.scope.names.lookup x=some .local:=by first | exact .inl rfl | exact .inr rfl | assumption) :
  PS X (.AugAssign (.Name x pos') op e pos) (zpE i te ti):=by
 intro pins s σ H D I h
 obtain⟨v,e1,h⟩:=h
 obtain⟨m,hn,hl⟩:=I.loc
 have vis:Vis X.env.scope x:=by rcases hx with k | k;exact .inl k;exact .inr (.inl k)
 obtain⟨u,r,l⟩:=hl i x v hi e1 vis
 refine wpAny_AugAssign_Name ?_
 have go:wpAny (model X.prog X.w) X.A (eval e X.env) (fun w s₂=>wpAny (model X.prog X.w) X.A (inplaceOp op u w) (fun r s₃=>wpAny (model X.prog X.w) X.A (storeName X.env x r) (fun _=>SP X pins D .next) X.xe s₃) X.xe s₂) X.xe s:=by
  refine wI (he pins s σ H _ I h) fun w s1 ⟨y,H1,I1,r1,q1⟩=>?_
  refine wI (ho pins s1 σ H1 v y u w _ I1 r r1 q1) fun z s2 ⟨zv,H2,I2,r2,q2⟩=>?_
  exact Np I2 hN hi hx r2 (fun s3 I3=>⟨_,H2,I3,q2⟩) hf
 rcases l with ⟨hk,hm⟩ | ⟨hk,c,hc,hcell⟩
 ·exact wpAny_loadName_local I.ok.kind hk hn hm go
 ·rcases hk with hk | hk
  ·exact wpAny_loadName_cell I.ok.kind hk hc hcell go
  ·rcases hx with k | k
   ·have:X.env.scope.names.lookup x=some .free:=hk
    rw[k] at this;cases this
   ·have:X.env.scope.names.lookup x=some .free:=hk
    rw[k] at this;cases this
def zmf (c:TT)(tb:TS):TS:=fun D σ H=>∃W:Nat->St->Hp->Prop,(∃m,W m σ H)/\∀m σ H,W m σ H ->
 c σ H fun b H1=>if b=true then ∃N:St->Hp->Prop,(∀ σ' H',N σ' H'->∃m',m'<m/\W m' σ' H')/\tb { D with nx:=N,ct:=N,bk:=D.nx } σ H1 else D.nx σ H1
theorem Nu {c:Expr}{body:List Stmt}{tc:TT}{tb:TS}(hp:PassesOwn (model X.prog X.w) X.A X.env X.xe)(hc:PT X c tc)(hb:JK X body tb):PS X (.While c body [] pos) (zmf tc tb):=by
 intro pins s σ H D I h
 obtain⟨W,⟨m0,w0⟩,turn⟩:=h
 refine wpAny_While (codeAny_whileLoop (fun n s'=>∃ σ' H',Inv X pins σ' H' s'/\W n σ' H') ?_ m0 ⟨σ,H,I,w0⟩)
 rintro n s1 ⟨σ1,H1,I1,w1⟩
 refine wpAny_passesOwn hp (wI (hc pins s1 σ1 H1 _ I1 (turn n σ1 H1 w1)) fun b s2 ⟨H2,I2,q2⟩=>?_)
 cases b with
 | true =>
  obtain⟨N,hN,q2⟩:=q2
  rw[if_pos rfl]
  refine wpAny_passesOwn hp (wI (hb pins s2 σ1 H2 _ I2 q2) fun f s3 q3=>?_)
  cases f with
  | next =>
   obtain⟨σ3,H3,I3,n3⟩:=q3
   obtain⟨m',hm,w3⟩:=hN σ3 H3 n3
   exact⟨m',hm,σ3,H3,I3,w3⟩
  | cont =>
   obtain⟨σ3,H3,I3,n3⟩:=q3
   obtain⟨m',hm,w3⟩:=hN σ3 H3 n3
   exact⟨m',hm,σ3,H3,I3,w3⟩
  | brk=>exact q3
  | ret v=>exact q3
 | false =>
  rw[if_neg ztm]
  exact wpAny_execs_nil ⟨σ1,H2,I2,q2⟩
end
structure It where
 go:Nat->Hp->Prop
 Ni:Nat->Hp->V->Hp->Prop
 stop:Nat->Hp->Prop
def zbx (X:Cx)(pins:List (Addr×Obj))(H:Hp)(b:Addr):Prop :=
 H b=none/\b≠X.env.locals/\b∉X.fs/\(b∈X.ex\/X.s₀.heap.objs.size<=b)/\(∀x c,X.env.cells.lookup x=some c->c≠b)/\∀p∈X.pn++pins,p.1≠b
theorem Inv.zdU {X:Cx}{pins:List (Addr×Obj)}{σ:St}{H H':Hp}{s:Shared}{b:Addr}(I:Inv X pins σ H s)(hb:s.heap.objs.size<=b)(hn:H' b=none):zbx X pins H' b:=by
 refine⟨hn,Nat.ne_of_gt (ztr I.lt hb),I.zl9 hb,.inr (ztE I.sz hb),fun x c e z=>?_,fun p hp z=>?_⟩
 ·obtain⟨v,q⟩:=I.cell x c e
  exact absurd (ztr q.lt (by rw[z];exact hb)) (Nat.lt_irrefl _)
 ·exact absurd (ztr (ztp (I.pin p hp).1) (by rw[z];exact hb)) (Nat.lt_irrefl _)
abbrev Calm (X:Cx):Prop:=X.calm=true
structure Turn (P:Program)(w:World)(K:Frag)(tg:Expr)(J:It)(fp:List Addr)(it:Addr)(tn:Nat->Heap->Prop)(rd:Cx->Prop:=Calm):Prop where
 mem:it∈fp
 obj:∀i h,tn i h->∀b∈fp,∃o,h.get? b=some o/\∀v,o.data≠.cell v
 keep:∀i h h',tn i h->(∀b∈fp,∀o,h.get? b=some o->h'.get? b=some o)->tn i h'
 item:∀(X:Cx),X.prog=P->X.w=w->X.K=K->rd X->∀(i:Nat) (pins:List (Addr×Obj)) (s:Shared) (σ:St) (H:Hp) (E:Value->Shared->Prop),Inv X pins σ H s->(∀b∈fp,zbx X pins H b)->tn i s.heap->J.go i H ->
  wpAny (model P w) X.A (pyNext (.ref it)) (fun r s1=>∃u,r=some u /\
   wpAny (model P w) X.A (letOwnedTupleGo tg (.ref it) u) (fun _ s2=>∃x H',Inv X pins σ H' s2/\RelV x u/\J.Ni i H x H'/\tn (i+1) s2.heap/\∀b∈fp,H' b=none) E s1) E s
 done:∀(X:Cx),X.prog=P->X.w=w->X.K=K->rd X->∀(i:Nat) (pins:List (Addr×Obj)) (s:Shared) (σ:St) (H:Hp) (E:Value->Shared->Prop),Inv X pins σ H s->(∀b∈fp,zbx X pins H b)->tn i s.heap->J.stop i H ->
  wpAny (model P w) X.A (pyNext (.ref it)) (fun r s1=>r=none/\Inv X pins σ H s1) E s
 self:∀(A:Around) (i:Nat) (s:Shared) (Q:Value->Shared->Prop) (E:Value->Shared->Prop),tn i s.heap->Q (.ref it) s->wpAny (model P w) A (pyIter (.ref it)) Q E s
abbrev TI:=St->Hp->(It->Hp->Prop)->Prop
def zmg (rd:Cx->Prop)(X:Cx)(pins:List (Addr×Obj))(σ:St)(tg:Expr)(R:It->Hp->Prop)(itv:Value)(s2:Shared):Prop :=
 ∃(it:Addr) (fp:List Addr) (tn:Nat->Heap->Prop) (J:It) (H':Hp),itv=.ref it/\Inv X pins σ H' s2/\Turn X.prog X.w X.K tg J fp it tn rd/\tn 0 s2.heap/\(∀b∈fp,zbx X pins H' b)/\R J H'
abbrev PIE:=zmg Calm
def PIr (rd:Cx->Prop)(X:Cx)(tg iter:Expr)(wi:TI):Prop :=
 ∀(pins:List (Addr×Obj)) (s:Shared) (σ:St) (H:Hp) (R:It->Hp->Prop),Inv X pins σ H s->wi σ H R ->
  wpAny (model X.prog X.w) X.A (eval iter X.env) (fun v s1=>wpAny (model X.prog X.w) X.A (pyIter v) (zmg rd X pins σ tg R) X.xe s1) X.xe s
abbrev PI:=PIr Calm
theorem zb3 {M:Model}{A:Around}{E:Value->Shared->Prop}{s:Shared}{tg:Expr}{it:Addr}{u:Value}{o:Obj}{n:String}{vs:Array Value}{Q:Unit->Shared->Prop}(ho:s.heap.get? it=some o)(hc:o.cls=.type n)(hd:o.data=.fields vs)
  (hn:["enumerate", "zip", "dict_itemiterator", "dict_reverseitemiterator", "odict_iterator", "itertools.zip_longest", "itertools.pairwise"].contains n=false)(hQ:Q () s):wpAny M A (letOwnedTupleGo tg (.ref it) u) Q E s:=by
 unfold letOwnedTupleGo
 cases tg<;>first
  | exact wpAny_pure hQ
  | (cases u<;>first
    | exact wpAny_pure hQ
    | (refine wpAny_bind (wpAny_load ho ?_)
       rw[hc,hd]
       show wpAny M A (if (["enumerate", "zip", "dict_itemiterator", "dict_reverseitemiterator", "odict_iterator", "itertools.zip_longest", "itertools.pairwise"].contains n&&vs[0]?==some (rawInt _))=true then _ else _) Q E s
       rw[if_neg (by intro h;rw[hn,Bool.false_and] at h;cases h)]
       exact wpAny_pure hQ))
def Itl (K:Frag)(a:Addr):It :=
 ⟨fun i H=>∃xs x,z6 K H a xs/\xs[i]?=some x,fun i H x H'=>H'=H/\∀xs,z6 K H a xs->xs[i]?=some x,fun i H=>∃xs,z6 K H a xs/\xs.length<=i⟩
def Itt (K:Frag)(a:Addr):It :=
 ⟨fun i H=>∃xs x,vQ K H a xs/\xs[i]?=some x,fun i H x H'=>H'=H/\∀xs,vQ K H a xs->xs[i]?=some x,fun i H=>∃xs,vQ K H a xs/\xs.length<=i⟩
def Itr (lo:Int)(n:Nat):It:=⟨fun i _=>i<n,fun i H x H'=>H'=H/\x=.int (lo+i),fun i _=>n<=i⟩
theorem zhD {P:Program}{w:World}{K:Frag}{tg:Expr}(a it:Addr):Turn P w K tg (Itl K a) [it] it (fun i h=>h.IsListIter it a i) where
 mem:=by simp
 obj:=fun i h st b hb=>by
  have e:b=it:=by simpa using hb
  subst e
  obtain⟨o,e,c,d⟩:=st
  exact⟨o,e,fun v z=>by rw[d] at z;cases z⟩
 keep:=fun i h h' st k=>st.at fun o e=>k it (by simp) o e
 item:=by
  intro X hP hw hK hc i pins s σ H E I hf st hg
  subst hP hw hK
  obtain⟨xs,x,hq,hx⟩:=hg
  obtain⟨its,rv,p,hz⟩:=I.list hq
  obtain⟨u,hu,ru⟩:=rv.get hx
  obtain⟨f0,f1,f2,f3,f4,f5⟩:=hf it (by simp)
  refine wpAny_pyNext_list_item st p.isList (x:=u) (by simpa using hu) fun h' st' sb=>?_
  have I1:Inv X pins σ H { s with heap:=h' }:=I.turned (t':=s.toks) (fun b o hb e=>(sb.2 b hb).trans e) f0 f1 f3 f4 f5
  obtain⟨o,e,c,d⟩:=id st'
  exact⟨u,rfl,zb3 (s:={ s with heap:=h' }) e c d (by decide) ⟨x,H,I1,ru,⟨rfl,fun ys hy=>by rw[I.VG hy hq];exact hx⟩,st',fun b hb=>(hf b hb).1⟩⟩
 done:=by
  intro X hP hw hK hc i pins s σ H E I hf st hg
  subst hP hw hK
  obtain⟨xs,hq,hx⟩:=hg
  obtain⟨its,rv,p,hz⟩:=I.list hq
  obtain⟨f0,f1,f2,f3,f4,f5⟩:=hf it (by simp)
  have hl:=rv.length
  exact wpAny_pyNext_list_end (I.ok.hd hc) st p.isList (by simp;omega) fun h' eb=>⟨rfl,I.turned (t':=s.toks) (fun b o hb e=>eb b o hb e) f0 f1 f3 f4 f5⟩
 self:=fun _ _ _ _ _ st h=>wpAny_pyIter_listiter st h
theorem zft {P:Program}{w:World}{K:Frag}{tg:Expr}(a it:Addr):Turn P w K tg (Itt K a) [it] it (fun i h=>h.IsTupleIter it a i) where
 mem:=by simp
 obj:=fun i h st b hb=>by
  have e:b=it:=by simpa using hb
  subst e
  obtain⟨o,e,c,d⟩:=st
  exact⟨o,e,fun v z=>by rw[d] at z;cases z⟩
 keep:=fun i h h' st k=>st.at fun o e=>k it (by simp) o e
 item:=by
  intro X hP hw hK hc i pins s σ H E I hf st hg
  subst hP hw hK
  obtain⟨xs,x,hq,hx⟩:=hg
  obtain⟨its,rv,p,hz⟩:=I.tuple hq
  obtain⟨u,hu,ru⟩:=rv.get hx
  obtain⟨f0,f1,f2,f3,f4,f5⟩:=hf it (by simp)
  refine wpAny_pyNext_tuple_item st (show s.heap.IsTuple a its.toArray from p) (x:=u) (by simpa using hu) fun h' st' sb=>?_
  have I1:Inv X pins σ H { s with heap:=h' }:=I.turned (t':=s.toks) (fun b o hb e=>(sb.2 b hb).trans e) f0 f1 f3 f4 f5
  obtain⟨o,e,c,d⟩:=id st'
  exact⟨u,rfl,zb3 (s:={ s with heap:=h' }) e c d (by decide) ⟨x,H,I1,ru,⟨rfl,fun ys hy=>by rw[I.zb2 hy hq];exact hx⟩,st',fun b hb=>(hf b hb).1⟩⟩
 done:=by
  intro X hP hw hK hc i pins s σ H E I hf st hg
  subst hP hw hK
  obtain⟨xs,hq,hx⟩:=hg
  obtain⟨its,rv,p,hz⟩:=I.tuple hq
  obtain⟨f0,f1,f2,f3,f4,f5⟩:=hf it (by simp)
  have hl:=rv.length
  exact wpAny_pyNext_tuple_end (I.ok.hd hc) st (show s.heap.IsTuple a its.toArray from p) (by simp;omega) fun h' eb=>⟨rfl,I.turned (t':=s.toks) (fun b o hb e=>eb b o hb e) f0 f1 f3 f4 f5⟩
 self:=fun _ _ _ _ _ st h=>wpAny_pyIter_tupleiter st h
theorem zfu {P:Program}{w:World}{K:Frag}{tg:Expr}(it:Addr)(lo:Int)(n:Nat):Turn P w K tg (Itr lo n) [it] it (fun i h=>IsRangeIter h it (lo+(i:Nat)*1) ((n:Int)-(i:Nat)) 1) where
 mem:=by simp
 obj:=fun i h st b hb=>by
  have e:b=it:=by simpa using hb
  subst e
  exact⟨_,st,fun v z=>by
   have z':Data.fields _=Data.cell v:=z
   cases z'⟩
 keep:=fun i h h' st k=>k it (by simp) _ st
 item:=by
  intro X hP hw hK hc i pins s σ H E I hf st hg
  subst hP hw hK
  obtain⟨f0,f1,f2,f3,f4,f5⟩:=hf it (by simp)
  have W:=Walks.range (prog:=X.prog) (w:=X.w) (I.ok.hd hc) it lo 1 n
  refine W.item i s _ _ hg st fun v h' tk hv st' kk=>?_
  obtain⟨t,rfl⟩:=hv
  have I1:Inv X pins σ H { s with heap:=h',toks:=tk }:=I.turned (fun b o hb e=>kk b o (by simpa using hb) e) f0 f1 f3 f4 f5
  refine⟨_,rfl,zb3 (s:={ s with heap:=h',toks:=tk }) (n := "range_iterator") st' rfl rfl (by decide) ⟨.int (lo+i),H,I1,⟨t,?_⟩,⟨rfl,rfl⟩,st',fun b hb=>(hf b hb).1⟩⟩
  rw[Int.mul_one]
 done:=by
  intro X hP hw hK hc i pins s σ H E I hf st hg
  subst hP hw hK
  obtain⟨f0,f1,f2,f3,f4,f5⟩:=hf it (by simp)
  exact wpAny_pyNext_range_end (I.ok.hd hc) st (by have:n<=i:=hg;omega) fun h' eb=>⟨rfl,I.turned (t':=s.toks) (fun b o hb e=>eb b o hb e) f0 f1 f3 f4 f5⟩
 self:=fun _ _ _ _ _ st h=>wpAny_pyIter_rangeiter st h
section
variable {X:Cx}{tg:Expr}
def znR (K:Frag)(tl:TE):TI:=fun σ H R=>tl σ H fun x H1=>∃a,x=.ref a/\(∃xs,z6 K H1 a xs)/\R (Itl K a) H1
def zpF (K:Frag)(tl:TE):TI:=fun σ H R=>tl σ H fun x H1=>∃a,x=.ref a/\(∃xs,vQ K H1 a xs)/\R (Itt K a) H1
theorem xq {l:Expr}{tl:TE}(hl:PE X l tl):PI X tg l (znR X.K tl):=by
 intro pins s σ H R I h
 refine wI (hl pins s σ H _ I h) fun v s1 ⟨x,H1,I1,r1,q1⟩=>?_
 obtain⟨a,e,⟨xs,hq⟩,q⟩:=q1
 subst e
 cases r1
 obtain⟨its,rv,p,hz⟩:=I1.list hq
 refine wpAny_pyIter_list p.isList ?_
 refine⟨s1.heap.objs.size,[s1.heap.objs.size],_,_,H1,rfl,I1.kept (t':=s1.toks) fun b o e=>zto _ e,zhD a _,⟨_,ztD _ rfl,rfl,rfl⟩,fun b hb=>?_,q⟩
 have e:b=s1.heap.objs.size:=by simpa using hb
 subst e
 exact I1.zdU (zty _) (I1.hok.fresh (zty _))
theorem QX {l:Expr}{tl:TE}(hl:PE X l tl):PI X tg l (zpF X.K tl):=by
 intro pins s σ H R I h
 refine wI (hl pins s σ H _ I h) fun v s1 ⟨x,H1,I1,r1,q1⟩=>?_
 obtain⟨a,e,⟨xs,hq⟩,q⟩:=q1
 subst e
 cases r1
 obtain⟨its,rv,p,hz⟩:=I1.tuple hq
 refine wpAny_pyIter_tuple (show s1.heap.IsTuple a its.toArray from p) ?_
 refine⟨s1.heap.objs.size,[s1.heap.objs.size],_,_,H1,rfl,I1.kept (t':=s1.toks) fun b o e=>zto _ e,zft a _,⟨_,ztD _ rfl,rfl,rfl⟩,fun b hb=>?_,q⟩
 have e:b=s1.heap.objs.size:=by simpa using hb
 subst e
 exact I1.zdU (zty _) (I1.hok.fresh (zty _))
theorem zdV {pins:List (Addr×Obj)}{σ:St}{H:Hp}{s:Shared}{R:It->Hp->Prop}{E:Value->Shared->Prop}{lo hi:Int}{t u v:Tok}{tk:Nat}(I:Inv X pins σ H s)(h1:-(2^62)<=lo)(h2:lo<2^62)(h3:-(2^62)<=hi)(h4:hi<2^62)
  (q:R (Itr lo (hi-lo).toNat) H):wpAny (model X.prog X.w) X.A (pyIter (.ref s.heap.objs.size)) (PIE X pins σ tg R) E { s with heap:=s.heap.push { cls:=.type "range", data:=.fields #[.int lo t,.int hi u,.int 1 v] },toks:=tk }:=by
 refine wpAny_pyIter_range (IsRange.new ..) (small_one h1 h2 h3 h4) ?_
 have I1:Inv X pins σ H { s with heap:=s.heap.push { cls:=.type "range", data:=.fields #[.int lo t,.int hi u,.int 1 v] },toks:=tk }:=I.kept fun b o e=>zto _ e
 refine⟨(s.heap.push { cls:=.type "range", data:=.fields #[.int lo t,.int hi u,.int 1 v] }).objs.size,[(s.heap.push { cls:=.type "range", data:=.fields #[.int lo t,.int hi u,.int 1 v] }).objs.size],_,_,H,rfl,
  I1.kept (t':=tk) fun b o e=>zto _ e,zfu _ lo (hi-lo).toNat,?_,fun b hb=>?_,q⟩
 ·have e1:lo+((0:Nat):Int)*1=lo:=by simp
  have e2:(((hi-lo).toNat:Nat):Int)-((0:Nat):Int)=Builtin.Range.rangeSize lo hi 1:=by rw[rangeSize_one];split<;>omega
  show IsRangeIter _ _ (lo+((0:Nat):Int)*1) ((((hi-lo).toNat:Nat):Int)-((0:Nat):Int)) 1
  rw[e1,e2]
  exact ztD _ rfl
 ·have e:b=(s.heap.push { cls:=.type "range", data:=.fields #[.int lo t,.int hi u,.int 1 v] }).objs.size:=by simpa using hb
  subst e
  exact I1.zdU (zty _) (I1.hok.fresh (zty _))
def znS (ta:TA):TI:=fun σ H R=>ta σ H fun vs H1=>∃j:Int,vs=[.int j]/\-(2^62)<=j/\j<2^62/\R (Itr 0 j.toNat) H1
def znT (ta:TA):TI:=fun σ H R=>ta σ H fun vs H1=>∃i j:Int,vs=[.int i,.int j]/\(-(2^62)<=i/\i<2^62/\-(2^62)<=j/\j<2^62)/\R (Itr i (j-i).toNat) H1
theorem XJ {a:Expr}{ta:TA}{p pos:Pos}(hg:Gl X "range")(hm:X.mg "range"=none)(ha:PA X [a] ta)(hs:starEach [a] X.env=[(false,eval a X.env)]:=by rfl):PI X tg (.Call (.Name "range" p) [a] [] pos) (znS ta):=by
 intro pins s σ H R I h
 refine Call_ (Wd I hg hm boot_range (PyProof.Rows.callWith_type1 (wI (ha pos pins s σ H _ I h) fun us s1 ⟨vs,H1,I1,r1,q1⟩=>?_) hs rfl))
 obtain⟨j,e,q1,q2,q⟩:=q1
 subst e
 cases r1 with
 | cons r rr =>
  cases rr
  obtain⟨t,rfl⟩:=r
  exact call_range_1 (zdV I1 (by omega) (by omega) q1 q2 (by simpa using q))
theorem zb6 {a b:Expr}{ta:TA}{p pos:Pos}(hg:Gl X "range")(hm:X.mg "range"=none)(ha:PA X [a,b] ta)(hs:starEach [a,b] X.env=[(false,eval a X.env),(false,eval b X.env)]:=by rfl)(hs2:starEach [b] X.env=[(false,eval b X.env)]:=by rfl) :
  PI X tg (.Call (.Name "range" p) [a,b] [] pos) (znT ta):=by
 intro pins s σ H R I h
 refine Call_ (Wd I hg hm boot_range (PyProof.Rows.callWith_type1 (wI (ha pos pins s σ H _ I h) fun us s1 ⟨vs,H1,I1,r1,q1⟩=>?_) (by rw[hs,hs2]) (by rw[hs2];rfl)))
 obtain⟨i,j,e,⟨q1,q2,q3,q4⟩,q⟩:=q1
 subst e
 cases r1 with
 | cons r rr =>
  cases rr with
  | cons r' rr =>
   cases rr
   obtain⟨t,rfl⟩:=r
   obtain⟨t',rfl⟩:=r'
   exact call_range_2 (zdV I1 q1 q2 q3 q4 q)
def zpG (wi:TI)(g:TG)(tb:TS):TS:=fun D σ H=>wi σ H fun J H1=>∃W:Nat->Nat->St->Hp->Prop,(∃m,W 0 m σ H1)/\∀i m σ H,W i m σ H ->
 (J.stop i H/\D.nx σ H)\/(J.go i H/\∃N:St->Hp->Prop,(∀ σ' H',N σ' H'->∃m',m'<m/\W (i+1) m' σ' H')/\∀x H',J.Ni i H x H'->g x σ H' fun σ2 H2=>tb { D with nx:=N,ct:=N,bk:=D.nx } σ2 H2)
def QZ (fp:List Addr)(h:Heap):List (Addr×Obj):=fp.filterMap fun b=>(h.get? b).map fun o=>(b,o)
theorem Uv {fp:List Addr}{h:Heap}{b:Addr}{o:Obj}(hb:b∈fp)(e:h.get? b=some o):(b,o)∈QZ fp h:=List.mem_filterMap.mpr ⟨b,hb,by rw[e];rfl⟩
theorem zb7 {fp:List Addr}{h:Heap}{p:Addr×Obj}(hp:p∈QZ fp h):p.1∈fp/\h.get? p.1=some p.2:=by
 obtain⟨b,hb,e⟩:=List.mem_filterMap.mp hp
 cases q:h.get? b with
 | none=>rw[q] at e;cases e
 | some o =>
  rw[q] at e
  have e':(b,o)=p:=ztN e
  subst e'
  exact⟨hb,q⟩
theorem Inv.pinned {pins:List (Addr×Obj)}{σ:St}{H:Hp}{s:Shared}{fp:List Addr}(I:Inv X pins σ H s)(hf:∀b∈fp,zbx X pins H b)(ho:∀b∈fp,∃o,s.heap.get? b=some o/\∀v,o.data≠.cell v):Inv X (pins++QZ fp s.heap) σ H s :=
 I.Xn fun p hp=>(List.mem_append.mp hp).elim (fun z=>I.pin p (ztz _ z)) fun z=>by
  obtain⟨hb,e⟩:=zb7 z
  obtain⟨f0,f1,f2,_⟩:=hf p.1 hb
  obtain⟨o,e',d⟩:=ho p.1 hb
  rw[e] at e';cases e'
  exact⟨e,f0,f1,f2,d⟩
theorem Inv.zaD {pins pl:List (Addr×Obj)}{σ:St}{H:Hp}{s:Shared}(I:Inv X (pins++pl) σ H s):Inv X pins σ H s:=I.Xn fun p hp=>I.pin p (ztz _ (List.mem_append_left _ hp))
theorem uz {iter:Expr}{body:List Stmt}{wi:TI}{g:TG}{tb:TS}{pos:Pos}(hp:PassesOwn (model X.prog X.w) X.A X.env X.xe)(hc:X.calm=true)(hi:PI X tg iter wi)(hg:PG X tg g)(hb:JK X body tb)
  (hs:∀x,foldedSetIterable iter X.env x=pure x:=by intro _;rfl):PS X (.For tg iter body [] pos) (zpG wi g tb):=by
 intro pins s σ H D I h
 refine wpAny_For (wI (hi pins s σ H _ I h) fun v s1 h1=>wI h1 fun itv s2 h2=>?_) hs
 obtain⟨it,fp,tn,J,H2,e,I2,T,st2,f2,W,⟨m0,w0⟩,turn⟩:=h2
 subst e
 have stat:∀{H':Hp},(∀b∈fp,H' b=none)->∀b∈fp,zbx X pins H' b:=fun hn b hb=>⟨hn b hb,(f2 b hb).2⟩
 refine codeAny_forLoop_any (fun n s'=>∃i σ' H',Inv X pins σ' H' s'/\tn i s'.heap/\(∀b∈fp,H' b=none)/\W i n σ' H') ?_ m0 ⟨0,σ,H2,I2,st2,fun b hb=>(f2 b hb).1,w0⟩
 rintro n s3 ⟨i,σ3,H3,I3,st3,fr3,w3⟩
 rcases turn i n σ3 H3 w3 with ⟨stop,qn⟩ | ⟨go,N,hN,step⟩
 ·refine wpAny_passesOwn hp (wI (T.done X rfl rfl rfl hc i pins s3 σ3 H3 X.xe I3 (stat fr3) st3 stop) fun r s4 ⟨hr,I4⟩=>?_)
  subst hr
  exact wpAny_execs_nil ⟨σ3,H3,I4,qn⟩
 ·refine wpAny_passesOwn hp (wI (T.item X rfl rfl rfl hc i pins s3 σ3 H3 X.xe I3 (stat fr3) st3 go) fun r s4 ⟨u,hr,h4⟩=>?_)
  subst hr
  refine wpAny_passesOwn hp (wI h4 fun _ s5 ⟨x,H5,I5,r5,y5,st5,fr5⟩=>?_)
  have I5':=I5.pinned (stat fr5) (T.obj _ _ st5)
  refine wpAny_passesOwn hp (wI (hg _ s5 σ3 H5 x u _ I5' r5 (step x H5 y5)) fun _ s6 ⟨σ6,H6,I6,q6⟩=>?_)
  refine wpAny_passesOwn hp (wI (hb _ s6 σ6 H6 _ I6 q6) fun f s7 q7=>?_)
  have again:∀{σ7:St} {H7:Hp},Inv X (pins++QZ fp s5.heap) σ7 H7 s7->N σ7 H7->∃m,m<n/\∃i σ' H',Inv X pins σ' H' s7/\tn i s7.heap/\(∀b∈fp,H' b=none)/\W i m σ' H':=fun {σ7 H7} I7 n7=>by
   obtain⟨m',hm,w7⟩:=hN σ7 H7 n7
   refine⟨m',hm,i+1,σ7,H7,I7.zaD,T.keep _ _ _ st5 fun b hb o e=>(I7.pin (b,o) (ztz _ (ztz _ (Uv hb e)))).1,fun b hb=>?_,w7⟩
   obtain⟨o,e,d⟩:=T.obj _ _ st5 b hb
   exact(I7.pin (b,o) (ztz _ (ztz _ (Uv hb e)))).2.1
  cases f with
  | next=>obtain⟨σ7,H7,I7,n7⟩:=q7;exact again I7 n7
  | cont=>obtain⟨σ7,H7,I7,n7⟩:=q7;exact again I7 n7
  | brk=>obtain⟨σ7,H7,I7,q7⟩:=q7;exact⟨σ7,H7,I7.zaD,q7⟩
  | ret v=>obtain⟨x7,σ7,H7,I7,r7,q7⟩:=q7;exact⟨x7,σ7,H7,I7.zaD,r7,q7⟩
end
theorem tX {K:Frag}{a:Addr}{xs:List V}{g:TG}{tb:TS}{D:Ends}{σ:St}{H:Hp}(Pv:Nat->St->Hp->Prop)(h0:Pv 0 σ H)(hl:∀i σ H,i<=xs.length->Pv i σ H->z6 K H a xs)
  (hs:∀i x σ H,xs[i]?=some x->Pv i σ H->g x σ H fun σ2 H2=>tb { D with nx:=Pv (i+1),ct:=Pv (i+1),bk:=D.nx } σ2 H2)(hd:∀ σ H,Pv xs.length σ H->D.nx σ H) :
  ∃W:Nat->Nat->St->Hp->Prop,(∃m,W 0 m σ H)/\∀i m σ H,W i m σ H ->
   ((Itl K a).stop i H/\D.nx σ H)\/((Itl K a).go i H/\∃N:St->Hp->Prop,(∀ σ' H',N σ' H'->∃m',m'<m/\W (i+1) m' σ' H')/\∀x H',(Itl K a).Ni i H x H'->g x σ H' fun σ2 H2=>tb { D with nx:=N,ct:=N,bk:=D.nx } σ2 H2):=by
 refine⟨fun i m σ H=>m=xs.length-i/\i<=xs.length/\Pv i σ H,⟨xs.length,by simp,ztF _,h0⟩,?_⟩
 rintro i m σ H ⟨rfl,hi,p⟩
 have q:=hl i σ H hi p
 by_cases hlt:i<xs.length
 ·refine .inr ⟨⟨xs,xs[i],q,by simp[hlt]⟩,Pv (i+1),fun σ' H' p'=>⟨xs.length-(i+1),by omega,rfl,hlt,p'⟩,fun x H' y=>?_⟩
  obtain⟨e,y⟩:=y
  subst e
  exact hs i x σ _ (y xs q) p
 ·have e:i=xs.length:=by omega
  subst e
  exact .inl ⟨⟨xs,q,zty _⟩,hd σ H p⟩
theorem zj6 {K:Frag}{a:Addr}{xs:List V}{g:TG}{tb:TS}{D:Ends}{σ:St}{H:Hp}(Pv:Nat->St->Hp->Prop)(h0:Pv 0 σ H)(hl:∀i σ H,i<=xs.length->Pv i σ H->vQ K H a xs)
  (hs:∀i x σ H,xs[i]?=some x->Pv i σ H->g x σ H fun σ2 H2=>tb { D with nx:=Pv (i+1),ct:=Pv (i+1),bk:=D.nx } σ2 H2)(hd:∀ σ H,Pv xs.length σ H->D.nx σ H) :
  ∃W:Nat->Nat->St->Hp->Prop,(∃m,W 0 m σ H)/\∀i m σ H,W i m σ H ->
   ((Itt K a).stop i H/\D.nx σ H)\/((Itt K a).go i H/\∃N:St->Hp->Prop,(∀ σ' H',N σ' H'->∃m',m'<m/\W (i+1) m' σ' H')/\∀x H',(Itt K a).Ni i H x H'->g x σ H' fun σ2 H2=>tb { D with nx:=N,ct:=N,bk:=D.nx } σ2 H2):=by
 refine⟨fun i m σ H=>m=xs.length-i/\i<=xs.length/\Pv i σ H,⟨xs.length,by simp,ztF _,h0⟩,?_⟩
 rintro i m σ H ⟨rfl,hi,p⟩
 have q:=hl i σ H hi p
 by_cases hlt:i<xs.length
 ·refine .inr ⟨⟨xs,xs[i],q,by simp[hlt]⟩,Pv (i+1),fun σ' H' p'=>⟨xs.length-(i+1),by omega,rfl,hlt,p'⟩,fun x H' y=>?_⟩
  obtain⟨e,y⟩:=y
  subst e
  exact hs i x σ _ (y xs q) p
 ·have e:i=xs.length:=by omega
  subst e
  exact .inl ⟨⟨xs,q,zty _⟩,hd σ H p⟩
theorem VH {lo:Int}{n:Nat}{g:TG}{tb:TS}{D:Ends}{σ:St}{H:Hp}(Pv:Nat->St->Hp->Prop)(h0:Pv 0 σ H)
  (hs:∀i σ H,i<n->Pv i σ H->g (.int (lo+i)) σ H fun σ2 H2=>tb { D with nx:=Pv (i+1),ct:=Pv (i+1),bk:=D.nx } σ2 H2)(hd:∀ σ H,Pv n σ H->D.nx σ H) :
  ∃W:Nat->Nat->St->Hp->Prop,(∃m,W 0 m σ H)/\∀i m σ H,W i m σ H ->
   ((Itr lo n).stop i H/\D.nx σ H)\/((Itr lo n).go i H/\∃N:St->Hp->Prop,(∀ σ' H',N σ' H'->∃m',m'<m/\W (i+1) m' σ' H')/\∀x H',(Itr lo n).Ni i H x H'->g x σ H' fun σ2 H2=>tb { D with nx:=N,ct:=N,bk:=D.nx } σ2 H2):=by
 refine⟨fun i m σ H=>m=n-i/\i<=n/\Pv i σ H,⟨n,by simp,ztF _,h0⟩,?_⟩
 rintro i m σ H ⟨rfl,hi,p⟩
 by_cases hlt:i<n
 ·refine .inr ⟨hlt,Pv (i+1),fun σ' H' p'=>⟨n-(i+1),by omega,rfl,hlt,p'⟩,fun x H' y=>?_⟩
  obtain⟨e,y⟩:=y
  subst e y
  exact hs i σ _ hlt p
 ·have e:i=n:=by omega
  subst e
  exact .inl ⟨zty _,hd σ H p⟩
abbrev R2:=V->V->Hp->VK->Prop
def Vj (X:Cx)(f:Value->Value->Sem Value)(r:R2):Prop :=
 ∀(pins:List (Addr×Obj)) (s:Shared) (σ:St) (H:Hp) (x y:V) (v u:Value) (Q:VK),Inv X pins σ H s->RelV x v->RelV y u->r x y H Q ->
  wpAny (model X.prog X.w) X.A (f v u) (EP X pins σ Q) X.xe s
def UnR (X:Cx)(f:Value->Sem Value)(r:V->Hp->VK->Prop):Prop :=
 ∀(pins:List (Addr×Obj)) (s:Shared) (σ:St) (H:Hp) (x:V) (v:Value) (Q:VK),Inv X pins σ H s->RelV x v->r x H Q ->
  wpAny (model X.prog X.w) X.A (f v) (EP X pins σ Q) X.xe s
def Xl (X:Cx)(f:Value)(r:List V->Hp->VK->Prop):Prop :=
 ∀(pins:List (Addr×Obj)) (s:Shared) (σ:St) (H:Hp) (xs:List V) (us:List Value) (Q:VK),Inv X pins σ H s->Vals xs us->r xs H Q ->
  wpAny (model X.prog X.w) X.A (call f us) (EP X pins σ Q) X.xe s
def zpJ (X:Cx)(r:V->Hp->(Bool->Hp->Prop)->Prop):Prop :=
 ∀(pins:List (Addr×Obj)) (s:Shared) (σ:St) (H:Hp) (x:V) (v:Value) (Q:Bool->Hp->Prop),Inv X pins σ H s->RelV x v->r x H Q ->
  wpAny (model X.prog X.w) X.A (truthy v) (TP X pins σ Q) X.xe s
def tOp (r:R2)(ta tb:TE):TE:=fun σ H Q=>ta σ H fun x H1=>tb σ H1 fun y H2=>r x y H2 Q
def tUn (r:V->Hp->VK->Prop)(ta:TE):TE:=fun σ H Q=>ta σ H fun x H1=>r x H1 Q
def rI (C:Int->Int->Prop)(g:Int->Int->V):R2:=fun x y H Q=>∃i j,x=.int i/\y=.int j/\C i j/\Q (g i j) H
def rI0 (g:Int->Int->V):R2:=fun x y H Q=>∃i j,x=.int i/\y=.int j/\Q (g i j) H
def rU (g:Int->V):V->Hp->VK->Prop:=fun x H Q=>∃i,x=.int i/\Q (g i) H
section
variable {X:Cx}{a b c:Expr}{ta tb tc:TE}{pos:Pos}
theorem zmh (ha:PE X a ta)(hb:PE X b tb){pins:List (Addr×Obj)}{s:Shared}{σ:St}{H:Hp}{R:V->V->Hp->Prop}(I:Inv X pins σ H s)
  (h:ta σ H fun x H1=>tb σ H1 fun y H2=>R x y H2){Q:Value->Shared->Prop}{f:Value->Value->Sem Value}
  (hf:∀v u s2 x y H2,Inv X pins σ H2 s2->RelV x v->RelV y u->R x y H2->wpAny (model X.prog X.w) X.A (f v u) Q X.xe s2) :
  wpAny (model X.prog X.w) X.A (eval a X.env) (fun v s₁=>wpAny (model X.prog X.w) X.A (eval b X.env) (fun u s₂=>wpAny (model X.prog X.w) X.A (f v u) Q X.xe s₂) X.xe s₁) X.xe s:=by
 refine wI (ha pins s σ H _ I h) fun v s1 ⟨x,H1,I1,r1,q1⟩=>?_
 refine wI (hb pins s1 σ H1 _ I1 q1) fun u s2 ⟨y,H2,I2,r2,q2⟩=>?_
 exact hf v u s2 x y H2 I2 r1 r2 q2
theorem zP {op:Operator}{r:R2}(ho:Vj X (binaryOp op) r)(ha:PE X a ta)(hb:PE X b tb):PE X (.BinOp a op b pos) (tOp r ta tb):=by
 intro pins s σ H Q I h
 exact wpAny_BinOp (zmh ha hb I h fun v u s2 x y H2 I2 rx ry q=>ho pins s2 σ H2 x y v u Q I2 rx ry q)
theorem Qx {op:UnaryOp}{r:V->Hp->VK->Prop}(ho:UnR X (unaryOp op) r)(ha:PE X a ta):PE X (.UnaryOp op a pos) (tUn r ta):=by
 intro pins s σ H Q I h
 exact UnaryOp_ (wI (ha pins s σ H _ I h) fun v s1 ⟨x,H1,I1,r1,q1⟩=>ho pins s1 σ H1 x v Q I1 r1 q1)
theorem opI {f:Value->Value->Sem Value}{C:Int->Int->Prop}{g:Int->Int->Int}
  (rule:∀(i j:Int) (t u:Tok) (s:Shared) (Q:Value->Shared->Prop) (E:Value->Shared->Prop),C i j->Q (.int (g i j) s.toks) { s with toks:=s.toks+1 }->wpAny (model X.prog X.w) X.A (f (.int i t) (.int j u)) Q E s) :
  Vj X f (rI C fun i j=>.int (g i j)):=by
 intro pins s σ H x y v u Q I rx ry h
 obtain⟨i,j,rfl,rfl,hc,q⟩:=h
 obtain⟨t,rfl⟩:=rx
 obtain⟨t',rfl⟩:=ry
 exact rule i j t t' s _ _ hc ⟨.int (g i j),H,I.tok _,⟨_,rfl⟩,q⟩
theorem zhE {f:Value->Value->Sem Value}{g:Int->Int->Int}
  (rule:∀(i j:Int) (t u:Tok) (s:Shared) (Q:Value->Shared->Prop) (E:Value->Shared->Prop),Q (.int (g i j) s.toks) { s with toks:=s.toks+1 }->wpAny (model X.prog X.w) X.A (f (.int i t) (.int j u)) Q E s) :
  Vj X f (rI0 fun i j=>.int (g i j)):=by
 intro pins s σ H x y v u Q I rx ry h
 obtain⟨i,j,rfl,rfl,q⟩:=h
 obtain⟨t,rfl⟩:=rx
 obtain⟨t',rfl⟩:=ry
 exact rule i j t t' s _ _ ⟨.int (g i j),H,I.tok _,⟨_,rfl⟩,q⟩
theorem zmi {f:Value->Value->Sem Value}{g:Int->Int->Bool}
  (rule:∀(i j:Int) (t u:Tok) (s:Shared) (Q:Value->Shared->Prop) (E:Value->Shared->Prop),Q (.bool (g i j)) s->wpAny (model X.prog X.w) X.A (f (.int i t) (.int j u)) Q E s) :
  Vj X f (rI0 fun i j=>.bl (g i j)):=by
 intro pins s σ H x y v u Q I rx ry h
 obtain⟨i,j,rfl,rfl,q⟩:=h
 obtain⟨t,rfl⟩:=rx
 obtain⟨t',rfl⟩:=ry
 exact rule i j t t' s _ _ ⟨.bl (g i j),H,I,rfl,q⟩
def zpK (i j:Int):Prop:=0<j/\j<1073741824
def zpL (i j:Int):Prop:=0<=j/\j<=1000000/\i.natAbs<2^64
def zmj (i j:Int):Prop:=(-(2^64)<i/\i<2^64)\/(-(2^64)<j/\j<2^64)
theorem zmj.ok {i j:Int}(h:zmj i j):IntMulOk i j:=by
 rcases h with ⟨h1,h2⟩ | ⟨h1,h2⟩
 ·exact .of_left (intBits_le_64 h1 h2)
 ·exact .of_right (intBits_le_64 h1 h2)
theorem zfv (k:Nat):(0:Int)<=2^k:=by
 rw[two_pow_cast]
 exact Int.natCast_nonneg _
theorem wj:Vj X (binaryOp .Add) (rI0 fun i j=>.int (i+j)):=zhE fun _ _ _ _ _ _ _ q=>add_int q
theorem Q5:Vj X (binaryOp .Sub) (rI0 fun i j=>.int (i-j)):=zhE fun _ _ _ _ _ _ _ q=>sub_int q
theorem zaE:Vj X (binaryOp .Mult) (rI zmj fun i j=>.int (i*j)):=opI fun _ _ _ _ _ _ _ hc q=>mul_int q hc.ok
theorem zgG:Vj X (binaryOp .FloorDiv) (rI zpK fun i j=>.int (i / j)):=opI fun i j _ _ _ _ _ hc q=>by
 have h1:(0:Int)<j:=hc.1
 have h2:j<1073741824:=hc.2
 exact floordiv_int (by omega) (by rw[Int.fdiv_eq_ediv_of_nonneg i (by omega)];exact q) (.inl (PyProof.noPylong_small (by omega)))
theorem Xd:Vj X (binaryOp .Mod) (rI (fun _ j=>0<j) fun i j=>.int (i%j)):=opI fun i j _ _ _ _ _ hc q=>by
 have h1:(0:Int)<j:=hc
 exact mod_int' (by omega) (by rw[Int.fmod_eq_emod_of_nonneg i (by omega)];exact q)
theorem ziy:Vj X (binaryOp .Pow) (rI zpL fun i j=>.int (i^j.toNat)):=opI fun _ _ _ _ _ _ _ hc q=>pow_int_small hc.1 hc.2.1 hc.2.2 q
theorem zmk:Vj X (binaryOp .RShift) (rI (fun _ j=>0<=j) fun i j=>.int (i / 2^j.toNat)):=opI fun i j _ _ _ _ _ hc q =>
 rshift_int hc (by rw[Int.fdiv_eq_ediv_of_nonneg i (zfv _)];exact q)
theorem zml:Vj X (binaryOp .BitAnd) (rI0 fun i j=>.int (Builtin.bitAnd i j)):=zhE fun _ _ _ _ _ _ _ q=>and_int q
theorem znV:Vj X (binaryOp .BitOr) (rI0 fun i j=>.int (Builtin.bitOr i j)):=zhE fun _ _ _ _ _ _ _ q=>or_int q
theorem zmm:Vj X (binaryOp .BitXor) (rI0 fun i j=>.int (Builtin.bitXor i j)):=zhE fun _ _ _ _ _ _ _ q=>xor_int q
theorem zcK:Vj X (inplaceOp .Add) (rI0 fun i j=>.int (i+j)):=zhE fun _ _ _ _ _ _ _ q=>iadd_int q
theorem unI {f:Value->Sem Value}{g:Int->Int}
  (rule:∀(i:Int) (t:Tok) (s:Shared) (Q:Value->Shared->Prop) (E:Value->Shared->Prop),Q (.int (g i) s.toks) { s with toks:=s.toks+1 }->wpAny (model X.prog X.w) X.A (f (.int i t)) Q E s) :
  UnR X f (rU fun i=>.int (g i)):=by
 intro pins s σ H x v Q I rx h
 obtain⟨i,rfl,q⟩:=h
 obtain⟨t,rfl⟩:=rx
 exact rule i t s _ _ ⟨.int (g i),H,I.tok _,⟨_,rfl⟩,q⟩
theorem Vk:UnR X (unaryOp .USub) (rU fun i=>.int (-i)):=unI fun _ _ _ _ _ q=>neg_int q
end
def znW:V->V->Bool
 | .non,.non=>true | .non,.int _=>true | .int _,.non=>true | .non,.bl _=>true | .bl _,.non=>true | .non,.str _=>true | .str _,.non=>true
 | .int _,.int _=>true | .bl _,.bl _=>true | .str _,.str _=>true | .byt _,.byt _=>true
 | .int _,.str _=>true | .str _,.int _=>true | .bl _,.str _=>true | .str _,.bl _=>true
 | _,_=>false
def rEq:R2:=fun x y H Q=>znW x y=true/\Q (.bl (decide (x=y))) H
def rNe:R2:=fun x y H Q=>znW x y=true/\Q (.bl (!decide (x=y))) H
theorem zgH {i j:Int}:decide (V.int i=V.int j)=(i==j):=by
 rw[ztW]
 simp
theorem ziz {i j:Bool}:decide (V.bl i=V.bl j)=(i==j):=by
 rw[ztW]
 simp
theorem zgI {i j:Str}:decide (V.str i=V.str j)=(i==j):=by
 rw[ztW]
 simp
theorem zgJ {i j:Array UInt8}:decide (V.byt i=V.byt j)=(i.toList==j.toList):=by
 rw[ztW]
 cases i
 cases j
 simp
section
variable {X:Cx}{a b c:Expr}{ta tb tc:TE}{pos:Pos}
theorem yP {pins:List (Addr×Obj)}{σ:St}{H:Hp}{s:Shared}{Q:VK}{k k':Bool}(I:Inv X pins σ H s)(q:Q (.bl k) H)(e:k=k'):EP X pins σ Q (.bool k') s:=by
 subst e
 exact⟨.bl k,H,I,rfl,q⟩
theorem xG:Vj X (compareOp .Eq) rEq:=by
 intro pins s σ H x y v u Q I rx ry h
 obtain⟨hs,q⟩:=h
 cases x with
 | non =>
  cases rx
  cases y with
  | non=>cases ry;exact PySem.EqNone.eq_none_none (yP I q (by simp))
  | bl j=>cases ry;exact PySem.EqNone.eq_none_bool (yP I q (by simp))
  | int j=>obtain⟨t',rfl⟩:=ry;exact PySem.EqNone.eq_none_int (yP I q (by simp))
  | str j=>obtain⟨t',rfl⟩:=ry;exact PySem.EqNone.eq_none_str (yP I q (by simp))
  | _=>exact absurd (show false=true from hs) ztm
 | bl i =>
  cases rx
  cases y with
  | non=>cases ry;exact PySem.EqNone.eq_bool_none (yP I q (by simp))
  | bl j=>cases ry;exact eq_bool (yP I q ziz)
  | str j=>obtain⟨t',rfl⟩:=ry;exact PySem.EqMixed.eq_bool_str (yP I q (by simp))
  | _=>exact absurd (show false=true from hs) ztm
 | int i =>
  obtain⟨t,rfl⟩:=rx
  cases y with
  | non=>cases ry;exact PySem.EqNone.eq_int_none (yP I q (by simp))
  | int j=>obtain⟨t',rfl⟩:=ry;exact eq_int (yP I q zgH)
  | str j=>obtain⟨t',rfl⟩:=ry;exact PySem.EqMixed.eq_int_str (yP I q (by simp))
  | _=>exact absurd (show false=true from hs) ztm
 | str i =>
  obtain⟨t,rfl⟩:=rx
  cases y with
  | non=>cases ry;exact PySem.EqNone.eq_str_none (yP I q (by simp))
  | bl j=>cases ry;exact PySem.EqMixed.eq_str_bool (yP I q (by simp))
  | int j=>obtain⟨t',rfl⟩:=ry;exact PySem.EqMixed.eq_str_int (yP I q (by simp))
  | str j=>obtain⟨t',rfl⟩:=ry;exact eq_str (yP I q zgI)
  | _=>exact absurd (show false=true from hs) ztm
 | byt i =>
  obtain⟨t,rfl⟩:=rx
  cases y with
  | byt j=>obtain⟨t',rfl⟩:=ry;exact PySem.W.eq_bytes (yP I q zgJ)
  | _=>exact absurd (show false=true from hs) ztm
 | _=>cases y<;>exact absurd (show false=true from hs) ztm
theorem Nv:Vj X (compareOp .NotEq) rNe:=by
 intro pins s σ H x y v u Q I rx ry h
 obtain⟨hs,q⟩:=h
 cases x with
 | non =>
  cases rx
  cases y with
  | non=>cases ry;exact PySem.EqNone.ne_none_none (yP I q (by simp))
  | bl j=>cases ry;exact PySem.EqNone.ne_none_bool (yP I q (by simp))
  | int j=>obtain⟨t',rfl⟩:=ry;exact PySem.EqNone.ne_none_int (yP I q (by simp))
  | str j=>obtain⟨t',rfl⟩:=ry;exact PySem.EqNone.ne_none_str (yP I q (by simp))
  | _=>exact absurd (show false=true from hs) ztm
 | bl i =>
  cases rx
  cases y with
  | non=>cases ry;exact PySem.EqNone.ne_bool_none (yP I q (by simp))
  | bl j=>cases ry;exact ne_bool (yP I q (congrArg not ziz))
  | str j=>obtain⟨t',rfl⟩:=ry;exact PySem.EqMixed.ne_bool_str (yP I q (by simp))
  | _=>exact absurd (show false=true from hs) ztm
 | int i =>
  obtain⟨t,rfl⟩:=rx
  cases y with
  | non=>cases ry;exact PySem.EqNone.ne_int_none (yP I q (by simp))
  | int j=>obtain⟨t',rfl⟩:=ry;exact ne_int (yP I q (congrArg not zgH))
  | str j=>obtain⟨t',rfl⟩:=ry;exact PySem.EqMixed.ne_int_str (yP I q (by simp))
  | _=>exact absurd (show false=true from hs) ztm
 | str i =>
  obtain⟨t,rfl⟩:=rx
  cases y with
  | non=>cases ry;exact PySem.EqNone.ne_str_none (yP I q (by simp))
  | bl j=>cases ry;exact PySem.EqMixed.ne_str_bool (yP I q (by simp))
  | int j=>obtain⟨t',rfl⟩:=ry;exact PySem.EqMixed.ne_str_int (yP I q (by simp))
  | str j=>obtain⟨t',rfl⟩:=ry;exact ne_str (yP I q (congrArg not zgI))
  | _=>exact absurd (show false=true from hs) ztm
 | byt i =>
  obtain⟨t,rfl⟩:=rx
  cases y with
  | byt j=>obtain⟨t',rfl⟩:=ry;exact PySem.W.ne_bytes (yP I q (congrArg not zgJ))
  | _=>exact absurd (show false=true from hs) ztm
 | _=>cases y<;>exact absurd (show false=true from hs) ztm
theorem zdW:Vj X (compareOp .Lt) (rI0 fun i j=>.bl (decide (i<j))):=zmi fun _ _ _ _ _ _ _ q=>lt_int q
theorem Jb:Vj X (compareOp .Gt) (rI0 fun i j=>.bl (decide (j<i))):=zmi fun _ _ _ _ _ _ _ q=>gt_int q
theorem ziA:Vj X (compareOp .GtE) (rI0 fun i j=>.bl (decide (j<=i))):=zmi fun _ _ _ _ _ _ _ q=>ge_int q
theorem Vj.or {f:Value->Value->Sem Value}{r r':R2}(h:Vj X f r)(h':Vj X f r'):Vj X f (fun x y H Q=>r x y H Q\/r' x y H Q):=by
 intro pins s σ H x y v u Q I rx ry q
 rcases q with q | q
 ·exact h pins s σ H x y v u Q I rx ry q
 ·exact h' pins s σ H x y v u Q I rx ry q
theorem zU (b:Expr){op:CmpOp}(h:op≠.In:=by decide)(h2:op≠.NotIn:=by decide):behindInMarks op b=false:=by
 have e1:(op==CmpOp.In)=false:=by cases op<;>first | rfl | exact absurd rfl h
 have e2:(op==CmpOp.NotIn)=false:=by cases op<;>first | rfl | exact absurd rfl h2
 cases b<;>simp[behindInMarks,e1,e2]
theorem ZD {op:CmpOp}{r:R2}(ho:Vj X (compareOp op) r)(ha:PE X a ta)(hb:PE X b tb)(hm:behindInMarks op b=false):PE X (.Compare a [op] [b] pos) (tOp r ta tb):=by
 intro pins s σ H Q I h
 exact wpAny_Compare1 (zmh ha hb I h fun v u s2 x y H2 I2 rx ry q=>ho pins s2 σ H2 x y v u Q I2 rx ry q) hm
inductive znX (x:V)(k:Bool->Prop):Prop
 | mk (c:Bool) (_:x=.bl c) (_:k c):znX x k
def znY (t:TE):TT:=fun σ H Q=>t σ H fun x H'=>znX x fun k=>Q k H'
theorem zQ {op:CmpOp}{r:R2}(ho:Vj X (compareOp op) r)(ha:PE X a ta)(hb:PE X b tb)(hm:behindInMarks op b=false):PT X (.Compare a [op] [b] pos) (znY (tOp r ta tb)):=by
 intro pins s σ H Q I h
 refine wpAny_isTrue_Compare1 (wI (ha pins s σ H _ I h) fun v s1 ⟨x,H1,I1,r1,q1⟩=>wI (hb pins s1 σ H1 _ I1 q1) fun u s2 ⟨y,H2,I2,r2,q2⟩ =>
  wI (ho pins s2 σ H2 x y v u _ I2 r1 r2 q2) fun c s3 ⟨z,H3,I3,r3,k,e,q3⟩=>?_) hm
 subst e
 cases r3
 exact wpAny_truthy_bool ⟨H3,I3,q3⟩
def zmn (K:Frag)(x:V)(H:Hp)(k:Bool):Prop :=
 match x with
 | .non=>k=false
 | .bl b=>k=b
 | .int i=>k=(i != 0)
 | .str y=>y.length<=sizeLine/\k=((y.length:Int) != 0)
 | .byt y=>y.size<=sizeLine/\k=((y.size:Int) != 0)
 | .ref p=>(∃xs,z6 K H p xs/\k=!xs.isEmpty)\/(∃xs,vQ K H p xs/\k=!xs.isEmpty)\/∃kvs,H p=some (.dK kvs)/\k=!kvs.isEmpty
 | _=>False
theorem zfw {κ:Type}{kvs:List (κ×V)}{vs:List (κ×Value)}(r:KV kvs vs):(!vs.isEmpty)=!kvs.isEmpty:=by
 cases r<;>rfl
theorem zaF {xs:List V}{its:List Value}(r:Vals xs its):(!its.toArray.isEmpty)=!xs.isEmpty:=by
 cases r<;>simp
theorem Uw:(sizeLine:Nat)<2^63:=by rw[sizeLine_eq];decide
theorem zmo:zpJ X (fun x H Q=>∃k,zmn X.K x H k/\Q k H):=by
 intro pins s σ H x v Q I rx h
 obtain⟨k,e,q⟩:=h
 have hl:=Uw
 have hs:sizeLine=16777216:=sizeLine_eq
 cases x with
 | non =>
  cases rx
  have e':k=false:=e
  subst e'
  exact truthy_none ⟨H,I,q⟩
 | bl b =>
  cases rx
  have e':k=b:=e
  subst e'
  exact wpAny_truthy_bool ⟨H,I,q⟩
 | int i =>
  obtain⟨t,rfl⟩:=rx
  have e':k=(i != 0):=e
  subst e'
  exact PySem.P.truthy_int ⟨H,I,q⟩
 | str y =>
  obtain⟨t,rfl⟩:=rx
  obtain⟨hy,e'⟩:y.length<=sizeLine/\k=((y.length:Int) != 0):=e
  subst e'
  exact PySem.P.truthy_str (by omega) ⟨H,I.tok _,q⟩
 | byt y =>
  obtain⟨t,rfl⟩:=rx
  obtain⟨hy,e'⟩:y.size<=sizeLine/\k=((y.size:Int) != 0):=e
  subst e'
  exact PySem.W.truthy_bytes (by omega) ⟨H,I.tok _,q⟩
 | ref p =>
  cases rx
  have e':(∃xs,z6 X.K H p xs/\k=!xs.isEmpty)\/(∃xs,vQ X.K H p xs/\k=!xs.isEmpty)\/∃kvs,H p=some (.dK kvs)/\k=!kvs.isEmpty:=e
  rcases e' with ⟨xs,hx,e'⟩ | ⟨xs,hx,e'⟩ | ⟨kvs,hx,e'⟩
  ·subst e'
   obtain⟨its,r,pl,hz⟩:=I.list hx
   have hlen:=r.length
   exact wpAny_truthy_list pl.isList (by simp only[zts];omega) ⟨H,I.tok _,by rw[zaF r];exact q⟩
  ·subst e'
   obtain⟨its,r,pl,hz⟩:=I.tuple hx
   have hlen:=r.length
   exact truthy_tuple pl (by simp only[zts];omega) ⟨H,I.tok _,by rw[zaF r];exact q⟩
  ·subst e'
   obtain⟨hz,hS,vs,r,m⟩:kvs.length<=sizeLine/\(p==sysModules)=false/\∃vs,KV kvs vs/\s.heap.DictOf (yp X.prog X.w) p vs:=I.hok p _ hx
   have hlen:kvs.length=vs.length:=Paired.length r
   exact wpAny_truthy_dict hS m (by omega) ⟨H,I.tok _,by rw[zfw r];exact q⟩
 | _=>exact(show False from e).elim
theorem yM (ha:PE X a ta)(he:∀whole,isTrue a X.env whole=(do let v <-whole;standAt a.pos;holding [v] (truthy v))) :
  PT X a (fun σ H Q=>ta σ H fun x H'=>∃k,zmn X.K x H' k/\Q k H'):=by
 intro pins s σ H Q I h
 exact isTrue_plain (wI (ha pins s σ H _ I h) fun v s1 ⟨x,H1,I1,r1,q1⟩=>zmo pins s1 σ H1 x v Q I1 r1 q1) (he _)
theorem uL:Vj X (binaryOp .Add) (fun x y H Q=>∃i j,x=.str i/\y=.str j/\i.length+j.length<=sizeLine/\Q (.str (i++j)) H):=by
 intro pins s σ H x y v u Q I rx ry h
 obtain⟨i,j,rfl,rfl,hz,q⟩:=h
 obtain⟨t,rfl⟩:=rx
 obtain⟨t',rfl⟩:=ry
 exact add_str (fun t' tk=>⟨.str (i++j),H,I.tok _,⟨_,rfl⟩,q⟩) hz
theorem vals1 {x:V}{us:List Value}(r:Vals [x] us):∃u,us=[u]/\RelV x u:=by
 cases r with
 | cons r1 r2=>cases r2;exact⟨_,rfl,r1⟩
theorem vals2 {x y:V}{us:List Value}(r:Vals [x,y] us):∃u w',us=[u,w']/\RelV x u/\RelV y w':=by
 cases r with
 | cons r1 r2 =>
  cases r2 with
  | cons r3 r4=>cases r4;exact⟨_,_,rfl,r1,r3⟩
end
structure zfx (h:Heap)(x dx C:Addr)(mA:Str->Option Value):Prop where
 obj:h.get? x=some (PySem.W.instObj C dx)
 ns:h.Ns1 dx mA
 ne:dx≠x
theorem zhF {h:Heap}{dx:Addr}{mA:Str->Option Value}(n:h.Ns1 dx mA):∃od,h.get? dx=some od/\∀name,PySem.W.lookIn name od=some (mA name):=by
 obtain⟨o,es,ep,ho,hd,hk,_,hm⟩:=n
 refine⟨o,ho,fun name=>?_⟩
 have e:=hm name
 unfold nsFind findBy at e
 rw[<-Array.find?_toList] at e
 unfold PySem.W.lookIn
 rw[hd]
 dsimp only
 split
 ·rename_i y q
  rw[q] at e
  exact congrArg some e
 ·rename_i q
  rw[q] at e
  have a:es.toList.any (·.refKey)=false:=by
   rw[List.any_eq_false]
   intro y hy
   obtain⟨z,t,hkey⟩:=hk y (Array.mem_toList_iff.mp hy)
   simp[DictEntry.refKey,hkey]
  have a':¬es.toList.any (·.refKey)=true:=by rw[a];exact ztm
  rw[if_neg a']
  exact congrArg some e
theorem zfx.look {h:Heap}{x dx C:Addr}{mA:Str->Option Value}(I:zfx h x dx C mA):∃od,PySem.W.InstAt h x (PySem.W.instObj C dx) C (some od)/\∀name,PySem.W.lookIn name od=some (mA name) :=
 let ⟨od,ho,hl⟩:=zhF I.ns
 ⟨od,⟨I.obj,rfl,rfl,ho⟩,hl⟩
section
variable {prog:Program}{w:World}{A:Around}{E:Value->Shared->Prop}{s:Shared}{K:Frag}{x dx C f:Addr}{mA:Str->Option Value}{name:Str}{v:Value}
theorem get_map {expr:Bool}{Q:Value->Shared->Prop}(X:K.In s.heap)(I:zfx s.heap x dx C mA)(hg:PySem.W.plainGet K C name=true)(hh:PySem.W.hasDictIn K C=true)
  (ha:findIn K (.ref C) name=some none)(hv:mA name=some v)(hv':PySem.W.handedIn v=true)(h:Q v { s with toks:=s.toks+1 }) :
  wpAny (model prog w) A (getAttr (.ref x) name expr) Q E s:=by
 obtain⟨od,J,hl⟩:=I.look
 exact PySem.W.get_value X J (PySem.W.plainGet_of hg).1 (PySem.W.findObj_own hh ha rfl (by rw[hl,hv])) hv' h
theorem ziB {pl:Sem Bool}{Q:Value×List Value->Shared->Prop}(X:K.In s.heap)(I:zfx s.heap x dx C mA)(hg:PySem.W.plainGet K C name=true)
  (hf:findIn K (.ref C) name=some (some (.ref f)))(ht:PySem.W.isFn K (.ref f)=true)(hv:mA name=none)(h:Q (.ref f,[.ref x]) s) :
  wpAny (model prog w) A (getMethod (.ref x) name pl) Q E s:=by
 obtain⟨od,J,hl⟩:=I.look
 exact PySem.W.method_fn X J (PySem.W.plainGet_of hg).1 (PySem.W.plainGet_of hg).2 hf (beq_iff_eq.mp ht) (by show(PySem.W.lookIn name od).map (·.isSome)=some false;rw[hl,hv];rfl) h
theorem zj7 {ns:List Str}{Q:Unit->Shared->Prop}(X:K.In s.heap)(I:zfx s.heap x dx C mA)
  (hs:findIn K (.ref C) "__setattr__"=some (some (.builtin "object.__setattr__")))(hp:PySem.W.plainOver K C=true)(ht:PySem.W.takerIn K C name=some none)(hh:PySem.W.hasDictIn K C=true)
  (hw:PySem.Within mA ns)(hsz:ns.length<=sizeLine)
  (h:∀h',zfx h' x dx C (fun y=>if y=name then some v else mA y)->Heap.SameBut dx s.heap h'->Q () { s with heap:=h',toks:=s.toks+2 }) :
  wpAny (model prog w) A (setAttr (.ref x) name v) Q E s:=by
 obtain⟨od,J,hl⟩:=I.look
 refine PySem.W.set_plain X J hs (PySem.W.osa_open (s:={ s with toks:=s.toks+1 }) (r:=none) X J hp ht fun b=>?_)
 obtain⟨cd,hc,hd'⟩:=PySem.W.any_some hh
 have hx:s.heap.get? x=some ⟨.ref C,some dx,.plain,#[]⟩:=I.obj
 refine wpAny_bind (wpAny_pure (wpAny_bind (wpAny_bind (wpAny_loadPart hx (wpAny_bind (PySem.W.Looks.here (s:={ s with toks:=s.toks+1 }) (PySem.W.looks_clsIn X hc) ?_))))))
 rw[hd']
 refine wpAny_pure (a:=some dx) (wpAny_bind (wpAny_pure (wpAny_bind ?_)))
 refine wpAny_nsSet1 (s:={ s with toks:=s.toks+1 }) I.ns fun h' hn2 hs2=>?_
 obtain⟨oD,esD,epD,hoD,hdD,hcD⟩:=hn2.count (PySem.Within.cons name v hw)
 refine wpAny_bind (wpAny_lookBehind hoD (by rw[hdD];exact pastItsLine_dict (ztE hcD (by rw[ztu];omega))) ?_)
 exact wpAny_pure (h _ ⟨(hs2.2 _ (Ne.symm I.ne)).trans I.obj,hn2,I.ne⟩ hs2)
theorem ziC {R:Result->Shared->Prop}{vs:List Value}{kw:List (Str×Value)}(X:K.In s.heap)(hm:PySem.W.makesIn K C=true)
  (hi:findIn K (.ref C) "__init__"=some (some (.ref f)))(hf:PySem.W.typeIn K (.ref f)=some (.type "function"))
  (h:codeAny (model prog w) (A.under (.builtin "type.__call__" ⟨.ref C::vs,kw⟩)) (.call (.ref f) ⟨.ref (s.heap.objs.size+1)::vs,kw⟩) (PySem.W.InitBack (s.heap.objs.size+1) R)
   {s with heap:=(s.heap.push PySem.W.emptyDict).push (PySem.W.instObj C s.heap.objs.size) }) :
  codeAny (model prog w) A (.call (.ref C) ⟨vs,kw⟩) R s:=by
 obtain⟨hh,g,d,t,os⟩:=s
 exact PySem.W.make_core (PySem.W.makes_of X hm) (PySem.W.looks_findIn X hi) (fun self=>PySem.W.bind_fn X self hf) (.inl rfl) h
end
def Yh (f:Str)(v:V):List (Str×V)->List (Str×V)
 | []=>[(f,v)]
 | (g,x)::r=>if g=f then (g,v)::r else (g,x)::Yh f v r
theorem Jc (f g:Str)(v:V):∀fs:List (Str×V),(Yh f v fs).lookup g=if g=f then some v else fs.lookup g
 | []=>by
  show List.lookup g [(f,v)]=_
  by_cases h:g=f
  ·have hb:(g==f)=true:=beq_iff_eq.mpr h
   simp only[List.lookup,hb,if_pos h]
  ·have hb:(g==f)=false:=beq_eq_false_iff_ne.mpr h
   simp only[List.lookup,hb,if_neg h]
 | (k,x)::r=>by
  have ih:=Jc f g v r
  rw[show Yh f v ((k,x)::r)=(if k=f then (k,v)::r else (k,x)::Yh f v r) from rfl]
  by_cases hk:k=f
  ·rw[if_pos hk]
   by_cases h:g=k
   ·have hb:(g==k)=true:=beq_iff_eq.mpr h
    simp only[List.lookup,hb,if_pos (h.trans hk)]
   ·have hb:(g==k)=false:=beq_eq_false_iff_ne.mpr h
    simp only[List.lookup,hb,if_neg (fun e:g=f=>h (e.trans hk.symm))]
  ·rw[if_neg hk]
   by_cases h:g=k
   ·have hb:(g==k)=true:=beq_iff_eq.mpr h
    simp only[List.lookup,hb,if_neg (fun e:g=f=>hk (h.symm.trans e))]
   ·have hb:(g==k)=false:=beq_eq_false_iff_ne.mpr h
    simp only[List.lookup,hb]
    exact ih
theorem Kf (f:Str)(v:V):∀fs:List (Str×V),f∈(Yh f v fs).map (·.1)/\∀g,g∈fs.map (·.1)->g∈(Yh f v fs).map (·.1)
 | []=>⟨by simp[Yh],fun g h=>by simp at h⟩
 | (k,x)::r=>by
  obtain⟨i1,i2⟩:=Kf f v r
  rw[show Yh f v ((k,x)::r)=(if k=f then (k,v)::r else (k,x)::Yh f v r) from rfl]
  by_cases hk:k=f
  ·rw[if_pos hk]
   subst hk
   exact⟨by simp,fun g h=>by simpa using h⟩
  ·rw[if_neg hk]
   refine⟨?_,fun g h=>?_⟩
   ·rw[ztH]
    exact ztt _ i1
   ·rw[ztH] at h ⊢
    rcases List.mem_cons.mp h with e | e
    ·exact List.mem_cons.mpr (.inl e)
    ·exact ztt _ (i2 g e)
theorem Jd (f:Str)(v:V):∀fs:List (Str×V),(Yh f v fs).length<=fs.length+1
 | []=>by simp[Yh]
 | (k,x)::r=>by
  have ih:=Jd f v r
  rw[show Yh f v ((k,x)::r)=(if k=f then (k,v)::r else (k,x)::Yh f v r) from rfl]
  by_cases hk:k=f
  ·rw[if_pos hk,ztu,ztu];omega
  ·rw[if_neg hk,ztu,ztu];omega
theorem Ss.some_of {v:V}{o:Option Value}(r:Ss (some v) o):∃u,o=some u/\RelV v u:=by
 cases o with
 | none=>exact(show False from r).elim
 | some u=>exact⟨u,rfl,r⟩
theorem Ss.none_of {o:Option Value}(r:Ss none o):o=none:=by
 cases o with
 | none=>rfl
 | some u=>exact(show False from r).elim
theorem zhG {v:V}{u:Value}(r:RelV v u):PySem.W.handedIn u=true:=by
 cases v with
 | non=>cases (show u=Value.none from r);rfl
 | bl b=>cases (show u=Value.bool b from r);rfl
 | int i=>obtain⟨t,e⟩:=(show ∃t,u=Value.int i t from r);cases e;rfl
 | str x=>obtain⟨t,e⟩:=(show ∃t,u=Value.str x t from r);cases e;rfl
 | byt b=>obtain⟨t,e⟩:=(show ∃t,u=Value.bytes b t from r);cases e;rfl
 | flt b=>obtain⟨t,e⟩:=(show ∃t,u=Value.float b t from r);cases e;rfl
 | ref a=>cases (show u=Value.ref a from r);rfl
 | ty n=>cases (show u=Value.type n from r);rfl
section
variable {P:Program}{w:World}{H H':Hp}{h h':Heap}{a C dx:Addr}{fs fs':List (Str×V)}
theorem zag (hok:TX P w H h)(e:H a=some (.ins C dx fs)):∃mA,zfx h a dx C mA/\(∀f,Ss (fs.lookup f) (mA f))/\PySem.Within mA (fs.map (·.1))/\fs.length<=1000/\H dx=some (.own a):=by
 obtain⟨d,z,ne,ob,mA,n,r,q⟩:=(show wH P w H h a (.ins C dx fs) from hok a _ e)
 exact⟨mA,⟨ob,n,ne⟩,r,q,z,d⟩
end
structure Cls (K:Frag)(C:Addr):Prop where
 pg:PySem.W.plainGet K C Str.empty=true
 hd:PySem.W.hasDictIn K C=true
 po:PySem.W.plainOver K C=true
 sa:findIn K (.ref C) "__setattr__"=some (some (.builtin "object.__setattr__"))
theorem Cls.get {K:Frag}{C:Addr}(c:Cls K C)(f:Str):PySem.W.plainGet K C f=true:=c.pg
def Wf (K:Frag)(C:Addr)(f:Str):Prop:=findIn K (.ref C) f=some none
theorem Wf.taker {K:Frag}{C:Addr}{f:Str}(n:Wf K C f):PySem.W.takerIn K C f=some none:=by
 unfold PySem.W.takerIn
 rw[show findIn K (.ref C) f=some none from n]
 rfl
structure Meth (K:Frag)(C:Addr)(m:Str)(f:Addr):Prop where
 at_:findIn K (.ref C) m=some (some (.ref f))
 fn:PySem.W.isFn K (.ref f)=true
 kp:PySem.W.keepIn K (.ref f)=true
section
variable {X:Cx}{pins:List (Addr×Obj)}{σ:St}{H:Hp}{s:Shared}{a C dx:Addr}{fs:List (Str×V)}{f:Str}{v:V}{A:Around}{E:Value->Shared->Prop}
theorem zfy {b:Bool}{Q:Value->Shared->Prop}(I:Inv X pins σ H s)(e:H a=some (.ins C dx fs))(c:Cls X.K C)(n:Wf X.K C f)(l:fs.lookup f=some v)
  (h:∀u s',Inv X pins σ H s'->RelV v u->Q u s'):wpAny (model X.prog X.w) A (getAttr (.ref a) f b) Q E s:=by
 obtain⟨mA,O,r,_,_,_⟩:=zag I.hok e
 obtain⟨u,hu,ru⟩:=Ss.some_of (v:=v) (o:=mA f) (by rw[<-l];exact r f)
 exact get_map I.Qq O (c.get f) c.hd n hu (zhG ru) (h u _ (I.tok _) ru)
theorem Q6 {m:Str}{g:Addr}{pl:Sem Bool}{Q:Value×List Value->Shared->Prop}(I:Inv X pins σ H s)(e:H a=some (.ins C dx fs))(c:Cls X.K C)(k:Meth X.K C m g)(l:fs.lookup m=none)
  (h:Q (.ref g,[.ref a]) s):wpAny (model X.prog X.w) A (getMethod (.ref a) m pl) Q E s:=by
 obtain⟨mA,O,r,_,_,_⟩:=zag I.hok e
 have hn:mA m=none:=Ss.none_of (by rw[<-l];exact r m)
 exact ziB I.Qq O (c.get m) k.at_ k.fn hn h
theorem zfz {y:V}{u:Value}{Q:Unit->Shared->Prop}(I:Inv X pins σ H s)(e:H a=some (.ins C dx fs))(c:Cls X.K C)(n:Wf X.K C f)(hl:fs.length<1000)(ry:RelV y u)
  (h:∀s',Inv X pins σ (upd H a (.ins C dx (Yh f y fs))) s'->Q () s'):wpAny (model X.prog X.w) A (setAttr (.ref a) f u) Q E s:=by
 obtain⟨mA,O,r,wi,_,ho⟩:=zag I.hok e
 have hz:(fs.map (·.1)).length<=sizeLine:=by rw[zti,sizeLine_eq];omega
 refine zj7 I.Qq O c.sa c.po n.taker c.hd wi hz fun h' O' sb=>h _ ?_
 have hd:∃o,h'.get? dx=some o:=let ⟨o,_,_,e',_⟩:=O'.ns;⟨o,e'⟩
 refine I.write (x:=a) (e:=dx) (by rw[e];exact True.intro) (.inr ho) (fun b q hb z=>(sb.2 b hb).trans z) hd ?_
 refine⟨by rw[zE O.ne];exact ho,?_,O.ne,O'.obj,_,O'.ns,fun g=>?_,fun g hg=>?_⟩
 ·have:=Jd f y fs;omega
 ·show Ss ((Yh f y fs).lookup g) (if g=f then some u else mA g)
  rw[Jc]
  by_cases q:g=f
  ·rw[if_pos q,if_pos q];exact ry
  ·rw[if_neg q,if_neg q];exact r g
 ·by_cases q:g=f
  ·rw[q];exact(Kf f y fs).1
  ·refine(Kf f y fs).2 g (wi g fun z=>hg ?_)
   show(if g=f then some u else mA g)=none
   rw[if_neg q];exact z
theorem Inv.made (I:Inv X pins σ H s):Inv X pins σ (upd (upd H s.heap.objs.size (.own (s.heap.objs.size+1))) (s.heap.objs.size+1) (.ins C s.heap.objs.size []))
  {s with heap:=(s.heap.push PySem.W.emptyDict).push (PySem.W.instObj C s.heap.objs.size) }:=by
 have e1:(s.heap.push PySem.W.emptyDict).get? s.heap.objs.size=some PySem.W.emptyDict:=ztD s.heap rfl
 have e2:((s.heap.push PySem.W.emptyDict).push (PySem.W.instObj C s.heap.objs.size)).get? (s.heap.objs.size+1)=some (PySem.W.instObj C s.heap.objs.size):=by
  have:=ztD (s.heap.push PySem.W.emptyDict) (o:=PySem.W.instObj C s.heap.objs.size) rfl
  rwa [Heap.size_push] at this
 have e3:(s.heap.push PySem.W.emptyDict).Ns s.heap.objs.size (fun _=>none):=⟨PySem.W.emptyDict,#[],_,e1,rfl,(fun e he=>absurd he (by simp)),fun _=>rfl⟩
 have I1:=I.laid (a:=s.heap.objs.size) (o:=.own (s.heap.objs.size+1)) (h':=s.heap.push PySem.W.emptyDict) (t':=s.toks) (fun b u q=>zto _ q) (zty _) ⟨_,e1⟩
 refine I1.laid (a:=s.heap.objs.size+1) (o:=.ins C s.heap.objs.size []) (t':=s.toks) (fun b u q=>zto _ q) (Nat.le_of_eq (Heap.size_push _ _)) ?_
 have ne:s.heap.objs.size≠s.heap.objs.size+1:=ztx (Nat.lt_succ_self _)
 refine⟨by rw[zE ne,zj],ztF _,ne,e2,fun _=>none,(Heap.Ns1.of_empty e3).at fun o q=>zto _ q,fun _=>True.intro,fun y hy=>absurd rfl hy⟩
theorem zj8 {prog:Program}{w:World}{env:Env}{e:Expr}{f:Str}{pos:Pos}{s:Shared}{Q:Value->Shared->Prop}(hb:attributeBase e f env (eval e env)=eval e env)
  (h:wpAny (model prog w) A (eval e env) (fun o s₁=>wpAny (model prog w) A (getAttr o f true) Q E s₁) E s):wpAny (model prog w) A (eval (.Attribute e f pos) env) Q E s :=
 Attribute_any_ h (by rw[arm_eval_Attribute,hb])
end
def zpM (K:Frag)(ta:TE)(f:Str):TE:=fun σ H Q=>ta σ H fun x H1=>∃a C dx fs v,x=.ref a/\H1 a=some (.ins C dx fs)/\Cls K C/\Wf K C f/\fs.lookup f=some v/\Q v H1
def zpN (K:Frag)(ta tv:TE)(f:Str):TS:=fun D σ H=>tv σ H fun y H1=>ta σ H1 fun x H2=>∃a C dx fs,x=.ref a/\H2 a=some (.ins C dx fs)/\Cls K C/\Wf K C f/\fs.length<1000 /\
 D.nx σ (upd H2 a (.ins C dx (Yh f y fs)))
section
variable {X:Cx}{o e value:Expr}{f:Str}{pos pos' tpos:Pos}{ta tv:TE}
theorem ZF (he:PE X e ta)(hb:attributeBase e f X.env (eval e X.env)=eval e X.env):PE X (.Attribute e f pos) (zpM X.K ta f):=by
 intro pins s σ H Q I h
 refine zj8 hb (wI (he pins s σ H _ I h) fun u s1 ⟨x,H1,I1,rx,a,C,dx,fs,v,ex,ea,c,n,l,q⟩=>?_)
 subst ex
 obtain rfl:u=Value.ref a:=rx
 exact zfy I1 ea c n l fun u' s2 I2 ru=>⟨v,H1,I2,ru,q⟩
theorem zcL (ha:PE X o ta)(hv:PE X value tv)(hs:swapsWith value (some (.Attribute o f pos')) pos.line X.env=pure false):PS X (.Assign [.Attribute o f pos'] value pos) (zpN X.K ta tv f):=by
 intro pins s σ H D I h
 refine plainObj_wpAny_Assign_Attribute (wI (hv pins s σ H _ I h) fun u s1 ⟨y,H1,I1,ry,q⟩=>wI (ha pins s1 σ H1 _ I1 q) fun ov s2 ⟨x,H2,I2,rx,a,C,dx,fs,ex,ea,c,n,l,q2⟩=>?_) hs
 subst ex
 obtain rfl:ov=Value.ref a:=rx
 exact zfz I2 ea c n l ry fun s3 I3=>⟨σ,_,I3,q2⟩
theorem zlC {pl:Sem Bool}{m:Str}{apos:Pos}{args:List Expr}{pins:List (Addr×Obj)}{s:Shared}{σ:St}{H:Hp}{Q:Value->Shared->Prop}{te:TE}(he:PE X e te)(I:Inv X pins σ H s)
  (h:te σ H fun x H1=>∃a C dx fs g,x=.ref a/\H1 a=some (.ins C dx fs)/\Cls X.K C/\Meth X.K C m g/\fs.lookup m=none /\
   ∀s1,Inv X pins σ H1 s1->wpAny (model X.prog X.w) X.A (callWith pos (.ref g) [.ref a] (backTo pos (starEach args X.env)) (backToKw pos (keywordEach [] X.env))) Q X.xe s1)
  (ht:eval (.Call (.Attribute e m apos) args [] pos) X.env=(do
   let ov <-eval e X.env
   standAt apos.atName
   let (f,first) <-holding [ov] (getMethod ov m pl)
   callWith pos f first (backTo pos (starEach args X.env)) (backToKw pos (keywordEach [] X.env)))) :
  wpAny (model X.prog X.w) X.A (eval (.Call (.Attribute e m apos) args [] pos) X.env) Q X.xe s:=by
 refine PySem.W.methodCall_KW (pl:=pl) (wI (he pins s σ H _ I h) fun u s1 ⟨x,H1,I1,rx,a,C,dx,fs,g,ex,ea,c,k,l,q⟩=>?_) ht
 subst ex
 obtain rfl:u=Value.ref a:=rx
 exact Q6 I1 ea c k l (q s1 I1)
end
section
variable {X:Cx}{pins:List (Addr×Obj)}{σ:St}{H:Hp}{s:Shared}{A:Around}{E:Value->Shared->Prop}{Q:Value->Shared->Prop}{c:Value}{b:Bool}
inductive Nx (K:Frag)(H:Hp):V->Value->Prop where
 | non:Nx K H .non (.type "NoneType")
 | bl (x:Bool):Nx K H (.bl x) (.type "bool")
 | int (i:Int):Nx K H (.int i) (.type "int")
 | str (x:Str):Nx K H (.str x) (.type "str")
 | flt (x:UInt64):Nx K H (.flt x) (.type "float")
 | lst {a:Addr} {xs:List V} (e:H a=some (.lst xs)):Nx K H (.ref a) (.type "list")
 | frz {a:Addr} {o:Obj} {xs:List V} (e:H a=some (.frz o (.lst xs))):Nx K H (.ref a) (.type "list")
 | tup {a:Addr} {xs:List V} (e:H a=some (.tup xs)):Nx K H (.ref a) (.type "tuple")
 | dK {a:Addr} {kvs:List (Key×V)} (e:H a=some (.dK kvs)):Nx K H (.ref a) (.type "dict")
 | dT {a:Addr} {kvs:List (List Key×V)} (e:H a=some (.dT kvs)):Nx K H (.ref a) (.type "dict")
 | ins {a C dx:Addr} {fs:List (Str×V)} (e:H a=some (.ins C dx fs)) (cl:Cls K C) (ha:findIn K (.ref C) "__class__"=some (some (.builtin "object.__class__")))
   (hn:PySem.W.specialIn K (.builtin "object.__class__") "__get__"=some (some (.builtin "getset_descriptor.__get__"))) (htk:PySem.W.takesIn K (.builtin "object.__class__")=some true)
   (hm:PySem.W.mroIn K C (.type "object")=some true):Nx K H (.ref a) (.ref C)
theorem zhH {x:V}{u t:Value}(I:Inv X pins σ H s)(rx:RelV x u)(ty:Nx X.K H x t)(e:PySem.W.kitOne X.K t c=some b)(h:∀tk,Q (.bool b) { s with toks:=tk }) :
  wpAny (model X.prog X.w) A (call (.builtin "isinstance") [u,c]) Q E s:=by
 cases ty with
 | non=>cases (show u=Value.none from rx);exact PySem.W.kia_one PySem.W.kitx_none I.Qq True.intro e (fun z=>nomatch z) h
 | bl y=>cases (show u=Value.bool y from rx);exact PySem.W.kia_one PySem.W.kitx_bool I.Qq True.intro e (fun z=>nomatch z) h
 | int i=>obtain⟨t,q⟩:=(show ∃t,u=Value.int i t from rx);cases q;exact PySem.W.kia_one PySem.W.kitx_int I.Qq True.intro e (fun z=>nomatch z) h
 | str y=>obtain⟨t,q⟩:=(show ∃t,u=Value.str y t from rx);cases q;exact PySem.W.kia_one PySem.W.kitx_str I.Qq True.intro e (fun z=>nomatch z) h
 | flt y=>obtain⟨t,q⟩:=(show ∃t,u=Value.float y t from rx);cases q;exact PySem.W.kia_one PySem.W.kitx_float I.Qq True.intro e (fun z=>nomatch z) h
 | @lst a xs ea =>
  cases (show u=Value.ref a from rx)
  obtain⟨_,_,n,_,h1⟩:=(show wH X.prog X.w H s.heap a (.lst xs) from I.hok a _ ea)
  exact PySem.W.kia_one PySem.W.kitx_list I.Qq ⟨_,h1,rfl⟩ e (fun z=>nomatch z) h
 | @frz a ob xs ea =>
  cases (show u=Value.ref a from rx)
  obtain⟨_,_,_,n,_,h1⟩:=(show wH X.prog X.w H s.heap a (.frz ob (.lst xs)) from I.hok a _ ea)
  exact PySem.W.kia_one PySem.W.kitx_list I.Qq ⟨_,h1,rfl⟩ e (fun z=>nomatch z) h
 | @tup a xs ea =>
  cases (show u=Value.ref a from rx)
  obtain⟨_,_,_,p⟩:=(show wH X.prog X.w H s.heap a (.tup xs) from I.hok a _ ea)
  obtain⟨o,h1,h2,_⟩:=p
  exact PySem.W.kia_one PySem.W.kitx_tuple I.Qq ⟨o,h1,h2⟩ e (fun z=>nomatch z) h
 | @dK a kvs ea =>
  cases (show u=Value.ref a from rx)
  obtain⟨_,_,vs,_,p⟩:=(show wH X.prog X.w H s.heap a (.dK kvs) from I.hok a _ ea)
  obtain⟨o,es,ep,h1,h2,_⟩:=p
  exact PySem.W.kia_one PySem.W.kitx_dict I.Qq ⟨o,h1,h2.1⟩ e (fun z=>nomatch z) h
 | @dT a kvs ea =>
  cases (show u=Value.ref a from rx)
  obtain⟨_,_,xs,_,o,es,ep,h1,h2,_⟩:=(show wH X.prog X.w H s.heap a (.dT kvs) from I.hok a _ ea)
  exact PySem.W.kia_one PySem.W.kitx_dict I.Qq ⟨o,h1,h2.1⟩ e (fun z=>nomatch z) h
 | @ins a C dx fs ea cl ha hn htk hm =>
  cases (show u=Value.ref a from rx)
  obtain⟨mA,O,_⟩:=zag I.hok ea
  obtain⟨od,J,_⟩:=O.look
  exact PySem.W.kia_one (PySem.W.kitx_own (cl.get _) cl.hd ha hn htk hm) I.Qq J e (fun z=>nomatch z) h
end
structure uK (k:Nat)(A:Around):Prop where
 hd:A.handled=none
 gd:A.guards=some []
 dp:A.depth+3*k+5<recursionLimit
 un:A.units+16*k+200<cLine
theorem uK.mono {j k:Nat}{A:Around}(r:uK k A)(h:j<=k):uK j A:=⟨r.hd,r.gd,by have:=r.dp;omega,by have:=r.un;omega⟩
theorem uK.deeper {k:Nat}{A:Around}(r:uK (k+1) A)(env:Env):uK k (A.deeper env) :=
 ⟨r.hd,r.gd,by have:=r.dp;show A.depth+1+3*k+5<_;omega,by have:=r.un;show A.units+3+16*k+200<_;omega⟩
theorem zfA {A:Around}{C:Addr}{us:List Value}{kw:List (Str×Value)}:(A.under (.builtin "type.__call__" ⟨.ref C::us,kw⟩)).depth=A.depth+1:=by
 first | rfl | simp[Around.under,Code.weight,Code.isCreation,Code.isGuard,Code.isCaller,Code.frames,Code.isFrame,guardIds]
theorem zfB {A:Around}{C:Addr}{us:List Value}{kw:List (Str×Value)}:(A.under (.builtin "type.__call__" ⟨.ref C::us,kw⟩)).units=A.units+1:=by
 first | rfl | simp[Around.under,Code.cUnits,Code.frames,Code.isFrame]
theorem uK.make {k:Nat}{A:Around}(r:uK (k+1) A)(C:Addr)(us:List Value)(kw:List (Str×Value)):uK k (A.under (.builtin "type.__call__" ⟨.ref C::us,kw⟩)) :=
 ⟨r.hd,(by
  have e:(Code.builtin "type.__call__" ⟨.ref C::us,kw⟩).guards=[]:=by first | rfl | simp[Code.guards,Code.isGuard,guardIds]
  unfold Around.under
  simp only[e,pushGuards]
  exact r.gd),by have:=r.dp;rw[zfA];omega,by have:=r.un;rw[zfB];omega⟩
theorem uK.depth {k:Nat}{A:Around}(r:uK k A):A.depth<recursionLimit:=by have:=r.dp;omega
theorem uK.units {k:Nat}{A:Around}(r:uK k A):A.units+64<cLine:=by have:=r.un;omega
def Qs:TA:=fun _ H Q=>Q [] H
def Nz (ta:TE)(tr:TA):TA:=fun σ H Q=>ta σ H fun x H1=>tr σ H1 fun xs H2=>Q (x::xs) H2
section
variable {X:Cx}{e:Expr}{es:List Expr}{te:TE}{t:TA}{pos:Pos}
theorem zc:PA X [] Qs:=fun _ _ _ _ H Q I h=>Calls.spliced_nil ⟨[],H,I,.nil,h⟩
theorem za (ha:PE X e te)(hr:PA X es t)(hs:starEach (e::es) X.env=(false,eval e X.env)::starEach es X.env:=by rfl):PA X (e::es) (Nz te t):=by
 intro pos pins s σ H Q I h
 rw[hs]
 show wpAny _ _ (spliced ((false,eval e X.env)::backTo pos (starEach es X.env))) _ _ s
 refine Calls.spliced_cons (wI (ha pins s σ H _ I h) fun u s1 ⟨x,H1,I1,r1,q1⟩=>?_)
 exact wI (hr pos pins s1 σ H1 _ I1 q1) fun us s2 ⟨xs,H2,I2,r2,q2⟩=>⟨x::xs,H2,I2,.cons r1 r2,q2⟩
def zpO (t:TA):TE:=fun σ H Q=>t σ H fun xs H1=>xs.length<=sizeLine/\∀p,H1 p=none->Q (.ref p) (upd H1 p (.tup xs))
def zpP (t:TA):TE:=fun σ H Q=>t σ H fun xs H1=>xs.length<=sizeLine/\∀p,H1 p=none->Q (.ref p) (upd H1 p (.lst xs))
theorem uM {x1}(h:PA X es t):PE X (.Tuple es x1 pos) (zpO t):=by
 intro pins s σ H Q I hq
 refine wpAny_Tuple_spliced (wI (h pos pins s σ H _ I hq) fun us s1 ⟨xs,H1,I1,r,z,q⟩=>⟨by rw[<-r.length];exact z,?_⟩)
 have hf:H1 s1.heap.objs.size=none:=I1.hok.fresh (zty _)
 refine⟨.ref s1.heap.objs.size,upd H1 s1.heap.objs.size (.tup xs),I1.laid (t':=s1.toks) (fun b u e=>zto _ e) (zty _) ?_,rfl,q _ hf⟩
 exact⟨z,us,r,⟨_,ztD _ rfl,rfl,_,rfl⟩⟩
theorem vg (h:PA X es t):PE X (.List es pos) (zpP t):=by
 intro pins s σ H Q I hq
 refine wpAny_List_spliced (wI (h pos pins s σ H _ I hq) fun us s1 ⟨xs,H1,I1,r,z,q⟩=>⟨by rw[<-r.length];exact z,?_⟩)
 have hf:H1 s1.heap.objs.size=none:=I1.hok.fresh (zty _)
 refine⟨.ref s1.heap.objs.size,upd H1 s1.heap.objs.size (.lst xs),I1.laid (t':=s1.toks) (fun b u e=>zto _ e) (zty _) ?_,rfl,q _ hf⟩
 exact⟨z,us,0,r,ztD _ rfl⟩
end
abbrev Sp:=List V->Hp->VK->XK->Prop
abbrev CXT:=List Env->Hp->Shared->XK->Value->Shared->Prop
structure zcM (P:Program)(w:World)(K:Frag)(mg:Str->Option Value)(base:Heap)(A:Around)(outer:List Env)(s:Shared)(H:Hp):Prop where
 frames:A.frames=some outer
 mod:Mod K mg base
 bs:∀b o,base.get? b=some o->s.heap.get? b=some o/\H b=none
 bsz:base.objs.size<=s.heap.objs.size
 Qp:s.heap.FunFrames base outer
 frf:∀b∈frs outer,H b=none
 hok:TX P w H s.heap
 bare:AllBare s.gens
def CE (outer:List Env)(P:Program)(w:World)(H:Hp)(s:Shared)(Q:VK)(u:Value)(s':Shared):Prop :=
 ∃v H',s'.os=s.os/\AllBare s'.gens/\Un (frs outer) [] H H' s.heap s'.heap/\TX P w H' s'.heap/\RelV v u/\Q v H'
def CR (CX:CXT)(outer:List Env)(P:Program)(w:World)(H:Hp)(s:Shared)(Q:VK)(E:XK)(r:Result)(s':Shared):Prop :=
 match r with
 | .ok (.ret u)=>CE outer P w H s Q u s'
 | .ok _=>False
 | .error e=>CX outer H s E e s'
structure zy (P:Program)(w:World)(K:Frag)(mg:Str->Option Value)(base:Heap)(CX:CXT)(k:Nat)(f:Addr)(fd:FuncData)(ps:List Str)(sp:Sp):Prop where
 len:∀vs H Q E,sp vs H Q E->vs.length=ps.length
 run:∀(A:Around) (outer:List Env) (s:Shared) (H:Hp) (args:Args) (us:List Value) (vs:List V) (Q:VK) (E:XK),uK k A->zcM P w K mg base A outer s H->BindsTo s fd args (ps.zip us)->Vals vs us->sp vs H Q E ->
  codeAny (model P w) A (.call (.ref f) args) (CR CX outer P w H s Q E) s
theorem zy.mono {P:Program}{w:World}{K:Frag}{mg:Str->Option Value}{base:Heap}{CX:CXT}{j k:Nat}{f:Addr}{fd:FuncData}{ps:List Str}{sp:Sp}(F:zy P w K mg base CX j f fd ps sp)(h:j<=k) :
  zy P w K mg base CX k f fd ps sp:=⟨F.len,fun A outer s H args us vs Q E hr=>F.run A outer s H args us vs Q E (hr.mono h)⟩
theorem zy.imp {P:Program}{w:World}{K:Frag}{mg:Str->Option Value}{base:Heap}{CX:CXT}{k:Nat}{f:Addr}{fd:FuncData}{ps:List Str}{sp sp':Sp}(F:zy P w K mg base CX k f fd ps sp)
  (h:∀vs H Q E,sp' vs H Q E->sp vs H Q E):zy P w K mg base CX k f fd ps sp' :=
 ⟨fun vs H Q E q=>F.len vs H Q E (h _ _ _ _ q),fun A outer s H args us vs Q E hr he hb hv hs=>F.run A outer s H args us vs Q E hr he hb hv (h _ _ _ _ hs)⟩
theorem zcM.make {P:Program}{w:World}{K:Frag}{mg:Str->Option Value}{base:Heap}{A:Around}{outer:List Env}{s:Shared}{H:Hp}(e:zcM P w K mg base A outer s H)(C:Addr)(us:List Value)(kw:List (Str×Value)) :
  zcM P w K mg base (A.under (.builtin "type.__call__" ⟨.ref C::us,kw⟩)) outer s H:=⟨by first | exact e.frames | (simpa [Around.under,Code.envs,Code.isFrame,pushEnvs] using e.frames),e.mod,e.bs,e.bsz,e.Qp,e.frf,e.hok,e.bare⟩
section
variable {X:Cx}{pins:List (Addr×Obj)}{σ:St}{H:Hp}{s s':Shared}
theorem Inv.env0 (I:Inv X pins σ H s):zcM X.prog X.w X.K X.mg X.base X.A X.stack s H :=
 ⟨I.ok.frames,I.ok.mod,I.bs,ztE I.ok.bsz I.sz,I.stack,I.zae,I.hok,I.bare⟩
theorem Inv.after {Q:VK}{u:Value}(I:Inv X pins σ H s)(h:CE X.stack X.prog X.w H s Q u s'):EP X pins σ Q u s':=by
 obtain⟨v,H',os,bare,un,hok,r,q⟩:=h
 obtain⟨hh,g,d,t,os'⟩:=s'
 obtain rfl:os'=s.os:=os
 exact⟨v,H',I.call (h':=hh) (g':=g) (d':=d) (t':=t) (ch:=[]) un hok bare (fun b z=>absurd z (by simp)),r,q⟩
end
def NK (sp:Sp)(SJ:List V)(E:XK)(t:TA):TE:=fun σ H Q=>t σ H fun vs H1=>sp (vs++SJ) H1 Q E
def zdX (C:Addr)(m:Str)(sp:Sp)(SJ:List V)(E:XK)(ta:TE)(t:TA):TE:=fun σ H Q=>ta σ H fun x H1=>∃a dx fs,x=.ref a/\H1 a=some (.ins C dx fs)/\fs.lookup m=none /\
 t σ H1 fun vs H2=>sp (x::(vs++SJ)) H2 Q E
def znZ (C:Addr)(sp:Sp)(SJ:List V)(E:XK)(t:TA):TE:=fun σ H Q=>t σ H fun vs H1=>∀x dx,H1 x=none->H1 dx=none->dx≠x ->
 sp (.ref x::(vs++SJ)) (upd (upd H1 dx (.own x)) x (.ins C dx [])) (fun v H2=>v=.non/\Q (.ref x) H2) E
def Binds (K:Frag)(fd:FuncData)(ps:List Str)(ds:List Value):Prop :=
 ∀(s:Shared) (us:List Value),K.In s.heap->(us++ds).length=ps.length->BindsTo s fd ⟨us,[]⟩ (ps.zip (us++ds))
theorem Binds.all {K:Frag}{fd:FuncData}{ps:List Str}(h:∀us:List Value,us.length=ps.length->bindArgs fd ⟨us,[]⟩=pure (ps.zip us)):Binds K fd ps []:=fun s us _ hl=>by
 rw[List.append_nil] at hl ⊢
 exact .of_eq (h us hl)
def Passes (CX:CXT)(X:Cx)(E:XK):Prop:=∀(pins:List (Addr×Obj)) (σ:St) (H:Hp) (s:Shared) (e:Value) (s':Shared),Inv X pins σ H s->CX X.stack H s E e s'->X.xe e s'
section
variable {X:Cx}{CX:CXT}{k:Nat}{f C:Addr}{fd:FuncData}{ps:List Str}{sp:Sp}{SJ:List V}{ds:List Value}{E:XK}{x m:Str}{p pos apos:Pos}{e o:Expr}{es:List Expr}{ta:TE}{t:TA}
theorem zfC {pins:List (Addr×Obj)}{σ:St}{H:Hp}{s:Shared}{Q:VK}{us:List Value}{vs:List V}(F:zy X.prog X.w X.K X.mg X.base CX k f fd ps sp)(hr:uK k X.A)(hb:Binds X.K fd ps ds)(hd:Vals SJ ds)(hx:Passes CX X E)
  (I:Inv X pins σ H s)(r:Vals vs us)(h:sp (vs++SJ) H Q E):wpAny (model X.prog X.w) X.A (call (.ref f) us) (EP X pins σ Q) X.xe s:=by
 have r2:Vals (vs++SJ) (us++ds):=r.append hd
 have hl:(us++ds).length=ps.length:=by rw[<-r2.length];exact F.len _ _ _ _ h
 refine wpAny_call (codeAny_mono (F.run X.A X.stack s H ⟨us,[]⟩ (us++ds) (vs++SJ) Q E hr I.env0 (hb s us I.Qq hl) r2 h) fun r s' hq=>?_)
 cases r with
 | error e=>exact hx pins σ H s e s' I hq
 | ok fl =>
  cases fl with
  | ret u=>exact I.after hq
  | next=>exact False.elim hq
  | brk=>exact False.elim hq
  | cont=>exact False.elim hq
theorem zgK (F:zy X.prog X.w X.K X.mg X.base CX k f fd ps sp)(hr:uK k X.A)(hg:Gl X x)(hm:X.mg x=some (.ref f))(hk:PySem.W.keepIn X.K (.ref f)=true)(hb:Binds X.K fd ps ds)(hd:Vals SJ ds)(hx:Passes CX X E)
  (ha:PA X (e::es) t)(hdb:(x==("__debug__" : Str))=false:=by decide)(he:starEach (e::es) X.env=(false,eval e X.env)::starEach es X.env:=by rfl)(hpl:(backTo pos (starEach es X.env)).any (·.1)=false:=by rfl) :
  PE X (.Call (.Name x p) (e::es) [] pos) (NK sp SJ E t):=by
 intro pins s σ H Q I h
 refine wpAny_Call_Name_kw (Ut I hg hm ?_ hdb)
 refine PySem.W.callWith_K (h₀:=X.base) I.ok.mod.kin hk (wI (ha pos pins s σ H _ I h) fun us s1 ⟨vs,H1,I1,r,q⟩=>⟨I1.Qq,?_⟩) he hpl
 exact zfC F hr hb hd hx I1 r q
theorem zgL {pl:Sem Bool}(he:PE X o ta)(c:Cls X.K C)(hm:Meth X.K C m f)(F:zy X.prog X.w X.K X.mg X.base CX k f fd ps sp)(hr:uK k X.A)(hb:Binds X.K fd ps ds)(hd:Vals SJ ds)(hx:Passes CX X E)(ha:PA X (e::es) t)
  (hst:starEach (e::es) X.env=(false,eval e X.env)::starEach es X.env:=by rfl)(hpl:(backTo pos (starEach es X.env)).any (·.1)=false:=by rfl)
  (ht:eval (.Call (.Attribute o m apos) (e::es) [] pos) X.env=(do
   let ov <-eval o X.env
   standAt apos.atName
   let (f,first) <-holding [ov] (getMethod ov m pl)
   callWith pos f first (backTo pos (starEach (e::es) X.env)) (backToKw pos (keywordEach [] X.env))):=by rfl) :
  PE X (.Call (.Attribute o m apos) (e::es) [] pos) (zdX C m sp SJ E ta t):=by
 intro pins s σ H Q I h
 refine PySem.W.methodCall_KW (pl:=pl) (wI (he pins s σ H _ I h) fun u s1 ⟨x,H1,I1,rx,a,dx,fs,ex,ea,l,q⟩=>?_) ht
 subst ex
 obtain rfl:u=Value.ref a:=rx
 refine Q6 I1 ea c hm l ?_
 refine PySem.W.callWith_K (first:=[.ref a]) (h₀:=X.base) I.ok.mod.kin hm.kp (wI (ha pos pins s1 σ H1 _ I1 q) fun us s2 ⟨vs,H2,I2,r,q2⟩=>⟨I2.Qq,?_⟩) hst hpl
 exact zfC (us:=.ref a::us) (vs:=.ref a::vs) F hr hb hd hx I2 (.cons rfl r) q2
theorem ziD {pl:Sem Bool}(he:PE X o ta)(c:Cls X.K C)(hm:Meth X.K C m f)(F:zy X.prog X.w X.K X.mg X.base CX k f fd ps sp)(hr:uK k X.A)(hb:Binds X.K fd ps ds)(hd:Vals SJ ds)(hx:Passes CX X E)
  (ht:eval (.Call (.Attribute o m apos) [] [] pos) X.env=(do
   let ov <-eval o X.env
   standAt apos.atName
   let (f,first) <-holding [ov] (getMethod ov m pl)
   callWith pos f first (backTo pos (starEach [] X.env)) (backToKw pos (keywordEach [] X.env))):=by rfl) :
  PE X (.Call (.Attribute o m apos) [] [] pos) (zdX C m sp SJ E ta Qs):=by
 intro pins s σ H Q I h
 refine PySem.W.methodCall_KW (pl:=pl) (wI (he pins s σ H _ I h) fun u s1 ⟨x,H1,I1,rx,a,dx,fs,ex,ea,l,q⟩=>?_) ht
 subst ex
 obtain rfl:u=Value.ref a:=rx
 refine Q6 I1 ea c hm l ?_
 exact PySem.W.callWith_K0 (first:=[.ref a]) I1.Qq hm.kp (zfC (us:=[.ref a]) (vs:=[.ref a]) F hr hb hd hx I1 (.cons rfl .nil) q)
structure Mk (K:Frag)(C f:Addr):Prop where
 makes:PySem.W.makesIn K C=true
 init:findIn K (.ref C) "__init__"=some (some (.ref f))
 fn:PySem.W.isFn K (.ref f)=true
 kp:PySem.W.keepIn K (.ref C)=true
theorem ziE {pins:List (Addr×Obj)}{σ:St}{H:Hp}{s:Shared}{Q:VK}{us:List Value}{vs:List V}(M:Mk X.K C f)(F:zy X.prog X.w X.K X.mg X.base CX k f fd ps sp)(hr:uK (k+1) X.A)(hb:Binds X.K fd ps ds)(hd:Vals SJ ds)
  (hx:Passes CX X E)(I:Inv X pins σ H s)(r:Vals vs us)
  (h:∀x dx,H x=none->H dx=none->dx≠x->sp (.ref x::(vs++SJ)) (upd (upd H dx (.own x)) x (.ins C dx [])) (fun v H2=>v=.non/\Q (.ref x) H2) E) :
  wpAny (model X.prog X.w) X.A (call (.ref C) us) (EP X pins σ Q) X.xe s:=by
 have hq:=h (s.heap.objs.size+1) s.heap.objs.size (I.hok.fresh (Nat.le_succ _)) (I.hok.fresh (zty _)) (ztx (Nat.lt_succ_self _))
 have I2:=Inv.made (C:=C) I
 have r2:Vals (V.ref (s.heap.objs.size+1)::(vs++SJ)) (Value.ref (s.heap.objs.size+1)::(us++ds)):=.cons rfl (r.append hd)
 have hl:(Value.ref (s.heap.objs.size+1)::us++ds).length=ps.length:=by
  have e:=r2.length
  rw[F.len _ _ _ _ hq] at e
  exact e.symm
 refine wpAny_call (ziC (f:=f) I.Qq M.makes M.init (beq_iff_eq.mp M.fn) (codeAny_mono (F.run _ X.stack _ _ ⟨Value.ref (s.heap.objs.size+1)::us,[]⟩ (Value.ref (s.heap.objs.size+1)::(us++ds)) _ _ E (hr.make C us [])
  (I2.env0.make C us []) (hb _ (Value.ref (s.heap.objs.size+1)::us) I2.Qq hl) r2 hq) fun r s' hq'=>?_))
 cases r with
 | error e=>exact hx pins σ _ _ e s' I2 hq'
 | ok fl =>
  cases fl with
  | ret u =>
   obtain⟨v,H',I3,rv,ev,q3⟩:=I2.after hq'
   subst ev
   exact⟨rv,⟨V.ref (s.heap.objs.size+1),H',I3,rfl,q3⟩⟩
  | next=>exact False.elim hq'
  | brk=>exact False.elim hq'
  | cont=>exact False.elim hq'
theorem zj9 (M:Mk X.K C f)(F:zy X.prog X.w X.K X.mg X.base CX k f fd ps sp)(hr:uK (k+1) X.A)(hg:Gl X x)(hm:X.mg x=some (.ref C))(hb:Binds X.K fd ps ds)(hd:Vals SJ ds)(hx:Passes CX X E)
  (ha:PA X (e::es) t)(hdb:(x==("__debug__" : Str))=false:=by decide)(he:starEach (e::es) X.env=(false,eval e X.env)::starEach es X.env:=by rfl)(hpl:(backTo pos (starEach es X.env)).any (·.1)=false:=by rfl) :
  PE X (.Call (.Name x p) (e::es) [] pos) (znZ C sp SJ E t):=by
 intro pins s σ H Q I h
 refine wpAny_Call_Name_kw (Ut I hg hm ?_ hdb)
 refine PySem.W.callWith_K (h₀:=X.base) I.ok.mod.kin M.kp (wI (ha pos pins s σ H _ I h) fun us s1 ⟨vs,H1,I1,r,q⟩=>⟨I1.Qq,?_⟩) he hpl
 exact ziE M F hr hb hd hx I1 r q
end
structure zH (N P:List Str)(sc:Scope):Prop where
 kind:sc.kind=.function
 co:sc.isCoroutine=false
 gen:sc.isGenerator=false
 nd:N.Nodup
 pre:N.take P.length=P
 par:∀x∈P,sc.names.lookup x=some .local\/sc.names.lookup x=some .cell
 zmp:∀y∈sc.names,y.2≠.free
theorem zb8 {kindOf:Str->Option NameKind}{x:Str}:∀{binds:List (Str×Value)} {m:Str->Option Value},(∀v,(x,v)∉binds)->bindL kindOf binds m x=m x
 | [],_,_=>rfl
 | (n,v)::r,m,h=>by
  unfold bindL
  rw[zb8 fun w hw=>h w (ztt _ hw)]
  split
  ·have:x≠n:=by rintro rfl;exact h v ztC
   simp[this]
  ·rfl
theorem zb9 {kindOf:Str->Option NameKind}{x:Str}:∀{binds:List (Str×Value)} {m:Str->Option Value},(∀v,(x,v)∉binds)->bindC kindOf binds m x=m x
 | [],_,_=>rfl
 | (n,v)::r,m,h=>by
  unfold bindC
  rw[zb9 fun w hw=>h w (ztt _ hw)]
  split
  ·rfl
  ·have:x≠n:=by rintro rfl;exact h v ztC
   simp[this]
theorem zca {kindOf:Str->Option NameKind}{x:Str}{v:Value}:∀{P:List Str} {vs:List Value} {i:Nat} {m:Str->Option Value},P.Nodup->P[i]?=some x->vs[i]?=some v->kindOf x=some .local ->
  bindL kindOf (P.zip vs) m x=some v
 | [],_,_,_,_,h,_,_=>by simp at h
 | _::_,[],_,_,_,_,h,_=>by simp at h
 | p::P,w::vs,0,m,nd,h1,h2,hk=>by
  simp at h1 h2;subst h1;subst h2
  show bindL kindOf ((p,w)::P.zip vs) m p=_
  unfold bindL
  rw[zb8 fun v hv=>(List.nodup_cons.mp nd).1 (List.of_mem_zip hv).1,if_pos hk]
  simp
 | p::P,w::vs,i+1,m,nd,h1,h2,hk=>by
  show bindL kindOf ((p,w)::P.zip vs) m x=_
  unfold bindL
  exact zca (i:=i) (List.nodup_cons.mp nd).2 (by simpa using h1) (by simpa using h2) hk
theorem zcb {kindOf:Str->Option NameKind}{x:Str}{v:Value}:∀{P:List Str} {vs:List Value} {i:Nat} {m:Str->Option Value},P.Nodup->P[i]?=some x->vs[i]?=some v->kindOf x≠some .local ->
  bindC kindOf (P.zip vs) m x=some v
 | [],_,_,_,_,h,_,_=>by simp at h
 | _::_,[],_,_,_,_,h,_=>by simp at h
 | p::P,w::vs,0,m,nd,h1,h2,hk=>by
  simp at h1 h2;subst h1;subst h2
  show bindC kindOf ((p,w)::P.zip vs) m p=_
  unfold bindC
  rw[zb9 fun v hv=>(List.nodup_cons.mp nd).1 (List.of_mem_zip hv).1,if_neg hk]
  simp
 | p::P,w::vs,i+1,m,nd,h1,h2,hk=>by
  show bindC kindOf ((p,w)::P.zip vs) m x=_
  unfold bindC
  exact zcb (i:=i) (List.nodup_cons.mp nd).2 (by simpa using h1) (by simpa using h2) hk
def start (N:List Str)(vs:List V):St:=vs.map some++List.replicate (N.length-vs.length) none
def Kg (CX:CXT)(P:Program)(w:World)(K:Frag)(mg:Str->Option Value)(base:Heap)(N:List Str)(qual:Str)(scope:Scope)(f:Addr)(cd:Value)(A:Around)(outer:List Env)(s:Shared)(H:Hp)(E:XK):Cx where
 prog:=P
 w:=w
 K:=K
 mg:=mg
 base:=base
 A:=A.deeper (envOfC qual scope s.heap.objs.size f cd)
 N:=N
 s₀:=s
 H₀:=H
 env:=envOfC qual scope s.heap.objs.size f cd
 outer:=outer
 stack:=envOfC qual scope s.heap.objs.size f cd::outer
 ex:=[]
 calm:=true
 fn:=fun _=>true
 pn:=[]
 xe:=fun e s'=>wpAny (model P w) (A.deeper (envOfC qual scope s.heap.objs.size f cd)) (leaving (envOfC qual scope s.heap.objs.size f cd) e) (fun _ s''=>CX outer H s E e s'') (fun e' s''=>CX outer H s E e' s'') s'
theorem zdY {sc:Scope}{n:Nat}{x:Str}(h:sc.names.lookup x=some .cell):∃c,(cellsFrom n sc.names []).lookup x=some c:=by
 have q:=PySem.W.cellsFrom_some sc.names n [] (.inl h)
 exact Option.isSome_iff_exists.mp q
theorem zcc {CX:CXT}{P:Program}{w:World}{K:Frag}{mg:Str->Option Value}{base:Heap}{N ps:List Str}{qual:Str}{scope:Scope}{f:Addr}{cd:Value}{A:Around}{outer:List Env}{s s1:Shared}{H:Hp}{E:XK}{us:List Value}{vs:List V}
  (S:zH N ps scope)(hd:A.handled=none)(e0:zcM P w K mg base A outer s H)(hl:vs.length=ps.length)(r:Vals vs us)
  (x:InCallC s s.heap.objs.size (bindL (envOfC qual scope s.heap.objs.size f cd).kindOf (ps.zip us) fun _=>none) (cellsFrom (s.heap.objs.size+1) scope.names []) (bindC (envOfC qual scope s.heap.objs.size f cd).kindOf (ps.zip us) fun _=>none) s1) :
  Inv (Kg CX P w K mg base N qual scope f cd A outer s H E) [] (start N vs) H s1:=by
 have hpl:ps.length<=N.length:=by have:=congrArg List.length S.pre;rw[ztG] at this;omega
 obtain⟨h1,tk,rfl,hk⟩:=x.done
 have noA:∀b:Addr,b∉(Kg CX P w K mg base N qual scope f cd A outer s H E).ex:=fun b z=>absurd (show b∈([]:List Addr) from z) (by simp)
 refine⟨⟨e0.mod,S.kind,rfl,rfl,zty _,fun y z c h1 h2=>?_,fun y hy=>?_,fun y c _ h=>?_,fun _=>hd,Around.frames_deeper e0.frames,.inr ⟨rfl,rfl⟩,fun b z=>absurd z (noA b),e0.bs,e0.bsz,fun b _ _=>noA b,fun b z=>absurd z (noA b),e0.Qp,e0.frf⟩,
  rfl,e0.bare,Un.kept hk,⟨_,x.toInCall.ns,fun i y v h1 h2 h3=>?_⟩,fun y c h=>⟨_,x.cell y c h⟩,e0.hok.fresh (zty _),fun y c h=>?_,fun p hp=>absurd (show p∈([]:List (Addr×Obj)) from hp) (by simp),e0.hok.kept hk,?_⟩
 ·exact name_of_addr x.apart (PySem.mem_of_lookup h1) (PySem.mem_of_lookup h2)
 ·have hy:scope.names.lookup y=some .cell\/scope.names.lookup y=some .free:=hy
  rcases hy with hy | hy
  ·exact zdY hy
  ·exact absurd rfl (S.zmp _ (PySem.mem_of_lookup hy))
 ·exact ztB (x.above y c (PySem.mem_of_lookup h))
 ·have hi:i<vs.length:=by
   unfold start at h2
   by_cases hi:i<vs.length
   ·exact hi
   ·rw[List.getElem?_append_right (by simpa using hi)] at h2
    rw[List.getElem?_replicate] at h2
    split at h2<;>cases h2
  have ha:vs[i]?=some v:=by
   unfold start at h2
   rw[ztP (by simpa using hi),ztk] at h2
   cases e:vs[i]? with
   | none=>rw[e] at h2;cases h2
   | some a=>rw[e] at h2;cases h2;rfl
  obtain⟨u,hu,rv⟩:=r.get ha
  have hp:ps[i]?=some y:=by
   rw[<-S.pre,List.getElem?_take_of_lt (by omega)];exact h1
  have ndP:ps.Nodup:=by rw[<-S.pre];exact S.nd.sublist (List.take_sublist _ _)
  refine⟨u,rv,?_⟩
  rcases S.par y (ztn hp) with k | k
  ·exact .inl ⟨k,zca ndP hp hu k⟩
  ·obtain⟨c,e⟩:=zdY (n:=s.heap.objs.size+1) k
   refine .inr ⟨.inl k,c,e,?_⟩
   have q:=x.cell y c e
   rw[zcb ndP hp hu (by show scope.names.lookup y≠_;rw[k];decide)] at q
   exact q
 ·exact e0.hok.fresh (ztB (x.above y c (PySem.mem_of_lookup h)))
 ·unfold start
  show _=N.length
  rw[ztq,zti,List.length_replicate]
  omega
theorem zlD {CX:CXT}{P:Program}{w:World}{K:Frag}{mg:Str->Option Value}{base:Heap}{k:Nat}{f:Addr}{name qual:Str}{params:Arguments}{body:List Stmt}{scope:Scope}{dV kV doc pm cdv ct oc:Value}{an od:Option Addr}
  {osl:Array (Option Value)}{N ps:List Str}{sp:Sp}(lk:K.lookup f=some ⟨oc,od,.func (PySem.W.fnOf name qual params body scope dV kV doc pm an cdv ct),osl⟩)(hcd:PySem.W.codeIn K cdv qual=true)(S:zH N ps scope)
  (len:∀vs H Q E,sp vs H Q E->vs.length=ps.length)
  (hbody:∀(A:Around) (outer:List Env) (s:Shared) (H:Hp) (vs:List V) (Q:VK) (E:XK),uK k (A.deeper (envOfC qual scope s.heap.objs.size f cdv))->sp vs H Q E ->
   ∃t,JK (Kg CX P w K mg base N qual scope f cdv A outer s H E) body t/\t { nx:=fun _ H'=>Q .non H',rt:=Q } (start N vs) H) :
  zy P w K mg base CX (k+1) f (PySem.W.fnOf name qual params body scope dV kV doc pm an cdv ct) ps sp:=by
 refine⟨len,fun A outer s H args us vs Q E hr e0 hb r hsp=>?_⟩
 have hl:=len _ _ _ _ hsp
 have KX:K.In s.heap:=e0.mod.kin.keeps fun b o e=>(e0.bs b o e).1
 have lim:s.heap.NoLimit:=e0.mod.nolimit.keeps fun b o e=>(e0.bs b o e).1
 have hkind:∀y∈ps.zip us,scope.names.lookup y.1=some .local\/(scope.names.lookup y.1=some .cell/\((cellsFrom (s.heap.objs.size+1) scope.names []).lookup y.1).isSome=true):=fun⟨n,v⟩ hy=>by
  rcases S.par n (List.of_mem_zip hy).1 with q | q
  ·exact .inl q
  ·exact .inr ⟨q,PySem.W.cellsFrom_some _ _ _ (.inl q)⟩
 refine codeAny_call_function hr.depth (KX _ _ lk) rfl S.co S.gen rfl (PySem.W.codeRec_of KX hcd) (hb _ _ _ _ ?_)
 refine wpAny_newFunctionEnv_cells S.kind hkind fun env he s1 x=>?_
 subst he
 refine⟨lim.keeps x.toInCall.keep,codeAny_func ?_⟩
 obtain⟨t,ht,hq⟩:=hbody A outer s H vs Q E (hr.deeper _) hsp
 have I:Inv (Kg CX P w K mg base N qual scope f cdv A outer s H E) [] (start N vs) H s1:=zcc S hr.hd e0 hl r x
 refine wpAny_mono (ht [] s1 (start N vs) H _ I hq) (fun fl s' hs=>?_) fun e s' hs=>hs
 have fin:∀{σ':St} {H':Hp} {v:V} {u:Value},Inv (Kg CX P w K mg base N qual scope f cdv A outer s H E) [] σ' H' s'->RelV v u->Q v H'->CE outer P w H s Q u s' :=
  fun {σ' H' v u} J rv q=>⟨v,H',J.os,J.bare,J.base,J.hok,rv,q⟩
 cases fl with
 | ret u =>
  obtain⟨v,σ',H',J,rv,q⟩:=hs
  exact fin J rv q
 | next =>
  obtain⟨σ',H',J,q⟩:=hs
  exact fin (v:=V.non) (u:=Value.none) J rfl q
 | brk =>
  obtain⟨_,_,_,q⟩:=hs
  exact False.elim q
 | cont =>
  obtain⟨_,_,_,q⟩:=hs
  exact False.elim q
section
variable {X:Cx}{x:Str}{p pos:Pos}{e:Expr}{es:List Expr}{t:TA}{id T:String}{r:List V->Hp->VK->Prop}
def tCB (r:List V->Hp->VK->Prop)(t:TA):TE:=fun σ H Q=>t σ H fun vs H1=>r vs H1 Q
theorem zF (hc:Xl X (.builtin id) r)(hg:Gl X x)(hm:X.mg x=none)(hv:bootBuiltins x=some (.builtin id))(ha:PA X (e::es) t)(hn:x ≠ "__name__" := by decide)(hdb:(x==("__debug__" : Str))=false:=by decide)
  (he:starEach (e::es) X.env=(false,eval e X.env)::starEach es X.env:=by rfl)(hpl:(backTo pos (starEach es X.env)).any (·.1)=false:=by rfl):PE X (.Call (.Name x p) (e::es) [] pos) (tCB r t):=by
 intro pins s σ H Q I h
 refine wpAny_Call_Name_kw (Wd I hg hm hv ?_ hn hdb)
 exact PyProof.Rows.callWith_builtin1 (wI (ha pos pins s σ H _ I h) fun us s1 ⟨vs,H1,I1,r1,q1⟩=>hc pins s1 σ H1 vs us Q I1 r1 q1) he hpl
theorem XM (hc:Xl X (.type T) r)(hg:Gl X x)(hm:X.mg x=none)(hv:bootBuiltins x=some (.type T))(ha:PA X (e::es) t)(hn:x ≠ "__name__" := by decide)(hdb:(x==("__debug__" : Str))=false:=by decide)
  (he:starEach (e::es) X.env=(false,eval e X.env)::starEach es X.env:=by rfl)(hpl:(backTo pos (starEach es X.env)).any (·.1)=false:=by rfl):PE X (.Call (.Name x p) (e::es) [] pos) (tCB r t):=by
 intro pins s σ H Q I h
 refine wpAny_Call_Name_kw (Wd I hg hm hv ?_ hn hdb)
 exact PyProof.Rows.callWith_type1 (wI (ha pos pins s σ H _ I h) fun us s1 ⟨vs,H1,I1,r1,q1⟩=>hc pins s1 σ H1 vs us Q I1 r1 q1) he hpl
end
end L2
namespace HT
open PySem PyProof.Rows
section
variable {prog:Program}{w:World}{A:Around}{E:Value->Shared->Prop}{s:Shared}
def ZG (n d:Nat):Option Int->Nat
 | none=>d
 | some v=>if v<0 then (v+(n:Int)).toNat else min v.toNat n
theorem ziF (n d:Nat):ZG n d none=d:=rfl
theorem zah (n d k:Nat):ZG n d (some (k:Int))=min k n:=by
 show(if (k:Int)<0 then ((k:Int)+(n:Int)).toNat else min (k:Int).toNat n)=min k n
 rw[if_neg (by omega),Int.toNat_natCast]
theorem zmq (n d:Nat)(hd:d<=n)(o:Option Int):ZG n d o<=n:=by
 cases o with
 | none=>exact hd
 | some v =>
  show(if v<0 then (v+(n:Int)).toNat else min v.toNat n)<=n
  by_cases hv:v<0
  ·rw[if_pos hv];omega
  ·rw[if_neg hv];exact Nat.min_le_right _ _
theorem zgM (v:Int)(n d:Nat):(if v<0 then max (v+(n:Int)) 0 else min v (n:Int))=((ZG n d (some v):Nat):Int):=by
 show(if v<0 then max (v+(n:Int)) 0 else min v (n:Int))=(((if v<0 then (v+(n:Int)).toNat else min v.toNat n):Nat):Int)
 by_cases hv:v<0
 ·simp only[if_pos hv];omega
 ·simp only[if_neg hv];omega
theorem zfD (lo hi:Option Int)(n:Nat):Builtin.Slice.sliceAdjust lo hi 1 (n:Int)=(((ZG n 0 lo:Nat):Int),((ZG n n hi:Nat):Int)):=by
 have h1:¬((1:Int)<0):=by omega
 unfold Builtin.Slice.sliceAdjust
 simp only[h1,if_false]
 refine Prod.ext ?_ ?_
 ·cases lo with
  | none=>rfl
  | some v=>exact zgM v n 0
 ·cases hi with
  | none=>rfl
  | some v=>exact zgM v n n
theorem zfE (i j:Nat):Builtin.Slice.slicePlaces (i:Int) (j:Int) 1=j-i:=by
 unfold Builtin.Slice.slicePlaces
 have h1:(1:Int) > 0:=by omega
 simp only[h1,if_true,Int.ediv_one]
 split<;>omega
theorem zaG {v:Value}{o:Option Int}{Q:Option Int->Shared->Prop}(p:IsPart v o)(h:Q o s):wpAny (model prog w) A (Builtin.Slice.slicePartIndex v) Q E s:=by
 cases p with
 | none=>exact slicePart_none h
 | int i t=>exact slicePart_int h
theorem Kh {sl:Addr}{vl vu:Value}{lo hi:Option Int}{n:Nat}{Q:Int×Int×Nat->Shared->Prop}(hs:s.heap.IsSliceOf sl vl vu .none)(pl:IsPart vl lo)(pu:IsPart vu hi)
  (h:Q (((ZG n 0 lo:Nat):Int),1,ZG n n hi-ZG n 0 lo) s):wpAny (model prog w) A (Builtin.Slice.sliceApplied (.ref sl) (pure (n:Int))) Q E s:=by
 obtain⟨os,hos,hcs,hds⟩:=id hs
 unfold Builtin.Slice.sliceApplied Builtin.Slice.sliceFields
 refine wpAny_bind (wpAny_bind (wpAny_field hos hds (x:=vl) rfl (wpAny_bind (wpAny_field hos hds (x:=vu) rfl (wpAny_bind (wpAny_field hos hds (x:=.none) rfl (wpAny_pure ?_)))))))
 refine wpAny_bind (slicePart_none ?_)
 show wpAny _ _ (if ((1:Int)==0)=true then _ else _) _ _ s
 rw[if_neg (by decide)]
 refine wpAny_bind (zaG pl (wpAny_bind (zaG pu (wpAny_bind (wpAny_pure ?_)))))
 show wpAny _ _ (match Builtin.Slice.sliceAdjust lo hi 1 (n:Int) with | (lo,hi)=>pure (lo,(1:Int),Builtin.Slice.slicePlaces lo hi 1)) _ _ s
 rw[zfD lo hi n]
 show wpAny _ _ (pure (((ZG n 0 lo:Nat):Int),(1:Int),Builtin.Slice.slicePlaces ((ZG n 0 lo:Nat):Int) ((ZG n n hi:Nat):Int) 1)) _ _ s
 rw[zfE]
 exact wpAny_pure h
theorem ziG (xs:Array Value)(i k:Nat):((List.range k).filterMap fun(m:Nat)=>xs[((i:Int)+(m:Int)*1).toNat]?).toArray=((xs.toList.drop i).take k).toArray:=by
 have e:(fun(m:Nat)=>xs[((i:Int)+(m:Int)*1).toNat]?)=fun m=>xs[i+m]?:=by
  funext m
  have:((i:Int)+(m:Int)*1).toNat=i+m:=by omega
  rw[this]
 rw[e]
 have:=pick_run xs i k
 rw[List.filterMap_map] at this
 have e2:((fun x=>xs[x]?) ∘ fun x=>i+x)=fun m=>xs[i+m]?:=rfl
 rw[e2] at this
 rw[this]
theorem NP {t sl:Addr}{items:Array Value}{vl vu:Value}{lo hi:Option Int}{Q:Value->Shared->Prop}(ht:IsTup s.heap t items)(hs:s.heap.IsSliceOf sl vl vu .none)(pl:IsPart vl lo)(pu:IsPart vu hi)
  (hw:¬(ZG items.size 0 lo=0/\ZG items.size items.size hi=items.size))
  (h:Q (.ref s.heap.objs.size) { s with heap:=s.heap.push { cls:=.type "tuple", data:=.seq ((items.toList.drop (ZG items.size 0 lo)).take (ZG items.size items.size hi-ZG items.size 0 lo)).toArray } })
  (hsz:items.size<=sizeLine):wpAny (model prog w) A (getItem (.ref t) (.ref sl)) Q E s:=by
 have zgN:sizeOk (.seq ((items.toList.drop (ZG items.size 0 lo)).take (ZG items.size items.size hi-ZG items.size 0 lo)).toArray):=by
  show((items.toList.drop (ZG items.size 0 lo)).take (ZG items.size items.size hi-ZG items.size 0 lo)).toArray.size<=sizeLine
  rw[zts,ztG,List.length_drop,Array.length_toList]
  omega
 have hj:ZG items.size items.size hi<=items.size:=zmq _ _ (zty _) hi
 obtain⟨os,hos,hcs,hds⟩:=id hs
 have hTs:s.TypeIs (.ref sl) "slice" := ⟨os,hos,hcs⟩
 unfold getItem
 try with_reducible refine wpAny_holding ?_
 first | refine wpAny_bind (wpAny_pure ?_) | skip
 refine wpAny_bind (wpAny_sequenceKey ht.typeIs (by decide) ?_)
 refine wpAny_bind (wpAny_callSpecial?_slot (name:=Str.ofString "__getitem__") ht.typeIs PyProof.Rows.slot_tuple_getitem
  (wpAny_call_entry PyProof.Rows.slot_tuple_getitem ht.typeIs entry_tuple_getitem ?_ (args_tuple_getitem _ _)))
 show wpAny _ _ (Builtin.Tuple.tupleItemsOf (.ref t)>>=_) _ _ s
 refine wpAny_bind (tupleItemsOf_ ht ?_)
 refine wpAny_bind (wpAny_typeOf hTs ?_)
 rw[if_pos (by decide)]
 refine wpAny_bind (Kh hs pl pu ?_)
 have hno:¬((((ZG items.size 0 lo:Nat):Int)==0&&(1:Int)==1&&(ZG items.size items.size hi-ZG items.size 0 lo)==items.size)=true):=by
  intro q
  rw[ztK,ztK] at q
  have q1:((ZG items.size 0 lo:Nat):Int)=0:=eq_of_beq q.1.1
  have q2:ZG items.size items.size hi-ZG items.size 0 lo=items.size:=eq_of_beq q.2
  exact hw ⟨by omega,by omega⟩
 show wpAny _ _ (if (((ZG items.size 0 lo:Nat):Int)==0&&(1:Int)==1&&(ZG items.size items.size hi-ZG items.size 0 lo)==items.size)=true then _ else _) _ _ s
 rw[if_neg hno,ziG]
 first
  | exact wpAny_bind (m:=Builtin.Tuple.tupleExact _) (wpAny_newObj_type (wpAny_pure ⟨_,rfl,wpAny_pure h⟩) zgN)
  | exact wpAny_bind (m:=Builtin.Tuple.tupleExact _) (wpAny_newObj_type (wpAny_bind (wpAny_pure (wpAny_pure ⟨_,rfl,wpAny_pure h⟩))) zgN)
  | exact wpAny_bind (wpAny_bind (m:=Builtin.Tuple.tupleExact _) (wpAny_newObj_type (wpAny_pure (wpAny_pure ⟨_,rfl,wpAny_pure h⟩)) zgN))
  | exact wpAny_bind (wpAny_bind (m:=Builtin.Tuple.tupleExact _) (wpAny_newObj_type (wpAny_pure ⟨_,rfl,wpAny_pure h⟩) zgN))
end
end HT
namespace L2
open PySem PySem.Spec PyProof.Rows
abbrev TO:=St->Hp->(Option Int->Hp->Prop)->Prop
def PO (X:Cx)(e:Option Expr)(t:TO):Prop :=
 ∀(pins:List (Addr×Obj)) (s:Shared) (σ:St) (H:Hp) (Q:Option Int->Hp->Prop),Inv X pins σ H s->t σ H Q ->
  wpAny (model X.prog X.w) X.A (evalPart e X.env) (fun u s'=>∃o H',Inv X pins σ H' s'/\IsPart u o/\Q o H') X.xe s
def zka:TO:=fun _ H Q=>Q none H
def zn1 (t:TE):TO:=fun σ H Q=>t σ H fun x H1=>∃i,x=.int i/\Q (some i) H1
theorem intsAre_of {ns:List Int}:∀{us:List Value},Vals (ns.map V.int) us->IntsAre us ns:=by
 induction ns with
 | nil=>intro us r;rw[List.map_nil] at r;cases r;exact .nil
 | cons n ns ih =>
  intro us r
  rw[ztH] at r
  cases r with
  | cons r1 r2 =>
   obtain⟨t,e⟩:=r1
   subst e
   exact .cons n t (ih r2)
section
variable {X:Cx}{e:Expr}{te:TE}{lo hi:Option Expr}{tl th:TO}{pos p2:Pos}
theorem Ux:PO X none zka:=by
 intro pins s σ H Q I h
 rw[evalPart_none]
 exact wpAny_pure ⟨none,H,I,.none,h⟩
theorem Xo (h:PE X e te):PO X (some e) (zn1 te):=by
 intro pins s σ H Q I hw
 rw[evalPart_some]
 refine wI (h pins s σ H _ I hw) fun u s1 ⟨x,H1,I1,r1,q1⟩=>?_
 obtain⟨i,rfl,q⟩:=q1
 obtain⟨t,rfl⟩:=r1
 exact⟨some i,H1,I1,.int i t,q⟩
def SlR (X:Cx)(r:V->Option Int->Option Int->Hp->VK->Prop):Prop :=
 ∀(pins:List (Addr×Obj)) (s:Shared) (σ:St) (H:Hp) (x:V) (v vl vu:Value) (lo hi:Option Int) (sl:Addr) (Q:VK),Inv X pins σ H s->RelV x v->s.heap.IsSliceOf sl vl vu .none->IsPart vl lo->IsPart vu hi->r x lo hi H Q ->
  ∃T id,typeLookup (.type T) "__getitem__"=pure (some (.builtin id))/\s.TypeIs v T/\wpAny (model X.prog X.w) X.A (getItem v (.ref sl)) (EP X pins σ Q) X.xe s
def tSl (r:V->Option Int->Option Int->Hp->VK->Prop)(te:TE)(tl th:TO):TE:=fun σ H Q=>te σ H fun x H1=>tl σ H1 fun l H2=>th σ H2 fun u H3=>r x l u H3 Q
theorem Y5 {r:V->Option Int->Option Int->Hp->VK->Prop}(hr:SlR X r)(he:PE X e te)(hl:PO X lo tl)(hu:PO X hi th):PE X (.Subscript e (.Slice lo hi none p2) pos) (tSl r te tl th):=by
 intro pins s σ H Q I h
 refine Subscript_ (wI (he pins s σ H _ I h) fun v s1 ⟨x,H1,I1,r1,q1⟩=>?_)
 refine wpAny_Slice (wI (hl pins s1 σ H1 _ I1 q1) fun vl s2 ⟨l,H2,I2,pl,q2⟩=>wI (hu pins s2 σ H2 _ I2 q2) fun vu s3 ⟨u,H3,I3,pu,q3⟩=>?_)
 rw[evalPart_none]
 refine wpAny_pure ?_
 have I4:Inv X pins σ H3 { s3 with heap:=s3.heap.push { cls:=.type "slice", data:=.fields #[vl,vu,.none] } }:=I3.kept (t':=s3.toks) fun b ob q=>zto _ q
 obtain⟨T,id,hT,ht,hg⟩:=hr pins { s3 with heap:=s3.heap.push { cls:=.type "slice", data:=.fields #[vl,vu,.none] } } σ H3 x v vl vu l u s3.heap.objs.size Q I4 r1 (Heap.IsSliceOf.new ..) pl pu q3
 show wpAny (model X.prog X.w) X.A (subscriptTail e (.Slice lo hi none p2) v (.ref s3.heap.objs.size)) (EP X pins σ Q) X.xe { s3 with heap:=s3.heap.push { cls:=.type "slice", data:=.fields #[vl,vu,.none] } }
 exact tail_any (ops:=[.ref s3.heap.objs.size,v]) ht hT hg (by with_unfolding_all rfl)
def NQ (xs:List V)(lo hi:Option Int):List V:=(xs.drop (HT.ZG xs.length 0 lo)).take (HT.ZG xs.length xs.length hi-HT.ZG xs.length 0 lo)
theorem Je (xs:List V)(lo hi:Option Int):(NQ xs lo hi).length<=xs.length:=by
 unfold NQ
 rw[ztG,List.length_drop]
 omega
def zpQ (K:Frag):V->Option Int->Option Int->Hp->VK->Prop:=fun x lo hi H Q=>∃a xs,x=.ref a/\vQ K H a xs /\
 ¬(HT.ZG xs.length 0 lo=0/\HT.ZG xs.length xs.length hi=xs.length)/\∀p,H p=none->Q (.ref p) (upd H p (.tup (NQ xs lo hi)))
theorem zfF:SlR X (zpQ X.K):=by
 intro pins s σ H x v vl vu lo hi sl Q I rx hs pl pu h
 obtain⟨a,xs,rfl,hx,hw,q⟩:=h
 cases rx
 obtain⟨its,r,ht,hz⟩:=I.tuple hx
 have hlen:its.toArray.size=xs.length:=by rw[zts];exact r.length.symm
 refine⟨"tuple", _,PyProof.Rows.slot_tuple_getitem.lookup,ht.typeIs,?_⟩
 refine HT.NP ht hs pl pu (by rw[hlen];exact hw) ?_ (by rw[hlen];exact hz)
 rw[hlen]
 refine⟨.ref s.heap.objs.size,_,I.laid (t':=s.toks) (o:=.tup (NQ xs lo hi)) (fun b ob q=>zto _ q) (zty _) ?_,rfl,q _ (I.hok.fresh (zty _))⟩
 exact⟨ztE (Je xs lo hi) hz,_,(r.drop (HT.ZG xs.length 0 lo)).take (HT.ZG xs.length xs.length hi-HT.ZG xs.length 0 lo),IsTup.new _ _⟩
end
def ixN (n:Nat)(i:Int):Option Nat:=if 0<=i then (if i<n then some i.toNat else none) else if -(n:Int)<=i then some (i+n).toNat else none
def atI {α:Type}(xs:List α)(i:Int):Option α:=(ixN xs.length i).bind fun j=>xs[j]?
theorem zgO {n:Nat}{i:Int}{j:Nat}(h:ixN n i=some j):seqIndex? i n=some j/\j<n/\-(n:Int)<=i/\i<n:=by
 unfold ixN at h
 by_cases h0:0<=i
 ·rw[if_pos h0] at h
  by_cases h1:i<n
  ·rw[if_pos h1] at h
   have e:i.toNat=j:=ztN h
   exact⟨by rw[seqIndex_of h0 h1,e],by omega,by omega,h1⟩
  ·rw[if_neg h1] at h;cases h
 ·rw[if_neg h0] at h
  by_cases h1:-(n:Int)<=i
  ·rw[if_pos h1] at h
   have e:(i+n).toNat=j:=ztN h
   exact⟨by rw[seqIndex_neg (by omega) h1,e],by omega,h1,by omega⟩
  ·rw[if_neg h1] at h;cases h
theorem zcN {α:Type}{xs:List α}{i:Int}{v:α}(h:atI xs i=some v):∃j,seqIndex? i xs.length=some j/\xs[j]?=some v/\j<xs.length/\-(xs.length:Int)<=i/\i<xs.length:=by
 unfold atI at h
 cases e:ixN xs.length i with
 | none=>rw[e] at h;cases h
 | some j =>
  rw[e] at h
  obtain⟨h1,h2,h3,h4⟩:=zgO e
  exact⟨j,h1,h,h2,h3,h4⟩
theorem vR {α:Type}{xs:List α}{j:Nat}{v:α}(h:xs[j]?=some v):atI xs (j:Int)=some v:=by
 have hj:j<xs.length:=(ztl.mp h).1
 have e:ixN xs.length (j:Int)=some j:=by
  unfold ixN
  rw[if_pos (by omega),if_pos (by omega)];simp
 unfold atI;rw[e];exact h
def zkb (b:Expr):Prop:=∀o i,subscripted b false o i=operate [o,i] (getItem o i)
def IxR (X:Cx)(r:R2):Prop :=
 ∀(value slice:Expr) (pins:List (Addr×Obj)) (s:Shared) (σ:St) (H:Hp) (x y:V) (v u:Value) (Q:VK),Inv X pins σ H s->RelV x v->RelV y u->r x y H Q ->
  subscripted slice false v u=operate [v,u] (getItem v u)->wpAny (model X.prog X.w) X.A (subscriptTail value slice v u) (EP X pins σ Q) X.xe s
def MtR (X:Cx)(id:String)(r:V->List V->Hp->VK->Prop):Prop :=
 ∀(pins:List (Addr×Obj)) (s:Shared) (σ:St) (H:Hp) (x:V) (xs:List V) (v:Value) (us:List Value) (Q:VK),Inv X pins σ H s->RelV x v->Vals xs us->r x xs H Q ->
  wpAny (model X.prog X.w) X.A (call (.builtin id) (v::us)) (EP X pins σ Q) X.xe s
section
variable {X:Cx}{a b:Expr}{ta tb:TE}{pos:Pos}
theorem yh {r:R2}(hr:IxR X r)(ha:PE X a ta)(hb:PE X b tb)(hs:zkb b):PE X (.Subscript a b pos) (tOp r ta tb):=by
 intro pins s σ H Q I h
 exact Subscript_ (zmh ha hb I h fun v u s2 x y H2 I2 rx ry q=>hr a b pins s2 σ H2 x y v u Q I2 rx ry q (hs _ _))
def zn2 (K:Frag):R2:=fun x y H Q=>∃p xs i v,x=.ref p/\y=.int i/\z6 K H p xs/\atI xs i=some v/\Q v H
def zpR (K:Frag):R2:=fun x y H Q=>∃p xs i v,x=.ref p/\y=.int i/\vQ K H p xs/\atI xs i=some v/\Q v H
def zpS:R2:=fun x y H Q=>∃z i c,x=.str z/\y=.int i/\z.length<=sizeLine/\atI z.cps.toList i=some c/\Q (.str ⟨#[c]⟩) H
theorem yd:IxR X (zn2 X.K):=by
 intro value slice pins s σ H x y v u Q I rx ry h hs
 obtain⟨p,xs,i,z,rfl,rfl,hq,he,q⟩:=h
 cases rx
 obtain⟨t,rfl⟩:=ry
 obtain⟨its,r,pl,hz⟩:=I.list hq
 obtain⟨j,h1,h2,h3,h4,h5⟩:=zcN he
 obtain⟨w,ew,rw'⟩:=r.get h2
 have hl:=r.length
 have hn:=Uw
 have fin:EP X pins σ Q w s:=⟨z,H,I,rw',q⟩
 by_cases h0:0<=i
 ·have hj:i.toNat=j:=by
   rw[seqIndex_of h0 h5] at h1
   exact ztN h1
  exact item_listR pl.isList h0 (by omega) (by rw[hj];simpa using ew) fin hs
 ·have hj:(i+(its.toArray.size:Int)).toNat=j:=by
   rw[seqIndex_neg (by omega) h4] at h1
   rw[zts,<-hl]
   exact ztN h1
  exact subscriptTail_builtinR (x:=w) pl.isList.typeIs slot_list_getitem.lookup
   (wpAny_getItem_list_neg (Q:=fun r s'=>r=w/\EP X pins σ Q r s') pl.isList (by omega) (by rw[zts]<;>omega) (by omega) (by rw[hj];simpa using ew) ⟨rfl,fin⟩) hs
theorem Zm:IxR X (zpR X.K):=by
 intro value slice pins s σ H x y v u Q I rx ry h hs
 obtain⟨p,xs,i,z,rfl,rfl,hq,he,q⟩:=h
 cases rx
 obtain⟨t,rfl⟩:=ry
 obtain⟨its,r,pl,hz⟩:=I.tuple hq
 obtain⟨j,h1,h2,h3,h4,h5⟩:=zcN he
 obtain⟨w,ew,rw'⟩:=r.get h2
 have hl:=r.length
 have hn:=Uw
 have fin:EP X pins σ Q w s:=⟨z,H,I,rw',q⟩
 exact subscriptTail_builtinR (x:=w) pl.typeIs slot_tuple_getitem.lookup
  (getItem_tuple (j:=j) (Q:=fun r s'=>r=w/\EP X pins σ Q r s') pl (by omega) (by omega) (by rw[zts,<-hl];exact h1) (by simpa using ew) ⟨rfl,fin⟩) hs
theorem zfG:IxR X zpS:=by
 intro value slice pins s σ H x y v u Q I rx ry h hs
 obtain⟨z,i,c,rfl,rfl,hz,he,q⟩:=h
 obtain⟨t,rfl⟩:=rx
 obtain⟨t',rfl⟩:=ry
 obtain⟨j,h1,h2,h3,h4,h5⟩:=zcN he
 have hl:z.cps.toList.length=z.length:=by simp[Str.length]
 rw[hl] at h1 h4 h5
 have hn:=Uw
 exact tail_any (typeIs_str s z t) slot_str_getitem.lookup (getItem_str (c:=c) (by
  have e1:decide (i < -(2^63:Int))=false:=decide_eq_false (by omega)
  have e2:decide (i >= 2^63)=false:=decide_eq_false (by omega)
  rw[e1,e2,Bool.or_false]) (by rw[h1];simpa using h2) ⟨.str ⟨#[c]⟩,H,I.tok _,⟨_,rfl⟩,q⟩) hs
theorem zfH (its:List Value)(n j:Nat)(u:Value):Obj.mapSeq (·.setIfInBounds j u) { cls:=.type "list", data:=.seq its.toArray n }={ cls:=.type "list", data:=.seq (its.set j u).toArray n }:=by
 simp[Obj.mapSeq]
theorem Inv.lst {pins:List (Addr×Obj)}{σ:St}{H:Hp}{s:Shared}{p:Addr}{xs:List V}(I:Inv X pins σ H s)(h:H p=some (.lst xs)) :
  ∃(its:List Value) (n:Nat),Vals xs its/\s.heap.get? p=some { cls:=.type "list", data:=.seq its.toArray n }/\xs.length<=sizeLine:=by
 obtain⟨z,its,n,r,e⟩:=I.hok p _ h
 exact⟨its,n,r,e,z⟩
theorem Inv.zmr {pins:List (Addr×Obj)}{σ:St}{H:Hp}{s:Shared}{p:Addr}{xs ys:List V}{its its':List Value}{n n':Nat}{f:Obj->Obj}(I:Inv X pins σ H s)(h:H p=some (.lst xs))
  (ho:s.heap.get? p=some { cls:=.type "list", data:=.seq its.toArray n })(hf:f { cls:=.type "list", data:=.seq its.toArray n }={ cls:=.type "list", data:=.seq its'.toArray n' })(r:Vals ys its')(hz:ys.length<=sizeLine)(t:Nat) :
  Inv X pins σ (upd H p (.lst ys)) { s with heap:=s.heap.update p f,toks:=t }:=by
 have e:(s.heap.update p f).get? p=some { cls:=.type "list", data:=.seq its'.toArray n' }:=by
  rw[Heap.get?_update_self f ho (by rw[hf]<;>rfl),hf]
 refine I.write (x:=p) (e:=p) (by rw[h];trivial) (.inl rfl) (fun b u hb q=>(Heap.get?_update_other _ _ (Ne.symm hb)).trans q) ⟨_,e⟩ ?_
 exact⟨hz,its',n',r,e⟩
def zn3:V->V->V->Hp->(Hp->Prop)->Prop:=fun o i v H Q=>∃p xs k j,o=.ref p/\i=.int k/\H p=some (.lst xs)/\ixN xs.length k=some j/\Q (upd H p (.lst (xs.set j v)))
theorem set_list:znP X zn3:=by
 intro pins s σ H o i v ov iv u Q I ro ri rv h
 obtain⟨p,xs,k,j,rfl,rfl,hp,hj,q⟩:=h
 cases ro
 obtain⟨t,rfl⟩:=ri
 obtain⟨its,n,r,ho,hz⟩:=I.lst hp
 obtain⟨h1,h2,h3,h4⟩:=zgO hj
 have hl:=r.length
 have hn:=Uw
 have I':Inv X pins σ (upd H p (.lst (xs.set j v))) { s with heap:=s.heap.update p (Obj.mapSeq (·.setIfInBounds j u)) } :=
  I.zmr hp ho (zfH its n j u) (r.set rv j) (by rw[List.length_set];exact hz) s.toks
 by_cases h0:0<=k
 ·have hk:k.toNat=j:=by
   rw[seqIndex_of h0 h4] at h1
   exact ztN h1
  exact PySem.W.ki_setAt ho h0 (by omega) (by rw[zts,<-hl];exact h4) (by rw[hk];exact⟨_,I',q⟩)
 ·have hk:(k+(its.toArray.size:Int)).toNat=j:=by
   rw[seqIndex_neg (by omega) h3] at h1
   rw[zts,<-hl]
   exact ztN h1
  exact PySem.W.ki_setBack ho (by omega) (by rw[zts,<-hl];exact h3) (by omega) (by rw[hk];exact⟨_,I',q⟩)
theorem zcO (lo hi:Option Int)(n:Nat):(sliceBounds lo hi none n).1=((HT.ZG n 0 lo:Nat):Int)/\(sliceBounds lo hi none n).2.1=((HT.ZG n n hi:Nat):Int)/\(sliceBounds lo hi none n).2.2=1:=by
 refine⟨?_,?_,rfl⟩
 ·cases lo with
  | none=>simp[sliceBounds,HT.ZG]
  | some i =>
   simp only[sliceBounds,HT.ZG,Option.getD_none,show(1:Int) > 0 by decide,if_true]
   by_cases h:i<0
   ·simp only[h,if_true]<;>omega
   ·simp only[h,if_false]<;>omega
 ·cases hi with
  | none=>simp[sliceBounds,HT.ZG]
  | some i =>
   simp only[sliceBounds,HT.ZG,Option.getD_none,show(1:Int) > 0 by decide,if_true]
   by_cases h:i<0
   ·simp only[h,if_true]<;>omega
   ·simp only[h,if_false]<;>omega
theorem zby (its:List Value)(lo hi:Option Int):slicePick its.toArray lo hi none=((its.drop (HT.ZG its.length 0 lo)).take (HT.ZG its.length its.length hi-HT.ZG its.length 0 lo)).toArray:=by
 obtain⟨h1,h2,h3⟩:=zcO lo hi its.toArray.size
 unfold slicePick
 rw[h1,h2,h3]
 simp only[sliceRange_one,pick_run,zts]<;>rfl
def zpT (K:Frag):V->Option Int->Option Int->Hp->VK->Prop:=fun x lo hi H Q=>∃a xs,x=.ref a/\z6 K H a xs/\∀p,H p=none->Q (.ref p) (upd H p (.lst (NQ xs lo hi)))
theorem zpa:SlR X (zpT X.K):=by
 intro pins s σ H x v vl vu lo hi sl Q I rx hs pl pu h
 obtain⟨a,xs,rfl,hx,q⟩:=h
 cases rx
 obtain⟨its,r,ht,hz⟩:=I.list hx
 have hlen:=r.length
 refine⟨"list", _,slot_list_getitem.lookup,ht.isList.typeIs,?_⟩
 refine wpAny_getItem_list_slice ht.isList hs pl pu .none (by simp) ?_ (by rw[zts]<;>omega)
 rw[zby,<-hlen]
 refine⟨.ref s.heap.objs.size,_,I.laid (t':=s.toks) (o:=.lst (NQ xs lo hi)) (fun b ob q=>zto _ q) (zty _) ?_,rfl,q _ (I.hok.fresh (zty _))⟩
 exact⟨ztE (Je xs lo hi) hz,_,0,(r.drop (HT.ZG xs.length 0 lo)).take (HT.ZG xs.length xs.length hi-HT.ZG xs.length 0 lo),ztD _ rfl⟩
def wQ:V->Bool
 | .non=>true
 | .bl _=>true
 | .int _=>true
 | .str _=>true
 | _=>false
def eqV:V->V->Bool
 | .non,.non=>true
 | .bl a,.bl b=>a==b
 | .bl a,.int b=>(if a then 1 else 0)==b
 | .int a,.bl b=>a==(if b then 1 else 0)
 | .int a,.int b=>a==b
 | .str a,.str b=>a==b
 | _,_=>false
theorem ziH {A:Around}{s:Shared}{y x:V}{u v:Value}(ry:RelV y u)(rx:RelV x v)(fy:wQ y=true)(fx:wQ x=true):SeqAt.EqAt A s u v (eqV y x):=by
 cases y with
 | non =>
  cases ry
  cases x with
  | non=>cases rx;exact SeqAt.EqAt.same _
  | bl b=>cases rx;exact SeqAt.EqAt.none_bool b
  | int b=>obtain⟨t,rfl⟩:=rx;exact SeqAt.EqAt.none_int b t
  | str b=>obtain⟨t,rfl⟩:=rx;exact SeqAt.EqAt.none_str b t
  | _=>exact absurd (show false=true from fx) ztm
 | bl a =>
  cases ry
  cases x with
  | non=>cases rx;exact SeqAt.EqAt.bool_none a
  | bl b=>cases rx;exact SeqAt.EqAt.bool_bool a b
  | int b=>obtain⟨t,rfl⟩:=rx;exact SeqAt.EqAt.bool_int a b t
  | str b=>obtain⟨t,rfl⟩:=rx;exact SeqAt.EqAt.bool_str a b t
  | _=>exact absurd (show false=true from fx) ztm
 | int a =>
  obtain⟨t',rfl⟩:=ry
  cases x with
  | non=>cases rx;exact SeqAt.EqAt.int_none a t'
  | bl b=>cases rx;exact SeqAt.EqAt.int_bool a t' b
  | int b=>obtain⟨t,rfl⟩:=rx;exact SeqAt.EqAt.int_int a t' b t
  | str b=>obtain⟨t,rfl⟩:=rx;exact SeqAt.EqAt.int_str a t' b t
  | _=>exact absurd (show false=true from fx) ztm
 | str a =>
  obtain⟨t',rfl⟩:=ry
  cases x with
  | non=>cases rx;exact SeqAt.EqAt.str_none a t'
  | bl b=>cases rx;exact SeqAt.EqAt.str_bool a t' b
  | int b=>obtain⟨t,rfl⟩:=rx;exact SeqAt.EqAt.str_int a t' b t
  | str b=>obtain⟨t,rfl⟩:=rx;exact SeqAt.EqAt.str_str a t' b t
  | _=>exact absurd (show false=true from fx) ztm
 | _=>exact absurd (show false=true from fy) ztm
def eqU (x:V)(u:Value):Bool:=match u with
 | .none=>eqV .non x
 | .bool b=>eqV (.bl b) x
 | .int i _=>eqV (.int i) x
 | .str z _=>eqV (.str z) x
 | _=>false
theorem zcP {x y:V}{u:Value}(r:RelV y u)(f:wQ y=true):eqU x u=eqV y x:=by
 cases y with
 | non=>cases r;rfl
 | bl b=>cases r;rfl
 | int i=>obtain⟨t,rfl⟩:=r;rfl
 | str z=>obtain⟨t,rfl⟩:=r;rfl
 | _=>exact absurd (show false=true from f) ztm
theorem NT {x:V}:∀{xs:List V} {us:List Value},Vals xs us->xs.all wQ=true->us.any (eqU x)=xs.any fun y=>eqV y x
 | _,_,.nil,_=>rfl
 | y::xs,u::us,.cons r t,f=>by
  rw[List.all_cons,ztK] at f
  rw[List.any_cons,List.any_cons,zcP r f.1,NT t f.2]
theorem VJ {A:Around}{s:Shared}{x:V}{v:Value}(rx:RelV x v)(fx:wQ x=true):∀{xs:List V} {us:List Value},Vals xs us->xs.all wQ=true->∀u∈us,SeqAt.EqAt A s u v (eqU x u)
 | _,_,.nil,_=>fun u hu=>by cases hu
 | y::xs,u::us,.cons r t,f=>fun u' hu=>by
  rw[List.all_cons,ztK] at f
  rcases List.mem_cons.mp hu with rfl | hu
  ·rw[zcP r f.1];exact ziH r rx f.1 fx
  ·exact VJ rx fx t f.2 u' hu
def inV (x:V)(xs:List V):Bool:=xs.any fun y=>eqV y x
def rIn (K:Frag)(neg:Bool):R2:=fun x y H Q=>∃p xs,y=.ref p/\(z6 K H p xs\/vQ K H p xs)/\wQ x=true/\xs.all wQ=true/\Q (.bl (if neg then !inV x xs else inV x xs)) H
theorem RW:Vj X (compareOp .In) (rIn X.K false):=by
 intro pins s σ H x y v u Q I rx ry h
 obtain⟨p,xs,rfl,hq,fx,fs,q⟩:=h
 cases ry
 rcases hq with hq | hq
 ·obtain⟨its,r,pl,hz⟩:=I.list hq
  refine SeqAt.in_listAt (eqU x) pl.isList (fun w hw=>VJ rx fx r fs w (by simpa using hw)) ⟨.bl _,H,I,rfl,?_⟩
  rw[show its.toArray.any (eqU x)=its.any (eqU x) by simp,NT r fs]
  exact q
 ·obtain⟨its,r,pl,hz⟩:=I.tuple hq
  refine SeqAt.in_tupleAt (eqU x) pl (fun w hw=>VJ rx fx r fs w (by simpa using hw)) ⟨.bl _,H,I,rfl,?_⟩
  rw[show its.toArray.any (eqU x)=its.any (eqU x) by simp,NT r fs]
  exact q
theorem NZ:Vj X (compareOp .NotIn) (rIn X.K true):=by
 intro pins s σ H x y v u Q I rx ry h
 obtain⟨p,xs,rfl,hq,fx,fs,q⟩:=h
 cases ry
 rcases hq with hq | hq
 ·obtain⟨its,r,pl,hz⟩:=I.list hq
  refine SeqAt.notIn_listAt (eqU x) pl.isList (fun w hw=>VJ rx fx r fs w (by simpa using hw)) ⟨.bl _,H,I,rfl,?_⟩
  rw[show its.toArray.any (eqU x)=its.any (eqU x) by simp,NT r fs]
  exact q
 ·obtain⟨its,r,pl,hz⟩:=I.tuple hq
  refine SeqAt.notIn_tupleAt (eqU x) pl (fun w hw=>VJ rx fx r fs w (by simpa using hw)) ⟨.bl _,H,I,rfl,?_⟩
  rw[show its.toArray.any (eqU x)=its.any (eqU x) by simp,NT r fs]
  exact q
theorem zO:Xl X (.builtin "len") (fun xs H Q=>∃p ys,xs=[.ref p]/\(z6 X.K H p ys\/vQ X.K H p ys)/\Q (.int ys.length) H):=by
 intro pins s σ H xs us Q I r h
 obtain⟨p,ys,rfl,hq,q⟩:=h
 obtain⟨u,rfl,rx⟩:=vals1 r
 cases rx
 have hn:=Uw
 rcases hq with hq | hq
 ·obtain⟨its,r',pl,hz⟩:=I.list hq
  have hlen:=r'.length
  exact Calls.call_len_list pl.isList (by simp only[zts]<;>omega) ⟨.int ys.length,H,I.tok _,⟨s.toks+1,by rw[zts,hlen]⟩,q⟩
 ·obtain⟨its,r',pl,hz⟩:=I.tuple hq
  have hlen:=r'.length
  exact len_tuple pl (by simp only[zts]<;>omega) ⟨.int ys.length,H,I.tok _,⟨s.toks+1,by rw[zts,hlen]⟩,q⟩
theorem N5:Xl X (.builtin "len") (fun xs H Q=>∃z,xs=[.str z]/\z.length<=sizeLine/\Q (.int z.length) H):=by
 intro pins s σ H xs us Q I r h
 obtain⟨z,rfl,hz,q⟩:=h
 obtain⟨u,rfl,t,rfl⟩:=vals1 r
 have hn:=Uw
 exact len_str (by omega) ⟨.int z.length,H,I.tok _,⟨_,rfl⟩,q⟩
theorem N6:Xl X (.type "list") (fun xs H Q=>∃p ys,xs=[.ref p]/\(z6 X.K H p ys\/vQ X.K H p ys)/\∀l,H l=none->Q (.ref l) (upd H l (.lst ys))):=by
 intro pins s σ H xs us Q I r h
 obtain⟨p,ys,rfl,hq,q⟩:=h
 obtain⟨u,rfl,rx⟩:=vals1 r
 cases rx
 have fin:∀(its:List Value),Vals ys its->ys.length<=sizeLine->∀(h':Heap) (c':Nat),(∀b o',s.heap.get? b=some o'->h'.get? b=some o') ->
   h'.get? s.heap.objs.size=some { cls:=.type "list", dict:=none,data:=.seq its.toArray c',slots:=#[] }->EP X pins σ Q (.ref s.heap.objs.size) { s with heap:=h' }:=fun its r' hz h' c' kp e =>
  ⟨.ref s.heap.objs.size,_,I.laid (t':=s.toks) kp (zty _) (show wH X.prog X.w _ h' _ (.lst ys) from ⟨hz,its,c',r',e⟩),rfl,q _ (I.hok.fresh (zty _))⟩
 rcases hq with hq | hq
 ·obtain⟨its,r',pl,hz⟩:=I.list hq
  have hlen:=r'.length
  obtain⟨o,ho,hc,n,hd⟩:=pl.isList
  exact call_list_seq p (.inl rfl) ho hc hd (fun h' c' kp e=>fin its r' hz h' c' kp e) (by simp only[zts]<;>omega)
 ·obtain⟨its,r',pl,hz⟩:=I.tuple hq
  have hlen:=r'.length
  obtain⟨o,ho,hc,n,hd⟩:=pl
  exact call_list_seq p (.inr rfl) ho hc hd (fun h' c' kp e=>fin its r' hz h' c' kp e) (by simp only[zts]<;>omega)
def tyV (K:Frag)(T:String)(x:V)(H:Hp):Prop:=match x with
 | .str _=>T="str"
 | .int _=>T="int"
 | .ref p=>(T="list" /\ ∃xs,z6 K H p xs)\/(T="tuple" /\ ∃o,K.lookup p=some o/\o.cls=.type "tuple" /\ o.dict=none) \/
   (T="dict" /\ ((∃kvs,H p=some (.dK kvs))\/∃kvs,H p=some (.dT kvs)))\/(T="set" /\ ∃S n,H p=some (.set S n))
 | _=>False
theorem zcQ {pins:List (Addr×Obj)}{σ:St}{H:Hp}{s:Shared}{T:String}{x:V}{v:Value}(I:Inv X pins σ H s)(r:RelV x v)(ty:tyV X.K T x H) :
  s.TypeIs v T/\∀a,v=.ref a->∃ob,s.heap.get? a=some ob/\ob.dict=none:=by
 cases x with
 | str z =>
  obtain⟨t,rfl⟩:=r
  cases (show T="str" from ty)
  exact⟨typeIs_str s z t,fun _ e=>nomatch e⟩
 | int i =>
  obtain⟨t,rfl⟩:=r
  cases (show T="int" from ty)
  exact⟨typeIs_int s i t,fun _ e=>nomatch e⟩
 | ref p =>
  cases r
  rcases ty with ⟨rfl,xs,hq⟩ | ⟨rfl,o,hk,hc,hd⟩ | ⟨rfl,hk⟩ | ⟨rfl,S,n,hk⟩
  ·obtain⟨its,_,pl,_⟩:=I.list hq
   refine⟨pl.isList.typeIs,fun a e=>?_⟩
   cases e
   obtain⟨o,n,e,c,hd,_⟩:=pl
   exact⟨o,e,hd⟩
  ·refine⟨⟨o,I.Qq p o hk,hc⟩,fun a e=>?_⟩
   cases e
   exact⟨o,I.Qq _ o hk,hd⟩
  ·have z:∃o,s.heap.get? p=some o/\o.ExactDict:=by
    rcases hk with ⟨kvs,hk⟩ | ⟨kvs,hk⟩
    ·obtain⟨_,_,_,_,o,_,_,e,ex,_⟩:=I.hok p _ hk
     exact⟨o,e,ex⟩
    ·obtain⟨_,_,_,_,o,_,_,e,ex,_⟩:=I.hok p _ hk
     exact⟨o,e,ex⟩
   obtain⟨o,e,ex⟩:=z
   refine⟨⟨o,e,ex.1⟩,fun a e2=>?_⟩
   cases e2
   exact⟨o,e,ex.2.1⟩
  ·obtain⟨o,_,_,_,e,ex,_⟩:=I.hok p _ hk
   refine⟨⟨o,e,ex.1⟩,fun a e2=>?_⟩
   cases e2
   exact⟨o,e,ex.2.1⟩
 | _=>exact False.elim ty
def zpV (K:Frag)(T:String)(r:V->List V->Hp->VK->Prop)(to:TE):TE:=fun σ H Q=>to σ H fun x H1=>tyV K T x H1/\r x [] H1 Q
def tBM (K:Frag)(T:String)(r:V->List V->Hp->VK->Prop)(to:TE)(t:TA):TE:=fun σ H Q=>to σ H fun x H1=>tyV K T x H1/\t σ H1 fun xs H2=>r x xs H2 Q
variable {o e:Expr}{es:List Expr}{to:TE}{t:TA}{name:Str}{apos cpos:Pos}{T id:String}{r:V->List V->Hp->VK->Prop}
theorem zms (pa:PlainAttrs T)(slot:Slot T name id)(hty:typeOf (.builtin id)=pure (.type "method_descriptor"))(hm:MtR X id r)(ho:PE X o to)
  (hbase:attributeBase o name X.env (eval o X.env)=eval o X.env:=by rfl)(hline:(apos.endLine==cpos.line)=true:=by rfl):PE X (.Call (.Attribute o name apos) [] [] cpos) (zpV X.K T r to):=by
 intro pins s σ H Q I h
 refine wpAny_Call_method0_late hbase hline (wI (ho pins s σ H _ I h) fun v s1 ⟨x,H1,I1,r1,ty,q1⟩=>?_)
 obtain⟨h1,h2⟩:=zcQ I1 r1 ty
 exact⟨T,id,pa,slot,hty,h1,h2,Calls.callWith_builtin rfl (PySem.evalArgs_none (hm pins s1 σ H1 x [] v [] Q I1 r1 .nil q1))⟩
theorem ZJ (pa:PlainAttrs T)(slot:Slot T name id)(hty:typeOf (.builtin id)=pure (.type "method_descriptor"))(hm:MtR X id r)(ho:PE X o to)(ha:PA X (e::es) t)
  (hbase:attributeBase o name X.env (eval o X.env)=eval o X.env:=by rfl)
  (hfew:((backTo cpos (starEach (e::es) X.env)).all (fun x=>!x.1)&&(backToKw cpos (keywordEach [] X.env)).all (fun x=>x.1.isSome)
   && decide ((e::es).length+([]:List Keyword).length+(if ([]:List Keyword).isEmpty then 0 else 1)<30))=true:=by rfl)
  (hline:(apos.endLine==cpos.line)=true:=by rfl)(hs:starEach (e::es) X.env=(false,eval e X.env)::starEach es X.env:=by rfl)(hplain:(backTo cpos (starEach es X.env)).any (·.1)=false:=by rfl) :
  PE X (.Call (.Attribute o name apos) (e::es) [] cpos) (tBM X.K T r to t):=by
 intro pins s σ H Q I h
 refine wpAny_Call_method_late hbase hfew hline rfl (wI (ho pins s σ H _ I h) fun v s1 ⟨x,H1,I1,r1,ty,q1⟩=>?_)
 obtain⟨h1,h2⟩:=zcQ I1 r1 ty
 refine⟨T,id,pa,slot,hty,h1,h2,?_⟩
 have hA:=ha cpos pins s1 σ H1 _ I1 q1
 rw[hs] at hA ⊢
 refine Calls.callWith_builtin (by show(false||(backTo cpos (starEach es X.env)).any (·.1))=false;rw[hplain]<;>rfl) (Calls.evalArgs_plain ?_)
 exact wI hA fun us s2 ⟨vs,H2,I2,r2,q2⟩=>hm pins s2 σ H2 x vs v us Q I2 r1 r2 q2
end
def MtM (X:Cx)(id:String)(r:V->List V->Hp->VK->Prop):Prop :=
 ∀(pins:List (Addr×Obj)) (s:Shared) (σ:St) (H:Hp) (x:V) (xs:List V) (v:Value) (us:List Value) (Q:VK),Inv X pins σ H s->RelV x v->Vals xs us->r x xs H Q ->
  wpAny (model X.prog X.w) X.A (call (.builtin id) (v::us)) (EP X pins σ Q) X.xe s
theorem Vals.one:∀{x:V} {us:List Value},Vals [x] us->∃u,us=[u]/\RelV x u
 | _,_,.cons r .nil=>⟨_,rfl,r⟩
theorem Vals.two:∀{x y:V} {us:List Value},Vals [x,y] us->∃u v,us=[u,v]/\RelV x u/\RelV y v
 | _,_,_,.cons r (.cons q .nil)=>⟨_,_,rfl,r,q⟩
theorem Vals.zero:∀{us:List Value},Vals [] us->us=[]
 | _,.nil=>rfl
theorem Vals.dropLast {xs:List V}{us:List Value}(h:Vals xs us):Vals xs.dropLast us.dropLast:=by
 induction h with
 | nil=>exact .nil
 | cons r t ih =>
  cases t with
  | nil=>exact .nil
  | cons q t'=>exact .cons r ih
theorem zfI {α:Type}(l:List α):l.eraseIdx (l.length-1)=l.dropLast:=by
 induction l with
 | nil=>rfl
 | cons a r ih =>
  cases r with
  | nil=>rfl
  | cons b r =>
   have e:(a::b::r).length-1=((b::r).length-1)+1:=by
    have h1:(a::b::r).length=r.length+2:=rfl
    have h2:(b::r).length=r.length+1:=rfl
    omega
   rw[e,List.eraseIdx_cons_succ,ih]
   all_goals rfl
section
variable {X:Cx}{pins:List (Addr×Obj)}{σ:St}{H:Hp}{s:Shared}{l b:Addr}{xs ys zs:List V}
theorem Inv.ziI {its its':List Value}{n:Nat}{f:Array Value->Array Value}{t':Nat}(I:Inv X pins σ H s)(hH:H l=some (.lst xs))
  (e:s.heap.get? l=some { cls:=.type "list", data:=.seq its.toArray n })(hf:f its.toArray=its'.toArray)(hv:Vals ys its')(hz:ys.length<=sizeLine) :
  Inv X pins σ (upd H l (.lst ys)) { s with heap:=s.heap.update l (Obj.mapSeq f),toks:=t' }:=by
 have q:=PySem.IsL.update e f
 rw[hf] at q
 refine I.write (x:=l) (e:=l) (by rw[hH];exact trivial) (.inl rfl) (fun b' u hb hu=>(Heap.get?_update_other s.heap (Obj.mapSeq f) (Ne.symm hb)).trans hu) ⟨_,q⟩ ?_
 exact⟨hz,its',_,hv,q⟩
theorem Inv.fresh (I:Inv X pins σ H s):H s.heap.objs.size=none:=I.hok.fresh (zty _)
theorem Inv.zhI (I:Inv X pins σ H s)(hH:H l=some (.lst xs)):xs.length<=sizeLine/\∃(its:List Value) (n:Nat),Vals xs its/\xs.length=its.length/\s.heap.get? l=some { cls:=.type "list", data:=.seq its.toArray n }:=by
 obtain⟨z,its,n,r,e⟩:=I.hok l _ hH
 exact⟨z,its,n,r,r.length,e⟩
theorem zd1 {n:Nat}(h:n<=sizeLine):Builtin.List.listTooLong n=false:=by
 unfold Builtin.List.listTooLong
 exact decide_eq_false (by omega)
end
section
variable {X:Cx}
def zkc:V->List V->Hp->VK->Prop:=fun x vs H Q=>∃l xs y,x=.ref l/\vs=[y]/\H l=some (.lst xs)/\xs.length<sizeLine/\Q .non (upd H l (.lst (xs++[y])))
theorem uX:MtM X "list.append" zkc:=by
 intro pins s σ H x vs v us Q I rx rv h
 obtain⟨l,xs,y,rfl,rfl,hH,hz,q⟩:=h
 cases rx
 obtain⟨u,rfl,ru⟩:=rv.one
 obtain⟨z,its,n,r,hl,e⟩:=I.zhI hH
 refine call_meets F.slot_list_append ⟨_,e,rfl⟩ F.entry_list_append (F.args_list_append_2 _ _) (PySem.list_append l its.toArray n u (by rw[zts];omega)) ⟨e,?_⟩
 refine⟨.non,_,I.ziI (its':=its++[u]) hH e (by simp) (r.append (.cons ru .nil)) ?_,rfl,q⟩
 rw[ztq,ztQ]
 omega
def zkd:V->List V->Hp->VK->Prop:=fun x vs H Q=>∃l b xs zs,x=.ref l/\vs=[.ref b]/\H l=some (.lst xs)/\H b=some (.lst zs)/\xs.length+zs.length<=sizeLine/\Q .non (upd H l (.lst (xs++zs)))
theorem zce:MtM X "list.extend" zkd:=by
 intro pins s σ H x vs v us Q I rx rv h
 obtain⟨l,b,xs,zs,rfl,rfl,hH,hB,hz,q⟩:=h
 cases rx
 obtain⟨u,rfl,ru⟩:=rv.one
 cases ru
 obtain⟨z,its,n,r,hl,e⟩:=I.zhI hH
 obtain⟨z2,its2,n2,r2,hl2,e2⟩:=I.zhI hB
 have hsz:its.toArray.size+its2.toArray.size<=sizeLine:=by rw[zts,zts];omega
 have ziJ:¬(!its.toArray.isEmpty&&Builtin.List.listTooLong (its.toArray.size+its2.toArray.size))=true:=by
  rw[zd1 hsz,Bool.and_false]
  exact ztm
 refine call_meets F.slot_list_extend ⟨_,e,rfl⟩ F.entry_list_extend (F.args_list_extend_2 _ _)
  (AutoSeq1.list_extend_list_list_0 l its.toArray n b its2.toArray n2 ziJ (by rw[zts];omega) (by omega)) ⟨e,e2,?_⟩
 refine⟨.non,_,I.ziI (its':=its++its2) hH e (by simp) (r.append r2) ?_,rfl,q⟩
 rw[ztq]
 omega
def zpW:V->List V->Hp->VK->Prop:=fun x vs H Q=>∃l xs y,x=.ref l/\vs=[]/\H l=some (.lst xs)/\xs[xs.length-1]?=some y/\Q y (upd H l (.lst xs.dropLast))
theorem zmt:MtM X "list.pop" zpW:=by
 intro pins s σ H x vs v us Q I rx rv h
 obtain⟨l,xs,y,rfl,rfl,hH,hy,q⟩:=h
 cases rx
 have hus:=rv.zero
 subst hus
 obtain⟨z,its,n,r,hl,e⟩:=I.zhI hH
 obtain⟨u,hu,ru⟩:=r.get hy
 have hy':its.toArray[its.toArray.size-1]?=some u:=by
  show its.toArray[its.length-1]?=some u
  rw[<-Array.getElem?_toList,<-hl]
  exact hu
 refine call_meets F.slot_list_pop ⟨_,e,rfl⟩ F.entry_list_pop (F.args_list_pop_1 _) (MeetsSeq.list_pop_last l its.toArray n u hy' (by rw[zts];omega)) ⟨e,?_⟩
 refine⟨y,_,I.ziI (its':=its.dropLast) hH e ?_ r.dropLast ?_,ru,q⟩
 ·show its.toArray.eraseIdxIfInBounds (its.toArray.size-1)=its.dropLast.toArray
  rw[zts,List.eraseIdxIfInBounds_toArray,zfI]
 ·rw[List.length_dropLast]
  omega
end
end L2
namespace Att
open PySem PySem.W PySem.Calls PyProof.Rows
theorem JL {P:Params}{h:Heap}:∀(ns:List Int) (vs:List Value),WellAll P h vs (ns.map WData.int)->IntsAre vs ns:=by
 intro ns
 induction ns with
 | nil =>
  intro vs w
  rw[List.map_nil] at w
  cases w
  exact .nil
 | cons n ns ih =>
  intro vs w
  rw[ztH] at w
  cases w with
  | cons a b =>
   cases a
   exact .cons _ _ (ih _ b)
theorem zhJ {l:OpenLaw}{n:Nat}(hn:l.most=some n){P:Params}{h:Heap}{args:List WData}{vals:List Value}
  (hpre:l.row.toRowW.claim.pre args=true)(hwl:WellAll P h vals args) :
  ∃a vs ns,vals=[Value.ref a]/\args=[WData.list (ns.map WData.int)]/\h.get? a=some { cls:=.type "list", data:=.seq vs.toArray }/\IntsAre vs ns/\ns.length<=n:=by
 have hsh:WShape.hasAll [] args [.list .int]=true:=(pre_splitW hpre).1
 have hc:l.pre.holds [] { args:=args }=true:=(pre_splitW hpre).2
 obtain⟨d,r,rfl,h1,h2⟩:=hasAllW_cons hsh
 obtain rfl:=hasAllW_nil h2
 obtain⟨xs,rfl,h3⟩:=hasW_list h1
 obtain⟨ns,rfl⟩:=items_int h3
 have hlen:ns.length<=n:=by
  unfold OpenLaw.pre at hc
  have h4:(WTm.not (.lt (.lit (.int (n:Int))) (.len (.arg 0)))).holds [] { args:=[.list (ns.map .int)] }=true:=by
   have h4:=(holds_andW hc).1
   rw[hn] at h4
   exact h4
  have h5:=condW_of h4 (w_not (w_lt w_lit (w_len_list (w_arg rfl))))
  rw[zti] at h5
  refine Nat.le_of_not_lt fun q=>?_
  have q':(n:Int)<((ns.length:Nat):Int):=by omega
  first
   | (rw[decide_eq_true q'] at h5;exact absurd h5 (by decide))
   | (simp at h5;omega)
 cases hwl with
 | cons w1 w2 =>
  cases w2
  cases w1 with
  | list ho hall=>exact⟨_,_,ns,rfl,rfl,ho,JL ns _ hall,hlen⟩
theorem zhK (l:OpenLaw)(args:List WData):l.row.toRowW.claim.post args (.bool true) args=true :=
 postW_of (r:=l.row.toRowW) (X:=(true==true))
  (show WShape.has [] (.bool true) .bool=true by first | rfl | decide | simp[WShape.has,WShape.arms,WShape.armsAll])
  (show(WTm.eq .res (.lit (.bool true))).value [] { args:=args,res:=some (.bool true),after:=args }=some (.bool (true==true)) from w_eq_bool (w_res rfl) w_lit) rfl
theorem zd2 {l:OpenLaw}{n:Nat}{q:Program}{loose:List Str}{XP:(Str->Option Value)->Heap->Prop}{YP:World->Heap->Prop}{d:DefRec}
  (hn:l.most=some n)(hdf:d.params.defaults=[])
  (call:∀(w:World) (s₀ s₁:Shared) (mg mb:Str->Option Value) (fa:Addr) (o:Obj) (pm cd doc:Value) (a:Addr) (vs:List Value) (ns:List Int),
   Ground q loose [] XP w s₀ mg mb s₁.heap->YP w s₁.heap ->
   s₁.heap.get? fa=some o->o.data=.func (docDef d.name d.params d.body d.scope pm cd doc)->s₁.heap.CodeRec cd d.name->mg d.name=some (.ref fa) ->
   s₁.heap.get? a=some { cls:=.type "list", data:=.seq vs.toArray }->IntsAre vs ns->ns.length<=n->s₁.gens=#[] ->
   codeAny (model l.prog w) callerA (.call (.ref fa) ⟨[.ref a],[]⟩) (fun r s'=>r=.ok (.ret (.bool true))/\OldK s₁.heap s'.heap/\s'.os=s₁.os/\AllBare s'.gens) s₁) :
  WalkO q loose XP YP l.row.toRowW d [] (fun f vs=>PySem.call f vs):=by
 intro w s₀ s₁ mg mb G Y fa o pm cd doc dV kV ho hd hcd hD hmg hg args vals as hpre hlay hrd hwl hlo
 obtain rfl:dV=.none:=Dflts.none hD hdf
 obtain rfl:kV=.none:=Dflts.noKw hD
 obtain⟨a,vs,ns,rfl,rfl,hobj,hints,hlen⟩:=zhJ hn hpre hwl
 refine enter_call (codeAny_mono (call w s₀ s₁ mg mb fa o pm cd doc a vs ns G Y ho (fd_plain hd) hcd hmg hobj hints hlen hg) fun r s' hq=>?_)
 obtain⟨rfl,h2,h3,h4⟩:=hq
 exact⟨.inl ⟨.bool true,.bool true,[],rfl,fun _=>rfl,.bool true,zhK l _,fun _=>⟨List.Pairwise.nil,fun _ hm=>(nomatch hm)⟩⟩,h2,h3,h4⟩
end Att
namespace L2
open PySem PySem.Spec PyProof.Rows
theorem Kl:∀{vs:List Value} {ns:List Int},IntsAre vs ns->Vals (ns.map V.int) vs
 | _,_,.nil=>.nil
 | _,_,.cons n t h=>.cons ⟨t,rfl⟩ (Kl h)
def Only (H:Hp):Prop:=∀b,H b=none\/∃o xs,H b=some (.frz o (.lst xs))
theorem ziK {P:Program}{w:World}{K:Frag}{mg mb:Str->Option Value}{CX:CXT}{k:Nat}{fa a:Addr}{fd:FuncData}{x:Str}{sp:Sp}{s₁:Shared}{vs:List Value}{ns:List Int}
  (KX:K.In s₁.heap)(hns:s₁.heap.Ns mainGlobals mg)(hb:s₁.heap.Ns builtinsNs mb)(hbb:∀x:Str,x ≠ "__name__" -> mb x=bootBuiltins x)(hlim:s₁.heap.NoLimit)(hg:s₁.gens=#[])
  (ha:s₁.heap.get? a=some { cls:=.type "list", data:=.seq vs.toArray })(hi:IntsAre vs ns)(hl:ns.length<=sizeLine)(hr:uK k callerA)
  (F:∀base:Heap,K.In base->base.Ns mainGlobals mg->zy P w K mg base CX k fa fd [x] sp)(hbind:∀(s:Shared) (u:Value),BindsTo s fd ⟨[u],[]⟩ [(x,u)])
  (hsp:∀H:Hp,Only H->z6 K H a (ns.map V.int)->sp [.ref a] H (fun v _=>v=.bl true) fun _ _ _=>False)
  (hCX:∀H e s',CX [] H s₁ (fun _ _ _=>False) e s'->False) :
  codeAny (model P w) callerA (.call (.ref fa) ⟨[.ref a],[]⟩) (fun r s'=>r=.ok (.ret (.bool true))/\OldK s₁.heap s'.heap/\s'.os=s₁.os/\AllBare s'.gens) s₁:=by
 have rv:=Kl hi
 have lenV:=hi.length
 have core:∀H:Hp,Only H->z6 K H a (ns.map V.int)->TX P w H s₁.heap->(∀b,H b≠none->b=a)->(H a≠none->K.lookup a=none) ->
   codeAny (model P w) callerA (.call (.ref fa) ⟨[.ref a],[]⟩) (fun r s'=>r=.ok (.ret (.bool true))/\OldK s₁.heap s'.heap/\s'.os=s₁.os/\AllBare s'.gens) s₁:=by
  intro H hO hS hok hA hK
  have zgP:∀{b:Addr} {o:Obj},s₁.heap.get? b=some o->H b=none->(zcJ s₁.heap H).get? b=some o:=fun e n=>zio e n
  have noA:∀{b:Addr} {o:Obj} {es:Array DictEntry} {ep:Nat},s₁.heap.get? b=some o->o.data=.dict es ep->H b=none:=fun {b o es ep} e d=>by
   cases q:H b with
   | none=>rfl
   | some u =>
    have e':b=a:=hA b (by rw[q];simp)
    subst e'
    rw[ha] at e;cases e
    have d':Data.seq vs.toArray _=Data.dict es ep:=d
    cases d'
  have nsK:∀{b:Addr} {m:Str->Option Value},s₁.heap.Ns b m->(zcJ s₁.heap H).Ns b m:=fun {b m} ⟨o,es,ep,e,d,r⟩=>⟨o,es,ep,zgP e (noA e d),d,r⟩
  have hKb:K.In (zcJ s₁.heap H):=fun b o e=>zgP (KX b o e) (by
   cases q:H b with
   | none=>rfl
   | some u =>
    have e':b=a:=hA b (by rw[q];simp)
    subst e'
    rw[hK (by rw[q];simp)] at e;cases e)
  have hM:Mod K mg (zcJ s₁.heap H):=⟨hKb,nsK hns,⟨mb,nsK hb,hbb⟩,let ⟨mc,h1,h2⟩:=hlim;⟨mc,nsK h1,h2⟩⟩
  have e0:zcM P w K mg (zcJ s₁.heap H) callerA [] s₁ H:=⟨rfl,hM,fun b o e=>zj4 e,Nat.le_of_eq (zhA _ _),trivial,fun b hb=>absurd (show b∈([]:List Addr) from hb) (by simp),hok,.of_eq hg⟩
  refine codeAny_mono ((F _ hKb (nsK hns)).run callerA [] s₁ H ⟨[.ref a],[]⟩ [.ref a] [.ref a] _ _ hr e0 (hbind s₁ (.ref a)) (.cons rfl .nil) (hsp H hO hS)) fun r s' h=>?_
  cases r with
  | error e=>exact(hCX H e s' h).elim
  | ok fl =>
   cases fl with
   | next=>exact False.elim h
   | brk=>exact False.elim h
   | cont=>exact False.elim h
   | ret u =>
    obtain⟨v,H',os,bare,un,hok',r',q⟩:=h
    have q':v=.bl true:=q
    subst q'
    obtain rfl:u=Value.bool true:=r'
    refine⟨rfl,OldK.of_keep fun b o e=>?_,os,bare⟩
    cases q:H b with
    | none=>exact un.keep b o e q (by intro z;exact absurd (show b∈([]:List Addr) from z) (by simp)) (by simp)
    | some u =>
     rcases hO b with z | ⟨ob,xs,z⟩
     ·rw[q] at z;cases z
     ·have z2:=un.Nm b ob _ z
      obtain⟨e1,_⟩:=hok b _ z
      obtain⟨e2,_⟩:=hok' b _ z2
      rw[e] at e1;cases e1
      exact e2
 cases hk:K.lookup a with
 | some o =>
  have e:=KX a o hk
  rw[ha] at e
  cases e
  refine core (fun _=>none) (fun _=>.inl rfl) (.inr ⟨_,vs.toArray,_,hk,rfl,rfl,rfl,by rw[zts,lenV];exact hl,by simpa using rv⟩) (fun b u z=>by have z':(none:Option HO)=some u:=z;cases z') (fun b z=>absurd rfl z) fun z=>absurd rfl z
 | none =>
  refine core (fun b=>if b=a then some (.frz { cls:=.type "list", data:=.seq vs.toArray } (.lst (ns.map V.int))) else none) (fun b=>?_) (.inl (.inr ⟨{ cls:=.type "list", data:=.seq vs.toArray },if_pos rfl⟩)) (fun b u z=>?_) (fun b z=>?_) fun _=>hk
  ·by_cases hb:b=a
   ·exact .inr ⟨_,_,if_pos hb⟩
   ·exact .inl (if_neg hb)
  ·by_cases hb:b=a
   ·have z':=(if_pos hb).symm.trans z
    cases z'
    subst hb
    exact⟨ha,by rw[zti];exact hl,vs,_,rv,ha⟩
   ·have z':=(if_neg hb).symm.trans z
    cases z'
  ·by_cases hb:b=a
   ·exact hb
   ·exact absurd (if_neg hb) z
abbrev KOf {K:Frag}{h:Heap}(_:K.In h):Frag:=K
theorem zke {l:PySem.W.OpenLaw}{n k:Nat}{q:Program}{loose:List Str}{XP:(Str->Option Value)->Heap->Prop}{YP:World->Heap->Prop}{d:DefRec}{K:Params->Frag}{CX:World->CXT}{sp:World->Sp}{x:Str}
  (hn:l.most=some n)(hn2:n<=sizeLine)(hdf:d.params.defaults=[])(hr:uK k callerA)
  (hY:∀(w:World) (h:Heap),YP w h->(K w.params).In h)
  (F:∀(w:World) (mg:Str->Option Value) (fa:Addr) (h:Heap),(K w.params).In h->h.Ns mainGlobals mg->mg d.name=some (.ref fa) ->
   ∃fd:FuncData,(∀(s:Shared) (u:Value),BindsTo s fd ⟨[u],[]⟩ [(x,u)]) /\
    ∀base:Heap,(K w.params).In base->base.Ns mainGlobals mg->zy l.prog w (K w.params) mg base (CX w) k fa fd [x] (sp w))
  (hsp:∀(w:World) (H:Hp) (a:Addr) (ns:List Int),ns.length<=n->Only H->z6 (K w.params) H a (ns.map V.int)->sp w [.ref a] H (fun v _=>v=.bl true) fun _ _ _=>False)
  (hCX:∀(w:World) (H:Hp) (s:Shared) (e:Value) (s':Shared),CX w [] H s (fun _ _ _=>False) e s'->False) :
  PySem.W.WalkO q loose XP YP l.row.toRowW d [] (fun f vs=>PySem.call f vs):=by
 refine Att.zd2 hn hdf fun w s₀ s₁ mg mb fa o pm cd doc a vs ns G Y ho hd hcd hmg hobj hints hlen hg=>?_
 have KX:=hY w _ Y
 obtain⟨fd,hb,hF⟩:=F w mg fa _ KX G.T.g hmg
 exact ziK KX G.T.g G.T.b G.T.builtins G.T.nolimit hg hobj hints (ztE hlen hn2) hr hF hb (fun H hO hS=>hsp w H a ns hlen hO hS) fun H e s'=>hCX w H s₁ e s'
theorem ziL {l:PySem.W.OpenLaw}{n k:Nat}{q:Program}{loose:List Str}{XP:(Str->Option Value)->Heap->Prop}{YP:World->Heap->Prop}{d:DefRec}{K:Params->Frag}{CX:CXT}{sp:Frag->Sp}{x:Str}
  (hn:l.most=some n)(hn2:n<=sizeLine)(hdf:d.params.defaults=[])(hr:uK k callerA)
  (hY:∀(w:World) (h:Heap),YP w h->(K w.params).In h)
  (F:∀(w:World) (mg:Str->Option Value) (fa:Addr) (h:Heap),(K w.params).In h->h.Ns mainGlobals mg->mg d.name=some (.ref fa) ->
   ∃fd:FuncData,(∀(s:Shared) (u:Value),BindsTo s fd ⟨[u],[]⟩ [(x,u)]) /\
    ∀base:Heap,(K w.params).In base->base.Ns mainGlobals mg->zy l.prog w (K w.params) mg base CX k fa fd [x] (sp (K w.params)))
  (hsp:∀(K:Frag) (H:Hp) (a:Addr) (ns:List Int),ns.length<=n->Only H->z6 K H a (ns.map V.int)->sp K [.ref a] H (fun v _=>v=.bl true) fun _ _ _=>False)
  (hCX:∀(H:Hp) (s:Shared) (e:Value) (s':Shared),CX [] H s (fun _ _ _=>False) e s'->False) :
  PySem.W.WalkO q loose XP YP l.row.toRowW d [] (fun f vs=>PySem.call f vs) :=
 zke (K:=K) (CX:=fun _=>CX) (sp:=fun w=>sp (K w.params)) hn hn2 hdf hr hY F (fun w H a ns h1 h2 h3=>hsp (K w.params) H a ns h1 h2 h3) fun _ H s e s'=>hCX H s e s'
def inClass (s:Stmt)(j:Nat):Stmt:=match s with
 | .ClassDef _ _ _ body _ _ _ _ _ _ _=>body.getD j (.Pass ⟨0,0,0,0⟩)
 | _=>.Pass ⟨0,0,0,0⟩
def Yz (s:Stmt):Arguments:=match s with
 | .FunctionDef _ a _ _ _ _ _ _ _ _=>a
 | _=>{ posonlyargs:=[],args:=[],vararg:=none,kwonlyargs:=[],kw_defaults:=[],kwarg:=none,defaults:=[] }
def vp (s:Stmt):List Stmt:=match s with
 | .FunctionDef _ _ b _ _ _ _ _ _ _=>b
 | _=>[]
def zx (s:Stmt):Scope:=match s with
 | .FunctionDef _ _ _ _ _ _ sc _ _ _=>sc
 | _=>{ kind:=.function,names:=[],isGenerator:=false,isCoroutine:=false }
abbrev zZ:CXT:=fun _ _ _ _ _ _=>False
abbrev E0:XK:=fun _ _ _=>False
theorem zgQ {X:Cx}:Passes zZ X E0:=fun _ _ _ _ _ _ _ h=>h.elim
structure Fun (K:Frag)(x qual:Str)(st:Stmt)(f:Addr)(fd:FuncData):Prop where
 ex:∃(oc:Value) (od:Option Addr) (kV doc pm:Value) (an:Option Addr) (cdv ct:Value) (osl:Array (Option Value)),
  fd=PySem.W.fnOf x qual (Yz st) (vp st) (zx st) .none kV doc pm an cdv ct/\K.lookup f=some ⟨oc,od,.func fd,osl⟩/\PySem.W.codeIn K cdv qual=true
 kp:PySem.W.keepIn K (.ref f)=true
section
variable {P:Program}{w:World}{K:Frag}{mg:Str->Option Value}{base:Heap}
theorem Fun.ok {x qual:Str}{st:Stmt}{f:Addr}{fd:FuncData}{N ps:List Str}{k:Nat}{sp:Sp}(F:Fun K x qual st f fd)(S:zH N ps (zx st))(len:∀vs H Q E,sp vs H Q E->vs.length=ps.length)
  (hbody:∀(cdv:Value) (A:Around) (outer:List Env) (s:Shared) (H:Hp) (vs:List V) (Q:VK) (E:XK),uK k (A.deeper (envOfC qual (zx st) s.heap.objs.size f cdv))->sp vs H Q E ->
   ∃t,JK (Kg zZ P w K mg base N qual (zx st) f cdv A outer s H E).nox (vp st) t/\t { nx:=fun _ H'=>Q .non H',rt:=Q } (start N vs) H):zy P w K mg base zZ (k+1) f fd ps sp:=by
 obtain⟨oc,od,kV,doc,pm,an,cdv,ct,osl,rfl,lk,hcd⟩:=F.ex
 refine zlD lk hcd S len fun A outer s H vs Q E hr hsp=>?_
 obtain⟨t,h,q⟩:=hbody cdv A outer s H vs Q E hr hsp
 exact⟨t,h.nox,q⟩
theorem Fun.binds {x qual:Str}{st:Stmt}{f:Addr}{fd:FuncData}{ps:List Str}(F:Fun K x qual st f fd)
  (h:∀(kV doc pm:Value) (an:Option Addr) (cdv ct:Value) (us:List Value),us.length=ps.length->bindArgs (PySem.W.fnOf x qual (Yz st) (vp st) (zx st) .none kV doc pm an cdv ct) ⟨us,[]⟩=pure (ps.zip us)):Binds K fd ps []:=by
 obtain⟨oc,od,kV,doc,pm,an,cdv,ct,osl,rfl,lk,hcd⟩:=F.ex
 exact .all (h kV doc pm an cdv ct)
theorem zcR {x qual:Str}{st:Stmt}{f:Addr}{oc:Value}{od an:Option Addr}{osl:Array (Option Value)}{kV doc pm cdv ct:Value}(l:K.lookup f=some ⟨oc,od,.func (PySem.W.fnOf x qual (Yz st) (vp st) (zx st) .none kV doc pm an cdv ct),osl⟩)
  (c:PySem.W.codeIn K cdv qual=true)(k:PySem.W.keepIn K (.ref f)=true):Fun K x qual st f (PySem.W.fnOf x qual (Yz st) (vp st) (zx st) .none kV doc pm an cdv ct):=⟨⟨oc,od,kV,doc,pm,an,cdv,ct,osl,rfl,l,c⟩,k⟩
end
theorem Jf {A:Around}{k:Nat}(hr:uK k A):A.units+1<cLine:=Nat.lt_of_le_of_lt (Nat.add_le_add_left (by decide:1<=64) _) hr.units
theorem yc {n:Nat}(h:n<=1000):n<sizeLine:=Nat.lt_of_le_of_lt h (by decide)
section
variable {X:Cx}
theorem pv (i:Nat){x:Str}{pos:Pos}(hN:X.N[i]?=some x:=by rfl)(hv:Vis X.env.scope x:=by first | exact Or.inl rfl | exact Or.inr (Or.inl rfl) | exact Or.inr (Or.inr rfl))(hd:(x==("__debug__" : Str))=false:=by decide)
  (hcd:(x==("__classdict__" : Str))=false:=by decide):PE X (.Name x pos) (zaA i):=zma hN hv hd hcd
end
theorem Xe {A B:Prop}(h:B):if false=true then A else B:=by
 rw[if_neg ztm]
 exact h
theorem Xf {A B:Prop}(h:A):if true=true then A else B:=by
 rw[if_pos rfl]
 exact h
theorem yx {c A B:Prop}[Decidable c](h1:c->A)(h2:¬c->B):if c then A else B:=by
 by_cases h:c
 ·rw[if_pos h]
  exact h1 h
 ·rw[if_neg h]
  exact h2 h
def Same (H H':Hp):Prop:=∀b o,H b=some o->H' b=some o
theorem Same.refl (H:Hp):Same H H:=fun _ _ h=>h
theorem Same.trans {H H1 H2:Hp}(a:Same H H1)(b:Same H1 H2):Same H H2:=fun c o h=>b c o (a c o h)
theorem Same.free {H H':Hp}(e:Same H H'){l:Addr}(h:H' l=Option.none):H l=Option.none:=by
 cases q:H l with
 | none=>rfl
 | some o =>
  rw[e l o q] at h
  cases h
theorem Same.seq {K:Frag}{H H':Hp}{a:Addr}{xs:List V}(e:Same H H')(h:z6 K H a xs):z6 K H' a xs:=by
 rcases h with (h | ⟨o,h⟩) | h
 ·exact .inl (.inl (e _ _ h))
 ·exact .inl (.inr ⟨o,e _ _ h⟩)
 ·exact .inr h
end L2
set_option maxHeartbeats 8000000
namespace L2
open PySem PySem.Spec PyProof.Rows
section
variable {X:Cx}{pins:List (Addr×Obj)}{σ:St}{H:Hp}{s:Shared}
theorem TX.track {P:Program}{w:World}{H:Hp}{h:Heap}{a:Addr}{o:HO}(x:TX P w H h)(hn:H a=none)(new:wH P w (upd H a o) h a o):TX P w (upd H a o) h:=fun b u e=>by
 by_cases hb:b=a
 ·subst hb
  rw[zj] at e
  cases e
  exact new
 ·rw[zE hb] at e
  refine(x b u e).stay (fun _ _ _ q=>q) (fun c q=>?_) fun c xs q=>?_
  ·rw[zE (zB q hn)];exact q
  ·rw[zE (zB q hn)];exact q
theorem Inv.track {a:Addr}{o:HO}(I:Inv X pins σ H s)(hn:H a=none)(hL:a≠X.env.locals)(h0:X.s₀.heap.objs.size<=a)(hc:∀x c,X.env.cells.lookup x=some c->c≠a)(hp:∀p∈X.pn++pins,p.1≠a)
  (new:wH X.prog X.w (upd H a o) s.heap a o):Inv X pins σ (upd H a o) s:=by
 have old:∀b ob,X.s₀.heap.get? b=some ob->b≠a:=fun b ob e=>ztx (ztr (ztp e) h0)
 refine⟨I.ok,I.os,I.bare,⟨fun b ob e n=>I.base.keep b ob e n,fun b ob e n=>I.base.slot b ob e n,fun b ob e n hx=>?_,fun b ob e hx=>I.base.there b ob e hx,fun b xs e=>?_,fun b ob u e=>?_,fun b ps e=>?_⟩,I.loc,I.cell,?_,fun x c e=>?_,fun p hm=>?_,I.hok.track hn new,I.len⟩
 ·rw[zE (old b ob e)];exact I.base.free b ob e n hx
 ·have q:=I.base.tups b xs e
  rw[zE (zB q hn)];exact q
 ·have q:=I.base.Nm b ob u e
  rw[zE (zB q hn)];exact q
 ·obtain⟨mo,q⟩:=I.base.Kd b ps e
  exact⟨mo,by rw[zE (zB q hn)];exact q⟩
 ·rw[zE (Ne.symm hL)];exact I.free
 ·rw[zE (hc x c e)];exact I.Y4 x c e
 ·obtain⟨z1,z2,z3⟩:=I.pin p hm
  exact⟨z1,by rw[zE (hp p hm)];exact z2,z3⟩
end
def clo:List (Str×NameKind)->List (Str×Addr)->List (Str×Addr)->List (Str×Addr)
 | [],_,acc=>acc
 | (n,k)::r,cells,acc=>clo r cells (if k==.free then (match cells.lookup n with | some c=>(n,c)::acc | none=>acc) else acc)
theorem VL (cells:List (Str×Addr)):∀(names:List (Str×NameKind)) (acc:List (Str×Addr)),(∀y c,acc.lookup y=some c->cells.lookup y=some c)->∀y c,(clo names cells acc).lookup y=some c->cells.lookup y=some c
 | [],acc,h=>h
 | (n,k)::r,acc,h=>by
  refine VL cells r _ fun y c e=>?_
  cases hk:k==NameKind.free with
  | false=>rw[hk] at e;exact h y c e
  | true =>
   rw[hk,if_pos rfl] at e
   cases hc:cells.lookup n with
   | none=>rw[hc] at e;exact h y c e
   | some a =>
    rw[hc] at e
    have e':(((n,a)::acc).lookup y)=some c:=e
    rw[ztI] at e'
    cases hy:y==n with
    | true =>
     rw[hy] at e'
     have z:y=n:=by simpa using hy
     subst z
     rw[hc];exact e'
    | false=>rw[hy] at e';exact h y c e'
theorem zcf (cells:List (Str×Addr)):∀(names:List (Str×NameKind)) (acc:List (Str×Addr)) (y:Str),(acc.lookup y).isSome=true->((clo names cells acc).lookup y).isSome=true
 | [],_,_,h=>h
 | (n,k)::r,acc,y,h=>by
  refine zcf cells r _ y ?_
  cases hk:k==NameKind.free with
  | false=>exact h
  | true =>
   rw[if_pos rfl]
   cases hc:cells.lookup n with
   | none=>exact h
   | some a =>
    show(((n,a)::acc).lookup y).isSome=true
    rw[ztI]
    cases hy:y==n with
    | true=>rfl
    | false=>exact h
theorem zcS (cells:List (Str×Addr)):∀(names:List (Str×NameKind)) (acc:List (Str×Addr)) (y:Str),(y,NameKind.free)∈names->(cells.lookup y).isSome=true->((clo names cells acc).lookup y).isSome=true
 | [],_,_,h,_=>by cases h
 | (n,k)::r,acc,y,h,hs=>by
  rcases List.mem_cons.mp h with e | h
  ·cases e
   refine zcf cells r _ n ?_
   show(((match cells.lookup n with | some c=>(n,c)::acc | none=>acc)).lookup n).isSome=true
   cases hc:cells.lookup n with
   | none=>rw[hc] at hs;cases hs
   | some a =>
    show(((n,a)::acc).lookup n).isSome=true
    rw[ztI]
    simp
  ·exact zcS cells r _ y h hs
theorem zgR {env:Env}:∀(names:List (Str×NameKind)) (acc:List (Str×Addr)),(∀y,(y,NameKind.free)∈names->(env.cells.lookup y).isSome=true) ->
  (forIn names acc fun(x:Str×NameKind) (cs:List (Str×Addr))=>if (x.2==NameKind.free)=true then do let c <-cellOf env x.1;pure (ForInStep.yield ((x.1,c)::cs)) else pure (ForInStep.yield cs):Sem (List (Str×Addr)))=pure (clo names env.cells acc)
 | [],acc,_=>rfl
 | (n,k)::r,acc,h=>by
  have ih:=fun acc'=>zgR (env:=env) r acc' fun y hy=>h y (ztt _ hy)
  rw[List.forIn_cons]
  cases hk:k==NameKind.free with
  | false =>
   show((pure (ForInStep.yield acc):Sem _)>>=_)=_
   rw[pure_bind]
   show(forIn r acc _:Sem _)=_
   rw[ih acc]
   show pure (clo r env.cells acc)=pure (clo r env.cells (if (k==NameKind.free)=true then (match env.cells.lookup n with | some c=>(n,c)::acc | none=>acc) else acc))
   rw[hk];rfl
  | true =>
   have hkf:k=NameKind.free:=by simpa using hk
   subst hkf
   have hs:=h n ztC
   cases hc:env.cells.lookup n with
   | none=>rw[hc] at hs;cases hs
   | some a =>
    have hcell:cellOf env n=pure a:=by unfold cellOf;rw[hc]
    show((cellOf env n>>=fun c=>(pure (ForInStep.yield ((n,c)::acc)):Sem _))>>=_)=_
    rw[hcell,pure_bind,pure_bind]
    show(forIn r ((n,a)::acc) _:Sem _)=_
    rw[ih]
    show pure (clo r env.cells ((n,a)::acc))=pure (clo r env.cells (match env.cells.lookup n with | some c=>(n,c)::acc | none=>acc))
    rw[hc]
theorem zfJ {sc:Scope}{env:Env}(h:∀y,(y,NameKind.free)∈sc.names->(env.cells.lookup y).isSome=true):closureFor sc env=pure (clo sc.names env.cells []):=by
 unfold closureFor
 have:=zgR (env:=env) sc.names [] h
 simpa using this
structure ZK (uD sc:Scope)(x:Str)(fv:List Str):Prop where
 kind:sc.kind=.function
 Uy:∀y∈sc.names,y.2≠.cell
 names:∀y∈sc.names,y.2=.local->sc.names.lookup y.1=some .local
 hx:sc.names.lookup x=some .local
 fr:∀y∈sc.names,y.2=.free->uD.names.lookup y.1=some .cell\/uD.names.lookup y.1=some .free
 fvs:∀y∈fv,sc.names.lookup y=some .free/\(uD.names.lookup y=some .cell\/uD.names.lookup y=some .free)
 nd:(x::fv).Nodup
abbrev Cx.blk (X:Cx)(sc:Scope)(cl:List (Str×Addr))(C:Addr)(N:List Str)(s:Shared)(H:Hp)(fp:List Addr):Cx :=
 {X with N:=N,s₀:=s,H₀:=H,env:=compEnvC sc cl C X.env,outer:=X.stack,ex:=fp,fn:=fun _=>false,pn:=[],xe:=fun _ _=>False }
abbrev lcN (X:Cx)(x:Str)(js:List Nat):List Str:=x::js.map fun j=>X.N.getD j ""
abbrev Yi (σ:St)(js:List Nat)(x:Option V):St:=x::js.map fun j=>σ.getD j none
theorem Xp {env:Env}:∀{names:List (Str×NameKind)} {y:Str} {k:NameKind},(names.map fun(n,k)=>if (k==NameKind.free&&env.scope.kind==.function&&env.kindOf n==some .cell) then (n,NameKind.cell) else (n,k)).lookup y=some k->(k=.cell\/k=.free)->(∀z∈names,z.2≠.cell)->(y,NameKind.free)∈names
 | [],_,_,h,_,_=>by simp at h
 | (n,k')::r,y,k,h,hk,hn=>by
  by_cases hc:(k'==NameKind.free&&env.scope.kind==.function&&env.kindOf n==some .cell)=true
  ·have hk':k'=NameKind.free:=by
    rw[ztK,ztK] at hc
    simpa using hc.1.1
   subst hk'
   rw[ztH] at h
   cases hy:y==n with
   | true =>
    have z:y=n:=by simpa using hy
    subst z
    exact ztC
   | false =>
    have h':List.lookup y ((if (NameKind.free==NameKind.free&&env.scope.kind==.function&&env.kindOf n==some .cell)=true then (n,NameKind.cell) else (n,NameKind.free))::(r.map fun(n,k)=>if (k==NameKind.free&&env.scope.kind==.function&&env.kindOf n==some .cell) then (n,NameKind.cell) else (n,k)))=some k:=h
    rw[if_pos hc,ztI,hy] at h'
    exact ztt _ (Xp h' hk fun z hz=>hn z (ztt _ hz))
  ·have h':List.lookup y ((if (k'==NameKind.free&&env.scope.kind==.function&&env.kindOf n==some .cell)=true then (n,NameKind.cell) else (n,k'))::(r.map fun(n,k)=>if (k==NameKind.free&&env.scope.kind==.function&&env.kindOf n==some .cell) then (n,NameKind.cell) else (n,k)))=some k:=h
   rw[if_neg hc,ztI] at h'
   cases hy:y==n with
   | true =>
    rw[hy] at h'
    cases h'
    have z:y=n:=by simpa using hy
    subst z
    rcases hk with e | e
    ·exact absurd e (hn _ ztC)
    ·subst e;exact ztC
   | false =>
    rw[hy] at h'
    exact ztt _ (Xp h' hk fun z hz=>hn z (ztt _ hz))
theorem zaH {env:Env}:∀{names:List (Str×NameKind)} {y:Str},names.lookup y=some .free->(names.map fun(n,k)=>if (k==NameKind.free&&env.scope.kind==.function&&env.kindOf n==some .cell) then (n,NameKind.cell) else (n,k)).lookup y=some .cell\/(names.map fun(n,k)=>if (k==NameKind.free&&env.scope.kind==.function&&env.kindOf n==some .cell) then (n,NameKind.cell) else (n,k)).lookup y=some .free
 | [],_,h=>by simp at h
 | (n,k')::r,y,h=>by
  rw[ztI] at h
  rw[ztH]
  cases hy:y==n with
  | true =>
   rw[hy] at h
   cases h
   by_cases hc:(NameKind.free==NameKind.free&&env.scope.kind==.function&&env.kindOf n==some .cell)=true
   ·refine .inl ?_
    show List.lookup y ((if (NameKind.free==NameKind.free&&env.scope.kind==.function&&env.kindOf n==some .cell)=true then (n,NameKind.cell) else (n,NameKind.free))::_)=_
    rw[if_pos hc,ztI,hy]
   ·refine .inr ?_
    show List.lookup y ((if (NameKind.free==NameKind.free&&env.scope.kind==.function&&env.kindOf n==some .cell)=true then (n,NameKind.cell) else (n,NameKind.free))::_)=_
    rw[if_neg hc,ztI,hy]
  | false =>
   rw[hy] at h
   have ih:=zaH (env:=env) h
   by_cases hc:(k'==NameKind.free&&env.scope.kind==.function&&env.kindOf n==some .cell)=true
   ·show List.lookup y ((if (k'==NameKind.free&&env.scope.kind==.function&&env.kindOf n==some .cell)=true then (n,NameKind.cell) else (n,k'))::_)=_\/List.lookup y ((if (k'==NameKind.free&&env.scope.kind==.function&&env.kindOf n==some .cell)=true then (n,NameKind.cell) else (n,k'))::_)=_
    rw[if_pos hc,ztI,hy]
    exact ih
   ·show List.lookup y ((if (k'==NameKind.free&&env.scope.kind==.function&&env.kindOf n==some .cell)=true then (n,NameKind.cell) else (n,k'))::_)=_\/List.lookup y ((if (k'==NameKind.free&&env.scope.kind==.function&&env.kindOf n==some .cell)=true then (n,NameKind.cell) else (n,k'))::_)=_
    rw[if_neg hc,ztI,hy]
    exact ih
abbrev uE (its:List Value)(n:Nat):Obj:={ cls:=.type "list", data:=.seq its.toArray n }
abbrev ZL (ifs:List Expr)(env:Env):Sem Bool :=
 forIn ifs true fun c r=>if r=true then do let ok <-isTrue c env (eval c env);pure (ForInStep.yield ok) else pure (ForInStep.yield r)
def tLC (wi:TI)(js:List Nat)(tt:TT)(te:TE):TE:=fun σ H Q=>wi σ H fun J H1=>∃W:Nat->Nat->List V->Hp->Prop,(∃m,W 0 m [] H1)/\∀i m ys H,W i m ys H ->
 (J.stop i H/\∀p,H p=none->Q (.ref p) (upd H p (.lst ys))) \/
 (J.go i H/\ys.length<sizeLine/\∀x H',J.Ni i H x H'->tt (Yi σ js (some x)) H' fun b H2 =>
  if b=true then te (Yi σ js (some x)) H2 fun v H3=>∃m',m'<m/\W (i+1) m' (ys++[v]) H3 else ∃m',m'<m/\W (i+1) m' ys H2)
section
variable {X:Cx}{sc uD:Scope}{x:Str}{js:List Nat}{elt iter:Expr}{px pos:Pos}{ifs:List Expr}{wi:TI}{tt:TT}{te:TE}
theorem zkf {P:Program}{w:World}{A:Around}{R:Result->Shared->Prop}{st:Shared}{tg it acc}{cenv:Env}(Iv:Nat->Shared->Prop)
  (step:∀k st,Iv k st->wpAny (model P w) A (pyNext it) (fun got s1=>match got with
   | none=>R (.ok .next) s1
   | some v=>wpAny (model P w) A (letOwnedTupleGo tg it v) (fun _ s2=>wpAny (model P w) A (assign tg cenv v) (fun _ s3 =>
     wpAny (model P w) A (ZL ifs cenv) (fun ok s4=>if ok=true then wpAny (model P w) A (eval elt cenv) (fun y s5 =>
       wpAny (model P w) A (call (.builtin "list.append") [acc,y]) (fun _ s6=>∃k',k'<k/\Iv k' s6) (notedBy (model P w) A cenv fun e z=>R (.error e) z) s5) (notedBy (model P w) A cenv fun e z=>R (.error e) z) s4
      else ∃k',k'<k/\Iv k' s4) (notedBy (model P w) A cenv fun e z=>R (.error e) z) s3) (notedBy (model P w) A cenv fun e z=>R (.error e) z) s2) (notedBy (model P w) A cenv fun e z=>R (.error e) z) s1)
   (notedBy (model P w) A cenv fun e z=>R (.error e) z) st)(k0:Nat)(h0:Iv k0 st) :
  codeAny (model P w) A (.compLoop (.ListComp elt [⟨tg,iter,ifs,0⟩] sc pos) 0 it acc cenv) R st:=by
 refine codeAny_loop rfl Iv (fun k st hk=>?_) k0 h0
 show wpAny _ A ((compTurn (.ListComp elt [⟨tg,iter,ifs,0⟩] sc pos) 0 it acc cenv).onRaise (fun e=>do noteFrame e cenv;theTreesLotGoes e)) _ _ st
 refine wpAny_noted ?_
 rw[compTurn_list]
 refine wpAny_bind (wpAny_standAt (wpAny_bind (wpAny_mono (step k st hk) (fun got s1 h1=>?_) fun _ _ z=>z)))
 cases got with
 | none=>exact wpAny_pure h1
 | some v =>
  refine wpAny_bind (wpAny_mono h1 (fun _ s2 h2=>?_) fun _ _ z=>z)
  refine wpAny_bind (wpAny_mono h2 (fun _ s3 h3=>wpAny_bind (wpAny_mono h3 (fun ok s4 h4=>?_) fun _ _ z=>z)) fun _ _ z=>z)
  cases ok with
  | false=>exact wpAny_pure ⟨rfl,h4⟩
  | true=>exact wpAny_bind (wpAny_bind (wpAny_mono h4 (fun y s5 h5=>wpAny_bind (wpAny_mono h5 (fun _ s6 h6=>wpAny_pure (wpAny_pure ⟨rfl,h6⟩)) fun _ _ z=>z)) fun _ _ z=>z))
structure Own (X:Cx)(pins:List (Addr×Obj))(H:Hp)(a:Addr):Prop where
 free:H a=none
 loc:a≠X.env.locals
 new:X.s₀.heap.objs.size<=a
 cel:∀x c,X.env.cells.lookup x=some c->c≠a
 pin:∀p∈X.pn++pins,p.1≠a
 fs:a∉X.fs
end
structure zd3 (uD sc:Scope)(xs:List Str)(fv:List Str):Prop where
 kind:sc.kind=.function
 Uy:∀y∈sc.names,y.2≠.cell
 names:∀y∈sc.names,y.2=.local->sc.names.lookup y.1=some .local
 fr:∀y∈sc.names,y.2=.free->uD.names.lookup y.1=some .cell\/uD.names.lookup y.1=some .free
 fvs:∀y∈fv,sc.names.lookup y=some .free/\(uD.names.lookup y=some .cell\/uD.names.lookup y=some .free)
abbrev Sd (X:Cx)(xs:List Str)(js:List Nat):List Str:=xs++js.map fun j=>X.N.getD j ""
abbrev lcT (σ:St)(js:List Nat)(os:List (Option V)):St:=os++js.map fun j=>σ.getD j none
def zmu (wi:TI)(xs:List Str)(js:List Nat)(g:TG)(tt:TT)(te:TE):TE:=fun σ H Q=>wi σ H fun J H1=>∃W:Nat->Nat->List V->Hp->Prop,(∃m,W 0 m [] H1)/\∀i m ys H,W i m ys H ->
 (J.stop i H/\∀p,H p=none->Q (.ref p) (upd H p (.lst ys))) \/
 (J.go i H/\ys.length<sizeLine/\∀x H',J.Ni i H x H'->∀o0:List (Option V),o0.length=xs.length->g x (lcT σ js o0) H' fun σ2 H1=>∃o1,σ2=lcT σ js o1/\o1.length=xs.length/\tt σ2 H1 fun b H2 =>
  if b=true then te σ2 H2 fun v H3=>∃m',m'<m/\W (i+1) m' (ys++[v]) H3 else ∃m',m'<m/\W (i+1) m' ys H2)
section
variable {X:Cx}{sc uD:Scope}{xs:List Str}{js:List Nat}
theorem zkg {pins:List (Addr×Obj)}{σ:St}{H:Hp}{s:Shared}{fp:List Addr}{C:Addr}(I:Inv X pins σ H s)(Wg:X.env.scope=uD)(L:zd3 uD sc xs (js.map fun j=>X.N.getD j ""))
  (f2:∀b∈fp,zbx X pins H b)(lt:∀b∈fp,b<s.heap.objs.size)(hC:s.heap.objs.size<=C):(X.blk sc (clo sc.names X.env.cells []) C (Sd X xs js) s H fp).Ok where
 mod:=I.ok.mod
 kind:=L.kind
 glob:=I.ok.glob
 blt:=I.ok.blt
 above:=hC
 inj:=fun y z c h1 h2=>I.ok.inj y z c (VL _ _ [] (fun _ _ e=>by simp at e) y c h1) (VL _ _ [] (fun _ _ e=>by simp at e) z c h2)
 has:=fun y hy=>by
  have hy':(relabel sc X.env).names.lookup y=some .cell\/(relabel sc X.env).names.lookup y=some .free:=hy
  have hm:(y,NameKind.free)∈sc.names:=by
   rcases hy' with e | e
   ·exact Xp e (.inl rfl) L.Uy
   ·exact Xp e (.inr rfl) L.Uy
  have ho:X.env.kindOf y=some .cell\/X.env.kindOf y=some .free:=by
   show X.env.scope.names.lookup y=_\/X.env.scope.names.lookup y=_
   rw[Wg]
   exact L.fr _ hm rfl
  obtain⟨c,e⟩:=I.ok.has y ho
  exact Option.isSome_iff_exists.mp (zcS _ _ [] y hm (by rw[e];rfl))
 cab:=fun y c h=>by cases h
 hd:=I.ok.hd
 frames:=I.ok.frames
 stk:=.inl rfl
 exf:=fun b hb=>⟨ztx (ztr (lt b hb) hC),fun y c e=>(f2 b hb).2.2.2.2.1 y c (VL _ _ [] (fun _ _ e=>by simp at e) y c e)⟩
 bs:=I.bs
 bsz:=ztE I.ok.bsz I.sz
 zdS:=fun b o e hb=>by
  rcases (f2 b hb).2.2.2.1 with z | z
  ·exact I.ok.zdS b o e z
  ·exact absurd (ztr (ztp (I.ok.bs b o e).1) z) (Nat.lt_irrefl _)
 zdT:=fun b hb hm=>by
  rcases List.mem_cons.mp (I.zay b hm) with z | z
  ·exact(f2 b hb).2.1 z
  ·exact(f2 b hb).2.2.1 z
 Qp:=I.stack
 frf:=I.zae
end
section
variable {X:Cx}{sc uD:Scope}{xs:List Str}{js:List Nat}{tg:Expr}{g:TG}{elt iter:Expr}{px pos:Pos}{ifs:List Expr}{wi:TI}{tt:TT}{te:TE}
theorem ziN {cl:List (Str×Addr)}{C D:Addr}{s₂:Shared}{H₂:Hp}{fp:List Addr}{pl:List (Addr×Obj)}{σ0:St}{H:Hp}{s:Shared}{u:Value}{v:V}{its:List Value}{n:Nat}{o0:List (Option V)}{E:Value->Shared->Prop}
  {Ny:V->Hp->Prop}{Nn:Hp->Prop}
  (hg:PG (X.blk sc cl C (Sd X xs js) s₂ H₂ fp) tg g)
  (I:Inv (X.blk sc cl C (Sd X xs js) s₂ H₂ fp) ((D,uE its n)::pl) (lcT σ0 js o0) H s)(ru:RelV v u)
  (ht:∀(pins:List (Addr×Obj)) (s':Shared) (σ':St) (H':Hp) (Q:Bool->Hp->Prop),Inv (X.blk sc cl C (Sd X xs js) s₂ H₂ fp) pins σ' H' s'->tt σ' H' Q ->
   wpAny (model X.prog X.w) X.A (ZL ifs (compEnvC sc cl C X.env)) (TP (X.blk sc cl C (Sd X xs js) s₂ H₂ fp) pins σ' Q) (fun _ _=>False) s')
  (he:PE (X.blk sc cl C (Sd X xs js) s₂ H₂ fp) elt te)
  (hlen:its.length<sizeLine)(hD0:s₂.heap.objs.size<=D)(hDC:D≠C)(hDc:∀y c,cl.lookup y=some c->c≠D)(hDp:∀p∈pl,p.1≠D)
  (h:g v (lcT σ0 js o0) H fun σ2 H1=>∃o1,σ2=lcT σ0 js o1/\o1.length=xs.length/\tt σ2 H1 fun b H2=>if b=true then te σ2 H2 Ny else Nn H2) :
  wpAny (model X.prog X.w) X.A (assign tg (compEnvC sc cl C X.env) u) (fun _ s2 =>
   wpAny (model X.prog X.w) X.A (ZL ifs (compEnvC sc cl C X.env)) (fun ok s3 =>
    if ok=true then wpAny (model X.prog X.w) X.A (eval elt (compEnvC sc cl C X.env)) (fun y s4 =>
     wpAny (model X.prog X.w) X.A (call (.builtin "list.append") [.ref D,y]) (fun _ s5=>∃z y' H5 o1,o1.length=xs.length/\Ny z H5/\RelV z y'/\Inv (X.blk sc cl C (Sd X xs js) s₂ H₂ fp) ((D,uE (its++[y']) (n+1))::pl) (lcT σ0 js o1) H5 s5) E s4) E s3
    else ∃H5 o1,o1.length=xs.length/\Nn H5/\Inv (X.blk sc cl C (Sd X xs js) s₂ H₂ fp) ((D,uE its n)::pl) (lcT σ0 js o1) H5 s3) E s2) E s:=by
 refine wpAny_mono (hg _ s _ H v u _ I ru h) (fun _ s2 ⟨σ6,H6,I6,o1,e1,l1,h6⟩=>?_) fun _ _ z=>False.elim z
 subst e1
 refine wpAny_mono (ht _ s2 _ _ _ I6 h6) (fun ok s3 ⟨H7,I7,q7⟩=>?_) fun _ _ z=>False.elim z
 cases ok with
 | false =>
  rw[if_neg ztm] at q7 ⊢
  exact⟨H7,o1,l1,q7,I7⟩
 | true =>
  rw[if_pos rfl] at q7 ⊢
  refine wpAny_mono (he _ s3 _ H7 _ I7 q7) (fun y s4 ⟨z,H8,I8,r8,q8⟩=>?_) fun _ _ z=>False.elim z
  obtain⟨p1,p2,p3,p4,p5⟩:=I8.pin (D,uE its n) (ztz _ ztC)
  have p1':s4.heap.get? D=some { cls:=.type "list", data:=.seq its.toArray n }:=p1
  refine call_meets F.slot_list_append ⟨_,p1',rfl⟩ F.entry_list_append (F.args_list_append_2 _ _) (PySem.list_append D its.toArray n y (by rw[zts];omega)) ⟨p1',?_⟩
  have q:=PySem.IsL.update p1' (fun a=>a.push y)
  have sz:((its.toArray.push y).size==its.toArray.size)=false:=by simp
  have e3:(s4.heap.update D (Obj.mapSeq fun a=>a.push y)).get? D=some (uE (its++[y]) (n+1)):=by
   have q':(s4.heap.update D (Obj.mapSeq fun a=>a.push y)).get? D=some { cls:=.type "list", data:=.seq (its.toArray.push y) (if ((its.toArray.push y).size==its.toArray.size)=true then n else n+1) }:=q
   rw[q',sz,if_neg ztm]
   simp
  have I9:Inv (X.blk sc cl C (Sd X xs js) s₂ H₂ fp) pl (lcT σ0 js o1) H8 s4:=I8.Xn fun p hp=>I8.pin p (ztz _ (ztt _ hp))
  have oth:∀b o,b≠D->s4.heap.get? b=some o->(s4.heap.update D (Obj.mapSeq fun a=>a.push y)).get? b=some o:=fun b o hb e=>(Heap.get?_update_other _ _ (Ne.symm hb)).trans e
  have I10:=I9.turned (t':=s4.toks) (h':=s4.heap.update D (Obj.mapSeq fun a=>a.push y)) (it:=D) oth p2 hDC (.inr hD0) hDc (fun p hp=>hDp p hp)
  refine⟨z,y,H8,o1,l1,q8,r8,I10.Xn fun p hp=>?_⟩
  rcases List.mem_cons.mp hp with e | e
  ·subst e
   exact⟨e3,p2,p3,p4,fun w hw=>by cases hw⟩
  ·exact I10.pin p (ztz _ e)
theorem zaI {use:Option (Value->Sem Unit)}{QQ:Value->Shared->Prop}{Fin:List V->Hp->Prop}{pins:List (Addr×Obj)}{s:Shared}{σ:St}{H:Hp}(Wg:X.env.scope=uD)(L:zd3 uD sc xs (js.map fun j=>X.N.getD j "")){rd:Cx->Prop}(hc:∀sc cl C N s H fp,rd (X.blk sc cl C N s H fp))(hi:PIr rd X tg iter wi)(hg:∀(cl:List (Str×Addr)) (C:Addr) (s₂:Shared) (H₂:Hp) (fp:List Addr),PG (X.blk sc cl C (Sd X xs js) s₂ H₂ fp) tg g)(hjs:∀j∈js,j<X.N.length)
  (ht:∀(cl:List (Str×Addr)) (C:Addr) (s₂:Shared) (H₂:Hp) (fp:List Addr) (pins:List (Addr×Obj)) (s':Shared) (σ':St) (H':Hp) (Q:Bool->Hp->Prop),Inv (X.blk sc cl C (Sd X xs js) s₂ H₂ fp) pins σ' H' s'->tt σ' H' Q ->
   wpAny (model X.prog X.w) X.A (ZL ifs (compEnvC sc cl C X.env)) (TP (X.blk sc cl C (Sd X xs js) s₂ H₂ fp) pins σ' Q) (fun _ _=>False) s')
  (he:∀(cl:List (Str×Addr)) (C:Addr) (s₂:Shared) (H₂:Hp) (fp:List Addr),PE (X.blk sc cl C (Sd X xs js) s₂ H₂ fp) elt te)
  (hs:∀x,foldedSetIterable iter X.env x=pure x)(I:Inv X pins σ H s)
  (h:wi σ H fun J H1=>∃W:Nat->Nat->List V->Hp->Prop,(∃m,W 0 m [] H1)/\∀i m ys H,W i m ys H->(J.stop i H/\Fin ys H) \/
   (J.go i H/\ys.length<sizeLine/\∀x H',J.Ni i H x H'->∀o0:List (Option V),o0.length=xs.length->g x (lcT σ js o0) H' fun σ2 H1=>∃o1,σ2=lcT σ js o1/\o1.length=xs.length/\tt σ2 H1 fun b H2 =>
    if b=true then te σ2 H2 fun v H3=>∃m',m'<m/\W (i+1) m' (ys++[v]) H3 else ∃m',m'<m/\W (i+1) m' ys H2))
  (hfin:∀(D C:Addr) (s5:Shared) (H5:Hp) (ys:List V) (its:List Value) (k:Nat) (m5:Str->Option Value),Inv X pins σ H5 s5->Own X pins H5 D->Own X pins H5 C->D≠C->s5.heap.get? D=some (uE its k)->Vals ys its->ys.length<=sizeLine->s5.heap.Ns C m5->Fin ys H5 ->
   compPost (model X.prog X.w) X.A X.xe use QQ (.ref D) C (.ok .next) s5) :
  wpAny (model X.prog X.w) X.A (comprehension (.ListComp elt [⟨tg,iter,ifs,0⟩] sc pos) sc X.env (firstIterPos [⟨tg,iter,ifs,0⟩] pos) (newList []) false (eval iter X.env) use) QQ X.xe s:=by
 have hcl:closureFor sc X.env=pure (clo sc.names X.env.cells []):=zfJ fun y hy=>by
  have ho:X.env.kindOf y=some .cell\/X.env.kindOf y=some .free:=by
   show X.env.scope.names.lookup y=_\/X.env.scope.names.lookup y=_
   rw[Wg]
   exact L.fr _ hy rfl
  obtain⟨c,e⟩:=I.ok.has y ho
  rw[e];rfl
 refine wpAny_comprehension_free (use:=use) rfl hs hcl L.kind L.names (wI (hi pins s σ H _ I h) fun v s1 h1=>wI h1 fun itv s2 h2=>?_)
 obtain⟨it,fp,tn,J,H2,e,I2,T,st2,f2,W,⟨m0,w0⟩,turn⟩:=h2
 subst e
 refine wpAny_newObj_type (wpAny_newFunctionEnv L.Uy (by intro y hy;simp at hy) (fun h₁ hns₁ hsb₁=>?_) L.kind)
 dsimp only at hns₁ hsb₁ ⊢
 generalize hG:s2.heap.push { cls:=.type "list", dict:=none,data:=.seq ([]:List Value).toArray }=G at hns₁ hsb₁ ⊢
 have hGs:G.objs.size=s2.heap.objs.size+1:=by rw[<-hG,Heap.size_push]
 have hCle:s2.heap.objs.size<=G.objs.size:=by rw[hGs];exact Nat.le_succ _
 have hDC:s2.heap.objs.size≠G.objs.size:=by rw[hGs];exact ztx (Nat.lt_succ_self _)
 have old:∀b o,s2.heap.get? b=some o->h₁.get? b=some o:=fun b o e=>by
  have lt:=ztp e
  refine hsb₁.extBut b o (ztx (ztr lt hCle)) (zto _ ?_)
  rw[<-hG]
  exact zto _ e
 have hacc:h₁.get? s2.heap.objs.size=some (uE [] 0):=by
  refine hsb₁.extBut _ _ hDC (zto _ ?_)
  rw[<-hG]
  exact ztD _ rfl
 have lt:∀b∈fp,b<s2.heap.objs.size:=fun b hb=>by
  obtain⟨o,e,_⟩:=T.obj _ _ st2 b hb
  exact ztp e
 have clS:∀y c,(clo sc.names X.env.cells []).lookup y=some c->X.env.cells.lookup y=some c:=VL _ _ [] (fun _ _ e=>by simp at e)
 have zpX:∀y c,(clo sc.names X.env.cells []).lookup y=some c->c<s2.heap.objs.size:=fun y c e=>by
  obtain⟨v,o,q,_⟩:=I2.cell y c (clS y c e)
  exact ztp q
 have Bok:(X.blk sc (clo sc.names X.env.cells []) G.objs.size (Sd X xs js) s2 H2 fp).Ok:=zkg I2 Wg L f2 lt hCle
 have fresh:∀a,s2.heap.objs.size<=a->H2 a=none:=fun a ha=>I2.hok.fresh ha
 have zmv:∀b∈frs X.stack,b<s2.heap.objs.size:=fun b hb=>by
  rcases List.mem_cons.mp (I2.zay b hb) with z | z
  ·rw[z];exact I2.lt
  ·refine Nat.lt_of_not_le fun q=>I2.zl9 q z
 have B0:Inv (X.blk sc (clo sc.names X.env.cells []) G.objs.size (Sd X xs js) s2 H2 fp) [(s2.heap.objs.size,uE [] 0)] (lcT σ js (List.replicate xs.length none)) H2 { s2 with heap:=h₁,toks:=s2.toks+([]:List (Str×Value)).length }:=by
  refine⟨Bok,rfl,I2.bare,Un.kept old,⟨_,hns₁,fun i y v e1 e2 e3=>?_⟩,fun y c e=>?_,fresh _ hCle,fun y c e=>I2.Y4 y c (clS y c e),fun p hp=>?_,I2.hok.kept old,?_⟩
  ·by_cases hlt:i<xs.length
   ·exfalso
    have e2'':(List.replicate xs.length (none:Option V)++js.map fun j=>σ.getD j none)[i]?=some (some v):=e2
    rw[ztP (by rw[List.length_replicate];exact hlt),List.getElem?_replicate,if_pos hlt] at e2''
    cases e2''
   ·have e1':(js.map fun j=>X.N.getD j "")[i-xs.length]?=some y:=by
     have z:(xs++js.map fun j=>X.N.getD j "")[i]?=some y:=e1
     rw[List.getElem?_append_right (by omega)] at z
     exact z
    have e2':(js.map fun j=>σ.getD j none)[i-xs.length]?=some (some v):=by
     have z:(List.replicate xs.length (none:Option V)++js.map fun j=>σ.getD j none)[i]?=some (some v):=e2
     rw[List.getElem?_append_right (by rw[List.length_replicate];omega),List.length_replicate] at z
     exact z
    have e1s:=e1'
    rw[ztk] at e1' e2'
    cases hj:js[i-xs.length]? with
    | none=>rw[hj] at e1';cases e1'
    | some j =>
     rw[hj] at e1' e2'
     have e4:X.N.getD j ""=y:=ztN e1'
     have e5:σ.getD j none=some v:=ztN e2'
     have hjl:=hjs j (ztn hj)
     have e6:X.N[j]?=some y:=by
      rw[ztv,ztj hjl] at e4
      rw[ztj hjl]
      exact congrArg some e4
     have e7:σ[j]?=some (some v):=by
      rw[ztv] at e5
      cases hq:σ[j]? with
      | none=>rw[hq] at e5;cases e5
      | some w=>rw[hq] at e5;exact congrArg some e5
     obtain⟨hm0,hk⟩:=L.fvs y (ztn e1s)
     have hm:(y,NameKind.free)∈sc.names:=PySem.mem_of_lookup hm0
     have hk':X.env.kindOf y=some .cell\/X.env.kindOf y=some .free:=by
      show X.env.scope.names.lookup y=_\/X.env.scope.names.lookup y=_
      rw[Wg];exact hk
     have hv:Vis X.env.scope y:=by rcases hk' with z | z;exact .inr (.inl z);exact .inr (.inr z)
     obtain⟨m,hn,hl⟩:=I2.loc
     obtain⟨u,r,l⟩:=hl j y v e6 e7 hv
     refine⟨u,r,.inr ?_⟩
     rcases l with ⟨z,_⟩ | ⟨_,c,hc1,hc2⟩
     ·rw[z] at hk';rcases hk' with q | q<;>cases q
     ·have hs2:((clo sc.names X.env.cells []).lookup y).isSome=true:=zcS _ _ [] y hm (by rw[hc1];rfl)
      obtain⟨c',hc'⟩:=Option.isSome_iff_exists.mp hs2
      have hcc:c'=c:=by have:=clS y c' hc';rw[hc1] at this;exact(ztN this).symm
      subst hcc
      obtain⟨o,ho,hd⟩:=hc2
      exact⟨zaH hm0,c',hc',o,old _ o ho,hd⟩
  ·obtain⟨v,o,q,d⟩:=I2.cell y c (clS y c e)
   exact⟨v,o,old _ o q,d⟩
  ·have e:p=(s2.heap.objs.size,uE [] 0):=by simpa using hp
   subst e
   exact⟨hacc,fresh _ (zty _),hDC,fun z=>Nat.lt_irrefl _ (zmv _ z),fun w hw=>by cases hw⟩
  ·show _=(Sd X xs js).length
   simp
 have stat:∀{H':Hp} {pl:List (Addr×Obj)},(∀b∈fp,H' b=none)->(∀p∈pl,p.1=s2.heap.objs.size)->∀b∈fp,zbx (X.blk sc (clo sc.names X.env.cells []) G.objs.size (Sd X xs js) s2 H2 fp) pl H' b:=fun hn hp b hb =>
  ⟨hn b hb,(Bok.exf b hb).1,Bok.zdT b hb,.inl hb,(Bok.exf b hb).2,fun p hm=>by
   rw[hp p (by simpa using hm)]
   exact Ne.symm (ztx (lt b hb))⟩
 have loop:∀s3:Shared,s3={ s2 with heap:=h₁,toks:=s2.toks+([]:List (Str×Value)).length } ->
   codeAny (model X.prog X.w) X.A (.compLoop (.ListComp elt [⟨tg,iter,ifs,0⟩] sc pos) 0 (.ref it) (.ref s2.heap.objs.size) (compEnvC sc (clo sc.names X.env.cells []) G.objs.size X.env))
    (compPost (model X.prog X.w) X.A X.xe use QQ (.ref s2.heap.objs.size) G.objs.size) s3:=by
  rintro s3 rfl
  refine zkf (fun n s'=>∃i ys its k o0 H',o0.length=xs.length/\Inv (X.blk sc (clo sc.names X.env.cells []) G.objs.size (Sd X xs js) s2 H2 fp) [(s2.heap.objs.size,uE its k)] (lcT σ js o0) H' s'/\tn i s'.heap/\(∀b∈fp,H' b=none)/\Vals ys its/\ys.length<=sizeLine/\W i n ys H') ?_ m0
   ⟨0,[],[],0,List.replicate xs.length none,H2,List.length_replicate,B0,T.keep _ _ _ st2 fun b _ o e=>old b o e,fun b hb=>(f2 b hb).1,.nil,ztF _,w0⟩
  rintro n s4 ⟨i,ys,its,k,o0,H4,lo0,I4,st4,fr4,vs4,z4,w4⟩
  have one:∀p∈[(s2.heap.objs.size,uE its k)],p.1=s2.heap.objs.size:=fun p hp=>by
   have e:p=(s2.heap.objs.size,uE its k):=by simpa using hp
   rw[e]
  rcases turn i n ys H4 w4 with ⟨stop,qn⟩ | ⟨go,zl,step⟩
  ·refine wI (T.done (X.blk sc (clo sc.names X.env.cells []) G.objs.size (Sd X xs js) s2 H2 fp) rfl rfl rfl (hc _ _ _ _ _ _ _) i _ s4 _ H4 _ I4 (stat fr4 one) st4 stop) fun r s5 ⟨hr,I5⟩=>?_
   subst hr
   obtain⟨m5,hn5,_⟩:=I5.loc
   obtain⟨p1,p2,p3,p4,p5⟩:=I5.pin (s2.heap.objs.size,uE its k) (by simp)
   have ch:∀b∈fp,(b∈X.ex\/X.s₀.heap.objs.size<=b)/\b≠X.env.locals/\(∀x c,X.env.cells.lookup x=some c->c≠b)/\∀p∈X.pn++pins,p.1≠b:=fun b hb =>
    ⟨(f2 b hb).2.2.2.1,(f2 b hb).2.1,(f2 b hb).2.2.2.2.1,(f2 b hb).2.2.2.2.2⟩
   have J1:Inv X pins σ H4 s5:=I2.call' I5.os I5.base I5.hok I5.bare ch
   have ltp:∀p∈X.pn++pins,p.1<s2.heap.objs.size:=fun p hp=>ztp (I2.pin p hp).1
   have ltc:∀y c,X.env.cells.lookup y=some c->c<s2.heap.objs.size:=fun y c e=>by
    obtain⟨v,o,q,_⟩:=I2.cell y c e
    exact ztp q
   have s0:X.s₀.heap.objs.size<=s2.heap.objs.size:=I2.sz
   have own:∀a,s2.heap.objs.size<=a->H4 a=none->Own X pins H4 a:=fun a ha hn=>⟨hn,Ne.symm (ztx (ztr I2.lt ha)),ztE s0 ha,fun y c e=>ztx (ztr (ltc y c e) ha),
    fun p hp=>ztx (ztr (ltp p hp) ha),I2.zl9 ha⟩
   exact hfin _ _ s5 H4 ys its k m5 J1 (own _ (zty _) p2) (own _ hCle I5.free) hDC p1 vs4 z4 hn5 qn
  ·refine wI (T.item (X.blk sc (clo sc.names X.env.cells []) G.objs.size (Sd X xs js) s2 H2 fp) rfl rfl rfl (hc _ _ _ _ _ _ _) i _ s4 _ H4 _ I4 (stat fr4 one) st4 go) fun r s5 ⟨u,hr,h5⟩=>?_
   subst hr
   refine wpAny_mono h5 (fun _ s5' ⟨v,H6,I6,r6,y6,st6,fr6⟩=>?_) fun _ _ z=>z
   have I7:=I6.pinned (stat fr6 one) (T.obj _ _ st6)
   have zp0:∀p∈QZ fp s5'.heap,p.1≠s2.heap.objs.size:=fun p hp=>ztx (lt _ (zb7 hp).1)
   have zrU:=vs4.length
   have back:∀{its':List Value} {k':Nat} {H7:Hp} {s7:Shared} {ys':List V} {m':Nat} {o1:List (Option V)},o1.length=xs.length->Inv (X.blk sc (clo sc.names X.env.cells []) G.objs.size (Sd X xs js) s2 H2 fp) ((s2.heap.objs.size,uE its' k')::QZ fp s5'.heap) (lcT σ js o1) H7 s7 ->
     Vals ys' its'->ys'.length<=sizeLine->m'<n->W (i+1) m' ys' H7->∃m,m<n/\∃i ys its k o0 H',o0.length=xs.length/\Inv (X.blk sc (clo sc.names X.env.cells []) G.objs.size (Sd X xs js) s2 H2 fp) [(s2.heap.objs.size,uE its k)] (lcT σ js o0) H' s7/\tn i s7.heap/\(∀b∈fp,H' b=none)/\Vals ys its/\ys.length<=sizeLine/\W i m ys H':=by
    intro its' k' H7 s7 ys' m' o1 l1 J vs' z' hm w'
    refine⟨m',hm,i+1,ys',its',k',o1,H7,l1,J.Xn fun p hp=>J.pin p (ztz _ (by simp at hp;simp[hp])),?_,?_,vs',z',w'⟩
    ·exact T.keep _ _ _ st6 fun b hb o e=>(J.pin (b,o) (ztz _ (ztt _ (Uv hb e)))).1
    ·intro b hb
     obtain⟨o,e,_⟩:=T.obj _ _ st6 b hb
     exact(J.pin (b,o) (ztz _ (ztt _ (Uv hb e)))).2.1
   refine wpAny_mono (ziN (X:=X) (sc:=sc) (xs:=xs) (js:=js) (tg:=tg) (g:=g) (elt:=elt) (ifs:=ifs) (tt:=tt) (te:=te) (D:=s2.heap.objs.size) (its:=its) (n:=k) (pl:=QZ fp s5'.heap)
    (hg _ _ _ _ _) I7 r6 (ht _ _ _ _ _) (he _ _ _ _ _) (by omega) (zty _) hDC (fun y c e=>ztx (zpX y c e)) zp0 (step v H6 y6 o0 lo0)) (fun _ s6 h6=>?_) fun _ _ z=>z
   refine wpAny_mono h6 (fun ok s7 h7=>?_) fun _ _ z=>z
   cases ok with
   | false =>
    rw[if_neg ztm] at h7 ⊢
    obtain⟨H7,o1,l1,⟨m',hm,w'⟩,J⟩:=h7
    exact back l1 J vs4 z4 hm w'
   | true =>
    rw[if_pos rfl] at h7 ⊢
    refine wpAny_mono h7 (fun y s8 h8=>?_) fun _ _ z=>z
    refine wpAny_mono h8 (fun _ s9 h9=>?_) fun _ _ z=>z
    obtain⟨z,y',H9,o1,l1,⟨m',hm,w'⟩,rz,J⟩:=h9
    refine back l1 J (vs4.append (.cons rz .nil)) ?_ hm w'
    rw[ztq,ztQ]
    omega
 exact codeAny_compStart_list (loop _ rfl) (T.self _ 0 _ _ _ (T.keep _ _ _ st2 fun b _ o e=>old b o e) (loop _ rfl))
end
section
variable {X:Cx}{sc uD:Scope}{x:Str}{js:List Nat}{elt iter:Expr}{px pos:Pos}{ifs:List Expr}{wi:TI}{tt:TT}{te:TE}
theorem zgS {use:Option (Value->Sem Unit)}{QQ:Value->Shared->Prop}{Fin:List V->Hp->Prop}{pins:List (Addr×Obj)}{s:Shared}{σ:St}{H:Hp}(Wg:X.env.scope=uD)(L:ZK uD sc x (js.map fun j=>X.N.getD j "")){rd:Cx->Prop}(hc:∀sc cl C N s H fp,rd (X.blk sc cl C N s H fp))(hi:PIr rd X (.Name x px) iter wi)(hjs:∀j∈js,j<X.N.length)
  (ht:∀(cl:List (Str×Addr)) (C:Addr) (s₂:Shared) (H₂:Hp) (fp:List Addr) (pins:List (Addr×Obj)) (s':Shared) (σ':St) (H':Hp) (Q:Bool->Hp->Prop),Inv (X.blk sc cl C (lcN X x js) s₂ H₂ fp) pins σ' H' s'->tt σ' H' Q ->
   wpAny (model X.prog X.w) X.A (ZL ifs (compEnvC sc cl C X.env)) (TP (X.blk sc cl C (lcN X x js) s₂ H₂ fp) pins σ' Q) (fun _ _=>False) s')
  (he:∀(cl:List (Str×Addr)) (C:Addr) (s₂:Shared) (H₂:Hp) (fp:List Addr),PE (X.blk sc cl C (lcN X x js) s₂ H₂ fp) elt te)
  (hs:∀x,foldedSetIterable iter X.env x=pure x)(I:Inv X pins σ H s)
  (h:wi σ H fun J H1=>∃W:Nat->Nat->List V->Hp->Prop,(∃m,W 0 m [] H1)/\∀i m ys H,W i m ys H->(J.stop i H/\Fin ys H) \/
   (J.go i H/\ys.length<sizeLine/\∀x H',J.Ni i H x H'->tt (Yi σ js (some x)) H' fun b H2 =>
    if b=true then te (Yi σ js (some x)) H2 fun v H3=>∃m',m'<m/\W (i+1) m' (ys++[v]) H3 else ∃m',m'<m/\W (i+1) m' ys H2))
  (hfin:∀(D C:Addr) (s5:Shared) (H5:Hp) (ys:List V) (its:List Value) (k:Nat) (m5:Str->Option Value),Inv X pins σ H5 s5->Own X pins H5 D->Own X pins H5 C->D≠C->s5.heap.get? D=some (uE its k)->Vals ys its->ys.length<=sizeLine->s5.heap.Ns C m5->Fin ys H5 ->
   compPost (model X.prog X.w) X.A X.xe use QQ (.ref D) C (.ok .next) s5) :
  wpAny (model X.prog X.w) X.A (comprehension (.ListComp elt [⟨.Name x px,iter,ifs,0⟩] sc pos) sc X.env (firstIterPos [⟨.Name x px,iter,ifs,0⟩] pos) (newList []) false (eval iter X.env) use) QQ X.xe s:=by
 have e:(fun(J:It) (H1:Hp)=>∃W:Nat->Nat->List V->Hp->Prop,(∃m,W 0 m [] H1)/\∀i m ys H,W i m ys H->(J.stop i H/\Fin ys H) \/
   (J.go i H/\ys.length<sizeLine/\∀x H',J.Ni i H x H'->tt (Yi σ js (some x)) H' fun b H2 =>
    if b=true then te (Yi σ js (some x)) H2 fun v H3=>∃m',m'<m/\W (i+1) m' (ys++[v]) H3 else ∃m',m'<m/\W (i+1) m' ys H2)) =
   (fun(J:It) (H1:Hp)=>∃W:Nat->Nat->List V->Hp->Prop,(∃m,W 0 m [] H1)/\∀i m ys H,W i m ys H->(J.stop i H/\Fin ys H) \/
   (J.go i H/\ys.length<sizeLine/\∀y H',J.Ni i H y H'->∀o0:List (Option V),o0.length=[x].length->W0 0 y (lcT σ js o0) H' fun σ2 H1=>∃o1,σ2=lcT σ js o1/\o1.length=[x].length/\tt σ2 H1 fun b H2 =>
    if b=true then te σ2 H2 fun v H3=>∃m',m'<m/\W (i+1) m' (ys++[v]) H3 else ∃m',m'<m/\W (i+1) m' ys H2)):=by
  funext J H1
  refine propext ⟨fun⟨W,w0,w1⟩=>⟨W,w0,fun i m ys H hw=>?_⟩,fun⟨W,w0,w1⟩=>⟨W,w0,fun i m ys H hw=>?_⟩⟩
  ·rcases w1 i m ys H hw with a | ⟨a,b,c⟩
   ·exact .inl a
   ·refine .inr ⟨a,b,fun y H' hy o0 ho=>?_⟩
    match o0,ho with
    | [o],_=>exact⟨[some y],rfl,rfl,c y H' hy⟩
  ·rcases w1 i m ys H hw with a | ⟨a,b,c⟩
   ·exact .inl a
   ·refine .inr ⟨a,b,fun y H' hy=>?_⟩
    obtain⟨o1,e1,e2,e3⟩:=c y H' hy [none] rfl
    exact e3
 rw[e] at h
 exact zaI (xs:=[x]) (g:=W0 0) Wg ⟨L.kind,L.Uy,L.names,L.fr,L.fvs⟩ hc hi (fun cl C s₂ H₂ fp=>yO (X:=X.blk sc cl C (Sd X [x] js) s₂ H₂ fp) L.nd rfl (.inl (lookup_relabel_local L.hx)) (.inr (lookup_relabel_local L.hx))) hjs ht he hs I h hfin
theorem zgT (Wg:X.env.scope=uD)(L:ZK uD sc x (js.map fun j=>X.N.getD j "")){rd:Cx->Prop}(hc:∀sc cl C N s H fp,rd (X.blk sc cl C N s H fp))(hi:PIr rd X (.Name x px) iter wi)(hjs:∀j∈js,j<X.N.length)
  (ht:∀(cl:List (Str×Addr)) (C:Addr) (s₂:Shared) (H₂:Hp) (fp:List Addr) (pins:List (Addr×Obj)) (s':Shared) (σ':St) (H':Hp) (Q:Bool->Hp->Prop),Inv (X.blk sc cl C (lcN X x js) s₂ H₂ fp) pins σ' H' s'->tt σ' H' Q ->
   wpAny (model X.prog X.w) X.A (ZL ifs (compEnvC sc cl C X.env)) (TP (X.blk sc cl C (lcN X x js) s₂ H₂ fp) pins σ' Q) (fun _ _=>False) s')
  (he:∀(cl:List (Str×Addr)) (C:Addr) (s₂:Shared) (H₂:Hp) (fp:List Addr),PE (X.blk sc cl C (lcN X x js) s₂ H₂ fp) elt te)
  (hs:∀x,foldedSetIterable iter X.env x=pure x:=by intro _;rfl) :
  PE X (.ListComp elt [⟨.Name x px,iter,ifs,0⟩] sc pos) (tLC wi js tt te):=by
 intro pins s σ H Q I h
 rw[eval_ListComp]
 refine zgS (use:=none) (Fin:=fun ys H=>∀p,H p=none->Q (.ref p) (upd H p (.lst ys))) Wg L hc hi hjs ht he hs I h fun D C s5 H5 ys its k m5 J oD oC hDC p1 vs z hn fin=>?_
 refine⟨m5,hn,fun h' hsb=>?_⟩
 have J2:Inv X pins σ H5 { s5 with heap:=h',toks:=s5.toks }:=J.turned (it:=C) (fun b o hb e=>hsb.extBut b o hb e) oC.free oC.loc (.inr oC.new) oC.cel oC.pin
 have p1':h'.get? D=some (uE its k):=hsb.extBut _ _ hDC p1
 have J3:Inv X pins σ (upd H5 D (.lst ys)) { s5 with heap:=h',toks:=s5.toks }:=J2.track oD.free oD.loc oD.new oD.cel oD.pin ⟨z,its,k,vs,p1'⟩
 exact⟨.ref D,_,J3,rfl,fin D oD.free⟩
theorem zmw (Wg:X.env.scope=uD)(L:ZK uD sc x (js.map fun j=>X.N.getD j ""))(hc:X.calm=true)(hi:PI X (.Name x px) iter wi)(hjs:∀j∈js,j<X.N.length)
  (ht:∀(cl:List (Str×Addr)) (C:Addr) (s₂:Shared) (H₂:Hp) (fp:List Addr) (pins:List (Addr×Obj)) (s':Shared) (σ':St) (H':Hp) (Q:Bool->Hp->Prop),Inv (X.blk sc cl C (lcN X x js) s₂ H₂ fp) pins σ' H' s'->tt σ' H' Q ->
   wpAny (model X.prog X.w) X.A (ZL ifs (compEnvC sc cl C X.env)) (TP (X.blk sc cl C (lcN X x js) s₂ H₂ fp) pins σ' Q) (fun _ _=>False) s')
  (he:∀(cl:List (Str×Addr)) (C:Addr) (s₂:Shared) (H₂:Hp) (fp:List Addr),PE (X.blk sc cl C (lcN X x js) s₂ H₂ fp) elt te)
  (hs:∀x,foldedSetIterable iter X.env x=pure x:=by intro _;rfl) :
  PE X (.ListComp elt [⟨.Name x px,iter,ifs,0⟩] sc pos) (tLC wi js tt te) :=
 zgT Wg L (rd:=Calm) (fun _ _ _ _ _ _ _=>hc) hi hjs ht he hs
def sLC (i:Nat)(wi:TI)(js:List Nat)(tt:TT)(te:TE):TS:=fun D σ H=>tLC wi js tt te σ H fun v H1=>D.nx (σ.set i (some v)) H1
theorem VN {i:Nat}{y:Str}{py spos:Pos}(hN:X.N.Nodup)(hy:X.N[i]?=some y)(hl:Loc X.env.scope y)(hf:X.fn y=true\/X.env.scope.names.lookup y=some .local)
  (Wg:X.env.scope=uD)(L:ZK uD sc x (js.map fun j=>X.N.getD j ""))(hc:X.calm=true)(hi:PI X (.Name x px) iter wi)(hjs:∀j∈js,j<X.N.length)
  (ht:∀(cl:List (Str×Addr)) (C:Addr) (s₂:Shared) (H₂:Hp) (fp:List Addr) (pins:List (Addr×Obj)) (s':Shared) (σ':St) (H':Hp) (Q:Bool->Hp->Prop),Inv (X.blk sc cl C (lcN X x js) s₂ H₂ fp) pins σ' H' s'->tt σ' H' Q ->
   wpAny (model X.prog X.w) X.A (ZL ifs (compEnvC sc cl C X.env)) (TP (X.blk sc cl C (lcN X x js) s₂ H₂ fp) pins σ' Q) (fun _ _=>False) s')
  (he:∀(cl:List (Str×Addr)) (C:Addr) (s₂:Shared) (H₂:Hp) (fp:List Addr),PE (X.blk sc cl C (lcN X x js) s₂ H₂ fp) elt te)
  (hsw:swapsWith (.ListComp elt [⟨.Name x px,iter,ifs,0⟩] sc pos) (some (.Name y py)) spos.line X.env=pure true)(hs:∀x,foldedSetIterable iter X.env x=pure x:=by intro _;rfl) :
  PS X (.Assign [.Name y py] (.ListComp elt [⟨.Name x px,iter,ifs,0⟩] sc pos) spos) (sLC i wi js tt te):=by
 intro pins s σ H D I h
 rw[exec_Assign_Name_used _ _ _ _ hsw]
 refine wpAny_bind (wpAny_standAt (wpAny_bind ?_))
 show wpAny _ _ (do let _ <-comprehension (.ListComp elt [⟨.Name x px,iter,ifs,0⟩] sc pos) sc X.env _ (newList []) false (eval iter X.env) (some (assign (.Name y py) X.env))) _ _ s
 have pg:=yO (X:=X) (i:=i) (x:=y) (pos:=py) hN hy hl hf
 refine wpAny_bind (wpAny_mono (zgS (use:=some (assign (.Name y py) X.env)) (QQ:=fun _ z=>SP X pins D .next z) (Fin:=fun ys H=>∀p,H p=none->D.nx (σ.set i (some (.ref p))) (upd H p (.lst ys))) Wg L (rd:=Calm) (fun _ _ _ _ _ _ _=>hc) hi hjs ht he hs I h fun A C s5 H5 ys its k m5 J oD oC hDC p1 vs z hn fin=>?_) (fun _ z hq=>wpAny_pure (wpAny_pure hq)) fun _ _ e=>e)
 have J1:Inv X pins σ (upd H5 A (.lst ys)) s5:=J.track oD.free oD.loc oD.new oD.cel oD.pin ⟨z,its,k,vs,p1⟩
 obtain⟨oc,es,ep,hC,hd,hr⟩:=hn
 have Uy:∀v,oc.data≠.cell v:=fun v q=>by rw[hd] at q;cases q
 have hCA:C≠A:=Ne.symm hDC
 have fC:(upd H5 A (.lst ys)) C=none:=by rw[zE hCA];exact oC.free
 have J2:Inv X (pins++[(C,oc)]) σ (upd H5 A (.lst ys)) s5:=J1.Xn fun p hp=>(List.mem_append.mp hp).elim (fun q=>J1.pin p (ztz _ q)) fun q=>by
  have e:p=(C,oc):=by simpa using q
  subst e
  exact⟨hC,fC,oC.loc,oC.fs,Uy⟩
 refine wpAny_mono (pg _ s5 σ _ (.ref A) (.ref A) (fun σ6 H6=>σ6=σ.set i (some (.ref A))/\H6=upd H5 A (.lst ys)) J2 rfl ⟨rfl,rfl⟩) (fun _ s6 ⟨σ6,H6,I6,e1,e2⟩=>?_) fun _ _ e=>e
 subst e1 e2
 obtain⟨c1,c2,_⟩:=I6.pin (C,oc) (ztz _ (ztz _ (by simp)))
 refine⟨m5,⟨oc,es,ep,c1,hd,hr⟩,fun h' hsb=>?_⟩
 have J3:Inv X pins (σ.set i (some (.ref A))) (upd H5 A (.lst ys)) s6:=I6.Xn fun p hp=>I6.pin p (ztz _ (List.mem_append_left _ hp))
 have J4:Inv X pins (σ.set i (some (.ref A))) (upd H5 A (.lst ys)) { s6 with heap:=h',toks:=s6.toks }:=J3.turned (it:=C) (fun b o hb e=>hsb.extBut b o hb e) c2 oC.loc (.inr oC.new) oC.cel oC.pin
 exact⟨_,_,J4,fin A oD.free⟩
end
section
variable {X:Cx}
def Uz:TT:=fun _ H Q=>Q true H
theorem tV {sc uD:Scope}{x:Str}{js:List Nat}{elt iter:Expr}{px pos:Pos}{wi:TI}{te:TE}(Wg:X.env.scope=uD)(L:ZK uD sc x (js.map fun j=>X.N.getD j ""))(hc:X.calm=true)(hi:PI X (.Name x px) iter wi)(hjs:∀j∈js,j<X.N.length)
  (he:∀(cl:List (Str×Addr)) (C:Addr) (s₂:Shared) (H₂:Hp) (fp:List Addr),PE (X.blk sc cl C (lcN X x js) s₂ H₂ fp) elt te)
  (hs:∀x,foldedSetIterable iter X.env x=pure x:=by intro _;rfl) :
  PE X (.ListComp elt [⟨.Name x px,iter,[],0⟩] sc pos) (tLC wi js Uz te) :=
 zmw Wg L hc hi hjs (fun cl C s₂ H₂ fp pins s' σ' H' Q I h=>wpAny_pure ⟨H',I,h⟩) he hs
theorem zkh {K:Frag}{a:Addr}{xs:List V}{σ:St}{js:List Nat}{tt:TT}{te:TE}{H:Hp}{Qf:Addr->Hp->List V->Prop}(Pv:Nat->List V->Hp->Prop)(h0:Pv 0 [] H)(hz:xs.length<=sizeLine)
  (hl:∀i ys H,i<=xs.length->Pv i ys H->z6 K H a xs/\ys.length<=i)
  (hs:∀i x ys H,xs[i]?=some x->Pv i ys H->tt (Yi σ js (some x)) H fun b H2=>if b=true then te (Yi σ js (some x)) H2 fun v H3=>Pv (i+1) (ys++[v]) H3 else Pv (i+1) ys H2)
  (mt:∀ σ H Q Q',(∀b H1,Q b H1->Q' b H1)->tt σ H Q->tt σ H Q')(me:∀ σ H Q Q',(∀v H1,Q v H1->Q' v H1)->te σ H Q->te σ H Q')
  (hd:∀ys H p,Pv xs.length ys H->H p=none->Qf p H ys) :
  ∃W:Nat->Nat->List V->Hp->Prop,(∃m,W 0 m [] H)/\∀i m ys H,W i m ys H ->
   ((Itl K a).stop i H/\∀p,H p=none->Qf p H ys) \/
   ((Itl K a).go i H/\ys.length<sizeLine/\∀x H',(Itl K a).Ni i H x H'->tt (Yi σ js (some x)) H' fun b H2 =>
    if b=true then te (Yi σ js (some x)) H2 fun v H3=>∃m',m'<m/\W (i+1) m' (ys++[v]) H3 else ∃m',m'<m/\W (i+1) m' ys H2):=by
 refine⟨fun i m ys H=>m=xs.length-i/\i<=xs.length/\Pv i ys H,⟨xs.length,by simp,ztF _,h0⟩,?_⟩
 rintro i m ys H ⟨rfl,hi,p⟩
 obtain⟨q,hy⟩:=hl i ys H hi p
 by_cases hlt:i<xs.length
 ·refine .inr ⟨⟨xs,xs[i],q,by simp[hlt]⟩,by omega,fun x H' y=>?_⟩
  obtain⟨e,y⟩:=y
  subst e
  refine mt _ _ _ _ (fun b H2 h2=>?_) (hs i x ys _ (y xs q) p)
  cases b with
  | true =>
   rw[if_pos rfl] at h2 ⊢
   exact me _ _ _ _ (fun v H3 h3=>⟨_,by omega,rfl,hlt,h3⟩) h2
  | false =>
   rw[if_neg ztm] at h2 ⊢
   exact⟨_,by omega,rfl,hlt,h2⟩
 ·have e:i=xs.length:=by omega
  subst e
  exact .inl ⟨⟨xs,q,zty _⟩,fun pp hp=>hd ys H pp p hp⟩
theorem ziO {K:Frag}{a:Addr}{xs:List V}{σ:St}{js:List Nat}{tt:TT}{te:TE}{H:Hp}{Qf:Addr->Hp->List V->Prop}(Pv:Nat->List V->Hp->Prop)(h0:Pv 0 [] H)(hz:xs.length<=sizeLine)
  (hl:∀i ys H,i<=xs.length->Pv i ys H->vQ K H a xs/\ys.length<=i)
  (hs:∀i x ys H,xs[i]?=some x->Pv i ys H->tt (Yi σ js (some x)) H fun b H2=>if b=true then te (Yi σ js (some x)) H2 fun v H3=>Pv (i+1) (ys++[v]) H3 else Pv (i+1) ys H2)
  (mt:∀ σ H Q Q',(∀b H1,Q b H1->Q' b H1)->tt σ H Q->tt σ H Q')(me:∀ σ H Q Q',(∀v H1,Q v H1->Q' v H1)->te σ H Q->te σ H Q')
  (hd:∀ys H p,Pv xs.length ys H->H p=none->Qf p H ys) :
  ∃W:Nat->Nat->List V->Hp->Prop,(∃m,W 0 m [] H)/\∀i m ys H,W i m ys H ->
   ((Itt K a).stop i H/\∀p,H p=none->Qf p H ys) \/
   ((Itt K a).go i H/\ys.length<sizeLine/\∀x H',(Itt K a).Ni i H x H'->tt (Yi σ js (some x)) H' fun b H2 =>
    if b=true then te (Yi σ js (some x)) H2 fun v H3=>∃m',m'<m/\W (i+1) m' (ys++[v]) H3 else ∃m',m'<m/\W (i+1) m' ys H2):=by
 refine⟨fun i m ys H=>m=xs.length-i/\i<=xs.length/\Pv i ys H,⟨xs.length,by simp,ztF _,h0⟩,?_⟩
 rintro i m ys H ⟨rfl,hi,p⟩
 obtain⟨q,hy⟩:=hl i ys H hi p
 by_cases hlt:i<xs.length
 ·refine .inr ⟨⟨xs,xs[i],q,by simp[hlt]⟩,by omega,fun x H' y=>?_⟩
  obtain⟨e,y⟩:=y
  subst e
  refine mt _ _ _ _ (fun b H2 h2=>?_) (hs i x ys _ (y xs q) p)
  cases b with
  | true =>
   rw[if_pos rfl] at h2 ⊢
   exact me _ _ _ _ (fun v H3 h3=>⟨_,by omega,rfl,hlt,h3⟩) h2
  | false =>
   rw[if_neg ztm] at h2 ⊢
   exact⟨_,by omega,rfl,hlt,h2⟩
 ·have e:i=xs.length:=by omega
  subst e
  exact .inl ⟨⟨xs,q,zty _⟩,fun pp hp=>hd ys H pp p hp⟩
theorem zaJ {x:V}:∀{xs:List V} {us:List Value},Vals xs us->xs.all wQ=true->∀{j:Nat},xs.findIdx? (fun y=>eqV y x)=some j ->
  ∃hj:j<us.length,eqU x us[j]=true/\∀m (hm:m<us.length),m<j->eqU x us[m]=false
 | _,_,.nil,_,j,h=>by simp at h
 | y::xs,u::us,.cons r t,f,j,h=>by
  rw[List.all_cons,ztK] at f
  rw[List.findIdx?_cons] at h
  by_cases hy:eqV y x=true
  ·rw[if_pos hy] at h
   cases h
   refine⟨by simp,?_,fun m hm hlt=>absurd hlt (Nat.not_lt_zero _)⟩
   show eqU x u=true
   rw[zcP r f.1];exact hy
  ·rw[if_neg hy] at h
   cases hq:xs.findIdx? (fun y=>eqV y x) with
   | none=>rw[hq] at h;cases h
   | some k =>
    rw[hq] at h
    have e:k+1=j:=ztN h
    subst e
    obtain⟨hk,h1,h2⟩:=zaJ t f.2 hq
    refine⟨by rw[ztu];omega,h1,fun m hm hlt=>?_⟩
    cases m with
    | zero =>
     show eqU x u=false
     rw[zcP r f.1];exact Bool.eq_false_iff.mpr hy
    | succ m=>exact h2 m (by rw[ztu] at hm;omega) (by omega)
def zmx (K:Frag):V->List V->Hp->VK->Prop:=fun x vs H Q=>∃l xs y j,x=.ref l/\vs=[y]/\z6 K H l xs/\wQ y=true/\xs.all wQ=true/\xs.findIdx? (fun z=>eqV z y)=some j/\Q (.int (j:Nat)) H
theorem zaK:MtM X "list.index" (zmx X.K):=by
 intro pins s σ H x vs v us Q I rx rv h
 obtain⟨l,xs,y,j,rfl,rfl,hq,fy,fs,hj,q⟩:=h
 cases rx
 obtain⟨u,rfl,ru⟩:=rv.one
 obtain⟨its,r,⟨o,n,e,hc,hd,hdat⟩,hz⟩:=I.list hq
 obtain⟨cls,dd,dt,sl⟩:=o
 have hc':cls=.type "list" := hc
 have hdat':dt=.seq its.toArray n:=hdat
 subst hc' hdat'
 obtain⟨h1,h2,h3⟩:=zaJ r fs hj
 have hl:=r.length
 have hn:=Uw
 refine call_meets F.slot_list_index ⟨_,e,rfl⟩ F.entry_list_index (F.args_list_index_2 _ _) (SeqAt.list_indexAt l its.toArray n dd sl u (eqU y) j (by simpa using h1) (by omega) (by simpa using h2) (fun m hm hlt=>by simpa using h3 m (by simpa using hm) hlt)) ⟨e,fun w hw=>VJ ru fy r fs w (by simpa using hw),?_⟩
 exact⟨.int (j:Nat),H,I.tok _,⟨_,rfl⟩,q⟩
def zki:V->List V->Hp->VK->Prop:=fun x vs H Q=>∃l xs i y,x=.ref l/\vs=[.int i,y]/\H l=some (.lst xs)/\0<=i/\i<=(xs.length:Int)/\xs.length<sizeLine/\Q .non (upd H l (.lst (xs.take i.toNat++y::xs.drop i.toNat)))
theorem zfK {A:Around}{s:Shared}{P:Program}{w:World}{E:Value->Shared->Prop}{Q:Value->Shared->Prop}{l:Addr}{its:List Value}{n:Nat}{i:Int}{t:Tok}{u:Value}(e:s.heap.get? l=some { cls:=.type "list", data:=.seq its.toArray n })(h0:0<=i)(h1:i<=(its.length:Int))(hz:its.length<=sizeLine)
  (h:∀f:Array Value->Array Value,f its.toArray=(its.take i.toNat++u::its.drop i.toNat).toArray->Q .none { s with heap:=s.heap.update l (Obj.mapSeq f),toks:=s.toks }):wpAny (model P w) A (call (.builtin "list.insert") [.ref l,.int i t,u]) Q E s:=by
 have hn:=Uw
 have fit:¬(!Builtin.List.listFitsIndex i)=true:=by
  rw[fitsIndex_both (k:=i) (Int.le_trans (by decide) h0) (by omega)]
  exact ztm
 have hs3:its.toArray.size<=sizeLine:=by rw[zts];exact hz
 have M:=AutoSeq1.list_insert_list_int_val_1 l its.toArray n i t u fit hs3
 refine call_meets F.slot_list_insert ⟨_,e,rfl⟩ F.entry_list_insert (F.args_list_insert_3 _ _ _) M ⟨e,?_⟩
 refine h _ ?_
 have hk:(if i<0 then (i+(its.toArray.size:Int)).toNat else min i.toNat its.toArray.size)=i.toNat:=by
  rw[if_neg (by omega),zts]
  omega
 show(its.toArray.extract 0 (if i<0 then (i+(its.toArray.size:Int)).toNat else min i.toNat its.toArray.size)).push u++its.toArray.extract (if i<0 then (i+(its.toArray.size:Int)).toNat else min i.toNat its.toArray.size)=_
 rw[hk]
 apply Array.toList_inj.mp
 simp[List.take_of_length_le]
theorem zhM:MtM X "list.insert" zki:=by
 intro pins s σ H x vs v us Q I rx rv h
 obtain⟨l,xs,i,y,rfl,rfl,hH,h0,h1,hz,q⟩:=h
 cases rx
 obtain⟨u,w,rfl,⟨t,rfl⟩,rw'⟩:=rv.two
 obtain⟨z,its,n,r,hl,e⟩:=I.zhI hH
 refine zfK e h0 (by rw[<-hl];exact h1) (by omega) fun f hf=>?_
 refine⟨.non,_,I.ziI (its':=its.take i.toNat++w::its.drop i.toNat) hH e hf ((r.take i.toNat).append (.cons rw' (r.drop i.toNat))) ?_,rfl,q⟩
 rw[ztq,ztu,ztG,List.length_drop]
 omega
def ziP (K:Frag):V->List V->Hp->VK->Prop:=fun x vs H Q=>∃l b xs zs,x=.ref l/\vs=[.ref b]/\H l=some (.lst xs)/\vQ K H b zs/\xs.length+zs.length<=sizeLine/\Q .non (upd H l (.lst (xs++zs)))
theorem Km (l:Addr)(its:Array Value)(n:Nat)(b:Addr)(its2:Array Value)(n2:Nat)(dd:Option Addr)(sl:Array (Option Value))(h0:¬(!its.isEmpty&&Builtin.List.listTooLong (its.size+its2.size))=true)(h1:its.size<=sizeLine)(h2:its.size+its2.size<=sizeLine+1) :
  Meets (Builtin.«list.extend» ⟨[.ref l,.ref b],[]⟩) (fun _ R s=>s.heap.get? l=some { cls:=.type "list", data:=.seq its n }/\s.heap.get? b=some { cls:=.type "tuple", dict:=dd,data:=.seq its2 n2,slots:=sl } /\
   R (.ok (.ret Value.none)) { s with heap:=s.heap.update l (Obj.mapSeq fun x=>x++its2),toks:=s.toks }) :=
 .of_wp fun prog w A R s h=>by
  obtain⟨hp,g,d,tk,os⟩:=s
  obtain⟨hl,hb,h⟩:=h
  have g1:=AutoSeq1.idx_int
  have g2:=AutoSeq1.sub_tuple_tuple
  have g3:=AutoSeq1.sub_list_list
  have g4:=AutoSeq1.sub_tuple_list
  have g5:=AutoSeq1.sub_list_tuple
  have hz:(its++its2).size<=sizeLine+1:=by rw[Array.size_append];exact h2
  wp_walk using (wpAny_updateSeq hl rfl (hz:=h1) (_hz':=hz)),AutoSeq1.wpAny_loadPart' hl,AutoSeq1.wpAny_loadPart' hb
  exact⟨_,rfl,h⟩
theorem zaL:MtM X "list.extend" (ziP X.K):=by
 intro pins s σ H x vs v us Q I rx rv h
 obtain⟨l,b,xs,zs,rfl,rfl,hH,hB,hz,q⟩:=h
 cases rx
 obtain⟨u,rfl,ru⟩:=rv.one
 cases ru
 obtain⟨z,its,n,r,hl,e⟩:=I.zhI hH
 obtain⟨its2,r2,⟨o,e2,hc,n2,hd⟩,z2⟩:=I.tuple hB
 obtain⟨cls,dd,dt,sl⟩:=o
 have hc':cls=.type "tuple" := hc
 have hd':dt=.seq its2.toArray n2:=hd
 subst hc' hd'
 have hl2:=r2.length
 have hsz:its.toArray.size+its2.toArray.size<=sizeLine:=by rw[zts,zts];omega
 have ziJ:¬(!its.toArray.isEmpty&&Builtin.List.listTooLong (its.toArray.size+its2.toArray.size))=true:=by
  rw[zd1 hsz,Bool.and_false]
  exact ztm
 refine call_meets F.slot_list_extend ⟨_,e,rfl⟩ F.entry_list_extend (F.args_list_extend_2 _ _)
  (Km l its.toArray n b its2.toArray n2 dd sl ziJ (by rw[zts];omega) (by omega)) ⟨e,e2,?_⟩
 refine⟨.non,_,I.ziI (its':=its++its2) hH e (by simp) (r.append r2) ?_,rfl,q⟩
 rw[ztq]
 omega
theorem zbz (bs:List Bool):((List.range bs.length).all fun i=>(bs[i]?).getD true)=bs.all id:=by
 rw[ztW,ztM,ztM]
 constructor
 ·intro h b hb
  obtain⟨i,hi,e⟩:=ztX hb
  have q:=h i (List.mem_range.mpr hi)
  rw[ztj hi,Option.getD_some,e] at q
  exact q
 ·intro h i hi
  have hi':=List.mem_range.mp hi
  rw[ztj hi',Option.getD_some]
  exact h _ (List.getElem_mem hi')
theorem SM (hc:X.calm=true):Xl X (.builtin "all") (fun xs H Q=>∃(p:Addr) (bs:List Bool),xs=[.ref p]/\z6 X.K H p (bs.map V.bl)/\Q (.bl (bs.all id)) H):=by
 intro pins s σ H xs us Q I r h
 obtain⟨p,bs,rfl,hq,q⟩:=h
 obtain⟨u,rfl,rx⟩:=vals1 r
 cases rx
 obtain⟨its,r',pl,hz⟩:=I.list hq
 have hlen:bs.length=its.length:=by have:=r'.length;rw[zti] at this;exact this
 have hlt:p<s.heap.objs.size:=by obtain⟨_,e,_⟩:=pl.isList;exact ztp e
 refine call_all_walk (wpAny_pyIter_list pl.isList ?_)
 refine⟨s.heap.objs.size,[s.heap.objs.size,p],[s.heap.objs.size],its.toArray.size,_,_,fun i=>(bs[i]?).getD true,rfl,Walks.list (A:=X.A.in1) (I.ok.hd hc) _ p (ztx hlt) its.toArray,
  ⟨⟨_,ztD _ rfl,rfl,rfl⟩,pl.isList.push _⟩,fun i v s' Q' E' hP hQ=>?_,fun h' tk hk=>?_⟩
 ·have hP':its[i]?=some v:=by simpa using hP
  have hi:i<bs.length:=by
   have:=(ztl.mp hP').1
   omega
  obtain⟨w,hw,rw'⟩:=r'.get (i:=i) (x:=.bl bs[i]) (by rw[ztk,ztj hi];rfl)
  rw[hP'] at hw
  cases hw
  cases rw'
  simp only[ztj hi,Option.getD_some] at hQ
  exact wpAny_truthy_bool hQ
 ·have kp:∀b o,s.heap.get? b=some o->h'.get? b=some o:=fun b o e=>hk b o (fun hm=>by
   rw[List.mem_singleton.mp hm] at e
   exact Nat.lt_irrefl _ (ztp e)) (zto _ e)
  refine⟨.bl _,H,I.kept kp,rfl,?_⟩
  rw[zts,<-hlen,zbz]
  exact q
theorem SN:Xl X (.builtin "isinstance") (fun xs H Q=>∃x T t b,xs=[x,.ty T]/\Nx X.K H x t/\PySem.W.kitOne X.K t (.type T)=some b/\Q (.bl b) H):=by
 intro pins s σ H xs us Q I r h
 obtain⟨x,T,t,b,rfl,ty,e,q⟩:=h
 obtain⟨u,w',rfl,rx,ry⟩:=vals2 r
 cases ry
 exact zhH I rx ty e fun tk=>⟨.bl b,H,I.tok _,rfl,q⟩
end
def met (acc:List Str)(x:Str):List Str:=if acc.any (·==x) then acc else acc++[x]
def dd (xs:List Str):List Str:=xs.foldl met []
theorem zgU (xs:List Str)(x:Str):dd (xs++[x])=met (dd xs) x:=by
 unfold dd
 rw[List.foldl_append]
 rfl
theorem zai (acc:List Str)(x k:Str):(met acc x).any (·==k)=(acc.any (·==k)||decide (k=x)):=by
 unfold met
 by_cases h:acc.any (·==x)=true
 ·rw[if_pos h]
  by_cases e:k=x
  ·subst e;rw[h];simp
  ·simp[e]
 ·rw[if_neg h,List.any_append]
  by_cases e:k=x
  ·subst e;simp
  ·have hb:(x==k)=false:=by simpa [beq_iff_eq] using (fun z:x=k=>e z.symm)
   simp[hb,e]
theorem W2 (acc:List Str)(x:Str):(met acc x).length=if acc.any (·==x)=true then acc.length else acc.length+1:=by
 unfold met
 split<;>simp
theorem zn8 (xs:List Str):(dd xs).length<=xs.length:=by
 suffices h:∀acc:List Str,(xs.foldl met acc).length<=acc.length+xs.length by have:=h [];unfold dd;simpa using this
 induction xs with
 | nil=>intro acc;simp
 | cons x r ih =>
  intro acc
  rw[List.foldl_cons]
  have h1:=ih (met acc x)
  have h2:=W2 acc x
  rw[ztu]
  split at h2<;>omega
theorem ziQ {xs:List Str}(h:xs.Nodup):(dd xs).length=xs.length:=by
 suffices g:∀acc:List Str,(∀x∈xs,acc.any (·==x)=false)->(xs.foldl met acc).length=acc.length+xs.length by have:=g [] (fun _ _=>rfl);unfold dd;simpa using this
 induction xs with
 | nil=>intro acc _;simp
 | cons x r ih =>
  intro acc ha
  obtain⟨hx,hr⟩:=List.nodup_cons.mp h
  rw[List.foldl_cons,ih hr (met acc x) (fun y hy=>?_),W2,ha x ztC]
  ·simp;omega
  ·rw[zai,ha y (ztt _ hy)]
   have:y≠x:=fun e=>hx (e ▸ hy)
   simp[this]
theorem zmy {xs:List Str}(h:¬xs.Nodup):(dd xs).length<xs.length:=by
 suffices g:∀acc:List Str,¬xs.Nodup->(xs.foldl met acc).length<acc.length+xs.length by have:=g [] h;unfold dd;simpa using this
 clear h
 have le:∀(ys acc:List Str),(ys.foldl met acc).length<=acc.length+ys.length:=fun ys=>by
  induction ys with
  | nil=>intro acc;simp
  | cons x r ih =>
   intro acc
   rw[List.foldl_cons]
   have h1:=ih (met acc x)
   have h2:=W2 acc x
   rw[ztu]
   split at h2<;>omega
 have mem:∀(ys acc:List Str) (x:Str),x∈ys->acc.any (·==x)=true->(ys.foldl met acc).length<acc.length+ys.length:=fun ys=>by
  induction ys with
  | nil=>intro acc x hx _;cases hx
  | cons y r ih =>
   intro acc x hx ha
   rw[List.foldl_cons,ztu]
   rcases List.mem_cons.mp hx with e | hx
   ·subst e
    have h1:=le r (met acc x)
    have h2:=W2 acc x
    rw[if_pos ha] at h2
    omega
   ·have h1:=ih (met acc y) x hx (by rw[zai,ha];rfl)
    have h2:=W2 acc y
    split at h2<;>omega
 induction xs with
 | nil=>intro acc h;exact absurd List.nodup_nil h
 | cons x r ih =>
  intro acc h
  rw[List.foldl_cons,ztu]
  by_cases hx:x∈r
  ·have h1:=mem r (met acc x) x hx (by rw[zai];simp)
   have h2:=W2 acc x
   split at h2<;>omega
  ·have h1:=ih (met acc x) (fun hr=>h (List.nodup_cons.mpr ⟨hx,hr⟩))
   have h2:=W2 acc x
   split at h2<;>omega
abbrev zaM (led:Bool):Obj:={ cls:=.type "set", dict:=none,data:=.set #[] 0 (.fresh 0 0 led) }
section
variable {P:Program}{w:World}{A:Around}{R:Result->Shared->Prop}{E:Value->Shared->Prop}{s:Shared}
theorem ziR {I:Addr}{fp wr:List Addr}{G:Array GenState->Array GenState->Prop}{n:Nat}{Pv:Nat->Value->Prop}{St:Nat->Shared->Prop}(W:WalksS P w A.in1 I fp wr G n Pv St)(S:Addr)(hS:S∉fp)(xs:List Str)(hn:xs.length=n)
  (hv:∀i v,Pv i v->∃t,v=.str (xs.getD i "") t)(hb:n+1<scanBound) :
  ∀(k i:Nat) (z:Shared),n-i=k->i<=n->St i z->z.heap.SetOf (strKind P w) S (fun q=>(dd (xs.take i)).any (·==q)) (dd (xs.take i)).length ->
   (∀z',Moved (S::wr) G z z'->z'.heap.SetOf (strKind P w) S (fun q=>(dd xs).any (·==q)) (dd xs).length->R (.ok (.ret .none)) z') ->
   codeAny (model P w) A (.builtin "set.update.loop" ⟨[.ref S,.ref I],[]⟩) R z:=by
 have zn9:S∉wr:=fun h=>hS (W.sub _ h)
 have more:∀b∈wr,b∈S::wr:=fun b h=>ztt _ h
 intro k
 induction k with
 | zero =>
  intro i z hk hi st zkj fin
  have ei:i=n:=by omega
  subst ei
  refine codeAny_builtin PyProof.Rows.F.entry_set_update_loop ?_
  rw[Around.under_plainId PyProof.Rows.F.plain_set_update_loop _]
  show wpAny _ A.in1 (pyNext (.ref I)>>=_) _ _ z
  refine wpAny_bind (W.done z _ _ st fun z' mv=>?_)
  show wpAny _ A.in1 (ret Value.none) _ _ z'
  refine wpAny_pure (fin z' (mv.mono more) ?_)
  rw[<-hn,ztL] at zkj
  obtain⟨o,es,ep,t,ho,more'⟩:=zkj
  exact⟨o,es,ep,t,mv.heap S _ zn9 ho,more'⟩
 | succ k ih =>
  intro i z hk hi st zkj fin
  have il:i<n:=by omega
  refine codeAny_builtin PyProof.Rows.F.entry_set_update_loop ?_
  rw[Around.under_plainId PyProof.Rows.F.plain_set_update_loop _]
  show wpAny _ A.in1 (pyNext (.ref I)>>=_) _ _ z
  refine wpAny_bind (W.item i z _ _ il st fun v z' pv st' mv=>?_)
  obtain⟨t,rfl⟩:=hv i v pv
  have hset':z'.heap.SetOf (strKind P w) S (fun q=>(dd (xs.take i)).any (·==q)) (dd (xs.take i)).length:=by
   obtain⟨o,es,ep,tb,ho,more'⟩:=zkj
   exact⟨o,es,ep,tb,mv.heap S _ zn9 ho,more'⟩
  show wpAny _ A.in1 (holding [Value.str (xs.getD i "") t] (setAdd S (.str (xs.getD i "") t))>>=_) _ _ z'
  refine wpAny_bind (wpAny_holding ?_)
  unfold setAdd
  refine wpAny_holding ?_
  refine wpAny_bind ((strKind P w).pyHash (k:=xs.getD i "") (strKind_is _ _ _ _) ?_)
  have hroom:(dd (xs.take i)).length+1<scanBound:=by
   have:=zn8 (xs.take i)
   rw[ztG] at this
   omega
  have et:xs.take (i+1)=xs.take i++[xs.getD i ""]:=by
   rw[List.take_succ,ztv,ztj (by omega)]
   rfl
  refine wpAny_setAddHashed_of (knd:=strKind P w) (s:={ z' with toks:=z'.toks+1 }) (strKind_is _ _ _ _) rfl hset' hroom fun h' sb s2=>?_
  have zoa:h'.SetOf (strKind P w) S (fun q=>(dd (xs.take (i+1))).any (·==q)) (dd (xs.take (i+1))).length :=
   SetOf_congr s2 (fun q=>by rw[et,zgU,zai]) (by rw[et,zgU,W2])
  refine wpAny_pure ⟨plainId_quiet PyProof.Rows.F.plain_set_update_loop _,ih (i+1) _ (by omega) il (W.frame _ z' _ _ st' (Nat.le_succ _) fun b hb' o e=>?_) zoa fun z'' mv2 s3=>?_⟩
  ·rw[sb.2 b (fun h:b=S=>hS (by rw[<-h];exact hb'))];exact e
  ·refine fin z'' (Moved.trans W.gtrans ((mv.mono more).then_heap (Nat.le_succ _) fun b o hb' e=>?_) mv2) s3
   rw[sb.2 b (fun h:b=S=>hb' (by rw[h];exact ztC))];exact e
theorem zkk {xs:List Str}:∀{us:List Value},Vals (xs.map V.str) us->∀(i:Nat) (v:Value),us[i]?=some v->∃t,v=.str (xs.getD i "") t:=by
 intro us r i v h
 have hl:=r.length
 rw[zti] at hl
 have hi:i<xs.length:=by have:=(ztl.mp h).1;omega
 obtain⟨u,hu,t,e⟩:=r.get (i:=i) (x:=.str xs[i]) (by rw[ztk,ztj hi];rfl)
 rw[h] at hu
 cases hu
 refine⟨t,?_⟩
 rw[e,ztv,ztj hi]
 rfl
set_option maxHeartbeats 8000000 in
theorem ziS {l:Addr}{us:List Value}{xs:List Str}{Q:Value->Shared->Prop}(hh:A.handled=none)(hl:s.heap.IsList l us.toArray)(r:Vals (xs.map V.str) us)(hb:xs.length+1<scanBound)
  (h:∀(h':Heap) (tk:Nat),h'.SetOf (strKind P w) s.heap.objs.size (fun q=>(dd xs).any (·==q)) (dd xs).length->(∀b o,s.heap.get? b=some o->h'.get? b=some o)->Q (.ref s.heap.objs.size) { s with heap:=h',toks:=tk }) :
  wpAny (model P w) A (call (.type "set") [.ref l]) Q E s:=by
 have hlen:xs.length=us.toArray.size:=by have:=r.length;rw[zti] at this;simpa using this
 obtain⟨cc,tl,hmro⟩:=F.called_set.mro
 have made:=F.called_set.made
 have sub:=F.called_set.sub
 refine wpAny_call (codeAny_of_tree ?_)
 show wpAny _ _ (callAny (.type "set") _) _ _ _
 refine wpAny_pure ⟨Code.quiet_builtin _ (by decide +kernel),codeAny_builtin F.entry_type_call ?_⟩
 rw[Around.under_plain (weight_type_call_type "set" [.ref l] []) rfl]
 have a1:=F.called_set.notType
 have a2:=F.called_set.canCreate
 have a3:=F.typeCall_set_1 (.ref l)
 repeat (any_goals (first | assumption | wp_step))
 refine codeAny_mono (code_set_new_1 (.ref l) (E:=E) (Q₁:=fun ob z=>∃led:Bool,ob=.ref s.heap.objs.size/\z={ s with heap:=s.heap.push { cls:=.type "set", dict:=none,data:=.set #[] 0 (.fresh 0 0 led) } }) fun led=>⟨led,rfl,rfl⟩) fun res z hres=>?_
 cases res with
 | error e=>exact hres
 | ok fl =>
  cases fl with
  | ret ob =>
   obtain⟨led,rfl,rfl⟩:=hres
   have gS:(s.heap.push (zaM led)).get? s.heap.objs.size=some (zaM led):=ztD _ rfl
   have tS:Shared.TypeIs { s with heap:=s.heap.push (zaM led) } (.ref s.heap.objs.size) "set" := ⟨_,gS,rfl⟩
   have b1:=F.called_set.init.lookup
   have b2:=F.called_set.init.bind (.ref s.heap.objs.size)
   repeat (any_goals (first | assumption | wp_step))
   refine codeAny_mono (codeAny_call_builtin (R:=wants (fun v z=>v=.none/\∃h' tk,z={ s with heap:=h',toks:=tk }/\h'.SetOf (strKind P w) s.heap.objs.size (fun q=>(dd xs).any (·==q)) (dd xs).length/\(∀b o,s.heap.get? b=some o->h'.get? b=some o)) E)
    F.called_set.init.plain F.entry_set_init (check_set_init_1 tS ?_)) fun res2 z2 ziT=>?_
   ·obtain⟨ol,gl,cl,nl,dl⟩:=hl
    obtain⟨ocls,odict,odata,oslots⟩:=ol
    have cl':ocls=.type "list" := cl
    have dl':odata=.seq us.toArray nl:=dl
    subst cl' dl'
    have gl':(s.heap.push (zaM led)).get? l=some { cls:=.type "list", dict:=odict,data:=.seq us.toArray nl,slots:=oslots }:=zto _ gl
    have c1:=F.sub_list_set
    have c2:=F.sub_list_frozenset
    have c3:(Value.type "list" == Value.type "dict")=false:=by decide
    have isl:(s.heap.push (zaM led)).IsList l us.toArray:=⟨_,gl',rfl,nl,rfl⟩
    unfold Builtin.«set.__init__» noKeywords Builtin.Frozenset.updateFrom
    generalize hit:pyIter=itf
    wp_walk
    subst hit
    refine wpAny_pyIter_list isl ?_
    refine wpAny_bind (wpAny_runValue ?_)
    have ltl:l<s.heap.objs.size:=ztp gl
    have hd3:A.in1.in1.in1.handled=none:=by simp[hh]
    have sz1:(s.heap.push (zaM led)).objs.size=s.heap.objs.size+1:=Heap.size_push ..
    have nel:l≠(s.heap.push (zaM led)).objs.size:=by rw[sz1];exact ztx (Nat.lt_succ_of_lt ltl)
    have nin:s.heap.objs.size∉[(s.heap.push (zaM led)).objs.size,l]:=by
     rw[sz1]
     simp only[List.mem_cons,ztJ,or_false,not_or]
     exact⟨ztx (Nat.lt_succ_self _),Nat.ne_of_gt ltl⟩
    refine ziR ((Walks.list hd3 _ l nel us.toArray).toS) s.heap.objs.size nin xs hlen (fun i v hv=>zkk r i v (by simpa using hv)) (by rw[<-hlen];exact hb) (us.toArray.size-0) 0 _ (by omega) (ztF _)
     ⟨⟨_,ztD _ rfl,rfl,rfl⟩,isl.push _⟩ ?s0 ?fin
    case s0 =>
     have gg:((s.heap.push (zaM led)).push { cls:=.type "list_iterator", data:=.fields #[.ref l,.int 0 0] }).get? s.heap.objs.size=some (zaM led):=zto _ gS
     exact SetOf_congr ((setObjOf_fresh (knd:=strKind P w) led).setOf gg (by unfold scanBound;omega)) (fun _=>rfl) rfl
    case fin =>
     intro z mv sz
     obtain⟨h',g',d',tk',os'⟩:=z
     have e1:g'=s.gens:=mv.gens
     have e2:d'=s.drawn:=mv.drawn
     have e3:os'=s.os:=mv.os
     subst e1 e2 e3
     show wpAny _ _ _ _ _ _
     refine wpAny_pure ?_
     show wpAny _ _ (ret Value.none) _ _ _
     refine wpAny_pure ⟨rfl,h',tk',rfl,sz,fun b o e=>?_⟩
     have lb:=ztp e
     have n1:b≠s.heap.objs.size:=ztx lb
     have n2:b≠(s.heap.push (zaM led)).objs.size:=by rw[sz1];exact ztx (Nat.lt_succ_of_lt lb)
     exact mv.heap b o (by simp only[List.mem_cons,ztJ,or_false,not_or];exact⟨n1,n2⟩) (zto _ (zto _ e))
   ·cases res2 with
    | error e=>exact ziT
    | ok fl2 =>
     cases fl2 with
     | ret v =>
      obtain⟨rfl,h',tk,rfl,sS,kk⟩:=ziT
      repeat (any_goals (first | assumption | wp_step))
      exact h _ _ sS kk
     | _=>exact ziT.elim
  | _=>exact hres.elim
end
section
variable {X:Cx}
def zkl (P:Program)(w:World)(a:Addr)(n:Nat):HO:=.ext fun h=>∃S,h.SetOf (strKind P w) a S n
theorem ziU (hc:X.calm=true):Xl X (.type "set") (fun xs H Q=>∃(p:Addr) (ts:List Str),xs=[.ref p]/\z6 X.K H p (ts.map V.str)/\ts.length<=100/\∀q,H q=none->Q (.ref q) (upd H q (zkl X.prog X.w q (dd ts).length))):=by
 intro pins s σ H xs us Q I r h
 obtain⟨p,ts,rfl,hq,h100,q⟩:=h
 obtain⟨u,rfl,rx⟩:=vals1 r
 cases rx
 obtain⟨its,r',pl,hz⟩:=I.list hq
 refine ziS (I.ok.hd hc) pl.isList r' (Nat.lt_of_le_of_lt (Nat.add_le_add_right h100 1) (by decide)) fun h' tk hS hk=>?_
 refine⟨.ref s.heap.objs.size,_,I.laid hk (zty _) (o:=zkl X.prog X.w s.heap.objs.size (dd ts).length) ?_,rfl,q _ (I.hok.fresh (zty _))⟩
 refine⟨⟨_,hS⟩,?_,?_⟩
 ·obtain⟨o,es,ep,t,ho,_⟩:=hS
  exact⟨o,ho⟩
 ·rintro h1 h2 ⟨S,o,es,ep,t,ho,rest⟩ k
  exact⟨S,o,es,ep,t,k o ho,rest⟩
theorem call_len_set':Xl X (.builtin "len") (fun xs H Q=>∃(p:Addr) (n:Nat),xs=[.ref p]/\H p=some (zkl X.prog X.w p n)/\Q (.int n) H):=by
 intro pins s σ H xs us Q I r h
 obtain⟨p,n,rfl,hp,q⟩:=h
 obtain⟨u,rfl,rx⟩:=vals1 r
 cases rx
 obtain⟨⟨S,o,es,ep,t,ho,hex,hd,_,_,hb,hf,hn⟩,_⟩:=I.hok p _ hp
 have h63:(es.size:Int)<2^63:=by
  have h1:scanBound<2^63:=by decide
  omega
 refine call_len_set ho hex hd hf h63 ⟨.int n,H,I.tok _,⟨s.toks+1,?_⟩,q⟩
 rw[hn]
def zkm (K:Frag)(P:Program)(w:World)(a:Addr)(kvs:List (Str×Value)):Prop:=(a==sysModules)=false/\∃o,K.lookup a=some o/\o.IsDictOf (strKind P w) kvs
theorem zcT {a:Addr}{kvs:List (Str×Value)}(hd:zkm X.K X.prog X.w a kvs):IxR X (fun x y H Q=>∃k u v,x=.ref a/\y=.str k/\valueAt kvs k=some u/\RelV v u/\Q v H):=by
 intro value slice pins s σ H x y v u Q I rx ry h hs
 obtain⟨k,z,vv,rfl,rfl,hv,rv,q⟩:=h
 cases rx
 obtain⟨t,rfl⟩:=ry
 obtain⟨_,o,hk,hdd⟩:=hd
 have D:s.heap.DictOf (strKind X.prog X.w) a kvs:=Heap.dictOf_iff.mpr ⟨o,I.Qq a o hk,hdd⟩
 exact tail_any D.typeIs slot_dict_getitem.lookup (wpAny_getItem_of (strKind_is _ _ k t) D.mapOf hv ⟨vv,H,I.tok _,rv,q⟩) hs
theorem zbA {a:Addr}{kvs:List (Str×Value)}(hd:zkm X.K X.prog X.w a kvs):Vj X (compareOp .NotIn) (fun x y H Q=>∃k,x=.str k/\y=.ref a/\Q (.bl (!(valueAt kvs k).isSome)) H):=by
 intro pins s σ H x y v u Q I rx ry h
 obtain⟨k,rfl,rfl,q⟩:=h
 cases ry
 obtain⟨t,rfl⟩:=rx
 obtain⟨hs,o,hk,hdd⟩:=hd
 have D:s.heap.DictOf (strKind X.prog X.w) a kvs:=Heap.dictOf_iff.mpr ⟨o,I.Qq a o hk,hdd⟩
 exact wpAny_notIn_of (strKind_is _ _ k t) hs D.mapOf ⟨.bl _,H,I.tok _,rfl,q⟩
theorem Inv.zgV {pins:List (Addr×Obj)}{σ:St}{H:Hp}{s:Shared}{h':Heap}{t':Nat}{fp:List Addr}(I:Inv X pins σ H s)(k:∀b o,b∉fp->s.heap.get? b=some o->h'.get? b=some o)(ex:∀b∈fp,∃o,h'.get? b=some o)(hf:∀b∈fp,zbx X pins H b) :
  Inv X pins σ H { s with heap:=h',toks:=t' }:=by
 have nit:∀b u,H b=some u->b∉fp:=fun b u e z=>by rw[(hf b z).1] at e;cases e
 refine I.step (g':=s.gens) (d':=s.drawn) (ch:=fp) (fun b hb=>⟨(hf b hb).2.2.2.1,(hf b hb).2.1,(hf b hb).2.2.2.2.1,(hf b hb).2.2.2.2.2⟩) (fun b o _ _ hc e _=>k b o hc e) (fun b o _ _ hc e _=>⟨o.slots,k b o hc e⟩) (fun _ _ _ _ n=>n)
  (fun b o hc e=>⟨o,k b o hc e⟩) (fun _ _ e=>e) (fun _ _ _ e=>e) (fun b ps e=>⟨#[],by rw[e];simp⟩) (fun m hm=>?_) (fun b u e=>?_) I.bare
 ·obtain⟨o,es,ep,ho,r⟩:=hm
  exact⟨o,es,ep,k _ o (fun z=>(hf _ z).2.1 rfl) ho,r⟩
 ·refine(I.hok b u e).stay (fun c v hc q=>k c v ?_ q) (fun _ q=>q) fun _ _ q=>q
  rcases hc with z | z
  ·rw[z];exact nit b u e
  ·exact nit c _ z
theorem boot_enumerate:bootBuiltins "enumerate"=some (.type "enumerate"):=by decide +kernel
end
theorem yG:bootBuiltins "len"=some (.builtin "len"):=by decide +kernel
theorem zaN:bootBuiltins "all"=some (.builtin "all"):=by decide +kernel
theorem yw:bootBuiltins "isinstance"=some (.builtin "isinstance"):=by decide +kernel
theorem zmz:bootBuiltins "int"=some (.type "int"):=by decide +kernel
theorem zmA:bootBuiltins "str"=some (.type "str"):=by decide +kernel
theorem zd4:bootBuiltins "tuple"=some (.type "tuple"):=by decide +kernel
theorem RX:bootBuiltins "list"=some (.type "list"):=by decide +kernel
theorem zmB:bootBuiltins "set"=some (.type "set"):=by decide +kernel
theorem zfL {v:V}{u:Value}(h:zfr u=some v):RelV v u:=by
 cases u<;>simp only[zfr,Option.some.injEq,reduceCtorEq] at h<;>subst h<;>first | exact rfl | exact⟨_,rfl⟩
theorem Jg:∀{us:List Value} {xs:List V},us.map zfr=xs.map some->Vals xs us
 | [],[],_=>.nil
 | u::us,x::xs,h=>by
  rw[ztH,ztH] at h
  injection h with h1 h2
  exact .cons (zfL h1) (Jg h2)
 | [],_::_,h=>by cases h
 | _::_,[],h=>by cases h
theorem zlH {K:Frag}{H:Hp}{p:Addr}{od:Option Addr}{it:Array Value}{n:Nat}{sl:Array (Option Value)}{xs:List V}(l:K.lookup p=some ⟨.type "tuple", od,.seq it n,sl⟩)(v:it.toList.map zfr=xs.map some)(hz:xs.length<=1000):vQ K H p xs:=by
 have r:=Jg v
 refine .inr ⟨_,it,n,l,rfl,rfl,?_,r⟩
 have e:xs.length=it.size:=by have:=r.length;simpa using this
 rw[<-e]
 exact ztB (yc hz)
theorem zmC {P:Program}{w:World}:Pairs (strKind P w) [] []/\∀e∈([]:List DictEntry),∃k,(strKind P w).is k e.key=true/\e.hash=(strKind P w).hash k:=⟨.nil,fun _ h=>nomatch h⟩
theorem zkn {P:Program}{w:World}{k:Str}{t:Tok}{v:Value}{es:List DictEntry}{kvs:List (Str×Value)}(h:Pairs (strKind P w) es kvs/\∀e∈es,∃k,(strKind P w).is k e.key=true/\e.hash=(strKind P w).hash k) :
  Pairs (strKind P w) (⟨hashStr w k,.str k t,v⟩::es) ((k,v)::kvs)/\∀e∈(⟨hashStr w k,.str k t,v⟩::es:List DictEntry),∃k,(strKind P w).is k e.key=true/\e.hash=(strKind P w).hash k:=by
 refine⟨.cons (strKind_is _ _ k t) rfl h.1,fun e he=>?_⟩
 rcases List.mem_cons.mp he with z | z
 ·subst z;exact⟨k,strKind_is _ _ k t,rfl⟩
 ·exact h.2 e z
theorem zko {P:Program}{w:World}{K:Frag}{p:Addr}{es:Array DictEntry}{ep:Nat}{el:List DictEntry}{kvs:List (Str×Value)}(l:K.lookup p=some ⟨.type "dict", none,.dict es ep,#[]⟩)(e:es.toList=el)(s:(p==sysModules)=false)
  (h:Pairs (strKind P w) el kvs/\∀e∈el,∃k,(strKind P w).is k e.key=true/\e.hash=(strKind P w).hash k)(nd:(kvs.map (·.1)).Nodup):zkm K P w p kvs:=by
 subst e
 exact⟨s,_,l,es,ep,⟨rfl,rfl,rfl⟩,rfl,fun x hx=>h.2 x (by simpa using hx),h.1,nd⟩
end L2
namespace uY
open PySem
inductive Sn where
 | c0 (y:Bool)
 | mk (x:Str)
 | nt (s:Sn)
 | b2 (o:Fin 4) (s t:Sn)
 | q1 (o:Bool) (x:Str) (s:Sn)
def w2:Fin 4->Str
 | 0 => "and"
 | 1 => "or"
 | 2 => "either"
 | 3 => "if"
namespace Sn
def word:Sn->Str
 | c0 true => "yes"
 | c0 false => "no"
 | mk _ => "mark"
 | nt _ => "not"
 | b2 o _ _=>w2 o
 | q1 true _ _ => "some"
 | q1 false _ _ => "each"
def letters:Sn->List Str
 | mk x=>[x]
 | q1 _ x _=>[x]
 | _=>[]
def parts:Sn->List Sn
 | nt s=>[s]
 | b2 _ s t=>[s,t]
 | q1 _ _ s=>[s]
 | _=>[]
def count:Sn->Nat
 | nt s=>1+s.count
 | b2 _ s t=>1+(s.count+t.count)
 | q1 _ _ s=>1+s.count
 | _=>1
def depth:Sn->Nat
 | nt s=>1+s.depth
 | b2 _ s t=>1+max s.depth t.depth
 | q1 _ _ s=>1+s.depth
 | _=>1
def Kc (os:List Str):Sn->Prop
 | c0 _=>True
 | mk x=>x∈os
 | nt s=>s.Kc os
 | b2 _ s t=>s.Kc os/\t.Kc os
 | q1 _ x s=>x∈os/\s.Kc os
def op2:Fin 4->Bool->Bool->Bool
 | 0,a,b=>a&&b
 | 1,a,b=>a||b
 | 2,a,b=>a != b
 | 3,a,b=>!a||b
def val:Sn->(Str->Bool)->Bool
 | c0 y,_=>y
 | mk x,e=>e x
 | nt s,e=>!s.val e
 | b2 o s t,e=>op2 o (s.val e) (t.val e)
 | q1 true x s,e=>s.val (fun y=>if y=x then true else e y)||s.val (fun y=>if y=x then false else e y)
 | q1 false x s,e=>s.val (fun y=>if y=x then true else e y)&&s.val (fun y=>if y=x then false else e y)
theorem val_congr {os:List Str}:∀(s:Sn) {e e':Str->Bool},s.Kc os->(∀x∈os,e x=e' x)->s.val e=s.val e'
 | c0 _,_,_,_,_=>rfl
 | mk x,_,_,h,q=>q x h
 | nt s,_,_,h,q=>by unfold val;rw[val_congr s h q]
 | b2 o s t,_,_,h,q=>by unfold val;rw[val_congr s h.1 q,val_congr t h.2 q]
 | q1 o x s,e,e',h,q=>by
  have k:∀b:Bool,s.val (fun y=>if y=x then b else e y)=s.val (fun y=>if y=x then b else e' y):=fun b=>val_congr s h.2 fun y hy=>by
   by_cases hx:y=x
   ·rw[if_pos hx,if_pos hx]
   ·rw[if_neg hx,if_neg hx,q y hy]
  cases o<;>(unfold val;rw[k,k])
theorem Ko:∀s:Sn,1<=s.depth
 | c0 _=>zty _
 | mk _=>zty _
 | nt _=>by unfold depth;omega
 | b2 _ _ _=>by unfold depth;omega
 | q1 _ _ _=>by unfold depth;omega
theorem Jh:∀s:Sn,s.count=1+(s.parts.map count).sum
 | c0 _=>rfl
 | mk _=>rfl
 | nt _=>by simp[count,parts]
 | b2 _ _ _=>by simp[count,parts]
 | q1 _ _ _=>by simp[count,parts]
theorem SQ:∀(s:Sn),∀t∈s.parts,t.depth+1<=s.depth
 | c0 _,t,h=>by simp[parts] at h
 | mk _,t,h=>by simp[parts] at h
 | nt s,t,h=>by simp[parts] at h;subst h;show t.depth+1<=1+t.depth;omega
 | b2 _ s u,t,h=>by
  simp[parts] at h
  rcases h with h | h
  ·subst h;show t.depth+1<=1+max t.depth u.depth;omega
  ·subst h;show t.depth+1<=1+max s.depth t.depth;omega
 | q1 _ _ s,t,h=>by simp[parts] at h;subst h;show t.depth+1<=1+t.depth;omega
theorem zcg {os:List Str}:∀(s:Sn),s.Kc os->∀t∈s.parts,t.Kc os
 | c0 _,_,t,h=>by simp[parts] at h
 | mk _,_,t,h=>by simp[parts] at h
 | nt s,q,t,h=>by simp[parts] at h;subst h;exact q
 | b2 _ s u,q,t,h=>by
  simp[parts] at h
  rcases h with h | h<;>subst h
  ·exact q.1
  ·exact q.2
 | q1 _ _ s,q,t,h=>by simp[parts] at h;subst h;exact q.2
theorem zd5 {os:List Str}:∀(s:Sn),s.Kc os->∀x∈s.letters,x∈os
 | c0 _,_,t,h=>by simp[letters] at h
 | mk _,q,t,h=>by simp[letters] at h;subst h;exact q
 | nt s,q,t,h=>by simp[letters] at h
 | b2 _ s u,q,t,h=>by simp[letters] at h
 | q1 _ _ s,q,t,h=>by simp[letters] at h;subst h;exact q.1
end Sn
theorem vO (b p:Nat):(b+2^p).testBit p=!b.testBit p:=by rw[Nat.add_comm];exact Nat.testBit_two_pow_add_eq b p
theorem RZ {b p j:Nat}(h:j<p):(b+2^p).testBit j=b.testBit j:=by rw[Nat.add_comm];exact Nat.testBit_two_pow_add_gt h b
theorem ziV {b p:Nat}(h:b.testBit p=false):b%2^(p+1)<2^p:=by
 have e:b%2^(p+1)=b%2^p+2^p*(b / 2^p%2):=by
  rw[Nat.pow_succ];exact Nat.mod_mul
 have z:b / 2^p%2=0:=by
  rw[Nat.testBit_eq_decide_div_mod_eq] at h
  have:=of_decide_eq_false h
  omega
 rw[e,z,Nat.mul_zero,Nat.add_zero]
 exact Nat.mod_lt b (Nat.two_pow_pos p)
theorem ziW (x i j:Nat):x.testBit (i+j)=(x / 2^i).testBit j:=by
 rw[Nat.testBit_div_two_pow,Nat.add_comm]
theorem zch {b p j:Nat}(h:p<j)(h0:b.testBit p=false):(b+2^p).testBit j=b.testBit j:=by
 obtain⟨k,rfl⟩:∃k,j=(p+1)+k:=⟨j-(p+1),by omega⟩
 rw[ziW,ziW]
 have hm:=ziV h0
 have e:(b+2^p) / 2^(p+1)=b / 2^(p+1):=by
  have hp:2^(p+1)=2^p+2^p:=by rw[Nat.pow_succ];omega
  have d:=Nat.div_add_mod b (2^(p+1))
  have pos:=Nat.two_pow_pos (p+1)
  rw[Nat.div_eq_iff pos]
  have c:b / 2^(p+1)*2^(p+1)=2^(p+1)*(b / 2^(p+1)):=Nat.mul_comm _ _
  rw[c]
  omega
 rw[e]
def zK (b p:Nat)(v:Bool):Nat:=if b.testBit p=v then b else if v then b+2^p else b-2^p
theorem zci {b p:Nat}(h:b.testBit p=true):2^p<=b:=Nat.ge_two_pow_of_testBit h
theorem zT (b p j:Nat)(v:Bool):(zK b p v).testBit j=if j=p then v else b.testBit j:=by
 unfold zK
 by_cases h:b.testBit p=v
 ·rw[if_pos h]
  by_cases hj:j=p
  ·rw[if_pos hj,hj,h]
  ·rw[if_neg hj]
 ·rw[if_neg h]
  cases v with
  | true =>
   have h0:b.testBit p=false:=by simpa using h
   rw[if_pos rfl]
   by_cases hj:j=p
   ·subst hj;rw[if_pos rfl,vO,h0];rfl
   ·rw[if_neg hj]
    rcases Nat.lt_or_gt_of_ne hj with q | q
    ·exact RZ q
    ·exact zch q h0
  | false =>
   have h1:b.testBit p=true:=by simpa using h
   rw[if_neg ztm]
   have ge:=zci h1
   obtain⟨c,hc⟩:∃c,b=c+2^p:=⟨b-2^p,by omega⟩
   have h0:c.testBit p=false:=by
    rw[hc,vO] at h1
    simpa using h1
   have e:b-2^p=c:=by omega
   rw[e,hc]
   by_cases hj:j=p
   ·subst hj;rw[if_pos rfl,h0]
   ·rw[if_neg hj]
    rcases Nat.lt_or_gt_of_ne hj with q | q
    ·exact(RZ q).symm
    ·exact(zch q h0).symm
theorem zX {b p n:Nat}{v:Bool}(hb:b<2^n)(hp:p<n):zK b p v<2^n:=by
 refine Nat.lt_pow_two_of_testBit _ fun i hi=>?_
 rw[zT,if_neg (by omega)]
 exact Nat.testBit_lt_two_pow (ztr hb (ztO (by decide) hi))
def zW (n:Nat)(N:Nat)(f:Nat->Bool):Prop:=∀b,N.testBit b=(decide (b<2^n)&&f b)
theorem W3 (n:Nat):zW n (2^2^n-1) (fun _=>true):=fun b=>by
 rw[Nat.testBit_two_pow_sub_one,Bool.and_true]
theorem v9 (n:Nat):zW n 0 (fun _=>false):=fun b=>by simp
theorem UG {n N M:Nat}{f g:Nat->Bool}(h:zW n N f)(k:zW n M g):zW n (N ^^^ M) (fun b=>f b != g b):=fun b=>by
 rw[Nat.testBit_xor,h b,k b]
 show _=(decide (b<2^n)&&(f b != g b))
 cases decide (b<2^n)<;>cases f b<;>cases g b<;>rfl
theorem uZ {n N M:Nat}{f g:Nat->Bool}(h:zW n N f)(k:zW n M g):zW n (N&&&M) (fun b=>f b&&g b):=fun b=>by
 rw[Nat.testBit_and,h b,k b]
 show _=(decide (b<2^n)&&(f b&&g b))
 cases decide (b<2^n)<;>cases f b<;>cases g b<;>rfl
theorem Vl {n N M:Nat}{f g:Nat->Bool}(h:zW n N f)(k:zW n M g):zW n (N|||M) (fun b=>f b||g b):=fun b=>by
 rw[Nat.testBit_or,h b,k b]
 show _=(decide (b<2^n)&&(f b||g b))
 cases decide (b<2^n)<;>cases f b<;>cases g b<;>rfl
theorem yK {n N:Nat}{f g:Nat->Bool}(h:zW n N f)(e:∀b,b<2^n->f b=g b):zW n N g:=fun b=>by
 rw[h b]
 by_cases hb:b<2^n
 ·rw[e b hb]
 ·rw[decide_eq_false hb];rfl
theorem ziX {n N:Nat}{f:Nat->Bool}(h:zW n N f):N<2^2^n:=Nat.lt_pow_two_of_testBit _ fun i hi=>by
 rw[h i,decide_eq_false (by omega)];rfl
theorem zhN (p:Nat):zW (p+1) ((2^2^p-1)*2^2^p) (fun b=>b.testBit p):=fun b=>by
 rw[Nat.testBit_mul_two_pow,Nat.testBit_two_pow_sub_one]
 show _=(decide (b<2^(p+1))&&b.testBit p)
 have hp:2^(p+1)=2^p+2^p:=by rw[Nat.pow_succ];omega
 by_cases h1:2^p<=b
 ·by_cases h2:b<2^(p+1)
  ·have e:b.testBit p=true:=by
    obtain⟨c,rfl⟩:∃c,b=c+2^p:=⟨b-2^p,by omega⟩
    rw[vO,Nat.testBit_lt_two_pow (by omega)]
    rfl
   rw[e]
   simp[h1,h2]
   omega
  ·simp[h2]
   intro _
   omega
 ·have e:b.testBit p=false:=Nat.testBit_lt_two_pow (by omega)
  rw[e]
  simp[h1]
theorem zfM {p m N:Nat}(hp:p<m)(h:zW m N (fun b=>b.testBit p)):zW (m+1) (N|||N*2^2^m) (fun b=>b.testBit p):=fun b=>by
 rw[Nat.testBit_or,Nat.testBit_mul_two_pow,h b,h (b-2^m)]
 show(_||(_&&(_&&(b-2^m).testBit p)))=(decide (b<2^(m+1))&&b.testBit p)
 have hm:2^(m+1)=2^m+2^m:=by rw[Nat.pow_succ];omega
 by_cases h1:b<2^m
 ·have h2:b<2^(m+1):=by omega
  have h3:¬ 2^m<=b:=by omega
  simp[h1,h2,h3]
 ·have h3:2^m<=b:=by omega
  have e:(b-2^m).testBit p=b.testBit p:=by
   obtain⟨c,rfl⟩:∃c,b=c+2^m:=⟨b-2^m,by omega⟩
   rw[RZ hp,Nat.add_sub_cancel]
  rw[e]
  by_cases h2:b<2^(m+1)
  ·have h4:b-2^m<2^m:=by omega
   simp[h1,h2,h3,h4]
  ·have h4:¬b-2^m<2^m:=by omega
   simp[h1,h2,h3,h4]
theorem ziY {n p N R:Nat}{f:Nat->Bool}(hp:p<n)(h:zW n N f)(r:zW n R (fun b=>b.testBit p)) :
  zW n ((N&&&R) / 2^2^p|||(N ^^^ (N&&&R))*2^2^p) (fun b=>f (zK b p (!b.testBit p))):=fun b=>by
 have o:=uZ h r
 have z:=UG h o
 have pp:=Nat.two_pow_pos p
 rw[Nat.testBit_or,Nat.testBit_mul_two_pow,Nat.testBit_div_two_pow,o,z]
 dsimp only
 by_cases hb:b<2^n
 ·cases hbit:b.testBit p with
  | false =>
   have e:zK b p (!false)=b+2^p:=by
    unfold zK
    rw[hbit,if_neg (by decide),if_pos (by decide)]
   have lt:b+2^p<2^n:=by rw[<-e];exact zX hb hp
   rw[e,vO,hbit]
   by_cases h1:2^p<=b
   ·have e2:(b-2^p).testBit p=true:=by
     obtain⟨c,rfl⟩:∃c,b=c+2^p:=⟨b-2^p,by omega⟩
     rw[vO] at hbit
     rw[Nat.add_sub_cancel]
     simpa using hbit
    rw[e2]
    have h4:b-2^p<2^n:=by omega
    simp[hb,lt,h1,h4]
   ·simp[hb,lt,h1]
  | true =>
   have ge:=zci hbit
   have e:zK b p (!true)=b-2^p:=by
    unfold zK
    rw[hbit,if_neg (by decide),if_neg (by decide)]
   have e2:(b-2^p).testBit p=false:=by
    obtain⟨c,rfl⟩:∃c,b=c+2^p:=⟨b-2^p,by omega⟩
    rw[vO] at hbit
    rw[Nat.add_sub_cancel]
    simpa using hbit
   rw[e,vO,hbit,e2]
   have h4:b-2^p<2^n:=by omega
   simp[hb,ge,h4]
 ·have h3:¬b+2^p<2^n:=by omega
  have h5:(decide (2^p<=b)&&(decide (b-2^p<2^n)&&(f (b-2^p) != (f (b-2^p)&&(b-2^p).testBit p))))=false:=by
   by_cases h1:2^p<=b
   ·by_cases h4:b-2^p<2^n
    ·
     have e:(b-2^p).testBit p=true:=by
      cases q:(b-2^p).testBit p with
      | true=>rfl
      | false =>
       exfalso
       have l:=zX (v:=true) h4 hp
       unfold zK at l
       rw[q,if_neg (by decide),if_pos rfl] at l
       omega
     rw[e]
     cases f (b-2^p)<;>simp
    ·simp[h4]
   ·simp[h1]
  rw[h5]
  simp[hb,h3]
theorem Qy (a:Nat):a%2=(a.testBit 0).toNat:=by
 rw[Nat.testBit_zero]
 have:=Nat.mod_two_eq_zero_or_one a
 rcases this with h | h<;>rw[h]<;>rfl
theorem zgW:∀(n a b:Nat),a<=n->(a ^^^ b)+2*(a&&&b)=a+b
 | 0,a,b,h=>by
  have:a=0:=by omega
  subst this;simp
 | n+1,a,b,h=>by
  by_cases h0:a=0
  ·subst h0;simp
  ·have ih:=zgW n (a / 2) (b / 2) (by omega)
   have e1:(a ^^^ b) / 2=a / 2 ^^^ b / 2:=Nat.xor_div_two
   have e2:(a&&&b) / 2=a / 2&&&b / 2:=Nat.and_div_two
   have d1:=Nat.div_add_mod (a ^^^ b) 2
   have d2:=Nat.div_add_mod (a&&&b) 2
   have d3:=Nat.div_add_mod a 2
   have d4:=Nat.div_add_mod b 2
   rw[e1] at d1
   rw[e2] at d2
   cases ha:a.testBit 0<;>cases hb:b.testBit 0
   ·have m1:(a ^^^ b)%2=0:=by rw[Qy,Nat.testBit_xor,ha,hb];rfl
    have m2:(a&&&b)%2=0:=by rw[Qy,Nat.testBit_and,ha,hb];rfl
    have m3:a%2=0:=by rw[Qy,ha];rfl
    have m4:b%2=0:=by rw[Qy,hb];rfl
    omega
   ·have m1:(a ^^^ b)%2=1:=by rw[Qy,Nat.testBit_xor,ha,hb];rfl
    have m2:(a&&&b)%2=0:=by rw[Qy,Nat.testBit_and,ha,hb];rfl
    have m3:a%2=0:=by rw[Qy,ha];rfl
    have m4:b%2=1:=by rw[Qy,hb];rfl
    omega
   ·have m1:(a ^^^ b)%2=1:=by rw[Qy,Nat.testBit_xor,ha,hb];rfl
    have m2:(a&&&b)%2=0:=by rw[Qy,Nat.testBit_and,ha,hb];rfl
    have m3:a%2=1:=by rw[Qy,ha];rfl
    have m4:b%2=0:=by rw[Qy,hb];rfl
    omega
   ·have m1:(a ^^^ b)%2=0:=by rw[Qy,Nat.testBit_xor,ha,hb];rfl
    have m2:(a&&&b)%2=1:=by rw[Qy,Nat.testBit_and,ha,hb];rfl
    have m3:a%2=1:=by rw[Qy,ha];rfl
    have m4:b%2=1:=by rw[Qy,hb];rfl
    omega
theorem ziZ:∀(n a b:Nat),a<=n->(a|||b)+(a&&&b)=a+b
 | 0,a,b,h=>by
  have:a=0:=by omega
  subst this;simp
 | n+1,a,b,h=>by
  by_cases h0:a=0
  ·subst h0;simp
  ·have ih:=ziZ n (a / 2) (b / 2) (by omega)
   have e1:(a|||b) / 2=a / 2|||b / 2:=Nat.or_div_two
   have e2:(a&&&b) / 2=a / 2&&&b / 2:=Nat.and_div_two
   have d1:=Nat.div_add_mod (a|||b) 2
   have d2:=Nat.div_add_mod (a&&&b) 2
   have d3:=Nat.div_add_mod a 2
   have d4:=Nat.div_add_mod b 2
   rw[e1] at d1
   rw[e2] at d2
   cases ha:a.testBit 0<;>cases hb:b.testBit 0
   ·have m1:(a|||b)%2=0:=by rw[Qy,Nat.testBit_or,ha,hb];rfl
    have m2:(a&&&b)%2=0:=by rw[Qy,Nat.testBit_and,ha,hb];rfl
    have m3:a%2=0:=by rw[Qy,ha];rfl
    have m4:b%2=0:=by rw[Qy,hb];rfl
    omega
   ·have m1:(a|||b)%2=1:=by rw[Qy,Nat.testBit_or,ha,hb];rfl
    have m2:(a&&&b)%2=0:=by rw[Qy,Nat.testBit_and,ha,hb];rfl
    have m3:a%2=0:=by rw[Qy,ha];rfl
    have m4:b%2=1:=by rw[Qy,hb];rfl
    omega
   ·have m1:(a|||b)%2=1:=by rw[Qy,Nat.testBit_or,ha,hb];rfl
    have m2:(a&&&b)%2=0:=by rw[Qy,Nat.testBit_and,ha,hb];rfl
    have m3:a%2=1:=by rw[Qy,ha];rfl
    have m4:b%2=0:=by rw[Qy,hb];rfl
    omega
   ·have m1:(a|||b)%2=1:=by rw[Qy,Nat.testBit_or,ha,hb];rfl
    have m2:(a&&&b)%2=1:=by rw[Qy,Nat.testBit_and,ha,hb];rfl
    have m3:a%2=1:=by rw[Qy,ha];rfl
    have m4:b%2=1:=by rw[Qy,hb];rfl
    omega
theorem zmD (a b:Nat):Builtin.bitAnd (a:Int) (b:Int)=((a&&&b:Nat):Int):=by
 unfold Builtin.bitAnd
 rw[decide_eq_true (Int.natCast_nonneg a),decide_eq_true (Int.natCast_nonneg b)]
 simp
theorem orI (a b:Nat):Builtin.bitOr (a:Int) (b:Int)=((a|||b:Nat):Int):=by
 rw[PyProof.Rows.bitOr_and,zmD]
 have:=ziZ a a b (zty _)
 omega
theorem zp4 (a b:Nat):Builtin.bitXor (a:Int) (b:Int)=((a ^^^ b:Nat):Int):=by
 rw[PyProof.Rows.bitXor_and,zmD]
 have:=zgW a a b (zty _)
 omega
theorem zoc (n:Nat):(2:Int)^n=((2^n:Nat):Int):=by simp
end uY
namespace L2
open PySem PySem.Spec PyProof.Rows uY
section
variable {X:Cx}
def zod:R2:=fun x y H Q=>∃a n:Nat,x=.int a/\y=.int n/\a<2^10000/\n<=10000/\Q (.int (a*2^n:Nat)) H
theorem YB:Vj X (binaryOp .LShift) zod:=by
 intro pins s σ H x y v u Q I rx ry h
 obtain⟨a,n,rfl,rfl,ha,hn,q⟩:=h
 obtain⟨t,rfl⟩:=rx
 obtain⟨t',rfl⟩:=ry
 have hb:Builtin.Int.intBits (a:Int)<=10000:=intBits_le (by simpa using ha)
 refine lshift_int (Int.natCast_nonneg n) ?_ ?_
 ·have e:(2:Int)^27=134217728:=by decide
  rw[e];omega
 ·rw[Int.toNat_natCast]
  have e:(a:Int)*2^n=((a*2^n:Nat):Int):=by rw[zoc,Int.natCast_mul]
  rw[e]
  exact⟨.int (a*2^n:Nat),H,I.tok _,⟨_,rfl⟩,q⟩
def zoe:R2:=fun x y H Q=>∃a n:Nat,x=.int a/\y=.int n/\Q (.int (a / 2^n:Nat)) H
theorem zkp:Vj X (binaryOp .RShift) zoe:=by
 intro pins s σ H x y v u Q I rx ry h
 obtain⟨a,n,rfl,rfl,q⟩:=h
 refine zmk pins s σ H _ _ v u Q I rx ry ⟨_,_,rfl,rfl,Int.natCast_nonneg n,?_⟩
 show Q (.int ((a:Int) / 2^(n:Int).toNat)) H
 rw[Int.toNat_natCast,zoc,<-Int.natCast_ediv]
 exact q
def rN2 (g:Nat->Nat->Nat):R2:=fun x y H Q=>∃a b:Nat,x=.int a/\y=.int b/\Q (.int (g a b:Nat)) H
theorem u6:Vj X (binaryOp .BitAnd) (rN2 (·&&&·)):=by
 intro pins s σ H x y v u Q I rx ry h
 obtain⟨a,b,rfl,rfl,q⟩:=h
 exact zml pins s σ H _ _ v u Q I rx ry ⟨_,_,rfl,rfl,by show Q (.int (Builtin.bitAnd a b)) H;rw[zmD];exact q⟩
theorem Wh:Vj X (binaryOp .BitOr) (rN2 (·|||·)):=by
 intro pins s σ H x y v u Q I rx ry h
 obtain⟨a,b,rfl,rfl,q⟩:=h
 exact znV pins s σ H _ _ v u Q I rx ry ⟨_,_,rfl,rfl,by show Q (.int (Builtin.bitOr a b)) H;rw[orI];exact q⟩
theorem R3:Vj X (binaryOp .BitXor) (rN2 (· ^^^ ·)):=by
 intro pins s σ H x y v u Q I rx ry h
 obtain⟨a,b,rfl,rfl,q⟩:=h
 exact zmm pins s σ H _ _ v u Q I rx ry ⟨_,_,rfl,rfl,by show Q (.int (Builtin.bitXor a b)) H;rw[zp4];exact q⟩
end
end L2
namespace L2
open PySem PySem.Spec PyProof.Rows
def strsOf:List Expr->Option (List Str)
 | []=>some []
 | .Constant (.str x) _ _::r=>(strsOf r).map (x::·)
 | _=>none
theorem zd6 {e:Expr}{r:List Expr}{xs:List Str}(h:strsOf (e::r)=some xs):∃x j p ys,e=.Constant (.str x) j p/\strsOf r=some ys/\xs=x::ys:=by
 cases e with
 | Constant c j p =>
  cases c with
  | str x =>
   have h':(strsOf r).map (x::·)=some xs:=h
   cases hr:strsOf r with
   | none=>rw[hr] at h';cases h'
   | some ys =>
    rw[hr] at h'
    exact⟨x,j,p,ys,rfl,rfl,(ztN h').symm⟩
  | _=>cases h
 | _=>cases h
def zof (xs:List Str):TA:=fun _ H Q=>Q (xs.map V.str) H
def zlI (xs:List Str):TE:=fun _ H Q=>xs.length<=sizeLine/\∀p,H p=none->Q (.ref p) (upd H p (.lst (xs.map V.str)))
section
variable {X:Cx}
theorem zkq {es:List Expr}:∀{xs:List Str},strsOf es=some xs->PA X es (zof xs):=by
 induction es with
 | nil =>
  intro xs h
  cases h
  exact fun pos pins s σ H Q I q=>zc pos pins s σ H Q I q
 | cons e r ih =>
  intro xs h
  obtain⟨x,j,p,ys,rfl,hr,rfl⟩:=zd6 h
  exact fun pos pins s σ H Q I q=>za (yt (x:=x) (j:=j) (pos:=p)) (ih hr) rfl pos pins s σ H Q I q
theorem zgX {es:List Expr}{pos:Pos}{xs:List Str}(h:strsOf es=some xs):PE X (.List es pos) (zlI xs):=by
 intro pins s σ H Q I q
 refine vg (zkq h) pins s σ H Q I ⟨?_,q.2⟩
 rw[zti];exact q.1
def zcU:Stmt->Option (Str×List Str)
 | .Assign [.Name x _] (.List es _) _=>(strsOf es).map (x,·)
 | _=>none
theorem zcV {st:Stmt}{x:Str}{xs:List Str}(h:zcU st=some (x,xs)):∃p es q r,st=.Assign [.Name x p] (.List es q) r/\strsOf es=some xs:=by
 unfold zcU at h
 split at h
 ·rename_i y p es q r
  cases hs:strsOf es with
  | none=>rw[hs] at h;cases h
  | some ys =>
   rw[hs] at h
   cases h
   exact⟨_,_,_,_,rfl,hs⟩
 ·cases h
theorem zkr {i:Nat}{x:Str}{xs:List Str}{st:Stmt}(h:zcU st=some (x,xs))(hN:X.N.Nodup)(hi:X.N[i]?=some x)(hx:Loc X.env.scope x)(hf:X.fn x=true\/X.env.scope.names.lookup x=some .local):PS X st (zj5 (zlI xs) (W0 i)):=by
 obtain⟨p,es,q,r,rfl,hs⟩:=zcV h
 exact Yg hN hi hx (zgX hs) rfl hf
end
end L2
set_option exponentiation.threshold 20000
namespace uY
open PySem L2
section
variable {K:Frag}
theorem zd7 {a k:Nat}(h:a<2^k)(hk:k<=10000):a<2^10000:=ztr h (ztO (by decide) hk)
theorem zhO {n:Nat}(hn:n<=8):2^n<=256:=ztO (n:=2) (by decide) hn
inductive vA (vs:List V)(H:Hp)(Q:VK)(E9:XK):Prop
 | mk (n:Nat) (_:vs=[.int n]) (_:n<=8) (_:Q (.int ((2^2^n-1:Nat):Int)) H):vA vs H Q E9
inductive vh (vs:List V)(H:Hp)(Q:VK)(E9:XK):Prop
 | mk (p n:Nat) (_:vs=[.int p,.int n]) (_:p<n) (_:n<=8) (_:∀R:Nat,zW n R (fun b=>b.testBit p)->Q (.int R) H):vh vs H Q E9
inductive XQ (vs:List V)(H:Hp)(Q:VK)(E9:XK):Prop
 | mk (N p n:Nat) (f:Nat->Bool) (_:vs=[.int N,.int p,.int n]) (_:p<n) (_:n<=8) (_:zW n N f) (_:∀R:Nat,zW n R (fun b=>f (zK b p (!b.testBit p)))->Q (.int R) H):XQ vs H Q E9
def uH:List Bool->Nat
 | []=>0
 | b::r=>b.toNat+2*uH r
theorem zaO:∀r:List Bool,uH r<2^r.length
 | []=>by decide
 | b::r=>by
  have:=zaO r
  show b.toNat+2*uH r<2^(r.length+1)
  rw[Nat.pow_succ]
  cases b<;>simp<;>omega
theorem Ji:∀(r:List Bool) (i:Nat),(uH r).testBit i=(r[i]?).getD false
 | [],i=>by simp[uH]
 | b::r,0=>by
  show(b.toNat+2*uH r).testBit 0=b
  rw[Nat.testBit_zero]
  cases b<;>simp<;>omega
 | b::r,i+1=>by
  show(b.toNat+2*uH r).testBit (i+1)=(r[i]?).getD false
  rw[Nat.testBit_succ,<-Ji r i]
  have:(b.toNat+2*uH r) / 2=uH r:=by cases b<;>simp<;>omega
  rw[this]
abbrev Sg (r:List Bool):List V:=r.map fun b=>V.int (b.toNat:Nat)
theorem N7 {H:Hp}{p:Addr}(h:H p=none)(o:HO):Same H (upd H p o):=fun b u q=>by rw[zE (zB q h)];exact q
inductive N8 (K:Frag)(vs:List V)(H:Hp)(Q:VK)(E9:XK):Prop
 | mk (l:Addr) (ns:List Int) (i:Int) (_:vs=[.ref l,.int i]) (_:z6 K H l (ns.map V.int)) (_:0<=i) (_:∀v:Int,Q (.int v) H):N8 K vs H Q E9
inductive Q7 (vs:List V)(H:Hp)(Q:VK)(E9:XK):Prop
 | mk (c:Int) (k:Nat) (b:Int) (_:vs=[.int c,.int k,.int b]) (_:k<=40) (_:0<b) (_:b<1073741824) (_:∀r:Int,0<=r->r<b->Q (.int r) H):Q7 vs H Q E9
def uI:List Str:=["a", "b", "c", "d", "e", "f", "g", "h"]
structure Jj (os:List Str):Prop where
 nd:os.Nodup
 mem:∀x∈os,x∈uI
 pos:0<os.length
theorem Ma {α:Type}[DecidableEq α]:∀{xs ys:List α},xs.Nodup->(∀x∈xs,x∈ys)->xs.length<=ys.length
 | [],_,_,_=>ztF _
 | x::xs,ys,nd,h=>by
  obtain⟨h1,h2⟩:=List.nodup_cons.mp nd
  have hx:=h x ztC
  have ih:=Ma (xs:=xs) (ys:=ys.erase x) h2 fun y hy=>(List.mem_erase_of_ne (fun e:y=x=>h1 (by rw[<-e];exact hy))).mpr (h y (ztt _ hy))
  rw[List.length_erase_of_mem hx] at ih
  have:=List.length_pos_of_mem hx
  rw[ztu]
  omega
theorem zks {i:Nat}(h:i<8):∃c,atI (Str.ofString "abcdefgh").cps.toList (i:Int)=some c/\uI[i]?=some ⟨#[c]⟩:=by
 match i,h with
 | 0,_=>exact⟨97,by decide +kernel,by decide +kernel⟩
 | 1,_=>exact⟨98,by decide +kernel,by decide +kernel⟩
 | 2,_=>exact⟨99,by decide +kernel,by decide +kernel⟩
 | 3,_=>exact⟨100,by decide +kernel,by decide +kernel⟩
 | 4,_=>exact⟨101,by decide +kernel,by decide +kernel⟩
 | 5,_=>exact⟨102,by decide +kernel,by decide +kernel⟩
 | 6,_=>exact⟨103,by decide +kernel,by decide +kernel⟩
 | 7,_=>exact⟨104,by decide +kernel,by decide +kernel⟩
theorem zd8:uI.Nodup:=by decide +kernel
theorem zi0 {i:Nat}{y:Str}(h:uI[i]?=some y):y∉uI.take i:=fun hm=>by
 obtain⟨j,hj⟩:=List.getElem?_of_mem hm
 have hlt:j<i:=by
  have:=(ztl.mp hj).1
  rw[ztG] at this
  omega
 rw[List.getElem?_take_of_lt hlt] at hj
 have h1:=(ztl.mp hj)
 have h2:=(ztl.mp h)
 obtain⟨l1,e1⟩:=h1
 obtain⟨l2,e2⟩:=h2
 have:=(List.getElem_inj zd8).mp (e1.trans e2.symm)
 omega
theorem Jj.le {os:List Str}(h:Jj os):os.length<=8:=Ma h.nd h.mem
inductive zcW (vs:List V)(H:Hp)(Q:VK)(E9:XK):Prop
 | mk (c:Int) (n:Nat) (_:vs=[.int c,.int n]) (_:0<n) (_:n<=8) (_:∀(l:Addr) (H':Hp) (os:List Str),Same H H'->H' l=some (.lst (os.map V.str))->Jj os->os.length<=n->Q (.ref l) H'):zcW vs H Q E9
def Qz (H:Hp):Sn->Addr->Prop
 | .c0 y,p=>H p=some (.tup [.str (Sn.word (.c0 y))])
 | .mk x,p=>H p=some (.tup [.str "mark", .str x])
 | .nt s,p=>∃q,H p=some (.tup [.str "not", .ref q])/\Qz H s q
 | .b2 o s t,p=>∃q r,H p=some (.tup [.str (w2 o),.ref q,.ref r])/\Qz H s q/\Qz H t r
 | .q1 o x s,p=>∃q,H p=some (.tup [.str (if o then "some" else "each"),.str x,.ref q])/\Qz H s q
def xr (H H':Hp):Prop:=∀b xs,H b=some (.tup xs)->H' b=some (.tup xs)
theorem xr.trans {H H1 H2:Hp}(a:xr H H1)(b:xr H1 H2):xr H H2:=fun c o h=>b c o (a c o h)
theorem xr.of {H H':Hp}(g:Same H H'):xr H H':=fun b xs h=>g b _ h
theorem xr.new {H:Hp}{p:Addr}(h:H p=none)(o:HO):xr H (upd H p o):=fun b u q=>by rw[zE (zB q h)];exact q
theorem xr.lst {H:Hp}{p:Addr}{xs:List V}(h:H p=some (.lst xs))(o:HO):xr H (upd H p o):=fun b u q=>by rw[zE (Sv q h (fun z=>nomatch z))];exact q
theorem Qz.mono {H H':Hp}(g:xr H H'):∀{s:Sn} {p:Addr},Qz H s p->Qz H' s p
 | .c0 y,p,h=>g _ _ h
 | .mk x,p,h=>g _ _ h
 | .nt s,p,⟨q,h,k⟩=>⟨q,g _ _ h,k.mono g⟩
 | .b2 o s t,p,⟨q,r,h,k,l⟩=>⟨q,r,g _ _ h,k.mono g,l.mono g⟩
 | .q1 o x s,p,⟨q,h,k⟩=>⟨q,g _ _ h,k.mono g⟩
theorem zkt (o:Bool)(x:Str)(s:Sn):Sn.word (.q1 o x s)=if o then Str.ofString "some" else Str.ofString "each" := by cases o<;>rfl
theorem Qz.shape {H:Hp}:∀{s:Sn} {p:Addr},Qz H s p->∃qs:List Addr,H p=some (.tup (.str s.word::(s.letters.map V.str++qs.map V.ref)))/\Paired (Qz H) s.parts qs
 | .c0 y,p,h=>⟨[],h,.nil⟩
 | .mk x,p,h=>⟨[],h,.nil⟩
 | .nt s,p,⟨q,h,k⟩=>⟨[q],h,.cons k .nil⟩
 | .b2 o s t,p,⟨q,r,h,k,l⟩=>⟨[q,r],h,.cons k (.cons l .nil)⟩
 | .q1 o x s,p,⟨q,h,k⟩=>⟨[q],by rw[zkt];exact h,.cons k .nil⟩
theorem R4 {α:Type}{xs:List α}{i:Int}(h0:-(xs.length:Int)<=i)(h1:i<xs.length):∃(j:Nat) (v:α),atI xs i=some v/\xs[j]?=some v:=by
 by_cases h:0<=i
 ·have hj:i.toNat<xs.length:=by omega
  have q:=vR (xs:=xs) (j:=i.toNat) (ztj hj)
  have e:((i.toNat:Nat):Int)=i:=by omega
  rw[e] at q
  exact⟨_,_,q,ztj hj⟩
 ·have hj:(i+xs.length).toNat<xs.length:=by omega
  refine⟨_,_,?_,ztj hj⟩
  unfold atI ixN
  rw[if_neg h,if_pos h0]
  show xs[(i+xs.length).toNat]?=_
  exact ztj hj
def Q8:List Str:=["mark", "mark", "not", "and", "or", "either", "if", "and", "or", "some", "each", "yes", "no", "mark"]
structure Made (H0 H:Hp)(os:List Str)(m kd:Addr)(ps:List Addr)(d:Nat):Prop where
 old:Same H0 H
 mad:H m=some (.lst (ps.map V.ref))
 kin:H kd=some (.lst (Q8.map V.str))
 ne:ps≠[]
 all:∀p∈ps,∃s,Qz H s p/\s.Kc os/\s.depth<=d
theorem Made.push {H0 H:Hp}{os:List Str}{m kd p:Addr}{ps:List Addr}{d:Nat}{xs:List V}(M:Made H0 H os m kd ps d)(fm:H0 m=none)(hp:H p=none){s:Sn}(hs:Qz (upd H p (.tup xs)) s p)(ho:s.Kc os)(hd:s.depth<=d+1)(hk:m≠kd) :
  Made H0 (upd (upd H p (.tup xs)) m (.lst ((ps++[p]).map V.ref))) os m kd (ps++[p]) (d+1):=by
 have hm:m≠p:=zB M.mad hp
 have hkp:kd≠p:=zB M.kin hp
 have mad':(upd H p (.tup xs)) m=some (.lst (ps.map V.ref)):=by rw[zE hm];exact M.mad
 have t1:xr H (upd H p (.tup xs)):=xr.new hp _
 have t2:xr (upd H p (.tup xs)) (upd (upd H p (.tup xs)) m (.lst ((ps++[p]).map V.ref))):=xr.lst mad' _
 refine⟨fun b o h=>?_,zj,?_,by simp,fun q hq=>?_⟩
 ·have h1:=M.old b o h
  rw[zE (zB h fm),zE (zB h1 hp)]
  exact h1
 ·rw[zE (Ne.symm hk),zE hkp];exact M.kin
 ·rcases List.mem_append.mp hq with z | z
  ·obtain⟨s',q1,q2,q3⟩:=M.all q z
   exact⟨s',(q1.mono t1).mono t2,q2,by omega⟩
  ·have z':q=p:=by simpa using z
   subst z'
   exact⟨s,hs.mono t2,ho,hd⟩
inductive Pa (K:Frag)(vs:List V)(H:Hp)(Q:VK)(E9:XK):Prop
 | mk (sc ol:Addr) (ns:List Int) (t m:Nat) (os:List Str) (_:vs=[.ref sc,.int t,.int m,.ref ol]) (_:z6 K H sc (ns.map V.int)) (_:z6 K H ol (os.map V.str)) (_:0<os.length) (_:os.length<=8) (_:0<m) (_:m<=40) (_:t<=60) (_:∀(p:Addr) (H':Hp) (s:Sn),Same H H'->Qz H' s p->s.Kc os->s.depth<=m->Q (.ref p) H'):Pa K vs H Q E9
theorem Jk {os:List Str}(h0:0<os.length)(r:Int):∃x,x∈os/\atI (os.map V.str) (r%((os.map V.str).length:Nat))=some (.str x):=by
 have e:(os.map V.str).length=os.length:=zti _
 have m0:0<=r%((os.map V.str).length:Nat):=ztY _ (by omega)
 have m1:r%((os.map V.str).length:Nat)<((os.map V.str).length:Nat):=ztV _ (by omega)
 obtain⟨j,v,q1,q2⟩:=R4 (xs:=os.map V.str) (i:=r%((os.map V.str).length:Nat)) (by omega) m1
 rw[ztk] at q2
 cases hx:os[j]? with
 | none=>rw[hx] at q2;cases q2
 | some x =>
  rw[hx] at q2
  cases q2
  exact⟨x,ztn hx,q1⟩
theorem Kp {ps:List Addr}{i:Int}(h0:-(ps.length:Int)<=i)(h1:i<ps.length):∃p,p∈ps/\atI (ps.map V.ref) i=some (.ref p):=by
 have e:(ps.map V.ref).length=ps.length:=zti _
 obtain⟨j,v,q1,q2⟩:=R4 (xs:=ps.map V.ref) (i:=i) (by omega) (by omega)
 rw[ztk] at q2
 cases hx:ps[j]? with
 | none=>rw[hx] at q2;cases q2
 | some x =>
  rw[hx] at q2
  cases q2
  exact⟨x,ztn hx,q1⟩
end
end uY
namespace L2
open PySem
section
variable {α β:Type}{R S:α->β->Prop}
theorem Kq:∀{xs ys:List α} {us ws:List β},Paired R xs us->Paired R ys ws->Paired R (xs++ys) (us++ws)
 | _,_,_,_,.nil,s=>s
 | _,_,_,_,.cons r t,s=>.cons r (Kq t s)
theorem Vm (f:∀a b,R a b->S a b):∀{xs:List α} {us:List β},Paired R xs us->Paired S xs us
 | _,_,.nil=>.nil
 | _,_,.cons r t=>.cons (f _ _ r) (Vm f t)
theorem ZM:∀{xs:List α} {us:List β},Paired R xs us->xs.length=us.length
 | _,_,.nil=>rfl
 | _,_,.cons _ t=>by rw[ztu,ztu,ZM t]
theorem zgY:∀{xs:List α} {us:List β} {i:Nat} {x:α},Paired R xs us->xs[i]?=some x->∃u,us[i]?=some u/\R x u
 | _,_,_,_,.nil,e=>by simp at e
 | _,_,0,_,.cons r _,e=>by simp at e;subst e;exact⟨_,rfl,r⟩
 | _,_,i+1,x,.cons _ t,e=>by
  obtain⟨u,h1,h2⟩:=zgY (i:=i) (x:=x) t (by simpa using e)
  exact⟨u,by simpa using h1,h2⟩
theorem Mf:∀{xs:List α} {us:List β} {i:Nat} {u:β},Paired R xs us->us[i]?=some u->∃x,xs[i]?=some x/\R x u
 | _,_,_,_,.nil,e=>by simp at e
 | _,_,0,_,.cons r _,e=>by simp at e;subst e;exact⟨_,rfl,r⟩
 | _,_,i+1,x,.cons _ t,e=>by
  obtain⟨u,h1,h2⟩:=Mf (i:=i) (u:=x) t (by simpa using e)
  exact⟨u,by simpa using h1,h2⟩
theorem yN {α:Type}{xs:List α}{i:Nat}{x:α}(h:xs[i]?=some x):xs.take (i+1)=xs.take i++[x]:=by
 rw[List.take_succ,h]
 rfl
theorem Same.zmE {K:Frag}{H H':Hp}{a:Addr}{xs:List V}(e:Same H H')(h:vQ K H a xs):vQ K H' a xs:=by
 rcases h with (h | ⟨o,h⟩) | h
 ·exact .inl (.inl (e _ _ h))
 ·exact .inl (.inr ⟨o,e _ _ h⟩)
 ·exact .inr h
theorem Same.new {H:Hp}{p:Addr}(h:H p=none)(o:HO):Same H (upd H p o):=fun b u q=>by rw[zE (zB q h)];exact q
theorem Same.over {H H':Hp}{p:Addr}(g:Same H H')(h:H p=none)(o:HO):Same H (upd H' p o):=fun b u q=>by rw[zE (zB q h)];exact g b u q
theorem at0 {α:Type}{x:α}{xs:List α}:atI (x::xs) 0=some x:=vR (j:=0) rfl
theorem at1 {α:Type}{x y:α}{xs:List α}:atI (x::y::xs) 1=some y:=vR (j:=1) rfl
end
section
variable {K:Frag}{a:Addr}{xs:List V}{σ:St}{js:List Nat}{te:TE}{H:Hp}{Qf:Addr->Hp->List V->Prop}
theorem zgZ (R:V->V->Prop)(hq:z6 K H a xs)(hz:xs.length<=sizeLine)
  (hs:∀(i:Nat) x H',xs[i]?=some x->Same H H'->te (Yi σ js (some x)) H' fun v H3=>R x v/\Same H H3)
  (me:∀ σ H Q Q',(∀v H1,Q v H1->Q' v H1)->te σ H Q->te σ H Q')
  (hd:∀ys H' p,Paired R xs ys->Same H H'->H' p=none->Qf p H' ys) :
  ∃W:Nat->Nat->List V->Hp->Prop,(∃m,W 0 m [] H)/\∀i m ys H,W i m ys H ->
   ((Itl K a).stop i H/\∀p,H p=none->Qf p H ys) \/
   ((Itl K a).go i H/\ys.length<sizeLine/\∀x H',(Itl K a).Ni i H x H'->Uz (Yi σ js (some x)) H' fun b H2 =>
    if b=true then te (Yi σ js (some x)) H2 fun v H3=>∃m',m'<m/\W (i+1) m' (ys++[v]) H3 else ∃m',m'<m/\W (i+1) m' ys H2):=by
 refine zkh (fun i ys H'=>Same H H'/\Paired R (xs.take i) ys) ⟨Same.refl _,.nil⟩ hz ?_ ?_ (fun _ _ _ _ h q=>h _ _ q) me ?_
 ·rintro i ys H' hi ⟨g,r⟩
  have:=ZM r
  rw[ztG] at this
  exact⟨g.seq hq,by omega⟩
 ·rintro i x ys H' hx ⟨g,r⟩
  show te (Yi σ js (some x)) H' fun v H3=>Same H H3/\Paired R (xs.take (i+1)) (ys++[v])
  refine me _ _ _ _ (fun v H3 h3=>⟨h3.2,?_⟩) (hs i x H' hx g)
  rw[yN hx]
  exact Kq r (.cons h3.1 .nil)
 ·rintro ys H' p ⟨g,r⟩ hp
  rw[ztL] at r
  exact hd ys H' p r g hp
theorem zg0 (R:V->V->Prop)(hq:vQ K H a xs)(hz:xs.length<=sizeLine)
  (hs:∀(i:Nat) x H',xs[i]?=some x->Same H H'->te (Yi σ js (some x)) H' fun v H3=>R x v/\Same H H3)
  (me:∀ σ H Q Q',(∀v H1,Q v H1->Q' v H1)->te σ H Q->te σ H Q')
  (hd:∀ys H' p,Paired R xs ys->Same H H'->H' p=none->Qf p H' ys) :
  ∃W:Nat->Nat->List V->Hp->Prop,(∃m,W 0 m [] H)/\∀i m ys H,W i m ys H ->
   ((Itt K a).stop i H/\∀p,H p=none->Qf p H ys) \/
   ((Itt K a).go i H/\ys.length<sizeLine/\∀x H',(Itt K a).Ni i H x H'->Uz (Yi σ js (some x)) H' fun b H2 =>
    if b=true then te (Yi σ js (some x)) H2 fun v H3=>∃m',m'<m/\W (i+1) m' (ys++[v]) H3 else ∃m',m'<m/\W (i+1) m' ys H2):=by
 refine ziO (fun i ys H'=>Same H H'/\Paired R (xs.take i) ys) ⟨Same.refl _,.nil⟩ hz ?_ ?_ (fun _ _ _ _ h q=>h _ _ q) me ?_
 ·rintro i ys H' hi ⟨g,r⟩
  have:=ZM r
  rw[ztG] at this
  exact⟨g.zmE hq,by omega⟩
 ·rintro i x ys H' hx ⟨g,r⟩
  show te (Yi σ js (some x)) H' fun v H3=>Same H H3/\Paired R (xs.take (i+1)) (ys++[v])
  refine me _ _ _ _ (fun v H3 h3=>⟨h3.2,?_⟩) (hs i x H' hx g)
  rw[yN hx]
  exact Kq r (.cons h3.1 .nil)
 ·rintro ys H' p ⟨g,r⟩ hp
  rw[ztL] at r
  exact hd ys H' p r g hp
theorem zaP {f:V->V}:∀{xs ys:List V},Paired (fun x v=>v=f x) xs ys->ys=xs.map f
 | _,_,.nil=>rfl
 | _,_,.cons r t=>by rw[ztH,r,zaP t]
end
section
variable {X:Cx}{K:Frag}{a:Expr}{ta:TE}
theorem zmF (h:X.K=K):Vj X (compareOp .In) (rIn K false):=by subst h;exact RW
theorem zcj (h:X.K=K):Vj X (compareOp .NotIn) (rIn K true):=by subst h;exact NZ
theorem zcX (h:X.K=K):Xl X (.builtin "isinstance") (fun xs H Q=>∃x T t b,xs=[x,.ty T]/\Nx K H x t/\PySem.W.kitOne K t (.type T)=some b/\Q (.bl b) H):=by subst h;exact SN
theorem Mg (h:X.K=K):IxR X (zn2 K):=by subst h;exact yd
theorem QB (h:X.K=K):Xl X (.builtin "len") (fun xs H Q=>∃p ys,xs=[.ref p]/\(z6 K H p ys\/vQ K H p ys)/\Q (.int ys.length) H):=by subst h;exact zO
theorem zck (h:X.K=K)(ha:PE X a ta)(he:∀whole,isTrue a X.env whole=(do let v <-whole;standAt a.pos;holding [v] (truthy v))):PT X a (fun σ H Q=>ta σ H fun x H'=>∃k,zmn K x H' k/\Q k H'):=by subst h;exact yM ha he
def zaQ (sp:Sp):Prop:=∀vs H Q Q' E,(∀v H1,Q v H1->Q' v H1)->sp vs H Q E->sp vs H Q' E
theorem zi1 {sp:Sp}(m:zaQ sp):∀ σ H Q Q',(∀v H1,Q v H1->Q' v H1)->NK sp [] E0 (Nz (zaA 0) Qs) σ H Q->NK sp [] E0 (Nz (zaA 0) Qs) σ H Q' :=
 fun σ H Q Q' h ⟨v,e,q⟩=>⟨v,e,m _ _ _ _ _ h q⟩
theorem zd9 (x:Str)(ts:List Str):inV (.str x) (ts.map V.str)=decide (x∈ts):=by
 induction ts with
 | nil=>rfl
 | cons t r ih =>
  have e:inV (.str x) ((t::r).map V.str)=((t==x)||inV (.str x) (r.map V.str)):=rfl
  rw[e,ih]
  by_cases h:t=x
  ·subst h;simp
  ·have h':¬x=t:=fun z=>h z.symm
   simp[h,h']
theorem VP (ts:List Str):(ts.map V.str).all wQ=true:=by
 rw[List.all_map,ztM]
 exact fun _ _=>rfl
theorem zi2 {w:V}{rest:List V}{m n:Nat}(h:rest.length=m+n):NQ (w::rest) (some 1) (some (1+(m:Int)))=rest.take m:=by
 have e1:HT.ZG (w::rest).length 0 (some 1)=min 1 (w::rest).length:=HT.zah _ _ 1
 have e2:HT.ZG (w::rest).length (w::rest).length (some (1+(m:Int)))=min (1+m) (w::rest).length:=by
  have z:(1:Int)+(m:Int)=((1+m:Nat):Int):=by omega
  rw[z];exact HT.zah _ _ _
 have l:(w::rest).length=m+n+1:=by rw[ztu,h]
 unfold NQ
 rw[e1,e2,l,Nat.min_eq_left (by omega),Nat.min_eq_left (by omega),List.drop_one,List.tail_cons]
 congr 1
 omega
theorem zi3 {w:V}{rest:List V}{m n:Nat}(h:rest.length=m+n):NQ (w::rest) (some (1+(m:Int))) none=rest.drop m:=by
 have e2:HT.ZG (w::rest).length 0 (some (1+(m:Int)))=min (1+m) (w::rest).length:=by
  have z:(1:Int)+(m:Int)=((1+m:Nat):Int):=by omega
  rw[z];exact HT.zah _ _ _
 have l:(w::rest).length=m+n+1:=by rw[ztu,h]
 unfold NQ
 rw[e2,HT.ziF,l,Nat.min_eq_left (by omega),Nat.add_comm 1 m,List.drop_succ_cons,List.take_of_length_le]
 rw[List.length_drop,h]
 omega
theorem zaR {w:V}{rest:List V}{i:Int}{o:Option Int}(h:1<=i):¬(HT.ZG (w::rest).length 0 (some i)=0/\HT.ZG (w::rest).length (w::rest).length o=(w::rest).length):=by
 rintro⟨h1,_⟩
 have e:HT.ZG (w::rest).length 0 (some i)=min i.toNat (w::rest).length:=by
  have z:=HT.zah (w::rest).length 0 i.toNat
  have z2:((i.toNat:Nat):Int)=i:=by omega
  rw[z2] at z
  exact z
 rw[e,ztu] at h1
 omega
end
end L2
namespace uY
open PySem L2
section
variable {K:Frag}
def Sn.all:Sn->List Str
 | .c0 _=>[]
 | .mk x=>[x]
 | .nt s=>s.all
 | .b2 _ s t=>s.all++t.all
 | .q1 _ x s=>x::s.all
theorem Sn.zcY:∀(s:Sn) (x:Str),x∈s.all↔x∈s.letters\/∃t∈s.parts,x∈t.all
 | .c0 _,x=>by simp[Sn.all,Sn.letters,Sn.parts]
 | .mk y,x=>by simp[Sn.all,Sn.letters,Sn.parts]
 | .nt s,x=>by simp[Sn.all,Sn.letters,Sn.parts]
 | .b2 _ s t,x=>by simp[Sn.all,Sn.letters,Sn.parts]
 | .q1 _ y s,x=>by simp[Sn.all,Sn.letters,Sn.parts]
theorem Sn.UJ {os:List Str}:∀(s:Sn),s.Kc os↔∀x∈s.all,x∈os
 | .c0 _=>by simp[Sn.all,Sn.Kc]
 | .mk y=>by simp[Sn.all,Sn.Kc]
 | .nt s=>by simp only[Sn.all,Sn.Kc];exact Sn.UJ s
 | .b2 _ s t=>by
  simp only[Sn.all,Sn.Kc,List.mem_append]
  rw[Sn.UJ s,Sn.UJ t]
  exact⟨fun h x hx=>hx.elim (h.1 x) (h.2 x),fun h=>⟨fun x hx=>h x (.inl hx),fun x hx=>h x (.inr hx)⟩⟩
 | .q1 _ y s=>by
  simp only[Sn.all,Sn.Kc,List.mem_cons]
  rw[Sn.UJ s]
  exact⟨fun h x hx=>hx.elim (fun e=>by rw[e];exact h.1) (h.2 x),fun h=>⟨h y (.inl rfl),fun x hx=>h x (.inr hx)⟩⟩
theorem Sn.Mh:∀s:Sn,s.parts.length<=2
 | .c0 _=>by simp[Sn.parts]
 | .mk _=>by simp[Sn.parts]
 | .nt _=>by simp[Sn.parts]
 | .b2 _ _ _=>by simp[Sn.parts]
 | .q1 _ _ _=>by simp[Sn.parts]
theorem Sn.zaS:∀s:Sn,s.letters.length<=1
 | .c0 _=>by simp[Sn.letters]
 | .mk _=>by simp[Sn.letters]
 | .nt _=>by simp[Sn.letters]
 | .b2 _ _ _=>by simp[Sn.letters]
 | .q1 _ _ _=>by simp[Sn.letters]
def cnt (ss:List Sn):Nat:=(ss.map Sn.count).sum
theorem cnt_cons (s:Sn)(ss:List Sn):cnt (s::ss)=s.count+cnt ss:=rfl
theorem zku (ss ts:List Sn):cnt (ss++ts)=cnt ss+cnt ts:=by
 unfold cnt;rw[ztw,List.sum_append]
theorem R5:∀ss:List Sn,cnt ss=ss.length+cnt (ss.flatMap Sn.parts)
 | []=>rfl
 | s::ss=>by
  rw[cnt_cons,List.flatMap_cons,zku,R5 ss,Sn.Jh s,ztu]
  show 1+cnt s.parts+_=_
  omega
theorem zg1 (ss:List Sn):ss.length<=cnt ss:=by rw[R5];omega
theorem Kr {ss:List Sn}{t:Sn}:t∈ss.flatMap Sn.parts↔∃s∈ss,t∈s.parts:=List.mem_flatMap
inductive VR (vs:List V)(H:Hp)(Q:VK)(E9:XK):Prop
 | mk (x:Str) (_:vs=[.str x]) (_:Q (.bl (decide (x∈uI))) H):VR vs H Q E9
theorem Jl:zaQ VR:=fun vs H Q Q' E h ⟨x,e,q⟩=>⟨x,e,h _ _ q⟩
def zcZ (os:List Str):Bool:=decide (0<os.length)&&(os.all (fun x=>decide (x∈uI))&&decide os.Nodup)
theorem zkv {os:List Str}(h:Jj os):zcZ os=true:=by
 unfold zcZ
 rw[decide_eq_true h.pos,decide_eq_true h.nd,ztM.mpr fun x hx=>decide_eq_true (h.mem x hx)]
 rfl
inductive Ks (K:Frag)(vs:List V)(H:Hp)(Q:VK)(E9:XK):Prop
 | mk (l:Addr) (os:List Str) (_:vs=[.ref l]) (_:z6 K H l (os.map V.str)) (_:os.length<=100) (_:∀H',Same H H'->Q (.bl (zcZ os)) H'):Ks K vs H Q E9
def xQ:List (Str×Int×Int):=[("yes", 0,0),("no", 0,0),("mark", 1,0),("not", 0,1),("and", 0,2),("or", 0,2),("either", 0,2),("if", 0,2),("some", 1,1),("each", 1,1)]
theorem ZP (s:Sn):(s.word,((s.letters.length:Nat):Int),((s.parts.length:Nat):Int))∈xQ:=by
 cases s with
 | c0 y =>
  cases y
  ·show((Str.ofString "no", (0:Int),(0:Int)):Str×Int×Int)∈xQ
   decide +kernel
  ·show((Str.ofString "yes", (0:Int),(0:Int)):Str×Int×Int)∈xQ
   decide +kernel
 | mk x =>
  show((Str.ofString "mark", (1:Int),(0:Int)):Str×Int×Int)∈xQ
  decide +kernel
 | nt s =>
  show((Str.ofString "not", (0:Int),(1:Int)):Str×Int×Int)∈xQ
  decide +kernel
 | b2 o s t =>
  show((w2 o,(0:Int),(2:Int)):Str×Int×Int)∈xQ
  revert o
  decide +kernel
 | q1 o x s =>
  cases o
  ·show((Str.ofString "each", (1:Int),(1:Int)):Str×Int×Int)∈xQ
   decide +kernel
  ·show((Str.ofString "some", (1:Int),(1:Int)):Str×Int×Int)∈xQ
   decide +kernel
inductive Y6 (vs:List V)(H:Hp)(Q:VK)(E9:XK):Prop
 | mk (p:Addr) (x:Str) (m n:Nat) (rest:List V) (_:vs=[.ref p]) (_:H p=some (.tup (.str x::rest))) (_:(x,(m:Int),(n:Int))∈xQ) (_:rest.length=m+n) (_:∀q,H q=none->Q (.ref q) (upd H q (.tup (rest.take m)))):Y6 vs H Q E9
inductive Yj (vs:List V)(H:Hp)(Q:VK)(E9:XK):Prop
 | mk (p:Addr) (x:Str) (m n:Nat) (rest:List V) (_:vs=[.ref p]) (_:H p=some (.tup (.str x::rest))) (_:(x,(m:Int),(n:Int))∈xQ) (_:rest.length=m+n) (_:∀q,H q=none->Q (.ref q) (upd H q (.tup (rest.drop m)))):Yj vs H Q E9
theorem Mi {H:Hp}{s:Sn}{p:Addr}(h:Qz H s p):∃qs:List Addr,H p=some (.tup (.str s.word::(s.letters.map V.str++qs.map V.ref)))/\Paired (Qz H) s.parts qs /\
  (s.letters.map V.str++qs.map V.ref).length=s.letters.length+s.parts.length/\(s.letters.map V.str++qs.map V.ref).take s.letters.length=s.letters.map V.str/\(s.letters.map V.str++qs.map V.ref).drop s.letters.length=qs.map V.ref:=by
 obtain⟨qs,h1,h2⟩:=h.shape
 have l:=ZM h2
 refine⟨qs,h1,h2,by simp[l],?_,?_⟩
 ·rw[List.take_append_of_le_length (by simp),List.take_of_length_le (by simp)]
 ·rw[List.drop_append_of_le_length (by simp),List.drop_of_length_le (by simp)]
  rfl
inductive Xq (K:Frag)(vs:List V)(H:Hp)(Q:VK)(E9:XK):Prop
 | mk (l:Addr) (ss:List Sn) (ps:List Addr) (_:vs=[.ref l]) (_:z6 K H l (ps.map V.ref)) (_:Paired (Qz H) ss ps) (_:ss.length<=400) (_:∀(l':Addr) (H':Hp) (ps':List Addr),Same H H'->H l'=none->H' l'=some (.lst (ps'.map V.ref))->Paired (Qz H') (ss.flatMap Sn.parts) ps'->Q (.ref l') H'):Xq K vs H Q E9
inductive Mj (vs:List V)(H:Hp)(Q:VK)(E9:XK):Prop
 | mk (p:Addr) (s:Sn) (_:vs=[.ref p]) (_:Qz H s p) (_:(∀x∈s.letters,x∈uI)) (_:∀H',Same H H'->Q (.bl true) H'):Mj vs H Q E9
theorem zea:zaQ Mj:=fun vs H Q Q' E h ⟨p,s,e,h1,h2,q⟩=>⟨p,s,e,h1,h2,fun H' g=>h _ _ (q H' g)⟩
abbrev VC (sn:Sn)(zs:List Addr):List V:=V.str sn.word::(sn.letters.map V.str++zs.map V.ref)
inductive zc0 (vs:List V)(H:Hp)(Q:VK)(E9:XK):Prop
 | mk (p:Addr) (s:Sn) (_:vs=[.ref p]) (_:Qz H s p) (_:s.Kc uI) (_:s.count<=200) (_:s.depth<=24) (_:∀H',Same H H'->Q (.bl true) H'):zc0 vs H Q E9
inductive SX (K:Frag)(vs:List V)(H:Hp)(Q:VK)(E9:XK):Prop
 | mk (l:Addr) (os:List Str) (_:vs=[.ref l]) (_:z6 K H l (os.map V.str)) (_:Jj os) (_:∀H',Same H H'->Q .non H'):SX K vs H Q E9
inductive Ku (vs:List V)(H:Hp)(Q:VK)(E9:XK):Prop
 | mk (p:Addr) (s:Sn) (_:vs=[.ref p]) (_:Qz H s p) (_:s.Kc uI) (_:s.count<=200) (_:s.depth<=24) (_:∀H',Same H H'->Q .non H'):Ku vs H Q E9
inductive Pb (vs:List V)(H:Hp)(Q:VK)(E9:XK):Prop
 | mk (p:Addr) (s:Sn) (_:vs=[.ref p]) (_:Qz H s p) (_:s.count<=400) (_:∀(l:Addr) (H':Hp) (ts:List Sn) (ps:List Addr),Same H H'->H l=none->H' l=some (.lst (ps.map V.ref))->Paired (Qz H') ts ps->ts.length=s.count->(∀x,(∃t∈ts,x∈t.letters)↔x∈s.all)->Q (.ref l) H'):Pb vs H Q E9
inductive S5 (vs:List V)(H:Hp)(Q:VK)(E9:XK):Prop
 | mk (p:Addr) (s:Sn) (_:vs=[.ref p]) (_:Qz H s p) (_:s.count<=400) (_:∀(l:Addr) (H':Hp) (xs:List Str),Same H H'->H l=none->H' l=some (.lst (xs.map V.str))->(∀x,x∈xs↔x∈s.all)->xs.length<=400->Q (.ref l) H'):S5 vs H Q E9
inductive UL (K:Frag)(vs:List V)(H:Hp)(Q:VK)(E9:XK):Prop
 | mk (l:Addr) (x:Str) (os:List Str) (_:vs=[.ref l,.str x]) (_:z6 K H l (os.map V.str)) (_:x∈os) (_:Q .non H):UL K vs H Q E9
inductive S6 (K:Frag)(vs:List V)(H:Hp)(Q:VK)(E9:XK):Prop
 | mk (l p:Addr) (os:List Str) (s:Sn) (_:vs=[.ref l,.ref p]) (_:z6 K H l (os.map V.str)) (_:Qz H s p) (_:s.count<=400) (_:s.Kc os) (_:∀H',Same H H'->Q .non H'):S6 K vs H Q E9
end
end uY
namespace L2
open PySem
section
variable {K:Frag}{a:Addr}{xs:List V}{σ:St}{js:List Nat}{te:TE}{H:Hp}{Qf:Addr->Hp->List V->Prop}
theorem zkw (R:Nat->V->Prop)(hq:vQ K H a xs)(hz:xs.length<=sizeLine)
  (hs:∀(i:Nat) x H',xs[i]?=some x->Same H H'->te (Yi σ js (some x)) H' fun v H3=>R i v/\Same H H3)
  (me:∀ σ H Q Q',(∀v H1,Q v H1->Q' v H1)->te σ H Q->te σ H Q')
  (hd:∀ys H' p,ys.length=xs.length->(∀(j:Nat) v,ys[j]?=some v->R j v)->Same H H'->H' p=none->Qf p H' ys) :
  ∃W:Nat->Nat->List V->Hp->Prop,(∃m,W 0 m [] H)/\∀i m ys H,W i m ys H ->
   ((Itt K a).stop i H/\∀p,H p=none->Qf p H ys) \/
   ((Itt K a).go i H/\ys.length<sizeLine/\∀x H',(Itt K a).Ni i H x H'->Uz (Yi σ js (some x)) H' fun b H2 =>
    if b=true then te (Yi σ js (some x)) H2 fun v H3=>∃m',m'<m/\W (i+1) m' (ys++[v]) H3 else ∃m',m'<m/\W (i+1) m' ys H2):=by
 refine ziO (fun i ys H'=>Same H H'/\ys.length=i/\∀(j:Nat) v,ys[j]?=some v->R j v) ⟨Same.refl _,rfl,fun j v h=>by simp at h⟩ hz ?_ ?_ (fun _ _ _ _ h q=>h _ _ q) me ?_
 ·rintro i ys H' hi ⟨g,e,r⟩
  exact⟨g.zmE hq,by omega⟩
 ·rintro i x ys H' hx ⟨g,e,r⟩
  show te (Yi σ js (some x)) H' fun v H3=>Same H H3/\(ys++[v]).length=i+1/\∀(j:Nat) u,(ys++[v])[j]?=some u->R j u
  refine me _ _ _ _ (fun v H3 h3=>⟨h3.2,by rw[ztq,e];rfl,fun j u hj=>?_⟩) (hs i x H' hx g)
  by_cases hlt:j<ys.length
  ·rw[ztP hlt] at hj
   exact r j u hj
  ·rw[List.getElem?_append_right (by omega)] at hj
   have hj0:j-ys.length=0:=by
    have:=(ztl.mp hj).1
    rw[ztQ] at this
    omega
   rw[hj0] at hj
   have ev:v=u:=ztN hj
   have ej:j=i:=by omega
   rw[<-ev,ej]
   exact h3.1
 ·rintro ys H' p ⟨g,e,r⟩ hp
  exact hd ys H' p e r g hp
theorem zog {sp:Sp}(m:zaQ sp):∀ σ H Q Q',(∀v H1,Q v H1->Q' v H1)->NK sp [] E0 (Nz (zaA 0) (Nz (zaA 1) Qs)) σ H Q->NK sp [] E0 (Nz (zaA 0) (Nz (zaA 1) Qs)) σ H Q' :=
 fun σ H Q Q' h ⟨v,e,u,e',q⟩=>⟨v,e,u,e',m _ _ _ _ _ h q⟩
theorem ne_str {x y:Str}(h:x≠y):¬decide (V.str x=V.str y)=true:=fun z=>h (by have:=of_decide_eq_true z;injection this)
theorem len1 {α:Type}{ys:List α}(h:ys.length=1):∃v,ys=[v]:=by
 match ys,h with
 | [v],_=>exact⟨v,rfl⟩
theorem len2 {α:Type}{ys:List α}(h:ys.length=2):∃v u,ys=[v,u]:=by
 match ys,h with
 | [v,u],_=>exact⟨v,u,rfl⟩
end
end L2
namespace uY
open PySem L2
section
variable {K:Frag}
def ix (os:List Str)(x:Str):Nat:=os.findIdx (·==x)
theorem R6:∀{os:List Str} {x:Str},x∈os->(os.map V.str).findIdx? (fun z=>eqV z (.str x))=some (ix os x)/\ix os x<os.length/\os[ix os x]?=some x
 | t::r,x,h=>by
  unfold ix
  rw[ztH,List.findIdx?_cons,List.findIdx_cons]
  show(if (t==x)=true then some 0 else _)=_/\_
  by_cases e:t=x
  ·subst e
   simp
  ·have hb:(t==x)=false:=by simpa using e
   have hr:x∈r:=by
    rcases List.mem_cons.mp h with z | z
    ·exact absurd z.symm e
    ·exact z
   obtain⟨h1,h2,h3⟩:=R6 hr
   rw[hb,h1]
   unfold ix at h2 h3 ⊢
   refine⟨rfl,?_,?_⟩
   ·show(r.findIdx (·==x))+1<(t::r).length
    rw[ztu];omega
   ·show(t::r)[(r.findIdx (·==x))+1]?=some x
    rw[List.getElem?_cons_succ];exact h3
theorem zi4 {os:List Str}{x y:Str}(hx:x∈os)(hy:y∈os):ix os y=ix os x↔y=x:=by
 constructor
 ·intro e
  have h1:=(R6 hx).2.2
  have h2:=(R6 hy).2.2
  rw[e,h1] at h2
  exact(ztN h2).symm
 ·intro e;rw[e]
def Qt (os:List Str)(b:Nat):Str->Bool:=fun x=>b.testBit (ix os x)
theorem zaj {os:List Str}{s:Sn}{x:Str}(hs:s.Kc os)(hx:x∈os)(b:Nat)(v:Bool):s.val (fun y=>if y=x then v else Qt os b y)=s.val (Qt os (zK b (ix os x) v)):=by
 refine Sn.val_congr s hs fun y hy=>?_
 show _=(zK b (ix os x) v).testBit (ix os y)
 rw[zT]
 by_cases e:y=x
 ·rw[if_pos e,if_pos ((zi4 hx hy).mpr e)]
 ·rw[if_neg e,if_neg (fun z=>e ((zi4 hx hy).mp z))]
  rfl
theorem yJ (b p:Nat):zK b p (b.testBit p)=b:=by unfold zK;rw[if_pos rfl]
theorem zi5 {os:List Str}{s:Sn}{x:Str}(hs:s.Kc os)(hx:x∈os)(b:Nat):(Sn.q1 true x s).val (Qt os b)=(s.val (Qt os b)||s.val (Qt os (zK b (ix os x) (!b.testBit (ix os x))))):=by
 show(s.val (fun y=>if y=x then true else Qt os b y)||s.val (fun y=>if y=x then false else Qt os b y))=_
 rw[zaj hs hx,zaj hs hx]
 have z:=yJ b (ix os x)
 cases hb:b.testBit (ix os x)
 ·rw[hb] at z;rw[z];exact Bool.or_comm _ _
 ·rw[hb] at z;rw[z];rfl
theorem zi6 {os:List Str}{s:Sn}{x:Str}(hs:s.Kc os)(hx:x∈os)(b:Nat):(Sn.q1 false x s).val (Qt os b)=(s.val (Qt os b)&&s.val (Qt os (zK b (ix os x) (!b.testBit (ix os x))))):=by
 show(s.val (fun y=>if y=x then true else Qt os b y)&&s.val (fun y=>if y=x then false else Qt os b y))=_
 rw[zaj hs hx,zaj hs hx]
 have z:=yJ b (ix os x)
 cases hb:b.testBit (ix os x)
 ·rw[hb] at z;rw[z];exact Bool.and_comm _ _
 ·rw[hb] at z;rw[z];rfl
def TabOf (os:List Str)(s:Sn)(N:Nat):Prop:=zW os.length N (fun b=>s.val (Qt os b))
theorem zoh:∀o,w2 o≠Str.ofString "no" := by decide +kernel
theorem zmG:∀o,w2 o≠Str.ofString "yes" := by decide +kernel
theorem zkx:∀o,w2 o≠Str.ofString "mark" := by decide +kernel
theorem zmH:∀o,w2 o≠Str.ofString "not" := by decide +kernel
theorem zky:∀o,w2 o≠Str.ofString "some" := by decide +kernel
theorem zkz:∀o,w2 o≠Str.ofString "each" := by decide +kernel
theorem zp6 (o:Fin 4):o=0\/o=1\/o=2\/o=3:=by
 match o with
 | 0=>exact .inl rfl
 | 1=>exact .inr (.inl rfl)
 | 2=>exact .inr (.inr (.inl rfl))
 | 3=>exact .inr (.inr (.inr rfl))
inductive zeb (vs:List V)(H:Hp)(Q:VK)(E9:XK):Prop
 | mk (o:Fin 4) (N M n:Nat) (f g:Nat->Bool) (_:vs=[.str (w2 o),.int N,.int M,.int ((2^2^n-1:Nat):Int)]) (_:zW n N f) (_:zW n M g) (_:∀R:Nat,zW n R (fun b=>Sn.op2 o (f b) (g b))->Q (.int R) H):zeb vs H Q E9
inductive UW (K:Frag)(d:Nat)(vs:List V)(H:Hp)(Q:VK)(E9:XK):Prop
 | mk (p l:Addr) (s:Sn) (os:List Str) (_:vs=[.ref p,.ref l]) (_:Qz H s p) (_:z6 K H l (os.map V.str)) (_:s.Kc os) (_:os.length<=8) (_:s.depth<=d) (_:∀(N:Nat) (H':Hp),Same H H'->TabOf os s N->Q (.int N) H'):UW K d vs H Q E9
theorem zfN (d:Nat):zaQ (UW K d):=fun vs H Q Q' E h ⟨p,l,s,os,e,h1,h2,h3,h4,h5,q⟩=>⟨p,l,s,os,e,h1,h2,h3,h4,h5,fun N H' g z=>h _ _ (q N H' g z)⟩
inductive zg2 (K:Frag)(vs:List V)(H:Hp)(Q:VK)(E9:XK):Prop
 | mk (a:Addr) (ns:List Int) (_:vs=[.ref a]) (_:z6 K H a (ns.map V.int)) (_:ns.length<=63) (_:∀H',Q (.bl true) H'):zg2 K vs H Q E9
end
end uY
namespace L2
open PySem PySem.Spec PyProof.Rows
theorem Qu {α:Type}{us:List α}(h:us.length=0):us=[]:=List.length_eq_zero_iff.mp h
theorem Ml {α:Type}{us:List α}{n:Nat}(h:us.length=n+1):∃a vs,us=a::vs/\vs.length=n:=by
 cases us with
 | nil=>cases h
 | cons a vs=>exact⟨a,vs,rfl,by simpa using h⟩
def zoi (N P:List Str)(sc:Scope):Bool:=(match sc.kind with | .function=>true | _=>false)&&!sc.isCoroutine&&!sc.isGenerator&&decide N.Nodup&&decide (N.take P.length=P)&&P.all (fun x=>decide (sc.names.lookup x=some .local\/sc.names.lookup x=some .cell))&&sc.names.all (fun y=>decide (y.2≠.free))
theorem fsc {N P:List Str}{sc:Scope}(h:zoi N P sc=true):zH N P sc:=by
 unfold zoi at h
 simp only[ztK,Bool.not_eq_true',decide_eq_true_eq,ztM] at h
 obtain⟨⟨⟨⟨⟨⟨h1,h2⟩,h3⟩,h4⟩,h5⟩,h6⟩,h7⟩:=h
 refine⟨?_,h2,h3,h4,h5,h6,h7⟩
 revert h1
 cases sc.kind<;>simp
structure Df (K:Frag)(mg:Str->Option Value)(x:Str)(st:Stmt)(f:Addr)(d:FuncData)(ps:List Str):Prop where
 F:Fun K x x st f d
 b:Binds K d ps []
 m:mg x=some (.ref f)
structure Dm (K:Frag)(C:Addr)(x q:Str)(st:Stmt)(f:Addr)(d:FuncData)(ps:List Str):Prop where
 F:Fun K x q st f d
 b:Binds K d ps []
 e:Meth K C x f
section
variable {K:Frag}{h:Heap}{mg:Str->Option Value}{x q:Str}{st:Stmt}{f C:Addr}{oc:Value}{od an:Option Addr}{osl:Array (Option Value)}{kV doc pm cdv ct:Value}{ps:List Str}
theorem dfm (X:K.In h)(G:h.Ns mainGlobals mg)(n:nsIn K mainGlobals x=some (some (.ref f)))(l:K.lookup f=some ⟨oc,od,.func (PySem.W.fnOf x x (Yz st) (vp st) (zx st) .none kV doc pm an cdv ct),osl⟩)
  (c:PySem.W.codeIn K cdv x=true)(k:PySem.W.keepIn K (.ref f)=true)
  (b:∀(kV doc pm:Value) (an:Option Addr) (cdv ct:Value) (us:List Value),us.length=ps.length->bindArgs (PySem.W.fnOf x x (Yz st) (vp st) (zx st) .none kV doc pm an cdv ct) ⟨us,[]⟩=pure (ps.zip us)) :
  Df K mg x st f (PySem.W.fnOf x x (Yz st) (vp st) (zx st) .none kV doc pm an cdv ct) ps:=⟨zcR l c k,(zcR l c k).binds b,mg_of X G n⟩
theorem dmm (n:findIn K (.ref C) x=some (some (.ref f)))(i:PySem.W.isFn K (.ref f)=true)(l:K.lookup f=some ⟨oc,od,.func (PySem.W.fnOf x q (Yz st) (vp st) (zx st) .none kV doc pm an cdv ct),osl⟩)
  (c:PySem.W.codeIn K cdv q=true)(k:PySem.W.keepIn K (.ref f)=true)
  (b:∀(kV doc pm:Value) (an:Option Addr) (cdv ct:Value) (us:List Value),us.length=ps.length->bindArgs (PySem.W.fnOf x q (Yz st) (vp st) (zx st) .none kV doc pm an cdv ct) ⟨us,[]⟩=pure (ps.zip us)) :
  Dm K C x q st f (PySem.W.fnOf x q (Yz st) (vp st) (zx st) .none kV doc pm an cdv ct) ps:=⟨zcR l c k,(zcR l c k).binds b,⟨n,i,k⟩⟩
theorem zg3 {p:Addr}{it:Array Value}{n:Nat}{od:Option Addr}{sl:Array (Option Value)}{xs:List V}(l:K.lookup p=some ⟨.type "tuple", od,.seq it n,sl⟩)(v:it.toList.map zfr=xs.map some)(h:xs.length<=1000):∀H,vQ K H p xs:=fun H=>zlH l v h
end
section
variable {X:Cx}{CX:CXT}{k:Nat}{f C:Addr}{fd:FuncData}{ps:List Str}{sp:Sp}{st:Stmt}{x q m:Str}{p pos apos:Pos}{e o:Expr}{es:List Expr}{t:TA}{ta:TE}{E:XK}
theorem zu (F:zy X.prog X.w X.K X.mg X.base zZ k f fd ps sp)(hr:uK k X.A)(D:Df X.K X.mg x st f fd ps)(ha:PA X (e::es) t)(hg:Gl X x:=by rfl)(hdb:(x==("__debug__" : Str))=false:=by decide)(he:starEach (e::es) X.env=(false,eval e X.env)::starEach es X.env:=by rfl)(hpl:(backTo pos (starEach es X.env)).any (·.1)=false:=by rfl) :
  PE X (.Call (.Name x p) (e::es) [] pos) (NK sp [] E0 t):=zgK F hr hg D.m D.F.2 D.b .nil zgQ ha hdb he hpl
theorem yE (hx:Passes CX X E)(F:zy X.prog X.w X.K X.mg X.base CX k f fd ps sp)(hr:uK k X.A)(D:Df X.K X.mg x st f fd ps)(ha:PA X (e::es) t)(hg:Gl X x:=by rfl)(hdb:(x==("__debug__" : Str))=false:=by decide)(he:starEach (e::es) X.env=(false,eval e X.env)::starEach es X.env:=by rfl)(hpl:(backTo pos (starEach es X.env)).any (·.1)=false:=by rfl) :
  PE X (.Call (.Name x p) (e::es) [] pos) (NK sp [] E t):=zgK F hr hg D.m D.F.2 D.b .nil hx ha hdb he hpl
theorem yR {pl:Sem Bool}(he:PE X o ta)(c:Cls X.K C)(D:Dm X.K C m q st f fd ps)(F:zy X.prog X.w X.K X.mg X.base zZ k f fd ps sp)(hr:uK k X.A)(ha:PA X (e::es) t)
  (hst:starEach (e::es) X.env=(false,eval e X.env)::starEach es X.env:=by rfl)(hpl:(backTo pos (starEach es X.env)).any (·.1)=false:=by rfl)
  (ht:eval (.Call (.Attribute o m apos) (e::es) [] pos) X.env=(do
   let ov <-eval o X.env
   standAt apos.atName
   let (f,first) <-holding [ov] (getMethod ov m pl)
   callWith pos f first (backTo pos (starEach (e::es) X.env)) (backToKw pos (keywordEach [] X.env))):=by rfl) :
  PE X (.Call (.Attribute o m apos) (e::es) [] pos) (zdX C m sp [] E0 ta t):=zgL he c D.e F hr D.b .nil zgQ ha hst hpl ht
theorem Zw (hx:Passes CX X E){pl:Sem Bool}(he:PE X o ta)(c:Cls X.K C)(D:Dm X.K C m q st f fd ps)(F:zy X.prog X.w X.K X.mg X.base CX k f fd ps sp)(hr:uK k X.A)(ha:PA X (e::es) t)
  (hst:starEach (e::es) X.env=(false,eval e X.env)::starEach es X.env:=by rfl)(hpl:(backTo pos (starEach es X.env)).any (·.1)=false:=by rfl)
  (ht:eval (.Call (.Attribute o m apos) (e::es) [] pos) X.env=(do
   let ov <-eval o X.env
   standAt apos.atName
   let (f,first) <-holding [ov] (getMethod ov m pl)
   callWith pos f first (backTo pos (starEach (e::es) X.env)) (backToKw pos (keywordEach [] X.env))):=by rfl) :
  PE X (.Call (.Attribute o m apos) (e::es) [] pos) (zdX C m sp [] E ta t):=zgL he c D.e F hr D.b .nil hx ha hst hpl ht
theorem R7 {pl:Sem Bool}(he:PE X o ta)(c:Cls X.K C)(D:Dm X.K C m q st f fd ps)(F:zy X.prog X.w X.K X.mg X.base zZ k f fd ps sp)(hr:uK k X.A)
  (ht:eval (.Call (.Attribute o m apos) [] [] pos) X.env=(do
   let ov <-eval o X.env
   standAt apos.atName
   let (f,first) <-holding [ov] (getMethod ov m pl)
   callWith pos f first (backTo pos (starEach [] X.env)) (backToKw pos (keywordEach [] X.env))):=by rfl) :
  PE X (.Call (.Attribute o m apos) [] [] pos) (zdX C m sp [] E0 ta Qs):=ziD he c D.e F hr D.b .nil zgQ ht
end
inductive Ent (K:Frag)(w:World):List DictEntry->List (Str×Int×Int)->List (Str×Value)->Prop
 | nil:Ent K w [] [] []
 | cons {k:Str} {tk:Tok} {p:Addr} {m n:Int} {od:Option Addr} {it:Array Value} {z:Nat} {sl:Array (Option Value)} {es:List DictEntry} {tb:List (Str×Int×Int)} {kvs:List (Str×Value)} (l:K.lookup p=some ⟨.type "tuple", od,.seq it z,sl⟩) (v:it.toList.map zfr=[V.int m,V.int n].map some) (t:Ent K w es tb kvs) :
   Ent K w (⟨hashStr w k,.str k tk,.ref p⟩::es) ((k,m,n)::tb) ((k,.ref p)::kvs)
structure Shp (K:Frag)(P:Program)(w:World)(a:Addr)(kvs:List (Str×Value))(tb:List (Str×Int×Int)):Prop where
 d:zkm K P w a kvs
 y:∀k m n,(k,m,n)∈tb->∃p,valueAt kvs k=some (.ref p)/\∀H,vQ K H p [.int m,.int n]
 z:∀k,(∀e∈tb,e.1≠k)->valueAt kvs k=none
theorem Ent.keys {K:Frag}{w:World}{es:List DictEntry}{tb:List (Str×Int×Int)}{kvs:List (Str×Value)}(h:Ent K w es tb kvs):kvs.map (·.1)=tb.map (·.1):=by
 induction h with
 | nil=>rfl
 | cons _ _ _ ih=>rw[ztH,ztH,ih]
theorem zmI {K:Frag}{P:Program}{w:World}{a:Addr}{es:Array DictEntry}{ep:Nat}{kvs:List (Str×Value)}{tb:List (Str×Int×Int)}(l:K.lookup a=some ⟨.type "dict", none,.dict es ep,#[]⟩)(s:(a==sysModules)=false)(nd:decide (tb.map (·.1)).Nodup=true)(h:Ent K w es.toList tb kvs):Shp K P w a kvs tb:=by
 have nk:(kvs.map (·.1)).Nodup:=by rw[h.keys];exact of_decide_eq_true nd
 obtain⟨el,hel⟩:∃el,es.toList=el:=⟨_,rfl⟩
 rw[hel] at h
 refine⟨zko l hel s ?_ nk,?_,?_⟩
 ·clear nd nk l s hel
  induction h with
  | nil=>exact zmC
  | cons _ _ _ ih=>exact zkn ih
 ·clear nd l s hel
  induction h with
  | nil=>intro k m n hm;cases hm
  | @cons k0 tk p m0 n0 od it z sl es tb kvs l v t ih =>
   intro k m n hm
   rw[ztH,List.nodup_cons] at nk
   rcases List.mem_cons.mp hm with e | e
   ·cases e
    refine⟨p,?_,fun H=>zlH l v (by show 2<=1000;decide)⟩
    simp[valueAt]
   ·obtain⟨q,hq,sq⟩:=ih nk.2 k m n e
    refine⟨q,?_,sq⟩
    have ne:k0≠k:=fun z=>nk.1 (by rw[z,t.keys];exact List.mem_map.mpr ⟨_,e,rfl⟩)
    simp[valueAt,ne] at hq ⊢
    exact hq
 ·clear nd nk l s hel
  induction h with
  | nil=>intro k _;rfl
  | @cons k0 tk p m0 n0 od it z sl es tb kvs l v t ih =>
   intro k hk
   have ne:=hk (k0,m0,n0) (ztC ..)
   have:=ih k fun e he=>hk e (ztt _ he)
   simp[valueAt] at this ⊢
   exact⟨ne,this⟩
theorem zG {X:Cx}{pos:Pos}(i:Nat){x:Str}{e:Expr}{te:TE}{pos':Pos}(hN:X.N.Nodup)(he:PE X e te)(hi:X.N[i]?=some x:=by rfl)(hx:Loc X.env.scope x:=by exact Or.inl rfl)(hs:swapsWith e (some (.Name x pos')) pos.line X.env=pure false:=by rfl)(hf:X.fn x=true\/X.env.scope.names.lookup x=some .local:=by first | exact .inl rfl | exact .inr rfl | assumption) :
  PS X (.Assign [.Name x pos'] e pos) (zj5 te (W0 i)):=Yg hN hi hx he hs hf
def lcB (uD sc:Scope)(x:Str)(fv:List Str):Bool:=(match sc.kind with | .function=>true | _=>false)&&sc.names.all (fun y=>decide (y.2≠.cell))&&sc.names.all (fun y=>decide (y.2=.local->sc.names.lookup y.1=some .local))&&decide (sc.names.lookup x=some .local)&&sc.names.all (fun y=>decide (y.2=.free->uD.names.lookup y.1=some .cell\/uD.names.lookup y.1=some .free))&&fv.all (fun y=>decide (sc.names.lookup y=some .free/\(uD.names.lookup y=some .cell\/uD.names.lookup y=some .free)))&&decide (x::fv).Nodup
theorem lco {uD sc:Scope}{x:Str}{fv:List Str}(h:lcB uD sc x fv=true):ZK uD sc x fv:=by
 unfold lcB at h
 simp only[ztK,decide_eq_true_eq,ztM] at h
 obtain⟨⟨⟨⟨⟨⟨h1,h2⟩,h3⟩,h4⟩,h5⟩,h6⟩,h7⟩:=h
 refine⟨?_,h2,h3,h4,h5,h6,h7⟩
 revert h1
 cases sc.kind<;>simp
section
variable {κ:Type}[DecidableEq κ]
def Zn (kvs:List (κ×V))(k:κ):Option V:=(kvs.find? fun kv=>decide (kv.1=k)).map (·.2)
def putK (kvs:List (κ×V))(k:κ)(v:V):List (κ×V) :=
 if (kvs.any fun kv=>decide (kv.1=k))=true then kvs.map (fun kv=>if kv.1=k then (kv.1,v) else kv) else kvs++[(k,v)]
def Jm (kvs:List (κ×V))(k:κ):List (κ×V):=kvs.filter fun kv=>decide (kv.1≠k)
theorem vB {p:κ×V}{r:List (κ×V)}{k:κ}(e:p.1=k):Zn (p::r) k=some p.2:=by simp[Zn,List.find?_cons,e]
theorem wX {p:κ×V}{r:List (κ×V)}{k:κ}(e:¬p.1=k):Zn (p::r) k=Zn r k:=by simp[Zn,List.find?_cons,e]
theorem S7 (k:κ):∀kvs:List (κ×V),(kvs.any fun kv=>decide (kv.1=k))=(Zn kvs k).isSome
 | []=>rfl
 | p::r=>by
  rw[List.any_cons]
  by_cases e:p.1=k
  ·simp only[vB e,decide_eq_true e,Bool.true_or,Option.isSome_some]
  ·rw[wX e,decide_eq_false e,Bool.false_or];exact S7 k r
theorem zec (k j:κ)(y:V):∀kvs:List (κ×V),Zn (kvs.map fun kv=>if kv.1=k then (kv.1,y) else kv) j=(Zn kvs j).map fun x=>if j=k then y else x
 | []=>rfl
 | p::r=>by
  have ih:=zec k j y r
  rw[ztH]
  by_cases h:p.1=k
  ·rw[if_pos h]
   by_cases e:p.1=j
   ·rw[vB (p:=(p.1,y)) e,vB e,Option.map_some,if_pos (e.symm.trans h)]
   ·rw[wX (p:=(p.1,y)) e,wX e,ih]
  ·rw[if_neg h]
   by_cases e:p.1=j
   ·rw[vB (p:=p) e,vB e,Option.map_some,if_neg (fun z=>h (e.trans z))]
   ·rw[wX (p:=p) e,wX e,ih]
theorem zcl (k j:κ)(y:V):∀kvs:List (κ×V),Zn kvs k=none->Zn (kvs++[(k,y)]) j=if j=k then some y else Zn kvs j
 | [],_=>by
  by_cases e:k=j
  ·rw[if_pos e.symm];exact vB (p:=(k,y)) e
  ·rw[if_neg (fun z=>e z.symm)];exact wX (p:=(k,y)) e
 | p::r,hn=>by
  rw[List.cons_append]
  have hk:¬p.1=k:=fun z=>by rw[vB z] at hn;cases hn
  rw[wX hk] at hn
  have ih:=zcl k j y r hn
  by_cases e:p.1=j
  ·rw[vB e,vB e,if_neg (fun z=>hk (e.trans z))]
  ·rw[wX e,wX e,ih]
theorem zaU (kvs:List (κ×V))(k j:κ)(y:V):Zn (putK kvs k y) j=if j=k then some y else Zn kvs j:=by
 unfold putK
 by_cases a:(kvs.any fun kv=>decide (kv.1=k))=true
 ·rw[if_pos a,zec]
  rw[S7] at a
  by_cases e:j=k
  ·obtain⟨x,hx⟩:=Option.isSome_iff_exists.mp a
   rw[if_pos e,e,hx,Option.map_some,if_pos rfl]
  ·rw[if_neg e]
   cases Zn kvs j with
   | none=>rfl
   | some x=>rw[Option.map_some,if_neg e]
 ·rw[if_neg a]
  refine zcl k j y kvs ?_
  rw[S7] at a
  cases q:Zn kvs k with
  | none=>rfl
  | some x=>rw[q] at a;exact(a rfl).elim
theorem W4 (kvs:List (κ×V))(k:κ)(v:V):(putK kvs k v).length<=kvs.length+1:=by
 unfold putK
 split
 ·rw[zti];omega
 ·rw[ztq,ztu,List.length_nil];omega
theorem zed {kvs:List (κ×V)}{k:κ}(v:V)(h:Zn kvs k=none):putK kvs k v=kvs++[(k,v)]:=by
 unfold putK
 rw[S7,h]
 exact if_neg (by decide)
theorem Ss.R8 {o:Option V}{u:Option Value}(r:Ss o u):o.isSome=u.isSome:=by
 cases o with
 | none=>cases u with
  | none=>rfl
  | some _=>exact(show False from r).elim
 | some _=>cases u with
  | none=>exact(show False from r).elim
  | some _=>rfl
theorem KV.val {kvs:List (κ×V)}{vs:List (κ×Value)}(r:KV kvs vs)(k:κ):Ss (Zn kvs k) (valueAt vs k):=by
 unfold KV at r
 induction r with
 | nil=>exact True.intro
 | @cons p q ps qs h t ih =>
  obtain⟨h1,h2⟩:=h
  by_cases e:p.1=k
  ·have e':q.1=k:=h1.symm.trans e
   have b:valueAt (q::qs) k=some q.2:=by simp[valueAt,List.find?_cons,e']
   rw[vB e,b];exact h2
  ·have e':¬q.1=k:=fun z=>e (h1.trans z)
   have b:valueAt (q::qs) k=valueAt qs k:=by simp[valueAt,List.find?_cons,e']
   rw[wX e,b];exact ih
theorem KV.any {kvs:List (κ×V)}{vs:List (κ×Value)}(r:KV kvs vs)(k:κ):(kvs.any fun kv=>decide (kv.1=k))=vs.any fun kv=>decide (kv.1=k):=by
 unfold KV at r
 induction r with
 | nil=>rfl
 | cons h t ih=>rw[List.any_cons,List.any_cons,ih,h.1]
theorem KV.repl {kvs:List (κ×V)}{vs:List (κ×Value)}(r:KV kvs vs)(k:κ){y:V}{u:Value}(ry:RelV y u) :
  KV (kvs.map fun kv=>if kv.1=k then (kv.1,y) else kv) (vs.map fun kv=>if kv.1=k then (kv.1,u) else kv):=by
 unfold KV at r ⊢
 induction r with
 | nil=>exact .nil
 | @cons p q ps qs h t ih =>
  rw[ztH,ztH]
  refine .cons ?_ ih
  obtain⟨h1,h2⟩:=h
  by_cases e:p.1=k
  ·rw[if_pos e,if_pos (h1.symm.trans e)];exact⟨h1,ry⟩
  ·rw[if_neg e,if_neg (fun z=>e (h1.trans z))];exact⟨h1,h2⟩
theorem KV.put {kvs:List (κ×V)}{vs:List (κ×Value)}(r:KV kvs vs)(k:κ){y:V}{u:Value}(ry:RelV y u):KV (putK kvs k y) (stored vs k u):=by
 unfold putK stored
 rw[r.any k]
 by_cases e:(vs.any fun kv=>decide (kv.1=k))=true
 ·rw[if_pos e,if_pos e];exact r.repl k ry
 ·rw[if_neg e,if_neg e];exact Paired.snoc r ⟨rfl,ry⟩
theorem KV.drop {kvs:List (κ×V)}{vs:List (κ×Value)}(r:KV kvs vs)(k:κ):KV (Jm kvs k) (without vs k):=by
 unfold KV at r ⊢
 unfold Jm without
 induction r with
 | nil=>exact .nil
 | @cons p q ps qs h t ih =>
  obtain⟨h1,h2⟩:=h
  rw[List.filter_cons,List.filter_cons]
  by_cases e:p.1=k
  ·have a:¬decide (p.1≠k)=true:=by simp[e]
   have b:¬decide (q.1≠k)=true:=by simp[h1.symm.trans e]
   rw[if_neg a,if_neg b];exact ih
  ·have e':¬q.1=k:=fun z=>e (h1.trans z)
   have a:decide (p.1≠k)=true:=by simp[e]
   have b:decide (q.1≠k)=true:=by simp[e']
   rw[if_pos a,if_pos b];exact .cons ⟨h1,h2⟩ ih
theorem KV.length {kvs:List (κ×V)}{vs:List (κ×Value)}(r:KV kvs vs):kvs.length=vs.length:=Paired.length r
theorem zee (kvs:List (κ×V))(k:κ):(Jm kvs k).length<=kvs.length:=ztR _ _
end
theorem zaV {P:Program}{w:World}{k:Key}{u:Value}(r:RelV (kV k) u):(yp P w).is k u=true:=by
 cases k with
 | inl i=>obtain⟨t,e⟩:=(show ∃t,u=Value.int i t from r);subst e;exact zdQ P w i t
 | inr x=>obtain⟨t,e⟩:=(show ∃t,u=Value.str x t from r);subst e;exact zdR P w x t
theorem zcm {P:Program}{w:World}:∀{ks:List Key} {us:List Value},Vals (ks.map kV) us->ItemsAre (yp P w) ks us
 | [],_,r=>by rw[List.map_nil] at r;cases r;exact .nil
 | k::ks,_,r=>by
  rw[ztH] at r
  cases r with
  | cons h t=>exact .cons (zaV h) (zcm t)
abbrev KT (H:Hp):List (List Key×V)->List (List Key×Addr×Value)->Prop:=Paired fun p q=>p.1=q.1/\H q.2.1=some (.tup (p.1.map kV))/\RelV p.2 q.2.2
theorem KT.val {H:Hp}{kvs:List (List Key×V)}{xs:List (List Key×Addr×Value)}(r:KT H kvs xs)(k:List Key):Ss (Zn kvs k) ((atKey xs k).map (·.2)):=by
 induction r with
 | nil=>exact True.intro
 | @cons p q ps qs h t ih =>
  obtain⟨h1,_,h2⟩:=h
  by_cases e:p.1=k
  ·have e':q.1=k:=h1.symm.trans e
   have b:atKey (q::qs) k=some q.2:=by simp[atKey,List.find?_cons,e']
   rw[vB e,b];exact h2
  ·have e':¬q.1=k:=fun z=>e (h1.trans z)
   have b:atKey (q::qs) k=atKey qs k:=by simp[atKey,List.find?_cons,e']
   rw[wX e,b];exact ih
theorem KT.repl {H:Hp}{kvs:List (List Key×V)}{xs:List (List Key×Addr×Value)}(r:KT H kvs xs)(k:List Key){y:V}{u:Value}(ry:RelV y u) :
  KT H (kvs.map fun kv=>if kv.1=k then (kv.1,y) else kv) (xs.map (putAt k u)):=by
 induction r with
 | nil=>exact .nil
 | @cons p q ps qs h t ih =>
  rw[ztH,ztH]
  refine .cons ?_ ih
  obtain⟨h1,h2,h3⟩:=h
  unfold putAt
  by_cases e:p.1=k
  ·rw[if_pos e,if_pos (h1.symm.trans e)];exact⟨h1,h2,ry⟩
  ·rw[if_neg e,if_neg (fun z=>e (h1.trans z))];exact⟨h1,h2,h3⟩
theorem KT.put {H:Hp}{kvs:List (List Key×V)}{xs:List (List Key×Addr×Value)}(r:KT H kvs xs)(k:List Key){b:Addr}{y:V}{u:Value}(hb:H b=some (.tup (k.map kV)))(ry:RelV y u) :
  KT H (putK kvs k y) (storedH xs k b u):=by
 have e:(kvs.any fun kv=>decide (kv.1=k))=(atKey xs k).isSome:=by
  rw[S7,(r.val k).R8,Option.isSome_map]
 unfold putK storedH
 rw[e]
 by_cases q:(atKey xs k).isSome=true
 ·rw[if_pos q,if_pos q];exact r.repl k ry
 ·rw[if_neg q,if_neg q];exact Paired.snoc r ⟨rfl,hb,ry⟩
theorem KT.keeps {H H':Hp}{kvs:List (List Key×V)}{xs:List (List Key×Addr×Value)}(r:KT H kvs xs)(ht:∀b ys,H b=some (.tup ys)->H' b=some (.tup ys)):KT H' kvs xs :=
 Paired.zl7 r fun _ _ z=>⟨z.1,ht _ _ z.2.1,z.2.2⟩
section
variable {P:Program}{w:World}{H:Hp}{h:Heap}{a:Addr}
theorem zlJ {u:HO}(ok:TX P w H h)(e:Rd H a u):wH P w H h a u:=e.ok ok
theorem zg4 {kvs:List (Key×V)}(ok:TX P w H h)(e:Rd H a (.dK kvs)):kvs.length<=sizeLine/\(a==sysModules)=false/\∃vs,KV kvs vs/\h.DictOf (yp P w) a vs :=
 show wH P w H h a (.dK kvs) from zlJ ok e
theorem zg5 {kvs:List (Key×V)}(ok:TX P w H h)(e:H a=some (.dK kvs)):kvs.length<=sizeLine/\(a==sysModules)=false/\∃vs,KV kvs vs/\h.DictOf (yp P w) a vs:=zg4 ok (.inl e)
theorem zc1 {ks:List Key}(ok:TX P w H h)(e:H a=some (.tup (ks.map kV))):(tupleKind (yp P w)).is h ks a:=by
 obtain⟨_,its,r,o,h1,h2,n,h3⟩:=(show wH P w H h a (.tup (ks.map kV)) from ok a _ e)
 exact⟨o,its.toArray,n,h1,h2,h3,by simpa using zcm r⟩
theorem zg6 {kvs:List (List Key×V)}(ok:TX P w H h)(e:Rd H a (.dT kvs)):kvs.length<=sizeLine/\(a==sysModules)=false /\
  ∃xs,KT H kvs xs/\h.DictOfH (tupleKind (yp P w)) a xs:=by
 obtain⟨z,y,xs,r,o,es,ep,h1,h2,h3,h4,h5⟩:=(show wH P w H h a (.dT kvs) from zlJ ok e)
 refine⟨z,y,xs,r,o,es,ep,h1,h2,h3,h4,fun x hx=>?_,h5⟩
 have all:∀{l:List (List Key×V)} {m:List (List Key×Addr×Value)},KT H l m->∀x∈m,(tupleKind (yp P w)).is h x.1 x.2.1:=by
  intro l m q
  induction q with
  | nil=>intro x hx;exact nomatch hx
  | @cons p q ps qs hq t ih =>
   intro x hx
   rcases List.mem_cons.mp hx with e | hx
   ·subst e
    exact zc1 ok (by rw[<-hq.1];exact hq.2.1)
   ·exact ih x hx
 exact all r x hx
theorem zoj {kvs:List (List Key×V)}(ok:TX P w H h)(e:H a=some (.dT kvs)):kvs.length<=sizeLine/\(a==sysModules)=false /\
  ∃xs,KT H kvs xs/\h.DictOfH (tupleKind (yp P w)) a xs:=zg6 ok (.inl e)
end
def JM (H:Hp)(a:Addr)(y:V)(r:Option V):Prop :=
 (∃kvs k,Rd H a (.dK kvs)/\y=kV k/\r=Zn kvs k)\/∃kvs k b,Rd H a (.dT kvs)/\y=.ref b/\H b=some (.tup (k.map kV))/\r=Zn kvs k
def zfO (H:Hp)(a:Addr)(y v:V)(H':Hp):Prop :=
 (∃kvs k,H a=some (.dK kvs)/\y=kV k/\kvs.length<sizeLine/\H'=upd H a (.dK (putK kvs k v))) \/
 ∃kvs k b,H a=some (.dT kvs)/\y=.ref b/\H b=some (.tup (k.map kV))/\kvs.length<sizeLine/\H'=upd H a (.dT (putK kvs k v))
theorem JM.k {H:Hp}{a:Addr}{kvs:List (Key×V)}{k:Key}(e:H a=some (.dK kvs)):JM H a (kV k) (Zn kvs k):=.inl ⟨kvs,k,.inl e,rfl,rfl⟩
theorem zfO.k {H:Hp}{a:Addr}{kvs:List (Key×V)}{k:Key}{v:V}(e:H a=some (.dK kvs))(hl:kvs.length<sizeLine):zfO H a (kV k) v (upd H a (.dK (putK kvs k v))):=.inl ⟨kvs,k,e,rfl,hl,rfl⟩
section
variable {X:Cx}{pins:List (Addr×Obj)}{σ:St}{H:Hp}{s:Shared}{a:Addr}{y v:V}{u r:Value}{o:Option V}{A:Around}{E:Value->Shared->Prop}
theorem Inv.big (I:Inv X pins σ H s):sysModules<s.heap.objs.size:=by
 have h:mainGlobals<s.heap.objs.size:=(I.mod.glob.keeps I.bk).lt
 exact Nat.lt_trans (by decide) h
theorem zhP {Q:Value->Shared->Prop}(hu:A.units+1<cLine)(I:Inv X pins σ H s)(g:JM H a y (some v))(ry:RelV y u)(h:∀w' s',Inv X pins σ H s'->RelV v w'->Q w' s') :
  wpAny (model X.prog X.w) A (getItem (.ref a) u) Q E s:=by
 rcases g with ⟨kvs,k,e,ey,l⟩ | ⟨kvs,k,b,e,ey,eb,l⟩
 ·subst ey
  obtain⟨z,hd,vs,rel,dd⟩:=zg4 I.hok e
  obtain⟨w',hw,rw'⟩:=Ss.some_of (v:=v) (o:=valueAt vs k) (by rw[l];exact rel.val k)
  exact wpAny_getItem_of (zaV ry) dd.mapOf hw (h w' _ (I.tok _) rw')
 ·subst ey
  cases (show u=Value.ref b from ry)
  obtain⟨z,hd,xs,rel,dd⟩:=zg6 I.hok e
  obtain⟨w',hw,rw'⟩:=Ss.some_of (v:=v) (o:=(atKey xs k).map (·.2)) (by rw[l];exact rel.val k)
  obtain⟨p,hp,hp2⟩:=Option.map_eq_some_iff.mp hw
  refine wpAny_getItem_heap (tupleKind_room_in1 hu) (zc1 I.hok eb) dd hp ?_
  rw[hp2]
  exact h w' _ (I.tok _) rw'
theorem zkA {Q:Value->Shared->Prop}(hu:A.units+1<cLine)(I:Inv X pins σ H s)(g:JM H a y o)(ry:RelV y u)(h:∀s',Inv X pins σ H s'->Q (.bool (!o.isSome)) s') :
  wpAny (model X.prog X.w) A (compareOp .NotIn u (.ref a)) Q E s:=by
 rcases g with ⟨kvs,k,e,ey,l⟩ | ⟨kvs,k,b,e,ey,eb,l⟩
 ·subst ey
  obtain⟨z,hd,vs,rel,dd⟩:=zg4 I.hok e
  refine wpAny_notIn_of (zaV ry) hd dd.mapOf ?_
  rw[<-(rel.val k).R8,<-l]
  exact h _ (I.tok _)
 ·subst ey
  cases (show u=Value.ref b from ry)
  obtain⟨z,hd,xs,rel,dd⟩:=zg6 I.hok e
  refine wpAny_notIn_heap (tupleKind_room_in1 hu) (zc1 I.hok eb) hd dd ?_
  have q:=(rel.val k).R8
  rw[Option.isSome_map] at q
  rw[<-q,<-l]
  exact h _ (I.tok _)
theorem Mp {h':Heap}{t':Nat}{ob:HO}(I:Inv X pins σ H s)(mu:Mut (H a))(hs:Heap.SameBut a s.heap h')(he:∃q,h'.get? a=some q)(new:wH X.prog X.w (upd H a ob) h' a ob) :
  Inv X pins σ (upd H a ob) { s with heap:=h',toks:=t' } :=
 I.write (x:=a) (e:=a) mu (.inl rfl) (fun b q hb z=>(hs.2 b hb).trans z) he new
theorem zc2 {P:Program}{w:World}{H':Hp}{h':Heap}{kvs:List (Key×V)}{vs:List (Key×Value)}(z:kvs.length<=sizeLine)(hd:(a==sysModules)=false)(rel:KV kvs vs)(dd:h'.DictOf (yp P w) a vs) :
  wH P w H' h' a (.dK kvs):=⟨z,hd,vs,rel,dd⟩
theorem zhQ {H':Hp}{Q:Unit->Shared->Prop}(hu:A.units+1<cLine)(I:Inv X pins σ H s)(g:zfO H a y v H')(ry:RelV y u)(rv:RelV v r)(h:∀s',Inv X pins σ H' s'->Q () s') :
  wpAny (model X.prog X.w) A (setItem (.ref a) u r) Q E s:=by
 rcases g with ⟨kvs,k,e,ey,l,eH⟩ | ⟨kvs,k,b,e,ey,eb,l,eH⟩
 ·subst ey eH
  obtain⟨z,hd,vs,rel,dd⟩:=zg5 I.hok e
  have hz:vs.length<=sizeLine:=by rw[<-rel.length];exact z
  have hl:(putK kvs k v).length<=sizeLine:=by have:=W4 kvs k v;omega
  refine wpAny_setItem_pairs (hsz:=hz) (zaV ry) dd fun h' dd' hs=>h _ ?_
  have he:∃q,h'.get? a=some q:=let ⟨q,_,_,hq,_⟩:=dd';⟨q,hq⟩
  exact Mp I (by rw[e];exact True.intro) hs he (zc2 hl hd (rel.put k rv) dd')
 ·subst ey eH
  cases (show u=Value.ref b from ry)
  obtain⟨z,hd,xs,rel,dd⟩:=zoj I.hok e
  have hz:xs.length<=sizeLine:=by rw[<-Paired.length rel];exact z
  have hl:(putK kvs k v).length<=sizeLine:=by have:=W4 kvs k v;omega
  refine wpAny_setItem_heap (hsz:=hz) (tupleKind_room_in1 hu) (zc1 I.hok eb) dd fun h' dd' hs=>h _ ?_
  obtain⟨q,es,ep,hq,h2,h3,h4,_,h5⟩:=dd'
  refine Mp I (by rw[e];exact True.intro) hs ⟨q,hq⟩ ⟨hl,hd,_,(rel.put k eb rv).keeps fun c ys ec=>?_,q,es,ep,hq,h2,h3,h4,h5⟩
  rw[zE (Sv ec e (fun z=>nomatch z))]
  exact ec
end
section
variable {X:Cx}{pins:List (Addr×Obj)}{σ:St}{H:Hp}{s:Shared}{a:Addr}{kvs:List (Key×V)}{k:Key}{u:Value}{A:Around}{E:Value->Shared->Prop}
theorem znt {Q:Unit->Shared->Prop}(I:Inv X pins σ H s)(e:H a=some (.dK kvs))(ry:RelV (kV k) u)(l:(Zn kvs k).isSome=true)(h:∀s',Inv X pins σ (upd H a (.dK (Jm kvs k))) s'->Q () s') :
  wpAny (model X.prog X.w) A (delItem (.ref a) u) Q E s:=by
 obtain⟨z,hd,vs,rel,dd⟩:=zg5 I.hok e
 refine wpAny_delItem_slot dd.typeIs (by decide) PySem.F.slot_dict_delitem
  (call_meetsIn PySem.F.slot_dict_delitem dd.typeIs PySem.F.entry_dict_delitem (PySem.F.args_dict_delitem_2 _ _) (meets_dict_delitem_pairs (yp X.prog X.w) a (zaV ry)) ⟨vs,dd,by rw[<-rel.length];exact z,by rw[<-(rel.val k).R8];exact l,fun h' dd' hs=>h _ ?_⟩)
 have he:∃q,h'.get? a=some q:=let ⟨q,_,_,hq,_⟩:=dd';⟨q,hq⟩
 exact Mp I (by rw[e];exact True.intro) hs he (zc2 (ztE (zee kvs k) z) hd (rel.drop k) dd')
theorem zok {v:V}{more:List Value}{Q:Value->Shared->Prop}(I:Inv X pins σ H s)(e:H a=some (.dK kvs))(ry:RelV (kV k) u)(l:Zn kvs k=some v)(hm:more=[]\/∃x,more=[x])
  (h:∀w' s',Inv X pins σ (upd H a (.dK (Jm kvs k))) s'->RelV v w'->Q w' s'):wpAny (model X.prog X.w) A (call (.builtin "dict.pop") (.ref a::u::more)) Q E s:=by
 obtain⟨z,hd,vs,rel,dd⟩:=zg5 I.hok e
 obtain⟨w',hw,rw'⟩:=Ss.some_of (v:=v) (o:=valueAt vs k) (by rw[<-l];exact rel.val k)
 have hp:(keyPart u).isSome=true:=by
  cases k with
  | inl i=>obtain⟨t,q⟩:=(show ∃t,u=Value.int i t from ry);subst q;rfl
  | inr x=>obtain⟨t,q⟩:=(show ∃t,u=Value.str x t from ry);subst q;rfl
 have ha:argsOk "dict.pop" ⟨.ref a::u::more,[]⟩:=by
  rcases hm with q | ⟨x,q⟩
  ·subst q;exact PySem.F.args_dict_pop_2 _ _
  ·subst q;exact PySem.F.args_dict_pop_3 _ _ _
 refine call_meetsIn PySem.F.slot_dict_pop dd.typeIs PySem.F.entry_dict_pop ha (meets_dict_pop_there (yp X.prog X.w) a (zaV ry) more hm hp)
  ⟨vs,w',dd,by rw[<-rel.length];exact z,hw,fun h' dd' hs=>h w' _ ?_ rw'⟩
 have he:∃q,h'.get? a=some q:=let ⟨q,_,_,hq,_⟩:=dd';⟨q,hq⟩
 exact Mp I (by rw[e];exact True.intro) hs he (zc2 (ztE (zee kvs k) z) hd (rel.drop k) dd')
end
def zol (i:Expr):Prop:=∀ov iv,subscripted i false ov iv=operate [ov,iv] (getItem ov iv)
theorem zkB {prog:Program}{w:World}{A:Around}{E:Value->Shared->Prop}{s:Shared}{env:Env}{value slice:Expr}{pos:Pos}{T id:String}{Q:Value->Shared->Prop}
  (hl:typeLookup (.type T) "__getitem__"=pure (some (.builtin id)))(hs:zol slice)
  (h:wpAny (model prog w) A (eval value env) (fun o s₁=>wpAny (model prog w) A (eval slice env) (fun i s₂=>s₂.TypeIs o T/\wpAny (model prog w) A (getItem o i) Q E s₂) E s₁) E s) :
  wpAny (model prog w) A (eval (.Subscript value slice pos) env) Q E s:=by
 refine Subscript_ (wpAny_mono h (fun o s₁ h₁=>wpAny_mono h₁ (fun i s₂ h₂=>?_) fun _ _ x=>x) fun _ _ x=>x)
 obtain⟨hT,h₂⟩:=h₂
 unfold subscriptTail
 refine wpAny_bind ?_
 rw[getitemInPython_of_ne hT.not_modules]
 refine wpAny_bind (wpAny_specialOf hT hl ?_)
 have fin:wpAny (model prog w) A (subscripted slice false o i) (fun r s₃=>wpAny (model prog w) A (letTemporaryGo value o r>>=fun _=>pure r) Q E s₃) E s₂:=by
  rw[hs o i]
  exact wpAny_operating (wpAny_mono h₂ (fun r s₃ h₃=>wpAny_bind (wpAny_letTemporaryGo (wpAny_pure h₃))) fun _ _ x=>x)
 first
  | exact wpAny_pure (wpAny_bind fin)
  | exact wpAny_bind (wpAny_pure (wpAny_bind fin))
  | exact wpAny_bind fin
theorem zef {X:Cx}{pins:List (Addr×Obj)}{σ:St}{H:Hp}{s:Shared}{a:Addr}{y:V}{o:Option V}(I:Inv X pins σ H s)(g:JM H a y o):s.TypeIs (.ref a) "dict" := by
 rcases g with ⟨kvs,k,e,_,_⟩ | ⟨kvs,k,b,e,_,_,_⟩
 ·obtain⟨_,_,vs,_,dd⟩:=zg4 I.hok e
  exact dd.typeIs
 ·obtain⟨_,_,xs,_,dd⟩:=zg6 I.hok e
  exact dd.typeIs
def zom (td ty:TE):TE:=fun σ H Q=>td σ H fun x H1=>ty σ H1 fun y H2=>∃a v,x=.ref a/\JM H2 a y (some v)/\Q v H2
def zkC (ty td:TE):TE:=fun σ H Q=>ty σ H fun y H1=>td σ H1 fun x H2=>∃a o,x=.ref a/\JM H2 a y o/\Q (.bl (!o.isSome)) H2
def zon (td ty tv:TE):TS:=fun D σ H=>tv σ H fun v H1=>td σ H1 fun x H2=>ty σ H2 fun y H3=>∃a H4,x=.ref a/\zfO H3 a y v H4/\D.nx σ H4
section
variable {X:Cx}{o i e value:Expr}{pos pos' tpos:Pos}{td ty tv:TE}
theorem zg7 (hu:X.A.units+1<cLine)(ho:PE X o td)(hi:PE X i ty)(hs:zol i):PE X (.Subscript o i pos) (zom td ty):=by
 intro pins s σ H Q I h
 refine zkB PySem.F.slot_dict_getitem.lookup hs (wI (ho pins s σ H _ I h) fun u s1 ⟨x,H1,I1,rx,q1⟩=>wI (hi pins s1 σ H1 _ I1 q1) fun iv s2 ⟨y,H2,I2,ry,a,v,ex,g,q2⟩=>?_)
 subst ex
 obtain rfl:u=Value.ref a:=rx
 exact⟨zef I2 g,zhP hu I2 g ry fun w' s3 I3 rw'=>⟨v,H2,I3,rw',q2⟩⟩
theorem zcn (hu:X.A.units+1<cLine)(hi:PE X i ty)(ho:PE X o td):PC X .NotIn i o (zkC ty td):=by
 intro pins s σ H Q I h
 refine wI (hi pins s σ H _ I h) fun iv s1 ⟨y,H1,I1,ry,q1⟩=>wI (ho pins s1 σ H1 _ I1 q1) fun u s2 ⟨x,H2,I2,rx,a,ov,ex,g,q2⟩=>?_
 subst ex
 obtain rfl:u=Value.ref a:=rx
 exact zkA hu I2 g ry fun s3 I3=>⟨.bl (!ov.isSome),H2,I3,rfl,q2⟩
theorem zak (hu:X.A.units+1<cLine)(ho:PE X o td)(hi:PE X i ty)(hv:PE X value tv)(hs:swapsWith value (some (.Subscript o i pos')) pos.line X.env=pure false) :
  PS X (.Assign [.Subscript o i pos'] value pos) (zon td ty tv):=by
 intro pins s σ H D I h
 refine wpAny_Assign_Subscript (wI (hv pins s σ H _ I h) fun r s1 ⟨v,H1,I1,rv,q1⟩=>wI (ho pins s1 σ H1 _ I1 q1) fun u s2 ⟨x,H2,I2,rx,q2⟩=>wI (hi pins s2 σ H2 _ I2 q2) fun iv s3 ⟨y,H3,I3,ry,a,H4,ex,g,q3⟩=>?_) hs
 subst ex
 obtain rfl:u=Value.ref a:=rx
 exact zhQ hu I3 g ry rv fun s4 I4=>⟨σ,H4,I4,q3⟩
end
theorem zeg {P:Program}{w:World}{H:Hp}(h:Heap)(hb:sysModules<h.objs.size):wH P w H (h.push { cls:=.type "dict", data:=.dict #[] }) h.objs.size (.dK []) :=
 ⟨ztF _,beq_eq_false_iff_ne.mpr (Ne.symm (ztx hb)),[],.nil,Heap.DictOf.new h⟩
def zmJ:TE:=fun _ H Q=>∀p,H p=none->Q (.ref p) (upd H p (.dK []))
section
variable {X:Cx}{pos:Pos}
theorem zaW:PE X (.Dict [] [] pos) zmJ:=fun pins s σ H Q I h =>
 wpAny_Dict_empty ⟨.ref s.heap.objs.size,_,I.laid (a:=s.heap.objs.size) (o:=.dK []) (t':=s.toks) (fun _ _ q=>zto _ q) (zty _) (zeg s.heap I.big),rfl,h _ (I.hok.fresh (zty _))⟩
end
def zfP:List (TE×TE)->St->Hp->(List (V×V)->Hp->Prop)->Prop
 | [],_,H,Q=>Q [] H
 | (tk,tv)::r,σ,H,Q=>tk σ H fun x H1=>tv σ H1 fun y H2=>zfP r σ H2 fun ps H3=>Q ((x,y)::ps) H3
abbrev VV:List (V×V)->List (Value×Value)->Prop:=Paired fun p q=>RelV p.1 q.1/\RelV p.2 q.2
def PPs (X:Cx)(pos:Pos)(keys:List (Option Expr))(values:List Expr)(trs:List (TE×TE)):Prop :=
 ∀(pins:List (Addr×Obj)) (s:Shared) (σ:St) (H:Hp) (Q:List (V×V)->Hp->Prop),Inv X pins σ H s->zfP trs σ H Q ->
  wpAny (model X.prog X.w) X.A (evalPairs (pairTrees keys values X.env pos)) (fun vs s'=>∃ps H',Inv X pins σ H' s'/\VV ps vs/\Q ps H') X.xe s
theorem zkE {X:Cx}{pos:Pos}:PPs X pos [] [] []:=fun pins s σ H Q I h=>pairTrees_nil_walk ⟨[],H,I,.nil,h⟩
theorem zeh {X:Cx}{pos:Pos}{k v:Expr}{ks:List (Option Expr)}{vs:List Expr}{tk tv:TE}{trs:List (TE×TE)}(hk:PE X k tk)(hv:PE X v tv)(hr:PPs X pos ks vs trs) :
  PPs X pos (some k::ks) (v::vs) ((tk,tv)::trs):=fun pins s σ H Q I h =>
 pairTrees_cons_walk (wI (hk pins s σ H _ I h) fun u s1 ⟨x,H1,I1,rx,q1⟩=>wI (hv pins s1 σ H1 _ I1 q1) fun w2 s2 ⟨y,H2,I2,ry,q2⟩ =>
  wI (hr pins s2 σ H2 _ I2 q2) fun ws s3 ⟨ps,H3,I3,rel,q3⟩=>⟨(x,y)::ps,H3,I3,.cons ⟨rx,ry⟩ rel,q3⟩)
def Vn (kvs more:List (Key×V)):List (Key×V):=more.foldl (fun acc kv=>putK acc kv.1 kv.2) kvs
theorem KV.merge:∀{more:List (Key×V)} {rs:List (Key×Value)} {kvs:List (Key×V)} {vs:List (Key×Value)},KV more rs->KV kvs vs->KV (Vn kvs more) (merged vs rs):=by
 intro more rs kvs vs r
 unfold KV at r
 induction r generalizing kvs vs with
 | nil=>intro q;exact q
 | @cons p q ps qs h t ih =>
  intro r0
  have e:KV (putK kvs p.1 p.2) (stored vs q.1 q.2):=by
   have:=r0.put p.1 h.2
   rw[<-h.1];exact this
  exact ih e
theorem QC:∀(more kvs:List (Key×V)),(Vn kvs more).length<=kvs.length+more.length
 | [],kvs=>by show kvs.length<=kvs.length+0;omega
 | p::r,kvs=>by
  have h1:=QC r (putK kvs p.1 p.2)
  have h2:=W4 kvs p.1 p.2
  show(Vn (putK kvs p.1 p.2) r).length<=_
  rw[ztu];omega
theorem zaX {P:Program}{w:World}:∀{kvs:List (Key×V)} {ws:List (Value×Value)},VV (kvs.map fun kv=>(kV kv.1,kv.2)) ws->∃rs,Carries (yp P w) ws rs/\KV kvs rs
 | [],_,r=>by rw[List.map_nil] at r;cases r;exact⟨[],True.intro,.nil⟩
 | p::kvs,_,r=>by
  rw[ztH] at r
  cases r with
  | @cons a b as bs h t =>
   obtain⟨rs,c,q⟩:=zaX (P:=P) (w:=w) t
   obtain⟨b1,b2⟩:=b
   exact⟨(p.1,b2)::rs,⟨zaV h.1,rfl,c⟩,.cons ⟨rfl,h.2⟩ q⟩
def zoo (trs:List (TE×TE)):TE:=fun σ H Q=>∀p,H p=none->zfP trs σ (upd H p (.dK [])) fun ps H2=>H2 p=some (.dK [])/\∃kvs:List (Key×V),ps=kvs.map (fun kv=>(kV kv.1,kv.2))/\kvs.length<=15/\Q (.ref p) (upd H2 p (.dK (Vn [] kvs)))
theorem zkF {X:Cx}{pos:Pos}{keys:List (Option Expr)}{values:List Expr}{trs:List (TE×TE)}(h:PPs X pos keys values trs)(hall:keys.all (·.isSome)=true)(hl:keys.length=values.length)(h0:keys≠[])
  (h15:keys.length<=15):PE X (.Dict keys values pos) (zoo trs):=by
 intro pins s σ H Q I q
 have hn:=I.hok.fresh (zty s.heap.objs.size)
 have I1:=I.laid (a:=s.heap.objs.size) (o:=.dK []) (h':=s.heap.push { cls:=.type "dict", data:=.dict #[] }) (t':=s.toks) (fun _ _ q=>zto _ q) (zty _) (zeg s.heap I.big)
 refine wpAny_Dict_walk (knd:=yp X.prog X.w) hall hl h0 h15 (wI (h pins _ σ _ _ I1 (q _ hn)) fun ws s2 ⟨ps,H2,I2,rel,e,kvs,ep,lk,q2⟩=>?_)
 subst ep
 obtain⟨rs,c,rk⟩:=zaX (P:=X.prog) (w:=X.w) rel
 obtain⟨z,hd,vs0,r0,dd⟩:=zg5 I2.hok e
 cases r0
 refine⟨rs,c,dd,fun h' dd' hs=>⟨.ref s.heap.objs.size,_,?_,rfl,q2⟩⟩
 have hz:(Vn [] kvs).length<=sizeLine:=by
  have h1:=QC kvs []
  rw[List.length_nil] at h1
  rw[sizeLine_eq];omega
 have he:∃q,h'.get? s.heap.objs.size=some q:=let ⟨q,_,_,hq,_⟩:=dd';⟨q,hq⟩
 exact Mp I2 (by rw[e];exact True.intro) hs he (zc2 hz hd (rk.merge .nil) dd')
inductive EqD (K:Frag)(H:Hp):Nat->V->V->Bool->Prop
 | flat {n:Nat} {x y:V} (fx:wQ x=true) (fy:wQ y=true):EqD K H n x y (eqV x y)
 | tt {n:Nat} {p q:Addr} {xs ys:List V} {e:Nat->Bool} (hp:vQ K H p xs) (hq:vQ K H q ys) (h:∀(j:Nat) x y,xs[j]?=some x->ys[j]?=some y->EqD K H n x y (e j)) :
   EqD K H (n+1) (.ref p) (.ref q) ((List.range (min xs.length ys.length)).all e&&xs.length==ys.length)
 | ll {n:Nat} {p q:Addr} {xs ys:List V} {e:Nat->Bool} (hp:z6 K H p xs) (hq:z6 K H q ys) (hl:xs.length=ys.length) (h:∀(j:Nat) x y,xs[j]?=some x->ys[j]?=some y->EqD K H n x y (e j)) :
   EqD K H (n+1) (.ref p) (.ref q) ((List.range xs.length).all e)
 | ln {n:Nat} {p q:Addr} {xs ys:List V} (hp:z6 K H p xs) (hq:z6 K H q ys) (hl:xs.length≠ys.length):EqD K H (n+1) (.ref p) (.ref q) false
 | lt {n:Nat} {p q:Addr} {xs ys:List V} (hp:z6 K H p xs) (hq:vQ K H q ys):EqD K H (n+1) (.ref p) (.ref q) false
 | tl {n:Nat} {p q:Addr} {xs ys:List V} (hp:vQ K H p xs) (hq:z6 K H q ys):EqD K H (n+1) (.ref p) (.ref q) false
 | lf {n:Nat} {p:Addr} {xs:List V} {y:V} (hp:z6 K H p xs) (fy:wQ y=true):EqD K H (n+1) (.ref p) y false
 | fl {n:Nat} {p:Addr} {xs:List V} {y:V} (hp:z6 K H p xs) (fy:wQ y=true):EqD K H (n+1) y (.ref p) false
 | tf {n:Nat} {p:Addr} {xs:List V} {y:V} (hp:vQ K H p xs) (fy:wQ y=true):EqD K H (n+1) (.ref p) y false
 | ft {n:Nat} {p:Addr} {xs:List V} {y:V} (hp:vQ K H p xs) (fy:wQ y=true):EqD K H (n+1) y (.ref p) false
section
variable {X:Cx}{pins:List (Addr×Obj)}{σ:St}{H:Hp}{s:Shared}
theorem zaY {x:V}(f:wQ x=true):eqV x x=true:=by
 cases x<;>first | rfl | (simp[eqV];done) | exact absurd (show false=true from f) ztm
theorem S8 (I:Inv X pins σ H s){p:Addr}{xs ys:List V}(h:z6 X.K H p xs)(k:vQ X.K H p ys):False:=by
 obtain⟨_,_,⟨o,n,e,c,_⟩,_⟩:=I.list h
 obtain⟨_,_,⟨o',e',c',_⟩,_⟩:=I.tuple k
 rw[e] at e'
 cases e'
 rw[c] at c'
 injection c' with z
 exact absurd z (by decide)
theorem EqD.refl (I:Inv X pins σ H s){n:Nat}{x y:V}{b:Bool}(h:EqD X.K H n x y b):x=y->b=true:=by
 induction h with
 | flat fx fy=>intro e;subst e;exact zaY fx
 | tt hp hq h ih =>
  intro e
  cases e
  have ee:=I.zb2 hp hq
  subst ee
  rw[Nat.min_self,beq_self_eq_true,Bool.and_true,ztM]
  intro j hj
  have hj':=List.mem_range.mp hj
  exact ih j _ _ (ztj hj') (ztj hj') rfl
 | ll hp hq hl h ih =>
  intro e
  cases e
  have ee:=I.VG hp hq
  subst ee
  rw[ztM]
  intro j hj
  have hj':=List.mem_range.mp hj
  exact ih j _ _ (ztj hj') (ztj hj') rfl
 | ln hp hq hl =>
  intro e
  cases e
  exact absurd (congrArg List.length (I.VG hp hq)) hl
 | lt hp hq=>intro e;cases e;exact(S8 I hp hq).elim
 | tl hp hq=>intro e;cases e;exact(S8 I hq hp).elim
 | lf hp fy=>intro e;subst e;exact absurd (show false=true from fy) ztm
 | fl hp fy=>intro e;subst e;exact absurd (show false=true from fy) ztm
 | tf hp fy=>intro e;subst e;exact absurd (show false=true from fy) ztm
 | ft hp fy=>intro e;subst e;exact absurd (show false=true from fy) ztm
theorem R9 {A:Around}{u:Value}{y:V}{p:Addr}{its:Array Value}(hl:s.heap.IsList p its)(fy:wQ y=true)(ry:RelV y u)(hu:A.units<cLine):SeqAt.RcAt A s (.ref p) u false/\SeqAt.EqAt A s (.ref p) u false/\SeqAt.RcAt A s u (.ref p) false/\SeqAt.EqAt A s u (.ref p) false/\SeqAt.RcNeAt A s (.ref p) u true/\SeqAt.RcNeAt A s u (.ref p) true:=by
 cases y with
 | non=>cases ry;exact⟨.list_none hl hu,.list_none hl hu,.none_list hl hu,.none_list hl hu,.list_none hl hu,.none_list hl hu⟩
 | bl b=>cases ry;exact⟨.list_bool b hl hu,.list_bool b hl hu,.bool_list b hl hu,.bool_list b hl hu,.list_bool b hl hu,.bool_list b hl hu⟩
 | int i=>obtain⟨t,rfl⟩:=ry;exact⟨.list_int i t hl hu,.list_int i t hl hu,.int_list i t hl hu,.int_list i t hl hu,.list_int i t hl hu,.int_list i t hl hu⟩
 | str i=>obtain⟨t,rfl⟩:=ry;exact⟨.list_str i t hl hu,.list_str i t hl hu,.str_list i t hl hu,.str_list i t hl hu,.list_str i t hl hu,.str_list i t hl hu⟩
 | _=>exact absurd (show false=true from fy) ztm
theorem U0 {A:Around}{u:Value}{y:V}{p:Addr}{its:Array Value}(hl:s.heap.IsTuple p its)(fy:wQ y=true)(ry:RelV y u)(hu:A.units<cLine):SeqAt.RcAt A s (.ref p) u false/\SeqAt.EqAt A s (.ref p) u false/\SeqAt.RcAt A s u (.ref p) false/\SeqAt.EqAt A s u (.ref p) false/\SeqAt.RcNeAt A s (.ref p) u true/\SeqAt.RcNeAt A s u (.ref p) true:=by
 cases y with
 | non=>cases ry;exact⟨.tuple_none hl hu,.tuple_none hl hu,.none_tuple hl hu,.none_tuple hl hu,.tuple_none hl hu,.none_tuple hl hu⟩
 | bl b=>cases ry;exact⟨.tuple_bool b hl hu,.tuple_bool b hl hu,.bool_tuple b hl hu,.bool_tuple b hl hu,.tuple_bool b hl hu,.bool_tuple b hl hu⟩
 | int i=>obtain⟨t,rfl⟩:=ry;exact⟨.tuple_int i t hl hu,.tuple_int i t hl hu,.int_tuple i t hl hu,.int_tuple i t hl hu,.tuple_int i t hl hu,.int_tuple i t hl hu⟩
 | str i=>obtain⟨t,rfl⟩:=ry;exact⟨.tuple_str i t hl hu,.tuple_str i t hl hu,.str_tuple i t hl hu,.str_tuple i t hl hu,.tuple_str i t hl hu,.str_tuple i t hl hu⟩
 | _=>exact absurd (show false=true from fy) ztm
theorem item_at {xs:List V}{us:List Value}(r:Vals xs us){j:Nat}(h:j<us.toArray.size):∃x,xs[j]?=some x/\RelV x us.toArray[j]:=by
 have hl:=r.length
 have hj:j<xs.length:=by simp at h;omega
 obtain⟨u,hu,ru⟩:=r.get (ztj hj)
 refine⟨xs[j],ztj hj,?_⟩
 have e:us.toArray[j]=u:=by
  have:=(ztl.mp hu).2
  simpa using this
 rw[e];exact ru
theorem EqD.at {n:Nat}{x y:V}{b:Bool}(h:EqD X.K H n x y b)(I:Inv X pins σ H s):∀{A:Around} {u v:Value},RelV x u->RelV y v->A.units+n<cLine->SeqAt.EqAt A s u v b:=by
 induction h with
 | flat fx fy=>intro A u v rx ry _;exact ziH rx ry fx fy
 | @tt n p q xs ys e hp hq h ih =>
  intro A u v rx ry hu
  cases rx
  cases ry
  obtain⟨us,r1,t1,_⟩:=I.tuple hp
  obtain⟨ws,r2,t2,_⟩:=I.tuple hq
  have l1:=r1.length
  have l2:=r2.length
  by_cases hne:p=q
  ·subst hne
   have z:=(EqD.tt hp hq h).refl I rfl
   rw[z]
   exact SeqAt.EqAt.same _
  ·refine SeqAt.EqAt.of_refs hne ?_
   have z:=SeqAt.RcAt.tuples (A:=A) (e:=e) t1 t2 (by omega) fun j h1 h2=>by
    obtain⟨x,hx,rx⟩:=item_at r1 h1
    obtain⟨y,hy,ry⟩:=item_at r2 h2
    exact ih j x y hx hy rx ry (by show A.units+1+n<cLine;omega)
   rw[zts,zts,<-l1,<-l2] at z
   exact z
 | @ll n p q xs ys e hp hq hl h ih =>
  intro A u v rx ry hu
  cases rx
  cases ry
  obtain⟨us,r1,t1,_⟩:=I.list hp
  obtain⟨ws,r2,t2,_⟩:=I.list hq
  have l1:=r1.length
  have l2:=r2.length
  by_cases hne:p=q
  ·subst hne
   have z:=(EqD.ll hp hq hl h).refl I rfl
   rw[z]
   exact SeqAt.EqAt.same _
  ·refine SeqAt.EqAt.of_refs hne ?_
   have z:=SeqAt.RcAt.lists (A:=A) (e:=e) t1.isList t2.isList (by simp;omega) (by omega) fun j h1 h2=>by
    obtain⟨x,hx,rx⟩:=item_at r1 h1
    obtain⟨y,hy,ry⟩:=item_at r2 h2
    exact ih j x y hx hy rx ry (by show A.units+1+n<cLine;omega)
   rw[zts,<-l1] at z
   exact z
 | @ln n p q xs ys hp hq hl =>
  intro A u v rx ry hu
  cases rx
  cases ry
  obtain⟨us,r1,t1,_⟩:=I.list hp
  obtain⟨ws,r2,t2,_⟩:=I.list hq
  have l1:=r1.length
  have l2:=r2.length
  have hne:p≠q:=fun e=>by subst e;exact hl (congrArg List.length (I.VG hp hq))
  exact SeqAt.EqAt.of_refs hne (SeqAt.RcAt.lists_lengths t1.isList t2.isList (by simp;omega) (by omega))
 | lt hp hq =>
  intro A u v rx ry hu
  cases rx
  cases ry
  obtain⟨us,r1,t1,_⟩:=I.list hp
  obtain⟨ws,r2,t2,_⟩:=I.tuple hq
  exact SeqAt.EqAt.list_tuple t1.isList t2 (by omega)
 | tl hp hq =>
  intro A u v rx ry hu
  cases rx
  cases ry
  obtain⟨us,r1,t1,_⟩:=I.tuple hp
  obtain⟨ws,r2,t2,_⟩:=I.list hq
  exact SeqAt.EqAt.tuple_list t1 t2.isList (by omega)
 | lf hp fy =>
  intro A u v rx ry hu
  cases rx
  obtain⟨us,r1,t1,_⟩:=I.list hp
  exact(R9 t1.isList fy ry (by omega)).2.1
 | fl hp fy =>
  intro A u v rx ry hu
  cases ry
  obtain⟨us,r1,t1,_⟩:=I.list hp
  exact(R9 t1.isList fy rx (by omega)).2.2.2.1
 | tf hp fy =>
  intro A u v rx ry hu
  cases rx
  obtain⟨us,r1,t1,_⟩:=I.tuple hp
  exact(U0 t1 fy ry (by omega)).2.1
 | ft hp fy =>
  intro A u v rx ry hu
  cases ry
  obtain⟨us,r1,t1,_⟩:=I.tuple hp
  exact(U0 t1 fy rx (by omega)).2.2.2.1
theorem EqD.rc {n:Nat}{x y:V}{b:Bool}(h:EqD X.K H n x y b)(I:Inv X pins σ H s)(hn:¬(wQ x=true/\wQ y=true)){A:Around}{u v:Value}(rx:RelV x u)(ry:RelV y v)(hu:A.units+n<cLine):SeqAt.RcAt A s u v b/\SeqAt.RcNeAt A s u v (!b):=by
 cases h with
 | flat fx fy=>exact absurd ⟨fx,fy⟩ hn
 | @tt n p q xs ys e hp hq h =>
  cases rx
  cases ry
  obtain⟨us,r1,t1,_⟩:=I.tuple hp
  obtain⟨ws,r2,t2,_⟩:=I.tuple hq
  have l1:=r1.length
  have l2:=r2.length
  have he:∀j (h1:j<us.toArray.size) (h2:j<ws.toArray.size),SeqAt.EqAt A.in1 s us.toArray[j] ws.toArray[j] (e j):=fun j h1 h2=>by
   obtain⟨x,hx,rx⟩:=item_at r1 h1
   obtain⟨y,hy,ry⟩:=item_at r2 h2
   exact(h j x y hx hy).at I rx ry (by show A.units+1+n<cLine;omega)
  have z:=SeqAt.RcAt.tuples (A:=A) (e:=e) t1 t2 (by omega) he
  have z2:=SeqAt.RcNeAt.tuples (A:=A) (e:=e) t1 t2 (by omega) he
  rw[zts,zts,<-l1,<-l2] at z z2
  exact⟨z,z2⟩
 | @ll n p q xs ys e hp hq hl h =>
  cases rx
  cases ry
  obtain⟨us,r1,t1,_⟩:=I.list hp
  obtain⟨ws,r2,t2,_⟩:=I.list hq
  have l1:=r1.length
  have l2:=r2.length
  have he:∀j (h1:j<us.toArray.size) (h2:j<ws.toArray.size),SeqAt.EqAt A.in1 s us.toArray[j] ws.toArray[j] (e j):=fun j h1 h2=>by
   obtain⟨x,hx,rx⟩:=item_at r1 h1
   obtain⟨y,hy,ry⟩:=item_at r2 h2
   exact(h j x y hx hy).at I rx ry (by show A.units+1+n<cLine;omega)
  have z:=SeqAt.RcAt.lists (A:=A) (e:=e) t1.isList t2.isList (by simp;omega) (by omega) he
  have z2:=SeqAt.RcNeAt.lists (A:=A) (e:=e) t1.isList t2.isList (by simp;omega) (by omega) he
  rw[zts,<-l1] at z z2
  exact⟨z,z2⟩
 | @ln n p q xs ys hp hq hl =>
  cases rx
  cases ry
  obtain⟨us,r1,t1,_⟩:=I.list hp
  obtain⟨ws,r2,t2,_⟩:=I.list hq
  have l1:=r1.length
  have l2:=r2.length
  exact⟨SeqAt.RcAt.lists_lengths t1.isList t2.isList (by simp;omega) (by omega),SeqAt.RcNeAt.lists_lengths t1.isList t2.isList (by simp;omega) (by omega)⟩
 | lt hp hq =>
  cases rx
  cases ry
  obtain⟨us,r1,t1,_⟩:=I.list hp
  obtain⟨ws,r2,t2,_⟩:=I.tuple hq
  exact⟨SeqAt.RcAt.list_tuple t1.isList t2 (by omega),SeqAt.RcNeAt.list_tuple t1.isList t2 (by omega)⟩
 | tl hp hq =>
  cases rx
  cases ry
  obtain⟨us,r1,t1,_⟩:=I.tuple hp
  obtain⟨ws,r2,t2,_⟩:=I.list hq
  exact⟨SeqAt.RcAt.tuple_list t1 t2.isList (by omega),SeqAt.RcNeAt.tuple_list t1 t2.isList (by omega)⟩
 | lf hp fy =>
  cases rx
  obtain⟨us,r1,t1,_⟩:=I.list hp
  have z:=R9 (A:=A) t1.isList fy ry (by omega)
  exact⟨z.1,z.2.2.2.2.1⟩
 | fl hp fy =>
  cases ry
  obtain⟨us,r1,t1,_⟩:=I.list hp
  have z:=R9 (A:=A) t1.isList fy rx (by omega)
  exact⟨z.2.2.1,z.2.2.2.2.2⟩
 | tf hp fy =>
  cases rx
  obtain⟨us,r1,t1,_⟩:=I.tuple hp
  have z:=U0 (A:=A) t1 fy ry (by omega)
  exact⟨z.1,z.2.2.2.2.1⟩
 | ft hp fy =>
  cases ry
  obtain⟨us,r1,t1,_⟩:=I.tuple hp
  have z:=U0 (A:=A) t1 fy rx (by omega)
  exact⟨z.2.2.1,z.2.2.2.2.2⟩
end
section
variable {X:Cx}
theorem zmK {K:Frag}(hK:X.K=K)(hu:X.A.units+8<cLine):Vj X (compareOp .Eq) (fun x y H Q=>∃b,¬(wQ x=true/\wQ y=true)/\EqD K H 8 x y b/\Q (.bl b) H):=by
 subst hK
 intro pins s σ H x y v u Q I rx ry h
 obtain⟨b,hn,he,q⟩:=h
 exact(he.rc I hn rx ry hu).1 X.prog X.w X.xe _ ⟨.bl b,H,I,rfl,q⟩
theorem zmL {K:Frag}(hK:X.K=K)(hu:X.A.units+8<cLine):Vj X (compareOp .NotEq) (fun x y H Q=>∃b,¬(wQ x=true/\wQ y=true)/\EqD K H 8 x y b/\Q (.bl (!b)) H):=by
 subst hK
 intro pins s σ H x y v u Q I rx ry h
 obtain⟨b,hn,he,q⟩:=h
 exact(he.rc I hn rx ry hu).2 X.prog X.w X.xe _ ⟨.bl (!b),H,I,rfl,q⟩
theorem hu8 {A:Around}{k:Nat}(hr:uK k A):A.units+8<cLine:=by have:=hr.units;omega
theorem Mq:∀{xs:List V} {us:List Value},xs.length=us.length->(∀(j:Nat) u,us[j]?=some u->∃x,xs[j]?=some x/\RelV x u)->Vals xs us
 | [],[],_,_=>.nil
 | [],_::_,h,_=>by simp at h
 | _::_,[],h,_=>by simp at h
 | x::xs,u::us,hl,h=>by
  obtain⟨x',e,r⟩:=h 0 u rfl
  cases e
  refine .cons r (Mq (by simpa using hl) fun j v hv=>?_)
  obtain⟨y,e,r⟩:=h (j+1) v (by simpa using hv)
  exact⟨y,by simpa using e,r⟩
theorem S9 (hc:X.calm=true):Xl X (.type "list") (fun xs H Q=>∃(p:Addr) (kvs:List (Key×V)),xs=[.ref p]/\H p=some (.dK kvs)/\∀l,H l=none->Q (.ref l) (upd H l (.lst (kvs.map fun e=>kV e.1)))):=by
 intro pins s σ H xs us Q I r h
 obtain⟨p,kvs,rfl,hp,q⟩:=h
 obtain⟨u,rfl,rx⟩:=vals1 r
 cases rx
 obtain⟨hz,lo,vs,rv,hD⟩:=(show kvs.length<=sizeLine/\(p==sysModules)=false/\∃vs,KV kvs vs/\s.heap.DictOf (yp X.prog X.w) p vs from I.hok p _ hp)
 obtain⟨ep,hat⟩:=hD.dictAt
 have hl:kvs.length=vs.length:=Paired.length rv
 refine PySem.W.kdl_call (PySem.W.kdl_dict (knd:=yp X.prog X.w) (kvs:=vs) (ep:=ep) lo) (I.ok.hd hc) hat (by omega) fun h' tk acc c hk hS hacc=>?_
 refine⟨.ref s.heap.objs.size,_,I.laid (o:=.lst (kvs.map fun e=>kV e.1)) hk (zty _) ?_,rfl,q _ (I.hok.fresh (zty _))⟩
 refine⟨by rw[zti];exact hz,acc.toList,c,?_,by simpa using hS⟩
 refine Mq (by rw[zti];have:=hacc.1;simp;omega) fun j v hv=>?_
 obtain⟨k,x,hx,hkv⟩:=hacc.2 j v (by rw[<-Array.getElem?_toList];exact hv)
 obtain⟨y,hy,e1,_⟩:=Mf rv hx
 refine⟨kV y.1,by rw[ztk,hy];rfl,?_⟩
 rw[e1]
 rcases xH (k:=k) (v:=v) hkv with ⟨i,t,rfl,rfl⟩ | ⟨z,t,rfl,rfl⟩
 ·exact⟨_,rfl⟩
 ·exact⟨_,rfl⟩
theorem Kv (hc:X.calm=true):Xl X (.builtin "sorted") (fun xs H Q=>∃(p:Addr) (kvs:List (Key×V)) (ns:List Int),xs=[.ref p]/\H p=some (.dK kvs)/\kvs.map (·.1)=ns.map Sum.inl/\ns.length<64/\∀(l:Addr) (ms:List Int),H l=none->ms.Perm ns->ms.Pairwise (·<=·)->Q (.ref l) (upd H l (.lst (ms.map V.int)))):=by
 intro pins s σ H xs us Q I r h
 obtain⟨p,kvs,ns,rfl,hp,hns,h64,q⟩:=h
 obtain⟨u,rfl,rx⟩:=vals1 r
 cases rx
 obtain⟨hz,lo,vs,rv,hD⟩:=(show kvs.length<=sizeLine/\(p==sysModules)=false/\∃vs,KV kvs vs/\s.heap.DictOf (yp X.prog X.w) p vs from I.hok p _ hp)
 obtain⟨ep,hat⟩:=hD.dictAt
 have hl:kvs.length=vs.length:=Paired.length rv
 have hnl:kvs.length=ns.length:=by have:=congrArg List.length hns;rw[zti,zti] at this;exact this
 refine Calls.call_function_entry kind_sorted plain_sorted entry_sorted (args_sorted1 _) ?_
 unfold Builtin.«sorted»
 refine wpAny_bind (m:=checkCount "sorted" 1 1 _) (wpAny_pure ?_)
 refine wpAny_bind (PySem.W.kdu_collect (PySem.W.kdl_dict (knd:=yp X.prog X.w) (kvs:=vs) (ep:=ep) lo) (I.ok.hd hc) hat (by omega) fun h' tk acc hk hacc=>?_)
 have hoL:(h'.push (seqObj "list" acc.toList.toArray 0)).get? h'.objs.size=some (seqObj "list" acc.toList.toArray 0):=ztD _ rfl
 have hv:Vals (ns.map V.int) acc.toList:=by
  refine Mq (by rw[zti];have:=hacc.1;simp;omega) fun j v hv=>?_
  obtain⟨k,x,hx,hkv⟩:=hacc.2 j v (by rw[<-Array.getElem?_toList];exact hv)
  obtain⟨y,hy,e1,_⟩:=Mf rv hx
  have e2:(ns.map (Sum.inl:Int->Key))[j]?=some y.1:=by rw[<-hns,ztk,hy];rfl
  rw[ztk] at e2
  cases hj:ns[j]? with
  | none=>rw[hj] at e2;cases e2
  | some i =>
   rw[hj] at e2
   have e3:(Sum.inl i:Key)=y.1:=ztN e2
   refine⟨.int i,by rw[ztk,hj];rfl,?_⟩
   have e1':y.1=k:=e1
   rw[<-e1',<-e3] at hkv
   rcases xH (k:=(Sum.inl i:Key)) (v:=v) hkv with ⟨i',t,e4,rfl⟩ | ⟨z,t,e4,rfl⟩
   ·cases e4;exact⟨_,rfl⟩
   ·cases e4
 have hi:IntsAre acc.toList ns:=intsAre_of hv
 have hal:acc.toList.length=ns.length:=hi.length
 refine wpAny_bind (wpAny_newList ?_ (hsz:=by rw[hal];exact ztB (yc (by omega))))
 show wpAny _ _ _ _ _ { s with heap:=h'.push (seqObj "list" acc.toList.toArray 0),toks:=tk }
 refine wpAny_bind (wpAny_holding (wpAny_call_entry slot_list_sort ⟨_,hoL,rfl⟩ entry_list_sort (list_sort_tree hoL hi (by omega) fun out ms a1 a2 a3=>⟨_,rfl,?_⟩) (args_list_sort _)))
 refine wpAny_pure ⟨_,rfl,?_⟩
 have I1:Inv X pins σ H { s with heap:=h',toks:=tk }:=I.kept hk
 obtain⟨e,he⟩:=sortedHeap_at (vs:=acc.toList) (out:=out) hoL
 have hf:H h'.objs.size=none:=I1.hok.fresh (zty _)
 have hlm:=a2.length_eq
 have s64:=yc (n:=ms.length) (by omega)
 refine⟨.ref h'.objs.size,_,I1.laid (o:=.lst (ms.map V.int)) (fun b o e=>?_) (zty _) ?_,rfl,q _ ms hf a2 a3⟩
 ·have lb:=ztp e
  rw[sortedHeap_old (ztx lb) (by rw[size_push'];exact Nat.lt_succ_of_lt lb)]
  exact zto _ e
 ·refine⟨by rw[zti];exact ztB s64,out.toList,e,Kl a1,?_⟩
  simpa using he
end
end L2
namespace yL
abbrev Rm:=Option (Nat×Nat×Nat)
def Sh (n:Nat)(rs:List Rm)(k:Nat):Nat:=match rs[k]? with
 | some (some (i,_,_))=>i
 | _=>n
structure Bk (n:Nat)(rs:List Rm):Prop where
 h0:rs[0]?=some none
 h1:rs[1]?=some none
 rm:∀k,2<=k->k<rs.length->∃i lo hi,rs[k]?=some (some (i,lo,hi))/\i<n/\lo<k/\hi<k/\lo≠hi/\i<Sh n rs lo/\i<Sh n rs hi
 uq:∀(k l:Nat) (x:Nat×Nat×Nat),rs[k]?=some (some x)->rs[l]?=some (some x)->k=l
abbrev Row:=Nat->Bool
def put (r:Row)(i:Nat)(v:Bool):Row:=fun j=>if j=i then v else r j
def lead (rs:List Rm)(r:Row):Nat->Nat->Nat
 | 0,k=>k
 | f+1,k=>match rs[k]? with
  | some (some (i,lo,hi))=>lead rs r f (if r i then hi else lo)
  | _=>k
theorem zco {n:Nat}{rs:List Rm}(B:Bk n rs)(r:Row):∀(f g k:Nat),k<=f->k<=g->k<rs.length->lead rs r f k=lead rs r g k
 | 0,0,k,_,_,_=>rfl
 | 0,g+1,k,h,_,_=>by
  have e:k=0:=by omega
  subst e
  show 0=lead rs r (g+1) 0
  unfold lead
  rw[B.h0]
 | f+1,0,k,_,h,_=>by
  have e:k=0:=by omega
  subst e
  show lead rs r (f+1) 0=0
  unfold lead
  rw[B.h0]
 | f+1,g+1,k,hf,hg,hk=>by
  by_cases h2:2<=k
  ·obtain⟨i,lo,hi,e,_,hlo,hhi,_⟩:=B.rm k h2 hk
   unfold lead
   rw[e]
   show lead rs r f (if r i then hi else lo)=lead rs r g (if r i then hi else lo)
   refine zco B r f g _ ?_ ?_ ?_<;>(split<;>omega)
  ·have:k=0\/k=1:=by omega
   rcases this with e | e<;>subst e<;>unfold lead
   ·rw[B.h0]
   ·rw[B.h1]
def yes (rs:List Rm)(k:Nat)(r:Row):Bool:=lead rs r k k==1
section
variable {n:Nat}{rs:List Rm}(B:Bk n rs)
include B
theorem len2:2<=rs.length:=by
 have:=(ztl.mp B.h1).1
 omega
theorem zi7 (r:Row):yes rs 0 r=false:=rfl
theorem Qa (r:Row):yes rs 1 r=true:=by
 unfold yes lead
 rw[B.h1]
 rfl
theorem zhR {k i lo hi:Nat}(e:rs[k]?=some (some (i,lo,hi)))(r:Row):lead rs r k k=lead rs r (if r i then hi else lo) (if r i then hi else lo):=by
 have hk:=(ztl.mp e).1
 have k2:2<=k:=by
  by_cases h:2<=k
  ·exact h
  ·exfalso
   have:k=0\/k=1:=by omega
   rcases this with z | z<;>subst z
   ·rw[B.h0] at e;cases e
   ·rw[B.h1] at e;cases e
 obtain⟨i',lo',hi',e',_,hlo,hhi,_⟩:=B.rm k k2 hk
 rw[e] at e'
 cases e'
 obtain⟨m,rfl⟩:∃m,k=m+1:=⟨k-1,by omega⟩
 show(match rs[m+1]? with | some (some (i,lo,hi))=>lead rs r m (if r i then hi else lo) | _=>m+1)=_
 rw[e]
 show lead rs r m (if r i then hi else lo)=_
 refine zco B r _ _ _ ?_ (zty _) ?_<;>(split<;>omega)
theorem Ra {k i lo hi:Nat}(e:rs[k]?=some (some (i,lo,hi)))(r:Row):yes rs k r=if r i then yes rs hi r else yes rs lo r:=by
 unfold yes
 rw[zhR B e r]
 split<;>rfl
theorem U3 {k i lo hi:Nat}(e:rs[k]?=some (some (i,lo,hi))):Sh n rs k=i:=by unfold Sh;rw[e]
theorem zfQ:Sh n rs 0=n:=by unfold Sh;rw[B.h0]
theorem zc3:Sh n rs 1=n:=by unfold Sh;rw[B.h1]
theorem V0:∀(m k:Nat),k<=m->k<rs.length->∀{r r':Row},(∀i,Sh n rs k<=i->i<n->r i=r' i)->yes rs k r=yes rs k r'
 | m,k,hm,hk,r,r',h=>by
  by_cases h2:2<=k
  ·obtain⟨i,lo,hi,e,hin,hlo,hhi,_,l1,l2⟩:=B.rm k h2 hk
   have lk:=U3 B e
   rw[Ra B e,Ra B e,h i (by omega) hin]
   match m,hm with
   | 0,hm=>omega
   | m+1,hm =>
    rw[V0 m hi (by omega) (by omega) fun j hj hjn=>h j (by omega) hjn,V0 m lo (by omega) (by omega) fun j hj hjn=>h j (by omega) hjn]
  ·have:k=0\/k=1:=by omega
   rcases this with z | z<;>subst z
   ·rfl
   ·rw[Qa B,Qa B]
theorem ZQ {k i:Nat}(hk:k<rs.length)(h:i<Sh n rs k)(r:Row)(v:Bool):yes rs k (put r i v)=yes rs k r:=by
 refine V0 B k k (zty _) hk fun j hj _=>?_
 unfold put
 rw[if_neg (by omega)]
theorem U4 {k i lo hi:Nat}(e:rs[k]?=some (some (i,lo,hi)))(hk:k<rs.length)(r:Row):yes rs k (put r i false)=yes rs lo r/\yes rs k (put r i true)=yes rs hi r:=by
 have k2:2<=k:=by
  by_cases h:2<=k
  ·exact h
  ·exfalso
   have:k=0\/k=1:=by omega
   rcases this with z | z<;>subst z
   ·rw[B.h0] at e;cases e
   ·rw[B.h1] at e;cases e
 obtain⟨i',lo',hi',e',_,hlo,hhi,_,l1,l2⟩:=B.rm k k2 hk
 rw[e] at e'
 cases e'
 constructor
 ·rw[Ra B e]
  have z:put r i false i=false:=by unfold put;rw[if_pos rfl]
  rw[z,if_neg ztm]
  exact ZQ B (by omega) l1 r false
 ·rw[Ra B e]
  have z:put r i true i=true:=by unfold put;rw[if_pos rfl]
  rw[z,if_pos rfl]
  exact ZQ B (by omega) l2 r true
theorem Y7:∀(m k l:Nat),(k<=m/\l<=m)->k<rs.length->l<rs.length->(∀r,yes rs k r=yes rs l r)->k=l
 | m,k,l,hm,hk,hl,h=>by
  by_cases k2:2<=k
  ·obtain⟨i,lo,hi,e,hin,hlo,hhi,hne,l1,l2⟩:=B.rm k k2 hk
   by_cases l2':2<=l
   ·obtain⟨j,lo',hi',e',hjn,hlo',hhi',hne',l1',l2''⟩:=B.rm l l2' hl
    match m,hm with
    | 0,hm=>omega
    | m+1,hm =>
     rcases Nat.lt_trichotomy i j with q | q | q
     ·exfalso
      refine hne (Y7 m lo hi (by omega) (by omega) (by omega) fun r=>?_)
      have z:=U4 B e hk r
      rw[<-z.1,<-z.2,h,h,ZQ B hl (by rw[U3 B e'];exact q),ZQ B hl (by rw[U3 B e'];exact q)]
     ·subst q
      have a1:lo=lo':=Y7 m lo lo' (by omega) (by omega) (by omega) fun r=>by rw[<-(U4 B e hk r).1,<-(U4 B e' hl r).1,h]
      have a2:hi=hi':=Y7 m hi hi' (by omega) (by omega) (by omega) fun r=>by rw[<-(U4 B e hk r).2,<-(U4 B e' hl r).2,h]
      subst a1 a2
      exact B.uq k l _ e e'
     ·exfalso
      refine hne' (Y7 m lo' hi' (by omega) (by omega) (by omega) fun r=>?_)
      have z:=U4 B e' hl r
      rw[<-z.1,<-z.2,<-h,<-h,ZQ B hk (by rw[U3 B e];exact q),ZQ B hk (by rw[U3 B e];exact q)]
   ·exfalso
    match m,hm with
    | 0,hm=>omega
    | m+1,hm =>
     have ll:Sh n rs l=n:=by
      have:l=0\/l=1:=by omega
      rcases this with z | z<;>subst z
      ·exact zfQ B
      ·exact zc3 B
     refine hne (Y7 m lo hi (by omega) (by omega) (by omega) fun r=>?_)
     have z:=U4 B e hk r
     rw[<-z.1,<-z.2,h,h,ZQ B hl (by omega),ZQ B hl (by omega)]
  ·by_cases l2':2<=l
   ·exfalso
    obtain⟨j,lo',hi',e',hjn,hlo',hhi',hne',l1',l2''⟩:=B.rm l l2' hl
    match m,hm with
    | 0,hm=>omega
    | m+1,hm =>
     have ll:Sh n rs k=n:=by
      have:k=0\/k=1:=by omega
      rcases this with z | z<;>subst z
      ·exact zfQ B
      ·exact zc3 B
     refine hne' (Y7 m lo' hi' (by omega) (by omega) (by omega) fun r=>?_)
     have z:=U4 B e' hl r
     rw[<-z.1,<-z.2,<-h,<-h,ZQ B hk (by omega),ZQ B hk (by omega)]
   ·have a:k=0\/k=1:=by omega
    have b:l=0\/l=1:=by omega
    have z:=h fun _=>false
    rcases a with a | a<;>rcases b with b | b<;>subst a<;>subst b
    ·rfl
    ·rw[zi7 B,Qa B] at z;cases z
    ·rw[zi7 B,Qa B] at z;cases z
    ·rfl
end
theorem ZR {rs:List Rm}{x:Rm}{k:Nat}(h:k<rs.length):(rs++[x])[k]?=rs[k]?:=ztP h
theorem Rb {n:Nat}{rs:List Rm}{x:Rm}{k:Nat}(h:k<rs.length):Sh n (rs++[x]) k=Sh n rs k:=by
 unfold Sh;rw[ZR h]
theorem Bk.snoc {n:Nat}{rs:List Rm}(B:Bk n rs){i lo hi:Nat}(hin:i<n)(hlo:lo<rs.length)(hhi:hi<rs.length)(hne:lo≠hi)(l1:i<Sh n rs lo)(l2:i<Sh n rs hi)(new:some (i,lo,hi)∉rs):Bk n (rs++[some (i,lo,hi)]) where
 h0:=by rw[ZR (by have:=len2 B;omega)];exact B.h0
 h1:=by rw[ZR (by have:=len2 B;omega)];exact B.h1
 rm:=fun k h2 hk=>by
  rw[ztq,ztQ] at hk
  by_cases hlt:k<rs.length
  ·obtain⟨i',lo',hi',e,a1,a2,a3,a4,a5,a6⟩:=B.rm k h2 hlt
   exact⟨i',lo',hi',by rw[ZR hlt];exact e,a1,a2,a3,a4,by rw[Rb (by omega)];exact a5,by rw[Rb (by omega)];exact a6⟩
  ·have e:k=rs.length:=by omega
   subst e
   exact⟨i,lo,hi,by simp,hin,hlo,hhi,hne,by rw[Rb hlo];exact l1,by rw[Rb hhi];exact l2⟩
 uq:=fun k l x hk hl=>by
  have lk:=(ztl.mp hk).1
  have ll:=(ztl.mp hl).1
  rw[ztq,ztQ] at lk ll
  have last:∀m,m=rs.length->(rs++[some (i,lo,hi)])[m]?=some (some x)->x=(i,lo,hi):=fun m hm h=>by
   subst hm
   simp at h
   exact h.symm
  by_cases h1:k<rs.length
  ·by_cases h2:l<rs.length
   ·rw[ZR h1] at hk
    rw[ZR h2] at hl
    exact B.uq k l x hk hl
   ·exfalso
    have e:=last l (by omega) hl
    subst e
    rw[ZR h1] at hk
    exact new (ztn hk)
  ·by_cases h2:l<rs.length
   ·exfalso
    have e:=last k (by omega) hk
    subst e
    rw[ZR h2] at hl
    exact new (ztn hl)
   ·omega
theorem zcp {n:Nat}{rs:List Rm}(B:Bk n rs){x:Rm}(r:Row):∀(f k:Nat),k<rs.length->lead (rs++[x]) r f k=lead rs r f k
 | 0,_,_=>rfl
 | f+1,k,hk=>by
  unfold lead
  rw[ZR hk]
  by_cases h2:2<=k
  ·obtain⟨i,lo,hi,e,_,hlo,hhi,_⟩:=B.rm k h2 hk
   rw[e]
   show lead (rs++[x]) r f (if r i then hi else lo)=lead rs r f (if r i then hi else lo)
   exact zcp B r f _ (by split<;>omega)
  ·have:k=0\/k=1:=by omega
   rcases this with z | z<;>subst z
   ·rw[B.h0]
   ·rw[B.h1]
theorem zei {n:Nat}{rs:List Rm}(B:Bk n rs){x:Rm}{k:Nat}(hk:k<rs.length)(r:Row):yes (rs++[x]) k r=yes rs k r:=by
 unfold yes;rw[zcp B r k k hk]
def vC (rs rs':List Rm):Prop:=∃xs,rs'=rs++xs
theorem vC.refl (rs:List Rm):vC rs rs:=⟨[],by simp⟩
theorem vC.trans {a b c:List Rm}(h:vC a b)(k:vC b c):vC a c:=by
 obtain⟨x,rfl⟩:=h
 obtain⟨y,rfl⟩:=k
 exact⟨x++y,by rw[List.append_assoc]⟩
theorem vC.len {a b:List Rm}(h:vC a b):a.length<=b.length:=by
 obtain⟨x,rfl⟩:=h
 rw[ztq];omega
theorem vC.get {a b:List Rm}(h:vC a b){k:Nat}(hk:k<a.length):b[k]?=a[k]?:=by
 obtain⟨x,rfl⟩:=h
 exact ztP hk
theorem vC.snoc (rs:List Rm)(x:Rm):vC rs (rs++[x]):=⟨[x],rfl⟩
theorem vC.Sh {n:Nat}{a b:List Rm}(h:vC a b){k:Nat}(hk:k<a.length):Sh n b k=Sh n a k:=by
 unfold yL.Sh;rw[h.get hk]
theorem vC.lead {n:Nat}{a b:List Rm}(B:Bk n a)(h:vC a b)(r:Row):∀(f k:Nat),k<a.length->lead b r f k=lead a r f k
 | 0,_,_=>rfl
 | f+1,k,hk=>by
  unfold yL.lead
  rw[h.get hk]
  by_cases h2:2<=k
  ·obtain⟨i,lo,hi,e,_,hlo,hhi,_⟩:=B.rm k h2 hk
   rw[e]
   show yL.lead b r f (if r i then hi else lo)=yL.lead a r f (if r i then hi else lo)
   exact vC.lead B h r f _ (by split<;>omega)
  ·have:k=0\/k=1:=by omega
   rcases this with z | z<;>subst z
   ·rw[B.h0]
   ·rw[B.h1]
theorem vC.yes {n:Nat}{a b:List Rm}(B:Bk n a)(h:vC a b){k:Nat}(hk:k<a.length)(r:Row):yes b k r=yes a k r:=by
 unfold yL.yes;rw[vC.lead B h r k k hk]
inductive Reach (rs:List Rm):Nat->Nat->Prop
 | refl (k:Nat):Reach rs k k
 | lo {k i lo hi j:Nat} (e:rs[k]?=some (some (i,lo,hi))) (h:Reach rs lo j):Reach rs k j
 | hi {k i lo hi j:Nat} (e:rs[k]?=some (some (i,lo,hi))) (h:Reach rs hi j):Reach rs k j
theorem Reach.step {rs:List Rm}{k j i lo hi:Nat}(h:Reach rs k j)(e:rs[j]?=some (some (i,lo,hi))):Reach rs k lo/\Reach rs k hi:=by
 induction h with
 | refl k=>exact⟨.lo e (.refl _),.hi e (.refl _)⟩
 | lo e' _ ih=>exact⟨.lo e' (ih e).1,.lo e' (ih e).2⟩
 | hi e' _ ih=>exact⟨.hi e' (ih e).1,.hi e' (ih e).2⟩
theorem Reach.closed {rs:List Rm}{S:Nat->Prop}{k j:Nat}(hk:S k)(hc:∀{m i lo hi},S m->rs[m]?=some (some (i,lo,hi))->S lo/\S hi)(h:Reach rs k j):S j:=by
 induction h with
 | refl k=>exact hk
 | lo e _ ih=>exact ih (hc hk e).1
 | hi e _ ih=>exact ih (hc hk e).2
theorem Reach.lt {n:Nat}{rs:List Rm}(B:Bk n rs){k j:Nat}(h:Reach rs k j):k<rs.length->j<rs.length:=by
 induction h with
 | refl k=>exact id
 | @lo k i lo hi j e _ ih =>
  intro hk
  refine ih ?_
  by_cases h2:2<=k
  ·obtain⟨i',lo',hi',e',_,a,b,_⟩:=B.rm k h2 hk
   rw[e] at e'
   cases e'
   omega
  ·exfalso
   have:k=0\/k=1:=by omega
   rcases this with z | z<;>subst z
   ·rw[B.h0] at e;cases e
   ·rw[B.h1] at e;cases e
 | @hi k i lo hi j e _ ih =>
  intro hk
  refine ih ?_
  by_cases h2:2<=k
  ·obtain⟨i',lo',hi',e',_,a,b,_⟩:=B.rm k h2 hk
   rw[e] at e'
   cases e'
   omega
  ·exfalso
   have:k=0\/k=1:=by omega
   rcases this with z | z<;>subst z
   ·rw[B.h0] at e;cases e
   ·rw[B.h1] at e;cases e
theorem few {n:Nat}{rs:List Rm}(B:Bk n rs):∀(m k:Nat),k<=m->k<rs.length->∃c:List Nat,c.length+1<=2^(n-Sh n rs k)/\∀j,Reach rs k j->j<2\/j∈c
 | m,k,hm,hk=>by
  by_cases h2:2<=k
  ·obtain⟨i,lo,hi,e,hin,hlo,hhi,_,l1,l2⟩:=B.rm k h2 hk
   match m,hm with
   | 0,hm=>omega
   | m+1,hm =>
    obtain⟨c1,a1,a2⟩:=few B m lo (by omega) (by omega)
    obtain⟨c2,b1,b2⟩:=few B m hi (by omega) (by omega)
    have lk:Sh n rs k=i:=U3 B e
    refine⟨k::(c1++c2),?_,fun j h=>?_⟩
    ·rw[lk,ztu,ztq]
     have p1:2^(n-Sh n rs lo)<=2^(n-i-1):=ztO (by decide) (by omega)
     have p2:2^(n-Sh n rs hi)<=2^(n-i-1):=ztO (by decide) (by omega)
     have p3:2^(n-i)=2^(n-i-1)+2^(n-i-1):=by
      obtain⟨d,hd⟩:∃d,n-i=d+1:=⟨n-i-1,by omega⟩
      rw[hd,Nat.pow_succ,Nat.add_sub_cancel]
      omega
     omega
    ·cases h with
     | refl _=>exact .inr ztC
     | lo e' h' =>
      rw[e] at e'
      cases e'
      rcases a2 j h' with z | z
      ·exact .inl z
      ·exact .inr (ztt _ (List.mem_append_left _ z))
     | hi e' h' =>
      rw[e] at e'
      cases e'
      rcases b2 j h' with z | z
      ·exact .inl z
      ·exact .inr (ztt _ (ztz _ z))
  ·refine⟨[],Nat.one_le_two_pow,fun j h=>.inl ?_⟩
   have:k=0\/k=1:=by omega
   cases h with
   | refl _=>omega
   | lo e' _ =>
    exfalso
    rcases this with z | z<;>subst z
    ·rw[B.h0] at e';cases e'
    ·rw[B.h1] at e';cases e'
   | hi e' _ =>
    exfalso
    rcases this with z | z<;>subst z
    ·rw[B.h0] at e';cases e'
    ·rw[B.h1] at e';cases e'
theorem sub_len {α:Type}[DecidableEq α]:∀{xs ys:List α},xs.Nodup->(∀x∈xs,x∈ys)->xs.length<=ys.length
 | [],_,_,_=>ztF _
 | x::xs,ys,nd,h=>by
  obtain⟨h1,h2⟩:=List.nodup_cons.mp nd
  have hx:=h x ztC
  have ih:=sub_len (xs:=xs) (ys:=ys.erase x) h2 fun y hy=>(List.mem_erase_of_ne (fun e:y=x=>h1 (by rw[<-e];exact hy))).mpr (h y (ztt _ hy))
  rw[List.length_erase_of_mem hx] at ih
  have:=List.length_pos_of_mem hx
  rw[ztu]
  omega
theorem zhS {n:Nat}{rs:List Rm}(B:Bk n rs){k:Nat}(hk:k<rs.length){xs:List Nat}(nd:xs.Nodup)(h:∀x∈xs,Reach rs k x):xs.length<=2^n+1:=by
 obtain⟨c,c1,c2⟩:=few B k k (zty _) hk
 have q:=sub_len (ys:=0::1::c) nd fun x hx=>by
  rcases c2 x (h x hx) with z | z
  ·have:x=0\/x=1:=by omega
   rcases this with w | w<;>simp[w]
  ·exact ztt _ (ztt _ z)
 have p:2^(n-Sh n rs k)<=2^n:=ztO (by decide) (by omega)
 rw[ztu,ztu] at q
 omega
theorem Rf:∀{xs:List Int},xs.Pairwise (·<=·)->xs.Nodup->xs.Pairwise (·<·)
 | [],_,_=>.nil
 | x::xs,h,nd=>by
  obtain⟨a1,a2⟩:=List.pairwise_cons.mp h
  obtain⟨b1,b2⟩:=List.nodup_cons.mp nd
  refine List.pairwise_cons.mpr ⟨fun y hy=>?_,Rf a2 b2⟩
  have:=a1 y hy
  have:x≠y:=fun e=>b1 (e ▸ hy)
  omega
end yL
namespace uY
open PySem L2 yL
abbrev yQ:=Addr->Prop
def zc4 (F:yQ)(H H':Hp):Prop:=∀x o,H x=some o->¬F x->H' x=some o
def zcq:List Str:=["room", "size", "order", "enter", "worth_at", "below"]
structure Wi (C:Addr)(B:Hp->Addr->List Str->List Rm->yQ->Prop):Prop where
 ins:∀{H b os rs F},B H b os rs F->∃dx fs,H b=some (.ins C dx fs)/\∀m∈zcq,fs.lookup m=none
 frame:∀{H H' b os rs F},B H b os rs F->(∀x o,H x=some o->F x->H' x=some o)->xr H H'->B H' b os rs F
 there:∀{H b os rs F x},B H b os rs F->F x->H x≠none
 bk:∀{H b os rs F},B H b os rs F->Bk os.length rs
 ord:∀{H b os rs F},B H b os rs F->Jj os
theorem Wi.same {C:Addr}{B:Hp->Addr->List Str->List Rm->yQ->Prop}(L:Wi C B){H H':Hp}{b:Addr}{os:List Str}{rs:List Rm}{F:yQ}(h:B H b os rs F)(g:Same H H'):B H' b os rs F :=
 L.frame h (fun x o e _=>g x o e) (xr.of g)
theorem Wi.fresh {C:Addr}{B:Hp->Addr->List Str->List Rm->yQ->Prop}(L:Wi C B){H:Hp}{b x:Addr}{os:List Str}{rs:List Rm}{F:yQ}(h:B H b os rs F)(e:H x=none):¬F x:=fun q=>L.there h q e
theorem Wi.lst {C:Addr}{B:Hp->Addr->List Str->List Rm->yQ->Prop}(L:Wi C B){H:Hp}{b x:Addr}{os:List Str}{rs:List Rm}{F:yQ}{xs:List V}(h:B H b os rs F)(e:H x=some (.lst xs))(n:¬F x)(o:HO):B (upd H x o) b os rs F :=
 L.frame h (fun y u e' hy=>by rw[zE (fun z=>n (by rw[<-z];exact hy))];exact e') (xr.lst e o)
theorem zc4.of_same {F:yQ}{H H':Hp}(g:Same H H'):zc4 F H H':=fun x o e _=>g x o e
def zp7 (os:List Str)(r:Row):Str->Bool:=fun x=>r (ix os x)
section
variable (B:Hp->Addr->List Str->List Rm->yQ->Prop)(K:Frag)(C:Addr)
inductive Pg (vs:List V)(H:Hp)(Q:VK)(E9:XK):Prop
 | mk (b dx l:Addr) (os:List Str) (_:vs=[.ref b,.ref l]) (_:H b=some (.ins C dx [])) (_:b≠dx) (_:z6 K H l (os.map V.str)) (_:Jj os) (_:∀(H':Hp) (F:yQ),(∀x o,H x=some o->x≠b->H' x=some o)->B H' b os [none,none] F->(∀x,F x->x=b\/x=dx\/H x=none)->Q .non H'):Pg vs H Q E9
inductive uN (vs:List V)(H:Hp)(Q:VK)(E9:XK):Prop
 | mk (b:Addr) (os:List Str) (rs:List Rm) (F:yQ) (_:vs=[.ref b]) (_:B H b os rs F) (_:∀(l:Addr) (H':Hp),Same H H'->H l=none->H' l=some (.lst (os.map V.str))->Q (.ref l) H'):uN vs H Q E9
end
end uY
namespace L2
open PySem PySem.Spec PyProof.Rows
theorem zhT:bootBuiltins "sorted"=some (.builtin "sorted"):=by decide +kernel
theorem zej {κ:Type}[DecidableEq κ]{k:κ}:∀{kvs:List (κ×V)},(Zn kvs k).isSome=decide (k∈kvs.map (·.1))
 | []=>rfl
 | p::r=>by
  by_cases e:p.1=k
  ·rw[vB e]
   exact(decide_eq_true (by rw[ztH,e];exact ztC)).symm
  ·rw[wX e,zej (kvs:=r)]
   congr 1
   rw[ztH,List.mem_cons]
   exact propext ⟨.inr,fun h=>h.elim (fun z=>absurd z.symm e) id⟩
end L2
namespace yL
open L2
structure Dfs (rs:List Rm)(k0:Nat)(ks ts:List Nat):Prop where
 nd:ks.Nodup
 r1:∀x∈ks,Reach rs k0 x
 r2:∀x∈ts,Reach rs k0 x
 st:k0∈ks\/k0∈ts
 cl:∀m i lo hi,m∈ks->rs[m]?=some (some (i,lo,hi))->(lo∈ks\/lo∈ts)/\(hi∈ks\/hi∈ts)
 len:ts.length<=1+2*ks.length
theorem Dfs.start (rs:List Rm)(k0:Nat):Dfs rs k0 [] [k0]:=⟨List.nodup_nil,fun x h=>by simp at h,fun x h=>by rw[List.mem_singleton.mp h];exact .refl _,.inr ztC,fun m i lo hi h=>by simp at h,zty _⟩
theorem Kw {ks ts:List Nat}{x y:Nat}(hx:x∈ks)(h:y∈ks\/y∈ts++[x]):y∈ks\/y∈ts:=by
 rcases h with h | h
 ·exact .inl h
 ·rcases List.mem_append.mp h with h | h
  ·exact .inr h
  ·rw[List.mem_singleton.mp h];exact .inl hx
theorem Dfs.skip {rs:List Rm}{k0 x:Nat}{ks ts:List Nat}(D:Dfs rs k0 ks (ts++[x]))(hx:x∈ks):Dfs rs k0 ks ts :=
 ⟨D.nd,D.r1,fun y h=>D.r2 y (List.mem_append_left _ h),Kw hx D.st,fun m i lo hi h e=>⟨Kw hx (D.cl m i lo hi h e).1,Kw hx (D.cl m i lo hi h e).2⟩,by have:=D.len;rw[ztq] at this;omega⟩
theorem zg8 {ks:List Nat}{x:Nat}(h:ks.Nodup)(hx:x∉ks):(ks++[x]).Nodup:=by
 rw[List.nodup_append]
 refine⟨h,by simp,fun a ha b hb=>?_⟩
 rw[List.mem_singleton.mp hb]
 exact fun e=>hx (e ▸ ha)
theorem zfR {ks ts us:List Nat}{x y:Nat}(h:y∈ks\/y∈ts++[x]):y∈ks++[x]\/y∈ts++us:=by
 rcases h with h | h
 ·exact .inl (List.mem_append_left _ h)
 ·rcases List.mem_append.mp h with h | h
  ·exact .inr (List.mem_append_left _ h)
  ·exact .inl (ztz _ h)
theorem Dfs.add {rs:List Rm}{k0 x:Nat}{ks ts:List Nat}(us:List Nat)(D:Dfs rs k0 ks (ts++[x]))(hx:x∉ks)(h1:∀y∈us,Reach rs k0 y)(h2:∀i lo hi,rs[x]?=some (some (i,lo,hi))->lo∈us/\hi∈us)(h3:us.length<=2):Dfs rs k0 (ks++[x]) (ts++us):=by
 refine⟨zg8 D.nd hx,fun y h=>?_,fun y h=>?_,zfR D.st,fun m i lo hi h e=>?_,?_⟩
 ·rcases List.mem_append.mp h with h | h
  ·exact D.r1 y h
  ·exact D.r2 y (ztz _ h)
 ·rcases List.mem_append.mp h with h | h
  ·exact D.r2 y (List.mem_append_left _ h)
  ·exact h1 y h
 ·rcases List.mem_append.mp h with h | h
  ·exact⟨zfR (D.cl m i lo hi h e).1,zfR (D.cl m i lo hi h e).2⟩
  ·rw[List.mem_singleton.mp h] at e
   exact⟨.inr (ztz _ (h2 i lo hi e).1),.inr (ztz _ (h2 i lo hi e).2)⟩
 ·have:=D.len
  rw[ztq,ztQ] at this
  rw[ztq,ztq,ztQ]
  omega
theorem Dfs.node {rs:List Rm}{k0 x i lo hi:Nat}{ks ts:List Nat}(D:Dfs rs k0 ks (ts++[x]))(hx:x∉ks)(e:rs[x]?=some (some (i,lo,hi))):Dfs rs k0 (ks++[x]) (ts++[lo,hi]):=by
 have r:=(D.r2 x (ztz _ ztC)).step e
 refine D.add [lo,hi] hx (fun y h=>?_) (fun i' lo' hi' e'=>?_) (zty _)
 ·simp at h
  rcases h with h | h<;>subst h
  ·exact r.1
  ·exact r.2
 ·rw[e] at e'
  cases e'
  exact⟨by simp,by simp⟩
theorem Dfs.done {rs:List Rm}{k0:Nat}{ks:List Nat}(D:Dfs rs k0 ks [])(j:Nat):j∈ks↔Reach rs k0 j:=by
 have no:∀y,(y∈ks\/y∈([]:List Nat))->y∈ks:=fun y h=>h.elim id (fun z=>by cases z)
 refine⟨D.r1 j,fun h=>?_⟩
 exact Reach.closed (S:=fun y=>y∈ks) (no _ D.st) (fun {m i lo hi} hm e=>⟨no _ (D.cl m i lo hi hm e).1,no _ (D.cl m i lo hi hm e).2⟩) h
theorem Dfs.room {n:Nat}{rs:List Rm}(B:Bk n rs){k0 x:Nat}{ks ts:List Nat}(D:Dfs rs k0 ks (ts++[x]))(h0:k0<rs.length)(hx:x∉ks):ks.length+1<=rs.length:=by
 have z:=sub_len (xs:=ks++[x]) (ys:=List.range rs.length) (zg8 D.nd hx) fun y h=>?_
 ·rw[ztq,ztA] at z;exact z
 ·rw[List.mem_range]
  rcases List.mem_append.mp h with h | h
  ·exact(D.r1 y h).lt B h0
  ·rw[List.mem_singleton.mp h]
   exact(D.r2 x (ztz _ ztC)).lt B h0
structure zam (rs:List Rm)(k:Nat)(ms:List Int):Prop where
 up:ms.Pairwise (·<·)
 mem:∀x,x∈ms↔∃j:Nat,x=j/\Reach rs k j
theorem zam.of {rs:List Rm}{k:Nat}{ks:List Nat}{ms:List Int}(nd:ks.Nodup)(h:∀j,j∈ks↔Reach rs k j)(pm:ms.Perm (ks.map fun(n:Nat)=>(n:Int)))(up:ms.Pairwise (·<=·)):zam rs k ms:=by
 have nd':(ks.map fun(n:Nat)=>(n:Int)).Nodup:=by
  rw[List.Nodup,List.pairwise_map]
  exact nd.imp fun h e=>h (by omega)
 refine⟨Rf up (pm.nodup_iff.mpr nd'),fun x=>?_⟩
 rw[pm.mem_iff,List.mem_map]
 exact⟨fun⟨j,hj,e⟩=>⟨j,e.symm,(h j).mp hj⟩,fun⟨j,e,hj⟩=>⟨j,(h j).mpr hj,e.symm⟩⟩
end yL
namespace uY
open PySem L2 yL
section
variable (B:Hp->Addr->List Str->List Rm->yQ->Prop)
inductive Rg (vs:List V)(H:Hp)(Q:VK)(E9:XK):Prop
 | mk (b:Addr) (os:List Str) (rs:List Rm) (F:yQ) (k:Nat) (_:vs=[.ref b,.int k]) (_:B H b os rs F) (_:os.length<=5) (_:k<rs.length) (_:∀(l:Addr) (H':Hp) (ms:List Int),Same H H'->H l=none->H' l=some (.lst (ms.map V.int))->zam rs k ms->Q (.ref l) H'):Rg vs H Q E9
end
end uY
namespace yL
def Means (rs:List Rm)(k:Nat)(f:Row->Bool):Prop:=k<rs.length/\∀r,yes rs k r=f r
end yL
namespace L2
open PySem
theorem zkG {X:Cx}{all rest:List Stmt}{D:Ends}{Tf:TS->TS}{Pre:St->Hp->Prop}(Mid:St->Hp->Prop)(h1:∀t,JK X rest t->JK X all (Tf t))(h:∀u:TS,(∀ σ H,Mid σ H->u D σ H)->∀ σ H,Pre σ H->Tf u D σ H)
  (hr:∃t,JK X rest t/\∀ σ H,Mid σ H->t D σ H):∃t,JK X all t/\∀ σ H,Pre σ H->t D σ H :=
 let ⟨t,a,b⟩:=hr
 ⟨Tf t,h1 t a,h t b⟩
theorem zp8 {X:Cx}{all:List Stmt}{D:Ends}{σ:St}{H:Hp}(h:∃t,JK X all t/\∀ σ' H',(σ'=σ/\H'=H)->t D σ' H'):∃t,JK X all t/\t D σ H :=
 let ⟨t,a,b⟩:=h
 ⟨t,a,b _ _ ⟨rfl,rfl⟩⟩
end L2
namespace yL
open uY
def JN (b:Nat):Row:=fun i=>b.testBit i
def bits (r:Row):Nat->Nat
 | 0=>0
 | n+1=>if r n then bits r n+2^n else bits r n
theorem Zh (r:Row):∀n,bits r n<2^n
 | 0=>Nat.zero_lt_one
 | n+1=>by
  have ih:=Zh r n
  unfold bits
  rw[Nat.pow_succ]
  split<;>omega
theorem Y8 (r:Row):∀{n i:Nat},i<n->(bits r n).testBit i=r i
 | 0,i,h=>by omega
 | n+1,i,h=>by
  have lt:=Zh r n
  have z:(bits r n).testBit n=false:=Nat.testBit_lt_two_pow lt
  unfold bits
  by_cases e:i=n
  ·subst e
   cases hr:r i
   ·rw[if_neg ztm];exact z
   ·rw[if_pos rfl,vO,z];rfl
  ·have hi:i<n:=by omega
   split
   ·rw[RZ hi];exact Y8 r hi
   ·exact Y8 r hi
theorem ZS {n a b:Nat}(ha:a<2^n)(hb:b<2^n)(h:∀i,i<n->a.testBit i=b.testBit i):a=b :=
 Nat.eq_of_testBit_eq fun i=>by
  by_cases hi:i<n
  ·exact h i hi
  ·have:2^n<=2^i:=ztO (by decide) (by omega)
   rw[Nat.testBit_lt_two_pow (by omega),Nat.testBit_lt_two_pow (by omega)]
theorem zek {r:Row}{n i:Nat}(hi:i<n)(v:Bool):bits (put r i v) n=zK (bits r n) i v:=by
 refine ZS (Zh _ _) (zX (Zh _ _) hi) fun j hj=>?_
 rw[Y8 _ hj,zT,Y8 _ hj]
 rfl
theorem Qc {n b:Nat}(h:b<2^n):bits (JN b) n=b:=ZS (Zh _ _) h fun i hi=>by rw[Y8 _ hi];rfl
theorem zi8 {n:Nat}{rs:List Rm}(B:Bk n rs){k:Nat}(hk:k<rs.length)(r:Row):yes rs k (JN (bits r n))=yes rs k r :=
 V0 B k k (zty _) hk fun i _ hi=>Y8 r hi
theorem YC {n N M:Nat}{f g:Nat->Bool}(h:zW n N f)(k:zW n M g)(e:∀b,b<2^n->f b=g b):N=M :=
 Nat.eq_of_testBit_eq fun i=>by
  rw[h i,k i]
  by_cases hi:i<2^n
  ·rw[e i hi]
  ·rw[decide_eq_false hi];rfl
theorem ZV {n N:Nat}{f:Nat->Bool}(h:zW n N f){b:Nat}(hb:b<2^n):N.testBit b=f b:=by rw[h b,decide_eq_true hb];rfl
def Free (n:Nat)(f:Nat->Bool)(p:Nat):Prop:=∀b,b<2^n->∀v,f (zK b p v)=f b
theorem yJ (b p:Nat):zK b p (b.testBit p)=b:=by unfold zK;rw[if_pos rfl]
theorem Free.zkH {n p:Nat}{f:Nat->Bool}(h:∀b,b<2^n->f (zK b p (!b.testBit p))=f b):Free n f p:=fun b hb v=>by
 by_cases e:v=b.testBit p
 ·rw[e,yJ]
 ·have:v=!b.testBit p:=by cases v<;>cases hh:b.testBit p<;>simp_all
  rw[this];exact h b hb
theorem ug {n:Nat}{f:Nat->Bool}(h:∀p,p<n->Free n f p):∀b,b<2^n->f b=f 0:=by
 have key:∀m b,m<=n->b<2^n->(∀i,m<=i->i<n->b.testBit i=false)->f b=f 0:=by
  intro m
  induction m with
  | zero =>
   intro b _ hb hz
   have:b=0:=ZS hb (Nat.two_pow_pos n) fun i hi=>by rw[hz i (ztF _) hi,Nat.zero_testBit]
   rw[this]
  | succ m ih =>
   intro b hm hb hz
   rw[<-h m (by omega) b hb false]
   refine ih _ (by omega) (zX hb (by omega)) fun i hi hin=>?_
   rw[zT]
   by_cases e:i=m
   ·rw[if_pos e]
   ·rw[if_neg e];exact hz i (by omega) hin
 exact fun b hb=>key n b (zty _) hb fun i hi hin=>by omega
theorem zmM {n:Nat}{rs:List Rm}(B:Bk n rs){k p:Nat}(hk:k<rs.length)(hp:p<n)(h:∀i,i<=p->∀r v,yes rs k (put r i v)=yes rs k r):p<Sh n rs k:=by
 by_cases k2:2<=k
 ·obtain⟨i,lo,hi,e,hin,hlo,hhi,hne,l1,l2⟩:=B.rm k k2 hk
  rw[U3 B e]
  by_cases hip:i<=p
  ·exfalso
   refine hne (Y7 B (max lo hi) lo hi ⟨Nat.le_max_left _ _,Nat.le_max_right _ _⟩ (by omega) (by omega) fun r=>?_)
   have z:=U4 B e hk r
   rw[<-z.1,<-z.2,h i hip,h i hip]
  ·omega
 ·have:k=0\/k=1:=by omega
  rcases this with z | z<;>subst z
  ·rw[zfQ B];exact hp
  ·rw[zc3 B];exact hp
theorem zi9 {n m p k0 k1:Nat}{rs:List Rm}{f:Nat->Bool}(B:Bk n rs)(hp:p<n)(m0:k0<rs.length)(m1:k1<rs.length)
  (y0:∀r,yes rs k0 r=f (zK (bits r n) p false))(y1:∀r,yes rs k1 r=f (zK (bits r n) p true))(fr:∀i,i<p->Free n f i)
  (dep:∃b,b<2^n/\f (zK b p false)≠f (zK b p true))(old:∀j,j<m->¬∀r,yes rs j r=f (bits r n))(hl:∀j,m<=j->j<rs.length->p<Sh n rs j) :
  Bk n (rs++[some (p,k0,k1)])/\∀r,yes (rs++[some (p,k0,k1)]) rs.length r=f (bits r n):=by
 have pb:∀(r:Row) v,zK (bits r n) p v<2^n:=fun r v=>zX (Zh _ _) hp
 have low:∀(k:Nat) (w:Bool),k<rs.length->(∀r,yes rs k r=f (zK (bits r n) p w))->p<Sh n rs k:=fun k w hk hy=>zmM B hk hp fun i hi r v=>by
  rw[hy,hy,zek (by omega)]
  by_cases e:i=p
  ·subst e
   congr 1
   refine ZS (zX (zX (Zh _ _) hp) hp) (pb r w) fun j _=>?_
   rw[zT,zT,zT]
   by_cases e:j=i
   ·rw[if_pos e,if_pos e]
   ·rw[if_neg e,if_neg e,if_neg e]
  ·rw[<-fr i (by omega) _ (pb r w) v]
   congr 1
   refine ZS (zX (zX (Zh _ _) (by omega)) hp) (zX (pb r w) (by omega)) fun j _=>?_
   rw[zT,zT,zT,zT]
   by_cases e1:j=p
   ·rw[if_pos e1,if_pos e1,if_neg (by omega)]
   ·rw[if_neg e1,if_neg e1]
 have ne:k0≠k1:=fun e=>by
  subst e
  obtain⟨b,hb,hne⟩:=dep
  refine hne ?_
  have a:=y0 (JN b)
  have c:=y1 (JN b)
  rw[Qc hb] at a c
  exact a.symm.trans c
 have fin:∀(R:List Rm) (k:Nat),Bk n R->R[k]?=some (some (p,k0,k1))->(∀j,j<rs.length->∀r,yes R j r=yes rs j r)->∀r,yes R k r=f (bits r n):=fun R k BR e same r=>by
  rw[Ra BR e,same _ m1,same _ m0,y0,y1]
  have hb:=Y8 r hp
  cases hr:r p
  ·rw[if_neg ztm]
   rw[hr] at hb
   conv=>rhs;rw[<-yJ (bits r n) p,hb]
  ·rw[if_pos rfl]
   rw[hr] at hb
   conv=>rhs;rw[<-yJ (bits r n) p,hb]
 have new:some (p,k0,k1)∉rs:=fun h=>by
  obtain⟨j,hj,e⟩:=ztX h
  have e':rs[j]?=some (some (p,k0,k1)):=by rw[ztj hj,e]
  by_cases hm:j<m
  ·exact old j hm (fin rs j B e' fun _ _ _=>rfl)
  ·have:=hl j (by omega) hj
   rw[U3 B e'] at this
   omega
 have B':=B.snoc hp m0 m1 ne (low k0 false m0 y0) (low k1 true m1 y1) new
 refine⟨B',fin _ _ B' (by simp) fun j hj r=>?_⟩
 exact zei B hj r
structure zel (n:Nat)(rs:List Rm)(ts:List Nat):Prop where
 len:ts.length=rs.length
 tab:∀(j t:Nat),ts[j]?=some t->zW n t (fun b=>yes rs j (JN b))
theorem zel.snoc {n:Nat}{rs:List Rm}(B:Bk n rs){ts:List Nat}{x:Rm}{t:Nat}(h:zel n rs ts)(k:zW n t (fun b=>yes (rs++[x]) rs.length (JN b))):zel n (rs++[x]) (ts++[t]):=by
 refine⟨by rw[ztq,ztq,h.len];rfl,fun j u e=>?_⟩
 by_cases hj:j<ts.length
 ·rw[ztP hj] at e
  refine yK (h.tab j u e) fun b _=>?_
  rw[zei B (by rw[<-h.len];exact hj)]
 ·have lt:=(ztl.mp e).1
  rw[ztq,ztQ] at lt
  have ej:j=ts.length:=by omega
  subst ej
  simp at e
  subst e
  rw[h.len]
  exact k
theorem zel.find {n:Nat}{rs:List Rm}(B:Bk n rs){ts:List Nat}(h:zel n rs ts){j t:Nat}{f:Nat->Bool}(e:ts[j]?=some t)(tb:zW n t f)(r:Row):yes rs j r=f (bits r n):=by
 have hj:j<rs.length:=by rw[<-h.len];exact(ztl.mp e).1
 rw[<-zi8 B hj,<-ZV tb (Zh r n),ZV (h.tab j t e) (Zh r n)]
theorem zel.same {n:Nat}{rs:List Rm}{ts:List Nat}(h:zel n rs ts){j t:Nat}{f:Nat->Bool}(hj:j<rs.length)(tb:zW n t f)(hy:∀r,yes rs j r=f (bits r n)):ts[j]?=some t:=by
 have lt:j<ts.length:=by rw[h.len];exact hj
 rw[ztj lt]
 congr 1
 refine YC (h.tab j _ (ztj lt)) tb fun b hb=>?_
 show yes rs j (JN b)=f b
 rw[hy,Qc hb]
end yL
namespace uY
open PySem L2 yL
structure Nums (ts:List Nat)(kvs:List (Key×V)):Prop where
 get:∀(j t:Nat),ts[j]?=some t->Zn kvs (Sum.inl (t:Int))=some (.int (j:Nat))
 non:∀t:Nat,t∉ts->Zn kvs (Sum.inl (t:Int))=none
 len:kvs.length<=ts.length
theorem Nums.snoc {ts:List Nat}{kvs:List (Key×V)}(h:Nums ts kvs){t:Nat}(ht:t∉ts):Nums (ts++[t]) (putK kvs (Sum.inl (t:Int)) (.int (ts.length:Nat))):=by
 refine⟨fun j u e=>?_,fun u hu=>?_,?_⟩
 ·rw[zaU]
  by_cases hj:j<ts.length
  ·rw[ztP hj] at e
   have hm:=ztn e
   rw[if_neg fun z=>?_]
   ·exact h.get j u e
   ·have:(u:Int)=(t:Int):=Sum.inl.inj z
    have:u=t:=by omega
    exact ht (this ▸ hm)
  ·have lt:=(ztl.mp e).1
   rw[ztq,ztQ] at lt
   have ej:j=ts.length:=by omega
   subst ej
   simp at e
   subst e
   rw[if_pos rfl]
 ·rw[zaU,if_neg fun z=>?_]
  ·exact h.non u fun z=>hu (List.mem_append_left _ z)
  ·have:(u:Int)=(t:Int):=Sum.inl.inj z
   have:u=t:=by omega
   exact hu (this ▸ ztz _ ztC)
 ·have:=W4 kvs (Sum.inl (t:Int)) (.int (ts.length:Nat))
  have:=h.len
  rw[ztq,ztQ]
  omega
def zop (n j:Nat):Rm->List V
 | none=>[.int (n:Nat),.int (j:Nat),.int (j:Nat)]
 | some (i,lo,hi)=>[.int (i:Nat),.int (lo:Nat),.int (hi:Nat)]
def Rh (j:Nat)(x:Rm)(v:Bool):Nat:=match x with
 | none=>j
 | some (_,lo,hi)=>if v then hi else lo
def Ky (ml rl tl nd:Addr):List (Str×V):=[("marks", .ref ml),("rooms", .ref rl),("tables", .ref tl),("numbers", .ref nd)]
structure Parts (C:Addr)(H:Hp)(b:Addr)(os:List Str)(rs:List Rm)(F:yQ)(dx ml rl tl nd:Addr)(rv:List V)(ts:List Nat)(kvs:List (Key×V)):Prop where
 hb:H b=some (.ins C dx (Ky ml rl tl nd))
 hm:H ml=some (.lst (os.map V.str))
 hr:H rl=some (.lst rv)
 ht:H tl=some (.lst (ts.map fun t=>V.int (t:Nat)))
 hd:H nd=some (.dK kvs)
 mr:ml≠rl
 mt:ml≠tl
 rt:rl≠tl
 ord:Jj os
 bk:Bk os.length rs
 len:rv.length=rs.length
 rm:∀(j:Nat) x,rs[j]?=some x->∃p,rv[j]?=some (.ref p)/\H p=some (.tup (zop os.length j x))
 tabs:zel os.length rs ts
 nums:Nums ts kvs
 ft:∀x,F x↔(x=b\/x=ml\/x=rl\/x=tl\/x=nd)
def z7 (C:Addr)(H:Hp)(b:Addr)(os:List Str)(rs:List Rm)(F:yQ):Prop:=∃dx ml rl tl nd rv ts kvs,Parts C H b os rs F dx ml rl tl nd rv ts kvs
theorem Parts.frame {C:Addr}{H H':Hp}{b:Addr}{os:List Str}{rs:List Rm}{F:yQ}{dx ml rl tl nd:Addr}{rv:List V}{ts:List Nat}{kvs:List (Key×V)}(h:Parts C H b os rs F dx ml rl tl nd rv ts kvs)
  (s:∀x o,H x=some o->F x->H' x=some o)(t:xr H H'):Parts C H' b os rs F dx ml rl tl nd rv ts kvs :=
 {h with
  hb:=s _ _ h.hb ((h.ft _).mpr (.inl rfl))
  hm:=s _ _ h.hm ((h.ft _).mpr (.inr (.inl rfl)))
  hr:=s _ _ h.hr ((h.ft _).mpr (.inr (.inr (.inl rfl))))
  ht:=s _ _ h.ht ((h.ft _).mpr (.inr (.inr (.inr (.inl rfl)))))
  hd:=s _ _ h.hd ((h.ft _).mpr (.inr (.inr (.inr (.inr rfl)))))
  rm:=fun j x e=>let ⟨p,a,c⟩:=h.rm j x e;⟨p,a,t _ _ c⟩ }
theorem yu (C:Addr):Wi C (z7 C) where
 ins:=fun⟨dx,ml,rl,tl,nd,rv,ts,kvs,h⟩=>⟨dx,_,h.hb,fun m hm=>by
  simp only[zcq,List.mem_cons,ztJ,or_false] at hm
  rcases hm with z | z | z | z | z | z<;>subst z<;>rfl⟩
 frame:=fun⟨dx,ml,rl,tl,nd,rv,ts,kvs,h⟩ s t=>⟨dx,ml,rl,tl,nd,rv,ts,kvs,h.frame s t⟩
 there:=fun⟨dx,ml,rl,tl,nd,rv,ts,kvs,h⟩ hx=>by
  rcases (h.ft _).mp hx with z | z | z | z | z<;>subst z
  ·rw[h.hb];exact fun z=>by cases z
  ·rw[h.hm];exact fun z=>by cases z
  ·rw[h.hr];exact fun z=>by cases z
  ·rw[h.ht];exact fun z=>by cases z
  ·rw[h.hd];exact fun z=>by cases z
 bk:=fun⟨_,_,_,_,_,_,_,_,h⟩=>h.bk
 ord:=fun⟨_,_,_,_,_,_,_,_,h⟩=>h.ord
theorem Parts.more {C:Addr}{H H':Hp}{b:Addr}{os:List Str}{rs:List Rm}{F:yQ}{dx ml rl tl nd:Addr}{rv:List V}{ts:List Nat}{kvs:List (Key×V)}(h:Parts C H b os rs F dx ml rl tl nd rv ts kvs)
  {i lo hi t:Nat}{q:Addr}(t':xr H H')(hb:H' b=H b)(hm:H' ml=H ml)(hr:H' rl=some (.lst (rv++[.ref q])))(ht:H' tl=some (.lst (ts.map (fun t=>V.int (t:Nat))++[.int (t:Nat)])))
  (hd:H' nd=some (.dK (putK kvs (Sum.inl (t:Int)) (.int (rs.length:Nat)))))(hq:H' q=some (.tup [.int (i:Nat),.int (lo:Nat),.int (hi:Nat)]))(B':Bk os.length (rs++[some (i,lo,hi)]))(hn:t∉ts)(tb:zW os.length t (fun b=>yes (rs++[some (i,lo,hi)]) rs.length (JN b))) :
  Parts C H' b os (rs++[some (i,lo,hi)]) F dx ml rl tl nd (rv++[.ref q]) (ts++[t]) (putK kvs (Sum.inl (t:Int)) (.int (rs.length:Nat))) :=
 {hb:=by rw[hb];exact h.hb
  hm:=by rw[hm];exact h.hm
  hr:=hr
  ht:=by rw[ht,ztw];rfl
  hd:=hd
  mr:=h.mr
  mt:=h.mt
  rt:=h.rt
  ord:=h.ord
  bk:=B'
  len:=by rw[ztq,ztq,h.len];rfl
  rm:=fun j x e=>by
   by_cases hj:j<rs.length
   ·rw[ztP hj] at e
    obtain⟨p,a,c⟩:=h.rm j x e
    exact⟨p,by rw[ztP (by rw[h.len];exact hj)];exact a,t' _ _ c⟩
   ·have lt:=(ztl.mp e).1
    rw[ztq,ztQ] at lt
    have ej:j=rs.length:=by omega
    subst ej
    simp at e
    subst e
    exact⟨q,by rw[<-h.len];simp,hq⟩
  tabs:=h.tabs.snoc h.bk tb
  nums:=by
   have z:=h.nums.snoc hn
   rw[h.tabs.len] at z
   exact z
  ft:=h.ft }
inductive ZW (vs:List V)(H:Hp)(Q:VK)(E9:XK):Prop
 | mk (N p n:Nat) (v:Bool) (f:Nat->Bool) (_:vs=[.int N,.int p,.int (v.toNat:Nat),.int n]) (_:p<n) (_:n<=8) (_:zW n N f) (_:∀R:Nat,zW n R (fun b=>f (zK b p v))->Q (.int R) H):ZW vs H Q E9
inductive zan (vs:List V)(H:Hp)(Q:VK)(E9:XK):Prop
 | mk (N n:Nat) (f:Nat->Bool) (_:vs=[.int N,.int n]) (_:n<=8) (_:zW n N f) (_:∀p:Nat,p<=n->(∀i,i<p->Free n f i)->(p<n->∃b,b<2^n/\f (zK b p false)≠f (zK b p true))->Q (.int p) H):zan vs H Q E9
inductive wJ (C:Addr)(vs:List V)(H:Hp)(Q:VK)(E9:XK):Prop
 | mk (b:Addr) (os:List Str) (rs:List Rm) (F:yQ) (k:Nat) (_:vs=[.ref b,.int k]) (_:z7 C H b os rs F) (_:k<rs.length) (_:Q .non H):wJ C vs H Q E9
inductive zao (C:Addr)(vs:List V)(H:Hp)(Q:VK)(E9:XK):Prop
 | mk (b:Addr) (os:List Str) (rs:List Rm) (F:yQ) (k:Nat) (x:Rm) (v:Bool) (_:vs=[.ref b,.int k,.int (v.toNat:Nat)]) (_:z7 C H b os rs F) (_:rs[k]?=some x) (_:Q (.int (Rh k x v:Nat)) H):zao C vs H Q E9
inductive Yk (C:Addr)(vs:List V)(H:Hp)(Q:VK)(E9:XK):Prop
 | mk (b:Addr) (os:List Str) (rs:List Rm) (F:yQ) (k:Nat) (_:vs=[.ref b,.int k]) (_:z7 C H b os rs F) (_:k<rs.length) (_:∀t:Nat,zW os.length t (fun b=>yes rs k (JN b))->Q (.int t) H):Yk C vs H Q E9
inductive Mr (vs:List V)(H:Hp)(Q:VK)(E9:XK):Prop
 | mk (N p n:Nat) (f:Nat->Bool) (_:vs=[.int N,.int p,.int n]) (_:p<n) (_:n<=8) (_:zW n N f) (_:∀b:Bool,(b=false->Free n f p)->(b=true->∃c,c<2^n/\f (zK c p false)≠f (zK c p true))->Q (.bl b) H):Mr vs H Q E9
inductive Yl (vs:List V)(H:Hp)(Q:VK)(E9:XK):Prop
 | mk (N M n:Nat) (f g:Nat->Bool) (_:vs=[.int N,.int M]) (_:zW n N f) (_:zW n M g) (_:∀R:Nat,zW n R (fun b=>f b&&!g b)->Q (.int R) H):Yl vs H Q E9
inductive Ms (vs:List V)(H:Hp)(Q:VK)(E9:XK):Prop
 | mk (W L M n:Nat) (f g h:Nat->Bool) (_:vs=[.int W,.int L,.int M]) (_:zW n W f) (_:zW n L g) (_:zW n M h) (_:∀R:Nat,zW n R (fun b=>if f b then h b else g b)->Q (.int R) H):Ms vs H Q E9
end uY
namespace L2
open PySem PySem.Spec PyProof.Rows
def Its (x:Str):It:={ go:=fun i _=>i<x.cps.size,Ni:=fun i H v H'=>H'=H/\∃c,x.cps[i]?=some c/\v=.str ⟨#[c]⟩,stop:=fun i _=>i=x.cps.size }
theorem zja {P:Program}{w:World}{K:Frag}{tg:Expr}(it:Addr)(x:Str)(t:Tok):Turn P w K tg (Its x) [it] it (fun i h=>h.IsStrIter it "str_ascii_iterator" x t i) where
 mem:=by simp
 obj:=fun i h st b hb=>by
  have e:b=it:=by simpa using hb
  subst e
  obtain⟨o,e,c,d⟩:=st
  exact⟨o,e,fun v z=>by rw[d] at z;cases z⟩
 keep:=fun i h h' st k=>by
  obtain⟨o,e,c,d⟩:=st
  exact⟨o,k it (by simp) o e,c,d⟩
 item:=by
  intro X hP hw hK hc i pins s σ H E I hf st hg
  subst hP hw hK
  obtain⟨f0,f1,f2,f3,f4,f5⟩:=hf it (by simp)
  have W:=Walks.strAscii (prog:=X.prog) (w:=X.w) (I.ok.hd hc) it x t
  refine W.item i s _ _ hg st fun v h' tk hv st' kk=>?_
  obtain⟨c,u,hc',rfl⟩:=hv
  have I1:Inv X pins σ H { s with heap:=h',toks:=tk }:=I.turned (fun b o hb e=>kk b o (by simpa using hb) e) f0 f1 f3 f4 f5
  obtain⟨o,e,cc,d⟩:=id st'
  exact⟨_,rfl,zb3 (s:={ s with heap:=h',toks:=tk }) e cc d (by decide) ⟨.str ⟨#[c]⟩,H,I1,⟨u,rfl⟩,⟨rfl,c,hc',rfl⟩,st',fun b hb=>(hf b hb).1⟩⟩
 done:=by
  intro X hP hw hK hc i pins s σ H E I hf st hg
  subst hP hw hK
  obtain⟨f0,f1,f2,f3,f4,f5⟩:=hf it (by simp)
  have W:=Walks.strAscii (prog:=X.prog) (w:=X.w) (I.ok.hd hc) it x t
  have e:i=x.cps.size:=hg
  subst e
  exact W.done s _ _ st fun h' tk kk=>⟨rfl,I.turned (fun b o hb e=>kk b o (by simpa using hb) e) f0 f1 f3 f4 f5⟩
 self:=fun _ _ _ _ _ st h=>wpAny_pyIter_striter_ascii st h
section
variable {X:Cx}{tg:Expr}
def zp9 (tl:TE):TI:=fun σ H R=>tl σ H fun x H1=>∃z:Str,x=.str z/\(z.cps.all fun c=>decide (c<128))=true/\R (Its z) H1
theorem zmN {l:Expr}{tl:TE}(hl:PE X l tl):PI X tg l (zp9 tl):=by
 intro pins s σ H R I h
 refine wI (hl pins s σ H _ I h) fun v s1 ⟨x,H1,I1,r1,q1⟩=>?_
 obtain⟨z,e,ha,q⟩:=q1
 subst e
 obtain⟨t,rfl⟩:=r1
 refine wpAny_pyIter_ascii ha ?_
 refine⟨s1.heap.objs.size,[s1.heap.objs.size],_,_,H1,rfl,I1.kept (t':=s1.toks) fun b o e=>zto _ e,zja _ z t,⟨_,ztD _ rfl,rfl,rfl⟩,fun b hb=>?_,q⟩
 have e:b=s1.heap.objs.size:=by simpa using hb
 subst e
 exact I1.zdU (zty _) (I1.hok.fresh (zty _))
end
end L2
namespace uY
open PySem L2 yL
def chc (b:Bool):Nat:=if b then 49 else 48
end uY
namespace yL
open uY
def allR:Nat->List (List Bool)
 | 0=>[[]]
 | n+1=>(allR n).flatMap fun r=>[r++[false],r++[true]]
theorem Mt:∀(n:Nat) (r:List Bool),r∈allR n->r.length=n
 | 0,r,h=>by
  have:r=[]:=by simpa [allR] using h
  rw[this];rfl
 | n+1,r,h=>by
  obtain⟨x,hx,hr⟩:=List.mem_flatMap.mp h
  have ih:=Mt n x hx
  simp at hr
  rcases hr with z | z<;>rw[z,ztq,ih]<;>rfl
end yL
namespace L2
open PySem PySem.Spec PyProof.Rows
section
variable {X:Cx}{sc uD:Scope}{xs:List Str}{js:List Nat}{tg:Expr}{g:TG}{elt iter:Expr}{px pos:Pos}{ifs:List Expr}{wi:TI}{tt:TT}{te:TE}
theorem zmO (Wg:X.env.scope=uD)(L:zd3 uD sc xs (js.map fun j=>X.N.getD j ""))(hc:X.calm=true)(hi:PI X tg iter wi)(hg:∀(cl:List (Str×Addr)) (C:Addr) (s₂:Shared) (H₂:Hp) (fp:List Addr),PG (X.blk sc cl C (Sd X xs js) s₂ H₂ fp) tg g)(hjs:∀j∈js,j<X.N.length)
  (ht:∀(cl:List (Str×Addr)) (C:Addr) (s₂:Shared) (H₂:Hp) (fp:List Addr) (pins:List (Addr×Obj)) (s':Shared) (σ':St) (H':Hp) (Q:Bool->Hp->Prop),Inv (X.blk sc cl C (Sd X xs js) s₂ H₂ fp) pins σ' H' s'->tt σ' H' Q ->
   wpAny (model X.prog X.w) X.A (ZL ifs (compEnvC sc cl C X.env)) (TP (X.blk sc cl C (Sd X xs js) s₂ H₂ fp) pins σ' Q) (fun _ _=>False) s')
  (he:∀(cl:List (Str×Addr)) (C:Addr) (s₂:Shared) (H₂:Hp) (fp:List Addr),PE (X.blk sc cl C (Sd X xs js) s₂ H₂ fp) elt te)
  (hs:∀x,foldedSetIterable iter X.env x=pure x:=by intro _;rfl) :
  PE X (.ListComp elt [⟨tg,iter,ifs,0⟩] sc pos) (zmu wi xs js g tt te):=by
 intro pins s σ H Q I h
 rw[eval_ListComp]
 refine zaI (use:=none) (Fin:=fun ys H=>∀p,H p=none->Q (.ref p) (upd H p (.lst ys))) Wg L (rd:=Calm) (fun _ _ _ _ _ _ _=>hc) hi hg hjs ht he hs I h fun D C s5 H5 ys its k m5 J oD oC hDC p1 vs z hn fin=>?_
 refine⟨m5,hn,fun h' hsb=>?_⟩
 have J2:Inv X pins σ H5 { s5 with heap:=h',toks:=s5.toks }:=J.turned (it:=C) (fun b o hb e=>hsb.extBut b o hb e) oC.free oC.loc (.inr oC.new) oC.cel oC.pin
 have p1':h'.get? D=some (uE its k):=hsb.extBut _ _ hDC p1
 have J3:Inv X pins σ (upd H5 D (.lst ys)) { s5 with heap:=h',toks:=s5.toks }:=J2.track oD.free oD.loc oD.new oD.cel oD.pin ⟨z,its,k,vs,p1'⟩
 exact⟨.ref D,_,J3,rfl,fin D oD.free⟩
end
theorem Inv.zkI {X:Cx}{pins:List (Addr×Obj)}{σ:St}{H:Hp}{s:Shared}{h':Heap}{t':Nat}{fp:List Addr}(I:Inv X pins σ H s)(k:∀b o,b∉fp->s.heap.get? b=some o->h'.get? b=some o)(hf:∀b∈fp,zbx X pins H b) :
  Inv X pins σ H { s with heap:=h',toks:=t' }:=by
 have nit:∀b u,H b=some u->b∉fp:=fun b u e z=>by rw[(hf b z).1] at e;cases e
 refine I.step (g':=s.gens) (d':=s.drawn) (ch:=fp) (fun b hb=>⟨(hf b hb).2.2.2.1,(hf b hb).2.1,(hf b hb).2.2.2.2.1,(hf b hb).2.2.2.2.2⟩) (fun b o _ _ hc e _=>k b o hc e) (fun b o _ _ hc e _=>⟨o.slots,k b o hc e⟩) (fun _ _ _ _ n=>n)
  (fun b o hc e=>⟨o,k b o hc e⟩) (fun _ _ e=>e) (fun _ _ _ e=>e) (fun b ps e=>⟨#[],by rw[e];simp⟩) (fun m hm=>?_) (fun b u e=>?_) I.bare
 ·obtain⟨o,es,ep,ho,r⟩:=hm
  exact⟨o,es,ep,k _ o (fun z=>(hf _ z).2.1 rfl) ho,r⟩
 ·refine(I.hok b u e).stay (fun c v hc q=>k c v ?_ q) (fun _ q=>q) fun _ _ q=>q
  rcases hc with z | z
  ·rw[z];exact nit b u e
  ·exact nit c _ z
def Itz (K:Frag)(a b:Addr):It :=
 {go:=fun i H=>∃xs ys x y,z6 K H a xs/\z6 K H b ys/\xs[i]?=some x/\ys[i]?=some y
  Ni:=fun i H v H'=>∃q x y,(∀xs,z6 K H a xs->xs[i]?=some x)/\(∀ys,z6 K H b ys->ys[i]?=some y)/\v=.ref q/\H q=none/\H'=upd H q (.tup [x,y])
  stop:=fun i H=>∃xs ys,z6 K H a xs/\z6 K H b ys/\(xs.length<=i\/ys.length<=i) }
theorem zjb {P:Program}{w:World}{K:Frag}{els:List Expr}{x1}{pt:Pos}(a b z ti to i1 i2:Addr)(D:ZipApart z ti to i1 i2 a b):Turn P w K (.Tuple els x1 pt) (Itz K a b) [z,ti,to,i1,i2] z
  (fun i h=>IsZip h z ti to .none/\IsPair h ti (.ref i1) (.ref i2)/\(∃u v,IsPair h to u v)/\h.IsListIter i1 a i/\h.IsListIter i2 b i) where
 mem:=by simp
 obj:=fun i h st c hc=>by
  obtain⟨q1,q2,⟨u,v,q3⟩,⟨o4,q4,c4,d4⟩,⟨o5,q5,c5,d5⟩⟩:=st
  simp only[List.mem_cons,ztJ,or_false] at hc
  rcases hc with e | e | e | e | e<;>subst e
  ·exact⟨_,q1,fun v hv=>by cases hv⟩
  ·exact⟨_,q2,fun v hv=>by cases hv⟩
  ·exact⟨_,q3,fun v hv=>by cases hv⟩
  ·exact⟨_,q4,fun v hv=>by rw[d4] at hv;cases hv⟩
  ·exact⟨_,q5,fun v hv=>by rw[d5] at hv;cases hv⟩
 keep:=fun i h h' st k=>by
  obtain⟨q1,q2,⟨u,v,q3⟩,q4,q5⟩:=st
  exact⟨k z (by simp) _ q1,k ti (by simp) _ q2,⟨u,v,k to (by simp) _ q3⟩,q4.at fun o e=>k i1 (by simp) o e,q5.at fun o e=>k i2 (by simp) o e⟩
 item:=by
  intro X hP hw hK hc i pins s σ H E I hf st hg
  subst hP hw hK
  obtain⟨xs,ys,x,y,hq1,hq2,hx,hy⟩:=hg
  obtain⟨q1,q2,⟨u0,v0,q3⟩,q4,q5⟩:=st
  obtain⟨zfS,rv1,pl1,hz1⟩:=I.list hq1
  obtain⟨its2,rv2,pl2,hz2⟩:=I.list hq2
  obtain⟨u,hu,ru⟩:=rv1.get hx
  obtain⟨v,hv,rv⟩:=rv2.get hy
  refine wpAny_pyNext_zip_item D q1 q2 q3 q4 q5 pl1.isList pl2.isList (x:=u) (y:=v) (by simpa using hu) (by simpa using hv) fun h1 out pto it1 it2 tup sz k1=>?_
  refine⟨.ref s.heap.objs.size,rfl,wpAny_letOwnedTupleGo_zip out fun h2 he2 sb=>?_⟩
  have ltz:=ztp q1
  have ltf:∀c∈[z,ti,to,i1,i2],c<s.heap.objs.size:=fun c hc=>by
   simp only[List.mem_cons,ztJ,or_false] at hc
   rcases hc with e | e | e | e | e<;>subst e
   ·exact ltz
   ·exact ztp q2
   ·exact ztp q3
   ·obtain⟨o,e,_⟩:=q4;exact ztp e
   ·obtain⟨o,e,_⟩:=q5;exact ztp e
  have k2:∀c o,c∉[z,ti,to,i1,i2]->s.heap.get? c=some o->h2.get? c=some o:=fun c o hc q=>by
   simp only[List.mem_cons,ztJ,or_false,not_or] at hc
   obtain⟨c1,c2,c3,c4,c5⟩:=hc
   exact(sb.2 c c1).trans (k1 c o c1 c3 c4 c5 q)
  have it1':h2.IsListIter i1 a (i+1):=it1.at fun o e=>(sb.2 i1 D.i1z).trans e
  have it2':h2.IsListIter i2 b (i+1):=it2.at fun o e=>(sb.2 i2 D.i2z).trans e
  have hti:IsPair h2 ti (.ref i1) (.ref i2):=(sb.2 ti D.TIz).trans (k1 ti _ D.TIz D.TITO D.TIi1 D.TIi2 q2)
  have hto:IsPair h2 to u v:=(sb.2 to D.TOz).trans pto
  have J1:Inv X pins σ H { s with heap:=h2,toks:=s.toks }:=I.zgV (fp:=[z,ti,to,i1,i2]) k2 (fun c hc=>by
   simp only[List.mem_cons,ztJ,or_false] at hc
   rcases hc with e | e | e | e | e<;>subst e
   ·exact⟨_,he2⟩
   ·exact⟨_,hti⟩
   ·exact⟨_,hto⟩
   ·obtain⟨o,e,_⟩:=it1';exact⟨o,e⟩
   ·obtain⟨o,e,_⟩:=it2';exact⟨o,e⟩) hf
  have zmP:h2.get? s.heap.objs.size=some { cls:=.type "tuple", data:=.seq #[u,v] }:=(sb.2 _ (Nat.ne_of_gt ltz)).trans tup
  have ltc:∀y c,X.env.cells.lookup y=some c->c≠s.heap.objs.size:=fun y c q=>by
   obtain⟨v,o,z,_⟩:=I.cell y c q
   exact ztx (ztp z)
  have ltp:∀p∈X.pn++pins,p.1≠s.heap.objs.size:=fun p hp=>ztx (ztp (I.pin p hp).1)
  have J2:=J1.track (a:=s.heap.objs.size) (o:=.tup [x,y]) I.fresh (Ne.symm (ztx I.lt)) I.sz ltc ltp ⟨by show 2<=sizeLine;decide,[u,v],.cons ru (.cons rv .nil),⟨_,zmP,rfl,_,rfl⟩⟩
  refine⟨.ref s.heap.objs.size,_,J2,rfl,⟨_,x,y,fun zs hzs=>by rw[I.VG hzs hq1];exact hx,fun zs hzs=>by rw[I.VG hzs hq2];exact hy,rfl,I.fresh,rfl⟩,⟨he2,hti,⟨u,v,hto⟩,it1',it2'⟩,fun c hc=>?_⟩
  rw[zE (ztx (ltf c hc))]
  exact(hf c hc).1
 done:=by
  intro X hP hw hK hc i pins s σ H E I hf st hg
  subst hP hw hK
  obtain⟨xs,ys,hq1,hq2,hx⟩:=hg
  obtain⟨q1,q2,⟨u0,v0,q3⟩,q4,q5⟩:=st
  obtain⟨zfS,rv1,pl1,hz1⟩:=I.list hq1
  obtain⟨its2,rv2,pl2,hz2⟩:=I.list hq2
  have l1:=rv1.length
  have l2:=rv2.length
  refine wpAny_pyNext_zip_end (I.ok.hd hc) D q1 q2 q3 q4 q5 pl1.isList pl2.isList (by
   rcases hx with e | e
   ·left;simp;omega
   ·right;simp;omega) fun h' k=>⟨rfl,?_⟩
  refine I.zkI (t':=s.toks) (fp:=[z,to,i1,i2]) (fun c o hc e=>?_) fun c hc=>hf c (by simp only[List.mem_cons,ztJ,or_false] at hc ⊢;rcases hc with e | e | e | e<;>simp[e])
  simp only[List.mem_cons,ztJ,or_false,not_or] at hc
  exact k c o hc.1 hc.2.1 hc.2.2.1 hc.2.2.2 e
 self:=fun _ _ _ _ _ st h=>wpAny_pyIter_zip st.1 h
section
variable {X:Cx}
def zqc (K:Frag)(ta:TA):TI:=fun σ H R=>ta σ H fun vs H1=>∃a b xs ys,vs=[.ref a,.ref b]/\z6 K H1 a xs/\z6 K H1 b ys/\R (Itz K a b) H1
theorem zmQ {l m:Expr}{ta:TA}{p pos:Pos}{els:List Expr}{x1}{pt:Pos}(hg:Gl X "zip")(hm:X.mg "zip"=none)(ha:PA X [l,m] ta)(hs:starEach [l,m] X.env=[(false,eval l X.env),(false,eval m X.env)]:=by rfl)(hs2:starEach [m] X.env=[(false,eval m X.env)]:=by rfl) :
  PI X (.Tuple els x1 pt) (.Call (.Name "zip" p) [l,m] [] pos) (zqc X.K ta):=by
 intro pins s σ H R I h
 refine Call_ (Wd I hg hm boot_zip (PyProof.Rows.callWith_type1 (wI (ha pos pins s σ H _ I h) fun us s1 ⟨vs,H1,I1,r1,q1⟩=>?_) (by rw[hs,hs2]) (by rw[hs2];rfl)))
 obtain⟨a,b,xs,ys,e,hq1,hq2,q⟩:=q1
 subst e
 obtain⟨u,v,rfl,ru,rv⟩:=vals2 r1
 cases ru
 cases rv
 obtain⟨zfS,rv1,pl1,hz1⟩:=I1.list hq1
 obtain⟨its2,rv2,pl2,hz2⟩:=I1.list hq2
 obtain⟨o1,e1,_⟩:=id pl1.isList
 obtain⟨o2,e2,_⟩:=id pl2.isList
 refine call_zip_2 pl1.isList pl2.isList fun h' hz hti hto it1 it2 hsz hk=>?_
 have J:Inv X pins σ H1 { s1 with heap:=h',toks:=s1.toks }:=I1.kept hk
 refine wpAny_pyIter_zip hz ?_
 refine⟨s1.heap.objs.size+4,[s1.heap.objs.size+4,s1.heap.objs.size+2,s1.heap.objs.size+3,s1.heap.objs.size,s1.heap.objs.size+1],_,_,H1,rfl,J,zjb a b _ _ _ _ _ (zipApart_new (ztp e1) (ztp e2)),⟨hz,hti,⟨_,_,hto⟩,it1,it2⟩,fun c hc=>?_,q⟩
 have gc:s1.heap.objs.size<=c:=by
  simp only[List.mem_cons,ztJ,or_false] at hc
  rcases hc with z | z | z | z | z<;>rw[z]<;>omega
 exact I1.zdU gc (I1.hok.fresh gc)
def zor (K:Frag):R2:=fun x y H Q=>∃p q xs ys,x=.ref p/\y=.ref q/\z6 K H p xs/\z6 K H q ys/\xs.length+ys.length<=sizeLine/\∀l,H l=none->Q (.ref l) (upd H l (.lst (xs++ys)))
theorem zc5:Vj X (binaryOp .Add) (zor X.K):=by
 intro pins s σ H x y v u Q I rx ry h
 obtain⟨p,q,xs,ys,rfl,rfl,hp,hq,hz,h⟩:=h
 cases rx
 cases ry
 obtain⟨zfS,rv1,pl1,hz1⟩:=I.list hp
 obtain⟨its2,rv2,pl2,hz2⟩:=I.list hq
 obtain⟨⟨cls,dd,data,sl⟩,ho,hc,n,hd⟩:=id pl1.isList
 obtain⟨⟨cls2,dd2,data2,sl2⟩,ho2,hc2,n2,hd2⟩:=id pl2.isList
 simp only at hc hd hc2 hd2
 subst hc hd hc2 hd2
 have l1:=rv1.length
 have l2:=rv2.length
 have e:zfS.toArray++its2.toArray=(zfS++its2).toArray:=by simp
 refine concat_meets ⟨_,ho,rfl⟩ ⟨_,ho2,rfl⟩ noFill_list_add seq_list_add PySem.F.slot_list_add PySem.F.entry_list_add (PySem.F.args_list_add_2 _ _) (list_addW p q zfS.toArray its2.toArray n n2 dd dd2 sl sl2 (by simp;omega)) ⟨ho,ho2,?_⟩
 rw[e]
 refine⟨.ref s.heap.objs.size,_,I.laid (t':=s.toks) (o:=.lst (xs++ys)) (fun b o e=>zto _ e) (zty _) ?_,rfl,h _ (I.hok.fresh (zty _))⟩
 exact⟨by rw[ztq];exact hz,zfS++its2,0,rv1.append rv2,ztD _ rfl⟩
end
end L2
namespace L2
open PySem
theorem zg9 {X:Cx}{x y:Str}{px py pt:Pos}{x1:Nat}(hc:X.calm=true)(hN:X.N.Nodup)(h0:X.N[0]?=some x)(h1:X.N[1]?=some y)(hx:X.env.scope.names.lookup x=some .local)(hy:X.env.scope.names.lookup y=some .local):PG X (.Tuple [.Name x px,.Name y py] x1 pt) (ziv X.K 2 (Nr (W0 0) (Nr (W0 1) ziu))) :=
 ziw hc (Nt (yO hN h0 (.inl hx) (.inr hx)) (Nt (yO hN h1 (.inl hy) (.inr hy)) zgF))
end L2
namespace L2
open PySem PySem.Spec PyProof.Rows
structure zha (uD sc:Scope)(x y:Str)(fv:List Str):Prop where
 g:zd3 uD sc [x,y] fv
 hx:sc.names.lookup x=some .local
 hy:sc.names.lookup y=some .local
 nd:([x,y]++fv).Nodup
end L2
namespace uY
open PySem L2 yL
def Y9 (ns:List Int)(i:Nat):Int:=(ns[i]?).getD 0
inductive zap (K:Frag)(vs:List V)(H:Hp)(Q:VK)(E9:XK):Prop
 | mk (l:Addr) (ns:List Int) (i:Nat) (_:vs=[.ref l,.int i]) (_:z6 K H l (ns.map V.int)) (_:Q (.int (Y9 ns i)) H):zap K vs H Q E9
end uY
namespace L2
theorem zqd {σ:St}{H:Hp}{Q:Bool->Hp->Prop}(h:Q true H):Uz σ H Q:=h
end L2
namespace uY
open PySem L2 yL
theorem Sn.zem:∀s:Sn,s.count+1<=2^s.depth:=by
 have key:∀(d:Nat) (s:Sn),s.depth<=d->s.count+1<=2^d:=by
  intro d
  induction d with
  | zero=>intro s h;have:=Sn.Ko s;omega
  | succ d ih =>
   intro s h
   have hp:=Sn.Jh s
   have hl:=Sn.Mh s
   have hd:=Sn.SQ s
   have hc:∀t∈s.parts,t.count+1<=2^d:=fun t ht=>ih t (by have:=hd t ht;omega)
   have p1:1<=2^d:=Nat.one_le_two_pow
   rw[Nat.pow_succ,hp]
   match hs:s.parts,hl with
   | [],_=>simp;omega
   | [a],_ =>
    have:=hc a (by rw[hs];simp)
    simp;omega
   | [a,b],_ =>
    have h1:=hc a (by rw[hs];simp)
    have h2:=hc b (by rw[hs];simp)
    simp;omega
   | a::b::c::r,h=>simp at h
 exact fun s=>key _ s (zty _)
end uY
namespace L2
open PySem PySem.Spec PyProof.Rows
theorem zos {x:V}{p q:Prop}(h:q):if (!decide (x=x))=true then p else q:=by
 rw[decide_eq_true rfl]
 exact h
theorem zfU {x y:V}{p q:Prop}(e:x=y)(h:q):if (!decide (x=y))=true then p else q:=by
 subst e
 exact zos h
section
variable {X:Cx}
theorem Jo:∀{xs:List V} {us:List Value},xs.length=us.length->(∀(i:Nat) x u,xs[i]?=some x->us[i]?=some u->RelV x u)->Vals xs us
 | [],[],_,_=>.nil
 | [],_::_,h,_=>by cases h
 | _::_,[],h,_=>by cases h
 | x::xs,u::us,h,r=>.cons (r 0 x u rfl rfl) (Jo (Nat.succ.inj h) fun i x u hx hu=>r (i+1) x u hx hu)
def Jp (n:Nat):List V:=(List.range n).map fun i=>V.int (i:Nat)
def tLR (ta:TA):TE:=fun σ H Q=>ta σ H fun vs H1=>∃n:Nat,vs=[.int (n:Nat)]/\n<=1000000/\∀l,H1 l=none->Q (.ref l) (upd H1 l (.lst (Jp n)))
theorem zc6 {e:Expr}{ta:TA}{p p2 pos pos2:Pos}(hc:X.calm=true)(hg:Gl X "list")(hm:X.mg "list"=none)(hg2:Gl X "range")(hm2:X.mg "range"=none)(ha:PA X [e] ta)
  (hs:starEach [e] X.env=[(false,eval e X.env)]:=by rfl)
  (hs2:starEach [.Call (.Name "range" p2) [e] [] pos2] X.env=[(false,eval (.Call (.Name "range" p2) [e] [] pos2) X.env)]:=by rfl) :
  PE X (.Call (.Name "list" p) [.Call (.Name "range" p2) [e] [] pos2] [] pos) (tLR ta):=by
 intro pins s σ H Q I h
 refine wpAny_Call_Name_kw (Wd I hg hm RX ?_ (by decide) (by decide))
 refine PyProof.Rows.callWith_type1 ?_ hs2 rfl
 rw[hs2]
 show wpAny _ _ (spliced ((false,eval (.Call (.Name "range" p2) [e] [] pos2) X.env)::[])) _ _ s
 refine Calls.spliced_cons ?_
 refine Call_ (Wd I hg2 hm2 boot_range (PyProof.Rows.callWith_type1 (wI (ha pos2 pins s σ H _ I h) fun us s1 ⟨vs,H1,I1,r1,q1⟩=>?_) hs rfl))
 obtain⟨n,e1,hn,q⟩:=q1
 subst e1
 obtain⟨u,rfl,ru⟩:=vals1 r1
 obtain⟨t,rfl⟩:=ru
 refine call_range_1 (Calls.spliced_nil ?_)
 refine call_list_range (n:=n) (I1.ok.hd hc) (IsRange.new ..) (small_one (by omega) (by omega) (by omega) (by omega)) (by rw[rangeSize_one];split<;>omega) (by omega) fun h' tk acc' c' kp e0 ac=>?_
 have I2:=I1.kept (t':=s1.toks+1+1) (h':=s1.heap.push { cls:=.type "range", data:=.fields #[.int 0 s1.toks,.int n t,.int 1 (s1.toks+1)] }) fun b o e=>zto _ e
 have hl:acc'.size=n:=ac.1
 have rv:Vals (Jp n) acc'.toList:=by
  refine Jo (by simp[Jp,hl]) fun i x u hx hu=>?_
  have hi:i<n:=by
   have:=(ztl.mp hx).1
   simpa [Jp] using this
  unfold Jp at hx
  rw[ztk,List.getElem?_range hi] at hx
  cases hx
  obtain⟨t',rfl⟩:=ac.2 i u (by simpa using hu)
  exact⟨t',by simp⟩
 exact⟨.ref _,_,I2.laid (t':=tk) (o:=.lst (Jp n)) kp (zty _) ⟨by unfold Jp;rw[zti,ztA];exact ztE hn (by decide),acc'.toList,c',rv,by simpa using e0⟩,rfl,q _ (I2.hok.fresh (zty _))⟩
end
end L2
namespace yL
open uY
def anyB (n:Nat)(f:Nat->Bool):Bool:=(List.range (2^n)).any f
theorem anyB_iff {n:Nat}{f:Nat->Bool}:anyB n f=true↔∃b,b<2^n/\f b=true:=by
 unfold anyB
 rw[List.any_eq_true]
 exact⟨fun⟨b,h,e⟩=>⟨b,List.mem_range.mp h,e⟩,fun⟨b,h,e⟩=>⟨b,List.mem_range.mpr h,e⟩⟩
theorem v9 {n N:Nat}{f:Nat->Bool}(h:zW n N f):decide (N=0)=!anyB n f:=by
 by_cases e:N=0
 ·subst e
  rw[decide_eq_true rfl]
  cases hb:anyB n f with
  | false=>rfl
  | true =>
   obtain⟨b,hb,e⟩:=anyB_iff.mp hb
   have:=ZV h hb
   rw[e,Nat.zero_testBit] at this
   cases this
 ·rw[decide_eq_false e]
  cases hb:anyB n f with
  | true=>rfl
  | false =>
   exfalso
   refine e (Nat.eq_of_testBit_eq fun i=>?_)
   rw[h i,Nat.zero_testBit]
   by_cases hi:i<2^n
   ·cases hf:f i with
    | false=>rw[Bool.and_false]
    | true=>rw[anyB_iff.mpr ⟨i,hi,hf⟩] at hb;cases hb
   ·rw[decide_eq_false hi];rfl
def fvP (n:Nat):(Nat->Bool)->List Nat->List Bool
 | _,[]=>[]
 | f,p::ps=>(!anyB n fun b=>f (zK b p false))::fvP n (fun b=>f (zK b p (!anyB n fun b=>f (zK b p false)))) ps
def mix:Nat->List Bool->Nat->Nat
 | _,[],b=>b
 | i,v::r,b=>zK (mix (i+1) r b) i v
theorem Mu:∀(r:List Bool) (i:Nat) (v:Bool) (b:Nat),mix i (r++[v]) b=mix i r (zK b (i+r.length) v)
 | [],i,v,b=>rfl
 | u::r,i,v,b=>by
  show zK (mix (i+1) (r++[v]) b) i u=zK (mix (i+1) r (zK b (i+(r.length+1)) v)) i u
  rw[Mu r (i+1) v b,show i+1+r.length=i+(r.length+1) by omega]
theorem zjc {n:Nat}:∀(r:List Bool) (i b:Nat),i+r.length<=n->b<2^n->mix i r b<2^n
 | [],i,b,_,hb=>hb
 | v::r,i,b,h,hb=>by
  rw[ztu] at h
  exact zX (zjc r (i+1) b (by omega) hb) (by omega)
theorem zhb:∀(r:List Bool) (i b j:Nat),i<=j->j<i+r.length->(mix i r b).testBit j=r.getD (j-i) false
 | [],i,b,j,h1,h2=>by rw[List.length_nil] at h2;omega
 | v::r,i,b,j,h1,h2=>by
  show(zK (mix (i+1) r b) i v).testBit j=_
  rw[zT]
  by_cases e:j=i
  ·subst e
   rw[if_pos rfl,Nat.sub_self]
   rfl
  ·rw[ztu] at h2
   rw[if_neg e,zhb r (i+1) b j (by omega) (by omega)]
   obtain⟨m,rfl⟩:∃m,j=i+1+m:=⟨j-(i+1),by omega⟩
   rw[show i+1+m-(i+1)=m by omega,show i+1+m-i=m+1 by omega]
   rfl
theorem zhc {n:Nat}{r:List Bool}{b:Nat}(hl:r.length=n)(hb:b<2^n):mix 0 r b=uH r:=by
 have hr:=zaO r
 rw[hl] at hr
 refine ZS (zjc r 0 b (by omega) hb) hr fun i hi=>?_
 rw[zhb r 0 b i (ztF _) (by omega),Ji,Nat.sub_zero,ztv]
def JQ (n:Nat)(f:Nat->Bool):Nat->List Bool
 | 0=>[]
 | i+1=>JQ n f i++[!anyB n fun b=>f (mix 0 (JQ n f i++[false]) b)]
theorem zen (n:Nat)(f:Nat->Bool):∀i,(JQ n f i).length=i
 | 0=>rfl
 | i+1=>by show(_++[_]).length=_;rw[ztq,zen n f i];rfl
theorem zcr (n:Nat)(f:Nat->Bool):∀(m i:Nat),JQ n f (i+m)=JQ n f i++fvP n (fun b=>f (mix 0 (JQ n f i) b)) (List.range' i m)
 | 0,i=>by show _=_++[];rw[List.append_nil];rfl
 | m+1,i=>by
  have hl:=zen n f i
  have e1:∀v b,mix 0 (JQ n f i) (zK b i v)=mix 0 (JQ n f i++[v]) b:=fun v b=>by rw[Mu,hl,Nat.zero_add]
  rw[show i+(m+1)=i+1+m by omega,zcr n f m (i+1),List.range'_succ]
  show(JQ n f i++[_])++_=JQ n f i++(_::_)
  rw[List.append_assoc]
  simp only[e1]
  rfl
theorem zhU (n:Nat)(f:Nat->Bool):fvP n f (List.range n)=JQ n f n:=by
 have:=zcr n f n 0
 rw[Nat.zero_add] at this
 rw[this,List.range_eq_range']
 rfl
theorem zcs {p q:List Bool->Bool}:∀{l:List (List Bool)} {x:List Bool},(∀r∈l,p r=(q (r++[false])||q (r++[true])))->(l.filter p).head?=some x ->
  ((l.flatMap fun r=>[r++[false],r++[true]]).filter q).head?=some (x++[!q (x++[false])])
 | [],x,_,h=>by cases h
 | r::l,x,hp,h=>by
  have hr:=hp r ztC
  rw[List.flatMap_cons,ztU]
  cases hpr:p r with
  | true =>
   rw[List.filter_cons_of_pos hpr] at h
   have ex:r=x:=ztN h
   subst ex
   rw[hpr] at hr
   cases h0:q (r++[false]) with
   | true=>rw[List.filter_cons_of_pos h0];rfl
   | false =>
    rw[h0,Bool.false_or] at hr
    rw[List.filter_cons_of_neg (by rw[h0];exact ztm),List.filter_cons_of_pos hr.symm]
    rfl
  | false =>
   rw[List.filter_cons_of_neg (by rw[hpr];exact ztm)] at h
   rw[hpr] at hr
   have h0:q (r++[false])=false:=by cases hh:q (r++[false]) with | false=>rfl | true=>rw[hh] at hr;cases hr
   have h1:q (r++[true])=false:=by cases hh:q (r++[true]) with | false=>rfl | true=>rw[hh,Bool.or_true] at hr;cases hr
   rw[List.filter_cons_of_neg (by rw[h0];exact ztm),List.filter_cons_of_neg (by rw[h1];exact ztm)]
   exact zcs (fun r' hr'=>hp r' (ztt _ hr')) h
theorem zeo {n:Nat}{f:Nat->Bool}(h:anyB n f=true):∀i,i<=n->((allR i).filter fun r=>anyB n fun b=>f (mix 0 r b)).head?=some (JQ n f i)
 | 0,_=>by
  show(List.filter _ [[]]).head?=_
  have e:(anyB n fun b=>f (mix 0 [] b))=true:=h
  rw[List.filter_cons_of_pos (p:=fun r=>anyB n fun b=>f (mix 0 r b)) e]
  rfl
 | i+1,hi=>by
  refine zcs (fun r hr=>?_) (zeo h i (by omega))
  have hl:=Mt i r hr
  rw[ztW,Bool.or_eq_true,anyB_iff,anyB_iff,anyB_iff]
  constructor
  ·rintro⟨b,hb,e⟩
   have e2:mix 0 (r++[b.testBit i]) b=mix 0 r b:=by rw[Mu,Nat.zero_add,hl,yJ]
   cases hv:b.testBit i with
   | false=>rw[hv] at e2;exact .inl ⟨b,hb,by rw[e2];exact e⟩
   | true=>rw[hv] at e2;exact .inr ⟨b,hb,by rw[e2];exact e⟩
  ·rintro (⟨b,hb,e⟩ | ⟨b,hb,e⟩)<;>rw[Mu,Nat.zero_add,hl] at e<;>exact⟨_,zX hb (by omega),e⟩
theorem zfV {n:Nat}{f:Nat->Bool}(h:anyB n f=true):((allR n).filter fun r=>f (uH r)).head?=some (fvP n f (List.range n)):=by
 rw[zhU,<-zeo h n (zty _)]
 congr 1
 refine List.filter_congr fun r hr=>?_
 have hl:=Mt n r hr
 rw[ztW,anyB_iff]
 constructor
 ·intro e
  exact⟨0,Nat.two_pow_pos n,by rw[zhc hl (Nat.two_pow_pos n)];exact e⟩
 ·rintro⟨b,hb,e⟩
  rw[zhc hl hb] at e
  exact e
end yL
namespace uY
open PySem L2 yL
inductive Vo (K:Frag)(vs:List V)(H:Hp)(Q:VK)(E9:XK):Prop
 | mk (N n:Nat) (f:Nat->Bool) (pl:Addr) (ps:List Nat) (_:vs=[.int N,.ref pl,.int n]) (_:n<=8) (_:zW n N f) (_:z6 K H pl (ps.map fun p=>V.int (p:Nat))) (_:(∀p∈ps,p<n)) (_:ps.length<=1000) (_:∀(l:Addr) (H':Hp),Same H H'->H l=none->H' l=some (.lst (Sg (fvP n f ps)))->Q (.ref l) H'):Vo K vs H Q E9
inductive Ph (vs:List V)(H:Hp)(Q:VK)(E9:XK):Prop
 | mk (N n:Nat) (f:Nat->Bool) (_:vs=[.int N,.int n]) (_:n<=8) (_:zW n N f) (_:anyB n f=true) (_:∀(l:Addr) (H':Hp) (r:List Bool),Same H H'->H l=none->H' l=some (.lst (Sg r))->((allR n).filter fun r=>f (uH r)).head?=some r->Q (.ref l) H'):Ph vs H Q E9
end uY
namespace L2
open PySem PySem.Spec PyProof.Rows
section
variable {X:Cx}
def tLV (to:TE):TE:=fun σ H Q=>to σ H fun x H1=>∃(d:Addr) (kvs:List (Key×V)),x=.ref d/\H1 d=some (.dK kvs)/\∀l,H1 l=none->Q (.ref l) (upd H1 l (.lst (kvs.map (·.2))))
theorem Jq {o:Expr}{to:TE}{p apos cpos pos:Pos}(hc:X.calm=true)(hg:Gl X "list")(hm:X.mg "list"=none)(ho:PE X o to)
  (hbase:attributeBase o "values" X.env (eval o X.env)=eval o X.env:=by rfl)(hline:(apos.endLine==cpos.line)=true:=by rfl)
  (hs2:starEach [.Call (.Attribute o "values" apos) [] [] cpos] X.env=[(false,eval (.Call (.Attribute o "values" apos) [] [] cpos) X.env)]:=by rfl) :
  PE X (.Call (.Name "list" p) [.Call (.Attribute o "values" apos) [] [] cpos] [] pos) (tLV to):=by
 intro pins s σ H Q I h
 refine wpAny_Call_Name_kw (Wd I hg hm RX ?_ (by decide) (by decide))
 refine PyProof.Rows.callWith_type1 ?_ hs2 rfl
 rw[hs2]
 show wpAny _ _ (spliced ((false,eval (.Call (.Attribute o "values" apos) [] [] cpos) X.env)::[])) _ _ s
 refine Calls.spliced_cons ?_
 refine wpAny_Call_method0_late hbase hline (wI (ho pins s σ H _ I h) fun v s1 ⟨x,H1,I1,r1,q1⟩=>?_)
 obtain⟨d,kvs,rfl,hd,q⟩:=q1
 obtain⟨h1,h2⟩:=zcQ (T := "dict") I1 r1 (.inr (.inr (.inl ⟨rfl,.inl ⟨kvs,hd⟩⟩)))
 cases r1
 obtain⟨hz,lo,vs,rv,hD⟩:=(show kvs.length<=sizeLine/\(d==sysModules)=false/\∃vs,KV kvs vs/\s1.heap.DictOf (yp X.prog X.w) d vs from I1.hok d _ hd)
 obtain⟨ep,hat⟩:=hD.dictAt
 have hl:kvs.length=vs.length:=Paired.length rv
 refine⟨"dict", "dict.values", PySem.F.plainAttrs_dict,PySem.F.slot_dict_values,PySem.F.type_dict_values,h1,h2,Calls.callWith_builtin rfl (PySem.evalArgs_none ?_)⟩
 refine call_meetsIn PySem.F.slot_dict_values hD.typeIs PySem.F.entry_dict_values (PySem.F.args_dict_values_1 _) (meets_dict_values (yp X.prog X.w) d lo) ⟨⟨vs,hD⟩,Calls.spliced_nil ?_⟩
 have I2:=I1.kept (t':=s1.toks) (h':=s1.heap.push { cls:=.type "dict_values", data:=.fields #[.ref d] }) fun b o e=>zto _ e
 obtain⟨hz2,lo2,vs2,rv2,hD2⟩:=(show kvs.length<=sizeLine/\(d==sysModules)=false/\∃vs,KV kvs vs/\(s1.heap.push { cls:=.type "dict_values", data:=.fields #[.ref d] }).DictOf (yp X.prog X.w) d vs from I2.hok d _ hd)
 obtain⟨ep2,zjd⟩:=hD2.dictAt
 have hl2:kvs.length=vs2.length:=Paired.length rv2
 refine PySem.W.kdl_call (PySem.W.kdl_values (knd:=yp X.prog X.w) (r:=s1.heap.objs.size) (d:=d) (kvs:=vs2) (ep:=ep2)) (I1.ok.hd hc) ⟨⟨_,ztD _ rfl,rfl,rfl⟩,zjd⟩ (by omega) fun h' tk acc c hk hS hacc=>?_
 refine⟨.ref _,_,I2.laid (t':=tk) (o:=.lst (kvs.map (·.2))) hk (zty _) ?_,rfl,q _ (I2.hok.fresh (zty _))⟩
 refine⟨by rw[zti];exact hz,acc.toList,c,?_,by simpa using hS⟩
 refine Mq (by rw[zti];have:=hacc.1;simp;omega) fun j v hv=>?_
 obtain⟨k,hx⟩:=hacc.2 j v (by rw[<-Array.getElem?_toList];exact hv)
 obtain⟨y,hy,e1,e2⟩:=Mf rv2 hx
 exact⟨y.2,by rw[ztk,hy];rfl,e2⟩
end
end L2
namespace L2
open PySem PySem.Spec PyProof.Rows PySem.Builtin PySem.Builtin.Str
section
variable {X:Cx}
def zmR (b:Bool):Str:=⟨#[uY.chc b]⟩
end
end L2
namespace yL
open PySem uY
def upR (n:Nat)(x:Rm):Bool:=match x with | some (i,_,_)=>decide (i+2<n) | none=>false
def hiN (n:Nat)(rs:List Rm):Nat:=(rs.filter (upR n)).length
theorem zkK {n:Nat}{rs:List Rm}{p lo hi:Nat}:hiN n (rs++[some (p,lo,hi)])=hiN n rs+if p+2<n then 1 else 0:=by
 unfold hiN
 rw[ztU,ztq]
 congr 1
 by_cases h:p+2<n
 ·rw[if_pos h,List.filter_cons_of_pos (show upR n (some (p,lo,hi))=true from decide_eq_true h)]
  rfl
 ·rw[if_neg h,List.filter_cons_of_neg (show ¬upR n (some (p,lo,hi))=true from fun z=>h (of_decide_eq_true z))]
  rfl
def zkL (n:Nat)(rs:List Rm)(k:Nat):Bool×Bool×Bool×Bool :=
 (yes rs k (fun i=>if i+1=n then false else false),yes rs k (fun i=>if i+1=n then true else false),yes rs k (fun i=>if i+1=n then false else true),yes rs k (fun i=>if i+1=n then true else true))
theorem zkM {n:Nat}{rs:List Rm}(B:Bk n rs){j k:Nat}(hj:j<rs.length)(hk:k<rs.length)(lj:n<=Sh n rs j+2)(lk:n<=Sh n rs k+2)(e:zkL n rs j=zkL n rs k):j=k:=by
 unfold zkL at e
 rw[Prod.mk.injEq,Prod.mk.injEq,Prod.mk.injEq] at e
 obtain⟨e0,e1,e2,e3⟩:=e
 have key:∀{m:Nat},m<rs.length->n<=Sh n rs m+2->∀r:Row,yes rs m r=yes rs m (fun i=>if i+1=n then r (n-1) else r (n-2)):=fun {m} hm lm r=>by
  refine V0 B m m (zty _) hm fun i h1 h2=>?_
  by_cases h:i+1=n
  ·rw[if_pos h,show i=n-1 by omega]
  ·rw[if_neg h,show i=n-2 by omega]
 refine Y7 B (max j k) j k ⟨Nat.le_max_left _ _,Nat.le_max_right _ _⟩ hj hk fun r=>?_
 rw[key hj lj r,key hk lk r]
 cases r (n-1)<;>cases r (n-2)
 ·exact e0
 ·exact e2
 ·exact e1
 ·exact e3
def zot:List (Bool×Bool×Bool×Bool):=[false,true].flatMap fun a=>[false,true].flatMap fun b=>[false,true].flatMap fun c=>[false,true].map fun d=>(a,b,c,d)
theorem zje:∀x:Bool×Bool×Bool×Bool,x∈zot:=by
 rintro⟨a,b,c,d⟩
 cases a<;>cases b<;>cases c<;>cases d<;>decide
theorem zep {α:Type}(f:α->Bool)(d:α):∀l:List α,(l.filter f).length=((List.range l.length).filter fun i=>f (l.getD i d)).length
 | []=>rfl
 | a::l=>by
  have ih:=zep f d l
  rw[ztu,List.range_succ_eq_map,List.filter_cons,List.filter_cons,List.filter_map,]
  have e:((List.range l.length).filter ((fun i=>f ((a::l).getD i d)) ∘ Nat.succ))=((List.range l.length).filter fun i=>f (l.getD i d)):=rfl
  rw[e]
  show(if f a=true then a::l.filter f else l.filter f).length=(if f a=true then 0::_ else _).length
  cases f a
  ·rw[if_neg ztm,if_neg ztm,zti]
   exact ih
  ·rw[if_pos rfl,if_pos rfl,ztu,ztu,zti,ih]
theorem zct {α:Type}(f:α->Bool):∀l:List α,l.length=(l.filter f).length+(l.filter fun a=>!f a).length
 | []=>rfl
 | a::l=>by
  have ih:=zct f l
  cases h:f a
  ·rw[List.filter_cons_of_neg (by rw[h];exact ztm),List.filter_cons_of_pos (p:=fun a=>!f a) (by rw[h];rfl),ztu,ztu]
   omega
  ·rw[List.filter_cons_of_pos h,List.filter_cons_of_neg (p:=fun a=>!f a) (by rw[h];exact ztm),ztu,ztu]
   omega
theorem zfW {n:Nat}{rs:List Rm}(B:Bk n rs):rs.length<=hiN n rs+16:=by
 have e1:=zct (fun i=>upR n (rs.getD i none)) (List.range rs.length)
 rw[ztA,<-zep] at e1
 have e2:((List.range rs.length).filter fun i=>!upR n (rs.getD i none)).length<=16:=by
  have nd:(((List.range rs.length).filter fun i=>!upR n (rs.getD i none)).map (zkL n rs)).Nodup:=by
   have h:=(List.nodup_range (n:=rs.length)).filter (fun i=>!upR n (rs.getD i none))
   show List.Pairwise _ _
   rw[List.pairwise_map]
   refine List.Pairwise.imp_of_mem (fun {j k} hj hk ne e=>ne ?_) h
   obtain⟨j1,j2⟩:=List.mem_filter.mp hj
   obtain⟨k1,k2⟩:=List.mem_filter.mp hk
   have lv:∀m,m<rs.length->(!upR n (rs.getD m none))=true->n<=Sh n rs m+2:=fun m hm hu=>by
    unfold Sh
    rw[ztv] at hu
    cases hx:rs[m]? with
    | none=>show n<=n+2;omega
    | some x =>
     rw[hx] at hu
     cases x with
     | none=>show n<=n+2;omega
     | some t =>
      obtain⟨i,lo,hi⟩:=t
      have:¬i+2<n:=fun z=>by
       have:upR n (some (i,lo,hi))=true:=decide_eq_true z
       simp[this] at hu
      show n<=i+2
      omega
   exact zkM B (List.mem_range.mp j1) (List.mem_range.mp k1) (lv j (List.mem_range.mp j1) j2) (lv k (List.mem_range.mp k1) k2) e
  have:=Ma nd (ys:=zot) fun x _=>zje x
  rw[zti] at this
  exact this
 unfold hiN
 omega
def bH (n u:Nat):Nat:=2^(n-2-u)-1
theorem zkN {n u p:Nat}(h:u<=p):bH n (p+1)+bH n (p+1)+(if p+2<n then 1 else 0)<=bH n u:=by
 unfold bH
 by_cases hp:p+2<n
 ·rw[if_pos hp]
  have e:n-2-p=(n-2-(p+1))+1:=by omega
  have m:2^(n-2-p)<=2^(n-2-u):=ztO (by decide) (by omega)
  have p1:1<=2^(n-2-(p+1)):=Nat.one_le_two_pow
  rw[e,Nat.pow_succ] at m
  omega
 ·rw[if_neg hp,show n-2-(p+1)=0 by omega]
  show 1-1+(1-1)+0<=_
  omega
theorem zqe {n:Nat}(h:n<=8):bH n 0<=63:=by
 have:2^(n-2-0)<=2^6:=ztO (by decide) (by omega)
 have e:2^6=64:=rfl
 unfold bH
 omega
end yL
namespace uY
open PySem L2 yL
section
variable (C:Addr)(K:Frag)
inductive Zx (d:Nat)(vs:List V)(H:Hp)(Q:VK)(E9:XK):Prop
 | mk (b:Addr) (os:List Str) (rs:List Rm) (F:yQ) (t u:Nat) (f:Nat->Bool) (_:vs=[.ref b,.int t]) (_:z7 C H b os rs F) (_:rs.length+2^d<=9000000) (_:u<=os.length) (_:os.length+1<=u+d) (_:zW os.length t f) (_:(∀i,i<u->Free os.length f i)) (_:∀(k:Nat) (rs':List Rm) (H':Hp),zc4 F H H'->xr H H'->z7 C H' b os rs' F->vC rs rs'->k<rs'.length->(∀r,yes rs' k r=f (bits r os.length))->rs'.length+1<=rs.length+2^d->(∀j,rs.length<=j->j<rs'.length->u<=Sh os.length rs' j)->hiN os.length rs'<=hiN os.length rs+bH os.length u->Q (.int (k:Nat)) H'):Zx d vs H Q E9
def zou (b:Addr)(os:List Str)(H:Hp)(rs:List Rm)(F:yQ)(f:Row->Bool)(Q:VK):Prop:=∀(k:Nat) (rs':List Rm) (H':Hp),zc4 F H H'->xr H H'->z7 C H' b os rs' F->vC rs rs'->Means rs' k f->hiN os.length rs'<=hiN os.length rs+63->Q (.int (k:Nat)) H'
inductive zaZ (vs:List V)(H:Hp)(Q:VK)(E9:XK):Prop
 | mk (b p:Addr) (os:List Str) (rs:List Rm) (F:yQ) (s:Sn) (_:vs=[.ref b,.ref p]) (_:z7 C H b os rs F) (_:rs.length<=8000000) (_:Qz H s p) (_:s.Kc os) (_:s.count<=200) (_:s.depth<=24) (_:zou C b os H rs F (fun r=>s.val (zp7 os r)) Q):zaZ vs H Q E9
end
structure Pj (C:Addr)(H0:Hp)(b:Addr)(os:List Str)(m:Nat)(H:Hp)(rs:List Rm)(F:yQ):Prop where
 same:Same H0 H
 away:∀x,F x->H0 x=none
 bk:z7 C H b os rs F
 hi:hiN os.length rs<=m
section
variable {C:Addr}{H0:Hp}{b:Addr}{os:List Str}{m:Nat}{H:Hp}{rs:List Rm}{F:yQ}
theorem Pj.new (h:Pj C H0 b os m H rs F){H':Hp}(g:Same H H'):Pj C H0 b os m H' rs F:=⟨h.same.trans g,h.away,(yu C).same h.bk g,h.hi⟩
end
end uY
namespace L2
open PySem PySem.Spec PyProof.Rows
theorem zkO {K:Frag}{a b:Addr}{xs ys:List V}{g:TG}{tb:TS}{D:Ends}{σ:St}{H:Hp}(hlen:xs.length=ys.length)(Pv:Nat->St->Hp->Prop)(h0:Pv 0 σ H)(hl:∀i σ H,i<=xs.length->Pv i σ H->z6 K H a xs/\z6 K H b ys)
  (hs:∀i x y σ H p,xs[i]?=some x->ys[i]?=some y->Pv i σ H->H p=none->g (.ref p) σ (upd H p (.tup [x,y])) fun σ2 H2=>tb { D with nx:=Pv (i+1),ct:=Pv (i+1),bk:=D.nx } σ2 H2)(hd:∀ σ H,Pv xs.length σ H->D.nx σ H) :
  ∃W:Nat->Nat->St->Hp->Prop,(∃m,W 0 m σ H)/\∀i m σ H,W i m σ H ->
   ((Itz K a b).stop i H/\D.nx σ H)\/((Itz K a b).go i H/\∃N:St->Hp->Prop,(∀ σ' H',N σ' H'->∃m',m'<m/\W (i+1) m' σ' H')/\∀x H',(Itz K a b).Ni i H x H'->g x σ H' fun σ2 H2=>tb { D with nx:=N,ct:=N,bk:=D.nx } σ2 H2):=by
 refine⟨fun i m σ H=>m=xs.length-i/\i<=xs.length/\Pv i σ H,⟨xs.length,by simp,ztF _,h0⟩,?_⟩
 rintro i m σ H ⟨rfl,hi,p⟩
 obtain⟨q,q'⟩:=hl i σ H hi p
 by_cases hlt:i<xs.length
 ·refine .inr ⟨⟨xs,ys,_,_,q,q',ztj hlt,ztj (l:=ys) (i:=i) (by omega)⟩,Pv (i+1),fun σ' H' p'=>⟨xs.length-(i+1),by omega,rfl,hlt,p'⟩,fun x H' y=>?_⟩
  obtain⟨pp,u,v,hu,hv,rfl,hn,rfl⟩:=y
  exact hs i u v σ H pp (hu xs q) (hv ys q') p hn
 ·have e:i=xs.length:=by omega
  subst e
  exact .inl ⟨⟨xs,ys,q,q',.inl (zty _)⟩,hd σ H p⟩
theorem zkP {X:Cx}{sc uD:Scope}{x y:Str}{js:List Nat}{elt iter c:Expr}{px py pt pos:Pos}{x1:Nat}{wi:TI}{te:TE}{tt:TT}(Wg:X.env.scope=uD)(L:zha uD sc x y (js.map fun j=>X.N.getD j ""))(hc:X.calm=true)(hi:PI X (.Tuple [.Name x px,.Name y py] x1 pt) iter wi)(hjs:∀j∈js,j<X.N.length)
  (ht:∀(cl:List (Str×Addr)) (C:Addr) (s₂:Shared) (H₂:Hp) (fp:List Addr),PT (X.blk sc cl C (Sd X [x,y] js) s₂ H₂ fp) c tt)
  (he:∀(cl:List (Str×Addr)) (C:Addr) (s₂:Shared) (H₂:Hp) (fp:List Addr),PE (X.blk sc cl C (Sd X [x,y] js) s₂ H₂ fp) elt te)
  (hs:∀x,foldedSetIterable iter X.env x=pure x:=by intro _;rfl) :
  PE X (.ListComp elt [⟨.Tuple [.Name x px,.Name y py] x1 pt,iter,[c],0⟩] sc pos) (zmu wi [x,y] js (ziv X.K 2 (Nr (W0 0) (Nr (W0 1) ziu))) tt te) :=
 zmO Wg L.g hc hi (fun cl C s₂ H₂ fp=>zg9 (X:=X.blk sc cl C (Sd X [x,y] js) s₂ H₂ fp) hc L.nd rfl rfl (lookup_relabel_local L.hx) (lookup_relabel_local L.hy)) hjs (fun cl C s₂ H₂ fp pins s' σ' H' Q I h=>wpAny_tests_one (ht cl C s₂ H₂ fp pins s' σ' H' Q I h)) he hs
end L2
namespace uY
open PySem L2 yL
def Pk (ps:List Nat):List V:=ps.map fun p=>V.int (p:Nat)
theorem zhd {os:List Str}{x:Str}:inV (.str x) (os.map V.str)=os.contains x:=by
 unfold inV
 rw[List.any_map]
 induction os with
 | nil=>rfl
 | cons a l ih =>
  rw[List.any_cons,List.contains_cons,ih]
  show((a==x)||l.contains x)=((x==a)||l.contains x)
  rw[Bool.beq_comm]
theorem zkQ {a b:Nat}(h:∀i,a.testBit i=b.testBit i):a=b:=Nat.eq_of_testBit_eq h
end uY
namespace PySem
open Sem (wp)
namespace F
theorem zfX:typeLookup (.type "str") "__int__"=pure none:=by rw[typeLookup_type,builtinLookup_eq_fast];kernel_rfl
theorem zc7:typeLookup (.type "str") "__index__"=pure none:=by rw[typeLookup_type,builtinLookup_eq_fast];kernel_rfl
theorem zc8:typeLookup (.type "str") "__trunc__"=pure none:=by rw[typeLookup_type,builtinLookup_eq_fast];kernel_rfl
end F
theorem Mv (c:Str)(x:Nat)(n:Int)(u:Tok)(hA:(c.cps.all fun x=>decide (x<128))=true)(hL:c.cps.toList=[x])(hx:x=48/\n=0\/x=49/\n=1):Meets (Builtin.«int.__new__» ⟨[.type "int", .str c u],[]⟩) (Made.int n).spec :=
 Meets.of_wp fun prog w A R s hs=>by
  obtain⟨hp,g,d,tk,os⟩:=s
  have f1:=F.conv_sub_int
  have f2:=F.madeHere_int
  have hT:(⟨hp,g,d,tk,os⟩:Shared).TypeIs (.str c u) "str" := rfl
  have f3:=F.zfX
  have f4:=F.zc7
  have f5:=F.zc8
  repeat (any_goals (first | assumption | wp_step))
  rw[if_pos hA,hL]
  rcases hx with ⟨rfl,rfl⟩ | ⟨rfl,rfl⟩
  ·rw[if_pos (by decide)]
   refine wpAny_bind (wpAny_pure ?_)
   show wpAny _ _ (mkInt 0) _ _ _
   repeat (any_goals (first | assumption | wp_step))
   all_goals first | exact⟨_,rfl,hs⟩ | skip
  ·rw[if_pos (by decide)]
   refine wpAny_bind (wpAny_pure ?_)
   show wpAny _ _ (mkInt 1) _ _ _
   repeat (any_goals (first | assumption | wp_step))
   all_goals first | exact⟨_,rfl,hs⟩ | skip
end PySem
namespace L2
open PySem PySem.Spec PyProof.Rows PySem.W
theorem zjf {X:Cx}{c:Expr}{t:TT}{pins:List (Addr×Obj)}{s:Shared}{σ:St}{H:Hp}{Q:Bool->Hp->Prop}(I:Inv X pins σ H s)(h:t σ H Q)(hp:PT X c t):wpAny (model X.prog X.w) X.A (ZL [c] X.env) (TP X pins σ Q) X.xe s:=wpAny_tests_one (hp pins s σ H Q I h)
section
variable {X:Cx}
theorem zhV:Xl X (.type "int") (fun xs H Q=>∃b:Bool,xs=[.str (zmR b)]/\Q (.int (b.toNat:Nat)) H):=by
 intro pins s σ H xs us Q I r h
 obtain⟨b,rfl,q⟩:=h
 obtain⟨u,rfl,t,rfl⟩:=vals1 r
 have m:Meets (Builtin.«int.__new__» ⟨[.type "int", .str (zmR b) t],[]⟩) (Made.int ((b.toNat:Nat):Int)).spec:=Mv (zmR b) (uY.chc b) _ t (by cases b<;>decide +kernel) rfl (by cases b;exact .inl ⟨rfl,rfl⟩;exact .inr ⟨rfl,rfl⟩)
 exact call_int_1 m (show(Made.int ((b.toNat:Nat):Int)).post _ s from ⟨rfl,⟨.int (b.toNat:Nat),H,I.tok _,⟨_,rfl⟩,q⟩⟩)
end
end L2
namespace uY
open PySem L2 yL
theorem XS {n p:Nat}{f:Nat->Bool}{v:Bool}(hp:p<n)(fr:∀i,i<p->Free n f i):∀i,i<p+1->Free n (fun b=>f (zK b p v)) i:=fun i hi b hb u=>by
 show f (zK (zK b i u) p v)=f (zK b p v)
 by_cases e:i=p
 ·subst e
  congr 1
  refine ZS (zX (zX hb hp) hp) (zX hb hp) fun j _=>?_
  rw[zT,zT,zT]
  by_cases e:j=i
  ·rw[if_pos e,if_pos e]
  ·rw[if_neg e,if_neg e,if_neg e]
 ·have hi':i<p:=by omega
  rw[<-fr i hi' (zK b p v) (zX hb hp) u]
  congr 1
  refine ZS (zX (zX hb (by omega)) hp) (zX (zX hb hp) (by omega)) fun j _=>?_
  rw[zT,zT,zT,zT]
  by_cases e1:j=p
  ·rw[if_pos e1,if_pos e1,if_neg (by omega)]
  ·rw[if_neg e1,if_neg e1]
theorem zkR {n i:Nat}{f g:Nat->Bool}(h:Free n f i)(k:Free n g i):Free n (fun b=>f b||g b) i:=fun b hb v=>by
 show(f (zK b i v)||g (zK b i v))=(f b||g b)
 rw[h b hb v,k b hb v]
theorem zov {m:Nat}{x:V}(h:([.int 0,.int 1]:List V)[m]?=some x):∃v:Bool,[false,true][m]?=some v/\x=.int ((v.toNat:Nat):Int):=by
 match m,h with
 | 0,h=>cases h;exact⟨false,rfl,rfl⟩
 | 1,h=>cases h;exact⟨true,rfl,rfl⟩
end uY
namespace L2
open PySem PySem.Spec PyProof.Rows
section
variable {X:Cx}{pins:List (Addr×Obj)}{σ:St}{H:Hp}{s:Shared}
theorem Inv.held {d:Addr}{kvs:List (Key×V)}{o:Obj}(I:Inv X pins σ H s)(e:H d=some (.dK kvs))(ho:s.heap.get? d=some o):Inv X pins σ (upd H d (.frz o (.dK kvs))) s :=
 I.write (t':=s.toks) (h':=s.heap) (by rw[e];exact trivial) (.inl rfl) (fun _ _ _ q=>q) ⟨o,ho⟩ ⟨ho,I.hok d _ e⟩
end
theorem zhe {P:Program}{w:World}{h h':Heap}{d:Addr}{o:Obj}{vs vs':List (Key×Value)}{ep ep':Nat}(ho:h.get? d=some o)(hd:h'.get? d=some o)(x:h.DictAt (yp P w) d vs ep)(x':h'.DictAt (yp P w) d vs' ep'):ep'=ep:=by
 obtain⟨o1,es1,ho1,_,zow,_⟩:=x
 obtain⟨o2,es2,ho2,_,zlO,_⟩:=x'
 rw[ho] at ho1
 cases ho1
 rw[hd] at ho2
 cases ho2
 rw[zow] at zlO
 cases zlO
 rfl
def Kz (h:Heap)(e:Addr)(cls:Value):Prop:=∃oe vs,h.get? e=some oe/\oe.cls=cls/\oe.dict=none/\oe.data=.fields vs/\vs[2]?=some .none/\(vs[1]?=some .none\/∃T oT ts,vs[1]?=some (.ref T)/\T≠e/\h.get? T=some oT/\oT.data=.fields ts/\ts[3]?=some .none)
structure zhf (l:List Env)(e:Addr)(cls:Value)(h h':Heap):Prop where
 keep:∀b o,h.get? b=some o->b∉frs l->b≠e->h'.get? b=some o
 slot:∀b o,h.get? b=some o->b∈frs l->b≠e->∃sl,h'.get? b=some { o with slots:=sl }
 exc:Kz h' e cls
section
variable {M:Model}{A:Around}{E:Value->Shared->Prop}{s:Shared}
theorem za0 (f:Array Value->Array Value)(o:Obj):(Obj.mapFields f o).dict=o.dict:=by
 obtain⟨c,dd,dt,sl⟩:=o
 cases dt<;>rfl
theorem zcu {base:Heap}{env:Env}{outer:List Env}{L e:Addr}{oe:Obj}{vs:Array Value}{head:Value}{hadNext:Bool}{Q:Unit->Shared->Prop}(hfr:A.frames=some (env::outer))(hl:s.heap.FunFrames base (env::outer))(hf:env.frame=some L)
  (he:s.heap.get? e=some oe)(hdn:oe.dict=none)(hd:oe.data=.fields vs)(h2:vs[2]?=some .none)(sz:1<vs.size)(h:∀h',zhf (env::outer) e oe.cls s.heap h'->Q () { s with heap:=h' }) :
  wpAny M A (do let a <-frameOf env;let pl <-entryPlaceOf L hadNext;let b <-EntryCells.newEntry head a .none (rawInt L) .none pl;setField (.ref e) 1 b) (fun _ s'=>wpAny M A (setFlight (.ref e) none) Q E s') E s:=by
 have ne:e∉frs (env::outer):=fun hm=>by
  obtain⟨_,o,ho,hnf⟩:=hl.mem hm
  rw[he] at ho;injection ho with ho;subst ho;exact hnf vs hd
 refine wpAny_bind (wpAny_frameOf_fun hfr hl hf fun h1 hs1=>wpAny_bind (wpAny_entryPlaceOf fun pl hpl=>?_))
 unfold EntryCells.newEntry newFields;refine wpAny_bind (wpAny_newObj_type ?_ (hpl.sizeOk5 _ _ _ _ _))
 have he1:h1.get? e=some oe:=(hs1.2.1 e ne).trans he
 have he2:=zto (h:=h1) { cls:=.type "traceback", dict:=none,data:=.fields ([head,.ref L,.none,rawInt L,.none]++(if pl.isEmpty then List.replicate 6 Value.none else pl)).toArray } he1
 refine wpAny_setField he2 hd sz ?_
 have nT:h1.objs.size≠e:=Nat.ne_of_gt (ztp he1)
 have hd3:=Obj.data_mapFields hd (·.setIfInBounds 1 (Value.ref h1.objs.size))
 have he3:=Heap.get?_update_self (Obj.mapFields (·.setIfInBounds 1 (Value.ref h1.objs.size))) he2 (Obj.isFreed_of_fields hd3)
 have hT3:=(Heap.get?_update_other (h1.push { cls:=.type "traceback", dict:=none,data:=.fields ([head,.ref L,.none,rawInt L,.none]++(if pl.isEmpty then List.replicate 6 Value.none else pl)).toArray }) (Obj.mapFields (·.setIfInBounds 1 (Value.ref h1.objs.size))) (Ne.symm nT)).trans (ztD h1 rfl)
 unfold setFlight;refine wpAny_bind (wpAny_field he3 hd3 (x:=.ref h1.objs.size) (by simp[sz]) ?_)
 rw[if_pos (show(Value.ref h1.objs.size != Value.none)=true from by simp)]
 refine wpAny_setField hT3 rfl (by simp only[zts,ztq,ztu,List.length_nil]<;>omega) (h _ ?_)
 have keep:∀b o,b≠e->h1.get? b=some o->(((h1.push { cls:=.type "traceback", dict:=none,data:=.fields ([head,.ref L,.none,rawInt L,.none]++(if pl.isEmpty then List.replicate 6 Value.none else pl)).toArray }).update e (Obj.mapFields (·.setIfInBounds 1 (Value.ref h1.objs.size)))).update h1.objs.size (Obj.mapFields (·.setIfInBounds 3 ((none:Option Addr).elim Value.none fun f=>rawInt f)))).get? b=some o:=fun b o hbe hb=>by
  have hbT:h1.objs.size≠b:=Nat.ne_of_gt (ztp hb)
  rw[Heap.get?_update_other _ _ hbT,Heap.get?_update_other _ _ (Ne.symm hbe)];exact zto _ hb
 refine⟨fun b o hb hnf hbe=>keep b o hbe ((hs1.2.1 b hnf).trans hb),fun b o hb _ hbe=>?_,?_⟩
 ·obtain⟨sl,hs⟩:=hs1.2.2 b o hb
  exact⟨sl,keep b _ hbe hs⟩
 ·refine⟨_,_,?_,Obj.cls_mapFields _ _,(by rw[za0];exact hdn),hd3,(by rw[Array.getElem?_setIfInBounds_ne (by decide)];exact h2),.inr ⟨h1.objs.size,_,_,by simp[sz],nT,Heap.get?_update_self _ hT3 (Obj.isFreed_of_fields (Obj.data_mapFields rfl _)),Obj.data_mapFields rfl _,by first | (simp;done) | (rcases hpl with rfl | ⟨_,_,_,_,_,_,_,rfl⟩<;>simp)⟩⟩
  rw[Heap.get?_update_other _ _ nT];exact he3
theorem zjg {base:Heap}{env:Env}{outer:List Env}{L e:Addr}{cls:Value}{Q:Unit->Shared->Prop}(hfr:A.frames=some (env::outer))(hl:s.heap.FunFrames base (env::outer))(hf:env.frame=some L)(hx:Kz s.heap e cls)
  (h:∀h',zhf (env::outer) e cls s.heap h'->Q () { s with heap:=h' }):wpAny M A (noteFrame (.ref e) env) (fun _ s1=>wpAny M A (setFlight (.ref e) none) Q E s1) E s:=by
 obtain⟨oe,vs,he,rfl,hdn,hd,h2,h1 | ⟨T,oT,ts,h1,nT,hT,hdT,h3⟩⟩:=hx
 ·unfold noteFrame
  simp only[hf];refine wpAny_bind (wpAny_field he hd h1 ?_)
  rw[if_neg (by decide)]
  exact zcu hfr hl hf he hdn hd h2 (Array.getElem?_eq_some_iff.mp h1).1 h
 ·unfold noteFrame
  simp only[hf];refine wpAny_bind (wpAny_field he hd h1 ?_)
  rw[if_pos (show(Value.ref T != Value.none)=true from by simp)];refine wpAny_bind (wpAny_field hT hdT h3 ?_)
  rw[if_neg (show ¬((Value.none==rawInt L)=true) from by simp[rawInt])];refine wpAny_bind (wpAny_setField hT hdT (Array.getElem?_eq_some_iff.mp h3).1 ?_)
  have same:∀b,(s.heap.update T (Obj.mapFields (·.setIfInBounds 3 Value.none))).get? b=s.heap.get? b:=fun b=>by
   by_cases z:b=T
   ·subst z
    rw[Heap.get?_update_self _ hT (Obj.isFreed_of_fields (Obj.data_mapFields hdT _)),hT]
    have et:ts.setIfInBounds 3 Value.none=ts:=by
     obtain⟨q1,q2⟩:=Array.getElem?_eq_some_iff.mp h3
     rw[Array.setIfInBounds,dif_pos q1]
     rw[<-q2]
     exact Array.set_getElem_self ..
    obtain⟨c,dd,dt,sl⟩:=oT
    cases hdT
    show some _=some _
    refine congrArg some ?_
    show Obj.mapFields _ _=_
    simp only[Obj.mapFields,et]
   ·exact Heap.get?_update_other _ _ (Ne.symm z)
  refine zcu (base:=base) (s:={ s with heap:=s.heap.update T (Obj.mapFields (·.setIfInBounds 3 Value.none)) }) hfr (hl.of_keeps fun b o hb hnf=>⟨o,(same b).trans hb,rfl⟩) hf ((same e).trans he) hdn hd h2 (Array.getElem?_eq_some_iff.mp h1).1 fun h' x=>h h' ⟨fun b o hb=>x.keep b o ((same b).trans hb),fun b o hb=>x.slot b o ((same b).trans hb),x.exc⟩
theorem zkS {base:Heap}{env:Env}{outer:List Env}{L e:Addr}{cls:Value}{Q:Unit->Shared->Prop}(hfr:A.frames=some (env::outer))(hl:s.heap.FunFrames base (env::outer))(hf:env.frame=some L)(hx:Kz s.heap e cls)
  (h:∀h',zhf (env::outer) e cls s.heap h'->Q () { s with heap:=h' }):wpAny M A (leaving env (.ref e)) Q E s:=by
 unfold leaving
 exact wpAny_bind (zjg hfr hl hf hx h)
theorem zmS {e:Addr}{cls:Value}{Q:Unit->Shared->Prop}(hx:Kz s.heap e cls)(h:∀h',(∀b,h'.get? b=s.heap.get? b)->Q () { s with heap:=h' }):wpAny M A (setFlight (.ref e) none) Q E s:=by
 obtain⟨oe,vs,he,rfl,hdn,hd,h2,h1 | ⟨T,oT,ts,h1,nT,hT,hdT,h3⟩⟩:=hx
 ·unfold setFlight
  refine wpAny_bind (wpAny_field he hd h1 ?_)
  rw[if_neg (by decide)]
  exact wpAny_pure (h s.heap fun _=>rfl)
 ·unfold setFlight
  refine wpAny_bind (wpAny_field he hd h1 ?_)
  rw[if_pos (show(Value.ref T != Value.none)=true from by simp)]
  refine wpAny_setField hT hdT (Array.getElem?_eq_some_iff.mp h3).1 (h _ fun b=>?_)
  by_cases z:b=T
  ·subst z
   rw[Heap.get?_update_self _ hT (Obj.isFreed_of_fields (Obj.data_mapFields hdT _)),hT]
   have et:ts.setIfInBounds 3 Value.none=ts:=by
    obtain⟨q1,q2⟩:=Array.getElem?_eq_some_iff.mp h3
    rw[Array.setIfInBounds,dif_pos q1]
    rw[<-q2]
    exact Array.set_getElem_self ..
   obtain⟨c,dd,dt,sl⟩:=oT
   cases hdT
   refine congrArg some ?_
   show Obj.mapFields _ _=_
   simp only[Obj.mapFields,Option.elim,et]
  ·exact Heap.get?_update_other _ _ (Ne.symm z)
theorem Kz.same {h h':Heap}{e:Addr}{cls:Value}(x:Kz h e cls)(k:∀b,h'.get? b=h.get? b):Kz h' e cls:=by
 obtain⟨oe,vs,he,hc,hdn,hd,h2,h1 | ⟨T,oT,ts,h1,nT,hT,hdT,h3⟩⟩:=x
 ·exact⟨oe,vs,(k e).trans he,hc,hdn,hd,h2,.inl h1⟩
 ·exact⟨oe,vs,(k e).trans he,hc,hdn,hd,h2,.inr ⟨T,oT,ts,h1,nT,(k T).trans hT,hdT,h3⟩⟩
end
theorem Inv.fresh0 {X:Cx}{pins:List (Addr×Obj)}{σ:St}{H:Hp}{s:Shared}{a:Addr}(I:Inv X pins σ H s)(hex:X.ex=[])(hn:s.heap.get? a=none):X.s₀.heap.get? a=none:=by
 cases q:X.s₀.heap.get? a with
 | none=>rfl
 | some o =>
  obtain⟨o',e⟩:=I.base.there a o q (by rw[hex];simp)
  rw[hn] at e;cases e
def uF (P:Program)(w:World):CXT:=fun outer H s E e s'=>∃(a:Addr) (cls:Value) (H':Hp),e=.ref a/\s'.os=s.os/\AllBare s'.gens/\Un (frs outer) [] H H' s.heap s'.heap/\TX P w H' s'.heap/\s.heap.get? a=none/\H' a=none/\Kz s'.heap a cls/\E cls none H'
section
variable {P:Program}{w:World}{K:Frag}{mg:Str->Option Value}{base:Heap}{N:List Str}{qual:Str}{scope:Scope}{f:Addr}{cd:Value}{A:Around}{outer:List Env}{s0:Shared}{H0:Hp}{E:XK}
theorem zlP {pins:List (Addr×Obj)}{σ:St}{H:Hp}{s:Shared}{a:Addr}{cls:Value}(I:Inv (Kg (uF P w) P w K mg base N qual scope f cd A outer s0 H0 E) pins σ H s)(hx:Kz s.heap a cls)(ha:s0.heap.get? a=none)(hn:H a=none)(hE:E cls none H) :
  (Kg (uF P w) P w K mg base N qual scope f cd A outer s0 H0 E).xe (.ref a) s:=by
 show wpAny (model P w) (A.deeper (envOfC qual scope s0.heap.objs.size f cd)) (leaving (envOfC qual scope s0.heap.objs.size f cd) (.ref a)) _ _ s
 refine zkS (base:=base) (outer:=outer) (L:=s0.heap.objs.size) I.ok.frames I.stack rfl hx fun h' lf=>?_
 have fr:∀b,b∈frs (envOfC qual scope s0.heap.objs.size f cd::outer)->b=s0.heap.objs.size\/b∈frs outer:=fun b hb=>List.mem_cons.mp hb
 have nfr:∀b,b<s0.heap.objs.size->b∉frs outer->b∉frs (envOfC qual scope s0.heap.objs.size f cd::outer):=fun b hb hn z=>(fr b z).elim (ztx hb) hn
 have trk:∀b u,H b=some u->b∉frs (envOfC qual scope s0.heap.objs.size f cd::outer)/\b≠a:=fun b u e=>⟨(fun z=>by rw[I.zae b z] at e;cases e),(fun z=>by rw[z,hn] at e;cases e)⟩
 refine⟨a,cls,H,rfl,I.os,I.bare,⟨fun b o q n hb hx=>?_,fun b o q n hb hx=>?_,I.base.free,fun b o q hx=>?_,I.base.tups,I.base.Nm,I.base.Kd⟩,fun b u e=>?_,ha,hn,lf.exc,hE⟩
 ·exact lf.keep b o (I.base.keep b o q n hb hx) (nfr b (ztp q) hb) (fun z=>by rw[z,ha] at q;cases q)
 ·obtain⟨sl,e1⟩:=I.base.slot b o q n hb hx
  obtain⟨sl2,e2⟩:=lf.slot b _ e1 (ztt _ hb) (fun z=>by rw[z,ha] at q;cases q)
  exact⟨sl2,e2⟩
 ·obtain⟨o',e1⟩:=I.base.there b o q hx
  have ne:b≠a:=fun z=>by rw[z,ha] at q;cases q
  by_cases z:b∈frs (envOfC qual scope s0.heap.objs.size f cd::outer)
  ·obtain⟨sl,e2⟩:=lf.slot b o' e1 z ne
   exact⟨_,e2⟩
  ·exact⟨_,lf.keep b o' e1 z ne⟩
 ·refine(I.hok b u e).stay (fun c v hc q=>?_) (fun c q=>q) fun c xs q=>q
  rcases hc with rfl | hc
  ·exact lf.keep _ v q (trk _ u e).1 (trk _ u e).2
  ·exact lf.keep _ v q (trk _ _ hc).1 (trk _ _ hc).2
theorem vo:Passes (uF P w) (Kg (uF P w) P w K mg base N qual scope f cd A outer s0 H0 E) E:=by
 intro pins σ H s e s' I h
 obtain⟨a,cls,H',rfl,os,bare,un,hok,ha,hn,hx,hE⟩:=h
 have I':=I.call' (s':=s') (ch:=[]) os un hok bare (fun b z=>absurd z (by simp))
 exact zlP I' hx (I.fresh0 rfl ha) hn hE
end
theorem zy.lift {P:Program}{w:World}{K:Frag}{mg:Str->Option Value}{base:Heap}{CX:CXT}{k:Nat}{f:Addr}{fd:FuncData}{ps:List Str}{sp:Sp}(F:zy P w K mg base zZ k f fd ps sp):zy P w K mg base CX k f fd ps sp :=
 ⟨F.len,fun A outer s H args us vs Q E hr e0 hb r h=>codeAny_mono (F.run A outer s H args us vs Q E hr e0 hb r h) fun r s' hq=>by
  cases r with
  | error e=>exact hq.elim
  | ok fl =>
   cases fl with
   | ret u=>exact hq
   | next=>exact hq
   | brk=>exact hq
   | cont=>exact hq⟩
theorem zy.orE {P:Program}{w:World}{K:Frag}{mg:Str->Option Value}{base:Heap}{CX:CXT}{k:Nat}{f:Addr}{fd:FuncData}{ps:List Str}{sp sp':Sp}(F:zy P w K mg base CX k f fd ps sp)(G:zy P w K mg base CX k f fd ps sp'):zy P w K mg base CX k f fd ps (fun vs H Q E=>sp vs H Q E\/sp' vs H Q E) :=
 ⟨fun vs H Q E h=>h.elim (F.len vs H Q E) (G.len vs H Q E),fun A outer s H args us vs Q E hr e0 hb r h=>h.elim (F.run A outer s H args us vs Q E hr e0 hb r) (G.run A outer s H args us vs Q E hr e0 hb r)⟩
section
variable {P:Program}{w:World}{K:Frag}{mg:Str->Option Value}{base:Heap}
theorem Fun.okE {x qual:Str}{st:Stmt}{f:Addr}{fd:FuncData}{N ps:List Str}{k:Nat}{sp:Sp}(F:Fun K x qual st f fd)(S:zH N ps (zx st))(len:∀vs H Q E,sp vs H Q E->vs.length=ps.length)
  (hbody:∀(cdv:Value) (A:Around) (outer:List Env) (s:Shared) (H:Hp) (vs:List V) (Q:VK) (E:XK),uK k (A.deeper (envOfC qual (zx st) s.heap.objs.size f cdv))->sp vs H Q E ->
   ∃t,JK (Kg (uF P w) P w K mg base N qual (zx st) f cdv A outer s H E) (vp st) t/\t { nx:=fun _ H'=>Q .non H',rt:=Q } (start N vs) H):zy P w K mg base (uF P w) (k+1) f fd ps sp:=by
 obtain⟨oc,od,kV,doc,pm,an,cdv,ct,osl,rfl,lk,hcd⟩:=F.ex
 exact zlD lk hcd S len fun A outer s H vs Q E hr hsp=>hbody cdv A outer s H vs Q E hr hsp
end
section
variable {X:Cx}
def zqf:V->Option Int->Option Int->Hp->VK->Prop:=fun x lo hi H Q=>∃z:Str,x=.str z/\z.length<=sizeLine/\Q (.str (Txt.slice z lo hi)) H
theorem za1:SlR X zqf:=by
 intro pins s σ H x v vl vu lo hi sl Q I rx hs pl pu h
 obtain⟨z,rfl,hz,q⟩:=h
 obtain⟨t,rfl⟩:=rx
 refine⟨"str", _,PySem.F.slot_str_getitem.lookup,typeIs_str _ _ _,?_⟩
 have fin:∀(t':Tok) (k:Nat),EP X pins σ Q (.str (Txt.slice z lo hi) t') { s with toks:=k }:=fun t' k=>⟨.str (Txt.slice z lo hi),H,I.tok _,⟨t',rfl⟩,q⟩
 cases pl with
 | none=>cases pu with
  | none=>exact wpAny_getItem_str_slice (l:=none) (u:=none) (st:=none) hs rfl (post_val_or_str ⟨ztE (Txt.slice_le z _ _) hz,fin⟩)
  | int j uj=>exact wpAny_getItem_str_slice (l:=none) (u:=some (j,uj)) (st:=none) hs rfl (post_val_or_str ⟨ztE (Txt.slice_le z _ _) hz,fin⟩)
 | int i ui=>cases pu with
  | none=>exact wpAny_getItem_str_slice (l:=some (i,ui)) (u:=none) (st:=none) hs rfl (post_val_or_str ⟨ztE (Txt.slice_le z _ _) hz,fin⟩)
  | int j uj=>exact wpAny_getItem_str_slice (l:=some (i,ui)) (u:=some (j,uj)) (st:=none) hs rfl (post_val_or_str ⟨ztE (Txt.slice_le z _ _) hz,fin⟩)
end
end L2
namespace uY
open PySem L2 yL
section
variable {os:List Str}{t:Nat->Bool}
theorem zmT {x:List Nat}{j:Nat}{v:V}(h:(Pk x)[j]?=some v):∃b,x[j]?=some b/\v=.int (b:Nat):=by
 unfold Pk at h
 rw[ztk] at h
 cases hx:x[j]? with
 | none=>rw[hx] at h;cases h
 | some b=>rw[hx] at h;exact⟨b,rfl,(ztN h).symm⟩
theorem za2 (x:List Nat):(Pk x).length=x.length:=zti _
end
section
variable (C:Addr)(K:Frag)
def tB (rs:List Rm)(k:Nat):Nat->Bool:=fun b=>yes rs k (JN b)
end
theorem Pj.rise {C:Addr}{H0:Hp}{b:Addr}{os:List Str}{m n:Nat}{H:Hp}{rs:List Rm}{F:yQ}(h:Pj C H0 b os m H rs F){H':Hp}{rs':List Rm}(aw:zc4 F H H')(hB:z7 C H' b os rs' F)(hh:hiN os.length rs'<=hiN os.length rs+n):Pj C H0 b os (m+n) H' rs' F :=
 ⟨fun x o e=>aw x o (h.same _ _ e) fun z=>(by have:=h.away x z;rw[this] at e;cases e),h.away,hB,ztE hh (Nat.add_le_add_right h.hi _)⟩
section
variable {os:List Str}
variable {t:Nat->Bool}
theorem zkT {n N M:Nat}{f g:Nat->Bool}(a:zW n N f)(b:zW n M g):zW n (N&&&M) fun c=>f c&&g c:=fun c=>by
 rw[Nat.testBit_and,a c,b c]
 cases decide (c<2^n)<;>simp
end
def hav (l:List (Nat×Bool))(b:Nat):Bool:=l.all fun x=>b.testBit x.1==x.2
section
variable (C:Addr)(K:Frag)
inductive U5 (vs:List V)(H:Hp)(Q:VK)(E9:XK):Prop
 | mk (pl rl:Addr) (n:Nat) (ps:List Nat) (r:List Bool) (_:vs=[.ref pl,.ref rl,.int (n:Nat)]) (_:n<=8) (_:z6 K H pl (Pk ps)) (_:z6 K H rl (Sg r)) (_:(∀p∈ps,p<n)) (_:ps.length=r.length) (_:ps.length<=8) (_:∀(R:Nat) (H':Hp),Same H H'->zW n R (hav (ps.zip r))->Q (.int (R:Nat)) H'):U5 vs H Q E9
end
end uY
namespace L2
open PySem
section
variable {K:Frag}{σ:St}{js:List Nat}{tt:TT}{te:TE}{H:Hp}{Qf:Addr->Hp->List V->Prop}
open uY
theorem za3 {a:Addr}{xs:List V}(Pv:Nat->List V->Hp->Prop)(h0:Pv 0 [] H)(hz:xs.length<=sizeLine)
  (hl:∀i ys H,i<=xs.length->Pv i ys H->z6 K H a xs/\ys.length<=i)
  (hs:∀i x ys H (Q:V->Hp->Prop),xs[i]?=some x->Pv i ys H->(∀v H3,Pv (i+1) (ys++[v]) H3->Q v H3)->te (Yi σ js (some x)) H Q)
  (hd:∀ys H p,Pv xs.length ys H->H p=none->Qf p H ys) :
  ∃W:Nat->Nat->List V->Hp->Prop,(∃m,W 0 m [] H)/\∀i m ys H,W i m ys H ->
   ((Itl K a).stop i H/\∀p,H p=none->Qf p H ys) \/
   ((Itl K a).go i H/\ys.length<sizeLine/\∀x H',(Itl K a).Ni i H x H'->Uz (Yi σ js (some x)) H' fun b H2 =>
    if b=true then te (Yi σ js (some x)) H2 fun v H3=>∃m',m'<m/\W (i+1) m' (ys++[v]) H3 else ∃m',m'<m/\W (i+1) m' ys H2):=by
 refine⟨fun i m ys H=>m=xs.length-i/\i<=xs.length/\Pv i ys H,⟨xs.length,by simp,ztF _,h0⟩,?_⟩
 rintro i m ys H ⟨rfl,hi,p⟩
 obtain⟨q,hy⟩:=hl i ys H hi p
 by_cases hlt:i<xs.length
 ·refine .inr ⟨⟨xs,xs[i],q,by simp[hlt]⟩,by omega,fun x H' y=>?_⟩
  obtain⟨e,y⟩:=y
  subst e
  show te (Yi σ js (some x)) H' fun v H3=>∃m',m'<xs.length-i/\(m'=xs.length-(i+1)/\i+1<=xs.length/\Pv (i+1) (ys++[v]) H3)
  exact hs i x ys _ _ (y xs q) p fun v H3 h3=>⟨_,Nat.sub_lt_sub_left hlt (Nat.lt_succ_self i),rfl,hlt,h3⟩
 ·have e:i=xs.length:=by omega
  subst e
  exact .inl ⟨⟨xs,q,zty _⟩,fun pp hp=>hd ys H pp p hp⟩
end
end L2
namespace uY
open PySem L2 yL
theorem Pj.made {C:Addr}{H0 H':Hp}{bk dx:Addr}{os:List Str}{F:yQ}{o1 o2:HO}(hbk:H0 bk=none)(hdx:H0 dx=none)(hne:dx≠bk)(keep:∀x o,upd (upd H0 dx o1) bk o2 x=some o->x≠bk->H' x=some o)
  (hB:z7 C H' bk os [none,none] F)(hF:∀x,F x->x=bk\/x=dx\/upd (upd H0 dx o1) bk o2 x=none):Pj C H0 bk os 0 H' [none,none] F:=by
 refine⟨fun x o e=>keep x o (by rw[zE (zB e hbk),zE (zB e hdx)];exact e) (zB e hbk),fun x hx=>?_,hB,zty _⟩
 rcases hF x hx with z | z | z
 ·rw[z];exact hbk
 ·rw[z];exact hdx
 ·by_cases e1:x=bk
  ·rw[e1] at z;rw[zj] at z;cases z
  ·by_cases e2:x=dx
   ·rw[e2,zE hne,zj] at z;cases z
   ·rw[zE e1,zE e2] at z;exact z
end uY
namespace L2
open PySem PySem.Spec PyProof.Rows
theorem zfY:bootBuiltins "any"=some (.builtin "any"):=by decide +kernel
theorem zbB (bs:List Bool):((List.range bs.length).any fun i=>(bs[i]?).getD true)=bs.any id:=by
 rw[ztW,List.any_eq_true,List.any_eq_true]
 constructor
 ·rintro⟨i,hi,e⟩
  have hi':=List.mem_range.mp hi
  rw[ztj hi',Option.getD_some] at e
  exact⟨_,List.getElem_mem hi',e⟩
 ·rintro⟨b,hb,e⟩
  obtain⟨i,hi,eb⟩:=ztX hb
  refine⟨i,List.mem_range.mpr hi,?_⟩
  rw[ztj hi,Option.getD_some,eb]
  exact e
section
variable {X:Cx}
theorem za4 (hc:X.calm=true):Xl X (.builtin "any") (fun xs H Q=>∃(p:Addr) (bs:List Bool),xs=[.ref p]/\z6 X.K H p (bs.map V.bl)/\Q (.bl (bs.any id)) H):=by
 intro pins s σ H xs us Q I r h
 obtain⟨p,bs,rfl,hq,q⟩:=h
 obtain⟨u,rfl,rx⟩:=vals1 r
 cases rx
 obtain⟨its,r',pl,hz⟩:=I.list hq
 have hlen:bs.length=its.length:=by have:=r'.length;rw[zti] at this;exact this
 have hlt:p<s.heap.objs.size:=by obtain⟨_,e,_⟩:=pl.isList;exact ztp e
 refine call_any_walk (wpAny_pyIter_list pl.isList ?_)
 refine⟨s.heap.objs.size,[s.heap.objs.size,p],[s.heap.objs.size],its.toArray.size,_,_,fun i=>(bs[i]?).getD true,rfl,Walks.list (A:=X.A.in1) (I.ok.hd hc) _ p (ztx hlt) its.toArray,
  ⟨⟨_,ztD _ rfl,rfl,rfl⟩,pl.isList.push _⟩,fun i v s' Q' E' hP hQ=>?_,fun h' tk hk=>?_⟩
 ·have hP':its[i]?=some v:=by simpa using hP
  have hi:i<bs.length:=by
   have:=(ztl.mp hP').1
   omega
  obtain⟨w,hw,rw'⟩:=r'.get (i:=i) (x:=.bl bs[i]) (by rw[ztk,ztj hi];rfl)
  rw[hP'] at hw
  cases hw
  cases rw'
  simp only[ztj hi,Option.getD_some] at hQ
  exact wpAny_truthy_bool hQ
 ·have kp:∀b o,s.heap.get? b=some o->h'.get? b=some o:=fun b o e=>hk b o (fun hm=>by
   rw[List.mem_singleton.mp hm] at e
   exact Nat.lt_irrefl _ (ztp e)) (zto _ e)
  refine⟨.bl _,H,I.kept kp,rfl,?_⟩
  rw[zts,<-hlen,zbB]
  exact q
end
end L2
namespace L2
open PySem
theorem zc9 {σ:St}{js:List Nat}{te:TE}{H:Hp}{Qf:Addr->Hp->List V->Prop}{n:Nat}(Pv:Nat->List V->Hp->Prop)(h0:Pv 0 [] H)(hz:n<=sizeLine)(hl:∀i ys H,i<=n->Pv i ys H->ys.length<=i)
  (hs:∀(i:Nat) ys H (Q:V->Hp->Prop),i<n->Pv i ys H->(∀v H3,Pv (i+1) (ys++[v]) H3->Q v H3)->te (Yi σ js (some (.int ((0:Int)+i)))) H Q)
  (hd:∀ys H p,Pv n ys H->H p=none->Qf p H ys) :
  ∃W:Nat->Nat->List V->Hp->Prop,(∃m,W 0 m [] H)/\∀i m ys H,W i m ys H ->
   ((Itr 0 n).stop i H/\∀p,H p=none->Qf p H ys) \/
   ((Itr 0 n).go i H/\ys.length<sizeLine/\∀x H',(Itr 0 n).Ni i H x H'->Uz (Yi σ js (some x)) H' fun b H2 =>
    if b=true then te (Yi σ js (some x)) H2 fun v H3=>∃m',m'<m/\W (i+1) m' (ys++[v]) H3 else ∃m',m'<m/\W (i+1) m' ys H2):=by
 refine⟨fun i m ys H=>m=n-i/\i<=n/\Pv i ys H,⟨n,by simp,ztF _,h0⟩,?_⟩
 rintro i m ys H ⟨rfl,hi,p⟩
 have hy:=hl i ys H hi p
 by_cases hlt:i<n
 ·refine .inr ⟨hlt,by omega,fun x H' y=>?_⟩
  obtain⟨e,y⟩:=y
  subst e y
  exact hs i ys _ _ hlt p fun v H3 h3=>⟨_,Nat.sub_lt_sub_left hlt (Nat.lt_succ_self i),rfl,hlt,h3⟩
 ·have e:i=n:=by omega
  subst e
  exact .inl ⟨zty _,fun pp hp=>hd ys H pp p hp⟩
end L2
namespace L2
open PySem PySem.Spec PyProof.Rows
structure zeq (K:Frag)(D:Addr):Prop where
 ga:findIn K (.ref D) "__getattribute__"=some (some (.builtin "BaseException.__getattribute__"))
 gt:findIn K (.ref D) "__getattr__"=some none
 ca:findIn K (.ref D) "__class__"=some (some (.builtin "object.__class__"))
 bx:PySem.W.mroIn K D (.type "BaseException")=some true
 ob:PySem.W.mroIn K D (.type "object")=some true
 cl:(PySem.W.clsIn K D).isSome=true
theorem Mw:Slot "BaseException" "__getattribute__" "BaseException.__getattribute__" :=
 .of (owner := "BaseException") (n := "__getattribute__") (by rw[typeLookup_type,builtinLookup_eq_fast];kernel_rfl) (by decide +kernel) (by decide +kernel) (by decide +kernel)
  (by first | exact .inl (by decide +kernel) | exact .inr (by decide +kernel)) (by rw[isSubtype_type];kernel_rfl)
section
variable {prog:Program}{w:World}{A:Around}{E:Value->Shared->Prop}{h:Heap}{g:Array GenState}{d:Drawn}{t:Nat}{os:OsState}{a D:Addr}{o:Obj}{K:Frag}
theorem JR {tk:Tok}{Q:Fin->Shared->Prop}(X:K.In h)(c:zeq K D)(I:PySem.W.InstAt h a o D none)(hq:Q (.done (.ret (.ref D))) ⟨h,g,d,t,os⟩) :
  wpAny (model prog w) A (Builtin.«object.__getattribute__» ⟨[.ref a,.str "__class__" tk],[]⟩) Q E ⟨h,g,d,t,os⟩:=by
 have hT5:(⟨h,g,d,t,os⟩:Shared).TypeIs (.builtin "object.__class__") "getset_descriptor" := F.typeOf_object_class
 have f5:=F.typeOf_object_class
 have f6:=F.slot_gs_get.lookup
 have f7:=F.slot_gs_set.lookup
 have hx:=I.at_
 have hc:=I.cls
 have L1:=PySem.W.looks_findIn (M:=model prog w) X c.ca
 repeat (any_goals (first | assumption | (with_reducible refine wpAny_loadPart_at hx ?_;rw[hc]) | with_reducible refine L1.at ?_ | wp_step))
 refine PySem.W.class_get (s:=⟨h,g,d,t,os⟩) X I c.ob ?_
 repeat (any_goals (first | assumption | wp_step))
theorem zda {M:Model}{nameV:Value}{Q:Unit->Shared->Prop}(X:K.In h)(c:zeq K D)(I:PySem.W.InstAt h a o D none)(hq:Q () ⟨h,g,d,t,os⟩):wpAny M A (checkBuiltinCall "BaseException.__getattribute__" ⟨[.ref a,nameV],[]⟩) Q E ⟨h,g,d,t,os⟩:=by
 have hk:builtinKind "BaseException.__getattribute__"=some .slot:=by decide +kernel
 have hsplit:splitId "BaseException.__getattribute__"=some ("BaseException", "__getattribute__"):=by decide +kernel
 have ha:=F.args_bexc_ga (.ref a) nameV
 have hx:=I.at_
 have hc:=I.cls
 have L1:=PySem.W.looks_mroIn (M:=M) X c.bx
 simp only[checkBuiltinCall,hk,hsplit]
 refine wpAny_bind ?_
 ·unfold isInstance
  repeat (first | (with_reducible refine wpAny_loadPart_at hx ?_;rw[hc]) | with_reducible refine L1.at ?_ | wp_step)
  exact hq
theorem za5 {tk:Tok}{R:Result->Shared->Prop}(X:K.In h)(c:zeq K D)(I:PySem.W.InstAt h a o D none)(hq:R (.ok (.ret (.ref D))) ⟨h,g,d,t,os⟩) :
  codeAny (model prog w) A (.call (.builtin "BaseException.__getattribute__") ⟨[.ref a,.str "__class__" tk],[]⟩) R ⟨h,g,d,t,os⟩ :=
 codeAny_call_builtin Mw.plain F.entry_bexc_ga (zda X c I (JR X c I hq))
theorem zdb {tk:Tok}{Q:Value->Shared->Prop}(X:K.In h)(c:zeq K D)(I:PySem.W.InstAt h a o D none)(hq:Q (.ref D) ⟨h,g,d,t,os⟩):wpAny (model prog w) A (getAttrBy (.ref a) (.str "__class__" tk) false) Q E ⟨h,g,d,t,os⟩:=by
 have f3:=Mw.bind (.ref a)
 have hx2:(Value.builtin "BaseException.__getattribute__" == Value.builtin "object.__getattribute__")=false:=by decide +kernel
 have hx1:(onTheHeap (Value.ref D)&&Value.builtin "BaseException.__getattribute__" == Value.builtin "object.__getattribute__")=false:=by rw[hx2];rfl
 have hx:=I.at_
 have hc:=I.cls
 have L1:=PySem.W.looks_findIn (M:=model prog w) X c.ga
 have L2:=PySem.W.looks_findIn (M:=model prog w) X c.gt
 repeat (any_goals (first | assumption | (with_reducible refine wpAny_loadPart_at hx ?_;rw[hc]) | with_reducible refine L1.at ?_ | with_reducible refine L2.at ?_ | wp_step))
 refine za5 X c I ?_
 repeat (any_goals (first | assumption | wp_step))
theorem za6 {Q:Option Value->Shared->Prop}(X:K.In h)(c:zeq K D)(I:PySem.W.InstAt h a o D none)(hq:Q (some (.ref D)) ⟨h,g,d,t+1,os⟩):wpAny (model prog w) A (getAttr? (.ref a) "__class__") Q E ⟨h,g,d,t,os⟩:=by
 unfold getAttr? getAttrBy?
 repeat (any_goals (first | assumption | with_reducible apply zdb X c I | wp_step))
end
theorem zjh {K:Frag}{a D:Addr}(c:zeq K D):PySem.W.KitX K (.ref a) (.ref D) (fun h=>∃o,PySem.W.InstAt h a o D none) where
 ty:=fun _ _ _ ⟨_,I⟩=>I.type
 it:=fun _ _ X _=>by
  obtain⟨cdD,hcD⟩:=Option.isSome_iff_exists.mp c.cl
  unfold PySem.W.clsIn at hcD
  split at hcD
  ·rename_i c' d' cd' sl' ho
   intro A' Q' E' s' k q
   unfold isType loadHead
   exact wpAny_bind (wpAny_loadPart (k _ _ (X _ _ ho)) (wpAny_pure q))
  ·cases hcD
 ne:=fun h tp dd its n sl X htp=>by
  obtain⟨cdD,hcD⟩:=Option.isSome_iff_exists.mp c.cl
  refine Bool.eq_false_iff.mpr fun q=>?_
  have e:D=tp:=Value.ref.inj (beq_iff_eq.mp q)
  subst e
  unfold PySem.W.clsIn at hcD
  split at hcD
  ·rename_i c' d' cd' sl' ho
   have z:=(X _ _ ho).symm.trans htp
   cases z
  ·cases hcD
 ca:=fun {_ _ _ _ _ s} X ⟨o,I⟩ k=>by
  obtain⟨h,g,d,t,os⟩:=s
  exact za6 X c I k
def zbC (a D:Addr):HO:=.ext fun h=>∃o vs,PySem.W.InstAt h a o D none/\o.data=.fields vs/\vs[2]?=some .none
theorem InstAt.none_ {h:Heap}{a D:Addr}{o:Obj}(e:h.get? a=some o)(hc:o.cls=.ref D)(hd:o.dict=none)(hn:PySem.W.notCls o=true):PySem.W.InstAt h a o D none :=
 ⟨e,hc,hn,by rw[hd];trivial⟩
theorem zkU {P:Program}{w:World}{H:Hp}{h:Heap}{a D:Addr}(hx:Kz h a (.ref D)):wH P w H h a (zbC a D):=by
 obtain⟨oe,vs,he,hc,hdn,hd,h2,_⟩:=hx
 refine⟨⟨oe,vs,InstAt.none_ he hc hdn ?_,hd,h2⟩,⟨_,he⟩,fun h1 h2 ⟨o,vs,I,q1,q2⟩ k=>⟨o,vs,⟨k o I.at_,I.cls,I.no,?_⟩,q1,q2⟩⟩
 ·obtain⟨c,dd,dt,sl⟩:=oe
  cases hd
  rfl
 ·have:=I.dict
  revert this
  cases o.dict<;>exact fun z=>z
theorem Rd.exc {P:Program}{w:World}{H:Hp}{h:Heap}{a D:Addr}(ok:TX P w H h)(e:H a=some (zbC a D)):∃o vs,PySem.W.InstAt h a o D none/\o.data=.fields vs/\vs[2]?=some .none:=(ok a _ e).1
structure Fly (X:Cx)(pins:List (Addr×Obj))(H:Hp)(s:Shared)(a:Addr)(cls:Value):Prop where
 exc:Kz s.heap a cls
 hn:H a=none
 s0:X.s₀.heap.get? a=none
 loc:a≠X.env.locals
 cell:∀x c,X.env.cells.lookup x=some c->c≠a
 pin:∀p∈X.pn++pins,p.1≠a
 st:a∉frs X.stack
section
variable {X:Cx}{pins:List (Addr×Obj)}{σ:St}{H H':Hp}{s s':Shared}{a:Addr}{cls:Value}
theorem Inv.fly (I:Inv X pins σ H s)(hex:X.ex=[])(hn:s.heap.get? a=none)(hn':H' a=none)(hx:Kz s'.heap a cls):Fly X pins H' s' a cls where
 exc:=hx
 hn:=hn'
 s0:=I.fresh0 hex hn
 loc:=fun z=>by
  obtain⟨m,⟨o,_,_,ho,_⟩,_⟩:=I.loc
  rw[<-z,hn] at ho;cases ho
 cell:=fun x c e z=>by
  obtain⟨v,o,ho,_⟩:=I.cell x c e
  rw[z,hn] at ho;cases ho
 pin:=fun p hp z=>by
  have:=(I.pin p hp).1
  rw[z,hn] at this;cases this
 st:=fun z=>by
  obtain⟨_,o,ho,_⟩:=I.stack.mem z
  rw[hn] at ho;cases ho
theorem Inv.left {h':Heap}(I:Inv X pins σ H s)(f:Fly X pins H s a cls)(lf:zhf X.stack a cls s.heap h'):Inv X pins σ H { s with heap:=h' }:=by
 have nst:∀b,b≠X.env.locals->b∉X.fs->b∉frs X.stack:=fun b h1 h2 z=>(List.mem_cons.mp (I.zay b z)).elim h1 h2
 have upto:∀b o,s.heap.get? b=some o->b≠a->∃sl,h'.get? b=some { o with slots:=sl }:=fun b o e ne=>by
  by_cases z:b∈frs X.stack
  ·exact lf.slot b o e z ne
  ·exact⟨o.slots,lf.keep b o e z ne⟩
 have cellK:∀x c,X.env.cells.lookup x=some c->∀v,s.heap.IsCell c v->h'.IsCell c v:=fun x c e v ⟨o,ho,hd⟩=>by
  obtain⟨sl,q⟩:=upto c o ho (f.cell x c e)
  exact⟨_,q,hd⟩
 have ne0:∀b o,X.s₀.heap.get? b=some o->b≠a:=fun b o e z=>by rw[z,f.s0] at e;cases e
 refine⟨I.ok,I.os,I.bare,⟨fun b o e n hb hx=>?_,fun b o e n hb hx=>?_,I.base.free,fun b o e hx=>?_,I.base.tups,I.base.Nm,I.base.Kd⟩,?_,fun x c e=>?_,I.free,I.Y4,fun p hp=>?_,fun b u e=>?_,I.len⟩
 ·exact lf.keep b o (I.base.keep b o e n hb hx) (nst b (ztx (ztr (ztp e) I.ok.above)) hb) (ne0 b o e)
 ·obtain⟨sl,e1⟩:=I.base.slot b o e n hb hx
  obtain⟨sl2,e2⟩:=upto b _ e1 (ne0 b o e)
  exact⟨sl2,e2⟩
 ·obtain⟨o',e1⟩:=I.base.there b o e hx
  obtain⟨sl2,e2⟩:=upto b _ e1 (ne0 b o e)
  exact⟨_,e2⟩
 ·obtain⟨m,⟨o,es,ep,ho,r⟩,hl⟩:=I.loc
  obtain⟨sl,q⟩:=upto _ o ho (Ne.symm f.loc)
  refine⟨m,⟨_,es,ep,q,r⟩,fun i x v e1 e2 e3=>?_⟩
  obtain⟨u,r,l⟩:=hl i x v e1 e2 e3
  refine⟨u,r,?_⟩
  rcases l with l | ⟨k,c,e,z⟩
  ·exact .inl l
  ·exact .inr ⟨k,c,e,cellK x c e _ z⟩
 ·obtain⟨v,z⟩:=I.cell x c e
  exact⟨v,cellK x c e v z⟩
 ·obtain⟨e,n,ne,nf,d⟩:=I.pin p hp
  exact⟨lf.keep p.1 p.2 e (nst p.1 ne nf) (f.pin p hp),n,ne,nf,d⟩
 ·have tr:∀b u,H b=some u->b∉frs X.stack/\b≠a:=fun b u e=>⟨(fun z=>by rw[I.zae b z] at e;cases e),(fun z=>by rw[z,f.hn] at e;cases e)⟩
  refine(I.hok b u e).stay (fun c v hc q=>?_) (fun c q=>q) fun c xs q=>q
  rcases hc with rfl | hc
  ·exact lf.keep _ v q (tr _ u e).1 (tr _ u e).2
  ·exact lf.keep _ v q (tr _ _ hc).1 (tr _ _ hc).2
theorem Inv.zmU {D:Addr}(I:Inv X pins σ H s)(f:Fly X pins H s a (.ref D)):Inv X pins σ (upd H a (zbC a D)) s:=by
 have ne0:∀b o,X.s₀.heap.get? b=some o->b≠a:=fun b o e z=>by rw[z,f.s0] at e;cases e
 have neH:∀b u,H b=some u->b≠a:=fun b u e z=>by rw[z,f.hn] at e;cases e
 refine⟨I.ok,I.os,I.bare,⟨I.base.keep,I.base.slot,fun b o e n hx=>?_,I.base.there,fun b xs e=>?_,fun b o u e=>?_,fun b ps e=>?_⟩,I.loc,I.cell,?_,fun x c e=>?_,fun p hp=>?_,fun b u e=>?_,I.len⟩
 ·rw[zE (ne0 b o e)];exact I.base.free b o e n hx
 ·have:=I.base.tups b xs e
  rw[zE (neH b _ this)];exact this
 ·have:=I.base.Nm b o u e
  rw[zE (neH b _ this)];exact this
 ·obtain⟨m,this⟩:=I.base.Kd b ps e
  exact⟨m,by rw[zE (neH b _ this)];exact this⟩
 ·rw[zE (Ne.symm f.loc)];exact I.free
 ·rw[zE (f.cell x c e)];exact I.Y4 x c e
 ·obtain⟨e,n,ne,nf,d⟩:=I.pin p hp
  exact⟨e,by rw[zE (f.pin p hp)];exact n,ne,nf,d⟩
 ·by_cases z:b=a
  ·subst z
   rw[zj] at e;cases e
   exact zkU f.exc
  ·rw[zE z] at e
   refine(I.hok b u e).stay (fun c v _ q=>q) (fun c q=>?_) fun c xs q=>?_
   ·rw[zE (neH c _ q)];exact q
   ·rw[zE (neH c _ q)];exact q
end
abbrev XR:=Value->St->Hp->Prop
def XP (X:Cx)(pins:List (Addr×Obj))(R:XR)(e:Value)(s':Shared):Prop:=∃a cls σ H',e=.ref a/\Inv X pins σ H' s'/\Fly X pins H' s' a cls/\R cls σ H'
abbrev TEx:=St->Hp->VK->(Value->Hp->Prop)->Prop
abbrev TSx:=Ends->XR->St->Hp->Prop
def PEx (X:Cx)(e:Expr)(t:TEx):Prop :=
 ∀(pins:List (Addr×Obj)) (s:Shared) (σ:St) (H:Hp) (Q:VK) (R:Value->Hp->Prop),Inv X pins σ H s->t σ H Q R->wpAny (model X.prog X.w) X.A (eval e X.env) (EP X pins σ Q) (XP X pins fun cls σ' H'=>σ'=σ/\R cls H') s
def zoy (X:Cx)(st:Stmt)(t:TSx):Prop :=
 ∀(pins:List (Addr×Obj)) (s:Shared) (σ:St) (H:Hp) (D:Ends) (R:XR),Inv X pins σ H s->t D R σ H->wpAny (model X.prog X.w) X.A (exec st X.env) (SP X pins D) (XP X pins R) s
def PSx (X:Cx)(st:List Stmt)(t:TSx):Prop :=
 ∀(pins:List (Addr×Obj)) (s:Shared) (σ:St) (H:Hp) (D:Ends) (R:XR),Inv X pins σ H s->t D R σ H->wpAny (model X.prog X.w) X.A (execs st X.env) (SP X pins D) (XP X pins R) s
section
variable {X:Cx}{e:Expr}{te:TE}{tx:TEx}{st:Stmt}{rest:List Stmt}{ts:TS}{t u:TSx}{pos pos':Pos}
def zoz (tx:TEx):TSx:=fun D R σ H=>tx σ H (fun _ H1=>D.nx σ H1) fun cls H'=>R cls σ H'
theorem zji (he:PEx X e tx)(hs:swapsWith e none pos.line X.env=pure false:=by rfl):zoy X (.Expr e pos) (zoz tx):=by
 intro pins s σ H D R I h
 refine wpAny_Expr_any (wpAny_mono (he pins s σ H _ _ I h) (fun v s1 ⟨x,H1,I1,r1,q1⟩=>⟨σ,H1,I1,q1⟩) fun v s1 ⟨a,cls,σ',H',e1,I1,f,e2,q⟩=>?_) I.quiet hs
 subst e2
 exact⟨a,cls,_,H',e1,I1,f,q⟩
theorem zjj (h1:zoy X st t):PSx X [st] t:=by
 intro pins s σ H D R I h
 refine wpAny_execs_cons (wI (h1 pins s σ H D R I h) fun f s1 q=>?_)
 cases f with
 | next=>exact wpAny_execs_nil q
 | ret v=>exact q
 | brk=>exact q
 | cont=>exact q
end
section
variable {X:Cx}{k:Nat}{f C:Addr}{fd:FuncData}{ps:List Str}{sp:Sp}{SJ:List V}{ds:List Value}{x m:Str}{p pos apos:Pos}{e o:Expr}{es:List Expr}{ta:TE}{t:TA}
theorem zoA {pins:List (Addr×Obj)}{σ:St}{H:Hp}{s s':Shared}{ev:Value}{R:Value->Hp->Prop}(hex:X.ex=[])(I:Inv X pins σ H s)(h:uF X.prog X.w X.stack H s (fun cls _ H'=>R cls H') ev s') :
  XP X pins (fun cls σ' H'=>σ'=σ/\R cls H') ev s':=by
 obtain⟨a,cls,H',rfl,os,bare,un,hok,ha,hn,hx,hE⟩:=h
 exact⟨a,cls,σ,H',rfl,I.call' (s':=s') (ch:=[]) os un hok bare (fun b z=>absurd z (by simp)),I.fly hex ha hn hx,rfl,hE⟩
theorem zkV {pins:List (Addr×Obj)}{σ:St}{H:Hp}{s:Shared}{Q:VK}{R:Value->Hp->Prop}{us:List Value}{vs:List V}(F:zy X.prog X.w X.K X.mg X.base (uF X.prog X.w) k f fd ps sp)(hr:uK k X.A)(hb:Binds X.K fd ps ds)(hd:Vals SJ ds)(hex:X.ex=[])
  (I:Inv X pins σ H s)(r:Vals vs us)(h:sp (vs++SJ) H Q fun cls _ H'=>R cls H'):wpAny (model X.prog X.w) X.A (call (.ref f) us) (EP X pins σ Q) (XP X pins fun cls σ' H'=>σ'=σ/\R cls H') s:=by
 have r2:Vals (vs++SJ) (us++ds):=r.append hd
 have hl:(us++ds).length=ps.length:=by rw[<-r2.length];exact F.len _ _ _ _ h
 refine wpAny_call (codeAny_mono (F.run X.A X.stack s H ⟨us,[]⟩ (us++ds) (vs++SJ) Q _ hr I.env0 (hb s us I.Qq hl) r2 h) fun r s' hq=>?_)
 cases r with
 | error e=>exact zoA hex I hq
 | ok fl =>
  cases fl with
  | ret u=>exact I.after hq
  | next=>exact False.elim hq
  | brk=>exact False.elim hq
  | cont=>exact False.elim hq
def zoB (sp:Sp)(SJ:List V)(t:TA):TEx:=fun σ H Q R=>t σ H fun vs H1=>sp (vs++SJ) H1 Q fun cls _ H'=>R cls H'
theorem zjk {α:Type}{pins:List (Addr×Obj)}{σ:St}{H:Hp}{s:Shared}{Qn:List V->Hp->Prop}{Q:List Value->Shared->Prop}{E:Value->Shared->Prop}{cpos:Pos}(ha:PA X.nox es t)(I:Inv X pins σ H s)(h:t σ H Qn)
  (hf:∀us s1 vs H1,Inv X pins σ H1 s1->Vals vs us->Qn vs H1->Q us s1):wpAny (model X.prog X.w) X.A (spliced (backTo cpos (starEach es X.env))) Q E s :=
 wpAny_mono (ha cpos pins s σ H Qn (I.wish _) h) (fun us s1 ⟨vs,H1,I1,r,q⟩=>hf us s1 vs H1 I1.Uu r q) fun _ _ z=>False.elim z
theorem zjl (F:zy X.prog X.w X.K X.mg X.base (uF X.prog X.w) k f fd ps sp)(hr:uK k X.A)(hg:Gl X x)(hm:X.mg x=some (.ref f))(hk:PySem.W.keepIn X.K (.ref f)=true)(hb:Binds X.K fd ps ds)(hd:Vals SJ ds)(hex:X.ex=[])
  (ha:PA X.nox (e::es) t)(hdb:(x==("__debug__" : Str))=false:=by decide)(he:starEach (e::es) X.env=(false,eval e X.env)::starEach es X.env:=by rfl)(hpl:(backTo pos (starEach es X.env)).any (·.1)=false:=by rfl) :
  PEx X (.Call (.Name x p) (e::es) [] pos) (zoB sp SJ t):=by
 intro pins s σ H Q R I h
 refine wpAny_Call_Name_kw (Ut I hg hm ?_ hdb)
 refine PySem.W.callWith_K (h₀:=X.base) I.ok.mod.kin hk (zjk (α:=Unit) ha I h fun us s1 vs H1 I1 r q=>⟨I1.Qq,?_⟩) he hpl
 exact zkV F hr hb hd hex I1 r q
end
abbrev Cx.suite (X:Cx)(a:Addr):Cx:={ X with A:=X.A.mark (some (.ref a)),calm:=false,xe:=fun _ _=>False }
section
variable {X:Cx}{pins:List (Addr×Obj)}{σ:St}{H:Hp}{s:Shared}{a:Addr}
theorem Inv.suite (I:Inv X pins σ H s)(a:Addr):Inv (X.suite a) pins σ H s :=
 ⟨⟨I.ok.mod,I.ok.kind,I.ok.glob,I.ok.blt,I.ok.above,I.ok.inj,I.ok.has,I.ok.cab,(fun z=>nomatch z),I.ok.frames,I.ok.stk,I.ok.exf,I.ok.bs,I.ok.bsz,I.ok.zdS,I.ok.zdT,I.ok.Qp,I.ok.frf⟩,I.os,I.bare,I.base,I.loc,I.cell,I.free,I.Y4,I.pin,I.hok,I.len⟩
theorem Inv.zkW (ok:X.Ok)(I:Inv (X.suite a) pins σ H s):Inv X pins σ H s :=
 ⟨ok,I.os,I.bare,I.base,I.loc,I.cell,I.free,I.Y4,I.pin,I.hok,I.len⟩
theorem zkX {M:Model}{A:Around}{E:Value->Shared->Prop}{i:Nat}{n:Str}{pos:Pos}{Q:Unit->Shared->Prop}(I:Inv X pins σ H s)(hN:X.N.Nodup)(hi:X.N[i]?=some n)(hk:X.env.kindOf n=some .local)
  (h:∀s',Inv X pins (σ.set i none) H s'->Q () s'):wpAny M A (do bindName X.env n .none;unbindBehindTheSuite X.env n pos) Q E s:=by
 obtain⟨m,hn,hl⟩:=id I.loc
 have hcls:(X.env.scope.kind==.class||(X.env.scope.kind==.module&&X.env.locals != X.env.globals))=false:=by rw[I.ok.kind];rfl
 have hiσ:i < σ.length:=by rw[I.len];exact(ztl.mp hi).1
 have cne:=I.cne
 refine wpAny_nameGoes_keeps hk hn hcls fun h' v hn' hs=>?_
 obtain⟨oL,_,_,hoL,_⟩:=id hn
 have hok:TX X.prog X.w H h':=fun b ob e=>by
  refine(I.hok b ob e).stay (fun c w' hc q=>(hs.2 c ?_).trans q) (fun _ q=>q) fun _ _ q=>q
  rintro rfl
  rcases hc with z | hc
  ·rw[<-z,I.free] at e;cases e
  ·rw[I.free] at hc;cases hc
 refine h _ ⟨I.ok,I.os,I.bare,⟨fun b o e n hb hx=>?_,fun b o e n hb hx=>?_,I.base.free,fun b o e hx=>?_,I.base.tups,I.base.Nm,I.base.Kd⟩,⟨_,hn',fun j y v' e1 e2 e3=>?_⟩,fun y c e=>?_,I.free,I.Y4,fun p hp=>?_,hok,by simpa using I.len⟩
 ·exact(hs.2 b (ztx (ztr (ztp e) I.ok.above))).trans (I.base.keep b o e n hb hx)
 ·obtain⟨sl,e1⟩:=I.base.slot b o e n hb hx
  exact⟨sl,(hs.2 b (ztx (ztr (ztp e) I.ok.above))).trans e1⟩
 ·obtain⟨o',e1⟩:=I.base.there b o e hx
  exact⟨o',(hs.2 b (ztx (ztr (ztp e) I.ok.above))).trans e1⟩
 ·by_cases hj:j=i
  ·subst hj
   rw[List.getElem?_set_self hiσ] at e2
   cases e2
  ·rw[List.getElem?_set_ne (Ne.symm hj)] at e2
   obtain⟨u',r',q⟩:=hl j y v' e1 e2 e3
   refine⟨u',r',?_⟩
   rcases q with ⟨k,e⟩ | ⟨k,c,e,z⟩
   ·refine .inl ⟨k,?_⟩
    have:y≠n:=fun e=>hj (zaz hN e1 (e ▸ hi))
    simp[this,e]
   ·exact .inr ⟨k,c,e,z.sameBut hs (cne y c e)⟩
 ·obtain⟨w',z⟩:=I.cell y c e
  exact⟨w',z.sameBut hs (cne y c e)⟩
 ·obtain⟨e,n,ne,nf,d⟩:=I.pin p hp
  exact⟨(hs.2 p.1 ne).trans e,n,ne,nf,d⟩
end
def zqg (K:Frag)(B:Addr)(i:Nat)(tb:TSx)(ts:Addr->TS):TS:=fun D σ H=>tb D (fun cls σ' H'=>∃C,cls=.ref C/\PySem.W.exmOne K (.ref C) (.ref B)=some true/\∀a,H' a=none ->
 ts a { nx:=fun σ2 H2=>D.nx (σ2.set i none) H2,rt:=D.rt,bk:=fun σ2 H2=>D.bk (σ2.set i none) H2,ct:=fun σ2 H2=>D.ct (σ2.set i none) H2 } (σ'.set i (some (.ref a))) (upd H' a (zbC a C))) σ H
section
variable {X:Cx}{i:Nat}{n y:Str}{B:Addr}{body suite:List Stmt}{b₀:Stmt}{tb:TSx}{ts:Addr->TS}{np hp pos:Pos}
theorem zmV {pins:List (Addr×Obj)}{σ:St}{H:Hp}{s:Shared}{D:Ends}{R:XR}{ev:Value}(hst:X.stack=X.env::X.outer)(hfr:X.env.frame=some X.env.locals)(hs:∀a,JK (X.suite a) (b₀::suite) (ts a))(hg:Gl X y)(hm:X.mg y=some (.ref B))
  (hN:X.N.Nodup)(hi:X.N[i]?=some n)(hk:X.env.kindOf n=some .local)
  (hx:XP X pins (fun cls σ' H'=>∃C,cls=.ref C/\PySem.W.exmOne X.K (.ref C) (.ref B)=some true/\∀a,H' a=none ->
   ts a { nx:=fun σ2 H2=>D.nx (σ2.set i none) H2,rt:=D.rt,bk:=fun σ2 H2=>D.bk (σ2.set i none) H2,ct:=fun σ2 H2=>D.ct (σ2.set i none) H2 } (σ'.set i (some (.ref a))) (upd H' a (zbC a C))) ev s)
  (hdb:(y==("__debug__" : Str))=false:=by decide) :
  wpAny (model X.prog X.w) X.A (noteFrame ev X.env) (fun _ s₂=>wpAny (model X.prog X.w) X.A (setFlight ev none) (fun _ s₃=>wpAny (model X.prog X.w) X.A (handleBy ev X.env [.ExceptHandler (some (.Name y np)) (some n) (b₀::suite) hp]) (SP X pins D) X.xe s₃) X.xe s₂) X.xe s:=by
 obtain⟨a,cls,σ,H,rfl,I,fl,C,rfl,hex,hq⟩:=hx
 refine zjg (base:=X.base) (outer:=X.outer) (L:=X.env.locals) (by rw[<-hst];exact I.ok.frames) (by rw[<-hst];exact I.stack) hfr fl.exc fun h' lf=>?_
 rw[<-hst] at lf
 have I1:=I.left fl lf
 have fl1:Fly X pins H { s with heap:=h' } a (.ref C):=⟨lf.exc,fl.hn,fl.s0,fl.loc,fl.cell,fl.pin,fl.st⟩
 refine wpAny_handleBy_cons (codeAny_handlers_test (Ut (X:=X.suite a) (I1.suite a) hg hm ?_ hdb)) (by intro q;cases q)
 have LT:PySem.W.Looks (model X.prog X.w) h' (typeOf (.ref a)) (.ref C):=by
  obtain⟨oe,vs,he,hc,_⟩:=lf.exc
  exact hc ▸ (PySem.W.Looks.ld he).andThen .now
 refine(PySem.W.exm_one I1.Qq LT hex) _ _ _ _ (fun _ _ e=>e) ?_
 refine codeAny_handlers_suite_as ?_
 refine zmS fl1.exc fun h2 k2=>?_
 have I2:Inv X pins σ H { s with heap:=h2 }:=I1.kept (t':=s.toks) fun b u q=>(k2 b).trans q
 have fl2:Fly X pins H { s with heap:=h2 } a (.ref C):=⟨fl1.exc.same k2,fl.hn,fl.s0,fl.loc,fl.cell,fl.pin,fl.st⟩
 have I3:=(I2.zmU fl2).suite a
 refine Np (X:=X.suite a) (v:=.ref a) I3 hN hi (.inl hk) rfl (fun s4 I4=>?_) (.inr hk)
 refine wpAny_mono (hs a pins s4 _ _ _ I4 (hq a fl.hn)) (fun f s5 hf=>?_) fun _ _ z=>False.elim z
 have fin:∀{σ2:St} {H2:Hp},Inv (X.suite a) pins σ2 H2 s5->∀Q:Unit->Shared->Prop,(∀s',Inv X pins (σ2.set i none) H2 s'->Q () s')->wpAny (model X.prog X.w) X.A (do bindName X.env n .none;unbindBehindTheSuite X.env n hp) Q X.xe s5 :=
  fun J Q hQ=>zkX (J.zkW I.ok) hN hi hk hQ
 cases f with
 | next=>obtain⟨σ2,H2,J,q⟩:=hf;exact fin J _ fun s' I'=>⟨_,_,I',q⟩
 | brk=>obtain⟨σ2,H2,J,q⟩:=hf;exact fin J _ fun s' I'=>⟨_,_,I',q⟩
 | cont=>obtain⟨σ2,H2,J,q⟩:=hf;exact fin J _ fun s' I'=>⟨_,_,I',q⟩
 | ret u=>obtain⟨v,σ2,H2,J,r,q⟩:=hf;exact fin J _ fun s' I'=>⟨v,_,_,I',r,q⟩
theorem zmW (hst:X.stack=X.env::X.outer)(hfr:X.env.frame=some X.env.locals)(hb:PSx X body tb)(hs:∀a,JK (X.suite a) (b₀::suite) (ts a))(hg:Gl X y)(hm:X.mg y=some (.ref B))
  (hN:X.N.Nodup)(hi:X.N[i]?=some n)(hk:X.env.kindOf n=some .local)(hdb:(y==("__debug__" : Str))=false:=by decide) :
  PS X (.Try body [.ExceptHandler (some (.Name y np)) (some n) (b₀::suite) hp] [] [] pos) (zqg X.K B i tb ts):=by
 intro pins s σ H D I h
 refine wpAny_Try_except (wpAny_mono (hb pins s σ H _ _ I h) (fun f s1 q=>?_) fun e s1 q=>zmV (σ:=σ) (H:=H) (R:=fun _ _ _=>True) hst hfr hs hg hm hN hi hk q hdb)
 cases f with
 | next=>exact wpAny_execs_nil q
 | ret v=>exact q
 | brk=>exact q
 | cont=>exact q
end
abbrev zhW:List Value:=[.type "ValueError", .type "Exception", .type "BaseException", .type "object"]
def zlQ (K:Frag)(C:Addr):Prop:=PySem.W.excIn K C zhW "ValueError.__new__"=true
theorem zkY {K:Frag}{h:Heap}{C:Addr}{bmB:List Value}{newId:String}(X:K.In h)(q:PySem.W.excIn K C bmB newId=true):∃bm N nm q bs hdct sn sub ab col dd k0 k1 k2 k3 k5 mN,h.get? C=some (excClassObj nm q C N bs bm hdct sn sub ab col dd k0 k1 k2 k3 k5 newId)/\h.Ns N mN/\mN "__init__"=none/\OwnTail h bmB bm:=by
 unfold PySem.W.excIn at q
 split at q
 ·rename_i dd cd sl ho
  split at q
  ·rename_i C' bm k0 k1 k2 k3 n k5 hm hs
   simp only[ztK,beq_iff_eq,Bool.not_eq_true'] at q
   obtain⟨⟨⟨⟨⟨rfl,rfl⟩,hdel⟩,ht⟩,hok⟩,hni⟩:=q
   obtain⟨nm,bs,mro,ns,qn,hd,sn,sub,ab,col,del⟩:=cd
   dsimp only at hm hdel hok hni
   subst hm hdel
   have hsl:sl=#[k0,k1,k2,k3,some (.builtin n),k5]:=by
    obtain⟨l⟩:=sl
    simp only at hs
    rw[hs]
   subst hsl
   exact⟨bm,ns,nm,qn,bs,hd,sn,sub,ab,col,dd,k0,k1,k2,k3,k5,_,X _ _ ho,.of_isNs (PySem.W.isNs_of_in X hok),PySem.W.nsMap_none_of_in X hok hni,PySem.W.tail_of_in X ht⟩
  ·cases q
 ·cases q
theorem wH.get {P:Program}{w:World}{H:Hp}{h:Heap}{a:Addr}{o:HO}(x:wH P w H h a o):∃ob,h.get? a=some ob:=by
 cases o with
 | lst xs=>obtain⟨_,_,_,_,e⟩:=x;exact⟨_,e⟩
 | tup xs=>obtain⟨_,_,_,ob,e,_⟩:=x;exact⟨_,e⟩
 | dK kvs=>obtain⟨_,_,_,_,o,_,_,e,_⟩:=x;exact⟨_,e⟩
 | dT kvs=>obtain⟨_,_,_,_,o,_,_,e,_⟩:=x;exact⟨_,e⟩
 | set S n=>obtain⟨o,_,_,_,e,_⟩:=x;exact⟨_,e⟩
 | ins C dx fs=>obtain⟨_,_,_,e,_⟩:=x;exact⟨_,e⟩
 | own y=>obtain⟨_,e⟩:=x;exact⟨_,e⟩
 | xd fs=>obtain⟨_,⟨_,_,_,e,_⟩,_⟩:=x;exact⟨_,e⟩
 | rng lo hi=>obtain⟨_,_,_,e⟩:=x;exact⟨_,e⟩
 | frz ob u=>obtain⟨e,_⟩:=x;exact⟨_,e⟩
 | tbl ps=>exact⟨_,(show h.get? a=some _ from x)⟩
 | met f y=>exact⟨_,(show h.get? a=some _ from x)⟩
 | ext φ=>obtain⟨_,⟨_,e⟩,_⟩:=x;exact⟨_,e⟩
theorem TX.off {P:Program}{w:World}{H:Hp}{h:Heap}{a:Addr}(x:TX P w H h)(e:h.get? a=none):H a=none:=by
 cases q:H a with
 | none=>rfl
 | some u =>
  obtain⟨ob,z⟩:=(x a u q).get
  rw[e] at z;cases z
def Raises (X:Cx)(E:XK):Prop:=∀(pins:List (Addr×Obj)) (σ:St) (H:Hp) (s:Shared) (a:Addr) (cls:Value),Inv X pins σ H s->Kz s.heap a cls->X.s₀.heap.get? a=none->H a=none->E cls none H->X.xe (.ref a) s
def zmX (C:Addr)(E:XK)(t:TA):TS:=fun _ σ H=>t σ H fun vs H1=>vs.length<=sizeLine/\E (.ref C) none H1
theorem zhh {P:Program}{w:World}{K:Frag}{mg:Str->Option Value}{base:Heap}{N:List Str}{qual:Str}{scope:Scope}{f:Addr}{cd:Value}{A:Around}{outer:List Env}{s0:Shared}{H0:Hp}{E:XK} :
  Raises (Kg (uF P w) P w K mg base N qual scope f cd A outer s0 H0 E) E:=fun pins σ H s a cls I hx ha hn hE=>zlP I hx ha hn hE
section
variable {X:Cx}{C:Addr}{E:XK}{x:Str}{e₀:Expr}{rest:List Expr}{t:TA}{np cpos pos:Pos}
theorem zer (hc:X.calm=true)(hex:X.ex=[])(own:zlQ X.K C)(hg:Gl X x)(hm:X.mg x=some (.ref C))(hE:Raises X E)(ha:PA X (e₀::rest) t)
  (hd:(x==("__debug__" : Str))=false:=by decide)(he:starEach (e₀::rest) X.env=(false,eval e₀ X.env)::starEach rest X.env:=by rfl)(hplain:(backTo cpos (starEach rest X.env)).any (·.1)=false:=by rfl) :
  PS X (.Raise (some (.Call (.Name x np) (e₀::rest) [] cpos)) none pos) (zmX C E t):=by
 intro pins s σ H D I h
 obtain⟨tl,N,nm,q,bs,hdct,sn,sub,ab,col,dd,k0,k1,k2,k3,k5,mN,hC,hN,hni,T⟩:=zkY I.mod.kin own
 have FB:=PySem.F.excBase_ValueError
 refine wpAny_Raise_call_subT (C:=C) (nm:=nm) (q:=q) (N:=N) (bs:=bs) (bm:=tl) (hdct:=hdct) (sn:=sn) (sub:=sub) (ab:=ab) (col:=col) (dd:=dd) (k0:=k0) (k1:=k1) (k2:=k2) (k3:=k3) (k5:=k5)
  FB (mN:=mN) (T.hasType FB.hasBase) (I.ok.hd hc) (by rw[he];show(false||(backTo cpos (starEach rest X.env)).any (·.1))=false;rw[hplain];rfl) hni (Ut I hg hm ⟨rfl,?_⟩ hd)
 have hA:=wI (ha cpos pins s σ H _ I h) (Q':=fun us s2=>us.length<=sizeLine/\(∀b o,X.base.get? b=some o->s2.heap.get? b=some o)/\∀h' e,Heap.MadeExcOf s2.heap h' e (.ref C) us->X.xe (.ref e) { s2 with heap:=h' }) fun us s2 ⟨vs,H1,I1,r,hl,hq⟩=>by
  refine⟨by rw[<-r.length];exact hl,I1.bk,fun h' e mk=>?_⟩
  obtain⟨t,h1,h2,h3⟩:=mk.there
  have hn:=I1.hok.off mk.new
  exact hE pins σ H1 _ e (.ref C) (I1.kept (t':=s2.toks) mk.keeps) ⟨_,_,h1,rfl,rfl,rfl,by rfl,.inl (by rfl)⟩ (I1.fresh0 hex mk.new) hn hq
 rw[he] at hA ⊢
 exact Calls.evalArgs_plain (wpAny_mono hA (fun vs s₂ h₂=>⟨rfl,h₂.1,h₂.2.1 _ _ hC,hN.keeps h₂.2.1,T.keeps h₂.2.1,h₂.2.2⟩) fun _ _ y=>y)
end
theorem zbD:entryFor table "proto.unchain"=some Builtin.«proto.unchain»:=entryFor_of_tree (by kernel_rfl)
section
variable {prog:Program}{w:World}{A:Around}{E:Value->Shared->Prop}{s:Shared}
theorem zfZ {it e:Addr}{oe:Obj}{vs:Array Value}{x left step:Int}{Q:Option Value->Shared->Prop}(hh:A.handled=some (.ref e))(he:s.heap.get? e=some oe)(hd:oe.data=.fields vs)(h2:vs[2]?=some .none)
  (hit:IsRangeIter s.heap it x left step)(hleft:left<=0)(hQ:∀h',Heap.ExtBut it s.heap h'->Q none { s with heap:=h' }):wpAny (model prog w) A (pyNext (.ref it)) Q E s:=by
 have hT:s.TypeIs (.ref it) "range_iterator" := ⟨_,hit,rfl⟩
 unfold pyNext
 refine wpAny_bind (wpAny_attempt (wpAny_callSpecial?_slot (name:=Str.ofString "__next__") hT F.slot_range_iterator_next
  (wpAny_call_entry F.slot_range_iterator_next hT F.entry_range_iterator_next ?_ (F.args_range_iterator_next_1 _))))
 show wpAny _ _ (field (.ref it) 0>>=_) _ _ s
 refine wpAny_bind (wpAny_field hit rfl (x:=rawInt x) rfl ?_)
 show wpAny _ _ (field (.ref it) 1>>=_) _ _ s
 refine wpAny_bind (wpAny_field hit rfl (x:=rawInt left) rfl ?_)
 show wpAny _ _ (field (.ref it) 2>>=_) _ _ s
 refine wpAny_bind (wpAny_field hit rfl (x:=rawInt step) rfl ?_)
 show wpAny _ _ (if left<=0 then _ else _) _ _ s
 rw[if_pos hleft]
 refine wpAny_bind (wpAny_rule ?_)
 refine wpAny_bind ?_
 show wpAny _ _ (newExc (.type "StopIteration") []>>=_) _ _ _
 refine wpAny_bind ?_
 simp only[newExc,newTuple]
 refine wpAny_bind (wpAny_newObj_type ?_ (by size_fits))
 refine wpAny_bind (m:=firstArgMember _ _) (wpAny_of_eq (a:=Value.none) (by first | rfl | (simp only[firstArgMember];rfl)) ?_)
 refine wpAny_newObj_type ?_ (by size_fits)
 simp only[raiseNew]
 refine wpAny_bind (wpAny_handled ?_)
 rw[show A.in1.handled=some (.ref e) from hh]
 dsimp only
 have lt:e<s.heap.objs.size:=ztp he
 have ne:(Value.ref e != Value.ref (s.heap.push { cls:=.type "tuple", data:=.seq #[] }).objs.size)=true:=by
  have:e≠(s.heap.push { cls:=.type "tuple", data:=.seq #[] }).objs.size:=by rw[Heap.size_push];exact ztx (Nat.lt_succ_of_lt lt)
  simpa using this
 rw[if_pos ne]
 refine wpAny_bind (wpAny_holding (wpAny_runValue (codeAny_builtin zbD ?_)))
 show wpAny _ _ (field (.ref e) 2>>=_) _ _ _
 refine wpAny_bind (wpAny_field (zto _ (zto _ he)) hd h2 ?_)
 rw[if_pos (by rfl)]
 refine wpAny_bind (wpAny_pure (wpAny_pure ?_))
 refine wpAny_bind (show wpAny _ _ (setField (.ref _) 2 (.ref e)) _ _ _ from wpAny_setField (ztD _ rfl) rfl (by simp;omega) ?_)
 refine wpAny_throw ?_
 refine wpAny_bind (wpAny_isInstance (T := "StopIteration") (b:=true) ⟨_,Heap.get?_update_self _ (ztD _ rfl) (by rfl),rfl⟩ isSubtype_stop ?_)
 refine wpAny_pure (hQ _ fun b o hb q=>?_)
 have hb2:b≠(s.heap.push { cls:=.type "tuple", data:=.seq #[] }).objs.size:=by
  rw[Heap.size_push];exact ztx (Nat.lt_succ_of_lt (ztp q))
 rw[Heap.get?_update_other _ _ (Ne.symm hb2)]
 exact zto _ (zto _ q)
end
abbrev zhi (e:Addr)(X:Cx):Prop:=X.A.handled=some (.ref e)
def zhX (e:Addr)(lo:Int)(n:Nat):It:=⟨fun i _=>i<n,fun i H x H'=>H'=H/\x=.int (lo+i),fun i H=>n<=i/\∃D,H e=some (zbC e D)⟩
theorem zes {P:Program}{w:World}{K:Frag}{tg:Expr}(e it:Addr)(lo:Int)(n:Nat):Turn P w K tg (zhX e lo n) [it] it (fun i h=>IsRangeIter h it (lo+(i:Nat)*1) ((n:Int)-(i:Nat)) 1) (zhi e) where
 mem:=by simp
 obj:=fun i h st b hb=>by
  have e:b=it:=by simpa using hb
  subst e
  exact⟨_,st,fun v z=>by
   have z':Data.fields _=Data.cell v:=z
   cases z'⟩
 keep:=fun i h h' st k=>k it (by simp) _ st
 item:=by
  intro X hP hw hK hc i pins s σ H E I hf st hg
  subst hP hw hK
  obtain⟨f0,f1,f2,f3,f4,f5⟩:=hf it (by simp)
  refine wpAny_pyNext_range_item st (by have:i<n:=hg;omega) fun h' hit' hs'=>?_
  have I1:Inv X pins σ H { s with heap:=h',toks:=s.toks+1 }:=I.turned (fun b o hb e=>hs'.extBut b o hb e) f0 f1 f3 f4 f5
  have st':IsRangeIter h' it (lo+((i+1:Nat):Int)*1) ((n:Int)-((i+1:Nat):Int)) 1:=by
   have e1:lo+((i+1:Nat):Int)*1=lo+(i:Int)*1+1:=by push_cast;omega
   have e2:(n:Int)-((i+1:Nat):Int)=(n:Int)-(i:Int)-1:=by push_cast;omega
   rw[e1,e2];exact hit'
  refine⟨_,rfl,zb3 (s:={ s with heap:=h',toks:=s.toks+1 }) (n := "range_iterator") st' rfl rfl (by decide) ⟨.int (lo+i),H,I1,⟨s.toks,?_⟩,⟨rfl,rfl⟩,st',fun b hb=>(hf b hb).1⟩⟩
  rw[Int.mul_one]
 done:=by
  intro X hP hw hK hc i pins s σ H E I hf st hg
  subst hP hw hK
  obtain⟨f0,f1,f2,f3,f4,f5⟩:=hf it (by simp)
  obtain⟨hn,D,hD⟩:=hg
  obtain⟨oe,vs,J,hd,h2⟩:=Rd.exc I.hok hD
  exact zfZ hc J.at_ hd h2 st (by omega) fun h' eb=>⟨rfl,I.turned (t':=s.toks) (fun b o hb e=>eb b o hb e) f0 f1 f3 f4 f5⟩
 self:=fun _ _ _ _ _ st h=>wpAny_pyIter_rangeiter st h
section
variable {X:Cx}{tg:Expr}{e:Addr}
theorem zhY {pins:List (Addr×Obj)}{σ:St}{H:Hp}{s:Shared}{R:It->Hp->Prop}{E:Value->Shared->Prop}{lo hi:Int}{t u v:Tok}{tk:Nat}(I:Inv X pins σ H s)(h1:-(2^62)<=lo)(h2:lo<2^62)(h3:-(2^62)<=hi)(h4:hi<2^62)
  (q:R (zhX e lo (hi-lo).toNat) H):wpAny (model X.prog X.w) X.A (pyIter (.ref s.heap.objs.size)) (zmg (zhi e) X pins σ tg R) E { s with heap:=s.heap.push { cls:=.type "range", data:=.fields #[.int lo t,.int hi u,.int 1 v] },toks:=tk }:=by
 refine wpAny_pyIter_range (IsRange.new ..) (small_one h1 h2 h3 h4) ?_
 have I1:Inv X pins σ H { s with heap:=s.heap.push { cls:=.type "range", data:=.fields #[.int lo t,.int hi u,.int 1 v] },toks:=tk }:=I.kept fun b o e=>zto _ e
 refine⟨(s.heap.push { cls:=.type "range", data:=.fields #[.int lo t,.int hi u,.int 1 v] }).objs.size,[(s.heap.push { cls:=.type "range", data:=.fields #[.int lo t,.int hi u,.int 1 v] }).objs.size],_,_,H,rfl,
  I1.kept (t':=tk) fun b o e=>zto _ e,zes e _ lo (hi-lo).toNat,?_,fun b hb=>?_,q⟩
 ·have e1:lo+((0:Nat):Int)*1=lo:=by simp
  have e2:(((hi-lo).toNat:Nat):Int)-((0:Nat):Int)=Builtin.Range.rangeSize lo hi 1:=by rw[rangeSize_one];split<;>omega
  show IsRangeIter _ _ (lo+((0:Nat):Int)*1) ((((hi-lo).toNat:Nat):Int)-((0:Nat):Int)) 1
  rw[e1,e2]
  exact ztD _ rfl
 ·have e:b=(s.heap.push { cls:=.type "range", data:=.fields #[.int lo t,.int hi u,.int 1 v] }).objs.size:=by simpa using hb
  subst e
  exact I1.zdU (zty _) (I1.hok.fresh (zty _))
def zmY (e:Addr)(ta:TA):TI:=fun σ H R=>ta σ H fun vs H1=>∃j:Int,vs=[.int j]/\-(2^62)<=j/\j<2^62/\R (zhX e 0 j.toNat) H1
theorem zf0 {a:Expr}{ta:TA}{p pos:Pos}(hg:Gl X "range")(hm:X.mg "range"=none)(ha:PA X [a] ta)(hs:starEach [a] X.env=[(false,eval a X.env)]:=by rfl):PIr (zhi e) X tg (.Call (.Name "range" p) [a] [] pos) (zmY e ta):=by
 intro pins s σ H R I h
 refine Call_ (Wd I hg hm boot_range (PyProof.Rows.callWith_type1 (wI (ha pos pins s σ H _ I h) fun us s1 ⟨vs,H1,I1,r1,q1⟩=>?_) hs rfl))
 obtain⟨j,e,q1,q2,q⟩:=q1
 subst e
 cases r1 with
 | cons r rr =>
  cases rr
  obtain⟨t,rfl⟩:=r
  exact call_range_1 (zhY I1 (by omega) (by omega) q1 q2 (by simpa using q))
def zoD:V->Value
 | .ref a=>.ref a
 | .ty n=>.type n
 | _=>.none
def zqh:V->Bool
 | .ref _=>true
 | .ty _=>true
 | _=>false
theorem uh {K:Frag}(hK:X.K=K):Xl X (.builtin "isinstance") (fun xs H Q=>∃a D c b,xs=[.ref a,c]/\H a=some (zbC a D)/\zeq K D/\zqh c=true/\PySem.W.kitOne K (.ref D) (zoD c)=some b/\Q (.bl b) H):=by
 subst hK
 rintro pins s σ H xs us Q I r ⟨a,D,c,b,rfl,ha,cl,ic,ek,q⟩
 cases r with
 | cons r1 r2 =>
  cases r2 with
  | cons r3 r4 =>
   cases r4
   rename_i u1 u2
   obtain⟨o,vs,J,_⟩:=Rd.exc I.hok ha
   have eu1:u1=Value.ref a:=r1
   subst eu1
   have eu:u2=zoD c:=by
    cases c with
    | ref a=>exact r3
    | ty n=>exact r3
    | _=>cases ic
   subst eu
   exact PySem.W.kia_one (zjh cl) I.Qq ⟨o,J⟩ ek (fun z=>nomatch z) fun tk=>⟨.bl b,H,I.tok _,rfl,q⟩
end
structure Jr (k:Nat)(A:Around):Prop where
 gd:A.guards=some []
 dp:A.depth+3*k+5<recursionLimit
 un:A.units+16*k+200<cLine
theorem Jr.of {k:Nat}{A:Around}(r:uK k A)(v:Option Value):Jr k (A.mark v):=⟨r.gd,r.dp,r.un⟩
structure zcv (P:Program)(w:World)(K:Frag)(mg:Str->Option Value)(base:Heap)(ex:Addr)(k:Nat)(f:Addr)(fd:FuncData)(ps:List Str)(sp:Sp):Prop where
 len:∀vs H Q E,sp vs H Q E->vs.length=ps.length
 run:∀(A:Around) (outer:List Env) (s:Shared) (H:Hp) (args:Args) (us:List Value) (vs:List V) (Q:VK) (E:XK),Jr k A->A.handled=some (.ref ex)->zcM P w K mg base A outer s H->BindsTo s fd args (ps.zip us)->Vals vs us->sp vs H Q E ->
  codeAny (model P w) A (.call (.ref f) args) (CR zZ outer P w H s Q E) s
abbrev zhj (P:Program)(w:World)(K:Frag)(mg:Str->Option Value)(base:Heap)(N:List Str)(qual:Str)(scope:Scope)(f:Addr)(cd:Value)(A:Around)(outer:List Env)(s:Shared)(H:Hp)(E:XK):Cx :=
 {Kg zZ P w K mg base N qual scope f cd A outer s H E with calm:=false }
theorem zmZ {P:Program}{w:World}{K:Frag}{mg:Str->Option Value}{base:Heap}{ex:Addr}{k:Nat}{f:Addr}{name qual:Str}{params:Arguments}{body:List Stmt}{scope:Scope}{dV kV doc pm cdv ct oc:Value}{an od:Option Addr}
  {osl:Array (Option Value)}{N ps:List Str}{sp:Sp}(lk:K.lookup f=some ⟨oc,od,.func (PySem.W.fnOf name qual params body scope dV kV doc pm an cdv ct),osl⟩)(hcd:PySem.W.codeIn K cdv qual=true)(S:zH N ps scope)
  (len:∀vs H Q E,sp vs H Q E->vs.length=ps.length)
  (hbody:∀(A:Around) (outer:List Env) (s:Shared) (H:Hp) (vs:List V) (Q:VK) (E:XK),Jr k (A.deeper (envOfC qual scope s.heap.objs.size f cdv))->A.handled=some (.ref ex)->sp vs H Q E ->
   ∃t,JK (zhj P w K mg base N qual scope f cdv A outer s H E) body t/\t { nx:=fun _ H'=>Q .non H',rt:=Q } (start N vs) H) :
  zcv P w K mg base ex (k+1) f (PySem.W.fnOf name qual params body scope dV kV doc pm an cdv ct) ps sp:=by
 refine⟨len,fun A outer s H args us vs Q E hr hh e0 hb r hsp=>?_⟩
 have hl:=len _ _ _ _ hsp
 have KX:K.In s.heap:=e0.mod.kin.keeps fun b o e=>(e0.bs b o e).1
 have lim:s.heap.NoLimit:=e0.mod.nolimit.keeps fun b o e=>(e0.bs b o e).1
 have hkind:∀y∈ps.zip us,scope.names.lookup y.1=some .local\/(scope.names.lookup y.1=some .cell/\((cellsFrom (s.heap.objs.size+1) scope.names []).lookup y.1).isSome=true):=fun⟨n,v⟩ hy=>by
  rcases S.par n (List.of_mem_zip hy).1 with q | q
  ·exact .inl q
  ·exact .inr ⟨q,PySem.W.cellsFrom_some _ _ _ (.inl q)⟩
 refine codeAny_call_function (by have:=hr.dp;omega) (KX _ _ lk) rfl S.co S.gen rfl (PySem.W.codeRec_of KX hcd) (hb _ _ _ _ ?_)
 refine wpAny_newFunctionEnv_cells S.kind hkind fun env he s1 x=>?_
 subst he
 refine⟨lim.keeps x.toInCall.keep,codeAny_func ?_⟩
 have hrd:Jr k (A.deeper (envOfC qual scope s.heap.objs.size f cdv)):=⟨hr.gd,by have:=hr.dp;show A.depth+1+3*k+5<_;omega,by have:=hr.un;show A.units+3+16*k+200<_;omega⟩
 obtain⟨t,ht,hq⟩:=hbody A outer s H vs Q E hrd hh hsp
 have e1:zcM P w K mg base { A with handled:=none } outer s H:=⟨e0.frames,e0.mod,e0.bs,e0.bsz,e0.Qp,e0.frf,e0.hok,e0.bare⟩
 have I0:Inv (Kg zZ P w K mg base N qual scope f cdv { A with handled:=none } outer s H E) [] (start N vs) H s1:=zcc S rfl e1 hl r x
 have I:Inv (zhj P w K mg base N qual scope f cdv A outer s H E) [] (start N vs) H s1 :=
  ⟨⟨I0.ok.mod,I0.ok.kind,I0.ok.glob,I0.ok.blt,I0.ok.above,I0.ok.inj,I0.ok.has,I0.ok.cab,(fun z=>nomatch z),I0.ok.frames,I0.ok.stk,I0.ok.exf,I0.ok.bs,I0.ok.bsz,I0.ok.zdS,I0.ok.zdT,I0.ok.Qp,I0.ok.frf⟩,I0.os,I0.bare,I0.base,I0.loc,I0.cell,I0.free,I0.Y4,I0.pin,I0.hok,I0.len⟩
 refine wpAny_mono (ht [] s1 (start N vs) H _ I hq) (fun fl s' hs=>?_) fun e s' hs=>hs
 have fin:∀{σ':St} {H':Hp} {v:V} {u:Value},Inv (zhj P w K mg base N qual scope f cdv A outer s H E) [] σ' H' s'->RelV v u->Q v H'->CE outer P w H s Q u s' :=
  fun {σ' H' v u} J rv q=>⟨v,H',J.os,J.bare,J.base,J.hok,rv,q⟩
 cases fl with
 | ret u =>
  obtain⟨v,σ',H',J,rv,q⟩:=hs
  exact fin J rv q
 | next =>
  obtain⟨σ',H',J,q⟩:=hs
  exact fin (v:=V.non) (u:=Value.none) J rfl q
 | brk =>
  obtain⟨_,_,_,q⟩:=hs
  exact False.elim q
 | cont =>
  obtain⟨_,_,_,q⟩:=hs
  exact False.elim q
theorem Fun.okH {P:Program}{w:World}{K:Frag}{mg:Str->Option Value}{base:Heap}{ex:Addr}{x qual:Str}{st:Stmt}{f:Addr}{fd:FuncData}{N ps:List Str}{k:Nat}{sp:Sp}(F:Fun K x qual st f fd)(S:zH N ps (zx st))(len:∀vs H Q E,sp vs H Q E->vs.length=ps.length)
  (hbody:∀(cdv:Value) (A:Around) (outer:List Env) (s:Shared) (H:Hp) (vs:List V) (Q:VK) (E:XK),Jr k (A.deeper (envOfC qual (zx st) s.heap.objs.size f cdv))->A.handled=some (.ref ex)->sp vs H Q E ->
   ∃t,JK (zhj P w K mg base N qual (zx st) f cdv A outer s H E) (vp st) t/\t { nx:=fun _ H'=>Q .non H',rt:=Q } (start N vs) H):zcv P w K mg base ex (k+1) f fd ps sp:=by
 obtain⟨oc,od,kV,doc,pm,an,cdv,ct,osl,rfl,lk,hcd⟩:=F.ex
 exact zmZ lk hcd S len fun A outer s H vs Q E hr hh hsp=>hbody cdv A outer s H vs Q E hr hh hsp
section
variable {X:Cx}{k:Nat}{f ex:Addr}{fd:FuncData}{ps:List Str}{sp:Sp}{SJ:List V}{ds:List Value}{x:Str}{p pos:Pos}{e:Expr}{es:List Expr}{t:TA}{E:XK}
theorem zjm (F:zcv X.prog X.w X.K X.mg X.base ex k f fd ps sp)(hr:Jr k X.A)(hh:X.A.handled=some (.ref ex))(hg:Gl X x)(hm:X.mg x=some (.ref f))(hk:PySem.W.keepIn X.K (.ref f)=true)(hb:Binds X.K fd ps ds)(hd:Vals SJ ds)
  (ha:PA X (e::es) t)(hdb:(x==("__debug__" : Str))=false:=by decide)(he:starEach (e::es) X.env=(false,eval e X.env)::starEach es X.env:=by rfl)(hpl:(backTo pos (starEach es X.env)).any (·.1)=false:=by rfl) :
  PE X (.Call (.Name x p) (e::es) [] pos) (NK sp SJ E t):=by
 intro pins s σ H Q I h
 refine wpAny_Call_Name_kw (Ut I hg hm ?_ hdb)
 refine PySem.W.callWith_K (h₀:=X.base) I.ok.mod.kin hk (wI (ha pos pins s σ H _ I h) fun us s1 ⟨vs,H1,I1,r,q⟩=>⟨I1.Qq,?_⟩) he hpl
 have r2:Vals (vs++SJ) (us++ds):=r.append hd
 have hl:(us++ds).length=ps.length:=by rw[<-r2.length];exact F.len _ _ _ _ q
 refine wpAny_call (codeAny_mono (F.run X.A X.stack s1 H1 ⟨us,[]⟩ (us++ds) (vs++SJ) Q E hr hh I1.env0 (hb s1 us I1.Qq hl) r2 q) fun r s' hq=>?_)
 cases r with
 | error e=>exact hq.elim
 | ok fl =>
  cases fl with
  | ret u=>exact I1.after hq
  | next=>exact False.elim hq
  | brk=>exact False.elim hq
  | cont=>exact False.elim hq
end
abbrev TF:=St->Hp->(Hp->Prop)->Prop
def PF (X:Cx)(e:Expr)(t:TF):Prop :=
 ∀(pins:List (Addr×Obj)) (s:Shared) (σ:St) (H:Hp) (Q:Hp->Prop),Inv X pins σ H s->t σ H Q->wpAny (model X.prog X.w) X.A (eval e X.env) (fun v s1=>∃y tk H1,v=.str y tk/\y.length<=3000/\Inv X pins σ H1 s1/\Q H1) X.xe s
def PFs (X:Cx)(es:List Expr)(t:TF):Prop :=
 ∀(acc:Str) (n:Nat) (pins:List (Addr×Obj)) (s:Shared) (σ:St) (H:Hp) (Q:Hp->Prop),acc.length<=3000*n->n+es.length<=100->Inv X pins σ H s->t σ H Q ->
  Joins (model X.prog X.w) X.A X.xe (evalEach es X.env) acc (fun out s1=>out.length<=sizeLine/\∃H1,Inv X pins σ H1 s1/\Q H1) s
section
variable {X:Cx}{e v₁ v₂:Expr}{es rest:List Expr}{t u:TF}{te:TE}{pos:Pos}
def zqi:TF:=fun _ H Q=>Q H
theorem zm0 {x:Str}{j pos}(hx:x.length<=3000:=by decide):PF X (.Constant (.str x) j pos) zqi:=fun _ _ _ H _ I h=>Calls.Constant_str ⟨x,_,H,rfl,hx,I.tok _,h⟩
def zqj (te:TE):TF:=fun σ H Q=>te σ H fun v H1=>∃i:Int,v=.int i/\i.natAbs.log2<1920/\Q H1
theorem zm1 (he:PE X e te):PF X (.FormattedValue e (-1) none pos) (zqj te):=by
 intro pins s σ H Q I h
 refine wpAny_FormattedValue_plain (wI (he pins s σ H _ I h) fun v s1 ⟨x,H1,I1,r,i,ex,hi,q⟩=>?_)
 subst ex
 obtain⟨tk,rfl⟩:=(show ∃t,v=Value.int i t from r)
 refine wpAny_formatField_int hi ⟨_,_,H1,rfl,?_,I1.tok _,q⟩
 have e:=int_text_length_le (k:=1920) (by decide) hi
 rw[PySem.ofString_length];omega
def zqk:TF:=fun _ H Q=>Q H
def zoE (t u:TF):TF:=fun σ H Q=>t σ H fun H1=>u σ H1 Q
theorem zkZ:PFs X [] zqk:=fun acc n pins s σ H Q ha hn I h=>⟨by rw[sizeLine_eq];have:n<=100:=hn;omega,H,I,h⟩
theorem zet (h1:PF X e t)(h2:PFs X es u):PFs X (e::es) (zoE t u):=by
 intro acc n pins s σ H Q ha hn I h
 show wpAny _ _ (eval e X.env) _ _ s
 refine wI (h1 pins s σ H _ I h) fun v s1 ⟨y,tk,H1,ev,hy,I1,q⟩=>⟨y,tk,ev,?_,?_⟩
 ·rw[strLen_append,sizeLine_eq]
  have:n+(es.length+1)<=100:=hn
  omega
 ·refine h2 (acc++y) (n+1) pins s1 σ H1 Q ?_ ?_ I1 q
  ·rw[strLen_append];omega
  ·have:n+(es.length+1)<=100:=hn
   omega
def zql (t:TF):TE:=fun σ H Q=>t σ H fun H1=>∀x:Str,Q (.str x) H1
theorem zm2 (h:PFs X (v₁::v₂::rest) t)(hn:rest.length<=90:=by decide):PE X (.JoinedStr (v₁::v₂::rest) pos) (zql t):=by
 intro pins s σ H Q I hq
 refine wpAny_JoinedStr ?_
 have:=h Str.empty 0 pins s σ H _ (by decide) (by show 0+(rest.length+1+1)<=100;omega) I hq
 refine za7 _ _ this fun out s1 ⟨hz,H1,I1,q⟩=>⟨hz,.str out,H1,I1.tok _,⟨_,rfl⟩,q out⟩
where
 za7 {M:Model} {A:Around} {E:Value->Shared->Prop} {Q Q':Str->Shared->Prop}:∀(l:List (Sem Value)) (acc:Str) {s:Shared},Joins M A E l acc Q s->(∀o s,Q o s->Q' o s)->Joins M A E l acc Q' s
  | [],_,_,h,k=>k _ _ h
  | _::r,acc,_,h,k=>wpAny_mono h (fun _ _ ⟨y,t,e,z,q⟩=>⟨y,t,e,z,za7 r (acc++y) q k⟩) fun _ _ z=>z
end
theorem zbE:bootBuiltins "ValueError"=some (.type "ValueError"):=by decide +kernel
structure Mx (K:Frag)(C:Addr):Prop where
 cl:(PySem.W.clsIn K C).isSome=true
 ty:PySem.W.typeIn K (.ref C)=some (.type "type")
structure zm3 (K:Frag)(B:Addr):Prop where
 cl:(PySem.W.clsIn K B).isSome=true
 ty:PySem.W.typeIn K (.ref B)=some (.type "type")
 bx:PySem.W.mroIn K B (.type "BaseException")=some true
structure Pn (K:Frag)(B D:Addr):Prop where
 own:zlQ K D
 ga:findIn K (.ref D) "__getattribute__"=some (some (.builtin "BaseException.__getattribute__"))
 gt:findIn K (.ref D) "__getattr__"=some none
 ca:findIn K (.ref D) "__class__"=some (some (.builtin "object.__class__"))
 mro:(PySem.W.clsIn K D).map (·.mro)=some (.ref D::.ref B::zhW)
section
variable {K:Frag}{B C D:Addr}
theorem Pn.mroIn (x:Pn K B D)(v:Value):PySem.W.mroIn K D v=some ((Value.ref D::.ref B::zhW).contains v):=by
 have m:=x.mro
 unfold PySem.W.mroIn
 cases h:PySem.W.clsIn K D with
 | none=>rw[h] at m;cases m
 | some cd =>
  rw[h] at m
  have e:cd.mro=.ref D::.ref B::zhW:=ztN m
  show(if cd.mro.isEmpty=true then none else some (cd.mro.contains v))=_
  rw[e]
  rfl
theorem Pn.zqm (x:Pn K B D):zeq K D:=⟨x.ga,x.gt,x.ca,by rw[x.mroIn];rfl,by rw[x.mroIn];rfl,by
 have m:=x.mro
 cases h:PySem.W.clsIn K D with
 | none=>rw[h] at m;cases m
 | some cd=>rfl⟩
theorem za8 (q:Mx K C)(t:Value):PySem.W.kitCls K t (.ref C)=PySem.W.subIn K t (.ref C):=by
 show(if ((PySem.W.clsIn K C).isSome&&PySem.W.typeIn K (.ref C)==some (.type "type"))=true then PySem.W.subIn K t (.ref C) else none)=_
 rw[if_pos (by rw[q.cl,q.ty];rfl)]
theorem zjn:PySem.W.kitOne K (.ref D) (.ref D)=some true:=by
 unfold PySem.W.kitOne
 rw[if_pos (by simp)]
theorem zm4 (x:Pn K B D)(q:Mx K C)(h1:D≠C)(h2:B≠C):PySem.W.kitOne K (.ref D) (.ref C)=some false:=by
 unfold PySem.W.kitOne
 rw[if_neg (by simpa using h1),za8 q]
 show PySem.W.mroIn K D (.ref C)=some false
 rw[x.mroIn]
 have e1:(Value.ref C==Value.ref D)=false:=by simpa using Ne.symm h1
 have e2:(Value.ref C==Value.ref B)=false:=by simpa using Ne.symm h2
 rw[List.contains_cons,List.contains_cons,e1,e2]
 rfl
theorem U6 (x:Pn K B D)(q:Mx K C)(h2:B≠C):PySem.W.kitOne K (.ref D) (.ref C)=some (decide (D=C)):=by
 by_cases z:D=C
 ·subst z;rw[zjn];simp
 ·rw[zm4 x q z h2];simp[z]
theorem zm5 (x:Pn K B D):PySem.W.kitOne K (.ref D) (.type "ValueError")=some true:=by
 unfold PySem.W.kitOne
 rw[if_neg (by simp)]
 unfold PySem.W.kitCls
 have h:PySem.W.kitMeta "ValueError"=true:=by decide +kernel
 show(if PySem.W.kitMeta "ValueError"=true then PySem.W.subIn K (.ref D) (.type "ValueError") else none)=_
 rw[if_pos h]
 show PySem.W.mroIn K D (.type "ValueError")=_
 rw[x.mroIn]
 rfl
theorem zjo (b:zm3 K B)(x:Pn K B D):PySem.W.exmOne K (.ref D) (.ref B)=some true:=by
 unfold PySem.W.exmOne
 have e:PySem.W.subIn K (.ref B) (.type "BaseException")=some true:=b.bx
 rw[e,if_pos (by rfl),za8 ⟨b.cl,b.ty⟩]
 show PySem.W.mroIn K D (.ref B)=_
 rw[x.mroIn]
 simp
end
theorem zk0 {K:Frag}{C:Addr}(cl:PySem.W.isClsIn K C=true)(ty:PySem.W.typeIn K (.ref C)=some (.type "type")):Mx K C:=⟨cl,ty⟩
theorem zk1 {K:Frag}{C:Addr}(cl:PySem.W.isClsIn K C=true)(ty:PySem.W.typeIn K (.ref C)=some (.type "type"))(bx:PySem.W.mroIn K C (.type "BaseException")=some true):zm3 K C:=⟨cl,ty,bx⟩
theorem zk2 {K:Frag}{B C:Addr}(ow:PySem.W.excIn K C zhW "ValueError.__new__"=true)(ga:findIn K (.ref C) "__getattribute__"=some (some (.builtin "BaseException.__getattribute__")))(gt:findIn K (.ref C) "__getattr__"=some none)(ca:findIn K (.ref C) "__class__"=some (some (.builtin "object.__class__")))(mr:(PySem.W.clsIn K C).map (·.mro)=some (.ref C::.ref B::zhW)):Pn K B C:=⟨ow,ga,gt,ca,mr⟩
end L2
namespace uY
open PySem L2 yL
def zoF:Sp:=fun _ _ _ _=>False
theorem _root_.L2.zy.no {P:Program}{w:World}{K:Frag}{mg:Str->Option Value}{base:Heap}{CX:CXT}{k:Nat}{f:Addr}{fd:FuncData}{ps:List Str}:zy P w K mg base CX k f fd ps zoF :=
 ⟨fun _ _ _ _ h=>h.elim,fun _ _ _ _ _ _ _ _ _ _ _ _ _ h=>h.elim⟩
abbrev Small (i:Int):Prop:=i.natAbs.log2<1920
def Bad (n:Nat)(i:Int):Prop:=i<0\/(n:Int)<=i
inductive W5 (C D:Addr)(vs:List V)(H:Hp)(Q9:VK)(E:XK):Prop
 | mk (b:Addr) (os:List Str) (rs:List Rm) (F:yQ) (i:Int) (_:vs=[.ref b,.int i]) (_:z7 C H b os rs F) (_:Bad rs.length i) (_:Small i) (_:E (.ref D) none H):W5 C D vs H Q9 E
def zhk (C D:Addr):Sp:=fun vs H Q E=>wJ C vs H Q E\/W5 C D vs H Q E
theorem zjp {i:Int}(h:i.natAbs<2^1000):Small i:=by
 unfold Small
 by_cases z:i.natAbs=0
 ·rw[z];decide
 ·exact ztr ((Nat.log2_lt z).mpr h) (by decide)
end uY
namespace L2
open PySem PySem.Spec PyProof.Rows
theorem zk3 {ex:Addr}{n:Nat}{σ:St}{js:List Nat}{tt:TT}{te:TE}{H:Hp}{Qf:Addr->Hp->List V->Prop}(Pv:Nat->List V->Hp->Prop)(h0:Pv 0 [] H)(hz:n<=sizeLine)(hl:∀i ys H,i<=n->Pv i ys H->ys.length<=i)
  (hx:∀ys H,Pv n ys H->∃D,H ex=some (zbC ex D))
  (hs:∀(i:Nat) ys H (N1:V->Hp->Prop) (N2:Hp->Prop),i<n->Pv i ys H->(∀v H3,Pv (i+1) (ys++[v]) H3->N1 v H3)->(∀H2,Pv (i+1) ys H2->N2 H2) ->
   tt (Yi σ js (some (.int ((0:Int)+i)))) H fun b H2=>if b=true then te (Yi σ js (some (.int ((0:Int)+i)))) H2 N1 else N2 H2)
  (hd:∀ys H p,Pv n ys H->H p=none->Qf p H ys) :
  ∃W:Nat->Nat->List V->Hp->Prop,(∃m,W 0 m [] H)/\∀i m ys H,W i m ys H ->
   ((zhX ex 0 n).stop i H/\∀p,H p=none->Qf p H ys) \/
   ((zhX ex 0 n).go i H/\ys.length<sizeLine/\∀x H',(zhX ex 0 n).Ni i H x H'->tt (Yi σ js (some x)) H' fun b H2 =>
    if b=true then te (Yi σ js (some x)) H2 fun v H3=>∃m',m'<m/\W (i+1) m' (ys++[v]) H3 else ∃m',m'<m/\W (i+1) m' ys H2):=by
 refine⟨fun i m ys H=>m=n-i/\i<=n/\Pv i ys H,⟨n,by simp,ztF _,h0⟩,?_⟩
 rintro i m ys H ⟨rfl,hi,p⟩
 have hy:=hl i ys H hi p
 by_cases hlt:i<n
 ·refine .inr ⟨hlt,by omega,fun x H' y=>?_⟩
  obtain⟨e,y⟩:=y
  subst e y
  exact hs i ys _ _ _ hlt p (fun v H3 p3=>⟨_,Nat.sub_lt_sub_left hlt (Nat.lt_succ_self i),rfl,hlt,p3⟩) (fun H2 p2=>⟨_,Nat.sub_lt_sub_left hlt (Nat.lt_succ_self i),rfl,hlt,p2⟩)
 ·have e:i=n:=by omega
  subst e
  exact .inl ⟨⟨zty _,hx ys H p⟩,fun q hq=>hd ys H q p hq⟩
end L2
namespace uY
open PySem L2 yL
def Xg:List Str:=["order", "mark", "room", "row", "number", "weights", "shares", "cover", "great"]
inductive Mz (K:Frag)(B:Addr)(cs:List Addr)(e:Addr)(vs:List V)(H:Hp)(Q:VK)(E9:XK):Prop
 | mk (D:Addr) (n:Nat) (_:vs=[.ref e]) (_:H e=some (zbC e D)) (_:Pn K B D) (_:n<9) (_:cs.map (fun C=>decide (D=C))=(List.range 9).map (fun i=>decide (i=n))) (_:∀(t l:Addr) (H':Hp),Same H H'->H' t=some (.tup [.str "refused", .ref l])->H' l=some (.lst [.str (Xg.getD n "")])->Q (.ref t) H'):Mz K B cs e vs H Q E9
inductive zhl (K:Frag)(vs:List V)(H:Hp)(Q:VK)(E9:XK):Prop
 | mk (t l:Addr) (x:Str) (_:vs=[.ref t,.str x]) (_:H t=some (.tup [.str "refused", .ref l])) (_:z6 K H l [.str x]) (_:∀H',Same H H'->Q (.bl true) H'):zhl K vs H Q E9
inductive wY (C D:Addr)(n:Nat)(vs:List V)(H:Hp)(Q9:VK)(E:XK):Prop
 | mk (b:Addr) (os:List Str) (rs:List Rm) (F:yQ) (i:Int) (xs:List V) (_:vs=.ref b::.int i::xs) (_:xs.length=n) (_:z7 C H b os rs F) (_:Bad rs.length i) (_:Small i) (_:∀H',Same H H'->E (.ref D) none H'):wY C D n vs H Q9 E
end uY
namespace L2
open PySem PySem.Spec PyProof.Rows
section
variable {X:Cx}
theorem zm6 {K:Frag}(hK:X.K=K)(hu:X.A.units+8<cLine):Vj X (compareOp .NotEq) (fun x y H Q=>rNe x y H Q\/∃b,¬(wQ x=true/\wQ y=true)/\EqD K H 8 x y b/\Q (.bl (!b)) H):=Vj.or Nv (zmL hK hu)
end
theorem ifN {i j:Int}{A B:Prop}(n:i≠j)(h:B):if decide (V.int i=V.int j)=true then A else B:=by
 rw[if_neg]
 ·exact h
 ·intro c
  injection of_decide_eq_true c with e
  exact n e
theorem ifY {i:Int}{A B:Prop}(h:A):if decide (V.int i=V.int i)=true then A else B:=by
 rw[if_pos (decide_eq_true rfl)]
 exact h
end L2
namespace uY
open PySem L2 yL
theorem zlR {l:List Addr}(h:l.Nodup){n:Nat}{c:Addr}(e:l[n]?=some c):l.map (fun C=>decide (c=C))=(List.range l.length).map (fun i=>decide (i=n)):=by
 obtain⟨hn,rfl⟩:=ztl.mp e
 have p:=List.pairwise_iff_getElem.mp h
 refine List.ext_getElem (by rw[zti,zti,ztA]) fun i h1 h2=>?_
 rw[zti] at h1
 rw[List.getElem_map,List.getElem_map,List.getElem_range]
 rcases Nat.lt_trichotomy i n with z | z | z
 ·rw[decide_eq_false (Ne.symm (p i n h1 hn z)),decide_eq_false (ztx z)]
 ·subst z;rw[decide_eq_true rfl,decide_eq_true rfl]
 ·rw[decide_eq_false (p n i hn h1 z),decide_eq_false (Nat.ne_of_gt z)]
end uY
namespace L2
open PySem PySem.Spec PyProof.Rows
section
variable {K:Frag}{σ:St}{js:List Nat}{tt:TT}{te:TE}{H:Hp}{Qf:Addr->Hp->List V->Prop}
def sgs (x:Str):List V:=x.cps.toList.map fun c=>V.str ⟨#[c]⟩
end
end L2
namespace L2
open PySem PySem.Spec PyProof.Rows PySem.Builtin PySem.Builtin.Str
def zjq (x:Str):It:={ go:=fun i _=>i<x.cps.size,Ni:=fun i H v H'=>∃p c,x.cps[i]?=some c/\v=.ref p/\H p=none/\H'=upd H p (.tup [.int (i:Nat),.str ⟨#[c]⟩]),stop:=fun i _=>i=x.cps.size }
theorem zf1 {P:Program}{w:World}{K:Frag}{els:List Expr}{x1}{pt:Pos}(x:Str)(t:Tok)(e it:Addr)(hne:e≠it):Turn P w K (.Tuple els x1 pt) (zjq x) [e,it] e (fun i h=>(∃old,IsEnum h e it (i:Nat) old)/\h.IsStrIter it "str_ascii_iterator" x t i) where
 mem:=by simp
 obj:=fun i h st b hb=>by
  rcases List.mem_cons.mp hb with z | z
  ·obtain⟨⟨old,q⟩,_⟩:=st
   rw[z]
   exact⟨_,q,fun v hv=>by cases hv⟩
  ·have z':b=it:=by simpa using z
   obtain⟨_,o,q,c,d⟩:=st
   rw[z']
   exact⟨o,q,fun v hv=>by rw[d] at hv;cases hv⟩
 keep:=fun i h h' st k=>by
  obtain⟨⟨old,q⟩,o,q2,c,d⟩:=st
  exact⟨⟨old,k e (by simp) _ q⟩,o,k it (by simp) o q2,c,d⟩
 item:=by
  intro X hP hw hK hc i pins s σ H E I hf st hg
  subst hP hw hK
  obtain⟨⟨old,he⟩,hit⟩:=st
  have D:=Draws.strAscii (prog:=X.prog) (w:=X.w) (A:=X.A.in1) (I.ok.hd hc) it x t
  refine wpAny_pyNext_enum_itemD D he hit hg hne (by simpa using hne) fun u h1 tk hu out hit1 tup sz k1=>?_
  obtain⟨c,u',hc',rfl⟩:=hu
  refine⟨.ref s.heap.objs.size,rfl,wpAny_letOwnedTupleGo_enum out fun h2 he2 sb=>?_⟩
  have lte:=ztp he
  have k2:∀b o,b∉[e,it]->s.heap.get? b=some o->h2.get? b=some o:=fun b o hb q=>by
   have hb':b≠e/\b≠it:=by simpa using hb
   exact(sb.2 b hb'.1).trans (k1 b o hb'.1 hb'.2 q)
  have hit2:h2.IsStrIter it "str_ascii_iterator" x t (i+1):=by
   obtain⟨o,q,a,b⟩:=hit1
   exact⟨o,(sb.2 it (Ne.symm hne)).trans q,a,b⟩
  have J1:Inv X pins σ H { s with heap:=h2,toks:=tk+1 }:=I.zgV (fp:=[e,it]) k2 (fun b hb=>by
   rcases List.mem_cons.mp hb with z | z
   ·rw[z];exact⟨_,he2⟩
   ·have z':b=it:=by simpa using z
    obtain⟨o,q,_⟩:=hit2
    rw[z'];exact⟨o,q⟩) hf
  have zmP:h2.get? s.heap.objs.size=some { cls:=.type "tuple", data:=.seq #[.int i tk,.str ⟨#[c]⟩ u'] }:=(sb.2 _ (Nat.ne_of_gt lte)).trans tup
  have ltc:∀y c,X.env.cells.lookup y=some c->c≠s.heap.objs.size:=fun y c q=>by
   obtain⟨v,o,z,_⟩:=I.cell y c q
   exact ztx (ztp z)
  have ltp:∀p∈X.pn++pins,p.1≠s.heap.objs.size:=fun p hp=>ztx (ztp (I.pin p hp).1)
  have J2:=J1.track (a:=s.heap.objs.size) (o:=.tup [.int (i:Nat),.str ⟨#[c]⟩]) I.fresh (Ne.symm (ztx I.lt)) I.sz ltc ltp ⟨by show 2<=sizeLine;decide,[.int i tk,.str ⟨#[c]⟩ u'],.cons ⟨_,rfl⟩ (.cons ⟨_,rfl⟩ .nil),⟨_,zmP,rfl,_,rfl⟩⟩
  refine⟨.ref s.heap.objs.size,_,J2,rfl,⟨_,c,hc',rfl,I.fresh,rfl⟩,⟨⟨.str ⟨#[c]⟩ u',?_⟩,hit2⟩,fun b hb=>?_⟩
  ·have:=he2
   simpa using this
  ·have lb:b<s.heap.objs.size:=by
    rcases List.mem_cons.mp hb with z | z
    ·rw[z];exact lte
    ·have z':b=it:=by simpa using z
     obtain⟨o,q,_⟩:=hit
     rw[z'];exact ztp q
   rw[zE (ztx lb)]
   exact(hf b hb).1
 done:=by
  intro X hP hw hK hc i pins s σ H E I hf st hg
  subst hP hw hK
  have e:i=x.cps.size:=hg
  subst e
  obtain⟨⟨old,he⟩,hit⟩:=st
  obtain⟨f0,f1,f2,f3,f4,f5⟩:=hf it (by simp)
  have D:=Draws.strAscii (prog:=X.prog) (w:=X.w) (A:=X.A.in1) (I.ok.hd hc) it x t
  exact wpAny_pyNext_enum_endD D he hit fun h' eb=>⟨rfl,I.turned (t':=s.toks) (fun b o hb q=>eb b o hb q) f0 f1 f3 f4 f5⟩
 self:=fun _ _ _ _ _ st h=>let ⟨⟨_,he⟩,_⟩:=st;wpAny_pyIter_enum he h
section
variable {X:Cx}
def zm9 (ta:TA):TI:=fun σ H R=>ta σ H fun vs H1=>∃x:Str,vs=[.str x]/\(x.cps.all fun c=>decide (c<128))=true/\R (zjq x) H1
theorem zeu {l:Expr}{ta:TA}{p pos:Pos}{els:List Expr}{x1}{pt:Pos}(hg:Gl X "enumerate")(hm:X.mg "enumerate"=none)(ha:PA X [l] ta)(hs:starEach [l] X.env=[(false,eval l X.env)]:=by rfl) :
  PI X (.Tuple els x1 pt) (.Call (.Name "enumerate" p) [l] [] pos) (zm9 ta):=by
 intro pins s σ H R I h
 refine Call_ (Wd I hg hm boot_enumerate (PyProof.Rows.callWith_type1 (wI (ha pos pins s σ H _ I h) fun us s1 ⟨vs,H1,I1,r1,q1⟩=>?_) hs rfl))
 obtain⟨x,e,asc,q⟩:=q1
 subst e
 obtain⟨u,rfl,ru⟩:=vals1 r1
 obtain⟨t,rfl⟩:=ru
 refine call_enumerate_str fun h' he hit hsz hk=>?_
 have ht:strIterType x="str_ascii_iterator" := by
  unfold strIterType
  rw[if_pos asc]
 rw[ht] at hit
 have J:Inv X pins σ H1 { s1 with heap:=h',toks:=s1.toks }:=I1.kept hk
 refine wpAny_pyIter_enum he ?_
 refine⟨s1.heap.objs.size+1,[s1.heap.objs.size+1,s1.heap.objs.size],_,_,H1,rfl,J,zf1 x t _ _ (Nat.ne_of_gt (Nat.lt_succ_self _)),⟨⟨_,he⟩,hit⟩,fun b hb=>?_,q⟩
 have gb:s1.heap.objs.size<=b:=by
  rcases List.mem_cons.mp hb with z | z
  ·rw[z];exact Nat.le_succ _
  ·have z':b=s1.heap.objs.size:=by simpa using z
   rw[z'];exact zty _
 exact I1.zdU gb (I1.hok.fresh gb)
end
def zoG (i:Nat)(wi:TI)(xs:List Str)(js:List Nat)(g:TG)(tt:TT)(te:TE):TS:=fun D σ H=>zmu wi xs js g tt te σ H fun v H1=>D.nx (σ.set i (some v)) H1
theorem zhZ {X:Cx}{sc uD:Scope}{xs:List Str}{js:List Nat}{tg:Expr}{g:TG}{elt iter:Expr}{pos:Pos}{ifs:List Expr}{wi:TI}{tt:TT}{te:TE}{i:Nat}{y:Str}{py spos:Pos}(hN:X.N.Nodup)(hy:X.N[i]?=some y)(hl:Loc X.env.scope y)(hf:X.fn y=true\/X.env.scope.names.lookup y=some .local)
  (Wg:X.env.scope=uD)(L:zd3 uD sc xs (js.map fun j=>X.N.getD j ""))(hc:X.calm=true)(hi:PI X tg iter wi)(hg:∀(cl:List (Str×Addr)) (C:Addr) (s₂:Shared) (H₂:Hp) (fp:List Addr),PG (X.blk sc cl C (Sd X xs js) s₂ H₂ fp) tg g)(hjs:∀j∈js,j<X.N.length)
  (ht:∀(cl:List (Str×Addr)) (C:Addr) (s₂:Shared) (H₂:Hp) (fp:List Addr) (pins:List (Addr×Obj)) (s':Shared) (σ':St) (H':Hp) (Q:Bool->Hp->Prop),Inv (X.blk sc cl C (Sd X xs js) s₂ H₂ fp) pins σ' H' s'->tt σ' H' Q ->
   wpAny (model X.prog X.w) X.A (ZL ifs (compEnvC sc cl C X.env)) (TP (X.blk sc cl C (Sd X xs js) s₂ H₂ fp) pins σ' Q) (fun _ _=>False) s')
  (he:∀(cl:List (Str×Addr)) (C:Addr) (s₂:Shared) (H₂:Hp) (fp:List Addr),PE (X.blk sc cl C (Sd X xs js) s₂ H₂ fp) elt te)
  (hsw:swapsWith (.ListComp elt [⟨tg,iter,ifs,0⟩] sc pos) (some (.Name y py)) spos.line X.env=pure true)(hs:∀x,foldedSetIterable iter X.env x=pure x:=by intro _;rfl) :
  PS X (.Assign [.Name y py] (.ListComp elt [⟨tg,iter,ifs,0⟩] sc pos) spos) (zoG i wi xs js g tt te):=by
 intro pins s σ H D I h
 rw[exec_Assign_Name_used _ _ _ _ hsw]
 refine wpAny_bind (wpAny_standAt (wpAny_bind ?_))
 show wpAny _ _ (do let _ <-comprehension (.ListComp elt [⟨tg,iter,ifs,0⟩] sc pos) sc X.env _ (newList []) false (eval iter X.env) (some (assign (.Name y py) X.env))) _ _ s
 have pg:=yO (X:=X) (i:=i) (x:=y) (pos:=py) hN hy hl hf
 refine wpAny_bind (wpAny_mono (zaI (use:=some (assign (.Name y py) X.env)) (QQ:=fun _ z=>SP X pins D .next z) (Fin:=fun ys H=>∀p,H p=none->D.nx (σ.set i (some (.ref p))) (upd H p (.lst ys))) Wg L (rd:=Calm) (fun _ _ _ _ _ _ _=>hc) hi hg hjs ht he hs I h fun A C s5 H5 ys its k m5 J oD oC hDC p1 vs z hn fin=>?_) (fun _ z hq=>wpAny_pure (wpAny_pure hq)) fun _ _ e=>e)
 have J1:Inv X pins σ (upd H5 A (.lst ys)) s5:=J.track oD.free oD.loc oD.new oD.cel oD.pin ⟨z,its,k,vs,p1⟩
 obtain⟨oc,es,ep,hC,hd,hr⟩:=hn
 have Uy:∀v,oc.data≠.cell v:=fun v q=>by rw[hd] at q;cases q
 have hCA:C≠A:=Ne.symm hDC
 have fC:(upd H5 A (.lst ys)) C=none:=by rw[zE hCA];exact oC.free
 have J2:Inv X (pins++[(C,oc)]) σ (upd H5 A (.lst ys)) s5:=J1.Xn fun p hp=>(List.mem_append.mp hp).elim (fun q=>J1.pin p (ztz _ q)) fun q=>by
  have e:p=(C,oc):=by simpa using q
  subst e
  exact⟨hC,fC,oC.loc,oC.fs,Uy⟩
 refine wpAny_mono (pg _ s5 σ _ (.ref A) (.ref A) (fun σ6 H6=>σ6=σ.set i (some (.ref A))/\H6=upd H5 A (.lst ys)) J2 rfl ⟨rfl,rfl⟩) (fun _ s6 ⟨σ6,H6,I6,e1,e2⟩=>?_) fun _ _ e=>e
 subst e1 e2
 obtain⟨c1,c2,_⟩:=I6.pin (C,oc) (ztz _ (ztz _ (by simp)))
 refine⟨m5,⟨oc,es,ep,c1,hd,hr⟩,fun h' hsb=>?_⟩
 have J3:Inv X pins (σ.set i (some (.ref A))) (upd H5 A (.lst ys)) s6:=I6.Xn fun p hp=>I6.pin p (ztz _ (List.mem_append_left _ hp))
 have J4:Inv X pins (σ.set i (some (.ref A))) (upd H5 A (.lst ys)) { s6 with heap:=h',toks:=s6.toks }:=J3.turned (it:=C) (fun b o hb e=>hsb.extBut b o hb e) c2 oC.loc (.inr oC.new) oC.cel oC.pin
 exact⟨_,_,J4,fin A oD.free⟩
theorem zf2 {X:Cx}{sc uD:Scope}{x y:Str}{js:List Nat}{elt iter c:Expr}{px py pt pos:Pos}{x1:Nat}{wi:TI}{te:TE}{tt:TT}{i:Nat}{z:Str}{pz spos:Pos}(hN:X.N.Nodup)(hz:X.N[i]?=some z)(hl:Loc X.env.scope z)(hf:X.fn z=true\/X.env.scope.names.lookup z=some .local)(Wg:X.env.scope=uD)(L:zha uD sc x y (js.map fun j=>X.N.getD j ""))(hc:X.calm=true)(hi:PI X (.Tuple [.Name x px,.Name y py] x1 pt) iter wi)(hjs:∀j∈js,j<X.N.length)
  (ht:∀(cl:List (Str×Addr)) (C:Addr) (s₂:Shared) (H₂:Hp) (fp:List Addr),PT (X.blk sc cl C (Sd X [x,y] js) s₂ H₂ fp) c tt)
  (he:∀(cl:List (Str×Addr)) (C:Addr) (s₂:Shared) (H₂:Hp) (fp:List Addr),PE (X.blk sc cl C (Sd X [x,y] js) s₂ H₂ fp) elt te)
  (hsw:swapsWith (.ListComp elt [⟨.Tuple [.Name x px,.Name y py] x1 pt,iter,[c],0⟩] sc pos) (some (.Name z pz)) spos.line X.env=pure true)(hs:∀x,foldedSetIterable iter X.env x=pure x:=by intro _;rfl) :
  PS X (.Assign [.Name z pz] (.ListComp elt [⟨.Tuple [.Name x px,.Name y py] x1 pt,iter,[c],0⟩] sc pos) spos) (zoG i wi [x,y] js (ziv X.K 2 (Nr (W0 0) (Nr (W0 1) ziu))) tt te) :=
 zhZ hN hz hl hf Wg L.g hc hi (fun cl C s₂ H₂ fp=>zg9 (X:=X.blk sc cl C (Sd X [x,y] js) s₂ H₂ fp) hc L.nd rfl rfl (lookup_relabel_local L.hx) (lookup_relabel_local L.hy)) hjs (fun cl C s₂ H₂ fp pins s' σ' H' Q I h=>wpAny_tests_one (ht cl C s₂ H₂ fp pins s' σ' H' Q I h)) he hsw hs
theorem zjr {K:Frag}{x:Str}{σ:St}{js:List Nat}{tt:TT}{te:TE}{H:Hp}{Qf:Addr->Hp->List V->Prop}{u v:Str}(Pv:Nat->List V->Hp->Prop)(h0:Pv 0 [] H)(hz:x.cps.size<=sizeLine)(hl:∀i ys H,Pv i ys H->ys.length<=i)
  (hs:∀(i:Nat) (c:Nat) ys H (p:Addr) (Q1:V->Hp->Prop) (Q2:Hp->Prop),x.cps[i]?=some c->Pv i ys H->H p=none->(∀z H3,Pv (i+1) (ys++[z]) H3->Q1 z H3)->(∀H2,Pv (i+1) ys H2->Q2 H2) ->
   tt (lcT σ js [some (.int (i:Nat)),some (.str ⟨#[c]⟩)]) (upd H p (.tup [.int (i:Nat),.str ⟨#[c]⟩])) fun b H2=>if b=true then te (lcT σ js [some (.int (i:Nat)),some (.str ⟨#[c]⟩)]) H2 Q1 else Q2 H2)
  (hd:∀ys H p,Pv x.cps.size ys H->H p=none->Qf p H ys) :
  ∃W:Nat->Nat->List V->Hp->Prop,(∃m,W 0 m [] H)/\∀i m zs H,W i m zs H ->
   ((zjq x).stop i H/\∀p,H p=none->Qf p H zs) \/
   ((zjq x).go i H/\zs.length<sizeLine/\∀w H',(zjq x).Ni i H w H'->∀o0:List (Option V),o0.length=[u,v].length->ziv K 2 (Nr (W0 0) (Nr (W0 1) ziu)) w (lcT σ js o0) H' fun σ2 H1=>∃o1,σ2=lcT σ js o1/\o1.length=[u,v].length/\tt σ2 H1 fun b H2 =>
    if b=true then te σ2 H2 fun v H3=>∃m',m'<m/\W (i+1) m' (zs++[v]) H3 else ∃m',m'<m/\W (i+1) m' zs H2):=by
 refine⟨fun i m ys H=>m=x.cps.size-i/\i<=x.cps.size/\Pv i ys H,⟨x.cps.size,by simp,ztF _,h0⟩,?_⟩
 rintro i m ys H ⟨rfl,hi,pv⟩
 have hy:=hl i ys H pv
 by_cases hlt:i<x.cps.size
 ·refine .inr ⟨hlt,by omega,fun w H' y o0 l0=>?_⟩
  obtain⟨p,c,hc,rfl,hp,rfl⟩:=y
  have eσ:((lcT σ js o0).set 0 (some (.int (i:Nat)))).set 1 (some (.str ⟨#[c]⟩))=lcT σ js [some (.int (i:Nat)),some (.str ⟨#[c]⟩)]:=by
   match o0,l0 with
   | [a0,a1],_=>rfl
  refine⟨p,_,rfl,vQ.of zj,rfl,_,_,rfl,_,_,rfl,rfl,[some (.int (i:Nat)),some (.str ⟨#[c]⟩)],eσ,rfl,?_⟩
  rw[eσ]
  exact hs i c ys H p _ _ hc pv hp (fun z H3 p3=>⟨_,Nat.sub_lt_sub_left hlt (Nat.lt_succ_self i),rfl,hlt,p3⟩) (fun H2 p2=>⟨_,Nat.sub_lt_sub_left hlt (Nat.lt_succ_self i),rfl,hlt,p2⟩)
 ·have e:i=x.cps.size:=by omega
  subst e
  exact .inl ⟨rfl,fun p hp=>hd ys H p pv hp⟩
section
variable {X:Cx}
theorem zhm:∀{xs:List Str} {l:List Value},Vals (xs.map V.str) l->∃ps:List (Str×Tok),l=strValues ps/\ps.map (·.1)=xs
 | [],_,.nil=>⟨[],rfl,rfl⟩
 | x::xs,_,.cons r rs=>by
  obtain⟨ps,e,e2⟩:=zhm rs
  obtain⟨t,rfl⟩:=r
  exact⟨(x,t)::ps,by rw[e];rfl,by rw[ztH,e2]⟩
end
end L2
namespace uY
open PySem L2 yL
abbrev Cb:=List (Option Bool)
def Qd:Option Bool->Nat
 | none=>45
 | some false=>48
 | some true=>49
def cbS (q:Cb):Str:=⟨(q.map Qd).toArray⟩
theorem zk4:∀{a b:Option Bool},Qd a=Qd b->a=b:=fun {a b} h=>by
 cases a with
 | none=>cases b with
  | none=>rfl
  | some y=>cases y<;>exact absurd h (by decide)
 | some x=>cases b with
  | none=>cases x<;>exact absurd h (by decide)
  | some y=>cases x<;>cases y<;>first | rfl | exact absurd h (by decide)
theorem Ri (q:Cb):(cbS q).cps.size=q.length:=by
 show(q.map Qd).toArray.size=_
 simp
theorem xR (q:Cb):(cbS q).length=q.length:=Ri q
theorem MF (q:Cb):(cbS q).cps.toList=q.map Qd:=rfl
theorem U7 (q:Cb):((cbS q).cps.all fun c=>decide (c<128))=true:=by
 rw[Array.all_eq_true_iff_forall_mem]
 intro c hc
 have hc:c∈(q.map Qd).toArray:=hc
 rw[List.mem_toArray] at hc
 obtain⟨s,_,rfl⟩:=List.mem_map.mp hc
 exact decide_eq_true (by cases s with
  | none=>decide
  | some b=>cases b<;>decide)
theorem zjs {q:Cb}{i c:Nat}(h:(cbS q).cps[i]?=some c):∃s,q[i]?=some s/\c=Qd s:=by
 have h:(q.map Qd).toArray[i]?=some c:=h
 rw[List.getElem?_toArray,ztk] at h
 cases e:q[i]? with
 | none=>rw[e] at h;cases h
 | some s=>rw[e] at h;exact⟨s,rfl,(ztN h).symm⟩
theorem zk5 {q:Cb}{i:Nat}{s:Option Bool}(h:q[i]?=some s):(cbS q).cps.toList[i]?=some (Qd s):=by
 rw[MF,ztk,h];rfl
theorem zar {q r:Cb}(h:cbS q=cbS r):q=r:=by
 have:q.map Qd=r.map Qd:=by
  have e:=congrArg (fun x:Str=>x.cps.toList) h
  exact e
 exact map_inj' this
where
 map_inj':∀{q r:Cb},q.map Qd=r.map Qd->q=r
  | [],[],_=>rfl
  | [],_::_,h=>by cases h
  | _::_,[],h=>by cases h
  | a::q,b::r,h=>by
   rw[ztH,ztH] at h
   injection h with h1 h2
   rw[zk4 h1,map_inj' h2]
theorem zas (q r:Cb):cbS q++cbS r=cbS (q++r):=by
 show(⟨(q.map Qd).toArray++(r.map Qd).toArray⟩:Str)=⟨((q++r).map Qd).toArray⟩
 rw[ztw,List.append_toArray]
theorem dash:Str.ofString "-"=cbS [none]:=by decide +kernel
theorem sr1 {a b:Nat}(h:a<=b):sliceRange (a:Int) (b:Int) 1=List.range' a (b-a):=by
 unfold sliceRange
 have e:(if (1:Int) > 0 then (if (a:Int)<b then ((b:Int)-a+1-1) / 1 else 0) else (if (a:Int) > b then ((a:Int)-b-1-1) / (-1) else 0)).toNat=b-a:=by
  rw[if_pos (by decide)]
  split
  ·rw[Int.ediv_one];omega
  ·show(0:Int).toNat=_
   rw[Int.toNat_zero];omega
 dsimp only
 rw[e,List.range'_eq_map_range]
 refine List.map_congr_left fun k _=>?_
 omega
theorem zew (xs:List Nat):∀(a m:Nat),a+m<=xs.length->(List.range' a m).filterMap (xs[·]?)=(xs.drop a).take m
 | a,0,_=>by simp
 | a,m+1,h=>by
  rw[List.range'_succ,List.filterMap_cons,ztj (by omega)]
  dsimp only
  rw[zew xs (a+1) m (by omega),List.drop_eq_getElem_cons (by omega:a<xs.length),List.take_succ_cons]
theorem zex {x:Str}{lo hi:Option Int}{a b:Nat}(h:a<=b)(hb:b<=x.length)(e:Builtin.Str.strSliceIndices lo hi 1 x.length=sliceRange (a:Int) (b:Int) 1):Txt.slice x lo hi=⟨((x.cps.toList.drop a).take (b-a)).toArray⟩:=by
 unfold Txt.slice
 rw[e,sr1 h]
 have ls:x.cps.toList.length=x.length:=Array.length_toList
 split
 ·rename_i w
  have w2:(List.range' a (b-a)).length=x.length:=by simpa using w
  rw[List.length_range'] at w2
  have a0:a=0:=by omega
  have bn:b=x.length:=by omega
  subst a0
  rw[List.drop_zero,List.take_of_length_le (by omega)]
 ·congr 2
  have:=zew x.cps.toList a (b-a) (by omega)
  rw[<-this]
  exact congrArg (fun f=>List.filterMap f (List.range' a (b-a))) (funext fun i=>(Array.getElem?_toList).symm)
theorem zf3 {x:Str}{i:Nat}(h:i<=x.length):Txt.slice x none (some (i:Int))=⟨(x.cps.toList.take i).toArray⟩:=by
 have:=zex (x:=x) (lo:=none) (hi:=some (i:Int)) (a:=0) (b:=i) (ztF _) h (by
  unfold Builtin.Str.strSliceIndices
  dsimp only
  simp only[show(1:Int) > 0 by decide,if_true]
  rw[if_neg (by omega:¬(i:Int)<0)]
  congr 1
  omega)
 rw[List.drop_zero,Nat.sub_zero] at this
 exact this
theorem zf4 {x:Str}{i:Nat}(h:i<=x.length):Txt.slice x (some (i:Int)) none=⟨(x.cps.toList.drop i).toArray⟩:=by
 have:=zex (x:=x) (lo:=some (i:Int)) (hi:=none) (a:=i) (b:=x.length) h (zty _) (by
  unfold Builtin.Str.strSliceIndices
  dsimp only
  simp only[show(1:Int) > 0 by decide,if_true]
  rw[if_neg (by omega:¬(i:Int)<0)]
  congr 1
  omega)
 rw[List.take_of_length_le (by rw[List.length_drop];have:x.cps.toList.length=x.length:=Array.length_toList;omega)] at this
 exact this
theorem zk6 {q:Cb}{i:Nat}(h:i<=q.length):Txt.slice (cbS q) none (some (i:Int))=cbS (q.take i):=by
 rw[zf3 (by rw[xR];exact h),MF,<-List.map_take]
 rfl
theorem zhn {q:Cb}{i:Nat}(h:i<=q.length):Txt.slice (cbS q) (some (i:Int)) none=cbS (q.drop i):=by
 rw[zf4 (by rw[xR];exact h),MF,<-List.map_drop]
 rfl
def Xr (q:Cb)(b:Nat):Bool:=(List.range q.length).all fun i=>match q.getD i none with
 | none=>true
 | some v=>b.testBit i==v
def KC (q:Cb):List Nat:=(List.range q.length).filter fun i=>(q.getD i none).isSome
def vlC (q:Cb):List Bool:=(KC q).map fun i=>(q.getD i none).getD false
theorem zf5 {q:Cb}:∀i∈KC q,i<q.length:=fun i h=>List.mem_range.mp (List.mem_filter.mp h).1
theorem zna (q:Cb)(b:Nat):hav ((KC q).zip (vlC q)) b=Xr q b:=by
 rw[ztW]
 unfold hav Xr
 rw[ztM,ztM]
 have ez:(KC q).zip (vlC q)=(KC q).map fun i=>(i,(q.getD i none).getD false):=by
  unfold vlC
  rw[List.zip_map_right,List.zip_eq_zipWith,List.zipWith_self,ztT]
  rfl
 constructor
 ·intro h i hi
  cases e:q.getD i none with
  | none=>rfl
  | some v =>
   have:=h (i,v) (by rw[ez];exact List.mem_map.mpr ⟨i,List.mem_filter.mpr ⟨hi,by rw[e];rfl⟩,by rw[e];rfl⟩)
   exact this
 ·intro h x hx
  rw[ez] at hx
  obtain⟨i,hi,rfl⟩:=List.mem_map.mp hx
  obtain⟨h1,h2⟩:=List.mem_filter.mp hi
  have:=h i h1
  cases e:q.getD i none with
  | none=>rw[e] at h2;cases h2
  | some v=>rw[e] at this;exact this
end uY
namespace L2
open PySem PySem.Spec PyProof.Rows PySem.Builtin PySem.Builtin.Str uY
section
variable {X:Cx}
theorem zcw:∀(q:Cb) (acc:Array Nat),(q.map fun s=>cbS [s]).foldl (fun acc p=>acc++(Str.ofString "").cps++p.cps) acc=acc++(q.map Qd).toArray
 | [],acc=>by simp
 | s::q,acc=>by
  rw[ztH,List.foldl_cons,zcw q]
  have e:(Str.ofString "").cps=#[]:=by decide +kernel
  rw[e,Array.append_empty]
  show acc ++ #[Qd s]++_=_
  rw[ztH]
  apply Array.toList_inj.mp
  simp
theorem zjt (q:Cb):glued (Str.ofString "") (q.map fun s=>cbS [s])=cbS q:=by
 cases q with
 | nil=>rfl
 | cons s q =>
  unfold glued
  rw[ztH,List.drop_succ_cons,List.drop_zero,zcw]
  show(⟨#[Qd s]++(q.map Qd).toArray⟩:Str)=⟨((s::q).map Qd).toArray⟩
  congr 1
  apply Array.toList_inj.mp
  simp
theorem zk8 (q:Cb):∀(n:Nat),(q.map fun s=>cbS [s]).foldl (fun a x=>a+x.length+(Str.ofString "").length) n=n+q.length:=by
 have e:(Str.ofString "").length=0:=by decide +kernel
 induction q with
 | nil=>intro n;rfl
 | cons s q ih =>
  intro n
  rw[ztH,List.foldl_cons,ih,e,xR]
  show n+1+0+q.length=n+(q.length+1)
  omega
def znb (K:Frag):V->List V->Hp->VK->Prop:=fun x vs H Q=>∃(l:Addr) (q:Cb),x=.str "" /\ vs=[.ref l]/\z6 K H l (q.map fun s=>V.str (cbS [s]))/\q.length<=1000/\Q (.str (cbS q)) H
theorem zju:MtM X "str.join" (znb X.K):=by
 intro pins s σ H x vs v us Q I rx rv h
 obtain⟨l,c,rfl,rfl,hq,hc,q⟩:=h
 obtain⟨t,rfl⟩:=rx
 obtain⟨u,rfl,ru⟩:=rv.one
 cases ru
 obtain⟨its,r',pl,hz⟩:=I.list hq
 have ev:(c.map fun s=>V.str (cbS [s]))=(c.map fun s=>cbS [s]).map V.str:=by rw[ztT];rfl
 rw[ev] at r'
 obtain⟨ps,rfl,eps⟩:=zhm r'
 refine call_meets PySem.F.slot_str_join (typeIs_str s "" t) PySem.F.entry_str_join (PySem.F.args_str_join_2 _ _) (meets_str_join_list "" t l ps ?_) ⟨pl.isList,?_⟩
 ·rw[eps,List.foldl_toArray,zk8]
  unfold tooLong
  rw[sizeLine_eq]
  exact decide_eq_false (by omega)
 ·cases ps with
  | nil =>
   have e:c=[]:=by
    have:=congrArg List.length eps
    rw[zti,zti] at this
    exact List.length_eq_zero_iff.mp this.symm
   subst e
   exact⟨by decide,.str (cbS []),H,I.tok _,⟨_,rfl⟩,q⟩
  | cons p ps =>
   cases ps with
   | nil =>
    obtain⟨s0,rfl⟩:∃s0,c=[s0]:=by
     cases c with
     | nil=>exact absurd (congrArg List.length eps) (by simp)
     | cons s0 c =>
      cases c with
      | nil=>exact⟨s0,rfl⟩
      | cons _ _=>exact absurd (congrArg List.length eps) (by simp)
    have e:p.1=cbS [s0]:=(List.cons.inj eps).1
    obtain⟨p1,p2⟩:=p
    have e:p1=cbS [s0]:=e
    subst e
    exact⟨.str (cbS [s0]),H,I,⟨p2,rfl⟩,q⟩
   | cons p2 ps =>
    have e:joinMade "" (p::p2::ps)=Made.str (cbS c):=by
     show Made.str (glued "" ((p::p2::ps).map (·.1)))=_
     rw[eps]
     exact congrArg Made.str (zjt c)
    rw[e]
    exact⟨by rw[xR,sizeLine_eq];omega,.str (cbS c),H,I.tok _,⟨_,rfl⟩,q⟩
def zoH:R2:=fun x y H Q=>∃n:Nat,x=.str "-" /\ y=.int (n:Nat)/\n<=8/\Q (.str (cbS (List.replicate n none))) H
theorem zk9:∀n:Fin 9,MulOk (Str.ofString "-") ((n:Nat):Int):=by
 intro n
 refine⟨?_,?_,?_⟩<;>revert n<;>decide +kernel
theorem zla:∀n:Fin 9,Txt.mul (Str.ofString "-") ((n:Nat):Int)=cbS (List.replicate n none):=by decide +kernel
theorem zlb:Vj X (binaryOp .Mult) zoH:=by
 intro pins s σ H x y v u Q I rx ry h
 obtain⟨n,rfl,rfl,hn,q⟩:=h
 obtain⟨t,rfl⟩:=rx
 obtain⟨t',rfl⟩:=ry
 refine SB.mul (zk9 ⟨n,by omega⟩) fun t2 k=>?_
 rw[zla ⟨n,by omega⟩]
 exact⟨.str (cbS (List.replicate n none)),H,I.tok _,⟨_,rfl⟩,q⟩
end
section
variable {K:Frag}{σ:St}{js:List Nat}{te:TE}{H:Hp}{Qf:Addr->Hp->List V->Prop}
theorem zlc {x:Str}(f:V->V)(hz:x.cps.size<=sizeLine)
  (hs:∀(v:V) H' (Q:V->Hp->Prop),v∈sgs x->Same H H'->(∀H3,Same H H3->Q (f v) H3)->te (Yi σ js (some v)) H' Q)
  (hd:∀H' l,Same H H'->H' l=none->Qf l H' ((sgs x).map f)) :
  ∃W:Nat->Nat->List V->Hp->Prop,(∃m,W 0 m [] H)/\∀i m ys H,W i m ys H ->
   ((Its x).stop i H/\∀p,H p=none->Qf p H ys) \/
   ((Its x).go i H/\ys.length<sizeLine/\∀v H',(Its x).Ni i H v H'->Uz (Yi σ js (some v)) H' fun b H2 =>
    if b=true then te (Yi σ js (some v)) H2 fun v H3=>∃m',m'<m/\W (i+1) m' (ys++[v]) H3 else ∃m',m'<m/\W (i+1) m' ys H2):=by
 have ls:(sgs x).length=x.cps.size:=by unfold sgs;rw[zti];exact Array.length_toList
 refine⟨fun i m ys H'=>m=x.cps.size-i/\i<=x.cps.size/\Same H H'/\ys=((sgs x).take i).map f,⟨_,rfl,ztF _,Same.refl _,rfl⟩,?_⟩
 rintro i m ys H1 ⟨rfl,hi,g,rfl⟩
 by_cases hlt:i<x.cps.size
 ·refine .inr ⟨hlt,by rw[zti,ztG];omega,fun v H' y=>?_⟩
  obtain⟨e,c,hc,rfl⟩:=y
  subst e
  have hb:(sgs x)[i]?=some (.str ⟨#[c]⟩):=by
   unfold sgs
   rw[ztk,Array.getElem?_toList,hc]
   rfl
  refine zqd (Xf (hs _ _ _ (ztn hb) g fun H3 g3=>⟨_,Nat.sub_lt_sub_left hlt (Nat.lt_succ_self i),rfl,hlt,g3,?_⟩))
  rw[yN hb,ztw]
  rfl
 ·have e:i=x.cps.size:=by omega
  subst e
  refine .inl ⟨rfl,fun l hl=>?_⟩
  rw[<-ls,ztL]
  exact hd _ l g hl
end
end L2
namespace uY
open PySem L2 yL
def asc (x:Str):Prop:=(x.cps.all fun c=>decide (c<128))=true
def T3 (n:Nat)(x:Str):Bool:=decide (x.length=n)&&x.cps.toList.all fun c=>decide (c=45\/c=48\/c=49)
theorem zey (n:Nat)(q:Cb):T3 n (cbS q)=decide (q.length=n):=by
 unfold T3
 rw[xR,MF]
 have:((q.map Qd).all fun c=>decide (c=45\/c=48\/c=49))=true:=by
  rw[ztM]
  intro c hc
  obtain⟨s,_,rfl⟩:=List.mem_map.mp hc
  cases s with
  | none=>decide
  | some b=>cases b<;>decide
 rw[this,Bool.and_true]
def inB (n:Nat)(f:Nat->Bool)(q:Cb):Bool:=(List.range (2^n)).all fun b=>!Xr q b||f b
theorem Xu {n:Nat}{f:Nat->Bool}{q:Cb}:inB n f q=true↔∀b,b<2^n->Xr q b=true->f b=true:=by
 unfold inB
 rw[ztM]
 constructor
 ·intro h b hb c
  have:=h b (List.mem_range.mpr hb)
  rw[c] at this
  simpa using this
 ·intro h b hb
  cases c:Xr q b with
  | false=>rfl
  | true=>rw[h b (List.mem_range.mp hb) c];rfl
def wid (q:Cb):List Cb:=(KC q).map fun i=>q.set i none
def uG (n:Nat)(f:Nat->Bool)(q:Cb):Bool:=inB n f q&&!(wid q).any (inB n f)
theorem znc {n R:Nat}{f:Nat->Bool}(t:zW n R f):decide (R=0)=(List.range (2^n)).all fun b=>!f b:=by
 rw[ztW,decide_eq_true_iff,ztM]
 constructor
 ·intro h b hb
  have:=t b
  rw[h,Nat.zero_testBit,decide_eq_true (List.mem_range.mp hb),Bool.true_and] at this
  rw[<-this];rfl
 ·intro h
  refine zkQ fun b=>?_
  rw[t b,Nat.zero_testBit]
  by_cases hb:b<2^n
  ·have:=h b (List.mem_range.mpr hb)
   rw[decide_eq_true hb,Bool.true_and]
   cases e:f b with
   | false=>rfl
   | true=>rw[e] at this;cases this
  ·rw[decide_eq_false hb,Bool.false_and]
theorem zf6 {n R:Nat}{f:Nat->Bool}{q:Cb}(t:zW n R fun b=>Xr q b&&!f b):decide (R=0)=inB n f q:=by
 rw[znc t]
 unfold inB
 refine congrArg (fun g=>(List.range (2^n)).all g) (funext fun b=>?_)
 cases Xr q b<;>cases f b<;>rfl
theorem zld (c:Nat):inV (.str ⟨#[c]⟩) ((["-", "0", "1"]:List Str).map V.str)=decide (c=45\/c=48\/c=49):=by
 have e:(["-", "0", "1"]:List Str)=[⟨#[45]⟩,⟨#[48]⟩,⟨#[49]⟩]:=by decide +kernel
 rw[e,ztW,decide_eq_true_iff,zhd,List.contains_iff_mem]
 simp
theorem zez {q:Cb}{i:Nat}{s:Option Bool}(h:q[i]?=some s):((KC q).filter fun j=>decide (j<i+1))=((KC q).filter fun j=>decide (j<i))++(if s.isSome then [i] else []):=by
 have hi:i<q.length:=(ztl.mp h).1
 have gd:q.getD i none=s:=by rw[ztv,h];rfl
 have key:∀m,m<=q.length->((KC q).filter fun j=>decide (j<m))=(List.range m).filter fun i=>(q.getD i none).isSome:=fun m hm=>by
  unfold KC
  rw[List.filter_filter]
  have e:List.range q.length=List.range m++List.range' m (q.length-m):=by
   have z:=List.range'_append_1 (s:=0) (m:=m) (n:=q.length-m)
   rw[Nat.zero_add] at z
   rw[List.range_eq_range',List.range_eq_range',z]
   congr 1
   omega
  rw[e,ztU]
  have e1:(List.range m).filter (fun a=>decide (a<m)&&(q.getD a none).isSome)=(List.range m).filter fun i=>(q.getD i none).isSome:=List.filter_congr fun j hj=>by rw[decide_eq_true (List.mem_range.mp hj),Bool.true_and]
  have e2:(List.range' m (q.length-m)).filter (fun a=>decide (a<m)&&(q.getD a none).isSome)=[]:=List.filter_eq_nil_iff.mpr fun j hj=>by
   have:=(List.mem_range'_1.mp hj).1
   rw[decide_eq_false (by omega:¬j<m)]
   simp
  rw[e1,e2,List.append_nil]
 rw[key (i+1) (by omega),key i (by omega),List.range_succ,ztU]
 congr 1
 rw[List.filter_cons,gd,List.filter_nil]
theorem zcx (q:Cb){i:Nat}(h:i<=q.length):((KC q).filter fun j=>decide (j<i)).length<=i:=by
 have sub:∀j∈(KC q).filter fun j=>decide (j<i),j∈List.range i:=fun j hj=>List.mem_range.mpr (of_decide_eq_true (List.mem_filter.mp hj).2)
 have nd:((KC q).filter fun j=>decide (j<i)).Nodup:=(List.nodup_range.filter _).filter _
 have:=Ma nd sub
 rw[ztA] at this
 exact this
theorem zeA {q:Cb}{i:Nat}(h:i∈KC q):∃v,q[i]?=some (some v):=by
 obtain⟨h1,h2⟩:=List.mem_filter.mp h
 have hi:=List.mem_range.mp h1
 rw[ztv,ztj hi] at h2
 rw[ztj hi]
 cases e:q[i] with
 | none=>rw[e] at h2;cases h2
 | some v=>exact⟨v,rfl⟩
section
variable (C D D':Addr)(K:Frag)
inductive Qe (vs:List V)(H:Hp)(Q:VK)(E9:XK):Prop
 | mk (b:Addr) (os:List Str) (rs:List Rm) (F:yQ) (x:Str) (_:vs=[.ref b,.str x]) (_:z7 C H b os rs F) (_:asc x) (_:x.length<=1000) (_:∀H',Same H H'->Q (.bl (T3 os.length x)) H'):Qe vs H Q E9
inductive Wj (vs:List V)(H:Hp)(Q:VK)(E9:XK):Prop
 | mk (b:Addr) (os:List Str) (rs:List Rm) (F:yQ) (q:Cb) (_:vs=[.ref b,.str (cbS q)]) (_:z7 C H b os rs F) (_:q.length=os.length) (_:∀H',Same H H'->Q .non H'):Wj vs H Q E9
inductive W6 (vs:List V)(H:Hp)(Q9:VK)(E:XK):Prop
 | mk (b:Addr) (os:List Str) (rs:List Rm) (F:yQ) (x:Str) (_:vs=[.ref b,.str x]) (_:z7 C H b os rs F) (_:asc x) (_:x.length<=1000) (_:T3 os.length x=false) (_:∀H',Same H H'->E (.ref D) none H'):W6 vs H Q9 E
inductive Rj (vs:List V)(H:Hp)(Q:VK)(E9:XK):Prop
 | mk (b l:Addr) (os:List Str) (rs:List Rm) (F:yQ) (qs:List Cb) (_:vs=[.ref b,.ref l]) (_:z7 C H b os rs F) (_:z6 K H l (qs.map fun q=>V.str (cbS q))) (_:(∀q∈qs,q.length=os.length)) (_:∀H',Same H H'->Q .non H'):Rj vs H Q E9
inductive Rk (vs:List V)(H:Hp)(Q:VK)(E9:XK):Prop
 | mk (q:Cb) (_:vs=[.str (cbS q)]) (_:q.length<=8) (_:∀(R:Nat) (H':Hp),Same H H'->zW q.length R (Xr q)->Q (.int (R:Nat)) H'):Rk vs H Q E9
inductive Rn (vs:List V)(H:Hp)(Q:VK)(E9:XK):Prop
 | mk (b:Addr) (os:List Str) (rs:List Rm) (F:yQ) (k:Nat) (q:Cb) (_:vs=[.ref b,.int (k:Nat),.str (cbS q)]) (_:z7 C H b os rs F) (_:k<rs.length) (_:q.length=os.length) (_:∀H',Same H H'->Q (.bl (inB os.length (tB rs k) q)) H'):Rn vs H Q E9
inductive X3 (vs:List V)(H:Hp)(Q:VK)(E9:XK):Prop
 | mk (q:Cb) (_:vs=[.str (cbS q)]) (_:q.length<=8) (_:∀(l:Addr) (H':Hp),Same H H'->H l=none->H' l=some (.lst ((wid q).map fun q=>V.str (cbS q)))->Q (.ref l) H'):X3 vs H Q E9
inductive zcy (vs:List V)(H:Hp)(Q:VK)(E9:XK):Prop
 | mk (b:Addr) (os:List Str) (rs:List Rm) (F:yQ) (k:Nat) (q:Cb) (_:vs=[.ref b,.int (k:Nat),.str (cbS q)]) (_:z7 C H b os rs F) (_:k<rs.length) (_:q.length=os.length) (_:∀H',Same H H'->Q (.bl (uG os.length (tB rs k) q)) H'):zcy vs H Q E9
end
section
variable (C:Addr)(K:Frag)
inductive KD (vs:List V)(H:Hp)(Q:VK)(E9:XK):Prop
 | mk (c:Int) (n:Nat) (_:vs=[.int c,.int (n:Nat)]) (_:n<=8) (_:∀(q:Cb) (H':Hp),Same H H'->q.length=n->Q (.str (cbS q)) H'):KD vs H Q E9
end
inductive V1 (C D:Addr)(vs:List V)(H:Hp)(Q9:VK)(E:XK):Prop
 | mk (b:Addr) (os:List Str) (rs:List Rm) (F:yQ) (k:Nat) (x:Str) (_:vs=[.ref b,.int (k:Nat),.str x]) (_:z7 C H b os rs F) (_:k<rs.length) (_:asc x) (_:x.length<=1000) (_:T3 os.length x=false) (_:∀H',Same H H'->E (.ref D) none H'):V1 C D vs H Q9 E
end uY
namespace L2
open PySem
theorem zf7 {t u:TS}{D:Ends}{σ:St}{H:Hp}(M:St->Hp->Prop)(h1:∀N:St->Hp->Prop,(∀ σ' H',M σ' H'->N σ' H')->t { D with nx:=N } σ H)(h2:∀ σ' H',M σ' H'->u D σ' H'):znN t u D σ H:=h1 _ h2
theorem ifA {c:Bool}{A B:Prop}(e:c=true)(h:A):if c=true then A else B:=by rw[if_pos e];exact h
theorem ifB {c:Bool}{A B:Prop}(e:c=false)(h:B):if c=true then A else B:=by rw[e,if_neg ztm];exact h
end L2
namespace uY
open PySem L2 yL
open Classical in
noncomputable def zf8 (F:yQ) (H:Hp):Hp:=fun x=>if F x then none else H x
theorem Qg {F:yQ}{H:Hp}{x:Addr}{o:HO}(h:H x=some o)(n:¬F x):zf8 F H x=some o:=by
 unfold zf8
 rw[if_neg n]
 exact h
theorem Pj.base {C:Addr}{H:Hp}{b:Addr}{os:List Str}{m:Nat}{rs:List Rm}{F:yQ}(hB:z7 C H b os rs F)(hi:hiN os.length rs<=m):Pj C (zf8 F H) b os m H rs F :=
 ⟨fun x o e=>by
  unfold zf8 at e
  by_cases z:F x
  ·rw[if_pos z] at e;cases e
  ·rw[if_neg z] at e;exact e,fun x z=>by unfold zf8;rw[if_pos z],hB,hi⟩
theorem app_list (x y:Str):(x++y).cps.toList=x.cps.toList++y.cps.toList:=Array.toList_append
theorem zho (x y:Str):(x++y).length=x.length+y.length:=Array.size_append
theorem zhp {x y:Str}(hx:asc x)(hy:asc y):asc (x++y):=by
 unfold asc at *
 rw[<-Array.all_toList] at *
 rw[app_list,List.all_append,hx,hy]
 rfl
structure Pq (n:Nat)(x:Str):Prop where
 a:asc x
 l:x.length<=1000
 c:T3 n x=false
theorem Pq.of {n:Nat}{x:Str}{c:Nat}(h:c∈x.cps.toList)(e:¬(c=45\/c=48\/c=49)):T3 n x=false:=by
 unfold T3
 rw[Bool.and_eq_false_iff]
 right
 rw[List.all_eq_false]
 exact⟨c,h,by rw[decide_eq_false e];exact ztm⟩
theorem Pq.zqn {n:Nat}{q:Cb}{y:Str}(hq:q.length<=8)(ay:asc y)(ly:y.length<=2)(c:Nat)(hc:c∈y.cps.toList)(e:¬(c=45\/c=48\/c=49)):Pq n (cbS q++y) :=
 ⟨zhp (U7 q) ay,by rw[zho,xR];omega,Pq.of (by rw[app_list];exact ztz _ hc) e⟩
theorem Pq.zqo {n:Nat}{r:Cb}{y:Str}(hr:r.length<=8)(ay:asc y)(ly:y.length<=2)(c:Nat)(hc:c∈y.cps.toList)(e:¬(c=45\/c=48\/c=49)):Pq n (y++cbS r) :=
 ⟨zhp ay (U7 r),by rw[zho,xR];omega,Pq.of (by rw[app_list];exact List.mem_append_left _ hc) e⟩
theorem Pq.cb {n:Nat}{q:Cb}(hq:q.length<=9)(e:q.length≠n):Pq n (cbS q):=⟨U7 q,by rw[xR];omega,by rw[zey,decide_eq_false e]⟩
abbrev ext (p:Nat)(q:Cb):Cb:=List.replicate p none++q
theorem W7 {q:Cb}{b:Nat}:Xr q b=true↔∀i v,q[i]?=some (some v)->b.testBit i=v:=by
 unfold Xr
 rw[ztM]
 constructor
 ·intro h i v e
  have hi:i<q.length:=(ztl.mp e).1
  have y:=h i (List.mem_range.mpr hi)
  rw[ztv,e] at y
  simpa using y
 ·intro h i hi
  rw[ztv]
  cases e:q[i]? with
  | none=>rfl
  | some s =>
   cases s with
   | none=>rfl
   | some v =>
    show(b.testBit i==v)=true
    rw[h i v e]
    simp
theorem za9 {p i:Nat}{q:Cb}{v:Bool}(h:(ext p q)[i]?=some (some v)):p<=i/\q[i-p]?=some (some v):=by
 unfold ext at h
 rcases Nat.lt_or_ge i p with z | z
 ·rw[ztP (by rw[List.length_replicate];exact z),List.getElem?_replicate,if_pos z] at h
  cases h
 ·rw[List.getElem?_append_right (by rw[List.length_replicate];exact z),List.length_replicate] at h
  exact⟨z,h⟩
theorem zdc {p i:Nat}{q:Cb}:(ext p q)[p+i]?=q[i]?:=by
 unfold ext
 rw[List.getElem?_append_right (by rw[List.length_replicate];omega),List.length_replicate,Nat.add_sub_cancel_left]
theorem zhq {p i:Nat}{q:Cb}{s:Option Bool}:(ext p q).set (p+i) s=ext p (q.set i s):=by
 unfold ext
 rw[List.set_append,List.length_replicate,if_neg (by omega),Nat.add_sub_cancel_left]
theorem MJ {p:Nat}{q:Cb}:ext p (none::q)=ext (p+1) q:=by
 unfold ext
 rw[List.replicate_succ',List.append_assoc]
 rfl
theorem zle {p:Nat}{q:Cb}:(ext p q).length=p+q.length:=by
 unfold ext
 rw[ztq,List.length_replicate]
theorem wK {n p:Nat}{f:Nat->Bool}{q:Cb}:uG n f (ext p q)=true↔inB n f (ext p q)=true/\∀i v,q[i]?=some (some v)->inB n f (ext p (q.set i none))=false:=by
 unfold uG
 rw[ztK]
 refine and_congr_right fun _=>?_
 rw[Bool.not_eq_true',List.any_eq_false]
 unfold wid
 constructor
 ·intro h i v e
  have hi:i<q.length:=(ztl.mp e).1
  have m:p+i∈KC (ext p q):=List.mem_filter.mpr ⟨List.mem_range.mpr (by rw[zle];omega),by rw[ztv,zdc,e];rfl⟩
  have y:=h _ (List.mem_map.mpr ⟨_,m,rfl⟩)
  rw[zhq] at y
  simpa using y
 ·intro h r hr
  obtain⟨i,hi,rfl⟩:=List.mem_map.mp hr
  obtain⟨v,e⟩:=zeA hi
  obtain⟨z,e'⟩:=za9 e
  have y:=h _ _ e'
  have:i=p+(i-p):=by omega
  rw[this,zhq,y]
  exact ztm
section
variable {n p:Nat}{f:Nat->Bool}
abbrev side (f:Nat->Bool)(p:Nat)(v:Bool):Nat->Bool:=fun b=>f (zK b p v)
abbrev both (f:Nat->Bool)(p:Nat):Nat->Bool:=fun b=>side f p false b&&side f p true b
theorem zdd {q:Cb}{b:Nat}{v:Bool}:Xr (ext (p+1) q) (zK b p v)=Xr (ext (p+1) q) b:=by
 rw[ztW,W7,W7]
 have:∀i v',(ext (p+1) q)[i]?=some (some v')->(zK b p v).testBit i=b.testBit i:=fun i v' e=>by
  have:=(za9 e).1
  rw[zT,if_neg (by omega)]
 exact⟨fun h i v' e=>by rw[<-this i v' e];exact h i v' e,fun h i v' e=>by rw[this i v' e];exact h i v' e⟩
theorem zde {q:Cb}{b:Nat}{v:Bool}:Xr (ext p (some v::q)) b=(b.testBit p==v&&Xr (ext (p+1) q) b):=by
 rw[ztW,ztK,W7,W7,beq_iff_eq]
 constructor
 ·intro h
  refine⟨h p v (by have:=zdc (p:=p) (i:=0) (q:=some v::q);rw[Nat.add_zero] at this;rw[this];rfl),fun i v' e=>?_⟩
  obtain⟨z,e'⟩:=za9 e
  refine h i v' ?_
  have:i=p+(i-(p+1)+1):=by omega
  rw[this,zdc]
  exact e'
 ·rintro⟨h1,h2⟩ i v' e
  obtain⟨z,e'⟩:=za9 e
  rcases Nat.eq_or_lt_of_le z with y | y
  ·subst y
   rw[Nat.sub_self] at e'
   cases e'
   exact h1
  ·refine h2 i v' ?_
   have e1:i=p+1+(i-(p+1)):=by omega
   rw[e1,zdc]
   have e2:i-p=(i-(p+1))+1:=by omega
   rw[e2] at e'
   exact e'
theorem MK (hp:p<n)(q:Cb):inB n f (ext (p+1) q)=inB n (both f p) (ext (p+1) q):=by
 rw[ztW,Xu,Xu]
 constructor
 ·intro h b hb c
  show(f _&&f _)=true
  rw[h _ (zX hb hp) (by rw[zdd];exact c),h _ (zX hb hp) (by rw[zdd];exact c)]
  rfl
 ·intro h b hb c
  have y:(f (zK b p false)&&f (zK b p true))=true:=h b hb c
  rw[ztK] at y
  have:=yJ b p
  cases e:b.testBit p with
  | false=>rw[e] at this;rw[<-this];exact y.1
  | true=>rw[e] at this;rw[<-this];exact y.2
theorem zdf (hp:p<n)(q:Cb)(v:Bool):inB n f (ext p (some v::q))=inB n (side f p v) (ext (p+1) q):=by
 rw[ztW,Xu,Xu]
 constructor
 ·intro h b hb c
  refine h _ (zX hb hp) ?_
  rw[zde,zdd,c,zT,if_pos rfl]
  simp
 ·intro h b hb c
  rw[zde,ztK,beq_iff_eq] at c
  have y:f (zK b p v)=true:=h b hb c.2
  have e:=yJ b p
  rw[c.1] at e
  rw[<-e]
  exact y
theorem znd (q:Cb)(v:Bool)(h:inB n (both f p) q=true):inB n (side f p v) q=true:=by
 rw[Xu] at h ⊢
 intro b hb c
 have y:(f (zK b p false)&&f (zK b p true))=true:=h b hb c
 rw[ztK] at y
 cases v
 ·exact y.1
 ·exact y.2
theorem zba (hp:p<n)(q:Cb):uG n f (ext p (none::q))=uG n (both f p) (ext (p+1) q):=by
 rw[MJ,ztW,wK,wK,MK hp]
 refine and_congr_right fun _=>⟨fun h i v e=>?_,fun h i v e=>?_⟩
 ·rw[<-MK hp];exact h i v e
 ·rw[MK hp];exact h i v e
theorem Pr (hp:p<n)(q:Cb)(v:Bool):uG n f (ext p (some v::q))=(uG n (side f p v) (ext (p+1) q)&&!uG n (both f p) (ext (p+1) q)):=by
 rw[ztW,ztK,wK,wK,zdf hp]
 constructor
 ·rintro⟨h1,h2⟩
  have h0:=h2 0 v rfl
  have h0:inB n f (ext p (none::q))=false:=h0
  rw[MJ,MK hp] at h0
  refine⟨⟨h1,fun i u e=>?_⟩,?_⟩
  ·have y:inB n f (ext p (some v::q.set i none))=false:=h2 (i+1) u e
   rw[zdf hp] at y
   exact y
  ·cases e:uG n (both f p) (ext (p+1) q) with
   | false=>rfl
   | true=>rw[wK] at e;rw[e.1] at h0;cases h0
 ·rintro⟨⟨h1,h2⟩,h3⟩
  have nb:inB n (both f p) (ext (p+1) q)=false:=by
   cases e:inB n (both f p) (ext (p+1) q) with
   | false=>rfl
   | true =>
    exfalso
    have:uG n (both f p) (ext (p+1) q)=true:=wK.mpr ⟨e,fun i u e'=>by
     cases e2:inB n (both f p) (ext (p+1) (q.set i none)) with
     | false=>rfl
     | true=>have:=znd _ v e2;rw[h2 i u e'] at this;cases this⟩
    rw[this] at h3
    cases h3
  refine⟨h1,fun i u e=>?_⟩
  cases i with
  | zero =>
   show inB n f (ext p (none::q))=false
   rw[MJ,MK hp]
   exact nb
  | succ i =>
   show inB n f (ext p (some v::q.set i none))=false
   rw[zdf hp]
   exact h2 i u e
end
theorem zjv:∀(q:Cb) (p:Nat),∃b,b<2^(p+q.length)/\Xr (ext p q) b=true
 | [],p=>⟨0,Nat.pow_pos (by decide),W7.mpr fun i v e=>by have:=(za9 e).2;cases this⟩
 | s::q,p=>by
  obtain⟨b,h1,h2⟩:=zjv q (p+1)
  have e1:p+(s::q).length=p+1+q.length:=by rw[ztu];omega
  cases s with
  | none=>exact⟨b,by rw[e1];exact h1,by rw[MJ];exact h2⟩
  | some v=>exact⟨zK b p v,by rw[e1];exact zX h1 (by omega),by rw[zde,zdd,h2,zT,if_pos rfl];simp⟩
def ltC:Cb->Cb->Prop
 | a::x,b::y=>Qd a<Qd b\/(a=b/\ltC x y)
 | _,_=>False
theorem zjw:∀{a b:Cb},ltC a b->a≠b
 | a::x,b::y,h=>fun e=>by
  cases e
  rcases h with h | h
  ·exact Nat.lt_irrefl _ h
  ·exact zjw h.2 rfl
structure Nj (n p:Nat)(f:Nat->Bool)(qs:List Cb):Prop where
 mem:∀q,q∈qs↔q.length=n-p/\uG n f (ext p q)=true
 up:qs.Pairwise ltC
 len:qs.length<=3^(n-p-1)
theorem Nj.nd {n p:Nat}{f:Nat->Bool}{qs:List Cb}(h:Nj n p f qs):qs.Nodup:=h.up.imp zjw
theorem Nj.none_of {n p:Nat}{f:Nat->Bool}(hp:p<=n)(h:∀b,b<2^n->f b=false){q:Cb}(l:q.length=n-p):uG n f (ext p q)=false:=by
 cases e:uG n f (ext p q) with
 | false=>rfl
 | true =>
  rw[wK] at e
  obtain⟨b,h1,h2⟩:=zjv q p
  have e1:p+q.length=n:=by omega
  rw[e1] at h1
  have y:=Xu.mp e.1 b h1 h2
  rw[h b h1] at y
  cases y
theorem Nj.no {n p:Nat}{f:Nat->Bool}(hp:p<=n)(h:∀b,b<2^n->f b=false):Nj n p f [] :=
 ⟨fun q=>⟨fun z=>(by cases z),fun⟨l,e⟩=>(by rw[Nj.none_of hp h l] at e;cases e)⟩,.nil,ztF _⟩
theorem Nj.yes {n p:Nat}{f:Nat->Bool}(hp:p<=n)(h:∀b,b<2^n->f b=true):Nj n p f [List.replicate (n-p) none]:=by
 have al:∀q,inB n f q=true:=fun q=>Xu.mpr fun b hb _=>h b hb
 refine⟨fun q=>?_,List.pairwise_singleton _ _,Nat.pow_pos (by decide)⟩
 rw[List.mem_singleton,wK]
 constructor
 ·rintro rfl
  refine⟨List.length_replicate,al _,fun i v e=>?_⟩
  rw[List.getElem?_replicate] at e
  split at e<;>cases e
 ·rintro⟨l,_,e⟩
  refine List.ext_getElem? fun i=>?_
  rw[List.getElem?_replicate]
  rcases Nat.lt_or_ge i (n-p) with z | z
  ·rw[if_pos z]
   cases e':q[i]? with
   | none=>rw[List.getElem?_eq_none_iff] at e';omega
   | some s =>
    cases s with
    | none=>rfl
    | some v=>have:=e i v e';rw[al] at this;cases this
  ·rw[if_neg (by omega),List.getElem?_eq_none_iff]
   omega
theorem Nj.nil {n p:Nat}{f:Nat->Bool}{qs:List Cb}(P:Nj n p f qs)(hp:p<=n)(h:∀b,b<2^n->f b=false):qs=[]:=by
 refine List.eq_nil_iff_forall_not_mem.mpr fun q hq=>?_
 obtain⟨l,e⟩:=(P.mem q).mp hq
 rw[Nj.none_of hp h l] at e
 cases e
theorem Nj.step {n p:Nat}{f:Nat->Bool}{E Z O:List Cb}(hp:p<n)(fr:∀i,i<p->Free n f i)(n1:¬∀b,b<2^n->f b=true)(he:Nj n (p+1) (both f p) E)(hz:Nj n (p+1) (side f p false) Z)(ho:Nj n (p+1) (side f p true) O) :
  Nj n p f (E.map (none::·)++(Z.filter fun q=>!E.contains q).map (some false::·)++(O.filter fun q=>!E.contains q).map (some true::·)):=by
 have ed:n-p=n-(p+1)+1:=by omega
 have inE:∀q:Cb,q.length=n-(p+1)->(!E.contains q)=!uG n (both f p) (ext (p+1) q):=fun q l=>by
  congr 1
  rw[ztW,List.contains_iff_mem,he.mem]
  exact⟨fun h=>h.2,fun h=>⟨l,h⟩⟩
 refine⟨fun q=>?_,?_,?_⟩
 ·rw[List.mem_append,List.mem_append,List.mem_map,List.mem_map,List.mem_map]
  constructor
  ·rintro ((⟨r,hr,rfl⟩ | ⟨r,hr,rfl⟩) | ⟨r,hr,rfl⟩)
   ·obtain⟨l,e⟩:=(he.mem r).mp hr
    exact⟨by rw[ztu,l,ed],by rw[zba hp];exact e⟩
   ·obtain⟨h1,h2⟩:=List.mem_filter.mp hr
    obtain⟨l,e⟩:=(hz.mem r).mp h1
    rw[inE r l] at h2
    exact⟨by rw[ztu,l,ed],by rw[Pr hp,e,h2];rfl⟩
   ·obtain⟨h1,h2⟩:=List.mem_filter.mp hr
    obtain⟨l,e⟩:=(ho.mem r).mp h1
    rw[inE r l] at h2
    exact⟨by rw[ztu,l,ed],by rw[Pr hp,e,h2];rfl⟩
  ·rintro⟨l,e⟩
   cases q with
   | nil=>rw[ed] at l;cases l
   | cons s r =>
    have lr:r.length=n-(p+1):=by rw[ztu,ed] at l;omega
    cases s with
    | none=>rw[zba hp] at e;exact .inl (.inl ⟨r,(he.mem r).mpr ⟨lr,e⟩,rfl⟩)
    | some v =>
     rw[Pr hp,ztK] at e
     cases v with
     | false=>exact .inl (.inr ⟨r,List.mem_filter.mpr ⟨(hz.mem r).mpr ⟨lr,e.1⟩,by rw[inE r lr];exact e.2⟩,rfl⟩)
     | true=>exact .inr ⟨r,List.mem_filter.mpr ⟨(ho.mem r).mpr ⟨lr,e.1⟩,by rw[inE r lr];exact e.2⟩,rfl⟩
 ·have one:∀{L:List Cb} (s:Option Bool),L.Pairwise ltC->(L.map (s::·)).Pairwise ltC:=fun {L} s h=>List.pairwise_map.mpr (h.imp fun h=>.inr ⟨rfl,h⟩)
  have two:∀{L M:List Cb} {s t:Option Bool},Qd s<Qd t->∀x∈L.map (s::·),∀y∈M.map (t::·),ltC x y:=fun {L M s t} h x hx y hy=>by
   obtain⟨a,_,rfl⟩:=List.mem_map.mp hx
   obtain⟨c,_,rfl⟩:=List.mem_map.mp hy
   exact .inl h
  refine List.pairwise_append.mpr ⟨List.pairwise_append.mpr ⟨one _ he.up,one _ (hz.up.filter _),two (by decide)⟩,one _ (ho.up.filter _),fun x hx y hy=>?_⟩
  rcases List.mem_append.mp hx with z | z
  ·exact two (by decide) x z y hy
  ·exact two (by decide) x z y hy
 ·rw[ztq,ztq,zti,zti,zti]
  have l1:=ztR (fun q=>!E.contains q) Z
  have l2:=ztR (fun q=>!E.contains q) O
  rcases Nat.eq_or_lt_of_le (show 1<=n-p by omega) with z | z
  ·
   have e0:n-p-1=0:=by omega
   rw[e0]
   have ep:p+1=n:=by omega
   have cz:=ug (n:=n) (f:=side f p false) fun i hi=>XS hp fr i (by omega)
   have co:=ug (n:=n) (f:=side f p true) fun i hi=>XS hp fr i (by omega)
   have le:=he.len
   have lz:=hz.len
   have lo:=ho.len
   have e1:n-(p+1)-1=0:=by omega
   rw[e1] at le lz lo
   have zlT:side f p false 0=false\/side f p true 0=false:=by
    rcases h0:side f p false 0 with _ | _
    ·exact .inl rfl
    ·rcases h1:side f p true 0 with _ | _
     ·exact .inr rfl
     ·exfalso
      refine n1 fun b hb=>?_
      have e:=yJ b p
      have a1:=cz b hb
      have a2:=co b hb
      rw[h0] at a1
      rw[h1] at a2
      cases e':b.testBit p with
      | false=>rw[e'] at e;rw[<-e];exact a1
      | true=>rw[e'] at e;rw[<-e];exact a2
   have eE:E=[]:=he.nil (by omega) fun b hb=>by
    show(side f p false b&&side f p true b)=false
    rw[cz b hb,co b hb]
    rcases zlT with z | z<;>rw[z]<;>simp
   have e3:E.length=0:=by rw[eE];rfl
   rw[Nat.pow_zero] at le lz lo ⊢
   rcases zlT with z | z
   ·have:Z.length=0:=by rw[hz.nil (by omega) fun b hb=>by rw[cz b hb,z]];rfl
    omega
   ·have:O.length=0:=by rw[ho.nil (by omega) fun b hb=>by rw[co b hb,z]];rfl
    omega
  ·have e:n-p-1=n-(p+1)-1+1:=by omega
   rw[e,Nat.pow_succ]
   have:=he.len
   have:=hz.len
   have:=ho.len
   omega
end uY
namespace L2
open PySem PySem.Spec PyProof.Rows
section
variable {K:Frag}{σ:St}{js:List Nat}{tt:TT}{te:TE}{H:Hp}{Qf:Addr->Hp->List V->Prop}
theorem zeB {a:Addr}{α:Type}(c:α->V){ps:List α}(p:α->Bool)(hq:z6 K H a (ps.map c))(hz:ps.length<=sizeLine)(hte:∀x H' Q,Q x H'->te (Yi σ js (some x)) H' Q)
  (hs:∀(x:α) H' (Q:Bool->Hp->Prop),x∈ps->Same H H'->(∀H2,Same H H2->Q (p x) H2)->tt (Yi σ js (some (c x))) H' Q)
  (hd:∀H' l,Same H H'->H' l=none->Qf l H' ((ps.filter p).map c)) :
  ∃W:Nat->Nat->List V->Hp->Prop,(∃m,W 0 m [] H)/\∀i m ys H,W i m ys H ->
   ((Itl K a).stop i H/\∀p,H p=none->Qf p H ys) \/
   ((Itl K a).go i H/\ys.length<sizeLine/\∀x H',(Itl K a).Ni i H x H'->tt (Yi σ js (some x)) H' fun b H2 =>
    if b=true then te (Yi σ js (some x)) H2 fun v H3=>∃m',m'<m/\W (i+1) m' (ys++[v]) H3 else ∃m',m'<m/\W (i+1) m' ys H2):=by
 have ln:(ps.map c).length=ps.length:=zti _
 refine⟨fun i m ys H'=>m=ps.length-i/\i<=ps.length/\Same H H'/\ys=((ps.take i).filter p).map c,⟨_,by rw[Nat.sub_zero],ztF _,Same.refl _,rfl⟩,?_⟩
 rintro i m ys H1 ⟨rfl,hi,g,rfl⟩
 have hy:(((ps.take i).filter p).map c).length<=i:=by
  have:=ztR p (ps.take i)
  rw[ztG] at this
  rw[zti]
  omega
 by_cases hlt:i<ps.length
 ·have hb:ps[i]?=some ps[i]:=ztj hlt
  generalize ps[i]=b at hb
  have hv:(ps.map c)[i]?=some (c b):=by rw[ztk,hb];rfl
  refine .inr ⟨⟨_,_,g.seq hq,hv⟩,by omega,fun x H' y=>?_⟩
  obtain⟨e,y⟩:=y
  subst e
  have ex:=y _ (g.seq hq)
  rw[hv] at ex
  cases ex
  refine hs b _ _ (ztn hb) g fun H2 g2=>?_
  cases e:p b with
  | true =>
   rw[if_pos rfl]
   refine hte _ _ _ ⟨_,Nat.sub_lt_sub_left hlt (Nat.lt_succ_self i),rfl,hlt,g2,?_⟩
   rw[yN hb,ztU,List.filter_cons_of_pos e,ztw]
   rfl
  | false =>
   rw[if_neg ztm]
   refine⟨_,Nat.sub_lt_sub_left hlt (Nat.lt_succ_self i),rfl,hlt,g2,?_⟩
   rw[yN hb,ztU,List.filter_cons_of_neg (by rw[e];exact ztm),List.filter_nil,List.append_nil]
 ·have e:i=ps.length:=by omega
  subst e
  refine .inl ⟨⟨_,g.seq hq,by rw[ln];exact zty _⟩,fun l hl=>?_⟩
  rw[ztL]
  exact hd _ l g hl
theorem zdg {a:Addr}{α:Type}(c e:α->V){ps:List α}(hq:z6 K H a (ps.map c))(hz:ps.length<=sizeLine)
  (hs:∀(x:α) H' (Q:V->Hp->Prop),x∈ps->Same H H'->(∀H3,Same H' H3->Q (e x) H3)->te (Yi σ js (some (c x))) H' Q)
  (hd:∀H' p,Same H H'->H' p=none->Qf p H' (ps.map e)) :
  ∃W:Nat->Nat->List V->Hp->Prop,(∃m,W 0 m [] H)/\∀i m ys H,W i m ys H ->
   ((Itl K a).stop i H/\∀p,H p=none->Qf p H ys) \/
   ((Itl K a).go i H/\ys.length<sizeLine/\∀x H',(Itl K a).Ni i H x H'->Uz (Yi σ js (some x)) H' fun b H2 =>
    if b=true then te (Yi σ js (some x)) H2 fun v H3=>∃m',m'<m/\W (i+1) m' (ys++[v]) H3 else ∃m',m'<m/\W (i+1) m' ys H2):=by
 refine za3 (xs:=ps.map c) (fun i ys H'=>Same H H'/\ys=(ps.take i).map e) ⟨Same.refl _,rfl⟩ (by rw[zti];exact hz) ?_ ?_ ?_
 ·rintro i ys H' hi ⟨g,rfl⟩
  exact⟨g.seq hq,by rw[zti,ztG];omega⟩
 ·rintro i x ys H' Q hx ⟨g,rfl⟩ h
  rw[ztk] at hx
  cases e1:ps[i]? with
  | none=>rw[e1] at hx;cases hx
  | some y =>
   rw[e1] at hx
   cases hx
   refine hs y H' Q (ztn e1) g fun H3 g3=>h _ _ ⟨g.trans g3,?_⟩
   rw[yN e1,ztw]
   rfl
 ·rintro ys H' p ⟨g,rfl⟩ hp
  rw[zti,ztL]
  exact hd H' p g hp
end
end L2
namespace uY
open PySem L2 yL
abbrev cbV (q:Cb):V:=.str (cbS q)
inductive V2 (d:Nat)(vs:List V)(H:Hp)(Q:VK)(E9:XK):Prop
 | mk (N p n:Nat) (f:Nat->Bool) (_:vs=[.int (N:Nat),.int (p:Nat),.int (n:Nat)]) (_:n<=8) (_:p<=n) (_:n+1<=p+d) (_:zW n N f) (_:∀i,i<p->Free n f i) (_:∀(l:Addr) (qs:List Cb) (H':Hp),Same H H'->H l=none->H' l=some (.lst (qs.map cbV))->Nj n p f qs->Q (.ref l) H'):V2 d vs H Q E9
inductive zbb (C:Addr)(vs:List V)(H:Hp)(Q:VK)(E9:XK):Prop
 | mk (b:Addr) (os:List Str) (rs:List Rm) (F:yQ) (k:Nat) (_:vs=[.ref b,.int (k:Nat)]) (_:z7 C H b os rs F) (_:k<rs.length) (_:∀(l:Addr) (qs:List Cb) (H':Hp),Same H H'->H l=none->H' l=some (.lst (qs.map cbV))->Nj os.length 0 (tB rs k) qs->Q (.ref l) H'):zbb C vs H Q E9
theorem zjx {E:List Cb}{q:Cb}:inV (cbV q) (E.map cbV)=E.contains q:=by
 have e:E.map cbV=(E.map cbS).map V.str:=by rw[ztT];rfl
 rw[e,zhd,ztW,List.contains_iff_mem,List.contains_iff_mem,List.mem_map]
 exact⟨fun⟨r,h,e⟩=>by rw[<-zar e];exact h,fun h=>⟨q,h,rfl⟩⟩
theorem zhr (E:List Cb):(E.map cbV).all wQ=true:=by
 rw[List.all_map,ztM]
 exact fun _ _=>rfl
theorem Nj.few {n p:Nat}{f:Nat->Bool}{qs:List Cb}(h:Nj n p f qs)(n8:n<=8):qs.length<=2187:=by
 have a:=h.len
 have p3:3^(n-p-1)<=3^7:=ztO (by decide) (by omega)
 have e:3^7=2187:=rfl
 omega
theorem Xa {n:Nat}(h:n<=10000):n<=sizeLine:=ztE h (by decide)
theorem zjy {n i:Nat}{f g:Nat->Bool}(h:Free n f i)(k:Free n g i):Free n (fun b=>f b&&g b) i:=fun b hb v=>by
 show(f (zK b i v)&&g (zK b i v))=(f b&&g b)
 rw[h b hb v,k b hb v]
theorem zdh (s:Option Bool)(q:Cb){y:Str}(e:y=cbS [s]):V.str (y++cbS q)=cbV (s::q):=by rw[e,zas];rfl
theorem nought:Str.ofString "0"=cbS [some false]:=by decide +kernel
theorem zqp:Str.ofString "1"=cbS [some true]:=by decide +kernel
end uY
namespace L2
open PySem PySem.Spec PyProof.Rows
section
variable {X:Cx}
def zoI:V->List V->Hp->VK->Prop:=fun x vs H Q=>∃d kvs k v,x=.ref d/\vs=[kV k]/\H d=some (.dK kvs)/\Zn kvs k=some v/\Q v (upd H d (.dK (Jm kvs k)))
theorem zlf:MtM X "dict.pop" zoI:=by
 intro pins s σ H x vs v us Q I rx rv h
 obtain⟨d,kvs,k,y,rfl,rfl,hH,hv,q⟩:=h
 cases rx
 obtain⟨u,rfl,ru⟩:=rv.one
 exact zok I hH ru hv (.inl rfl) fun w' s' I' r'=>⟨y,_,I',r',q⟩
end
def Itw (d:Addr)(o:Obj)(kvs:List (Key×V)):It :=
 ⟨fun i H=>H d=some (.frz o (.dK kvs))/\i<kvs.length,fun i H x H'=>H'=H/\∃p,kvs[i]?=some p/\x=p.2,fun i H=>H d=some (.frz o (.dK kvs))/\kvs.length<=i⟩
theorem zh0 {P:Program}{w:World}{K:Frag}{tg:Expr}{h0:Heap}{d:Addr}{o:Obj}{vs0:List (Key×Value)}{kvs:List (Key×V)}{ep:Nat}(ho:h0.get? d=some o)(at0:h0.DictAt (yp P w) d vs0 ep)(it:Addr):Turn P w K tg (Itw d o kvs) [it] it (fun i h=>h.IsValIter it d i kvs.length ep) where
 mem:=by simp
 obj:=fun i h st b hb=>by
  have e:b=it:=by simpa using hb
  subst e
  obtain⟨o,e,c,d⟩:=st
  exact⟨o,e,fun v z=>by rw[d] at z;cases z⟩
 keep:=fun i h h' st k=>by
  obtain⟨o,e,c,d⟩:=st
  exact⟨o,k it (by simp) o e,c,d⟩
 item:=by
  intro X hP hw hK hc i pins s σ H E I hf st hg
  subst hP hw hK
  obtain⟨hd,hi⟩:=hg
  obtain⟨ho1,hz,lo,vs,rv,hD⟩:=(show s.heap.get? d=some o/\kvs.length<=sizeLine/\(d==sysModules)=false/\∃vs,KV kvs vs/\s.heap.DictOf (yp X.prog X.w) d vs from I.hok d _ hd)
  obtain⟨ep',hat⟩:=hD.dictAt
  obtain rfl:=zhe ho ho1 at0 hat
  have hl:kvs.length=vs.length:=Paired.length rv
  obtain⟨f0,f1,f2,f3,f4,f5⟩:=hf it (by simp)
  obtain⟨q,hq,rq⟩:=zgY rv (ztj hi)
  rw[hl] at st
  refine wpAny_pyNext_values_item st hat (k:=q.1) (v:=q.2) hq fun h' st' sb=>?_
  rw[<-hl] at st'
  have I1:Inv X pins σ H { s with heap:=h' }:=I.turned (t':=s.toks) (fun b o hb e=>(sb.2 b hb).trans e) f0 f1 f3 f4 f5
  obtain⟨o,e,c,d⟩:=id st'
  exact⟨q.2,rfl,zb3 (s:={ s with heap:=h' }) e c d (by decide) ⟨(kvs[i]).2,H,I1,rq.2,⟨rfl,kvs[i],ztj hi,rfl⟩,st',fun b hb=>(hf b hb).1⟩⟩
 done:=by
  intro X hP hw hK hc i pins s σ H E I hf st hg
  subst hP hw hK
  obtain⟨hd,hi⟩:=hg
  obtain⟨ho1,hz,lo,vs,rv,hD⟩:=(show s.heap.get? d=some o/\kvs.length<=sizeLine/\(d==sysModules)=false/\∃vs,KV kvs vs/\s.heap.DictOf (yp X.prog X.w) d vs from I.hok d _ hd)
  obtain⟨ep',hat⟩:=hD.dictAt
  obtain rfl:=zhe ho ho1 at0 hat
  have hl:kvs.length=vs.length:=Paired.length rv
  obtain⟨f0,f1,f2,f3,f4,f5⟩:=hf it (by simp)
  rw[hl] at st
  exact wpAny_pyNext_values_end (I.ok.hd hc) st hat (List.getElem?_eq_none (by omega)) fun h' eb=>⟨rfl,I.turned (t':=s.toks) (fun b o hb e=>eb b o hb e) f0 f1 f3 f4 f5⟩
 self:=fun _ _ _ _ _ st h=>wpAny_pyIter_valiter st h
section
variable {X:Cx}{tg:Expr}
def zoK (tl:TE):TI:=fun σ H R=>tl σ H fun x H1=>∃d kvs,x=.ref d/\H1 d=some (.dK kvs)/\∀o,R (Itw d o kvs) (upd H1 d (.frz o (.dK kvs)))
theorem zlg {o:Expr}{tl:TE}{apos cpos:Pos}(ho:PE X o tl)
  (hbase:attributeBase o "values" X.env (eval o X.env)=eval o X.env:=by rfl)(hline:(apos.endLine==cpos.line)=true:=by rfl):PI X tg (.Call (.Attribute o "values" apos) [] [] cpos) (zoK tl):=by
 intro pins s σ H R I h
 refine wpAny_Call_method0_late hbase hline (wI (ho pins s σ H _ I h) fun v s1 ⟨x,H1,I1,r1,q1⟩=>?_)
 obtain⟨d,kvs,rfl,hd,q⟩:=q1
 obtain⟨h1,h2⟩:=zcQ (T := "dict") I1 r1 (.inr (.inr (.inl ⟨rfl,.inl ⟨kvs,hd⟩⟩)))
 cases r1
 obtain⟨hz,lo,vs,rv,hD⟩:=(show kvs.length<=sizeLine/\(d==sysModules)=false/\∃vs,KV kvs vs/\s1.heap.DictOf (yp X.prog X.w) d vs from I1.hok d _ hd)
 obtain⟨ep,hat⟩:=hD.dictAt
 obtain⟨o,es,ho,rest⟩:=id hat
 have hl:kvs.length=vs.length:=Paired.length rv
 refine⟨"dict", "dict.values", PySem.F.plainAttrs_dict,PySem.F.slot_dict_values,PySem.F.type_dict_values,h1,h2,Calls.callWith_builtin rfl (PySem.evalArgs_none ?_)⟩
 refine call_meetsIn PySem.F.slot_dict_values hD.typeIs PySem.F.entry_dict_values (PySem.F.args_dict_values_1 _) (meets_dict_values (yp X.prog X.w) d lo) ⟨⟨vs,hD⟩,?_⟩
 have I2:=(I1.held hd ho).kept (t':=s1.toks) (h':=s1.heap.push { cls:=.type "dict_values", data:=.fields #[.ref d] }) fun b o e=>zto _ e
 have ho2:(s1.heap.push { cls:=.type "dict_values", data:=.fields #[.ref d] }).get? d=some o:=zto _ ho
 have zjd:(s1.heap.push { cls:=.type "dict_values", data:=.fields #[.ref d] }).DictAt (yp X.prog X.w) d vs ep:=⟨o,es,ho2,rest⟩
 refine wpAny_pyIter_values (s:={ s1 with heap:=s1.heap.push { cls:=.type "dict_values", data:=.fields #[.ref d] } }) ⟨_,ztD _ rfl,rfl,rfl⟩ zjd ?_
 rw[<-hl]
 generalize s1.heap.push { cls:=.type "dict_values", data:=.fields #[.ref d] }=h2' at I2 ho2 zjd ⊢
 refine⟨h2'.objs.size,[h2'.objs.size],_,_,_,rfl,I2.kept (t':=s1.toks) fun b o e=>zto _ e,zh0 ho2 zjd _,⟨_,ztD _ rfl,rfl,rfl⟩,fun b hb=>?_,q o⟩
 have e:b=h2'.objs.size:=by simpa using hb
 subst e
 exact I2.zdU (zty _) (I2.hok.fresh (zty _))
end
theorem zlh {d:Addr}{o:Obj}{kvs:List (Key×V)}{σ:St}{js:List Nat}{te:TE}{H:Hp}{Qf:Addr->Hp->List V->Prop}(Pv:Nat->List V->Hp->Prop)(h0:Pv 0 [] H)(hz:kvs.length<=sizeLine)
  (hl:∀i ys H,i<=kvs.length->Pv i ys H->H d=some (.frz o (.dK kvs))/\ys.length<=i)
  (hs:∀i p ys H (Q:V->Hp->Prop),kvs[i]?=some p->Pv i ys H->(∀v H3,Pv (i+1) (ys++[v]) H3->Q v H3)->te (Yi σ js (some p.2)) H Q)
  (hd:∀ys H p,Pv kvs.length ys H->H p=none->Qf p H ys) :
  ∃W:Nat->Nat->List V->Hp->Prop,(∃m,W 0 m [] H)/\∀i m ys H,W i m ys H ->
   ((Itw d o kvs).stop i H/\∀p,H p=none->Qf p H ys) \/
   ((Itw d o kvs).go i H/\ys.length<sizeLine/\∀x H',(Itw d o kvs).Ni i H x H'->Uz (Yi σ js (some x)) H' fun b H2 =>
    if b=true then te (Yi σ js (some x)) H2 fun v H3=>∃m',m'<m/\W (i+1) m' (ys++[v]) H3 else ∃m',m'<m/\W (i+1) m' ys H2):=by
 refine⟨fun i m ys H=>m=kvs.length-i/\i<=kvs.length/\Pv i ys H,⟨kvs.length,by simp,ztF _,h0⟩,?_⟩
 rintro i m ys H ⟨rfl,hi,p⟩
 obtain⟨q,hy⟩:=hl i ys H hi p
 by_cases hlt:i<kvs.length
 ·refine .inr ⟨⟨q,hlt⟩,by omega,fun x H' y=>?_⟩
  obtain⟨e,pp,e2,rfl⟩:=y
  subst e
  dsimp only[Uz]
  rw[if_pos rfl]
  exact hs i pp ys _ _ e2 p fun v H3 h3=>⟨_,by omega,rfl,hlt,h3⟩
 ·have e:i=kvs.length:=by omega
  subst e
  exact .inl ⟨⟨q,zty _⟩,fun pp hp=>hd ys H pp p hp⟩
end L2
namespace uY
open PySem L2 yL
def zbF (fs:List (Nat->Bool))(b:Nat):Nat:=(fs.filter fun f=>f b).length
theorem zcz (fs:List (Nat->Bool))(f:Nat->Bool)(b:Nat):zbF (fs++[f]) b=zbF fs b+(f b).toNat:=by
 unfold zbF
 rw[ztU,ztq]
 cases h:f b<;>simp[h]
inductive zdi (K:Frag)(vs:List V)(H:Hp)(Q:VK)(E9:XK):Prop
 | mk (l:Addr) (n:Nat) (Ns:List Nat) (fs:List (Nat->Bool)) (_:vs=[.ref l]) (_:z6 K H l (Ns.map fun N=>V.int (N:Nat))) (_:Paired (zW n) Ns fs) (_:∀(R:Nat),zW n R (fun b=>decide (zbF fs b=1))->Q (.int (R:Nat)) H):zdi K vs H Q E9
def sgn (q:Cb):Nat:=(q.filter Option.isSome).length
theorem zdj:∀{q:Cb} {i:Nat} {v:Bool},q[i]?=some (some v)->sgn (q.set i none)+1=sgn q
 | [],i,v,h=>by cases h
 | s::q,0,v,h=>by
  cases h
  rfl
 | s::q,i+1,v,h=>by
  have ih:=zdj (q:=q) (i:=i) (v:=v) h
  show sgn (s::q.set i none)+1=sgn (s::q)
  unfold sgn at ih ⊢
  rw[List.filter_cons,List.filter_cons]
  cases s with
  | none=>exact ih
  | some u=>show _+1+1=_+1;rw[ih]
theorem zjz {q:Cb}{i b:Nat}(h:Xr q b=true):Xr (q.set i none) b=true:=by
 rw[W7] at h ⊢
 intro j v e
 rw[List.getElem?_set] at e
 split at e
 ·split at e<;>cases e
 ·exact h j v e
theorem zjA {n:Nat}{f:Nat->Bool}{b:Nat}:∀(m:Nat) (q:Cb),sgn q<=m->q.length=n->inB n f q=true->Xr q b=true->∃r,r.length=n/\uG n f r=true/\Xr r b=true:=by
 intro m
 induction m with
 | zero =>
  intro q hs hl hi hb
  refine⟨q,hl,(wK (p:=0)).mpr ⟨hi,fun i v e=>?_⟩,hb⟩
  have:=zdj e
  omega
 | succ m ih =>
  intro q hs hl hi hb
  by_cases h:∀i v,q[i]?=some (some v)->inB n f (q.set i none)=false
  ·exact⟨q,hl,(wK (p:=0)).mpr ⟨hi,h⟩,hb⟩
  ·obtain⟨i,h⟩:=Classical.not_forall.mp h
   obtain⟨v,h⟩:=Classical.not_forall.mp h
   obtain⟨e,h⟩:=Classical.not_imp.mp h
   have:=zdj e
   exact ih (q.set i none) (by omega) (by rw[List.length_set];exact hl) (by simpa using h) (zjz hb)
def zh1 (n b:Nat):Cb:=(List.range n).map fun i=>some (b.testBit i)
theorem zli {n b i:Nat}{v:Bool}(h:(zh1 n b)[i]?=some (some v)):i<n/\v=b.testBit i:=by
 unfold zh1 at h
 rw[ztk] at h
 rcases Nat.lt_or_ge i n with z | z
 ·rw[List.getElem?_range z] at h
  cases h
  exact⟨z,rfl⟩
 ·rw[List.getElem?_eq_none (by rw[ztA];exact z)] at h
  cases h
theorem zh2 {n:Nat}{f:Nat->Bool}{b:Nat}(hb:b<2^n)(h:f b=true):∃r,r.length=n/\uG n f r=true/\Xr r b=true:=by
 refine zjA (sgn (zh1 n b)) (zh1 n b) (zty _) (by unfold zh1;rw[zti,ztA]) ?_ ?_
 ·rw[Xu]
  intro c hc e
  rw[W7] at e
  have:c=b:=ZS hc hb fun i hi=>e i (b.testBit i) (by unfold zh1;rw[ztk,List.getElem?_range hi];rfl)
  rw[this];exact h
 ·rw[W7]
  intro i v e
  exact(zli e).2.symm
theorem Nj.cov {n:Nat}{f:Nat->Bool}{qs:List Cb}(h:Nj n 0 f qs){b:Nat}(hb:b<2^n):(∃c∈qs,Xr c b=true)↔f b=true:=by
 constructor
 ·rintro⟨c,hc,e⟩
  obtain⟨_,p⟩:=(h.mem c).mp hc
  exact Xu.mp (wK.mp p).1 b hb e
 ·intro e
  obtain⟨r,l,p,c⟩:=zh2 hb e
  exact⟨r,(h.mem r).mpr ⟨l,p⟩,c⟩
def Own (ks:List Cb)(c:Cb)(b:Nat):Prop:=Xr c b=true/\∀d∈ks,d≠c->Xr d b=false
theorem own_one:∀{ks:List Cb} {c:Cb} {b:Nat},ks.Nodup->c∈ks->Xr c b=true->(zbF (ks.map Xr) b=1↔Own ks c b):=by
 intro ks c b nd hc hb
 have e:zbF (ks.map Xr) b=(ks.filter fun d=>Xr d b).length:=by
  unfold zbF
  rw[List.filter_map,zti]
  rfl
 rw[e]
 have mc:c∈ks.filter fun d=>Xr d b:=List.mem_filter.mpr ⟨hc,hb⟩
 constructor
 ·intro h
  obtain⟨x,hx⟩:=List.length_eq_one_iff.mp h
  refine⟨hb,fun d hd ne=>?_⟩
  cases e2:Xr d b with
  | false=>rfl
  | true =>
   exfalso
   have md:d∈ks.filter fun d=>Xr d b:=List.mem_filter.mpr ⟨hd,e2⟩
   rw[hx,List.mem_singleton] at md mc
   exact ne (md.trans mc.symm)
 ·rintro⟨_,h⟩
  have nl:(ks.filter fun d=>Xr d b).Nodup:=nd.filter _
  have al:∀d∈ks.filter (fun d=>Xr d b),d=c:=fun d hd=>by
   obtain⟨h1,h2⟩:=List.mem_filter.mp hd
   by_cases z:d=c
   ·exact z
   ·rw[h d h1 z] at h2;cases h2
  generalize ks.filter (fun d=>Xr d b)=L at mc nl al
  match L,mc,nl,al with
  | [x],_,_,_=>rfl
  | x::y::L,_,nl,al =>
   exfalso
   have e1:=al x ztC
   have e2:=al y (ztt _ ztC)
   exact(List.nodup_cons.mp nl).1 (by rw[e1,<-e2];exact ztC)
theorem zjB (n:Nat)(f:Nat->Bool):∃N,zW n N f:=by
 have:∀m,∃N:Nat,∀b,N.testBit b=(decide (b<m)&&f b):=by
  intro m
  induction m with
  | zero=>exact⟨0,fun b=>by simp⟩
  | succ m ih =>
   obtain⟨N,h⟩:=ih
   refine⟨N|||(if f m then 2^m else 0),fun b=>?_⟩
   rw[Nat.testBit_or,h b]
   by_cases e:b=m
   ·subst e
    cases hf:f b with
    | false=>simp
    | true=>simp[Nat.testBit_two_pow_self]
   ·have e1:decide (b<m+1)=decide (b<m):=decide_eq_decide.mpr (by omega)
    rw[e1]
    have e2:(if f m=true then 2^m else 0).testBit b=false:=by
     split
     ·rw[Nat.testBit_two_pow];exact decide_eq_false (Ne.symm e)
     ·exact Nat.zero_testBit _
    rw[e2,Bool.or_false]
 exact this (2^n)
structure Cov (n:Nat)(f:Nat->Bool)(ks:List Cb)(rows:List (List Bool)):Prop where
 mem:∀c∈ks,c.length=n/\uG n f c=true
 up:ks.Pairwise ltC
 cov:∀b,b<2^n->((∃c∈ks,Xr c b=true)↔f b=true)
 len:rows.length=ks.length
 own:∀(i:Nat) c r,ks[i]?=some c->rows[i]?=some r->r.length=n/\Own ks c (uH r)
structure Whi (n:Nat)(f:Nat->Bool)(qs:List Cb)(i:Nat)(ks:List Cb):Prop where
 dn:∃dn,ks=dn++qs.drop i/\dn.Sublist (qs.take i)/\∀c∈dn,∃b,b<2^n/\Own ks c b
 cov:∀b,b<2^n->((∃c∈ks,Xr c b=true)↔f b=true)
theorem Whi.start {n:Nat}{f:Nat->Bool}{qs:List Cb}(P:Nj n 0 f qs):Whi n f qs 0 qs :=
 ⟨⟨[],rfl,List.Sublist.refl _,fun c h=>by cases h⟩,fun b hb=>P.cov hb⟩
theorem Own.less {ks ls:List Cb}{c:Cb}{b:Nat}(h:Own ks c b)(s:∀d∈ls,d∈ks):Own ls c b:=⟨h.1,fun d hd=>h.2 d (s d hd)⟩
theorem Whi.sub {n:Nat}{f:Nat->Bool}{qs ks:List Cb}{i:Nat}(h:Whi n f qs i ks):ks.Sublist qs:=by
 obtain⟨dn,e,s,_⟩:=h.dn
 rw[e]
 have:=s.append (List.Sublist.refl (qs.drop i))
 rwa [List.take_append_drop] at this
theorem Whi.nd {n:Nat}{f:Nat->Bool}{qs ks:List Cb}{i:Nat}(h:Whi n f qs i ks)(P:Nj n 0 f qs):ks.Nodup:=h.sub.nodup P.nd
theorem Whi.has {n:Nat}{f:Nat->Bool}{qs ks:List Cb}{i:Nat}{c:Cb}(h:Whi n f qs i ks)(e:qs[i]?=some c):c∈ks:=by
 obtain⟨dn,rfl,_⟩:=h.dn
 obtain⟨hi,rfl⟩:=ztl.mp e
 rw[List.drop_eq_getElem_cons hi]
 exact ztz _ ztC
theorem Whi.stay {n:Nat}{f:Nat->Bool}{qs ks:List Cb}{i:Nat}{c:Cb}(h:Whi n f qs i ks)(e:qs[i]?=some c)(o:∃b,b<2^n/\Own ks c b):Whi n f qs (i+1) ks:=by
 obtain⟨dn,e1,s,hd⟩:=h.dn
 obtain⟨hi,rfl⟩:=ztl.mp e
 refine⟨⟨dn++[qs[i]],?_,?_,fun d hd'=>?_⟩,h.cov⟩
 ·rw[e1,List.drop_eq_getElem_cons hi,List.append_assoc]
  rfl
 ·rw[yN e]
  exact s.append (List.Sublist.refl _)
 ·rcases List.mem_append.mp hd' with z | z
  ·exact hd d z
  ·rw[List.mem_singleton.mp z];exact o
theorem Whi.gone {n:Nat}{f:Nat->Bool}{qs ks:List Cb}{i:Nat}{c:Cb}(P:Nj n 0 f qs)(h:Whi n f qs i ks)(e:qs[i]?=some c)(o:∀b,b<2^n->¬Own ks c b):Whi n f qs (i+1) (ks.filter fun d=>decide (d≠c)):=by
 have nd:=h.nd P
 have hc:=h.has e
 obtain⟨dn,e1,s,hd⟩:=h.dn
 obtain⟨hi,rfl⟩:=ztl.mp e
 have e2:ks=dn++qs[i]::qs.drop (i+1):=by rw[e1,List.drop_eq_getElem_cons hi]
 have n1:∀d∈dn,d≠qs[i]:=fun d hd' z=>by
  rw[e2] at nd
  exact(List.nodup_append.mp nd).2.2 d hd' _ ztC z
 have n2:∀d∈qs.drop (i+1),d≠qs[i]:=fun d hd' z=>by
  rw[e2] at nd
  have:=(List.nodup_cons.mp (List.nodup_append.mp nd).2.1).1
  rw[z] at hd'
  exact this hd'
 have ef:ks.filter (fun d=>decide (d≠qs[i]))=dn++qs.drop (i+1):=by
  rw[e2,ztU,List.filter_cons_of_neg (by simp),List.filter_eq_self.mpr fun d hd'=>decide_eq_true (n1 d hd'),List.filter_eq_self.mpr fun d hd'=>decide_eq_true (n2 d hd')]
 have sub:∀d∈ks.filter (fun d=>decide (d≠qs[i])),d∈ks:=fun d hd'=>(List.mem_filter.mp hd').1
 refine⟨⟨dn,ef,?_,fun d hd'=>?_⟩,fun b hb=>?_⟩
 ·rw[yN e]
  exact List.Sublist.trans s (List.sublist_append_left _ _)
 ·obtain⟨b,h1,h2⟩:=hd d hd'
  exact⟨b,h1,h2.less sub⟩
 ·rw[<-h.cov b hb]
  constructor
  ·rintro⟨d,h1,h2⟩
   exact⟨d,sub d h1,h2⟩
  ·rintro⟨d,h1,h2⟩
   by_cases z:d=qs[i]
   ·subst z
    have y:=o b hb
    have:∃d,¬(d∈ks->d≠qs[i]->Xr d b=false):=Classical.not_forall.mp fun w=>y ⟨h2,w⟩
    obtain⟨d,hd'⟩:=this
    obtain⟨m1,hd'⟩:=Classical.not_imp.mp hd'
    obtain⟨m2,hd'⟩:=Classical.not_imp.mp hd'
    exact⟨d,List.mem_filter.mpr ⟨m1,decide_eq_true m2⟩,by simpa using hd'⟩
   ·exact⟨d,List.mem_filter.mpr ⟨h1,decide_eq_true z⟩,h2⟩
theorem Whi.done {n:Nat}{f:Nat->Bool}{qs ks:List Cb}(h:Whi n f qs qs.length ks):∀c∈ks,∃b,b<2^n/\Own ks c b:=by
 obtain⟨dn,e,_,hd⟩:=h.dn
 rw[List.drop_length,List.append_nil] at e
 subst e
 exact hd
def kvT (T:Cb->Nat)(c:Cb):Key×V:=(.inr (cbS c),.int (T c:Nat))
theorem zdk {T:Cb->Nat}:∀{ks:List Cb} {c:Cb},c∈ks->Zn (ks.map (kvT T)) (.inr (cbS c))=some (.int (T c:Nat))
 | d::ks,c,h=>by
  rw[ztH]
  by_cases z:d=c
  ·subst z
   exact vB rfl
  ·rw[wX (fun e=>z (zar (Sum.inr.inj e)))]
   exact zdk ((List.mem_cons.mp h).resolve_left (Ne.symm z))
theorem zeC {T:Cb->Nat}:∀{ks:List Cb} {c:Cb},c∉ks->Zn (ks.map (kvT T)) (.inr (cbS c))=none
 | [],c,_=>rfl
 | d::ks,c,h=>by
  rw[ztH,wX (fun e=>h (by rw[zar (Sum.inr.inj e)];exact ztC))]
  exact zeC fun z=>h (ztt _ z)
theorem zjC {T:Cb->Nat}{ks:List Cb}{c:Cb}:Jm (ks.map (kvT T)) (.inr (cbS c))=(ks.filter fun d=>decide (d≠c)).map (kvT T):=by
 unfold Jm
 rw[List.filter_map]
 congr 1
 refine List.filter_congr fun d _=>?_
 show decide ((kvT T d).1≠Sum.inr (cbS c))=_
 refine decide_eq_decide.mpr ⟨fun h e=>h (by rw[e];rfl),fun h e=>h (zar (Sum.inr.inj e))⟩
inductive zhs (C:Addr)(vs:List V)(H:Hp)(Q:VK)(E9:XK):Prop
 | mk (b:Addr) (os:List Str) (rs:List Rm) (F:yQ) (k:Nat) (_:vs=[.ref b,.int (k:Nat)]) (_:z7 C H b os rs F) (_:k<rs.length) (_:∀(t cl rl:Addr) (ks:List Cb) (ps:List Addr) (rows:List (List Bool)) (H':Hp),Same H H'->H t=none->H cl=none->H rl=none->cl≠rl->H' t=some (.tup [.ref cl,.ref rl])->H' cl=some (.lst (ks.map cbV))->H' rl=some (.lst (ps.map V.ref))->Paired (fun p r=>H p=none/\p≠cl/\p≠rl/\H' p=some (.lst (Sg r))) ps rows->ps.Nodup->Cov os.length (tB rs k) ks rows->ks.length<=2187->Q (.ref t) H'):zhs C vs H Q E9
def zlj (n:Nat)(f:Nat->Bool)(qs:List Cb):Bool:=(List.range (2^n)).all fun b=>(qs.any fun c=>Xr c b)==f b
theorem zjD {n:Nat}{f:Nat->Bool}{qs:List Cb}:zlj n f qs=true↔∀b,b<2^n->(qs.any fun c=>Xr c b)=f b:=by
 unfold zlj
 rw[ztM]
 exact⟨fun h b hb=>by simpa using h b (List.mem_range.mpr hb),fun h b hb=>by rw[h b (List.mem_range.mp hb)];simp⟩
inductive Qh (C:Addr)(K:Frag)(vs:List V)(H:Hp)(Q:VK)(E9:XK):Prop
 | mk (b l:Addr) (os:List Str) (rs:List Rm) (F:yQ) (k:Nat) (qs:List Cb) (_:vs=[.ref b,.int (k:Nat),.ref l]) (_:z7 C H b os rs F) (_:k<rs.length) (_:z6 K H l (qs.map cbV)) (_:∀q∈qs,q.length=os.length) (_:∀H',Same H H'->Q (.bl (zlj os.length (tB rs k) qs)) H'):Qh C K vs H Q E9
end uY
namespace L2
open PySem PySem.Spec PyProof.Rows
theorem zf9 {K:Frag}{σ:St}{js:List Nat}{te:TE}{H:Hp}{Qf:Addr->Hp->List V->Prop}{a:Addr}(T:Bool->Nat->Prop)(hq:vQ K H a [.int 0,.int 1])
  (hs:∀(v:Bool) H' (Q:V->Hp->Prop),Same H H'->(∀N:Nat,T v N->∀H3,Same H' H3->Q (.int (N:Nat)) H3)->te (Yi σ js (some (.int ((v.toNat:Nat):Int)))) H' Q)
  (hd:∀H' l (N0 N1:Nat),Same H H'->T false N0->T true N1->H' l=none->Qf l H' [.int (N0:Nat),.int (N1:Nat)]) :
  ∃W:Nat->Nat->List V->Hp->Prop,(∃m,W 0 m [] H)/\∀i m ys H,W i m ys H ->
   ((Itt K a).stop i H/\∀p,H p=none->Qf p H ys) \/
   ((Itt K a).go i H/\ys.length<sizeLine/\∀x H',(Itt K a).Ni i H x H'->Uz (Yi σ js (some x)) H' fun b H2 =>
    if b=true then te (Yi σ js (some x)) H2 fun v H3=>∃m',m'<m/\W (i+1) m' (ys++[v]) H3 else ∃m',m'<m/\W (i+1) m' ys H2):=by
 refine⟨fun i m ys H'=>m=2-i/\Same H H'/\(i=0/\ys=[]\/(i=1/\∃N0:Nat,T false N0/\ys=[.int (N0:Nat)])\/(i=2/\∃N0 N1:Nat,T false N0/\T true N1/\ys=[.int (N0:Nat),.int (N1:Nat)])),⟨2,rfl,Same.refl _,.inl ⟨rfl,rfl⟩⟩,?_⟩
 rintro i m ys H1 ⟨rfl,g,h⟩
 have hq1:=g.zmE hq
 rcases h with ⟨rfl,rfl⟩ | ⟨rfl,N0,t0,rfl⟩ | ⟨rfl,N0,N1,t0,t1,rfl⟩
 ·refine .inr ⟨⟨_,_,hq1,rfl⟩,by decide,fun x H' y=>?_⟩
  obtain⟨e,y⟩:=y
  subst e
  have ex:=y _ hq1
  cases ex
  dsimp only[Uz]
  rw[if_pos rfl]
  exact hs false _ _ g fun N tN H3 g3=>⟨1,by decide,rfl,g.trans g3,.inr (.inl ⟨rfl,N,tN,rfl⟩)⟩
 ·refine .inr ⟨⟨_,_,hq1,rfl⟩,by show 1<sizeLine;decide,fun x H' y=>?_⟩
  obtain⟨e,y⟩:=y
  subst e
  have ex:=y _ hq1
  cases ex
  dsimp only[Uz]
  rw[if_pos rfl]
  exact hs true _ _ g fun N tN H3 g3=>⟨0,by decide,rfl,g.trans g3,.inr (.inr ⟨rfl,N0,N,t0,tN,rfl⟩)⟩
 ·exact .inl ⟨⟨_,hq1,zty _⟩,fun l hl=>hd _ l N0 N1 g t0 t1 hl⟩
end L2
namespace uY
open PySem L2 yL
inductive MN (d:Nat)(vs:List V)(H:Hp)(Q:VK)(E9:XK):Prop
 | mk (N M p n:Nat) (f c:Nat->Bool) (_:vs=[.int (N:Nat),.int (M:Nat),.int (p:Nat),.int (n:Nat)]) (_:n<=8) (_:p<=n) (_:n+1<=p+d) (_:zW n N f) (_:zW n M c) (_:(∀i,i<p->Free n f i)) (_:(∀i,i<p->Free n c i)) (_:∀(R:Nat) (g:Nat->Bool) (H':Hp),Same H H'->zW n R g->Q (.int (R:Nat)) H'):MN d vs H Q E9
inductive zdl (C:Addr)(m:Nat)(vs:List V)(H:Hp)(Q:VK)(E9:XK):Prop
 | mk (b:Addr) (os:List Str) (rs:List Rm) (F:yQ) (k:Nat) (_:vs=[.ref b,.int (k:Nat)]) (_:z7 C H b os rs F) (_:os.length<=m) (_:k<rs.length) (_:∀(H':Hp) (s:Int),Same H H'->Q (.int s) H'):zdl C m vs H Q E9
inductive MP (C:Addr)(m:Nat)(vs:List V)(H:Hp)(Q:VK)(E9:XK):Prop
 | mk (b:Addr) (os:List Str) (rs:List Rm) (F:yQ) (i j:Nat) (_:vs=[.ref b,.int (i:Nat),.int (j:Nat)]) (_:z7 C H b os rs F) (_:os.length<=m) (_:rs.length<=8000000) (_:i<rs.length) (_:j<rs.length) (_:∀(k:Nat) (rs':List Rm) (H':Hp),zc4 F H H'->xr H H'->z7 C H' b os rs' F->vC rs rs'->hiN os.length rs'<=hiN os.length rs+63->Q (.int (k:Nat)) H'):MP C m vs H Q E9
inductive V3 (C D:Addr)(m:Nat)(vs:List V)(H:Hp)(Q9:VK)(E:XK):Prop
 | mk (b l:Addr) (os:List Str) (rs:List Rm) (F:yQ) (k:Nat) (q0 q1:Cb) (x:Str) (xs:List V) (_:vs=.ref b::.int (k:Nat)::.ref l::xs) (_:xs.length=m) (_:z7 C H b os rs F) (_:k<rs.length) (_:H l=some (.lst [cbV q0,cbV q1,.str x])) (_:q0.length=os.length) (_:q1.length=os.length) (_:asc x) (_:x.length<=1000) (_:T3 os.length x=false) (_:∀H',Same H H'->E (.ref D) none H'):V3 C D m vs H Q9 E
inductive U8 (C D:Addr)(vs:List V)(H:Hp)(Q9:VK)(E:XK):Prop
 | mk (b l:Addr) (os:List Str) (rs:List Rm) (F:yQ) (q0 q1:Cb) (x:Str) (_:vs=[.ref b,.ref l]) (_:z7 C H b os rs F) (_:H l=some (.lst [cbV q0,cbV q1,.str x])) (_:q0.length=os.length) (_:q1.length=os.length) (_:asc x) (_:x.length<=1000) (_:T3 os.length x=false) (_:∀H',Same H H'->E (.ref D) none H'):U8 C D vs H Q9 E
def Js (C D:Addr):Sp:=fun vs H Q E=>Wj C vs H Q E\/W6 C D vs H Q E
inductive zbc (C:Addr)(vs:List V)(H:Hp)(Q:VK)(E9:XK):Prop
 | mk (b l e:Addr) (os:List Str) (rs:List Rm) (F:yQ) (k:Nat) (q0 q1 q2:Cb) (_:vs=[.ref b,.int (k:Nat),.ref l,.ref e]) (_:z7 C H b os rs F) (_:k<rs.length) (_:H l=some (.lst [cbV q0,cbV q1,cbV q2])) (_:q0.length=os.length) (_:q1.length=os.length) (_:q2.length=os.length) (_:H e=some (.lst [])) (_:∀H',Same H H'->Q (.bl false) H'):zbc C vs H Q E9
inductive zat (C D:Addr)(vs:List V)(H:Hp)(Q9:VK)(E:XK):Prop
 | mk (b:Addr) (os:List Str) (rs:List Rm) (F:yQ) (k:Nat) (j:Int) (_:vs=[.ref b,.int (k:Nat),.int j]) (_:z7 C H b os rs F) (_:k<rs.length) (_:Bad rs.length j) (_:Small j) (_:∀H',Same H H'->E (.ref D) none H'):zat C D vs H Q9 E
structure JT (C:Addr)(H:Hp)(b cl:Addr)(i j:Int)(z0 z1 z2:Bool)(os:List Str)(rs:List Rm)(F:yQ)(k:Nat)(q0 q1:Cb)(x:Str):Prop where
 bk:z7 C H b os rs F
 n4:os.length<=4
 hh:hiN os.length rs<=2000
 hk:k<rs.length
 si:Small i
 sj:Small j
 r1:z0=true->i<0\/100000<=i
 r0:z0=false->i=(k:Nat)
 c1:z1=true->j<0\/100000<=j
 c0:z1=false->j=(k:Nat)
 cl:H cl=some (.lst [cbV q0,cbV q1,.str x])
 l0:q0.length=os.length
 l1:q1.length=os.length
 ax:asc x
 lx:x.length<=1000
 b1:z2=true->T3 os.length x=false
 b0:z2=false->∃q2:Cb,x=cbS q2/\q2.length=os.length
section
variable {C:Addr}{H:Hp}{b cl:Addr}{i j:Int}{z0 z1 z2:Bool}{os:List Str}{rs:List Rm}{F:yQ}{k:Nat}{q0 q1:Cb}{x:Str}
theorem JT.len (h:JT C H b cl i j z0 z1 z2 os rs F k q0 q1 x):rs.length<=2016:=ztE (zfW ((yu C).bk h.bk)) (Nat.add_le_add_right h.hh _)
theorem JT.bad {m:Int}(h:JT C H b cl i j z0 z1 z2 os rs F k q0 q1 x)(e:m<0\/100000<=m):Bad rs.length m:=by
 have:=h.len
 rcases e with e | e
 ·exact .inl e
 ·exact .inr (by omega)
theorem JT.mono (h:JT C H b cl i j z0 z1 z2 os rs F k q0 q1 x){H':Hp}(g:Same H H'):JT C H' b cl i j z0 z1 z2 os rs F k q0 q1 x:={ h with bk:=(yu C).same h.bk g,cl:=g _ _ h.cl }
end
def V4 (c:Nat)(z0 z1 z2:Bool):Option Nat:=if z0||(z1&&decide (5<c)) then some 2 else if z2&&(c==0||c==1||c==4||c==5) then some 7 else none
def ZX (C b:Addr)(os:List Str)(rs:List Rm)(F:yQ)(cs:List Addr)(d:Option Nat)(H:Hp)(Q:VK)(E:XK):Prop:=match d with
 | none=>∀(v:V) (rs':List Rm) (H':Hp),zc4 F H H'->xr H H'->z7 C H' b os rs' F->vC rs rs'->hiN os.length rs'<=hiN os.length rs+63->Q v H'
 | some n=>∀H',Same H H'->E (.ref (cs.getD n 0)) none H'
theorem ZX.go {C b:Addr}{os:List Str}{rs:List Rm}{F:yQ}{cs:List Addr}{H:Hp}{Q:VK}{E:XK}(t:ZX C b os rs F cs none H Q E)(hB:z7 C H b os rs F){H':Hp}(g:Same H H')(v:V):Q v H':=t v rs H' (zc4.of_same g) (xr.of g) ((yu C).same hB g) (vC.refl _) (ztS _ _)
inductive F68 (C:Addr)(cs:List Addr)(c:Nat)(nl:Bool)(ar:V->V->V->V->V->V->List V)(vs:List V)(H:Hp)(Q:VK)(E:XK):Prop
 | mk (b cl l:Addr) (i j:Int) (z0 z1 z2:Bool) (os:List Str) (rs:List Rm) (F:yQ) (k:Nat) (q0 q1:Cb) (x:Str) (_:vs=ar (.ref b) (.int i) (.int j) (.str x) (.ref cl) (.ref l)) (_:JT C H b cl i j z0 z1 z2 os rs F k q0 q1 x) (_:nl=true->H l=some (.lst [])) (_:ZX C b os rs F cs (V4 c z0 z1 z2) H Q E):F68 C cs c nl ar vs H Q E
def Wk (C:Addr)(cs:List Addr)(c:Nat)(nl:Bool)(ar:V->V->V->V->V->V->List V):Sp:=F68 C cs c nl ar
section
variable {P:Program}{w:World}{K:Frag}{mg:Str->Option Value}{base:Heap}{k:Nat}{f:Addr}{fd:FuncData}{ps:List Str}{C D D':Addr}{cs:List Addr}
theorem zjE {c:Nat}(hc:c=0\/c=1){sp:Sp}(hsp:∀b os rs F k q H (Q:VK) E,z7 C H b os rs F->k<rs.length->q.length=os.length->(∀v H',Same H H'->Q v H')->sp [.ref b,.int (k:Nat),.str (cbS q)] H Q E)(e:cs.getD 2 0=D)(e':cs.getD 7 0=D')(S:zy P w K mg base zZ k f fd ps sp)(R:zy P w K mg base (uF P w) k f fd ps (wY C D 1))(N:zy P w K mg base (uF P w) k f fd ps (V1 C D')):zy P w K mg base (uF P w) k f fd ps (Wk C cs c false fun b i _ x _ _=>[b,i,x]):=((S.lift.orE N).orE R).imp fun vs H Q E h=>by
 obtain⟨b,cl,l,i,j,z0,z1,z2,os,rs,F,k,q0,q1,x,rfl,h,_,q⟩:=h
 subst e e'
 have d5:decide (5<c)=false:=decide_eq_false (by omega)
 cases z0 with
 | true=>exact .inr ⟨b,os,rs,F,i,[_],rfl,rfl,h.bk,h.bad (h.r1 rfl),h.si,q⟩
 | false =>
  have e:=h.r0 rfl
  subst e
  unfold V4 at q
  rw[d5,Bool.and_false,Bool.or_false,if_neg ztm] at q
  have c0:(c==0||c==1||c==4||c==5)=true:=by rcases hc with rfl | rfl<;>rfl
  rw[c0,Bool.and_true] at q
  cases z2 with
  | true=>exact .inl (.inr ⟨b,os,rs,F,k,x,rfl,h.bk,h.hk,h.ax,h.lx,h.b1 rfl,q⟩)
  | false =>
   obtain⟨q2,rfl,l2⟩:=h.b0 rfl
   exact .inl (.inl (hsp b os rs F k q2 H Q E h.bk h.hk l2 fun v H' g=>q.go h.bk g v))
theorem zjF {c:Nat}(hc:c=2\/c=3){sp:Sp}(hsp:∀b os rs F k H (Q:VK) E,z7 C H b os rs F->k<rs.length->(∀v H',Same H H'->Q v H')->sp [.ref b,.int (k:Nat)] H Q E)(e:cs.getD 2 0=D)(S:zy P w K mg base zZ k f fd ps sp)(R:zy P w K mg base (uF P w) k f fd ps (wY C D 0)):zy P w K mg base (uF P w) k f fd ps (Wk C cs c false fun b i _ _ _ _=>[b,i]):=(S.lift.orE R).imp fun vs H Q E h=>by
 obtain⟨b,cl,l,i,j,z0,z1,z2,os,rs,F,k,q0,q1,x,rfl,h,_,q⟩:=h
 subst e
 have d5:decide (5<c)=false:=decide_eq_false (by omega)
 cases z0 with
 | true=>exact .inr ⟨b,os,rs,F,i,[],rfl,rfl,h.bk,h.bad (h.r1 rfl),h.si,q⟩
 | false =>
  have e:=h.r0 rfl
  subst e
  unfold V4 at q
  have c0:(c==0||c==1||c==4||c==5)=false:=by rcases hc with rfl | rfl<;>rfl
  rw[d5,Bool.and_false,Bool.or_false,if_neg ztm,c0,Bool.and_false,if_neg ztm] at q
  exact .inl (hsp b os rs F k H Q E h.bk h.hk fun v H' g=>q.go h.bk g v)
theorem zoL (e:cs.getD 2 0=D)(e':cs.getD 7 0=D')(S:zy P w K mg base zZ k f fd ps (Qh C K))(R:zy P w K mg base (uF P w) k f fd ps (wY C D 1))(N:zy P w K mg base (uF P w) k f fd ps (V3 C D' 0)):zy P w K mg base (uF P w) k f fd ps (Wk C cs 4 false fun b i _ _ cl _=>[b,i,cl]):=((S.lift.orE N).orE R).imp fun vs H Q E h=>by
 obtain⟨b,cl,l,i,j,z0,z1,z2,os,rs,F,k,q0,q1,x,rfl,h,_,q⟩:=h
 subst e e'
 cases z0 with
 | true=>exact .inr ⟨b,os,rs,F,i,[_],rfl,rfl,h.bk,h.bad (h.r1 rfl),h.si,q⟩
 | false =>
  have e:=h.r0 rfl
  subst e
  cases z2 with
  | true =>
   have q:ZX C b os rs F cs (some 7) H Q E:=by cases z1<;>exact q
   exact .inl (.inr ⟨b,cl,os,rs,F,k,q0,q1,x,[],rfl,rfl,h.bk,h.hk,h.cl,h.l0,h.l1,h.ax,h.lx,h.b1 rfl,q⟩)
  | false =>
   have q:ZX C b os rs F cs none H Q E:=by cases z1<;>exact q
   obtain⟨q2,rfl,l2⟩:=h.b0 rfl
   exact .inl (.inl ⟨b,cl,os,rs,F,k,[q0,q1,q2],rfl,h.bk,h.hk,z6.of h.cl,by simp[h.l0,h.l1,l2],fun H' g=>q.go h.bk g _⟩)
theorem zoM (e:cs.getD 2 0=D)(e':cs.getD 7 0=D')(S:zy P w K mg base zZ k f fd ps (zbc C))(R:zy P w K mg base (uF P w) k f fd ps (wY C D 2))(N:zy P w K mg base (uF P w) k f fd ps (V3 C D' 1)):zy P w K mg base (uF P w) k f fd ps (Wk C cs 5 true fun b i _ _ cl l=>[b,i,cl,l]):=((S.lift.orE N).orE R).imp fun vs H Q E h=>by
 obtain⟨b,cl,l,i,j,z0,z1,z2,os,rs,F,k,q0,q1,x,rfl,h,n,q⟩:=h
 subst e e'
 cases z0 with
 | true=>exact .inr ⟨b,os,rs,F,i,[_,_],rfl,rfl,h.bk,h.bad (h.r1 rfl),h.si,q⟩
 | false =>
  have e:=h.r0 rfl
  subst e
  cases z2 with
  | true =>
   have q:ZX C b os rs F cs (some 7) H Q E:=by cases z1<;>exact q
   exact .inl (.inr ⟨b,cl,os,rs,F,k,q0,q1,x,[_],rfl,rfl,h.bk,h.hk,h.cl,h.l0,h.l1,h.ax,h.lx,h.b1 rfl,q⟩)
  | false =>
   have q:ZX C b os rs F cs none H Q E:=by cases z1<;>exact q
   obtain⟨q2,rfl,l2⟩:=h.b0 rfl
   exact .inl (.inl ⟨b,cl,l,os,rs,F,k,q0,q1,q2,rfl,h.bk,h.hk,h.cl,h.l0,h.l1,l2,n rfl,fun H' g=>q.go h.bk g _⟩)
theorem zoN (e:cs.getD 2 0=D)(S:zy P w K mg base zZ k f fd ps (MP C 5))(R:zy P w K mg base (uF P w) k f fd ps (wY C D 1))(N:zy P w K mg base (uF P w) k f fd ps (zat C D)):zy P w K mg base (uF P w) k f fd ps (Wk C cs 6 false fun b i j _ _ _=>[b,i,j]):=((S.lift.orE N).orE R).imp fun vs H Q E h=>by
 obtain⟨b,cl,l,i,j,z0,z1,z2,os,rs,F,k,q0,q1,x,rfl,h,_,q⟩:=h
 subst e
 cases z0 with
 | true=>exact .inr ⟨b,os,rs,F,i,[_],rfl,rfl,h.bk,h.bad (h.r1 rfl),h.si,q⟩
 | false =>
  have e:=h.r0 rfl
  subst e
  cases z1 with
  | true=>exact .inl (.inr ⟨b,os,rs,F,k,j,rfl,h.bk,h.hk,h.bad (h.c1 rfl),h.sj,q⟩)
  | false =>
   have e:=h.c0 rfl
   subst e
   have q:ZX C b os rs F cs none H Q E:=by cases z2<;>exact q
   exact .inl (.inl ⟨b,os,rs,F,k,k,rfl,h.bk,by have:=h.n4;omega,by have:=h.len;omega,h.hk,h.hk,fun k2 rs' H' a1 a2 a3 a4 a5=>q _ rs' H' a1 a2 a3 a4 a5⟩)
theorem zoO (e:cs.getD 2 0=D)(S:zy P w K mg base zZ k f fd ps (MP C 5))(R:zy P w K mg base (uF P w) k f fd ps (wY C D 1))(N:zy P w K mg base (uF P w) k f fd ps (zat C D)):zy P w K mg base (uF P w) k f fd ps (Wk C cs 7 false fun b i j _ _ _=>[b,j,i]):=((S.lift.orE N).orE R).imp fun vs H Q E h=>by
 obtain⟨b,cl,l,i,j,z0,z1,z2,os,rs,F,k,q0,q1,x,rfl,h,_,q⟩:=h
 subst e
 cases z1 with
 | true =>
  have q:ZX C b os rs F cs (some 2) H Q E:=by cases z0<;>exact q
  exact .inr ⟨b,os,rs,F,j,[_],rfl,rfl,h.bk,h.bad (h.c1 rfl),h.sj,q⟩
 | false =>
  have e:=h.c0 rfl
  subst e
  cases z0 with
  | true=>exact .inl (.inr ⟨b,os,rs,F,k,i,rfl,h.bk,h.hk,h.bad (h.r1 rfl),h.si,q⟩)
  | false =>
   have e:=h.r0 rfl
   subst e
   have q:ZX C b os rs F cs none H Q E:=by cases z2<;>exact q
   exact .inl (.inl ⟨b,os,rs,F,k,k,rfl,h.bk,by have:=h.n4;omega,by have:=h.len;omega,h.hk,h.hk,fun k2 rs' H' a1 a2 a3 a4 a5=>q _ rs' H' a1 a2 a3 a4 a5⟩)
end
inductive zht (C:Addr)(cs:List Addr)(vs:List V)(H:Hp)(Q:VK)(E:XK):Prop
 | mk (c:Nat) (b cl:Addr) (i j:Int) (z0 z1 z2:Bool) (os:List Str) (rs:List Rm) (F:yQ) (k:Nat) (q0 q1:Cb) (x:Str) (_:vs=[.int (c:Nat),.ref b,.int i,.int j,.ref cl]) (_:c<8) (_:JT C H b cl i j z0 z1 z2 os rs F k q0 q1 x) (_:ZX C b os rs F cs (V4 c z0 z1 z2) H Q E):zht C cs vs H Q E
def zcA (C:Addr)(cs:List Addr):Sp:=zht C cs
inductive zlU (C:Addr)(vs:List V)(H:Hp)(Q:VK)(E:XK):Prop
 | mk (c:Nat) (b cl:Addr) (i j:Int) (z0 z1 z2:Bool) (os:List Str) (rs:List Rm) (F:yQ) (k:Nat) (q0 q1:Cb) (x:Str) (_:vs=[.int (c:Nat),.ref b,.int i,.int j,.ref cl]) (_:c<8) (_:JT C H b cl i j z0 z1 z2 os rs F k q0 q1 x) (_:V4 c z0 z1 z2=none->∀(rs':List Rm) (H':Hp),zc4 F H H'->xr H H'->z7 C H' b os rs' F->vC rs rs'->hiN os.length rs'<=hiN os.length rs+63->Q (.str "nothing") H') (_:∀n,V4 c z0 z1 z2=some n->∀(t l:Addr) (H':Hp),Same H H'->H' t=some (.tup [.str "refused", .ref l])->H' l=some (.lst [.str (Xg.getD n "")])->Q (.ref t) H'):zlU C vs H Q E
def zhu (C:Addr):Sp:=zlU C
def in4 (c:Nat):Bool:=c==0||c==1||c==4||c==5
theorem znf:∀c:Fin 8,inV (V.int ((c:Nat):Int)) [.int 0,.int 1,.int 4,.int 5]=in4 c:=by decide
def Pu (c:Nat)(z0 z1 z2:Bool):Str:=if z0||(z1&&decide (5<c)) then "room" else if z2&&in4 c then "cover" else "nothing"
theorem zeD {c:Nat}{z0 z1 z2:Bool}(h:V4 c z0 z1 z2=none):Pu c z0 z1 z2="nothing" := by
 unfold V4 at h
 unfold Pu
 split at h
 ·cases h
 ·rename_i h1
  split at h
  ·cases h
  ·rename_i h2
   rw[if_neg h1]
   exact if_neg h2
theorem zeE {c:Nat}{z0 z1 z2:Bool}{n:Nat}(h:V4 c z0 z1 z2=some n):Xg.getD n ""=Pu c z0 z1 z2:=by
 unfold V4 at h
 unfold Pu
 split at h
 ·rename_i h1
  cases h
  rw[if_pos h1]
  decide +kernel
 ·rename_i h1
  split at h
  ·rename_i h2
   cases h
   rw[if_neg h1,show(z2&&in4 c)=true from h2,if_pos rfl]
   decide +kernel
  ·cases h
end uY
namespace K68
open PySem L2
def top (i:Nat):Stmt:=PySem.Challenge.pw_decidebook_k68_covers_refused.main.body.getD i (.Pass ⟨0,0,0,0⟩)
abbrev zbd:Stmt:=top 14
abbrev xT:List Str:=["marks"]
theorem zeF:zH ["marks"] xT (zx zbd):=fsc (by decide +kernel)
abbrev Jt:Stmt:=top 15
abbrev xJ:List Str:=["place", "marks"]
theorem Z0:zH ["place", "marks", "half", "table", "further"] xJ (zx Jt):=fsc (by decide +kernel)
abbrev zcB:Stmt:=top 16
abbrev Ym:List Str:=["table", "place", "marks"]
theorem Px:zH ["table", "place", "marks", "ones", "noughts"] Ym (zx zcB):=fsc (by decide +kernel)
abbrev zga:Stmt:=top 17
abbrev zgb:List Str:=["table", "row"]
abbrev zcC:Stmt:=top 18
abbrev uo:List Str:=["table", "place", "value", "marks"]
theorem Py:zH ["table", "place", "value", "marks", "ones", "kept"] uo (zx zcC):=fsc (by decide +kernel)
abbrev zbe:Stmt:=top 19
abbrev Yn:List Str:=["table", "place", "marks"]
theorem zeG:zH ["table", "place", "marks"] Yn (zx zbe):=fsc (by decide +kernel)
abbrev QD:Stmt:=top 20
abbrev tY:List Str:=["table", "marks"]
theorem Wm:zH ["table", "marks", "place"] tY (zx QD):=fsc (by decide +kernel)
abbrev zcD:Stmt:=top 21
abbrev Zy:List Str:=["table", "other"]
theorem zgc:zH ["table", "other"] Zy (zx zcD):=fsc (by decide +kernel)
abbrev QF:Stmt:=top 22
abbrev YD:List Str:=["places", "values", "marks"]
theorem vD:zH ["places", "values", "marks", "table", "place", "value", "ones"] YD (zx QF):=fsc (by decide +kernel)
abbrev Ro:Stmt:=top 23
abbrev Z1:List Str:=["table", "places", "marks"]
theorem wR:zH ["table", "places", "marks", "values", "place", "low", "value"] Z1 (zx Ro):=fsc (by decide +kernel)
abbrev Ju:Stmt:=top 24
abbrev W8:List Str:=["table", "marks"]
theorem zdm:zH ["table", "marks"] W8 (zx Ju):=fsc (by decide +kernel)
abbrev zeH:Stmt:=top 25
abbrev Rp:List Str:=["where", "low", "high"]
theorem zh3:zH ["where", "low", "high"] Rp (zx zeH):=fsc (by decide +kernel)
abbrev zcE:Stmt:=top 31
abbrev X4:List Str:=["letter"]
theorem zgd:zH ["letter"] X4 (zx zcE):=fsc (by decide +kernel)
abbrev Pz:Stmt:=top 32
abbrev U9:List Str:=["order"]
theorem zeI:zH ["order"] U9 (zx Pz):=fsc (by decide +kernel)
abbrev zjG:Stmt:=top 33
abbrev zjH:List Str:=["order", "row"]
abbrev M4:Stmt:=top 34
abbrev u9:List Str:=["sentence"]
theorem zbG:zH ["sentence"] u9 (zx M4):=fsc (by decide +kernel)
abbrev zbf:Stmt:=top 35
abbrev uO:List Str:=["sentence"]
theorem zeJ:zH ["sentence"] uO (zx zbf):=fsc (by decide +kernel)
abbrev Rq:Stmt:=top 36
abbrev uP:List Str:=["level"]
theorem Xh:zH ["level", "found", "sentence"] uP (zx Rq):=fsc (by decide +kernel)
abbrev W9:Stmt:=top 37
abbrev Va:List Str:=["some"]
theorem M5:zH ["some", "shape"] Va (zx W9):=fsc (by decide +kernel)
abbrev Vp:Stmt:=top 38
abbrev YF:List Str:=["some"]
theorem wL:zH ["some", "level", "deep", "tuples"] YF (zx Vp):=fsc (by decide +kernel)
abbrev T4:Stmt:=top 39
abbrev Zi:List Str:=["order"]
theorem KH:zH ["order"] Zi (zx T4):=fsc (by decide +kernel)
abbrev Wn:Stmt:=top 40
abbrev vU:List Str:=["some"]
theorem Qv:zH ["some"] vU (zx Wn):=fsc (by decide +kernel)
abbrev V5:Stmt:=top 41
abbrev vG:List Str:=["order", "letter"]
theorem M6:zH ["order", "letter"] vG (zx V5):=fsc (by decide +kernel)
abbrev Vb:Stmt:=top 42
abbrev uJ:List Str:=["order", "sentence"]
theorem Wo:zH ["order", "sentence", "letter"] uJ (zx Vb):=fsc (by decide +kernel)
abbrev Jv:Stmt:=top 43
abbrev Vc:List Str:=["sentence"]
theorem Xv:zH ["sentence", "found", "level"] Vc (zx Jv):=fsc (by decide +kernel)
abbrev M7:Stmt:=top 44
abbrev Xw:List Str:=["sentence"]
theorem Vq:zH ["sentence", "found", "part"] Xw (zx M7):=fsc (by decide +kernel)
abbrev PB:Stmt:=top 45
abbrev Yo:List Str:=["sentence", "order"]
theorem Vd:zH ["sentence", "order", "word", "marks", "tables"] Yo (zx PB):=fsc (by decide +kernel)
abbrev Rr:Stmt:=top 46
abbrev vH:List Str:=["word", "one", "other", "every"]
theorem JV:zH ["word", "one", "other", "every"] vH (zx Rr):=fsc (by decide +kernel)
abbrev Jw:Stmt:=inClass (top 48) 0
abbrev Ve:List Str:=["self", "order"]
theorem M8:zH ["self", "order", "marks"] Ve (zx Jw):=fsc (by decide +kernel)
abbrev M9:Stmt:=inClass (top 48) 1
abbrev wZ:List Str:=["self"]
theorem zbH:zH ["self"] wZ (zx M9):=fsc (by decide +kernel)
abbrev zeK:Stmt:=inClass (top 48) 2
abbrev zeL:List Str:=["self"]
abbrev La:Stmt:=inClass (top 48) 3
abbrev Xx:List Str:=["self", "sentence"]
theorem zbI:zH ["self", "sentence"] Xx (zx La):=fsc (by decide +kernel)
abbrev zeM:Stmt:=inClass (top 48) 4
abbrev zeN:List Str:=["self", "number"]
abbrev Lb:Stmt:=inClass (top 48) 6
abbrev Xy:List Str:=["self", "number"]
theorem YG:zH ["self", "number", "found", "waiting", "here"] Xy (zx Lb):=fsc (by decide +kernel)
abbrev Xm:Stmt:=inClass (top 48) 7
abbrev zJ:List Str:=["self", "number"]
theorem Xb:zH ["self", "number"] zJ (zx Xm):=fsc (by decide +kernel)
abbrev JW:Stmt:=inClass (top 48) 8
abbrev JX:List Str:=["self", "number"]
abbrev Le:Stmt:=inClass (top 48) 9
abbrev Z2:List Str:=["self", "number", "value"]
theorem zbJ:zH ["self", "number", "value"] Z2 (zx Le):=fsc (by decide +kernel)
abbrev T5:Stmt:=inClass (top 48) 11
abbrev yU:List Str:=["self", "number"]
theorem KJ:zH ["self", "number"] yU (zx T5):=fsc (by decide +kernel)
abbrev V6:Stmt:=inClass (top 48) 12
abbrev xu:List Str:=["self", "table"]
theorem vd:zH ["self", "table", "marks", "place", "low", "high"] xu (zx V6):=fsc (by decide +kernel)
abbrev zcF:Stmt:=top 50
abbrev Qi:List Str:=["book", "room"]
theorem zge:zH ["book", "room"] Qi (zx zcF):=fsc (by decide +kernel)
abbrev KN:Stmt:=top 53
abbrev V7:List Str:=["book", "cube"]
theorem zgf:zH ["book", "cube"] V7 (zx KN):=fsc (by decide +kernel)
abbrev Rt:Stmt:=top 54
abbrev yS:List Str:=["book", "cube"]
theorem T6:zH ["book", "cube"] yS (zx Rt):=fsc (by decide +kernel)
abbrev T7:Stmt:=top 55
abbrev wU:List Str:=["book", "cubes"]
theorem tD:zH ["book", "cubes", "cube"] wU (zx T7):=fsc (by decide +kernel)
abbrev V8:Stmt:=top 56
abbrev Yp:List Str:=["cube"]
theorem zbg:zH ["cube", "places"] Yp (zx V8):=fsc (by decide +kernel)
abbrev Jx:Stmt:=top 57
abbrev xK:List Str:=["book", "room", "cube"]
theorem Tc:zH ["book", "room", "cube"] xK (zx Jx):=fsc (by decide +kernel)
abbrev Wq:Stmt:=top 58
abbrev Yq:List Str:=["book", "room", "cube"]
theorem Ru:zH ["book", "room", "cube"] Yq (zx Wq):=fsc (by decide +kernel)
abbrev Qj:Stmt:=top 59
abbrev Yr:List Str:=["cube"]
theorem zgg:zH ["cube"] Yr (zx Qj):=fsc (by decide +kernel)
abbrev zeO:Stmt:=top 60
abbrev Wr:List Str:=["book", "room"]
theorem zcG:zH ["book", "room"] Wr (zx zeO):=fsc (by decide +kernel)
abbrev vm:Stmt:=top 61
abbrev ur:List Str:=["table", "place", "marks"]
theorem vI:zH ["table", "place", "marks", "low", "high", "either", "noughts", "ones"] ur (zx vm):=fsc (by decide +kernel)
abbrev zdn:Stmt:=top 62
abbrev Lf:List Str:=["book", "room"]
theorem Xc:zH ["book", "room", "kept", "cube", "own"] Lf (zx zdn):=fsc (by decide +kernel)
abbrev QG:Stmt:=top 63
abbrev YH:List Str:=["tables"]
theorem vJ:zH ["tables", "seen", "again", "table"] YH (zx QG):=fsc (by decide +kernel)
abbrev zbh:Stmt:=top 64
abbrev vV:List Str:=["book", "room", "cubes"]
theorem Zz:zH ["book", "room", "cubes", "covered", "cube"] vV (zx zbh):=fsc (by decide +kernel)
abbrev QJ:Stmt:=top 65
abbrev uw:List Str:=["book", "room", "cubes", "rows"]
theorem Ws:zH ["book", "room", "cubes", "rows", "own", "order"] uw (zx QJ):=fsc (by decide +kernel)
abbrev zhv:Stmt:=top 66
abbrev Qk:List Str:=["book", "room", "care"]
theorem Lg:zH ["book", "room", "care", "made"] Qk (zx zhv):=fsc (by decide +kernel)
abbrev V9:Stmt:=top 67
abbrev X5:List Str:=["table", "care", "place", "marks"]
theorem Wt:zH ["table", "care", "place", "marks", "cares", "sides", "value", "made"] X5 (zx V9):=fsc (by decide +kernel)
abbrev T8:Stmt:=top 69
abbrev yV:List Str:=["script", "k"]
theorem Ua:zH ["script", "k"] yV (zx T8):=fsc (by decide +kernel)
abbrev Lh:Stmt:=top 70
abbrev vf:List Str:=["cell", "k", "bound"]
theorem ux:zH ["cell", "k", "bound", "stir", "left", "j"] vf (zx Lh):=fsc (by decide +kernel)
abbrev QK:Stmt:=top 71
abbrev YJ:List Str:=["cell", "limit"]
theorem Wu:zH ["cell", "limit", "found", "k"] YJ (zx QK):=fsc (by decide +kernel)
abbrev vK:Stmt:=top 72
abbrev tE:List Str:=["script", "at", "many", "order"]
theorem yC:zH ["script", "at", "many", "order", "kinds", "made", "k", "cell", "kind", "one", "other", "letter"] tE (zx vK):=fsc (by decide +kernel)
abbrev Td:Stmt:=top 73
abbrev Xz:List Str:=["cell", "size"]
theorem zbK:zH ["cell", "size"] Xz (zx Td):=fsc (by decide +kernel)
abbrev Vr:Stmt:=top 74
abbrev tZ:List Str:=["e"]
theorem Z4:zH ["e", "kinds", "terms"] tZ (zx Vr):=fsc (by decide +kernel)
abbrev zbi:Stmt:=top 75
abbrev Wv:List Str:=["told", "word"]
theorem zeP:zH ["told", "word"] Wv (zx zbi):=fsc (by decide +kernel)
abbrev QL:Stmt:=top 76
abbrev YK:List Str:=["call", "book", "room", "care", "cubes"]
theorem zbj:zH ["call", "book", "room", "care", "cubes"] YK (zx QL):=fsc (by decide +kernel)
abbrev Jy:Stmt:=top 77
abbrev Vf:List Str:=["call", "book", "room", "care", "cubes"]
theorem XC:zH ["call", "book", "room", "care", "cubes", "told", "e"] Vf (zx Jy):=fsc (by decide +kernel)
abbrev S_law:Stmt:=top 78
abbrev p_law:List Str:=["script"]
theorem sc_law:zH ["script", "order", "book", "room", "cell", "far", "care", "bad", "cubes", "call", "last", "due", "told"] p_law (zx S_law):=fsc (by decide +kernel)
def xQ:List (Str×Int×Int):=[("yes", 0,0),("no", 0,0),("mark", 1,0),("not", 0,1),("and", 0,2),("or", 0,2),("either", 0,2),("if", 0,2),("some", 1,1),("each", 1,1)]
set_option genInjectivity false in
set_option genSizeOf false in
structure Ad where
 wM:Addr
 wN:FuncData
 wk:Addr
 wu:FuncData
 X6:Addr
 X7:FuncData
 zgh:Addr
 zgi:FuncData
 tG:Addr
 tH:FuncData
 Ww:Addr
 Wx:FuncData
 YL:Addr
 YM:FuncData
 Ys:Addr
 Yt:FuncData
 Vs:Addr
 Vt:FuncData
 Wy:Addr
 Wz:FuncData
 Rv:Addr
 Rw:FuncData
 Li:Addr
 Lj:FuncData
 Ub:Addr
 Uc:FuncData
 PJ:Addr
 PK:FuncData
 zjI:Addr
 zjJ:FuncData
 Z5:Addr
 Z6:FuncData
 Zo:Addr
 Zq:FuncData
 Z7:Addr
 Z8:FuncData
 Rx:Addr
 Ry:FuncData
 Vu:Addr
 Vv:FuncData
 Xi:Addr
 Xj:FuncData
 Zr:Addr
 Zt:FuncData
 tK:Addr
 tL:FuncData
 Z9:Addr
 Yb:FuncData
 Rz:Addr
 RB:FuncData
 Te:Addr
 Tg:FuncData
 WD:Addr
 WK:FuncData
 uQ:Addr
 uR:FuncData
 Vg:Addr
 RD:FuncData
 vW:Addr
 vX:FuncData
 zeQ:Addr
 zeR:FuncData
 Ti:Addr
 Tj:FuncData
 zeS:Addr
 zeT:FuncData
 Tn:Addr
 Tp:FuncData
 zM:Addr
 zN:FuncData
 JZ:Addr
 J0:FuncData
 XD:Addr
 XF:FuncData
 xU:Addr
 xV:FuncData
 wC:Addr
 wD:FuncData
 KQ:Addr
 KR:FuncData
 Ql:Addr
 Qm:FuncData
 xM:Addr
 xO:FuncData
 uc:Addr
 ud:FuncData
 X8:Addr
 Wa:FuncData
 wz:Addr
 wA:FuncData
 WL:Addr
 WM:FuncData
 Wb:Addr
 Wc:FuncData
 Ud:Addr
 Ue:FuncData
 Za:Addr
 Zb:FuncData
 zau:Addr
 zav:FuncData
 Vw:Addr
 Vx:FuncData
 uT:Addr
 uU:FuncData
 Zc:Addr
 Zd:FuncData
 Lk:Addr
 Ln:FuncData
 Ug:Addr
 Uh:FuncData
 xW:Addr
 xX:FuncData
 vY:Addr
 vZ:FuncData
 Vy:Addr
 Vz:FuncData
 Yu:Addr
 Yv:FuncData
 Tq:Addr
 Tr:FuncData
 YQ:Addr
 YS:FuncData
 Tt:Addr
 Tv:FuncData
 VB:Addr
 VD:FuncData
 RG:Addr
 RJ:FuncData
 a_law:Addr
 d_law:FuncData
 zp:Addr
 yW:Addr
 wF:Addr
 XH:Addr
 vL:Addr
 z8:Addr
 Zj:Addr
 xY:Addr
 yX:Addr
 xZ:Addr
 yg:Addr
 uV:Addr
 zaw:Addr
 zbL:Tok
 zeU:Tok
 Ui:Addr
 zh4:List (Str×Value)
 zax:Addr
structure Txt (P:Program)(w:World)(K:Frag)(mg:Str->Option Value)(a:Ad):Prop where
 zng:mg "Book"=some (.ref a.zp)
 zeV:mg "BookError"=some (.ref a.yW)
 zh5:mg "NoOrder"=some (.ref a.wF)
 zlk:mg "NoSentence"=some (.ref a.XH)
 zjK:mg "NoMark"=some (.ref a.vL)
 zeW:mg "NoRoom"=some (.ref a.z8)
 zll:mg "NoRow"=some (.ref a.Zj)
 zgj:mg "NoNumber"=some (.ref a.xY)
 zeX:mg "NoWeights"=some (.ref a.yX)
 zgk:mg "NoShares"=some (.ref a.xZ)
 zcH:mg "NoCover"=some (.ref a.yg)
 zgl:mg "TooGreat"=some (.ref a.uV)
 v7:Df K mg "all_rows" zbd a.wM a.wN xT
 ZC:Df K mg "rows_with" Jt a.wk a.wu xJ
 Uj:Df K mg "flipped" zcB a.X6 a.X7 Ym
 znh:Df K mg "value_at" zga a.zgh a.zgi zgb
 tO:Df K mg "held_at" zcC a.tG a.tH uo
 PL:Df K mg "hangs_on" zbe a.Ww a.Wx Yn
 QM:Df K mg "first_place" QD a.YL a.YM tY
 Uk:Df K mg "without" zcD a.Ys a.Yt Zy
 QS:Df K mg "rows_having" QF a.Vs a.Vt YD
 RK:Df K mg "first_values" Ro a.Wy a.Wz Z1
 Jz:Df K mg "first_row" Ju a.Rv a.Rw W8
 zeY:Df K mg "chosen" zeH a.Li a.Lj Rp
 KY:Df K mg "is_mark" zcE a.Ub a.Uc X4
 zbk:Df K mg "is_order" Pz a.PJ a.PK U9
 zoP:Df K mg "is_row" zjG a.zjI a.zjJ zjH
 Tw:Df K mg "letters_of" M4 a.Z5 a.Z6 u9
 Tz:Df K mg "parts_of" zbf a.Zo a.Zq uO
 WQ:Df K mg "parts_of_all" Rq a.Z7 a.Z8 uP
 JB:Df K mg "is_shaped" W9 a.Rx a.Ry Va
 QT:Df K mg "is_sentence" Vp a.Vu a.Vv YF
 T9:Df K mg "must_be_order" T4 a.Xi a.Xj Zi
 WR:Df K mg "must_be_sentence" Wn a.Zr a.Zt vU
 Ul:Df K mg "must_have_mark" V5 a.tK a.tL vG
 Vh:Df K mg "must_have_marks" Vb a.Z9 a.Yb uJ
 JC:Df K mg "tuples_in" Jv a.Rz a.RB Vc
 Lp:Df K mg "letters_in" M7 a.Te a.Tg Xw
 PN:Df K mg "table_of" PB a.WD a.WK Yo
 RL:Df K mg "table_of_two" Rr a.uQ a.uR vH
 KZ:Df K mg "size_of" zcF a.KQ a.KR Qi
 K1:Df K mg "is_cube" KN a.Ql a.Qm V7
 vM:Df K mg "must_be_cube" Rt a.xM a.xO yS
 Zk:Df K mg "must_be_cubes" T7 a.uc a.ud wU
 Um:Df K mg "rows_of" V8 a.X8 a.Wa Yp
 wB:Df K mg "is_within" Jx a.wz a.wA xK
 TJ:Df K mg "is_prime" Wq a.WL a.WM Yq
 Qo:Df K mg "widened" Qj a.Wb a.Wc Yr
 RM:Df K mg "primes" zeO a.Ud a.Ue Wr
 Ze:Df K mg "primes_from" vm a.Za a.Zb ur
 zdo:Df K mg "cover" zdn a.zau a.zav Lf
 VF:Df K mg "rows_of_one" QG a.Vw a.Vx YH
 Zu:Df K mg "is_cover" zbh a.uT a.uU vV
 YT:Df K mg "cover_shows" QJ a.Zc a.Zd uw
 Lq:Df K mg "cared" zhv a.Lk a.Ln Qk
 Uo:Df K mg "trimmed" V9 a.Ug a.Uh X5
 yZ:Df K mg "_law_cell_at" T8 a.xW a.xX yV
 yD:Df K mg "_law_draw" Lh a.vY a.vZ vf
 QV:Df K mg "_law_order" QK a.Vy a.Vz YJ
 Uq:Df K mg "_law_sentence" vK a.Yu a.Yv tE
 Lr:Df K mg "_law_cube" Td a.Tq a.Tr Xz
 YW:Df K mg "_law_which" Vr a.YQ a.YS tZ
 zbl:Df K mg "_law_is" zbi a.Tt a.Tv Wv
 YX:Df K mg "_law_asked" QL a.VB a.VD YK
 JD:Df K mg "_law_met" Jy a.RG a.RJ Vf
 f_law:Df K mg "law" S_law a.a_law a.d_law p_law
 JF:Dm K a.zp "__init__" "Book.__init__" Jw a.Vg a.RD Ve
 Yc:Dm K a.zp "order" "Book.order" M9 a.vW a.vX wZ
 zlV:Dm K a.zp "size" "Book.size" zeK a.zeQ a.zeR zeL
 Ls:Dm K a.zp "enter" "Book.enter" La a.Ti a.Tj Xx
 zlW:Dm K a.zp "room" "Book.room" zeM a.zeS a.zeT zeN
 Lw:Dm K a.zp "below" "Book.below" Lb a.Tn a.Tp Xy
 zR:Dm K a.zp "must_be_room" "Book.must_be_room" Xm a.zM a.zN zJ
 zin:Dm K a.zp "place_of" "Book.place_of" JW a.JZ a.J0 JX
 TQ:Dm K a.zp "going" "Book.going" Le a.XD a.XF Z2
 wV:Dm K a.zp "table_at" "Book.table_at" T5 a.xU a.xV yU
 vN:Dm K a.zp "room_with" "Book.room_with" V6 a.wC a.wD xu
 z9:Cls K a.zp
 zlm:Mk K a.zp a.Vg
 Zf:Wf K a.zp "marks"
 uy:Wf K a.zp "rooms"
 WT:Wf K a.zp "tables"
 uf:Wf K a.zp "numbers"
 zgm:Mx K a.wF
 zjZ:Mx K a.XH
 zh6:Mx K a.vL
 zh7:Mx K a.z8
 zjL:Mx K a.Zj
 zeZ:Mx K a.xY
 zdp:Mx K a.yX
 ze0:Mx K a.xZ
 zgn:Mx K a.yg
 ze1:Mx K a.uV
 zni:Pn K a.yW a.wF
 zj0:Pn K a.yW a.XH
 znx:Pn K a.yW a.vL
 K3:Pn K a.yW a.z8
 PX:Pn K a.yW a.yg
 xb:zm3 K a.yW
 xd:[a.yW,a.wF,a.XH,a.vL,a.z8,a.Zj,a.xY,a.yX,a.xZ,a.yg,a.uV].Nodup
 zdq:mg "ValueError"=none
 zln:mg "MARKS"=some (.ref a.zaw)
 zlo:∀H,vQ K H a.zaw ((["a", "b", "c", "d", "e", "f", "g", "h"]:List Str).map V.str)
 zbM:mg "MOST_TUPLES"=some (.int 200 a.zbL)
 ze2:mg "MOST_DEEP"=some (.int 24 a.zeU)
 Lx:mg "SHAPES"=some (.ref a.Ui)
 WW:Shp K P w a.Ui a.zh4 xQ
 zlp:mg "SIGNS"=some (.ref a.zax)
 zlq:∀H,vQ K H a.zax ((["-", "0", "1"]:List Str).map V.str)
 ze3:mg "all"=none
 zjM:mg "any"=none
 JG:mg "enumerate"=none
 zoQ:mg "int"=none
 yI:mg "isinstance"=none
 xP:mg "len"=none
 P0:mg "list"=none
 YZ:mg "range"=none
 zoR:mg "set"=none
 zjN:mg "sorted"=none
 zoS:mg "str"=none
 zhw:mg "tuple"=none
 zoT:mg "zip"=none
theorem x_law {K:Frag}{mg:Str->Option Value}{f:Addr}{d:FuncData}(F:Df K mg "law" S_law f d p_law):∀(s:Shared) (u:Value),BindsTo s d ⟨[u],[]⟩ [("script", u)]:=by
 obtain⟨_,_,_,_,_,_,_,_,_,rfl,_,_⟩:=F.F.ex
 exact fun s u=>.of_eq rfl
theorem zoU {P:Program}{w:World}{K:Frag}{mg:Str->Option Value}{x0 x2 x4 x6 x8 x10 x12 x14 x16 x18 x20 x22 x24 x26 x28 x30 x32 x34 x36 x38 x40 x42 x44 x46 x48 x50 x52 x54 x56 x58 x60 x62 x64 x66 x68 x70 x72 x74 x76 x78 x80 x82 x84 x86 x88 x90 x92 x94 x96 x98 x100 x102 x104 x106 x108 x110 x112 x114 x116 x118 x120 x122 x124 x126 x128 x130 x131 x132 x133 x134 x135 x136 x137 x138 x139 x140 x141 x142 x145 x147:Addr}{x1 x3 x5 x7 x9 x11 x13 x15 x17 x19 x21 x23 x25 x27 x29 x31 x33 x35 x37 x39 x41 x43 x45 x47 x49 x51 x53 x55 x57 x59 x61 x63 x65 x67 x69 x71 x73 x75 x77 x79 x81 x83 x85 x87 x89 x91 x93 x95 x97 x99 x101 x103 x105 x107 x109 x111 x113 x115 x117 x119 x121 x123 x125 x127 x129:FuncData}{x143 x144:Tok}{x146:List (Str×Value)}(t:Txt P w K mg ⟨x0,x1,x2,x3,x4,x5,x6,x7,x8,x9,x10,x11,x12,x13,x14,x15,x16,x17,x18,x19,x20,x21,x22,x23,x24,x25,x26,x27,x28,x29,x30,x31,x32,x33,x34,x35,x36,x37,x38,x39,x40,x41,x42,x43,x44,x45,x46,x47,x48,x49,x50,x51,x52,x53,x54,x55,x56,x57,x58,x59,x60,x61,x62,x63,x64,x65,x66,x67,x68,x69,x70,x71,x72,x73,x74,x75,x76,x77,x78,x79,x80,x81,x82,x83,x84,x85,x86,x87,x88,x89,x90,x91,x92,x93,x94,x95,x96,x97,x98,x99,x100,x101,x102,x103,x104,x105,x106,x107,x108,x109,x110,x111,x112,x113,x114,x115,x116,x117,x118,x119,x120,x121,x122,x123,x124,x125,x126,x127,x128,x129,x130,x131,x132,x133,x134,x135,x136,x137,x138,x139,x140,x141,x142,x143,x144,x145,x146,x147⟩):∃a,Txt P w K mg a:=⟨_,t⟩
end K68
namespace K68
open PySem L2 uY
section
variable {P:Program}{w:World}{K:Frag}{mg:Str->Option Value}{base:Heap}{a:Ad}{k:Nat}
theorem ze4 (T:Txt P w K mg a):zy P w K mg base zZ (k+1) a.wM a.wN xT vA:=by
 refine T.v7.F.ok zeF (fun vs H Q E h=>?_) (fun cdv A outer s H vs Q E hr h=>?_)
 ·obtain⟨n,rfl,_⟩:=h
  rfl
 obtain⟨n,rfl,hn,q⟩:=h
 refine⟨_,(zm (zL (zP Q5 (zP YB zq (zP YB zq (pv 0))) zq))),?_⟩
 have h1:=zhO hn
 have one:1<2^10000:=zd7 (k:=1) (by decide) (by decide)
 refine⟨_,rfl,1,n,rfl,rfl,one,by omega,1,1*2^n,rfl,rfl,one,by omega,_,1,rfl,rfl,?_⟩
 have e:(((1*2^(1*2^n):Nat):Int)-1)=((2^2^n-1:Nat):Int):=by
  rw[Nat.one_mul,Nat.one_mul]
  have:=Nat.two_pow_pos (2^n)
  omega
 show Q (.int (((1*2^(1*2^n):Nat):Int)-1)) H
 rw[e]
 exact q
theorem zdr (T:Txt P w K mg a):zy P w K mg base zZ (k+1) a.wk a.wu xJ vh:=by
 refine T.ZC.F.ok Z0 (fun vs H Q E h=>?_) (fun cdv A outer s H vs Q E hr h=>?_)
 ·obtain⟨p,n,rfl,_⟩:=h
  rfl
 obtain⟨p,n,rfl,hp,hn,q⟩:=h
 refine⟨_,(zf (zG 2 Z0.nd (zP YB zq (pv 0)))
   (zf (zG 3 Z0.nd (zP YB (zP Q5 (zP YB zq (pv 2)) zq) (pv 2)))
   (zf (uz PassesOwn.never rfl (zb6 rfl T.YZ (za (zP wj (pv 0) zq) (za (pv 1) zc))) (yO (i:=4) Z0.nd rfl (Or.inl rfl)) (zm (zG 3 Z0.nd (zP Wh (pv 3) (zP YB (pv 3) (zP YB zq (pv 4)))))))
   (zm (zL (pv 3)))))),?_⟩
 have one:1<2^10000:=zd7 (k:=1) (by decide) (by decide)
 have h1:=zhO (n:=p) (by omega)
 have hh:2^p<2^10000:=Nat.pow_lt_pow_right (by decide) (by omega)
 have pp:=Nat.two_pow_pos (2^p)
 have e1:((1*2^(1*2^p):Nat):Int)-1=((2^2^p-1:Nat):Int):=by
  rw[Nat.one_mul,Nat.one_mul]
  omega
 have lt1:2^2^p-1<2^10000:=ztr (Nat.sub_lt pp (by decide)) (ztO (by decide) (by omega))
 refine⟨_,rfl,1,p,rfl,rfl,one,by omega,?_⟩
 refine⟨_,rfl,1,1*2^p,rfl,rfl,one,by omega,_,1,rfl,rfl,_,rfl,2^2^p-1,1*2^p,congrArg V.int e1,rfl,lt1,by omega,?_⟩
 refine⟨_,rfl,_,1,rfl,rfl,_,rfl,(p:Int)+1,(n:Int),rfl,⟨by omega,by omega,by omega,by omega⟩,?_⟩
 refine VH (fun i σ H'=>H'=H/\∃(N:Nat) (f:Option V),σ=[some (.int p),some (.int n),some (.int ((1*2^p:Nat):Int)),some (.int N),f]/\zW (p+1+i) N (fun b=>b.testBit p)) ⟨rfl,_,_,rfl,?_⟩ ?_ ?_
 ·rw[Nat.one_mul]
  exact zhN p
 ·rintro i σ H' hi ⟨rfl,N,f,rfl,tb⟩
  have hi':p+1+i<n:=by omega
  have h2:=zhO (n:=p+1+i) (by omega)
  have e2:V.int ((p:Int)+1+(i:Nat))=V.int ((p+1+i:Nat):Int):=congrArg V.int (by omega)
  have lt2:N<2^10000:=zd7 (ziX tb) (ztE h2 (by decide))
  refine⟨_,rfl,_,rfl,_,rfl,1,p+1+i,rfl,e2,one,by omega,N,1*2^(p+1+i),rfl,rfl,lt2,by omega,N,N*2^(1*2^(p+1+i)),rfl,rfl,?_⟩
  refine⟨rfl,_,_,rfl,?_⟩
  rw[Nat.one_mul]
  exact zfM (m:=p+1+i) (by omega) tb
 ·rintro σ H' ⟨rfl,N,f,rfl,tb⟩
  have e3:p+1+((n:Int)-((p:Int)+1)).toNat=n:=by omega
  rw[e3] at tb
  exact⟨_,rfl,q N tb⟩
theorem zgo (T:Txt P w K mg a)(yH:zy P w K mg base zZ k a.wk a.wu xJ vh):zy P w K mg base zZ (k+1) a.X6 a.X7 Ym XQ:=by
 refine T.Uj.F.ok Px (fun vs H Q E h=>?_) (fun cdv A outer s H vs Q E hr h=>?_)
 ·obtain⟨N,p,n,f,rfl,_⟩:=h
  rfl
 obtain⟨N,p,n,f,rfl,hp,hn,tb,q⟩:=h
 refine⟨_,(zf (zG 3 Px.nd (zP u6 (pv 0) (zu yH hr T.ZC (za (pv 1) (za (pv 2) zc)))))
   (zf (zG 4 Px.nd (zP R3 (pv 0) (pv 3)))
   (zm (zL (zP Wh (zP zkp (pv 3) (zP YB zq (pv 1))) (zP YB (pv 4) (zP YB zq (pv 1)))))))),?_⟩
 have one:1<2^10000:=zd7 (k:=1) (by decide) (by decide)
 have h1:=zhO (n:=p) (by omega)
 have h2:=zhO (n:=n) (by omega)
 refine⟨_,rfl,_,rfl,_,rfl,p,n,rfl,hp,hn,fun R tr=>?_⟩
 refine⟨N,R,rfl,rfl,?_⟩
 refine⟨_,rfl,_,rfl,N,N&&&R,rfl,rfl,?_⟩
 have o:=uZ tb tr
 have z:=UG tb o
 have lt2:N ^^^ (N&&&R)<2^10000:=zd7 (ziX z) (ztE h2 (by decide))
 refine⟨_,rfl,_,rfl,1,p,rfl,rfl,one,by omega,N&&&R,1*2^p,rfl,rfl,_,rfl,_,rfl,1,p,rfl,rfl,one,by omega,N ^^^ (N&&&R),1*2^p,rfl,rfl,lt2,by omega,_,_,rfl,rfl,?_⟩
 refine q _ ?_
 rw[Nat.one_mul]
 exact ziY hp tb tr
theorem zgp (T:Txt P w K mg a):zy P w K mg base zZ (k+1) a.xW a.xX yV (N8 K):=by
 refine T.yZ.F.ok Ua (fun vs H Q E h=>?_) (fun cdv A outer s H vs Q E hr h=>?_)
 ·obtain⟨l,ns,i,rfl,_⟩:=h
  rfl
 obtain⟨l,ns,i,rfl,hS,h0,q⟩:=h
 refine⟨_,(zf (yr (zQ zdW (pv 1) (zF zO rfl T.xP yG (za (pv 0) zc)) (zU _)) (zm (zL (yh yd (pv 0) (pv 1) (fun _ _=>rfl)))) zY)
   (zm (zL zq))),?_⟩
 refine⟨_,rfl,_,rfl,l,_,rfl,.inl hS,_,_,rfl,rfl,_,rfl,?_⟩
 refine yx (fun c=>?_) (fun c=>?_)
 ·have c':i<(((ns.map V.int).length:Nat):Int):=of_decide_eq_true c
  rw[zti] at c'
  have hi:i.toNat<ns.length:=by omega
  have e:atI (ns.map V.int) i=some (.int ns[i.toNat]):=by
   have q:=vR (xs:=ns.map V.int) (j:=i.toNat) (v:=.int ns[i.toNat]) (by rw[ztk,ztj hi];rfl)
   have ei:((i.toNat:Nat):Int)=i:=by omega
   rw[ei] at q
   exact q
  exact⟨_,rfl,_,rfl,l,_,i,_,rfl,rfl,hS,e,q _⟩
 ·exact q 0
theorem zlr (T:Txt P w K mg a):zy P w K mg base zZ (k+1) a.vY a.vZ vf Q7:=by
 refine T.yD.F.ok ux (fun vs H Q E h=>?_) (fun cdv A outer s H vs Q E hr h=>?_)
 ·obtain⟨c,m,b,rfl,_⟩:=h
  rfl
 obtain⟨c,m,b,rfl,hm,b0,b1,q⟩:=h
 refine⟨_,(zf (yr (zQ ziA (pv 0) (zP ziy zq zq) (zU _)) (zf (zG 4 ux.nd (pv 0))
   (zf (uz PassesOwn.never rfl (XJ rfl T.YZ (za (pv 1) zc)) (yO (i:=5) ux.nd rfl (Or.inl rfl)) (zm (zG 4 ux.nd (zP zgG (pv 4) (pv 2)))))
   (zm (zL (zP Xd (pv 4) (pv 2)))))) zY)
   (zf (zG 3 ux.nd (zP Xd (zP zaE (zP wj (zP wj (zP Xd (pv 0) zq) (zP zaE zq (pv 1))) zq) zq) zq))
   (zf (zG 3 ux.nd (zP Xd (zP wj (zP wj (zP zaE (pv 3) (pv 3)) (zP zaE zq (pv 1))) zq) zq))
   (zm (zL (zP Xd (zP zgG (zP Xd (zP zaE (pv 3) zq) zq) zq) (pv 2))))))),?_⟩
 refine⟨_,rfl,10,18,rfl,rfl,⟨by decide,by decide,by decide⟩,_,_,rfl,rfl,_,rfl,?_⟩
 refine yx (fun _=>?_) (fun _=>?_)
 ·refine⟨_,rfl,?_⟩
  refine⟨_,rfl,(m:Int),rfl,by omega,by omega,?_⟩
  refine VH (fun i σ H'=>H'=H/\∃(x:Int) (f1 f2:Option V),σ=[some (.int c),some (.int m),some (.int b),f1,some (.int x),f2]) ⟨rfl,c,_,_,rfl⟩ ?_ ?_
  ·rintro i σ H' hi ⟨rfl,x,f1,f2,rfl⟩
   refine⟨_,rfl,_,rfl,x,b,rfl,rfl,⟨b0,b1⟩,?_⟩
   exact⟨rfl,x / b,_,_,rfl⟩
  ·rintro σ H' ⟨rfl,x,f1,f2,rfl⟩
   refine⟨_,rfl,_,rfl,x,b,rfl,rfl,b0,?_⟩
   exact q _ (ztY _ (by omega)) (ztV _ b0)
 ·have p1:(0:Int)<1000000007:=by decide
  have p2:(0:Int)<2147483647:=by decide
  have p3:(0:Int)<2147483629:=by decide
  refine⟨_,rfl,c,1000000007,rfl,rfl,p1,_,rfl,1009,(m:Int),rfl,rfl,.inl ⟨by decide,by decide⟩,_,_,rfl,rfl,_,17,rfl,rfl,_,69621,rfl,rfl,.inr ⟨by decide,by decide⟩,_,2147483647,rfl,rfl,p2,?_⟩
  have z0:0<=(c%1000000007+1009*(m:Int)+17)*69621%2147483647:=ztY _ (by decide)
  have z1:(c%1000000007+1009*(m:Int)+17)*69621%2147483647<2147483647:=ztV _ p2
  refine⟨_,rfl,_,rfl,_,_,rfl,rfl,.inl ⟨Int.lt_of_lt_of_le (by decide) z0,Int.lt_trans z1 (by decide)⟩,_,rfl,40503,(m:Int),rfl,rfl,.inl ⟨by decide,by decide⟩,_,_,rfl,rfl,_,5,rfl,rfl,_,2147483629,rfl,rfl,p3,?_⟩
  refine⟨_,rfl,_,48271,rfl,rfl,.inr ⟨by decide,by decide⟩,_,2147483647,rfl,rfl,p2,_,32,rfl,rfl,⟨by decide,by decide⟩,_,rfl,_,b,rfl,rfl,b0,?_⟩
  exact q _ (ztY _ (by omega)) (ztV _ b0)
theorem zjO (T:Txt P w K mg a)(yq:zy P w K mg base zZ k a.vY a.vZ vf Q7):zy P w K mg base zZ (k+1) a.Vy a.Vz YJ zcW:=by
 refine T.QV.F.ok Wu (fun vs H Q E h=>?_) (fun cdv A outer s H vs Q E hr h=>?_)
 ·obtain⟨c,n,rfl,_⟩:=h
  rfl
 obtain⟨c,n,rfl,hn,h8,q⟩:=h
 refine⟨_,(zf (zG 2 Wu.nd (vg zc))
   (zf (uz PassesOwn.never rfl (XJ rfl T.YZ (za (zP wj zq (zu yq hr T.yD (za (pv 0) (za zq (za (pv 1) zc))))) zc)) (yO (i:=3) Wu.nd rfl (Or.inl rfl)) (zm (zV (ZJ PySem.F.plainAttrs_list PySem.F.slot_list_insert PySem.F.type_list_insert zhM (pv 2) (za (zP Xd (zu yq hr T.yD (za (pv 0) (za (zP wj zq (pv 3)) (za zq zc)))) (zP wj (pv 3) zq)) (za (yh zfG yt (pv 3) (fun _ _=>rfl)) zc))))))
   (zm (zL (pv 2))))),?_⟩
 refine⟨by show 0<=sizeLine;decide,fun l hl=>?_⟩
 refine⟨_,rfl,_,rfl,c,0,(n:Int),rfl,by decide,by omega,by omega,fun r r0 r1=>?_⟩
 refine⟨1,r,rfl,rfl,1+r,rfl,by omega,by omega,?_⟩
 refine VH (fun i σ H'=>∃(os:List Str) (f1:Option V),Same H H'/\H' l=some (.lst (os.map V.str))/\os.Nodup/\os.length=i/\(∀x∈os,x∈uI.take i)/\σ=[some (.int c),some (.int n),some (.ref l),f1])
  ⟨[],_,N7 hl _,zj,List.nodup_nil,rfl,(fun _ h=>nomatch h),rfl⟩ ?_ ?_
 ·rintro i σ H' hi ⟨os,f1,g,hl',nd,le,mem,rfl⟩
  have i8:i<8:=by omega
  obtain⟨ch,hc1,hc2⟩:=zks i8
  have e1:(1:Int)+(0+(i:Nat))=((1+i:Nat):Int):=by omega
  have e2:(0:Int)+(i:Nat)=((i:Nat):Int):=by omega
  refine⟨_,rfl,.inl ⟨rfl,_,z6.of hl'⟩,?_⟩
  refine⟨_,rfl,_,rfl,1,_,rfl,rfl,c,1+i,5040,congrArg (fun z=>[V.int c,V.int z,V.int 5040]) e1,by omega,by decide,by decide,fun r' s0 s1=>?_⟩
  refine⟨_,rfl,_,1,rfl,rfl,r',_,rfl,rfl,by show(0:Int)<0+(i:Nat)+1;omega,?_⟩
  refine⟨_,rfl,_,(i:Int),ch,rfl,congrArg V.int e2,by show(Str.ofString "abcdefgh").length<=sizeLine;decide,hc1,?_⟩
  have m0:0<=r'%(0+(i:Nat)+1):=ztY _ (by omega)
  have m1:r'%(0+(i:Nat)+1)<0+(i:Nat)+1:=ztV _ (by omega)
  generalize hj:r'%(0+((i:Nat):Int)+1)=j at m0 m1
  refine⟨l,os.map V.str,j,_,rfl,by rw[<-hj],hl',m0,by rw[zti];omega,by rw[zti];exact ztr (show os.length<9 by omega) (by decide),?_⟩
  have nm:(⟨#[ch]⟩:Str)∉os:=fun hm=>zi0 hc2 (mem _ hm)
  have ml:∀x∈uI.take i,x∈uI.take (i+1):=fun x hx=>by
   rw[List.take_succ]
   exact List.mem_append_left _ hx
  have mn:(⟨#[ch]⟩:Str)∈uI.take (i+1):=by
   rw[List.take_succ,hc2]
   exact ztz _ (by simp)
  refine⟨os.take j.toNat++(⟨#[ch]⟩:Str)::os.drop j.toNat,_,?_,?_,?_,?_,?_,rfl⟩
  ·exact fun b o hb=>by rw[zE (zB hb hl)];exact g b o hb
  ·rw[zj]
   simp
  ·refine List.perm_middle.nodup_iff.mpr (List.nodup_cons.mpr ⟨?_,?_⟩)
   ·rw[List.take_append_drop];exact nm
   ·rw[List.take_append_drop];exact nd
  ·rw[ztq,ztu,ztG,List.length_drop]
   omega
  ·intro x hx
   rcases List.mem_append.mp hx with z | z
   ·exact ml x (mem x (List.mem_of_mem_take z))
   ·rcases List.mem_cons.mp z with z | z
    ·rw[z];exact mn
    ·exact ml x (mem x (List.mem_of_mem_drop z))
 ·rintro σ H' ⟨os,f1,g,hl',nd,le,mem,rfl⟩
  refine⟨_,rfl,q l H' os g hl' ⟨nd,fun x hx=>List.mem_of_mem_take (mem x hx),by omega⟩ (by omega)⟩
theorem ze5 (T:Txt P w K mg a)(wg:zy P w K mg base zZ k a.xW a.xX yV (N8 K))(yq:zy P w K mg base zZ k a.vY a.vZ vf Q7) :
  zy P w K mg base zZ (k+1) a.Yu a.Yv tE (Pa K):=by
 refine T.Uq.F.ok yC (fun vs H Q E h=>?_) (fun cdv A outer s H vs Q E hr h=>?_)
 ·obtain⟨sc,ol,ns,t,m,os,rfl,_⟩:=h
  rfl
 obtain⟨sc,ol,ns,t,m,os,rfl,hS,hO,o0,o8,m0,m40,t60,q⟩:=h
 obtain⟨st0,h0⟩:∃st0,st0=(vp vK).headD (.Pass ⟨0,0,0,0⟩):=⟨_,rfl⟩
 have hb:vp vK=st0::(vp vK).tail:=by rw[h0];rfl
 rw[hb]
 have hk:zcU st0=some (Str.ofString "kinds", Q8):=by rw[h0];rfl
 refine⟨_,zf (zkr (i:=4) hk yC.nd rfl (Or.inl rfl) (.inl rfl)) (zf (zG 5 yC.nd (vg (za (uM (za yt (za (yh yd (pv 3) (zP Xd (zu yq hr T.yD (za (zu wg hr T.yZ (za (pv 0) (za (pv 1) zc))) (za zq (za zq zc)))) (zF zO rfl T.xP yG (za (pv 3) zc))) (fun _ _=>rfl)) zc))) zc)))
   (zf (uz PassesOwn.never rfl (zb6 rfl T.YZ (za zq (za (pv 2) zc))) (yO (i:=6) yC.nd rfl (Or.inl rfl)) (zf (zG 7 yC.nd (zu wg hr T.yZ (za (pv 0) (za (zP wj (pv 1) (pv 6)) zc))))
   (zf (zG 8 yC.nd (yh yd (pv 4) (zu yq hr T.yD (za (pv 7) (za zq (za zq zc)))) (fun _ _=>rfl)))
   (zf (zG 9 yC.nd (yh yd (pv 5) (zP Q5 (Qx Vk zq) (zP Xd (zu yq hr T.yD (za (pv 7) (za zq (za zq zc)))) (zF zO rfl T.xP yG (za (pv 5) zc)))) (fun _ _=>rfl)))
   (zf (zG 10 yC.nd (yh yd (pv 5) (zP Xd (zu yq hr T.yD (za (pv 7) (za zq (za zq zc)))) (zF zO rfl T.xP yG (za (pv 5) zc))) (fun _ _=>rfl)))
   (zf (zG 11 yC.nd (yh yd (pv 3) (zP Xd (zu yq hr T.yD (za (pv 7) (za zq (za zq zc)))) (zF zO rfl T.xP yG (za (pv 3) zc))) (fun _ _=>rfl)))
   (zm (yr (PW.pt (Sw (zQ xG (pv 8) yt (zU _)) (Vi (zQ xG (pv 8) yt (zU _))))) (zm (zV (ZJ PySem.F.plainAttrs_list PySem.F.slot_list_append PySem.F.type_list_append uX (pv 5) (za (uM (za (pv 8) zc)) zc)))) (zm (yr (zQ xG (pv 8) yt (zU _)) (zm (zV (ZJ PySem.F.plainAttrs_list PySem.F.slot_list_append PySem.F.type_list_append uX (pv 5) (za (uM (za yt (za (pv 11) zc))) zc)))) (zm (yr (zQ xG (pv 8) yt (zU _)) (zm (zV (ZJ PySem.F.plainAttrs_list PySem.F.slot_list_append PySem.F.type_list_append uX (pv 5) (za (uM (za yt (za (pv 9) zc))) zc)))) (zm (yr (PW.pt (Sw (zQ xG (pv 8) yt (zU _)) (Vi (zQ xG (pv 8) yt (zU _))))) (zm (zV (ZJ PySem.F.plainAttrs_list PySem.F.slot_list_append PySem.F.type_list_append uX (pv 5) (za (uM (za (pv 8) (za (pv 11) (za (pv 9) zc)))) zc)))) (zm (zV (ZJ PySem.F.plainAttrs_list PySem.F.slot_list_append PySem.F.type_list_append uX (pv 5) (za (uM (za (pv 8) (za (pv 10) (za (pv 9) zc)))) zc))))))))))))))))))
   (zm (zL (yh yd (pv 5) (Qx Vk zq) (fun _ _=>rfl)))))),?_⟩
 refine⟨by show 14<=sizeLine;decide,fun kd hkd=>?_⟩
 have g1:=N7 hkd (.lst (Q8.map V.str))
 have hS1:=g1.seq hS
 have hO1:=g1.seq hO
 refine⟨_,rfl,_,rfl,_,rfl,sc,ns,(t:Int),rfl,hS1,by omega,fun c0=>?_⟩
 refine⟨c0,3,40320,rfl,by decide,by decide,by decide,fun r0 _ _=>?_⟩
 obtain⟨x0,hx0,hx0'⟩:=Jk o0 r0
 have pl:(0:Int)<((os.map V.str).length:Nat):=by rw[zti];omega
 refine⟨_,rfl,ol,_,rfl,.inl hO1,_,_,rfl,rfl,pl,ol,_,_,.str x0,rfl,rfl,hO1,hx0',by show 2<=sizeLine;decide,fun p0 hp0=>?_⟩
 refine⟨by show 1<=sizeLine;decide,fun md hmd=>?_⟩
 have g2:=N7 hp0 (.tup [.str "mark", .str x0])
 have g3:=N7 hmd (.lst [.ref p0])
 have f0:H md=none:=(g1.trans g2).free hmd
 have nk:md≠kd:=Ne.symm (zB (g2 _ _ zj) hmd)
 have M0:Made H (upd (upd (upd H kd (.lst (Q8.map V.str))) p0 (.tup [.str "mark", .str x0])) md (.lst [.ref p0])) os md kd [p0] 1:=by
  refine⟨g1.trans (g2.trans g3),zj,g3 _ _ (g2 _ _ zj),by simp,fun p hp=>?_⟩
  have e:p=p0:=by simpa using hp
  subst e
  exact⟨.mk x0,g3 _ _ zj,hx0,zty _⟩
 refine⟨_,rfl,1,(m:Int),rfl,⟨by omega,by omega,by omega,by omega⟩,?_⟩
 refine VH (fun i σ H'=>∃(ps:List Addr) (f1 f2 f3 f4 f5 f6:Option V),Made H H' os md kd ps (i+1)/\ps.length=i+1/\σ=[some (.ref sc),some (.int t),some (.int m),some (.ref ol),some (.ref kd),some (.ref md),f1,f2,f3,f4,f5,f6])
  ⟨[p0],_,_,_,_,_,_,M0,rfl,rfl⟩ ?_ ?_
 ·rintro i σ H' hi ⟨ps,f1,f2,f3,f4,f5,f6,M,lp,rfl⟩
  have hS2:=M.old.seq hS
  have hO2:=M.old.seq hO
  have e1:(t:Int)+(1+(i:Nat))=((t+(1+i):Nat):Int):=by omega
  refine⟨_,rfl,_,rfl,_,rfl,_,_,rfl,rfl,sc,ns,_,rfl,hS2,by omega,fun c=>?_⟩
  refine⟨_,rfl,_,rfl,c,0,14,rfl,by decide,by decide,by decide,fun d d0 d1=>?_⟩
  obtain⟨jk,vk,qk1,qk2⟩:=R4 (xs:=Q8.map V.str) (i:=d) (by show -((14:Nat):Int)<=d;omega) (by show d<((14:Nat):Int);omega)
  obtain⟨kind,hkm,hkv⟩:∃kind,kind∈Q8/\vk=.str kind:=by
   rw[ztk] at qk2
   cases hx:Q8[jk]? with
   | none=>rw[hx] at qk2;cases qk2
   | some x=>rw[hx] at qk2;cases qk2;exact⟨x,ztn hx,rfl⟩
  subst hkv
  refine⟨kd,_,_,_,rfl,rfl,z6.of M.kin,qk1,?_⟩
  have lm:((ps.map V.ref).length:Nat)=i+1:=by rw[zti];exact lp
  have pm:(0:Int)<((ps.map V.ref).length:Nat):=by rw[lm];omega
  refine⟨_,rfl,1,rfl,_,rfl,c,1,2,rfl,by decide,by decide,by decide,fun d2 _ _=>?_⟩
  refine⟨_,rfl,md,_,rfl,.inl (z6.of M.mad),_,_,rfl,rfl,pm,_,_,rfl,rfl,?_⟩
  have a0:=ztY d2 (show((ps.map V.ref).length:Int)≠0 by omega)
  have a1:=ztV d2 pm
  obtain⟨q1,hq1,hq1'⟩:=Kp (ps:=ps) (i:=-1-d2%((ps.map V.ref).length:Nat)) (by rw[lm] at a0 a1 ⊢;omega) (by rw[lm] at a0 a1 ⊢;omega)
  refine⟨md,_,_,_,rfl,rfl,z6.of M.mad,hq1',?_⟩
  refine⟨_,rfl,_,rfl,c,2,60,rfl,by decide,by decide,by decide,fun d3 _ _=>?_⟩
  refine⟨_,rfl,md,_,rfl,.inl (z6.of M.mad),_,_,rfl,rfl,pm,?_⟩
  have b0:=ztY d3 (show((ps.map V.ref).length:Int)≠0 by omega)
  have b1:=ztV d3 pm
  obtain⟨q2,hq2,hq2'⟩:=Kp (ps:=ps) (i:=d3%((ps.map V.ref).length:Nat)) (by rw[lm] at b0 b1 ⊢;omega) (by rw[lm] at b0 b1 ⊢;omega)
  refine⟨md,_,_,_,rfl,rfl,z6.of M.mad,hq2',?_⟩
  refine⟨_,rfl,_,rfl,c,3,40320,rfl,by decide,by decide,by decide,fun d4 _ _=>?_⟩
  obtain⟨x,hx,hx'⟩:=Jk o0 d4
  refine⟨_,rfl,ol,_,rfl,.inl hO2,_,_,rfl,rfl,pl,ol,_,_,.str x,rfl,rfl,hO2,hx',?_⟩
  obtain⟨s1,s1i,s1o,s1d⟩:=M.all q1 hq1
  obtain⟨s2,s2i,s2o,s2d⟩:=M.all q2 hq2
  have big:ps.length<sizeLine:=Nat.lt_of_le_of_lt (show ps.length<=100 by omega) (by decide)
  have zgq:(ps.map V.ref).length<sizeLine:=by rw[zti];exact big
  have mdu:∀(p:Addr) (o:HO),H' p=none->(upd H' p o) md=some (.lst (ps.map V.ref)):=fun p o hp=>by rw[zE (zB M.mad hp)];exact M.mad
  have fin:∀(p:Addr) (xs:List V) (s':Sn),H' p=none->Qz (upd H' p (.tup xs)) s' p->s'.Kc os->s'.depth<=i+1+1 ->
    ∃(ps':List Addr) (f1 f2 f3 f4 f5 f6:Option V),Made H (upd (upd H' p (.tup xs)) md (.lst (ps.map V.ref++[.ref p]))) os md kd ps' (i+1+1)/\ps'.length=i+1+1 /\
     [some (.ref sc),some (.int t),some (.int m),some (.ref ol),some (.ref kd),some (.ref md),some (.int (1+(i:Nat))),some (.int c),some (.str kind),some (.ref q1),some (.ref q2),some (.str x)]=[some (.ref sc),some (.int t),some (.int m),some (.ref ol),some (.ref kd),some (.ref md),f1,f2,f3,f4,f5,f6]:=fun p xs s' hp hs ho hd=>by
   have:=M.push f0 hp hs ho hd nk
   rw[ztw] at this
   exact⟨ps++[p],_,_,_,_,_,_,this,by simp[lp],rfl⟩
  refine⟨_,rfl,rfl,_,rfl,yx (fun c1=>?_) (fun c1=>?_)⟩
  ·have ek:kind="yes" := by have:=of_decide_eq_true c1;cases this;rfl
   subst ek
   refine Xf ⟨_,rfl,.inl ⟨rfl,_,z6.of M.mad⟩,_,rfl,by show 1<=sizeLine;decide,fun p hp=>⟨md,_,_,rfl,rfl,mdu p _ hp,zgq,?_⟩⟩
   exact fin p _ (.c0 true) hp zj trivial (by show 1<=_;omega)
  have n1:kind ≠ "yes" := fun e=>c1 (decide_eq_true (by rw[e]))
  refine⟨_,rfl,rfl,_,rfl,yx (fun c2=>?_) (fun c2=>?_)⟩
  ·have ek:kind="no" := by have:=of_decide_eq_true c2;cases this;rfl
   subst ek
   refine⟨_,rfl,.inl ⟨rfl,_,z6.of M.mad⟩,_,rfl,by show 1<=sizeLine;decide,fun p hp=>⟨md,_,_,rfl,rfl,mdu p _ hp,zgq,?_⟩⟩
   exact fin p _ (.c0 false) hp zj trivial (by show 1<=_;omega)
  have n2:kind ≠ "no" := fun e=>c2 (decide_eq_true (by rw[e]))
  refine⟨_,rfl,rfl,_,rfl,yx (fun c3=>?_) (fun c3=>?_)⟩
  ·have ek:kind="mark" := by have:=of_decide_eq_true c3;cases this;rfl
   subst ek
   refine⟨_,rfl,.inl ⟨rfl,_,z6.of M.mad⟩,_,rfl,by show 2<=sizeLine;decide,fun p hp=>⟨md,_,_,rfl,rfl,mdu p _ hp,zgq,?_⟩⟩
   exact fin p _ (.mk x) hp zj hx (by show 1<=_;omega)
  have n3:kind ≠ "mark" := fun e=>c3 (decide_eq_true (by rw[e]))
  refine⟨_,rfl,rfl,_,rfl,yx (fun c4=>?_) (fun c4=>?_)⟩
  ·have ek:kind="not" := by have:=of_decide_eq_true c4;cases this;rfl
   subst ek
   refine⟨_,rfl,.inl ⟨rfl,_,z6.of M.mad⟩,_,rfl,by show 2<=sizeLine;decide,fun p hp=>⟨md,_,_,rfl,rfl,mdu p _ hp,zgq,?_⟩⟩
   exact fin p _ (.nt s1) hp ⟨q1,zj,s1i.mono (xr.new hp _)⟩ s1o (by show 1+s1.depth<=_;omega)
  have n4:kind ≠ "not" := fun e=>c4 (decide_eq_true (by rw[e]))
  refine⟨_,rfl,rfl,_,rfl,yx (fun c5=>?_) (fun c5=>?_)⟩
  ·have ek:kind="some" := by have:=of_decide_eq_true c5;cases this;rfl
   subst ek
   refine Xf ⟨_,rfl,.inl ⟨rfl,_,z6.of M.mad⟩,_,rfl,_,rfl,_,rfl,by show 3<=sizeLine;decide,fun p hp=>⟨md,_,_,rfl,rfl,mdu p _ hp,zgq,?_⟩⟩
   exact fin p _ (.q1 true x s1) hp ⟨q1,zj,s1i.mono (xr.new hp _)⟩ ⟨hx,s1o⟩ (by show 1+s1.depth<=_;omega)
  have n5:kind ≠ "some" := fun e=>c5 (decide_eq_true (by rw[e]))
  refine⟨_,rfl,rfl,_,rfl,yx (fun c6=>?_) (fun c6=>?_)⟩
  ·have ek:kind="each" := by have:=of_decide_eq_true c6;cases this;rfl
   subst ek
   refine⟨_,rfl,.inl ⟨rfl,_,z6.of M.mad⟩,_,rfl,_,rfl,_,rfl,by show 3<=sizeLine;decide,fun p hp=>⟨md,_,_,rfl,rfl,mdu p _ hp,zgq,?_⟩⟩
   exact fin p _ (.q1 false x s1) hp ⟨q1,zj,s1i.mono (xr.new hp _)⟩ ⟨hx,s1o⟩ (by show 1+s1.depth<=_;omega)
  have n6:kind ≠ "each" := fun e=>c6 (decide_eq_true (by rw[e]))
  obtain⟨o,ho⟩:∃o:Fin 4,kind=w2 o:=by
   have:kind∈([Str.ofString "mark", Str.ofString "mark", Str.ofString "not", Str.ofString "and", Str.ofString "or", Str.ofString "either", Str.ofString "if", Str.ofString "and", Str.ofString "or", Str.ofString "some", Str.ofString "each", Str.ofString "yes", Str.ofString "no", Str.ofString "mark"]:List Str):=hkm
   simp only[List.mem_cons,ztJ,or_false] at this
   rcases this with h | h | h | h | h | h | h | h | h | h | h | h | h | h<;>first | exact absurd h n1 | exact absurd h n2 | exact absurd h n3 | exact absurd h n4 | exact absurd h n5 | exact absurd h n6 | exact⟨0,h⟩ | exact⟨1,h⟩ | exact⟨2,h⟩ | exact⟨3,h⟩
  subst ho
  refine⟨_,rfl,.inl ⟨rfl,_,z6.of M.mad⟩,_,rfl,_,rfl,_,rfl,by show 3<=sizeLine;decide,fun p hp=>⟨md,_,_,rfl,rfl,mdu p _ hp,zgq,?_⟩⟩
  exact fin p _ (.b2 o s2 s1) hp ⟨q2,q1,zj,s2i.mono (xr.new hp _),s1i.mono (xr.new hp _)⟩ ⟨s2o,s1o⟩ (by show 1+max s2.depth s1.depth<=_;omega)
 ·rintro σ H' ⟨ps,f1,f2,f3,f4,f5,f6,M,lp,rfl⟩
  obtain⟨p,hp,hp'⟩:=Kp (ps:=ps) (i:=-1) (by omega) (by omega)
  obtain⟨s',z1,z2,z3⟩:=M.all p hp
  have e:((m:Int)-1).toNat+1=m:=by omega
  rw[e] at z3
  exact⟨_,rfl,1,rfl,md,_,-1,_,rfl,rfl,z6.of M.mad,hp',q p H' s' M.old z1 z2 z3⟩
theorem zgr (T:Txt P w K mg a):zy P w K mg base zZ (k+1) a.Ub a.Uc X4 VR:=by
 refine T.KY.F.ok zgd (fun vs H Q E h=>?_) (fun cdv A outer s H vs Q E hr h=>?_)
 ·obtain⟨x,rfl,_⟩:=h
  rfl
 obtain⟨x,rfl,q⟩:=h
 refine⟨_,(zm (zL (ZD RW (pv 0) (wW (v:=.ref a.zaw) rfl T.zln rfl) (by with_unfolding_all rfl)))),?_⟩
 refine⟨_,rfl,a.zaw,uI.map V.str,rfl,.inr (T.zlo H),rfl,VP _,?_⟩
 show Q (.bl (inV (.str x) (uI.map V.str))) H
 rw[zd9]
 exact q
theorem ze6 (T:Txt P w K mg a)(K4:zy P w K mg base zZ k a.Ub a.Uc X4 VR):zy P w K mg base zZ (k+1) a.PJ a.PK U9 (Ks K):=by
 refine T.zbk.F.ok zeI (fun vs H Q E h=>?_) (fun cdv A outer s H vs Q E hr h=>?_)
 ·obtain⟨l,os,rfl,_⟩:=h
  rfl
 obtain⟨l,os,rfl,hq,h100,q⟩:=h
 refine⟨_,(zm (zL (Sx (ZD Jb (zF zO rfl T.xP yG (za (pv 0) zc)) zq (zU _)) (Sx (zF (SM rfl) rfl T.ze3 zaN (za (tV (uD:=zx Pz) (js:=[]) rfl (by show ZK _ _ "letter" [];exact lco (by decide +kernel)) rfl (xq (pv 0)) (by show ∀j∈([]:List Nat),j<1;decide) (fun cl C s₂ H₂ fp=>(zu K4 hr T.KY (za (pv 0) zc)))) zc)) (Ke (ZD xG (zF call_len_set' rfl T.xP yG (za (XM (ziU rfl) rfl T.zoR zmB (za (pv 0) zc)) zc)) (zF zO rfl T.xP yG (za (pv 0) zc)) (zU _))))))),?_⟩
 have hlen:(os.map V.str).length=os.length:=zti _
 refine⟨_,rfl,l,_,rfl,.inl hq,_,_,rfl,rfl,_,rfl,yx (fun c=>?_) (fun c=>?_)⟩
 ·have c':0<os.length:=by have:=of_decide_eq_true c;rw[hlen] at this;omega
  refine⟨_,rfl,l,rfl,⟨_,hq⟩,zgZ (fun x v=>v=(match x with | .str y=>.bl (decide (y∈uI)) | _=>.non)) hq (by rw[hlen];exact ztB (yc (by omega))) ?_ (zi1 Jl) ?_⟩
  ·intro i x H' hx g
   rw[ztk] at hx
   cases ho:os[i]? with
   | none=>rw[ho] at hx;cases hx
   | some y =>
    rw[ho] at hx
    cases hx
    exact⟨_,rfl,y,rfl,rfl,g⟩
  ·intro ys H' p hr' g hp
   have e:=zaP (f:=fun x=>match x with | .str y=>.bl (decide (y∈uI)) | _=>.non) hr'
   rw[ztT] at e
   have e2:ys=(os.map fun y=>decide (y∈uI)).map V.bl:=by rw[e,ztT];rfl
   subst e2
   have g1:=Same.new hp (.lst ((os.map fun y=>decide (y∈uI)).map V.bl))
   refine⟨p,_,rfl,z6.of zj,_,rfl,yx (fun c2=>?_) (fun c2=>?_)⟩
   ·have hq2:=(g.trans g1).seq hq
    refine⟨_,rfl,l,os,rfl,hq2,h100,fun z hz=>⟨z,_,rfl,zj,?_⟩⟩
    have g2:=Same.new hz (zkl P w z (dd os).length)
    refine⟨_,rfl,l,_,rfl,.inl (g2.seq hq2),rfl,?_⟩
    have e3:decide (V.int ((dd os).length:Nat)=V.int ((os.map V.str).length:Nat))=zcZ os:=by
     unfold zcZ
     have c2':os.all (fun x=>decide (x∈uI))=true:=by rw[List.all_map] at c2;exact c2
     rw[decide_eq_true c',c2',hlen]
     by_cases nd:os.Nodup
     ·rw[decide_eq_true nd,ziQ nd];simp
     ·have:=zmy nd
      rw[decide_eq_false nd,decide_eq_false (fun z=>by injection z with z;omega)];rfl
    rw[e3]
    exact q _ ((g.trans g1).trans g2)
   ·have e4:zcZ os=false:=by
     unfold zcZ
     have c2':os.all (fun x=>decide (x∈uI))=false:=by
      rw[List.all_map] at c2
      exact Bool.eq_false_iff.mpr c2
     rw[c2',Bool.false_and,Bool.and_false]
    rw[<-e4]
    exact q _ (g.trans g1)
 ·have e4:zcZ os=false:=by
   unfold zcZ
   rw[decide_eq_false (fun z=>c (decide_eq_true (by rw[hlen];omega))),Bool.false_and]
  rw[<-e4]
  exact q _ (Same.refl _)
theorem zbN (T:Txt P w K mg a):zy P w K mg base zZ (k+1) a.Z5 a.Z6 u9 Y6:=by
 refine T.Tw.F.ok zbG (fun vs H Q E h=>?_) (fun cdv A outer s H vs Q E hr h=>?_)
 ·obtain⟨p,x,m,n,rest,rfl,_⟩:=h
  rfl
 obtain⟨p,x,m,n,rest,rfl,hp,hm,hl,q⟩:=h
 refine⟨_,(zm (zL (Y5 zfF (pv 0) (Xo zq) (Xo (zP wj zq (yh Zm (yh (zcT T.WW.d) (wW (v:=.ref a.Ui) rfl T.Lx rfl) (yh Zm (pv 0) zq (fun _ _=>rfl)) (fun _ _=>rfl)) zq (fun _ _=>rfl))))))),?_⟩
 obtain⟨pt,hv,hpt⟩:=T.WW.y x m n hm
 refine⟨_,rfl,1,rfl,_,rfl,p,_,0,_,rfl,rfl,vQ.of hp,at0,x,.ref pt,.ref pt,rfl,rfl,hv,rfl,pt,_,0,_,rfl,rfl,hpt H,at0,1,(m:Int),rfl,rfl,_,rfl,p,_,rfl,vQ.of hp,zaR (by decide),fun z hz=>?_⟩
 rw[zi2 hl]
 exact q z hz
theorem ze7 (T:Txt P w K mg a):zy P w K mg base zZ (k+1) a.Zo a.Zq uO Yj:=by
 refine T.Tz.F.ok zeJ (fun vs H Q E h=>?_) (fun cdv A outer s H vs Q E hr h=>?_)
 ·obtain⟨p,x,m,n,rest,rfl,_⟩:=h
  rfl
 obtain⟨p,x,m,n,rest,rfl,hp,hm,hl,q⟩:=h
 refine⟨_,(zm (zL (Y5 zfF (pv 0) (Xo (zP wj zq (yh Zm (yh (zcT T.WW.d) (wW (v:=.ref a.Ui) rfl T.Lx rfl) (yh Zm (pv 0) zq (fun _ _=>rfl)) (fun _ _=>rfl)) zq (fun _ _=>rfl)))) Ux))),?_⟩
 obtain⟨pt,hv,hpt⟩:=T.WW.y x m n hm
 refine⟨_,rfl,_,rfl,p,_,0,_,rfl,rfl,vQ.of hp,at0,x,.ref pt,.ref pt,rfl,rfl,hv,rfl,pt,_,0,_,rfl,rfl,hpt H,at0,1,(m:Int),rfl,rfl,_,rfl,p,_,rfl,vQ.of hp,zaR (by omega),fun z hz=>?_⟩
 rw[zi3 hl]
 exact q z hz
theorem J5 (T:Txt P w K mg a)(uW:zy P w K mg base zZ k a.Zo a.Zq uO Yj):zy P w K mg base zZ (k+1) a.Z7 a.Z8 uP (Xq K):=by
 refine T.WQ.F.ok Xh (fun vs H Q E h=>?_) (fun cdv A outer s H vs Q E hr h=>?_)
 ·obtain⟨l,ss,ps,rfl,_⟩:=h
  rfl
 obtain⟨l,ss,ps,rfl,hl,hp,hz,q⟩:=h
 refine⟨_,(zf (zG 1 Xh.nd (vg zc))
   (zf (uz PassesOwn.never rfl (xq (pv 0)) (yO (i:=2) Xh.nd rfl (Or.inl rfl)) (zm (zV (ZJ PySem.F.plainAttrs_list PySem.F.slot_list_extend PySem.F.type_list_extend zaL (pv 1) (za (zu uW hr T.Tz (za (pv 2) zc)) zc)))))
   (zm (zL (pv 1))))),?_⟩
 have pl:=ZM hp
 refine⟨by show 0<=sizeLine;decide,fun f hf=>?_⟩
 have g0:=Same.new hf (.lst [])
 refine⟨_,rfl,l,rfl,⟨_,g0.seq hl⟩,?_⟩
 refine tX (xs:=ps.map V.ref) (fun i σ H'=>∃(qs:List Addr) (f1:Option V),Same H H'/\H' f=some (.lst (qs.map V.ref))/\Paired (Qz H') ((ss.take i).flatMap Sn.parts) qs/\qs.length<=2*i/\i<=ss.length/\σ=[some (.ref l),some (.ref f),f1])
  ⟨[],_,g0,zj,.nil,by simp,ztF _,rfl⟩ ?_ ?_ ?_
 ·rintro i σ H' _ ⟨qs,f1,g,_⟩
  exact g.seq hl
 ·rintro i x σ H' hx ⟨qs,f1,g,hf',hqs,lq,li,rfl⟩
  rw[ztk] at hx
  cases ho:ps[i]? with
  | none=>rw[ho] at hx;cases hx
  | some p =>
   rw[ho] at hx
   cases hx
   obtain⟨sn,hsn,isp⟩:=Mf hp ho
   have hlt:=(ztl.mp hsn).1
   obtain⟨zs,c1,c2,c3,c4,c5⟩:=Mi (isp.mono (xr.of g))
   have lz:=ZM c2
   have lp2:=Sn.Mh sn
   refine⟨_,rfl,.inl ⟨rfl,_,z6.of hf'⟩,_,rfl,p,sn.word,sn.letters.length,sn.parts.length,_,rfl,c1,ZP sn,c3,fun b hb=>?_⟩
   rw[c5]
   have nfb:f≠b:=zB hf' hb
   have hf2:(upd H' b (.tup (zs.map V.ref))) f=some (.lst (qs.map V.ref)):=by rw[zE nfb];exact hf'
   refine⟨f,b,qs.map V.ref,zs.map V.ref,rfl,rfl,hf2,?_,?_,?_⟩
   ·exact vQ.of zj
   ·rw[zti,zti]
    exact ztB (yc (by omega))
   ·refine⟨qs++zs,_,(g.trans (Same.new hb _)).over hf _,by rw[zj,ztw],?_,?_,hlt,rfl⟩
    ·rw[yN hsn,List.flatMap_append,List.flatMap_singleton]
     have t1:xr H' (upd (upd H' b (.tup (zs.map V.ref))) f (.lst (qs.map V.ref++zs.map V.ref))):=(xr.new hb _).trans (xr.lst hf2 _)
     exact Kq (Vm (fun _ _ z=>z.mono t1) hqs) (Vm (fun _ _ z=>z.mono t1) c2)
    ·rw[ztq];omega
 ·rintro σ H' ⟨qs,f1,g,hf',hqs,lq,li,rfl⟩
  rw[zti,<-pl,ztL] at hqs
  exact⟨_,rfl,q f H' qs g hf hf' hqs⟩
theorem zds (T:Txt P w K mg a)(K4:zy P w K mg base zZ k a.Ub a.Uc X4 VR)(TV:zy P w K mg base zZ k a.Z5 a.Z6 u9 Y6)(uW:zy P w K mg base zZ k a.Zo a.Zq uO Yj) :
  zy P w K mg base zZ (k+1) a.Rx a.Ry Va Mj:=by
 refine T.JB.F.ok M5 (fun vs H Q E h=>?_) (fun cdv A outer s H vs Q E hr h=>?_)
 ·obtain⟨p,s,rfl,_⟩:=h
  rfl
 obtain⟨p,sn,rfl,isp,hle,q⟩:=h
 refine⟨_,(zf (yr (PW.pt (Sw (zQ xG (zF zO rfl T.xP yG (za (pv 0) zc)) zq (zU _)) (Sw (Ye (yM (zF SN rfl T.yI yw (za (yh Zm (pv 0) zq (fun _ _=>rfl)) (za (zaf (v:=.ty "str") rfl T.zoS zmA rfl) zc))) (fun _=>rfl))) (Vi (zQ (zbA T.WW.d) (yh Zm (pv 0) zq (fun _ _=>rfl)) (wW (v:=.ref a.Ui) rfl T.Lx rfl) (by with_unfolding_all rfl)))))) (zm (zL TY)) zY)
   (zf (zG 1 M5.nd (yh (zcT T.WW.d) (wW (v:=.ref a.Ui) rfl T.Lx rfl) (yh Zm (pv 0) zq (fun _ _=>rfl)) (fun _ _=>rfl)))
   (zf (yr (zQ Nv (zF zO rfl T.xP yG (za (pv 0) zc)) (zP wj (zP wj zq (yh Zm (pv 1) zq (fun _ _=>rfl))) (yh Zm (pv 1) zq (fun _ _=>rfl))) (zU _)) (zm (zL TY)) zY)
   (zf (yr (Ye (yM (zF (SM rfl) rfl T.ze3 zaN (za (tV (uD:=zx W9) (js:=[]) rfl (by show ZK _ _ "letter" [];exact lco (by decide +kernel)) rfl (QX (zu TV hr T.Tw (za (pv 0) zc))) (by show ∀j∈([]:List Nat),j<2;decide) (fun cl C s₂ H₂ fp=>(zu K4 hr T.KY (za (pv 0) zc)))) zc)) (fun _=>rfl))) (zm (zL TY)) zY)
   (zm (zL (zF (SM rfl) rfl T.ze3 zaN (za (tV (uD:=zx W9) (js:=[]) rfl (by show ZK _ _ "part" [];exact lco (by decide +kernel)) rfl (QX (zu uW hr T.Tz (za (pv 0) zc))) (by show ∀j∈([]:List Nat),j<2;decide) (fun cl C s₂ H₂ fp=>(zF (zcX (K:=K) rfl) rfl T.yI yw (za (pv 0) (za (zaf (v:=.ty "tuple") rfl T.zhw zd4 rfl) zc))))) zc)))))))),?_⟩
 obtain⟨zs,c1,c2,c3,c4,c5⟩:=Mi isp
 have lz:=ZM c2
 obtain⟨pt,hv,hpt⟩:=T.WW.y _ _ _ (ZP sn)
 have lp2:=Sn.Mh sn
 have ll1:=Sn.zaS sn
 refine⟨_,rfl,p,_,rfl,.inr (vQ.of c1),rfl,_,rfl,yx (fun c=>?_) (fun _=>?_)⟩
 ·exfalso
  have:=of_decide_eq_true c
  injection this with this
  rw[ztu] at this
  omega
 refine⟨_,rfl,p,_,0,_,rfl,rfl,vQ.of c1,at0,_,_,_,true,rfl,.str sn.word,rfl,_,rfl,Xe ?_⟩
 refine⟨_,rfl,p,_,0,_,rfl,rfl,vQ.of c1,at0,sn.word,rfl,rfl,_,rfl,?_⟩
 rw[hv]
 refine Xe ?_
 refine⟨_,rfl,p,_,0,_,rfl,rfl,vQ.of c1,at0,sn.word,.ref pt,.ref pt,rfl,rfl,hv,rfl,?_⟩
 refine⟨_,rfl,p,_,rfl,.inr (vQ.of c1),_,rfl,pt,_,0,_,rfl,rfl,hpt H,at0,1,_,rfl,rfl,_,rfl,pt,_,1,_,rfl,rfl,hpt H,at1,_,_,rfl,rfl,rfl,_,rfl,yx (fun c=>?_) (fun _=>?_)⟩
 ·exfalso
  have z:V.int ((VC sn zs).length:Nat)=V.int (1+((sn.letters.length:Nat):Int)+((sn.parts.length:Nat):Int)):=by
   congr 1
   show(((V.str sn.word::(sn.letters.map V.str++zs.map V.ref)).length:Nat):Int)=_
   rw[ztu,c3]
   omega
  have c':(!decide (V.int ((VC sn zs).length:Nat)=V.int (1+((sn.letters.length:Nat):Int)+((sn.parts.length:Nat):Int))))=true:=c
  rw[decide_eq_true z] at c'
  cases c'
 refine⟨_,rfl,p,sn.word,sn.letters.length,sn.parts.length,_,rfl,c1,ZP sn,c3,fun b hb=>?_⟩
 rw[c4]
 have g1:=Same.new hb (.tup (sn.letters.map V.str))
 refine⟨b,rfl,⟨_,vQ.of zj⟩,zg0 (xs:=sn.letters.map V.str) (fun _ v=>v=.bl true) (vQ.of zj) (by rw[zti];exact ztB (yc (by omega))) ?_ (zi1 Jl) ?_⟩
 ·intro i x H' hx g
  rw[ztk] at hx
  cases ho:sn.letters[i]? with
  | none=>rw[ho] at hx;cases hx
  | some y =>
   rw[ho] at hx
   cases hx
   refine⟨_,rfl,y,rfl,?_,g⟩
   rw[decide_eq_true (hle y (ztn ho))]
 intro ys H' p2 hr' g hp2
 have e:=zaP (f:=fun _=>.bl true) hr'
 have e2:ys=(sn.letters.map fun _=>true).map V.bl:=by rw[e,ztT,ztT];rfl
 subst e2
 have g2:=Same.new hp2 (.lst ((sn.letters.map fun _=>true).map V.bl))
 have ea:(sn.letters.map fun _=>true).all id=true:=by rw[List.all_map,ztM];exact fun _ _=>rfl
 refine⟨p2,_,rfl,z6.of zj,_,rfl,?_⟩
 rw[ea]
 refine Xe ?_
 have gg:=(g1.trans g).trans g2
 have c1':=gg _ _ c1
 refine⟨_,rfl,p,sn.word,sn.letters.length,sn.parts.length,_,rfl,c1',ZP sn,c3,fun b3 hb3=>?_⟩
 rw[c5]
 have g3:=Same.new hb3 (.tup (zs.map V.ref))
 refine⟨b3,rfl,⟨_,vQ.of zj⟩,zg0 (xs:=zs.map V.ref) (fun _ v=>v=.bl true) (vQ.of zj) (by rw[zti];exact ztB (yc (by omega))) ?_ ?_ ?_⟩
 ·intro i x H4 hx g4
  rw[ztk] at hx
  cases ho:zs[i]? with
  | none=>rw[ho] at hx;cases hx
  | some y =>
   rw[ho] at hx
   cases hx
   obtain⟨sy,_,iy⟩:=Mf c2 ho
   obtain⟨ws,d1,_⟩:=Mi iy
   have d1':=((gg.trans g3).trans g4) _ _ d1
   exact⟨_,rfl,_,_,_,true,rfl,.tup d1',rfl,rfl,g4⟩
 ·rintro σ' H' Q1 Q2 hQ ⟨v,e,x,T',t,b',h1,h2,h3,h4⟩
  exact⟨v,e,x,T',t,b',h1,h2,h3,hQ _ _ h4⟩
 ·intro ys H4 p4 hr4 g4 hp4
  have e:=zaP (f:=fun _=>.bl true) hr4
  have e2:ys=(zs.map fun _=>true).map V.bl:=by rw[e,ztT,ztT];rfl
  subst e2
  have ea:(zs.map fun _=>true).all id=true:=by rw[List.all_map,ztM];exact fun _ _=>rfl
  refine⟨p4,_,rfl,z6.of zj,?_⟩
  rw[ea]
  exact q _ (((gg.trans g3).trans g4).trans (Same.new hp4 _))
theorem zbm (T:Txt P w K mg a)(ze8:zy P w K mg base zZ k a.Rx a.Ry Va Mj)(WX:zy P w K mg base zZ k a.Z7 a.Z8 uP (Xq K)) :
  zy P w K mg base zZ (k+1) a.Vu a.Vv YF zc0:=by
 refine T.QT.F.ok wL (fun vs H Q E h=>?_) (fun cdv A outer s H vs Q E hr h=>?_)
 ·obtain⟨p,s,rfl,_⟩:=h
  rfl
 obtain⟨p,sn,rfl,isp,hin,hc,hd,q⟩:=h
 refine⟨_,(zf (zG 1 wL.nd (vg (za (pv 0) zc)))
   (zf (zG 2 wL.nd zq)
   (zf (zG 3 wL.nd zq)
   (zf (Nu PassesOwn.never (zQ Jb (zF zO rfl T.xP yG (za (pv 1) zc)) zq (zU _)) (zf (zfs (i:=2) wL.nd rfl (Or.inl rfl) zq zcK)
   (zf (zfs (i:=3) wL.nd rfl (Or.inl rfl) (zF zO rfl T.xP yG (za (pv 1) zc)) zcK)
   (zf (yr (PW.pt (Sw (zQ Jb (pv 2) (wW (v:=.int 24) rfl T.ze2 ⟨_,rfl⟩) (zU _)) (Vi (zQ Jb (pv 3) (wW (v:=.int 200) rfl T.zbM ⟨_,rfl⟩) (zU _))))) (zm (zL TY)) zY)
   (zf (yr (Ye (yM (zF (SM rfl) rfl T.ze3 zaN (za (tV (uD:=zx Vp) (js:=[]) rfl (by show ZK _ _ "part" [];exact lco (by decide +kernel)) rfl (xq (pv 1)) (by show ∀j∈([]:List Nat),j<4;decide) (fun cl C s₂ H₂ fp=>(zu ze8 hr T.JB (za (pv 0) zc)))) zc)) (fun _=>rfl))) (zm (zL TY)) zY)
   (zm (zG 1 wL.nd (zu WX hr T.WQ (za (pv 1) zc)))))))))
   (zm (zL TY)))))),?_⟩
 refine⟨_,rfl,by show 1<=sizeLine;decide,fun l0 hl0=>?_⟩
 have g0:=Same.new hl0 (.lst [.ref p])
 refine⟨fun m σ H'=>∃(ss:List Sn) (ps:List Addr) (l:Addr) (d t:Nat),m=cnt ss/\Same H H'/\H' l=some (.lst (ps.map V.ref))/\Paired (Qz H') ss ps/\(∀u∈ss,u.Kc uI/\d+u.depth<=24)/\t+cnt ss<=200/\σ=[some (.ref p),some (.ref l),some (.int d),some (.int t)],
  ⟨_,[sn],[p],l0,0,0,rfl,g0,zj,.cons (isp.mono (xr.of g0)) .nil,?_,?_,rfl⟩,?_⟩
 ·intro u hu
  have e:u=sn:=by simpa using hu
  subst e
  exact⟨hin,by omega⟩
 ·show 0+(sn.count+0)<=200
  omega
 rintro m σ H' ⟨ss,ps,l,d,t,rfl,g,hl,hp,hi,ht,rfl⟩
 have lp:=ZM hp
 have le:(ps.map V.ref).length=ss.length:=by rw[zti];exact lp.symm
 have cl:=zg1 ss
 refine⟨_,rfl,l,_,rfl,.inl (z6.of hl),_,_,rfl,rfl,_,rfl,yx (fun c=>?_) (fun c=>?_)⟩
 ·have c':0<ss.length:=by have:=of_decide_eq_true c;rw[le] at this;omega
  have hd1:d+1<=24:=by
   have hm:ss[0]∈ss:=List.getElem_mem c'
   have:=(hi _ hm).2
   have:=Sn.Ko ss[0]
   omega
  refine⟨_,fun σ' H2 h=>h,?_⟩
  refine⟨_,rfl,(d:Int),1,rfl,rfl,?_⟩
  refine⟨_,rfl,_,rfl,l,_,rfl,.inl (z6.of hl),(t:Int),_,rfl,rfl,?_⟩
  refine⟨_,rfl,_,_,rfl,rfl,_,rfl,yx (fun c2=>?_) (fun _=>?_)⟩
  ·exfalso
   have:=of_decide_eq_true c2
   omega
  refine⟨_,rfl,_,_,rfl,rfl,_,rfl,yx (fun c2=>?_) (fun _=>?_)⟩
  ·exfalso
   have:=of_decide_eq_true c2
   rw[le] at this
   omega
  refine⟨_,rfl,l,rfl,⟨_,z6.of hl⟩,zgZ (fun _ v=>v=.bl true) (z6.of hl) (by rw[le];exact ztB (yc (by omega))) ?_ (zi1 zea) ?_⟩
  ·intro i x H2 hx g2
   rw[ztk] at hx
   cases ho:ps[i]? with
   | none=>rw[ho] at hx;cases hx
   | some y =>
    rw[ho] at hx
    cases hx
    obtain⟨sy,hsy,iy⟩:=Mf hp ho
    exact⟨_,rfl,y,sy,rfl,iy.mono (xr.of g2),Sn.zd5 sy (hi sy (ztn hsy)).1,fun H3 g3=>⟨rfl,g2.trans g3⟩⟩
  intro ys H2 p2 hr' g2 hp2
  have e:=zaP (f:=fun _=>.bl true) hr'
  have e2:ys=(ps.map fun _=>true).map V.bl:=by rw[e,ztT,ztT];rfl
  subst e2
  have g3:=Same.new hp2 (.lst ((ps.map fun _=>true).map V.bl))
  have ea:(ps.map fun _=>true).all id=true:=by rw[List.all_map,ztM];exact fun _ _=>rfl
  refine⟨p2,_,rfl,z6.of zj,_,rfl,?_⟩
  rw[ea]
  refine Xe ?_
  have gg:=g2.trans g3
  refine⟨_,rfl,l,ss,ps,rfl,gg.seq (z6.of hl),Vm (fun _ _ z=>z.mono (xr.of gg)) hp,by omega,fun l' H4 ps' g4 hn hl' hp'=>?_⟩
  have cp:=R5 ss
  refine⟨cnt (ss.flatMap Sn.parts),by omega,ss.flatMap Sn.parts,ps',l',d+1,t+(ps.map V.ref).length,rfl,(g.trans gg).trans g4,hl',hp',?_,by omega,rfl⟩
  intro u hu
  obtain⟨s',hs',hu'⟩:=Kr.mp hu
  obtain⟨i1,i2⟩:=hi s' hs'
  have:=Sn.SQ s' u hu'
  exact⟨Sn.zcg s' i1 u hu',by omega⟩
 ·exact q _ g
theorem K5 (T:Txt P w K mg a)(zgs:zy P w K mg base zZ k a.PJ a.PK U9 (Ks K)):zy P w K mg base zZ (k+1) a.Xi a.Xj Zi (SX K):=by
 refine T.T9.F.ok KH (fun vs H Q E h=>?_) (fun cdv A outer s H vs Q E hr h=>?_)
 ·obtain⟨l,os,rfl,_⟩:=h
  rfl
 obtain⟨l,os,rfl,hq,ho,q⟩:=h
 refine⟨_,(zm (yr (Ye (yM (zu zgs hr T.zbk (za (pv 0) zc)) (fun _=>rfl))) (zm Sy) zY)),?_⟩
 refine⟨_,rfl,l,os,rfl,hq,ztE ho.le (by decide),fun H' g=>⟨_,rfl,?_⟩⟩
 rw[zkv ho]
 exact Xe (q H' g)
theorem Qw (T:Txt P w K mg a)(zbO:zy P w K mg base zZ k a.Vu a.Vv YF zc0):zy P w K mg base zZ (k+1) a.Zr a.Zt vU Ku:=by
 refine T.WR.F.ok Qv (fun vs H Q E h=>?_) (fun cdv A outer s H vs Q E hr h=>?_)
 ·obtain⟨p,s,rfl,_⟩:=h
  rfl
 obtain⟨p,sn,rfl,h1,h2,h3,h4,q⟩:=h
 refine⟨_,(zm (yr (Ye (yM (zu zbO hr T.QT (za (pv 0) zc)) (fun _=>rfl))) (zm Sy) zY)),?_⟩
 exact⟨_,rfl,p,sn,rfl,h1,h2,h3,h4,fun H' g=>⟨_,rfl,Xe (q H' g)⟩⟩
theorem zdu (T:Txt P w K mg a)(WX:zy P w K mg base zZ k a.Z7 a.Z8 uP (Xq K)):zy P w K mg base zZ (k+1) a.Rz a.RB Vc Pb:=by
 refine T.JC.F.ok Xv (fun vs H Q E h=>?_) (fun cdv A outer s H vs Q E hr h=>?_)
 ·obtain⟨p,s,rfl,_⟩:=h
  rfl
 obtain⟨p,sn,rfl,isp,hc,q⟩:=h
 refine⟨_,(zf (zG 1 Xv.nd (vg zc))
   (zf (zG 2 Xv.nd (vg (za (pv 0) zc)))
   (zf (Nu PassesOwn.never (zQ Jb (zF zO rfl T.xP yG (za (pv 2) zc)) zq (zU _)) (zf (zV (ZJ PySem.F.plainAttrs_list PySem.F.slot_list_extend PySem.F.type_list_extend zce (pv 1) (za (pv 2) zc)))
   (zm (zG 2 Xv.nd (zu WX hr T.WQ (za (pv 2) zc))))))
   (zm (zL (pv 1)))))),?_⟩
 refine⟨by show 0<=sizeLine;decide,fun f hf=>?_⟩
 refine⟨_,rfl,by show 1<=sizeLine;decide,fun l0 hl0=>?_⟩
 have g0:=(Same.new hf (.lst [])).trans (Same.new hl0 (.lst [.ref p]))
 have nfl:f≠l0:=zB zj hl0
 refine⟨fun m σ H'=>∃(ts ss:List Sn) (qs ps:List Addr) (l:Addr),m=cnt ss/\Same H H'/\H' f=some (.lst (qs.map V.ref))/\H' l=some (.lst (ps.map V.ref))/\f≠l/\Paired (Qz H') ts qs/\Paired (Qz H') ss ps/\ts.length+cnt ss=sn.count /\
   (∀x,((∃t∈ts,x∈t.letters)\/∃u∈ss,x∈u.all)↔x∈sn.all)/\σ=[some (.ref p),some (.ref f),some (.ref l)],
  ⟨_,[],[sn],[],[p],l0,rfl,g0,by rw[zE nfl];exact zj,zj,nfl,.nil,.cons (isp.mono (xr.of g0)) .nil,?_,?_,rfl⟩,?_⟩
 ·show 0+(sn.count+0)=sn.count
  omega
 ·intro x
  simp
 rintro m σ H' ⟨ts,ss,qs,ps,l,rfl,g,hf',hl,nfl,hts,hss,hcn,hle,rfl⟩
 have lt:=ZM hts
 have lp:=ZM hss
 have cl:=zg1 ss
 have le:(ps.map V.ref).length=ss.length:=by rw[zti];exact lp.symm
 refine⟨_,rfl,l,_,rfl,.inl (z6.of hl),_,_,rfl,rfl,_,rfl,yx (fun c=>?_) (fun c=>?_)⟩
 ·have c':0<ss.length:=by have:=of_decide_eq_true c;rw[le] at this;omega
  refine⟨_,fun σ' H2 h=>h,?_⟩
  refine⟨_,rfl,.inl ⟨rfl,_,z6.of hf'⟩,_,rfl,f,l,_,_,rfl,rfl,hf',hl,by rw[zti,zti];exact ztB (yc (by omega)),?_⟩
  have t1:xr H' (upd H' f (.lst (qs.map V.ref++ps.map V.ref))):=xr.lst hf' _
  have g1:Same H (upd H' f (.lst (qs.map V.ref++ps.map V.ref))):=g.over hf _
  have hl1:(upd H' f (.lst (qs.map V.ref++ps.map V.ref))) l=some (.lst (ps.map V.ref)):=by rw[zE (Ne.symm nfl)];exact hl
  refine⟨_,rfl,l,ss,ps,rfl,z6.of hl1,Vm (fun _ _ z=>z.mono t1) hss,by omega,fun l' H3 ps' g3 hn hl' hp'=>?_⟩
  have cp:=R5 ss
  have t3:=t1.trans (xr.of g3)
  refine⟨cnt (ss.flatMap Sn.parts),by omega,ts++ss,ss.flatMap Sn.parts,qs++ps,ps',l',rfl,g1.trans g3,by rw[ztw];exact g3 _ _ zj,hl',zB zj hn,
   Kq (Vm (fun _ _ z=>z.mono t3) hts) (Vm (fun _ _ z=>z.mono t3) hss),hp',by rw[ztq];omega,fun x=>?_,rfl⟩
  rw[<-hle x]
  constructor
  ·rintro (⟨t,ht,hx⟩ | ⟨u,hu,hx⟩)
   ·rcases List.mem_append.mp ht with z | z
    ·exact .inl ⟨t,z,hx⟩
    ·exact .inr ⟨t,z,(Sn.zcY t x).mpr (.inl hx)⟩
   ·obtain⟨s',hs',hu'⟩:=Kr.mp hu
    exact .inr ⟨s',hs',(Sn.zcY s' x).mpr (.inr ⟨u,hu',hx⟩)⟩
  ·rintro (⟨t,ht,hx⟩ | ⟨u,hu,hx⟩)
   ·exact .inl ⟨t,List.mem_append_left _ ht,hx⟩
   ·rcases (Sn.zcY u x).mp hx with z | ⟨v,hv,z⟩
    ·exact .inl ⟨u,ztz _ hu,z⟩
    ·exact .inr ⟨v,Kr.mpr ⟨u,hu,hv⟩,z⟩
 ·have c':ss=[]:=by
   have:¬ 0<ss.length:=fun z=>c (decide_eq_true (by rw[le];omega))
   exact List.length_eq_zero_iff.mp (by omega)
  subst c'
  refine⟨_,rfl,q f H' ts qs g hf hf' hts ?_ fun x=>?_⟩
  ·have:cnt []=0:=rfl
   omega
  ·rw[<-hle x]
   constructor
   ·exact fun z=>.inl z
   ·rintro (z | ⟨u,hu,_⟩)
    ·exact z
    ·cases hu
theorem zbP (T:Txt P w K mg a)(ze9:zy P w K mg base zZ k a.Rz a.RB Vc Pb)(TV:zy P w K mg base zZ k a.Z5 a.Z6 u9 Y6):zy P w K mg base zZ (k+1) a.Te a.Tg Xw S5:=by
 refine T.Lp.F.ok Vq (fun vs H Q E h=>?_) (fun cdv A outer s H vs Q E hr h=>?_)
 ·obtain⟨p,s,rfl,_⟩:=h
  rfl
 obtain⟨p,sn,rfl,isp,hc,q⟩:=h
 refine⟨_,(zf (zG 1 Vq.nd (vg zc))
   (zf (uz PassesOwn.never rfl (xq (zu ze9 hr T.JC (za (pv 0) zc))) (yO (i:=2) Vq.nd rfl (Or.inl rfl)) (zm (zV (ZJ PySem.F.plainAttrs_list PySem.F.slot_list_extend PySem.F.type_list_extend zaL (pv 1) (za (zu TV hr T.Tw (za (pv 2) zc)) zc)))))
   (zm (zL (pv 1))))),?_⟩
 refine⟨by show 0<=sizeLine;decide,fun f hf=>?_⟩
 have g0:=Same.new hf (.lst [])
 refine⟨_,rfl,p,sn,rfl,isp.mono (xr.of g0),hc,fun l H1 ts ps g1 hn hl hts htl hle=>?_⟩
 have nfl:f≠l:=zB zj hn
 have lt:=ZM hts
 refine⟨l,rfl,⟨_,z6.of hl⟩,?_⟩
 refine tX (xs:=ps.map V.ref) (fun i σ H'=>∃(f1:Option V),Same H H'/\H' f=some (.lst (((ts.take i).flatMap Sn.letters).map V.str))/\H' l=some (.lst (ps.map V.ref))/\Paired (Qz H') ts ps/\((ts.take i).flatMap Sn.letters).length<=i/\i<=ts.length/\σ=[some (.ref p),some (.ref f),f1])
  ⟨_,g0.trans g1,g1 _ _ zj,hl,hts,by simp,ztF _,rfl⟩ ?_ ?_ ?_
 ·rintro i σ H' _ ⟨f1,g,hf',hl',_⟩
  exact z6.of hl'
 ·rintro i x σ H' hx ⟨f1,g,hf',hl',hts',lq,li,rfl⟩
  rw[ztk] at hx
  cases ho:ps[i]? with
  | none=>rw[ho] at hx;cases hx
  | some pp =>
   rw[ho] at hx
   cases hx
   obtain⟨sy,hsy,iy⟩:=Mf hts' ho
   have hlt:=(ztl.mp hsy).1
   obtain⟨zs,c1,c2,c3,c4,c5⟩:=Mi iy
   have l1:=Sn.zaS sy
   refine⟨_,rfl,.inl ⟨rfl,_,z6.of hf'⟩,_,rfl,pp,sy.word,sy.letters.length,sy.parts.length,_,rfl,c1,ZP sy,c3,fun b hb=>?_⟩
   rw[c4]
   have hf2:(upd H' b (.tup (sy.letters.map V.str))) f=some (.lst (((ts.take i).flatMap Sn.letters).map V.str)):=by rw[zE (zB hf' hb)];exact hf'
   refine⟨f,b,_,sy.letters.map V.str,rfl,rfl,hf2,vQ.of zj,?_,?_⟩
   ·rw[zti,zti]
    exact ztB (yc (by omega))
   ·have t1:xr H' (upd (upd H' b (.tup (sy.letters.map V.str))) f (.lst (((ts.take i).flatMap Sn.letters).map V.str++sy.letters.map V.str))):=(xr.new hb _).trans (xr.lst hf2 _)
    have e:(ts.take (i+1)).flatMap Sn.letters=(ts.take i).flatMap Sn.letters++sy.letters:=by rw[yN hsy,List.flatMap_append,List.flatMap_singleton]
    refine⟨_,(g.trans (Same.new hb _)).over hf _,by rw[zj,e,ztw],?_,Vm (fun _ _ z=>z.mono t1) hts',by rw[e,ztq];omega,hlt,rfl⟩
    rw[zE (Ne.symm nfl),zE (zB hl' hb)]
    exact hl'
 ·rintro σ H' ⟨f1,g,hf',hl',hts',lq,li,rfl⟩
  rw[zti,<-lt,ztL] at hf' lq
  refine⟨_,rfl,q f H' _ g hf hf' (fun x=>?_) (by omega)⟩
  rw[<-hle x,List.mem_flatMap]
theorem Ly (T:Txt P w K mg a):zy P w K mg base zZ (k+1) a.tK a.tL vG (UL K):=by
 refine T.Ul.F.ok M6 (fun vs H Q E h=>?_) (fun cdv A outer s H vs Q E hr h=>?_)
 ·obtain⟨l,x,os,rfl,_⟩:=h
  rfl
 obtain⟨l,x,os,rfl,hO,hx,q⟩:=h
 refine⟨_,(zm (yr (zQ NZ (pv 1) (pv 0) (by with_unfolding_all rfl)) (zm Sy) zY)),?_⟩
 refine⟨_,rfl,_,rfl,l,_,rfl,.inl hO,rfl,VP _,_,rfl,?_⟩
 have e:(if true=true then !inV (.str x) (os.map V.str) else inV (.str x) (os.map V.str))=false:=by
  rw[if_pos rfl,zd9,decide_eq_true hx];rfl
 rw[e]
 exact Xe q
theorem Nb (T:Txt P w K mg a)(zdv:zy P w K mg base zZ k a.Te a.Tg Xw S5)(K6:zy P w K mg base zZ k a.tK a.tL vG (UL K)):zy P w K mg base zZ (k+1) a.Z9 a.Yb uJ (S6 K):=by
 refine T.Vh.F.ok Wo (fun vs H Q E h=>?_) (fun cdv A outer s H vs Q E hr h=>?_)
 ·obtain⟨l,p,os,s,rfl,_⟩:=h
  rfl
 obtain⟨l,p,os,sn,rfl,hO,isp,hc,hin,q⟩:=h
 refine⟨_,(zm (uz PassesOwn.never rfl (xq (zu zdv hr T.Lp (za (pv 1) zc))) (yO (i:=2) Wo.nd rfl (Or.inl rfl)) (zm (zV (zu K6 hr T.Ul (za (pv 0) (za (pv 2) zc))))))),?_⟩
 refine⟨_,rfl,p,sn,rfl,isp,hc,fun f H1 xs g1 hn hl hmem hxl=>?_⟩
 refine⟨f,rfl,⟨_,z6.of hl⟩,?_⟩
 refine tX (xs:=xs.map V.str) (fun i σ H'=>∃f1:Option V,H'=H1/\σ=[some (.ref l),some (.ref p),f1]) ⟨_,rfl,rfl⟩ ?_ ?_ ?_
 ·rintro i σ H' _ ⟨f1,rfl,_⟩
  exact z6.of hl
 ·rintro i x σ H' hx ⟨f1,rfl,rfl⟩
  rw[ztk] at hx
  cases ho:xs[i]? with
  | none=>rw[ho] at hx;cases hx
  | some y =>
   rw[ho] at hx
   cases hx
   have hy:y∈os:=(Sn.UJ sn).mp hin y ((hmem y).mp (ztn ho))
   exact⟨_,rfl,_,rfl,l,y,os,rfl,g1.seq hO,hy,_,rfl,rfl⟩
 ·rintro σ H' ⟨f1,rfl,rfl⟩
  exact q _ g1
theorem J6 (T:Txt P w K mg a):zy P w K mg base zZ (k+1) a.uQ a.uR vH zeb:=by
 refine T.RL.F.ok JV (fun vs H Q E h=>?_) (fun cdv A outer s H vs Q E hr h=>?_)
 ·obtain⟨o,N,M,n,f,g,rfl,_⟩:=h
  rfl
 obtain⟨o,N,M,n,f,g,rfl,hN,hM,q⟩:=h
 refine⟨_,(zf (yr (zQ xG (pv 0) yt (zU _)) (zm (zL (zP u6 (pv 1) (pv 2)))) zY)
   (zf (yr (zQ xG (pv 0) yt (zU _)) (zm (zL (zP Wh (pv 1) (pv 2)))) zY)
   (zf (yr (zQ xG (pv 0) yt (zU _)) (zm (zL (zP R3 (pv 1) (pv 2)))) zY)
   (zm (zL (zP Wh (zP R3 (pv 3) (pv 1)) (pv 2))))))),?_⟩
 rcases zp6 o with e | e | e | e
 ·subst e
  exact⟨_,rfl,rfl,_,rfl,yx (fun _=>⟨_,rfl,_,rfl,N,M,rfl,rfl,q _ (uZ hN hM)⟩) (fun c=>absurd (decide_eq_true rfl) c)⟩
 ·subst e
  refine⟨_,rfl,rfl,_,rfl,yx (fun c=>absurd c (ne_str (show Str.ofString "or" ≠ Str.ofString "and" by decide +kernel))) (fun _=>?_)⟩
  exact⟨_,rfl,rfl,_,rfl,yx (fun _=>⟨_,rfl,_,rfl,N,M,rfl,rfl,q _ (Vl hN hM)⟩) (fun c=>absurd (decide_eq_true rfl) c)⟩
 ·subst e
  refine⟨_,rfl,rfl,_,rfl,yx (fun c=>absurd c (ne_str (show Str.ofString "either" ≠ Str.ofString "and" by decide +kernel))) (fun _=>?_)⟩
  refine⟨_,rfl,rfl,_,rfl,yx (fun c=>absurd c (ne_str (show Str.ofString "either" ≠ Str.ofString "or" by decide +kernel))) (fun _=>?_)⟩
  exact⟨_,rfl,rfl,_,rfl,yx (fun _=>⟨_,rfl,_,rfl,N,M,rfl,rfl,q _ (UG hN hM)⟩) (fun c=>absurd (decide_eq_true rfl) c)⟩
 ·subst e
  refine⟨_,rfl,rfl,_,rfl,yx (fun c=>absurd c (ne_str (show Str.ofString "if" ≠ Str.ofString "and" by decide +kernel))) (fun _=>?_)⟩
  refine⟨_,rfl,rfl,_,rfl,yx (fun c=>absurd c (ne_str (show Str.ofString "if" ≠ Str.ofString "or" by decide +kernel))) (fun _=>?_)⟩
  refine⟨_,rfl,rfl,_,rfl,yx (fun c=>absurd c (ne_str (show Str.ofString "if" ≠ Str.ofString "either" by decide +kernel))) (fun _=>?_)⟩
  refine⟨_,rfl,_,rfl,_,N,rfl,rfl,_,rfl,_,M,rfl,rfl,q _ (yK (Vl (UG (W3 n) hN) hM) fun b _=>?_)⟩
  show((true != f b)||g b)=(!f b||g b)
  cases f b<;>rfl
theorem zbQ {d:Nat}(T:Txt P w K mg a)(yj:zy P w K mg base zZ k a.wM a.wN xT vA)(yH:zy P w K mg base zZ k a.wk a.wu xJ vh)
  (tQ:zy P w K mg base zZ k a.X6 a.X7 Ym XQ)(uW:zy P w K mg base zZ k a.Zo a.Zq uO Yj)
  (Yd:zy P w K mg base zZ k a.uQ a.uR vH zeb)
  (Nf:zy P w K mg base zZ k a.WD a.WK Yo (UW K d)):zy P w K mg base zZ (k+1) a.WD a.WK Yo (UW K (d+1)):=by
 refine T.PN.F.ok Vd (fun vs H Q E h=>?_) (fun cdv A outer s H vs Q E hr h=>?_)
 ·obtain⟨p,l,sn,os,rfl,_⟩:=h
  rfl
 obtain⟨p,l,sn,os,rfl,isp,hO,hin,h8,hd,q⟩:=h
 refine⟨_,(zf (zG 2 Vd.nd (yh Zm (pv 0) zq (fun _ _=>rfl)))
   (zf (zG 3 Vd.nd (zF zO rfl T.xP yG (za (pv 1) zc)))
   (zf (yr (zQ xG (pv 2) yt (zU _)) (zm (zL zq)) zY)
   (zf (yr (zQ xG (pv 2) yt (zU _)) (zm (zL (zu yj hr T.v7 (za (pv 3) zc)))) zY)
   (zf (yr (zQ xG (pv 2) yt (zU _)) (zm (zL (zu yH hr T.ZC (za (ZJ PySem.F.plainAttrs_list PySem.F.slot_list_index PySem.F.type_list_index zaK (pv 1) (za (yh Zm (pv 0) zq (fun _ _=>rfl)) zc)) (za (pv 3) zc))))) zY)
   (zf (VN (tt:=Uz) (i:=4) Vd.nd rfl (Or.inl rfl) (.inl rfl) (uD:=zx PB) (js:=[1]) rfl (by show ZK _ _ "part" ["order"];exact lco (by decide +kernel)) rfl (QX (zu uW hr T.Tz (za (pv 0) zc))) (by show ∀j∈([1]:List Nat),j<5;decide) (fun cl C s₂ H₂ fp pins s' σ' H' Q I h=>wpAny_pure ⟨H',I,h⟩) (fun cl C s₂ H₂ fp=>(zu Nf hr T.PN (za (pv 0) (za (pv 1) zc)))) rfl)
   (zf (yr (zQ xG (pv 2) yt (zU _)) (zm (zL (zP R3 (zu yj hr T.v7 (za (pv 3) zc)) (yh yd (pv 4) zq (fun _ _=>rfl))))) zY)
   (zf (yr (zQ xG (pv 2) yt (zU _)) (zm (zL (zP Wh (yh yd (pv 4) zq (fun _ _=>rfl)) (zu tQ hr T.Uj (za (yh yd (pv 4) zq (fun _ _=>rfl)) (za (ZJ PySem.F.plainAttrs_list PySem.F.slot_list_index PySem.F.type_list_index zaK (pv 1) (za (yh Zm (pv 0) zq (fun _ _=>rfl)) zc)) (za (pv 3) zc))))))) zY)
   (zf (yr (zQ xG (pv 2) yt (zU _)) (zm (zL (zP u6 (yh yd (pv 4) zq (fun _ _=>rfl)) (zu tQ hr T.Uj (za (yh yd (pv 4) zq (fun _ _=>rfl)) (za (ZJ PySem.F.plainAttrs_list PySem.F.slot_list_index PySem.F.type_list_index zaK (pv 1) (za (yh Zm (pv 0) zq (fun _ _=>rfl)) zc)) (za (pv 3) zc))))))) zY)
   (zm (zL (zu Yd hr T.RL (za (pv 2) (za (yh yd (pv 4) zq (fun _ _=>rfl)) (za (yh yd (pv 4) zq (fun _ _=>rfl)) (za (zu yj hr T.v7 (za (pv 3) zc)) zc)))))))))))))))),?_⟩
 have hlen:(os.map V.str).length=os.length:=zti _
 obtain⟨zs,c1,c2,c3,c4,c5⟩:=Mi isp
 have lz:=ZM c2
 have lp2:=Sn.Mh sn
 refine⟨_,rfl,p,_,0,_,rfl,rfl,vQ.of c1,at0,?_⟩
 refine⟨_,rfl,l,_,rfl,.inl hO,?_⟩
 rw[hlen]
 have comp:∀{σ:St} {Q2:Addr->Hp->List V->Prop},σ.getD 1 none=some (.ref l)->(∀(b:Addr) (ys:List V) (H':Hp),Same H H'->H' b=none->ys.length=sn.parts.length->(∀(j:Nat) v,ys[j]?=some v->∃t N,sn.parts[j]?=some t/\v=.int (N:Nat)/\TabOf os t N)->Q2 b H' ys) ->
   ∀b0,H b0=none->∃W:Nat->Nat->List V->Hp->Prop,(∃m,W 0 m [] (upd H b0 (.tup (zs.map V.ref))))/\∀i m ys H,W i m ys H ->
    ((Itt K b0).stop i H/\∀p,H p=none->Q2 p H ys) \/
    ((Itt K b0).go i H/\ys.length<sizeLine/\∀x H',(Itt K b0).Ni i H x H'->Uz (Yi σ [1] (some x)) H' fun b H2 =>
     if b=true then NK (UW K d) [] E0 (Nz (zaA 0) (Nz (zaA 1) Qs)) (Yi σ [1] (some x)) H2 fun v H3=>∃m',m'<m/\W (i+1) m' (ys++[v]) H3 else ∃m',m'<m/\W (i+1) m' ys H2):=by
  intro σ Q2 hσ hQ2 b0 hb0
  have g0:=Same.new hb0 (.tup (zs.map V.ref))
  refine zkw (fun j v=>∃t N,sn.parts[j]?=some t/\v=.int ((N:Nat):Int)/\TabOf os t N) (vQ.of zj) (by rw[zti];exact ztB (yc (by omega))) ?_ (zog (zfN d)) ?_
  ·intro i x H' hx g
   rw[ztk] at hx
   cases ho:zs[i]? with
   | none=>rw[ho] at hx;cases hx
   | some y =>
    rw[ho] at hx
    cases hx
    obtain⟨t,ht,it⟩:=Mf c2 ho
    have htm:=ztn ht
    have dp:=Sn.SQ sn t htm
    refine⟨_,rfl,.ref l,?_,y,l,t,os,rfl,it.mono (xr.of (g0.trans g)),(g0.trans g).seq hO,Sn.zcg sn hin t htm,h8,by omega,fun N H3 g3 hN=>⟨⟨t,N,ht,rfl,hN⟩,g.trans g3⟩⟩
    show some (σ.getD 1 none)=_
    rw[hσ]
  ·intro ys H' pp hl hy g hpp
   exact hQ2 pp ys H' (g0.trans g) hpp (by rw[hl,zti];exact lz.symm) hy
 cases sn with
 | c0 y =>
  cases y with
  | false=>exact⟨_,rfl,rfl,_,rfl,yx (fun _=>q 0 _ (Same.refl _) (v9 _)) (fun c=>absurd (decide_eq_true rfl) c)⟩
  | true =>
   refine⟨_,rfl,rfl,_,rfl,yx (fun c=>absurd c (ne_str (show Str.ofString "yes" ≠ Str.ofString "no" by decide +kernel))) (fun _=>?_)⟩
   exact⟨_,rfl,rfl,_,rfl,yx (fun _=>⟨_,rfl,os.length,rfl,h8,q _ _ (Same.refl _) (W3 _)⟩) (fun c=>absurd (decide_eq_true rfl) c)⟩
 | mk x =>
  refine⟨_,rfl,rfl,_,rfl,yx (fun c=>absurd c (ne_str (show Str.ofString "mark" ≠ Str.ofString "no" by decide +kernel))) (fun _=>?_)⟩
  refine⟨_,rfl,rfl,_,rfl,yx (fun c=>absurd c (ne_str (show Str.ofString "mark" ≠ Str.ofString "yes" by decide +kernel))) (fun _=>?_)⟩
  obtain⟨i1,i2,i3⟩:=R6 (show x∈os from hin)
  have isp':H p=some (.tup [.str "mark", .str x]):=isp
  exact⟨_,rfl,rfl,_,rfl,yx (fun _=>⟨_,rfl,.inl ⟨rfl,_,hO⟩,_,rfl,p,_,1,_,rfl,rfl,vQ.of isp',at1,l,_,.str x,_,rfl,rfl,hO,rfl,VP _,i1,_,rfl,ix os x,os.length,rfl,i2,h8,fun R hR=>q R _ (Same.refl _) hR⟩) (fun c=>absurd (decide_eq_true rfl) c)⟩
 | nt s1 =>
  refine⟨_,rfl,rfl,_,rfl,yx (fun c=>absurd c (ne_str (show Str.ofString "not" ≠ Str.ofString "no" by decide +kernel))) (fun _=>?_)⟩
  refine⟨_,rfl,rfl,_,rfl,yx (fun c=>absurd c (ne_str (show Str.ofString "not" ≠ Str.ofString "yes" by decide +kernel))) (fun _=>?_)⟩
  refine⟨_,rfl,rfl,_,rfl,yx (fun c=>absurd c (ne_str (show Str.ofString "not" ≠ Str.ofString "mark" by decide +kernel))) (fun _=>?_)⟩
  refine⟨_,rfl,p,_,_,_,_,rfl,c1,ZP (.nt s1),c3,fun b0 hb0=>?_⟩
  rw[c5]
  refine⟨b0,rfl,⟨_,vQ.of zj⟩,comp rfl (fun b ys H0 g0 hb0' hyl hy=>?_) b0 hb0⟩
  have hb:=zj (H:=H0) (a:=b) (o:=.lst ys)
  have g:=g0.trans (Same.new hb0' (.lst ys))
  obtain⟨v,rfl⟩:=len1 hyl
  obtain⟨t,N,ht,rfl,hN⟩:=hy 0 v rfl
  cases ht
  refine⟨_,rfl,rfl,_,rfl,yx (fun _=>⟨_,rfl,os.length,rfl,h8,_,rfl,b,_,0,_,rfl,rfl,z6.of hb,at0,_,N,rfl,rfl,q _ _ g (yK (UG (W3 _) hN) fun z _=>?_)⟩) (fun c=>absurd (decide_eq_true rfl) c)⟩
  show(true != s1.val (Qt os z))=!s1.val (Qt os z)
  cases s1.val (Qt os z)<;>rfl
 | b2 o s1 s2 =>
  have w1:w2 o≠Str.ofString "no" := zoh o
  have w2':w2 o≠Str.ofString "yes" := zmG o
  have w3:w2 o≠Str.ofString "mark" := zkx o
  have w4:w2 o≠Str.ofString "not" := zmH o
  have w5:w2 o≠Str.ofString "some" := zky o
  have w6:w2 o≠Str.ofString "each" := zkz o
  refine⟨_,rfl,rfl,_,rfl,yx (fun c=>absurd c (ne_str w1)) (fun _=>?_)⟩
  refine⟨_,rfl,rfl,_,rfl,yx (fun c=>absurd c (ne_str w2')) (fun _=>?_)⟩
  refine⟨_,rfl,rfl,_,rfl,yx (fun c=>absurd c (ne_str w3)) (fun _=>?_)⟩
  refine⟨_,rfl,p,_,_,_,_,rfl,c1,ZP (.b2 o s1 s2),c3,fun b0 hb0=>?_⟩
  rw[c5]
  refine⟨b0,rfl,⟨_,vQ.of zj⟩,comp rfl (fun b ys H0 g0 hb0' hyl hy=>?_) b0 hb0⟩
  have hb:=zj (H:=H0) (a:=b) (o:=.lst ys)
  have g:=g0.trans (Same.new hb0' (.lst ys))
  obtain⟨v,u,rfl⟩:=len2 hyl
  obtain⟨t,N,ht,rfl,hN⟩:=hy 0 v rfl
  obtain⟨t',M,ht',rfl,hM⟩:=hy 1 u rfl
  cases ht
  cases ht'
  refine⟨_,rfl,rfl,_,rfl,yx (fun c=>absurd c (ne_str w4)) (fun _=>?_)⟩
  refine⟨_,rfl,rfl,_,rfl,yx (fun c=>absurd c (ne_str w5)) (fun _=>?_)⟩
  refine⟨_,rfl,rfl,_,rfl,yx (fun c=>absurd c (ne_str w6)) (fun _=>?_)⟩
  exact⟨_,rfl,_,rfl,b,_,0,_,rfl,rfl,z6.of hb,at0,_,rfl,b,_,1,_,rfl,rfl,z6.of hb,at1,_,rfl,os.length,rfl,h8,o,N,M,os.length,_,_,rfl,hN,hM,fun R hR=>q R _ g hR⟩
 | q1 o x s1 =>
  obtain⟨hx,hs1⟩:=hin
  obtain⟨i1,i2,i3⟩:=R6 hx
  cases o with
  | true =>
   refine⟨_,rfl,rfl,_,rfl,yx (fun c=>absurd c (ne_str (show Str.ofString "some" ≠ Str.ofString "no" by decide +kernel))) (fun _=>?_)⟩
   refine⟨_,rfl,rfl,_,rfl,yx (fun c=>absurd c (ne_str (show Str.ofString "some" ≠ Str.ofString "yes" by decide +kernel))) (fun _=>?_)⟩
   refine⟨_,rfl,rfl,_,rfl,yx (fun c=>absurd c (ne_str (show Str.ofString "some" ≠ Str.ofString "mark" by decide +kernel))) (fun _=>?_)⟩
   refine⟨_,rfl,p,_,_,_,_,rfl,c1,ZP (.q1 true x s1),c3,fun b0 hb0=>?_⟩
   rw[c5]
   refine⟨b0,rfl,⟨_,vQ.of zj⟩,comp rfl (fun b ys H0 g0 hb0' hyl hy=>?_) b0 hb0⟩
   have hb:=zj (H:=H0) (a:=b) (o:=.lst ys)
   have g:=g0.trans (Same.new hb0' (.lst ys))
   obtain⟨v,rfl⟩:=len1 hyl
   obtain⟨t,N,ht,rfl,hN⟩:=hy 0 v rfl
   cases ht
   have c1':=g _ _ c1
   refine⟨_,rfl,rfl,_,rfl,yx (fun c=>absurd c (ne_str (show Str.ofString "some" ≠ Str.ofString "not" by decide +kernel))) (fun _=>?_)⟩
   refine⟨_,rfl,rfl,_,rfl,yx (fun _=>?_) (fun c=>absurd (decide_eq_true rfl) c)⟩
   refine⟨_,rfl,b,_,0,_,rfl,rfl,z6.of hb,at0,_,rfl,b,_,0,_,rfl,rfl,z6.of hb,at0,_,rfl,.inl ⟨rfl,_,g.seq hO⟩,_,rfl,p,_,1,_,rfl,rfl,vQ.of c1',at1,l,_,.str x,_,rfl,rfl,g.seq hO,rfl,VP _,i1,_,rfl,N,ix os x,os.length,_,rfl,i2,h8,hN,fun R hR=>⟨N,R,rfl,rfl,q _ _ g (yK (Vl hN hR) fun z _=>?_)⟩⟩
   exact(zi5 hs1 hx z).symm
  | false =>
   refine⟨_,rfl,rfl,_,rfl,yx (fun c=>absurd c (ne_str (show Str.ofString "each" ≠ Str.ofString "no" by decide +kernel))) (fun _=>?_)⟩
   refine⟨_,rfl,rfl,_,rfl,yx (fun c=>absurd c (ne_str (show Str.ofString "each" ≠ Str.ofString "yes" by decide +kernel))) (fun _=>?_)⟩
   refine⟨_,rfl,rfl,_,rfl,yx (fun c=>absurd c (ne_str (show Str.ofString "each" ≠ Str.ofString "mark" by decide +kernel))) (fun _=>?_)⟩
   refine⟨_,rfl,p,_,_,_,_,rfl,c1,ZP (.q1 false x s1),c3,fun b0 hb0=>?_⟩
   rw[c5]
   refine⟨b0,rfl,⟨_,vQ.of zj⟩,comp rfl (fun b ys H0 g0 hb0' hyl hy=>?_) b0 hb0⟩
   have hb:=zj (H:=H0) (a:=b) (o:=.lst ys)
   have g:=g0.trans (Same.new hb0' (.lst ys))
   obtain⟨v,rfl⟩:=len1 hyl
   obtain⟨t,N,ht,rfl,hN⟩:=hy 0 v rfl
   cases ht
   have c1':=g _ _ c1
   refine⟨_,rfl,rfl,_,rfl,yx (fun c=>absurd c (ne_str (show Str.ofString "each" ≠ Str.ofString "not" by decide +kernel))) (fun _=>?_)⟩
   refine⟨_,rfl,rfl,_,rfl,yx (fun c=>absurd c (ne_str (show Str.ofString "each" ≠ Str.ofString "some" by decide +kernel))) (fun _=>?_)⟩
   refine⟨_,rfl,rfl,_,rfl,yx (fun _=>?_) (fun c=>absurd (decide_eq_true rfl) c)⟩
   refine⟨_,rfl,b,_,0,_,rfl,rfl,z6.of hb,at0,_,rfl,b,_,0,_,rfl,rfl,z6.of hb,at0,_,rfl,.inl ⟨rfl,_,g.seq hO⟩,_,rfl,p,_,1,_,rfl,rfl,vQ.of c1',at1,l,_,.str x,_,rfl,rfl,g.seq hO,rfl,VP _,i1,_,rfl,N,ix os x,os.length,_,rfl,i2,h8,hN,fun R hR=>⟨N,R,rfl,rfl,q _ _ g (yK (uZ hN hR) fun z _=>?_)⟩⟩
   exact(zi6 hs1 hx z).symm
theorem JH (T:Txt P w K mg a)(yj:zy P w K mg base zZ k a.wM a.wN xT vA)(yH:zy P w K mg base zZ k a.wk a.wu xJ vh)
  (tQ:zy P w K mg base zZ k a.X6 a.X7 Ym XQ)(uW:zy P w K mg base zZ k a.Zo a.Zq uO Yj)
  (Yd:zy P w K mg base zZ k a.uQ a.uR vH zeb):∀d:Nat,zy P w K mg base zZ (k+d) a.WD a.WK Yo (UW K d)
 | 0=>by
  refine⟨fun vs H Q E h=>?_,fun A outer s H args us vs Q E _ _ _ _ h=>?_⟩
  ·obtain⟨p,l,sn,os,rfl,_⟩:=h
   rfl
  ·obtain⟨p,l,sn,os,_,_,_,_,_,hd,_⟩:=h
   have:=Sn.Ko sn
   omega
 | d+1=>zbQ T (yj.mono (ztS _ _)) (yH.mono (ztS _ _)) (tQ.mono (ztS _ _)) (uW.mono (ztS _ _)) (Yd.mono (ztS _ _)) (JH T yj yH tQ uW Yd d)
theorem zgt (T:Txt P w K mg a)(yH:zy P w K mg base zZ k a.wk a.wu xJ vh)(tQ:zy P w K mg base zZ k a.X6 a.X7 Ym XQ):zy P w K mg base zZ (k+1) a.tG a.tH uo ZW:=by
 refine T.tO.F.ok Py (fun vs H Q E h=>?_) (fun cdv A outer s H vs Q E hr h=>?_)
 ·obtain⟨N,p,n,v,f,rfl,_⟩:=h
  rfl
 obtain⟨N,p,n,v,f,rfl,hp,hn,tb,q⟩:=h
 refine⟨_,(zf (zG 4 Py.nd (zP u6 (pv 0) (zu yH hr T.ZC (za (pv 1) (za (pv 3) zc)))))
   (zf (zG 5 Py.nd (zaC (zQ xG (pv 2) zq (zU _)) (pv 4) (zP R3 (pv 0) (pv 4))))
   (zm (zL (zP Wh (pv 5) (zu tQ hr T.Uj (za (pv 5) (za (pv 1) (za (pv 3) zc))))))))),?_⟩
 refine⟨_,rfl,_,rfl,_,rfl,p,n,rfl,hp,hn,fun R tr=>?_⟩
 refine⟨N,R,rfl,rfl,?_⟩
 have o:=uY.uZ tb tr
 refine⟨_,rfl,rfl,_,rfl,?_⟩
 cases v with
 | true =>
  refine yx (fun _=>?_) (fun c=>absurd (decide_eq_true rfl) c)
  refine⟨_,rfl,?_⟩
  refine⟨_,rfl,_,rfl,_,rfl,_,rfl,N&&&R,p,n,_,rfl,hp,hn,o,fun R2 t2=>?_⟩
  refine⟨_,_,rfl,rfl,q _ (yK (uY.Vl o t2) fun b hb=>?_)⟩
  show((f b&&b.testBit p)||(f (zK b p (!b.testBit p))&&(zK b p (!b.testBit p)).testBit p))=f (zK b p true)
  rw[zT,if_pos rfl]
  cases e:b.testBit p
  ·simp
  ·rw[<-e,yL.yJ,e];simp
 | false =>
  refine yx (fun c=>absurd (of_decide_eq_true c) (fun z=>by injection z with z;revert z;decide)) (fun _=>?_)
  have z:=uY.UG tb o
  refine⟨_,rfl,_,rfl,N,N&&&R,rfl,rfl,?_⟩
  refine⟨_,rfl,_,rfl,_,rfl,_,rfl,N ^^^ (N&&&R),p,n,_,rfl,hp,hn,z,fun R2 t2=>?_⟩
  refine⟨_,_,rfl,rfl,q _ (yK (uY.Vl z t2) fun b hb=>?_)⟩
  show((f b != (f b&&b.testBit p))||(f (zK b p (!b.testBit p)) != (f (zK b p (!b.testBit p))&&(zK b p (!b.testBit p)).testBit p)))=f (zK b p false)
  rw[zT,if_pos rfl]
  cases e:b.testBit p
  ·rw[<-e,yL.yJ,e];simp
  ·simp
theorem zfa (T:Txt P w K mg a)(tQ:zy P w K mg base zZ k a.X6 a.X7 Ym XQ):zy P w K mg base zZ (k+1) a.Ww a.Wx Yn Mr:=by
 refine T.PL.F.ok zeG (fun vs H Q E h=>?_) (fun cdv A outer s H vs Q E hr h=>?_)
 ·obtain⟨N,p,n,f,rfl,_⟩:=h
  rfl
 obtain⟨N,p,n,f,rfl,hp,hn,tb,q⟩:=h
 refine⟨_,(zm (zL (ZD Nv (zu tQ hr T.Uj (za (pv 0) (za (pv 1) (za (pv 2) zc)))) (pv 0) (zU _)))),?_⟩
 refine⟨_,rfl,_,rfl,_,rfl,N,p,n,f,rfl,hp,hn,tb,fun R tr=>?_⟩
 refine⟨_,rfl,rfl,?_⟩
 refine q _ (fun e=>?_) (fun e=>?_)
 ·have e1:R=N:=by
   have z:V.int (R:Nat)=V.int (N:Nat):=of_decide_eq_true (by simpa using e)
   injection z with z
   omega
  subst e1
  refine yL.Free.zkH fun b hb=>?_
  rw[<-yL.ZV tr hb,yL.ZV tb hb]
 ·refine Classical.byContradiction fun no=>?_
  have e1:R=N:=yL.YC tr tb fun b hb=>by
   refine Classical.byContradiction fun ne=>no ⟨b,hb,fun z=>ne ?_⟩
   show f (zK b p (!b.testBit p))=f b
   cases e:b.testBit p
   ·rw[Bool.not_false,<-z,<-e,yL.yJ]
   ·rw[Bool.not_true,z,<-e,yL.yJ]
  subst e1
  rw[decide_eq_true rfl] at e
  cases e
theorem zbn (T:Txt P w K mg a)(Yw:zy P w K mg base zZ k a.Ww a.Wx Yn Mr):zy P w K mg base zZ (k+1) a.YL a.YM tY zan:=by
 refine T.QM.F.ok Wm (fun vs H Q E h=>?_) (fun cdv A outer s H vs Q E hr h=>?_)
 ·obtain⟨N,n,f,rfl,_⟩:=h
  rfl
 obtain⟨N,n,f,rfl,hn,tb,q⟩:=h
 refine⟨_,(zf (zG 2 Wm.nd zq)
   (zf (Nu PassesOwn.never (PW.pt (zaB (zQ zdW (pv 2) (pv 1) (zU _)) (Nq (Ye (yM (zu Yw hr T.PL (za (pv 0) (za (pv 2) (za (pv 1) zc)))) (fun _=>rfl)))))) (zm (zfs (i:=2) Wm.nd rfl (Or.inl rfl) zq zcK)))
   (zm (zL (pv 2))))),?_⟩
 refine⟨fun m σ H'=>∃p:Nat,m=n-p/\H'=H/\p<=n/\(∀i,i<p->yL.Free n f i)/\σ=[some (.int N),some (.int n),some (.int p)],⟨_,0,rfl,rfl,ztF _,fun i hi=>absurd hi (Nat.not_lt_zero _),rfl⟩,?_⟩
 rintro m σ H' ⟨p,rfl,rfl,hp,fr,rfl⟩
 refine⟨_,rfl,_,rfl,_,_,rfl,rfl,_,rfl,yx (fun c=>?_) (fun c=>?_)⟩
 ·have hpn:p<n:=by have:=of_decide_eq_true c;omega
  refine⟨_,rfl,_,rfl,_,rfl,N,p,n,f,rfl,hpn,hn,tb,fun b hf ht=>?_⟩
  cases b with
  | false =>
   refine⟨_,rfl,yx (fun c2=>?_) (fun c2=>absurd rfl c2)⟩
   refine⟨_,fun σ' H2 h=>h,?_⟩
   refine⟨_,rfl,_,_,rfl,rfl,n-(p+1),by omega,p+1,rfl,rfl,hpn,fun i hi=>?_,rfl⟩
   by_cases e:i=p
   ·subst e
    exact hf rfl
   ·exact fr i (by omega)
  | true =>
   refine⟨_,rfl,yx (fun c2=>absurd c2 ztm) (fun c2=>?_)⟩
   exact⟨_,rfl,q p hp fr fun _=>ht rfl⟩
 ·refine⟨_,rfl,q p hp fr fun h=>absurd (decide_eq_true (by omega)) c⟩
theorem Ng {d:Nat}(T:Txt P w K mg a)(Y0:zy P w K mg base zZ k a.YL a.YM tY zan)(yF:zy P w K mg base zZ k a.tG a.tH uo ZW)
  (wG:zy P w K mg base zZ k a.wC a.wD xu (Zx a.zp d)):zy P w K mg base zZ (k+1) a.wC a.wD xu (Zx a.zp (d+1)):=by
 refine T.vN.F.ok vd (fun vs H Q E h=>?_) (fun cdv A outer s H vs Q E hr h=>?_)
 ·obtain⟨b,os,rs,F,t,u,f,rfl,_⟩:=h
  rfl
 obtain⟨b,os,rs,F,t,u,f,rfl,hB,hlen,hu,hd,tb,fr,q⟩:=h
 refine⟨_,(zf (yr (zis (zcn (Jf hr) (pv 1) (ZF (pv 0) rfl))) (zf (zG 2 vd.nd (zF zO rfl T.xP yG (za (ZF (pv 0) rfl) zc)))
   (zf (zG 3 vd.nd (zu Y0 hr T.QM (za (pv 1) (za (pv 2) zc))))
   (zf (zG 4 vd.nd (yR (pv 0) T.z9 T.vN wG hr (za (zu yF hr T.tO (za (pv 1) (za (pv 3) (za zq (za (pv 2) zc))))) zc)))
   (zf (zG 5 vd.nd (yR (pv 0) T.z9 T.vN wG hr (za (zu yF hr T.tO (za (pv 1) (za (pv 3) (za zq (za (pv 2) zc))))) zc)))
   (zf (zak (Jf hr) (ZF (pv 0) rfl) (pv 1) (zF zO rfl T.xP yG (za (ZF (pv 0) rfl) zc)) rfl)
   (zf (zV (ZJ PySem.F.plainAttrs_list PySem.F.slot_list_append PySem.F.type_list_append uX (ZF (pv 0) rfl) (za (uM (za (pv 3) (za (pv 4) (za (pv 5) zc)))) zc)))
   (zm (zV (ZJ PySem.F.plainAttrs_list PySem.F.slot_list_append PySem.F.type_list_append uX (ZF (pv 0) rfl) (za (pv 1) zc)))))))))) zY)
   (zm (zL (zg7 (Jf hr) (ZF (pv 0) rfl) (pv 1) (fun _ _=>rfl))))),?_⟩
 have hB0:=hB
 obtain⟨dx,ml,rl,tl,nd,rv,ts,kvs,h⟩:=hB
 have n8:os.length<=8:=h.ord.le
 have hml:(os.map V.str).length=os.length:=zti _
 have pw:2^(d+1)=2^d+2^d:=by rw[Nat.pow_succ];omega
 have pd:1<=2^d:=Nat.one_le_two_pow
 have pn:2^os.length<=256:=uY.zhO n8
 refine⟨_,rfl,_,rfl,b,a.zp,dx,_,_,rfl,h.hb,T.z9,T.uf,rfl,nd,_,rfl,JM.k (k:=.inl (t:Int)) h.hd,?_⟩
 by_cases hm:t∈ts
 ·obtain⟨j,hj,ej⟩:=ztX hm
  have ej':ts[j]?=some t:=by rw[ztj hj,ej]
  have ev:=h.nums.get j t ej'
  have z:=JM.k (k:=.inl (t:Int)) h.hd
  rw[ev] at z
  rw[ev]
  refine⟨_,rfl,Xe ?_⟩
  refine⟨_,rfl,b,a.zp,dx,_,_,rfl,h.hb,T.z9,T.uf,rfl,_,rfl,nd,_,rfl,z,?_⟩
  refine q j rs H (fun x o e _=>e) (fun _ _ e=>e) hB0 (.refl _) (by rw[<-h.tabs.len];exact hj) (h.tabs.find h.bk ej' tb) (by omega) (fun j h1 h2=>by omega) (ztS _ _)
 ·have ev:=h.nums.non t hm
  rw[ev]
  refine⟨_,rfl,Xf ?_⟩
  refine⟨_,rfl,b,a.zp,dx,_,_,rfl,h.hb,T.z9,T.Zf,rfl,ml,_,rfl,.inl (z6.of h.hm),?_⟩
  rw[hml]
  refine⟨_,rfl,_,rfl,t,os.length,f,rfl,n8,tb,fun p hp0 frp dep=>?_⟩
  have hp:p<os.length:=by
   refine Nat.lt_of_le_of_ne hp0 fun e=>hm ?_
   subst e
   have cs:=yL.ug frp
   have two:=yL.len2 h.bk
   cases hf:f 0 with
   | false=>exact ztn (h.tabs.same (j:=0) (by omega) tb fun r=>by rw[cs _ (yL.Zh _ _),hf];rfl)
   | true=>exact ztn (h.tabs.same (j:=1) (by omega) tb fun r=>by rw[cs _ (yL.Zh _ _),hf];exact yL.Qa h.bk r)
  have hup:u<=p:=by
   refine Nat.le_of_not_lt fun hlt=>?_
   obtain⟨c,hc,hne⟩:=dep hp
   exact hne (by rw[fr p hlt c hc,fr p hlt c hc])
  have fre:∀(v:Bool) i,i<p+1->yL.Free os.length (fun c=>f (zK c p v)) i:=fun v i hi c hc v'=>by
   show f (zK (zK c i v') p v)=f (zK c p v)
   by_cases e:i=p
   ·subst e
    congr 1
    refine yL.ZS (zX (zX hc hp) hp) (zX hc hp) fun j _=>?_
    rw[zT,zT,zT]
    by_cases e:j=i
    ·rw[if_pos e,if_pos e]
    ·rw[if_neg e,if_neg e,if_neg e]
   ·rw[<-frp i (by omega) _ (zX (v:=v) hc hp) v']
    congr 1
    refine yL.ZS (zX (zX hc (by omega)) hp) (zX (zX hc hp) (by omega)) fun j _=>?_
    rw[zT,zT,zT,zT]
    by_cases e1:j=p
    ·rw[if_pos e1,if_pos e1,if_neg (by omega)]
    ·rw[if_neg e1,if_neg e1]
  refine⟨_,rfl,b,dx,_,rfl,h.hb,rfl,_,rfl,_,rfl,_,rfl,t,p,os.length,false,f,rfl,hp,n8,tb,fun R0 tr0=>?_⟩
  refine⟨b,os,rs,F,R0,p+1,_,rfl,hB0,by omega,hp,by omega,tr0,fre false,fun k0 rs1 H1 aw1 tu1 hB1 gr1 lt1 y1 ln1 lv1 hh1=>?_⟩
  have hB1':=hB1
  obtain⟨dx1,ml1,rl1,tl1,nd1,rv1,ts1,zsr,h1⟩:=hB1
  refine⟨_,rfl,b,dx1,_,rfl,h1.hb,rfl,_,rfl,_,rfl,_,rfl,t,p,os.length,true,f,rfl,hp,n8,tb,fun R1 tr1=>?_⟩
  refine⟨b,os,rs1,F,R1,p+1,_,rfl,hB1',by omega,hp,by omega,tr1,fre true,fun k1 rs2 H2 aw2 tu2 hB2 gr2 lt2 y2 ln2 lv2 hh2=>?_⟩
  obtain⟨dx2,ml2,rl2,tl2,Nk,rv2,ts2,znk,h2⟩:=hB2
  have lt1':k0<rs2.length:=ztr lt1 gr2.len
  have y1':∀r,yL.yes rs2 k0 r=f (zK (yL.bits r os.length) p false):=fun r=>by rw[gr2.yes h1.bk lt1];exact y1 r
  have g02:=gr1.trans gr2
  have lrs:=g02.len
  have lvs:∀j,rs.length<=j->j<rs2.length->p<yL.Sh os.length rs2 j:=fun j a1 a2=>by
   by_cases hj:j<rs1.length
   ·rw[gr2.Sh hj];exact lv1 j a1 hj
   ·exact lv2 j (by omega) a2
  have old:∀j,j<rs.length->¬∀r,yL.yes rs2 j r=f (yL.bits r os.length):=fun j hj hy=>hm (ztn (h.tabs.same hj tb fun r=>by rw[<-g02.yes h.bk hj];exact hy r))
  obtain⟨B',yn⟩:=yL.zi9 h2.bk hp lt1' lt2 y1' y2 frp (dep hp) old lvs
  have hn2:t∉ts2:=fun hm2=>by
   obtain⟨j,hj,ej⟩:=ztX hm2
   have ej':ts2[j]?=some t:=by rw[ztj hj,ej]
   have hjr:j<rs2.length:=by rw[<-h2.tabs.len];exact hj
   have hy:=h2.tabs.find h2.bk ej' tb
   by_cases hjo:j<rs.length
   ·exact old j hjo hy
   ·obtain⟨c,hc,hne⟩:=dep hp
    have lv:=lvs j (by omega) hjr
    refine hne ?_
    have a1:=hy (yL.put (yL.JN c) p false)
    have a2:=hy (yL.put (yL.JN c) p true)
    rw[yL.ZQ h2.bk hjr lv,yL.zek hp,yL.Qc hc] at a1 a2
    exact a1.symm.trans a2
  have l2:=h2.len
  have s2:rs2.length<sizeLine:=ztr (show rs2.length<9000001 by omega) (by decide)
  refine⟨_,rfl,b,a.zp,dx2,_,_,rfl,h2.hb,T.z9,T.uy,rfl,rl2,_,rfl,.inl (z6.of h2.hr),?_⟩
  rw[l2]
  refine⟨_,rfl,b,a.zp,dx2,_,_,rfl,h2.hb,T.z9,T.uf,rfl,_,rfl,Nk,_,rfl,zfO.k (k:=.inl (t:Int)) h2.hd (by have:=h2.nums.len;have:=h2.tabs.len;omega),?_⟩
  have nb:Nk≠b:=Sv h2.hd h2.hb (by intro z;cases z)
  have nm:Nk≠ml2:=Sv h2.hd h2.hm (by intro z;cases z)
  have nr:Nk≠rl2:=Sv h2.hd h2.hr (by intro z;cases z)
  have nt:Nk≠tl2:=Sv h2.hd h2.ht (by intro z;cases z)
  have br:b≠rl2:=Sv h2.hb h2.hr (by intro z;cases z)
  have bt:b≠tl2:=Sv h2.hb h2.ht (by intro z;cases z)
  generalize hO3:HO.dK (putK znk (Sum.inl (t:Int)) (V.int (rs2.length:Nat)))=o3
  have b3:upd H2 Nk o3 b=some (.ins a.zp dx2 (Ky ml2 rl2 tl2 Nk)):=by rw[zE (Ne.symm nb)];exact h2.hb
  have r3:upd H2 Nk o3 rl2=some (.lst rv2):=by rw[zE (Ne.symm nr)];exact h2.hr
  refine⟨_,rfl,b,a.zp,dx2,_,_,rfl,b3,T.z9,T.uy,rfl,.inl ⟨rfl,_,z6.of r3⟩,?_⟩
  refine⟨_,rfl,_,rfl,_,rfl,by show 3<=sizeLine;decide,fun q4 hq4=>?_⟩
  generalize hO4:HO.tup [V.int (p:Nat),V.int (k0:Nat),V.int (k1:Nat)]=o4
  have r4:upd (upd H2 Nk o3) q4 o4 rl2=some (.lst rv2):=by rw[zE (zB r3 hq4)];exact r3
  refine⟨rl2,_,_,rfl,rfl,r4,by rw[l2];exact s2,?_⟩
  have b4:upd (upd H2 Nk o3) q4 o4 b=some (.ins a.zp dx2 (Ky ml2 rl2 tl2 Nk)):=by rw[zE (zB b3 hq4)];exact b3
  have t3:upd H2 Nk o3 tl2=some (.lst (ts2.map fun t=>V.int (t:Nat))):=by rw[zE (Ne.symm nt)];exact h2.ht
  have t4:upd (upd H2 Nk o3) q4 o4 tl2=some (.lst (ts2.map fun t=>V.int (t:Nat))):=by rw[zE (zB t3 hq4)];exact t3
  have m3:upd H2 Nk o3 ml2=some (.lst (os.map V.str)):=by rw[zE (Ne.symm nm)];exact h2.hm
  have m4:upd (upd H2 Nk o3) q4 o4 ml2=some (.lst (os.map V.str)):=by rw[zE (zB m3 hq4)];exact m3
  have n3:upd H2 Nk o3 Nk=some o3:=zj
  have n4:upd (upd H2 Nk o3) q4 o4 Nk=some o3:=by rw[zE (zB n3 hq4)];exact n3
  have qr:q4≠rl2:=Ne.symm (zB r3 hq4)
  have qt:q4≠tl2:=Ne.symm (zB t3 hq4)
  have q4':upd (upd H2 Nk o3) q4 o4 q4=some o4:=zj
  have tu4:xr H2 (upd (upd H2 Nk o3) q4 o4):=fun x xs e=>by
   have e3:upd H2 Nk o3 x=some (.tup xs):=by rw[zE (Sv e h2.hd (by intro z;cases z))];exact e
   rw[zE (zB e3 hq4)];exact e3
  have aw4:∀x o,H2 x=some o->¬F x->upd (upd H2 Nk o3) q4 o4 x=some o:=fun x o e nf=>by
   have e3:upd H2 Nk o3 x=some o:=by rw[zE (fun z=>nf ((h2.ft x).mpr (.inr (.inr (.inr (.inr z))))))];exact e
   rw[zE (zB e3 hq4)];exact e3
  generalize upd (upd H2 Nk o3) q4 o4=H4 at b4 t4 m4 n4 r4 q4' tu4 aw4
  generalize hO5:HO.lst (rv2++[V.ref q4])=o5
  have b5:upd H4 rl2 o5 b=some (.ins a.zp dx2 (Ky ml2 rl2 tl2 Nk)):=by rw[zE br];exact b4
  have t5:upd H4 rl2 o5 tl2=some (.lst (ts2.map fun t=>V.int (t:Nat))):=by rw[zE (Ne.symm h2.rt)];exact t4
  refine⟨_,rfl,b,a.zp,dx2,_,_,rfl,b5,T.z9,T.WT,rfl,.inl ⟨rfl,_,z6.of t5⟩,_,rfl,tl2,_,_,rfl,rfl,t5,by rw[zti,h2.tabs.len];exact s2,?_⟩
  generalize hO6:HO.lst (ts2.map (fun t=>V.int (t:Nat))++[V.int (t:Nat)])=o6
  have b6:upd (upd H4 rl2 o5) tl2 o6 b=some (.ins a.zp dx2 (Ky ml2 rl2 tl2 Nk)):=by rw[zE bt];exact b5
  have n6:upd (upd H4 rl2 o5) tl2 o6 Nk=some (.dK (putK znk (Sum.inl (t:Int)) (V.int (rs2.length:Nat)))):=by rw[zE nt,zE nr,n4,hO3]
  have z:=JM.k (k:=.inl (t:Int)) n6
  rw[zaU,if_pos rfl] at z
  refine⟨_,rfl,b,a.zp,dx2,_,_,rfl,b6,T.z9,T.uf,rfl,_,rfl,Nk,_,rfl,z,?_⟩
  have tu6:xr H4 (upd (upd H4 rl2 o5) tl2 o6):=fun x xs e=>by
   rw[zE (Sv e t4 (by intro z;cases z)),zE (Sv e r4 (by intro z;cases z))];exact e
  have parts:=h2.more (H':=upd (upd H4 rl2 o5) tl2 o6) (i:=p) (lo:=k0) (hi:=k1) (t:=t) (q:=q4) (fun x xs e=>tu6 _ _ (tu4 _ _ e)) (b6.trans h2.hb.symm)
   (by rw[zE h2.mt,zE h2.mr,m4,h2.hm]) (by rw[zE h2.rt,zj,hO5]) (by rw[zj,hO6]) n6
   (by rw[zE qt,zE qr,q4',hO4]) B' hn2 (yK tb fun c hc=>by rw[yn,yL.Qc hc])
  refine q rs2.length _ _ (fun x o e nf=>?_) (fun x xs e=>tu6 _ _ (tu4 _ _ (tu2 _ _ (tu1 _ _ e)))) ⟨_,_,_,_,_,_,_,_,parts⟩ (g02.trans (yL.vC.snoc _ _)) (by simp) yn (by rw[ztq,ztQ];omega) (fun j a1 a2=>?_) ?_
  ·have e2:=aw2 x o (aw1 x o e nf) nf
   rw[zE (fun z=>nf ((h2.ft x).mpr (.inr (.inr (.inr (.inl z)))))),zE (fun z=>nf ((h2.ft x).mpr (.inr (.inr (.inl z)))))]
   exact aw4 x o e2 nf
  ·rw[ztq,ztQ] at a2
   by_cases hj:j<rs2.length
   ·rw[yL.Rb hj]
    have:=lvs j a1 hj
    omega
   ·have:j=rs2.length:=by omega
    subst this
    rw[yL.U3 B' (i:=p) (lo:=k0) (hi:=k1) (by simp)]
    exact hup
  ·rw[yL.zkK]
   have:=yL.zkN (n:=os.length) hup
   omega
theorem WY (T:Txt P w K mg a)(Y0:zy P w K mg base zZ k a.YL a.YM tY zan)(yF:zy P w K mg base zZ k a.tG a.tH uo ZW) :
  ∀d:Nat,zy P w K mg base zZ (k+d) a.wC a.wD xu (Zx a.zp d)
 | 0=>by
  refine⟨fun vs H Q E h=>?_,fun A outer s H args us vs Q E _ _ _ _ h=>?_⟩
  ·obtain⟨b,os,rs,F,t,u,f,rfl,_⟩:=h
   rfl
  ·obtain⟨b,os,rs,F,t,u,f,_,_,_,hu,hd,_⟩:=h
   omega
 | d+1=>Ng T (Y0.mono (ztS _ _)) (yF.mono (ztS _ _)) (WY T Y0 yF d)
theorem zbo (T:Txt P w K mg a)(Nh:zy P w K mg base zZ k a.Zr a.Zt vU Ku)(Lz:zy P w K mg base zZ k a.Z9 a.Yb uJ (S6 K))
  (Nf:zy P w K mg base zZ k a.WD a.WK Yo (UW K 24))(wG:zy P w K mg base zZ k a.wC a.wD xu (Zx a.zp 9)) :
  zy P w K mg base zZ (k+1) a.Ti a.Tj Xx (zaZ a.zp):=by
 refine T.Ls.F.ok zbI (fun vs H Q E h=>?_) (fun cdv A outer s H vs Q E hr h=>?_)
 ·obtain⟨b,p,os,rs,F,sn,rfl,_⟩:=h
  rfl
 obtain⟨b,p,os,rs,F,sn,rfl,hB,hlen,isp,hin,hc,hd,q⟩:=h
 refine⟨_,(zf (zV (zu Nh hr T.WR (za (pv 1) zc)))
   (zf (zV (zu Lz hr T.Vh (za (ZF (pv 0) rfl) (za (pv 1) zc))))
   (zm (zL (yR (pv 0) T.z9 T.vN wG hr (za (zu Nf hr T.PN (za (pv 1) (za (ZF (pv 0) rfl) zc))) zc)))))),?_⟩
 have L:=yu a.zp
 have ho:=L.ord hB
 have hlt:sn.Kc uI:=(Sn.UJ sn).mpr fun x hx=>ho.mem x ((Sn.UJ sn).mp hin x hx)
 refine⟨_,rfl,p,sn,rfl,isp,hlt,hc,hd,fun H1 g1=>?_⟩
 have hB1:=L.same hB g1
 obtain⟨dx,ml,rl,tl,nd,rv,ts,kvs,h1⟩:=hB1
 refine⟨_,rfl,b,a.zp,dx,_,_,rfl,h1.hb,T.z9,T.Zf,rfl,_,rfl,ml,p,os,sn,rfl,z6.of h1.hm,isp.mono (xr.of g1),by omega,hin,fun H2 g2=>?_⟩
 have g12:=g1.trans g2
 have h2:=h1.frame (fun x o e _=>g2 x o e) (xr.of g2)
 refine⟨_,rfl,b,dx,_,rfl,h2.hb,rfl,_,rfl,_,rfl,b,a.zp,dx,_,_,rfl,h2.hb,T.z9,T.Zf,rfl,p,ml,sn,os,rfl,isp.mono (xr.of g12),z6.of h2.hm,hin,ho.le,hd,fun N H3 g3 hN=>?_⟩
 have g13:=g12.trans g3
 have hB3:=L.same hB g13
 refine⟨b,os,rs,F,N,0,_,rfl,hB3,by show rs.length+512<=9000000;omega,ztF _,by have:=ho.le;omega,hN,fun i hi=>absurd hi (Nat.not_lt_zero _),fun j rs' H' aw tu hB' gr lt y ln _ hh=>?_⟩
 refine q j rs' H' (fun x o e nf=>aw x o (g13 _ _ e) nf) (fun x xs e=>tu _ _ (g13 _ _ e)) hB' gr ⟨lt,fun r=>?_⟩ (ztE hh (Nat.add_le_add_left (yL.zqe ho.le) _))
 rw[y]
 refine Sn.val_congr sn hin fun x hx=>?_
 show(yL.bits r os.length).testBit (ix os x)=r (ix os x)
 exact yL.Y8 r (R6 hx).2.1
theorem zdw (T:Txt P w K mg a)(J7:zy P w K mg base zZ k a.Xi a.Xj Zi (SX K))(yj:zy P w K mg base zZ k a.wM a.wN xT vA) :
  zy P w K mg base zZ (k+1) a.Vg a.RD Ve (Pg (z7 a.zp) K a.zp):=by
 refine T.JF.F.ok M8 (fun vs H Q E h=>?_) (fun cdv A outer s H vs Q E hr h=>?_)
 ·obtain⟨b,dx,l,os,rfl,_⟩:=h
  rfl
 obtain⟨b,dx,l,os,rfl,hb,bd,hl,ho,q⟩:=h
 refine⟨_,(zf (zV (zu J7 hr T.T9 (za (pv 1) zc)))
   (zf (zG 2 M8.nd (zF zO rfl T.xP yG (za (pv 1) zc)))
   (zf (zcL (pv 0) (XM N6 rfl T.P0 RX (za (pv 1) zc)) rfl)
   (zf (zcL (pv 0) (vg (za (uM (za (pv 2) (za zq (za zq zc)))) (za (uM (za (pv 2) (za zq (za zq zc)))) zc))) rfl)
   (zf (zcL (pv 0) (vg (za zq (za (zu yj hr T.v7 (za (pv 2) zc)) zc))) rfl)
   (zm (zcL (pv 0) (zkF (zeh zq zq (zeh (zu yj hr T.v7 (za (pv 2) zc)) zq zkE)) rfl rfl (List.cons_ne_nil _ _) (Nat.le_of_ble_eq_true rfl)) rfl))))))),?_⟩
 have n8:=ho.le
 have hml:(os.map V.str).length=os.length:=zti _
 refine⟨_,rfl,l,os,rfl,hl,ho,fun H1 g1=>?_⟩
 have hl1:=g1.seq hl
 refine⟨_,rfl,l,_,rfl,.inl hl1,?_⟩
 rw[hml]
 have b1:=g1 _ _ hb
 refine⟨_,rfl,l,_,rfl,.inl hl1,fun ml hm1=>?_⟩
 have bm:b≠ml:=zB b1 hm1
 have b2:upd H1 ml (.lst (os.map V.str)) b=some (.ins a.zp dx []):=by rw[zE bm];exact b1
 refine⟨_,rfl,b,a.zp,dx,_,rfl,b2,T.z9,T.Zf,by decide,?_⟩
 have s2:∀x o,H x=some o->x≠b->upd (upd H1 ml (.lst (os.map V.str))) b (.ins a.zp dx (Yh "marks" (.ref ml) [])) x=some o:=fun x o e nb=>by
  rw[zE nb,zE (zB (g1 _ _ e) hm1)];exact g1 _ _ e
 have hm2:upd (upd H1 ml (.lst (os.map V.str))) b (.ins a.zp dx (Yh "marks" (.ref ml) [])) ml=some (.lst (os.map V.str)):=by rw[zE (Ne.symm bm)];exact zj
 have f2:∀x,upd (upd H1 ml (.lst (os.map V.str))) b (.ins a.zp dx (Yh "marks" (.ref ml) [])) x=none->H x=none:=fun x e=>by
  have nb:x≠b:=fun z=>by rw[z,zj] at e;cases e
  cases hx:H x with
  | none=>rfl
  | some o=>rw[s2 x o hx nb] at e;cases e
 have fm:H ml=none:=g1.free hm1
 have b2':upd (upd H1 ml (.lst (os.map V.str))) b (.ins a.zp dx (Yh "marks" (.ref ml) [])) b=some (.ins a.zp dx (Yh "marks" (.ref ml) [])):=zj
 generalize upd (upd H1 ml (.lst (os.map V.str))) b (.ins a.zp dx (Yh "marks" (.ref ml) []))=H2 at s2 hm2 f2 b2'
 refine⟨_,rfl,by show 3<=sizeLine;decide,fun p0 hp0=>?_⟩
 refine⟨_,rfl,by show 3<=sizeLine;decide,fun p1 hp1=>?_⟩
 refine⟨by show 2<=sizeLine;decide,fun rl hrl=>?_⟩
 have g2:=((Same.new hp0 (.tup [.int (os.length:Nat),.int 0,.int 0])).trans (Same.new hp1 (.tup [.int (os.length:Nat),.int 1,.int 1]))).trans (Same.new hrl (.lst [.ref p0,.ref p1]))
 have hp0':=((Same.new hp1 (.tup [.int (os.length:Nat),.int 1,.int 1])).trans (Same.new hrl (.lst [.ref p0,.ref p1]))) p0 (.tup [.int (os.length:Nat),.int 0,.int 0]) zj
 have hp1':=(Same.new hrl (.lst [.ref p0,.ref p1])) p1 (.tup [.int (os.length:Nat),.int 1,.int 1]) zj
 have hr3:upd (upd (upd H2 p0 (.tup [.int (os.length:Nat),.int 0,.int 0])) p1 (.tup [.int (os.length:Nat),.int 1,.int 1])) rl (.lst [.ref p0,.ref p1]) rl=some (.lst [.ref p0,.ref p1]):=zj
 have frl:H2 rl=none:=((Same.new hp0 _).trans (Same.new hp1 _)).free hrl
 have brl:b≠rl:=zB b2' frl
 have mr:ml≠rl:=zB hm2 frl
 have b0:b≠p0:=zB b2' hp0
 have b1':b≠p1:=zB b2' ((Same.new hp0 _).free hp1)
 generalize upd (upd (upd H2 p0 (.tup [.int (os.length:Nat),.int 0,.int 0])) p1 (.tup [.int (os.length:Nat),.int 1,.int 1])) rl (.lst [.ref p0,.ref p1])=H3 at g2 hp0' hp1' hr3
 refine⟨_,rfl,b,a.zp,dx,_,rfl,g2 _ _ b2',T.z9,T.uy,by show 1<1000;decide,?_⟩
 generalize hfs:Yh "rooms" (V.ref rl) (Yh "marks" (V.ref ml) [])=fs3
 have u3:∀x,x≠b->upd H3 b (.ins a.zp dx fs3) x=H3 x:=fun x nb=>zE nb
 have b3:upd H3 b (.ins a.zp dx fs3) b=some (.ins a.zp dx fs3):=zj
 generalize upd H3 b (.ins a.zp dx fs3)=H4 at u3 b3
 refine⟨_,rfl,os.length,rfl,n8,by show 2<=sizeLine;decide,fun tl htl=>?_⟩
 have btl:b≠tl:=zB b3 htl
 have g4:=Same.new htl (.lst [.int 0,.int ((2^2^os.length-1:Nat):Int)])
 have ht5:upd H4 tl (.lst [.int 0,.int ((2^2^os.length-1:Nat):Int)]) tl=some (.lst [.int 0,.int ((2^2^os.length-1:Nat):Int)]):=zj
 generalize upd H4 tl (.lst [.int 0,.int ((2^2^os.length-1:Nat):Int)])=H5 at g4 ht5
 refine⟨_,rfl,b,a.zp,dx,_,rfl,g4 _ _ b3,T.z9,T.WT,by rw[<-hfs];show 2<1000;decide,?_⟩
 generalize zoY:Yh "tables" (V.ref tl) fs3=fs4
 have u5:∀x,x≠b->upd H5 b (.ins a.zp dx fs4) x=H5 x:=fun x nb=>zE nb
 have b5:upd H5 b (.ins a.zp dx fs4) b=some (.ins a.zp dx fs4):=zj
 generalize upd H5 b (.ins a.zp dx fs4)=H6 at u5 b5
 refine fun nd hnd=>?_
 have bnd:b≠nd:=zB b5 hnd
 have g6:=Same.new hnd (.dK [])
 refine⟨_,rfl,os.length,rfl,n8,zj,[(Sum.inl 0,.int 0),(Sum.inl ((2^2^os.length-1:Nat):Int),.int 1)],rfl,(by show 2<=15;decide),?_⟩
 rw[zj2]
 have g7:=Same.new hnd (.dK (Vn [] [(Sum.inl 0,.int 0),(Sum.inl ((2^2^os.length-1:Nat):Int),.int 1)]))
 have hn7:upd H6 nd (.dK (Vn [] [(Sum.inl 0,.int 0),(Sum.inl ((2^2^os.length-1:Nat):Int),.int 1)])) nd=some (.dK (Vn [] [(Sum.inl 0,.int 0),(Sum.inl ((2^2^os.length-1:Nat):Int),.int 1)])):=zj
 generalize upd H6 nd (.dK (Vn [] [(Sum.inl 0,.int 0),(Sum.inl ((2^2^os.length-1:Nat):Int),.int 1)]))=H7 at g7 hn7
 refine⟨_,rfl,b,a.zp,dx,_,rfl,g7 _ _ b5,T.z9,T.uf,by rw[<-zoY,<-hfs];show 3<1000;decide,?_⟩
 have big:2^2^os.length-1≠0:=by
  have:2^1<=2^2^os.length:=ztO (by decide) Nat.one_le_two_pow
  omega
 have to7:∀x o,H3 x=some o->x≠b->upd H7 b (.ins a.zp dx (Yh "numbers" (.ref nd) fs4)) x=some o:=fun x o e nb=>by
  rw[zE nb]
  refine g7 _ _ ?_
  rw[u5 x nb]
  refine g4 _ _ ?_
  rw[u3 x nb]
  exact e
 have tl6:H6 tl=some (.lst [.int 0,.int ((2^2^os.length-1:Nat):Int)]):=by rw[u5 tl (Ne.symm btl)];exact ht5
 have efs:Yh "numbers" (.ref nd) fs4=Ky ml rl tl nd:=by rw[<-zoY,<-hfs];rfl
 have up:∀x o,H3 x=some o->x≠b->H4 x=some o:=fun x o e nb=>by rw[u3 x nb];exact e
 have mt:ml≠tl:=zB (up _ _ (g2 _ _ hm2) (Ne.symm bm)) htl
 have rt:rl≠tl:=zB (up _ _ hr3 (Ne.symm brl)) htl
 have fr4:∀x,H4 x=none->H x=none:=fun x e=>f2 x (by
  cases hx:H2 x with
  | none=>rfl
  | some o =>
   by_cases nb:x=b
   ·rw[nb,b3] at e;cases e
   ·rw[up x o (g2 _ _ hx) nb] at e;cases e)
 have fr6:∀x,H6 x=none->H x=none:=fun x e=>by
  have nb:x≠b:=fun z=>by rw[z,b5] at e;cases e
  rw[u5 x nb] at e
  exact fr4 x (g4.free e)
 have two:∀{j:Nat},j<2->j=0\/j=1:=fun h=>by omega
 have bk0:yL.Bk os.length [none,none]:=⟨rfl,rfl,fun k h1 h2=>by simp at h2;omega,fun i j x e _=>by
  have:=(ztl.mp e).1
  rcases two (by simpa using this) with z | z<;>subst z<;>cases e⟩
 refine q _ (fun x=>x=b\/x=ml\/x=rl\/x=tl\/x=nd) (fun x o e nb=>to7 x o (g2 _ _ (s2 x o e nb)) nb) ⟨dx,ml,rl,tl,nd,[.ref p0,.ref p1],[0,2^2^os.length-1],Vn [] [(Sum.inl 0,.int 0),(Sum.inl ((2^2^os.length-1:Nat):Int),.int 1)],?_⟩ (fun x hx=>?_)
 ·refine { hb:=by rw[zj,efs],hm:=to7 _ _ (g2 _ _ hm2) (Ne.symm bm),hr:=to7 _ _ hr3 (Ne.symm brl),ht:=by rw[zE (Ne.symm btl)];exact g7 _ _ tl6,hd:=by rw[zE (Ne.symm bnd)];exact hn7,mr:=mr,mt:=mt,rt:=rt,ord:=ho,bk:=bk0,len:=rfl,rm:=?_,tabs:=?_,nums:=?_,ft:=fun x=>Iff.rfl }
  ·intro j x e
   have:=(ztl.mp e).1
   rcases two (by simpa using this) with z | z<;>subst z<;>cases e
   ·exact⟨p0,rfl,to7 _ _ hp0' (Ne.symm b0)⟩
   ·exact⟨p1,rfl,to7 _ _ hp1' (Ne.symm b1')⟩
  ·refine⟨rfl,fun j t e=>?_⟩
   have:=(ztl.mp e).1
   rcases two (by simpa using this) with z | z<;>subst z<;>cases e
   ·exact yK (v9 _) fun b _=>rfl
   ·exact yK (W3 _) fun b _=>(yL.Qa bk0 _).symm
  ·have z0:Nums [] []:=⟨fun j t e=>by simp at e,fun t _=>rfl,zty _⟩
   have z1:=z0.snoc (t:=0) (by simp)
   exact z1.snoc (t:=2^2^os.length-1) (fun hm=>by simp at hm;omega)
 ·rcases hx with z | z | z | z | z<;>subst z
  ·exact .inl rfl
  ·exact .inr (.inr fm)
  ·exact .inr (.inr (f2 _ frl))
  ·exact .inr (.inr (fr4 _ htl))
  ·exact .inr (.inr (fr6 _ hnd))
theorem RP (T:Txt P w K mg a):zy P w K mg base zZ (k+1) a.zM a.zN zJ (wJ a.zp):=by
 refine T.zR.F.ok Xb (fun vs H Q E h=>?_) (fun cdv A outer s H vs Q E hr h=>?_)
 ·obtain⟨b,os,rs,F,j,rfl,_⟩:=h
  rfl
 obtain⟨b,os,rs,F,j,rfl,⟨dx,ml,rl,tl,nd,rv,ts,kvs,h⟩,hk,q⟩:=h
 refine⟨_,(zm (yr (PW.pt (Sw (zQ zdW (pv 1) zq (zU _)) (Vi (zQ ziA (pv 1) (zF zO rfl T.xP yG (za (ZF (pv 0) rfl) zc)) (zU _))))) (zm Sy) zY)),?_⟩
 have hl:=h.len
 refine⟨_,rfl,_,_,rfl,rfl,_,rfl,yx (fun c=>absurd (of_decide_eq_true c) (by omega)) (fun _=>?_)⟩
 refine⟨_,rfl,_,rfl,b,a.zp,dx,_,_,rfl,h.hb,T.z9,T.uy,rfl,rl,_,rfl,.inl (z6.of h.hr),_,_,rfl,rfl,_,rfl,yx (fun c=>absurd (of_decide_eq_true c) (by omega)) (fun _=>?_)⟩
 exact q
theorem zbR (T:Txt P w K mg a):zy P w K mg base zZ (k+1) a.XD a.XF Z2 (zao a.zp):=by
 refine T.TQ.F.ok zbJ (fun vs H Q E h=>?_) (fun cdv A outer s H vs Q E hr h=>?_)
 ·obtain⟨b,os,rs,F,j,x,v,rfl,_⟩:=h
  rfl
 obtain⟨b,os,rs,F,j,x,v,rfl,⟨dx,ml,rl,tl,nd,rv,ts,kvs,h⟩,ex,q⟩:=h
 refine⟨_,(zm (zL (yh Zm (yh yd (ZF (pv 0) rfl) (pv 1) (fun _ _=>rfl)) (zP wj zq (pv 2)) (fun _ _=>rfl)))),?_⟩
 obtain⟨p,e1,e2⟩:=h.rm j _ ex
 refine⟨_,rfl,b,a.zp,dx,_,_,rfl,h.hb,T.z9,T.uy,rfl,_,rfl,rl,_,_,_,rfl,rfl,z6.of h.hr,vR e1,?_⟩
 refine⟨_,rfl,_,_,rfl,rfl,p,_,_,.int (Rh j x v:Nat),rfl,rfl,vQ.of e2,?_,q⟩
 cases v<;>cases x<;>rfl
theorem zbp (T:Txt P w K mg a)(zA:zy P w K mg base zZ k a.zM a.zN zJ (wJ a.zp))(LC:zy P w K mg base zZ k a.XD a.XF Z2 (zao a.zp)) :
  zy P w K mg base zZ (k+1) a.Tn a.Tp Xy (Rg (z7 a.zp)):=by
 refine T.Lw.F.ok YG (fun vs H Q E h=>?_) (fun cdv A outer s H vs Q E hr h=>?_)
 ·obtain⟨b,os,rs,F,k0,rfl,_⟩:=h
  rfl
 obtain⟨b,os,rs,F,k0,rfl,hB,h5,hk,q⟩:=h
 refine⟨_,(zf (zV (yR (pv 0) T.z9 T.zR zA hr (za (pv 1) zc)))
   (zf (zG 2 YG.nd zaW)
   (zf (zG 3 YG.nd (vg (za (pv 1) zc)))
   (zf (Nu PassesOwn.never (zQ Jb (zF zO rfl T.xP yG (za (pv 3) zc)) zq (zU _)) (zf (zG 4 YG.nd (zms PySem.F.plainAttrs_list PySem.F.slot_list_pop PySem.F.type_list_pop zmt (pv 3)))
   (zm (yr (zis (zcn (Jf hr) (pv 4) (pv 2))) (zf (zak (Jf hr) (pv 2) (pv 4) TY rfl)
   (zm (zV (ZJ PySem.F.plainAttrs_list PySem.F.slot_list_extend PySem.F.type_list_extend zce (pv 3) (za (vg (za (yR (pv 0) T.z9 T.TQ LC hr (za (pv 4) (za zq zc))) (za (yR (pv 0) T.z9 T.TQ LC hr (za (pv 4) (za zq zc))) zc))) zc))))) zY))))
   (zm (zL (zF (Kv rfl) rfl T.zjN zhT (za (pv 2) zc)))))))),?_⟩
 have L:=yu a.zp
 have BK:=L.bk hB
 obtain⟨dx,ml,rl,tl,nd,rv,tbs,znl,h⟩:=hB
 have hB:z7 a.zp H b os rs F:=⟨dx,ml,rl,tl,nd,rv,tbs,znl,h⟩
 refine⟨_,rfl,b,dx,_,rfl,h.hb,rfl,_,rfl,b,os,rs,F,k0,rfl,hB,hk,?_⟩
 refine fun f hf=>?_
 refine⟨_,rfl,by show 1<=sizeLine;decide,fun t ht=>?_⟩
 have nft:f≠t:=zB zj ht
 have g0:=(Same.new hf (.dK [])).trans (Same.new ht (.lst [.int k0]))
 have p33:2^os.length+1<=33:=Nat.succ_le_succ (ztO (n:=2) (by decide) h5)
 refine⟨fun m σ H'=>∃(ks ts:List Nat) (kvs:List (Key×V)) (f4:Option V),m=3*(rs.length-ks.length)+ts.length/\yL.Dfs rs k0 ks ts/\Same H H'/\H' f=some (.dK kvs)/\kvs.map (·.1)=ks.map (fun(n:Nat)=>(Sum.inl (n:Int):Key))/\H' t=some (.lst (ts.map fun(n:Nat)=>V.int n)) /\
   σ=[some (.ref b),some (.int k0),some (.ref f),some (.ref t),f4],
  ⟨_,[],[k0],[],none,rfl,yL.Dfs.start rs k0,g0,by rw[zE nft];exact zj,rfl,zj,rfl⟩,?_⟩
 rintro m σ H' ⟨ks,ts,kvs,f4,rfl,D,g,hf',hkv,ht',rfl⟩
 have lks:ks.length<=33:=ztE (yL.zhS BK hk D.nd D.r1) p33
 have lkv:kvs.length=ks.length:=by have:=congrArg List.length hkv;rw[zti,zti] at this;exact this
 refine⟨_,rfl,t,_,rfl,.inl (z6.of ht'),_,_,rfl,rfl,_,rfl,yx (fun c=>?_) (fun c=>?_)⟩
 ·have c':0<ts.length:=by have:=of_decide_eq_true c;rw[zti] at this;omega
  obtain⟨ts',x,rfl⟩:∃ts' x,ts=ts'++[x]:=⟨ts.dropLast,ts.getLast (List.ne_nil_of_length_pos c'),(List.dropLast_concat_getLast _).symm⟩
  refine⟨_,fun σ' H2 h=>h,?_⟩
  have e1:((ts'++[x]).map fun(n:Nat)=>V.int n)[((ts'++[x]).map fun(n:Nat)=>V.int n).length-1]?=some (.int (x:Nat)):=by
   simp
  have e2:((ts'++[x]).map fun(n:Nat)=>V.int n).dropLast=ts'.map fun(n:Nat)=>V.int n:=by simp
  refine⟨_,rfl,.inl ⟨rfl,_,z6.of ht'⟩,t,_,_,rfl,rfl,ht',e1,?_⟩
  rw[e2]
  have g1:Same H (upd H' t (.lst (ts'.map fun(n:Nat)=>V.int n))):=g.over ((Same.new hf _).free ht) _
  have hf1:(upd H' t (.lst (ts'.map fun(n:Nat)=>V.int n))) f=some (.dK kvs):=by rw[zE nft];exact hf'
  refine⟨_,rfl,_,rfl,f,_,rfl,JM.k (k:=.inl (x:Int)) hf1,?_⟩
  have hkm:(Sum.inl (x:Int):Key)∈kvs.map (·.1)↔x∈ks:=by
   rw[hkv,List.mem_map]
   exact⟨fun⟨j,hj,e⟩=>(Int.ofNat.inj (Sum.inl.inj e):j=x) ▸ hj,fun h=>⟨x,h,rfl⟩⟩
  have e3:(Zn kvs (Sum.inl (x:Int):Key)).isSome=decide (x∈ks):=by rw[zej];exact decide_eq_decide.mpr hkm
  rw[e3]
  refine⟨_,rfl,yx (fun z=>?_) (fun z=>?_)⟩
  ·have hx:x∉ks:=fun h=>by rw[decide_eq_true h] at z;cases z
   have bound:=D.room BK hk hx
   refine⟨_,rfl,_,rfl,f,_,rfl,zfO.k (k:=.inl (x:Int)) hf1 (by rw[lkv];exact yc (by omega)),?_⟩
   have hnone:Zn kvs (Sum.inl (x:Int):Key)=none:=by rw[decide_eq_false hx] at e3;exact Option.isSome_eq_false_iff.mp e3 |> Option.isNone_iff_eq_none.mp
   rw[zed _ hnone]
   have g2:Same H (upd (upd H' t (.lst (ts'.map fun(n:Nat)=>V.int n))) f (.dK (kvs++[(Sum.inl (x:Int),V.bl true)]))):=g1.over hf _
   have zqA:(kvs++[((Sum.inl (x:Int):Key),V.bl true)]).map (·.1)=(ks++[x]).map (fun(n:Nat)=>(Sum.inl (n:Int):Key)):=by rw[ztw,ztw,hkv];rfl
   have ht2:(upd (upd H' t (.lst (ts'.map fun(n:Nat)=>V.int n))) f (.dK (kvs++[(Sum.inl (x:Int),V.bl true)]))) t=some (.lst (ts'.map fun(n:Nat)=>V.int n)):=by rw[zE (Ne.symm nft)];exact zj
   have hf2:(upd (upd H' t (.lst (ts'.map fun(n:Nat)=>V.int n))) f (.dK (kvs++[(Sum.inl (x:Int),V.bl true)]))) f=some (.dK (kvs++[(Sum.inl (x:Int),V.bl true)])):=zj
   generalize upd (upd H' t (.lst (ts'.map fun(n:Nat)=>V.int n))) f (.dK (kvs++[(Sum.inl (x:Int),V.bl true)]))=H2 at g2 ht2 hf2
   have hxl:x<rs.length:=(D.r2 x (ztz _ ztC)).lt BK hk
   have hB2:=L.same hB g2
   obtain⟨rm,ex⟩:∃rm,rs[x]?=some rm:=⟨_,ztj hxl⟩
   have b2:=g2 _ _ h.hb
   refine⟨_,rfl,.inl ⟨rfl,_,z6.of ht2⟩,?_⟩
   refine⟨_,rfl,b,dx,_,rfl,b2,rfl,_,rfl,b,os,rs,F,x,rm,false,rfl,hB2,ex,?_⟩
   refine⟨_,rfl,b,dx,_,rfl,b2,rfl,_,rfl,b,os,rs,F,x,rm,true,rfl,hB2,ex,?_⟩
   refine⟨by show 2<=sizeLine;decide,fun l6 hl6=>?_⟩
   have g6:=Same.new hl6 (.lst [.int (Rh x rm false:Nat),.int (Rh x rm true:Nat)])
   have D':yL.Dfs rs k0 (ks++[x]) (ts'++[Rh x rm false,Rh x rm true]):=by
    cases rm with
    | none =>
     refine D.add [x,x] hx (fun y hy=>?_) (fun i lo hi e=>by rw[ex] at e;cases e) (zty _)
     have:y=x:=by simpa using hy
     rw[this]
     exact D.r2 x (ztz _ ztC)
    | some tr =>
     obtain⟨i,lo,hi⟩:=tr
     exact D.node hx ex
   refine⟨t,l6,_,_,rfl,rfl,g6 _ _ ht2,zj,?_,?_⟩
   ·have:=D.len
    rw[ztq,ztQ] at this
    rw[zti]
    exact ztB (yc (show ts'.length+2<=1000 by omega))
   ·refine⟨_,?_,ks++[x],ts'++[Rh x rm false,Rh x rm true],_,_,rfl,D',(g2.trans g6).over ((Same.new hf _).free ht) _,?_,zqA,?_,rfl⟩
    ·rw[ztq,ztq,ztq,ztQ]
     show 3*(rs.length-(ks.length+1))+(ts'.length+2)<_
     omega
    ·rw[zE nft];exact g6 _ _ hf2
    ·rw[zj,ztw];rfl
  ·have hx:x∈ks:=Decidable.byContradiction fun h=>z (by rw[decide_eq_false h];rfl)
   refine⟨_,?_,ks,ts',kvs,_,rfl,D.skip hx,g1,hf1,hkv,zj,rfl⟩
   rw[ztq,ztQ]
   omega
 ·have ets:ts=[]:=by
   have:¬ 0<ts.length:=fun z=>c (decide_eq_true (by rw[zti];omega))
   exact List.length_eq_zero_iff.mp (by omega)
  subst ets
  refine⟨_,rfl,f,kvs,ks.map fun(n:Nat)=>(n:Int),rfl,hf',by rw[hkv,ztT];rfl,by rw[zti];omega,fun l ms hl pm up=>?_⟩
  exact q l _ ms (g.trans (Same.new hl _)) (g.free hl) zj (yL.zam.of D.nd D.done pm up)
theorem zfb (T:Txt P w K mg a)(zdx:zy P w K mg base zZ k a.Tn a.Tp Xy (Rg (z7 a.zp))):zy P w K mg base zZ (k+1) a.KQ a.KR Qi (zdl a.zp 5):=by
 refine T.KZ.F.ok zge (fun vs H Q E h=>?_) (fun cdv A outer s H vs Q E hr h=>?_)
 ·obtain⟨b,os,rs,F,k0,rfl,_⟩:=h
  rfl
 obtain⟨b,os,rs,F,k0,rfl,hB,h5,hk,q⟩:=h
 refine⟨_,(zm (zL (zF zO rfl T.xP yG (za (yR (pv 0) T.z9 T.Lw zdx hr (za (pv 1) zc)) zc)))),?_⟩
 have L:=yu a.zp
 obtain⟨dx,fs,zdy,hm⟩:=L.ins hB
 refine⟨_,rfl,b,dx,fs,rfl,zdy,hm _ (by decide +kernel),_,rfl,b,os,rs,F,k0,rfl,hB,h5,hk,fun l H' ms g hl0 hl ib=>?_⟩
 exact⟨l,_,rfl,.inl (z6.of hl),q H' _ g⟩
theorem K7 (T:Txt P w K mg a):zy P w K mg base zZ (k+1) a.xU a.xV yU (Yk a.zp):=by
 refine T.wV.F.ok KJ (fun vs H Q E h=>?_) (fun cdv A outer s H vs Q E hr h=>?_)
 ·obtain⟨b,os,rs,F,j,rfl,_⟩:=h
  rfl
 obtain⟨b,os,rs,F,j,rfl,⟨dx,ml,rl,tl,nd,rv,ts,kvs,h⟩,hk,q⟩:=h
 refine⟨_,(zm (zL (yh yd (ZF (pv 0) rfl) (pv 1) (fun _ _=>rfl)))),?_⟩
 have ht:j<ts.length:=by rw[h.tabs.len];exact hk
 have ex:=ztj ht
 refine⟨_,rfl,b,a.zp,dx,_,_,rfl,h.hb,T.z9,T.WT,rfl,_,rfl,tl,_,_,.int (ts[j]:Nat),rfl,rfl,z6.of h.ht,vR (by rw[ztk,ex];rfl),?_⟩
 exact q _ (h.tabs.tab j _ ex)
theorem zbS (T:Txt P w K mg a):zy P w K mg base zZ (k+1) a.vW a.vX wZ (uN (z7 a.zp)):=by
 refine T.Yc.F.ok zbH (fun vs H Q E h=>?_) (fun cdv A outer s H vs Q E hr h=>?_)
 ·obtain⟨b,os,rs,F,rfl,_⟩:=h
  rfl
 obtain⟨b,os,rs,F,rfl,⟨dx,ml,rl,tl,nd,rv,ts,kvs,h⟩,q⟩:=h
 refine⟨_,(zm (zL (XM N6 rfl T.P0 RX (za (ZF (pv 0) rfl) zc)))),?_⟩
 exact⟨_,rfl,b,a.zp,dx,_,_,rfl,h.hb,T.z9,T.Zf,rfl,ml,_,rfl,.inl (z6.of h.hm),fun l hl=>q l _ (Same.new hl _) hl zj⟩
theorem zgv (T:Txt P w K mg a):zy P w K mg base zZ (k+1) a.Ys a.Yt Zy Yl:=by
 refine T.Uk.F.ok zgc (fun vs H Q E h=>?_) (fun cdv A outer s H vs Q E hr h=>?_)
 ·obtain⟨N,M,n,f,g,rfl,_⟩:=h
  rfl
 obtain⟨N,M,n,f,g,rfl,tb,tg,q⟩:=h
 refine⟨_,(zm (zL (zP R3 (pv 0) (zP u6 (pv 0) (pv 1))))),?_⟩
 refine⟨_,rfl,_,rfl,_,rfl,N,M,rfl,rfl,N,N&&&M,rfl,rfl,q _ (yK (uY.UG tb (uY.uZ tb tg)) fun b _=>?_)⟩
 show(f b != (f b&&g b))=(f b&&!g b)
 cases f b<;>cases g b<;>rfl
theorem zh9 (T:Txt P w K mg a)(Yx:zy P w K mg base zZ k a.Ys a.Yt Zy Yl):zy P w K mg base zZ (k+1) a.Li a.Lj Rp Ms:=by
 refine T.zeY.F.ok zh3 (fun vs H Q E h=>?_) (fun cdv A outer s H vs Q E hr h=>?_)
 ·obtain⟨W,L,M,n,f,g,h,rfl,_⟩:=h
  rfl
 obtain⟨W,L,M,n,f,g,h,rfl,tf,tg,th,q⟩:=h
 refine⟨_,(zm (zL (zP Wh (zP u6 (pv 2) (pv 0)) (zu Yx hr T.Uk (za (pv 1) (za (pv 0) zc)))))),?_⟩
 refine⟨_,rfl,_,rfl,M,W,rfl,rfl,_,rfl,_,rfl,L,W,n,g,f,rfl,tg,tf,fun R tr=>?_⟩
 refine⟨M&&&W,R,rfl,rfl,q _ (yK (uY.Vl (uY.uZ th tf) tr) fun b _=>?_)⟩
 show((h b&&f b)||(g b&&!f b))=if f b then h b else g b
 cases f b<;>simp
theorem zbT {d:Nat}(T:Txt P w K mg a)(yj:zy P w K mg base zZ k a.wM a.wN xT vA)(yF:zy P w K mg base zZ k a.tG a.tH uo ZW)
  (Yw:zy P w K mg base zZ k a.Ww a.Wx Yn Mr)(yH:zy P w K mg base zZ k a.wk a.wu xJ vh)(LK:zy P w K mg base zZ k a.Li a.Lj Rp Ms)
  (Ur:zy P w K mg base zZ k a.Ug a.Uh X5 (MN d)):zy P w K mg base zZ (k+1) a.Ug a.Uh X5 (MN (d+1)):=by
 refine T.Uo.F.ok Wt (fun vs H Q E h=>?_) (fun cdv A outer s H vs Q E hr h=>?_)
 ·obtain⟨N,M,p,n,f,c,rfl,_⟩:=h
  rfl
 obtain⟨N,M,p,n,f,c,rfl,n8,hp,hd,tf,tc,ff,fc,q⟩:=h
 refine⟨_,(zf (yr (zQ xG (zP u6 (pv 0) (pv 1)) zq (zU _)) (zm (zL zq)) zY)
   (zf (yr (zQ xG (zP u6 (pv 0) (pv 1)) (pv 1) (zU _)) (zm (zL (zu yj hr T.v7 (za (pv 3) zc)))) zY)
   (zf (Yg (i:=4) Wt.nd rfl (Or.inr rfl) (tV (uD:=zx V9) (js:=[1,2,3]) rfl (by show ZK _ _ "value" ["care", "place", "marks"];exact lco (by decide +kernel)) rfl (QX (uM (za zq (za zq zc)))) (by show ∀j∈([1,2,3]:List Nat),j<8;decide) (fun cl C s₂ H₂ fp=>(zu yF hr T.tO (za (pv 1) (za (pv 2) (za (pv 0) (za (pv 3) zc))))))))
   (zf (yr (Ye (yM (zu Yw hr T.PL (za (pv 0) (za (pv 2) (za (pv 3) zc)))) (fun _=>rfl))) (zm (zL (zu Ur hr T.Uo (za (pv 0) (za (zP Wh (yh yd (pv 4) zq (fun _ _=>rfl)) (yh yd (pv 4) zq (fun _ _=>rfl))) (za (zP wj (pv 2) zq) (za (pv 3) zc))))))) zY)
   (zf (Yg (i:=5) Wt.nd rfl (Or.inr rfl) (tV (uD:=zx V9) (js:=[0,2,3]) rfl (by show ZK _ _ "value" ["table", "place", "marks"];exact lco (by decide +kernel)) rfl (QX (uM (za zq (za zq zc)))) (by show ∀j∈([0,2,3]:List Nat),j<8;decide) (fun cl C s₂ H₂ fp=>(zu yF hr T.tO (za (pv 1) (za (pv 2) (za (pv 0) (za (pv 3) zc))))))))
   (zf (uz PassesOwn.never rfl (QX (uM (za zq (za zq zc)))) (yO (i:=6) Wt.nd rfl (Or.inl rfl)) (zm (yr (zQ xG (yh yd (pv 4) (zP Q5 zq (pv 6)) (fun _ _=>rfl)) zq (zU _)) (zm (zL (zu Ur hr T.Uo (za (yh yd (pv 5) (pv 6) (fun _ _=>rfl)) (za (yh yd (pv 4) (pv 6) (fun _ _=>rfl)) (za (zP wj (pv 2) zq) (za (pv 3) zc))))))) zY)))
   (zf (VN (tt:=Uz) (i:=7) Wt.nd rfl (Or.inl rfl) (.inl rfl) (uD:=zx V9) (js:=[3,5,4,2]) rfl (by show ZK _ _ "value" ["marks", "sides", "cares", "place"];exact lco (by decide +kernel)) rfl (QX (uM (za zq (za zq zc)))) (by show ∀j∈([3,5,4,2]:List Nat),j<8;decide) (fun cl C s₂ H₂ fp pins s' σ' H' Q I h=>wpAny_pure ⟨H',I,h⟩) (fun cl C s₂ H₂ fp=>(zu Ur hr T.Uo (za (yh (Mg (K:=K) rfl) (pv 2) (pv 0) (fun _ _=>rfl)) (za (yh (Mg (K:=K) rfl) (pv 3) (pv 0) (fun _ _=>rfl)) (za (zP wj (pv 4) zq) (za (pv 1) zc)))))) rfl)
   (zm (zL (zu LK hr T.zeY (za (zu yH hr T.ZC (za (pv 2) (za (pv 3) zc))) (za (yh yd (pv 7) zq (fun _ _=>rfl)) (za (yh yd (pv 7) zq (fun _ _=>rfl)) zc))))))))))))),?_⟩
 have znm:=uZ tf tc
 have ei:∀{i j:Nat},V.int (i:Int)=V.int (j:Int)->i=j:=fun h=>by injection h with h;exact Int.ofNat.inj h
 refine⟨_,rfl,_,rfl,N,M,rfl,rfl,rfl,_,rfl,yx (fun e=>?_) (fun e1=>?_)⟩
 ·exact q 0 _ H (Same.refl _) (v9 n)
 have n0:N&&&M≠0:=fun z=>e1 (decide_eq_true (by show V.int ((N&&&M:Nat):Int)=V.int 0;rw[z];rfl))
 refine⟨_,rfl,_,rfl,N,M,rfl,rfl,_,rfl,rfl,_,rfl,yx (fun e=>?_) (fun e2=>?_)⟩
 ·exact⟨_,rfl,n,rfl,n8,q _ _ H (Same.refl _) (W3 n)⟩
 have nM:N&&&M≠M:=fun z=>e2 (decide_eq_true (by show V.int ((N&&&M:Nat):Int)=V.int (M:Nat);rw[z]))
 have hpn:p<n:=by
  refine Nat.lt_of_le_of_ne hp fun z=>?_
  subst z
  have cf:=yL.ug ff
  have cc:=yL.ug fc
  cases h1:c 0 with
  | false=>exact n0 (yL.YC znm (v9 p) fun b hb=>by rw[cc b hb,h1,Bool.and_false])
  | true =>
   cases h2:f 0 with
   | false=>exact n0 (yL.YC znm (v9 p) fun b hb=>by rw[cf b hb,h2,Bool.false_and])
   | true=>exact nM (yL.YC znm tc fun b hb=>by rw[cf b hb,h2,Bool.true_and])
 have f8:∀v,∀i,i<p+1->yL.Free n (fun b=>f (zK b p v)) i:=fun v=>XS hpn ff
 have c8:∀v,∀i,i<p+1->yL.Free n (fun b=>c (zK b p v)) i:=fun v=>XS hpn fc
 refine⟨by show 2<=sizeLine;decide,fun tp htp=>⟨tp,rfl,⟨_,vQ.of zj⟩,?_⟩⟩
 have g1:=Same.new htp (.tup [.int 0,.int 1])
 refine zf9 (fun v R=>zW n R (fun b=>c (zK b p v))) (vQ.of zj) (fun v H' Q0 g hQ=>⟨_,rfl,_,rfl,_,rfl,_,rfl,M,p,n,v,c,rfl,hpn,n8,tc,fun R tR=>hQ R tR _ (Same.refl _)⟩) (fun H2 cl C0 C1 g2 t0 t1 hcl=>?_)
 have g3:=(g1.trans g2).trans (Same.new hcl (.lst [.int (C0:Nat),.int (C1:Nat)]))
 have h3:upd H2 cl (.lst [.int (C0:Nat),.int (C1:Nat)]) cl=some _:=zj
 generalize upd H2 cl _=H3 at g3 h3 ⊢
 refine⟨_,rfl,_,rfl,_,rfl,N,p,n,f,rfl,hpn,n8,tf,fun hg hg0 hg1=>?_⟩
 cases hg with
 | false =>
  have fp:=hg0 rfl
  refine⟨_,rfl,Xf ⟨_,rfl,_,rfl,cl,_,_,_,rfl,rfl,z6.of h3,at0,_,rfl,cl,_,_,_,rfl,rfl,z6.of h3,at1,C0,C1,rfl,rfl,_,rfl,_,_,rfl,rfl,_,rfl,N,C0|||C1,p+1,n,f,_,rfl,n8,by omega,by omega,tf,Vl t0 t1,fun i hi=>?_,fun i hi=>zkR (c8 _ i hi) (c8 _ i hi),fun R g H' gg tg=>q R g H' (g3.trans gg) tg⟩⟩
  by_cases z:i=p
  ·rw[z];exact fp
  ·exact ff i (by omega)
 | true =>
 refine⟨_,rfl,Xe ?_⟩
 refine⟨by show 2<=sizeLine;decide,fun ts hts=>⟨ts,rfl,⟨_,vQ.of zj⟩,?_⟩⟩
 have g4:=Same.new hts (.tup [.int 0,.int 1])
 refine zf9 (fun v R=>zW n R (fun b=>f (zK b p v))) (vQ.of zj) (fun v H' Q0 g hQ=>⟨_,rfl,_,rfl,_,rfl,_,rfl,N,p,n,v,f,rfl,hpn,n8,tf,fun R tR=>hQ R tR _ (Same.refl _)⟩) (fun H5 sl S0 S1 g5 s0 s1 hsl=>?_)
 have g6:=(g4.trans g5).trans (Same.new hsl (.lst [.int (S0:Nat),.int (S1:Nat)]))
 have h6:upd H5 sl (.lst [.int (S0:Nat),.int (S1:Nat)]) sl=some _:=zj
 generalize upd H5 sl _=H6 at g6 h6 ⊢
 have care:∀v:Bool,∃R:Nat,([.int (C0:Nat),.int (C1:Nat)]:List V)[v.toNat]?=some (.int (R:Nat))/\zW n R (fun b=>c (zK b p v)):=fun v=>by
  cases v
  ·exact⟨C0,rfl,t0⟩
  ·exact⟨C1,rfl,t1⟩
 have side:∀v:Bool,∃R:Nat,([.int (S0:Nat),.int (S1:Nat)]:List V)[v.toNat]?=some (.int (R:Nat))/\zW n R (fun b=>f (zK b p v)):=fun v=>by
  cases v
  ·exact⟨S0,rfl,s0⟩
  ·exact⟨S1,rfl,s1⟩
 refine⟨by show 2<=sizeLine;decide,fun tq htq=>⟨tq,rfl,⟨_,vQ.of zj⟩,?_⟩⟩
 have g7:=g6.trans (Same.new htq (.tup [.int 0,.int 1]))
 have k7:=(Same.new htq (.tup [.int 0,.int 1]))
 have h7:upd H6 tq (.tup [.int 0,.int 1]) tq=some _:=zj
 have hs7:=k7 _ _ h6
 generalize upd H6 tq _=H7 at g7 k7 h7 hs7 ⊢
 have hc7:=g7 _ _ h3
 refine zj6 (xs:=[.int 0,.int 1]) (fun m σ H'=>Same H7 H'/\∃f6 f7:Option V,σ=[some (.int (N:Nat)),some (.int (M:Nat)),some (.int (p:Nat)),some (.int (n:Nat)),some (.ref cl),some (.ref sl),f6,f7]) ⟨Same.refl _,_,_,rfl⟩ ?_ ?_ ?_
 ·rintro m σ H' _ ⟨gg,_⟩
  exact vQ.of (gg _ _ h7)
 ·rintro m x σ H' hx ⟨gg,f6,f7,rfl⟩
  obtain⟨v,hv,rfl⟩:=zov hx
  obtain⟨RN,hRN,_⟩:=care (!v)
  obtain⟨RC,hRC,tRC⟩:=care v
  obtain⟨RS,hRS,tRS⟩:=side v
  have en:atI ([.int (C0:Nat),.int (C1:Nat)]:List V) (1-((v.toNat:Nat):Int))=some (.int (RN:Nat)):=by
   have:(1:Int)-((v.toNat:Nat):Int)=(((!v).toNat:Nat):Int):=by cases v<;>rfl
   rw[this]
   exact vR hRN
  refine⟨_,rfl,_,rfl,_,_,rfl,rfl,cl,_,_,_,rfl,rfl,z6.of (gg _ _ hc7),en,rfl,_,rfl,yx (fun e=>?_) (fun e=>⟨gg,_,_,rfl⟩)⟩
  exact⟨_,rfl,_,rfl,sl,_,_,_,rfl,rfl,z6.of (gg _ _ hs7),vR hRS,_,rfl,_,rfl,cl,_,_,_,rfl,rfl,z6.of (gg _ _ hc7),vR hRC,_,rfl,_,_,rfl,rfl,_,rfl,RS,RC,p+1,n,_,_,rfl,n8,by omega,by omega,tRS,tRC,f8 v,c8 v,fun R g H2 gg2 tg=>q R g H2 (g3.trans (g7.trans (gg.trans gg2))) tg⟩
 rintro σ H' ⟨gg,f6,f7,rfl⟩
 refine⟨by show 2<=sizeLine;decide,fun tr htr=>⟨tr,rfl,⟨_,vQ.of zj⟩,?_⟩⟩
 have g8:=gg.trans (Same.new htr (.tup [.int 0,.int 1]))
 refine zf9 (fun v R=>∃g,zW n R g) (vQ.of zj) (fun v H9 Q0 g hQ=>?_) (fun H9 ml M0 M1 g9 m0 m1 hml=>?_)
 ·obtain⟨RC,hRC,tRC⟩:=care v
  obtain⟨RS,hRS,tRS⟩:=side v
  have gA:=g8.trans g
  exact⟨_,rfl,_,rfl,sl,_,_,_,rfl,rfl,z6.of (gA _ _ hs7),vR hRS,_,rfl,_,rfl,cl,_,_,_,rfl,rfl,z6.of (gA _ _ hc7),vR hRC,_,rfl,_,_,rfl,rfl,_,rfl,RS,RC,p+1,n,_,_,rfl,n8,by omega,by omega,tRS,tRC,f8 v,c8 v,fun R g' H3 g3 tg=>hQ R ⟨g',tg⟩ _ g3⟩
 obtain⟨q0,m0⟩:=m0
 obtain⟨q1,m1⟩:=m1
 refine⟨_,rfl,_,rfl,p,n,rfl,hpn,n8,fun W tW=>?_⟩
 exact⟨_,rfl,ml,_,_,_,rfl,rfl,z6.of zj,at0,_,rfl,ml,_,_,_,rfl,rfl,z6.of zj,at1,W,M0,M1,n,_,q0,q1,rfl,tW,m0,m1,fun R tR=>q R _ _ (g3.trans (g7.trans (g8.trans (g9.trans (Same.new hml _))))) tR⟩
theorem zfc (T:Txt P w K mg a)(yj:zy P w K mg base zZ k a.wM a.wN xT vA)(yF:zy P w K mg base zZ k a.tG a.tH uo ZW)
  (Yw:zy P w K mg base zZ k a.Ww a.Wx Yn Mr)(yH:zy P w K mg base zZ k a.wk a.wu xJ vh)(LK:zy P w K mg base zZ k a.Li a.Lj Rp Ms) :
  ∀d:Nat,zy P w K mg base zZ (k+d) a.Ug a.Uh X5 (MN d)
 | 0=>by
  refine⟨fun vs H Q E h=>?_,fun A outer s H args us vs Q E _ _ _ _ h=>?_⟩
  ·obtain⟨N,M,p,n,f,c,rfl,_⟩:=h
   rfl
  ·obtain⟨N,M,p,n,f,c,_,_,h1,h2,_⟩:=h
   omega
 | d+1=>zbT T (yj.mono (ztS _ _)) (yF.mono (ztS _ _)) (Yw.mono (ztS _ _)) (yH.mono (ztS _ _)) (LK.mono (ztS _ _)) (zfc T yj yF Yw yH LK d)
theorem zia {m:Nat}(T:Txt P w K mg a)
  (zA:zy P w K mg base zZ k a.zM a.zN zJ (wJ a.zp))
  (wG:zy P w K mg base zZ k a.wC a.wD xu (Zx a.zp 9))
  (xg:zy P w K mg base zZ k a.xU a.xV yU (Yk a.zp))
  (v8:zy P w K mg base zZ k a.vW a.vX wZ (uN (z7 a.zp)))
  (Ur:zy P w K mg base zZ k a.Ug a.Uh X5 (MN 9))
  (zcI:zy P w K mg base zZ k a.KQ a.KR Qi (zdl a.zp m)):zy P w K mg base zZ (k+1) a.Lk a.Ln Qk (MP a.zp m):=by
 refine T.Lq.F.ok Lg (fun vs H Q E h=>?_) (fun cdv A outer s H vs Q E hr h=>?_)
 ·obtain⟨b,os,rs,F,i,j,rfl,_⟩:=h
  rfl
 obtain⟨b,os,rs,F,i,j,rfl,hB0,hm5,hlen,mi,mj,q⟩:=h
 refine⟨_,(zf (zV (yR (pv 0) T.z9 T.zR zA hr (za (pv 1) zc)))
   (zf (zV (yR (pv 0) T.z9 T.zR zA hr (za (pv 2) zc)))
   (zf (zG 3 Lg.nd (yR (pv 0) T.z9 T.vN wG hr (za (zu Ur hr T.Uo (za (yR (pv 0) T.z9 T.wV xg hr (za (pv 1) zc)) (za (yR (pv 0) T.z9 T.wV xg hr (za (pv 2) zc)) (za zq (za (zF zO rfl T.xP yG (za (R7 (pv 0) T.z9 T.Yc v8 hr) zc)) zc))))) zc)))
   (zf (yr (zQ Jb (zu zcI hr T.KZ (za (pv 0) (za (pv 3) zc))) (zu zcI hr T.KZ (za (pv 0) (za (pv 1) zc))) (zU _)) (zm (zL (pv 1))) zY)
   (zm (zL (pv 3))))))),?_⟩
 have L:=yu a.zp
 have ho:=L.ord hB0
 obtain⟨dx,ml,rl,tl,nd,rv,ts,kvs,h⟩:=id hB0
 refine⟨_,rfl,b,dx,_,rfl,h.hb,rfl,_,rfl,b,os,rs,F,i,rfl,hB0,mi,?_⟩
 refine⟨_,rfl,b,dx,_,rfl,h.hb,rfl,_,rfl,b,os,rs,F,j,rfl,hB0,mj,?_⟩
 refine⟨_,rfl,b,dx,_,rfl,h.hb,rfl,_,rfl,b,dx,_,rfl,h.hb,rfl,_,rfl,b,os,rs,F,i,rfl,hB0,mi,fun t1 tb1=>?_⟩
 refine⟨_,rfl,b,dx,_,rfl,h.hb,rfl,_,rfl,b,os,rs,F,j,rfl,hB0,mj,fun t2 tb2=>?_⟩
 refine⟨_,rfl,b,dx,_,rfl,h.hb,rfl,b,os,rs,F,rfl,hB0,fun ol H1 g1 zib hol=>?_⟩
 refine⟨ol,_,rfl,.inl (z6.of hol),?_⟩
 rw[zti]
 refine⟨t1,t2,0,os.length,_,_,rfl,ho.le,ztF _,by have:=ho.le;omega,tb1,tb2,fun i hi=>absurd hi (Nat.not_lt_zero _),fun i hi=>absurd hi (Nat.not_lt_zero _),fun R g H2 g2 tR=>?_⟩
 have g12:=g1.trans g2
 have hB2:=L.same hB0 g12
 refine⟨b,os,rs,F,R,0,g,rfl,hB2,by show rs.length+512<=9000000;omega,ztF _,by have:=ho.le;omega,tR,fun i hi=>absurd hi (Nat.not_lt_zero _),fun k rs' H3 aw2 tu2 hB3 gr hk hy ln _ hh=>?_⟩
 have hb:yL.hiN os.length rs'<=yL.hiN os.length rs+63:=by
  have:2^(os.length-2-0)<=2^6:=ztO (by decide) (by have:=ho.le;omega)
  unfold yL.bH at hh
  omega
 refine⟨_,rfl,_,rfl,b,os,rs',F,k,rfl,hB3,hm5,hk,fun H4 ms g4=>?_⟩
 refine⟨_,rfl,_,rfl,b,os,rs',F,i,rfl,L.same hB3 g4,hm5,ztr mi gr.len,fun H5 ns g5=>?_⟩
 have g45:=g4.trans g5
 have fin:∀k2:Nat,Q (.int (k2:Nat)) H5:=fun k2=>q k2 rs' H5 (fun x o e nF=>g45 _ _ (aw2 x o (g12 _ _ e) nF)) (((xr.of g12).trans tu2).trans (xr.of g45)) (L.same hB3 g45) gr hb
 exact⟨_,_,rfl,rfl,_,rfl,yx (fun e=>⟨_,rfl,fin i⟩) (fun e=>⟨_,rfl,fin k⟩)⟩
theorem zic (T:Txt P w K mg a):zy P w K mg base zZ (k+1) a.xW a.xX yV (zap K):=by
 refine T.yZ.F.ok Ua (fun vs H Q E h=>?_) (fun cdv A outer s H vs Q E hr h=>?_)
 ·obtain⟨l,ns,i,rfl,_⟩:=h
  rfl
 obtain⟨l,ns,i,rfl,hS,q⟩:=h
 refine⟨_,(zf (yr (zQ zdW (pv 1) (zF zO rfl T.xP yG (za (pv 0) zc)) (zU _)) (zm (zL (yh yd (pv 0) (pv 1) (fun _ _=>rfl)))) zY)
   (zm (zL zq))),?_⟩
 refine⟨_,rfl,_,rfl,l,_,rfl,.inl hS,_,_,rfl,rfl,_,rfl,?_⟩
 refine yx (fun c=>?_) (fun c=>?_)
 ·have c':(i:Int)<(((ns.map V.int).length:Nat):Int):=of_decide_eq_true c
  rw[zti] at c'
  have hi:i<ns.length:=by omega
  have ec:Y9 ns i=ns[i]:=by unfold Y9;rw[ztj hi];rfl
  rw[ec] at q
  exact⟨_,rfl,_,rfl,l,_,i,_,rfl,rfl,hS,vR (by rw[ztk,ztj hi];rfl),q⟩
 ·have hi:ns.length<=i:=by
   refine Nat.le_of_not_lt fun hlt=>c (decide_eq_true ?_)
   rw[zti];omega
  have ec:Y9 ns i=0:=by unfold Y9;rw[List.getElem?_eq_none hi];rfl
  rw[ec] at q
  exact q
theorem J8 (T:Txt P w K mg a)(yF:zy P w K mg base zZ k a.tG a.tH uo ZW):zy P w K mg base zZ (k+1) a.Wy a.Wz Z1 (Vo K):=by
 refine T.RK.F.ok wR (fun vs H Q E h=>?_) (fun cdv A outer s H vs Q E hr h=>?_)
 ·obtain⟨N,n,f,pl,ps,rfl,_⟩:=h
  rfl
 obtain⟨N,n,f,pl,ps,rfl,hn,tb,hpl,hps,zrr,q⟩:=h
 refine⟨_,(zf (zG 3 wR.nd (vg zc))
   (zf (uz PassesOwn.never rfl (xq (pv 1)) (yO (i:=4) wR.nd rfl (Or.inl rfl)) (zf (zG 5 wR.nd (zu yF hr T.tO (za (pv 0) (za (pv 4) (za zq (za (pv 2) zc))))))
   (zf (zG 6 wR.nd (zaC (zQ Nv (pv 5) zq (zU _)) zq zq))
   (zf (zG 0 wR.nd (zu yF hr T.tO (za (pv 0) (za (pv 4) (za (pv 6) (za (pv 2) zc))))))
   (zm (zV (ZJ PySem.F.plainAttrs_list PySem.F.slot_list_append PySem.F.type_list_append uX (pv 3) (za (pv 6) zc))))))))
   (zm (zL (pv 3))))),?_⟩
 refine⟨by show 0<=sizeLine;decide,fun l hl=>?_⟩
 have g0:=Same.new hl (.lst [])
 refine⟨_,rfl,pl,rfl,⟨_,g0.seq hpl⟩,?_⟩
 refine tX (xs:=ps.map fun p=>V.int (p:Nat)) (fun i σ H'=>∃(M:Nat) (g:Nat->Bool) (r:List Bool) (f4 f5 f6:Option V),Same H H'/\H' l=some (.lst (Sg r))/\zW n M g/\r.length=i/\yL.fvP n f ps=r++yL.fvP n g (ps.drop i)/\σ=[some (.int M),some (.ref pl),some (.int n),some (.ref l),f4,f5,f6])
  ⟨N,f,[],_,_,_,g0,zj,tb,rfl,rfl,rfl⟩ ?_ ?_ ?_
 ·rintro i σ H' _ ⟨M,g,r,f4,f5,f6,gg,_⟩
  exact gg.seq hpl
 ·rintro i x σ H' hx ⟨M,g,r,f4,f5,f6,gg,hL,tg,hr',e,rfl⟩
  rw[ztk] at hx
  cases hp:ps[i]? with
  | none=>rw[hp] at hx;cases hx
  | some p =>
   rw[hp] at hx
   cases hx
   have hpn:=hps p (ztn hp)
   obtain⟨lt,e'⟩:=ztl.mp hp
   rw[List.drop_eq_getElem_cons lt,e'] at e
   refine⟨_,rfl,_,rfl,_,rfl,M,p,n,false,g,rfl,hpn,hn,tg,fun R tr=>?_⟩
   have tz:=yL.v9 tr
   refine⟨_,rfl,rfl,_,rfl,?_⟩
   have ee:(!decide (V.int (R:Nat)=V.int 0))=yL.anyB n fun b=>g (zK b p false):=by
    cases hz:yL.anyB n fun b=>g (zK b p false) with
    | true =>
     rw[hz] at tz
     rw[decide_eq_false fun z=>by injection z with z;exact absurd (decide_eq_true (show R=0 by omega)) (by rw[tz];exact ztm)]
     rfl
    | false =>
     rw[hz] at tz
     have z:R=0:=of_decide_eq_true tz
     subst z
     rfl
   rw[ee]
   cases hz:yL.anyB n fun b=>g (zK b p false) with
   | true =>
    refine yx (fun _=>?_) (fun c=>absurd rfl c)
    refine⟨_,rfl,_,rfl,_,rfl,_,rfl,M,p,n,false,g,rfl,hpn,hn,tg,fun R2 t2=>?_⟩
    refine⟨_,rfl,.inl ⟨rfl,_,z6.of hL⟩,_,rfl,l,_,_,rfl,rfl,hL,?_,?_⟩
    ·unfold Sg;rw[zti,hr'];exact yc (by omega)
    ·refine⟨R2,_,r++[false],_,_,_,gg.over hl _,by rw[zj];unfold Sg;rw[ztw];rfl,t2,by rw[ztq,hr'];rfl,?_,rfl⟩
     rw[e,List.append_assoc]
     show r++(_::_)=r++([false]++_)
     rw[hz]
     rfl
   | false =>
    refine yx (fun c=>absurd c ztm) (fun _=>?_)
    refine⟨_,rfl,_,rfl,_,rfl,_,rfl,M,p,n,true,g,rfl,hpn,hn,tg,fun R2 t2=>?_⟩
    refine⟨_,rfl,.inl ⟨rfl,_,z6.of hL⟩,_,rfl,l,_,_,rfl,rfl,hL,?_,?_⟩
    ·unfold Sg;rw[zti,hr'];exact yc (by omega)
    ·refine⟨R2,_,r++[true],_,_,_,gg.over hl _,by rw[zj];unfold Sg;rw[ztw];rfl,t2,by rw[ztq,hr'];rfl,?_,rfl⟩
     rw[e,List.append_assoc]
     show r++(_::_)=r++([true]++_)
     rw[hz]
     rfl
 ·rintro σ H' ⟨M,g,r,f4,f5,f6,gg,hL,tg,hr',e,rfl⟩
  rw[zti,List.drop_length] at e
  have e1:yL.fvP n f ps=r:=by rw[e];exact List.append_nil _
  refine⟨_,rfl,q l H' gg hl ?_⟩
  rw[e1]
  exact hL
theorem zdz (T:Txt P w K mg a)(zbq:zy P w K mg base zZ k a.Wy a.Wz Z1 (Vo K)):zy P w K mg base zZ (k+1) a.Rv a.Rw W8 Ph:=by
 refine T.Jz.F.ok zdm (fun vs H Q E h=>?_) (fun cdv A outer s H vs Q E hr h=>?_)
 ·obtain⟨N,n,f,rfl,_⟩:=h
  rfl
 obtain⟨N,n,f,rfl,hn,tb,any,q⟩:=h
 refine⟨_,(zm (zL (zu zbq hr T.RK (za (pv 0) (za (zc6 rfl rfl T.P0 rfl T.YZ (za (pv 1) zc)) (za (pv 1) zc)))))),?_⟩
 refine⟨_,rfl,_,rfl,n,rfl,by omega,fun pl hpl=>?_⟩
 have g0:=Same.new hpl (.lst (Jp n))
 refine⟨_,rfl,N,n,f,pl,List.range n,rfl,hn,tb,z6.of zj,fun p hp=>List.mem_range.mp hp,by rw[ztA];omega,fun l H' g hl hl'=>?_⟩
 exact q l H' _ (g0.trans g) (g0.free hl) hl' (yL.zfV any)
theorem zfd (T:Txt P w K mg a)(v8:zy P w K mg base zZ k a.vW a.vX wZ (uN (z7 a.zp))):zy P w K mg base zZ (k+1) a.Ql a.Qm V7 (Qe a.zp):=by
 refine T.K1.F.ok zgf (fun vs H Q E h=>?_) (fun cdv A outer s H vs Q E hr h=>?_)
 ·obtain⟨b,os,rs,F,x,rfl,_⟩:=h
  rfl
 obtain⟨b,os,rs,F,x,rfl,hB,ax,lx,q⟩:=h
 refine⟨_,(zm (zL (Sx (ZD xG (zF N5 rfl T.xP yG (za (pv 1) zc)) (zF zO rfl T.xP yG (za (R7 (pv 0) T.z9 T.Yc v8 hr) zc)) (zU _)) (Ke (zF (SM rfl) rfl T.ze3 zaN (za (tV (uD:=zx KN) (js:=[]) rfl (by show ZK _ _ "sign" [];exact lco (by decide +kernel)) rfl (zmN (pv 1)) (by show ∀j∈([]:List Nat),j<2;decide) (fun cl C s₂ H₂ fp=>(ZD (zmF (K:=K) rfl) (pv 0) (wW (v:=.ref a.zax) rfl T.zlp rfl) (by with_unfolding_all rfl)))) zc)))))),?_⟩
 have L:=yu a.zp
 obtain⟨dx,fs,zdy,hm⟩:=L.ins hB
 have lz:x.length<=sizeLine:=ztB (yc lx)
 refine⟨_,rfl,x,rfl,lz,_,rfl,b,dx,fs,rfl,zdy,hm _ (by decide +kernel),b,os,rs,F,rfl,hB,fun l1 H1 g1 fl1 hl1=>?_⟩
 refine⟨l1,_,rfl,.inl (z6.of hl1),?_⟩
 rw[zti]
 have e1:decide (V.int (x.length:Nat)=V.int (os.length:Nat))=decide (x.length=os.length):=decide_eq_decide.mpr ⟨fun e=>by injection e;omega,fun e=>by rw[e]⟩
 refine⟨rfl,_,rfl,?_⟩
 rw[e1]
 have q:=fun H' g=>q H' g
 unfold T3 at q
 refine yx (fun c=>?_) (fun c=>?_)
 ·rw[c,Bool.true_and] at q
  refine⟨_,rfl,x,rfl,ax,?_⟩
  refine zlc (x:=x) (fun v=>.bl (inV v ((["-", "0", "1"]:List Str).map V.str))) lz (fun v H' Q0 hv g hQ=>?_) (fun H2 l2 g2 hl2=>?_)
  ·unfold sgs at hv
   obtain⟨c,_,rfl⟩:=List.mem_map.mp hv
   exact⟨_,rfl,a.zax,_,rfl,.inr (T.zlq H'),rfl,rfl,hQ _ g⟩
  ·have em:(sgs x).map (fun v=>V.bl (inV v ((["-", "0", "1"]:List Str).map V.str)))=(x.cps.toList.map fun c=>decide (c=45\/c=48\/c=49)).map V.bl:=by
    unfold sgs
    rw[ztT,ztT]
    refine List.map_congr_left fun c _=>congrArg V.bl ?_
    exact zld c
   rw[em]
   refine⟨l2,_,rfl,z6.of zj,?_⟩
   rw[List.all_map]
   exact q _ ((g1.trans g2).trans (Same.new hl2 _))
 ·have c':=Bool.eq_false_iff.mpr c
  rw[c',Bool.false_and] at q
  exact q _ g1
theorem J9 (T:Txt P w K mg a)(Us:zy P w K mg base zZ k a.Ql a.Qm V7 (Qe a.zp)):zy P w K mg base zZ (k+1) a.xM a.xO yS (Wj a.zp):=by
 refine T.vM.F.ok T6 (fun vs H Q E h=>?_) (fun cdv A outer s H vs Q E hr h=>?_)
 ·obtain⟨b,os,rs,F,c,rfl,_⟩:=h
  rfl
 obtain⟨b,os,rs,F,c,rfl,hB,hc,q⟩:=h
 refine⟨_,(zm (yr (Ye (yM (zu Us hr T.K1 (za (pv 0) (za (pv 1) zc))) (fun _=>rfl))) (zm Sy) zY)),?_⟩
 have o8:=((yu a.zp).ord hB).le
 refine⟨_,rfl,_,rfl,b,os,rs,F,cbS c,rfl,hB,U7 c,by rw[xR];omega,fun H1 g1=>?_⟩
 rw[zey,decide_eq_true hc]
 exact⟨_,rfl,Xe (q _ g1)⟩
theorem zbr (T:Txt P w K mg a)(yj:zy P w K mg base zZ k a.wM a.wN xT vA)(yH:zy P w K mg base zZ k a.wk a.wu xJ vh)(Yx:zy P w K mg base zZ k a.Ys a.Yt Zy Yl):zy P w K mg base zZ (k+1) a.Vs a.Vt YD (U5 K):=by
 refine T.QS.F.ok vD (fun vs H Q E h=>?_) (fun cdv A outer s H vs Q E hr h=>?_)
 ·obtain⟨pl,rl,n,ps,r,rfl,_⟩:=h
  rfl
 obtain⟨pl,rl,n,ps,r,rfl,n8,hl,hm,hp,el,l8,q⟩:=h
 refine⟨_,(zf (zG 3 vD.nd (zu yj hr T.v7 (za (pv 2) zc)))
   (zf (uz PassesOwn.never rfl (zmQ rfl T.zoT (za (pv 0) (za (pv 1) zc))) (ziw rfl (Nt (yO (i:=4) vD.nd rfl (Or.inl rfl)) (Nt (yO (i:=5) vD.nd rfl (Or.inl rfl)) zgF))) (zf (zG 6 vD.nd (zu yH hr T.ZC (za (pv 4) (za (pv 2) zc))))
   (zm (zG 3 vD.nd (zaC (zQ xG (pv 5) zq (zU _)) (zP u6 (pv 3) (pv 6)) (zu Yx hr T.Uk (za (pv 3) (za (pv 6) zc))))))))
   (zm (zL (pv 3))))),?_⟩
 refine⟨_,rfl,n,rfl,n8,?_⟩
 refine⟨_,rfl,_,rfl,pl,rl,Pk ps,Sg r,rfl,hl,hm,?_⟩
 have e1:(Pk ps).length=ps.length:=zti _
 have e2:(Sg r).length=r.length:=zti _
 refine zkO (xs:=Pk ps) (ys:=Sg r) (by omega) (fun i σ H'=>Same H H'/\∃(M:Nat) (f4 f5 f6:Option V),zW n M (hav ((ps.zip r).take i))/\σ=[some (.ref pl),some (.ref rl),some (.int (n:Nat)),some (.int (M:Nat)),f4,f5,f6]) ⟨Same.refl _,_,_,_,_,W3 n,rfl⟩ ?_ ?_ ?_
 ·rintro i σ H' _ ⟨g,_⟩
  exact⟨g.seq hl,g.seq hm⟩
 ·rintro i x y σ H' t hx hy ⟨g,M,f4,f5,f6,tm,rfl⟩ ht
  unfold Pk at hx
  unfold Sg at hy
  rw[ztk] at hx hy
  cases hj:ps[i]? with
  | none=>rw[hj] at hx;cases hx
  | some p =>
   rw[hj] at hx
   cases hx
   cases hk:r[i]? with
   | none=>rw[hk] at hy;cases hy
   | some v =>
    rw[hk] at hy
    cases hy
    have hz:(ps.zip r)[i]?=some (p,v):=List.getElem?_zip_eq_some.mpr ⟨hj,hk⟩
    have pn:=hp p (ztn hj)
    have nx:hav ((ps.zip r).take (i+1))=fun b=>hav ((ps.zip r).take i) b&&(b.testBit p==v):=funext fun b=>by
     rw[yN hz]
     unfold hav
     rw[List.all_append]
     simp
    refine⟨t,_,rfl,vQ.of zj,rfl,_,_,rfl,_,_,rfl,rfl,?_⟩
    refine⟨_,rfl,_,rfl,p,n,rfl,pn,n8,fun W tw=>?_⟩
    refine⟨_,rfl,rfl,_,rfl,?_⟩
    cases v with
    | true =>
     refine Xf ⟨_,rfl,_,rfl,M,W,rfl,rfl,g.trans (Same.new ht _),_,_,_,_,?_,rfl⟩
     rw[nx]
     have e:(fun b=>hav ((ps.zip r).take i) b&&(b.testBit p==true))=fun b=>hav ((ps.zip r).take i) b&&b.testBit p:=funext fun b=>by simp
     rw[e]
     exact zkT tm tw
    | false =>
     refine Xe ⟨_,rfl,_,rfl,M,W,n,_,_,rfl,tm,tw,fun R tr=>⟨g.trans (Same.new ht _),R,_,_,_,?_,rfl⟩⟩
     rw[nx]
     have e:(fun b=>hav ((ps.zip r).take i) b&&(b.testBit p==false))=fun b=>hav ((ps.zip r).take i) b&&!b.testBit p:=funext fun b=>by cases b.testBit p<;>rfl
     rw[e]
     exact tr
 ·rintro σ H' ⟨g,M,f4,f5,f6,tm,rfl⟩
  have el:(ps.zip r).length=(Pk ps).length:=by rw[List.length_zip,e1];omega
  rw[<-el,ztL] at tm
  exact⟨_,rfl,q M H' g tm⟩
theorem zgw (T:Txt P w K mg a)(zbU:zy P w K mg base zZ k a.Vs a.Vt YD (U5 K)):zy P w K mg base zZ (k+1) a.X8 a.Wa Yp Rk:=by
 refine T.Um.F.ok zbg (fun vs H Q E h=>?_) (fun cdv A outer s H vs Q E hr h=>?_)
 ·obtain⟨c,rfl,_⟩:=h
  rfl
 obtain⟨c,rfl,c8,q⟩:=h
 refine⟨_,(zf (zf2 (i:=1) zbg.nd rfl (Or.inl rfl) (.inl rfl) (uD:=zx V8) (js:=[]) rfl (by show zha (zx V8) _ "place" "sign" [];exact⟨⟨rfl,by decide +kernel,by decide +kernel,by decide +kernel,by decide +kernel⟩,by decide +kernel,by decide +kernel,by decide +kernel⟩) rfl (zeu rfl T.JG (za (pv 0) zc)) (by show ∀j∈([]:List Nat),j<2;decide) (fun cl C s₂ H₂ fp=>(zQ Nv (pv 1) yt (zU _))) (fun cl C s₂ H₂ fp=>(pv 0)) rfl)
   (zm (zL (zu zbU hr T.QS (za (pv 1) (za (tV (uD:=zx V8) (js:=[0]) rfl (by show ZK _ _ "place" ["cube"];exact lco (by decide +kernel)) rfl (xq (pv 1)) (by show ∀j∈([0]:List Nat),j<2;decide) (fun cl C s₂ H₂ fp=>(XM zhV rfl T.zoQ zmz (za (yh zfG (pv 1) (pv 0) (fun _ _=>rfl)) zc)))) (za (zF N5 rfl T.xP yG (za (pv 0) zc)) zc))))))),?_⟩
 have sz:(cbS c).cps.size<=sizeLine:=by rw[Ri];exact ztB (yc (by omega))
 refine⟨_,rfl,cbS c,rfl,U7 c,?_⟩
 refine zjr (fun i ys H'=>Same H H'/\ys=Pk ((KC c).filter fun j=>decide (j<i))/\i<=c.length) ⟨Same.refl _,by rw[List.filter_eq_nil_iff.mpr fun j _=>by simp];rfl,ztF _⟩ sz ?_ ?_ ?_
 ·rintro i ys H' ⟨_,rfl,hi⟩
  rw[za2]
  exact zcx c hi
 ·rintro i cc ys H' p Q1 Q2 hcc ⟨g,rfl,_⟩ hp h1 h2
  obtain⟨s0,hs,rfl⟩:=zjs hcc
  have hi:i<c.length:=(ztl.mp hs).1
  have g2:=g.trans (Same.new hp (.tup [.int (i:Nat),.str ⟨#[Qd s0]⟩]))
  have step:=zez (q:=c) hs
  refine⟨_,rfl,rfl,_,rfl,?_⟩
  cases s0 with
  | none =>
   refine zfU (show V.str ⟨#[45]⟩=V.str "-" by decide +kernel) (h2 _ ⟨g2,?_,hi⟩)
   rw[step]
   show _=Pk (_++[])
   rw[List.append_nil]
  | some v =>
   have ne:V.str ⟨#[Qd (some v)]⟩≠V.str "-" := by cases v<;>decide +kernel
   show if (!decide (V.str ⟨#[Qd (some v)]⟩=V.str "-"))=true then _ else _
   rw[decide_eq_false ne]
   refine Xf ⟨_,rfl,h1 _ _ ⟨g2,?_,hi⟩⟩
   rw[step]
   unfold Pk
   rw[ztw]
   rfl
 ·rintro ys H1 pl ⟨g,rfl,_⟩ hpl
  have ef:((KC c).filter fun j=>decide (j<(cbS c).cps.size))=KC c:=List.filter_eq_self.mpr fun j hj=>decide_eq_true (by rw[Ri];exact zf5 j hj)
  rw[ef]
  have g1:=g.trans (Same.new hpl (.lst (Pk (KC c))))
  have e1:upd H1 pl (.lst (Pk (KC c))) pl=some _:=zj
  generalize upd H1 pl _=H2 at g1 e1 ⊢
  have p8:(KC c).length<=8:=ztE (ztR _ _) (by rw[ztA];exact c8)
  refine⟨_,rfl,_,rfl,pl,rfl,⟨_,z6.of e1⟩,?_⟩
  refine za3 (xs:=Pk (KC c)) (fun i ys H'=>Same H2 H'/\ys=Sg ((vlC c).take i)) ⟨Same.refl _,rfl⟩ (by rw[za2];exact ztB (yc (by omega))) ?_ ?_ ?_
  ·rintro i ys H' hi ⟨g,rfl⟩
   refine⟨z6.of (g _ _ e1),?_⟩
   unfold Sg
   rw[zti,ztG]
   omega
  ·rintro i x ys H' Q0 hx ⟨g,rfl⟩ hQ
   obtain⟨j,hj,rfl⟩:=zmT hx
   have mj:=ztn hj
   obtain⟨v,hv⟩:=zeA mj
   refine⟨_,rfl,_,rfl,cbS c,_,_,rfl,rfl,by rw[xR];exact ztB (yc (by omega)),vR (zk5 hv),v,?_,?_⟩
   ·show [V.str ⟨#[Qd (some v)]⟩]=_
    cases v<;>decide +kernel
   ·refine hQ _ _ ⟨g,?_⟩
    have hvl:(vlC c)[i]?=some v:=by
     unfold vlC
     rw[ztk,hj]
     show some ((c.getD j none).getD false)=_
     rw[ztv,hv]
     rfl
    rw[yN hvl]
    unfold Sg
    rw[ztw]
    rfl
  ·rintro ys H3 vl ⟨g,rfl⟩ hvl
   have lv:(vlC c).length=(KC c).length:=zti _
   rw[za2,<-lv,ztL]
   have g3:=g.trans (Same.new hvl (.lst (Sg (vlC c))))
   refine⟨_,rfl,cbS c,rfl,by rw[xR];exact ztB (yc (by omega)),?_⟩
   rw[xR]
   refine⟨pl,vl,c.length,KC c,vlC c,rfl,c8,z6.of (g3 _ _ e1),z6.of zj,zf5,lv.symm,p8,fun R H' g' tR=>?_⟩
   have tR:zW c.length R (Xr c):=fun b=>by rw[tR b,zna]
   exact q R H' ((g1.trans g3).trans g') tR
theorem zdA (T:Txt P w K mg a)(zA:zy P w K mg base zZ k a.zM a.zN zJ (wJ a.zp))(wO:zy P w K mg base zZ k a.xM a.xO yS (Wj a.zp))
  (Yy:zy P w K mg base zZ k a.X8 a.Wa Yp (Rk))(xg:zy P w K mg base zZ k a.xU a.xV yU (Yk a.zp))(Yx:zy P w K mg base zZ k a.Ys a.Yt Zy (Yl)):zy P w K mg base zZ (k+1) a.wz a.wA xK (Rn a.zp):=by
 refine T.wB.F.ok Tc (fun vs H Q E h=>?_) (fun cdv A outer s H vs Q E hr h=>?_)
 ·obtain⟨b,os,rs,F,k0,c,rfl,_⟩:=h
  rfl
 obtain⟨b,os,rs,F,k0,c,rfl,hB,hk,hc,q⟩:=h
 refine⟨_,(zf (zV (yR (pv 0) T.z9 T.zR zA hr (za (pv 1) zc)))
   (zf (zV (zu wO hr T.vM (za (pv 0) (za (pv 2) zc))))
   (zm (zL (ZD xG (zu Yx hr T.Uk (za (zu Yy hr T.Um (za (pv 2) zc)) (za (yR (pv 0) T.z9 T.wV xg hr (za (pv 1) zc)) zc))) zq (zU _)))))),?_⟩
 have L:=yu a.zp
 have o8:=(L.ord hB).le
 obtain⟨dx,_,_,_,_,_,_,_,h0⟩:=id hB
 refine⟨_,rfl,b,dx,_,rfl,h0.hb,rfl,_,rfl,b,os,rs,F,k0,rfl,hB,hk,?_⟩
 refine⟨_,rfl,_,rfl,b,os,rs,F,c,rfl,hB,hc,fun H1 g1=>?_⟩
 refine⟨_,rfl,c,rfl,by omega,fun R H2 g2 tR=>?_⟩
 rw[hc] at tR
 have hB2:=L.same hB (g1.trans g2)
 refine⟨_,rfl,b,dx,_,rfl,(g1.trans g2) _ _ h0.hb,rfl,_,rfl,b,os,rs,F,k0,rfl,hB2,hk,fun t tt=>?_⟩
 refine⟨R,t,os.length,_,_,rfl,tR,tt,fun W tW=>?_⟩
 have e:decide (V.int (W:Nat)=V.int 0)=inB os.length (tB rs k0) c:=by
  refine Eq.trans ?_ (zf6 tW)
  exact decide_eq_decide.mpr ⟨fun e=>by injection e;omega,fun e=>by rw[e];rfl⟩
 refine⟨rfl,?_⟩
 rw[e]
 exact q _ (g1.trans g2)
theorem zgx (T:Txt P w K mg a):zy P w K mg base zZ (k+1) a.Wb a.Wc Yr X3:=by
 refine T.Qo.F.ok zgg (fun vs H Q E h=>?_) (fun cdv A outer s H vs Q E hr h=>?_)
 ·obtain⟨c,rfl,_⟩:=h
  rfl
 obtain⟨c,rfl,c8,q⟩:=h
 refine⟨_,(zm (zL (zkP (uD:=zx Qj) (js:=[0]) rfl (by show zha (zx Qj) _ "place" "sign" ["cube"];exact⟨⟨rfl,by decide +kernel,by decide +kernel,by decide +kernel,by decide +kernel⟩,by decide +kernel,by decide +kernel,by decide +kernel⟩) rfl (zeu rfl T.JG (za (pv 0) zc)) (by show ∀j∈([0]:List Nat),j<1;decide) (fun cl C s₂ H₂ fp=>(zQ Nv (pv 1) yt (zU _))) (fun cl C s₂ H₂ fp=>(zP uL (zP uL (Y5 za1 (pv 2) Ux (Xo (pv 0))) yt) (Y5 za1 (pv 2) (Xo (zP wj (pv 0) zq)) Ux)))))),?_⟩
 have sz:(cbS c).cps.size<=sizeLine:=by rw[Ri];exact ztB (yc (by omega))
 have lz:(cbS c).length<=sizeLine:=sz
 refine⟨_,rfl,cbS c,rfl,U7 c,?_⟩
 refine zjr (fun i ys H'=>Same H H'/\ys=(((KC c).filter fun j=>decide (j<i)).map fun i=>c.set i none).map (fun q=>V.str (cbS q))/\i<=c.length) ⟨Same.refl _,by rw[List.filter_eq_nil_iff.mpr fun j _=>by simp];rfl,ztF _⟩ sz ?_ ?_ ?_
 ·rintro i ys H' ⟨_,rfl,hi⟩
  rw[zti,zti]
  exact zcx c hi
 ·rintro i cc ys H' p Q1 Q2 hcc ⟨g,rfl,_⟩ hp h1 h2
  obtain⟨s0,hs,rfl⟩:=zjs hcc
  have hi:i<c.length:=(ztl.mp hs).1
  have g2:=g.trans (Same.new hp (.tup [.int (i:Nat),.str ⟨#[Qd s0]⟩]))
  have step:=zez (q:=c) hs
  refine⟨_,rfl,rfl,_,rfl,?_⟩
  cases s0 with
  | none =>
   refine zfU (show V.str ⟨#[45]⟩=V.str "-" by decide +kernel) (h2 _ ⟨g2,?_,hi⟩)
   rw[step]
   show _=((_++[]).map _).map _
   rw[List.append_nil]
  | some v =>
   have ne:V.str ⟨#[Qd (some v)]⟩≠V.str "-" := by cases v<;>decide +kernel
   show if (!decide (V.str ⟨#[Qd (some v)]⟩=V.str "-"))=true then _ else _
   rw[decide_eq_false ne]
   refine Xf ⟨_,rfl,_,rfl,_,rfl,cbS c,rfl,lz,?_⟩
   rw[zk6 (ztB hi)]
   have l1:(cbS (c.take i)).length+(Str.ofString "-").length<=sizeLine:=by
    rw[xR,ztG]
    exact ztB (yc (by show min i c.length+1<=1000;omega))
   refine⟨_,_,rfl,rfl,l1,?_⟩
   rw[dash,zas]
   refine⟨_,rfl,_,rfl,_,_,rfl,rfl,_,rfl,cbS c,rfl,lz,?_⟩
   have er:(i:Int)+1=((i+1:Nat):Int):=rfl
   rw[er,zhn (by omega:i+1<=c.length)]
   refine⟨_,_,rfl,rfl,?_,?_⟩
   ·rw[xR,xR,ztq,ztG,List.length_drop]
    exact ztB (yc (by show min i c.length+1+(c.length-(i+1))<=1000;omega))
   ·rw[zas]
    refine h1 _ _ ⟨g2,?_,hi⟩
    rw[step,ztw,ztw]
    have es:c.set i none=c.take i++[none]++c.drop (i+1):=by
     rw[List.set_eq_take_append_cons_drop,if_pos hi,List.append_assoc]
     rfl
    show _=_++[V.str (cbS (c.set i none))]
    rw[es]
 ·rintro ys H1 pl ⟨g,rfl,_⟩ hpl
  have ef:((KC c).filter fun j=>decide (j<(cbS c).cps.size))=KC c:=List.filter_eq_self.mpr fun j hj=>decide_eq_true (by rw[Ri];exact zf5 j hj)
  rw[ef]
  exact q pl _ (g.trans (Same.new hpl _)) (g.free hpl) zj
theorem zfe (T:Txt P w K mg a)(vP:zy P w K mg base zZ k a.wz a.wA xK (Rn a.zp))(tU:zy P w K mg base zZ k a.Wb a.Wc Yr (X3)):zy P w K mg base zZ (k+1) a.WL a.WM Yq (zcy a.zp):=by
 refine T.TJ.F.ok Ru (fun vs H Q E h=>?_) (fun cdv A outer s H vs Q E hr h=>?_)
 ·obtain⟨b,os,rs,F,k0,c,rfl,_⟩:=h
  rfl
 obtain⟨b,os,rs,F,k0,c,rfl,hB,hk,hc,q⟩:=h
 refine⟨_,(zm (zL (Sx (zu vP hr T.wB (za (pv 0) (za (pv 1) (za (pv 2) zc)))) (Ke (zfq (zF (za4 rfl) rfl T.zjM zfY (za (tV (uD:=zx Wq) (js:=[0,1]) rfl (by show ZK _ _ "wider" ["book", "room"];exact lco (by decide +kernel)) rfl (xq (zu tU hr T.Qo (za (pv 2) zc))) (by show ∀j∈([0,1]:List Nat),j<3;decide) (fun cl C s₂ H₂ fp=>(zu vP hr T.wB (za (pv 1) (za (pv 2) (za (pv 0) zc)))))) zc))))))),?_⟩
 have L:=yu a.zp
 have o8:=(L.ord hB).le
 refine⟨_,rfl,_,rfl,_,rfl,b,os,rs,F,k0,c,rfl,hB,hk,hc,fun H1 g1=>⟨_,rfl,?_⟩⟩
 unfold uG at q
 cases e:inB os.length (tB rs k0) c with
 | false =>
  rw[e,Bool.false_and] at q
  exact Xe (q _ g1)
 | true =>
  rw[e,Bool.true_and] at q
  refine Xf ⟨_,rfl,c,rfl,by omega,fun l H2 g2 fl hl=>?_⟩
  have hB2:=L.same hB (g1.trans g2)
  have wl:(wid c).length<=8:=by
   unfold wid
   rw[zti]
   exact ztE (ztR _ _) (by rw[ztA];omega)
  refine⟨l,rfl,⟨_,z6.of hl⟩,?_⟩
  refine za3 (xs:=(wid c).map fun q=>V.str (cbS q)) (fun i ys H'=>Same H2 H'/\ys=(((wid c).take i).map (inB os.length (tB rs k0))).map V.bl) ⟨Same.refl _,rfl⟩ (by rw[zti];exact ztB (yc (by omega))) ?_ ?_ ?_
  ·rintro i ys H' hi ⟨g,rfl⟩
   refine⟨z6.of (g _ _ hl),?_⟩
   rw[zti,zti,ztG]
   omega
  ·rintro i x ys H' Q0 hx ⟨g,rfl⟩ hQ
   rw[ztk] at hx
   cases hw:(wid c)[i]? with
   | none=>rw[hw] at hx;cases hx
   | some c2 =>
    rw[hw] at hx
    cases hx
    have l2:c2.length=os.length:=by
     obtain⟨j,_,rfl⟩:=List.mem_map.mp (ztn hw)
     rw[List.length_set];exact hc
    refine⟨_,rfl,_,rfl,_,rfl,b,os,rs,F,k0,c2,rfl,L.same hB2 g,hk,l2,fun H3 g3=>hQ _ _ ⟨g.trans g3,?_⟩⟩
    rw[yN hw,ztw,ztw]
    rfl
  ·rintro ys H3 p ⟨g,rfl⟩ hp
   rw[zti,ztL]
   refine⟨p,_,rfl,z6.of zj,?_⟩
   rw[List.any_map]
   exact⟨_,rfl,q _ ((g1.trans g2).trans (g.trans (Same.new hp _)))⟩
theorem zbs {d:Nat}(T:Txt P w K mg a)(yj:zy P w K mg base zZ k a.wM a.wN xT vA)(yF:zy P w K mg base zZ k a.tG a.tH uo ZW)
  (Zg:zy P w K mg base zZ k a.Za a.Zb ur (V2 d)):zy P w K mg base zZ (k+1) a.Za a.Zb ur (V2 (d+1)):=by
 refine T.Ze.F.ok vI (fun vs H Q E h=>?_) (fun cdv A outer s H vs Q E hr h=>?_)
 ·obtain⟨N,p,n,f,rfl,_⟩:=h
  rfl
 obtain⟨N,p,n,f,rfl,n8,hp,hd,tf,ff,q⟩:=h
 refine⟨_,(zf (yr (zQ xG (pv 0) zq (zU _)) (zm (zL (vg zc))) zY)
   (zf (yr (zQ xG (pv 0) (zu yj hr T.v7 (za (pv 2) zc)) (zU _)) (zm (zL (vg (za (zP zlb yt (zP Q5 (pv 2) (pv 1))) zc)))) zY)
   (zf (zG 3 vI.nd (zu yF hr T.tO (za (pv 0) (za (pv 1) (za zq (za (pv 2) zc))))))
   (zf (zG 4 vI.nd (zu yF hr T.tO (za (pv 0) (za (pv 1) (za zq (za (pv 2) zc))))))
   (zf (Yg (i:=5) vI.nd rfl (Or.inr rfl) (zu Zg hr T.Ze (za (zP u6 (pv 3) (pv 4)) (za (zP wj (pv 1) zq) (za (pv 2) zc)))))
   (zf (VN (i:=6) vI.nd rfl (Or.inl rfl) (.inl rfl) (uD:=zx vm) (js:=[5]) rfl (by show ZK _ _ "cube" ["either"];exact lco (by decide +kernel)) rfl (xq (zu Zg hr T.Ze (za (pv 3) (za (zP wj (pv 1) zq) (za (pv 2) zc))))) (by show ∀j∈([5]:List Nat),j<8;decide) (fun cl C s₂ H₂ fp pins s' σ' H' Q I h=>wpAny_tests_one ((zQ (zcj (K:=K) rfl) (pv 0) (pv 1) (by with_unfolding_all rfl)) pins s' σ' H' Q I h)) (fun cl C s₂ H₂ fp=>(pv 0)) rfl)
   (zf (VN (i:=7) vI.nd rfl (Or.inl rfl) (.inl rfl) (uD:=zx vm) (js:=[5]) rfl (by show ZK _ _ "cube" ["either"];exact lco (by decide +kernel)) rfl (xq (zu Zg hr T.Ze (za (pv 4) (za (zP wj (pv 1) zq) (za (pv 2) zc))))) (by show ∀j∈([5]:List Nat),j<8;decide) (fun cl C s₂ H₂ fp pins s' σ' H' Q I h=>wpAny_tests_one ((zQ (zcj (K:=K) rfl) (pv 0) (pv 1) (by with_unfolding_all rfl)) pins s' σ' H' Q I h)) (fun cl C s₂ H₂ fp=>(pv 0)) rfl)
   (zm (zL (zP zc5 (zP zc5 (tV (uD:=zx vm) (js:=[]) rfl (by show ZK _ _ "cube" [];exact lco (by decide +kernel)) rfl (xq (pv 5)) (by show ∀j∈([]:List Nat),j<8;decide) (fun cl C s₂ H₂ fp=>(zP uL yt (pv 0)))) (tV (uD:=zx vm) (js:=[]) rfl (by show ZK _ _ "cube" [];exact lco (by decide +kernel)) rfl (xq (pv 6)) (by show ∀j∈([]:List Nat),j<8;decide) (fun cl C s₂ H₂ fp=>(zP uL yt (pv 0))))) (tV (uD:=zx vm) (js:=[]) rfl (by show ZK _ _ "cube" [];exact lco (by decide +kernel)) rfl (xq (pv 7)) (by show ∀j∈([]:List Nat),j<8;decide) (fun cl C s₂ H₂ fp=>(zP uL yt (pv 0)))))))))))))),?_⟩
 have ei:∀{i j:Nat},V.int (i:Int)=V.int (j:Int)->i=j:=fun h=>by injection h with h;exact Int.ofNat.inj h
 refine⟨_,rfl,rfl,_,rfl,yx (fun e=>?_) (fun e1=>?_)⟩
 ·have e0:N=0:=ei (of_decide_eq_true e)
  subst e0
  have no:∀b,b<2^n->f b=false:=fun b hb=>by rw[<-yL.ZV tf hb];exact Nat.zero_testBit _
  exact⟨by show 0<=sizeLine;decide,fun l hl=>q l [] _ (Same.new hl _) hl zj (Nj.no hp no)⟩
 refine⟨_,rfl,_,rfl,n,rfl,n8,rfl,_,rfl,yx (fun e=>?_) (fun e2=>?_)⟩
 ·have e0:N=2^2^n-1:=ei (of_decide_eq_true e)
  have al:∀b,b<2^n->f b=true:=fun b hb=>by rw[<-yL.ZV tf hb,e0];exact yL.ZV (W3 n) hb
  refine⟨_,rfl,_,rfl,_,_,rfl,rfl,n-p,rfl,?_,by omega,by show 1<=sizeLine;decide,fun l hl=>q l [_] _ (Same.new hl _) hl zj (Nj.yes hp al)⟩
  show V.int ((n:Int)-(p:Int))=V.int ((n-p:Nat):Int)
  rw[Int.ofNat_sub hp]
 have n1:¬∀b,b<2^n->f b=true:=fun z=>e2 (decide_eq_true (congrArg (fun m:Nat=>V.int (m:Int)) (yL.YC tf (W3 n) z)))
 have n0:¬∀b,b<2^n->f b=false:=fun z=>e1 (decide_eq_true (congrArg (fun m:Nat=>V.int (m:Int)) (yL.YC tf (v9 n) z)))
 have hpn:p<n:=by
  refine Nat.lt_of_le_of_ne hp fun z=>?_
  subst z
  have cf:=yL.ug ff
  cases h1:f 0 with
  | false=>exact n0 fun b hb=>by rw[cf b hb,h1]
  | true=>exact n1 fun b hb=>by rw[cf b hb,h1]
 refine⟨_,rfl,_,rfl,_,rfl,N,p,n,false,f,rfl,hpn,n8,tf,fun M0 t0=>?_⟩
 refine⟨_,rfl,_,rfl,_,rfl,N,p,n,true,f,rfl,hpn,n8,tf,fun M1 t1=>?_⟩
 have f0:=XS (v:=false) hpn ff
 have f1:=XS (v:=true) hpn ff
 refine⟨_,rfl,_,rfl,M0,M1,rfl,rfl,_,rfl,_,_,rfl,rfl,_,rfl,M0&&&M1,p+1,n,_,rfl,n8,hpn,by omega,uZ t0 t1,fun i hi=>zjy (f0 i hi) (f1 i hi),fun le E1 H1 g1 hle h1 pE=>?_⟩
 refine⟨_,rfl,_,rfl,_,_,rfl,rfl,_,rfl,M0,p+1,n,_,rfl,n8,hpn,by omega,t0,f0,fun lz Z H2 g2 hlz h2 pZ=>?_⟩
 have few:∀{g:Nat->Bool} {L:List Cb},Nj n (p+1) g L->L.length<=sizeLine:=fun h=>Xa (by have:=h.few n8;omega)
 refine⟨lz,rfl,⟨_,z6.of h2⟩,?_⟩
 refine zeB cbV (fun q=>!E1.contains q) (z6.of h2) (few pZ) (fun x H' Q0 h=>⟨_,rfl,h⟩) (fun x H' Q0 hx g hQ=>?_) (fun H3 lz' g3 hlz'=>?_)
 ·refine⟨_,rfl,_,rfl,le,_,rfl,.inl (z6.of ((g2.trans g) _ _ h1)),rfl,zhr E1,_,rfl,?_⟩
  have y:=hQ _ g
  rw[<-zjx] at y
  exact y
 generalize eZ:(Z.filter fun q=>!E1.contains q)=Z'
 have gz:=g3.trans (Same.new hlz' (.lst (Z'.map cbV)))
 have hz':upd H3 lz' (.lst (Z'.map cbV)) lz'=some _:=zj
 generalize upd H3 lz' _=H4 at gz hz' ⊢
 refine⟨_,rfl,_,rfl,_,_,rfl,rfl,_,rfl,M1,p+1,n,_,rfl,n8,hpn,by omega,t1,f1,fun lo O H5 g5 hlo h5 pO=>?_⟩
 have h15:=(g2.trans (gz.trans g5)) _ _ h1
 refine⟨lo,rfl,⟨_,z6.of h5⟩,?_⟩
 refine zeB cbV (fun q=>!E1.contains q) (z6.of h5) (few pO) (fun x H' Q0 h=>⟨_,rfl,h⟩) (fun x H' Q0 hx g hQ=>?_) (fun H6 lo' g6 hlo'=>?_)
 ·refine⟨_,rfl,_,rfl,le,_,rfl,.inl (z6.of (g _ _ h15)),rfl,zhr E1,_,rfl,?_⟩
  have y:=hQ _ g
  rw[<-zjx] at y
  exact y
 generalize eO:(O.filter fun q=>!E1.contains q)=O'
 have go:=g6.trans (Same.new hlo' (.lst (O'.map cbV)))
 have ho':upd H6 lo' (.lst (O'.map cbV)) lo'=some _:=zj
 generalize upd H6 lo' _=H7 at go ho' ⊢
 have hz7:=(g5.trans go) _ _ hz'
 have hE7:=go _ _ h15
 have gA:Same H H7:=g1.trans (g2.trans (gz.trans (g5.trans go)))
 have PF:=Nj.step hpn ff n1 pE pZ pO
 rw[eZ,eO] at PF
 have lE:=few pE
 have LL:=PF.few n8
 rw[ztq,ztq,zti,zti,zti] at LL
 have sz:∀{q:Cb} {y:Str} {L:List Cb} {g:Nat->Bool},Nj n (p+1) g L->q∈L->y.length<=1->y.length+(cbS q).length<=sizeLine:=fun {q y L g} h m hy=>by
  have:=((h.mem q).mp m).1
  rw[xR]
  exact Xa (by omega)
 have mZ:∀q∈Z',q∈Z:=fun q h=>by rw[<-eZ] at h;exact(List.mem_filter.mp h).1
 have mO:∀q∈O',q∈O:=fun q h=>by rw[<-eO] at h;exact(List.mem_filter.mp h).1
 refine⟨_,rfl,le,rfl,⟨_,z6.of hE7⟩,?_⟩
 refine zdg cbV (fun q=>cbV (none::q)) (z6.of hE7) (Xa (by omega)) (fun x H' Q0 hx g hQ=>⟨_,rfl,_,_,rfl,rfl,sz pE hx (by decide +kernel),by rw[zdh none x dash];exact hQ _ (Same.refl _)⟩) (fun H8 l8 g8 hl8=>?_)
 have k8:=Same.new hl8 (.lst (E1.map fun q=>cbV (none::q)))
 have hz8:=(g8.trans k8) _ _ hz7
 refine⟨_,rfl,lz',rfl,⟨_,z6.of hz8⟩,?_⟩
 refine zdg cbV (fun q=>cbV (some false::q)) (z6.of hz8) (Xa (by omega)) (fun x H' Q0 hx g hQ=>⟨_,rfl,_,_,rfl,rfl,sz pZ (mZ x hx) (by decide +kernel),by rw[zdh (some false) x nought];exact hQ _ (Same.refl _)⟩) (fun H9 l9 g9 hl9=>?_)
 have k9:=Same.new hl9 (.lst (Z'.map fun q=>cbV (some false::q)))
 refine⟨l8,l9,_,_,rfl,rfl,z6.of ((g9.trans k9) _ _ zj),z6.of zj,?_,fun la hla=>?_⟩
 ·rw[zti,zti]
  exact Xa (by omega)
 have ka:=Same.new hla (.lst ((E1.map fun q=>cbV (none::q))++Z'.map fun q=>cbV (some false::q)))
 have ho8:=(((g8.trans k8).trans (g9.trans k9)).trans ka) _ _ ho'
 refine⟨_,rfl,lo',rfl,⟨_,z6.of ho8⟩,?_⟩
 refine zdg cbV (fun q=>cbV (some true::q)) (z6.of ho8) (Xa (by omega)) (fun x H' Q0 hx g hQ=>⟨_,rfl,_,_,rfl,rfl,sz pO (mO x hx) (by decide +kernel),by rw[zdh (some true) x zqp];exact hQ _ (Same.refl _)⟩) (fun Hb lb gb hlb=>?_)
 have kb:=Same.new hlb (.lst (O'.map fun q=>cbV (some true::q)))
 refine⟨la,lb,_,_,rfl,rfl,z6.of ((gb.trans kb) _ _ zj),z6.of zj,?_,fun lc hlc=>?_⟩
 ·rw[ztq,zti,zti,zti]
  exact Xa (by omega)
 have gg:=gA.trans ((((g8.trans k8).trans (g9.trans k9)).trans ka).trans (gb.trans kb))
 refine q lc _ _ (gg.trans (Same.new hlc _)) (gg.free hlc) ?_ PF
 rw[zj,ztw,ztw,ztT,ztT,ztT]
 rfl
theorem RQ (T:Txt P w K mg a)(yj:zy P w K mg base zZ k a.wM a.wN xT vA)(yF:zy P w K mg base zZ k a.tG a.tH uo ZW) :
  ∀d:Nat,zy P w K mg base zZ (k+d) a.Za a.Zb ur (V2 d)
 | 0=>by
  refine⟨fun vs H Q E h=>?_,fun A outer s H args us vs Q E _ _ _ _ h=>?_⟩
  ·obtain⟨N,p,n,f,rfl,_⟩:=h
   rfl
  ·obtain⟨N,p,n,f,_,_,h1,h2,_⟩:=h
   omega
 | d+1=>zbs T (yj.mono (ztS _ _)) (yF.mono (ztS _ _)) (RQ T yj yF d)
theorem zid (T:Txt P w K mg a)(zA:zy P w K mg base zZ k a.zM a.zN zJ (wJ a.zp))(xg:zy P w K mg base zZ k a.xU a.xV yU (Yk a.zp))(v8:zy P w K mg base zZ k a.vW a.vX wZ (uN (z7 a.zp)))(Zg:zy P w K mg base zZ k a.Za a.Zb ur (V2 9)):zy P w K mg base zZ (k+1) a.Ud a.Ue Wr (zbb a.zp):=by
 refine T.RM.F.ok zcG (fun vs H Q E h=>?_) (fun cdv A outer s H vs Q E hr h=>?_)
 ·obtain⟨b,os,rs,F,k0,rfl,_⟩:=h
  rfl
 obtain⟨b,os,rs,F,k0,rfl,hB,hk,q⟩:=h
 refine⟨_,(zf (zV (yR (pv 0) T.z9 T.zR zA hr (za (pv 1) zc)))
   (zm (zL (zu Zg hr T.Ze (za (yR (pv 0) T.z9 T.wV xg hr (za (pv 1) zc)) (za zq (za (zF zO rfl T.xP yG (za (R7 (pv 0) T.z9 T.Yc v8 hr) zc)) zc))))))),?_⟩
 have L:=yu a.zp
 have o8:=(L.ord hB).le
 obtain⟨dx,ml,rl,tl,nd,rv,tbs,znl,h⟩:=id hB
 refine⟨_,rfl,b,dx,_,rfl,h.hb,rfl,_,rfl,b,os,rs,F,k0,rfl,hB,hk,?_⟩
 refine⟨_,rfl,b,dx,_,rfl,h.hb,rfl,_,rfl,b,os,rs,F,k0,rfl,hB,hk,fun N tN=>?_⟩
 obtain⟨dx2,fs,zdy,hm⟩:=L.ins hB
 refine⟨_,rfl,b,dx2,fs,rfl,zdy,hm _ (by decide +kernel),b,os,rs,F,rfl,hB,fun l1 H1 g1 fl1 hl1=>?_⟩
 refine⟨l1,_,rfl,.inl (z6.of hl1),?_⟩
 rw[zti]
 exact⟨N,0,os.length,_,rfl,o8,ztF _,by omega,tN,fun i hi=>absurd hi (Nat.not_lt_zero _),fun l qs H2 g2 hl h2 P=>q l qs H2 (g1.trans g2) (g1.free hl) h2 P⟩
theorem zbt (T:Txt P w K mg a)(Yx:zy P w K mg base zZ k a.Ys a.Yt Zy Yl):zy P w K mg base zZ (k+1) a.Vw a.Vx YH (zdi K):=by
 refine T.VF.F.ok vJ (fun vs H Q E h=>?_) (fun cdv A outer s H vs Q E hr h=>?_)
 ·obtain⟨l,n,Ns,fs,rfl,_⟩:=h
  rfl
 obtain⟨l,n,Ns,fs,rfl,hl,hp,q⟩:=h
 refine⟨_,(zf (zG 1 vJ.nd zq)
   (zf (zG 2 vJ.nd zq)
   (zf (uz PassesOwn.never rfl (xq (pv 0)) (yO (i:=3) vJ.nd rfl (Or.inl rfl)) (zf (zG 2 vJ.nd (zP Wh (pv 2) (zP u6 (pv 1) (pv 3))))
   (zm (zG 1 vJ.nd (zP Wh (pv 1) (pv 3))))))
   (zm (zL (zu Yx hr T.Uk (za (pv 1) (za (pv 2) zc)))))))),?_⟩
 refine⟨_,rfl,l,rfl,⟨_,hl⟩,?_⟩
 have lf:=ZM hp
 refine tX (xs:=Ns.map fun N=>V.int (N:Nat)) (fun i σ H'=>∃(S A:Nat) (f3:Option V),H'=H/\zW n S (fun b=>decide (1<=zbF (fs.take i) b))/\zW n A (fun b=>decide (2<=zbF (fs.take i) b))/\σ=[some (.ref l),some (.int (S:Nat)),some (.int (A:Nat)),f3]) ⟨0,0,_,rfl,?_,?_,rfl⟩ (fun i σ H' _ ⟨_,_,_,e,_⟩=>by rw[e];exact hl) ?_ ?_
 ·exact yK (v9 n) fun b _=>rfl
 ·exact yK (v9 n) fun b _=>rfl
 ·rintro i x σ H' hx ⟨S,A,f3,rfl,tS,tA,rfl⟩
  rw[ztk] at hx
  cases hN:Ns[i]? with
  | none=>rw[hN] at hx;cases hx
  | some N =>
   rw[hN] at hx
   cases hx
   obtain⟨f,hf,tN⟩:=zgY hp hN
   refine⟨_,rfl,_,rfl,_,rfl,S,N,rfl,rfl,A,_,rfl,rfl,?_⟩
   refine⟨_,rfl,_,rfl,S,N,rfl,rfl,S|||N,A|||(S&&&N),_,rfl,yK (Vl tS tN) fun b _=>?_,yK (Vl tA (uZ tS tN)) fun b _=>?_,rfl⟩
   ·rw[yN hf,zcz]
    cases f b
    ·rw[Bool.or_false];rfl
    ·rw[Bool.or_true];exact(decide_eq_true (Nat.le_add_left 1 _)).symm
   ·rw[yN hf,zcz]
    cases f b
    ·rw[Bool.and_false,Bool.or_false];rfl
    ·rw[Bool.and_true]
     rw[ztW,Bool.or_eq_true,decide_eq_true_iff,decide_eq_true_iff,decide_eq_true_iff]
     show _↔2<=_+1
     omega
 ·rintro σ H' ⟨S,A,f3,rfl,tS,tA,rfl⟩
  rw[zti,lf,ztL] at tS tA
  refine⟨_,rfl,_,rfl,S,A,n,_,_,rfl,tS,tA,fun R tR=>q R (yK tR fun b _=>?_)⟩
  rw[ztW,ztK,Bool.not_eq_true',decide_eq_true_iff,decide_eq_false_iff_not,decide_eq_true_iff]
  omega
theorem zjQ (T:Txt P w K mg a)(RT:zy P w K mg base zZ k a.Ud a.Ue Wr (zbb a.zp))(Yy:zy P w K mg base zZ k a.X8 a.Wa Yp Rk)(QW:zy P w K mg base zZ k a.Vw a.Vx YH (zdi K))(zff:zy P w K mg base zZ k a.Rv a.Rw W8 Ph)(v8:zy P w K mg base zZ k a.vW a.vX wZ (uN (z7 a.zp))):zy P w K mg base zZ (k+1) a.zau a.zav Lf (zhs a.zp):=by
 refine T.zdo.F.ok Xc (fun vs H Q E h=>?_) (fun cdv A outer s H vs Q E hr h=>?_)
 ·obtain⟨b,os,rs,F,k0,rfl,_⟩:=h
  rfl
 obtain⟨b,os,rs,F,k0,rfl,hB,hk,q⟩:=h
 refine⟨_,(zf (zG 2 Xc.nd zaW)
   (zf (uz PassesOwn.never rfl (xq (zu RT hr T.RM (za (pv 0) (za (pv 1) zc)))) (yO (i:=3) Xc.nd rfl (Or.inl rfl)) (zm (zak (Jf hr) (pv 2) (pv 3) (zu Yy hr T.Um (za (pv 3) zc)) rfl)))
   (zf (uz PassesOwn.never rfl (xq (XM (S9 rfl) rfl T.P0 RX (za (pv 2) zc))) (yO (i:=3) Xc.nd rfl (Or.inl rfl)) (zm (yr (zQ xG (zP u6 (zg7 (Jf hr) (pv 2) (pv 3) (fun _ _=>rfl)) (zu QW hr T.VF (za (Jq rfl rfl T.P0 (pv 2)) zc))) zq (zU _)) (zm (zV (ZJ PySem.F.plainAttrs_dict PySem.F.slot_dict_pop PySem.F.type_dict_pop zlf (pv 2) (za (pv 3) zc)))) zY)))
   (zf (Yg (i:=4) Xc.nd rfl (Or.inr rfl) (zu QW hr T.VF (za (Jq rfl rfl T.P0 (pv 2)) zc)))
   (zm (zL (uM (za (XM (S9 rfl) rfl T.P0 RX (za (pv 2) zc)) (za (tV (uD:=zx zdn) (js:=[4,0]) rfl (by show ZK _ _ "table" ["own", "book"];exact lco (by decide +kernel)) rfl (zlg (pv 2)) (by show ∀j∈([4,0]:List Nat),j<5;decide) (fun cl C s₂ H₂ fp=>(zu zff hr T.Jz (za (zP u6 (pv 0) (pv 1)) (za (zF (QB (K:=K) rfl) rfl T.xP yG (za (R7 (pv 2) T.z9 T.Yc v8 hr) zc)) zc))))) zc))))))))),?_⟩
 have L:=yu a.zp
 have o8:=(L.ord hB).le
 obtain⟨T0,hT⟩:∃T0:Cb->Nat,∀c,zW os.length (T0 c) (Xr c):=⟨fun c=>(zjB os.length (Xr c)).choose,fun c=>(zjB os.length (Xr c)).choose_spec⟩
 refine fun d hd=>?_
 have gd:=Same.new hd (.dK [])
 refine⟨_,rfl,_,rfl,b,os,rs,F,k0,rfl,L.same hB gd,hk,fun pl qs H1 g1 hpl h1 PP=>?_⟩
 have lq:=PP.few o8
 have mq:∀c∈qs,c.length=os.length:=fun c hc=>((PP.mem c).mp hc).1
 have ndp:d≠pl:=zB zj hpl
 refine⟨pl,rfl,⟨_,z6.of h1⟩,?_⟩
 refine tX (xs:=qs.map cbV) (fun i σ H'=>∃f3 f4,Same H H'/\H' pl=some (.lst (qs.map cbV))/\H' d=some (.dK ((qs.take i).map (kvT T0)))/\σ=[some (.ref b),some (.int (k0:Nat)),some (.ref d),f3,f4]) ⟨_,_,gd.trans g1,h1,g1 _ _ zj,rfl⟩ (fun i σ H' _ ⟨_,_,_,h,_⟩=>z6.of h) ?_ ?_
 ·rintro i x σ H2 hx ⟨f3,f4,g,hp,hd',rfl⟩
  rw[ztk] at hx
  cases hc:qs[i]? with
  | none=>rw[hc] at hx;cases hx
  | some c =>
   rw[hc] at hx
   cases hx
   have lc:=mq c (ztn hc)
   refine⟨_,rfl,c,rfl,by omega,fun R H3 g3 tR=>?_⟩
   rw[lc] at tR
   obtain rfl:R=T0 c:=yL.YC tR (hT c) fun _ _=>rfl
   refine⟨_,rfl,_,rfl,d,_,rfl,zfO.k (k:=.inr (cbS c)) (g3 _ _ hd') ?_,?_⟩
   ·rw[zti,ztG]
    exact ztr (show _<10000 by omega) (by decide)
   refine⟨_,_,(g.trans g3).over hd _,by rw[zE (Ne.symm ndp)];exact g3 _ _ hp,?_,rfl⟩
   rw[zj,yN hc,ztw]
   have no:c∉qs.take i:=fun hm=>by
    obtain⟨hi,rfl⟩:=ztl.mp hc
    obtain⟨j,hj,ej⟩:=ztX hm
    rw[ztG] at hj
    rw[List.getElem_take] at ej
    have:=(List.pairwise_iff_getElem.mp PP.nd) j i (by omega) hi (by omega)
    exact this ej
   rw[zed _ (zeC no)]
   rfl
 rintro σ H2 ⟨f3,f4,g2,_,hd2,rfl⟩
 rw[zti,ztL] at hd2
 refine⟨_,rfl,d,_,rfl,hd2,fun ll hll=>?_⟩
 have el:(qs.map (kvT T0)).map (fun e=>kV e.1)=qs.map cbV:=by rw[ztT];rfl
 rw[el]
 have gl:=g2.trans (Same.new hll (.lst (qs.map cbV)))
 have ndl:d≠ll:=zB hd2 hll
 have hdl:upd H2 ll (.lst (qs.map cbV)) d=some (.dK (qs.map (kvT T0))):=(Same.new hll _) _ _ hd2
 have hll':upd H2 ll (.lst (qs.map cbV)) ll=some _:=zj
 generalize upd H2 ll _=H3 at gl hdl hll' ⊢
 refine⟨ll,rfl,⟨_,z6.of hll'⟩,?_⟩
 have ev:∀ks:List Cb,(ks.map (kvT T0)).map (·.2)=(ks.map T0).map fun N=>V.int (N:Nat):=fun ks=>by rw[ztT,ztT];rfl
 have pv:∀ks:List Cb,Paired (zW os.length) (ks.map T0) (ks.map Xr):=fun ks=>by
  induction ks with
  | nil=>exact .nil
  | cons c ks ih=>exact .cons (hT c) ih
 refine tX (xs:=qs.map cbV) (fun i σ H'=>∃ks f3 f4,Same H H'/\H' ll=some (.lst (qs.map cbV))/\H' d=some (.dK (ks.map (kvT T0)))/\Whi os.length (tB rs k0) qs i ks/\σ=[some (.ref b),some (.int (k0:Nat)),some (.ref d),f3,f4]) ⟨qs,_,_,gl,hll',hdl,Whi.start PP,rfl⟩ (fun i σ H' _ ⟨_,_,_,_,h,_⟩=>z6.of h) ?_ ?_
 ·rintro i x σ H4 hx ⟨ks,f3,f4,g,hl',hd',wh,rfl⟩
  rw[ztk] at hx
  cases hc:qs[i]? with
  | none=>rw[hc] at hx;cases hx
  | some c =>
   rw[hc] at hx
   cases hx
   have mc:=wh.has hc
   have get:=JM.k (k:=.inr (cbS c)) hd'
   rw[zdk mc] at get
   refine⟨_,rfl,_,rfl,d,_,rfl,get,_,rfl,d,_,rfl,hd',fun lv hlv=>?_⟩
   rw[ev ks]
   have gv:=Same.new hlv (.lst ((ks.map T0).map fun N=>V.int (N:Nat)))
   have hlv':upd H4 lv (.lst ((ks.map T0).map fun N=>V.int (N:Nat))) lv=some _:=zj
   generalize upd H4 lv _=H5 at gv hlv' ⊢
   refine⟨lv,os.length,ks.map T0,ks.map Xr,rfl,z6.of hlv',pv ks,fun R tR=>⟨T0 c,R,rfl,rfl,rfl,_,rfl,yx (fun e=>?_) (fun e=>?_)⟩⟩
   ·have e0:T0 c&&&R=0:=by
     have:=of_decide_eq_true e
     injection this with this
     exact Int.ofNat.inj this
    have no:∀b,b<2^os.length->¬Own ks c b:=fun b' hb o=>by
     have y:=yL.ZV (uZ (hT c) tR) hb
     rw[e0,Nat.zero_testBit,o.1,decide_eq_true ((own_one (wh.nd PP) mc o.1).mpr o)] at y
     cases y
    refine⟨_,rfl,.inr (.inr (.inl ⟨rfl,.inl ⟨_,gv _ _ hd'⟩⟩)),_,rfl,d,_,.inr (cbS c),_,rfl,rfl,gv _ _ hd',zdk mc,?_⟩
    rw[zjC]
    exact⟨_,_,_,(g.trans gv).over hd _,by rw[zE (Ne.symm ndl)];exact gv _ _ hl',zj,wh.gone PP hc no,rfl⟩
   ·have e0:T0 c&&&R≠0:=fun z=>e (decide_eq_true (by show V.int ((T0 c&&&R:Nat):Int)=V.int 0;rw[z];rfl))
    have yes:∃b,b<2^os.length/\Own ks c b:=by
     refine Classical.byContradiction fun z=>e0 (yL.YC (uZ (hT c) tR) (v9 os.length) fun b' hb=>?_)
     cases h1:Xr c b' with
     | false=>rfl
     | true =>
      rw[Bool.true_and]
      refine decide_eq_false fun h2=>z ⟨b',hb,(own_one (wh.nd PP) mc h1).mp h2⟩
    exact⟨_,_,_,g.trans gv,gv _ _ hl',gv _ _ hd',wh.stay hc yes,rfl⟩
 rintro σ H4 ⟨ks,f3,f4,g,hl',hd',wh,rfl⟩
 rw[zti] at wh
 have nd:=wh.nd PP
 have lk:ks.length<=2187:=ztE wh.sub.length_le lq
 refine⟨_,rfl,d,_,rfl,hd',fun lv hlv=>?_⟩
 rw[ev ks]
 have gv:=Same.new hlv (.lst ((ks.map T0).map fun N=>V.int (N:Nat)))
 have hlv':upd H4 lv (.lst ((ks.map T0).map fun N=>V.int (N:Nat))) lv=some _:=zj
 generalize upd H4 lv _=H5 at gv hlv' ⊢
 refine⟨lv,os.length,ks.map T0,ks.map Xr,rfl,z6.of hlv',pv ks,fun R tR=>?_⟩
 have hd5:=gv _ _ hd'
 have g5:=g.trans gv
 refine⟨_,rfl,d,_,rfl,hd5,fun cl hcl=>?_⟩
 have ek:(ks.map (kvT T0)).map (fun e=>kV e.1)=ks.map cbV:=by rw[ztT];rfl
 rw[ek]
 have gc:=Same.new hcl (.lst (ks.map cbV))
 have hcl':upd H5 cl (.lst (ks.map cbV)) cl=some _:=zj
 have fcl:=g5.free hcl
 have ndc:d≠cl:=zB hd5 hcl
 generalize upd H5 cl _=H6 at gc hcl' ⊢
 refine⟨_,rfl,d,_,rfl,gc _ _ hd5,fun o=>?_⟩
 have gG:=(g5.trans gc).over hd (.frz o (.dK (ks.map (kvT T0))))
 have hG:upd H6 d (.frz o (.dK (ks.map (kvT T0)))) d=some _:=zj
 have cG:upd H6 d (.frz o (.dK (ks.map (kvT T0)))) cl=some (.lst (ks.map cbV)):=by rw[zE (Ne.symm ndc)];exact hcl'
 generalize upd H6 d (.frz o (.dK (ks.map (kvT T0))))=G at gG hG cG ⊢
 have lm:(ks.map (kvT T0)).length=ks.length:=zti _
 refine zlh (fun i ys H'=>Same G H'/\∃ps rows,ys=ps.map V.ref/\rows.length=i/\Paired (fun p r=>G p=none/\H' p=some (.lst (Sg r))) ps rows/\ps.Nodup/\∀(j:Nat) c r,ks[j]?=some c->rows[j]?=some r->r.length=os.length/\Own ks c (uH r)) ⟨Same.refl _,[],[],rfl,rfl,.nil,.nil,fun j c r _ e=>by cases e⟩ (by rw[lm];exact Xa (by omega)) ?_ ?_ ?_
 ·rintro i ys H' hi ⟨g',ps,rows,rfl,e,pp,_⟩
  exact⟨g' _ _ hG,by rw[zti,ZM pp,e];exact zty _⟩
 ·rintro i p ys H' Q0 hp ⟨g',ps,rows,rfl,e,pp,np,ow⟩ hn
  rw[ztk] at hp
  cases hc:ks[i]? with
  | none=>rw[hc] at hp;cases hp
  | some c =>
   rw[hc] at hp
   cases hp
   have hB':=L.same hB (gG.trans g')
   obtain⟨dx2,fs2,zdy,hm⟩:=L.ins hB'
   have an:yL.anyB os.length (fun b=>Xr c b&&decide (zbF (ks.map Xr) b=1))=true:=by
    obtain⟨b',hb,o'⟩:=wh.done c (ztn hc)
    rw[yL.anyB_iff]
    exact⟨b',hb,by rw[o'.1,decide_eq_true ((own_one nd (ztn hc) o'.1).mpr o')];rfl⟩
   refine⟨_,rfl,_,rfl,T0 c,R,rfl,rfl,_,rfl,b,dx2,fs2,rfl,zdy,hm _ (by decide +kernel),b,os,rs,F,rfl,hB',fun l1 H7 g7 fl1 hl1=>?_⟩
   refine⟨l1,_,rfl,.inl (z6.of hl1),?_⟩
   rw[zti]
   refine⟨T0 c&&&R,os.length,_,rfl,o8,uZ (hT c) tR,an,fun l2 H8 r g8 hl2 h2 hd2=>hn _ _ ⟨g'.trans (g7.trans g8),ps++[l2],rows++[r],by rw[ztw];rfl,by rw[ztq,e];rfl,?_,?_,?_⟩⟩
   ·exact Kq (Vm (fun _ _ z=>⟨z.1,(g7.trans g8) _ _ z.2⟩) pp) (.cons ⟨(g'.trans g7).free hl2,h2⟩ .nil)
   ·refine List.nodup_append.mpr ⟨np,List.pairwise_singleton _ _,fun x hx y hy=>?_⟩
    rw[List.mem_singleton.mp hy]
    obtain⟨j,hj⟩:=List.mem_iff_getElem?.mp hx
    obtain⟨r',_,_,z⟩:=zgY pp hj
    exact zB (g7 _ _ z) hl2
   ·intro j c' r' h1 h2'
    have mr:=List.mem_filter.mp (List.mem_of_head? hd2)
    rcases Nat.lt_or_ge j rows.length with z | z
    ·rw[ztP z] at h2'
     exact ow j c' r' h1 h2'
    ·have hj:j<(rows++[r]).length:=(ztl.mp h2').1
     rw[ztq,ztQ] at hj
     have ej:j=i:=by omega
     subst ej
     rw[List.getElem?_append_right z,e,Nat.sub_self] at h2'
     obtain rfl:=ztN h2'
     obtain rfl:=ztN (hc.symm.trans h1)
     have y:=mr.2
     rw[ztK] at y
     exact⟨yL.Mt _ _ mr.1,(own_one nd (ztn hc) y.1).mp (of_decide_eq_true y.2)⟩
 ·rintro ys H' rl ⟨g',ps,rows,rfl,e,pp,np,ow⟩ hrl
  have gr:=Same.new hrl (.lst (ps.map V.ref))
  refine⟨by show 2<=sizeLine;decide,fun t ht=>?_⟩
  have gt:=Same.new ht (.tup [.ref cl,.ref rl])
  have gg:=gG.trans (g'.trans gr)
  refine q t cl rl ks ps rows _ (gg.trans gt) (gg.free ht) fcl ((gG.trans g').free hrl) (zB (g' _ _ cG) hrl) zj ((g'.trans (gr.trans gt)) _ _ cG) (gt _ _ zj) (Vm (fun p r z=>⟨gG.free z.1,Ne.symm (zB cG z.1),zB z.2 hrl,(gr.trans gt) _ _ z.2⟩) pp) np ⟨fun c hc=>?_,PP.up.sublist wh.sub,wh.cov,by rw[e,lm],ow⟩ lk
  exact(PP.mem c).mp (wh.sub.subset hc)
theorem K8 (T:Txt P w K mg a)(wO:zy P w K mg base zZ k a.xM a.xO yS (Wj a.zp)):zy P w K mg base zZ (k+1) a.uc a.ud wU (Rj a.zp K):=by
 refine T.Zk.F.ok tD (fun vs H Q E h=>?_) (fun cdv A outer s H vs Q E hr h=>?_)
 ·obtain⟨b,l,os,rs,F,qs,rfl,_⟩:=h
  rfl
 obtain⟨b,l,os,rs,F,qs,rfl,hB,hl,hq,q⟩:=h
 refine⟨_,(zm (uz PassesOwn.never rfl (xq (pv 1)) (yO (i:=2) tD.nd rfl (Or.inl rfl)) (zm (zV (zu wO hr T.vM (za (pv 0) (za (pv 2) zc))))))),?_⟩
 refine⟨_,rfl,l,rfl,⟨_,hl⟩,?_⟩
 refine tX (xs:=qs.map fun q=>V.str (cbS q)) (fun i σ H'=>∃f2,Same H H'/\σ=[some (.ref b),some (.ref l),f2]) ⟨_,Same.refl _,rfl⟩ (fun i σ H' _ ⟨_,g,_⟩=>g.seq hl) ?_ ?_
 ·rintro i x σ H' hx ⟨f2,g,rfl⟩
  obtain⟨c,hc,rfl⟩:=List.mem_map.mp (ztn hx)
  exact⟨_,rfl,_,rfl,b,os,rs,F,c,rfl,(yu a.zp).same hB g,hq c hc,fun H2 g2=>⟨_,g.trans g2,rfl⟩⟩
 ·rintro σ H' ⟨f2,g,rfl⟩
  exact q _ g
theorem zfg (T:Txt P w K mg a)(zA:zy P w K mg base zZ k a.zM a.zN zJ (wJ a.zp))(Xk:zy P w K mg base zZ k a.uc a.ud wU (Rj a.zp K))(Yy:zy P w K mg base zZ k a.X8 a.Wa Yp Rk)(xg:zy P w K mg base zZ k a.xU a.xV yU (Yk a.zp)):zy P w K mg base zZ (k+1) a.uT a.uU vV (Qh a.zp K):=by
 refine T.Zu.F.ok Zz (fun vs H Q E h=>?_) (fun cdv A outer s H vs Q E hr h=>?_)
 ·obtain⟨b,l,os,rs,F,k0,qs,rfl,_⟩:=h
  rfl
 obtain⟨b,l,os,rs,F,k0,qs,rfl,hB,hk,hl,hq,q⟩:=h
 refine⟨_,(zf (zV (yR (pv 0) T.z9 T.zR zA hr (za (pv 1) zc)))
   (zf (zV (zu Xk hr T.Zk (za (pv 0) (za (pv 2) zc))))
   (zf (zG 3 Zz.nd zq)
   (zf (uz PassesOwn.never rfl (xq (pv 2)) (yO (i:=4) Zz.nd rfl (Or.inl rfl)) (zm (zG 3 Zz.nd (zP Wh (pv 3) (zu Yy hr T.Um (za (pv 4) zc))))))
   (zm (zL (ZD xG (pv 3) (yR (pv 0) T.z9 T.wV xg hr (za (pv 1) zc)) (zU _)))))))),?_⟩
 have L:=yu a.zp
 have o8:=(L.ord hB).le
 obtain⟨dx,ml,rl,tl,nd,rv,tbs,znl,h⟩:=id hB
 refine⟨_,rfl,b,dx,_,rfl,h.hb,rfl,_,rfl,b,os,rs,F,k0,rfl,hB,hk,?_⟩
 refine⟨_,rfl,_,rfl,b,l,os,rs,F,qs,rfl,hB,hl,hq,fun H1 g1=>?_⟩
 refine⟨_,rfl,l,rfl,⟨_,g1.seq hl⟩,?_⟩
 refine tX (xs:=qs.map fun q=>V.str (cbS q)) (fun i σ H'=>∃(N:Nat) (f4:Option V),Same H H'/\zW os.length N (fun b=>(qs.take i).any fun c=>Xr c b)/\σ=[some (.ref b),some (.int (k0:Nat)),some (.ref l),some (.int (N:Nat)),f4]) ⟨0,_,g1,v9 _,rfl⟩ (fun i σ H' _ ⟨_,_,g,_⟩=>g.seq hl) ?_ ?_
 ·rintro i x σ H' hx ⟨N,f4,g,tN,rfl⟩
  rw[ztk] at hx
  cases hc:qs[i]? with
  | none=>rw[hc] at hx;cases hx
  | some c =>
   rw[hc] at hx
   cases hx
   have lc:=hq c (ztn hc)
   refine⟨_,rfl,_,rfl,c,rfl,by omega,fun R H2 g2 tR=>⟨N,R,rfl,rfl,_,_,g.trans g2,?_,rfl⟩⟩
   rw[lc] at tR
   refine yK (Vl tN tR) fun b _=>?_
   rw[yN hc,List.any_append,List.any_cons,List.any_nil,Bool.or_false]
 ·rintro σ H' ⟨N,f4,g,tN,rfl⟩
  rw[zti,ztL] at tN
  have hB':=L.same hB g
  obtain⟨dx2,ml2,rl2,tl2,Nk,rv2,zsN,znk,h2⟩:=id hB'
  refine⟨_,rfl,_,rfl,b,dx2,_,rfl,h2.hb,rfl,_,rfl,b,os,rs,F,k0,rfl,hB',hk,fun M tM=>⟨rfl,?_⟩⟩
  have e:decide (V.int (N:Int)=V.int (M:Int))=zlj os.length (tB rs k0) qs:=by
   rw[ztW,decide_eq_true_iff,zjD]
   constructor
   ·intro z b' hb
    injection z with z
    have z:N=M:=Int.ofNat.inj z
    subst z
    rw[<-yL.ZV tN hb]
    exact yL.ZV tM hb
   ·intro z
    rw[yL.YC tN tM z]
  rw[e]
  exact q _ g
theorem zfh (T:Txt P w K mg a)(yq:zy P w K mg base zZ k a.vY a.vZ vf (Q7)):zy P w K mg base zZ (k+1) a.Tq a.Tr Xz KD:=by
 refine T.Lr.F.ok zbK (fun vs H Q E h=>?_) (fun cdv A outer s H vs Q E hr h=>?_)
 ·obtain⟨c,n,rfl,_⟩:=h
  rfl
 obtain⟨c,n,rfl,n8,q⟩:=h
 refine⟨_,(zm (zL (ZJ PySem.F.plainAttrs_str PySem.F.slot_str_join PySem.F.type_str_join zju yt (za (tV (uD:=zx Td) (js:=[0]) rfl (by show ZK _ _ "k" ["cell"];exact lco (by decide +kernel)) rfl (XJ rfl T.YZ (za (pv 1) zc)) (by show ∀j∈([0]:List Nat),j<2;decide) (fun cl C s₂ H₂ fp=>(yh zfG yt (zu yq hr T.yD (za (pv 1) (za (pv 0) (za zq zc)))) (fun _ _=>rfl)))) zc)))),?_⟩
 refine⟨rfl,_,rfl,(n:Int),rfl,by omega,by omega,?_⟩
 rw[Int.toNat_natCast]
 refine zc9 (n:=n) (fun i ys H'=>Same H H'/\∃qs:Cb,ys=qs.map (fun s=>V.str (cbS [s]))/\qs.length=i) ⟨Same.refl _,[],rfl,rfl⟩ (ztB (yc (by omega))) ?_ ?_ ?_
 ·rintro i ys H' _ ⟨_,zs,rfl,e⟩
  rw[zti,e];exact zty _
 ·rintro i ys H' Q0 hi ⟨g,zs,rfl,e⟩ hn
  refine⟨_,rfl,_,rfl,c,0+i,3,?_,by omega,by decide,by decide,fun r r0 r1=>?_⟩
  ·show [V.int c,V.int ((0:Int)+(i:Int)),V.int 3]=_
   rw[Int.zero_add,Nat.zero_add]
  have:∃s:Option Bool,atI (Str.ofString "01-").cps.toList r=some (Qd s):=by
   have r3:r=0\/r=1\/r=2:=by omega
   rcases r3 with rfl | rfl | rfl
   ·exact⟨some false,by decide +kernel⟩
   ·exact⟨some true,by decide +kernel⟩
   ·exact⟨none,by decide +kernel⟩
  obtain⟨s0,hs⟩:=this
  exact⟨_,_,_,rfl,rfl,by decide +kernel,hs,hn _ _ ⟨g,zs++[s0],by rw[ztw];rfl,by rw[ztq,e];rfl⟩⟩
 ·rintro ys H' p ⟨g,zs,rfl,e⟩ hp
  exact⟨p,zs,rfl,rfl,z6.of zj,by omega,q zs _ (g.trans (Same.new hp _)) e⟩
theorem zdB (T:Txt P w K mg a)(ex:Addr):zcv P w K mg base ex (k+1) a.YQ a.YS tZ (Mz K a.yW [a.wF,a.vL,a.z8,a.Zj,a.xY,a.yX,a.xZ,a.yg,a.uV] ex):=by
 refine T.YW.F.okH Z4 (fun vs H Q E h=>?_) (fun cdv A outer s H vs Q E hr hh h=>?_)
 ·obtain⟨D,n,rfl,_⟩:=h
  rfl
 obtain⟨D,n,rfl,he,xc,hn9,hcs,q⟩:=h
 refine⟨_,(zf (Yg (i:=1) Z4.nd rfl (Or.inr rfl) (vg (za (zF (uh (K:=K) rfl) rfl T.yI yw (za (pv 0) (za (wW (v:=.ref a.wF) rfl T.zh5 rfl) zc))) (za (zF (uh (K:=K) rfl) rfl T.yI yw (za (pv 0) (za (wW (v:=.ref a.vL) rfl T.zjK rfl) zc))) (za (zF (uh (K:=K) rfl) rfl T.yI yw (za (pv 0) (za (wW (v:=.ref a.z8) rfl T.zeW rfl) zc))) (za (zF (uh (K:=K) rfl) rfl T.yI yw (za (pv 0) (za (wW (v:=.ref a.Zj) rfl T.zll rfl) zc))) zc))))))
   (zf (Yg (i:=1) Z4.nd rfl (Or.inr rfl) (zP zc5 (pv 1) (vg (za (zF (uh (K:=K) rfl) rfl T.yI yw (za (pv 0) (za (wW (v:=.ref a.xY) rfl T.zgj rfl) zc))) (za (zF (uh (K:=K) rfl) rfl T.yI yw (za (pv 0) (za (wW (v:=.ref a.yX) rfl T.zeX rfl) zc))) (za (zF (uh (K:=K) rfl) rfl T.yI yw (za (pv 0) (za (wW (v:=.ref a.xZ) rfl T.zgk rfl) zc))) (za (zF (uh (K:=K) rfl) rfl T.yI yw (za (pv 0) (za (wW (v:=.ref a.yg) rfl T.zcH rfl) zc))) zc)))))))
   (zf (zV (ZJ PySem.F.plainAttrs_list PySem.F.slot_list_append PySem.F.type_list_append uX (pv 1) (za (zF (uh (K:=K) rfl) rfl T.yI yw (za (pv 0) (za (wW (v:=.ref a.uV) rfl T.zgl rfl) zc))) zc)))
   (zf (Yg (i:=2) Z4.nd rfl (Or.inr rfl) (zgX (xs:=["order", "mark", "room", "row", "number", "weights", "shares", "cover", "great"]) (by rfl)))
   (zm (zL (uM (za yt (za (zgT (rd:=zhi ex) (uD:=zx Vr) (js:=[2,1,0]) rfl (by show ZK _ _ "k" ["terms", "kinds", "e"];exact lco (by decide +kernel)) (fun _ _ _ _ _ _ _=>hh) (zf0 rfl T.YZ (za zq zc)) (by show ∀j∈([2,1,0]:List Nat),j<3;decide) (fun cl C s₂ H₂ fp pins s' σ' H' Q I h=>zjf I h (PW.pt (zaB (zck (K:=K) rfl (yh (Mg (K:=K) rfl) (pv 2) (pv 0) (fun _ _=>rfl)) (fun _=>rfl)) (Nq (zck (K:=K) rfl (zF (uh (K:=K) rfl) rfl T.yI yw (za (pv 3) (za (zaf (v:=.ty "ValueError") rfl T.zdq zbE rfl) zc))) (fun _=>rfl)))))) (fun cl C s₂ H₂ fp=>(yh (Mg (K:=K) rfl) (pv 1) (pv 0) (fun _ _=>rfl)))) zc))))))))),?_⟩
 have nb:=T.xd
 simp only[List.nodup_cons,List.mem_cons,ztJ,or_false,not_or] at nb
 have nb:=nb.1
 have cl:=xc.zqm
 have s1:∀{H':Hp},Same H H'->H' ex=some (zbC ex D):=fun g=>g _ _ he
 have ne:∀C,C∈[a.wF,a.vL,a.z8,a.Zj,a.xY,a.yX,a.xZ,a.yg,a.uV]->a.yW≠C:=by
  intro C hC
  simp only[List.mem_cons,ztJ,or_false] at hC
  rcases hC with rfl | rfl | rfl | rfl | rfl | rfl | rfl | rfl | rfl<;>simp[nb]
 refine⟨_,rfl,ex,D,_,_,rfl,he,cl,rfl,U6 xc T.zgm (ne _ (by simp)),_,rfl,ex,D,_,_,rfl,he,cl,rfl,U6 xc T.zh6 (ne _ (by simp)),_,rfl,ex,D,_,_,rfl,he,cl,rfl,U6 xc T.zh7 (ne _ (by simp)),_,rfl,ex,D,_,_,rfl,he,cl,rfl,U6 xc T.zjL (ne _ (by simp)),by show 4<=sizeLine;decide,fun l1 h1=>?_⟩
 have g1:=Same.new h1 (.lst [.bl (decide (D=a.wF)),.bl (decide (D=a.vL)),.bl (decide (D=a.z8)),.bl (decide (D=a.Zj))])
 have e1:=s1 g1
 have f1:upd H l1 (.lst [.bl (decide (D=a.wF)),.bl (decide (D=a.vL)),.bl (decide (D=a.z8)),.bl (decide (D=a.Zj))]) l1=some _:=zj
 generalize upd H l1 _=H1 at g1 e1 f1
 refine⟨_,rfl,_,rfl,ex,D,_,_,rfl,e1,cl,rfl,U6 xc T.zeZ (ne _ (by simp)),_,rfl,ex,D,_,_,rfl,e1,cl,rfl,U6 xc T.zdp (ne _ (by simp)),_,rfl,ex,D,_,_,rfl,e1,cl,rfl,U6 xc T.ze0 (ne _ (by simp)),_,rfl,ex,D,_,_,rfl,e1,cl,rfl,U6 xc T.zgn (ne _ (by simp)),by show 4<=sizeLine;decide,fun l2 h2=>?_⟩
 have g2:=Same.new h2 (.lst [.bl (decide (D=a.xY)),.bl (decide (D=a.yX)),.bl (decide (D=a.xZ)),.bl (decide (D=a.yg))])
 have f2:upd H1 l2 (.lst [.bl (decide (D=a.xY)),.bl (decide (D=a.yX)),.bl (decide (D=a.xZ)),.bl (decide (D=a.yg))]) l2=some _:=zj
 generalize upd H1 l2 _=H2 at g2 f2
 refine⟨l1,l2,_,_,rfl,rfl,z6.of (g2 _ _ f1),z6.of f2,by show 8<=sizeLine;decide,fun l3 h3=>?_⟩
 have n3:H l3=none:=(g1.trans g2).free h3
 have g3:=Same.new h3 (.lst ([.bl (decide (D=a.wF)),.bl (decide (D=a.vL)),.bl (decide (D=a.z8)),.bl (decide (D=a.Zj))]++[.bl (decide (D=a.xY)),.bl (decide (D=a.yX)),.bl (decide (D=a.xZ)),.bl (decide (D=a.yg))]))
 have f3:upd H2 l3 (.lst ([.bl (decide (D=a.wF)),.bl (decide (D=a.vL)),.bl (decide (D=a.z8)),.bl (decide (D=a.Zj))]++[.bl (decide (D=a.xY)),.bl (decide (D=a.yX)),.bl (decide (D=a.xZ)),.bl (decide (D=a.yg))])) l3=some _:=zj
 generalize upd H2 l3 _=H3 at g3 f3
 have g03:=(g1.trans g2).trans g3
 refine⟨_,rfl,.inl ⟨rfl,_,z6.of f3⟩,_,rfl,ex,D,_,_,rfl,s1 g03,cl,rfl,U6 xc T.ze1 (ne _ (by simp)),l3,_,_,rfl,rfl,f3,by show 8<sizeLine;decide,?_⟩
 refine⟨by show 9<=sizeLine;decide,fun l4 h4=>?_⟩
 have ev:([.bl (decide (D=a.wF)),.bl (decide (D=a.vL)),.bl (decide (D=a.z8)),.bl (decide (D=a.Zj))]++[.bl (decide (D=a.xY)),.bl (decide (D=a.yX)),.bl (decide (D=a.xZ)),.bl (decide (D=a.yg))]++[V.bl (decide (D=a.uV))]:List V)=((List.range 9).map (fun i=>decide (i=n))).map V.bl:=by
  rw[<-hcs];rfl
 rw[ev] at h4 ⊢
 have g4:Same H (upd H3 l3 (.lst (((List.range 9).map (fun i=>decide (i=n))).map V.bl))):=g03.over n3 _
 have f4:upd H3 l3 (.lst (((List.range 9).map (fun i=>decide (i=n))).map V.bl)) l3=some _:=zj
 generalize upd H3 l3 _=H4 at h4 g4 f4 ⊢
 have g5:=g4.trans (Same.new h4 (.lst (Xg.map V.str)))
 have f5:upd H4 l4 (.lst (Xg.map V.str)) l4=some _:=zj
 have f4':=(Same.new h4 (.lst (Xg.map V.str))) _ _ f4
 refine⟨9,rfl,by decide,by decide,?_⟩
 have key:∀i:Nat,i<9->(((List.range 9).map (fun i=>decide (i=n))).map V.bl)[i]?=some (.bl (decide (i=n))):=fun i hi=>by
  rw[ztk,ztk,List.getElem?_range hi]
  rfl
 have kt:∀i:Nat,i<9->(Xg.map V.str)[i]?=some (.str (Xg.getD i "")):=fun i hi=>by
  have:i<Xg.length:=hi
  rw[ztk,ztv,ztj this]
  rfl
 refine zk3 (n:=9) (fun i ys H'=>Same (upd H4 l4 (.lst (Xg.map V.str))) H'/\ys=if n<i then [.str (Xg.getD n "")] else []) ⟨Same.refl _,by rw[if_neg (Nat.not_lt_zero _)]⟩ (by decide) ?_ ?_ ?_ ?_
 ·rintro i ys H' _ ⟨_,rfl⟩
  split
  ·show 1<=i
   omega
  ·exact ztF _
 ·rintro ys H' ⟨g,_⟩
  exact⟨D,s1 (g5.trans g)⟩
 ·rintro i ys H' N1 N2 hi ⟨g,rfl⟩ h1 h2
  have ei:(0:Int)+(i:Int)=(i:Int):=by omega
  refine⟨_,rfl,_,rfl,l3,_,_,.bl (decide (i=n)),rfl,rfl,z6.of (g _ _ f4'),by rw[ei];exact vR (key i hi),_,rfl,?_⟩
  by_cases z:i=n
  ·subst z
   rw[decide_eq_true rfl]
   refine Xf ⟨_,rfl,ex,D,_,_,rfl,s1 (g5.trans g),cl,rfl,zm5 xc,_,rfl,Xf ?_⟩
   refine⟨_,rfl,_,rfl,l4,_,_,_,rfl,rfl,z6.of (g _ _ f5),by rw[ei];exact vR (kt i hi),h1 _ _ ⟨g,?_⟩⟩
   rw[if_neg (Nat.lt_irrefl _),if_pos (Nat.lt_succ_self _)]
   rfl
  ·rw[decide_eq_false z]
   refine Xe (Xe (h2 _ ⟨g,?_⟩))
   by_cases y:n<i
   ·rw[if_pos y,if_pos (by omega)]
   ·rw[if_neg y,if_neg (by omega)]
 ·rintro ys H' p ⟨g,rfl⟩ hp
  rw[if_pos hn9]
  refine⟨by show 2<=sizeLine;decide,fun t ht=>?_⟩
  have g7:=Same.new hp (.lst [.str (Xg.getD n "")])
  have g8:=Same.new ht (.tup [.str "refused", .ref p])
  exact q t p _ (((g5.trans g).trans g7).trans g8) zj (g8 _ _ zj)
theorem Sq (T:Txt P w K mg a):zy P w K mg base (uF P w) (k+1) a.zM a.zN zJ (W5 a.zp a.z8):=by
 refine T.zR.F.okE Xb (fun vs H Q E h=>?_) (fun cdv A outer s H vs Q E hr h=>?_)
 ·obtain⟨b,os,rs,F,j,rfl,_⟩:=h
  rfl
 obtain⟨b,os,rs,F,j,rfl,⟨dx,ml,rl,tl,nd,rv,ts,kvs,h⟩,hk,hi,q⟩:=h
 refine⟨_,(zm (yr (PW.pt (Sw (zQ zdW (pv 1) zq (zU _)) (Vi (zQ ziA (pv 1) (zF zO rfl T.xP yG (za (ZF (pv 0) rfl) zc)) (zU _))))) (zm (zer rfl rfl T.K3.own rfl T.zeW zhh (za (zm2 (zet zm0 (zet (zm1 (pv 1)) zkZ))) zc))) zY)),?_⟩
 have hl:=h.len
 refine⟨_,rfl,_,_,rfl,rfl,_,rfl,yx (fun c=>?_) (fun c=>?_)⟩
 ·exact⟨.int j,rfl,j,rfl,hi,fun x=>⟨by show 1<=sizeLine;decide,q⟩⟩
 refine⟨_,rfl,_,rfl,b,a.zp,dx,_,_,rfl,h.hb,T.z9,T.uy,rfl,rl,_,rfl,.inl (z6.of h.hr),_,_,rfl,rfl,_,rfl,yx (fun _=>?_) (fun c2=>?_)⟩
 ·exact⟨.int j,rfl,j,rfl,hi,fun x=>⟨by show 1<=sizeLine;decide,q⟩⟩
 ·refine absurd hk ?_
  have c:=of_decide_eq_false (Bool.eq_false_iff.mpr c)
  have c2:=of_decide_eq_false (Bool.eq_false_iff.mpr c2)
  rintro (z | z)<;>omega
theorem K9 (T:Txt P w K mg a)(Us:zy P w K mg base zZ k a.Ql a.Qm V7 (Qe a.zp)):zy P w K mg base (uF P w) (k+1) a.xM a.xO yS (W6 a.zp a.yg):=by
 refine T.vM.F.okE T6 (fun vs H Q E h=>?_) (fun cdv A outer s H vs Q E hr h=>?_)
 ·obtain⟨b,os,rs,F,x,rfl,_⟩:=h
  rfl
 obtain⟨b,os,rs,F,x,rfl,hB,ax,lx,hc,q⟩:=h
 have Us:=Us.lift (CX:=uF P w)
 refine⟨_,(zm (yr (Ye (yM (yE vo Us hr T.K1 (za (pv 0) (za (pv 1) zc))) (fun _=>rfl))) (zm (zer rfl rfl T.PX.own rfl T.zcH zhh (za yt zc))) zY)),?_⟩
 refine⟨_,rfl,_,rfl,b,os,rs,F,x,rfl,hB,ax,lx,fun H1 g1=>?_⟩
 rw[hc]
 exact⟨_,rfl,Xf ⟨by show 1<=sizeLine;decide,q _ g1⟩⟩
theorem zbV (T:Txt P w K mg a)(zA:zy P w K mg base zZ k a.zM a.zN zJ (wJ a.zp))(wO:zy P w K mg base (uF P w) k a.xM a.xO yS (W6 a.zp a.yg)):zy P w K mg base (uF P w) (k+1) a.wz a.wA xK (V1 a.zp a.yg):=by
 refine T.wB.F.okE Tc (fun vs H Q E h=>?_) (fun cdv A outer s H vs Q E hr h=>?_)
 ·obtain⟨b,os,rs,F,k0,x,rfl,_⟩:=h
  rfl
 obtain⟨b,os,rs,F,k0,x,rfl,hB,hk,ax,lx,hc,q⟩:=h
 have zA:=zA.lift (CX:=uF P w)
 refine⟨_,(zf (zV (Zw vo (pv 0) T.z9 T.zR zA hr (za (pv 1) zc)))
   (zf (zV (yE vo wO hr T.vM (za (pv 0) (za (pv 2) zc))))
   vq)),?_⟩
 obtain⟨dx,_,_,_,_,_,_,_,h0⟩:=id hB
 refine⟨_,rfl,b,dx,_,rfl,h0.hb,rfl,_,rfl,b,os,rs,F,k0,rfl,hB,hk,?_⟩
 exact⟨_,rfl,_,rfl,b,os,rs,F,x,rfl,hB,ax,lx,hc,q⟩
theorem zdC (T:Txt P w K mg a)(vP:zy P w K mg base (uF P w) k a.wz a.wA xK (V1 a.zp a.yg))(G_is_within':zy P w K mg base zZ k a.wz a.wA xK (Rn a.zp))(tU:zy P w K mg base zZ k a.Wb a.Wc Yr (X3)):zy P w K mg base (uF P w) (k+1) a.WL a.WM Yq (V1 a.zp a.yg):=by
 refine T.TJ.F.okE Ru (fun vs H Q E h=>?_) (fun cdv A outer s H vs Q E hr h=>?_)
 ·obtain⟨b,os,rs,F,k0,x,rfl,_⟩:=h
  rfl
 obtain⟨b,os,rs,F,k0,x,rfl,hB,hk,ax,lx,hc,q⟩:=h
 have tU:=tU.lift (CX:=uF P w)
 refine⟨_,(zm (zL (Sx (yE vo vP hr T.wB (za (pv 0) (za (pv 1) (za (pv 2) zc)))) (Ke (zfq (zF (za4 rfl) rfl T.zjM zfY (za (tV (uD:=zx Wq) (js:=[0,1]) rfl (by show ZK _ _ "wider" ["book", "room"];exact lco (by decide +kernel)) rfl (xq (yE vo tU hr T.Qo (za (pv 2) zc))) (by show ∀j∈([0,1]:List Nat),j<3;decide) (fun cl C s₂ H₂ fp=>(zu G_is_within' hr T.wB (za (pv 1) (za (pv 2) (za (pv 0) zc)))))) zc))))))),?_⟩
 exact⟨_,rfl,_,rfl,_,rfl,b,os,rs,F,k0,x,rfl,hB,hk,ax,lx,hc,q⟩
theorem zbW (T:Txt P w K mg a)
  (zA:zy P w K mg base (uF P w) k a.zM a.zN zJ (W5 a.zp a.z8)):zy P w K mg base (uF P w) (k+1) a.wz a.wA xK (wY a.zp a.z8 1):=by
 refine T.wB.F.okE Tc (fun vs H Q E h=>?_) (fun cdv A outer s H vs Q E hr h=>?_)
 ·obtain⟨b,os,rs,F,i,xs,rfl,lx,_⟩:=h
  show xs.length+1+1=_
  rw[lx]
  rfl
 obtain⟨b,os,rs,F,i,xs,rfl,lx,hB,bi,si,q⟩:=h
 match xs,lx with
 | [v0],_ =>
 have L:=yu a.zp
 refine⟨_,(zf (zV (Zw vo (pv 0) T.z9 T.zR zA hr (za (pv 1) zc)))
   vq),?_⟩
 obtain⟨dx,_,_,_,_,_,_,_,h1⟩:=id hB
 exact⟨_,rfl,b,dx,_,rfl,h1.hb,rfl,_,rfl,b,os,rs,F,i,rfl,hB,bi,si,q _ (Same.refl _)⟩
theorem zgy (T:Txt P w K mg a)
  (zA:zy P w K mg base (uF P w) k a.zM a.zN zJ (W5 a.zp a.z8)):zy P w K mg base (uF P w) (k+1) a.Ud a.Ue Wr (wY a.zp a.z8 0):=by
 refine T.RM.F.okE zcG (fun vs H Q E h=>?_) (fun cdv A outer s H vs Q E hr h=>?_)
 ·obtain⟨b,os,rs,F,i,xs,rfl,lx,_⟩:=h
  show xs.length+1+1=_
  rw[lx]
  rfl
 obtain⟨b,os,rs,F,i,xs,rfl,lx,hB,bi,si,q⟩:=h
 match xs,lx with
 | [],_ =>
 have L:=yu a.zp
 refine⟨_,(zf (zV (Zw vo (pv 0) T.z9 T.zR zA hr (za (pv 1) zc)))
   vq),?_⟩
 obtain⟨dx,_,_,_,_,_,_,_,h1⟩:=id hB
 exact⟨_,rfl,b,dx,_,rfl,h1.hb,rfl,_,rfl,b,os,rs,F,i,rfl,hB,bi,si,q _ (Same.refl _)⟩
theorem zdD (T:Txt P w K mg a)
  (zA:zy P w K mg base (uF P w) k a.zM a.zN zJ (W5 a.zp a.z8)):zy P w K mg base (uF P w) (k+1) a.uT a.uU vV (wY a.zp a.z8 1):=by
 refine T.Zu.F.okE Zz (fun vs H Q E h=>?_) (fun cdv A outer s H vs Q E hr h=>?_)
 ·obtain⟨b,os,rs,F,i,xs,rfl,lx,_⟩:=h
  show xs.length+1+1=_
  rw[lx]
  rfl
 obtain⟨b,os,rs,F,i,xs,rfl,lx,hB,bi,si,q⟩:=h
 match xs,lx with
 | [v0],_ =>
 have L:=yu a.zp
 refine⟨_,(zf (zV (Zw vo (pv 0) T.z9 T.zR zA hr (za (pv 1) zc)))
   vq),?_⟩
 obtain⟨dx,_,_,_,_,_,_,_,h1⟩:=id hB
 exact⟨_,rfl,b,dx,_,rfl,h1.hb,rfl,_,rfl,b,os,rs,F,i,rfl,hB,bi,si,q _ (Same.refl _)⟩
theorem zie (T:Txt P w K mg a)
  (zA:zy P w K mg base (uF P w) k a.zM a.zN zJ (W5 a.zp a.z8)):zy P w K mg base (uF P w) (k+1) a.Lk a.Ln Qk (wY a.zp a.z8 1):=by
 refine T.Lq.F.okE Lg (fun vs H Q E h=>?_) (fun cdv A outer s H vs Q E hr h=>?_)
 ·obtain⟨b,os,rs,F,i,xs,rfl,lx,_⟩:=h
  show xs.length+1+1=_
  rw[lx]
  rfl
 obtain⟨b,os,rs,F,i,xs,rfl,lx,hB,bi,si,q⟩:=h
 match xs,lx with
 | [v0],_ =>
 have L:=yu a.zp
 refine⟨_,(zf (zV (Zw vo (pv 0) T.z9 T.zR zA hr (za (pv 1) zc)))
   vq),?_⟩
 obtain⟨dx,_,_,_,_,_,_,_,h1⟩:=id hB
 exact⟨_,rfl,b,dx,_,rfl,h1.hb,rfl,_,rfl,b,os,rs,F,i,rfl,hB,bi,si,q _ (Same.refl _)⟩
theorem zdE (T:Txt P w K mg a)
  (vP:zy P w K mg base (uF P w) k a.wz a.wA xK (wY a.zp a.z8 1))(G_is_within':zy P w K mg base zZ k a.wz a.wA xK (Rn a.zp))(tU:zy P w K mg base zZ k a.Wb a.Wc Yr (X3)):zy P w K mg base (uF P w) (k+1) a.WL a.WM Yq (wY a.zp a.z8 1):=by
 refine T.TJ.F.okE Ru (fun vs H Q E h=>?_) (fun cdv A outer s H vs Q E hr h=>?_)
 ·obtain⟨b,os,rs,F,i,xs,rfl,lx,_⟩:=h
  show xs.length+1+1=_
  rw[lx]
  rfl
 obtain⟨b,os,rs,F,i,xs,rfl,lx,hB,bi,si,q⟩:=h
 match xs,lx with
 | [v0],_ =>
 have L:=yu a.zp
 have tU:=tU.lift (CX:=uF P w)
 refine⟨_,(zm (zL (Sx (yE vo vP hr T.wB (za (pv 0) (za (pv 1) (za (pv 2) zc)))) (Ke (zfq (zF (za4 rfl) rfl T.zjM zfY (za (tV (uD:=zx Wq) (js:=[0,1]) rfl (by show ZK _ _ "wider" ["book", "room"];exact lco (by decide +kernel)) rfl (xq (yE vo tU hr T.Qo (za (pv 2) zc))) (by show ∀j∈([0,1]:List Nat),j<3;decide) (fun cl C s₂ H₂ fp=>(zu G_is_within' hr T.wB (za (pv 1) (za (pv 2) (za (pv 0) zc)))))) zc))))))),?_⟩
 exact⟨_,rfl,_,rfl,_,rfl,b,os,rs,F,i,[v0],rfl,rfl,hB,bi,si,q⟩
theorem zif (T:Txt P w K mg a)
  (RT:zy P w K mg base (uF P w) k a.Ud a.Ue Wr (wY a.zp a.z8 0))(Yy:zy P w K mg base (uF P w) k a.X8 a.Wa Yp zoF):zy P w K mg base (uF P w) (k+1) a.zau a.zav Lf (wY a.zp a.z8 0):=by
 refine T.zdo.F.okE Xc (fun vs H Q E h=>?_) (fun cdv A outer s H vs Q E hr h=>?_)
 ·obtain⟨b,os,rs,F,i,xs,rfl,lx,_⟩:=h
  show xs.length+1+1=_
  rw[lx]
  rfl
 obtain⟨b,os,rs,F,i,xs,rfl,lx,hB,bi,si,q⟩:=h
 match xs,lx with
 | [],_ =>
 have L:=yu a.zp
 refine⟨_,(zf (Yg (i:=2) Xc.nd rfl (Or.inl rfl) zaW)
   (zf (uz PassesOwn.leaving rfl (xq (yE vo RT hr T.RM (za (pv 0) (za (pv 1) zc)))) (yO (i:=3) Xc.nd rfl (Or.inl rfl)) (zm (zak (Jf hr) (pv 2) (pv 3) (yE vo Yy hr T.Um (za (pv 3) zc)) rfl)))
   vq)),?_⟩
 refine fun d hd=>?_
 have g:=Same.new hd (.dK [])
 exact⟨_,rfl,_,rfl,b,os,rs,F,i,[],rfl,rfl,L.same hB g,bi,si,fun H' g'=>q _ (g.trans g')⟩
theorem zaa (T:Txt P w K mg a)
  (Zv:zy P w K mg base (uF P w) k a.uT a.uU vV (wY a.zp a.z8 1)):zy P w K mg base (uF P w) (k+1) a.Zc a.Zd uw (wY a.zp a.z8 2):=by
 refine T.YT.F.okE Ws (fun vs H Q E h=>?_) (fun cdv A outer s H vs Q E hr h=>?_)
 ·obtain⟨b,os,rs,F,i,xs,rfl,lx,_⟩:=h
  show xs.length+1+1=_
  rw[lx]
  rfl
 obtain⟨b,os,rs,F,i,xs,rfl,lx,hB,bi,si,q⟩:=h
 match xs,lx with
 | [v0,v1],_ =>
 have L:=yu a.zp
 refine⟨_,(zf (yr (PW.pt (Sw (Ye (yM (yE vo Zv hr T.Zu (za (pv 0) (za (pv 1) (za (pv 2) zc)))) (fun _=>rfl))) (Vi (zQ Nv (zF zO rfl T.xP yG (za (pv 3) zc)) (zF zO rfl T.xP yG (za (pv 2) zc)) (zU _))))) (zm (zL TY)) zY)
   vq),?_⟩
 exact⟨_,rfl,_,rfl,_,rfl,b,os,rs,F,i,[v0],rfl,rfl,hB,bi,si,q⟩
theorem zig (T:Txt P w K mg a)
  (zA:zy P w K mg base (uF P w) k a.zM a.zN zJ (zhk a.zp a.z8)):zy P w K mg base (uF P w) (k+1) a.Lk a.Ln Qk (zat a.zp a.z8):=by
 refine T.Lq.F.okE Lg (fun vs H Q E h=>?_) (fun cdv A outer s H vs Q E hr h=>?_)
 ·obtain⟨b,os,rs,F,k0,j,rfl,_⟩:=h
  rfl
 obtain⟨b,os,rs,F,k0,j,rfl,hB,hk,bj,sj,q⟩:=h
 refine⟨_,(zf (zV (Zw vo (pv 0) T.z9 T.zR zA hr (za (pv 1) zc)))
   (zf (zV (Zw vo (pv 0) T.z9 T.zR zA hr (za (pv 2) zc)))
   vq)),?_⟩
 obtain⟨dx,_,_,_,_,_,_,_,h1⟩:=id hB
 refine⟨_,rfl,b,dx,_,rfl,h1.hb,rfl,_,rfl,.inl ⟨b,os,rs,F,k0,rfl,hB,hk,?_⟩⟩
 exact⟨_,rfl,b,dx,_,rfl,h1.hb,rfl,_,rfl,.inr ⟨b,os,rs,F,j,rfl,hB,bj,sj,q _ (Same.refl _)⟩⟩
theorem LQ (T:Txt P w K mg a)
  (wO:zy P w K mg base (uF P w) k a.xM a.xO yS (Js a.zp a.yg)):zy P w K mg base (uF P w) (k+1) a.uc a.ud wU (U8 a.zp a.yg):=by
 refine T.Zk.F.okE tD (fun vs H Q E h=>?_) (fun cdv A outer s H vs Q E hr h=>?_)
 ·obtain⟨b,l,os,rs,F,q0,q1,x,rfl,_⟩:=h
  rfl
 obtain⟨b,l,os,rs,F,q0,q1,x,rfl,hB,hl,l0,l1,ax,lx,hc,q⟩:=h
 refine⟨_,(zm (uz PassesOwn.leaving rfl (xq (pv 1)) (yO (i:=2) tD.nd rfl (Or.inl rfl)) (zm (zV (yE vo wO hr T.vM (za (pv 0) (za (pv 2) zc))))))),?_⟩
 refine⟨_,rfl,l,rfl,⟨_,z6.of hl⟩,?_⟩
 refine tX (xs:=[cbV q0,cbV q1,.str x]) (fun i σ H'=>i<3/\∃f2,Same H H'/\σ=[some (.ref b),some (.ref l),f2]) ⟨by decide,_,Same.refl _,rfl⟩ (fun i σ H' _ ⟨_,_,g,_⟩=>z6.of (g _ _ hl)) ?_ ?_
 ·rintro i y σ H' hy ⟨_,f2,g,rfl⟩
  have hB':=(yu a.zp).same hB g
  match i,hy with
  | 0,hy =>
   cases hy
   exact⟨_,rfl,_,rfl,.inl ⟨b,os,rs,F,q0,rfl,hB',l0,fun H2 g2=>⟨by decide,_,g.trans g2,rfl⟩⟩⟩
  | 1,hy =>
   cases hy
   exact⟨_,rfl,_,rfl,.inl ⟨b,os,rs,F,q1,rfl,hB',l1,fun H2 g2=>⟨by decide,_,g.trans g2,rfl⟩⟩⟩
  | 2,hy =>
   cases hy
   exact⟨_,rfl,_,rfl,.inr ⟨b,os,rs,F,x,rfl,hB',ax,lx,hc,fun H2 g2=>q _ (g.trans g2)⟩⟩
 ·rintro σ H' ⟨z,_⟩
  exact absurd z (Nat.lt_irrefl 3)
theorem zdF (T:Txt P w K mg a)
  (zA:zy P w K mg base zZ k a.zM a.zN zJ (wJ a.zp))
  (Xk:zy P w K mg base (uF P w) k a.uc a.ud wU (U8 a.zp a.yg)):zy P w K mg base (uF P w) (k+1) a.uT a.uU vV (V3 a.zp a.yg 0):=by
 refine T.Zu.F.okE Zz (fun vs H Q E h=>?_) (fun cdv A outer s H vs Q E hr h=>?_)
 ·obtain⟨b,l,os,rs,F,k0,q0,q1,x,xs,rfl,lxs,_⟩:=h
  show xs.length+1+1+1=_
  rw[lxs]
  rfl
 obtain⟨b,l,os,rs,F,k0,q0,q1,x,xs,rfl,lxs,hB,hk,hl,l0,l1,ax,lx,hc,q⟩:=h
 match xs,lxs with
 | [],_ =>
 have zA:=zA.lift (CX:=uF P w)
 refine⟨_,(zf (zV (Zw vo (pv 0) T.z9 T.zR zA hr (za (pv 1) zc)))
   (zf (zV (yE vo Xk hr T.Zk (za (pv 0) (za (pv 2) zc))))
   vq)),?_⟩
 obtain⟨dx,_,_,_,_,_,_,_,h0⟩:=id hB
 refine⟨_,rfl,b,dx,_,rfl,h0.hb,rfl,_,rfl,b,os,rs,F,k0,rfl,hB,hk,?_⟩
 exact⟨_,rfl,_,rfl,b,l,os,rs,F,q0,q1,x,rfl,hB,hl,l0,l1,ax,lx,hc,q⟩
theorem zab (T:Txt P w K mg a)
  (Zv:zy P w K mg base (uF P w) k a.uT a.uU vV (V3 a.zp a.yg 0)):zy P w K mg base (uF P w) (k+1) a.Zc a.Zd uw (V3 a.zp a.yg 1):=by
 refine T.YT.F.okE Ws (fun vs H Q E h=>?_) (fun cdv A outer s H vs Q E hr h=>?_)
 ·obtain⟨b,l,os,rs,F,k0,q0,q1,x,xs,rfl,lxs,_⟩:=h
  show xs.length+1+1+1=_
  rw[lxs]
  rfl
 obtain⟨b,l,os,rs,F,k0,q0,q1,x,xs,rfl,lxs,hB,hk,hl,l0,l1,ax,lx,hc,q⟩:=h
 match xs,lxs with
 | [v0],_ =>
 refine⟨_,(zf (yr (PW.pt (Sw (Ye (yM (yE vo Zv hr T.Zu (za (pv 0) (za (pv 1) (za (pv 2) zc)))) (fun _=>rfl))) (Vi (zQ Nv (zF zO rfl T.xP yG (za (pv 3) zc)) (zF zO rfl T.xP yG (za (pv 2) zc)) (zU _))))) (zm (zL TY)) zY)
   vq),?_⟩
 exact⟨_,rfl,_,rfl,_,rfl,b,l,os,rs,F,k0,q0,q1,x,[],rfl,rfl,hB,hk,hl,l0,l1,ax,lx,hc,q⟩
theorem zac (T:Txt P w K mg a)
  (Zv:zy P w K mg base zZ k a.uT a.uU vV (Qh a.zp K)):zy P w K mg base zZ (k+1) a.Zc a.Zd uw (zbc a.zp):=by
 refine T.YT.F.ok Ws (fun vs H Q E h=>?_) (fun cdv A outer s H vs Q E hr h=>?_)
 ·obtain⟨b,l,e,os,rs,F,k0,q0,q1,q2,rfl,_⟩:=h
  rfl
 obtain⟨b,l,e,os,rs,F,k0,q0,q1,q2,rfl,hB,hk,hl,l0,l1,l2,he,q⟩:=h
 refine⟨_,(zf (yr (PW.pt (Sw (Ye (yM (zu Zv hr T.Zu (za (pv 0) (za (pv 1) (za (pv 2) zc)))) (fun _=>rfl))) (Vi (zQ Nv (zF zO rfl T.xP yG (za (pv 3) zc)) (zF zO rfl T.xP yG (za (pv 2) zc)) (zU _))))) (zm (zL TY)) zY)
   vq),?_⟩
 refine⟨_,rfl,_,rfl,_,rfl,b,l,os,rs,F,k0,[q0,q1,q2],rfl,hB,hk,z6.of hl,by simp[l0,l1,l2],fun H1 g1=>⟨_,rfl,yx (fun _=>Xf (q _ g1)) (fun _=>?_)⟩⟩
 exact⟨_,rfl,e,_,rfl,.inl (z6.of (g1 _ _ he)),_,rfl,l,_,rfl,.inl (z6.of (g1 _ _ hl)),rfl,_,rfl,Xf (q _ g1)⟩
end
abbrev cs9 (a:Ad):List Addr:=[a.wF,a.vL,a.z8,a.Zj,a.xY,a.yX,a.xZ,a.yg,a.uV]
section
variable {P:Program}{w:World}{K:Frag}{mg:Str->Option Value}{base:Heap}{a:Ad}{k:Nat}
theorem zih (T:Txt P w K mg a):zy P w K mg base zZ (k+1) a.Tt a.Tv Wv (zhl K):=by
 refine T.zbl.F.ok zeP (fun vs H Q E h=>?_) (fun cdv A outer s H vs Q E hr h=>?_)
 ·obtain⟨t,l,x,rfl,_⟩:=h
  rfl
 obtain⟨t,l,x,rfl,ht,hl,q⟩:=h
 refine⟨_,(zm (zL (Sx (zF SN rfl T.yI yw (za (pv 0) (za (zaf (v:=.ty "tuple") rfl T.zhw zd4 rfl) zc))) (Sx (ZD (zmK rfl (hu8 hr)) (Y5 zfF (pv 0) Ux (Xo zq)) (uM (za yt zc)) (zU _)) (Ke (ZD RW (pv 1) (yh Zm (pv 0) zq (fun _ _=>rfl)) (by with_unfolding_all rfl))))))),?_⟩
 refine⟨_,rfl,_,_,_,true,rfl,.tup ht,rfl,true,rfl,Xf ?_⟩
 refine⟨_,rfl,1,rfl,t,_,rfl,vQ.of ht,fun z=>absurd (show(1:Nat)=2 from z.2) (by decide),fun p hp=>?_⟩
 refine⟨by show 1<=sizeLine;decide,fun p2 hp2=>?_⟩
 have g1:=Same.new hp (.tup (NQ [V.str "refused", V.ref l] none (some 1)))
 have g2:=Same.new hp2 (.tup [V.str "refused"])
 have f1:=g2 _ _ (show upd H p (.tup (NQ [V.str "refused", V.ref l] none (some 1))) p=some (.tup [V.str "refused"]) from zj)
 have f2:upd (upd H p (.tup (NQ [V.str "refused", V.ref l] none (some 1)))) p2 (.tup [V.str "refused"]) p2=some _:=zj
 have g:=g1.trans g2
 refine⟨_,fun z=>absurd z.1 ztm,.tt (e:=fun _=>true) (vQ.of f1) (vQ.of f2) (fun j x y hx hy=>?_),true,rfl,Xf ?_⟩
 ·have e:x=y:=ztN (hx.symm.trans hy)
  subst e
  have hj:x=.str "refused" := by
   cases j with
   | zero=>exact(ztN hx).symm
   | succ j=>exact absurd hx (by simp)
  subst hj
  have:=EqD.flat (K:=K) (H:=upd (upd H p (.tup (NQ [V.str "refused", V.ref l] none (some 1)))) p2 (.tup [V.str "refused"])) (n:=7) (x:=V.str "refused") (y:=.str "refused") rfl rfl
  rw[zaY rfl] at this
  exact this
 refine⟨_,rfl,_,rfl,t,_,1,.ref l,rfl,rfl,vQ.of (g _ _ ht),rfl,l,_,rfl,.inl (g.seq hl),rfl,rfl,?_⟩
 have:inV (V.str x) [V.str x]=true:=by
  show(eqV (.str x) (.str x)||false)=true
  rw[zaY rfl];rfl
 rw[this]
 exact q _ g
theorem zdG (T:Txt P w K mg a)
  (vP:zy P w K mg base (uF P w) k a.wz a.wA xK (Wk a.zp (cs9 a) 0 false fun b i _ x _ _=>[b,i,x]))
  (zgz:zy P w K mg base (uF P w) k a.WL a.WM Yq (Wk a.zp (cs9 a) 1 false fun b i _ x _ _=>[b,i,x]))
  (RT:zy P w K mg base (uF P w) k a.Ud a.Ue Wr (Wk a.zp (cs9 a) 2 false fun b i _ _ _ _=>[b,i]))
  (zlt:zy P w K mg base (uF P w) k a.zau a.zav Lf (Wk a.zp (cs9 a) 3 false fun b i _ _ _ _=>[b,i]))
  (Zv:zy P w K mg base (uF P w) k a.uT a.uU vV (Wk a.zp (cs9 a) 4 false fun b i _ _ cl _=>[b,i,cl]))
  (zbX:zy P w K mg base (uF P w) k a.Zc a.Zd uw (Wk a.zp (cs9 a) 5 true fun b i _ _ cl l=>[b,i,cl,l]))
  (zhx:zy P w K mg base (uF P w) k a.Lk a.Ln Qk (fun vs H Q E=>Wk a.zp (cs9 a) 6 false (fun b i j _ _ _=>[b,i,j]) vs H Q E\/Wk a.zp (cs9 a) 7 false (fun b i j _ _ _=>[b,j,i]) vs H Q E)):zy P w K mg base (uF P w) (k+1) a.VB a.VD YK (zcA a.zp (cs9 a)):=by
 refine T.YX.F.okE zbj (fun vs H Q E h=>?_) (fun cdv A outer s H vs Q E hr h=>?_)
 ·obtain⟨c,b,cl,i,j,z0,z1,z2,os,rs,F,k0,q0,q1,x,rfl,_⟩:=h
  rfl
 obtain⟨c,b,cl,i,j,z0,z1,z2,os,rs,F,k0,q0,q1,x,rfl,hc,h,q⟩:=h
 refine⟨_,(zm (yr (zQ xG (pv 0) zq (zU _)) (zm (zV (yE vo vP hr T.wB (za (pv 1) (za (pv 2) (za (yh yd (pv 4) (Qx Vk zq) (fun _ _=>rfl)) zc)))))) (zm (yr (zQ xG (pv 0) zq (zU _)) (zm (zV (yE vo zgz hr T.TJ (za (pv 1) (za (pv 2) (za (yh yd (pv 4) (Qx Vk zq) (fun _ _=>rfl)) zc)))))) (zm (yr (zQ xG (pv 0) zq (zU _)) (zm (zV (yE vo RT hr T.RM (za (pv 1) (za (pv 2) zc))))) (zm (yr (zQ xG (pv 0) zq (zU _)) (zm (zV (yE vo zlt hr T.zdo (za (pv 1) (za (pv 2) zc))))) (zm (yr (zQ xG (pv 0) zq (zU _)) (zm (zV (yE vo Zv hr T.Zu (za (pv 1) (za (pv 2) (za (pv 4) zc)))))) (zm (yr (zQ xG (pv 0) zq (zU _)) (zm (zV (yE vo zbX hr T.YT (za (pv 1) (za (pv 2) (za (pv 4) (za (vg zc) zc))))))) (zm (yr (zQ xG (pv 0) zq (zU _)) (zm (zV (yE vo zhx hr T.Lq (za (pv 1) (za (pv 2) (za (pv 3) zc)))))) (zm (zV (yE vo zhx hr T.Lq (za (pv 1) (za (pv 3) (za (pv 2) zc)))))))))))))))))))),?_⟩
 have w:∀{d:Option Nat} {H1:Hp} {Q':VK},Same H H1->ZX a.zp b os rs F (cs9 a) d H Q E->(∀H',Q .non H'->∀v,Q' v H')->ZX a.zp b os rs F (cs9 a) d H1 Q' E:=fun {d H1 Q'} g t f=>by
  cases d with
  | none=>exact fun v rs' H' a1 a2 a3 a4 a5=>f H' (t .non rs' H' (fun x o e n=>a1 x o (g _ _ e) n) ((xr.of g).trans a2) a3 a4 a5) v
  | some n=>exact fun H' g'=>t H' (g.trans g')
 have o:∀{c ar} {Q':VK},ZX a.zp b os rs F (cs9 a) (V4 c z0 z1 z2) H Q' E->Wk a.zp (cs9 a) c false ar (ar (.ref b) (.int i) (.int j) (.str x) (.ref cl) (.ref b)) H Q' E:=fun t=>⟨b,cl,b,i,j,z0,z1,z2,os,rs,F,k0,q0,q1,x,rfl,h,(fun z=>absurd z (by decide)),t⟩
 by_cases e0:c=0
 ·subst e0
  exact⟨_,rfl,rfl,_,rfl,ifY ⟨_,rfl,_,rfl,_,rfl,_,rfl,cl,_,_,_,rfl,rfl,z6.of h.cl,rfl,by unfold Qs;apply o;exact w (Same.refl _) q fun _ z _=>z⟩⟩
 refine⟨_,rfl,rfl,_,rfl,ifN (by omega) ?_⟩
 by_cases e1:c=1
 ·subst e1
  exact⟨_,rfl,rfl,_,rfl,ifY ⟨_,rfl,_,rfl,_,rfl,_,rfl,cl,_,_,_,rfl,rfl,z6.of h.cl,rfl,by unfold Qs;apply o;exact w (Same.refl _) q fun _ z _=>z⟩⟩
 refine⟨_,rfl,rfl,_,rfl,ifN (by omega) ?_⟩
 by_cases e2:c=2
 ·subst e2
  exact⟨_,rfl,rfl,_,rfl,ifY ⟨_,rfl,_,rfl,by unfold Qs;apply o;exact w (Same.refl _) q fun _ z _=>z⟩⟩
 refine⟨_,rfl,rfl,_,rfl,ifN (by omega) ?_⟩
 by_cases e3:c=3
 ·subst e3
  exact⟨_,rfl,rfl,_,rfl,ifY ⟨_,rfl,_,rfl,by unfold Qs;apply o;exact w (Same.refl _) q fun _ z _=>z⟩⟩
 refine⟨_,rfl,rfl,_,rfl,ifN (by omega) ?_⟩
 by_cases e4:c=4
 ·subst e4
  exact⟨_,rfl,rfl,_,rfl,ifY ⟨_,rfl,_,rfl,_,rfl,by unfold Qs;apply o;exact w (Same.refl _) q fun _ z _=>z⟩⟩
 refine⟨_,rfl,rfl,_,rfl,ifN (by omega) ?_⟩
 by_cases e5:c=5
 ·subst e5
  exact⟨_,rfl,rfl,_,rfl,ifY ⟨_,rfl,_,rfl,_,rfl,by show 0<=sizeLine;decide,fun l hl0=>by unfold Qs;exact⟨b,cl,l,i,j,z0,z1,z2,os,rs,F,k0,q0,q1,x,rfl,h.mono (Same.new hl0 _),(fun _=>zj),w (Same.new hl0 _) q fun _ z _=>z⟩⟩⟩
 refine⟨_,rfl,rfl,_,rfl,ifN (by omega) ?_⟩
 by_cases e6:c=6
 ·subst e6
  exact⟨_,rfl,rfl,_,rfl,ifY ⟨_,rfl,_,rfl,_,rfl,by unfold Qs;apply Or.inl;apply o (ar:=fun b i j _ _ _=>[b,i,j]);exact w (Same.refl _) q fun _ z _=>z⟩⟩
 refine⟨_,rfl,rfl,_,rfl,ifN (by omega) ?_⟩
 have e7:c=7:=by omega
 subst e7
 exact⟨_,rfl,_,rfl,_,rfl,by unfold Qs;apply Or.inr;apply o (ar:=fun b i j _ _ _=>[b,j,i]);exact w (Same.refl _) q fun _ z _=>z⟩
theorem zgA (T:Txt P w K mg a)
  (zbY:zy P w K mg base (uF P w) k a.VB a.VD YK (zcA a.zp (cs9 a)))
  (zbZ:∀ex,zcv P w K mg base ex k a.YQ a.YS tZ (Mz K a.yW (cs9 a) ex)):zy P w K mg base zZ (k+1) a.RG a.RJ Vf (zhu a.zp):=by
 refine T.JD.F.ok XC (fun vs H Q E h=>?_) (fun cdv A outer s H vs Q E hr h=>?_)
 ·obtain⟨c,b,cl,i,j,z0,z1,z2,os,rs,F,k0,q0,q1,x,rfl,_⟩:=h
  rfl
 obtain⟨c,b,cl,i,j,z0,z1,z2,os,rs,F,k0,q0,q1,x,rfl,hc,h,q0',q1'⟩:=h
 refine⟨_,(zf (zG 5 XC.nd yt)
   (zf (zmW (i:=6) rfl rfl (zjj (zji (zjl zbY hr rfl T.YX.m T.YX.F.2 T.YX.b .nil rfl (za (pv 0) (za (pv 1) (za (pv 2) (za (pv 3) (za (pv 4) zc)))))))) (fun ex=>(zm (Yg (i:=5) XC.nd rfl (Or.inl rfl) (zjm (zbZ ex) (Jr.of hr _) rfl rfl T.YW.m T.YW.F.2 T.YW.b .nil (za (pv 6) zc) (E:=E0))))) rfl T.zeV XC.nd rfl rfl)
   (zm (zL (pv 5))))),?_⟩
 have nc:(cs9 a).Nodup:=T.xd.sublist (.cons _ (.cons₂ _ (.cons _ (List.Sublist.refl _))))
 refine⟨_,rfl,_,rfl,_,rfl,_,rfl,_,rfl,c,b,cl,i,j,z0,z1,z2,os,rs,F,k0,q0,q1,x,rfl,hc,h,?_⟩
 cases e:V4 c z0 z1 z2 with
 | none=>exact fun v rs' H' a1 a2 a3 a4 a5=>⟨_,rfl,q0' e rs' H' a1 a2 a3 a4 a5⟩
 | some n =>
  have k0:n=2\/n=7:=by
   clear h q0' q1'
   revert e
   unfold V4
   split
   ·intro e;cases e;exact .inl rfl
   ·split
    ·intro e;cases e;exact .inr rfl
    ·intro e;cases e
  rcases k0 with rfl | rfl
  ·exact fun H' g=>⟨a.z8,rfl,zjo T.xb T.K3,fun e' he=>⟨_,rfl,_,2,rfl,zj,T.K3,by decide,zlR nc rfl,fun t l H'' g'' ht hl'=>⟨_,rfl,q1' _ e t l H'' ((g.trans (Same.new he _)).trans g'') ht hl'⟩⟩⟩
  ·exact fun H' g=>⟨a.yg,rfl,zjo T.xb T.PX,fun e' he=>⟨_,rfl,_,7,rfl,zj,T.PX,by decide,zlR nc rfl,fun t l H'' g'' ht hl'=>⟨_,rfl,q1' _ e t l H'' ((g.trans (Same.new he _)).trans g'') ht hl'⟩⟩⟩
abbrev s68 (sc ol bk:Addr)(i:Int)(c far j:Int)(bl cl:Addr)(r:St):St:=some (.ref sc)::some (.ref ol)::some (.ref bk)::some (.int i)::some (.int c)::some (.int far)::some (.int j)::some (.ref bl)::some (.ref cl)::r
inductive zlZ (C:Addr)(K:Frag)(sc:Addr)(ns:List Int)(σ:St)(H:Hp):Prop
 | mk (ol bk bl cl:Addr) (os:List Str) (rs:List yL.Rm) (F:yQ) (k:Nat) (q0 q1 q2:Cb) (c far:Int) (z0 z1 z2:Bool) (f9 f10 f11 f12:Option V) (_:z7 C H bk os rs F) (_:os.length<=4) (_:0<os.length) (_:yL.hiN os.length rs<=63) (_:k<rs.length) (_:H bl=some (.lst [.bl z0,.bl z1,.bl z2])) (_:¬F bl) (_:H cl=some (.lst [cbV q0,cbV q1,cbV q2])) (_:¬F cl) (_:q0.length=os.length) (_:q1.length=os.length) (_:q2.length=os.length) (_:100000<=far) (_:far<2000000000) (_:σ=s68 sc ol bk (k:Nat) c far (k:Nat) bl cl [f9,f10,f11,f12]):zlZ C K sc ns σ H
inductive zjR (C:Addr)(K:Frag)(sc:Addr)(ns:List Int)(two:Bool)(σ:St)(H:Hp):Prop
 | mk (ol bk bl cl:Addr) (os:List Str) (rs:List yL.Rm) (F:yQ) (k:Nat) (q0 q1 q2:Cb) (c far i j:Int) (z0 z1 z2:Bool) (f9 f10 f11 f12:Option V) (_:z7 C H bk os rs F) (_:os.length<=4) (_:0<os.length) (_:yL.hiN os.length rs<=63) (_:k<rs.length) (_:H bl=some (.lst [.bl z0,.bl z1,.bl z2])) (_:¬F bl) (_:H cl=some (.lst [cbV q0,cbV q1,cbV q2])) (_:¬F cl) (_:q0.length=os.length) (_:q1.length=os.length) (_:q2.length=os.length) (_:100000<=far) (_:far<2000000000) (_:Small i/\(z0=true->i<0\/100000<=i)/\(z0=false->i=(k:Nat))) (_:if two then Small j/\(z1=true->j<0\/100000<=j)/\(z1=false->j=(k:Nat)) else j=(k:Nat)) (_:σ=s68 sc ol bk i c far j bl cl [f9,f10,f11,f12]):zjR C K sc ns two σ H
inductive zl0 (C:Addr)(K:Frag)(sc:Addr)(ns:List Int)(σ:St)(H:Hp):Prop
 | mk (B:Hp) (ol bk bl cl:Addr) (os:List Str) (rs:List yL.Rm) (F:yQ) (k:Nat) (q0 q1:Cb) (x:Str) (c far i j:Int) (z0 z1 z2:Bool) (f9 f10 f11 f12:Option V) (_:Pj C B bk os 63 H rs F) (_:B bl=some (.lst [.bl z0,.bl z1,.bl z2])) (_:B cl=some (.lst [cbV q0,cbV q1,.str x])) (_:JT C H bk cl i j z0 z1 z2 os rs F k q0 q1 x) (_:σ=s68 sc ol bk i c far j bl cl [f9,f10,f11,f12]):zl0 C K sc ns σ H
inductive zo0 (C:Addr)(B:Hp)(sc ol bk bl cl:Addr)(os:List Str)(F:yQ)(k:Nat)(q0 q1:Cb)(x:Str)(c far i j:Int)(z0 z1 z2:Bool)(n:Nat)(σ:St)(H:Hp):Prop
 | mk (rs:List yL.Rm) (f9 f10 f11 f12:Option V) (_:Pj C B bk os (63+63*n) H rs F) (_:k<rs.length) (_:σ=s68 sc ol bk i c far j bl cl [f9,f10,f11,f12]):zo0 C B sc ol bk bl cl os F k q0 q1 x c far i j z0 z1 z2 n σ H
theorem ok_law (T:Txt P w K mg a)
  (wg:zy P w K mg base zZ (k+1) a.xW a.xX yV (zap K))
  (yq:zy P w K mg base zZ (k+1) a.vY a.vZ vf Q7)
  (zb0:zy P w K mg base zZ (k+1) a.Vy a.Vz YJ zcW)
  (Ja:zy P w K mg base zZ (k+1) a.Yu a.Yv tE (Pa K))
  (zdH:zy P w K mg base zZ (k+1) a.Tq a.Tr Xz KD)
  (zfi:zy P w K mg base zZ k a.Vg a.RD Ve (Pg (z7 a.zp) K a.zp))
  (zdI:zy P w K mg base zZ (k+1) a.Ti a.Tj Xx (zaZ a.zp))
  (zfj:zy P w K mg base zZ (k+1) a.RG a.RJ Vf (zhu a.zp))
  (zgD:zy P w K mg base zZ (k+1) a.Tt a.Tv Wv (zhl K)) :
  zy P w K mg base zZ (k+2) a.a_law a.d_law p_law (zg2 K):=by
 refine T.f_law.F.ok sc_law (fun vs H Q E h=>?_) (fun cdv A outer s H vs Q E hr h=>?_)
 ·obtain⟨a,ns,rfl,_⟩:=h
  rfl
 obtain⟨sc,ns,rfl,hS,h63,q9⟩:=h
 have L:=yu a.zp
 refine zp8 ?_
 refine zkG (zlZ a.zp K sc ns) (fun t z=>(zf (Yg (i:=1) sc_law.nd rfl (Or.inr rfl) (zu zb0 hr T.QV (za (zu wg hr T.yZ (za (pv 0) (za zq zc))) (za zq zc))))
   (zf (zG 2 sc_law.nd (zj9 T.zlm zfi hr rfl T.zng T.JF.b .nil zgQ (za (pv 1) zc)))
   (zf (zG 3 sc_law.nd (yR (pv 2) T.z9 T.Ls zdI hr (za (zu Ja hr T.Uq (za (pv 0) (za zq (za (zP wj zq (zP Xd (zu wg hr T.yZ (za (pv 0) (za zq zc))) zq)) (za (pv 1) zc))))) zc)))
   (zf (Yg (i:=4) sc_law.nd rfl (Or.inr rfl) (zu wg hr T.yZ (za (pv 0) (za zq zc))))
   (zf (zG 5 sc_law.nd (zP wj zq (zu yq hr T.yD (za (pv 4) (za zq (za (zP ziy zq zq) zc))))))
   (zf (zG 6 sc_law.nd (pv 3))
   (zf (VN (tt:=Uz) (i:=7) sc_law.nd rfl (Or.inl rfl) (.inl rfl) (uD:=zx S_law) (js:=[4]) rfl (by show ZK _ _ "k" ["cell"];exact lco (by decide +kernel)) rfl (XJ rfl T.YZ (za zq zc)) (by show ∀j∈([4]:List Nat),j<13;decide) (fun cl C s₂ H₂ fp pins s' σ' H' Q I h=>wpAny_pure ⟨H',I,h⟩) (fun cl C s₂ H₂ fp=>(ZD xG (zu yq hr T.yD (za (pv 1) (za (pv 0) (za zq zc)))) zq (zU _))) rfl)
   (zf (VN (tt:=Uz) (i:=8) sc_law.nd rfl (Or.inl rfl) (.inl rfl) (uD:=zx S_law) (js:=[0,1]) rfl (by show ZK _ _ "k" ["script", "order"];exact lco (by decide +kernel)) rfl (XJ rfl T.YZ (za zq zc)) (by show ∀j∈([0,1]:List Nat),j<13;decide) (fun cl C s₂ H₂ fp pins s' σ' H' Q I h=>wpAny_pure ⟨H',I,h⟩) (fun cl C s₂ H₂ fp=>(zu zdH hr T.Lr (za (zu wg hr T.yZ (za (pv 1) (za (zP wj zq (pv 0)) zc))) (za (zF (QB (K:=K) rfl) rfl T.xP yG (za (pv 2) zc)) zc)))) rfl)
   z))))))))) ?_ ?_
 ·rintro u hu σ H ⟨rfl,rfl⟩
  refine⟨_,rfl,sc,ns,0,rfl,hS,Y9 ns 0,4,rfl,by decide,by decide,fun ol H0 os g0 zib ho o4=>?_⟩
  have o8:=ho.le
  have hS0:=g0.seq hS
  have m0:0<=Y9 ns 1%7:=ztY _ (by decide)
  have m1:Y9 ns 1%7<7:=ztV _ (by decide)
  have em:(1:Int)+Y9 ns 1%7=(((1+Y9 ns 1%7).toNat:Nat):Int):=by omega
  refine⟨_,rfl,fun bk dx hbk hdx hne=>⟨bk,dx,ol,os,rfl,zj,Ne.symm hne,?_,ho,fun H3 F0 keep hB hF=>⟨rfl,?_⟩⟩⟩
  ·refine z6.of ?_
   rw[zE (zB zib hbk),zE (zB zib hdx)]
   exact zib
  have L0:=Pj.made hbk hdx hne keep hB hF
  clear keep hF
  have hS3:=L0.same.seq hS0
  obtain⟨dx0,fs,zdy,hm⟩:=L.ins L0.bk
  refine⟨_,rfl,bk,dx0,fs,rfl,zdy,hm _ (by decide +kernel),_,rfl,_,rfl,sc,ns,1,rfl,hS3,?_⟩
  refine⟨Y9 ns 1,7,rfl,rfl,(show(0:Int)<7 by decide),1,_,rfl,rfl,_,rfl,sc,ol,ns,2,(1+Y9 ns 1%7).toNat,os,?_,hS3,z6.of (L0.same _ _ zib),ho.pos,o8,by omega,by omega,by decide,fun p1 H4 s1 g4 is1 in1 d1=>?_⟩
  ·show [V.ref sc,V.int 2,V.int (1+Y9 ns 1%7),V.ref ol]=_
   rw[em];rfl
  have d7:s1.depth<=7:=by omega
  have cnt:s1.count+2<=200:=by
   have h3:=Sn.zem s1
   have h4:2^s1.depth<=2^7:=ztO (by decide) d7
   have h5:2^7=128:=rfl
   omega
  have L4:=L0.new g4
  refine⟨bk,p1,os,_,F0,s1,rfl,L4.bk,by decide,is1,in1,by omega,by omega,fun k1 rs1 H5 aw tu hB5 gr mn1 hh=>?_⟩
  have L5:=L4.rise aw hB5 hh
  have hS5:=L5.same.seq hS0
  refine⟨_,rfl,sc,ns,10,rfl,hS5,?_⟩
  refine⟨_,rfl,_,_,rfl,rfl,⟨by decide,by decide,by decide⟩,_,5,_,rfl,by decide,by decide,by decide,fun r r0 r1=>?_⟩
  have p9:(10:Int)^9=1000000000:=by decide
  have r1':r<(10:Int)^9:=r1
  refine⟨_,_,rfl,rfl,_,rfl,?_⟩
  refine⟨3,rfl,by decide,by decide,?_⟩
  refine zc9 (n:=3) (fun i ys H'=>Same H5 H'/\∃zs:List Bool,ys=zs.map V.bl/\zs.length=i) ⟨Same.refl _,[],rfl,rfl⟩ (by decide) ?_ ?_ ?_
  ·rintro i ys H' _ ⟨_,zs,rfl,e⟩
   rw[zti,e];exact zty _
  ·rintro i ys H' Q0 hi ⟨g,zs,rfl,e⟩ hn'
   refine⟨_,rfl,_,rfl,Y9 ns 10,0+i,2,?_,by omega,by decide,by decide,fun r r0 r1=>⟨rfl,hn' _ _ ⟨g,zs++[decide (V.int r=V.int 1)],by rw[ztw];rfl,by rw[ztq,e];rfl⟩⟩⟩
   show [V.int (Y9 ns 10),V.int ((0:Int)+(i:Int)),V.int 2]=_
   rw[Int.zero_add,Nat.zero_add]
  rintro ys H6 bl ⟨g6,zs,rfl,e⟩ hbl
  match zs,e with
  | [z0,z1,z2],_ =>
  have g7:=g6.trans (Same.new hbl (.lst [.bl z0,.bl z1,.bl z2]))
  have e7:upd H6 bl (.lst [.bl z0,.bl z1,.bl z2]) bl=some _:=zj
  have nbl:¬F0 bl:=L.fresh (L.same L5.bk g6) hbl
  show _
  generalize hG:upd H6 bl (.lst ([z0,z1,z2].map V.bl))=H7
  have hG':upd H6 bl (.lst [.bl z0,.bl z1,.bl z2])=H7:=hG
  rw[hG'] at g7 e7
  have L7:=L5.new g7
  refine⟨3,rfl,by decide,by decide,?_⟩
  refine zc9 (n:=3) (fun i ys H'=>Same H7 H'/\∃qs:List Cb,ys=qs.map cbV/\qs.length=i/\∀q∈qs,q.length=os.length) ⟨Same.refl _,[],rfl,rfl,fun q hq=>by cases hq⟩ (by decide) ?_ ?_ ?_
  ·rintro i ys H' _ ⟨_,qs,rfl,e,_⟩
   rw[zti,e];exact zty _
  ·rintro i ys H' Q0 hi ⟨g,qs,rfl,e,lq⟩ hn'
   have L8:=L7.new g
   refine⟨_,rfl,_,rfl,_,_,rfl,rfl,sc,ns,11+i,?_,L8.same.seq hS0,_,rfl,ol,_,rfl,.inl (z6.of (L8.same _ _ zib)),?_⟩
   ·show [V.ref sc,V.int (11+((0:Int)+(i:Int)))]=[V.ref sc,V.int ((11+i:Nat):Int)]
    rw[Int.zero_add];rfl
   rw[zti]
   refine⟨_,os.length,rfl,o8,fun q H8 g8 lq'=>hn' _ _ ⟨g.trans g8,qs++[q],by rw[ztw];rfl,by rw[ztq,e];rfl,fun q' hq'=>?_⟩⟩
   rcases List.mem_append.mp hq' with z | z
   ·exact lq q' z
   ·rw[List.mem_singleton.mp z];exact lq'
  rintro ys H8 cl ⟨g8,qs,rfl,e,lq⟩ hcl
  match qs,e,lq with
  | [q0,q1,q2],_,lq =>
  have g9:=Same.new hcl (.lst [cbV q0,cbV q1,cbV q2])
  have L8:=L7.new g8
  exact hu _ _ ⟨ol,bk,bl,cl,os,rs1,F0,k1,q0,q1,q2,_,_,z0,z1,z2,_,_,_,_,L.same L8.bk g9,o4,ho.pos,L8.hi,mn1.1,(g8.trans g9) _ _ e7,nbl,zj,L.fresh L8.bk hcl,lq q0 (by simp),lq q1 (by simp),lq q2 (by simp),by show(100000:Int)<=100000+r;omega,by show(100000:Int)+r<2000000000;omega,rfl⟩
 have sml:∀x:Int,x.natAbs<=2000000000->Small x:=fun x h=>zjp (Nat.lt_of_le_of_lt h (by decide))
 refine zkG (zjR a.zp K sc ns false) (fun t z=>(zf (yr (yM (yh yd (pv 7) zq (fun _ _=>rfl)) (fun _=>rfl)) (zm (zG 3 sc_law.nd (yh yd (vg (za (Qx Vk zq) (za (zP Q5 (Qx Vk zq) (pv 5)) (za (pv 5) zc)))) (zu yq hr T.yD (za (pv 4) (za zq (za zq zc)))) (fun _ _=>rfl)))) zY)
   z)) ?_ ?_
 ·rintro u hu σ H ⟨ol,bk,bl,cl,os,rs,F,k1,q0,q1,q2,c,far,z0,z1,z2,f9,f10,f11,f12,hB,o4,o1,hh,hk,hbl,nbl,hcl,ncl,l0,l1,l2,fr0,fr1,rfl⟩
  have hl:rs.length<=79:=by have:=yL.zfW (L.bk hB);omega
  refine⟨_,rfl,bl,_,_,.bl z0,rfl,rfl,z6.of hbl,rfl,z0,rfl,?_⟩
  cases z0 with
  | false=>exact Xe (hu _ _ ⟨ol,bk,bl,cl,os,rs,F,k1,q0,q1,q2,c,far,_,_,false,z1,z2,_,_,_,_,hB,o4,o1,hh,hk,hbl,nbl,hcl,ncl,l0,l1,l2,fr0,fr1,⟨sml _ (by omega),fun z=>absurd z (by decide),fun _=>rfl⟩,rfl,rfl⟩)
  | true =>
   refine Xf ⟨_,rfl,_,rfl,_,rfl,_,_,rfl,rfl,_,rfl,by show 3<=sizeLine;decide,fun l hn0=>?_⟩
   have g1:=Same.new hn0 (.lst [V.int (-1),.int (-1-far),.int far])
   have e1:upd H l (.lst [V.int (-1),.int (-1-far),.int far]) l=some _:=zj
   generalize upd H l _=H1 at g1 e1 ⊢
   refine⟨_,rfl,c,6,3,rfl,by decide,by decide,by decide,fun r r0 r1=>?_⟩
   obtain⟨m,v,hv,hj⟩:=R4 (xs:=[V.int (-1),.int (-1-far),.int far]) (i:=r) (by show -(3:Int)<=r;omega) r1
   have hx:=ztn hj
   have:∃x:Int,v=.int x/\(x<0\/100000<=x)/\Small x:=by
    simp only[List.mem_cons,ztJ,or_false] at hx
    rcases hx with rfl | rfl | rfl
    ·exact⟨_,rfl,.inl (by decide),by decide⟩
    ·exact⟨_,rfl,.inl (by omega),sml _ (by omega)⟩
    ·exact⟨_,rfl,.inr (by omega),sml _ (by omega)⟩
   obtain⟨x,rfl,bx,sx⟩:=this
   refine⟨l,_,_,_,rfl,rfl,z6.of e1,hv,?_⟩
   exact hu _ _ ⟨ol,bk,bl,cl,os,rs,F,k1,q0,q1,q2,c,far,x,_,true,z1,z2,_,_,_,_,L.same hB g1,o4,o1,hh,hk,g1 _ _ hbl,nbl,g1 _ _ hcl,ncl,l0,l1,l2,fr0,fr1,⟨sx,fun _=>bx,fun z=>absurd z (by decide)⟩,rfl,rfl⟩
 refine zkG (zjR a.zp K sc ns true) (fun t z=>(zf (yr (yM (yh yd (pv 7) zq (fun _ _=>rfl)) (fun _=>rfl)) (zm (zG 6 sc_law.nd (yh yd (vg (za (Qx Vk zq) (za (zP Q5 (Qx Vk zq) (pv 5)) (za (pv 5) zc)))) (zu yq hr T.yD (za (pv 4) (za zq (za zq zc)))) (fun _ _=>rfl)))) zY)
   z)) ?_ ?_
 ·rintro u hu σ H ⟨ol,bk,bl,cl,os,rs,F,k1,q0,q1,q2,c,far,i,j,z0,z1,z2,f9,f10,f11,f12,hB,o4,o1,hh,hk,hbl,nbl,hcl,ncl,l0,l1,l2,fr0,fr1,hi,hj,rfl⟩
  have hl:rs.length<=79:=by have:=yL.zfW (L.bk hB);omega
  have ej:j=(k1:Nat):=hj
  subst ej
  refine⟨_,rfl,bl,_,_,.bl z1,rfl,rfl,z6.of hbl,rfl,z1,rfl,?_⟩
  cases z1 with
  | false=>exact Xe (hu _ _ ⟨ol,bk,bl,cl,os,rs,F,k1,q0,q1,q2,c,far,_,_,z0,false,z2,_,_,_,_,hB,o4,o1,hh,hk,hbl,nbl,hcl,ncl,l0,l1,l2,fr0,fr1,hi,⟨sml _ (by omega),fun z=>absurd z (by decide),fun _=>rfl⟩,rfl⟩)
  | true =>
   refine Xf ⟨_,rfl,_,rfl,_,rfl,_,_,rfl,rfl,_,rfl,by show 3<=sizeLine;decide,fun l hn0=>?_⟩
   have g1:=Same.new hn0 (.lst [V.int (-1),.int (-1-far),.int far])
   have e1:upd H l (.lst [V.int (-1),.int (-1-far),.int far]) l=some _:=zj
   generalize upd H l _=H1 at g1 e1 ⊢
   refine⟨_,rfl,c,7,3,rfl,by decide,by decide,by decide,fun r r0 r1=>?_⟩
   obtain⟨m,v,hv,hj⟩:=R4 (xs:=[V.int (-1),.int (-1-far),.int far]) (i:=r) (by show -(3:Int)<=r;omega) r1
   have hx:=ztn hj
   have:∃x:Int,v=.int x/\(x<0\/100000<=x)/\Small x:=by
    simp only[List.mem_cons,ztJ,or_false] at hx
    rcases hx with rfl | rfl | rfl
    ·exact⟨_,rfl,.inl (by decide),by decide⟩
    ·exact⟨_,rfl,.inl (by omega),sml _ (by omega)⟩
    ·exact⟨_,rfl,.inr (by omega),sml _ (by omega)⟩
   obtain⟨x,rfl,bx,sx⟩:=this
   refine⟨l,_,_,_,rfl,rfl,z6.of e1,hv,?_⟩
   exact hu _ _ ⟨ol,bk,bl,cl,os,rs,F,k1,q0,q1,q2,c,far,i,x,z0,true,z2,_,_,_,_,L.same hB g1,o4,o1,hh,hk,g1 _ _ hbl,nbl,g1 _ _ hcl,ncl,l0,l1,l2,fr0,fr1,hi,⟨sx,fun _=>bx,fun z=>absurd z (by decide)⟩,rfl⟩
 refine zkG (zl0 a.zp K sc ns) (fun t z=>(zf (yr (yM (yh yd (pv 7) zq (fun _ _=>rfl)) (fun _=>rfl)) (zf (zG 10 sc_law.nd (yh yd (pv 8) (Qx Vk zq) (fun _ _=>rfl)))
   (zm (zme (yh yd (vg (za (zP uL (pv 10) yt) (za (Y5 za1 (pv 10) (Xo zq) Ux) (za (zP uL (Y5 za1 (pv 10) (Xo zq) Ux) yt) (za yt (za (zP uL yt (Y5 za1 (pv 10) (Xo zq) Ux)) zc)))))) (zu yq hr T.yD (za (pv 4) (za zq (za zq zc)))) (fun _ _=>rfl)) (zmd (pv 8) (Qx Vk zq) set_list)))) zY)
   z)) ?_ ?_
 ·rintro u hu σ H ⟨ol,bk,bl,cl,os,rs,F,k1,q0,q1,q2,c,far,i,j,z0,z1,z2,f9,f10,f11,f12,hB,o4,o1,hh,hk,hbl,nbl,hcl,ncl,l0,l1,l2,fr0,fr1,hi,hj,rfl⟩
  have hj:Small j/\(z1=true->j<0\/100000<=j)/\(z1=false->j=(k1:Nat)):=hj
  refine⟨_,rfl,bl,_,_,.bl z2,rfl,rfl,z6.of hbl,rfl,z2,rfl,?_⟩
  cases z2 with
  | false =>
   exact Xe (hu _ _ ⟨zf8 F H,ol,bk,bl,cl,os,rs,F,k1,q0,q1,cbS q2,c,far,i,j,z0,z1,false,_,_,_,_,Pj.base hB hh,Qg hbl nbl,Qg hcl ncl,⟨hB,o4,by omega,hk,hi.1,hj.1,hi.2.1,hi.2.2,hj.2.1,hj.2.2,hcl,l0,l1,U7 q2,by rw[xR];omega,fun z=>absurd z (by decide),fun _=>⟨q2,rfl,l2⟩⟩,rfl⟩)
  | true =>
   have sl:(cbS q2).length<=sizeLine:=ztB (yc (by rw[xR];omega))
   have e1:Txt.slice (cbS q2) (some 1) none=cbS (q2.drop 1):=zhn (i:=1) (by omega)
   have ld:=List.length_drop (i:=1) (l:=q2)
   have sz:∀{x y:Str},x.length<=20->y.length<=20->x.length+y.length<=sizeLine:=fun {x y} h1 h2=>ztB (yc (by omega))
   have lr:(cbS (q2.drop 1)).length<=20:=by rw[xR];omega
   refine Xf ⟨_,rfl,_,rfl,cl,_,_,_,rfl,rfl,z6.of hcl,rfl,?_⟩
   refine⟨_,rfl,_,_,rfl,rfl,sz (by rw[xR];omega) (by decide +kernel),_,rfl,_,rfl,cbS q2,rfl,sl,?_⟩
   rw[e1]
   refine⟨_,rfl,_,rfl,cbS q2,rfl,sl,?_⟩
   rw[e1]
   refine⟨_,_,rfl,rfl,sz lr (by decide +kernel),_,rfl,_,rfl,cbS q2,rfl,sl,?_⟩
   rw[e1]
   refine⟨_,_,rfl,rfl,sz (by decide +kernel) lr,by show 5<=sizeLine;decide,fun l hl=>?_⟩
   have g1:=Same.new hl (.lst [.str (cbS q2++Str.ofString "0"),.str (cbS (q2.drop 1)),.str (cbS (q2.drop 1)++Str.ofString "x"),.str (Str.ofString ""),.str (Str.ofString "2" ++ cbS (q2.drop 1))])
   have e2:upd H l (.lst [.str (cbS q2++Str.ofString "0"),.str (cbS (q2.drop 1)),.str (cbS (q2.drop 1)++Str.ofString "x"),.str (Str.ofString ""),.str (Str.ofString "2" ++ cbS (q2.drop 1))]) l=some _:=zj
   generalize upd H l _=H1 at g1 e2 ⊢
   refine⟨_,rfl,c,8,5,rfl,by decide,by decide,by decide,fun r r0 r1=>?_⟩
   obtain⟨m,v,hv,hm⟩:=R4 (xs:=([.str (cbS q2++Str.ofString "0"),.str (cbS (q2.drop 1)),.str (cbS (q2.drop 1)++Str.ofString "x"),.str (Str.ofString ""),.str (Str.ofString "2" ++ cbS (q2.drop 1))]:List V)) (i:=r) (by show -(5:Int)<=r;omega) r1
   have hx:=ztn hm
   have:∃x:Str,v=.str x/\Pq os.length x:=by
    simp only[List.mem_cons,ztJ,or_false] at hx
    rcases hx with rfl | rfl | rfl | rfl | rfl
    ·refine⟨_,rfl,?_⟩
     rw[nought,zas]
     exact Pq.cb (by rw[ztq];show _+1<=_;omega) (by rw[ztq];show _+1≠_;omega)
    ·exact⟨_,rfl,Pq.cb (by omega) (by omega)⟩
    ·exact⟨_,rfl,Pq.zqn (by omega) (by unfold asc;decide +kernel) (by decide +kernel) 120 (by decide +kernel) (by omega)⟩
    ·refine⟨_,rfl,?_⟩
     rw[show Str.ofString ""=cbS [] by decide +kernel]
     exact Pq.cb (by decide) (by show 0≠_;omega)
    ·exact⟨_,rfl,Pq.zqo (by omega) (by unfold asc;decide +kernel) (by decide +kernel) 50 (by decide +kernel) (by omega)⟩
   obtain⟨x,rfl,bx⟩:=this
   refine⟨l,_,_,_,rfl,rfl,z6.of e2,hv,_,rfl,_,rfl,cl,_,_,2,rfl,rfl,g1 _ _ hcl,rfl,?_⟩
   have ne:bl≠cl:=fun z=>by
    rw[z,hcl] at hbl
    cases hbl
   have hB2:=L.lst (L.same hB g1) (g1 _ _ hcl) ncl (.lst [cbV q0,cbV q1,.str x])
   have b2:upd H1 cl (.lst [cbV q0,cbV q1,.str x]) bl=some (.lst [.bl z0,.bl z1,.bl true]):=by rw[zE ne];exact g1 _ _ hbl
   have c2:upd H1 cl (.lst [cbV q0,cbV q1,.str x]) cl=some _:=zj
   exact hu _ _ ⟨zf8 F (upd H1 cl (.lst [cbV q0,cbV q1,.str x])),ol,bk,bl,cl,os,rs,F,k1,q0,q1,x,c,far,i,j,z0,z1,true,_,_,_,_,Pj.base hB2 hh,Qg b2 nbl,Qg c2 ncl,⟨hB2,o4,by omega,hk,hi.1,hj.1,hi.2.1,hi.2.2,hj.2.1,hj.2.2,c2,l0,l1,bx.a,bx.l,fun _=>bx.c,fun z=>absurd z (by decide)⟩,rfl⟩
 refine⟨_,(zf (uz PassesOwn.never rfl (XJ rfl T.YZ (za zq zc)) (yO (i:=9) sc_law.nd rfl (Or.inl rfl)) (zf (zG 11 sc_law.nd yt)
   (zf (yr (PW.pt (zaB (yM (yh yd (pv 7) zq (fun _ _=>rfl)) (fun _=>rfl)) (Nq (zQ RW (pv 9) (uM (za zq (za zq (za zq (za zq zc))))) (by with_unfolding_all rfl))))) (zm (zG 11 sc_law.nd yt)) zY)
   (zf (yr (PW.pt (Sw (yM (yh yd (pv 7) zq (fun _ _=>rfl)) (fun _=>rfl)) (Vi (PW.pt (zaB (yM (yh yd (pv 7) zq (fun _ _=>rfl)) (fun _=>rfl)) (Nq (zQ Jb (pv 9) zq (zU _)))))))) (zm (zG 11 sc_law.nd yt)) zY)
   (zf (zG 12 sc_law.nd (zu zfj hr T.JD (za (pv 9) (za (pv 2) (za (pv 3) (za (pv 6) (za (pv 8) zc)))))))
   (zm (yr (PW.pt (zaB (zQ (zm6 rfl (hu8 hr)) (pv 12) (pv 11) (zU _)) (Nq (Ye (yM (zu zgD hr T.zbl (za (pv 12) (za (pv 11) zc))) (fun _=>rfl)))))) (zm (zL TY)) zY)))))))
   (zm (zL TY))),?_⟩
 rintro σ H ⟨B,ol,bk,bl,cl,os,rs,F,k1,q0,q1,x,c,far,i,j,z0,z1,z2,f9,f10,f11,f12,Ld,hbl,hcl,I,rfl⟩
 refine⟨8,rfl,by decide,by decide,?_⟩
 refine VH (lo:=0) (n:=8) (zo0 a.zp B sc ol bk bl cl os F k1 q0 q1 x c far i j z0 z1 z2) ⟨rs,_,_,_,_,Ld,I.hk,rfl⟩ ?_ ?_
 ·rintro n σ H2 hn ⟨rs1,f9,f10,f11,f12,L2,hk,rfl⟩
  rw[Int.zero_add]
  refine zf7 (fun σ H'=>H'=H2/\σ=s68 sc ol bk i c far j bl cl [some (.int (n:Nat)),f10,some (.str (Str.ofString "nothing")),f12]) (fun N hN=>hN _ _ ⟨rfl,rfl⟩) ?_
  rintro σ H' ⟨e,rfl⟩
  rw[e]
  clear e H'
  have zo1:=L2.same _ _ hbl
  refine zf7 (fun σ H'=>Same H2 H'/\σ=s68 sc ol bk i c far j bl cl [some (.int (n:Nat)),f10,some (.str (if z2&&in4 n then Str.ofString "cover" else Str.ofString "nothing")),f12]) (fun N hN=>?_) ?_
  ·refine⟨_,rfl,bl,_,_,.bl z2,rfl,rfl,z6.of zo1,rfl,z2,rfl,?_⟩
   cases z2 with
   | false=>exact Xe (Xe (hN _ _ ⟨Same.refl _,rfl⟩))
   | true =>
    refine Xf ⟨_,rfl,by show 4<=sizeLine;decide,fun tp htp=>⟨tp,_,rfl,.inr (vQ.of zj),rfl,rfl,_,rfl,?_⟩⟩
    have gt:=Same.new htp (.tup [.int 0,.int 1,.int 4,.int 5])
    have ei:(if false=true then !inV (V.int (n:Nat)) [.int 0,.int 1,.int 4,.int 5] else inV (V.int (n:Nat)) [.int 0,.int 1,.int 4,.int 5])=in4 n:=by rw[if_neg ztm];exact znf ⟨n,hn⟩
    rw[ei]
    cases e4:in4 n with
    | false=>exact Xe (hN _ _ ⟨gt,by rw[e4];rfl⟩)
    | true=>exact Xf (hN _ _ ⟨gt,by rw[e4];rfl⟩)
  rintro σ H3 ⟨g3,rfl⟩
  have L3:=L2.new g3
  have zo2:=g3 _ _ zo1
  refine zf7 (fun σ H'=>H'=H3/\σ=s68 sc ol bk i c far j bl cl [some (.int (n:Nat)),f10,some (.str (Pu n z0 z1 z2)),f12]) (fun N hN=>?_) ?_
  ·refine⟨_,rfl,bl,_,_,.bl z0,rfl,rfl,z6.of zo2,rfl,z0,rfl,?_⟩
   cases z0 with
   | true=>exact Xf (Xf (hN _ _ ⟨rfl,rfl⟩))
   | false =>
    refine Xe ⟨_,rfl,bl,_,_,.bl z1,rfl,rfl,z6.of zo2,rfl,z1,rfl,?_⟩
    cases z1 with
    | false=>exact Xe (Xe (hN _ _ ⟨rfl,rfl⟩))
    | true =>
     refine Xf ⟨_,rfl,_,_,rfl,rfl,_,rfl,?_⟩
     by_cases h5:5<n
     ·refine ifA (decide_eq_true (by omega)) (hN _ _ ⟨rfl,?_⟩)
      unfold Pu
      rw[decide_eq_true h5]
      rfl
     ·refine ifB (decide_eq_false (by omega)) (hN _ _ ⟨rfl,?_⟩)
      unfold Pu
      rw[decide_eq_false h5]
      rfl
  rintro σ H' ⟨e,rfl⟩
  rw[e]
  clear e H'
  have I3:JT a.zp H3 bk cl i j z0 z1 z2 os rs1 F k1 q0 q1 x:={ I with bk:=L3.bk,hh:=by have:=L3.hi;omega,hk:=hk,cl:=L3.same _ _ hcl }
  refine⟨_,rfl,_,rfl,_,rfl,_,rfl,_,rfl,n,bk,cl,i,j,z0,z1,z2,os,rs1,F,k1,q0,q1,x,rfl,hn,I3,fun e rs' H4 a1 a2 a3 a4 a5=>?_,fun m e t l H4 g4 ht hl=>?_⟩
  ·have L4:=L3.rise a1 a3 a5
   exact⟨_,rfl,_,rfl,.inl ⟨rfl,_,rfl,zfU (congrArg V.str (zeD e).symm) (Xe ⟨rs',_,_,_,_,⟨L4.same,L4.away,L4.bk,by have:=L4.hi;omega⟩,ztr hk a4.len,rfl⟩)⟩⟩
  ·refine⟨_,rfl,_,rfl,.inr ⟨false,fun z=>absurd z.1 ztm,.tf (vQ.of ht) rfl,_,rfl,Xf ⟨_,rfl,_,rfl,t,l,_,rfl,ht,z6.of (hl.trans (congrArg (fun s=>some (HO.lst [V.str s])) (zeE e))),fun H5 g5=>⟨_,rfl,Xe ?_⟩⟩⟩⟩
   have L5:=(L3.new g4).new g5
   exact⟨rs1,_,_,_,_,⟨L5.same,L5.away,L5.bk,by have:=L5.hi;omega⟩,hk,rfl⟩
 ·rintro σ H' _
  exact q9 _
theorem zlv (T:Txt P w K mg a)(base:Heap):zy P w K mg base zZ 60 a.a_law a.d_law p_law (zg2 K):=by
 have cell:zy P w K mg base zZ 1 a.xW a.xX yV (N8 K):=zgp (k:=0) T
 have draw:zy P w K mg base zZ 1 a.vY a.vZ vf Q7:=zlr (k:=0) T
 have order:=zjO (k:=1) T draw
 have sentence:=ze5 (k:=1) T cell draw
 have LR:zy P w K mg base zZ 2 a.wM a.wN xT vA:=ze4 (k:=1) T
 have RV:zy P w K mg base zZ 1 a.wk a.wu xJ vh:=zdr (k:=0) T
 have flipped:=zgo (k:=1) T RV
 have zjS:zy P w K mg base zZ 1 a.Ub a.Uc X4 VR:=zgr (k:=0) T
 have zlw:=ze6 (k:=1) T zjS
 have lettersOf:zy P w K mg base zZ 1 a.Z5 a.Z6 u9 Y6:=zbN (k:=0) T
 have partsOf:zy P w K mg base zZ 1 a.Zo a.Zq uO Yj:=ze7 (k:=0) T
 have zbu:=J5 (k:=1) T partsOf
 have shaped:=zds (k:=1) T zjS lettersOf partsOf
 have zo3:=zbm (k:=2) T shaped zbu
 have zii:=K5 (k:=2) T zlw
 have zlx:=Qw (k:=3) T zo3
 have zjT:=zdu (k:=2) T zbu
 have zij:=zbP (k:=3) T zjT (lettersOf.mono (by decide))
 have zjU:zy P w K mg base zZ 1 a.tK a.tL vG (UL K):=Ly (k:=0) T
 have zik:=Nb (k:=4) T zij (zjU.mono (by decide))
 have two:zy P w K mg base zZ 2 a.uQ a.uR vH zeb:=J6 (k:=1) T
 have table:=JH (k:=2) T LR (RV.mono (by decide)) flipped (partsOf.mono (by decide)) two 24
 have zdJ:=zgt (k:=2) T (RV.mono (by decide)) flipped
 have hangs:=zfa (k:=2) T flipped
 have first:=zbn (k:=3) T hangs
 have zfk:=WY (k:=4) T first (zdJ.mono (by decide)) 9
 have enter:=zbo (k:=26) T (zlx.mono (by decide)) (zik.mono (by decide)) table (zfk.mono (by decide))
 have init:=zdw (k:=3) T zii (LR.mono (by decide))
 have mbr:zy P w K mg base zZ 1 a.zM a.zN zJ (wJ a.zp):=RP (k:=0) T
 have tat:zy P w K mg base zZ 1 a.xU a.xV yU (Yk a.zp):=K7 (k:=0) T
 have zly:zy P w K mg base zZ 1 a.vW a.vX wZ (uN (z7 a.zp)):=zbS (k:=0) T
 have Ka:zy P w K mg base zZ 1 a.Ys a.Yt Zy Yl:=zgv (k:=0) T
 have Y9:zy P w K mg base zZ 1 a.xW a.xX yV (zap K):=zic (k:=0) T
 have goi:zy P w K mg base zZ 1 a.XD a.XF Z2 (zao a.zp):=zbR (k:=0) T
 have lcu:=zfh (k:=1) T draw
 have zjV:=zfd (k:=1) T zly
 have zbv:=J9 (k:=2) T zjV
 have having:=zbr (K:=K) (k:=2) T LR (RV.mono (by decide)) (Ka.mono (by decide))
 have rowsOf:=zgw (K:=K) (k:=3) T having
 have within:=zdA (k:=4) T (mbr.mono (by decide)) (zbv.mono (by decide)) rowsOf (tat.mono (by decide)) (Ka.mono (by decide))
 have widen:zy P w K mg base zZ 1 a.Wb a.Wc Yr X3:=zgx (k:=0) T
 have prime:=zfe (k:=5) T within (widen.mono (by decide))
 have zlz:=zh9 (k:=1) T Ka
 have trim:=zfc (k:=4) T (LR.mono (by decide)) (zdJ.mono (by decide)) (hangs.mono (by decide)) (RV.mono (by decide)) (zlz.mono (by decide)) 9
 have pf:=RQ (k:=3) T (LR.mono (by decide)) zdJ 9
 have pr:=zid (k:=12) T (mbr.mono (by decide)) (tat.mono (by decide)) (zly.mono (by decide)) pf
 have ofOne:=zbt (K:=K) (k:=1) T Ka
 have fv:=J8 (K:=K) (k:=3) T zdJ
 have fr:=zdz (K:=K) (k:=4) T fv
 have cov:=zjQ (K:=K) (k:=13) T pr (rowsOf.mono (by decide)) (ofOne.mono (by decide)) (fr.mono (by decide)) (zly.mono (by decide))
 have zil:=K8 (K:=K) (k:=3) T zbv
 have zl2:=zfg (K:=K) (k:=4) T (mbr.mono (by decide)) zil rowsOf (tat.mono (by decide))
 have znp:=zbp (k:=1) T mbr goi
 have zo4:=zfb (k:=2) T znp
 have zjW:=zia (m:=5) (k:=13) T (mbr.mono (by decide)) zfk (tat.mono (by decide)) (zly.mono (by decide)) trim (zo4.mono (by decide))
 have znq:=zac (K:=K) (k:=5) T zl2
 have zfl:zy P w K mg base (uF P w) 1 a.zM a.zN zJ (W5 a.zp a.z8):=Sq (k:=0) T
 have zo5:zy P w K mg base (uF P w) 1 a.zM a.zN zJ (zhk a.zp a.z8):=(mbr.lift (CX:=uF P w)).orE zfl
 have mcR:=K9 (k:=2) T zjV
 have mcE:zy P w K mg base (uF P w) 3 a.xM a.xO yS (Js a.zp a.yg):=(zbv.lift (CX:=uF P w)).orE mcR
 have zqJ:=LQ (k:=3) T mcE
 have wiR:=zbV (k:=3) T (mbr.mono (by decide)) mcR
 have prR:=zdC (k:=5) T (wiR.mono (by decide)) within (widen.mono (by decide))
 have icR:=zdF (k:=4) T (mbr.mono (by decide)) zqJ
 have csR:=zab (k:=5) T icR
 have wiS:=zbW (k:=1) T zfl
 have prS:=zdE (k:=5) T (wiS.mono (by decide)) within (widen.mono (by decide))
 have pmS:=zgy (k:=1) T zfl
 have coS:=zif (k:=2) T pmS zy.no
 have icS:=zdD (k:=1) T zfl
 have csS:=zaa (k:=2) T icS
 have caS:=zie (k:=1) T zfl
 have caC:=zig (k:=1) T zo5
 have which:∀ex,zcv P w K mg base ex 58 a.YQ a.YS tZ (Mz K a.yW (cs9 a) ex):=fun ex=>zdB (k:=57) T ex
 have isB:zy P w K mg base zZ 1 a.Tt a.Tv Wv (zhl K):=zih (k:=0) T
 have asked:=zdG (k:=57) T
  (zjE (.inl rfl) (fun b os rs F k q H Q E h1 h2 h3 h4=>⟨b,os,rs,F,k,q,rfl,h1,h2,h3,fun H' g=>h4 _ H' g⟩) rfl rfl (within.mono (by decide)) (wiS.mono (by decide)) (wiR.mono (by decide)))
  (zjE (.inr rfl) (fun b os rs F k q H Q E h1 h2 h3 h4=>⟨b,os,rs,F,k,q,rfl,h1,h2,h3,fun H' g=>h4 _ H' g⟩) rfl rfl (prime.mono (by decide)) (prS.mono (by decide)) (prR.mono (by decide)))
  (zjF (.inl rfl) (fun b os rs F k H Q E h1 h2 h4=>⟨b,os,rs,F,k,rfl,h1,h2,fun l qs H' g _ _ _=>h4 _ H' g⟩) rfl (pr.mono (by decide)) (pmS.mono (by decide)))
  (zjF (.inr rfl) (fun b os rs F k H Q E h1 h2 h4=>⟨b,os,rs,F,k,rfl,h1,h2,fun t cl rl ks ps rows H' g _ _ _ _ _ _ _ _ _ _ _=>h4 _ H' g⟩) rfl (cov.mono (by decide)) (coS.mono (by decide)))
  (zoL rfl rfl (zl2.mono (by decide)) (icS.mono (by decide)) (icR.mono (by decide)))
  (zoM rfl rfl (znq.mono (by decide)) (csS.mono (by decide)) (csR.mono (by decide)))
  ((zoN rfl (zjW.mono (by decide)) (caS.mono (by decide)) (caC.mono (by decide))).orE (zoO rfl (zjW.mono (by decide)) (caS.mono (by decide)) (caC.mono (by decide))))
 have met:=zgA (k:=58) T asked which
 exact ok_law (k:=58) T (Y9.mono (by decide)) (draw.mono (by decide)) (order.mono (by decide)) (sentence.mono (by decide)) (lcu.mono (by decide)) (init.mono (by decide)) (enter.mono (by decide)) met (isB.mono (by decide))
end
end K68
namespace PySem.W.Fast
def tw13437450606827504445:Nat:=0
def tw10924894885613438319:Nat:=0
def tw1248703084968346411:Nat:=0
def tw1445591004461462215:Nat:=0
def tw8246079576752568685:Nat:=0
def tw17710053825118561017:Nat:=0
def tw2229483505158481213:Nat:=0
def tw9884063523224145509:Nat:=0
def tw14931575478951378936:Nat:=0
def tw6074531012151634720:Nat:=0
def tw11926968880308592670:Nat:=0
def tw5339246048881159704:Nat:=0
def tw3418996475704883631:Nat:=0
def tw17233674721277451429:Nat:=0
def tw10941360911002934558:Nat:=0
def tw17347008783135631:Nat:=0
def tw2405794405797298030:Nat:=0
def tw17202843273587130620:Nat:=0
def tw382432101405891211:Nat:=0
def tw17173182336353452732:Nat:=0
def tw8987109148271880670:Nat:=0
def tw5475411290082149441:Nat:=0
def tw17690016510162825836:Nat:=0
def tw13494588827027911577:Nat:=0
def tw6036342827003855743:Nat:=0
def tw13670600087328993853:Nat:=0
def tw17873823781242765088:Nat:=0
def tw3998975144018858180:Nat:=0
def tw1667941098501646782:Nat:=0
def tw4968752105651428440:Nat:=0
def tw2731417832852138598:Nat:=0
def tw13660303788103293270:Nat:=0
def tw16857173347074376412:Nat:=0
def tw1336086314943833423:Nat:=0
def tw13225435889123255575:Nat:=0
def tw6944506599794676893:Nat:=0
def tw1375443582186381011:Nat:=0
def tw10639906913406814657:Nat:=0
def tw12240779416849307925:Nat:=0
def tw15208081115548164492:Nat:=0
def tw14674264561560690348:Nat:=0
def tw17108706771454934771:Nat:=0
def tw8607563472358825344:Nat:=0
def tw10897684023122208607:Nat:=0
def tw13082145708613599110:Nat:=0
def tw15752494395394396887:Nat:=0
def tw2592951915184314134:Nat:=0
def tw4466208625069616457:Nat:=0
def tw4216782884219350679:Nat:=0
def tw14223342534023497699:Nat:=0
def tw771586632588325838:Nat:=0
def tw11849625547184653021:Nat:=0
def tw18120845725453060192:Nat:=0
def tw3416854149194373346:Nat:=0
def tw12286171536766816677:Nat:=0
def tw11245092312053783945:Nat:=0
def tw3170176877265198909:Nat:=0
def tw14398409146004477370:Nat:=0
def tw5151379032127005751:Nat:=0
def tw1806835196445842981:Nat:=0
def tw9257457044440243545:Nat:=0
def tw3920918254427648452:Nat:=0
def tw2755774598410094463:Nat:=0
def tw18021543570899192628:Nat:=0
def tw10136759383673705566:Nat:=0
def tw8476446208436942788:Nat:=0
def tw18266216007636940931:Nat:=0
def tw4807649558250577875:Nat:=0
def tw7191275488296221763:Nat:=0
def tw7844624992737449211:Nat:=0
def tw15578051394052143293:Nat:=0
def tw8992313261255964511:Nat:=0
def tw15071017338234410476:Nat:=0
def tw13458443860444730511:Nat:=0
def tw16901478184770099126:Nat:=0
def tw4229382512030448276:Nat:=0
def tw15013737686444738742:Nat:=0
def tw4014595044549683647:Nat:=0
def tw10916609711487967678:Nat:=0
def tw16461384689025806714:Nat:=0
def tw11000408142313191131:Nat:=0
def tw10338430405662142587:Nat:=0
def tw17606332213004082938:Nat:=0
def tw13797223951974174517:Nat:=0
def tw2442702360960166270:Nat:=0
def tw10185173018598794427:Nat:=0
def tw9749267843231359537:Nat:=0
def tw3911320630900726617:Nat:=0
def tw3188608881245510010:Nat:=0
def tw6872435007856261487:Nat:=0
def tw13039192913201539676:Nat:=0
def tw3177987974802094237:Nat:=0
def tw10162123728198453392:Nat:=0
def tw7335259966770260717:Nat:=0
def tw14895881462359361907:Nat:=0
def tw9091612210304174171:Nat:=0
def tw11066095241532372086:Nat:=0
def tw5082777540559877802:Nat:=0
def tw11546530695083095677:Nat:=0
def tw9569274853400078400:Nat:=0
def tw13671772631133951526:Nat:=0
def tw3055589268931571378:Nat:=0
def tw9729938868496371825:Nat:=0
def tw2036202587361609628:Nat:=0
def tw8992413398842005692:Nat:=0
def tw17797850232505969247:Nat:=0
def tw6410343878179787776:Nat:=0
def tw3603509695414209940:Nat:=0
def tw11990618463774370435:Nat:=0
def tw512169160147222304:Nat:=0
def tw7763126372291921033:Nat:=0
def tw16973601306994400616:Nat:=0
def tw8553079531741960947:Nat:=0
def tw17402565346380238172:Nat:=0
def tw9835954362792278696:Nat:=0
def tw9990971079170225070:Nat:=0
def tw10875341243727001254:Nat:=0
def tw8891337687678569235:Nat:=0
def tw6601061976353453979:Nat:=0
def tw17558972843020496332:Nat:=0
def tw16485133110244235718:Nat:=0
def tw7754735387524969717:Nat:=0
def tw8949448745326720570:Nat:=0
def tw11655102386322641797:Nat:=0
def tw3966415666982294450:Nat:=0
def tw656337612432808544:Nat:=0
def tw16011756018532230374:Nat:=0
def tw7552970206019970664:Nat:=0
def tw8389268257308513564:Nat:=0
def tw17248557285898796792:Nat:=0
def tw2172545568502003974:Nat:=0
def tw4881556358761562588:Nat:=0
def tw15429100683225141578:Nat:=0
def tw17479743303331745690:Nat:=0
def tw5207936862786685417:Nat:=0
def tw16889716603938455935:Nat:=0
def tw12490515564953950094:Nat:=0
def tw16025249087041768018:Nat:=0
def tw8486886397477519044:Nat:=0
def tw8075325672745021743:Nat:=0
def tw13459162037215343806:Nat:=0
def tw15989079654034220636:Nat:=0
def tw4356760346562064230:Nat:=0
def tw8454482638453430949:Nat:=0
def tw367723850144332924:Nat:=0
def tw6374873583705052817:Nat:=0
def tw3629290111770528926:Nat:=0
def tw6124388871018652740:Nat:=0
def tw4326908856117055370:Nat:=0
def tw1233359493461880577:Nat:=0
def tw1288112762692303566:Nat:=0
def tw2805114510820331374:Nat:=0
def tw4386721800308330078:Nat:=0
def tw2499195951714568818:Nat:=0
def tw30212732232523282:Nat:=0
def tw4758222798137230394:Nat:=0
def tw3183476709243375952:Nat:=0
def tw13545895259048913253:Nat:=0
def tw17866470121053441139:Nat:=0
def tw10424766648189117802:Nat:=0
def tw810388269866165043:Nat:=0
def tw14033097984557430313:Nat:=0
def tw17882052494877558866:Nat:=0
def tw9945797266701715063:Nat:=0
def tw1126744561912847066:Nat:=0
def tw2720416119790390882:Nat:=0
def tw7967568328791148415:Nat:=0
def tw13849407121570027675:Nat:=0
def tw10574510420586760133:Nat:=0
def tw8567270843219709257:Nat:=0
def tw15620891190957332322:Nat:=0
def tw16799586560868671510:Nat:=0
def tw8787798071681320648:Nat:=0
def tw138755437876133894:Nat:=0
def tw13974366247389359665:Nat:=0
def tw7708142957069063680:Nat:=0
def tw9730308118189480735:Nat:=0
def tw2638708986870204643:Nat:=0
def tw10227130973009681238:Nat:=0
def tw16902079861280820493:Nat:=0
def tw3379014091995741002:Nat:=0
def tw6282307796536254059:Nat:=0
def tw12720871490854769263:Nat:=0
def tw5617448787055669487:Nat:=0
def tw6329564191375746235:Nat:=0
def tw2568880065614115982:Nat:=0
def tw4335212816041169122:Nat:=0
def tw2408587716406840606:Nat:=0
def tw15503396828867900487:Nat:=0
def tw5036292907719273866:Nat:=0
def tw3095596982080994609:Nat:=0
def tw188488977063136407:Nat:=0
def tw7874789815375779513:Nat:=0
def tw7412486567839051967:Nat:=0
def tw1274147929286941647:Nat:=0
def tw6917441080230491989:Nat:=0
def tw16275050499613440975:Nat:=0
def tw8128232929677636734:Nat:=0
def tw16479947037408718700:Nat:=0
def tw18196955836151529720:Nat:=0
def tw311551736705458547:Nat:=0
def tw17020349638449219333:Nat:=0
def tw6696901264266683865:Nat:=0
def tw12338161843617327945:Nat:=0
def tw1389495734017905524:Nat:=0
def tw15409807604700854737:Nat:=0
def tw11447068329829975796:Nat:=0
def tw13442902123308573838:Nat:=0
def tw11737938480773202025:Nat:=0
def tw272366292242134948:Nat:=0
def tw7499862150042650188:Nat:=0
def tw16949456946576098170:Nat:=0
def tw9292528600381837160:Nat:=0
def tw13642338249826448736:Nat:=0
def tw12425566712709678019:Nat:=0
def tw12405292412466042890:Nat:=0
def tw7288566826054060602:Nat:=0
def tw16736297749924867439:Nat:=0
def tw6997941614446083961:Nat:=0
def tw16228109925836620254:Nat:=0
end PySem.W.Fast
open PySem PySem.W PyProof.Rows
set_option maxRecDepth 100000 in
set_option maxHeartbeats 0 in
theorem PySem.Challenge.cw_decidebook_k68_covers_refused_holds : PySem.Challenge.rw_decidebook_k68_covers_refused.Holds := by
  w_on;o_law;k_head;(case hw => w_witness2)
  k_fill
  refine L2.ziL (l := PySem.Challenge.rw_decidebook_k68_covers_refused) (n := 63) (k := 60) (x := "script") (CX := L2.zZ) (sp := uY.zg2) rfl (by decide) rfl (by first | exact⟨rfl, by decide, by decide⟩ | exact⟨rfl, rfl, by decide, by decide⟩) (fun w h Y => PySem.W.kIn_of Y) ?F ?S ?C
  case F =>
    intro w mg fa h KX G hmg
    have T : ∃a, K68.Txt PySem.Challenge.rw_decidebook_k68_covers_refused.prog w (L2.KOf KX) mg a := by
      dsimp only[L2.KOf]
      apply K68.zoU
      constructor
      iterate 12 ((try dsimp only);apply mg_of KX G;k_is)
      iterate 54 ((try dsimp only);apply L2.dfm KX G;k_is;k_is;k_is;k_is;intro _ _ _ _ _ _ us hl;first|(have z:=L2.Qu hl;subst z;rfl)|(obtain⟨_,us,e,hm⟩:=L2.Ml hl;clear hl;subst e;have hl:=hm;clear hm;first|(have z:=L2.Qu hl;subst z;rfl)|(obtain⟨_,us,e,hm⟩:=L2.Ml hl;clear hl;subst e;have hl:=hm;clear hm;first|(have z:=L2.Qu hl;subst z;rfl)|(obtain⟨_,us,e,hm⟩:=L2.Ml hl;clear hl;subst e;have hl:=hm;clear hm;first|(have z:=L2.Qu hl;subst z;rfl)|(obtain⟨_,us,e,hm⟩:=L2.Ml hl;clear hl;subst e;have hl:=hm;clear hm;first|(have z:=L2.Qu hl;subst z;rfl)|(obtain⟨_,us,e,hm⟩:=L2.Ml hl;clear hl;subst e;have hl:=hm;clear hm;first|(have z:=L2.Qu hl;subst z;rfl)|(obtain⟨_,us,e,hm⟩:=L2.Ml hl;clear hl;subst e;have hl:=hm;clear hm;first|(have z:=L2.Qu hl;subst z;rfl)|(obtain⟨_,us,e,hm⟩:=L2.Ml hl;clear hl;subst e;have hl:=hm;clear hm;(have z:=L2.Qu hl;subst z;rfl)))))))))
      iterate 11 ((try dsimp only);apply L2.dmm;k_is;k_is;k_is;k_is;k_is;intro _ _ _ _ _ _ us hl;first|(have z:=L2.Qu hl;subst z;rfl)|(obtain⟨_,us,e,hm⟩:=L2.Ml hl;clear hl;subst e;have hl:=hm;clear hm;first|(have z:=L2.Qu hl;subst z;rfl)|(obtain⟨_,us,e,hm⟩:=L2.Ml hl;clear hl;subst e;have hl:=hm;clear hm;first|(have z:=L2.Qu hl;subst z;rfl)|(obtain⟨_,us,e,hm⟩:=L2.Ml hl;clear hl;subst e;have hl:=hm;clear hm;first|(have z:=L2.Qu hl;subst z;rfl)|(obtain⟨_,us,e,hm⟩:=L2.Ml hl;clear hl;subst e;have hl:=hm;clear hm;first|(have z:=L2.Qu hl;subst z;rfl)|(obtain⟨_,us,e,hm⟩:=L2.Ml hl;clear hl;subst e;have hl:=hm;clear hm;first|(have z:=L2.Qu hl;subst z;rfl)|(obtain⟨_,us,e,hm⟩:=L2.Ml hl;clear hl;subst e;have hl:=hm;clear hm;first|(have z:=L2.Qu hl;subst z;rfl)|(obtain⟨_,us,e,hm⟩:=L2.Ml hl;clear hl;subst e;have hl:=hm;clear hm;(have z:=L2.Qu hl;subst z;rfl)))))))))
      iterate 2 ((try dsimp only);constructor;k_is;k_is;k_is;k_is)
      iterate 4 ((try dsimp only);unfold L2.Wf;k_is)
      iterate 10 ((try dsimp only);apply L2.zk0;k_is;k_is)
      iterate 5 ((try dsimp only);apply L2.zk2;k_exc;k_is;k_is;k_is;rfl)
      (try dsimp only);apply L2.zk1;k_is;k_is;k_is
      (try dsimp only);refine of_decide_eq_true ?_;rfl
      (try dsimp only);apply mg_none_of KX G;k_is
      (try dsimp only);apply mg_of KX G;k_is
      (try dsimp only);apply L2.zg3;k_is;rfl;decide
      iterate 3 ((try dsimp only);apply mg_of KX G;k_is)
      (try dsimp only);apply L2.zmI;k_is;rfl;(unfold K68.xQ;decide +kernel);(unfold K68.xQ;iterate 10 (apply L2.Ent.cons;k_is;rfl));apply L2.Ent.nil
      (try dsimp only);apply mg_of KX G;k_is
      (try dsimp only);apply L2.zg3;k_is;rfl;decide
      iterate 13 ((try dsimp only);apply mg_none_of KX G;k_is)
    obtain⟨a, T⟩ := T
    have e0 := hmg.symm.trans T.f_law.m
    cases e0
    exact⟨_, K68.x_law T.f_law, fun base kb nb => K68.zlv T base⟩
  case S => exact fun K H a ns hl hO hS => ⟨a, ns, rfl, hS, hl, fun _ => rfl⟩
  case C => exact fun _ _ _ _ h => h
